/-
  (package show) kid, operand, one, two, choice, merge, over what expr does for the kids.
-/
import Derived.Test.YtmhjcnnocllniaaDoorShSub
namespace Go.Proofs.YtmhjcnnocllniaaDoor.sh
open Go.ChangeShapes Go.WideShapes Go.ChangeAt Go.RowKit Go.Proofs.YtmhjcnnocllniaaDoor.tr
set_option linter.unusedVariables false
set_option linter.unusedSimpArgs false

/-- what expr does for one expression -/
def ExprDoes (x : Ex) : Prop := ∀ (w0 w : World) (l : List UInt8) (b off : Nat), Laid w0 → LaidAt w0 b off x → Bu w0 l w → l.length + wt x ≤ 140737488355328 →
  Calls Tryd.prog 15 #[.pointer (some ⟨w0.heap.size, 0, none⟩), .pointer (some ⟨b, off, none⟩)] w (PutPost w0 (l ++ txt x))

section
variable {ln cl : Int} {w0 : World} {b off k o : Nat} {n : Int} {nm : ByteArray} {nms : List ByteArray} {kids : List Ex} {na : Option Addr} {nc : Nat} {ka : Option Addr} {kc : Nat}

set_option maxRecDepth 100000 in
theorem kid_any (hL : Laid w0) (hp : Parts w0 b off k o n nm nms kids na nc ka kc) (i : Nat) (hi : i < kids.length) (hE : ExprDoes kids[i]) (w : World) (l : List UInt8) (hB : Bu w0 l w) (hlen : l.length + wt kids[i] ≤ 140737488355328) :
    Calls Tryd.prog 34 #[.pointer (some ⟨w0.heap.size, 0, none⟩), .pointer (some ⟨b, off, none⟩), .int .i64 i] w (PutPost w0 (l ++ txt kids[i])) := by
  obtain ⟨x0, x1, x2, x3, x4, x5⟩ := hp.cells w hB.2
  obtain ⟨kb, ko, rfl, hk⟩ := hp.kid i hi
  have hls := hp.lks
  unfold maxLen at hls
  have HC := Lib.hid (hE w0 w l kb (ko + i * 8) hL hk hB hlen)
  have i0 : (0 : Int) ≤ (i : Int) := Int.natCast_nonneg _
  have i1 : (i : Int) < (kids.length : Int) := by omega
  clear hp hk hB hlen hE hL
  go_enter Tryd.func34, Tryd.ntmps34
  go_wp2_with fail
  refine HC.out.mono ?_
  rintro e w1 ⟨rfl, hB⟩
  have HB := Lib.hid hB
  clear hB
  go_wp2_with fail
  go_end0
  exact ⟨rfl, HB.out⟩

set_option maxRecDepth 100000 in
theorem operand_any (hL : Laid w0) (hp : Parts w0 b off k o n nm nms kids na nc ka kc) (hx : LaidAt w0 b off (.mk k o n nm nms kids ln cl)) (i : Nat) (hi : i < kids.length) (hE : ExprDoes kids[i]) (w : World) (l : List UInt8) (hB : Bu w0 l w) (hlen : l.length + wt kids[i] + 2 ≤ 140737488355328) (hft : (txt kids[i]).length ≤ wt kids[i]) :
    Calls Tryd.prog 28 #[.pointer (some ⟨w0.heap.size, 0, none⟩), .pointer (some ⟨b, off, none⟩), .int .i64 i] w (PutPost w0 (l ++ par (bareB (decide (k = 6) && decide (o = 2)) kids[i]) (txt kids[i]))) := by
  obtain ⟨x0, x1, x2, x3, x4, x5⟩ := hp.cells w hB.2
  obtain ⟨kb, ko, hka, hk⟩ := hp.kid i hi
  subst hka
  have hls := hp.lks
  unfold maxLen at hls
  have hcl := closed_any w0 w _ kids[i] b off kb (ko + i * 8) hx hk hB.2
  have HK := Lib.hid (fun (w : World) (l : List UInt8) (hB : Bu w0 l w) (hlen : l.length + wt kids[i] ≤ 140737488355328) => kid_any hL hp i hi hE w l hB hlen)
  have HB := Lib.hid hB
  have i0 : (0 : Int) ≤ (i : Int) := Int.natCast_nonneg _
  have i1 : (i : Int) < (kids.length : Int) := by omega
  have hmin : minusB (.mk k o n nm nms kids ln cl) = (decide (k = 6) && decide (o = 2)) := rfl
  rw [hmin] at hcl
  clear hp hk hB hE hL hx hmin
  unfold PutPost
  generalize (decide (k = 6) && decide (o = 2)) = mb at *
  cases hbb : bareB mb kids[i]
  case true =>
    rw [hbb] at hcl
    have HCL := Lib.hid hcl
    have HR := Lib.hid (HK.out w l HB.out (by omega))
    have HT : Hid (par true (txt kids[i]) = txt kids[i]) := Lib.hid rfl
    clear hcl hbb hlen hft
    go_enter Tryd.func28, Tryd.ntmps28
    go_wp2_with fail
    refine HCL.out.mono ?_
    rintro e w1 ⟨rfl, rfl⟩
    go_wp2_with fail
    refine HR.out.mono ?_
    rintro e w2 ⟨rfl, hB2⟩
    have HB2 := Lib.hid hB2
    clear hB2
    go_wp2_with fail
    go_end0
    exact ⟨rfl, by rw [HT.out]; exact HB2.out⟩
  case false =>
    rw [hbb] at hcl
    have HCL := Lib.hid hcl
    have HP1 := Lib.hid (put1 w0 w l HB.out ⟨#[40]⟩ [40] rfl (by simp; omega))
    have HR := Lib.hid (fun w1 (hB1 : Bu w0 (l ++ [40]) w1) => HK.out w1 (l ++ [40]) hB1 (by simp; omega))
    have HP2 := Lib.hid (fun w2 (hB2 : Bu w0 (l ++ [40] ++ txt kids[i]) w2) => put1 w0 w2 _ hB2 ⟨#[41]⟩ [41] rfl (by simp; omega))
    have HT : Hid (l ++ par false (txt kids[i]) = l ++ [40] ++ txt kids[i] ++ [41]) := Lib.hid (by simp [par])
    clear hcl hbb hlen hft
    go_enter Tryd.func28, Tryd.ntmps28
    go_wp2_with fail
    refine HCL.out.mono ?_
    rintro e w1 ⟨rfl, rfl⟩
    go_wp2_with fail
    refine HP1.out.mono ?_
    rintro e w2 ⟨rfl, hB2⟩
    have HR2 := Lib.hid (HR.out w2 hB2)
    clear hB2
    go_wp2_with fail
    refine HR2.out.mono ?_
    rintro e w3 ⟨rfl, hB3⟩
    have HP3 := Lib.hid (HP2.out w3 hB3)
    clear hB3
    go_wp2_with fail
    refine HP3.out.mono ?_
    rintro e w4 ⟨rfl, hB4⟩
    have HB4 := Lib.hid hB4
    clear hB4
    go_wp2_with fail
    refine bodyPost_ret (results_none rfl _ _ _) rfl ?_
    exact ⟨rfl, by rw [HT.out]; exact HB4.out⟩
end
end Go.Proofs.YtmhjcnnocllniaaDoor.sh
