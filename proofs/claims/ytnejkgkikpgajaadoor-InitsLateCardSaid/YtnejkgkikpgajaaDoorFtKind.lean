/-
  finite at an At that wraps a Kind: the error itself; so Kind of such an error.
-/
import Derived.Test.YtnejkgkikpgajaaDoorFtSurvey
import Derived.Test.YtnejkgkikpgajaaDoorFtIsQ
namespace Go.Proofs.YtnejkgkikpgajaaDoor.ft
open Go.ChangeShapes Go.WideShapes Go.ChangeAt Go.RowKit Go.Extern.Stop Go.Stop Go.Extern
open Go.Proofs.YtnejkgkikpgajaaDoor.lx (Has)
set_option linter.unusedVariables false

def OwnFinite (w : World) (ev : Value) : Prop := ∀ W, Below w.heap.size w W → Calls Tryd.prog 26 #[ev] W fun e w' => e = .returned ev ∧ Below W.heap.size W w'

set_option maxRecDepth 10000 in
set_option maxHeartbeats 4000000 in
theorem finite_at (g : Nat) (x y k : Int) (nm : ByteArray) (nd : Bool) (w : World) (hg : Has w g 180 #[.int .i64 x, .int .i64 y, .string nm, .bool nd, .iface 56 (.int .i64 k)]) :
    Calls Tryd.prog 26 #[.iface 177 (.pointer (some ⟨g, 0, none⟩))] w fun e w' => e = .returned (.iface 177 (.pointer (some ⟨g, 0, none⟩))) ∧ Below w.heap.size w w' := by
  have HL := Lib.hid (newSurvey_at g x y k nm nd w hg)
  clear hg
  go_enter Tryd.func26, Tryd.ntmps26
  go_wp2_with fail
  refine HL.out.mono ?_
  rintro e w1 ⟨S, m, parts, rfl, hS, hb⟩
  have c3 := hS.cell 3
  simp only [List.getElem?_toArray, List.getElem?_cons_zero, List.getElem?_cons_succ] at c3
  have HB := Lib.hid hb
  clear hS hb
  go_wp2_with fail
  go_ret
  exact ⟨rfl, HB.out⟩

set_option maxRecDepth 10000 in
set_option maxHeartbeats 4000000 in
theorem kind_of (g : Nat) (x y : Int) (nm : ByteArray) (nd : Bool) (k : Nat) (hk1 : 1 ≤ k) (hk2 : k < 12) (w : World) (hg : Has w g 180 #[.int .i64 x, .int .i64 y, .string nm, .bool nd, .iface 56 (.int .i64 (k : Int))]) (hF : OwnFinite w (.iface 177 (.pointer (some ⟨g, 0, none⟩)))) :
    Calls Tryd.prog 14 #[.iface 177 (.pointer (some ⟨g, 0, none⟩))] w fun ev w' => ev = .returned (.int .i64 (k : Int)) ∧ Below w.heap.size w w' := by
  have HG := Lib.hid hg
  have HF := Lib.hid (hF w (Below.refl _ _))
  clear hg hF
  go_enter Tryd.func14, Tryd.ntmps14
  go_wp2_with fail
  refine HF.out.mono ?_
  rintro ev w1 ⟨rfl, hb1⟩
  have HL1 := Lib.hid hb1
  clear hb1
  go_wp2_with fail
  go_loopw [3] (fun kv wr => ∃ n : Nat, 1 ≤ n ∧ n ≤ k ∧ kv = .int .i64 n ∧ Hid (Below w.heap.size w wr)) (fun kv _ => 12 - (intOf kv).toNat)
  case atStart => exact ⟨1, by omega, hk1, rfl, HL1⟩
  case round =>
    obtain ⟨n, hn1, hn2, rfl, HW⟩ := hrel
    have hn12 : (n : Int) < 12 := by omega
    by_cases hnk : n = k
    · subst hnk
      have HI := Lib.hid (is_any 177 (.pointer (some ⟨g, 0, none⟩)) (n : Int) true wr (fun W hb => is_at_true g x y nm nd (n : Int) (n : Int) W rfl ((HG.out.below HW.out HG.out.lt).below hb (Nat.lt_of_lt_of_le HG.out.lt HW.out.size))))
      go_wp2_with fail
      refine HI.out.mono ?_
      rintro ev w2 ⟨rfl, hb2⟩
      have HL2 := Lib.hid (HW.out.trans (hb2.mono HW.out.size))
      clear hb2
      go_wp2
      go_ret
      exact ⟨rfl, HL2.out⟩
    · have HI := Lib.hid (is_any 177 (.pointer (some ⟨g, 0, none⟩)) (n : Int) false wr (fun W hb => is_at_false g x y nm nd (k : Int) (n : Int) W (by omega) ((HG.out.below HW.out HG.out.lt).below hb (Nat.lt_of_lt_of_le HG.out.lt HW.out.size))))
      go_wp2_with fail
      refine HI.out.mono ?_
      rintro ev w2 ⟨rfl, hb2⟩
      have HL2 := Lib.hid (HW.out.trans (hb2.mono HW.out.size))
      clear hb2
      go_wp2
      go_roundw
      case rel => exact ⟨n + 1, by omega, by omega, by go_num, HL2⟩
      case measure => simp [intOf]; omega

theorem own_finite (g : Nat) (x y k : Int) (nm : ByteArray) (nd : Bool) (w : World) (hg : Has w g 180 #[.int .i64 x, .int .i64 y, .string nm, .bool nd, .iface 56 (.int .i64 k)]) : OwnFinite w (.iface 177 (.pointer (some ⟨g, 0, none⟩))) :=
  fun W hb => finite_at g x y k nm nd W (hg.below hb hg.lt)

/-- faults.Kind of an At that wraps a Kind -/
theorem kind_at (g : Nat) (x y : Int) (nm : ByteArray) (nd : Bool) (k : Nat) (hk1 : 1 ≤ k) (hk2 : k < 12) (w : World) (hg : Has w g 180 #[.int .i64 x, .int .i64 y, .string nm, .bool nd, .iface 56 (.int .i64 (k : Int))]) :
    Calls Tryd.prog 14 #[.iface 177 (.pointer (some ⟨g, 0, none⟩))] w fun ev w' => ev = .returned (.int .i64 (k : Int)) ∧ Below w.heap.size w w' :=
  kind_of g x y nm nd k hk1 hk2 w hg (own_finite g x y _ nm nd w hg)

end Go.Proofs.YtnejkgkikpgajaaDoor.ft
