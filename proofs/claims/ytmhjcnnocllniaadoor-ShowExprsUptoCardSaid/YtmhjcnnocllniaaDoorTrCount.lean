/-
  Is an expression too great to be looked at: its walk, by induction on the depth that is left.
-/
import Derived.Test.YtmhjcnnocllniaaDoorTrForm
namespace Go.Proofs.YtmhjcnnocllniaaDoor.tr
open Go.ChangeShapes Go.WideShapes Go.ChangeAt Go.RowKit
set_option linter.unusedVariables false

def Ex.kids : Ex → List Ex
  | .mk _ _ _ _ _ ks _ _ => ks
def Ex.names : Ex → List ByteArray
  | .mk _ _ _ _ ns _ _ _ => ns

/-- how many may still be there -/
def countD : Nat → Int → Ex → Int
  | 0, _, _ => -1
  | d + 1, m, x => if 200 < x.names.length then -1 else x.kids.foldl (fun a y => if a < 0 then a else countD d a y) (m - 1)

theorem fold_neg (f : Int → Ex → Int) (l : List Ex) (m : Int) (h : m < 0) : l.foldl (fun a y => if a < 0 then a else f a y) m = m := by
  induction l with
  | nil => rfl
  | cons x r ih => rw [List.foldl_cons, if_pos h, ih]

theorem fold_range (f : Int → Ex → Int) (hf : ∀ a y, 0 ≤ a → -1 ≤ f a y ∧ f a y ≤ a) (l : List Ex) (m : Int) (h : -1 ≤ m) : -1 ≤ l.foldl (fun a y => if a < 0 then a else f a y) m ∧ l.foldl (fun a y => if a < 0 then a else f a y) m ≤ m := by
  induction l generalizing m with
  | nil => exact ⟨h, Int.le_refl _⟩
  | cons x r ih =>
    rw [List.foldl_cons]
    by_cases hm : m < 0
    · rw [if_pos hm]; exact ih m h
    · rw [if_neg hm]
      have h1 := hf m x (by omega)
      have h2 := ih (f m x) h1.1
      omega
theorem countD_range (d : Nat) (m : Int) (x : Ex) (h : 0 ≤ m) : -1 ≤ countD d m x ∧ countD d m x ≤ m := by
  induction d generalizing m x with
  | zero => unfold countD; omega
  | succ d ih =>
    unfold countD
    split
    · omega
    · have := fold_range (countD d) (fun a y ha => ih a y ha) x.kids (m - 1) (by omega)
      omega

set_option maxRecDepth 100000 in
set_option maxHeartbeats 4000000 in
theorem count_any (d : Nat) : d ≤ 200 → ∀ (w : World) (x : Ex) (cs : Array Value) (m : Int), LaidC w x cs.toList → 0 ≤ m → m ≤ 1000000 →
    Calls Tryd.prog 14 #[.agg cs, .int .i64 m, .int .i64 d] w (fun e w' => e = .returned (.int .i64 (countD d m x)) ∧ Below w.heap.size w w') := by
  induction d with
  | zero =>
    intro _ w x cs m hl h1 h2
    obtain ⟨c0, c1, c2, c3, c4, c5, c6, c7, rfl⟩ := hl.form
    clear hl
    go_enter Tryd.func14, Tryd.ntmps14
    go_wp2_with fail
    go_ret
    exact ⟨rfl, (Below.refl _ _).alloc (Nat.le_refl _) _⟩
  | succ d ih =>
    intro hd w x cs m hl h1 h2
    obtain ⟨k, o, num, nm, nms, kids, ln, cl⟩ := x
    unfold LaidC at hl
    obtain ⟨hk, _, hnm, hnl, hkl, na, nc, ka, kc, _, hkc, hcs, _, hks⟩ := hl
    obtain rfl : cs = #[.int .u8 k, .int .u8 o, .int .i32 num, .string nm, .slice na nms.length nc, .slice ka kids.length kc, .int .i64 ln, .int .i64 cl] := by apply Array.toList_inj.1; rw [hcs]
    have HK := Lib.hid hks
    unfold maxLen at hkl hnl
    have ih2 := ih (by omega)
    have HI := Lib.hid ih2
    clear ih ih2 hks hcs
    unfold countD
    by_cases hn : 200 < nms.length
    · rw [if_pos (by exact hn)]
      go_enter Tryd.func14, Tryd.ntmps14
      go_wp2_with fail
      go_ret
      exact ⟨rfl, (Below.refl _ _).alloc (Nat.le_refl _) _⟩
    · rw [if_neg (by exact hn)]
      go_enter Tryd.func14, Tryd.ntmps14
      go_wp2_with fail
      go_loopw [1, 7] (fun mv iv wr => ∃ (i : Nat) (a : Int), i ≤ kids.length ∧ iv = .int .i64 i ∧ mv = .int .i64 a ∧ -1 ≤ a ∧ a ≤ 1000000 ∧ Hid (Below w.heap.size w wr) ∧ Hid (Has wr w.heap.size 27 #[.int .u8 k, .int .u8 o, .int .i32 num, .string nm, .slice na nms.length nc, .slice ka kids.length kc, .int .i64 ln, .int .i64 cl]) ∧ Hid ((kids.drop i).foldl (fun a y => if a < 0 then a else countD d a y) a = kids.foldl (fun a y => if a < 0 then a else countD d a y) (m - 1))) (fun _ iv _ => kids.length - (intOf iv).toNat)
      case atStart => exact ⟨0, m - 1, by omega, rfl, rfl, by omega, by omega, Lib.hid ((Below.refl _ _).alloc (Nat.le_refl _) _), Lib.hid (Has.new _ _ _), Lib.hid (by rw [List.drop_zero])⟩
      case round =>
        obtain ⟨i, a, hi, rfl, rfl, ha1, ha2, HB, HE, HF⟩ := hrel
        obtain ⟨q0, q1, q2, q3, q4, q5, q6, q7⟩ := has8 HE.out
        by_cases hlt : i < kids.length
        · by_cases hneg : a < 0
          · have hF := HF.out
            rw [fold_neg _ _ _ hneg] at hF
            have HF2 := Lib.hid hF
            clear hF
            go_wp2_with fail
            go_ret
            exact ⟨congrArg (fun z => Ending.returned (.int .i64 z)) HF2.out, HB.out⟩
          · obtain ⟨kb, koff, rfl, hkid⟩ := HK.out.get i hlt
            have hF := HF.out
            rw [List.drop_eq_getElem_cons hlt, List.foldl_cons, if_neg hneg] at hF
            have hr := countD_range d a kids[i] (by omega)
            obtain ⟨k0, k1, k2, k3, k4, k5, k6, k7, hx, p0, p1, p2, p3, p4, p5, p6, p7⟩ := (hkid.below HB.out).form
            have hcall := HI.out wr kids[i] #[k0, k1, k2, k3, k4, k5, k6, k7] a hx (by omega) (by omega)
            have HCALL := Lib.hid hcall
            have HF2 := Lib.hid hF
            have HR := Lib.hid hr
            have hi0 : (0 : Int) ≤ (i : Int) := Int.natCast_nonneg _
            have hi1 : (i : Int) < (kids.length : Int) := by omega
            clear hF hr hcall hx hkid
            go_wp2_with fail
            refine HCALL.out.mono ?_
            rintro e w2 ⟨rfl, hB2⟩
            have HB2 := Lib.hid (HB.out.trans (hB2.mono HB.out.size))
            have HE2 := Lib.hid (HE.out.below hB2 HE.out.lt)
            clear hB2
            go_wp2_with fail
            go_roundw
            case rel => exact ⟨i + 1, countD d a kids[i], by omega, by go_num, rfl, HR.out.1, by have := HR.out.2; omega, HB2, HE2, HF2⟩
            case measure => simp [intOf]; omega
        · have hie : i = kids.length := by omega
          subst hie
          have hF := HF.out
          rw [List.drop_length, List.foldl_nil] at hF
          have HF2 := Lib.hid hF
          clear hF
          go_wp2_with fail
          go_ret
          exact ⟨congrArg (fun z => Ending.returned (.int .i64 z)) HF2.out, HB.out⟩
end Go.Proofs.YtmhjcnnocllniaaDoor.tr
