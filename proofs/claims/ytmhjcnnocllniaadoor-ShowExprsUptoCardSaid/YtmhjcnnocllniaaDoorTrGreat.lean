/-
  Great: its walk; what is not too great is small.
-/
import Derived.Test.YtmhjcnnocllniaaDoorTrCount
namespace Go.Proofs.YtmhjcnnocllniaaDoor.tr
open Go.ChangeShapes Go.WideShapes Go.ChangeAt Go.RowKit
set_option linter.unusedVariables false

theorem fold_size (f : Int → Ex → Int) (hf : ∀ a y, 0 ≤ a → 0 ≤ f a y → f a y = a - (sz y : Int)) (l : List Ex) (m : Int) (h : 0 ≤ l.foldl (fun a y => if a < 0 then a else f a y) m) : l.foldl (fun a y => if a < 0 then a else f a y) m = m - (szK l : Int) := by
  induction l generalizing m with
  | nil => simp [szK]
  | cons x r ih =>
    rw [List.foldl_cons] at h ⊢
    by_cases hm : m < 0
    · rw [if_pos hm, fold_neg _ _ _ hm] at h
      omega
    · rw [if_neg hm] at h ⊢
      by_cases h0 : f m x < 0
      · rw [fold_neg _ _ _ h0] at h
        omega
      · rw [ih _ h, hf m x (by omega) (by omega), szK]
        omega
theorem countD_size (d : Nat) (m : Int) (x : Ex) (h : 0 ≤ m) (hc : 0 ≤ countD d m x) : countD d m x = m - (sz x : Int) := by
  induction d generalizing m x with
  | zero => unfold countD at hc; omega
  | succ d ih =>
    unfold countD at hc ⊢
    by_cases hn : 200 < x.names.length
    · rw [if_pos hn] at hc; omega
    · rw [if_neg hn] at hc ⊢
      rw [fold_size (countD d) (fun a y ha hb => ih a y ha hb) x.kids (m - 1) hc]
      cases x
      simp only [Ex.kids, sz]
      omega

set_option maxRecDepth 100000 in
theorem great_any (w : World) (x : Ex) (cs : Array Value) (m : Int) (hl : LaidC w x cs.toList) (h1 : 0 ≤ m) (h2 : m ≤ 1000000) :
    Calls Tryd.prog 5 #[.agg cs, .int .i64 m] w (fun e w' => e = .returned (.bool (decide (countD 200 m x < 0))) ∧ Below w.heap.size w w') := by
  obtain ⟨c0, c1, c2, c3, c4, c5, c6, c7, rfl⟩ := hl.form
  have hb := (Below.refl w.heap.size w).alloc (Nat.le_refl _) (.cells #[c0, c1, c2, c3, c4, c5, c6, c7] 27)
  have HC : Hid (Calls Tryd.prog 14 #[.agg #[c0, c1, c2, c3, c4, c5, c6, c7], .int .i64 m, .int .i64 200] (w.alloc (.cells #[c0, c1, c2, c3, c4, c5, c6, c7] 27)) (fun e w' => e = .returned (.int .i64 (countD 200 m x)) ∧ Below (w.heap.size + 1) (w.alloc (.cells #[c0, c1, c2, c3, c4, c5, c6, c7] 27)) w')) :=
    Lib.hid (by have h0 := count_any 200 (Nat.le_refl _) (w.alloc (.cells #[c0, c1, c2, c3, c4, c5, c6, c7] 27)) x #[c0, c1, c2, c3, c4, c5, c6, c7] m (LaidC.below hb _ _ hl) h1 h2; simp only [World.size_alloc] at h0; exact h0)
  have HB0 := Lib.hid hb
  clear hl hb
  go_enter Tryd.func5, Tryd.ntmps5
  go_wp2_with fail
  refine HC.out.mono ?_
  rintro e w1 ⟨rfl, hb⟩
  have HB := Lib.hid (HB0.out.trans (hb.mono (by omega)))
  clear hb
  go_wp2_with fail
  go_ret
  exact ⟨rfl, HB.out⟩
end Go.Proofs.YtmhjcnnocllniaaDoor.tr
