/-
  Value over no types: its walk.
-/
import Derived.Test.YtjkkalhgbfbcbaaTrVal
namespace Go.Proofs.Ytjkkalhgbfbcbaa.tr
open Go.ChangeShapes Go.WideShapes Go.ChangeAt Go.RowKit
set_option linter.unusedVariables false

def valueOf (k : Nat) (num : Int) : Value := if k = 1 ∨ k = 2 then .tuple #[.int .i32 num, .bool true] else .tuple #[.int .i32 0, .bool false]

set_option maxRecDepth 100000 in
theorem value_nil (w : World) (k : Nat) (num : Int) (s : ByteArray) (c1 c4 c5 c6 c7 : Value) (hk : k ≤ 255) :
    Calls Try.prog 25 #[.slice none 0 0, .agg #[.int .u8 k, c1, .int .i32 num, .string s, c4, c5, c6, c7]] w fun e w' => e = .returned (valueOf k num) ∧ Below w.heap.size w w' := by
  have hb := (Below.refl w.heap.size w).alloc (Nat.le_refl _) (.cells #[.int .u8 k, c1, .int .i32 num, .string s, c4, c5, c6, c7] 44)
  have HB := Lib.hid hb
  clear hb
  by_cases h12 : k = 1 ∨ k = 2
  · unfold valueOf
    rw [if_pos h12]
    rcases h12 with rfl | rfl
    all_goals
      go_enter Try.func25, Try.ntmps25
      go_wp2_with fail
      refine bodyPost_ret (v := .tuple #[.int .i32 num, .bool true]) (by simp [results, Try.results25, go_sem]) rfl ⟨rfl, HB.out⟩
  · unfold valueOf
    rw [if_neg h12]
    have f1 : ((k : Int) == 1) = false := by rw [beq_eq_false_iff_ne]; omega
    have f2 : ((k : Int) == 2) = false := by rw [beq_eq_false_iff_ne]; omega
    clear h12
    by_cases h3 : k = 3
    · subst h3
      have HC := Lib.hid (ctorEnum_nil (w.alloc (.cells #[.int .u8 ((3 : Nat) : Int), c1, .int .i32 num, .string s, c4, c5, c6, c7] 44)) s)
      go_enter Try.func25, Try.ntmps25
      go_wp2_with fail
      refine HC.out.mono ?_
      rintro e w1 ⟨rfl, hb1⟩
      have HB1 := Lib.hid (HB.out.trans (hb1.mono HB.out.size))
      clear hb1
      go_wp2_with fail
      refine bodyPost_ret (v := .tuple #[.int .i32 0, .bool false]) (by simp [results, Try.results25, go_sem]) rfl ⟨rfl, HB1.out⟩
    · have f3 : ((k : Int) == 3) = false := by rw [beq_eq_false_iff_ne]; omega
      clear h3
      go_enter Try.func25, Try.ntmps25
      go_wp2_with fail
      refine bodyPost_ret (v := .tuple #[.int .i32 0, .bool false]) (by simp [results, Try.results25, go_sem]) rfl ⟨rfl, HB.out⟩
end Go.Proofs.Ytjkkalhgbfbcbaa.tr
