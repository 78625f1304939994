/-
  The law's own look at an expression, part by part.
-/
import Derived.Test.YtmhjcnnocllniaaDoorShRightB
import Derived.Test.YtmhjcnnocllniaaDoorShRightC
import Derived.Test.YtmhjcnnocllniaaDoorShRightD
import Derived.Test.YtmhjcnnocllniaaDoorShRightE
import Derived.BigQuiet
namespace Go.Proofs.YtmhjcnnocllniaaDoor.sh
open Go.ChangeShapes Go.WideShapes Go.ChangeAt Go.RowKit Go.Proofs.YtmhjcnnocllniaaDoor.tr
set_option linter.unusedVariables false
set_option linter.unusedSimpArgs false

theorem right_any (N : Nat) : ∀ x : Ex, sz x ≤ N → RightDoes x := by
  induction N with
  | zero => intro x h; have := sz_pos x; omega
  | succ N ih =>
    intro x hN
    obtain ⟨k, o, n, nm, nms, kids, ln, cl⟩ := x
    rw [sz] at hN
    have hR : ∀ i (hi : i < kids.length), RightDoes kids[i] := fun i hi => ih kids[i] (by have := sz_kid kids i hi; omega)
    by_cases hb : 1 ≤ k ∧ k ≤ 13
    · have hkk : k = 1 ∨ k = 2 ∨ k = 3 ∨ k = 4 ∨ k = 5 ∨ k = 6 ∨ k = 7 ∨ k = 8 ∨ k = 9 ∨ k = 10 ∨ k = 11 ∨ k = 12 ∨ k = 13 := by omega
      rcases hkk with rfl | rfl | rfl | rfl | rfl | rfl | rfl | rfl | rfl | rfl | rfl | rfl | rfl
      · exact right_case1 o n nm nms kids ln cl hR
      · exact right_case2 o n nm nms kids ln cl hR
      · exact right_case3 o n nm nms kids ln cl hR
      · exact right_case4 o n nm nms kids ln cl hR
      · exact right_case5 o n nm nms kids ln cl hR
      · exact right_case6 o n nm nms kids ln cl hR
      · exact right_case7 o n nm nms kids ln cl hR
      · exact right_case8 o n nm nms kids ln cl hR
      · exact right_case9 o n nm nms kids ln cl hR
      · exact right_case10 o n nm nms kids ln cl hR
      · exact right_case11 o n nm nms kids ln cl hR
      · exact right_case12 o n nm nms kids ln cl hR
      · exact right_case13 o n nm nms kids ln cl hR
    · exact right_caseBad k o n nm nms kids ln cl hb hR
theorem right_does (x : Ex) : RightDoes x := right_any (sz x) x (Nat.le_refl _)
end Go.Proofs.YtmhjcnnocllniaaDoor.sh
