/-
  What nums.Bin, nums.Un and the document's own Bin, Un (with wider numbers) answer, as plain functions on integers; their walks.
-/
import Derived.Test.YtdbieelknploaaaRows
import Derived.WalkKit
import Derived.ProofKit
import Derived.OpenShut
import Derived.Lib.Hide
namespace Go.Proofs.Ytdbieelknploaaa.bins
open Go.ChangeShapes Go.WideShapes Go.ChangeAt Go.RowKit
set_option linter.unusedVariables false

/-- a truth as a number -/
def tru (b : Bool) : Int := if b then 1 else 0

/-- what an operator of two answers -/
def Bn (op a b : Int) : Int :=
  if op = 3 then wrap32 (a + b) else if op = 4 then wrap32 (a - b) else if op = 5 then wrap32 (a * b)
  else if op = 6 then (if b = 0 then 0 else wrap32 (a.tdiv b)) else if op = 7 then (if b = 0 then 0 else a.tmod b)
  else if op = 8 then (if a = 0 then 0 else if b = 0 then 0 else 1) else if op = 9 then (if a = 0 then (if b = 0 then 0 else 1) else 1)
  else if op = 10 then (if a = b then 0 else 1) else if op = 11 then (if a = b then 1 else 0) else if op = 12 then (if a = b then 0 else 1)
  else if op = 13 then (if a < b then 1 else 0) else if op = 14 then (if b < a then 0 else 1) else if op = 15 then (if b < a then 1 else 0) else if op = 16 then (if a < b then 0 else 1)
  else 0

theorem ops (op : Int) (h : 0 ≤ op) : op = 0 ∨ op = 1 ∨ op = 2 ∨ op = 3 ∨ op = 4 ∨ op = 5 ∨ op = 6 ∨ op = 7 ∨ op = 8 ∨ op = 9 ∨ op = 10 ∨ op = 11 ∨ op = 12 ∨ op = 13 ∨ op = 14 ∨ op = 15 ∨ op = 16 ∨ 17 ≤ op := by omega

theorem ret32 {a b : Int} (h : a = b) : Ending.returned (.int .i32 a) = .returned (.int .i32 b) := by rw [h]

theorem bin_ring (op a b : Int) (w : World) (h1 : -2147483648 ≤ a) (h2 : a ≤ 2147483647) (h3 : -2147483648 ≤ b) (h4 : b ≤ 2147483647) (ho : op = 3 ∨ op = 4 ∨ op = 5) :
    Calls Try.prog 11 #[.int .u8 op, .int .i32 a, .int .i32 b] w fun e w' => e = .returned (.int .i32 (Bn op a b)) ∧ w = w' := by
  rcases ho with rfl | rfl | rfl
  all_goals
    go_enter Try.func11, Try.ntmps11
    go_wp2
    go_ret
    exact ⟨ret32 (by simp [Bn]), rfl⟩


theorem bin_div (op a b : Int) (w : World) (h1 : -2147483648 ≤ a) (h2 : a ≤ 2147483647) (h3 : -2147483648 ≤ b) (h4 : b ≤ 2147483647) (ho : op = 6 ∨ op = 7) :
    Calls Try.prog 11 #[.int .u8 op, .int .i32 a, .int .i32 b] w fun e w' => e = .returned (.int .i32 (Bn op a b)) ∧ w = w' := by
  by_cases hb : b = 0
  · subst hb
    rcases ho with rfl | rfl
    all_goals
      go_enter Try.func11, Try.ntmps11
      go_wp2
      go_ret
      exact ⟨ret32 (by simp [Bn]), rfl⟩
  · rcases ho with rfl | rfl
    all_goals
      go_enter Try.func11, Try.ntmps11
      go_wp2
      go_ret
      exact ⟨ret32 (by simp [Bn, hb]), rfl⟩

theorem bin_truth (op a b : Int) (w : World) (h1 : -2147483648 ≤ a) (h2 : a ≤ 2147483647) (h3 : -2147483648 ≤ b) (h4 : b ≤ 2147483647) (ho : op = 8 ∨ op = 9) :
    Calls Try.prog 11 #[.int .u8 op, .int .i32 a, .int .i32 b] w fun e w' => e = .returned (.int .i32 (Bn op a b)) ∧ w = w' := by
  by_cases ha : a = 0
  all_goals by_cases hb : b = 0
  rotate_right
  · have ea : (a != 0) = true := by simp [ha]
    have eb : (b != 0) = true := by simp [hb]
    have hr : Bn 8 a b = 1 ∧ Bn 9 a b = 1 := by simp [Bn, ha, hb]
    have HR := Lib.hid hr
    clear hr
    rcases ho with rfl | rfl
    all_goals
      go_enter Try.func11, Try.ntmps11
      go_wp2
      go_ret
      first | exact ⟨ret32 HR.out.1.symm, rfl⟩ | exact ⟨ret32 HR.out.2.symm, rfl⟩
  all_goals rcases ho with rfl | rfl
  all_goals
    go_enter Try.func11, Try.ntmps11
    go_wp2
    go_ret
    exact ⟨ret32 (by simp [Bn, ha, hb]), rfl⟩

theorem bin_cmp (op a b : Int) (w : World) (h1 : -2147483648 ≤ a) (h2 : a ≤ 2147483647) (h3 : -2147483648 ≤ b) (h4 : b ≤ 2147483647) (ho : op = 10 ∨ op = 11 ∨ op = 12 ∨ op = 13 ∨ op = 14 ∨ op = 15 ∨ op = 16) :
    Calls Try.prog 11 #[.int .u8 op, .int .i32 a, .int .i32 b] w fun e w' => e = .returned (.int .i32 (Bn op a b)) ∧ w = w' := by
  have h3 : a < b ∨ a = b ∨ b < a := by omega
  rcases h3 with h | h | h
  rotate_left
  subst h
  all_goals rcases ho with rfl | rfl | rfl | rfl | rfl | rfl | rfl
  all_goals
    go_enter Try.func11, Try.ntmps11
    go_wp2
    go_ret
    exact ⟨ret32 (by simp [Bn]; try omega), rfl⟩

theorem bin_none (op a b : Int) (w : World) (h1 : -2147483648 ≤ a) (h2 : a ≤ 2147483647) (h3 : -2147483648 ≤ b) (h4 : b ≤ 2147483647) (ho : op = 0 ∨ op = 1 ∨ op = 2 ∨ 17 ≤ op) (ho2 : op ≤ 255) :
    Calls Try.prog 11 #[.int .u8 op, .int .i32 a, .int .i32 b] w fun e w' => e = .returned (.int .i32 (Bn op a b)) ∧ w = w' := by
  rcases ho with rfl | rfl | rfl | ho
  all_goals
    go_enter Try.func11, Try.ntmps11
    go_wp2
    go_ret
    exact ⟨ret32 (by unfold Bn; repeat rw [if_neg (by omega)]), rfl⟩

theorem bin_any (op a b : Int) (w : World) (ho1 : 0 ≤ op) (ho2 : op ≤ 255) (h1 : -2147483648 ≤ a) (h2 : a ≤ 2147483647) (h3 : -2147483648 ≤ b) (h4 : b ≤ 2147483647) :
    Calls Try.prog 11 #[.int .u8 op, .int .i32 a, .int .i32 b] w fun e w' => e = .returned (.int .i32 (Bn op a b)) ∧ w = w' := by
  have := ops op ho1
  by_cases c1 : op = 3 ∨ op = 4 ∨ op = 5
  · exact bin_ring op a b w h1 h2 h3 h4 c1
  by_cases c2 : op = 6 ∨ op = 7
  · exact bin_div op a b w h1 h2 h3 h4 c2
  by_cases c3 : op = 8 ∨ op = 9
  · exact bin_truth op a b w h1 h2 h3 h4 c3
  by_cases c4 : op = 0 ∨ op = 1 ∨ op = 2 ∨ 17 ≤ op
  · exact bin_none op a b w h1 h2 h3 h4 c4 ho2
  exact bin_cmp op a b w h1 h2 h3 h4 (by omega)
end Go.Proofs.Ytdbieelknploaaa.bins
