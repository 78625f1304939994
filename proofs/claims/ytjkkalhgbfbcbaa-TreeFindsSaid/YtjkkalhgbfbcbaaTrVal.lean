/-
  Value over no types; the small makers: their walks.
-/
import Derived.Test.YtjkkalhgbfbcbaaTrGreat
namespace Go.Proofs.Ytjkkalhgbfbcbaa.tr
open Go.ChangeShapes Go.WideShapes Go.ChangeAt Go.RowKit
set_option linter.unusedVariables false

theorem place_nil (w : World) (f : Value) : Calls Try.prog 51 #[.slice none 0 0, f] w fun e w' => e = .returned (.int .i64 (-1)) ∧ w' = w := by
  go_enter Try.func51, Try.ntmps51
  go_wp2_with fail
  go_loop [8] (fun iv => iv = .int .i64 0) (fun _ => 0)
  case atStart => rfl
  case round =>
    subst hrel
    go_wp2_with fail
    go_ret
    exact ⟨rfl, rfl⟩

theorem ctorEnum_nil (w : World) (s : ByteArray) : Calls Try.prog 22 #[.slice none 0 0, .string s] w fun e w' => e = .returned (.int .i64 (-1)) ∧ Below w.heap.size w w' := by
  have hmf : ∀ (fn : Fn) (first cap : Array Value) (w : World), (Instr.makeFunc fn first cap).run Try.prog w = .ok (.func fn first cap) w := fun _ _ _ _ => rfl
  go_enter Try.func22, Try.ntmps22
  go_wp2_with fail
  refine (place_nil _ _).mono ?_
  rintro e w1 ⟨rfl, rfl⟩
  go_wp2_with fail
  go_ret
  exact ⟨rfl, (Below.refl _ _).alloc (Nat.le_refl _) _⟩
theorem int_any (w : World) (n : Int) : Calls Try.prog 28 #[.int .i32 n] w fun e w' => e = .returned (.agg #[.int .u8 1, .int .u8 0, .int .i32 n, .string ⟨#[]⟩, .slice none 0 0, .slice none 0 0, .int .i64 0, .int .i64 0]) ∧ Below w.heap.size w w' := by
  obtain ⟨q0, q1, q2, q3, q4, q5, q6, q7⟩ := has8 (Has.new w 44 #[.int .u8 1, .int .u8 0, .int .i32 n, .string ⟨#[]⟩, .slice none 0 0, .slice none 0 0, .int .i64 0, .int .i64 0])
  go_enter Try.func28, Try.ntmps28
  go_wp2_with fail
  refine bodyPost_ret (v := .agg #[.int .u8 1, .int .u8 0, .int .i32 n, .string ⟨#[]⟩, .slice none 0 0, .slice none 0 0, .int .i64 0, .int .i64 0]) (by simp [results, Try.results28, go_sem, q0, q1, q2, q3, q4, q5, q6, q7]) rfl ⟨rfl, ?_⟩
  exact (Below.refl _ _).alloc (Nat.le_refl _) _
theorem ctor_any (w : World) (s : ByteArray) : Calls Try.prog 26 #[.string s] w fun e w' => e = .returned (.agg #[.int .u8 3, .int .u8 0, .int .i32 0, .string s, .slice none 0 0, .slice none 0 0, .int .i64 0, .int .i64 0]) ∧ Below w.heap.size w w' := by
  obtain ⟨q0, q1, q2, q3, q4, q5, q6, q7⟩ := has8 (Has.new w 44 #[.int .u8 3, .int .u8 0, .int .i32 0, .string s, .slice none 0 0, .slice none 0 0, .int .i64 0, .int .i64 0])
  go_enter Try.func26, Try.ntmps26
  go_wp2_with fail
  refine bodyPost_ret (v := .agg #[.int .u8 3, .int .u8 0, .int .i32 0, .string s, .slice none 0 0, .slice none 0 0, .int .i64 0, .int .i64 0]) (by simp [results, Try.results26, go_sem, q0, q1, q2, q3, q4, q5, q6, q7]) rfl ⟨rfl, ?_⟩
  exact (Below.refl _ _).alloc (Nat.le_refl _) _
theorem name_any (w : World) (s : ByteArray) : Calls Try.prog 32 #[.string s] w fun e w' => e = .returned (.agg #[.int .u8 4, .int .u8 0, .int .i32 0, .string s, .slice none 0 0, .slice none 0 0, .int .i64 0, .int .i64 0]) ∧ Below w.heap.size w w' := by
  obtain ⟨q0, q1, q2, q3, q4, q5, q6, q7⟩ := has8 (Has.new w 44 #[.int .u8 4, .int .u8 0, .int .i32 0, .string s, .slice none 0 0, .slice none 0 0, .int .i64 0, .int .i64 0])
  go_enter Try.func32, Try.ntmps32
  go_wp2_with fail
  refine bodyPost_ret (v := .agg #[.int .u8 4, .int .u8 0, .int .i32 0, .string s, .slice none 0 0, .slice none 0 0, .int .i64 0, .int .i64 0]) (by simp [results, Try.results32, go_sem, q0, q1, q2, q3, q4, q5, q6, q7]) rfl ⟨rfl, ?_⟩
  exact (Below.refl _ _).alloc (Nat.le_refl _) _
end Go.Proofs.Ytjkkalhgbfbcbaa.tr
