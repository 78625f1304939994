/-
  What the predicates on bytes, run and value of package lex answer: their walks.
-/
import Derived.Test.YtjjihijkkljbnaaDoorRows
import Derived.Test.YtjjihijkkljbnaaDoorLxPure
import Derived.WalkKit
import Derived.ProofKit
import Derived.OpenShut
import Derived.LoopTactic
import Derived.Outline
import Derived.Lib.Hide
namespace Go.Proofs.YtjjihijkkljbnaaDoor.lx
open Go.ChangeShapes Go.WideShapes Go.ChangeAt Go.RowKit
set_option linter.unusedVariables false

theorem ret_bool {a b : Bool} (h : a = b) : Ending.returned (.bool a) = .returned (.bool b) := by rw [h]
theorem ret_int {k : IntKind} {a b : Int} (h : a = b) : Ending.returned (.int k a) = .returned (.int k b) := by rw [h]

theorem isDigit_any (c : UInt8) (w : World) :
    Calls Tryd.prog 58 #[.int .u8 c.toNat] w fun e w' => e = .returned (.bool (digB c)) ∧ w = w' := by
  have hc : c.toNat < 256 := c.toNat_lt
  by_cases h1 : 48 ≤ c.toNat
  all_goals
    go_enter Tryd.func58, Tryd.ntmps58
    go_wp2
    go_ret
    exact ⟨ret_bool (by rw [Bool.eq_iff_iff]; simp [digB]; omega), rfl⟩

theorem isGreat_any (c : UInt8) (w : World) :
    Calls Tryd.prog 79 #[.int .u8 c.toNat] w fun e w' => e = .returned (.bool (greatB c)) ∧ w = w' := by
  have hc : c.toNat < 256 := c.toNat_lt
  by_cases h1 : 65 ≤ c.toNat
  all_goals
    go_enter Tryd.func79, Tryd.ntmps79
    go_wp2
    go_ret
    exact ⟨ret_bool (by rw [Bool.eq_iff_iff]; simp [greatB]; omega), rfl⟩

theorem withinLine_any (c : UInt8) (w : World) :
    Calls Tryd.prog 57 #[.int .u8 c.toNat] w fun e w' => e = .returned (.bool (lineB c)) ∧ w = w' := by
  have hc : c.toNat < 256 := c.toNat_lt
  by_cases h1 : c.toNat = 10
  all_goals
    go_enter Tryd.func57, Tryd.ntmps57
    go_wp2
    go_ret
    exact ⟨ret_bool (by rw [Bool.eq_iff_iff]; simp [lineB]; omega), rfl⟩

theorem isLetter_any (c : UInt8) (w : World) :
    Calls Tryd.prog 60 #[.int .u8 c.toNat] w fun e w' => e = .returned (.bool (letB c)) ∧ w = w' := by
  have hc : c.toNat < 256 := c.toNat_lt
  have hg := isGreat_any c
  have hcase : c.toNat < 97 ∨ (97 ≤ c.toNat ∧ c.toNat ≤ 122) ∨ 122 < c.toNat := by omega
  rcases hcase with h | ⟨h, h'⟩ | h
  rotate_left
  · go_enter Tryd.func60, Tryd.ntmps60
    go_wp2_with fail
    go_ret
    exact ⟨ret_bool (by rw [Bool.eq_iff_iff]; simp [letB, smallB, greatB]; omega), rfl⟩
  all_goals
    cases hq : greatB c
    all_goals
      rw [hq] at hg
      simp only [greatB, Bool.and_eq_true, Bool.and_eq_false_iff, decide_eq_true_eq, decide_eq_false_iff_not] at hq
      have HG := Lib.hid hg
      have HQ := Lib.hid hq
      clear hg hq
      go_enter Tryd.func60, Tryd.ntmps60
      go_wp2_with (go_at_call 79; refine (HG.out _).mono ?_; rintro e w' ⟨rfl, rfl⟩)
      go_ret
      have hq := HQ.out
      exact ⟨ret_bool (by rw [Bool.eq_iff_iff]; simp [letB, smallB, greatB]; omega), rfl⟩

theorem inName_any (c : UInt8) (w : World) :
    Calls Tryd.prog 80 #[.int .u8 c.toNat] w fun e w' => e = .returned (.bool (nameB c)) ∧ w = w' := by
  have hg := isLetter_any c
  have hh := isDigit_any c
  cases h1 : letB c <;> cases h2 : digB c
  all_goals
    have hn : nameB c = (letB c || digB c) := rfl
    rw [h1, h2] at hn
    rw [h1] at hg
    rw [h2] at hh
    rw [hn]
    have HG := Lib.hid hg
    have HH := Lib.hid hh
    clear hg hh hn h1 h2
    go_enter Tryd.func80, Tryd.ntmps80
    go_wp2_with (first | (go_at_call 60; refine (HG.out _).mono ?_; rintro e w' ⟨rfl, rfl⟩) | (go_at_call 58; refine (HH.out _).mono ?_; rintro e w' ⟨rfl, rfl⟩))
    go_ret
    exact ⟨rfl, rfl⟩

theorem run_snoc (p : UInt8 → Bool) (l : List UInt8) (k : Nat) (h : k < l.length) (hk : k ≤ run p l) : (p l[k] = true → k + 1 ≤ run p l) ∧ (p l[k] = false → run p l = k) := by
  induction l generalizing k with
  | nil => simp at h
  | cons c r ih =>
    cases k with
    | zero =>
      simp only [List.getElem_cons_zero]
      constructor
      · intro hp; simp [run, hp]
      · intro hp; simp [run, hp]
    | succ k =>
      simp only [List.getElem_cons_succ]
      have hc : p c = true := by
        cases hp : p c
        · simp [run, hp] at hk
        · rfl
      have e : run p (c :: r) = run p r + 1 := by simp [run, hc]
      rw [e] at hk ⊢
      have := ih k (by simpa using h) (by omega)
      exact ⟨fun g => by have := this.1 g; omega, fun g => by have := this.2 g; omega⟩

end Go.Proofs.YtjjihijkkljbnaaDoor.lx
