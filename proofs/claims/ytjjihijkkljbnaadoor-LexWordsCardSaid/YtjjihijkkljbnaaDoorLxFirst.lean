/-
  number, name, sign, first of package lex: their walks.
-/
import Derived.Test.YtjjihijkkljbnaaDoorLxKeys
import Derived.Below
namespace Go.Proofs.YtjjihijkkljbnaaDoor.lx
open Go.ChangeShapes Go.WideShapes Go.ChangeAt Go.RowKit
set_option linter.unusedVariables false

theorem run_eq_take (p : UInt8 → Bool) (l : List UInt8) : l.take (run p l) = l.takeWhile p := by
  induction l with
  | nil => simp [run]
  | cons c r ih =>
    cases h : p c
    · simp [run, h]
    · have e : run p (c :: r) = run p r + 1 := by simp [run, h]
      rw [e, List.take_succ_cons, ih]
      simp [h]
theorem run_all (p : UInt8 → Bool) (l : List UInt8) : ∀ c ∈ l.take (run p l), p c = true := by
  rw [run_eq_take]
  intro c hc
  have := List.all_takeWhile (p := p) (l := l)
  rw [List.all_eq_true] at this
  exact this c hc

theorem head_data (s : ByteArray) (n : Nat) : (s.extract 0 n).data.toList = s.data.toList.take n := by rw [Lib.extract_data]; simp

/-- what first and its kin answer -/
def fstV : Fst → Value
  | .ok k t n => .tuple #[.agg #[.int .u8 k, .string ⟨t.toArray⟩, .int .i32 n, .int .i64 0, .int .i64 0], .int .i64 0]
  | .bad k => .tuple #[.agg #[.int .u8 0, .string ByteArray.empty, .int .i32 0, .int .i64 0, .int .i64 0], .int .i64 k]

theorem w32 : wrap32 2147483648 = -2147483648 := by unfold wrap32; omega
theorem head_eq (s : ByteArray) (n : Nat) : s.extract 0 n = ⟨(s.data.toList.take n).toArray⟩ := by
  rw [Lib.extract_eq]; simp

theorem below_tok (w : World) (a b c : Value) (x y : Value) (v : Value) (t : TypeId) : Below w.heap.size w (w.alloc (.cells #[a, b, c, x, y] t)) :=
  (Below.refl _ _).alloc (Nat.le_refl _) _

theorem number_any (s : ByteArray) (w : World) (h : s.size ≤ 70000) :
    Calls Tryd.prog 59 #[.string s] w fun e w' => e = .returned (fstV (number s.data.toList)) ∧ Below w.heap.size w w' := by
  have hr := run_digit s
  have hle := run_le digB s.data.toList
  have hsl : s.data.toList.length = s.size := by simp
  rw [hsl] at hle
  have hall := run_all digB s.data.toList
  have hv := value_any (s.extract 0 (run digB s.data.toList))
  rw [head_data] at hv
  have hvb := valF_le (s.data.toList.take (run digB s.data.toList))
  have hdef : number s.data.toList = if 2147483648 < valF (s.data.toList.take (run digB s.data.toList)) then .bad 3 else if ((s.data.toList.drop (run digB s.data.toList)).head?.map letB) = some true then .bad 1 else .ok 1 (s.data.toList.take (run digB s.data.toList)) (if valF (s.data.toList.take (run digB s.data.toList)) = 2147483648 then -2147483648 else valF (s.data.toList.take (run digB s.data.toList))) := rfl
  rw [hdef]
  clear hdef
  generalize valF (s.data.toList.take (run digB s.data.toList)) = v at *
  generalize run digB s.data.toList = n at *
  have HR := Lib.hid hr
  have HV := Lib.hid hv
  have HA := Lib.hid hall
  clear hr hv hall hsl
  by_cases h1 : 2147483648 < v
  · rw [if_pos h1]
    go_enter Tryd.func59, Tryd.ntmps59
    go_wp2_with (first | (go_at_call 56; refine (HR.out _ h).mono ?_; rintro e w' ⟨rfl, rfl⟩) | (go_at_call 78; refine (HV.out _ (by simp; omega) HA.out).mono ?_; rintro e w' ⟨rfl, rfl⟩))
    refine bodyPost_ret (v := fstV (.bad 3)) (by simp [fstV, results, Tryd.results59, go_sem]; rfl) rfl ⟨rfl, ?_⟩
    exact (Below.refl _ _).alloc (Nat.le_refl _) _
  · rw [if_neg h1]
    by_cases h2 : n < s.size
    · have hd := drop_at s n h2
      have hl := isLetter_any s[n]
      rw [hd]
      rcases Bool.eq_false_or_eq_true (letB s[n]) with hb | hb
      rotate_left
      · rw [hb] at hl
        rw [if_neg (by simp [hb])]
        have HL := Lib.hid hl
        clear hl hb hd
        by_cases h3 : v = 2147483648
        · rw [if_pos h3]
          subst h3
          go_enter Tryd.func59, Tryd.ntmps59
          go_wp2_with (first | (go_at_call 56; refine (HR.out _ h).mono ?_; rintro e w' ⟨rfl, rfl⟩) | (go_at_call 78; refine (HV.out _ (by simp; omega) HA.out).mono ?_; rintro e w' ⟨rfl, rfl⟩) | (go_at_call 60; refine (HL.out _).mono ?_; rintro e w' ⟨rfl, rfl⟩))
          refine bodyPost_ret (v := fstV (.ok 1 (s.data.toList.take n) (-2147483648))) (by rw [fstV, ← head_eq]; simp [w32, results, Tryd.results59, go_sem]) rfl ⟨rfl, ?_⟩
          exact (Below.refl _ _).alloc (Nat.le_refl _) _
        · rw [if_neg h3]
          go_enter Tryd.func59, Tryd.ntmps59
          go_wp2_with (first | (go_at_call 56; refine (HR.out _ h).mono ?_; rintro e w' ⟨rfl, rfl⟩) | (go_at_call 78; refine (HV.out _ (by simp; omega) HA.out).mono ?_; rintro e w' ⟨rfl, rfl⟩) | (go_at_call 60; refine (HL.out _).mono ?_; rintro e w' ⟨rfl, rfl⟩))
          refine bodyPost_ret (v := fstV (.ok 1 (s.data.toList.take n) v)) (by rw [fstV, ← head_eq]; simp [results, Tryd.results59, go_sem]) rfl ⟨rfl, ?_⟩
          exact (Below.refl _ _).alloc (Nat.le_refl _) _
      · rw [hb] at hl
        rw [if_pos (by simp [hb])]
        have HL := Lib.hid hl
        clear hl hb hd
        go_enter Tryd.func59, Tryd.ntmps59
        go_wp2_with (first | (go_at_call 56; refine (HR.out _ h).mono ?_; rintro e w' ⟨rfl, rfl⟩) | (go_at_call 78; refine (HV.out _ (by simp; omega) HA.out).mono ?_; rintro e w' ⟨rfl, rfl⟩) | (go_at_call 60; refine (HL.out _).mono ?_; rintro e w' ⟨rfl, rfl⟩))
        refine bodyPost_ret (v := fstV (.bad 1)) (by simp [fstV, results, Tryd.results59, go_sem]; rfl) rfl ⟨rfl, ?_⟩
        exact (Below.refl _ _).alloc (Nat.le_refl _) _
    · have hd : s.data.toList.drop n = [] := List.drop_of_length_le (by simp; omega)
      rw [hd, if_neg (by simp)]
      clear hd
      by_cases h3 : v = 2147483648
      · rw [if_pos h3]
        subst h3
        go_enter Tryd.func59, Tryd.ntmps59
        go_wp2_with (first | (go_at_call 56; refine (HR.out _ h).mono ?_; rintro e w' ⟨rfl, rfl⟩) | (go_at_call 78; refine (HV.out _ (by simp; omega) HA.out).mono ?_; rintro e w' ⟨rfl, rfl⟩))
        refine bodyPost_ret (v := fstV (.ok 1 (s.data.toList.take n) (-2147483648))) (by rw [fstV, ← head_eq]; simp [w32, results, Tryd.results59, go_sem]) rfl ⟨rfl, ?_⟩
        exact (Below.refl _ _).alloc (Nat.le_refl _) _
      · rw [if_neg h3]
        go_enter Tryd.func59, Tryd.ntmps59
        go_wp2_with (first | (go_at_call 56; refine (HR.out _ h).mono ?_; rintro e w' ⟨rfl, rfl⟩) | (go_at_call 78; refine (HV.out _ (by simp; omega) HA.out).mono ?_; rintro e w' ⟨rfl, rfl⟩))
        refine bodyPost_ret (v := fstV (.ok 1 (s.data.toList.take n) v)) (by rw [fstV, ← head_eq]; simp [results, Tryd.results59, go_sem]) rfl ⟨rfl, ?_⟩
        exact (Below.refl _ _).alloc (Nat.le_refl _) _
end Go.Proofs.YtjjihijkkljbnaaDoor.lx
