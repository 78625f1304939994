/-
  run, value of package lex: their walks.
-/
import Derived.Test.YtjjihijkkljbnaaDoorLxLeaf
namespace Go.Proofs.YtjjihijkkljbnaaDoor.lx
open Go.ChangeShapes Go.WideShapes Go.ChangeAt Go.RowKit
set_option linter.unusedVariables false

theorem run_digit (s : ByteArray) (w : World) (h : s.size ≤ 70000) :
    Calls Tryd.prog 56 #[.string s, .func (.func 58) #[] #[]] w fun e w' => e = .returned (.int .i64 (run digB s.data.toList)) ∧ w = w' := by
  go_enter Tryd.func56, Tryd.ntmps56
  go_wp2
  go_loop [5] (fun i => ∃ k : Nat, k ≤ s.size ∧ i = .int .i64 k ∧ Hid (k ≤ run digB s.data.toList)) (fun i => s.size - (intOf i).toNat)
  case atStart => exact ⟨0, Nat.zero_le _, rfl, Lib.hid (Nat.zero_le _)⟩
  case round =>
    obtain ⟨k, hk, rfl, HK⟩ := hrel
    by_cases hlt : k < s.size
    · have hc := isDigit_any s[k]
      have hl : k < s.data.toList.length := by simpa using hlt
      have hs := run_snoc digB s.data.toList k hl HK.out
      have he : s.data.toList[k] = s[k] := rfl
      rw [he] at hs
      cases hp : digB s[k]
      · rw [hp] at hc hs
        have HS := Lib.hid (hs.2 rfl)
        have HC := Lib.hid hc
        clear hp hc hs HK he hl
        go_wp2_with (go_at_call 58; refine (HC.out _).mono ?_; rintro e w' ⟨rfl, rfl⟩)
        go_ret
        exact ⟨ret_int (by rw [HS.out]), rfl⟩
      · rw [hp] at hc hs
        have HS := Lib.hid (hs.1 rfl)
        have HC := Lib.hid hc
        clear hp hc hs HK he hl
        go_wp2_with (go_at_call 58; refine (HC.out _).mono ?_; rintro e w' ⟨rfl, rfl⟩)
        go_round
        case rel => exact ⟨k + 1, by omega, by go_num, HS⟩
        case measure => simp [intOf]; omega
    · have hr := run_le digB s.data.toList
      have hz : s.data.toList.length = s.size := by simp
      have hf : run digB s.data.toList = k := by have := HK.out; omega
      have HS := Lib.hid hf
      clear hr hz hf HK
      go_wp2_with fail
      go_ret
      exact ⟨ret_int (by rw [HS.out]), rfl⟩

theorem run_name (s : ByteArray) (w : World) (h : s.size ≤ 70000) :
    Calls Tryd.prog 56 #[.string s, .func (.func 80) #[] #[]] w fun e w' => e = .returned (.int .i64 (run nameB s.data.toList)) ∧ w = w' := by
  go_enter Tryd.func56, Tryd.ntmps56
  go_wp2
  go_loop [5] (fun i => ∃ k : Nat, k ≤ s.size ∧ i = .int .i64 k ∧ Hid (k ≤ run nameB s.data.toList)) (fun i => s.size - (intOf i).toNat)
  case atStart => exact ⟨0, Nat.zero_le _, rfl, Lib.hid (Nat.zero_le _)⟩
  case round =>
    obtain ⟨k, hk, rfl, HK⟩ := hrel
    by_cases hlt : k < s.size
    · have hc := inName_any s[k]
      have hl : k < s.data.toList.length := by simpa using hlt
      have hs := run_snoc nameB s.data.toList k hl HK.out
      have he : s.data.toList[k] = s[k] := rfl
      rw [he] at hs
      cases hp : nameB s[k]
      · rw [hp] at hc hs
        have HS := Lib.hid (hs.2 rfl)
        have HC := Lib.hid hc
        clear hp hc hs HK he hl
        go_wp2_with (go_at_call 80; refine (HC.out _).mono ?_; rintro e w' ⟨rfl, rfl⟩)
        go_ret
        exact ⟨ret_int (by rw [HS.out]), rfl⟩
      · rw [hp] at hc hs
        have HS := Lib.hid (hs.1 rfl)
        have HC := Lib.hid hc
        clear hp hc hs HK he hl
        go_wp2_with (go_at_call 80; refine (HC.out _).mono ?_; rintro e w' ⟨rfl, rfl⟩)
        go_round
        case rel => exact ⟨k + 1, by omega, by go_num, HS⟩
        case measure => simp [intOf]; omega
    · have hr := run_le nameB s.data.toList
      have hz : s.data.toList.length = s.size := by simp
      have hf : run nameB s.data.toList = k := by have := HK.out; omega
      have HS := Lib.hid hf
      clear hr hz hf HK
      go_wp2_with fail
      go_ret
      exact ⟨ret_int (by rw [HS.out]), rfl⟩

theorem run_line (s : ByteArray) (w : World) (h : s.size ≤ 70000) :
    Calls Tryd.prog 56 #[.string s, .func (.func 57) #[] #[]] w fun e w' => e = .returned (.int .i64 (run lineB s.data.toList)) ∧ w = w' := by
  go_enter Tryd.func56, Tryd.ntmps56
  go_wp2
  go_loop [5] (fun i => ∃ k : Nat, k ≤ s.size ∧ i = .int .i64 k ∧ Hid (k ≤ run lineB s.data.toList)) (fun i => s.size - (intOf i).toNat)
  case atStart => exact ⟨0, Nat.zero_le _, rfl, Lib.hid (Nat.zero_le _)⟩
  case round =>
    obtain ⟨k, hk, rfl, HK⟩ := hrel
    by_cases hlt : k < s.size
    · have hc := withinLine_any s[k]
      have hl : k < s.data.toList.length := by simpa using hlt
      have hs := run_snoc lineB s.data.toList k hl HK.out
      have he : s.data.toList[k] = s[k] := rfl
      rw [he] at hs
      cases hp : lineB s[k]
      · rw [hp] at hc hs
        have HS := Lib.hid (hs.2 rfl)
        have HC := Lib.hid hc
        clear hp hc hs HK he hl
        go_wp2_with (go_at_call 57; refine (HC.out _).mono ?_; rintro e w' ⟨rfl, rfl⟩)
        go_ret
        exact ⟨ret_int (by rw [HS.out]), rfl⟩
      · rw [hp] at hc hs
        have HS := Lib.hid (hs.1 rfl)
        have HC := Lib.hid hc
        clear hp hc hs HK he hl
        go_wp2_with (go_at_call 57; refine (HC.out _).mono ?_; rintro e w' ⟨rfl, rfl⟩)
        go_round
        case rel => exact ⟨k + 1, by omega, by go_num, HS⟩
        case measure => simp [intOf]; omega
    · have hr := run_le lineB s.data.toList
      have hz : s.data.toList.length = s.size := by simp
      have hf : run lineB s.data.toList = k := by have := HK.out; omega
      have HS := Lib.hid hf
      clear hr hz hf HK
      go_wp2_with fail
      go_ret
      exact ⟨ret_int (by rw [HS.out]), rfl⟩

end Go.Proofs.YtjjihijkkljbnaaDoor.lx
