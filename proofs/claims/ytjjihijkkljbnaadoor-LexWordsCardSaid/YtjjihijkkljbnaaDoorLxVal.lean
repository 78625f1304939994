/-
  value, strings.HasPrefix, gap of package lex: their walks.
-/
import Derived.Test.YtjjihijkkljbnaaDoorLxRun
import Derived.WalkSpells
import Derived.WalkLawsBesides
import Derived.Lib.Strings
namespace Go.Proofs.YtjjihijkkljbnaaDoor.lx
open Go.ChangeShapes Go.WideShapes Go.ChangeAt Go.RowKit
set_option linter.unusedVariables false

theorem valF_le (l : List UInt8) : valF l ≤ 2147483649 := by
  unfold valF
  suffices h : ∀ (l : List UInt8) (v : Nat), v ≤ 2147483649 → l.foldl (fun v c => min (10 * v + (c.toNat - 48)) 2147483649) v ≤ 2147483649 by exact h l 0 (by omega)
  intro l
  induction l with
  | nil => intro v h; exact h
  | cons c r ih => intro v h; exact ih _ (Nat.min_le_right _ _)

theorem take_snoc' (s : ByteArray) (k : Nat) (h : k < s.size) : s.data.toList.take (k + 1) = s.data.toList.take k ++ [s[k]] := by
  rw [List.take_succ_eq_append_getElem (by simpa using h)]; rfl

theorem valF_snoc (l : List UInt8) (c : UInt8) : valF (l ++ [c]) = min (10 * valF l + (c.toNat - 48)) 2147483649 := by
  unfold valF; simp

theorem value_any (s : ByteArray) (w : World) (h : s.size ≤ 70000) (hd : ∀ c ∈ s.data.toList, digB c = true) :
    Calls Tryd.prog 78 #[.string s] w fun e w' => e = .returned (.int .i64 (valF s.data.toList)) ∧ w = w' := by
  have HD := Lib.hid hd
  clear hd
  go_enter Tryd.func78, Tryd.ntmps78
  go_wp2
  go_loop [3, 7] (fun v i => ∃ (k n : Nat), k ≤ s.size ∧ i = .int .i64 k ∧ v = .int .i64 n ∧ n ≤ 2147483649 ∧ Hid (n = valF (s.data.toList.take k))) (fun _ i => s.size - (intOf i).toNat)
  case atStart => exact ⟨0, 0, Nat.zero_le _, rfl, rfl, by omega, Lib.hid (by simp [valF])⟩
  case round =>
    obtain ⟨k, n, hk, rfl, rfl, hn, HN⟩ := hrel
    by_cases hlt : k < s.size
    · have hdg := HD.out s[k] (by have : s[k] = s.data.toList[k]'(by simpa using hlt) := rfl; rw [this]; exact List.getElem_mem _)
      have hc1 : 48 ≤ s[k].toNat ∧ s[k].toNat ≤ 57 := by simpa [digB] using hdg
      obtain ⟨hc1, hc2⟩ := hc1
      have HS : Hid (valF (s.data.toList.take (k + 1)) = min (10 * n + (s[k].toNat - 48)) 2147483649) := Lib.hid (by rw [take_snoc' s k hlt, valF_snoc, ← HN.out])
      clear hdg HN
      by_cases hm : 10 * n + (s[k].toNat - 48) ≤ 2147483649
      · go_wp2
        go_round
        case rel => exact ⟨k + 1, 10 * n + (s[k].toNat - 48), by omega, by go_num, by go_num, hm, Lib.hid (by rw [HS.out]; omega)⟩
        case measure => simp [intOf]; omega
      · have hm2 : (2147483649 : Int) < 10 * (n : Int) + ((s[k].toNat : Int) - 48) := by omega
        go_wp2
        go_round
        case rel => exact ⟨k + 1, 2147483649, by omega, by go_num, by simp, by omega, Lib.hid (by rw [HS.out]; omega)⟩
        case measure => simp [intOf]; omega
    · have hf : n = valF s.data.toList := by rw [HN.out, List.take_of_length_le (by simp; omega)]
      have HS := Lib.hid hf
      clear hf HN HD
      go_wp2
      go_ret
      exact ⟨ret_int (by rw [HS.out]), rfl⟩

theorem prefix_take (s t : List UInt8) (h : t.length ≤ s.length) : (s.take t.length == t) = t.isPrefixOf s := by
  rw [Bool.eq_iff_iff, List.isPrefixOf_iff_prefix, List.prefix_iff_eq_take, beq_iff_eq]
  exact ⟨fun h => h.symm, fun h => h.symm⟩
theorem prefix_short (s t : List UInt8) (h : s.length < t.length) : t.isPrefixOf s = false := by
  rw [← Bool.not_eq_true, List.isPrefixOf_iff_prefix]
  intro hp
  have := hp.length_le
  omega

theorem hasPrefix_any (s t : ByteArray) (w : World) (h : s.size ≤ 70000) (ht : t.size ≤ 70000) :
    Calls Tryd.prog 55 #[.string s, .string t] w fun e w' => e = .returned (.bool (t.data.toList.isPrefixOf s.data.toList)) ∧ w = w' := by
  by_cases hl : t.size ≤ s.size
  · go_enter Tryd.func55, Tryd.ntmps55
    go_wp2
    go_ret
    refine ⟨?_, rfl⟩
    refine ret_bool (a := ((s.extract 0 t.size).toList == t.toList)) ?_
    rw [Lib.extract_toList, Lib.toList_data, ← prefix_take _ _ (by simpa using hl)]
    simp
  · go_enter Tryd.func55, Tryd.ntmps55
    go_wp2
    go_ret
    refine ⟨?_, rfl⟩
    exact ret_bool (a := false) (prefix_short _ _ (by simp; omega)).symm

theorem tail_data (s : ByteArray) (k : Nat) : (s.extract k s.size).data.toList = s.data.toList.drop k := by
  rw [Lib.extract_data, List.take_of_length_le (by simp)]

theorem drop_at (s : ByteArray) (k : Nat) (h : k < s.size) : s.data.toList.drop k = s[k] :: s.data.toList.drop (k + 1) := by
  rw [List.drop_eq_getElem_cons (by simpa using h)]; rfl

theorem gap_any (s : ByteArray) (w : World) (h : s.size ≤ 70000) :
    Calls Tryd.prog 37 #[.string s] w fun e w' => e = .returned (.int .i64 (gapB false s.data.toList)) ∧ w = w' := by
  go_enter Tryd.func37, Tryd.ntmps37
  go_wp2
  go_loop [3] (fun i => ∃ k : Nat, k ≤ s.size ∧ i = .int .i64 k ∧ Hid (gapB false s.data.toList = k + gapB false (s.data.toList.drop k))) (fun i => s.size - (intOf i).toNat)
  case atStart => exact ⟨0, Nat.zero_le _, rfl, Lib.hid (by simp)⟩
  case round =>
    obtain ⟨k, hk, rfl, HK⟩ := hrel
    by_cases hlt : k < s.size
    · have hd := drop_at s k hlt
      have hlen : (s.data.toList.drop (k + 1)).length = s.size - (k + 1) := by simp
      by_cases hb : blankB s[k] = true
      · have HS : Hid (gapB false s.data.toList = (k + 1 : Nat) + gapB false (s.data.toList.drop (k + 1))) := Lib.hid (by rw [HK.out, hd]; simp [gapB, hb]; omega)
        have hbb : s[k].toNat = 32 ∨ s[k].toNat = 9 ∨ s[k].toNat = 10 := by
          have := hb
          simp [blankB] at this
          omega
        clear hd hlen hb HK
        have hbf : ((s[k].toNat : Int) == 32) = true ∨ (((s[k].toNat : Int) == 32) = false ∧ ((s[k].toNat : Int) == 9) = true) ∨ (((s[k].toNat : Int) == 32) = false ∧ ((s[k].toNat : Int) == 9) = false ∧ ((s[k].toNat : Int) == 10) = true) := by
          rcases hbb with hb | hb | hb
          · exact .inl (by rw [hb]; rfl)
          · exact .inr (.inl ⟨by rw [hb]; rfl, by rw [hb]; rfl⟩)
          · exact .inr (.inr ⟨by rw [hb]; rfl, by rw [hb]; rfl, by rw [hb]; rfl⟩)
        clear hbb
        rcases hbf with b1 | ⟨b1, b2⟩ | ⟨b1, b2, b3⟩
        all_goals
          go_wp2
          go_round
          case rel => exact ⟨k + 1, by omega, by go_num, HS⟩
          case measure => simp [intOf]; omega
      · have hb' : ((s[k].toNat : Int) == 32) = false ∧ ((s[k].toNat : Int) == 9) = false ∧ ((s[k].toNat : Int) == 10) = false := by
          simp [blankB] at hb
          refine ⟨?_, ?_, ?_⟩ <;> (rw [beq_eq_false_iff_ne]; omega)
        obtain ⟨b1, b2, b3⟩ := hb'
        have hsz : (s.extract k s.size).size ≤ 70000 := by simp; omega
        have hp := hasPrefix_any (s.extract k s.size) ⟨#[45, 45]⟩
        have hx : (s.extract k s.size).data.toList = s.data.toList.drop k := tail_data s k
        rw [hx] at hp
        by_cases hm : s[k].toNat = 45 ∧ (s.data.toList.drop (k + 1)).head?.map (·.toNat) = some 45
        · have h1 : (⟨#[45, 45]⟩ : ByteArray).data.toList.isPrefixOf (s.data.toList.drop k) = true := by
            obtain ⟨m1, m2⟩ := hm
            rw [hd]
            cases hq : s.data.toList.drop (k + 1) with
            | nil => rw [hq] at m2; simp at m2
            | cons c r =>
              rw [hq] at m2
              simp at m2
              have e1 : s[k] = 45 := UInt8.toNat_inj.1 m1
              have e2 : c = 45 := UInt8.toNat_inj.1 m2
              simp [e1, e2]
          have hl := run_line (s.extract k s.size)
          rw [hx] at hl
          have hg : gapB false s.data.toList = (k + run lineB (s.data.toList.drop k) : Nat) + gapB false (s.data.toList.drop (k + run lineB (s.data.toList.drop k))) := by
            have hge : gapB false (s.data.toList.drop k) = gapB true (s.data.toList.drop k) := by
              rw [hd]
              simp only [gapB, hb, if_false, Bool.false_eq_true]
              rw [if_pos hm]
              have : ¬ s[k].toNat = 10 := by omega
              rw [if_neg this]
            rw [HK.out, hge, gapB_true, List.drop_drop]
            omega
          have hrl := run_le lineB (s.data.toList.drop k)
          have hr1 : 1 ≤ run lineB (s.data.toList.drop k) := by
            rw [hd]
            have : lineB s[k] = true := by simp [lineB]; omega
            simp [run, this]
          rw [List.length_drop] at hrl
          have hsl : s.data.toList.length = s.size := by simp
          rw [hsl] at hrl
          rw [h1] at hp
          generalize run lineB (s.data.toList.drop k) = m at *
          have HP := Lib.hid hp
          have HL := Lib.hid hl
          have HG := Lib.hid hg
          have HZ := Lib.hid hsz
          clear hp hl hg hsz hx h1 hm hb hd hlen HK hsl
          go_wp2_with (first | (go_at_call 55; refine (HP.out _ HZ.out (by decide)).mono ?_; rintro e w' ⟨rfl, rfl⟩) | (go_at_call 56; refine (HL.out _ HZ.out).mono ?_; rintro e w' ⟨rfl, rfl⟩))
          go_round
          case rel => exact ⟨k + m, by omega, by go_num, HG⟩
          case measure => simp [intOf]; omega
        · have h1 : (⟨#[45, 45]⟩ : ByteArray).data.toList.isPrefixOf (s.data.toList.drop k) = false := by
            rw [hd, ← Bool.not_eq_true]
            intro hq
            apply hm
            cases hr : s.data.toList.drop (k + 1) with
            | nil => rw [hr] at hq; simp at hq
            | cons c r =>
              rw [hr] at hq
              simp at hq
              exact ⟨by rw [← hq.1]; rfl, by rw [← hq.2]; rfl⟩
          have hg : gapB false s.data.toList = k := by
            rw [HK.out, hd]
            simp only [gapB, hb, Bool.false_eq_true, if_false]
            rw [if_neg hm, Nat.add_zero]
          rw [h1] at hp
          have HP := Lib.hid hp
          have HG := Lib.hid hg
          have HZ := Lib.hid hsz
          clear hp hg hsz hx h1 hm hb hd hlen HK
          go_wp2_with (go_at_call 55; refine (HP.out _ HZ.out (by decide)).mono ?_; rintro e w' ⟨rfl, rfl⟩)
          go_ret
          exact ⟨ret_int (by rw [HG.out]), rfl⟩
    · have hf : gapB false s.data.toList = k := by rw [HK.out, List.drop_of_length_le (by simp; omega)]; simp [gapB]
      have HS := Lib.hid hf
      clear hf HK
      go_wp2
      go_ret
      exact ⟨ret_int (by rw [HS.out]), rfl⟩
end Go.Proofs.YtjjihijkkljbnaaDoor.lx
