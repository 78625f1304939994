/-
  The document's answer for package lex: digit, letter, one, number: their walks.
-/
import Derived.Test.YtjjihijkkljbnaaDoorLxRPure
import Derived.Test.YtjjihijkkljbnaaDoorLxRefKeys
namespace Go.Proofs.YtjjihijkkljbnaaDoor.lx
open Go.ChangeShapes Go.WideShapes Go.ChangeAt Go.RowKit
set_option linter.unusedVariables false

theorem rdigit_any (c : UInt8) (w : World) :
    Calls Tryd.prog 39 #[.int .u8 c.toNat] w fun e w' => e = .returned (.bool (digB c)) ∧ w = w' := by
  have hc : c.toNat < 256 := c.toNat_lt
  by_cases h1 : 48 ≤ c.toNat
  all_goals
    go_enter Tryd.func39, Tryd.ntmps39
    go_wp2
    go_ret
    exact ⟨ret_bool (by rw [Bool.eq_iff_iff]; simp [digB]; omega), rfl⟩

theorem rletter_any (c : UInt8) (w : World) :
    Calls Tryd.prog 41 #[.int .u8 c.toNat] w fun e w' => e = .returned (.bool (letB c)) ∧ w = w' := by
  have hc : c.toNat < 256 := c.toNat_lt
  have hcase : (c.toNat < 65) ∨ (65 ≤ c.toNat ∧ c.toNat ≤ 90) ∨ (90 < c.toNat ∧ c.toNat < 97 ∧ c.toNat ≠ 95) ∨ c.toNat = 95 ∨ (97 ≤ c.toNat ∧ c.toNat ≤ 122) ∨ 122 < c.toNat := by omega
  rcases hcase with h | ⟨h, h'⟩ | ⟨h, h', h2⟩ | h | ⟨h, h'⟩ | h
  · have hb : ((c.toNat : Int) == 95) = false := by rw [beq_eq_false_iff_ne]; omega
    go_enter Tryd.func41, Tryd.ntmps41
    go_wp2
    go_ret
    exact ⟨ret_bool (by rw [Bool.eq_iff_iff]; simp [letB, smallB, greatB]; omega), rfl⟩
  · have hb : ((c.toNat : Int) == 95) = false := by rw [beq_eq_false_iff_ne]; omega
    go_enter Tryd.func41, Tryd.ntmps41
    go_wp2
    go_ret
    exact ⟨ret_bool (by rw [Bool.eq_iff_iff]; simp [letB, smallB, greatB]; omega), rfl⟩
  · have hb : ((c.toNat : Int) == 95) = false := by rw [beq_eq_false_iff_ne]; omega
    go_enter Tryd.func41, Tryd.ntmps41
    go_wp2
    go_ret
    exact ⟨ret_bool (by rw [Bool.eq_iff_iff]; simp [letB, smallB, greatB]; omega), rfl⟩
  · have hb : ((c.toNat : Int) == 95) = true := by rw [beq_iff_eq]; omega
    have hlo : (90 : Int) < (c.toNat : Int) := by omega
    have hhi : (c.toNat : Int) < 97 := by omega
    have HC := Lib.hid h
    clear h
    go_enter Tryd.func41, Tryd.ntmps41
    go_wp2
    go_ret
    exact ⟨ret_bool (by rw [Bool.eq_iff_iff]; have := HC.out; simp [letB, smallB, greatB]; omega), rfl⟩
  · go_enter Tryd.func41, Tryd.ntmps41
    go_wp2
    go_ret
    exact ⟨ret_bool (by rw [Bool.eq_iff_iff]; simp [letB, smallB, greatB]; omega), rfl⟩
  · have hb : ((c.toNat : Int) == 95) = false := by rw [beq_eq_false_iff_ne]; omega
    go_enter Tryd.func41, Tryd.ntmps41
    go_wp2
    go_ret
    exact ⟨ret_bool (by rw [Bool.eq_iff_iff]; simp [letB, smallB, greatB]; omega), rfl⟩

def onesA : ByteArray := ⟨#[40, 41, 61, 43, 45, 42, 47, 60, 62, 59, 58, 44, 124]⟩
theorem ones_list : onesA.data.toList = [40, 41, 61, 43, 45, 42, 47, 60, 62, 59, 58, 44, 124] := rfl
theorem one_no (c : UInt8) (h : ∀ j (hj : j < onesA.size), onesA[j].toNat ≠ c.toNat) : oneB c = false := by
  unfold oneB
  rw [← ones_list, ← Bool.not_eq_true, List.contains_iff_mem]
  intro hm
  obtain ⟨j, hj, e⟩ := List.getElem_of_mem hm
  have hj2 : j < onesA.size := hj
  exact h j hj2 (by rw [← e]; rfl)
theorem one_yes (c : UInt8) (j : Nat) (hj : j < onesA.size) (h : onesA[j].toNat = c.toNat) : oneB c = true := by
  unfold oneB
  rw [← ones_list, List.contains_iff_mem, ← UInt8.toNat_inj.1 h]
  exact List.getElem_mem (l := onesA.data.toList) hj

theorem rone_any (c : UInt8) (w : World) :
    Calls Tryd.prog 43 #[.int .u8 c.toNat] w fun e w' => e = .returned (.bool (oneB c)) ∧ w = w' := by
  have hc : c.toNat < 256 := c.toNat_lt
  go_enter Tryd.func43, Tryd.ntmps43
  go_wp2_with fail
  generalize hob : ({ data := #[40, 41, 61, 43, 45, 42, 47, 60, 62, 59, 58, 44, 124] } : ByteArray) = ob
  have hsz : 13 ≤ ob.size ∧ ob.size ≤ 13 := by rw [← hob]; decide
  have HOB : Hid (ob = onesA) := Lib.hid hob.symm
  obtain ⟨hs1, hs2⟩ := hsz
  clear hob
  go_loop [4] (fun i => ∃ k : Nat, k ≤ ob.size ∧ i = .int .i64 k ∧ Hid (∀ j (hj : j < ob.size), j < k → ob[j].toNat ≠ c.toNat)) (fun i => ob.size - (intOf i).toNat)
  case atStart => exact ⟨0, Nat.zero_le _, rfl, Lib.hid fun j hj h => absurd h (by omega)⟩
  case round =>
    obtain ⟨k, hk, rfl, HK⟩ := hrel
    by_cases hlt : k < ob.size
    · by_cases he : ob[k].toNat = c.toNat
      · have hb : ((ob[k].toNat : Int) == (c.toNat : Int)) = true := by rw [beq_iff_eq]; omega
        have HY : Hid (oneB c = true) := Lib.hid (by
          have e := HOB.out
          subst e
          exact one_yes c k hlt he)
        clear he
        go_wp2_with fail
        go_ret
        exact ⟨ret_bool HY.out.symm, rfl⟩
      · have hb : ((ob[k].toNat : Int) == (c.toNat : Int)) = false := by rw [beq_eq_false_iff_ne]; omega
        have HE := Lib.hid he
        clear he
        go_wp2_with fail
        go_round
        case rel => exact ⟨k + 1, by omega, by go_num, Lib.hid fun j hj h => by
          by_cases e : j = k
          · subst e; exact HE.out
          · exact HK.out j hj (by omega)⟩
        case measure => simp [intOf]; omega
    · have HY : Hid (oneB c = false) := Lib.hid (by
        have e := HOB.out
        subst e
        exact one_no c fun j hj => HK.out j hj (by omega))
      clear HK
      go_wp2_with fail
      go_ret
      exact ⟨ret_bool HY.out.symm, rfl⟩

/-- what the loop knows: n digits so far, their value -/
structure NumAt (s : ByteArray) (i n v : Nat) : Prop where
  run : n ≤ run digB (s.data.toList.drop i)
  val : v = valF ((s.data.toList.drop i).take n)
  le : v ≤ 2147483648

theorem run_at (s : ByteArray) (i n : Nat) (h : n ≤ run digB (s.data.toList.drop i)) (hk : i + n < s.size) : (digB s[i + n] = true → n + 1 ≤ run digB (s.data.toList.drop i) ∧ (s.data.toList.drop i).take (n + 1) = (s.data.toList.drop i).take n ++ [s[i + n]]) ∧ (digB s[i + n] = false → n = run digB (s.data.toList.drop i)) := by
  have hl : n < (s.data.toList.drop i).length := by simp; omega
  have hs := run_snoc digB (s.data.toList.drop i) n hl h
  have he : (s.data.toList.drop i)[n] = s[i + n] := by rw [List.getElem_drop]; rfl
  rw [he] at hs
  refine ⟨fun hd => ⟨hs.1 hd, ?_⟩, fun hd => (hs.2 hd).symm⟩
  rw [List.take_succ_eq_append_getElem hl, he]

theorem run_end (s : ByteArray) (i n : Nat) (h : n ≤ run digB (s.data.toList.drop i)) (hk : ¬ i + n < s.size) : n = run digB (s.data.toList.drop i) := by
  have := run_le digB (s.data.toList.drop i)
  rw [List.length_drop] at this
  have : s.data.toList.length = s.size := by simp
  omega

theorem valF_mono (l : List UInt8) (n : Nat) (h : valF (l.take n) = 2147483649) : valF l = 2147483649 := by
  have e : l = l.take n ++ l.drop n := (List.take_append_drop n l).symm
  rw [e]
  unfold valF at h ⊢
  rw [List.foldl_append, h]
  generalize l.drop n = m
  induction m with
  | nil => rfl
  | cons c r ih =>
    rw [List.foldl_cons, show min (10 * 2147483649 + (c.toNat - 48)) 2147483649 = 2147483649 by omega]
    exact ih

theorem rnumber_any (s : ByteArray) (i : Nat) (w : World) (h : s.size ≤ 70000) (hi : i ≤ s.size) :
    Calls Tryd.prog 40 #[.string s, .int .i64 i] w fun e w' => (∃ k v : Nat, e = .returned (.tuple #[.int .i64 k, .int .i64 v]) ∧ k ≤ run digB (s.data.toList.drop i) ∧ v = valF ((s.data.toList.drop i).take (run digB (s.data.toList.drop i))) ∧ (v ≤ 2147483648 → k = run digB (s.data.toList.drop i))) ∧ w = w' := by
  go_enter Tryd.func40, Tryd.ntmps40
  go_wp2_with fail
  go_loop [6, 7] (fun nv vv => ∃ n v : Nat, i + n ≤ s.size ∧ nv = .int .i64 n ∧ vv = .int .i64 v ∧ v ≤ 2147483648 ∧ Hid (NumAt s i n v)) (fun nv _ => s.size - (intOf nv).toNat)
  case atStart => exact ⟨0, 0, by omega, rfl, rfl, by omega, Lib.hid ⟨Nat.zero_le _, by simp [valF], by omega⟩⟩
  case round =>
    obtain ⟨n, v, hn, rfl, rfl, hv, HN⟩ := hrel
    by_cases hlt : i + n < s.size
    · have hd := rdigit_any s[i + n]
      have hra := run_at s i n HN.out.run hlt
      cases hq : digB s[i + n]
      · rw [hq] at hd hra
        have HR := Lib.hid (hra.2 rfl)
        have HD := Lib.hid hd
        clear hd hra hq
        go_wp2_with fail
        refine (HD.out _).mono ?_
        rintro e w' ⟨rfl, rfl⟩
        go_wp2_with fail
        go_ret2
        exact ⟨⟨n, v, rfl, HN.out.run, by rw [← HR.out]; exact HN.out.val, fun _ => HR.out⟩, rfl⟩
      · rw [hq] at hd hra
        obtain ⟨r1, r2⟩ := hra.1 rfl
        have hc1 : 48 ≤ s[i + n].toNat ∧ s[i + n].toNat ≤ 57 := by simpa [digB] using hq
        obtain ⟨hc1, hc2⟩ := hc1
        have hval : valF ((s.data.toList.drop i).take (n + 1)) = min (10 * v + (s[i + n].toNat - 48)) 2147483649 := by rw [r2, valF_snoc, ← HN.out.val]
        have HR := Lib.hid r1
        have HV := Lib.hid hval
        have HD := Lib.hid hd
        clear hd hra hq r1 r2 hval
        by_cases hm : 10 * v + (s[i + n].toNat - 48) ≤ 2147483648
        · have hm2 : ¬ ((2147483648 : Int) < 10 * (v : Int) + ((s[i + n].toNat : Int) - 48)) := by omega
          have hc3 : (48 : Int) ≤ (s[i + n].toNat : Int) := by omega
          go_wp2_with fail
          refine (HD.out _).mono ?_
          rintro e w' ⟨rfl, rfl⟩
          go_wp2_with fail
          go_round
          case rel => exact ⟨n + 1, 10 * v + (s[i + n].toNat - 48), by omega, by go_num, by go_num, hm, Lib.hid ⟨HR.out, by rw [HV.out]; omega, hm⟩⟩
          case measure => simp [intOf]; omega
        · have hm2 : (2147483648 : Int) < 10 * (v : Int) + ((s[i + n].toNat : Int) - 48) := by omega
          have hbig : valF ((s.data.toList.drop i).take (n + 1)) = 2147483649 := by rw [HV.out]; omega
          have hall : valF ((s.data.toList.drop i).take (run digB (s.data.toList.drop i))) = 2147483649 := by
            have := valF_mono ((s.data.toList.drop i).take (run digB (s.data.toList.drop i))) (n + 1)
            rw [List.take_take, Nat.min_eq_left HR.out] at this
            exact this hbig
          have HA := Lib.hid hall
          clear hbig hall
          go_wp2_with fail
          refine (HD.out _).mono ?_
          rintro e w' ⟨rfl, rfl⟩
          go_wp2_with fail
          go_ret2
          exact ⟨⟨n, 2147483649, rfl, HN.out.run, HA.out.symm, fun h => absurd h (by omega)⟩, rfl⟩
    · have HR := Lib.hid (run_end s i n HN.out.run hlt)
      go_wp2_with fail
      go_ret2
      exact ⟨⟨n, v, rfl, HN.out.run, by rw [← HR.out]; exact HN.out.val, fun _ => HR.out⟩, rfl⟩
end Go.Proofs.YtjjihijkkljbnaaDoor.lx
