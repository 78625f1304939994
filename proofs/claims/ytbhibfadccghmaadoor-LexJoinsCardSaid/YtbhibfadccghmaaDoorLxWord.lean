/-
  word of the laws of package lex: its walk.
-/
import Derived.Test.YtbhibfadccghmaaDoorLxRefKeys
import Derived.BigQuiet
import Derived.IntWalk
import Derived.Deep.QuietTactic
namespace Go.Proofs.YtbhibfadccghmaaDoor.lx
open Go.ChangeShapes Go.WideShapes Go.ChangeAt Go.RowKit
set_option linter.unusedVariables false

theorem ret_str {a b : ByteArray} (h : a = b) : Ending.returned (.string a) = .returned (.string b) := by rw [h]
def letters : List UInt8 := [97, 98, 99, 88, 89, 90, 48, 49, 57, 95]
def digits : List UInt8 := [48, 49, 50, 51, 52, 53, 54, 55, 56, 57]
def signsW : List (List UInt8) := [[40], [41], [61], [43], [45], [42], [47], [60], [62], [59], [58], [44], [124], [60, 62], [60, 61], [62, 61], [45, 62]]

/-- a word of a kind, made of numbers -/
def wordS (k : Nat) (ps : List Nat) : List UInt8 :=
  if k % 5 = 0 then 66 :: (ps.take 8).map fun x => letters.getD (x % 10) 0
  else if k % 5 = 1 then 55 :: (ps.take 8).map fun x => digits.getD (x % 10) 0
  else if k % 5 = 2 then keys.getD (ps.length * 7 % 32) []
  else if k % 5 = 3 then signsW.getD (ps.length % 17) []
  else 97 :: (ps.take 8).map fun x => letters.getD (x % 10) 0

/-- a slice of bytes that reads as such numbers -/
def Bytes (w : World) (a : Option Addr) (len : Nat) (ps : List Nat) : Prop :=
  ps.length = len ∧ ∀ i, i < len → ∃ b off, a = some ⟨b, off, none⟩ ∧ w.cell? ⟨b, off + i, none⟩ = some (.int .u8 (ps.getD i 0)) ∧ ps.getD i 0 ≤ 255

theorem letters_at (n : Nat) (h : n < 10) : (⟨#[97, 98, 99, 88, 89, 90, 48, 49, 57, 95]⟩ : ByteArray).extract n (n + 1) = ⟨#[letters.getD n 0]⟩ := by
  match n, h with
  | 0, _ => rfl
  | 1, _ => rfl
  | 2, _ => rfl
  | 3, _ => rfl
  | 4, _ => rfl
  | 5, _ => rfl
  | 6, _ => rfl
  | 7, _ => rfl
  | 8, _ => rfl
  | 9, _ => rfl
  | n + 10, h => exact absurd h (by omega)
theorem digits_at (n : Nat) (h : n < 10) : (⟨#[48, 49, 50, 51, 52, 53, 54, 55, 56, 57]⟩ : ByteArray).extract n (n + 1) = ⟨#[digits.getD n 0]⟩ := by
  match n, h with
  | 0, _ => rfl
  | 1, _ => rfl
  | 2, _ => rfl
  | 3, _ => rfl
  | 4, _ => rfl
  | 5, _ => rfl
  | 6, _ => rfl
  | 7, _ => rfl
  | 8, _ => rfl
  | 9, _ => rfl
  | n + 10, h => exact absurd h (by omega)

theorem take_more (ps : List Nat) (n : Nat) (h : n < ps.length) (f : Nat → UInt8) : (ps.take (n + 1)).map f = (ps.take n).map f ++ [f (ps.getD n 0)] := by
  rw [List.take_succ_eq_append_getElem h, List.map_append]
  simp [h]

theorem str_of (sb : ByteArray) (l : List UInt8) (h : sb.data.toList = l) : sb = ⟨l.toArray⟩ := by
  subst h
  obtain ⟨d⟩ := sb
  simp

theorem word_great (k : Nat) (a : Option Addr) (len cap : Nat) (ps : List Nat) (w : World) (hk : k ≤ 255) (hl : len ≤ 4611686018427387904) (hb : Bytes w a len ps) (h0 : k % 5 = 0) :
    Calls Tryd.prog 19 #[.int .u8 k, .slice a len cap] w fun e w' => e = .returned (.string ⟨(wordS k ps).toArray⟩) ∧ Below w.heap.size w w' := by
  have hk0 : ((k : Int) % 5 == 0) = true := by rw [beq_iff_eq]; omega
  have hW : wordS k ps = 66 :: (ps.take 8).map fun x => letters.getD (x % 10) 0 := by
    unfold wordS
    rw [if_pos (by omega)]
  rw [hW]
  have HB := Lib.hid hb
  clear hb hW h0
  go_enter Tryd.func19, Tryd.ntmps19
  go_wp2_with fail
  go_loopw [6, 9] (fun sv iv wr => ∃ (n j : Nat) (sb : ByteArray), n ≤ len ∧ n ≤ 8 ∧ iv = .int .i64 n ∧ sv = .string sb ∧ Hid (wr = w.drewN j) ∧ sb.size ≤ 9 ∧ Hid (sb.size = n + 1 ∧ sb.data.toList = 66 :: (ps.take n).map fun x => letters.getD (x % 10) 0)) (fun _ iv _ => 8 - (intOf iv).toNat)
  case atStart => exact ⟨0, 0, _, by omega, by omega, rfl, rfl, Lib.hid rfl, by decide, Lib.hid ⟨by decide, by simp⟩⟩
  case round =>
    obtain ⟨n, j, sb, hn, hn8, rfl, rfl, HW, hs9, HS⟩ := hrel
    by_cases hlt : n < len ∧ n < 8
    · obtain ⟨h1, h2⟩ := hlt
      obtain ⟨b, off, rfl, hc, hv⟩ := HB.out.2 n h1
      have hc : wr.cell? ⟨b, off + n, none⟩ = some (.int .u8 (ps.getD n 0)) := by rw [HW.out]; exact hc
      have hS1 := HS.out.1
      have hz : sb.size ≤ 8 := by omega
      obtain ⟨v, hvd⟩ : ∃ v, v = ps.getD n 0 := ⟨_, rfl⟩
      rw [← hvd] at hc hv
      have hm : v % 10 < 10 := Nat.mod_lt _ (by decide)
      have hd : (sb ++ (⟨#[letters.getD (v % 10) 0]⟩ : ByteArray)).data.toList = 66 :: (ps.take (n + 1)).map fun x => letters.getD (x % 10) 0 := by
        rw [take_more ps n (by rw [HB.out.1]; exact h1), ← hvd]
        have := HS.out.2
        simp [this]
      have hd2 : (sb ++ (⟨#[letters.getD (v % 10) 0]⟩ : ByteArray)).size = n + 1 + 1 := by
        rw [ByteArray.size_append, hS1]; rfl
      have HD := Lib.hid (And.intro hd2 hd)
      have HX := Lib.hid (letters_at (v % 10) hm)
      have s1 : IntKind.i64.wrap ((v : Int) % 10 + 1) = (v : Int) % 10 + 1 := IntWalk.i64_in _ (by omega)
      have s2 : (v : Int).tmod 10 = (v : Int) % 10 := by rw [Int.tmod_eq_emod_of_nonneg (by omega)]
      clear hvd hS1 hd hd2 HS
      go_wp2_with fail
      go_quiet (fail)
      go_wp2
      go_roundw
      case rel => exact ⟨n + 1, j + nq, _, by omega, by omega, by go_num, rfl, Lib.hid (by rw [HW.out]; exact World.drewN_drewN _ _ _), by rw [HX.out, HD.out.1]; omega, Lib.hid (by rw [HX.out]; exact HD.out)⟩
      case measure => simp [intOf]; omega
    · have hlen : ps.length = len := HB.out.1
      have ht : ps.take n = ps.take 8 := by
        by_cases h8 : n = 8
        · rw [h8]
        · rw [List.take_of_length_le (by omega), List.take_of_length_le (by omega)]
      have HS2 := Lib.hid (str_of sb _ HS.out.2)
      have HT := Lib.hid ht
      clear ht hlen HS
      by_cases hl1 : n < len
      all_goals
        go_wp2
        go_ret
        exact ⟨ret_str (by rw [HS2.out, HT.out]), by rw [HW.out]; exact ⟨rfl, rfl, rfl, Nat.le_refl _, fun _ _ => rfl⟩⟩

theorem word_digit (k : Nat) (a : Option Addr) (len cap : Nat) (ps : List Nat) (w : World) (hk : k ≤ 255) (hl : len ≤ 4611686018427387904) (hb : Bytes w a len ps) (h0 : k % 5 = 1) :
    Calls Tryd.prog 19 #[.int .u8 k, .slice a len cap] w fun e w' => e = .returned (.string ⟨(wordS k ps).toArray⟩) ∧ Below w.heap.size w w' := by
  have hk0 : ((k : Int) % 5 == 0) = false := by rw [beq_eq_false_iff_ne]; omega
  have hk1 : ((k : Int) % 5 == 1) = true := by rw [beq_iff_eq]; omega
  have hW : wordS k ps = 55 :: (ps.take 8).map fun x => digits.getD (x % 10) 0 := by
    unfold wordS
    rw [if_neg (by omega)]
    rw [if_pos (by omega)]
  rw [hW]
  have HB := Lib.hid hb
  clear hb hW h0
  go_enter Tryd.func19, Tryd.ntmps19
  go_wp2_with fail
  go_loopw [6, 9] (fun sv iv wr => ∃ (n j : Nat) (sb : ByteArray), n ≤ len ∧ n ≤ 8 ∧ iv = .int .i64 n ∧ sv = .string sb ∧ Hid (wr = w.drewN j) ∧ sb.size ≤ 9 ∧ Hid (sb.size = n + 1 ∧ sb.data.toList = 55 :: (ps.take n).map fun x => digits.getD (x % 10) 0)) (fun _ iv _ => 8 - (intOf iv).toNat)
  case atStart => exact ⟨0, 0, _, by omega, by omega, rfl, rfl, Lib.hid rfl, by decide, Lib.hid ⟨by decide, by simp⟩⟩
  case round =>
    obtain ⟨n, j, sb, hn, hn8, rfl, rfl, HW, hs9, HS⟩ := hrel
    by_cases hlt : n < len ∧ n < 8
    · obtain ⟨h1, h2⟩ := hlt
      obtain ⟨b, off, rfl, hc, hv⟩ := HB.out.2 n h1
      have hc : wr.cell? ⟨b, off + n, none⟩ = some (.int .u8 (ps.getD n 0)) := by rw [HW.out]; exact hc
      have hS1 := HS.out.1
      have hz : sb.size ≤ 8 := by omega
      obtain ⟨v, hvd⟩ : ∃ v, v = ps.getD n 0 := ⟨_, rfl⟩
      rw [← hvd] at hc hv
      have hm : v % 10 < 10 := Nat.mod_lt _ (by decide)
      have hd : (sb ++ (⟨#[digits.getD (v % 10) 0]⟩ : ByteArray)).data.toList = 55 :: (ps.take (n + 1)).map fun x => digits.getD (x % 10) 0 := by
        rw [take_more ps n (by rw [HB.out.1]; exact h1), ← hvd]
        have := HS.out.2
        simp [this]
      have hd2 : (sb ++ (⟨#[digits.getD (v % 10) 0]⟩ : ByteArray)).size = n + 1 + 1 := by
        rw [ByteArray.size_append, hS1]; rfl
      have HD := Lib.hid (And.intro hd2 hd)
      have HX := Lib.hid (digits_at (v % 10) hm)
      have s1 : IntKind.i64.wrap ((v : Int) % 10 + 1) = (v : Int) % 10 + 1 := IntWalk.i64_in _ (by omega)
      have s2 : (v : Int).tmod 10 = (v : Int) % 10 := by rw [Int.tmod_eq_emod_of_nonneg (by omega)]
      clear hvd hS1 hd hd2 HS
      go_wp2_with fail
      go_quiet (fail)
      go_wp2
      go_roundw
      case rel => exact ⟨n + 1, j + nq, _, by omega, by omega, by go_num, rfl, Lib.hid (by rw [HW.out]; exact World.drewN_drewN _ _ _), by rw [HX.out, HD.out.1]; omega, Lib.hid (by rw [HX.out]; exact HD.out)⟩
      case measure => simp [intOf]; omega
    · have hlen : ps.length = len := HB.out.1
      have ht : ps.take n = ps.take 8 := by
        by_cases h8 : n = 8
        · rw [h8]
        · rw [List.take_of_length_le (by omega), List.take_of_length_le (by omega)]
      have HS2 := Lib.hid (str_of sb _ HS.out.2)
      have HT := Lib.hid ht
      clear ht hlen HS
      by_cases hl1 : n < len
      all_goals
        go_wp2
        go_ret
        exact ⟨ret_str (by rw [HS2.out, HT.out]), by rw [HW.out]; exact ⟨rfl, rfl, rfl, Nat.le_refl _, fun _ _ => rfl⟩⟩

theorem word_small (k : Nat) (a : Option Addr) (len cap : Nat) (ps : List Nat) (w : World) (hk : k ≤ 255) (hl : len ≤ 4611686018427387904) (hb : Bytes w a len ps) (h0 : k % 5 = 4) :
    Calls Tryd.prog 19 #[.int .u8 k, .slice a len cap] w fun e w' => e = .returned (.string ⟨(wordS k ps).toArray⟩) ∧ Below w.heap.size w w' := by
  have hk0 : ((k : Int) % 5 == 0) = false := by rw [beq_eq_false_iff_ne]; omega
  have hk1 : ((k : Int) % 5 == 1) = false := by rw [beq_eq_false_iff_ne]; omega
  have hk2 : ((k : Int) % 5 == 2) = false := by rw [beq_eq_false_iff_ne]; omega
  have hk3 : ((k : Int) % 5 == 3) = false := by rw [beq_eq_false_iff_ne]; omega
  have hW : wordS k ps = 97 :: (ps.take 8).map fun x => letters.getD (x % 10) 0 := by
    unfold wordS
    rw [if_neg (by omega)]
    rw [if_neg (by omega)]
    rw [if_neg (by omega)]
    rw [if_neg (by omega)]
  rw [hW]
  have HB := Lib.hid hb
  clear hb hW h0
  go_enter Tryd.func19, Tryd.ntmps19
  go_wp2_with fail
  go_loopw [6, 9] (fun sv iv wr => ∃ (n j : Nat) (sb : ByteArray), n ≤ len ∧ n ≤ 8 ∧ iv = .int .i64 n ∧ sv = .string sb ∧ Hid (wr = w.drewN j) ∧ sb.size ≤ 9 ∧ Hid (sb.size = n + 1 ∧ sb.data.toList = 97 :: (ps.take n).map fun x => letters.getD (x % 10) 0)) (fun _ iv _ => 8 - (intOf iv).toNat)
  case atStart => exact ⟨0, 0, _, by omega, by omega, rfl, rfl, Lib.hid rfl, by decide, Lib.hid ⟨by decide, by simp⟩⟩
  case round =>
    obtain ⟨n, j, sb, hn, hn8, rfl, rfl, HW, hs9, HS⟩ := hrel
    by_cases hlt : n < len ∧ n < 8
    · obtain ⟨h1, h2⟩ := hlt
      obtain ⟨b, off, rfl, hc, hv⟩ := HB.out.2 n h1
      have hc : wr.cell? ⟨b, off + n, none⟩ = some (.int .u8 (ps.getD n 0)) := by rw [HW.out]; exact hc
      have hS1 := HS.out.1
      have hz : sb.size ≤ 8 := by omega
      obtain ⟨v, hvd⟩ : ∃ v, v = ps.getD n 0 := ⟨_, rfl⟩
      rw [← hvd] at hc hv
      have hm : v % 10 < 10 := Nat.mod_lt _ (by decide)
      have hd : (sb ++ (⟨#[letters.getD (v % 10) 0]⟩ : ByteArray)).data.toList = 97 :: (ps.take (n + 1)).map fun x => letters.getD (x % 10) 0 := by
        rw [take_more ps n (by rw [HB.out.1]; exact h1), ← hvd]
        have := HS.out.2
        simp [this]
      have hd2 : (sb ++ (⟨#[letters.getD (v % 10) 0]⟩ : ByteArray)).size = n + 1 + 1 := by
        rw [ByteArray.size_append, hS1]; rfl
      have HD := Lib.hid (And.intro hd2 hd)
      have HX := Lib.hid (letters_at (v % 10) hm)
      have s1 : IntKind.i64.wrap ((v : Int) % 10 + 1) = (v : Int) % 10 + 1 := IntWalk.i64_in _ (by omega)
      have s2 : (v : Int).tmod 10 = (v : Int) % 10 := by rw [Int.tmod_eq_emod_of_nonneg (by omega)]
      clear hvd hS1 hd hd2 HS
      go_wp2_with fail
      go_quiet (fail)
      go_wp2
      go_roundw
      case rel => exact ⟨n + 1, j + nq, _, by omega, by omega, by go_num, rfl, Lib.hid (by rw [HW.out]; exact World.drewN_drewN _ _ _), by rw [HX.out, HD.out.1]; omega, Lib.hid (by rw [HX.out]; exact HD.out)⟩
      case measure => simp [intOf]; omega
    · have hlen : ps.length = len := HB.out.1
      have ht : ps.take n = ps.take 8 := by
        by_cases h8 : n = 8
        · rw [h8]
        · rw [List.take_of_length_le (by omega), List.take_of_length_le (by omega)]
      have HS2 := Lib.hid (str_of sb _ HS.out.2)
      have HT := Lib.hid ht
      clear ht hlen HS
      by_cases hl1 : n < len
      all_goals
        go_wp2
        go_ret
        exact ⟨ret_str (by rw [HS2.out, HT.out]), by rw [HW.out]; exact ⟨rfl, rfl, rfl, Nat.le_refl _, fun _ _ => rfl⟩⟩

theorem word_key (k : Nat) (a : Option Addr) (len cap : Nat) (ps : List Nat) (w : World) (hk : k ≤ 255) (hl : len ≤ 1152921504606846976) (hb : Bytes w a len ps) (h0 : k % 5 = 2) :
    Calls Tryd.prog 19 #[.int .u8 k, .slice a len cap] w fun e w' => e = .returned (.string ⟨(wordS k ps).toArray⟩) ∧ Below w.heap.size w w' := by
  have hk0 : ((k : Int) % 5 == 0) = false := by rw [beq_eq_false_iff_ne]; omega
  have hk1 : ((k : Int) % 5 == 1) = false := by rw [beq_eq_false_iff_ne]; omega
  have hk2 : ((k : Int) % 5 == 2) = true := by rw [beq_iff_eq]; omega
  have hW : wordS k ps = keys.getD (len * 7 % 32) [] := by
    unfold wordS
    rw [if_neg (by omega), if_neg (by omega), if_pos h0, hb.1]
  rw [hW]
  have hj : len * 7 % 32 < 32 := Nat.mod_lt _ (by decide)
  have hka := keysA_at (len * 7 % 32) hj
  generalize (⟨(keys.getD (len * 7 % 32) []).toArray⟩ : ByteArray) = kb at *
  have HA := Lib.hid hka
  clear hW h0 hka hb
  go_enter Tryd.func19, Tryd.ntmps19
  go_wp2_with fail
  refine (refKeys_any _).mono ?_
  rintro e w1 ⟨g, rfl, hg, hh, hb⟩
  have hc := (hh.cell (len * 7 % 32)).trans HA.out
  have HB := Lib.hid hb
  clear hb hh
  go_wp2
  go_ret
  exact ⟨rfl, HB.out⟩

def signsA : Array Value := #[.string ⟨#[40]⟩, .string ⟨#[41]⟩, .string ⟨#[61]⟩, .string ⟨#[43]⟩, .string ⟨#[45]⟩, .string ⟨#[42]⟩, .string ⟨#[47]⟩, .string ⟨#[60]⟩, .string ⟨#[62]⟩, .string ⟨#[59]⟩, .string ⟨#[58]⟩, .string ⟨#[44]⟩, .string ⟨#[124]⟩, .string ⟨#[60, 62]⟩, .string ⟨#[60, 61]⟩, .string ⟨#[62, 61]⟩, .string ⟨#[45, 62]⟩]
theorem signsA_at (k : Nat) (hk : k < 17) : signsA[k]? = some (.string ⟨(signsW.getD k []).toArray⟩) := by
  match k, hk with
  | 0, _ => rfl
  | 1, _ => rfl
  | 2, _ => rfl
  | 3, _ => rfl
  | 4, _ => rfl
  | 5, _ => rfl
  | 6, _ => rfl
  | 7, _ => rfl
  | 8, _ => rfl
  | 9, _ => rfl
  | 10, _ => rfl
  | 11, _ => rfl
  | 12, _ => rfl
  | 13, _ => rfl
  | 14, _ => rfl
  | 15, _ => rfl
  | 16, _ => rfl
  | k + 17, h => exact absurd h (by omega)

theorem word_sign (k : Nat) (a : Option Addr) (len cap : Nat) (ps : List Nat) (w : World) (hk : k ≤ 255) (hl : len ≤ 1152921504606846976) (hb : Bytes w a len ps) (h0 : k % 5 = 3) :
    Calls Tryd.prog 19 #[.int .u8 k, .slice a len cap] w fun e w' => e = .returned (.string ⟨(wordS k ps).toArray⟩) ∧ Below w.heap.size w w' := by
  have hk0 : ((k : Int) % 5 == 0) = false := by rw [beq_eq_false_iff_ne]; omega
  have hk1 : ((k : Int) % 5 == 1) = false := by rw [beq_eq_false_iff_ne]; omega
  have hk2 : ((k : Int) % 5 == 2) = false := by rw [beq_eq_false_iff_ne]; omega
  have hk3 : ((k : Int) % 5 == 3) = true := by rw [beq_iff_eq]; omega
  have hW : wordS k ps = signsW.getD (len % 17) [] := by
    unfold wordS
    rw [if_neg (by omega), if_neg (by omega), if_neg (by omega), if_pos h0, hb.1]
  rw [hW]
  have hj : len % 17 < 17 := Nat.mod_lt _ (by decide)
  have hka := signsA_at (len % 17) hj
  generalize (⟨(signsW.getD (len % 17) []).toArray⟩ : ByteArray) = kb at *
  have hc : (w.alloc (.cells signsA 9)).cell? ⟨w.heap.size, len % 17, none⟩ = some (.string kb) := ((Has.new w 9 signsA).cell (len % 17)).trans hka
  unfold signsA at hc
  clear hW h0 hka hb
  go_enter Tryd.func19, Tryd.ntmps19
  go_wp2
  go_ret
  exact ⟨rfl, (Below.refl _ _).alloc (Nat.le_refl _) _⟩

theorem word_any (k : Nat) (a : Option Addr) (len cap : Nat) (ps : List Nat) (w : World) (hk : k ≤ 255) (hl : len ≤ 1152921504606846976) (hb : Bytes w a len ps) :
    Calls Tryd.prog 19 #[.int .u8 k, .slice a len cap] w fun e w' => e = .returned (.string ⟨(wordS k ps).toArray⟩) ∧ Below w.heap.size w w' := by
  have h5 : k % 5 = 0 ∨ k % 5 = 1 ∨ k % 5 = 2 ∨ k % 5 = 3 ∨ k % 5 = 4 := by omega
  rcases h5 with h | h | h | h | h
  · exact word_great k a len cap ps w hk (by omega) hb h
  · exact word_digit k a len cap ps w hk (by omega) hb h
  · exact word_key k a len cap ps w hk hl hb h
  · exact word_sign k a len cap ps w hk hl hb h
  · exact word_small k a len cap ps w hk (by omega) hb h
end Go.Proofs.YtbhibfadccghmaaDoor.lx
