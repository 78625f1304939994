/-
  The first of which something holds: slices.Index and Contains of strings; place of package tree, and the closures that it calls.
-/
import Derived.Test.YtjkkalhgbfbcbaaTrEqs
import Derived.Test.YtjkkalhgbfbcbaaTrSame
namespace Go.Proofs.Ytjkkalhgbfbcbaa.tr
open Go.ChangeShapes Go.WideShapes Go.ChangeAt Go.RowKit
set_option linter.unusedVariables false

/-- the place of the first that is true, from i on -/
def fstN : List Bool → Nat → Int
  | [], _ => -1
  | b :: r, i => if b = true then (i : Int) else fstN r (i + 1)
theorem fstN_at (l : List Bool) (i : Nat) (hi : i < l.length) : fstN (l.drop i) i = if l[i] = true then (i : Int) else fstN (l.drop (i + 1)) (i + 1) := by
  rw [List.drop_eq_getElem_cons hi, fstN]
theorem fstN_end (l : List Bool) : fstN (l.drop l.length) l.length = -1 := by rw [List.drop_length, fstN]
theorem fstN_range (l : List Bool) (i : Nat) : (fstN l i = -1 ∨ ((i : Int) ≤ fstN l i ∧ fstN l i < (i : Int) + l.length)) := by
  induction l generalizing i with
  | nil => exact .inl rfl
  | cons b r ih =>
    unfold fstN
    cases b
    · rw [if_neg (by decide)]
      rcases ih (i + 1) with h | ⟨h1, h2⟩
      · exact .inl h
      · exact .inr ⟨by omega, by simp only [List.length_cons]; omega⟩
    · rw [if_pos rfl]
      exact .inr ⟨Int.le_refl _, by simp only [List.length_cons]; omega⟩
theorem ret_i64 {a b : Int} (h : a = b) : Ending.returned (.int .i64 a) = .returned (.int .i64 b) := by rw [h]

/-- the places of a name among others -/
def hits (s : ByteArray) (ss : List ByteArray) : List Bool := ss.map (eqS s)

set_option maxRecDepth 100000 in
theorem index_any (w : World) (a : Option Addr) (ss : List ByteArray) (c : Nat) (s : ByteArray) (hs : Strs w a ss) (h1 : ss.length ≤ maxLen) :
    Calls Try.prog 55 #[.slice a ss.length c, .string s] w fun e w' => e = .returned (.int .i64 (fstN (hits s ss) 0)) ∧ w' = w := by
  unfold maxLen at h1
  have HS := Lib.hid hs
  clear hs
  have hlen : (hits s ss).length = ss.length := by simp [hits]
  have HLEN := Lib.hid hlen
  clear hlen
  go_enter Try.func55, Try.ntmps55
  go_wp2_with fail
  go_loop [8] (fun iv => ∃ (i : Nat), i ≤ ss.length ∧ iv = .int .i64 i ∧ Hid (fstN ((hits s ss).drop i) i = fstN (hits s ss) 0)) (fun iv => ss.length - (intOf iv).toNat)
  case atStart => exact ⟨0, by omega, rfl, Lib.hid (by rw [List.drop_zero])⟩
  case round =>
    obtain ⟨i, hi, rfl, HF⟩ := hrel
    by_cases hlt : i < ss.length
    · obtain ⟨xb, xo, rfl, hc1, _⟩ := HS.out i ss[i] (List.getElem?_eq_getElem hlt)
      obtain ⟨x, hx⟩ : ∃ x, x = ss[i] := ⟨_, rfl⟩
      rw [← hx] at hc1
      have hF := HF.out
      rw [fstN_at _ i (by rw [HLEN.out]; exact hlt)] at hF
      have hq : (hits s ss)[i]'(by rw [HLEN.out]; exact hlt) = eqS s x := by rw [hx]; simp [hits]
      rw [hq] at hF
      have i0 : (0 : Int) ≤ (i : Int) := Int.natCast_nonneg _
      have i1 : (i : Int) < (ss.length : Int) := by omega
      clear hx HF hq
      cases he : eqS s x
      · rw [he, if_neg (by decide)] at hF
        have HF2 := Lib.hid hF
        have e1 : (s.toList == x.toList) = false := he
        clear hF he
        go_wp2_with fail
        go_round
        case rel => exact ⟨i + 1, by omega, by go_num, HF2⟩
        case measure => simp [intOf]; omega
      · rw [he, if_pos rfl] at hF
        have HF2 := Lib.hid hF
        have e1 : (s.toList == x.toList) = true := he
        clear hF he
        go_wp2_with fail
        go_ret
        exact ⟨ret_i64 HF2.out, rfl⟩
    · obtain rfl : i = ss.length := by omega
      have hF := HF.out
      have he := fstN_end (hits s ss)
      rw [HLEN.out] at he
      rw [he] at hF
      have HF2 := Lib.hid hF
      clear hF he
      go_wp2_with fail
      go_ret
      exact ⟨ret_i64 HF2.out, rfl⟩

def hasB (s : ByteArray) (ss : List ByteArray) : Bool := decide (0 ≤ fstN (hits s ss) 0)
theorem contains_any (w : World) (a : Option Addr) (ss : List ByteArray) (c : Nat) (s : ByteArray) (hs : Strs w a ss) (h1 : ss.length ≤ maxLen) :
    Calls Try.prog 53 #[.slice a ss.length c, .string s] w fun e w' => e = .returned (.bool (hasB s ss)) ∧ w' = w := by
  have HI := Lib.hid (index_any w a ss c s hs h1)
  clear hs h1
  go_enter Try.func53, Try.ntmps53
  go_wp2_with fail
  refine HI.out.mono ?_
  rintro e w' ⟨rfl, rfl⟩
  go_wp2_with fail
  go_ret
  exact ⟨rfl, rfl⟩

set_option maxRecDepth 100000 in
theorem find_clo (w : World) (b off p : Nat) (x s : ByteArray) (hx : w.cell? ⟨b, off, none⟩ = some (.string x)) (hs : w.cell? ⟨p, 0, none⟩ = some (.string s)) :
    Calls Try.prog 48 #[.pointer (some ⟨b, off, none⟩), .pointer (some ⟨p, 0, none⟩)] w fun e w' => e = .returned (.bool (eqS x s)) ∧ ∃ n, w' = w.drewN n := by
  go_enter Try.func48, Try.ntmps48
  go_wp2_with fail
  go_quiet (fail)
  go_wp2_with fail
  go_ret
  exact ⟨rfl, nq, rfl⟩

set_option maxRecDepth 100000 in
theorem node_clo (w : World) (b off p : Nat) (x s : ByteArray) (hx : w.cell? ⟨b, off, none⟩ = some (.string x)) (hs : w.cell? ⟨p, 0, none⟩ = some (.string s)) :
    Calls Try.prog 50 #[.pointer (some ⟨b, off, none⟩), .pointer (some ⟨p, 0, none⟩)] w fun e w' => e = .returned (.bool (eqS x s)) ∧ ∃ n, w' = w.drewN n := by
  go_enter Try.func50, Try.ntmps50
  go_wp2_with fail
  go_quiet (fail)
  go_wp2_with fail
  go_ret
  exact ⟨rfl, nq, rfl⟩

set_option maxRecDepth 100000 in
theorem enum_clo (w : World) (b off p : Nat) (x s : ByteArray) (hx : w.cell? ⟨b, off, none⟩ = some (.string x)) (hs : w.cell? ⟨p, 0, none⟩ = some (.string s)) :
    Calls Try.prog 56 #[.pointer (some ⟨b, off, none⟩), .pointer (some ⟨p, 0, none⟩)] w fun e w' => e = .returned (.bool (eqS x s)) ∧ ∃ n, w' = w.drewN n := by
  go_enter Try.func56, Try.ntmps56
  go_wp2_with fail
  go_quiet (fail)
  go_wp2_with fail
  go_ret
  exact ⟨rfl, nq, rfl⟩

set_option maxRecDepth 100000 in
theorem ctor_clo (w : World) (b off p : Nat) (ca : Option Addr) (ss : List ByteArray) (cc : Nat) (s : ByteArray) (hx : w.cell? ⟨b, off + 1, none⟩ = some (.slice ca ss.length cc)) (hs : w.cell? ⟨p, 0, none⟩ = some (.string s)) (hss : Strs w ca ss) (h1 : ss.length ≤ maxLen) :
    Calls Try.prog 52 #[.pointer (some ⟨b, off, none⟩), .pointer (some ⟨p, 0, none⟩)] w fun e w' => e = .returned (.bool (hasB s ss)) ∧ ∃ n, w' = w.drewN n := by
  have HC := Lib.hid (fun j => contains_any (w.drewN j) ca ss cc s hss h1)
  clear hss h1
  go_enter Try.func52, Try.ntmps52
  go_wp2_with fail
  go_quiet ((exact Calls.quiet_of_same (HC.out _)))
  go_wp2_with fail
  go_ret
  exact ⟨rfl, nq, rfl⟩

set_option maxRecDepth 100000 in
theorem place_var (p : Nat) (w : World) (a : Option Addr) (bs : List Bool) (c : Nat) (h1 : bs.length ≤ maxLen)
    (H : ∀ i (hi : i < bs.length), ∃ b off, a = some ⟨b, off, none⟩ ∧ ∀ j, Calls Try.prog 48 #[.pointer (some ⟨b, off + i * 15, none⟩), .pointer (some ⟨p, 0, none⟩)] (w.drewN j) fun e w' => e = .returned (.bool bs[i]) ∧ ∃ n, w' = (w.drewN j).drewN n) :
    Calls Try.prog 47 #[.slice a bs.length c, .func (.func 48) #[] #[.pointer (some ⟨p, 0, none⟩)]] w fun e w' => e = .returned (.int .i64 (fstN bs 0)) ∧ ∃ n, w' = w.drewN n := by
  unfold maxLen at h1
  have HH := Lib.hid H
  clear H
  go_enter Try.func47, Try.ntmps47
  go_wp2_with fail
  go_loopw [8] (fun iv wr => ∃ (i j : Nat), i ≤ bs.length ∧ iv = .int .i64 i ∧ Hid (wr = w.drewN j) ∧ Hid (fstN (bs.drop i) i = fstN bs 0)) (fun iv _ => bs.length - (intOf iv).toNat)
  case atStart => exact ⟨0, 0, by omega, rfl, Lib.hid rfl, Lib.hid (by rw [List.drop_zero])⟩
  case round =>
    obtain ⟨i, j, hi, rfl, HW, HF⟩ := hrel
    by_cases hlt : i < bs.length
    · obtain ⟨b, off, rfl, hcall⟩ := HH.out i hlt
      have hc := hcall j
      rw [← HW.out] at hc
      have hF := HF.out
      rw [fstN_at bs i hlt] at hF
      have i0 : (0 : Int) ≤ (i : Int) := Int.natCast_nonneg _
      have i1 : (i : Int) < (bs.length : Int) := by omega
      clear HF hcall
      cases he : bs[i]
      · rw [he] at hc hF
        rw [if_neg (by decide)] at hF
        have HF2 := Lib.hid hF
        have HC := Lib.hid hc
        clear hF hc he
        go_wp2_with fail
        refine HC.out.mono ?_
        rintro e w2 ⟨rfl, n2, rfl⟩
        go_wp2_with fail
        go_roundw
        case rel => exact ⟨i + 1, j + n2, by omega, by go_num, Lib.hid (by rw [HW.out]; exact World.drewN_drewN _ _ _), HF2⟩
        case measure => simp [intOf]; omega
      · rw [he] at hc hF
        rw [if_pos rfl] at hF
        have HF2 := Lib.hid hF
        have HC := Lib.hid hc
        clear hF hc he
        go_wp2_with fail
        refine HC.out.mono ?_
        rintro e w2 ⟨rfl, n2, rfl⟩
        go_wp2_with fail
        go_ret
        exact ⟨ret_i64 HF2.out, j + n2, by rw [HW.out]; exact World.drewN_drewN _ _ _⟩
    · obtain rfl : i = bs.length := by omega
      have hF := HF.out
      rw [fstN_end] at hF
      have HF2 := Lib.hid hF
      clear hF
      go_wp2_with fail
      go_ret
      exact ⟨ret_i64 HF2.out, j, HW.out⟩

set_option maxRecDepth 100000 in
theorem place_node (p : Nat) (w : World) (a : Option Addr) (bs : List Bool) (c : Nat) (h1 : bs.length ≤ maxLen)
    (H : ∀ i (hi : i < bs.length), ∃ b off, a = some ⟨b, off, none⟩ ∧ ∀ j, Calls Try.prog 50 #[.pointer (some ⟨b, off + i * 7, none⟩), .pointer (some ⟨p, 0, none⟩)] (w.drewN j) fun e w' => e = .returned (.bool bs[i]) ∧ ∃ n, w' = (w.drewN j).drewN n) :
    Calls Try.prog 49 #[.slice a bs.length c, .func (.func 50) #[] #[.pointer (some ⟨p, 0, none⟩)]] w fun e w' => e = .returned (.int .i64 (fstN bs 0)) ∧ ∃ n, w' = w.drewN n := by
  unfold maxLen at h1
  have HH := Lib.hid H
  clear H
  go_enter Try.func49, Try.ntmps49
  go_wp2_with fail
  go_loopw [8] (fun iv wr => ∃ (i j : Nat), i ≤ bs.length ∧ iv = .int .i64 i ∧ Hid (wr = w.drewN j) ∧ Hid (fstN (bs.drop i) i = fstN bs 0)) (fun iv _ => bs.length - (intOf iv).toNat)
  case atStart => exact ⟨0, 0, by omega, rfl, Lib.hid rfl, Lib.hid (by rw [List.drop_zero])⟩
  case round =>
    obtain ⟨i, j, hi, rfl, HW, HF⟩ := hrel
    by_cases hlt : i < bs.length
    · obtain ⟨b, off, rfl, hcall⟩ := HH.out i hlt
      have hc := hcall j
      rw [← HW.out] at hc
      have hF := HF.out
      rw [fstN_at bs i hlt] at hF
      have i0 : (0 : Int) ≤ (i : Int) := Int.natCast_nonneg _
      have i1 : (i : Int) < (bs.length : Int) := by omega
      clear HF hcall
      cases he : bs[i]
      · rw [he] at hc hF
        rw [if_neg (by decide)] at hF
        have HF2 := Lib.hid hF
        have HC := Lib.hid hc
        clear hF hc he
        go_wp2_with fail
        refine HC.out.mono ?_
        rintro e w2 ⟨rfl, n2, rfl⟩
        go_wp2_with fail
        go_roundw
        case rel => exact ⟨i + 1, j + n2, by omega, by go_num, Lib.hid (by rw [HW.out]; exact World.drewN_drewN _ _ _), HF2⟩
        case measure => simp [intOf]; omega
      · rw [he] at hc hF
        rw [if_pos rfl] at hF
        have HF2 := Lib.hid hF
        have HC := Lib.hid hc
        clear hF hc he
        go_wp2_with fail
        refine HC.out.mono ?_
        rintro e w2 ⟨rfl, n2, rfl⟩
        go_wp2_with fail
        go_ret
        exact ⟨ret_i64 HF2.out, j + n2, by rw [HW.out]; exact World.drewN_drewN _ _ _⟩
    · obtain rfl : i = bs.length := by omega
      have hF := HF.out
      rw [fstN_end] at hF
      have HF2 := Lib.hid hF
      clear hF
      go_wp2_with fail
      go_ret
      exact ⟨ret_i64 HF2.out, j, HW.out⟩

set_option maxRecDepth 100000 in
theorem place_enum (p : Nat) (w : World) (a : Option Addr) (bs : List Bool) (c : Nat) (h1 : bs.length ≤ maxLen)
    (H : ∀ i (hi : i < bs.length), ∃ b off, a = some ⟨b, off, none⟩ ∧ ∀ j, Calls Try.prog 56 #[.pointer (some ⟨b, off + i * 4, none⟩), .pointer (some ⟨p, 0, none⟩)] (w.drewN j) fun e w' => e = .returned (.bool bs[i]) ∧ ∃ n, w' = (w.drewN j).drewN n) :
    Calls Try.prog 51 #[.slice a bs.length c, .func (.func 56) #[] #[.pointer (some ⟨p, 0, none⟩)]] w fun e w' => e = .returned (.int .i64 (fstN bs 0)) ∧ ∃ n, w' = w.drewN n := by
  unfold maxLen at h1
  have HH := Lib.hid H
  clear H
  go_enter Try.func51, Try.ntmps51
  go_wp2_with fail
  go_loopw [8] (fun iv wr => ∃ (i j : Nat), i ≤ bs.length ∧ iv = .int .i64 i ∧ Hid (wr = w.drewN j) ∧ Hid (fstN (bs.drop i) i = fstN bs 0)) (fun iv _ => bs.length - (intOf iv).toNat)
  case atStart => exact ⟨0, 0, by omega, rfl, Lib.hid rfl, Lib.hid (by rw [List.drop_zero])⟩
  case round =>
    obtain ⟨i, j, hi, rfl, HW, HF⟩ := hrel
    by_cases hlt : i < bs.length
    · obtain ⟨b, off, rfl, hcall⟩ := HH.out i hlt
      have hc := hcall j
      rw [← HW.out] at hc
      have hF := HF.out
      rw [fstN_at bs i hlt] at hF
      have i0 : (0 : Int) ≤ (i : Int) := Int.natCast_nonneg _
      have i1 : (i : Int) < (bs.length : Int) := by omega
      clear HF hcall
      cases he : bs[i]
      · rw [he] at hc hF
        rw [if_neg (by decide)] at hF
        have HF2 := Lib.hid hF
        have HC := Lib.hid hc
        clear hF hc he
        go_wp2_with fail
        refine HC.out.mono ?_
        rintro e w2 ⟨rfl, n2, rfl⟩
        go_wp2_with fail
        go_roundw
        case rel => exact ⟨i + 1, j + n2, by omega, by go_num, Lib.hid (by rw [HW.out]; exact World.drewN_drewN _ _ _), HF2⟩
        case measure => simp [intOf]; omega
      · rw [he] at hc hF
        rw [if_pos rfl] at hF
        have HF2 := Lib.hid hF
        have HC := Lib.hid hc
        clear hF hc he
        go_wp2_with fail
        refine HC.out.mono ?_
        rintro e w2 ⟨rfl, n2, rfl⟩
        go_wp2_with fail
        go_ret
        exact ⟨ret_i64 HF2.out, j + n2, by rw [HW.out]; exact World.drewN_drewN _ _ _⟩
    · obtain rfl : i = bs.length := by omega
      have hF := HF.out
      rw [fstN_end] at hF
      have HF2 := Lib.hid hF
      clear hF
      go_wp2_with fail
      go_ret
      exact ⟨ret_i64 HF2.out, j, HW.out⟩

set_option maxRecDepth 100000 in
theorem place_ctor (p : Nat) (w : World) (a : Option Addr) (bs : List Bool) (c : Nat) (h1 : bs.length ≤ maxLen)
    (H : ∀ i (hi : i < bs.length), ∃ b off, a = some ⟨b, off, none⟩ ∧ ∀ j, Calls Try.prog 52 #[.pointer (some ⟨b, off + i * 4, none⟩), .pointer (some ⟨p, 0, none⟩)] (w.drewN j) fun e w' => e = .returned (.bool bs[i]) ∧ ∃ n, w' = (w.drewN j).drewN n) :
    Calls Try.prog 51 #[.slice a bs.length c, .func (.func 52) #[] #[.pointer (some ⟨p, 0, none⟩)]] w fun e w' => e = .returned (.int .i64 (fstN bs 0)) ∧ ∃ n, w' = w.drewN n := by
  unfold maxLen at h1
  have HH := Lib.hid H
  clear H
  go_enter Try.func51, Try.ntmps51
  go_wp2_with fail
  go_loopw [8] (fun iv wr => ∃ (i j : Nat), i ≤ bs.length ∧ iv = .int .i64 i ∧ Hid (wr = w.drewN j) ∧ Hid (fstN (bs.drop i) i = fstN bs 0)) (fun iv _ => bs.length - (intOf iv).toNat)
  case atStart => exact ⟨0, 0, by omega, rfl, Lib.hid rfl, Lib.hid (by rw [List.drop_zero])⟩
  case round =>
    obtain ⟨i, j, hi, rfl, HW, HF⟩ := hrel
    by_cases hlt : i < bs.length
    · obtain ⟨b, off, rfl, hcall⟩ := HH.out i hlt
      have hc := hcall j
      rw [← HW.out] at hc
      have hF := HF.out
      rw [fstN_at bs i hlt] at hF
      have i0 : (0 : Int) ≤ (i : Int) := Int.natCast_nonneg _
      have i1 : (i : Int) < (bs.length : Int) := by omega
      clear HF hcall
      cases he : bs[i]
      · rw [he] at hc hF
        rw [if_neg (by decide)] at hF
        have HF2 := Lib.hid hF
        have HC := Lib.hid hc
        clear hF hc he
        go_wp2_with fail
        refine HC.out.mono ?_
        rintro e w2 ⟨rfl, n2, rfl⟩
        go_wp2_with fail
        go_roundw
        case rel => exact ⟨i + 1, j + n2, by omega, by go_num, Lib.hid (by rw [HW.out]; exact World.drewN_drewN _ _ _), HF2⟩
        case measure => simp [intOf]; omega
      · rw [he] at hc hF
        rw [if_pos rfl] at hF
        have HF2 := Lib.hid hF
        have HC := Lib.hid hc
        clear hF hc he
        go_wp2_with fail
        refine HC.out.mono ?_
        rintro e w2 ⟨rfl, n2, rfl⟩
        go_wp2_with fail
        go_ret
        exact ⟨ret_i64 HF2.out, j + n2, by rw [HW.out]; exact World.drewN_drewN _ _ _⟩
    · obtain rfl : i = bs.length := by omega
      have hF := HF.out
      rw [fstN_end] at hF
      have HF2 := Lib.hid hF
      clear hF
      go_wp2_with fail
      go_ret
      exact ⟨ret_i64 HF2.out, j, HW.out⟩
end Go.Proofs.Ytjkkalhgbfbcbaa.tr
