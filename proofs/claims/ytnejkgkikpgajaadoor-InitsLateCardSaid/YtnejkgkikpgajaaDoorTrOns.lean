/-
  Are two clocks one: plainly; slices.Equal over samplings and the reference's SameClock.
-/
import Derived.Test.YtnejkgkikpgajaaDoorTrEx
import Derived.Deep.QuietTactic
import Derived.BigQuiet
import Derived.Deep.LoopGhost
namespace Go.Proofs.YtnejkgkikpgajaaDoor.tr
open Go.ChangeShapes Go.WideShapes Go.ChangeAt Go.RowKit
set_option linter.unusedVariables false

theorem ret_bool' {a b : Bool} (h : a = b) : Ending.returned (.bool a) = .returned (.bool b) := by rw [h]
def eqS (a b : ByteArray) : Bool := a.toList == b.toList
theorem eqS_refl (a : ByteArray) : eqS a a = true := beq_self_eq_true _
def namesB : List ByteArray → List ByteArray → Bool
  | [], [] => true
  | x :: r, y :: s => eqS x y && namesB r s
  | _, _ => false
theorem namesB_len : ∀ (l m : List ByteArray), l.length ≠ m.length → namesB l m = false
  | [], [], h => absurd rfl h
  | [], _ :: _, _ => rfl
  | _ :: _, [], _ => rfl
  | x :: r, y :: s, h => by
    unfold namesB
    rw [namesB_len r s (by simpa using h), Bool.and_false]
theorem namesB_refl : ∀ (l : List ByteArray), namesB l l = true
  | [] => rfl
  | x :: r => by unfold namesB; rw [eqS_refl, namesB_refl r]; rfl
theorem namesB_at (l m : List ByteArray) (i : Nat) (hi : i < l.length) (hj : i < m.length) : namesB (l.drop i) (m.drop i) = (eqS l[i] m[i] && namesB (l.drop (i + 1)) (m.drop (i + 1))) := by
  rw [List.drop_eq_getElem_cons hi, List.drop_eq_getElem_cons hj, namesB]
theorem namesB_end (l m : List ByteArray) (h : l.length = m.length) : namesB (l.drop l.length) (m.drop l.length) = true := by
  rw [List.drop_length, List.drop_eq_nil_of_le (by omega)]; rfl

/-- two strings, each a text -/
theorem Strs.drew {w : World} {a : Option Addr} {l : List ByteArray} (h : Strs w a l) (n : Nat) : Strs (w.drewN n) a l := h
theorem Strs.below {w w' : World} {a : Option Addr} {l : List ByteArray} (h : Strs w a l) (hb : Below w.heap.size w w') : Strs w' a l := by
  intro i s hi
  obtain ⟨b, off, e, hc, hz⟩ := h i s hi
  exact ⟨b, off, e, (hb.cell (p := ⟨b, off + i, none⟩) (World.block_lt_of_cell? w _ hc)).trans hc, hz⟩
theorem drewN_heap (w : World) (n : Nat) : (w.drewN n).heap = w.heap := rfl
theorem below_drewN {B : Nat} {w w' : World} (h : Below B w w') (n : Nat) : Below B w (w'.drewN n) := ⟨h.os, h.tape, h.output, h.size, h.block⟩

def eqO (p q : ByteArray × ByteArray) : Bool := eqS p.1 q.1 && eqS p.2 q.2
theorem eqO_refl (p : ByteArray × ByteArray) : eqO p p = true := by unfold eqO; rw [eqS_refl, eqS_refl]; rfl
def onsB : List (ByteArray × ByteArray) → List (ByteArray × ByteArray) → Bool
  | [], [] => true
  | x :: r, y :: s => eqO x y && onsB r s
  | _, _ => false
theorem onsB_len : ∀ (l m : List (ByteArray × ByteArray)), l.length ≠ m.length → onsB l m = false
  | [], [], h => absurd rfl h
  | [], _ :: _, _ => rfl
  | _ :: _, [], _ => rfl
  | x :: r, y :: s, h => by
    unfold onsB
    rw [onsB_len r s (by simpa using h), Bool.and_false]
theorem onsB_refl : ∀ (l : List (ByteArray × ByteArray)), onsB l l = true
  | [] => rfl
  | x :: r => by unfold onsB; rw [eqO_refl, onsB_refl r]; rfl
theorem onsB_at (l m : List (ByteArray × ByteArray)) (i : Nat) (hi : i < l.length) (hj : i < m.length) : onsB (l.drop i) (m.drop i) = (eqO l[i] m[i] && onsB (l.drop (i + 1)) (m.drop (i + 1))) := by
  rw [List.drop_eq_getElem_cons hi, List.drop_eq_getElem_cons hj, onsB]
theorem onsB_end (l m : List (ByteArray × ByteArray)) (h : l.length = m.length) : onsB (l.drop l.length) (m.drop l.length) = true := by
  rw [List.drop_length, List.drop_eq_nil_of_le (by omega)]; rfl
/-- a row of samplings -/
def Ons (w : World) (a : Option Addr) (l : List (ByteArray × ByteArray)) : Prop :=
  ∀ i p, l[i]? = some p → ∃ b off, a = some ⟨b, off, none⟩ ∧ w.cell? ⟨b, off + i * 2, none⟩ = some (.string p.1) ∧ w.cell? ⟨b, off + i * 2 + 1, none⟩ = some (.string p.2)
theorem Ons.below {w w' : World} {a : Option Addr} {l : List (ByteArray × ByteArray)} (h : Ons w a l) (hb : Below w.heap.size w w') : Ons w' a l := by
  intro i s hi
  obtain ⟨b, off, e, hc, hd⟩ := h i s hi
  exact ⟨b, off, e, (hb.cell (p := ⟨b, off + i * 2, none⟩) (World.block_lt_of_cell? w _ hc)).trans hc, (hb.cell (p := ⟨b, off + i * 2 + 1, none⟩) (World.block_lt_of_cell? w _ hd)).trans hd⟩

set_option maxRecDepth 100000 in
theorem sameclock_any (w : World) (a b : Option Addr) (ss ts : List (ByteArray × ByteArray)) (c d : Nat) (hs : Ons w a ss) (ht : Ons w b ts) (h1 : ss.length ≤ maxLen) (h2 : ts.length ≤ maxLen) :
    Calls Tryd.prog 52 #[.slice a ss.length c, .slice b ts.length d] w fun e w' => e = .returned (.bool (onsB ss ts)) ∧ ∃ n, w' = w.drewN n := by
  unfold maxLen at h1 h2
  by_cases hl : ss.length = ts.length
  · have HS := Lib.hid hs
    have HT := Lib.hid ht
    have HL := Lib.hid hl
    have hq : ((ss.length : Int) != (ts.length : Int)) = false := by simp [hl]
    clear hs ht hl
    go_enter Tryd.func52, Tryd.ntmps52
    go_wp2_with fail
    go_loopw [5] (fun iv wr => ∃ (i j : Nat), i ≤ ss.length ∧ iv = .int .i64 i ∧ Hid (wr = w.drewN j) ∧ Hid (onsB (ss.drop i) (ts.drop i) = onsB ss ts)) (fun iv _ => ss.length - (intOf iv).toNat)
    case atStart => exact ⟨0, 0, by omega, rfl, Lib.hid rfl, Lib.hid (by rw [List.drop_zero, List.drop_zero])⟩
    case round =>
      obtain ⟨i, j, hi, rfl, HW, HF⟩ := hrel
      by_cases hlt : i < ss.length
      · have hlt2 : i < ts.length := by rw [← HL.out]; exact hlt
        obtain ⟨xb, xo, rfl, hc1, hd1⟩ := HS.out i ss[i] (List.getElem?_eq_getElem hlt)
        obtain ⟨yb, yo, rfl, hc2, hd2⟩ := HT.out i ts[i] (List.getElem?_eq_getElem hlt2)
        have hF := HF.out
        rw [onsB_at ss ts i hlt hlt2] at hF
        obtain ⟨⟨x, x'⟩, hx⟩ : ∃ x, x = ss[i] := ⟨_, rfl⟩
        obtain ⟨⟨y, y'⟩, hy⟩ : ∃ y, y = ts[i] := ⟨_, rfl⟩
        rw [← hx] at hc1 hd1 hF
        rw [← hy] at hc2 hd2 hF
        replace hc1 : wr.cell? ⟨xb, xo + i * 2, none⟩ = some (.string x) := by rw [HW.out]; exact hc1
        replace hc2 : wr.cell? ⟨yb, yo + i * 2, none⟩ = some (.string y) := by rw [HW.out]; exact hc2
        replace hd1 : wr.cell? ⟨xb, xo + i * 2 + 1, none⟩ = some (.string x') := by rw [HW.out]; exact hd1
        replace hd2 : wr.cell? ⟨yb, yo + i * 2 + 1, none⟩ = some (.string y') := by rw [HW.out]; exact hd2
        have i0 : (0 : Int) ≤ (i : Int) := Int.natCast_nonneg _
        have i1 : (i : Int) < (ss.length : Int) := by omega
        have i2 : (i : Int) < (ts.length : Int) := by omega
        simp only [eqO] at hF
        clear hx hy HF
        cases he : eqS x y
        · rw [he, Bool.false_and, Bool.false_and] at hF
          have HF2 := Lib.hid hF
          have e1 : (x.toList == y.toList) = false := he
          clear hF he
          go_wp2_with fail
          go_quiet (fail)
          go_wp2_with fail
          go_ret
          exact ⟨ret_bool' HF2.out, j + nq, by rw [HW.out]; exact World.drewN_drewN _ _ _⟩
        cases he' : eqS x' y'
        · rw [he', Bool.and_false, Bool.false_and] at hF
          have HF2 := Lib.hid hF
          have e1 : (x.toList == y.toList) = true := he
          have e2 : (x'.toList == y'.toList) = false := he'
          clear hF he he'
          go_wp2_with fail
          go_quiet (fail)
          go_wp2_with fail
          go_ret
          exact ⟨ret_bool' HF2.out, j + nq, by rw [HW.out]; exact World.drewN_drewN _ _ _⟩
        · rw [he, he', Bool.and_self, Bool.true_and] at hF
          have HF2 := Lib.hid hF
          have e1 : (x.toList == y.toList) = true := he
          have e2 : (x'.toList == y'.toList) = true := he'
          clear hF he he'
          go_wp2_with fail
          go_quiet (fail)
          go_wp2_with fail
          go_roundw
          case rel => exact ⟨i + 1, j + nq, by omega, by go_num, Lib.hid (by rw [HW.out]; exact World.drewN_drewN _ _ _), HF2⟩
          case measure => simp [intOf]; omega
      · obtain rfl : i = ss.length := by omega
        have hF := HF.out
        rw [onsB_end ss ts HL.out] at hF
        have HF2 := Lib.hid hF
        clear hF
        go_wp2_with fail
        go_ret
        exact ⟨ret_bool' HF2.out, j, HW.out⟩
  · have hq : ((ss.length : Int) != (ts.length : Int)) = true := by rw [bne_iff_ne]; omega
    rw [onsB_len ss ts hl]
    clear hl
    go_enter Tryd.func52, Tryd.ntmps52
    go_wp2_with fail
    go_ret
    exact ⟨rfl, 0, rfl⟩
end Go.Proofs.YtnejkgkikpgajaaDoor.tr
