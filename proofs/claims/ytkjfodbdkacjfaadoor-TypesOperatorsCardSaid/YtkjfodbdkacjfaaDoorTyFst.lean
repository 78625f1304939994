/-
  The places of constructors: slices.Index and Contains, tree.CtorEnum, the reference's CtorAt; of types by their constructors (whatever the types' names).
-/
import Derived.Test.YtkjfodbdkacjfaaDoorLxHas
import Derived.Deep.QuietTactic
import Derived.BigQuiet
import Derived.Deep.LoopGhost
namespace Go.Proofs.YtkjfodbdkacjfaaDoor.ty
open Go.ChangeShapes Go.WideShapes Go.ChangeAt Go.RowKit
open Go.Proofs.YtkjfodbdkacjfaaDoor.lx (Has)
set_option linter.unusedVariables false

/-- a row of texts -/
def Strs (w : World) (a : Option Addr) (l : List ByteArray) : Prop :=
  ∀ i s, l[i]? = some s → ∃ b off, a = some ⟨b, off, none⟩ ∧ w.cell? ⟨b, off + i, none⟩ = some (.string s) ∧ s.size ≤ maxLen
theorem drewN_heap (w : World) (n : Nat) : (w.drewN n).heap = w.heap := rfl
theorem below_drewN {B : Nat} {w w' : World} (h : Below B w w') (n : Nat) : Below B w (w'.drewN n) := ⟨h.os, h.tape, h.output, h.size, h.block⟩
def eqS (a b : ByteArray) : Bool := a.toList == b.toList
theorem eqS_comm (a b : ByteArray) : eqS a b = eqS b a := by unfold eqS; exact Bool.beq_comm
theorem Strs.below {w w' : World} {a : Option Addr} {l : List ByteArray} (h : Strs w a l) (hb : Below w.heap.size w w') : Strs w' a l := by
  intro i s hi
  obtain ⟨b, off, e, hc, hz⟩ := h i s hi
  exact ⟨b, off, e, (hb.cell (p := ⟨b, off + i, none⟩) (World.block_lt_of_cell? w _ hc)).trans hc, hz⟩
theorem has_drewN {w : World} {g : Nat} {t : TypeId} {cs : Array Value} (h : Has w g t cs) (n : Nat) : Has (w.drewN n) g t cs := h
/-- a result of two cells, stored -/
theorem selfs2 {W : World} {g : Nat} {t : TypeId} {a b : Value} (h : Has W g t #[a, b]) (v0 v1 : Value) :
    ((W.setCell ⟨g, 0, none⟩ v0).setCell ⟨g, 1, none⟩ v1).cell? ⟨g, 0, none⟩ = some v0 ∧ ((W.setCell ⟨g, 0, none⟩ v0).setCell ⟨g, 1, none⟩ v1).cell? ⟨g, 1, none⟩ = some v1 :=
  ⟨((h.put 0 v0).put 1 v1).cell 0, ((h.put 0 v0).put 1 v1).cell 1⟩
/-- the place of the first that is true, from i on -/
def fstN : List Bool → Nat → Int
  | [], _ => -1
  | b :: r, i => if b = true then (i : Int) else fstN r (i + 1)
theorem fstN_at (l : List Bool) (i : Nat) (hi : i < l.length) : fstN (l.drop i) i = if l[i] = true then (i : Int) else fstN (l.drop (i + 1)) (i + 1) := by
  rw [List.drop_eq_getElem_cons hi, fstN]
theorem fstN_end (l : List Bool) : fstN (l.drop l.length) l.length = -1 := by rw [List.drop_length, fstN]
theorem ret_i64 {a b : Int} (h : a = b) : Ending.returned (.int .i64 a) = .returned (.int .i64 b) := by rw [h]
/-- the places of a name among others -/
def hits (s : ByteArray) (ss : List ByteArray) : List Bool := ss.map (eqS s)
set_option maxRecDepth 100000 in
theorem index_any (w : World) (a : Option Addr) (ss : List ByteArray) (c : Nat) (s : ByteArray) (hs : Strs w a ss) (h1 : ss.length ≤ maxLen) :
    Calls Tryd.prog 68 #[.slice a ss.length c, .string s] w fun e w' => e = .returned (.int .i64 (fstN (hits s ss) 0)) ∧ w' = w := by
  unfold maxLen at h1
  have HS := Lib.hid hs
  clear hs
  have hlen : (hits s ss).length = ss.length := by simp [hits]
  have HLEN := Lib.hid hlen
  clear hlen
  go_enter Tryd.func68, Tryd.ntmps68
  go_wp2_with fail
  go_loop [8] (fun iv => ∃ (i : Nat), i ≤ ss.length ∧ iv = .int .i64 i ∧ Hid (fstN ((hits s ss).drop i) i = fstN (hits s ss) 0)) (fun iv => ss.length - (intOf iv).toNat)
  case atStart => exact ⟨0, by omega, rfl, Lib.hid (by rw [List.drop_zero])⟩
  case round =>
    obtain ⟨i, hi, rfl, HF⟩ := hrel
    by_cases hlt : i < ss.length
    · obtain ⟨xb, xo, rfl, hc1, _⟩ := HS.out i ss[i] (List.getElem?_eq_getElem hlt)
      obtain ⟨x, hx⟩ : ∃ x, x = ss[i] := ⟨_, rfl⟩
      rw [← hx] at hc1
      have hF := HF.out
      rw [fstN_at _ i (by rw [HLEN.out]; exact hlt)] at hF
      have hq : (hits s ss)[i]'(by rw [HLEN.out]; exact hlt) = eqS s x := by rw [hx]; simp [hits]
      rw [hq] at hF
      have i0 : (0 : Int) ≤ (i : Int) := Int.natCast_nonneg _
      have i1 : (i : Int) < (ss.length : Int) := by omega
      clear hx HF hq
      cases he : eqS s x
      · rw [he, if_neg (by decide)] at hF
        have HF2 := Lib.hid hF
        have e1 : (s.toList == x.toList) = false := he
        clear hF he
        go_wp2_with fail
        go_round
        case rel => exact ⟨i + 1, by omega, by go_num, HF2⟩
        case measure => simp [intOf]; omega
      · rw [he, if_pos rfl] at hF
        have HF2 := Lib.hid hF
        have e1 : (s.toList == x.toList) = true := he
        clear hF he
        go_wp2_with fail
        go_ret
        exact ⟨ret_i64 HF2.out, rfl⟩
    · obtain rfl : i = ss.length := by omega
      have hF := HF.out
      have he := fstN_end (hits s ss)
      rw [HLEN.out] at he
      rw [he] at hF
      have HF2 := Lib.hid hF
      clear hF he
      go_wp2_with fail
      go_ret
      exact ⟨ret_i64 HF2.out, rfl⟩
def hasB (s : ByteArray) (ss : List ByteArray) : Bool := decide (0 ≤ fstN (hits s ss) 0)
theorem contains_any (w : World) (a : Option Addr) (ss : List ByteArray) (c : Nat) (s : ByteArray) (hs : Strs w a ss) (h1 : ss.length ≤ maxLen) :
    Calls Tryd.prog 59 #[.slice a ss.length c, .string s] w fun e w' => e = .returned (.bool (hasB s ss)) ∧ w' = w := by
  have HI := Lib.hid (index_any w a ss c s hs h1)
  clear hs h1
  go_enter Tryd.func59, Tryd.ntmps59
  go_wp2_with fail
  refine HI.out.mono ?_
  rintro e w' ⟨rfl, rfl⟩
  go_wp2_with fail
  go_ret
  exact ⟨rfl, rfl⟩
set_option maxRecDepth 100000 in
theorem ctor_clo (w : World) (b off p : Nat) (ca : Option Addr) (ss : List ByteArray) (cc : Nat) (s : ByteArray) (hx : w.cell? ⟨b, off + 1, none⟩ = some (.slice ca ss.length cc)) (hs : w.cell? ⟨p, 0, none⟩ = some (.string s)) (hss : Strs w ca ss) (h1 : ss.length ≤ maxLen) :
    Calls Tryd.prog 58 #[.pointer (some ⟨b, off, none⟩), .pointer (some ⟨p, 0, none⟩)] w fun e w' => e = .returned (.bool (hasB s ss)) ∧ ∃ n, w' = w.drewN n := by
  have HC := Lib.hid (fun j => contains_any (w.drewN j) ca ss cc s hss h1)
  clear hss h1
  go_enter Tryd.func58, Tryd.ntmps58
  go_wp2_with fail
  go_quiet ((exact Calls.quiet_of_same (HC.out _)))
  go_wp2_with fail
  go_ret
  exact ⟨rfl, nq, rfl⟩
set_option maxRecDepth 100000 in
theorem place_ctor (p : Nat) (w : World) (a : Option Addr) (bs : List Bool) (c : Nat) (h1 : bs.length ≤ maxLen)
    (H : ∀ i (hi : i < bs.length), ∃ b off, a = some ⟨b, off, none⟩ ∧ ∀ j, Calls Tryd.prog 58 #[.pointer (some ⟨b, off + i * 4, none⟩), .pointer (some ⟨p, 0, none⟩)] (w.drewN j) fun e w' => e = .returned (.bool bs[i]) ∧ ∃ n, w' = (w.drewN j).drewN n) :
    Calls Tryd.prog 57 #[.slice a bs.length c, .func (.func 58) #[] #[.pointer (some ⟨p, 0, none⟩)]] w fun e w' => e = .returned (.int .i64 (fstN bs 0)) ∧ ∃ n, w' = w.drewN n := by
  unfold maxLen at h1
  have HH := Lib.hid H
  clear H
  go_enter Tryd.func57, Tryd.ntmps57
  go_wp2_with fail
  go_loopw [8] (fun iv wr => ∃ (i j : Nat), i ≤ bs.length ∧ iv = .int .i64 i ∧ Hid (wr = w.drewN j) ∧ Hid (fstN (bs.drop i) i = fstN bs 0)) (fun iv _ => bs.length - (intOf iv).toNat)
  case atStart => exact ⟨0, 0, by omega, rfl, Lib.hid rfl, Lib.hid (by rw [List.drop_zero])⟩
  case round =>
    obtain ⟨i, j, hi, rfl, HW, HF⟩ := hrel
    by_cases hlt : i < bs.length
    · obtain ⟨b, off, rfl, hcall⟩ := HH.out i hlt
      have hc := hcall j
      rw [← HW.out] at hc
      have hF := HF.out
      rw [fstN_at bs i hlt] at hF
      have i0 : (0 : Int) ≤ (i : Int) := Int.natCast_nonneg _
      have i1 : (i : Int) < (bs.length : Int) := by omega
      clear HF hcall
      cases he : bs[i]
      · rw [he] at hc hF
        rw [if_neg (by decide)] at hF
        have HF2 := Lib.hid hF
        have HC := Lib.hid hc
        clear hF hc he
        go_wp2_with fail
        refine HC.out.mono ?_
        rintro e w2 ⟨rfl, n2, rfl⟩
        go_wp2_with fail
        go_roundw
        case rel => exact ⟨i + 1, j + n2, by omega, by go_num, Lib.hid (by rw [HW.out]; exact World.drewN_drewN _ _ _), HF2⟩
        case measure => simp [intOf]; omega
      · rw [he] at hc hF
        rw [if_pos rfl] at hF
        have HF2 := Lib.hid hF
        have HC := Lib.hid hc
        clear hF hc he
        go_wp2_with fail
        refine HC.out.mono ?_
        rintro e w2 ⟨rfl, n2, rfl⟩
        go_wp2_with fail
        go_ret
        exact ⟨ret_i64 HF2.out, j + n2, by rw [HW.out]; exact World.drewN_drewN _ _ _⟩
    · obtain rfl : i = bs.length := by omega
      have hF := HF.out
      rw [fstN_end] at hF
      have HF2 := Lib.hid hF
      clear hF
      go_wp2_with fail
      go_ret
      exact ⟨ret_i64 HF2.out, j, HW.out⟩
/-- types, by their constructors -/
def CtorsAt (w : World) (a : Option Addr) (l : List (List ByteArray)) : Prop :=
  ∀ i cs, l[i]? = some cs → cs.length ≤ 40 ∧ ∃ b off ca cc, a = some ⟨b, off, none⟩ ∧ w.cell? ⟨b, off + i * 4 + 1, none⟩ = some (.slice ca cs.length cc) ∧ Strs w ca cs
theorem CtorsAt.below {w w' : World} {a : Option Addr} {l : List (List ByteArray)} (h : CtorsAt w a l) (hb : Below w.heap.size w w') : CtorsAt w' a l := by
  intro i cs hi
  obtain ⟨hl, b, off, ca, cc, e, h2, h3⟩ := h i cs hi
  exact ⟨hl, b, off, ca, cc, e, (hb.cell (p := ⟨b, off + i * 4 + 1, none⟩) (World.block_lt_of_cell? w _ h2)).trans h2, h3.below hb⟩
set_option maxRecDepth 100000 in
theorem ctorEnum_any (w : World) (a : Option Addr) (l : List (List ByteArray)) (c : Nat) (s : ByteArray) (h : CtorsAt w a l) (hl : l.length ≤ maxLen) :
    Calls Tryd.prog 41 #[.slice a l.length c, .string s] w fun e w' => e = .returned (.int .i64 (fstN (l.map (hasB s)) 0)) ∧ Below w.heap.size w w' := by
  have hmf : ∀ (fn : Fn) (first cap : Array Value) (w : World), (Instr.makeFunc fn first cap).run Tryd.prog w = .ok (.func fn first cap) w := fun _ _ _ _ => rfl
  have hb := (Below.refl w.heap.size w).alloc (Nat.le_refl _) (.cells #[.string s] 9)
  have hn := (Has.new w 9 #[.string s]).cell 0
  simp only [List.getElem?_toArray, List.getElem?_cons_zero] at hn
  have hp := place_ctor w.heap.size (w.alloc (.cells #[.string s] 9)) a (l.map (hasB s)) c (by simpa using hl) (fun i hi => by
    have hil : i < l.length := by simpa using hi
    obtain ⟨hcl, b, off, ca, cc, e, h2, h3⟩ := h.below hb i l[i] (List.getElem?_eq_getElem hil)
    refine ⟨b, off, e, fun j => ?_⟩
    have := ctor_clo ((w.alloc (.cells #[.string s] 9)).drewN j) b (off + i * 4) w.heap.size ca l[i] cc s h2 hn h3 (by unfold maxLen; omega)
    simpa using this)
  simp only [List.length_map] at hp
  have HP := Lib.hid hp
  have HB := Lib.hid hb
  clear hp hb hn h
  go_enter Tryd.func41, Tryd.ntmps41
  go_wp2_with fail
  refine HP.out.mono ?_
  rintro e w2 ⟨rfl, n2, rfl⟩
  go_wp2_with fail
  go_ret
  exact ⟨rfl, below_drewN HB.out _⟩
/-- where a constructor is: its type, its place there -/
def ctorAt (s : ByteArray) : List (List ByteArray) → Nat → Int × Int
  | [], _ => (-1, -1)
  | x :: r, i => if hasB s x = true then ((i : Int), fstN (hits s x) 0) else ctorAt s r (i + 1)
theorem ctorAt_at (s : ByteArray) (l : List (List ByteArray)) (i : Nat) (hi : i < l.length) : ctorAt s (l.drop i) i = if hasB s l[i] = true then ((i : Int), fstN (hits s l[i]) 0) else ctorAt s (l.drop (i + 1)) (i + 1) := by
  rw [List.drop_eq_getElem_cons hi, ctorAt]
theorem ret_two {a b : Int × Int} (h : a = b) : Ending.returned (.tuple #[.int .i64 a.1, .int .i64 a.2]) = .returned (.tuple #[.int .i64 b.1, .int .i64 b.2]) := by rw [h]
set_option maxRecDepth 100000 in
set_option maxHeartbeats 2000000 in
theorem ctorAt_any (w : World) (a : Option Addr) (l : List (List ByteArray)) (c : Nat) (s : ByteArray) (h : CtorsAt w a l) (hl : l.length ≤ maxLen) :
    Calls Tryd.prog 17 #[.slice a l.length c, .string s] w fun e w' => e = .returned (.tuple #[.int .i64 (ctorAt s l 0).1, .int .i64 (ctorAt s l 0).2]) ∧ w' = w := by
  unfold maxLen at hl
  have HE := Lib.hid h
  clear h
  go_enter Tryd.func17, Tryd.ntmps17
  go_wp2_with fail
  go_loop [6] (fun iv => ∃ (i : Nat), i ≤ l.length ∧ iv = .int .i64 i ∧ Hid (ctorAt s (l.drop i) i = ctorAt s l 0)) (fun iv => l.length - (intOf iv).toNat)
  case atStart => exact ⟨0, by omega, rfl, Lib.hid (by rw [List.drop_zero])⟩
  case round =>
    obtain ⟨i, hi, rfl, HF⟩ := hrel
    by_cases hlt : i < l.length
    · obtain ⟨hxl, b, off, ca, cc, rfl, h2, h3⟩ := HE.out i l[i] (List.getElem?_eq_getElem hlt)
      have hF := HF.out
      rw [ctorAt_at s l i hlt] at hF
      obtain ⟨x, hx⟩ : ∃ x, x = l[i] := ⟨_, rfl⟩
      rw [← hx] at hxl h2 h3 hF
      have HF2 := Lib.hid hF
      have HS := Lib.hid h3
      have i0 : (0 : Int) ≤ (i : Int) := Int.natCast_nonneg _
      have i1 : (i : Int) < (l.length : Int) := by omega
      clear hF HF h3 hx
      go_wp2_with fail
      go_loop [7] (fun jv => ∃ (j : Nat), j ≤ x.length ∧ jv = .int .i64 j ∧ Hid (fstN ((hits s x).drop j) j = fstN (hits s x) 0)) (fun jv => x.length - (intOf jv).toNat)
      case atStart => exact ⟨0, by omega, rfl, Lib.hid (by rw [List.drop_zero])⟩
      case round =>
        obtain ⟨j, hj, rfl, HG⟩ := hrel
        by_cases hjt : j < x.length
        · obtain ⟨yb, yo, rfl, hc1, _⟩ := HS.out j x[j] (List.getElem?_eq_getElem hjt)
          have hG := HG.out
          rw [fstN_at _ j (by simpa [hits] using hjt)] at hG
          obtain ⟨y, hy⟩ : ∃ y, y = x[j] := ⟨_, rfl⟩
          have hq : (hits s x)[j]'(by simpa [hits] using hjt) = eqS s y := by rw [hy]; simp [hits]
          rw [hq] at hG
          rw [← hy] at hc1
          have j0 : (0 : Int) ≤ (j : Int) := Int.natCast_nonneg _
          have j1 : (j : Int) < (x.length : Int) := by omega
          clear hy HG hq
          cases he : eqS s y
          · rw [he, if_neg (by decide)] at hG
            have HG2 := Lib.hid hG
            have e1 : (y.toList == s.toList) = false := by rw [eqS_comm] at he; exact he
            clear hG he
            go_wp2_with fail
            go_round
            case rel => exact ⟨j + 1, by omega, by go_num, HG2⟩
            case measure => simp [intOf]; omega
          · rw [he, if_pos rfl] at hG
            have hh : hasB s x = true := by unfold hasB; rw [← hG]; simp
            have hF := HF2.out
            rw [if_pos hh, ← hG] at hF
            have HF3 := Lib.hid hF
            have e1 : (y.toList == s.toList) = true := by rw [eqS_comm] at he; exact he
            clear hG he hF hh
            go_wp2_with fail
            go_ret2
            exact ⟨ret_two HF3.out, rfl⟩
        · obtain rfl : j = x.length := by omega
          have hG := HG.out
          have hend := fstN_end (hits s x)
          rw [show (hits s x).length = x.length by simp [hits]] at hend
          rw [hend] at hG
          have hh : hasB s x = false := by unfold hasB; rw [← hG]; decide
          have hF := HF2.out
          rw [hh, if_neg (by decide)] at hF
          have HF3 := Lib.hid hF
          clear hG hend hh hF
          go_wp2_with fail
          go_round
          case rel => exact ⟨i + 1, by omega, by go_num, HF3⟩
          case measure => simp [intOf]; omega
    · obtain rfl : i = l.length := by omega
      have hF := HF.out
      rw [List.drop_length, ctorAt] at hF
      have HF2 := Lib.hid hF
      clear hF
      go_wp2_with fail
      go_ret2
      exact ⟨ret_two HF2.out, rfl⟩
end Go.Proofs.YtkjfodbdkacjfaaDoor.ty
