/-
  Ctors and CtorAt of the reference; Value of package tree of a constructor.
-/
import Derived.Test.YtjkkalhgbfbcbaaTrCtors
namespace Go.Proofs.Ytjkkalhgbfbcbaa.tr
open Go.ChangeShapes Go.WideShapes Go.ChangeAt Go.RowKit
set_option linter.unusedVariables false

set_option maxRecDepth 100000 in
set_option maxHeartbeats 2000000 in
theorem ctorsR_any (w : World) (a : Option Addr) (l : List (List ByteArray)) (c : Nat) (k : Nat) (s : ByteArray) (hk : k ≤ 255) (h : EnumsAt w a s l) (hl : l.length ≤ maxLen) :
    Calls Try.prog 24 #[.slice a l.length c, .agg #[.int .u8 k, .string s]] w (CtorsPost w (ctorsOf k l)) := by
  have hb := (Below.refl w.heap.size w).alloc (Nat.le_refl _) (.cells #[.int .u8 (k : Int), .string s] 49)
  have ht := Has.new w 49 #[.int .u8 (k : Int), .string s]
  unfold CtorsPost ctorsOf
  by_cases k1 : k = 1
  · subst k1
    rw [if_pos rfl]
    have hn := Has.new (w.alloc (.cells #[.int .u8 ((1 : Nat) : Int), .string s] 49)) 9 #[.string bF, .string bT]
    simp only [World.size_alloc] at hn
    have HN := Lib.hid hn
    have HB := Lib.hid hb
    clear hn hb h ht
    go_enter Try.func24, Try.ntmps24
    go_wp2_with fail
    go_ret
    exact ⟨⟨_, _, rfl, strs_two _ _ HN.out⟩, HB.out.alloc HB.out.size _⟩
  rw [if_neg k1]
  have f1 : ((k : Int) == 1) = false := by rw [beq_eq_false_iff_ne]; omega
  clear k1
  by_cases k3 : k = 3
  · subst k3
    rw [if_pos rfl]
    cases l with
    | nil =>
      have HB := Lib.hid hb
      clear hb h hl ht
      go_enter Try.func24, Try.ntmps24
      go_wp2_with fail
      go_loopw [5] (fun iv wr => iv = .int .i64 0 ∧ Hid (Below w.heap.size w wr)) (fun _ _ => 0)
      case atStart => exact ⟨rfl, Lib.hid HB.out⟩
      case round =>
        obtain ⟨rfl, HB1⟩ := hrel
        go_wp2_with fail
        go_ret
        exact ⟨⟨_, _, rfl, strs_nil _ _⟩, HB1.out⟩
    | cons x r =>
      obtain ⟨hxl, b, off, ca, cc, rfl, h1, h2, h3⟩ := h 0 x rfl
      rw [Nat.zero_mul, Nat.add_zero] at h1 h2
      have HB := Lib.hid hb
      have HT := Lib.hid ht
      have HX := Lib.hid (And.intro h1 (And.intro h2 h3))
      have hxl' : (0 : Int) < (((x :: r).length : Nat) : Int) := by simp only [List.length_cons]; omega
      have hss : (s.toList == s.toList) = true := beq_self_eq_true _
      generalize (x :: r).length = nl at *
      clear hb h h1 h2 h3 ht
      go_enter Try.func24, Try.ntmps24
      go_wp2_with fail
      go_loopw [5] (fun iv wr => iv = .int .i64 0 ∧ Hid (Below w.heap.size w wr) ∧ Hid (Has wr w.heap.size 49 #[.int .u8 ((3 : Nat) : Int), .string s])) (fun _ _ => 0)
      case atStart => exact ⟨rfl, Lib.hid HB.out, Lib.hid HT.out⟩
      case round =>
        obtain ⟨rfl, HB1, HT1⟩ := hrel
        have t0 := HT1.out.cell 0
        have t1 := HT1.out.cell 1
        simp only [List.getElem?_toArray, List.getElem?_cons_zero, List.getElem?_cons_succ] at t0 t1
        have q1 : wr.cell? ⟨b, off, none⟩ = some (.string s) := (HB1.out.cell (p := ⟨b, off, none⟩) (World.block_lt_of_cell? w _ HX.out.1)).trans HX.out.1
        have q2 : wr.cell? ⟨b, off + 1, none⟩ = some (.slice ca x.length cc) := (HB1.out.cell (p := ⟨b, off + 1, none⟩) (World.block_lt_of_cell? w _ HX.out.2.1)).trans HX.out.2.1
        go_wp2_with fail
        go_quiet (fail)
        go_wp2_with fail
        go_ret
        exact ⟨⟨_, _, rfl, HX.out.2.2.below (below_drewN HB1.out _)⟩, below_drewN HB1.out _⟩
  · rw [if_neg k3]
    have f3 : ((k : Int) == 3) = false := by rw [beq_eq_false_iff_ne]; omega
    have HB := Lib.hid hb
    clear k3 hb h hl ht
    go_enter Try.func24, Try.ntmps24
    go_wp2_with fail
    go_ret
    exact ⟨⟨_, _, rfl, strs_nil _ _⟩, HB.out⟩

/-- where a constructor is: its type, its place there -/
def ctorAt (s : ByteArray) : List (List ByteArray) → Nat → Int × Int
  | [], _ => (-1, -1)
  | x :: r, i => if hasB s x = true then ((i : Int), fstN (hits s x) 0) else ctorAt s r (i + 1)
theorem ctorAt_at (s : ByteArray) (l : List (List ByteArray)) (i : Nat) (hi : i < l.length) : ctorAt s (l.drop i) i = if hasB s l[i] = true then ((i : Int), fstN (hits s l[i]) 0) else ctorAt s (l.drop (i + 1)) (i + 1) := by
  rw [List.drop_eq_getElem_cons hi, ctorAt]
theorem ret_two {a b : Int × Int} (h : a = b) : Ending.returned (.tuple #[.int .i64 a.1, .int .i64 a.2]) = .returned (.tuple #[.int .i64 b.1, .int .i64 b.2]) := by rw [h]

set_option maxRecDepth 100000 in
set_option maxHeartbeats 2000000 in
theorem ctorAt_any (w : World) (a : Option Addr) (nm : ByteArray) (l : List (List ByteArray)) (c : Nat) (s : ByteArray) (h : EnumsAt w a nm l) (hl : l.length ≤ maxLen) :
    Calls Try.prog 19 #[.slice a l.length c, .string s] w fun e w' => e = .returned (.tuple #[.int .i64 (ctorAt s l 0).1, .int .i64 (ctorAt s l 0).2]) ∧ w' = w := by
  unfold maxLen at hl
  have HE := Lib.hid h
  clear h
  go_enter Try.func19, Try.ntmps19
  go_wp2_with fail
  go_loop [6] (fun iv => ∃ (i : Nat), i ≤ l.length ∧ iv = .int .i64 i ∧ Hid (ctorAt s (l.drop i) i = ctorAt s l 0)) (fun iv => l.length - (intOf iv).toNat)
  case atStart => exact ⟨0, by omega, rfl, Lib.hid (by rw [List.drop_zero])⟩
  case round =>
    obtain ⟨i, hi, rfl, HF⟩ := hrel
    by_cases hlt : i < l.length
    · obtain ⟨hxl, b, off, ca, cc, rfl, _, h2, h3⟩ := HE.out i l[i] (List.getElem?_eq_getElem hlt)
      have hF := HF.out
      rw [ctorAt_at s l i hlt] at hF
      obtain ⟨x, hx⟩ : ∃ x, x = l[i] := ⟨_, rfl⟩
      rw [← hx] at hxl h2 h3 hF
      have HF2 := Lib.hid hF
      have HS := Lib.hid h3
      have i0 : (0 : Int) ≤ (i : Int) := Int.natCast_nonneg _
      have i1 : (i : Int) < (l.length : Int) := by omega
      clear hF HF h3 hx
      go_wp2_with fail
      go_loop [7] (fun jv => ∃ (j : Nat), j ≤ x.length ∧ jv = .int .i64 j ∧ Hid (fstN ((hits s x).drop j) j = fstN (hits s x) 0)) (fun jv => x.length - (intOf jv).toNat)
      case atStart => exact ⟨0, by omega, rfl, Lib.hid (by rw [List.drop_zero])⟩
      case round =>
        obtain ⟨j, hj, rfl, HG⟩ := hrel
        by_cases hjt : j < x.length
        · obtain ⟨yb, yo, rfl, hc1, _⟩ := HS.out j x[j] (List.getElem?_eq_getElem hjt)
          have hG := HG.out
          rw [fstN_at _ j (by simpa [hits] using hjt)] at hG
          obtain ⟨y, hy⟩ : ∃ y, y = x[j] := ⟨_, rfl⟩
          have hq : (hits s x)[j]'(by simpa [hits] using hjt) = eqS s y := by rw [hy]; simp [hits]
          rw [hq] at hG
          rw [← hy] at hc1
          have j0 : (0 : Int) ≤ (j : Int) := Int.natCast_nonneg _
          have j1 : (j : Int) < (x.length : Int) := by omega
          clear hy HG hq
          cases he : eqS s y
          · rw [he, if_neg (by decide)] at hG
            have HG2 := Lib.hid hG
            have e1 : (y.toList == s.toList) = false := by rw [eqS_comm] at he; exact he
            clear hG he
            go_wp2_with fail
            go_round
            case rel => exact ⟨j + 1, by omega, by go_num, HG2⟩
            case measure => simp [intOf]; omega
          · rw [he, if_pos rfl] at hG
            have hh : hasB s x = true := by unfold hasB; rw [← hG]; simp
            have hF := HF2.out
            rw [if_pos hh, ← hG] at hF
            have HF3 := Lib.hid hF
            have e1 : (y.toList == s.toList) = true := by rw [eqS_comm] at he; exact he
            clear hG he hF hh
            go_wp2_with fail
            go_ret2
            exact ⟨ret_two HF3.out, rfl⟩
        · obtain rfl : j = x.length := by omega
          have hG := HG.out
          have hend := fstN_end (hits s x)
          rw [show (hits s x).length = x.length by simp [hits]] at hend
          rw [hend] at hG
          have hh : hasB s x = false := by unfold hasB; rw [← hG]; decide
          have hF := HF2.out
          rw [hh, if_neg (by decide)] at hF
          have HF3 := Lib.hid hF
          clear hG hend hh hF
          go_wp2_with fail
          go_round
          case rel => exact ⟨i + 1, by omega, by go_num, HF3⟩
          case measure => simp [intOf]; omega
    · obtain rfl : i = l.length := by omega
      have hF := HF.out
      rw [List.drop_length, ctorAt] at hF
      have HF2 := Lib.hid hF
      clear hF
      go_wp2_with fail
      go_ret2
      exact ⟨ret_two HF2.out, rfl⟩
end Go.Proofs.Ytjkkalhgbfbcbaa.tr
