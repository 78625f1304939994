/-
  Value of package tree of a constructor, over types of one name.
-/
import Derived.Test.YtjkkalhgbfbcbaaTrCtorR
import Derived.Test.YtjkkalhgbfbcbaaTrBool
namespace Go.Proofs.Ytjkkalhgbfbcbaa.tr
open Go.ChangeShapes Go.WideShapes Go.ChangeAt Go.RowKit
set_option linter.unusedVariables false

theorem ctorAt_fst (s : ByteArray) : ∀ (l : List (List ByteArray)) (i : Nat), (ctorAt s l i).1 = fstN (l.map (hasB s)) i
  | [], _ => rfl
  | x :: r, i => by
    rw [ctorAt, List.map_cons, fstN]
    split
    · rfl
    · exact ctorAt_fst s r (i + 1)
theorem ctorAt_found (s : ByteArray) : ∀ (l : List (List ByteArray)) (i : Nat), 0 ≤ (ctorAt s l i).1 → ∃ n x, l[n]? = some x ∧ ctorAt s l i = (((i + n : Nat) : Int), fstN (hits s x) 0) ∧ hasB s x = true
  | [], _, h => by rw [ctorAt] at h; exact absurd h (by decide)
  | x :: r, i, h => by
    rw [ctorAt] at h ⊢
    by_cases hx : hasB s x = true
    · rw [if_pos hx]
      exact ⟨0, x, rfl, rfl, hx⟩
    · rw [if_neg hx] at h ⊢
      obtain ⟨n, y, h1, h2, h3⟩ := ctorAt_found s r (i + 1) h
      exact ⟨n + 1, y, by simpa using h1, by rw [h2, show i + 1 + n = i + (n + 1) by omega], h3⟩

def valueC (p : Int × Int) : Value := if 0 ≤ p.1 then .tuple #[.int .i32 p.2, .bool true] else .tuple #[.int .i32 0, .bool false]
set_option maxRecDepth 100000 in
set_option maxHeartbeats 2000000 in
theorem value_ctor (w : World) (a : Option Addr) (nm : ByteArray) (l : List (List ByteArray)) (c : Nat) (s : ByteArray) (h : EnumsAt w a nm l) (hl : l.length ≤ maxLen) :
    Calls Try.prog 25 #[.slice a l.length c, .agg #[.int .u8 3, .int .u8 0, .int .i32 0, .string s, .slice none 0 0, .slice none 0 0, .int .i64 0, .int .i64 0]] w fun e w' => e = .returned (valueC (ctorAt s l 0)) ∧ Below w.heap.size w w' := by
  have hb := (Below.refl w.heap.size w).alloc (Nat.le_refl _) (.cells #[.int .u8 3, .int .u8 0, .int .i32 0, .string s, .slice none 0 0, .slice none 0 0, .int .i64 0, .int .i64 0] 44)
  have hC := ctorEnum_any (w.alloc (.cells #[.int .u8 3, .int .u8 0, .int .i32 0, .string s, .slice none 0 0, .slice none 0 0, .int .i64 0, .int .i64 0] 44)) a l c nm s (h.below hb) hl
  rw [← ctorAt_fst] at hC
  have hT := Has.new w 44 #[.int .u8 3, .int .u8 0, .int .i32 0, .string s, .slice none 0 0, .slice none 0 0, .int .i64 0, .int .i64 0]
  unfold valueC
  unfold maxLen at hl
  by_cases hf : 0 ≤ (ctorAt s l 0).1
  · rw [if_pos hf]
    obtain ⟨n, x, hn, he, hx⟩ := ctorAt_found s l 0 hf
    rw [he] at hC ⊢
    rw [Nat.zero_add] at hC
    obtain ⟨hxl, b, off, ca, cc, rfl, _, h2, h3⟩ := h n x hn
    have hnl : n < l.length := (List.getElem?_eq_some_iff.1 hn).1
    have hr := fstN_range (hits s x) 0
    have hlen : (hits s x).length = x.length := by simp [hits]
    have h0 : 0 ≤ fstN (hits s x) 0 := by unfold hasB at hx; exact of_decide_eq_true hx
    have hI := fun wx (hb : Below w.heap.size w wx) => index_any wx ca x cc s (h3.below hb) (by unfold maxLen; omega)
    obtain ⟨v, hv⟩ : ∃ v, v = fstN (hits s x) 0 := ⟨_, rfl⟩
    rw [← hv] at hI hr h0 ⊢
    have hv1 : v ≤ 40 := by omega
    have hwr : IntKind.i32.wrap v = v := by
      unfold IntKind.wrap
      simp [IntKind.signed, IntKind.bits]
      omega
    have i0 : (0 : Int) ≤ (n : Int) := Int.natCast_nonneg _
    have i1 : (n : Int) < (l.length : Int) := by omega
    have HI := Lib.hid hI
    have HC := Lib.hid hC
    have HB := Lib.hid hb
    have HT := Lib.hid hT
    have H2 := Lib.hid h2
    clear hI hC hb hT h2 h3 h hv hr hlen hx he hf hn
    go_enter Try.func25, Try.ntmps25
    go_wp2_with fail
    refine HC.out.mono ?_
    rintro e w1 ⟨rfl, hb1⟩
    have hbb := HB.out.trans (hb1.mono HB.out.size)
    have q2 : w1.cell? ⟨b, off + n * 4 + 1, none⟩ = some (.slice ca x.length cc) := (hbb.cell (p := ⟨b, off + n * 4 + 1, none⟩) (World.block_lt_of_cell? w _ H2.out)).trans H2.out
    have t3 := (HT.out.below hb1 HT.out.lt).cell 3
    simp only [List.getElem?_toArray, List.getElem?_cons_zero, List.getElem?_cons_succ] at t3
    have HB1 := Lib.hid hbb
    clear hb1 hbb
    go_wp2_with fail
    go_quiet ((exact Calls.quiet_of_same (HI.out _ (below_drewN HB1.out _))))
    go_wp2_with fail
    go_ret2
    exact ⟨rfl, below_drewN HB1.out _⟩
  · rw [if_neg hf]
    have h1 : (ctorAt s l 0).1 = -1 := by
      have := ctorAt_fst s l 0
      have hr := fstN_range (l.map (hasB s)) 0
      omega
    rw [h1] at hC
    have HC := Lib.hid hC
    have HB := Lib.hid hb
    clear hC hb hT h hf h1
    go_enter Try.func25, Try.ntmps25
    go_wp2_with fail
    refine HC.out.mono ?_
    rintro e w1 ⟨rfl, hb1⟩
    have HB1 := Lib.hid (HB.out.trans (hb1.mono HB.out.size))
    clear hb1
    go_wp2_with fail
    go_ret2
    exact ⟨rfl, HB1.out⟩
end Go.Proofs.Ytjkkalhgbfbcbaa.tr
