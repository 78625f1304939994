/-
  Clone of strings: its walk.
-/
import Derived.Test.YtjkkalhgbfbcbaaTrFind
import Derived.Test.YtjkkalhgbfbcbaaTrOnce
namespace Go.Proofs.Ytjkkalhgbfbcbaa.tr
open Go.ChangeShapes Go.WideShapes Go.ChangeAt Go.RowKit
set_option linter.unusedVariables false

theorem strs_none {w : World} {l : List ByteArray} (h : Strs w none l) : l = [] := by
  cases l with
  | nil => rfl
  | cons x r => obtain ⟨b, off, e, _⟩ := h 0 x rfl; cases e
theorem strs_owned {w : World} {B n : Nat} {v : Value} {ss : List ByteArray} (h : w.ownsRow B 9 1 v n (ss.map strV)) (hz : ∀ s ∈ ss, s.size ≤ maxLen) : ∃ a c, v = .slice a ss.length c ∧ Strs w a ss := by
  have hl : ss.length = n := by have := h.1; simpa using this
  subst hl
  rcases h.2 with ⟨rfl, h0⟩ | ⟨g, cap, cur, rfl, _, hh, h1, h2, h3, h4⟩
  · have : ss = [] := List.length_eq_zero_iff.1 h0
    subst this
    exact ⟨none, 0, rfl, fun i s hi => by simp at hi⟩
  · refine ⟨some ⟨g, 0, none⟩, cap, rfl, fun i s hi => ⟨g, 0, rfl, ?_, ?_⟩⟩
    · have := h.cells (g := g) rfl i (.string s) (by rw [List.getElem?_map, hi]; rfl)
      rw [add_plain] at this
      exact this
    · exact hz s (List.mem_of_getElem? hi)

theorem eqSliceNil (w : World) (a : Option Addr) (n c : Nat) : (binOp .eql 41 (.slice a n c) (.slice none 0 0)).run Try.prog w = .ok (.bool a.isNone) w := by
  cases a <;> kernel_rfl

set_option maxRecDepth 100000 in
set_option maxHeartbeats 2000000 in
theorem clone_any (w : World) (a : Option Addr) (ss : List ByteArray) (c : Nat) (hs : Strs w a ss) (hl : ss.length ≤ 40) (hz : ∀ s ∈ ss, s.size ≤ maxLen) :
    Calls Try.prog 54 #[.slice a ss.length c] w fun e w' => (∃ a' c', e = .returned (.slice a' ss.length c') ∧ Strs w' a' ss) ∧ Below w.heap.size w w' := by
  obtain ⟨i0, hi, hi0, hi1, hi2⟩ := info_parts str_info
  have hqn := eqSliceNil w a ss.length c
  cases a with
  | none =>
    obtain rfl := strs_none hs
    have hqn0 : (binOp .eql 41 (.slice none 0 c) (.slice none 0 0)).run Try.prog w = .ok (.bool true) w := eqSliceNil w none 0 c
    go_enter Try.func54, Try.ntmps54
    go_wp2_with fail
    go_ret
    exact ⟨⟨none, 0, rfl, hs⟩, Below.refl _ _⟩
  | some a0 =>
    have hown : (w.alloc (.cells #[] 9)).ownsRow w.heap.size 9 1 (.slice (some ⟨w.heap.size, 0, none⟩) 0 0) 0 [] := World.ownsRow_made w #[] 0 (Nat.le_refl _) (by decide) (by rfl)
    have hsrc : ∀ j u, (ss.map strV)[j]? = some u → (w.alloc (.cells #[] 9)).cell? (a0.add j) = some u := by
      intro j u hj
      rw [List.getElem?_map] at hj
      obtain ⟨s, hs1, rfl⟩ := Option.map_eq_some_iff.1 hj
      obtain ⟨b, off, e, hc, _⟩ := (hs.below ((Below.refl w.heap.size w).alloc (Nat.le_refl _) (.cells #[] 9))) j s hs1
      simp only [Option.some.injEq] at e
      subst e
      rw [add_plain]
      exact hc
    have hone : ∀ u ∈ ss.map strV, u.oneCell' = true := by
      intro u hu
      obtain ⟨s, _, rfl⟩ := List.mem_map.1 hu
      rfl
    have HOWN := Lib.hid hown
    have HSRC := Lib.hid hsrc
    have HONE := Lib.hid hone
    have HZ := Lib.hid hz
    have HC3 : Hid (0 + ss.length ≤ maxLen) := Lib.hid (by unfold maxLen; omega)
    have HC4 : Hid ((0 + ss.length) * 16 ≤ 140737488355328) := Lib.hid (by omega)
    have HC5 : Hid (w.heap.size ≤ (w.alloc (.cells #[] 9)).heap.size) := Lib.hid (by simp)
    have HL : Hid ((ss.map strV).length = ss.length * 1) := Lib.hid (by simp)
    clear hown hsrc hone hz hs
    go_enter Try.func54, Try.ntmps54
    go_wp2_with (at_builtin; refine wpList_append_own _ rfl _ _ 41 rfl w.heap.size 9 i0 (.string ⟨#[]⟩) 1 16 Try.underlying41 hi hi0 hi1 hi2 rfl (by decide) _ _ _ rfl HOWN.out a0 ss.length c (ss.map strV) rfl HL.out HSRC.out HONE.out HC3.out HC4.out HC5.out ?_; intro v' w3 hown3 hgr3 _)
    have HB := Lib.hid (((Below.refl w.heap.size w).alloc (Nat.le_refl _) (.cells #[] 9)).grown hgr3 HC5.out (fun k hk => by have hk2 : some w.heap.size = some k := hk; injection hk2 with hk2; omega))
    have hfin := strs_owned (ss := ss) (B := w.heap.size) (n := 0 + ss.length) (v := v') (w := w3) (by simpa using hown3) HZ.out
    obtain ⟨a', c', rfl, hstr⟩ := hfin
    go_ret
    exact ⟨⟨a', c', rfl, hstr⟩, HB.out⟩
end Go.Proofs.Ytjkkalhgbfbcbaa.tr
