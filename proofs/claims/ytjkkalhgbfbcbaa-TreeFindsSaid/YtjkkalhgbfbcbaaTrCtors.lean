/-
  Ctors of package tree, and of the reference, over types of one name.
-/
import Derived.Test.YtjkkalhgbfbcbaaTrClone
namespace Go.Proofs.Ytjkkalhgbfbcbaa.tr
open Go.ChangeShapes Go.WideShapes Go.ChangeAt Go.RowKit
set_option linter.unusedVariables false

def bF : ByteArray := ⟨#[102, 97, 108, 115, 101]⟩
def bT : ByteArray := ⟨#[116, 114, 117, 101]⟩
/-- the constructors of a type of this kind -/
def ctorsOf (k : Nat) (l : List (List ByteArray)) : List ByteArray := if k = 1 then [bF, bT] else if k = 3 then l.headD [] else []

theorem strs_two (w : World) (g : Nat) (h : Has w g 9 #[.string bF, .string bT]) : Strs w (some ⟨g, 0, none⟩) [bF, bT] := by
  intro i s hi
  have hi2 : i < 2 := (List.getElem?_eq_some_iff.1 hi).1
  refine ⟨g, 0, rfl, ?_, ?_⟩
  · rw [h.cell]
    match i, hi2, hi with
    | 0, _, hi => simpa using hi
    | 1, _, hi => simpa using hi
  · match i, hi2, hi with
    | 0, _, hi => simp at hi; subst hi; decide
    | 1, _, hi => simp at hi; subst hi; decide

def CtorsPost (w : World) (l : List ByteArray) (e : Ending) (w' : World) : Prop := (∃ a c, e = .returned (.slice a l.length c) ∧ Strs w' a l) ∧ Below w.heap.size w w'
theorem strs_nil (w : World) (a : Option Addr) : Strs w a [] := fun i s hi => by simp at hi

set_option maxRecDepth 100000 in
set_option maxHeartbeats 2000000 in
theorem ctorsT_any (w : World) (a : Option Addr) (l : List (List ByteArray)) (c : Nat) (k : Nat) (s : ByteArray) (hk : k ≤ 255) (h : EnumsAt w a s l) (hz : ∀ cs ∈ l, ∀ s ∈ cs, s.size ≤ maxLen) (hl : l.length ≤ maxLen) :
    Calls Try.prog 23 #[.slice a l.length c, .agg #[.int .u8 k, .string s]] w (CtorsPost w (ctorsOf k l)) := by
  have hb := (Below.refl w.heap.size w).alloc (Nat.le_refl _) (.cells #[.int .u8 (k : Int), .string s] 49)
  unfold CtorsPost ctorsOf
  by_cases k1 : k = 1
  · subst k1
    rw [if_pos rfl]
    have hn := Has.new (w.alloc (.cells #[.int .u8 ((1 : Nat) : Int), .string s] 49)) 9 #[.string bF, .string bT]
    simp only [World.size_alloc] at hn
    have HN := Lib.hid hn
    have HB := Lib.hid hb
    clear hn hb h hz
    go_enter Try.func23, Try.ntmps23
    go_wp2_with fail
    go_ret
    exact ⟨⟨_, _, rfl, strs_two _ _ HN.out⟩, HB.out.alloc HB.out.size _⟩
  rw [if_neg k1]
  have f1 : ((k : Int) == 1) = false := by rw [beq_eq_false_iff_ne]; omega
  clear k1
  by_cases k3 : k = 3
  · subst k3
    rw [if_pos rfl]
    have hF := findEnum_any (w.alloc (.cells #[.int .u8 ((3 : Nat) : Int), .string s] 49)) a l c s s (h.below hb) hl
    cases l with
    | nil =>
      have HF : Hid (Calls Try.prog 27 #[.slice a 0 c, .string s] (w.alloc (.cells #[.int .u8 ((3 : Nat) : Int), .string s] 49)) fun e w' => e = .returned (.int .i64 (-1)) ∧ Below (w.alloc (.cells #[.int .u8 ((3 : Nat) : Int), .string s] 49)).heap.size (w.alloc (.cells #[.int .u8 ((3 : Nat) : Int), .string s] 49)) w') := Lib.hid hF
      have HB := Lib.hid hb
      clear hF hb h hz hl
      go_enter Try.func23, Try.ntmps23
      go_wp2_with fail
      refine HF.out.mono ?_
      rintro e w1 ⟨rfl, hb1⟩
      have HB1 := Lib.hid (HB.out.trans (hb1.mono HB.out.size))
      clear hb1
      go_wp2_with fail
      go_ret
      exact ⟨⟨_, _, rfl, strs_nil _ _⟩, HB1.out⟩
    | cons x r =>
      have he : fstN ((x :: r).map fun _ => eqS s s) 0 = 0 := by rw [List.map_cons, fstN, eqS_refl, if_pos rfl]; rfl
      rw [he] at hF
      obtain ⟨hxl, b, off, ca, cc, rfl, h1, h2, h3⟩ := h 0 x rfl
      rw [Nat.zero_mul, Nat.add_zero] at h1 h2
      have HF := Lib.hid hF
      have HB := Lib.hid hb
      have HX := Lib.hid (And.intro h2 h3)
      have HZ := Lib.hid (hz x (by simp))
      have hxl' : (0 : Int) < (((x :: r).length : Nat) : Int) := by simp only [List.length_cons]; omega
      generalize (x :: r).length = nl at *
      clear hF hb h hz he h1 h2 h3
      go_enter Try.func23, Try.ntmps23
      go_wp2_with fail
      refine HF.out.mono ?_
      rintro e w1 ⟨rfl, hb1⟩
      have hbb := HB.out.trans (hb1.mono HB.out.size)
      have q2 : w1.cell? ⟨b, off + 1, none⟩ = some (.slice ca x.length cc) := (hbb.cell (p := ⟨b, off + 1, none⟩) (World.block_lt_of_cell? w _ HX.out.1)).trans HX.out.1
      have HB1 := Lib.hid hbb
      have HS1 := Lib.hid (HX.out.2.below hbb)
      clear hb1 hbb
      go_wp2_with fail
      refine (clone_any _ _ _ _ HS1.out hxl HZ.out).mono ?_
      rintro e w2 ⟨⟨a2, c2, rfl, hs2⟩, hb2⟩
      have HB2 := Lib.hid (HB1.out.trans (hb2.mono HB1.out.size))
      have HS2 := Lib.hid hs2
      clear hb2 hs2 q2
      go_wp2_with fail
      go_ret
      exact ⟨⟨_, _, rfl, HS2.out⟩, HB2.out⟩
  · rw [if_neg k3]
    have f3 : ((k : Int) == 3) = false := by rw [beq_eq_false_iff_ne]; omega
    have HB := Lib.hid hb
    clear k3 hb h hz hl
    go_enter Try.func23, Try.ntmps23
    go_wp2_with fail
    go_ret
    exact ⟨⟨_, _, rfl, strs_nil _ _⟩, HB.out⟩
end Go.Proofs.Ytjkkalhgbfbcbaa.tr
