/-
  first of package lex: its walk.
-/
import Derived.Test.YtjjihijkkljbnaaDoorLxMem
namespace Go.Proofs.YtjjihijkkljbnaaDoor.lx
open Go.ChangeShapes Go.WideShapes Go.ChangeAt Go.RowKit
set_option linter.unusedVariables false

theorem first_cons (s : ByteArray) (h0 : 0 < s.size) : first s.data.toList = if digB s[0] then number s.data.toList else if letB s[0] then name s.data.toList else sign s.data.toList := by
  have hd := drop_at s 0 h0
  rw [List.drop_zero] at hd
  rw [hd]; rfl

theorem first_nil (s : ByteArray) (w : World) (h0 : s.size = 0) :
    Calls Tryd.prog 38 #[.string s] w fun e w' => e = .returned (fstV (first s.data.toList)) ∧ Below w.heap.size w w' := by
  have hl : s.data.toList = [] := List.eq_nil_of_length_eq_zero (by simpa using h0)
  have he : s.toList.isEmpty = true := by rw [Lib.toList_data, hl]; rfl
  rw [hl]
  clear hl h0
  go_enter Tryd.func38, Tryd.ntmps38
  go_wp2
  refine bodyPost_ret (v := fstV (.ok 0 [] 0)) (by simp [fstV, results, Tryd.results38, go_sem] <;> rfl) rfl ⟨rfl, ?_⟩
  exact (Below.refl _ _).alloc (Nat.le_refl _) _

/-- the block of the answer, behind the call -/
theorem tok_cells {w w1 : World} {t : TypeId} {cs : Array Value} (hb : Below (w.alloc (.cells cs t)).heap.size (w.alloc (.cells cs t)) w1) : Has w1 w.heap.size t cs ∧ w.heap.size < w1.heap.size :=
  ⟨(Has.new w t cs).below hb (by simp), by have := hb.size; simp at this; omega⟩

set_option maxHeartbeats 1000000 in
theorem first_num (s : ByteArray) (w : World) (h : s.size ≤ 70000) (h0 : 0 < s.size) (hT : Laid w) (hdig : digB s[0] = true) :
    Calls Tryd.prog 38 #[.string s] w fun e w' => e = .returned (fstV (first s.data.toList)) ∧ Below w.heap.size w w' := by
  have hd := isDigit_any s[0]
  have hl := isLetter_any s[0]
  have hlen : 0 < s.data.toList.length := by simpa using h0
  have he : s.toList.isEmpty = false := by
    rw [Lib.toList_data]
    cases hq : s.data.toList with
    | nil => rw [hq] at hlen; simp at hlen
    | cons c r => rfl
  rw [first_cons s h0]
  rw [if_pos hdig]
  rw [hdig] at hd
  have hn := fun W => fun (_ : Laid W) => number_any s W h
  have HD := Lib.hid hd
  have HL := Lib.hid hl
  clear hd hl hlen
  cases hr : number s.data.toList with
  | ok kk tx nn =>
    simp only [hr, fstV] at hn
    have HN := Lib.hid hn
    clear hn
    go_enter Tryd.func38, Tryd.ntmps38
    go_wp2_with (first | (go_at_call 58; refine (HD.out _).mono ?_; rintro e w' ⟨rfl, rfl⟩) | (go_at_call 59; refine (HN.out _ ?_).mono ?_; rotate_left; rintro e w1 ⟨rfl, hb1⟩; obtain ⟨hh, hz1⟩ := tok_cells hb1; have c0 := hh.cell 0; have c1 := hh.cell 1; have c2 := hh.cell 2; have c3 := hh.cell 3; have c4 := hh.cell 4; have f0 := hh.free 0; have f1 := hh.free 1; have f2 := hh.free 2; have f3 := hh.free 3; have f4 := hh.free 4; simp only [List.getElem?_toArray, List.getElem?_cons_zero, List.getElem?_cons_succ] at c0 c1 c2 c3 c4; have HB := Lib.hid hb1; clear hb1 hh))
    all_goals first | exact hT.below ((Below.refl _ _).alloc (Nat.le_refl _) _) | skip
    refine bodyPost_ret (v := fstV (.ok kk tx nn)) (by simp [fstV, results, Tryd.results38, go_sem, c0, c1, c2, c3, c4] <;> rfl) rfl ⟨rfl, ?_⟩
    exact ((((((((Below.refl _ _).alloc (Nat.le_refl _) _).trans (HB.out.mono (by simp))).setCell (Nat.le_refl _) _).setCell (Nat.le_refl _) _).setCell (Nat.le_refl _) _).setCell (Nat.le_refl _) _).setCell (Nat.le_refl _) _)
  | bad kk =>
    simp only [hr, fstV] at hn
    have HN := Lib.hid hn
    clear hn
    go_enter Tryd.func38, Tryd.ntmps38
    go_wp2_with (first | (go_at_call 58; refine (HD.out _).mono ?_; rintro e w' ⟨rfl, rfl⟩) | (go_at_call 59; refine (HN.out _ ?_).mono ?_; rotate_left; rintro e w1 ⟨rfl, hb1⟩; obtain ⟨hh, hz1⟩ := tok_cells hb1; have c0 := hh.cell 0; have c1 := hh.cell 1; have c2 := hh.cell 2; have c3 := hh.cell 3; have c4 := hh.cell 4; have f0 := hh.free 0; have f1 := hh.free 1; have f2 := hh.free 2; have f3 := hh.free 3; have f4 := hh.free 4; simp only [List.getElem?_toArray, List.getElem?_cons_zero, List.getElem?_cons_succ] at c0 c1 c2 c3 c4; have HB := Lib.hid hb1; clear hb1 hh))
    all_goals first | exact hT.below ((Below.refl _ _).alloc (Nat.le_refl _) _) | skip
    refine bodyPost_ret (v := fstV (.bad kk)) (by simp [fstV, results, Tryd.results38, go_sem, c0, c1, c2, c3, c4] <;> rfl) rfl ⟨rfl, ?_⟩
    exact ((((((((Below.refl _ _).alloc (Nat.le_refl _) _).trans (HB.out.mono (by simp))).setCell (Nat.le_refl _) _).setCell (Nat.le_refl _) _).setCell (Nat.le_refl _) _).setCell (Nat.le_refl _) _).setCell (Nat.le_refl _) _)
set_option maxHeartbeats 1000000 in
theorem first_nam (s : ByteArray) (w : World) (h : s.size ≤ 70000) (h0 : 0 < s.size) (hT : Laid w) (hdig : digB s[0] = false) (hlet : letB s[0] = true) :
    Calls Tryd.prog 38 #[.string s] w fun e w' => e = .returned (fstV (first s.data.toList)) ∧ Below w.heap.size w w' := by
  have hd := isDigit_any s[0]
  have hl := isLetter_any s[0]
  have hlen : 0 < s.data.toList.length := by simpa using h0
  have he : s.toList.isEmpty = false := by
    rw [Lib.toList_data]
    cases hq : s.data.toList with
    | nil => rw [hq] at hlen; simp at hlen
    | cons c r => rfl
  rw [first_cons s h0]
  rw [if_neg (by rw [hdig]; simp)]
  rw [hdig] at hd
  rw [if_pos hlet]
  rw [hlet] at hl
  have hn := fun W => fun (_ : Laid W) => name_any s W h h0 hlet
  have HD := Lib.hid hd
  have HL := Lib.hid hl
  clear hd hl hlen
  cases hr : name s.data.toList with
  | ok kk tx nn =>
    simp only [hr, fstV] at hn
    have HN := Lib.hid hn
    clear hn
    go_enter Tryd.func38, Tryd.ntmps38
    go_wp2_with (first | (go_at_call 58; refine (HD.out _).mono ?_; rintro e w' ⟨rfl, rfl⟩) | (go_at_call 60; refine (HL.out _).mono ?_; rintro e w' ⟨rfl, rfl⟩) | (go_at_call 61; refine (HN.out _ ?_).mono ?_; rotate_left; rintro e w1 ⟨rfl, hb1⟩; obtain ⟨hh, hz1⟩ := tok_cells hb1; have c0 := hh.cell 0; have c1 := hh.cell 1; have c2 := hh.cell 2; have c3 := hh.cell 3; have c4 := hh.cell 4; have f0 := hh.free 0; have f1 := hh.free 1; have f2 := hh.free 2; have f3 := hh.free 3; have f4 := hh.free 4; simp only [List.getElem?_toArray, List.getElem?_cons_zero, List.getElem?_cons_succ] at c0 c1 c2 c3 c4; have HB := Lib.hid hb1; clear hb1 hh))
    all_goals first | exact hT.below ((Below.refl _ _).alloc (Nat.le_refl _) _) | skip
    refine bodyPost_ret (v := fstV (.ok kk tx nn)) (by simp [fstV, results, Tryd.results38, go_sem, c0, c1, c2, c3, c4] <;> rfl) rfl ⟨rfl, ?_⟩
    exact ((((((((Below.refl _ _).alloc (Nat.le_refl _) _).trans (HB.out.mono (by simp))).setCell (Nat.le_refl _) _).setCell (Nat.le_refl _) _).setCell (Nat.le_refl _) _).setCell (Nat.le_refl _) _).setCell (Nat.le_refl _) _)
  | bad kk =>
    simp only [hr, fstV] at hn
    have HN := Lib.hid hn
    clear hn
    go_enter Tryd.func38, Tryd.ntmps38
    go_wp2_with (first | (go_at_call 58; refine (HD.out _).mono ?_; rintro e w' ⟨rfl, rfl⟩) | (go_at_call 60; refine (HL.out _).mono ?_; rintro e w' ⟨rfl, rfl⟩) | (go_at_call 61; refine (HN.out _ ?_).mono ?_; rotate_left; rintro e w1 ⟨rfl, hb1⟩; obtain ⟨hh, hz1⟩ := tok_cells hb1; have c0 := hh.cell 0; have c1 := hh.cell 1; have c2 := hh.cell 2; have c3 := hh.cell 3; have c4 := hh.cell 4; have f0 := hh.free 0; have f1 := hh.free 1; have f2 := hh.free 2; have f3 := hh.free 3; have f4 := hh.free 4; simp only [List.getElem?_toArray, List.getElem?_cons_zero, List.getElem?_cons_succ] at c0 c1 c2 c3 c4; have HB := Lib.hid hb1; clear hb1 hh))
    all_goals first | exact hT.below ((Below.refl _ _).alloc (Nat.le_refl _) _) | skip
    refine bodyPost_ret (v := fstV (.bad kk)) (by simp [fstV, results, Tryd.results38, go_sem, c0, c1, c2, c3, c4] <;> rfl) rfl ⟨rfl, ?_⟩
    exact ((((((((Below.refl _ _).alloc (Nat.le_refl _) _).trans (HB.out.mono (by simp))).setCell (Nat.le_refl _) _).setCell (Nat.le_refl _) _).setCell (Nat.le_refl _) _).setCell (Nat.le_refl _) _).setCell (Nat.le_refl _) _)
set_option maxHeartbeats 1000000 in
theorem first_sgn (s : ByteArray) (w : World) (h : s.size ≤ 70000) (h0 : 0 < s.size) (hT : Laid w) (hdig : digB s[0] = false) (hlet : letB s[0] = false) :
    Calls Tryd.prog 38 #[.string s] w fun e w' => e = .returned (fstV (first s.data.toList)) ∧ Below w.heap.size w w' := by
  have hd := isDigit_any s[0]
  have hl := isLetter_any s[0]
  have hlen : 0 < s.data.toList.length := by simpa using h0
  have he : s.toList.isEmpty = false := by
    rw [Lib.toList_data]
    cases hq : s.data.toList with
    | nil => rw [hq] at hlen; simp at hlen
    | cons c r => rfl
  rw [first_cons s h0]
  rw [if_neg (by rw [hdig]; simp)]
  rw [hdig] at hd
  rw [if_neg (by rw [hlet]; simp)]
  rw [hlet] at hl
  have hn := fun W => fun (hW : Laid W) => sign_any s W h hW
  have HD := Lib.hid hd
  have HL := Lib.hid hl
  clear hd hl hlen
  cases hr : sign s.data.toList with
  | ok kk tx nn =>
    simp only [hr, fstV] at hn
    have HN := Lib.hid hn
    clear hn
    go_enter Tryd.func38, Tryd.ntmps38
    go_wp2_with (first | (go_at_call 58; refine (HD.out _).mono ?_; rintro e w' ⟨rfl, rfl⟩) | (go_at_call 60; refine (HL.out _).mono ?_; rintro e w' ⟨rfl, rfl⟩) | (go_at_call 62; refine (HN.out _ ?_).mono ?_; rotate_left; rintro e w1 ⟨rfl, hb1⟩; obtain ⟨hh, hz1⟩ := tok_cells hb1; have c0 := hh.cell 0; have c1 := hh.cell 1; have c2 := hh.cell 2; have c3 := hh.cell 3; have c4 := hh.cell 4; have f0 := hh.free 0; have f1 := hh.free 1; have f2 := hh.free 2; have f3 := hh.free 3; have f4 := hh.free 4; simp only [List.getElem?_toArray, List.getElem?_cons_zero, List.getElem?_cons_succ] at c0 c1 c2 c3 c4; have HB := Lib.hid hb1; clear hb1 hh))
    all_goals first | exact hT.below ((Below.refl _ _).alloc (Nat.le_refl _) _) | skip
    refine bodyPost_ret (v := fstV (.ok kk tx nn)) (by simp [fstV, results, Tryd.results38, go_sem, c0, c1, c2, c3, c4] <;> rfl) rfl ⟨rfl, ?_⟩
    exact ((((((((Below.refl _ _).alloc (Nat.le_refl _) _).trans (HB.out.mono (by simp))).setCell (Nat.le_refl _) _).setCell (Nat.le_refl _) _).setCell (Nat.le_refl _) _).setCell (Nat.le_refl _) _).setCell (Nat.le_refl _) _)
  | bad kk =>
    simp only [hr, fstV] at hn
    have HN := Lib.hid hn
    clear hn
    go_enter Tryd.func38, Tryd.ntmps38
    go_wp2_with (first | (go_at_call 58; refine (HD.out _).mono ?_; rintro e w' ⟨rfl, rfl⟩) | (go_at_call 60; refine (HL.out _).mono ?_; rintro e w' ⟨rfl, rfl⟩) | (go_at_call 62; refine (HN.out _ ?_).mono ?_; rotate_left; rintro e w1 ⟨rfl, hb1⟩; obtain ⟨hh, hz1⟩ := tok_cells hb1; have c0 := hh.cell 0; have c1 := hh.cell 1; have c2 := hh.cell 2; have c3 := hh.cell 3; have c4 := hh.cell 4; have f0 := hh.free 0; have f1 := hh.free 1; have f2 := hh.free 2; have f3 := hh.free 3; have f4 := hh.free 4; simp only [List.getElem?_toArray, List.getElem?_cons_zero, List.getElem?_cons_succ] at c0 c1 c2 c3 c4; have HB := Lib.hid hb1; clear hb1 hh))
    all_goals first | exact hT.below ((Below.refl _ _).alloc (Nat.le_refl _) _) | skip
    refine bodyPost_ret (v := fstV (.bad kk)) (by simp [fstV, results, Tryd.results38, go_sem, c0, c1, c2, c3, c4] <;> rfl) rfl ⟨rfl, ?_⟩
    exact ((((((((Below.refl _ _).alloc (Nat.le_refl _) _).trans (HB.out.mono (by simp))).setCell (Nat.le_refl _) _).setCell (Nat.le_refl _) _).setCell (Nat.le_refl _) _).setCell (Nat.le_refl _) _).setCell (Nat.le_refl _) _)

theorem first_any (s : ByteArray) (w : World) (h : s.size ≤ 70000) (hT : Laid w) :
    Calls Tryd.prog 38 #[.string s] w fun e w' => e = .returned (fstV (first s.data.toList)) ∧ Below w.heap.size w w' := by
  by_cases h0 : 0 < s.size
  · rcases Bool.eq_false_or_eq_true (digB s[0]) with hd | hd
    · exact first_num s w h h0 hT hd
    · rcases Bool.eq_false_or_eq_true (letB s[0]) with hl | hl
      · exact first_nam s w h h0 hT hd hl
      · exact first_sgn s w h h0 hT hd hl
  · exact first_nil s w (by omega)
end Go.Proofs.YtjjihijkkljbnaaDoor.lx
