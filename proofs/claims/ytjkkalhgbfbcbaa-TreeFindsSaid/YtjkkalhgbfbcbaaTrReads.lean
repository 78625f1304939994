/-
  Reads and All of package tree: their walks.
-/
import Derived.Test.YtjkkalhgbfbcbaaTrRead
namespace Go.Proofs.Ytjkkalhgbfbcbaa.tr
open Go.ChangeShapes Go.WideShapes Go.ChangeAt Go.RowKit Go.Maps Go.WideMaps
set_option linter.unusedVariables false

theorem LaidC.boxed {w : World} {x : Ex} {cs : Array Value} (h : LaidC w x cs.toList) : LaidAt (w.alloc (.cells cs 44)) w.heap.size 0 x := by
  refine ⟨cs.toList, fun j v hj => ?_, h.below ((Below.refl _ _).alloc (Nat.le_refl _) _)⟩
  rw [Nat.zero_add, (Has.new w 44 cs).cell j]
  simpa using hj

theorem LaidC.form {w : World} {x : Ex} {cs : Array Value} (h : LaidC w x cs.toList) : ∃ c0 c1 c2 c3 c4 c5 c6 c7, cs = #[c0, c1, c2, c3, c4, c5, c6, c7] := by
  cases x
  unfold LaidC at h
  obtain ⟨_, _, _, _, _, na, nc, ka, kc, _, _, e, _, _⟩ := h
  exact ⟨_, _, _, _, _, _, _, _, by apply Array.toList_inj.1; rw [e]⟩

def ReadsPost (ns : List ByteArray) (w : World) (e : Ending) (w' : World) : Prop := (∃ lv, e = .returned lv ∧ w'.ownsRow (w.heap.size + 1) 9 1 lv ns.length (ns.map strV)) ∧ Below w.heap.size w w'

theorem once_new (w : World) : IsOnce (w.alloc (.cells #[.slice none 0 0, .map none] 96)) w.heap.size w.heap.size 0 [] (.slice none 0 0) (.map none) :=
  ⟨Has.new _ _ _, World.ownsRow_nil _ _ _ _, .inl ⟨rfl, rfl⟩, by simp, Nat.le_refl _⟩

set_option maxRecDepth 100000 in
theorem reads_any (w : World) (x : Ex) (cs : Array Value) (h : LaidC w x cs.toList) (hn : (calls false x).length ≤ 1000000) :
    Calls Try.prog 11 #[.agg cs] w (ReadsPost (addAll [] (calls false x)) w) := by
  have hmf : ∀ (fn : Fn) (first cap : Array Value) (w : World), (Instr.makeFunc fn first cap).run Try.prog w = .ok (.func fn first cap) w := fun _ _ _ _ => rfl
  have hl := h.boxed
  obtain ⟨c0, c1, c2, c3, c4, c5, c6, c7, rfl⟩ := h.form
  have ho := once_new (w.alloc (.cells #[c0, c1, c2, c3, c4, c5, c6, c7] 44))
  have hr := read_any false (sz x) x (Nat.le_refl _) (w.alloc (.cells #[c0, c1, c2, c3, c4, c5, c6, c7] 44)) ((w.alloc (.cells #[c0, c1, c2, c3, c4, c5, c6, c7] 44)).alloc (.cells #[.slice none 0 0, .map none] 96)) w.heap.size 0 (w.alloc (.cells #[c0, c1, c2, c3, c4, c5, c6, c7] 44)).heap.size 0 [] _ _ hl ((Below.refl _ _).alloc (Nat.le_refl _) _) ho (by omega)
  simp only [World.size_alloc] at hr
  have HR := Lib.hid hr
  clear hr ho hl h
  go_enter Try.func11, Try.ntmps11
  go_wp2_with fail
  refine HR.out.mono ?_
  rintro e w1 ⟨rfl, ⟨lv, mv, hO⟩, hb⟩
  have hlo := hO.has.cell 0
  have lt := hO.has.lt
  simp only [List.getElem?_toArray, List.getElem?_cons_zero] at hlo
  have hb2 : Below w.heap.size w w1 := ((Below.refl _ _).alloc (Nat.le_refl _) _).trans (hb.mono (by simp only [World.size_alloc]; omega))
  have HO := Lib.hid hO.own
  have HB := Lib.hid hb2
  clear hO hb hb2 hmf
  go_wp2_with fail
  go_ret
  exact ⟨⟨lv, rfl, by have := HO.out; simpa only [World.size_alloc] using this⟩, HB.out⟩
set_option maxRecDepth 100000 in
theorem all_any (w : World) (x : Ex) (cs : Array Value) (h : LaidC w x cs.toList) (hn : (calls true x).length ≤ 1000000) :
    Calls Try.prog 13 #[.agg cs] w (ReadsPost (addAll [] (calls true x)) w) := by
  have hmf : ∀ (fn : Fn) (first cap : Array Value) (w : World), (Instr.makeFunc fn first cap).run Try.prog w = .ok (.func fn first cap) w := fun _ _ _ _ => rfl
  have hl := h.boxed
  obtain ⟨c0, c1, c2, c3, c4, c5, c6, c7, rfl⟩ := h.form
  have ho := once_new (w.alloc (.cells #[c0, c1, c2, c3, c4, c5, c6, c7] 44))
  have hr := read_any true (sz x) x (Nat.le_refl _) (w.alloc (.cells #[c0, c1, c2, c3, c4, c5, c6, c7] 44)) ((w.alloc (.cells #[c0, c1, c2, c3, c4, c5, c6, c7] 44)).alloc (.cells #[.slice none 0 0, .map none] 96)) w.heap.size 0 (w.alloc (.cells #[c0, c1, c2, c3, c4, c5, c6, c7] 44)).heap.size 0 [] _ _ hl ((Below.refl _ _).alloc (Nat.le_refl _) _) ho (by omega)
  simp only [World.size_alloc] at hr
  have HR := Lib.hid hr
  clear hr ho hl h
  go_enter Try.func13, Try.ntmps13
  go_wp2_with fail
  refine HR.out.mono ?_
  rintro e w1 ⟨rfl, ⟨lv, mv, hO⟩, hb⟩
  have hlo := hO.has.cell 0
  have lt := hO.has.lt
  simp only [List.getElem?_toArray, List.getElem?_cons_zero] at hlo
  have hb2 : Below w.heap.size w w1 := ((Below.refl _ _).alloc (Nat.le_refl _) _).trans (hb.mono (by simp only [World.size_alloc]; omega))
  have HO := Lib.hid hO.own
  have HB := Lib.hid hb2
  clear hO hb hb2 hmf
  go_wp2_with fail
  go_ret
  exact ⟨⟨lv, rfl, by have := HO.out; simpa only [World.size_alloc] using this⟩, HB.out⟩
end Go.Proofs.Ytjkkalhgbfbcbaa.tr
