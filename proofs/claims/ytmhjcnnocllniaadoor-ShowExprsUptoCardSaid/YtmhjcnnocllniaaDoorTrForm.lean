/-
  An expression's cells, boxed and by number.
-/
import Derived.Test.YtmhjcnnocllniaaDoorTrEx
namespace Go.Proofs.YtmhjcnnocllniaaDoor.tr
open Go.ChangeShapes Go.WideShapes Go.ChangeAt Go.RowKit
set_option linter.unusedVariables false

theorem LaidC.boxed {w : World} {x : Ex} {cs : Array Value} (h : LaidC w x cs.toList) : LaidAt (w.alloc (.cells cs 27)) w.heap.size 0 x := by
  refine ⟨cs.toList, fun j v hj => ?_, h.below ((Below.refl _ _).alloc (Nat.le_refl _) _)⟩
  rw [Nat.zero_add, (Has.new w 27 cs).cell j]
  simpa using hj

theorem LaidC.form {w : World} {x : Ex} {cs : Array Value} (h : LaidC w x cs.toList) : ∃ c0 c1 c2 c3 c4 c5 c6 c7, cs = #[c0, c1, c2, c3, c4, c5, c6, c7] := by
  cases x
  unfold LaidC at h
  obtain ⟨_, _, _, _, _, na, nc, ka, kc, _, _, e, _, _⟩ := h
  exact ⟨_, _, _, _, _, _, _, _, by apply Array.toList_inj.1; rw [e]⟩

theorem has8 {W : World} {g : Nat} {T : TypeId} {c0 c1 c2 c3 c4 c5 c6 c7 : Value} (h : Has W g T #[c0, c1, c2, c3, c4, c5, c6, c7]) :
    W.cell? ⟨g, 0, none⟩ = some c0 ∧ W.cell? ⟨g, 1, none⟩ = some c1 ∧ W.cell? ⟨g, 2, none⟩ = some c2 ∧ W.cell? ⟨g, 3, none⟩ = some c3 ∧ W.cell? ⟨g, 4, none⟩ = some c4 ∧ W.cell? ⟨g, 5, none⟩ = some c5 ∧ W.cell? ⟨g, 6, none⟩ = some c6 ∧ W.cell? ⟨g, 7, none⟩ = some c7 :=
  ⟨h.cell 0, h.cell 1, h.cell 2, h.cell 3, h.cell 4, h.cell 5, h.cell 6, h.cell 7⟩

theorem LaidAt.form {w : World} {b off : Nat} {x : Ex} (h : LaidAt w b off x) : ∃ c0 c1 c2 c3 c4 c5 c6 c7, LaidC w x [c0, c1, c2, c3, c4, c5, c6, c7] ∧
    w.cell? ⟨b, off, none⟩ = some c0 ∧ w.cell? ⟨b, off + 1, none⟩ = some c1 ∧ w.cell? ⟨b, off + 2, none⟩ = some c2 ∧ w.cell? ⟨b, off + 3, none⟩ = some c3 ∧ w.cell? ⟨b, off + 4, none⟩ = some c4 ∧ w.cell? ⟨b, off + 5, none⟩ = some c5 ∧ w.cell? ⟨b, off + 6, none⟩ = some c6 ∧ w.cell? ⟨b, off + 7, none⟩ = some c7 := by
  obtain ⟨cs, hc, hx⟩ := h
  obtain ⟨c0, c1, c2, c3, c4, c5, c6, c7, e⟩ := LaidC.form (cs := cs.toArray) (by simpa using hx)
  have e : cs = [c0, c1, c2, c3, c4, c5, c6, c7] := by simpa using congrArg Array.toList e
  subst e
  exact ⟨c0, c1, c2, c3, c4, c5, c6, c7, hx, hc 0 _ rfl, hc 1 _ rfl, hc 2 _ rfl, hc 3 _ rfl, hc 4 _ rfl, hc 5 _ rfl, hc 6 _ rfl, hc 7 _ rfl⟩

end Go.Proofs.YtmhjcnnocllniaaDoor.tr
