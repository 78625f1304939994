/-
  The survey's state, and the marks of its ranges, under each turn.
-/
import Derived.Test.YtboeobgkepdabaaDoorFcTake
import Derived.Test.YtboeobgkepdabaaDoorFcEnters
import Derived.Test.YtboeobgkepdabaaDoorFtNS0
namespace Go.Proofs.YtboeobgkepdabaaDoor.ft
open Go.ChangeShapes Go.WideShapes Go.ChangeAt Go.RowKit
open Go.Proofs.YtboeobgkepdabaaDoor.lx (Has grown_refl grown_put grown_below)
set_option linter.unusedVariables false

def Mark (W : World) (D : Nat) : Prop := W.heap[D]? = some (.deferred (some []))

section
variable {w : World} {S m p3 p4 : Nat} {parts : Value} {np : Nat} {us : List Value} {todo : Value} {n : Nat} {vs : List Value} {es : Array MapEntry} {c : Nat} {W W' : World} {D : Nat}

theorem Mark.lt (h : Mark W D) : D < W.heap.size := lt_get h

theorem NS.tookR {parts' : Value} {np' : Nat} {us' : List Value} (h : NS w S m p3 p4 parts np us todo n vs es c W) (ht : Turns (S :: parts.ownBlock.toList) W W')
    (hS' : Has W' S 70 #[.map (some m), .int .i64 0, parts', .bool false]) (hp' : W'.ownsRow w.heap.size 27 1 parts' np' us') : NS w S m p3 p4 parts' np' us' todo n vs es c W' := by
  refine h.took ht ?_ hS' hp'
  intro i hi
  rcases List.mem_cons.1 hi with rfl | hi
  · exact .inl rfl
  · have hb : parts.ownBlock = some i := by simpa using hi
    obtain ⟨c, fz, hc⟩ := Lib.ownsRow_kind h.po i hb
    exact .inr ⟨(h.po.lt i hb).1, c, fz, hc⟩

theorem NS.dmap (h : NS w S m p3 p4 parts np us todo n vs es c W) (hd : Mark W D) (ht : Turns [m] W W') : Mark W' D :=
  (ht.block D hd.lt (by intro e; simp at e; have h1 := h.hm; unfold Mark at hd; rw [← e, hd] at h1; cases h1)).trans hd

theorem NS.dtook (h : NS w S m p3 p4 parts np us todo n vs es c W) (hd : Mark W D) (ht : Turns (S :: parts.ownBlock.toList) W W') : Mark W' D := by
  refine (ht.block D hd.lt ?_).trans hd
  intro e
  unfold Mark at hd
  rcases List.mem_cons.1 e with rfl | e
  · have h2 : W.heap[D]? = _ := h.hS
    rw [hd] at h2; cases h2
  · have hb : parts.ownBlock = some D := by simpa using e
    obtain ⟨c, fz, hc⟩ := Lib.ownsRow_kind h.po D hb
    rw [hd] at hc; cases hc

theorem NS.dput (h : NS w S m p3 p4 parts np us todo n vs es c W) (hd : Mark W D) (v : Value) : Mark (W.setCell ⟨p4, 0, none⟩ v) D := by
  unfold Mark at *
  rw [Below.heap_setCell _ _ _ _ (by intro e; have h2 : W.heap[p4]? = _ := h.h4; rw [← show D = p4 from e] at h2; rw [hd] at h2; cases h2)]
  exact hd

theorem Mark.alloc (hd : Mark W D) (o : Obj) : Mark (W.alloc o) D := (Lib.alloc_old W o D hd.lt).trans hd

theorem NS.dapp (h : NS w S m p3 p4 parts np us todo n vs es c W) (hd : Mark W D) (o : Obj) (hg : (W.alloc o).grownBy W' todo.ownBlock) (v : Value) : Mark (W'.setCell ⟨p4, 0, none⟩ v) D := by
  have ha := h.alloc o
  have hda := hd.alloc o
  have hd2 : Mark W' D := (hg.block D hda.lt (by
    intro e
    obtain ⟨c, fz, hc⟩ := Lib.ownsRow_kind ha.own D e.symm
    unfold Mark at hda
    rw [hda] at hc
    cases hc)).trans hda
  have h4w := ha.far hg ha.h4 (by decide)
  unfold Mark at *
  rw [Below.heap_setCell _ _ _ _ (by intro e; have h2 : W'.heap[p4]? = _ := h4w; rw [← show D = p4 from e] at h2; rw [hd2] at h2; cases h2)]
  exact hd2

theorem Mark.abides {row : Option Nat} {B : Nat} (hd : Mark W D) (hB : D < B) (hg : W.grownBy W' row) (hr : ∀ r, row = some r → B ≤ r ∧ ∃ o : Obj, W.heap[r]? = some o ∧ o.isCells = false) : Mark W' D :=
  (hg.block D hd.lt (by intro e; have := (hr D e.symm).1; omega)).trans hd
end
end Go.Proofs.YtboeobgkepdabaaDoor.ft
