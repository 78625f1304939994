/-
  at of package faults, at an At: errors.As within quietly.
-/
import Derived.Test.YtboeobgkepdabaaDoorFtAsAt
import Derived.Test.YtboeobgkepdabaaDoorFtQuiet
import Derived.Test.YtboeobgkepdabaaDoorFtEnters
import Derived.BigRegion
namespace Go.Proofs.YtboeobgkepdabaaDoor.ft
open Go.ChangeShapes Go.WideShapes Go.ChangeAt Go.RowKit Go.Extern.Stop Go.Stop Go.Extern
open Go.Proofs.YtboeobgkepdabaaDoor.lx (Has)
set_option linter.unusedVariables false

/-- the cell of errors.errorType holds the handle of the type error -/
def Handle (w : World) : Prop := w.cell? ⟨0, 0, none⟩ = some (.iface 101 (.agg #[.pointer (some ⟨4, 27, none⟩)]))
theorem Handle.below {w w' : World} (h : Handle w) (hb : Below w.heap.size w w') : Handle w' := (hb.cell (p := ⟨0, 0, none⟩) (World.block_lt_of_cell? w _ h)).trans h

set_option maxRecDepth 10000 in
theorem litAt1 (p1 p2 p3 g : Nat) (w : World) (hg : Handle w) (h1 : Has w p1 27 #[.iface 41 (.pointer (some ⟨g, 0, none⟩))]) (h2 : Has w p2 41 #[.pointer none]) (h3 : Has w p3 4 #[.bool false]) :
    Calls Tryd.prog 48 #[.pointer (some ⟨p1, 0, none⟩), .pointer (some ⟨p2, 0, none⟩), .pointer (some ⟨p3, 0, none⟩)] w fun e w' => e = .returned (.tuple #[]) ∧
      ∃ w1, Below w.heap.size w w1 ∧ w' = (w1.setCell ⟨p2, 0, none⟩ (.pointer (some ⟨g, 0, none⟩))).setCell ⟨p3, 0, none⟩ (.bool true) := by
  have a1 := h1.cell 0
  simp only [List.getElem?_toArray, List.getElem?_cons_zero] at a1
  have H2 := Lib.hid h2
  have H3 := Lib.hid h3
  have HL := Lib.hid (as_at ⟨g, 0, none⟩ ⟨p2, 0, none⟩ (.pointer none) w hg (h2.cell 0) (h2.free 0))
  clear h1 h2 h3 hg
  go_enter Tryd.func48, Tryd.ntmps48
  go_wp2_with fail
  refine HL.out.mono ?_
  rintro e w' ⟨rfl, w1, hb1, rfl⟩
  obtain ⟨W, hW⟩ : ∃ W, W = w1.setCell ⟨p2, 0, none⟩ (.pointer (some ⟨g, 0, none⟩)) := ⟨_, rfl⟩
  have h3 : Has W p3 4 #[.bool false] := by rw [hW]; exact (H3.out.below hb1 H3.out.lt).put_far 0 _ (ne_types H3.out H2.out (by decide))
  have c3 := h3.cell 0
  have f3 := h3.free 0
  have l3 := h3.lt
  simp only [List.getElem?_toArray, List.getElem?_cons_zero] at c3
  have HB := Lib.hid hb1
  have HW := Lib.hid hW
  rw [← hW]
  clear h3 hb1 hW
  go_wp2_with fail
  go_end0
  exact ⟨rfl, w1, HB.out, by rw [HW.out]⟩

set_option maxRecDepth 10000 in
theorem at_any (g : Nat) (w : World) (hg : Handle w) :
    Calls Tryd.prog 36 #[.iface 41 (.pointer (some ⟨g, 0, none⟩))] w fun e w' => e = .returned (.tuple #[.pointer (some ⟨g, 0, none⟩), .bool true]) ∧ Below w.heap.size w w' := by
  have hmf : ∀ (fn : Fn) (first cap : Array Value) (w : World), (Instr.makeFunc fn first cap).run Tryd.prog w = .ok (.func fn first cap) w := fun _ _ _ _ => rfl
  obtain ⟨W, hW⟩ : ∃ W, W = ((w.alloc (.cells #[.iface 41 (.pointer (some ⟨g, 0, none⟩))] 27)).alloc (.cells #[.pointer none] 41)).alloc (.cells #[.bool false] 4) := ⟨_, rfl⟩
  have hb : Below w.heap.size w W := by rw [hW]; exact (((Below.refl _ _).alloc (Nat.le_refl _) _).alloc (by simp) _).alloc (by simp; omega) _
  have h2 : Has W w.heap.size 27 #[.iface 41 (.pointer (some ⟨g, 0, none⟩))] := by rw [hW]; exact ((Has.new w 27 #[.iface 41 (.pointer (some ⟨g, 0, none⟩))]).alloc _).alloc _
  have h3 : Has W (w.heap.size + 1) 41 #[.pointer none] := by
    rw [hW]
    have := Has.new (w.alloc (.cells #[.iface 41 (.pointer (some ⟨g, 0, none⟩))] 27)) 41 #[.pointer none]
    simp only [World.size_alloc] at this
    exact this.alloc _
  have h4 : Has W (w.heap.size + 2) 4 #[.bool false] := by
    rw [hW]
    have := Has.new ((w.alloc (.cells #[.iface 41 (.pointer (some ⟨g, 0, none⟩))] 27)).alloc (.cells #[.pointer none] 41)) 4 #[.bool false]
    simp only [World.size_alloc] at this
    exact this
  have hgW : Handle W := hg.below hb
  have HL := Lib.hid (quiet_at _ _ _ (litAt1 w.heap.size (w.heap.size + 1) (w.heap.size + 2) g W hgW h2 h3 h4))
  have H3 := Lib.hid h3
  have H4 := Lib.hid h4
  have HE := Lib.hid hb
  clear h2 h3 h4 hb hg hgW
  go_enter Tryd.func36, Tryd.ntmps36
  go_wp2_with fail
  rw [← hW]
  clear hW
  refine HL.out.mono ?_
  rintro e w2 ⟨rfl, w1, hb1, hw2⟩
  have h3 := ((H3.out.below hb1 H3.out.lt).put 0 (.pointer (some ⟨g, 0, none⟩))).put_far 0 (.bool true) (g' := w.heap.size + 2) (by omega)
  have h4 := ((H4.out.below hb1 H4.out.lt).put_far 0 (.pointer (some ⟨g, 0, none⟩)) (g' := w.heap.size + 1) (by omega)).put 0 (.bool true)
  rw [← hw2] at h3 h4
  simp only [List.setIfInBounds_toArray, List.set_cons_zero] at h3 h4
  have hlow : Below w.heap.size w w2 := by
    rw [hw2]
    exact ((HE.out.trans (hb1.mono HE.out.size)).setCell (p := ⟨w.heap.size + 1, 0, none⟩) (by show _ ≤ w.heap.size + 1; omega) _).setCell (p := ⟨w.heap.size + 2, 0, none⟩) (by show _ ≤ w.heap.size + 2; omega) _
  have HLOW := Lib.hid hlow
  have K3 := Lib.hid h3
  have K4 := Lib.hid h4
  have c3 := h3.cell 0
  have f3 := h3.free 0
  have c4 := h4.cell 0
  have f4 := h4.free 0
  have l4 := h4.lt
  simp only [List.getElem?_toArray, List.getElem?_cons_zero] at c3 c4
  clear hlow h3 h4 hw2 hb1
  go_wp2_with fail
  go_region
  go_wp2_with fail
  have k3 := ((K3.out.put 0 (.pointer (some ⟨g, 0, none⟩))).put_far 0 (.bool true) (g' := w.heap.size + 2) (by omega))
  have k4 := (K4.out.put_far 0 (.pointer (some ⟨g, 0, none⟩)) (g' := w.heap.size + 1) (by omega)).put 0 (.bool true)
  simp only [List.setIfInBounds_toArray, List.set_cons_zero] at k3 k4
  have e3 : ((w2.setCell ⟨w.heap.size + 1, 0, none⟩ (.pointer (some ⟨g, 0, none⟩))).setCell ⟨w.heap.size + 1 + 1, 0, none⟩ (.bool true)).drew.cell? ⟨w.heap.size + 1, 0, none⟩ = some (.pointer (some ⟨g, 0, none⟩)) := k3.cell 0
  have e4 : ((w2.setCell ⟨w.heap.size + 1, 0, none⟩ (.pointer (some ⟨g, 0, none⟩))).setCell ⟨w.heap.size + 1 + 1, 0, none⟩ (.bool true)).drew.cell? ⟨w.heap.size + 1 + 1, 0, none⟩ = some (.bool true) := k4.cell 0
  have hlast := ((HLOW.out.setCell (p := ⟨w.heap.size + 1, 0, none⟩) (by show _ ≤ w.heap.size + 1; omega) (.pointer (some ⟨g, 0, none⟩))).setCell (p := ⟨w.heap.size + 1 + 1, 0, none⟩) (by show _ ≤ w.heap.size + 1 + 1; omega) (.bool true)).drew
  generalize ((w2.setCell ⟨w.heap.size + 1, 0, none⟩ (.pointer (some ⟨g, 0, none⟩))).setCell ⟨w.heap.size + 1 + 1, 0, none⟩ (.bool true)).drew = Wf at *
  exact bodyPost_ret (v := .tuple #[.pointer (some ⟨g, 0, none⟩), .bool true]) (by simp [results, Tryd.results36, go_sem, e3, e4]) rfl ⟨rfl, hlast⟩
end Go.Proofs.YtboeobgkepdabaaDoor.ft
