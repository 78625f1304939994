/-
  What the two listed variables, the table of signs and errors.errorType, give a walk.
-/
import Derived.Test.YtjjihijkkljbnaaDoorLxLaid
import Derived.Test.YtjjihijkkljbnaaDoorFtAtQ
import Derived.LaidHandle
namespace Go.Proofs.YtjjihijkkljbnaaDoor.lx
open Go.ChangeShapes Go.WideShapes Go.ChangeAt Go.RowKit
set_option linter.unusedVariables false

theorem gErr : Tryd.prog.globalNamed "errors.errorType" = some 1 := by kernel_rfl
theorem rErr : (Tryd.prog.cutTypes.find? (·.1 == "internal/reflectlite.rtype")).map (·.2) = some 127 := by kernel_rfl
theorem oneRow : ((List.range 191).filter fun t => Tryd.prog.rowNamed t [101, 114, 114, 111, 114]) = [24] := by kernel_rfl
theorem typesSize : Tryd.prog.types.size = 191 := by kernel_rfl

/-- the handle's cell -/
theorem handle_of {W : World} {laid : List (String × DataW Unit)} (hm : ("errors.errorType", Rows.laid_errors_errorType) ∈ laid) (h : handlesMet Tryd.prog laid W) : ft.Handle W := by
  obtain ⟨name, u, ty, e1, e2, e3, e4, e5⟩ := h _ hm
  have en : name = [101, 114, 114, 111, 114] := (Option.some.inj e1).symm
  subst en
  obtain rfl := Option.some.inj (rErr.symm.trans e2)
  have hm : ty ∈ (List.range 191).filter fun t => Tryd.prog.rowNamed t [101, 114, 114, 111, 114] := List.mem_filter.2 ⟨List.mem_range.2 (by rw [← typesSize]; exact e3), e4⟩
  rw [oneRow] at hm
  obtain rfl := List.mem_singleton.1 hm
  have hh : typeHandle Tryd.prog 24 = .pointer (some ⟨5, 24, none⟩) := by kernel_rfl
  rw [hh] at e5
  have := World.var?_cell gErr e5 0
  simpa [ft.Handle] using this

def Laid2 (w : World) : Prop := Laid w ∧ ft.Handle w
theorem Laid2.below {w w' : World} (h : Laid2 w) (hb : Below w.heap.size w w') : Laid2 w' := ⟨h.1.below hb, h.2.below hb⟩

/-- What the two conditions give the walk. -/
theorem of_laid2 {W : World} (h : laidMetH Tryd.prog [("errors.errorType", Rows.laid_errors_errorType), ("metronome/lex.signs", Rows.laid_metronome_lex_signs)] W) : Laid2 W := by
  have h' : laidMet Tryd.prog [("metronome/lex.signs", Rows.laid_metronome_lex_signs)] W ∧ handlesMet Tryd.prog [("errors.errorType", Rows.laid_errors_errorType)] W := h
  obtain ⟨⟨ps, ⟨g0, t0, cs0, f0, p0, q0, hg0, ht0, hv0, hd0, _, _⟩, _, _⟩, hh⟩ := h'
  obtain rfl := Option.some.inj (gSigns.symm.trans hg0)
  obtain rfl := Option.some.inj (tSigns.symm.trans ht0)
  exact ⟨of_var hv0 (cells_of_strs (zs := signs) Tryd.underlying125 Tryd.underlying9 (by kernel_rfl) (by kernel_rfl) hd0), handle_of (List.mem_singleton.2 rfl) hh⟩

/-- errors.errorType alone -/
theorem of_handle {W : World} (h : laidMetH Tryd.prog [("errors.errorType", Rows.laid_errors_errorType)] W) : ft.Handle W := by
  have h' : laidMet Tryd.prog [] W ∧ handlesMet Tryd.prog [("errors.errorType", Rows.laid_errors_errorType)] W := h
  exact handle_of (List.mem_singleton.2 rfl) h'.2
end Go.Proofs.YtjjihijkkljbnaaDoor.lx
