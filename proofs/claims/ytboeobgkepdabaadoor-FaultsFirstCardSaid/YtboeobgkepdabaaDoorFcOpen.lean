/-
  A position that comes in; what the listed handle gives a walk.
-/
import Derived.Test.YtboeobgkepdabaaDoorFtAtQ
import Derived.Test.YtboeobgkepdabaaDoorRows
import Derived.WalkKit
import Derived.ProofKit
import Derived.OpenShut
import Derived.ShutString
import Derived.LaidHandle
import Derived.LaidMore
import Derived.LaidLaws
namespace Go.Proofs.YtboeobgkepdabaaDoor.fo
open Go.ChangeShapes Go.WideShapes Go.ChangeAt Go.RowKit
set_option linter.unusedVariables false

theorem gErr : Tryd.prog.globalNamed "errors.errorType" = some 0 := by kernel_rfl
theorem rErr : (Tryd.prog.cutTypes.find? (·.1 == "internal/reflectlite.rtype")).map (·.2) = some 101 := by kernel_rfl
theorem oneRow : ((List.range 166).filter fun t => Tryd.prog.rowNamed t [101, 114, 114, 111, 114]) = [27] := by kernel_rfl
theorem typesSize : Tryd.prog.types.size = 166 := by kernel_rfl
/-- the handle's cell -/
theorem handle_of {W : World} {laid : List (String × DataW Unit)} (hm : ("errors.errorType", Rows.laid_errors_errorType) ∈ laid) (h : handlesMet Tryd.prog laid W) : ft.Handle W := by
  obtain ⟨name, u, ty, e1, e2, e3, e4, e5⟩ := h _ hm
  have en : name = [101, 114, 114, 111, 114] := (Option.some.inj e1).symm
  subst en
  obtain rfl := Option.some.inj (rErr.symm.trans e2)
  have hm : ty ∈ (List.range 166).filter fun t => Tryd.prog.rowNamed t [101, 114, 114, 111, 114] := List.mem_filter.2 ⟨List.mem_range.2 (by rw [← typesSize]; exact e3), e4⟩
  rw [oneRow] at hm
  obtain rfl := List.mem_singleton.1 hm
  have hh : typeHandle Tryd.prog 27 = .pointer (some ⟨4, 27, none⟩) := by kernel_rfl
  rw [hh] at e5
  have := World.var?_cell gErr e5 0
  simpa [ft.Handle] using this
theorem of_handle {W : World} (h : laidMetH Tryd.prog [("errors.errorType", Rows.laid_errors_errorType)] W) : ft.Handle W := by
  have h' : laidMet Tryd.prog [] W ∧ handlesMet Tryd.prog [("errors.errorType", Rows.laid_errors_errorType)] W := h
  exact handle_of (List.mem_singleton.2 rfl) h'.2

set_option maxRecDepth 100000 in
theorem open_pos {H : Type} {enc : TypeId × Value → H} {w W : World} {base b0 : Nat} {sp : Nat → Bool} {hd : Bool} {r : Reach} {v : Value} {d : DataW H} {ps : List MemPlace} (hval : Value.okWide Tryd.prog W r b0 23 v) (h : DataW.Trod enc Tryd.prog w base sp hd 23 v d ps) :
    ∃ l c, v = .agg #[.int .i64 l, .int .i64 c] := by
  obtain ⟨cs, rfl, _⟩ := Go.WideShapes.okWide_struct Tryd.underlying23 hval
  obtain ⟨fuel, hf⟩ := h
  obtain ⟨ys, m, e7, _, hpl, hyl, hp⟩ := DataW.trod_struct Tryd.underlying23 hf
  have hc2 : cs.toList.length = 2 := hpl.trans (by kernel_rfl)
  have hy2 : ys.length = 2 := hyl.trans (by rfl)
  have zi : Tryd.prog.cellsOf 3 = 1 := by kernel_rfl
  obtain ⟨l, hl⟩ : ∃ l, l = cs.toList := ⟨_, rfl⟩
  have hcells : (Value.agg cs).cells.toList = l := by rw [hl]; rfl
  rw [← hl] at hc2
  match l, hc2 with
  | [c1, c2], _ =>
    have p0 : DataW.trod enc Tryd.prog w base sp hd m 3 (([c1, c2].drop 0).take (Tryd.prog.cellsOf 3)) = ys[0]? := by have := hp 0 _ rfl; rw [← hcells]; exact this
    have p1 : DataW.trod enc Tryd.prog w base sp hd m 3 (([c1, c2].drop 1).take (Tryd.prog.cellsOf 3)) = ys[1]? := by have := hp 1 _ rfl; rw [← hcells]; exact this
    rw [zi, List.getElem?_eq_getElem (by omega)] at p0 p1
    obtain ⟨x, e1, _, _⟩ := DataW.trod_int Tryd.underlying3 p0
    replace e1 : c1 = .int .i64 x := by simpa using e1
    obtain ⟨y, e2, _, _⟩ := DataW.trod_int Tryd.underlying3 p1
    replace e2 : c2 = .int .i64 y := by simpa using e2
    subst e1 e2
    refine ⟨x, y, ?_⟩
    have : cs = #[.int .i64 x, .int .i64 y] := by
      apply Array.toList_inj.1
      rw [← hl]
    rw [this]
end Go.Proofs.YtboeobgkepdabaaDoor.fo
