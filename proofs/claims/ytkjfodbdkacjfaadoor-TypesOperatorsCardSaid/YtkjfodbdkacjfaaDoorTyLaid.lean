/-
  What the three listed variables, the package's two types and errors.errorType, give a walk.
-/
import Derived.Test.YtkjfodbdkacjfaaDoorTyKids
import Derived.Test.YtkjfodbdkacjfaaDoorRows
import Derived.Test.YtkjfodbdkacjfaaDoorFtFinite
import Derived.Stop.LaidErr
import Derived.LaidHandle
import Derived.LaidMore
import Derived.LaidLaws
import Derived.Lib.LaidTab
namespace Go.Proofs.YtkjfodbdkacjfaaDoor.ty
open Go.ChangeShapes Go.WideShapes Go.ChangeAt Go.RowKit
set_option linter.unusedVariables false

theorem gErr : Tryd.prog.globalNamed "errors.errorType" = some 2 := by kernel_rfl
theorem rErr : (Tryd.prog.cutTypes.find? (·.1 == "internal/reflectlite.rtype")).map (·.2) = some 133 := by kernel_rfl
theorem oneRow : ((List.range 202).filter fun t => Tryd.prog.rowNamed t [101, 114, 114, 111, 114]) = [37] := by kernel_rfl
theorem typesSize : Tryd.prog.types.size = 202 := by kernel_rfl

/-- the handle's cell -/
theorem handle_of {W : World} {laid : List (String × DataW Unit)} (hm : ("errors.errorType", Rows.laid_errors_errorType) ∈ laid) (h : handlesMet Tryd.prog laid W) : ft.Handle W := by
  obtain ⟨name, u, ty, e1, e2, e3, e4, e5⟩ := h _ hm
  have en : name = [101, 114, 114, 111, 114] := (Option.some.inj e1).symm
  subst en
  obtain rfl := Option.some.inj (rErr.symm.trans e2)
  have hm : ty ∈ (List.range 202).filter fun t => Tryd.prog.rowNamed t [101, 114, 114, 111, 114] := List.mem_filter.2 ⟨List.mem_range.2 (by rw [← typesSize]; exact e3), e4⟩
  rw [oneRow] at hm
  obtain rfl := List.mem_singleton.1 hm
  have hh : typeHandle Tryd.prog 37 = .pointer (some ⟨3, 37, none⟩) := by kernel_rfl
  rw [hh] at e5
  have := World.var?_cell gErr e5 0
  simpa [ft.Handle] using this

theorem gBool : Tryd.prog.globalNamed "metronome/types.boolean" = some 1 := by kernel_rfl
theorem tBool : (Tryd.prog.globals[1]?).map (·.type) = some 35 := by kernel_rfl
theorem gInt : Tryd.prog.globalNamed "metronome/types.integer" = some 0 := by kernel_rfl
theorem tInt : (Tryd.prog.globals[0]?).map (·.type) = some 35 := by kernel_rfl

set_option maxRecDepth 100000 in
/-- a type that reads as such a kind without a name holds it -/
theorem cells_of_type {H : Type} {enc : TypeId × Value → H} {w : World} {base : Nat} {sp : Nat → Bool} {hd : Bool} {fuel : Nat} {cs : List Value} {k : Int} {p : List MemPlace}
    (h : DataW.trod enc Tryd.prog w base sp hd fuel 35 cs = some (.agg [.lit (.int .u8 k), .lit (.string [])], p)) : cs = [.int .u8 k, .string noT] := by
  obtain ⟨ts, n1, rfl, hx, hcl, htl, ht⟩ := DataW.trod_struct Tryd.underlying35 h
  have hc2 : cs.length = 2 := hcl.trans (by kernel_rfl)
  have zs : Tryd.prog.cellsOf 9 = 1 := by kernel_rfl
  have z8 : Tryd.prog.cellsOf 5 = 1 := by kernel_rfl
  match cs, hc2 with
  | [c1, c2], _ =>
    have ht2 : ts.length = 2 := htl.trans (by rfl)
    have t0 : DataW.trod enc Tryd.prog w base sp hd n1 5 (([c1, c2].drop 0).take (Tryd.prog.cellsOf 5)) = ts[0]? := ht 0 _ rfl
    have t1 : DataW.trod enc Tryd.prog w base sp hd n1 9 (([c1, c2].drop 1).take (Tryd.prog.cellsOf 9)) = ts[1]? := ht 1 _ rfl
    rw [z8, List.getElem?_eq_getElem (by omega)] at t0
    rw [zs, List.getElem?_eq_getElem (by omega)] at t1
    obtain ⟨tk, e1, x1, _⟩ := DataW.trod_int Tryd.underlying5 t0
    replace e1 : c1 = .int .u8 tk := by simpa using e1
    obtain ⟨tn, e2, x2, _⟩ := DataW.trod_string Tryd.underlying9 t1
    replace e2 : c2 = .string tn := by simpa using e2
    have hm : ts.map (·.1) = [.lit (.int .u8 k), .lit (.string [])] := by
      have := congrArg Prod.fst hx
      simpa using this.symm
    have q0 : ts[0].1 = .lit (.int .u8 k) := by
      have := congrArg (·[0]?) hm
      simpa [List.getElem?_map, List.getElem?_eq_getElem (show 0 < ts.length by omega)] using this
    have q1 : ts[1].1 = .lit (.string []) := by
      have := congrArg (·[1]?) hm
      simpa [List.getElem?_map, List.getElem?_eq_getElem (show 1 < ts.length by omega)] using this
    rw [x1] at q0
    rw [x2] at q1
    simp only [DataW.lit.injEq, Lit.int.injEq, true_and] at q0
    simp only [DataW.lit.injEq, Lit.string.injEq] at q1
    subst q0 e1 e2
    have : tn = noT := by
      obtain ⟨d⟩ := tn
      obtain ⟨l⟩ := d
      simp only [] at q1
      subst q1
      rfl
    rw [this]

theorem of_type {W : World} {cs : Array Value} {k : Int} {s : String} {g : Nat} (hg : Tryd.prog.globalNamed s = some g) (hv : W.var? Tryd.prog s = some cs) (hc : cs.toList = [.int .u8 k, .string noT]) : ∃ t fr, W.heap[g]? = some (.cells #[.int .u8 k, .string noT] t fr) := by
  have e : cs = #[.int .u8 k, .string noT] := by
    apply Array.toList_inj.1
    rw [hc]
  subst e
  unfold World.var? at hv
  rw [hg] at hv
  simp only [Option.bind_some] at hv
  split at hv
  · rename_i cs t fr hh
    simp only [Option.some.injEq] at hv
    subst hv
    exact ⟨t, fr, hh⟩
  · cases hv

def Laid (w : World) : Prop := Glob w ∧ ft.Handle w

theorem of_laid {W : World} (h : laidMetH Tryd.prog [("errors.errorType", Rows.laid_errors_errorType), ("metronome/types.boolean", Rows.laid_metronome_types_boolean), ("metronome/types.integer", Rows.laid_metronome_types_integer)] W) : Laid W := by
  have h' : laidMet Tryd.prog [("metronome/types.boolean", Rows.laid_metronome_types_boolean), ("metronome/types.integer", Rows.laid_metronome_types_integer)] W ∧ handlesMet Tryd.prog [("errors.errorType", Rows.laid_errors_errorType)] W := h
  obtain ⟨hl, hh⟩ := h'
  refine ⟨⟨?_, ?_⟩, handle_of (List.mem_singleton.2 rfl) hh⟩
  · obtain ⟨ps, ⟨g0, t0, cs0, f0, p0, q0, hg0, ht0, hv0, hd0, _, _⟩, _, _⟩ := hl.tail
    obtain rfl := Option.some.inj (gInt.symm.trans hg0)
    obtain rfl := Option.some.inj (tInt.symm.trans ht0)
    exact of_type gInt hv0 (cells_of_type hd0)
  · obtain ⟨ps, ⟨g0, t0, cs0, f0, p0, q0, hg0, ht0, hv0, hd0, _, _⟩, _, _⟩ := hl
    obtain rfl := Option.some.inj (gBool.symm.trans hg0)
    obtain rfl := Option.some.inj (tBool.symm.trans ht0)
    exact of_type gBool hv0 (cells_of_type hd0)
end Go.Proofs.YtkjfodbdkacjfaaDoor.ty
