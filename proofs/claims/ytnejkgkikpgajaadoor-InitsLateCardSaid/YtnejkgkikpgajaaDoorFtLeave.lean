/-
  The function literal of newSurvey: an error is left.
-/
import Derived.Test.YtnejkgkikpgajaaDoorFtEnters
import Derived.BigRegion
namespace Go.Proofs.YtnejkgkikpgajaaDoor.ft
open Go.ChangeShapes Go.WideShapes Go.ChangeAt Go.RowKit Go.Extern.Stop Go.Stop Go.Extern
open Go.Proofs.YtnejkgkikpgajaaDoor.lx (Has)
set_option linter.unusedVariables false

set_option maxRecDepth 10000 in
theorem lit_survey (S m p3 p5 i c : Nat) (es : Array MapEntry) (ty : TypeId) (kv old parts : Value) (bh : Bool) (w : World) (h3 : Has w p3 119 #[.pointer (some ⟨S, 0, none⟩)]) (h5 : Has w p5 148 #[.iface ty kv, .bool bh])
    (hS : Has w S 124 #[.map (some m), .int .i64 0, parts, .bool false]) (hm : w.heap[m]? = some (.map es c))
    (hk : ∀ b W, (Instr.checkKey b 10000 36 (.iface ty kv)).run Tryd.prog W = .ok () W) (hf : ∀ W, (Instr.findKey 36 (.iface ty kv) es.toList).run Tryd.prog W = .ok (some (i, old)) W)
    (hs : Instr.sameBits 10000 (((es[i]?).map (·.key)).getD (.iface ty kv)) (.iface ty kv) = true) :
    Calls Tryd.prog 59 #[.pointer (some ⟨p3, 0, none⟩), .pointer (some ⟨p5, 0, none⟩)] w fun e w' => e = .returned (.tuple #[]) ∧
      (w'.heap[m]? = some (.map (es.modify i fun e => { e with key := .iface ty kv, val := .int .i64 2 }) c) ∧ Turns [m] w w') := by
  have a3 := h3.cell 0
  have a5 := h5.cell 0
  have aS := hS.cell 0
  simp only [List.getElem?_toArray, List.getElem?_cons_zero] at a3 a5 aS
  have l1 := run_store_old w.drew m es c (.iface ty kv) (.int .i64 2) old i hm (hk _ _) (hf _) hs
  have HM := Lib.hid (map_set (o' := .map (es.modify i fun e => { e with key := .iface ty kv, val := .int .i64 2 }) c) (w := w) hm)
  have HT := Lib.hid ((Turns.refl [m] w).drew.obj m (.map (es.modify i fun e => { e with key := .iface ty kv, val := .int .i64 2 }) c) (by simp))
  clear h3 h5 hS hm hk hf hs
  go_enter Tryd.func59, Tryd.ntmps59
  go_wp2_with fail
  go_region
  go_wp2_with fail
  go_end0
  exact ⟨rfl, HM.out, HT.out⟩
end Go.Proofs.YtnejkgkikpgajaaDoor.ft
