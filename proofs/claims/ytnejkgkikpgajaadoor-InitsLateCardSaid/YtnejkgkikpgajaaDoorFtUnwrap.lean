/-
  errors.Unwrap, (*At).Unwrap at an At that New makes, and at a Kind: their walks.
-/
import Derived.Test.YtnejkgkikpgajaaDoorLxHas
import Derived.Stop.Asserts
import Derived.LaidEql
import Derived.RowKitTokens
namespace Go.Proofs.YtnejkgkikpgajaaDoor.ft
open Go.ChangeShapes Go.WideShapes Go.ChangeAt Go.RowKit Go.Extern.Stop Go.Stop Go.Extern
open Go.Proofs.YtnejkgkikpgajaaDoor.lx (Has)
set_option linter.unusedVariables false

theorem assertAt (v : Value) (w : World) : (Instr.typeAssert (.iface 177 v) 36 186 true).run Tryd.prog w = .ok (.tuple #[.iface 177 v, .bool true]) w := by kernel_rfl

theorem atUnwrap_any (g : Nat) (x y : Int) (nm : ByteArray) (nd : Bool) (e : Value) (w : World) (h : Has w g 180 #[.int .i64 x, .int .i64 y, .string nm, .bool nd, e]) :
    Calls Tryd.prog 123 #[.pointer (some ⟨g, 0, none⟩)] w fun ev w' => ev = .returned e ∧ w = w' := by
  have c4 := h.cell 4
  simp only [List.getElem?_toArray, List.getElem?_cons_zero, List.getElem?_cons_succ] at c4
  go_enter Tryd.func123, Tryd.ntmps123
  go_wp2
  go_ret
  exact ⟨rfl, rfl⟩

theorem assertKind (v : Value) (w : World) : (Instr.typeAssert (.iface 56 v) 36 186 true).run Tryd.prog w = .ok (.tuple #[.nilIface, .bool false]) w :=
  run_typeAssert_lacksB Tryd.underlying186 (by kernel_rfl) (by kernel_rfl) ..
theorem methodUnwrap (a : Addr) (w : World) : (Go.method 345 177 (.pointer (some a)) "Unwrap").run Tryd.prog w = .ok (123, .pointer (some a)) w := by kernel_rfl

set_option maxRecDepth 10000 in
theorem unwrap_at (g : Nat) (x y : Int) (nm : ByteArray) (nd : Bool) (e : Value) (w : World) (h : Has w g 180 #[.int .i64 x, .int .i64 y, .string nm, .bool nd, e]) :
    Calls Tryd.prog 93 #[.iface 177 (.pointer (some ⟨g, 0, none⟩))] w fun ev w' => ev = .returned e ∧ w = w' := by
  have hA := assertAt
  have hM := methodUnwrap
  have HH := Lib.hid h
  clear h
  go_enter Tryd.func93, Tryd.ntmps93
  go_wp2_with fail
  refine (atUnwrap_any g x y nm nd e _ HH.out).mono ?_
  rintro ev w' ⟨rfl, rfl⟩
  go_wp2_with fail
  go_ret
  exact ⟨rfl, rfl⟩

set_option maxRecDepth 10000 in
theorem unwrap_kind (k : Int) (w : World) :
    Calls Tryd.prog 93 #[.iface 56 (.int .i64 k)] w fun ev w' => ev = .returned .nilIface ∧ w = w' := by
  have hA := assertKind
  go_enter Tryd.func93, Tryd.ntmps93
  go_wp2_with fail
  go_ret
  exact ⟨rfl, rfl⟩
end Go.Proofs.YtnejkgkikpgajaaDoor.ft
