/-
  errors.Unwrap, (*At).Unwrap at an At that New makes, and at a Kind: their walks.
-/
import Derived.Test.YtfmkicagpcmpnaaDoorLxHas
import Derived.Stop.Asserts
import Derived.LaidEql
import Derived.RowKitTokens
namespace Go.Proofs.YtfmkicagpcmpnaaDoor.ft
open Go.ChangeShapes Go.WideShapes Go.ChangeAt Go.RowKit Go.Extern.Stop Go.Stop Go.Extern
open Go.Proofs.YtfmkicagpcmpnaaDoor.lx (Has)
set_option linter.unusedVariables false

theorem assertAt (v : Value) (w : World) : (Instr.typeAssert (.iface 143 v) 38 152 true).run Tryd.prog w = .ok (.tuple #[.iface 143 v, .bool true]) w := by kernel_rfl

theorem atUnwrap_any (g : Nat) (x y : Int) (nm : ByteArray) (nd : Bool) (e : Value) (w : World) (h : Has w g 146 #[.int .i64 x, .int .i64 y, .string nm, .bool nd, e]) :
    Calls Tryd.prog 99 #[.pointer (some ⟨g, 0, none⟩)] w fun ev w' => ev = .returned e ∧ w = w' := by
  have c4 := h.cell 4
  simp only [List.getElem?_toArray, List.getElem?_cons_zero, List.getElem?_cons_succ] at c4
  go_enter Tryd.func99, Tryd.ntmps99
  go_wp2
  go_ret
  exact ⟨rfl, rfl⟩

theorem assertKind (v : Value) (w : World) : (Instr.typeAssert (.iface 43 v) 38 152 true).run Tryd.prog w = .ok (.tuple #[.nilIface, .bool false]) w :=
  run_typeAssert_lacksB Tryd.underlying152 (by kernel_rfl) (by kernel_rfl) ..
theorem methodUnwrap (a : Addr) (w : World) : (Go.method 314 143 (.pointer (some a)) "Unwrap").run Tryd.prog w = .ok (99, .pointer (some a)) w := by kernel_rfl

set_option maxRecDepth 10000 in
theorem unwrap_at (g : Nat) (x y : Int) (nm : ByteArray) (nd : Bool) (e : Value) (w : World) (h : Has w g 146 #[.int .i64 x, .int .i64 y, .string nm, .bool nd, e]) :
    Calls Tryd.prog 67 #[.iface 143 (.pointer (some ⟨g, 0, none⟩))] w fun ev w' => ev = .returned e ∧ w = w' := by
  have hA := assertAt
  have hM := methodUnwrap
  have HH := Lib.hid h
  clear h
  go_enter Tryd.func67, Tryd.ntmps67
  go_wp2_with fail
  refine (atUnwrap_any g x y nm nd e _ HH.out).mono ?_
  rintro ev w' ⟨rfl, rfl⟩
  go_wp2_with fail
  go_ret
  exact ⟨rfl, rfl⟩

set_option maxRecDepth 10000 in
theorem unwrap_kind (k : Int) (w : World) :
    Calls Tryd.prog 67 #[.iface 43 (.int .i64 k)] w fun ev w' => ev = .returned .nilIface ∧ w = w' := by
  have hA := assertKind
  go_enter Tryd.func67, Tryd.ntmps67
  go_wp2_with fail
  go_ret
  exact ⟨rfl, rfl⟩
end Go.Proofs.YtfmkicagpcmpnaaDoor.ft
