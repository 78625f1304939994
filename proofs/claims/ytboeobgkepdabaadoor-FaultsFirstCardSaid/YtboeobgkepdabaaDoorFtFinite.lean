/-
  finite at an At that wraps a Kind: the error itself; so Kind and Where of such an error.
-/
import Derived.Test.YtboeobgkepdabaaDoorFtSurvey
import Derived.Test.YtboeobgkepdabaaDoorFtPlace
namespace Go.Proofs.YtboeobgkepdabaaDoor.ft
open Go.ChangeShapes Go.WideShapes Go.ChangeAt Go.RowKit Go.Extern.Stop Go.Stop Go.Extern
open Go.Proofs.YtboeobgkepdabaaDoor.lx (Has)
set_option linter.unusedVariables false

set_option maxRecDepth 10000 in
set_option maxHeartbeats 4000000 in
theorem finite_at (g : Nat) (x y k : Int) (nm : ByteArray) (nd : Bool) (w : World) (hg : Has w g 50 #[.int .i64 x, .int .i64 y, .string nm, .bool nd, .iface 29 (.int .i64 k)]) :
    Calls Tryd.prog 22 #[.iface 41 (.pointer (some ⟨g, 0, none⟩))] w fun e w' => e = .returned (.iface 41 (.pointer (some ⟨g, 0, none⟩))) ∧ Below w.heap.size w w' := by
  have HL := Lib.hid (newSurvey_at g x y k nm nd w hg)
  clear hg
  go_enter Tryd.func22, Tryd.ntmps22
  go_wp2_with fail
  refine HL.out.mono ?_
  rintro e w1 ⟨S, m, parts, rfl, hS, hb⟩
  have c3 := hS.cell 3
  simp only [List.getElem?_toArray, List.getElem?_cons_zero, List.getElem?_cons_succ] at c3
  have HB := Lib.hid hb
  clear hS hb
  go_wp2_with fail
  go_ret
  exact ⟨rfl, HB.out⟩

theorem own_finite (g : Nat) (x y k : Int) (nm : ByteArray) (nd : Bool) (w : World) (hg : Has w g 50 #[.int .i64 x, .int .i64 y, .string nm, .bool nd, .iface 29 (.int .i64 k)]) : OwnFinite w (.iface 41 (.pointer (some ⟨g, 0, none⟩))) :=
  fun W hb => finite_at g x y k nm nd W (hg.below hb hg.lt)

/-- faults.Kind of an At that wraps a Kind -/
theorem kind_at (g : Nat) (x y : Int) (nm : ByteArray) (nd : Bool) (k : Nat) (hk1 : 1 ≤ k) (hk2 : k < 12) (w : World) (hg : Has w g 50 #[.int .i64 x, .int .i64 y, .string nm, .bool nd, .iface 29 (.int .i64 (k : Int))]) :
    Calls Tryd.prog 15 #[.iface 41 (.pointer (some ⟨g, 0, none⟩))] w fun ev w' => ev = .returned (.int .i64 (k : Int)) ∧ Below w.heap.size w w' :=
  kind_of g x y nm nd k hk1 hk2 w hg (own_finite g x y _ nm nd w hg)

/-- faults.Where of an At that wraps a Kind and is no name's -/
theorem where_at (g : Nat) (x y k : Int) (nm : ByteArray) (w : World) (hh : Handle w) (hg : Has w g 50 #[.int .i64 x, .int .i64 y, .string nm, .bool false, .iface 29 (.int .i64 k)]) :
    Calls Tryd.prog 16 #[.iface 41 (.pointer (some ⟨g, 0, none⟩))] w fun ev w' => ev = .returned (.agg #[.int .i64 x, .int .i64 y]) ∧ Below w.heap.size w w' :=
  where_of g x y nm _ w hh hg (own_finite g x y k nm false w hg)
end Go.Proofs.YtboeobgkepdabaaDoor.ft
