/-
  Two pointers to clocks, compared.
-/
import Derived.Test.YtnejkgkikpgajaaDoorCkDefs
import Derived.LaidEqlPtr
namespace Go.Proofs.YtnejkgkikpgajaaDoor.ck
open Go.ChangeShapes Go.WideShapes Go.ChangeAt Go.RowKit
open tr
set_option linter.unusedVariables false

theorem clk_info : (Tryd.prog.info? 163).map (fun i => i.size) = some 3 := by kernel_rfl
theorem neq_none (W : World) (g : Nat) : (binOp .neq 132 (.pointer none) (.pointer (some ⟨g, 0, none⟩))).run Tryd.prog W = .ok (.bool true) W := by kernel_rfl
theorem eql_none (W : World) (g : Nat) : (binOp .eql 132 (.pointer none) (.pointer (some ⟨g, 0, none⟩))).run Tryd.prog W = .ok (.bool false) W := by kernel_rfl
theorem eql_same (W : World) (g : Nat) : (binOp .eql 132 (.pointer (some ⟨g, 0, none⟩)) (.pointer (some ⟨g, 0, none⟩))).run Tryd.prog W = .ok (.bool true) W := by
  obtain ⟨j, hj, hs⟩ := Option.map_eq_some_iff.1 clk_info
  exact run_eql_ptr_same W _ (by kernel_rfl) hj
theorem eql_other (W : World) (g g' : Nat) (ca cb : Array Value) (hne : g ≠ g') (ha : Has W g 163 ca) (hb : Has W g' 163 cb) :
    (binOp .eql 132 (.pointer (some ⟨g, 0, none⟩)) (.pointer (some ⟨g', 0, none⟩))).run Tryd.prog W = .ok (.bool false) W := by
  obtain ⟨j, hj, hs⟩ := Option.map_eq_some_iff.1 clk_info
  exact run_eql_ptr_other W (te := 163) (by kernel_rfl) hj (by rw [hs]; decide) (fun e => hne (congrArg Addr.block e)) ha hb
set_option maxRecDepth 100000 in
theorem neq_of_eql {W : World} {p q : Option Addr} {b : Bool} (h : (binOp .eql 132 (.pointer p) (.pointer q)).run Tryd.prog W = .ok (.bool b) W) : (binOp .neq 132 (.pointer p) (.pointer q)).run Tryd.prog W = .ok (.bool (!b)) W := by
  simp only [binOp, Sem.run_bind] at h ⊢
  cases hr : (Op.equal 132 (.pointer p) (.pointer q)).run Tryd.prog W with
  | ok v w' =>
    rw [hr] at h
    simp only [Result.andThen_ok, Sem.run_pure] at h ⊢
    injection h with h1 h2
    injection h1 with h1
    rw [h1, h2]
  | halt e w' =>
    rw [hr] at h
    simp [Result.andThen] at h
end Go.Proofs.YtnejkgkikpgajaaDoor.ck
