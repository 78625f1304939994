/-
  errors.Is: at an At that wraps a Kind, and at a Kind; the target a Kind. Go's own text is walked.
-/
import Derived.Test.YtnejkgkikpgajaaDoorFtAs
import Derived.Test.YtnejkgkikpgajaaDoorFtFind
namespace Go.Proofs.YtnejkgkikpgajaaDoor.ft
open Go.ChangeShapes Go.WideShapes Go.ChangeAt Go.RowKit Go.Extern.Stop Go.Stop Go.Extern
open Go.Proofs.YtnejkgkikpgajaaDoor.lx (Has)
set_option linter.unusedVariables false

theorem binAK (g : Nat) (j : Int) (w : World) : (binOp .eql 36 (.iface 177 (.pointer (some ⟨g, 0, none⟩))) (.iface 56 (.int .i64 j))).run Tryd.prog w = .ok (.bool false) w := by kernel_rfl
theorem binKK (k j : Int) (w : World) : (binOp .eql 36 (.iface 56 (.int .i64 k)) (.iface 56 (.int .i64 j))).run Tryd.prog w = .ok (.bool (k == j)) w := by
  have h : (Op.equal 36 (.iface 56 (.int .i64 k)) (.iface 56 (.int .i64 j))).run Tryd.prog w = .ok (k == j) w := eqKKd 9998 k j w
  simp only [binOp]
  simp [h]
def compF : Array Value → Sem Value := ReflectliteType.method fun t => do Rtype.noPackHeld "Comparable" t; pure (.bool (← typeInfo t).comparable)
theorem compK (w : World) : (compF #[.agg #[.pointer (some ⟨1, 56, none⟩)]]).run Tryd.prog w = .ok (.bool true) w := by kernel_rfl
theorem methodComparable (v : Value) (w : World) : (Go.method 345 182 v "Comparable").run Tryd.prog w = .ok (126, v) w := by kernel_rfl
theorem noIsA (v : Value) (w : World) : (Instr.typeAssert (.iface 177 v) 36 184 true).run Tryd.prog w = .ok (.tuple #[.nilIface, .bool false]) w :=
  run_typeAssert_lacksB Tryd.underlying184 (by kernel_rfl) (by kernel_rfl) ..
theorem noIsK (v : Value) (w : World) : (Instr.typeAssert (.iface 56 v) 36 184 true).run Tryd.prog w = .ok (.tuple #[.nilIface, .bool false]) w :=
  run_typeAssert_lacksB Tryd.underlying184 (by kernel_rfl) (by kernel_rfl) ..

set_option maxRecDepth 10000 in
set_option maxHeartbeats 4000000 in
theorem is_kind_true (k j : Int) (w : World) (hk : k = j) :
    Calls Tryd.prog 43 #[.iface 56 (.int .i64 k), .iface 56 (.int .i64 j)] w fun e w' => e = .returned (.bool true) ∧ w' = w := by
  have h8 := @run_callFunc_extern Tryd.prog 64 _ ReflectliteType.typeOf Tryd.func64 (by kernel_rfl) (by kernel_rfl) (by kernel_rfl) (by kernel_rfl)
  have h32 := @run_callFunc_extern Tryd.prog 126 _ compF Tryd.func126 (by kernel_rfl) (by kernel_rfl) (by kernel_rfl) (by kernel_rfl)
  have tT := typeOfK
  have cT := compK
  have mR := methodComparable
  have nI := noIsK
  have nU := assertKind
  have nM := assertKindMany
  have b1 : ∀ w, (binOp .eql 36 (.iface 56 (.int .i64 k)) (.iface 56 (.int .i64 j))).run Tryd.prog w = .ok (.bool true) w := fun w => by rw [binKK]; simp [hk]
  clear hk
  go_enter Tryd.func43, Tryd.ntmps43
  go_wp2
  refine wp_loop_rounds 1 ?_
  rw [rounds_succ]
  go_wp2
  go_ret
  exact ⟨rfl, rfl⟩

set_option maxRecDepth 10000 in
set_option maxHeartbeats 4000000 in
theorem is_at_true (g : Nat) (x y : Int) (nm : ByteArray) (nd : Bool) (k j : Int) (w : World) (hk : k = j) (hg : Has w g 180 #[.int .i64 x, .int .i64 y, .string nm, .bool nd, .iface 56 (.int .i64 k)]) :
    Calls Tryd.prog 43 #[.iface 177 (.pointer (some ⟨g, 0, none⟩)), .iface 56 (.int .i64 j)] w fun e w' => e = .returned (.bool true) ∧ w' = w := by
  have h8 := @run_callFunc_extern Tryd.prog 64 _ ReflectliteType.typeOf Tryd.func64 (by kernel_rfl) (by kernel_rfl) (by kernel_rfl) (by kernel_rfl)
  have h32 := @run_callFunc_extern Tryd.prog 126 _ compF Tryd.func126 (by kernel_rfl) (by kernel_rfl) (by kernel_rfl) (by kernel_rfl)
  have tT := typeOfK
  have cT := compK
  have mR := methodComparable
  have nI := noIsK
  have nU := assertKind
  have nM := assertKindMany
  have nA := noIsA
  have hA := assertAt
  have hM := methodUnwrap
  have b0 := binAK
  have b1 : ∀ w, (binOp .eql 36 (.iface 56 (.int .i64 k)) (.iface 56 (.int .i64 j))).run Tryd.prog w = .ok (.bool true) w := fun w => by rw [binKK]; simp [hk]
  clear hk
  have HL := Lib.hid (atUnwrap_any g x y nm nd (.iface 56 (.int .i64 k)) w hg)
  clear hg
  go_enter Tryd.func43, Tryd.ntmps43
  go_wp2
  refine wp_loop_rounds 2 ?_
  rw [rounds_succ]
  go_wp2_with (go_at_call 123; refine HL.out.mono ?_; rintro e w' ⟨rfl, rfl⟩)
  rw [rounds_succ]
  go_wp2
  go_ret
  exact ⟨rfl, rfl⟩

set_option maxRecDepth 10000 in
set_option maxHeartbeats 4000000 in
theorem is_kind_false (k j : Int) (w : World) (hk : k ≠ j) :
    Calls Tryd.prog 43 #[.iface 56 (.int .i64 k), .iface 56 (.int .i64 j)] w fun e w' => e = .returned (.bool false) ∧ w' = w := by
  have h8 := @run_callFunc_extern Tryd.prog 64 _ ReflectliteType.typeOf Tryd.func64 (by kernel_rfl) (by kernel_rfl) (by kernel_rfl) (by kernel_rfl)
  have h32 := @run_callFunc_extern Tryd.prog 126 _ compF Tryd.func126 (by kernel_rfl) (by kernel_rfl) (by kernel_rfl) (by kernel_rfl)
  have tT := typeOfK
  have cT := compK
  have mR := methodComparable
  have nI := noIsK
  have nU := assertKind
  have nM := assertKindMany
  have b1 : ∀ w, (binOp .eql 36 (.iface 56 (.int .i64 k)) (.iface 56 (.int .i64 j))).run Tryd.prog w = .ok (.bool false) w := fun w => by rw [binKK]; simp [hk]
  clear hk
  go_enter Tryd.func43, Tryd.ntmps43
  go_wp2
  refine wp_loop_rounds 1 ?_
  rw [rounds_succ]
  go_wp2
  go_ret
  exact ⟨rfl, rfl⟩

set_option maxRecDepth 10000 in
set_option maxHeartbeats 4000000 in
theorem is_at_false (g : Nat) (x y : Int) (nm : ByteArray) (nd : Bool) (k j : Int) (w : World) (hk : k ≠ j) (hg : Has w g 180 #[.int .i64 x, .int .i64 y, .string nm, .bool nd, .iface 56 (.int .i64 k)]) :
    Calls Tryd.prog 43 #[.iface 177 (.pointer (some ⟨g, 0, none⟩)), .iface 56 (.int .i64 j)] w fun e w' => e = .returned (.bool false) ∧ w' = w := by
  have h8 := @run_callFunc_extern Tryd.prog 64 _ ReflectliteType.typeOf Tryd.func64 (by kernel_rfl) (by kernel_rfl) (by kernel_rfl) (by kernel_rfl)
  have h32 := @run_callFunc_extern Tryd.prog 126 _ compF Tryd.func126 (by kernel_rfl) (by kernel_rfl) (by kernel_rfl) (by kernel_rfl)
  have tT := typeOfK
  have cT := compK
  have mR := methodComparable
  have nI := noIsK
  have nU := assertKind
  have nM := assertKindMany
  have nA := noIsA
  have hA := assertAt
  have hM := methodUnwrap
  have b0 := binAK
  have b1 : ∀ w, (binOp .eql 36 (.iface 56 (.int .i64 k)) (.iface 56 (.int .i64 j))).run Tryd.prog w = .ok (.bool false) w := fun w => by rw [binKK]; simp [hk]
  clear hk
  have HL := Lib.hid (atUnwrap_any g x y nm nd (.iface 56 (.int .i64 k)) w hg)
  clear hg
  go_enter Tryd.func43, Tryd.ntmps43
  go_wp2
  refine wp_loop_rounds 2 ?_
  rw [rounds_succ]
  go_wp2_with (go_at_call 123; refine HL.out.mono ?_; rintro e w' ⟨rfl, rfl⟩)
  rw [rounds_succ]
  go_wp2
  go_ret
  exact ⟨rfl, rfl⟩

end Go.Proofs.YtnejkgkikpgajaaDoor.ft
