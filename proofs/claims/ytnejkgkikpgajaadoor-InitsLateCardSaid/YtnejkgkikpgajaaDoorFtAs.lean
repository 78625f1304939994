/-
  errors.As: at a Kind, the target a variable of an interface that a Kind hasn't: false; at an At, the target a variable of *At: true, and the variable is set. Go's own text is walked; closed facts on the model's entries for internal/reflectlite at this program's types.
-/
import Derived.Test.YtnejkgkikpgajaaDoorFtUnwrap
namespace Go.Proofs.YtnejkgkikpgajaaDoor.ft
open Go.ChangeShapes Go.WideShapes Go.ChangeAt Go.RowKit Go.Extern.Stop Go.Stop Go.Extern
open Go.Proofs.YtnejkgkikpgajaaDoor.lx (Has)
set_option linter.unusedVariables false

theorem rlm (z : Sem Value) (f : TypeId → Addr → Nat → Nat → Sem Value) (v : Value) :
    ReflectliteValue.method z f #[v] = (do match ← ReflectliteValue.parts v with | none => z | some (t, a, fl) => f t a fl (fl % 32)) := rfl
theorem methodKind (h : Value) (w : World) : (Go.method 345 182 (.agg #[h]) "Kind").run Tryd.prog w = .ok (116, h) w := by kernel_rfl
theorem methodElem (h : Value) (w : World) : (Go.method 345 182 (.agg #[h]) "Elem").run Tryd.prog w = .ok (127, .agg #[h]) w := by kernel_rfl
theorem methodImplements (h : Value) (w : World) : (Go.method 345 182 (.agg #[h]) "Implements").run Tryd.prog w = .ok (128, .agg #[h]) w := by kernel_rfl
theorem methodAssignableTo (h : Value) (w : World) : (Go.method 345 182 (.agg #[h]) "AssignableTo").run Tryd.prog w = .ok (125, .agg #[h]) w := by kernel_rfl

/-! the target a variable of an interface type -/
theorem valueOfM (t : Addr) (w : World) : (ReflectliteValue.unpack (.iface 196 (.pointer (some t)))).run Tryd.prog w
    = .ok (.agg #[.pointer (some ⟨1, 196, none⟩), .pointer (some ⟨w.heap.size, 0, none⟩), .int .u64 150]) (w.alloc (.cells #[.pointer (some t)] 196)) := by kernel_rfl
theorem typeM (a : Addr) (w : World) : (ReflectliteValue.methodAny (ReflectliteValue.valueError "reflectlite.Value.Type" 0) (fun t _ _ _ => ReflectliteType.toType t) #[.agg #[.pointer (some ⟨1, 196, none⟩), .pointer (some a), .int .u64 150]]).run Tryd.prog w
    = .ok (.iface 182 (.agg #[.pointer (some ⟨1, 196, none⟩)])) w := by kernel_rfl
theorem kindM (w : World) : ((ReflectliteType.abiMethod fun t => (fun a : Nat => Value.int IntKind.u8 (a : Int)) <$> Rtype.kind t) #[.pointer (some ⟨1, 196, none⟩)]).run Tryd.prog w = .ok (.int .u8 22) w := by kernel_rfl
theorem kindME (w : World) : ((ReflectliteType.abiMethod fun t => (fun a : Nat => Value.int IntKind.u8 (a : Int)) <$> Rtype.kind t) #[.pointer (some ⟨1, 194, none⟩)]).run Tryd.prog w = .ok (.int .u8 20) w := by kernel_rfl
theorem partsM (a : Addr) (w : World) : (ReflectliteValue.parts (.agg #[.pointer (some ⟨1, 196, none⟩), .pointer (some a), .int .u64 150])).run Tryd.prog w = .ok (some (196, a, 150)) w := by kernel_rfl
theorem isNilM (a p : Addr) (W : World) (ha : W.cell? a = some (.pointer (some p))) :
    (ReflectliteValue.method (ReflectliteValue.valueError "reflectlite.Value.IsNil" 0) ReflectliteValue.isNil #[.agg #[.pointer (some ⟨1, 196, none⟩), .pointer (some a), .int .u64 150]]).run Tryd.prog W = .ok (.bool false) W := by
  rw [rlm]
  simp only [Sem.run_bind, partsM, Result.andThen]
  simp [ReflectliteValue.isNil, loadVar, isAgg, underlying, Tryd.underlying196, ha, Result.andThen]
theorem elemM (w : World) : (ReflectliteType.method ReflectliteType.elem #[.agg #[.pointer (some ⟨1, 196, none⟩)]]).run Tryd.prog w = .ok (.iface 182 (.agg #[.pointer (some ⟨1, 194, none⟩)])) w := by kernel_rfl
theorem typeOfK (v : Value) (w : World) : (ReflectliteType.typeOf #[.iface 56 v]).run Tryd.prog w = .ok (.iface 182 (.agg #[.pointer (some ⟨1, 56, none⟩)])) w := by kernel_rfl
noncomputable def wantM : Array (String × TypeId) := match Tryd.prog.info? 194 with | some i => (match i.desc with | .interface ms => ms | _ => #[]) | none => #[]
noncomputable def nameK : String := match Tryd.prog.info? 56 with | some i => (match i.desc with | .named q _ => q | _ => "") | none => ""
theorem npK (w : World) : (Rtype.noPackMethods "a method set held against an interface's list" 56).run Tryd.prog w = .ok () w := by kernel_rfl
theorem npM (w : World) : (Rtype.noPackMethods "a method set held against an interface's list" 194).run Tryd.prog w = .ok () w := by kernel_rfl
theorem npK2 (w : World) : (Rtype.noPackMethods "AssignableTo" 56).run Tryd.prog w = .ok () w := by kernel_rfl
theorem npM2 (w : World) : (Rtype.noPackMethods "AssignableTo" 194).run Tryd.prog w = .ok () w := by kernel_rfl
theorem infoM : (Tryd.prog.info? 194).map (·.desc) = some (.interface wantM) := by kernel_rfl
theorem infoK : (Tryd.prog.info? 56).map (·.desc) = some (.named nameK 3) := by kernel_rfl
theorem infoI : (Tryd.prog.info? 3).map (·.desc) = some (.int .i64) := by kernel_rfl
theorem lackK : (Tryd.prog.info? 56).map (fun i => (lacking wantM i.methods).isEmpty) = some false := by kernel_rfl
theorem directKM (w : World) : (Rtype.directlyAssignable 194 56).run Tryd.prog w = .ok false w := by kernel_rfl
theorem ofM (w : World) : (ReflectliteType.ofRtype (.agg #[.pointer (some ⟨1, 194, none⟩)])).run Tryd.prog w = .ok 194 w := by kernel_rfl
theorem ofK (w : World) : (ReflectliteType.ofRtype (.agg #[.pointer (some ⟨1, 56, none⟩)])).run Tryd.prog w = .ok 56 w := by kernel_rfl
theorem implKM (w : World) : (Rtype.implements 194 56).run Tryd.prog w = .ok false w := by
  obtain ⟨iM, hM, dM⟩ := Option.map_eq_some_iff.1 infoM
  obtain ⟨iK, hK, dK⟩ := Option.map_eq_some_iff.1 infoK
  obtain ⟨iI, hI, dI⟩ := Option.map_eq_some_iff.1 infoI
  obtain ⟨jK, hJ, lK⟩ := Option.map_eq_some_iff.1 lackK
  obtain rfl : jK = iK := Option.some.inj (hJ.symm.trans hK)
  obtain ⟨m, hm⟩ := missingMethod_some (want := wantM) (got := jK.methods) (fun e => by rw [e] at lK; cases lK)
  simp [Rtype.implements, Rtype.under, typeInfo, npK, npM, hM, hK, hI, dM, dK, dI, hm, Result.andThen]
theorem relKM : ReflectliteType.relation "AssignableTo" ReflectliteType.assignableTo #[.agg #[.pointer (some ⟨1, 56, none⟩)], .iface 182 (.agg #[.pointer (some ⟨1, 194, none⟩)])]
    = (do pure (.bool (← ReflectliteType.assignableTo (← ReflectliteType.ofRtype (.agg #[.pointer (some ⟨1, 194, none⟩)])) (← ReflectliteType.ofRtype (.agg #[.pointer (some ⟨1, 56, none⟩)]))))) := rfl
theorem assignableKM (w : World) : (ReflectliteType.relation "AssignableTo" ReflectliteType.assignableTo #[.agg #[.pointer (some ⟨1, 56, none⟩)], .iface 182 (.agg #[.pointer (some ⟨1, 194, none⟩)])]).run Tryd.prog w = .ok (.bool false) w := by
  rw [relKM]
  simp [ofM, ofK, ReflectliteType.assignableTo, npK2, npM2, directKM, implKM, Result.andThen]
theorem assertKindAs (v : Value) (w : World) : (Instr.typeAssert (.iface 56 v) 36 212 true).run Tryd.prog w = .ok (.tuple #[.nilIface, .bool false]) w :=
  run_typeAssert_lacksB Tryd.underlying212 (by kernel_rfl) (by kernel_rfl) ..
theorem assertKindMany (v : Value) (w : World) : (Instr.typeAssert (.iface 56 v) 36 188 true).run Tryd.prog w = .ok (.tuple #[.nilIface, .bool false]) w :=
  run_typeAssert_lacksB Tryd.underlying188 (by kernel_rfl) (by kernel_rfl) ..

set_option maxRecDepth 10000 in
set_option maxHeartbeats 4000000 in
theorem as_kind (k : Int) (t : Addr) (w : World) (ht : t.block < w.heap.size) :
    Calls Tryd.prog 94 #[.iface 56 (.int .i64 k), .iface 196 (.pointer (some t))] w fun ev w' => ev = .returned (.bool false) ∧ Below w.heap.size w w' := by
  have h6 := @run_callFunc_extern Tryd.prog 96 _ (fun args => ReflectliteValue.unpack (args.getD 0 (.tuple #[]))) Tryd.func96 (by kernel_rfl) (by kernel_rfl) (by kernel_rfl) (by kernel_rfl)
  have h7 := @run_callFunc_extern Tryd.prog 97 _ (ReflectliteValue.methodAny (ReflectliteValue.valueError "reflectlite.Value.Type" 0) (fun t _ _ _ => ReflectliteType.toType t)) Tryd.func97 (by kernel_rfl) (by kernel_rfl) (by kernel_rfl) (by kernel_rfl)
  have h8 := @run_callFunc_extern Tryd.prog 98 _ (ReflectliteValue.method (ReflectliteValue.valueError "reflectlite.Value.IsNil" 0) ReflectliteValue.isNil) Tryd.func98 (by kernel_rfl) (by kernel_rfl) (by kernel_rfl) (by kernel_rfl)
  have h27 := @run_callFunc_extern Tryd.prog 116 _ (ReflectliteType.abiMethod fun t => do pure (.int .u8 (← Rtype.kind t))) Tryd.func116 (by kernel_rfl) (by kernel_rfl) (by kernel_rfl) (by kernel_rfl)
  have h37 := @run_callFunc_extern Tryd.prog 127 _ (ReflectliteType.method ReflectliteType.elem) Tryd.func127 (by kernel_rfl) (by kernel_rfl) (by kernel_rfl) (by kernel_rfl)
  have h10 := @run_callFunc_extern Tryd.prog 64 _ ReflectliteType.typeOf Tryd.func64 (by kernel_rfl) (by kernel_rfl) (by kernel_rfl) (by kernel_rfl)
  have h35 := @run_callFunc_extern Tryd.prog 125 _ (ReflectliteType.relation "AssignableTo" ReflectliteType.assignableTo) Tryd.func125 (by kernel_rfl) (by kernel_rfl) (by kernel_rfl) (by kernel_rfl)
  have tO := typeOfK
  have mA := methodAssignableTo
  have aK := assignableKM
  have f6 := valueOfM
  have f7 := typeM
  have mK := methodKind
  have mE := methodElem
  have k1 := kindM
  have k2 := kindME
  have e27 := elemM
  have s1 := assertKindAs
  have s2 := assertKind
  have s3 := assertKindMany
  have n8 := isNilM ⟨w.heap.size, 0, none⟩ t ((w.alloc (.cells #[.pointer (some t)] 196)).alloc (.cells #[.pointer (some ⟨1, 196, none⟩), .pointer (some ⟨w.heap.size, 0, none⟩), .int .u64 150] 203)) (by simp)
  go_enter Tryd.func94, Tryd.ntmps94
  go_wp2
  refine wp_loop_rounds 1 ?_
  rw [rounds_succ]
  go_wp2
  go_ret
  exact ⟨rfl, (((Below.refl _ _).alloc (Nat.le_refl _) _).alloc (by simp) _).alloc (by simp; omega) _⟩

end Go.Proofs.YtnejkgkikpgajaaDoor.ft
