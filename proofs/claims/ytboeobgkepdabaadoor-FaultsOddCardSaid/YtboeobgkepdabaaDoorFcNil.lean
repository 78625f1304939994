/-
  errors.As for one that wraps several, at an At over no error: none; so wrapped and take of such an At; errors.Is at it.
-/
import Derived.Test.YtboeobgkepdabaaDoorFcTake
import Derived.Test.YtboeobgkepdabaaDoorFtIsQ
namespace Go.Proofs.YtboeobgkepdabaaDoor.ft
open Go.ChangeShapes Go.WideShapes Go.ChangeAt Go.RowKit Go.Extern.Stop Go.Stop Go.Extern
open Go.Proofs.YtboeobgkepdabaaDoor.lx (Has grown_refl grown_put grown_below)
set_option linter.unusedVariables false

theorem npA (w : World) : (Rtype.noPackMethods "a method set held against an interface's list" 41).run Tryd.prog w = .ok () w := by kernel_rfl
theorem npA2 (w : World) : (Rtype.noPackMethods "AssignableTo" 41).run Tryd.prog w = .ok () w := by kernel_rfl
theorem infoAp : (Tryd.prog.info? 41).map (·.desc) = some (.pointer 50) := by kernel_rfl
theorem lackA : (Tryd.prog.info? 41).map (fun i => (lacking wantM i.methods).isEmpty) = some false := by kernel_rfl
theorem directAM (w : World) : (Rtype.directlyAssignable 95 41).run Tryd.prog w = .ok false w := by kernel_rfl
theorem ofA (w : World) : (ReflectliteType.ofRtype (.agg #[.pointer (some ⟨4, 41, none⟩)])).run Tryd.prog w = .ok 41 w := by kernel_rfl
theorem implAM (w : World) : (Rtype.implements 95 41).run Tryd.prog w = .ok false w := by
  obtain ⟨iM, hM, dM⟩ := Option.map_eq_some_iff.1 infoM
  obtain ⟨iK, hK, dK⟩ := Option.map_eq_some_iff.1 infoAp
  obtain ⟨jK, hJ, lK⟩ := Option.map_eq_some_iff.1 lackA
  obtain rfl : jK = iK := Option.some.inj (hJ.symm.trans hK)
  obtain ⟨m, hm⟩ := missingMethod_some (want := wantM) (got := jK.methods) (fun e => by rw [e] at lK; cases lK)
  simp [Rtype.implements, Rtype.under, typeInfo, npA, npM, hM, hK, dM, dK, hm, Result.andThen]
theorem relAM : ReflectliteType.relation "AssignableTo" ReflectliteType.assignableTo #[.agg #[.pointer (some ⟨4, 41, none⟩)], .iface 101 (.agg #[.pointer (some ⟨4, 95, none⟩)])]
    = (do pure (.bool (← ReflectliteType.assignableTo (← ReflectliteType.ofRtype (.agg #[.pointer (some ⟨4, 95, none⟩)])) (← ReflectliteType.ofRtype (.agg #[.pointer (some ⟨4, 41, none⟩)]))))) := rfl
theorem assignableAM (w : World) : (ReflectliteType.relation "AssignableTo" ReflectliteType.assignableTo #[.agg #[.pointer (some ⟨4, 41, none⟩)], .iface 101 (.agg #[.pointer (some ⟨4, 95, none⟩)])]).run Tryd.prog w = .ok (.bool false) w := by
  rw [relAM]
  simp [ofM, ofA, ReflectliteType.assignableTo, npA2, npM2, directAM, implAM, Result.andThen]
theorem assertAtAs (v : Value) (w : World) : (Instr.typeAssert (.iface 41 v) 27 120 true).run Tryd.prog w = .ok (.tuple #[.nilIface, .bool false]) w :=
  run_typeAssert_lacksB Tryd.underlying120 (by kernel_rfl) (by kernel_rfl) ..

set_option maxRecDepth 10000 in
set_option maxHeartbeats 4000000 in
theorem as_atn (g : Nat) (x y : Int) (nm : ByteArray) (nd : Bool) (t : Addr) (w : World) (ht : t.block < w.heap.size) (hg : Has w g 50 #[.int .i64 x, .int .i64 y, .string nm, .bool nd, .nilIface]) :
    Calls Tryd.prog 49 #[.iface 41 (.pointer (some ⟨g, 0, none⟩)), .iface 96 (.pointer (some t))] w fun ev w' => ev = .returned (.bool false) ∧ Below w.heap.size w w' := by
  have h6 := @run_callFunc_extern Tryd.prog 56 _ (fun args => ReflectliteValue.unpack (args.getD 0 (.tuple #[]))) Tryd.func56 (by kernel_rfl) (by kernel_rfl) (by kernel_rfl) (by kernel_rfl)
  have h7 := @run_callFunc_extern Tryd.prog 57 _ (ReflectliteValue.methodAny (ReflectliteValue.valueError "reflectlite.Value.Type" 0) (fun t _ _ _ => ReflectliteType.toType t)) Tryd.func57 (by kernel_rfl) (by kernel_rfl) (by kernel_rfl) (by kernel_rfl)
  have h8 := @run_callFunc_extern Tryd.prog 58 _ (ReflectliteValue.method (ReflectliteValue.valueError "reflectlite.Value.IsNil" 0) ReflectliteValue.isNil) Tryd.func58 (by kernel_rfl) (by kernel_rfl) (by kernel_rfl) (by kernel_rfl)
  have h27 := @run_callFunc_extern Tryd.prog 88 _ (ReflectliteType.abiMethod fun t => do pure (.int .u8 (← Rtype.kind t))) Tryd.func88 (by kernel_rfl) (by kernel_rfl) (by kernel_rfl) (by kernel_rfl)
  have h37 := @run_callFunc_extern Tryd.prog 97 _ (ReflectliteType.method ReflectliteType.elem) Tryd.func97 (by kernel_rfl) (by kernel_rfl) (by kernel_rfl) (by kernel_rfl)
  have h10 := @run_callFunc_extern Tryd.prog 46 _ ReflectliteType.typeOf Tryd.func46 (by kernel_rfl) (by kernel_rfl) (by kernel_rfl) (by kernel_rfl)
  have h35 := @run_callFunc_extern Tryd.prog 95 _ (ReflectliteType.relation "AssignableTo" ReflectliteType.assignableTo) Tryd.func95 (by kernel_rfl) (by kernel_rfl) (by kernel_rfl) (by kernel_rfl)
  have tO : ∀ (v : Value) (w : World), (ReflectliteType.typeOf #[.iface 41 v]).run Tryd.prog w = .ok (.iface 101 (.agg #[.pointer (some ⟨4, 41, none⟩)])) w := fun v w => by kernel_rfl
  have mA := methodAssignableTo
  have aK := assignableAM
  have f6 := valueOfM
  have f7 := typeM
  have mK := methodKind
  have mE := methodElem
  have k1 := kindM
  have k2 := kindME
  have e27 := elemM
  have s1 := assertAtAs
  have hA := assertAt
  have hM := methodUnwrap
  have n8 := isNilM ⟨w.heap.size, 0, none⟩ t ((w.alloc (.cells #[.pointer (some t)] 96)).alloc (.cells #[.pointer (some ⟨4, 96, none⟩), .pointer (some ⟨w.heap.size, 0, none⟩), .int .u64 150] 109)) (by simp)
  have HU : Hid (∀ W, Below w.heap.size w W → Calls Tryd.prog 20 #[.pointer (some ⟨g, 0, none⟩)] W fun e w' => e = .returned .nilIface ∧ W = w') := Lib.hid (fun W hb => atUnwrap_any g x y nm nd .nilIface W (hg.below hb hg.lt))
  clear hg
  go_enter Tryd.func49, Tryd.ntmps49
  go_wp2
  refine wp_loop_rounds 1 ?_
  rw [rounds_succ]
  go_wp2_with (go_at_call 20; refine (HU.out _ (((((Below.refl _ _).alloc (Nat.le_refl _) _).alloc (by simp) _).alloc (by simp; omega) _))).mono ?_; rintro e w' ⟨rfl, rfl⟩)
  go_ret
  exact ⟨rfl, (((Below.refl _ _).alloc (Nat.le_refl _) _).alloc (by simp) _).alloc (by simp; omega) _⟩

theorem lit_n (p q g : Nat) (x y : Int) (nm : ByteArray) (nd : Bool) (v : Value) (w : World) (hg : Has w g 50 #[.int .i64 x, .int .i64 y, .string nm, .bool nd, .nilIface])
    (hp : Has w p 27 #[.iface 41 (.pointer (some ⟨g, 0, none⟩))]) :
    Calls Tryd.prog 51 #[.pointer (some ⟨p, 0, none⟩), .pointer (some ⟨q, 0, none⟩)] w fun e w' => e = .returned (.tuple #[]) ∧ Below w.heap.size w w' := by
  have c0 := hp.cell 0
  have hpl := hp.lt
  simp only [List.getElem?_toArray, List.getElem?_cons_zero] at c0
  have HG := Lib.hid hg
  clear hp hg
  go_enter Tryd.func51, Tryd.ntmps51
  go_wp2_with fail
  refine (unwrap_at g x y nm nd _ _ HG.out).mono ?_
  rintro e w' ⟨rfl, rfl⟩
  go_wp2_with fail
  refine (as_atn g x y nm nd _ _ (by simp) (HG.out.alloc _)).mono ?_
  rintro e w1 ⟨rfl, hb⟩
  have HB := Lib.hid hb
  clear hb
  go_wp2_with fail
  go_end0
  exact ⟨rfl, ((Below.refl _ _).alloc (Nat.le_refl _) _).trans (HB.out.mono (by simp))⟩

theorem wrapped_n (g : Nat) (x y : Int) (nm : ByteArray) (nd : Bool) (w : World) (hg : Has w g 50 #[.int .i64 x, .int .i64 y, .string nm, .bool nd, .nilIface]) :
    Calls Tryd.prog 38 #[.iface 41 (.pointer (some ⟨g, 0, none⟩))] w fun e w' => e = .returned (.slice none 0 0) ∧ Below w.heap.size w w' := by
  have hmf : ∀ (fn : Fn) (first cap : Array Value) (w : World), (Instr.makeFunc fn first cap).run Tryd.prog w = .ok (.func fn first cap) w := fun _ _ _ _ => rfl
  go_enter Tryd.func38, Tryd.ntmps38
  have hP := (Has.new w 27 #[.iface 41 (.pointer (some ⟨g, 0, none⟩))]).alloc (.cells #[.slice none 0 0] 47)
  have hQ := Has.new (w.alloc (.cells #[.iface 41 (.pointer (some ⟨g, 0, none⟩))] 27)) 47 #[.slice none 0 0]
  rw [show (w.alloc (.cells #[.iface 41 (.pointer (some ⟨g, 0, none⟩))] 27)).heap.size = w.heap.size + 1 by simp] at hQ
  have HQ := Lib.hid hQ
  have HL := Lib.hid (quiet_wrapped _ _ _ (lit_n w.heap.size (w.heap.size + 1) g x y nm nd (.slice none 0 0) _ ((hg.alloc _).alloc _) hP))
  clear hP hQ hg
  go_wp2_with fail
  refine HL.out.mono ?_
  rintro e w1 ⟨rfl, hb⟩
  have hq := HQ.out.below hb (by simp)
  have c0 := hq.cell 0
  have f0 := hq.free 0
  have hql := hq.lt
  simp only [List.getElem?_toArray, List.getElem?_cons_zero] at c0
  have HB := Lib.hid hb
  clear hq hb
  go_wp2_with fail
  refine bodyPost_ret (v := .slice none 0 0) (by simp [results, Tryd.results38, go_sem, c0]) rfl ⟨rfl, ?_⟩
  exact ((((Below.refl _ _).alloc (Nat.le_refl _) _).alloc (by simp) _).trans (HB.out.mono (by simp; omega))).setCell (p := ⟨w.heap.size + 1, 0, none⟩) (by show _ ≤ w.heap.size + 1; omega) _

set_option maxRecDepth 10000 in
set_option maxHeartbeats 4000000 in
theorem is_an (g : Nat) (x y : Int) (nm : ByteArray) (nd : Bool) (j : Int) (w : World) (hg : Has w g 50 #[.int .i64 x, .int .i64 y, .string nm, .bool nd, .nilIface]) :
    Calls Tryd.prog 35 #[.iface 41 (.pointer (some ⟨g, 0, none⟩)), .iface 29 (.int .i64 j)] w fun e w' => e = .returned (.bool false) ∧ w' = w := by
  have h8 := @run_callFunc_extern Tryd.prog 46 _ ReflectliteType.typeOf Tryd.func46 (by kernel_rfl) (by kernel_rfl) (by kernel_rfl) (by kernel_rfl)
  have h32 := @run_callFunc_extern Tryd.prog 96 _ compF Tryd.func96 (by kernel_rfl) (by kernel_rfl) (by kernel_rfl) (by kernel_rfl)
  have tT := typeOfK
  have cT := compK
  have mR := methodComparable
  have nA := noIsA
  have hA := assertAt
  have hM := methodUnwrap
  have b0 := binAK
  have HL := Lib.hid (atUnwrap_any g x y nm nd .nilIface w hg)
  clear hg
  go_enter Tryd.func35, Tryd.ntmps35
  go_wp2
  refine wp_loop_rounds 1 ?_
  rw [rounds_succ]
  go_wp2_with (go_at_call 20; refine HL.out.mono ?_; rintro e w' ⟨rfl, rfl⟩)
  go_ret
  exact ⟨rfl, rfl⟩
end Go.Proofs.YtboeobgkepdabaaDoor.ft
