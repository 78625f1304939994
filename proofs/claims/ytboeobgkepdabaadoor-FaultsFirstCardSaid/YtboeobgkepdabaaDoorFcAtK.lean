/-
  errors.As for an At, at a Kind: none; so at of package faults.
-/
import Derived.Test.YtboeobgkepdabaaDoorFtAtQ
namespace Go.Proofs.YtboeobgkepdabaaDoor.ft
open Go.ChangeShapes Go.WideShapes Go.ChangeAt Go.RowKit Go.Extern.Stop Go.Stop Go.Extern
open Go.Proofs.YtboeobgkepdabaaDoor.lx (Has grown_refl grown_put grown_below)
set_option linter.unusedVariables false

theorem directKA (w : World) : (Rtype.directlyAssignable 41 29).run Tryd.prog w = .ok false w := by kernel_rfl
theorem assignableKA (w : World) : (ReflectliteType.relation "AssignableTo" ReflectliteType.assignableTo #[.agg #[.pointer (some ⟨4, 29, none⟩)], .iface 101 (.agg #[.pointer (some ⟨4, 41, none⟩)])]).run Tryd.prog w = .ok (.bool false) w := by kernel_rfl

set_option maxRecDepth 10000 in
set_option maxHeartbeats 4000000 in
theorem as_kind_t (k : Int) (t : Addr) (w : World) (hg : w.cell? ⟨0, 0, none⟩ = some (.iface 101 (.agg #[.pointer (some ⟨4, 27, none⟩)]))) :
    Calls Tryd.prog 49 #[.iface 29 (.int .i64 k), .iface 93 (.pointer (some t))] w fun ev w' => ev = .returned (.bool false) ∧ Below w.heap.size w w' := by
  have h6 := @run_callFunc_extern Tryd.prog 56 _ (fun args => ReflectliteValue.unpack (args.getD 0 (.tuple #[]))) Tryd.func56 (by kernel_rfl) (by kernel_rfl) (by kernel_rfl) (by kernel_rfl)
  have h7 := @run_callFunc_extern Tryd.prog 57 _ (ReflectliteValue.methodAny (ReflectliteValue.valueError "reflectlite.Value.Type" 0) (fun t _ _ _ => ReflectliteType.toType t)) Tryd.func57 (by kernel_rfl) (by kernel_rfl) (by kernel_rfl) (by kernel_rfl)
  have h8 := @run_callFunc_extern Tryd.prog 58 _ (ReflectliteValue.method (ReflectliteValue.valueError "reflectlite.Value.IsNil" 0) ReflectliteValue.isNil) Tryd.func58 (by kernel_rfl) (by kernel_rfl) (by kernel_rfl) (by kernel_rfl)
  have h27 := @run_callFunc_extern Tryd.prog 88 _ (ReflectliteType.abiMethod fun t => do pure (.int .u8 (← Rtype.kind t))) Tryd.func88 (by kernel_rfl) (by kernel_rfl) (by kernel_rfl) (by kernel_rfl)
  have h37 := @run_callFunc_extern Tryd.prog 97 _ (ReflectliteType.method ReflectliteType.elem) Tryd.func97 (by kernel_rfl) (by kernel_rfl) (by kernel_rfl) (by kernel_rfl)
  have h38 := @run_callFunc_extern Tryd.prog 98 _ (ReflectliteType.relation "Implements" ReflectliteType.implements_) Tryd.func98 (by kernel_rfl) (by kernel_rfl) (by kernel_rfl) (by kernel_rfl)
  have h10 := @run_callFunc_extern Tryd.prog 46 _ ReflectliteType.typeOf Tryd.func46 (by kernel_rfl) (by kernel_rfl) (by kernel_rfl) (by kernel_rfl)
  have h35 := @run_callFunc_extern Tryd.prog 95 _ (ReflectliteType.relation "AssignableTo" ReflectliteType.assignableTo) Tryd.func95 (by kernel_rfl) (by kernel_rfl) (by kernel_rfl) (by kernel_rfl)
  have tO := typeOfK
  have mA := methodAssignableTo
  have aA := assignableKA
  have f6 := valueOfT
  have f7 := typeT
  have mK := methodKind
  have mE := methodElem
  have mI := methodImplements
  have k27 := kindT
  have k25 := kindA
  have e27 := elemT
  have i25 := implementsA
  have s1 := assertKindAs
  have s2 := assertKind
  have s3 := assertKindMany
  have n8 := isNilT ⟨w.heap.size, 0, none⟩ t ((w.alloc (.cells #[.pointer (some t)] 93)).alloc (.cells #[.pointer (some ⟨4, 93, none⟩), .pointer (some ⟨w.heap.size, 0, none⟩), .int .u64 150] 109)) (by simp)
  have hlt : 0 < w.heap.size := World.block_lt_of_cell? w _ hg
  have hg2 : ((w.alloc (.cells #[.pointer (some t)] 93)).alloc (.cells #[.pointer (some ⟨4, 93, none⟩), .pointer (some ⟨w.heap.size, 0, none⟩), .int .u64 150] 109)).cell? ⟨0, 0, none⟩ = some (.iface 101 (.agg #[.pointer (some ⟨4, 27, none⟩)])) := by
    rw [World.cell?_alloc_lt _ _ ⟨0, 0, none⟩ (Nat.lt_of_lt_of_le hlt (by simp)), World.cell?_alloc_lt _ _ ⟨0, 0, none⟩ hlt]; exact hg
  go_enter Tryd.func49, Tryd.ntmps49
  go_wp2
  refine wp_loop_rounds 1 ?_
  rw [rounds_succ]
  go_wp2
  go_ret
  exact ⟨rfl, (((Below.refl _ _).alloc (Nat.le_refl _) _).alloc (by simp) _).alloc (by simp; omega) _⟩

set_option maxRecDepth 10000 in
theorem litAtK (p1 p2 p3 : Nat) (k : Int) (w : World) (hg : Handle w) (h1 : Has w p1 27 #[.iface 29 (.int .i64 k)]) (h2 : Has w p2 41 #[.pointer none]) (h3 : Has w p3 4 #[.bool false]) :
    Calls Tryd.prog 48 #[.pointer (some ⟨p1, 0, none⟩), .pointer (some ⟨p2, 0, none⟩), .pointer (some ⟨p3, 0, none⟩)] w fun e w' => e = .returned (.tuple #[]) ∧
      Has w' p2 41 #[.pointer none] ∧ Has w' p3 4 #[.bool false] ∧ w.grownBy w' (some p3) := by
  have a1 := h1.cell 0
  simp only [List.getElem?_toArray, List.getElem?_cons_zero] at a1
  have H2 := Lib.hid h2
  have H3 := Lib.hid h3
  have HL := Lib.hid (as_kind_t k ⟨p2, 0, none⟩ w hg)
  have hne := ne_types h2 h3 (by decide)
  clear h1 h2 h3 hg
  go_enter Tryd.func48, Tryd.ntmps48
  go_wp2_with fail
  refine HL.out.mono ?_
  rintro e w' ⟨rfl, hb⟩
  have h3 := H3.out.below hb H3.out.lt
  have h2 := H2.out.below hb H2.out.lt
  have c3 := h3.cell 0
  have f3 := h3.free 0
  have l3 := h3.lt
  simp only [List.getElem?_toArray, List.getElem?_cons_zero] at c3
  have HE := Lib.hid (And.intro (h2.put_far 0 (.bool false) hne) (And.intro (h3.put 0 (.bool false)) (grown_put (grown_below (some p3) hb) 0 (.bool false))))
  clear h3 h2 hb
  go_wp2_with fail
  go_end0
  exact ⟨rfl, HE.out.1, by simpa using HE.out.2.1, HE.out.2.2⟩

set_option maxRecDepth 10000 in
theorem at_kind (k : Int) (w : World) (hg : Handle w) :
    Calls Tryd.prog 36 #[.iface 29 (.int .i64 k)] w fun e w' => e = .returned (.tuple #[.pointer none, .bool false]) ∧ Below w.heap.size w w' := by
  have hmf : ∀ (fn : Fn) (first cap : Array Value) (w : World), (Instr.makeFunc fn first cap).run Tryd.prog w = .ok (.func fn first cap) w := fun _ _ _ _ => rfl
  obtain ⟨W, hW⟩ : ∃ W, W = ((w.alloc (.cells #[.iface 29 (.int .i64 k)] 27)).alloc (.cells #[.pointer none] 41)).alloc (.cells #[.bool false] 4) := ⟨_, rfl⟩
  have hb : Below w.heap.size w W := by rw [hW]; exact (((Below.refl _ _).alloc (Nat.le_refl _) _).alloc (by simp) _).alloc (by simp; omega) _
  have h2 : Has W w.heap.size 27 #[.iface 29 (.int .i64 k)] := by rw [hW]; exact ((Has.new w 27 #[.iface 29 (.int .i64 k)]).alloc _).alloc _
  have h3 : Has W (w.heap.size + 1) 41 #[.pointer none] := by
    rw [hW]
    have := Has.new (w.alloc (.cells #[.iface 29 (.int .i64 k)] 27)) 41 #[.pointer none]
    simp only [World.size_alloc] at this
    exact this.alloc _
  have h4 : Has W (w.heap.size + 2) 4 #[.bool false] := by
    rw [hW]
    have := Has.new ((w.alloc (.cells #[.iface 29 (.int .i64 k)] 27)).alloc (.cells #[.pointer none] 41)) 4 #[.bool false]
    simp only [World.size_alloc] at this
    exact this
  have HL := Lib.hid (quiet_at _ _ _ (litAtK w.heap.size (w.heap.size + 1) (w.heap.size + 2) k W (hg.below hb) h2 h3 h4))
  have HE := Lib.hid hb
  have hsW : w.heap.size ≤ W.heap.size := hb.size
  clear h2 h3 h4 hb hg
  go_enter Tryd.func36, Tryd.ntmps36
  go_wp2_with fail
  rw [← hW]
  clear hW
  refine HL.out.mono ?_
  rintro e w2 ⟨rfl, h3, h4, hgr⟩
  have hlow : Below w.heap.size w w2 := HE.out.grown hgr hsW (fun k hk => by cases hk; show w.heap.size ≤ w.heap.size + 2; omega)
  have HLOW := Lib.hid hlow
  have K3 := Lib.hid h3
  have K4 := Lib.hid h4
  have c3 := h3.cell 0
  have f3 := h3.free 0
  have c4 := h4.cell 0
  have f4 := h4.free 0
  have l4 := h4.lt
  simp only [List.getElem?_toArray, List.getElem?_cons_zero] at c3 c4
  clear hlow h3 h4 hgr
  go_wp2_with fail
  go_region
  go_wp2_with fail
  have k3 := ((K3.out.put 0 (.pointer none)).put_far 0 (.bool false) (g' := w.heap.size + 2) (by omega))
  have k4 := (K4.out.put_far 0 (.pointer none) (g' := w.heap.size + 1) (by omega)).put 0 (.bool false)
  simp only [List.setIfInBounds_toArray, List.set_cons_zero] at k3 k4
  have e3 : ((w2.setCell ⟨w.heap.size + 1, 0, none⟩ (.pointer none)).setCell ⟨w.heap.size + 1 + 1, 0, none⟩ (.bool false)).drew.cell? ⟨w.heap.size + 1, 0, none⟩ = some (.pointer none) := k3.cell 0
  have e4 : ((w2.setCell ⟨w.heap.size + 1, 0, none⟩ (.pointer none)).setCell ⟨w.heap.size + 1 + 1, 0, none⟩ (.bool false)).drew.cell? ⟨w.heap.size + 1 + 1, 0, none⟩ = some (.bool false) := k4.cell 0
  have hlast := ((HLOW.out.setCell (p := ⟨w.heap.size + 1, 0, none⟩) (by show _ ≤ w.heap.size + 1; omega) (.pointer none)).setCell (p := ⟨w.heap.size + 1 + 1, 0, none⟩) (by show _ ≤ w.heap.size + 1 + 1; omega) (.bool false)).drew
  generalize ((w2.setCell ⟨w.heap.size + 1, 0, none⟩ (.pointer none)).setCell ⟨w.heap.size + 1 + 1, 0, none⟩ (.bool false)).drew = Wf at *
  exact bodyPost_ret (v := .tuple #[.pointer none, .bool false]) (by simp [results, Tryd.results36, go_sem, e3, e4]) rfl ⟨rfl, hlast⟩
end Go.Proofs.YtboeobgkepdabaaDoor.ft
