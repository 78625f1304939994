/-
  unroll of package faults: at an At over a Kind, at two Ats over a Kind.
-/
import Derived.Test.YtboeobgkepdabaaDoorFcPlace
import Derived.Test.YtboeobgkepdabaaDoorFcLeaf
import Derived.Deep.AppendLies
namespace Go.Proofs.YtboeobgkepdabaaDoor.ft
open Go.ChangeShapes Go.WideShapes Go.ChangeAt Go.RowKit Go.Extern.Stop Go.Stop Go.Extern
open Go.Proofs.YtboeobgkepdabaaDoor.lx (Has grown_refl grown_put grown_below)
set_option linter.unusedVariables false

abbrev pK (g : Nat) : Value := .pointer (some ⟨g, 0, none⟩)
theorem checkP (b : Bool) (g : Nat) (w : World) : (Instr.checkKey b 10000 41 (.pointer (some ⟨g, 0, none⟩))).run Tryd.prog w = .ok () w := by kernel_rfl
theorem run_lookP (W : World) (m : Nat) (es : Array MapEntry) (c : Nat) (key : Value) (r : Option (Nat × Value)) (hW : W.heap[m]? = some (.map es c))
    (hk : (Instr.checkKey es.isEmpty 10000 41 key).run Tryd.prog W = .ok () W) (hf : (Instr.findKey 41 key es.toList).run Tryd.prog W = .ok r W) :
    (Instr.lookup 79 (.map (some m)) key false).run Tryd.prog W = .ok (match r with | some (_, v) => v | none => .int .i64 0) W := by
  have hz : (zeroValue 3).run Tryd.prog W = .ok (.int .i64 0) W := by kernel_rfl
  have hu := run_underlying (P := Tryd.prog) (w := W) Tryd.underlying79
  unfold Instr.lookup
  simp only [Sem.run_bind, hu, Result.andThen_ok, @MapKept.run_getObj_map _ _ _ _ _ hW]
  cases r with
  | none => simp [hk, hf, hz, Result.andThen]
  | some x => simp [hk, hf, Result.andThen]
theorem run_store_newP (W : World) (m : Nat) (es : Array MapEntry) (c : Nat) (key v : Value) (hW : W.heap[m]? = some (.map es c))
    (hk : (Instr.checkKey false 10000 41 key).run Tryd.prog W = .ok () W) (hf : (Instr.findKey 41 key es.toList).run Tryd.prog W = .ok none W) :
    (Instr.mapUpdate 79 (.map (some m)) key v).run Tryd.prog W = .ok () { W with heap := W.heap.setIfInBounds m (.map (es.push { key, val := v, born := c }) (c + 1)) } := by
  have hu := run_underlying (P := Tryd.prog) (w := W) Tryd.underlying79
  unfold Instr.mapUpdate
  simp only [Sem.run_bind, hu, Result.andThen_ok, @MapKept.run_getObj_map _ _ _ _ _ hW, hk, hf, MapKept.run_setObj_map _ hW]
theorem findP_nil (key : Value) (w : World) : (Instr.findKey 41 key []).run Tryd.prog w = .ok none w := by
  have h1 := run_underlying (P := Tryd.prog) (w := w) Tryd.underlying41
  unfold Instr.findKey
  simp only [Sem.run_bind, h1, Result.andThen_ok, Instr.findNow]
  rfl
theorem eqPQ (g g' : Nat) (w : World) (cs cs' : Array Value) (hne : g ≠ g') (h : Has w g 50 cs) (h' : Has w g' 50 cs') : (Op.equal 41 (pK g) (pK g')).run Tryd.prog w = .ok false w := by
  obtain ⟨j, hj, hz⟩ := Option.map_eq_some_iff.1 infoAt
  have hp := run_underlying (P := Tryd.prog) (w := w) Tryd.underlying41
  have hs := run_sameAddr_other (P := Tryd.prog) w (a := ⟨g, 0, none⟩) (b := ⟨g', 0, none⟩) (by intro e; exact hne (by injection e)) h h'
  have hq : ∀ d : Nat, (Op.equalIn (d + 1) 41 (pK g) (pK g')).run Tryd.prog w = .ok false w := fun d => by simp [Op.equalIn, hp, typeInfo, sizeOf, hj, hz, hs, pK]
  exact hq 9999
theorem findP_one (g g' : Nat) (v : Value) (b : Nat) (w : World) (cs cs' : Array Value) (hne : g ≠ g') (h : Has w g 50 cs) (h' : Has w g' 50 cs') :
    (Instr.findKey 41 (pK g) [⟨pK g', v, b⟩]).run Tryd.prog w = .ok none w := by
  have h1 := run_underlying (P := Tryd.prog) (w := w) Tryd.underlying41
  have he := eqPQ g g' w cs cs' hne h h'
  unfold Instr.findKey
  simp only [Sem.run_bind, h1, Result.andThen_ok, Instr.findNow, Instr.sameNow]
  rw [Instr.findAsking]
  simp only [Sem.run_bind, he, Result.andThen_ok]
  rfl
theorem ptr_info : (Tryd.prog.info? 41).map (fun i => (i.zero, i.size, i.bytes)) = some (some (.pointer none), 1, 8) := by kernel_rfl

set_option maxRecDepth 100000 in
set_option maxHeartbeats 4000000 in
theorem unroll_aak (g0 g1 : Nat) (x0 y0 x1 y1 k : Int) (nm0 nm1 : ByteArray) (nd0 nd1 : Bool) (w : World) (hne : g0 ≠ g1)
    (hg0 : Has w g0 50 #[.int .i64 x0, .int .i64 y0, .string nm0, .bool nd0, .iface 41 (.pointer (some ⟨g1, 0, none⟩))])
    (hg1 : Has w g1 50 #[.int .i64 x1, .int .i64 y1, .string nm1, .bool nd1, .iface 29 (.int .i64 k)]) :
    Calls Tryd.prog 27 #[.pointer (some ⟨g0, 0, none⟩)] w fun e w' => (∃ q cap, e = .returned (.tuple #[.slice (some ⟨q, 0, none⟩) 2 cap, .iface 29 (.int .i64 k)]) ∧ w'.cell? ⟨q, 0, none⟩ = some (pK g0) ∧ w'.cell? ⟨q, 1, none⟩ = some (pK g1)) ∧ Below w.heap.size w w' := by
  have hmk : ∀ (t : TypeId) (w : World), (Instr.makeMap t none).run Tryd.prog w = .ok (.map (some w.heap.size)) (w.alloc (.map #[] 0)) := fun _ _ => rfl
  obtain ⟨i0, hi0, hz0, hz1, hz2⟩ := info_parts ptr_info
  have hA := assertConc
  have hAK := assertConcK
  have hgl0 := hg0.lt
  have hgl1 := hg1.lt
  obtain ⟨W1, hW1⟩ : ∃ W1, W1 = w.alloc (.map #[] 0) := ⟨_, rfl⟩
  have hm1 : W1.heap[w.heap.size]? = some (.map #[] 0) := by rw [hW1]; exact heap_alloc_new w _
  have t1 : Turns [w.heap.size] w W1 := by rw [hW1]; exact (Turns.refl _ w).alloc _
  have l0 := run_lookP W1 w.heap.size #[] 0 (.pointer (some ⟨g0, 0, none⟩)) none hm1 (checkP _ _ _) (findP_nil _ _)
  have s0 := run_store_newP W1 w.heap.size #[] 0 (.pointer (some ⟨g0, 0, none⟩)) (.int .i64 1) hm1 (checkP _ _ _) (findP_nil _ _)
  have t2 := t1.obj w.heap.size (.map (#[].push { key := .pointer (some ⟨g0, 0, none⟩), val := .int .i64 1, born := 0 }) (0 + 1)) (by simp)
  have hm2 := map_set (o' := .map (#[].push { key := .pointer (some ⟨g0, 0, none⟩), val := .int .i64 1, born := 0 }) (0 + 1)) (w := W1) hm1
  obtain ⟨W2, hW2⟩ : ∃ W2, W2 = { W1 with heap := W1.heap.setIfInBounds w.heap.size (.map (#[].push { key := .pointer (some ⟨g0, 0, none⟩), val := .int .i64 1, born := 0 }) (0 + 1)) } := ⟨_, rfl⟩
  have hm2 : W2.heap[w.heap.size]? = some (.map #[⟨.pointer (some ⟨g0, 0, none⟩), .int .i64 1, 0⟩] 1) := by rw [hW2]; exact hm2
  rw [← hW2] at s0 t2
  have h02 := t2.has hg0 (by simp; omega)
  have h12 := t2.has hg1 (by simp; omega)
  have hs2 := t2.size
  have b2 : Below w.heap.size w W2 := t2.toBelow (Nat.le_refl _) (by simp)
  have hml2 := lt_get hm2
  have c03 := h02.cell 4
  simp only [List.getElem?_toArray, List.getElem?_cons_zero, List.getElem?_cons_succ] at c03
  simp only at l0
  have H0 := Lib.hid h02
  have H1 := Lib.hid h12
  have HM2 := Lib.hid hm2
  have HB2 := Lib.hid b2
  have HW1 := Lib.hid hW1
  have HBS : Hid (w.heap.size ≤ (W2.alloc (.cells #[pK g0] 41)).heap.size) := Lib.hid (by simp only [World.size_alloc]; omega)
  have hl02 := h02.lt
  clear hg0 hg1 hm1 t1 t2 h02 h12 hm2 b2 hW1 hW2
  go_enter Tryd.func27, Tryd.ntmps27
  go_wp2_with fail
  rw [← HW1.out]
  refine wp_loop_rounds 2 ?_
  rw [rounds_succ]
  go_wp2_with (at_builtin; refine wpList_append_lies _ rfl _ _ 58 rfl w.heap.size 41 i0 _ 1 8 Tryd.underlying58 hi0 hz0 hz1 hz2 rfl (by decide) (.slice none 0 0) 0 [] rfl (World.ownsRow_nil _ _ _ _) ⟨W2.heap.size, 0, none⟩ 1 1 [pK g0] rfl rfl (World.news_of_block (cs := #[pK g0]) (t := 41) (fr := (0, 0)) (heap_alloc_new W2 _)) (by simp [Value.oneCell']) (by decide) (by unfold maxLen; omega) (by decide) HBS.out _ rfl ?_; intro q1 cap1 w3 hown3 hgrow3 hat3 hlt3; have hown3 : w3.ownsRow w.heap.size 41 1 (.slice (some ⟨q1, 0, none⟩) 1 cap1) 1 [pK g0] := hown3; have HO3 := Lib.hid hown3; have h03 := (H0.out.alloc (.cells #[pK g0] 41)).grown hgrow3 (by simp [Value.ownBlock]); have h13 := (H1.out.alloc (.cells #[pK g0] 41)).grown hgrow3 (by simp [Value.ownBlock]); have hb3 := (HB2.out.alloc (by have := HBS.out; simp at this; omega) (.cells #[pK g0] 41)).grown hgrow3 HBS.out (fun k hk => by cases hk); have hm3 : w3.heap[w.heap.size]? = some (.map #[⟨.pointer (some ⟨g0, 0, none⟩), .int .i64 1, 0⟩] 1) := (hgrow3.block w.heap.size (by have := lt_get HM2.out; simp; omega) (by simp [Value.ownBlock])).trans ((Lib.alloc_old W2 _ w.heap.size (lt_get HM2.out)).trans HM2.out); have e04 := h03.cell 4; have HH0 := Lib.hid h03; have HH1 := Lib.hid h13; have HM3 := Lib.hid hm3; have HB3 := Lib.hid hb3; simp only [List.getElem?_toArray, List.getElem?_cons_zero, List.getElem?_cons_succ] at e04; clear hown3 hgrow3 hat3 hlt3 h03 h13 hb3 hm3)
  have h0 := HH0.out
  have h1 := HH1.out
  have l1 := run_lookP w3 w.heap.size _ 1 (.pointer (some ⟨g1, 0, none⟩)) none HM3.out (checkP _ _ _) (findP_one g1 g0 _ _ _ _ _ (Ne.symm hne) h1 h0)
  have s1 := run_store_newP w3 w.heap.size _ 1 (.pointer (some ⟨g1, 0, none⟩)) (.int .i64 1) HM3.out (checkP _ _ _) (findP_one g1 g0 _ _ _ _ _ (Ne.symm hne) h1 h0)
  have t4 := (Turns.refl [w.heap.size] w3).obj w.heap.size (.map (#[({ key := .pointer (some ⟨g0, 0, none⟩), val := .int .i64 1, born := 0 } : MapEntry)].push { key := .pointer (some ⟨g1, 0, none⟩), val := .int .i64 1, born := 1 }) (1 + 1)) (by simp)
  obtain ⟨W4, hW4⟩ : ∃ W4, W4 = { w3 with heap := w3.heap.setIfInBounds w.heap.size (.map (#[({ key := .pointer (some ⟨g0, 0, none⟩), val := .int .i64 1, born := 0 } : MapEntry)].push { key := .pointer (some ⟨g1, 0, none⟩), val := .int .i64 1, born := 1 }) (1 + 1)) } := ⟨_, rfl⟩
  rw [← hW4] at s1 t4
  have h14 := t4.has h1 (by simp; omega)
  have b4 : Below w.heap.size w W4 := HB3.out.trans (t4.toBelow HB3.out.size (by simp))
  have o4 := owns_turns HO3.out t4 (by intro i hi; simp at hi; subst hi; exact not_type_map HM3.out)
  have hs4 := t4.size
  have hz3 := HB3.out.size
  have HB4 := Lib.hid b4
  have HO4 := Lib.hid o4
  have H14 := Lib.hid h14
  have hl14 := h14.lt
  have HBS4 : Hid (w.heap.size ≤ (W4.alloc (.cells #[pK g1] 41)).heap.size) := Lib.hid (by simp only [World.size_alloc]; omega)
  simp only at l1
  clear h0 h1 t4 b4 o4 h14 hW4 HH0 HH1 HM3 HB3 HO3 H0 H1 HM2 HB2 HBS l0 s0 c03 e04
  rw [rounds_succ]
  go_wp2_with (at_builtin; refine wpList_append_lies _ rfl _ _ 58 rfl w.heap.size 41 i0 _ 1 8 Tryd.underlying58 hi0 hz0 hz1 hz2 rfl (by decide) _ _ _ rfl (HO4.out.alloc _) ⟨W4.heap.size, 0, none⟩ 1 1 [pK g1] rfl rfl (World.news_of_block (cs := #[pK g1]) (t := 41) (fr := (0, 0)) (heap_alloc_new W4 _)) (by simp [Value.oneCell']) (by decide) (by unfold maxLen; omega) (by decide) HBS4.out _ rfl ?_; intro q2 cap2 w5 hown5 hgrow5 hat5 hlt5; have hown5 : w5.ownsRow w.heap.size 41 1 (.slice (some ⟨q2, 0, none⟩) 2 cap2) 2 [pK g0, pK g1] := hown5; have HO5 := Lib.hid hown5; have h15 := (H14.out.alloc (.cells #[pK g1] 41)).grown hgrow5 (fun e => by have := (HO4.out.lt g1 e.symm).1; omega); have hb5 := (HB4.out.alloc (by have := HBS4.out; simp at this; omega) (.cells #[pK g1] 41)).grown hgrow5 HBS4.out (fun k hk => (HO4.out.lt k hk).1); have e14 := h15.cell 4; have HB5 := Lib.hid hb5; simp only [List.getElem?_toArray, List.getElem?_cons_zero, List.getElem?_cons_succ] at e14; clear hown5 hgrow5 hat5 hlt5 h15 hb5)
  refine (surveyK k w5).mono ?_
  rintro e w6 ⟨S, m, parts, rfl, hS, hb6⟩
  have d3 := hS.cell 3
  have hgl5 : g1 < w5.heap.size := Nat.lt_of_lt_of_le hgl1 HB5.out.size
  have e14' := (hb6.cell (p := ⟨g1, 4, none⟩) hgl5).trans e14
  simp only [List.getElem?_toArray, List.getElem?_cons_zero, List.getElem?_cons_succ] at d3
  have HO6 := Lib.hid (owns_below HO5.out hb6)
  have HB6 := Lib.hid (HB5.out.trans (hb6.mono HB5.out.size))
  clear hS hb6 e14
  go_wp2_with fail
  go_ret2
  have hc := HO6.out.cells (g := q2) rfl
  have v0 := hc 0 _ rfl
  have v1 := hc 1 _ rfl
  simp only [add_plain, Nat.zero_add] at v0 v1
  exact ⟨⟨q2, cap2, rfl, v0, v1⟩, HB6.out⟩
end Go.Proofs.YtboeobgkepdabaaDoor.ft
