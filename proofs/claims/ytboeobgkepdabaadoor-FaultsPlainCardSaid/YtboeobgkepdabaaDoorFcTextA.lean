/-
  The text of an At that bears a name over a Kind.
-/
import Derived.Test.YtboeobgkepdabaaDoorFcText
import Derived.Test.YtboeobgkepdabaaDoorFcPlaceK
import Derived.Deep.AppendLies
namespace Go.Proofs.YtboeobgkepdabaaDoor.ft
open Go.ChangeShapes Go.WideShapes Go.ChangeAt Go.RowKit Go.Extern.Stop Go.Stop Go.Extern
open Go.Proofs.YtboeobgkepdabaaDoor.lx (Has grown_refl grown_put grown_below)
set_option linter.unusedVariables false

set_option maxRecDepth 100000 in
set_option maxHeartbeats 4000000 in
theorem unroll_ak (g0 : Nat) (x0 y0 k : Int) (nm0 : ByteArray) (nd0 : Bool) (w : World)
    (hg0 : Has w g0 50 #[.int .i64 x0, .int .i64 y0, .string nm0, .bool nd0, .iface 29 (.int .i64 k)]) :
    Calls Tryd.prog 27 #[.pointer (some ⟨g0, 0, none⟩)] w fun e w' => (∃ q cap, e = .returned (.tuple #[.slice (some ⟨q, 0, none⟩) 1 cap, .iface 29 (.int .i64 k)]) ∧ w'.cell? ⟨q, 0, none⟩ = some (pK g0)) ∧ Below w.heap.size w w' := by
  have hmk : ∀ (t : TypeId) (w : World), (Instr.makeMap t none).run Tryd.prog w = .ok (.map (some w.heap.size)) (w.alloc (.map #[] 0)) := fun _ _ => rfl
  obtain ⟨i0, hi0, hz0, hz1, hz2⟩ := info_parts ptr_info
  have hA := assertConc
  have hAK := assertConcK
  have hgl0 := hg0.lt
  obtain ⟨W1, hW1⟩ : ∃ W1, W1 = w.alloc (.map #[] 0) := ⟨_, rfl⟩
  have hm1 : W1.heap[w.heap.size]? = some (.map #[] 0) := by rw [hW1]; exact heap_alloc_new w _
  have t1 : Turns [w.heap.size] w W1 := by rw [hW1]; exact (Turns.refl _ w).alloc _
  have l0 := run_lookP W1 w.heap.size #[] 0 (.pointer (some ⟨g0, 0, none⟩)) none hm1 (checkP _ _ _) (findP_nil _ _)
  have s0 := run_store_newP W1 w.heap.size #[] 0 (.pointer (some ⟨g0, 0, none⟩)) (.int .i64 1) hm1 (checkP _ _ _) (findP_nil _ _)
  have t2 := t1.obj w.heap.size (.map (#[].push { key := .pointer (some ⟨g0, 0, none⟩), val := .int .i64 1, born := 0 }) (0 + 1)) (by simp)
  have hm2 := map_set (o' := .map (#[].push { key := .pointer (some ⟨g0, 0, none⟩), val := .int .i64 1, born := 0 }) (0 + 1)) (w := W1) hm1
  obtain ⟨W2, hW2⟩ : ∃ W2, W2 = { W1 with heap := W1.heap.setIfInBounds w.heap.size (.map (#[].push { key := .pointer (some ⟨g0, 0, none⟩), val := .int .i64 1, born := 0 }) (0 + 1)) } := ⟨_, rfl⟩
  have hm2 : W2.heap[w.heap.size]? = some (.map #[⟨.pointer (some ⟨g0, 0, none⟩), .int .i64 1, 0⟩] 1) := by rw [hW2]; exact hm2
  rw [← hW2] at s0 t2
  have h02 := t2.has hg0 (by simp; omega)
  have hs2 := t2.size
  have b2 : Below w.heap.size w W2 := t2.toBelow (Nat.le_refl _) (by simp)
  have hml2 := lt_get hm2
  have c03 := h02.cell 4
  simp only [List.getElem?_toArray, List.getElem?_cons_zero, List.getElem?_cons_succ] at c03
  simp only at l0
  have H0 := Lib.hid h02
  have HM2 := Lib.hid hm2
  have HB2 := Lib.hid b2
  have HW1 := Lib.hid hW1
  have HBS : Hid (w.heap.size ≤ (W2.alloc (.cells #[pK g0] 41)).heap.size) := Lib.hid (by simp only [World.size_alloc]; omega)
  have hl02 := h02.lt
  clear hg0 hm1 t1 t2 h02 hm2 b2 hW1 hW2
  go_enter Tryd.func27, Tryd.ntmps27
  go_wp2_with fail
  rw [← HW1.out]
  refine wp_loop_rounds 1 ?_
  rw [rounds_succ]
  go_wp2_with (at_builtin; refine wpList_append_lies _ rfl _ _ 58 rfl w.heap.size 41 i0 _ 1 8 Tryd.underlying58 hi0 hz0 hz1 hz2 rfl (by decide) (.slice none 0 0) 0 [] rfl (World.ownsRow_nil _ _ _ _) ⟨W2.heap.size, 0, none⟩ 1 1 [pK g0] rfl rfl (World.news_of_block (cs := #[pK g0]) (t := 41) (fr := (0, 0)) (heap_alloc_new W2 _)) (by simp [Value.oneCell']) (by decide) (by unfold maxLen; omega) (by decide) HBS.out _ rfl ?_; intro q1 cap1 w3 hown3 hgrow3 hat3 hlt3; have hown3 : w3.ownsRow w.heap.size 41 1 (.slice (some ⟨q1, 0, none⟩) 1 cap1) 1 [pK g0] := hown3; have HO3 := Lib.hid hown3; have h03 := (H0.out.alloc (.cells #[pK g0] 41)).grown hgrow3 (by simp [Value.ownBlock]); have hb3 := (HB2.out.alloc (by have := HBS.out; simp at this; omega) (.cells #[pK g0] 41)).grown hgrow3 HBS.out (fun k hk => by cases hk); have hm3 : w3.heap[w.heap.size]? = some (.map #[⟨.pointer (some ⟨g0, 0, none⟩), .int .i64 1, 0⟩] 1) := (hgrow3.block w.heap.size (by have := lt_get HM2.out; simp; omega) (by simp [Value.ownBlock])).trans ((Lib.alloc_old W2 _ w.heap.size (lt_get HM2.out)).trans HM2.out); have e04 := h03.cell 4; have HH0 := Lib.hid h03; have HM3 := Lib.hid hm3; have HB3 := Lib.hid hb3; simp only [List.getElem?_toArray, List.getElem?_cons_zero, List.getElem?_cons_succ] at e04; clear hown3 hgrow3 hat3 hlt3 h03 hb3 hm3)
  refine (surveyK k w3).mono ?_
  rintro e w6 ⟨S, m, parts, rfl, hS, hb6⟩
  have d3 := hS.cell 3
  have hgl5 : g0 < w3.heap.size := Nat.lt_of_lt_of_le hgl0 HB3.out.size
  have e14' := (hb6.cell (p := ⟨g0, 4, none⟩) hgl5).trans e04
  simp only [List.getElem?_toArray, List.getElem?_cons_zero, List.getElem?_cons_succ] at d3
  have HO6 := Lib.hid (owns_below HO3.out hb6)
  have HB6 := Lib.hid (HB3.out.trans (hb6.mono HB3.out.size))
  clear hS hb6 e04
  go_wp2_with fail
  go_ret2
  have hc := HO6.out.cells (g := q1) rfl
  have v0 := hc 0 _ rfl
  simp only [add_plain, Nat.zero_add] at v0
  exact ⟨⟨q1, cap1, rfl, v0⟩, HB6.out⟩

/-- the text -/
def txtA (nm : ByteArray) (k : Int) : ByteArray := ⟨(inS.data.toList ++ (nm.data.toList ++ (colS.data.toList ++ (kwS k).data.toList))).toArray⟩

set_option maxRecDepth 100000 in
set_option maxHeartbeats 4000000 in
theorem error_ak (g0 : Nat) (x0 y0 k : Int) (nm0 : ByteArray) (w : World) (hz : nm0.size ≤ 300) (h1 : 1 ≤ k) (h2 : k ≤ 12)
    (hg0 : Has w g0 50 #[.int .i64 x0, .int .i64 y0, .string nm0, .bool true, .iface 29 (.int .i64 k)]) :
    Calls Tryd.prog 19 #[.pointer (some ⟨g0, 0, none⟩)] w fun e w' => e = .returned (.string (txtA nm0 k)) ∧ Below w.heap.size w w' := by
  have HU := Lib.hid (unroll_ak g0 x0 y0 k nm0 true w hg0)
  have HG0 := Lib.hid hg0
  have hgl0 := hg0.lt
  clear hg0
  go_enter Tryd.func19, Tryd.ntmps19
  go_wp2_with fail
  refine HU.out.mono ?_
  rintro e w1 ⟨⟨q, cap, rfl, v0⟩, hb1⟩
  have hs1 := hb1.size
  have hq := World.block_lt_of_cell? w1 _ v0
  have hq : q < w1.heap.size := hq
  have HB1 := Lib.hid hb1
  have V0 := Lib.hid v0
  have S0 := Lib.hid (show WB w1 [] (w1.alloc (.cells #[.pointer none, .slice none 0 0] 63)) from ⟨Lib.fresh_isBuilder _ _ w1, (Below.refl _ w1).alloc (Nat.le_refl _) _⟩)
  have HC : Hid (∀ l W, WB w1 l W → W.cell? ⟨q, 0, none⟩ = some (pK g0) ∧ q < W.heap.size) := Lib.hid (fun l W h => ⟨(h.2.cell (p := ⟨q, 0, none⟩) hq).trans V0.out, Nat.lt_of_lt_of_le hq h.2.size⟩)
  have HA0 : Hid (∀ l W, WB w1 l W → Has W g0 50 #[.int .i64 x0, .int .i64 y0, .string nm0, .bool true, .iface 29 (.int .i64 k)]) := Lib.hid (fun l W h => (HG0.out.below HB1.out hgl0).below h.2 (Nat.lt_of_lt_of_le hgl0 hs1))
  have hkz := kwS_size k
  have hcz : colS.size = 2 := rfl
  have hls : (inS ++ nm0).size ≤ 303 := by rw [ByteArray.size_append]; show 3 + nm0.size ≤ 303; omega
  obtain ⟨c0, c2⟩ := HC.out _ _ S0.out
  clear hb1 v0 HU V0 HG0
  go_wp2_with fail
  refine wp_loop_rounds 2 ?_
  rw [rounds_succ]
  go_wp2_with fail
  refine (head_named g0 x0 y0 nm0 _ _ hz (HA0.out _ _ S0.out)).mono ?_
  rintro e w2 ⟨rfl, rfl⟩
  clear c0 c2
  go_wp2_with fail
  refine (S0.out.write (inS ++ nm0) (by simp only [List.length_nil]; omega)).mono ?_
  rintro e w3 ⟨rfl, hw3⟩
  rw [List.nil_append] at hw3
  have S3 := Lib.hid hw3
  clear hw3 S0
  go_wp2_with fail
  rw [rounds_succ]
  go_wp2_with fail
  refine (S3.out.write colS (by simp only [blen]; omega)).mono ?_
  rintro e w7 ⟨rfl, hw7⟩
  have S7 := Lib.hid hw7
  clear hw7 S3
  go_wp2_with fail
  refine (told_k k (kwS k) w7 (fun W _ => word_k k h1 h2 W)).mono ?_
  rintro e w8 ⟨rfl, hb8⟩
  have S8 := Lib.hid (S7.out.below hb8)
  clear hb8 S7
  go_wp2_with fail
  refine (S8.out.write (kwS k) (by simp only [List.length_append, blen]; omega)).mono ?_
  rintro e w9 ⟨rfl, hw9⟩
  have S9 := Lib.hid hw9
  clear hw9 S8
  go_wp2_with fail
  refine S9.out.string.mono ?_
  rintro e w10 ⟨rfl, hb10⟩
  have HB10 := Lib.hid (HB1.out.trans (hb10.mono hs1))
  clear hb10 S9
  go_wp2_with fail
  go_ret
  exact ⟨rfl, HB10.out⟩

end Go.Proofs.YtboeobgkepdabaaDoor.ft
