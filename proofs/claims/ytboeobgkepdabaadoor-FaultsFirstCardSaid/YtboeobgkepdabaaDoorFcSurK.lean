/-
  newSurvey at the chain K.
-/
import Derived.Test.YtboeobgkepdabaaDoorFtBack
import Derived.Test.YtboeobgkepdabaaDoorFcNS
import Derived.Test.YtboeobgkepdabaaDoorFtSurvey
namespace Go.Proofs.YtboeobgkepdabaaDoor.ft
open Go.ChangeShapes Go.WideShapes Go.ChangeAt Go.RowKit Go.Extern.Stop Go.Stop Go.Extern Go.Shelf
open Go.Proofs.YtboeobgkepdabaaDoor.lx (Has)
set_option linter.unusedVariables false
attribute [local go_sem] Oper.semAt_some

set_option maxRecDepth 100000 in
set_option maxHeartbeats 16000000 in
theorem surveyK (k : Int) (w : World) :
    Calls Tryd.prog 31 #[.iface 29 (.int .i64 k)] w fun e w' => ∃ S m parts, e = .returned (.pointer (some ⟨S, 0, none⟩)) ∧ Has w' S 70 #[.map (some m), .int .i64 0, parts, .bool false] ∧ Below w.heap.size w w' := by
  have hmf : ∀ (fn : Fn) (first cap : Array Value) (w : World), (Instr.makeFunc fn first cap).run Tryd.prog w = .ok (.func fn first cap) w := fun _ _ _ _ => rfl
  have hmk : ∀ (t : TypeId) (w : World), (Instr.makeMap t none).run Tryd.prog w = .ok (.map (some w.heap.size)) (w.alloc (.map #[] 0)) := fun _ _ => rfl
  obtain ⟨i0, hi0, hz0, hz1, hz2⟩ := info_parts visit_info
  refine (callsIn_wide (n := 10)).1 ?_
  refine callsIn_of_wp_marks Tryd.func31 rfl trivial ?_ rfl
  simp only [Tryd.ntmps31, List.size_toArray, List.length_cons, List.length_nil, Nat.reduceAdd, Nat.reduceSub, Array.replicate_succ, Array.replicate_zero, List.push_toArray, List.append_toArray, List.nil_append, List.cons_append]
  gi_wp2
  refine wpIn_loop_rounds 3 ?_
  rw [roundsIn_succ]
  gi_wp2
  refine ⟨trivial, ?_⟩
  obtain ⟨W0, hW0⟩ : ∃ W0, W0 = w6 w (.iface 29 (.int .i64 k)) := ⟨_, rfl⟩
  obtain ⟨hpop, h5n⟩ := ns_start w (.iface 29 (.int .i64 k))
  rw [show ((((((w.alloc (.map #[] 0)).alloc (.cells #[.map (some w.heap.size), .int .i64 0, .slice none 0 0, .bool false] 70)).alloc (.cells #[.pointer (some ⟨w.heap.size + 1, 0, none⟩)] 66)).alloc
    (.cells #[.iface 29 (.int .i64 k), .bool false] 82)).alloc (.cells #[.slice (some ⟨w.heap.size + 1 + 1 + 1, 0, none⟩) 0 1] 83)).alloc (.cells #[.iface 29 (.int .i64 k), .bool false] 82)) = W0 from hW0.symm]
  rw [← hW0] at hpop h5n
  clear hW0
  refine (callsIn_wide.2 (enters_newA (w.heap.size + 1) w.heap.size 0 0 #[] 29 (.int .i64 k) (.slice none 0 0) W0 hpop.hS hpop.hm (fun b W => checkK b k W) (fun W ht => find_nil _ W) (fun W ht => find_yes (.iface 29 (.int .i64 k)) W [] ⟨.iface 29 (.int .i64 k), .int .i64 1, 0⟩ [] (eqKK k W) (fun z hz => by simp at hz)))).mono ?_
  rintro e WE0 ⟨rfl, hS9, hm9, ht9⟩
  have ns9 := hpop.map ht9 hm9
  have h59 := ht9.has h5n (by simpa using (map_has hpop.hm h5n).symm)
  clear hpop h5n hS9 hm9 ht9
  have c4 := ns9.h4.cell 0
  have f4 := ns9.h4.free 0
  have c5 := h59.cell 0
  have c3 := ns9.h3.cell 0
  simp only [List.getElem?_toArray, List.getElem?_cons_zero] at c3 c4 c5
  have NS9 := Lib.hid ns9
  have H59 := Lib.hid h59
  have hsz9 := ns9.low.size
  clear ns9 h59
  gi_wp2_with (gi_at_builtin; refine wpListIn_append_own _ rfl _ _ 83 rfl w.heap.size 82 i0 _ 2 24 Tryd.underlying83 hi0 hz0 hz1 hz2 rfl (by decide) _ _ _ rfl (NS9.out.own.alloc _) ⟨WE0.heap.size, 0, none⟩ 1 1 [.iface 29 (.int .i64 k), .bool true] rfl rfl ?c1 ?c2 ?c3 ?c4 ?c5 ?_)
  case c1 =>
    intro j u hj
    match j, hj with
    | 0, hj => simp at hj; subst hj; simp [Addr.add]
    | 1, hj => simp at hj; subst hj; simp [Addr.add]
  case c2 => intro u hu; simp at hu; rcases hu with rfl | rfl <;> rfl
  case c3 => unfold maxLen; omega
  case c4 => omega
  case c5 => simp; omega
  intro v' WA0 hownA hgrowA _
  obtain ⟨gA0, capA0, hvA, hbgA0, hltA0⟩ := World.ownsRow.form hownA (by omega)
  subst hvA
  have n9a := NS9.out.alloc (.cells #[.iface 29 (.int .i64 k), .bool true] 82)
  have h4w := n9a.far hgrowA n9a.h4 (by decide)
  have nsB0 := n9a.grown hgrowA hownA
  have hne5 : some (w.heap.size + 1 + 1 + 1 + 1 + 1) ≠ (Value.slice (some ⟨w.heap.size + 1 + 1 + 1, 0, none⟩) 0 1).ownBlock := by simp [Value.ownBlock]; omega
  have h5B0 := ((H59.out.alloc (.cells #[.iface 29 (.int .i64 k), .bool true] 82)).grown hgrowA hne5).put_far 0 (.slice (some ⟨gA0, 0, none⟩) (0 + 1) capA0) (ne_types H59.out NS9.out.h4 (by decide))
  obtain ⟨WB0, hWB⟩ : ∃ W, W = WA0.setCell ⟨w.heap.size + 1 + 1 + 1 + 1, 0, none⟩ (.slice (some ⟨gA0, 0, none⟩) 1 capA0) := ⟨_, rfl⟩
  have nsB : NS w (w.heap.size + 1) w.heap.size (w.heap.size + 1 + 1) (w.heap.size + 1 + 1 + 1 + 1) (.slice none 0 0) 0 [] (.slice (some ⟨gA0, 0, none⟩) 1 capA0) 1 [.iface 29 (.int .i64 k), .bool true] #[⟨.iface 29 (.int .i64 k), .int .i64 1, 0⟩] 1 WB0 := by rw [hWB]; exact nsB0
  have h5B : Has WB0 (w.heap.size + 1 + 1 + 1 + 1 + 1) 82 #[.iface 29 (.int .i64 k), .bool false] := by rw [hWB]; exact h5B0
  have d4 := h4w.cell 0
  have e4 := h4w.free 0
  have d3 := nsB.h3.cell 0
  have d5 := h5B.cell 0
  simp only [List.getElem?_toArray, List.getElem?_cons_zero] at d3 d4 d5
  rw [hWB] at d3 d5
  have NSB := Lib.hid nsB
  have HWB := Lib.hid hWB
  clear n9a h4w nsB0 h5B0 hgrowA hownA c3 c4 c5 f4 nsB h5B hWB
  gi_wp2
  refine ⟨trivial, ?_⟩
  rw [← HWB.out]
  clear d3 d4 d5 e4 HWB NS9 H59
  refine (callsIn_wide.2 (take_k (w.heap.size + 1) w.heap.size w.heap.size 0 k (.slice none 0 0) [] WB0 NSB.out.hS NSB.out.po (by decide) NSB.out.low.size)).mono ?_
  rintro e WT0 ⟨parts0, us0, rfl, hS', hown', ht'⟩
  have nsT := NSB.out.tookR ht' hS' hown'
  have NST := Lib.hid nsT
  clear nsT hS' hown' ht' NSB
  gi_wp2
  refine ⟨trivial, ?_⟩
  refine (callsIn_wide.2 (backward none 0 0 WT0)).mono ?_
  rintro e WX ⟨rfl, rfl⟩
  gi_wp2
  have hml0 : w.heap.size < (WT0.alloc (.cells #[.slice none 0 0] 47)).heap.size := by have := lt_get NST.out.hm; simp; omega
  have hcb : (WT0.alloc (.cells #[.slice none 0 0] 47)).cell? ⟨WT0.heap.size, 0, none⟩ = some (.slice none 0 0) := (Has.new WT0 47 #[.slice none 0 0]).cell 0
  have nsL := NST.out.alloc (.cells #[.slice none 0 0] 47)
  obtain ⟨WL0, hWL⟩ : ∃ W, W = WT0.alloc (.cells #[.slice none 0 0] 47) := ⟨_, rfl⟩
  rw [← hWL] at hml0 hcb nsL ⊢
  have NSL := Lib.hid nsL
  clear nsL hWL NST
  refine wpIn_rangeFunc_ownG (α := Unit) rfl (by omega) (gf := 50) (lb := #[.pointer (some ⟨WT0.heap.size, 0, none⟩)]) rfl trivial (enters_of Tryd.func50 (by kernel_rfl) rfl)
    (none_stops 9 WT0.heap.size WL0 hcb (fun _ => #[.int .i64 0, .iface 29 (.int .i64 k)])) (fun _ _ => trivial) (fun _ _ _ _ _ _ _ _ => trivial) (Below.refl _ _) (fun _ => rfl)
    (fun pre W => NS w (w.heap.size + 1) w.heap.size (w.heap.size + 1 + 1) (w.heap.size + 1 + 1 + 1 + 1) (parts0) 1 us0 (.slice (some ⟨gA0, 0, none⟩) 1 capA0) 1 [.iface 29 (.int .i64 k), .bool true] #[⟨.iface 29 (.int .i64 k), .int .i64 1, 0⟩] 1 W)
    (fun _ _ _ => False) ?hI0 (fun _ _ _ _ _ hs _ _ => hs) NSL.out ?a0 ?assign0 ?body0 ?done0 ?stop0
  case hI0 =>
    rintro pre X X' row hs hg hr
    exact hs.abides hml0 (Nat.le_of_lt hml0) hg hr
  case assign0 =>
    intro l x W K hK
    gi_wp2
    exact hK
  case body0 =>
    intro l pre x W _ hlt
    exact absurd hlt (Nat.not_lt_zero _)
  case stop0 => intro D c pre W _ _ h _; exact h.elim
  case done0 =>
    rintro D0 xs W7_0 hD0 rfl hs hK
    have qD0 : Mark W7_0 D0 := hK
    clear hK
    have c4 := hs.h4.cell 0
    have f4 := hs.h4.free 0
    have c3 := hs.h3.cell 0
    have v2 := World.ownsRow.cells hs.own (g := gA0) rfl 0 (.iface 29 (.int .i64 k)) rfl
    have v3 := World.ownsRow.cells hs.own (g := gA0) rfl 1 (.bool true) rfl
    simp only [List.getElem?_toArray, List.getElem?_cons_zero] at c4 c3
    simp only [add_plain, Nat.zero_add] at v2 v3
    have hcp : 1 ≤ capA0 := by
      rcases hs.own.2 with ⟨h, _⟩ | ⟨g', cap', cur, hv, _, _, hn, _⟩
      · cases h
      · cases hv
        exact hn
    have hgw : gA0 < W7_0.heap.size := (hs.own.lt gA0 rfl).2
    have hl4 := hs.h4.lt
    have hl3 := hs.h3.lt
    have hsz := hs.low.size
    have HS := Lib.hid hs
    have ND0 := Lib.hid qD0
    clear hs qD0
    gi_wp2
    rw [roundsIn_succ]
    gi_wp2
    refine ⟨trivial, ?_⟩
    have hpop := (HS.out.put (ownsRow_pop (xs := []) (last := [.iface 29 (.int .i64 k), .bool true]) (n := 0) rfl HS.out.own)).alloc (.cells #[.iface 29 (.int .i64 k), .bool true] 82)
    have h5n := Has.new (W7_0.setCell ⟨w.heap.size + 1 + 1 + 1 + 1, 0, none⟩ (.slice (some ⟨gA0, 0, none⟩) 0 capA0)) 82 #[.iface 29 (.int .i64 k), .bool true]
    rw [show (W7_0.setCell ⟨w.heap.size + 1 + 1 + 1 + 1, 0, none⟩ (.slice (some ⟨gA0, 0, none⟩) 0 capA0)).heap.size = W7_0.heap.size by simp [World.setCell]] at h5n
    have mD0 := (HS.out.dput ND0.out (.slice (some ⟨gA0, 0, none⟩) 0 capA0)).alloc (.cells #[.iface 29 (.int .i64 k), .bool true] 82)
    obtain ⟨Y8_0, hW8⟩ : ∃ W, W = (W7_0.setCell ⟨w.heap.size + 1 + 1 + 1 + 1, 0, none⟩ (.slice (some ⟨gA0, 0, none⟩) 0 capA0)).alloc (.cells #[.iface 29 (.int .i64 k), .bool true] 82) := ⟨_, rfl⟩
    rw [← hW8] at hpop h5n mD0 ⊢
    have hlY8_0 := h5n.lt
    clear hW8 c3 c4 f4 v2 v3 HS hcp hl4 hl3 hsz ND0
    refine (callsIn_wide.2 (quiet_survey _ _ _ (lit_surveyA (w.heap.size + 1) w.heap.size (w.heap.size + 1 + 1) W7_0.heap.size 0 1 #[⟨.iface 29 (.int .i64 k), .int .i64 1, 0⟩] 29 (.int .i64 k) (.int .i64 1) (parts0) true Y8_0 hpop.h3 h5n hpop.hS hpop.hm (fun b W => checkK b k W) (find_yes (.iface 29 (.int .i64 k)) Y8_0.drew [] ⟨.iface 29 (.int .i64 k), .int .i64 1, 0⟩ [] (eqKK k Y8_0.drew) (fun z hz => by simp at hz)) (bits_kK 9998 k)))).mono ?_
    rintro e Y16_0 ⟨rfl, hme, hte⟩
    have hs : NS w (w.heap.size + 1) w.heap.size (w.heap.size + 1 + 1) (w.heap.size + 1 + 1 + 1 + 1) (parts0) 1 us0 (.slice (some ⟨gA0, 0, none⟩) 0 capA0) 0 [] #[⟨.iface 29 (.int .i64 k), .int .i64 2, 0⟩] 1 Y16_0 := hpop.map hte hme
    have qD0 := hpop.dmap mD0 hte
    clear hpop h5n hme hte mD0
    have c4 := hs.h4.cell 0
    have c3 := hs.h3.cell 0
    simp only [List.getElem?_toArray, List.getElem?_cons_zero] at c4 c3
    have HS := Lib.hid hs
    have ND0 := Lib.hid qD0
    clear hs qD0
    gi_wp2
    rw [roundsIn_succ]
    gi_wp2
    have h1 : Has Y16_0 (w.heap.size + 1) 70 #[.map (some w.heap.size), .int .i64 0, parts0, .bool false] := HS.out.hS
    have lw := HS.out.low
    have hDl0 : w.heap.size ≤ D0 := by omega
    have tk0 : Mark Y16_0 D0 := ND0.out
    have sv0 : Has (Y16_0.putObj D0 (.deferred none)) (w.heap.size + 1) 70 #[.map (some w.heap.size), .int .i64 0, parts0, .bool false] := (World.putObj_heap_other (by intro e; have z : Y16_0.heap[w.heap.size + 1]? = _ := h1; have y : Y16_0.heap[D0]? = _ := tk0; rw [e] at z; rw [y] at z; cases z)).trans h1
    have lw0 := lw.grown (grownBy_putObj' Y16_0 D0 (.deferred none)) lw.size (fun k e => by cases e; exact hDl0)
    refine ⟨by simp, .inl ⟨_, _, rfl, run_takeDeferred tk0, ?_⟩⟩
    exact ⟨_, results_tmp rfl _ _ _, w.heap.size + 1, w.heap.size, parts0, rfl, sv0, lw0⟩
end Go.Proofs.YtboeobgkepdabaaDoor.ft
