/-
  newSurvey at the chain AAK.
-/
import Derived.Test.YtboeobgkepdabaaDoorFtBack
import Derived.Test.YtboeobgkepdabaaDoorFcNS
import Derived.Test.YtboeobgkepdabaaDoorFtSurvey
namespace Go.Proofs.YtboeobgkepdabaaDoor.ft
open Go.ChangeShapes Go.WideShapes Go.ChangeAt Go.RowKit Go.Extern.Stop Go.Stop Go.Extern Go.Shelf
open Go.Proofs.YtboeobgkepdabaaDoor.lx (Has)
set_option linter.unusedVariables false
attribute [local go_sem] Oper.semAt_some

set_option maxRecDepth 100000 in
set_option maxHeartbeats 16000000 in
theorem surveyAAK (g0 : Nat) (x0 y0 : Int) (nm0 : ByteArray) (nd0 : Bool) (g1 : Nat) (x1 y1 : Int) (nm1 : ByteArray) (nd1 : Bool) (k : Int) (w : World) (hg0 : Has w g0 50 #[.int .i64 x0, .int .i64 y0, .string nm0, .bool nd0, .iface 41 (.pointer (some ⟨g1, 0, none⟩))]) (hg1 : Has w g1 50 #[.int .i64 x1, .int .i64 y1, .string nm1, .bool nd1, .iface 29 (.int .i64 k)]) (hne01 : g0 ≠ g1) :
    Calls Tryd.prog 31 #[.iface 41 (.pointer (some ⟨g0, 0, none⟩))] w fun e w' => ∃ S m parts, e = .returned (.pointer (some ⟨S, 0, none⟩)) ∧ Has w' S 70 #[.map (some m), .int .i64 0, parts, .bool false] ∧ Below w.heap.size w w' := by
  have hmf : ∀ (fn : Fn) (first cap : Array Value) (w : World), (Instr.makeFunc fn first cap).run Tryd.prog w = .ok (.func fn first cap) w := fun _ _ _ _ => rfl
  have hmk : ∀ (t : TypeId) (w : World), (Instr.makeMap t none).run Tryd.prog w = .ok (.map (some w.heap.size)) (w.alloc (.map #[] 0)) := fun _ _ => rfl
  obtain ⟨i0, hi0, hz0, hz1, hz2⟩ := info_parts visit_info
  have HG0 := Lib.hid hg0
  have HG1 := Lib.hid hg1
  have hgl0 := hg0.lt
  have hgl1 := hg1.lt
  clear hg0 hg1
  refine (callsIn_wide (n := 10)).1 ?_
  refine callsIn_of_wp_marks Tryd.func31 rfl trivial ?_ rfl
  simp only [Tryd.ntmps31, List.size_toArray, List.length_cons, List.length_nil, Nat.reduceAdd, Nat.reduceSub, Array.replicate_succ, Array.replicate_zero, List.push_toArray, List.append_toArray, List.nil_append, List.cons_append]
  gi_wp2
  refine wpIn_loop_rounds 7 ?_
  rw [roundsIn_succ]
  gi_wp2
  refine ⟨trivial, ?_⟩
  obtain ⟨W0, hW0⟩ : ∃ W0, W0 = w6 w (.iface 41 (.pointer (some ⟨g0, 0, none⟩))) := ⟨_, rfl⟩
  obtain ⟨hpop, h5n⟩ := ns_start w (.iface 41 (.pointer (some ⟨g0, 0, none⟩)))
  rw [show ((((((w.alloc (.map #[] 0)).alloc (.cells #[.map (some w.heap.size), .int .i64 0, .slice none 0 0, .bool false] 70)).alloc (.cells #[.pointer (some ⟨w.heap.size + 1, 0, none⟩)] 66)).alloc
    (.cells #[.iface 41 (.pointer (some ⟨g0, 0, none⟩)), .bool false] 82)).alloc (.cells #[.slice (some ⟨w.heap.size + 1 + 1 + 1, 0, none⟩) 0 1] 83)).alloc (.cells #[.iface 41 (.pointer (some ⟨g0, 0, none⟩)), .bool false] 82)) = W0 from hW0.symm]
  rw [← hW0] at hpop h5n
  clear hW0
  refine (callsIn_wide.2 (enters_newA (w.heap.size + 1) w.heap.size 0 0 #[] 41 (.pointer (some ⟨g0, 0, none⟩)) (.slice none 0 0) W0 hpop.hS hpop.hm (fun b W => checkA b g0 W) (fun W ht => find_nil _ W) (fun W ht => find_yes (.iface 41 (.pointer (some ⟨g0, 0, none⟩))) W [] ⟨.iface 41 (.pointer (some ⟨g0, 0, none⟩)), .int .i64 1, 0⟩ [] (eqAA g0 W) (fun z hz => by simp at hz)))).mono ?_
  rintro e WE0 ⟨rfl, hS9, hm9, ht9⟩
  have ns9 := hpop.map ht9 hm9
  have h59 := ht9.has h5n (by simpa using (map_has hpop.hm h5n).symm)
  clear hpop h5n hS9 hm9 ht9
  have c4 := ns9.h4.cell 0
  have f4 := ns9.h4.free 0
  have c5 := h59.cell 0
  have c3 := ns9.h3.cell 0
  simp only [List.getElem?_toArray, List.getElem?_cons_zero] at c3 c4 c5
  have NS9 := Lib.hid ns9
  have H59 := Lib.hid h59
  have hsz9 := ns9.low.size
  clear ns9 h59
  gi_wp2_with (gi_at_builtin; refine wpListIn_append_own _ rfl _ _ 83 rfl w.heap.size 82 i0 _ 2 24 Tryd.underlying83 hi0 hz0 hz1 hz2 rfl (by decide) _ _ _ rfl (NS9.out.own.alloc _) ⟨WE0.heap.size, 0, none⟩ 1 1 [.iface 41 (.pointer (some ⟨g0, 0, none⟩)), .bool true] rfl rfl ?c1 ?c2 ?c3 ?c4 ?c5 ?_)
  case c1 =>
    intro j u hj
    match j, hj with
    | 0, hj => simp at hj; subst hj; simp [Addr.add]
    | 1, hj => simp at hj; subst hj; simp [Addr.add]
  case c2 => intro u hu; simp at hu; rcases hu with rfl | rfl <;> rfl
  case c3 => unfold maxLen; omega
  case c4 => omega
  case c5 => simp; omega
  intro v' WA0 hownA hgrowA _
  obtain ⟨gA0, capA0, hvA, hbgA0, hltA0⟩ := World.ownsRow.form hownA (by omega)
  subst hvA
  have n9a := NS9.out.alloc (.cells #[.iface 41 (.pointer (some ⟨g0, 0, none⟩)), .bool true] 82)
  have h4w := n9a.far hgrowA n9a.h4 (by decide)
  have nsB0 := n9a.grown hgrowA hownA
  have hne5 : some (w.heap.size + 1 + 1 + 1 + 1 + 1) ≠ (Value.slice (some ⟨w.heap.size + 1 + 1 + 1, 0, none⟩) 0 1).ownBlock := by simp [Value.ownBlock]; omega
  have h5B0 := ((H59.out.alloc (.cells #[.iface 41 (.pointer (some ⟨g0, 0, none⟩)), .bool true] 82)).grown hgrowA hne5).put_far 0 (.slice (some ⟨gA0, 0, none⟩) (0 + 1) capA0) (ne_types H59.out NS9.out.h4 (by decide))
  obtain ⟨WB0, hWB⟩ : ∃ W, W = WA0.setCell ⟨w.heap.size + 1 + 1 + 1 + 1, 0, none⟩ (.slice (some ⟨gA0, 0, none⟩) 1 capA0) := ⟨_, rfl⟩
  have nsB : NS w (w.heap.size + 1) w.heap.size (w.heap.size + 1 + 1) (w.heap.size + 1 + 1 + 1 + 1) (.slice none 0 0) 0 [] (.slice (some ⟨gA0, 0, none⟩) 1 capA0) 1 [.iface 41 (.pointer (some ⟨g0, 0, none⟩)), .bool true] #[⟨.iface 41 (.pointer (some ⟨g0, 0, none⟩)), .int .i64 1, 0⟩] 1 WB0 := by rw [hWB]; exact nsB0
  have h5B : Has WB0 (w.heap.size + 1 + 1 + 1 + 1 + 1) 82 #[.iface 41 (.pointer (some ⟨g0, 0, none⟩)), .bool false] := by rw [hWB]; exact h5B0
  have d4 := h4w.cell 0
  have e4 := h4w.free 0
  have d3 := nsB.h3.cell 0
  have d5 := h5B.cell 0
  simp only [List.getElem?_toArray, List.getElem?_cons_zero] at d3 d4 d5
  rw [hWB] at d3 d5
  have NSB := Lib.hid nsB
  have HWB := Lib.hid hWB
  clear n9a h4w nsB0 h5B0 hgrowA hownA c3 c4 c5 f4 nsB h5B hWB
  gi_wp2
  refine ⟨trivial, ?_⟩
  rw [← HWB.out]
  clear d3 d4 d5 e4 HWB NS9 H59
  refine (callsIn_wide.2 (take_c (w.heap.size + 1) w.heap.size g0 w.heap.size 0 x0 y0 nm0 nd0 41 (.pointer (some ⟨g1, 0, none⟩)) (.slice none 0 0) [] WB0 NSB.out.hS NSB.out.po (by decide) (HG0.out.below NSB.out.low hgl0) NSB.out.low.size)).mono ?_
  rintro e WT0 ⟨r0, parts0, us0, rfl, hr, hrb, hpr0, hS', hown', ht'⟩
  have nsT := NSB.out.tookR ht' hS' hown'
  have NST := Lib.hid nsT
  have HR := Lib.hid hr
  have hrl0 : w.heap.size ≤ r0 := Nat.le_trans NSB.out.low.size hrb
  clear nsT hS' hown' ht' NSB hr hrb
  gi_wp2
  refine ⟨trivial, ?_⟩
  refine (callsIn_wide.2 (backward (some ⟨r0, 0, none⟩) 1 1 WT0)).mono ?_
  rintro e WX ⟨rfl, rfl⟩
  gi_wp2
  have hml0 : w.heap.size < (WT0.alloc (.cells #[.slice (some ⟨r0, 0, none⟩) 1 1] 47)).heap.size := by have := lt_get NST.out.hm; simp; omega
  have hcb : (WT0.alloc (.cells #[.slice (some ⟨r0, 0, none⟩) 1 1] 47)).cell? ⟨WT0.heap.size, 0, none⟩ = some (.slice (some ⟨r0, 0, none⟩) 1 1) := (Has.new WT0 47 #[.slice (some ⟨r0, 0, none⟩) 1 1]).cell 0
  have hcr : (WT0.alloc (.cells #[.slice (some ⟨r0, 0, none⟩) 1 1] 47)).cell? ⟨r0, 0, none⟩ = some (.iface 41 (.pointer (some ⟨g1, 0, none⟩))) := (HR.out.alloc (.cells #[.slice (some ⟨r0, 0, none⟩) 1 1] 47)).cell 0
  have nsL := NST.out.alloc (.cells #[.slice (some ⟨r0, 0, none⟩) 1 1] 47)
  obtain ⟨WL0, hWL⟩ : ∃ W, W = WT0.alloc (.cells #[.slice (some ⟨r0, 0, none⟩) 1 1] 47) := ⟨_, rfl⟩
  rw [← hWL] at hml0 hcb nsL hcr ⊢
  have NSL := Lib.hid nsL
  clear nsL hWL NST HR
  refine wpIn_rangeFunc_ownG (α := Unit) rfl (by omega) (gf := 50) (lb := #[.pointer (some ⟨WT0.heap.size, 0, none⟩)]) rfl trivial (enters_of Tryd.func50 (by kernel_rfl) rfl)
    (one_stops 9 (by omega) WT0.heap.size r0 41 (.pointer (some ⟨g1, 0, none⟩)) WL0 hcb hcr) (fun _ _ => trivial) (fun _ _ _ _ _ _ _ _ => trivial) (Below.refl _ _) (fun _ => rfl)
    (fun pre W => (pre = [] ∧ NS w (w.heap.size + 1) w.heap.size (w.heap.size + 1 + 1) (w.heap.size + 1 + 1 + 1 + 1) (parts0) 1 us0 (.slice (some ⟨gA0, 0, none⟩) 1 capA0) 1 [.iface 41 (.pointer (some ⟨g0, 0, none⟩)), .bool true] #[⟨.iface 41 (.pointer (some ⟨g0, 0, none⟩)), .int .i64 1, 0⟩] 1 W) ∨ (pre = [()] ∧ ∃ g6 cap6, NS w (w.heap.size + 1) w.heap.size (w.heap.size + 1 + 1) (w.heap.size + 1 + 1 + 1 + 1) (parts0) 1 us0 (.slice (some ⟨g6, 0, none⟩) 2 cap6) 2 [.iface 41 (.pointer (some ⟨g0, 0, none⟩)), .bool true, .iface 41 (.pointer (some ⟨g1, 0, none⟩)), .bool false] #[⟨.iface 41 (.pointer (some ⟨g0, 0, none⟩)), .int .i64 1, 0⟩] 1 W))
    (fun _ _ _ => False) ?hI0 (fun _ _ _ _ _ hs _ _ => hs) (.inl ⟨rfl, NSL.out⟩) ?a0 ?assign0 ?body0 ?done0 ?stop0
  case hI0 =>
    rintro pre X X' row (⟨h0, hs⟩ | ⟨h0, g6, cap6, hs⟩) hg hr
    · exact .inl ⟨h0, hs.abides hml0 (Nat.le_of_lt hml0) hg hr⟩
    · exact .inr ⟨h0, g6, cap6, hs.abides hml0 (Nat.le_of_lt hml0) hg hr⟩
  case assign0 =>
    intro l x W K hK
    gi_wp2
    exact hK
  case body0 =>
    rintro l pre x W (⟨rfl, hs⟩ | ⟨rfl, _⟩) hlt
    · have c4 := hs.h4.cell 0
      have f4 := hs.h4.free 0
      simp only [List.getElem?_toArray, List.getElem?_cons_zero] at c4
      have HS := Lib.hid hs
      have hsz := hs.low.size
      clear hs
      gi_wp2_with (gi_at_builtin; refine wpListIn_append_own _ rfl _ _ 83 rfl w.heap.size 82 i0 _ 2 24 Tryd.underlying83 hi0 hz0 hz1 hz2 rfl (by decide) _ _ _ rfl (HS.out.own.alloc _) ⟨W.heap.size, 0, none⟩ 1 1 [.iface 41 (.pointer (some ⟨g1, 0, none⟩)), .bool false] rfl rfl ?c1 ?c2 ?c3 ?c4 ?c5 ?_)
      case c1 =>
        intro j u hj
        match j, hj with
        | 0, hj => simp at hj; subst hj; simp [Addr.add]
        | 1, hj => simp at hj; subst hj; simp [Addr.add]
      case c2 => intro u hu; simp at hu; rcases hu with rfl | rfl <;> rfl
      case c3 => unfold maxLen; omega
      case c4 => omega
      case c5 => simp; omega
      intro v' W6 hown6 hgrow6 _
      obtain ⟨g6, cap6, hv6, _⟩ := World.ownsRow.form hown6 (by omega)
      subst hv6
      have na := HS.out.alloc (.cells #[.iface 41 (.pointer (some ⟨g1, 0, none⟩)), .bool false] 82)
      have h4w := na.far hgrow6 na.h4 (by decide)
      have NS6 := Lib.hid (na.grown hgrow6 hown6)
      have hks : KeepsOthers W (W6.setCell ⟨w.heap.size + 1 + 1 + 1 + 1, 0, none⟩ (.slice (some ⟨g6, 0, none⟩) (1 + 1) cap6)) := ((KeepsOthers.alloc W _).trans (KeepsOthers.of_grownBy hgrow6 (fun j o e ho => by
        obtain ⟨c, fz, hc⟩ := Lib.ownsRow_kind na.own j e
        rw [hc] at ho
        cases ho
        rfl))).trans (KeepsOthers.setCell _ _ _)
      have HK6 := Lib.hid (hks.from WL0.heap.size)
      have d4 := h4w.cell 0
      have e4 := h4w.free 0
      simp only [List.getElem?_toArray, List.getElem?_cons_zero] at d4
      clear na h4w hks hgrow6 hown6 c4 f4
      gi_wp2
      exact ⟨HK6.out, trivial, .inr ⟨rfl, g6, cap6, NS6.out⟩⟩
    · simp at hlt
  case stop0 => intro D c pre W _ _ h _; exact h.elim
  case done0 =>
    rintro D0 xs W7_0 hD0 rfl (⟨h, _⟩ | ⟨_, g6_0, cap6_0, hs⟩) hK
    · cases h
    ·
      have qD0 : Mark W7_0 D0 := hK
      clear hK
      have c4 := hs.h4.cell 0
      have f4 := hs.h4.free 0
      have c3 := hs.h3.cell 0
      have v2 := World.ownsRow.cells hs.own (g := g6_0) rfl 2 (.iface 41 (.pointer (some ⟨g1, 0, none⟩))) rfl
      have v3 := World.ownsRow.cells hs.own (g := g6_0) rfl 3 (.bool false) rfl
      simp only [List.getElem?_toArray, List.getElem?_cons_zero] at c4 c3
      simp only [add_plain, Nat.zero_add] at v2 v3
      have hcp : 2 ≤ cap6_0 := by
        rcases hs.own.2 with ⟨h, _⟩ | ⟨g', cap', cur, hv, _, _, hn, _⟩
        · cases h
        · cases hv
          exact hn
      have hgw : g6_0 < W7_0.heap.size := (hs.own.lt g6_0 rfl).2
      have hl4 := hs.h4.lt
      have hl3 := hs.h3.lt
      have hsz := hs.low.size
      have HS := Lib.hid hs
      have ND0 := Lib.hid qD0
      clear hs qD0
      gi_wp2
      rw [roundsIn_succ]
      gi_wp2
      refine ⟨trivial, ?_⟩
      have hpop := (HS.out.put (ownsRow_pop (xs := [.iface 41 (.pointer (some ⟨g0, 0, none⟩)), .bool true]) (last := [.iface 41 (.pointer (some ⟨g1, 0, none⟩)), .bool false]) (n := 1) rfl HS.out.own)).alloc (.cells #[.iface 41 (.pointer (some ⟨g1, 0, none⟩)), .bool false] 82)
      have h5n := Has.new (W7_0.setCell ⟨w.heap.size + 1 + 1 + 1 + 1, 0, none⟩ (.slice (some ⟨g6_0, 0, none⟩) 1 cap6_0)) 82 #[.iface 41 (.pointer (some ⟨g1, 0, none⟩)), .bool false]
      rw [show (W7_0.setCell ⟨w.heap.size + 1 + 1 + 1 + 1, 0, none⟩ (.slice (some ⟨g6_0, 0, none⟩) 1 cap6_0)).heap.size = W7_0.heap.size by simp [World.setCell]] at h5n
      have mD0 := (HS.out.dput ND0.out (.slice (some ⟨g6_0, 0, none⟩) 1 cap6_0)).alloc (.cells #[.iface 41 (.pointer (some ⟨g1, 0, none⟩)), .bool false] 82)
      obtain ⟨W8_0, hW8⟩ : ∃ W, W = (W7_0.setCell ⟨w.heap.size + 1 + 1 + 1 + 1, 0, none⟩ (.slice (some ⟨g6_0, 0, none⟩) 1 cap6_0)).alloc (.cells #[.iface 41 (.pointer (some ⟨g1, 0, none⟩)), .bool false] 82) := ⟨_, rfl⟩
      rw [← hW8] at hpop h5n mD0 ⊢
      have hlW8_0 := h5n.lt
      clear hW8 c3 c4 f4 v2 v3 HS hcp hl4 hl3 hsz ND0
      have hq0 := HG0.out.below hpop.low hgl0
      have HA0 : ∀ {W : World}, Turns [w.heap.size] W8_0 W → Has W g0 50 _ := fun ht => ht.has hq0 (by simp; omega)
      have hq1 := HG1.out.below hpop.low hgl1
      have HA1 : ∀ {W : World}, Turns [w.heap.size] W8_0 W → Has W g1 50 _ := fun ht => ht.has hq1 (by simp; omega)
      have hno : ∀ W, Turns [w.heap.size] W8_0 W → ∀ z ∈ ([⟨.iface 41 (.pointer (some ⟨g0, 0, none⟩)), .int .i64 1, 0⟩] : List MapEntry), (Op.equal 27 (.iface 41 (.pointer (some ⟨g1, 0, none⟩))) z.key).run Tryd.prog W = .ok false W := by
        intro W ht z hz
        simp only [List.mem_cons, List.not_mem_nil, or_false] at hz
        subst hz
        exact eqAB g1 g0 W _ _ (by omega) (HA1 ht) (HA0 ht)
      refine (callsIn_wide.2 (enters_newA (w.heap.size + 1) w.heap.size 1 1 #[⟨.iface 41 (.pointer (some ⟨g0, 0, none⟩)), .int .i64 1, 0⟩] 41 (.pointer (some ⟨g1, 0, none⟩)) (parts0) W8_0 hpop.hS hpop.hm (fun b W => checkA b g1 W) (fun W ht => find_no (.iface 41 (.pointer (some ⟨g1, 0, none⟩))) W _ (hno W ht)) (fun W ht => find_yes (.iface 41 (.pointer (some ⟨g1, 0, none⟩))) W [⟨.iface 41 (.pointer (some ⟨g0, 0, none⟩)), .int .i64 1, 0⟩] ⟨.iface 41 (.pointer (some ⟨g1, 0, none⟩)), .int .i64 1, 1⟩ [] (eqAA g1 W) (hno W ht)))).mono ?_
      rintro e WE1 ⟨rfl, hS9, hm9, ht9⟩
      have ns9 := hpop.map ht9 hm9
      have h59 := ht9.has h5n (by simpa using (map_has hpop.hm h5n).symm)
      have maD0 := hpop.dmap mD0 ht9
      clear hpop h5n hS9 hm9 ht9 hno hq0 HA0 hq1 HA1 mD0
      have c4 := ns9.h4.cell 0
      have f4 := ns9.h4.free 0
      have c5 := h59.cell 0
      have c3 := ns9.h3.cell 0
      simp only [List.getElem?_toArray, List.getElem?_cons_zero] at c3 c4 c5
      have NS9 := Lib.hid ns9
      have H59 := Lib.hid h59
      have hsz9 := ns9.low.size
      clear ns9 h59
      have MAD0 := Lib.hid maD0
      clear maD0
      gi_wp2_with (gi_at_builtin; refine wpListIn_append_own _ rfl _ _ 83 rfl w.heap.size 82 i0 _ 2 24 Tryd.underlying83 hi0 hz0 hz1 hz2 rfl (by decide) _ _ _ rfl (NS9.out.own.alloc _) ⟨WE1.heap.size, 0, none⟩ 1 1 [.iface 41 (.pointer (some ⟨g1, 0, none⟩)), .bool true] rfl rfl ?c1 ?c2 ?c3 ?c4 ?c5 ?_)
      case c1 =>
        intro j u hj
        match j, hj with
        | 0, hj => simp at hj; subst hj; simp [Addr.add]
        | 1, hj => simp at hj; subst hj; simp [Addr.add]
      case c2 => intro u hu; simp at hu; rcases hu with rfl | rfl <;> rfl
      case c3 => unfold maxLen; omega
      case c4 => omega
      case c5 => simp; omega
      intro v' WA1 hownA hgrowA _
      obtain ⟨gA1, capA1, hvA, hbgA1, hltA1⟩ := World.ownsRow.form hownA (by omega)
      subst hvA
      have n9a := NS9.out.alloc (.cells #[.iface 41 (.pointer (some ⟨g1, 0, none⟩)), .bool true] 82)
      have h4w := n9a.far hgrowA n9a.h4 (by decide)
      have nsB0 := n9a.grown hgrowA hownA
      have hne5 : some (W7_0.heap.size) ≠ (Value.slice (some ⟨g6_0, 0, none⟩) 1 cap6_0).ownBlock := by simp [Value.ownBlock]; omega
      have h5B0 := ((H59.out.alloc (.cells #[.iface 41 (.pointer (some ⟨g1, 0, none⟩)), .bool true] 82)).grown hgrowA hne5).put_far 0 (.slice (some ⟨gA1, 0, none⟩) (1 + 1) capA1) (ne_types H59.out NS9.out.h4 (by decide))
      have mbD0 := NS9.out.dapp MAD0.out (.cells #[.iface 41 (.pointer (some ⟨g1, 0, none⟩)), .bool true] 82) hgrowA (.slice (some ⟨gA1, 0, none⟩) (1 + 1) capA1)
      obtain ⟨WB1, hWB⟩ : ∃ W, W = WA1.setCell ⟨w.heap.size + 1 + 1 + 1 + 1, 0, none⟩ (.slice (some ⟨gA1, 0, none⟩) 2 capA1) := ⟨_, rfl⟩
      have nsB : NS w (w.heap.size + 1) w.heap.size (w.heap.size + 1 + 1) (w.heap.size + 1 + 1 + 1 + 1) (parts0) 1 us0 (.slice (some ⟨gA1, 0, none⟩) 2 capA1) 2 [.iface 41 (.pointer (some ⟨g0, 0, none⟩)), .bool true, .iface 41 (.pointer (some ⟨g1, 0, none⟩)), .bool true] #[⟨.iface 41 (.pointer (some ⟨g0, 0, none⟩)), .int .i64 1, 0⟩, ⟨.iface 41 (.pointer (some ⟨g1, 0, none⟩)), .int .i64 1, 1⟩] 2 WB1 := by rw [hWB]; exact nsB0
      have h5B : Has WB1 (W7_0.heap.size) 82 #[.iface 41 (.pointer (some ⟨g1, 0, none⟩)), .bool false] := by rw [hWB]; exact h5B0
      have mcD0 : Mark WB1 D0 := by rw [hWB]; exact mbD0
      have d4 := h4w.cell 0
      have e4 := h4w.free 0
      have d3 := nsB.h3.cell 0
      have d5 := h5B.cell 0
      simp only [List.getElem?_toArray, List.getElem?_cons_zero] at d3 d4 d5
      rw [hWB] at d3 d5
      have NSB := Lib.hid nsB
      have HWB := Lib.hid hWB
      clear n9a h4w nsB0 h5B0 hgrowA hownA c3 c4 c5 f4 nsB h5B hWB
      have MCD0 := Lib.hid mcD0
      clear mbD0 mcD0
      gi_wp2
      refine ⟨trivial, ?_⟩
      rw [← HWB.out]
      clear d3 d4 d5 e4 HWB NS9 H59 MAD0
      refine (callsIn_wide.2 (take_c (w.heap.size + 1) w.heap.size g1 w.heap.size 1 x1 y1 nm1 nd1 29 (.int .i64 k) (parts0) us0 WB1 NSB.out.hS NSB.out.po (by decide) (HG1.out.below NSB.out.low hgl1) NSB.out.low.size)).mono ?_
      rintro e WT1 ⟨r1, parts1, us1, rfl, hr, hrb, hpr1, hS', hown', ht'⟩
      have nsT := NSB.out.tookR ht' hS' hown'
      have mdD0 := NSB.out.dtook MCD0.out ht'
      have NST := Lib.hid nsT
      have HR := Lib.hid hr
      have hrl1 : w.heap.size ≤ r1 := Nat.le_trans NSB.out.low.size hrb
      have MDD0 := Lib.hid mdD0
      clear mdD0
      clear nsT hS' hown' ht' NSB hr hrb MCD0
      gi_wp2
      refine ⟨trivial, ?_⟩
      refine (callsIn_wide.2 (backward (some ⟨r1, 0, none⟩) 1 1 WT1)).mono ?_
      rintro e WX ⟨rfl, rfl⟩
      gi_wp2
      have hml1 : w.heap.size < (WT1.alloc (.cells #[.slice (some ⟨r1, 0, none⟩) 1 1] 47)).heap.size := by have := lt_get NST.out.hm; simp; omega
      have hcb : (WT1.alloc (.cells #[.slice (some ⟨r1, 0, none⟩) 1 1] 47)).cell? ⟨WT1.heap.size, 0, none⟩ = some (.slice (some ⟨r1, 0, none⟩) 1 1) := (Has.new WT1 47 #[.slice (some ⟨r1, 0, none⟩) 1 1]).cell 0
      have hcr : (WT1.alloc (.cells #[.slice (some ⟨r1, 0, none⟩) 1 1] 47)).cell? ⟨r1, 0, none⟩ = some (.iface 29 (.int .i64 k)) := (HR.out.alloc (.cells #[.slice (some ⟨r1, 0, none⟩) 1 1] 47)).cell 0
      have nsL := NST.out.alloc (.cells #[.slice (some ⟨r1, 0, none⟩) 1 1] 47)
      have mLD0 := MDD0.out.alloc (.cells #[.slice (some ⟨r1, 0, none⟩) 1 1] 47)
      have lLD0_1 := mLD0.lt
      obtain ⟨WL1, hWL⟩ : ∃ W, W = WT1.alloc (.cells #[.slice (some ⟨r1, 0, none⟩) 1 1] 47) := ⟨_, rfl⟩
      rw [← hWL] at hml1 hcb nsL hcr mLD0 lLD0_1 ⊢
      have NSL := Lib.hid nsL
      have MLD0 := Lib.hid mLD0
      clear mLD0
      clear nsL hWL NST HR MDD0
      refine wpIn_rangeFunc_ownG (α := Unit) rfl (by omega) (gf := 50) (lb := #[.pointer (some ⟨WT1.heap.size, 0, none⟩)]) rfl trivial (enters_of Tryd.func50 (by kernel_rfl) rfl)
        (one_stops 9 (by omega) WT1.heap.size r1 29 (.int .i64 k) WL1 hcb hcr) (fun _ _ => trivial) (fun _ _ _ _ _ _ _ _ => trivial) (Below.refl _ _) (fun _ => rfl)
        (fun pre W => (pre = [] ∧ NS w (w.heap.size + 1) w.heap.size (w.heap.size + 1 + 1) (w.heap.size + 1 + 1 + 1 + 1) (parts1) 2 us1 (.slice (some ⟨gA1, 0, none⟩) 2 capA1) 2 [.iface 41 (.pointer (some ⟨g0, 0, none⟩)), .bool true, .iface 41 (.pointer (some ⟨g1, 0, none⟩)), .bool true] #[⟨.iface 41 (.pointer (some ⟨g0, 0, none⟩)), .int .i64 1, 0⟩, ⟨.iface 41 (.pointer (some ⟨g1, 0, none⟩)), .int .i64 1, 1⟩] 2 W ∧ Mark W D0) ∨ (pre = [()] ∧ ∃ g6 cap6, NS w (w.heap.size + 1) w.heap.size (w.heap.size + 1 + 1) (w.heap.size + 1 + 1 + 1 + 1) (parts1) 2 us1 (.slice (some ⟨g6, 0, none⟩) 3 cap6) 3 [.iface 41 (.pointer (some ⟨g0, 0, none⟩)), .bool true, .iface 41 (.pointer (some ⟨g1, 0, none⟩)), .bool true, .iface 29 (.int .i64 k), .bool false] #[⟨.iface 41 (.pointer (some ⟨g0, 0, none⟩)), .int .i64 1, 0⟩, ⟨.iface 41 (.pointer (some ⟨g1, 0, none⟩)), .int .i64 1, 1⟩] 2 W ∧ Mark W D0))
        (fun _ _ _ => False) ?hI1 (fun _ _ _ _ _ hs _ _ => hs) (.inl ⟨rfl, NSL.out, MLD0.out⟩) ?a1 ?assign1 ?body1 ?done1 ?stop1
      case hI1 =>
        rintro pre X X' row (⟨h0, hs, qD0⟩ | ⟨h0, g6, cap6, hs, qD0⟩) hg hr
        · exact .inl ⟨h0, hs.abides hml1 (Nat.le_of_lt hml1) hg hr, qD0.abides lLD0_1 hg hr⟩
        · exact .inr ⟨h0, g6, cap6, hs.abides hml1 (Nat.le_of_lt hml1) hg hr, qD0.abides lLD0_1 hg hr⟩
      case assign1 =>
        intro l x W K hK
        gi_wp2
        exact hK
      case body1 =>
        rintro l pre x W (⟨rfl, hs, qD0⟩ | ⟨rfl, _⟩) hlt
        · have c4 := hs.h4.cell 0
          have f4 := hs.h4.free 0
          simp only [List.getElem?_toArray, List.getElem?_cons_zero] at c4
          have HS := Lib.hid hs
          have hsz := hs.low.size
          have QD0 := Lib.hid qD0
          clear hs qD0
          gi_wp2_with (gi_at_builtin; refine wpListIn_append_own _ rfl _ _ 83 rfl w.heap.size 82 i0 _ 2 24 Tryd.underlying83 hi0 hz0 hz1 hz2 rfl (by decide) _ _ _ rfl (HS.out.own.alloc _) ⟨W.heap.size, 0, none⟩ 1 1 [.iface 29 (.int .i64 k), .bool false] rfl rfl ?c1 ?c2 ?c3 ?c4 ?c5 ?_)
          case c1 =>
            intro j u hj
            match j, hj with
            | 0, hj => simp at hj; subst hj; simp [Addr.add]
            | 1, hj => simp at hj; subst hj; simp [Addr.add]
          case c2 => intro u hu; simp at hu; rcases hu with rfl | rfl <;> rfl
          case c3 => unfold maxLen; omega
          case c4 => omega
          case c5 => simp; omega
          intro v' W6 hown6 hgrow6 _
          obtain ⟨g6, cap6, hv6, _⟩ := World.ownsRow.form hown6 (by omega)
          subst hv6
          have na := HS.out.alloc (.cells #[.iface 29 (.int .i64 k), .bool false] 82)
          have h4w := na.far hgrow6 na.h4 (by decide)
          have NS6 := Lib.hid (na.grown hgrow6 hown6)
          have RD0 := Lib.hid (HS.out.dapp QD0.out (.cells #[.iface 29 (.int .i64 k), .bool false] 82) hgrow6 (.slice (some ⟨g6, 0, none⟩) (2 + 1) cap6))
          have hks : KeepsOthers W (W6.setCell ⟨w.heap.size + 1 + 1 + 1 + 1, 0, none⟩ (.slice (some ⟨g6, 0, none⟩) (2 + 1) cap6)) := ((KeepsOthers.alloc W _).trans (KeepsOthers.of_grownBy hgrow6 (fun j o e ho => by
            obtain ⟨c, fz, hc⟩ := Lib.ownsRow_kind na.own j e
            rw [hc] at ho
            cases ho
            rfl))).trans (KeepsOthers.setCell _ _ _)
          have HK6 := Lib.hid (hks.from WL1.heap.size)
          have d4 := h4w.cell 0
          have e4 := h4w.free 0
          simp only [List.getElem?_toArray, List.getElem?_cons_zero] at d4
          clear na h4w hks hgrow6 hown6 c4 f4
          gi_wp2
          exact ⟨HK6.out, trivial, .inr ⟨rfl, g6, cap6, NS6.out, RD0.out⟩⟩
        · simp at hlt
      case stop1 => intro D c pre W _ _ h _; exact h.elim
      case done1 =>
        rintro D1 xs W7_1 hD1 rfl (⟨h, _⟩ | ⟨_, g6_1, cap6_1, hs, qD0⟩) hK
        · cases h
        ·
          have qD1 : Mark W7_1 D1 := hK
          clear hK
          have c4 := hs.h4.cell 0
          have f4 := hs.h4.free 0
          have c3 := hs.h3.cell 0
          have v2 := World.ownsRow.cells hs.own (g := g6_1) rfl 4 (.iface 29 (.int .i64 k)) rfl
          have v3 := World.ownsRow.cells hs.own (g := g6_1) rfl 5 (.bool false) rfl
          simp only [List.getElem?_toArray, List.getElem?_cons_zero] at c4 c3
          simp only [add_plain, Nat.zero_add] at v2 v3
          have hcp : 3 ≤ cap6_1 := by
            rcases hs.own.2 with ⟨h, _⟩ | ⟨g', cap', cur, hv, _, _, hn, _⟩
            · cases h
            · cases hv
              exact hn
          have hgw : g6_1 < W7_1.heap.size := (hs.own.lt g6_1 rfl).2
          have hl4 := hs.h4.lt
          have hl3 := hs.h3.lt
          have hsz := hs.low.size
          have HS := Lib.hid hs
          have ND0 := Lib.hid qD0
          have ND1 := Lib.hid qD1
          clear hs qD0 qD1
          gi_wp2
          rw [roundsIn_succ]
          gi_wp2
          refine ⟨trivial, ?_⟩
          have hpop := (HS.out.put (ownsRow_pop (xs := [.iface 41 (.pointer (some ⟨g0, 0, none⟩)), .bool true, .iface 41 (.pointer (some ⟨g1, 0, none⟩)), .bool true]) (last := [.iface 29 (.int .i64 k), .bool false]) (n := 2) rfl HS.out.own)).alloc (.cells #[.iface 29 (.int .i64 k), .bool false] 82)
          have h5n := Has.new (W7_1.setCell ⟨w.heap.size + 1 + 1 + 1 + 1, 0, none⟩ (.slice (some ⟨g6_1, 0, none⟩) 2 cap6_1)) 82 #[.iface 29 (.int .i64 k), .bool false]
          rw [show (W7_1.setCell ⟨w.heap.size + 1 + 1 + 1 + 1, 0, none⟩ (.slice (some ⟨g6_1, 0, none⟩) 2 cap6_1)).heap.size = W7_1.heap.size by simp [World.setCell]] at h5n
          have mD0 := (HS.out.dput ND0.out (.slice (some ⟨g6_1, 0, none⟩) 2 cap6_1)).alloc (.cells #[.iface 29 (.int .i64 k), .bool false] 82)
          have mD1 := (HS.out.dput ND1.out (.slice (some ⟨g6_1, 0, none⟩) 2 cap6_1)).alloc (.cells #[.iface 29 (.int .i64 k), .bool false] 82)
          obtain ⟨W8_1, hW8⟩ : ∃ W, W = (W7_1.setCell ⟨w.heap.size + 1 + 1 + 1 + 1, 0, none⟩ (.slice (some ⟨g6_1, 0, none⟩) 2 cap6_1)).alloc (.cells #[.iface 29 (.int .i64 k), .bool false] 82) := ⟨_, rfl⟩
          rw [← hW8] at hpop h5n mD0 mD1 ⊢
          have hlW8_1 := h5n.lt
          clear hW8 c3 c4 f4 v2 v3 HS hcp hl4 hl3 hsz ND0 ND1
          have hq0 := HG0.out.below hpop.low hgl0
          have HA0 : ∀ {W : World}, Turns [w.heap.size] W8_1 W → Has W g0 50 _ := fun ht => ht.has hq0 (by simp; omega)
          have hq1 := HG1.out.below hpop.low hgl1
          have HA1 : ∀ {W : World}, Turns [w.heap.size] W8_1 W → Has W g1 50 _ := fun ht => ht.has hq1 (by simp; omega)
          have hno : ∀ W, Turns [w.heap.size] W8_1 W → ∀ z ∈ ([⟨.iface 41 (.pointer (some ⟨g0, 0, none⟩)), .int .i64 1, 0⟩, ⟨.iface 41 (.pointer (some ⟨g1, 0, none⟩)), .int .i64 1, 1⟩] : List MapEntry), (Op.equal 27 (.iface 29 (.int .i64 k)) z.key).run Tryd.prog W = .ok false W := by
            intro W ht z hz
            simp only [List.mem_cons, List.not_mem_nil, or_false] at hz
            rcases hz with rfl | rfl
            · exact eqKA k g0 W
            · exact eqKA k g1 W
          refine (callsIn_wide.2 (enters_newA (w.heap.size + 1) w.heap.size 2 2 #[⟨.iface 41 (.pointer (some ⟨g0, 0, none⟩)), .int .i64 1, 0⟩, ⟨.iface 41 (.pointer (some ⟨g1, 0, none⟩)), .int .i64 1, 1⟩] 29 (.int .i64 k) (parts1) W8_1 hpop.hS hpop.hm (fun b W => checkK b k W) (fun W ht => find_no (.iface 29 (.int .i64 k)) W _ (hno W ht)) (fun W ht => find_yes (.iface 29 (.int .i64 k)) W [⟨.iface 41 (.pointer (some ⟨g0, 0, none⟩)), .int .i64 1, 0⟩, ⟨.iface 41 (.pointer (some ⟨g1, 0, none⟩)), .int .i64 1, 1⟩] ⟨.iface 29 (.int .i64 k), .int .i64 1, 2⟩ [] (eqKK k W) (hno W ht)))).mono ?_
          rintro e WE2 ⟨rfl, hS9, hm9, ht9⟩
          have ns9 := hpop.map ht9 hm9
          have h59 := ht9.has h5n (by simpa using (map_has hpop.hm h5n).symm)
          have maD0 := hpop.dmap mD0 ht9
          have maD1 := hpop.dmap mD1 ht9
          clear hpop h5n hS9 hm9 ht9 hno hq0 HA0 hq1 HA1 mD0 mD1
          have c4 := ns9.h4.cell 0
          have f4 := ns9.h4.free 0
          have c5 := h59.cell 0
          have c3 := ns9.h3.cell 0
          simp only [List.getElem?_toArray, List.getElem?_cons_zero] at c3 c4 c5
          have NS9 := Lib.hid ns9
          have H59 := Lib.hid h59
          have hsz9 := ns9.low.size
          clear ns9 h59
          have MAD0 := Lib.hid maD0
          clear maD0
          have MAD1 := Lib.hid maD1
          clear maD1
          gi_wp2_with (gi_at_builtin; refine wpListIn_append_own _ rfl _ _ 83 rfl w.heap.size 82 i0 _ 2 24 Tryd.underlying83 hi0 hz0 hz1 hz2 rfl (by decide) _ _ _ rfl (NS9.out.own.alloc _) ⟨WE2.heap.size, 0, none⟩ 1 1 [.iface 29 (.int .i64 k), .bool true] rfl rfl ?c1 ?c2 ?c3 ?c4 ?c5 ?_)
          case c1 =>
            intro j u hj
            match j, hj with
            | 0, hj => simp at hj; subst hj; simp [Addr.add]
            | 1, hj => simp at hj; subst hj; simp [Addr.add]
          case c2 => intro u hu; simp at hu; rcases hu with rfl | rfl <;> rfl
          case c3 => unfold maxLen; omega
          case c4 => omega
          case c5 => simp; omega
          intro v' WA2 hownA hgrowA _
          obtain ⟨gA2, capA2, hvA, hbgA2, hltA2⟩ := World.ownsRow.form hownA (by omega)
          subst hvA
          have n9a := NS9.out.alloc (.cells #[.iface 29 (.int .i64 k), .bool true] 82)
          have h4w := n9a.far hgrowA n9a.h4 (by decide)
          have nsB0 := n9a.grown hgrowA hownA
          have hne5 : some (W7_1.heap.size) ≠ (Value.slice (some ⟨g6_1, 0, none⟩) 2 cap6_1).ownBlock := by simp [Value.ownBlock]; omega
          have h5B0 := ((H59.out.alloc (.cells #[.iface 29 (.int .i64 k), .bool true] 82)).grown hgrowA hne5).put_far 0 (.slice (some ⟨gA2, 0, none⟩) (2 + 1) capA2) (ne_types H59.out NS9.out.h4 (by decide))
          have mbD0 := NS9.out.dapp MAD0.out (.cells #[.iface 29 (.int .i64 k), .bool true] 82) hgrowA (.slice (some ⟨gA2, 0, none⟩) (2 + 1) capA2)
          have mbD1 := NS9.out.dapp MAD1.out (.cells #[.iface 29 (.int .i64 k), .bool true] 82) hgrowA (.slice (some ⟨gA2, 0, none⟩) (2 + 1) capA2)
          obtain ⟨WB2, hWB⟩ : ∃ W, W = WA2.setCell ⟨w.heap.size + 1 + 1 + 1 + 1, 0, none⟩ (.slice (some ⟨gA2, 0, none⟩) 3 capA2) := ⟨_, rfl⟩
          have nsB : NS w (w.heap.size + 1) w.heap.size (w.heap.size + 1 + 1) (w.heap.size + 1 + 1 + 1 + 1) (parts1) 2 us1 (.slice (some ⟨gA2, 0, none⟩) 3 capA2) 3 [.iface 41 (.pointer (some ⟨g0, 0, none⟩)), .bool true, .iface 41 (.pointer (some ⟨g1, 0, none⟩)), .bool true, .iface 29 (.int .i64 k), .bool true] #[⟨.iface 41 (.pointer (some ⟨g0, 0, none⟩)), .int .i64 1, 0⟩, ⟨.iface 41 (.pointer (some ⟨g1, 0, none⟩)), .int .i64 1, 1⟩, ⟨.iface 29 (.int .i64 k), .int .i64 1, 2⟩] 3 WB2 := by rw [hWB]; exact nsB0
          have h5B : Has WB2 (W7_1.heap.size) 82 #[.iface 29 (.int .i64 k), .bool false] := by rw [hWB]; exact h5B0
          have mcD0 : Mark WB2 D0 := by rw [hWB]; exact mbD0
          have mcD1 : Mark WB2 D1 := by rw [hWB]; exact mbD1
          have d4 := h4w.cell 0
          have e4 := h4w.free 0
          have d3 := nsB.h3.cell 0
          have d5 := h5B.cell 0
          simp only [List.getElem?_toArray, List.getElem?_cons_zero] at d3 d4 d5
          rw [hWB] at d3 d5
          have NSB := Lib.hid nsB
          have HWB := Lib.hid hWB
          clear n9a h4w nsB0 h5B0 hgrowA hownA c3 c4 c5 f4 nsB h5B hWB
          have MCD0 := Lib.hid mcD0
          clear mbD0 mcD0
          have MCD1 := Lib.hid mcD1
          clear mbD1 mcD1
          gi_wp2
          refine ⟨trivial, ?_⟩
          rw [← HWB.out]
          clear d3 d4 d5 e4 HWB NS9 H59 MAD0 MAD1
          refine (callsIn_wide.2 (take_k (w.heap.size + 1) w.heap.size w.heap.size 2 k (parts1) us1 WB2 NSB.out.hS NSB.out.po (by decide) NSB.out.low.size)).mono ?_
          rintro e WT2 ⟨parts2, us2, rfl, hS', hown', ht'⟩
          have nsT := NSB.out.tookR ht' hS' hown'
          have mdD0 := NSB.out.dtook MCD0.out ht'
          have mdD1 := NSB.out.dtook MCD1.out ht'
          have NST := Lib.hid nsT
          have MDD0 := Lib.hid mdD0
          clear mdD0
          have MDD1 := Lib.hid mdD1
          clear mdD1
          clear nsT hS' hown' ht' NSB MCD0 MCD1
          gi_wp2
          refine ⟨trivial, ?_⟩
          refine (callsIn_wide.2 (backward none 0 0 WT2)).mono ?_
          rintro e WX ⟨rfl, rfl⟩
          gi_wp2
          have hml2 : w.heap.size < (WT2.alloc (.cells #[.slice none 0 0] 47)).heap.size := by have := lt_get NST.out.hm; simp; omega
          have hcb : (WT2.alloc (.cells #[.slice none 0 0] 47)).cell? ⟨WT2.heap.size, 0, none⟩ = some (.slice none 0 0) := (Has.new WT2 47 #[.slice none 0 0]).cell 0
          have nsL := NST.out.alloc (.cells #[.slice none 0 0] 47)
          have mLD0 := MDD0.out.alloc (.cells #[.slice none 0 0] 47)
          have lLD0_2 := mLD0.lt
          have mLD1 := MDD1.out.alloc (.cells #[.slice none 0 0] 47)
          have lLD1_2 := mLD1.lt
          obtain ⟨WL2, hWL⟩ : ∃ W, W = WT2.alloc (.cells #[.slice none 0 0] 47) := ⟨_, rfl⟩
          rw [← hWL] at hml2 hcb nsL mLD0 lLD0_2 mLD1 lLD1_2 ⊢
          have NSL := Lib.hid nsL
          have MLD0 := Lib.hid mLD0
          clear mLD0
          have MLD1 := Lib.hid mLD1
          clear mLD1
          clear nsL hWL NST MDD0 MDD1
          refine wpIn_rangeFunc_ownG (α := Unit) rfl (by omega) (gf := 50) (lb := #[.pointer (some ⟨WT2.heap.size, 0, none⟩)]) rfl trivial (enters_of Tryd.func50 (by kernel_rfl) rfl)
            (none_stops 9 WT2.heap.size WL2 hcb (fun _ => #[.int .i64 0, .iface 29 (.int .i64 k)])) (fun _ _ => trivial) (fun _ _ _ _ _ _ _ _ => trivial) (Below.refl _ _) (fun _ => rfl)
            (fun pre W => NS w (w.heap.size + 1) w.heap.size (w.heap.size + 1 + 1) (w.heap.size + 1 + 1 + 1 + 1) (parts2) 3 us2 (.slice (some ⟨gA2, 0, none⟩) 3 capA2) 3 [.iface 41 (.pointer (some ⟨g0, 0, none⟩)), .bool true, .iface 41 (.pointer (some ⟨g1, 0, none⟩)), .bool true, .iface 29 (.int .i64 k), .bool true] #[⟨.iface 41 (.pointer (some ⟨g0, 0, none⟩)), .int .i64 1, 0⟩, ⟨.iface 41 (.pointer (some ⟨g1, 0, none⟩)), .int .i64 1, 1⟩, ⟨.iface 29 (.int .i64 k), .int .i64 1, 2⟩] 3 W ∧ Mark W D0 ∧ Mark W D1)
            (fun _ _ _ => False) ?hI2 (fun _ _ _ _ _ hs _ _ => hs) ⟨NSL.out, MLD0.out, MLD1.out⟩ ?a2 ?assign2 ?body2 ?done2 ?stop2
          case hI2 =>
            rintro pre X X' row ⟨hs, qD0, qD1⟩ hg hr
            exact ⟨hs.abides hml2 (Nat.le_of_lt hml2) hg hr, qD0.abides lLD0_2 hg hr, qD1.abides lLD1_2 hg hr⟩
          case assign2 =>
            intro l x W K hK
            gi_wp2
            exact hK
          case body2 =>
            intro l pre x W _ hlt
            exact absurd hlt (Nat.not_lt_zero _)
          case stop2 => intro D c pre W _ _ h _; exact h.elim
          case done2 =>
            rintro D2 xs W7_2 hD2 rfl ⟨hs, qD0, qD1⟩ hK
            have qD2 : Mark W7_2 D2 := hK
            clear hK
            have c4 := hs.h4.cell 0
            have f4 := hs.h4.free 0
            have c3 := hs.h3.cell 0
            have v2 := World.ownsRow.cells hs.own (g := gA2) rfl 4 (.iface 29 (.int .i64 k)) rfl
            have v3 := World.ownsRow.cells hs.own (g := gA2) rfl 5 (.bool true) rfl
            simp only [List.getElem?_toArray, List.getElem?_cons_zero] at c4 c3
            simp only [add_plain, Nat.zero_add] at v2 v3
            have hcp : 3 ≤ capA2 := by
              rcases hs.own.2 with ⟨h, _⟩ | ⟨g', cap', cur, hv, _, _, hn, _⟩
              · cases h
              · cases hv
                exact hn
            have hgw : gA2 < W7_2.heap.size := (hs.own.lt gA2 rfl).2
            have hl4 := hs.h4.lt
            have hl3 := hs.h3.lt
            have hsz := hs.low.size
            have HS := Lib.hid hs
            have ND0 := Lib.hid qD0
            have ND1 := Lib.hid qD1
            have ND2 := Lib.hid qD2
            clear hs qD0 qD1 qD2
            gi_wp2
            rw [roundsIn_succ]
            gi_wp2
            refine ⟨trivial, ?_⟩
            have hpop := (HS.out.put (ownsRow_pop (xs := [.iface 41 (.pointer (some ⟨g0, 0, none⟩)), .bool true, .iface 41 (.pointer (some ⟨g1, 0, none⟩)), .bool true]) (last := [.iface 29 (.int .i64 k), .bool true]) (n := 2) rfl HS.out.own)).alloc (.cells #[.iface 29 (.int .i64 k), .bool true] 82)
            have h5n := Has.new (W7_2.setCell ⟨w.heap.size + 1 + 1 + 1 + 1, 0, none⟩ (.slice (some ⟨gA2, 0, none⟩) 2 capA2)) 82 #[.iface 29 (.int .i64 k), .bool true]
            rw [show (W7_2.setCell ⟨w.heap.size + 1 + 1 + 1 + 1, 0, none⟩ (.slice (some ⟨gA2, 0, none⟩) 2 capA2)).heap.size = W7_2.heap.size by simp [World.setCell]] at h5n
            have mD0 := (HS.out.dput ND0.out (.slice (some ⟨gA2, 0, none⟩) 2 capA2)).alloc (.cells #[.iface 29 (.int .i64 k), .bool true] 82)
            have mD1 := (HS.out.dput ND1.out (.slice (some ⟨gA2, 0, none⟩) 2 capA2)).alloc (.cells #[.iface 29 (.int .i64 k), .bool true] 82)
            have mD2 := (HS.out.dput ND2.out (.slice (some ⟨gA2, 0, none⟩) 2 capA2)).alloc (.cells #[.iface 29 (.int .i64 k), .bool true] 82)
            obtain ⟨Y8_2, hW8⟩ : ∃ W, W = (W7_2.setCell ⟨w.heap.size + 1 + 1 + 1 + 1, 0, none⟩ (.slice (some ⟨gA2, 0, none⟩) 2 capA2)).alloc (.cells #[.iface 29 (.int .i64 k), .bool true] 82) := ⟨_, rfl⟩
            rw [← hW8] at hpop h5n mD0 mD1 mD2 ⊢
            have hlY8_2 := h5n.lt
            clear hW8 c3 c4 f4 v2 v3 HS hcp hl4 hl3 hsz ND0 ND1 ND2
            have hq0 := HG0.out.below hpop.low hgl0
            have HA0 : ∀ {W : World}, Turns [w.heap.size] Y8_2 W → Has W g0 50 _ := fun ht => ht.has hq0 (by simp; omega)
            have hq1 := HG1.out.below hpop.low hgl1
            have HA1 : ∀ {W : World}, Turns [w.heap.size] Y8_2 W → Has W g1 50 _ := fun ht => ht.has hq1 (by simp; omega)
            have hno : ∀ z ∈ ([⟨.iface 41 (.pointer (some ⟨g0, 0, none⟩)), .int .i64 1, 0⟩, ⟨.iface 41 (.pointer (some ⟨g1, 0, none⟩)), .int .i64 1, 1⟩] : List MapEntry), (Op.equal 27 (.iface 29 (.int .i64 k)) z.key).run Tryd.prog Y8_2.drew = .ok false Y8_2.drew := by
              intro z hz
              have ht := (Turns.refl [w.heap.size] Y8_2).drew
              simp only [List.mem_cons, List.not_mem_nil, or_false] at hz
              rcases hz with rfl | rfl
              · exact eqKA k g0 Y8_2.drew
              · exact eqKA k g1 Y8_2.drew
            refine (callsIn_wide.2 (quiet_survey _ _ _ (lit_surveyA (w.heap.size + 1) w.heap.size (w.heap.size + 1 + 1) W7_2.heap.size 2 3 #[⟨.iface 41 (.pointer (some ⟨g0, 0, none⟩)), .int .i64 1, 0⟩, ⟨.iface 41 (.pointer (some ⟨g1, 0, none⟩)), .int .i64 1, 1⟩, ⟨.iface 29 (.int .i64 k), .int .i64 1, 2⟩] 29 (.int .i64 k) (.int .i64 1) (parts2) true Y8_2 hpop.h3 h5n hpop.hS hpop.hm (fun b W => checkK b k W) (find_yes (.iface 29 (.int .i64 k)) Y8_2.drew [⟨.iface 41 (.pointer (some ⟨g0, 0, none⟩)), .int .i64 1, 0⟩, ⟨.iface 41 (.pointer (some ⟨g1, 0, none⟩)), .int .i64 1, 1⟩] ⟨.iface 29 (.int .i64 k), .int .i64 1, 2⟩ [] (eqKK k Y8_2.drew) hno) (bits_kK 9998 k)))).mono ?_
            rintro e Y16_2 ⟨rfl, hme, hte⟩
            have hs : NS w (w.heap.size + 1) w.heap.size (w.heap.size + 1 + 1) (w.heap.size + 1 + 1 + 1 + 1) (parts2) 3 us2 (.slice (some ⟨gA2, 0, none⟩) 2 capA2) 2 [.iface 41 (.pointer (some ⟨g0, 0, none⟩)), .bool true, .iface 41 (.pointer (some ⟨g1, 0, none⟩)), .bool true] #[⟨.iface 41 (.pointer (some ⟨g0, 0, none⟩)), .int .i64 1, 0⟩, ⟨.iface 41 (.pointer (some ⟨g1, 0, none⟩)), .int .i64 1, 1⟩, ⟨.iface 29 (.int .i64 k), .int .i64 2, 2⟩] 3 Y16_2 := hpop.map hte hme
            have qD0 := hpop.dmap mD0 hte
            have qD1 := hpop.dmap mD1 hte
            have qD2 := hpop.dmap mD2 hte
            clear hpop h5n hme hte mD0 mD1 mD2 hno hq0 HA0 hq1 HA1
            have c4 := hs.h4.cell 0
            have f4 := hs.h4.free 0
            have c3 := hs.h3.cell 0
            have v2 := World.ownsRow.cells hs.own (g := gA2) rfl 2 (.iface 41 (.pointer (some ⟨g1, 0, none⟩))) rfl
            have v3 := World.ownsRow.cells hs.own (g := gA2) rfl 3 (.bool true) rfl
            simp only [List.getElem?_toArray, List.getElem?_cons_zero] at c4 c3
            simp only [add_plain, Nat.zero_add] at v2 v3
            have hcp : 2 ≤ capA2 := by
              rcases hs.own.2 with ⟨h, _⟩ | ⟨g', cap', cur, hv, _, _, hn, _⟩
              · cases h
              · cases hv
                exact hn
            have hgw : gA2 < Y16_2.heap.size := (hs.own.lt gA2 rfl).2
            have hl4 := hs.h4.lt
            have hl3 := hs.h3.lt
            have hsz := hs.low.size
            have HS := Lib.hid hs
            have ND0 := Lib.hid qD0
            have ND1 := Lib.hid qD1
            have ND2 := Lib.hid qD2
            clear hs qD0 qD1 qD2
            gi_wp2
            rw [roundsIn_succ]
            gi_wp2
            refine ⟨trivial, ?_⟩
            have hpop := (HS.out.put (ownsRow_pop (xs := [.iface 41 (.pointer (some ⟨g0, 0, none⟩)), .bool true]) (last := [.iface 41 (.pointer (some ⟨g1, 0, none⟩)), .bool true]) (n := 1) rfl HS.out.own)).alloc (.cells #[.iface 41 (.pointer (some ⟨g1, 0, none⟩)), .bool true] 82)
            have h5n := Has.new (Y16_2.setCell ⟨w.heap.size + 1 + 1 + 1 + 1, 0, none⟩ (.slice (some ⟨gA2, 0, none⟩) 1 capA2)) 82 #[.iface 41 (.pointer (some ⟨g1, 0, none⟩)), .bool true]
            rw [show (Y16_2.setCell ⟨w.heap.size + 1 + 1 + 1 + 1, 0, none⟩ (.slice (some ⟨gA2, 0, none⟩) 1 capA2)).heap.size = Y16_2.heap.size by simp [World.setCell]] at h5n
            have mD0 := (HS.out.dput ND0.out (.slice (some ⟨gA2, 0, none⟩) 1 capA2)).alloc (.cells #[.iface 41 (.pointer (some ⟨g1, 0, none⟩)), .bool true] 82)
            have mD1 := (HS.out.dput ND1.out (.slice (some ⟨gA2, 0, none⟩) 1 capA2)).alloc (.cells #[.iface 41 (.pointer (some ⟨g1, 0, none⟩)), .bool true] 82)
            have mD2 := (HS.out.dput ND2.out (.slice (some ⟨gA2, 0, none⟩) 1 capA2)).alloc (.cells #[.iface 41 (.pointer (some ⟨g1, 0, none⟩)), .bool true] 82)
            obtain ⟨Y8_1, hW8⟩ : ∃ W, W = (Y16_2.setCell ⟨w.heap.size + 1 + 1 + 1 + 1, 0, none⟩ (.slice (some ⟨gA2, 0, none⟩) 1 capA2)).alloc (.cells #[.iface 41 (.pointer (some ⟨g1, 0, none⟩)), .bool true] 82) := ⟨_, rfl⟩
            rw [← hW8] at hpop h5n mD0 mD1 mD2 ⊢
            have hlY8_1 := h5n.lt
            clear hW8 c3 c4 f4 v2 v3 HS hcp hl4 hl3 hsz ND0 ND1 ND2
            have hq0 := HG0.out.below hpop.low hgl0
            have HA0 : ∀ {W : World}, Turns [w.heap.size] Y8_1 W → Has W g0 50 _ := fun ht => ht.has hq0 (by simp; omega)
            have hq1 := HG1.out.below hpop.low hgl1
            have HA1 : ∀ {W : World}, Turns [w.heap.size] Y8_1 W → Has W g1 50 _ := fun ht => ht.has hq1 (by simp; omega)
            have hno : ∀ z ∈ ([⟨.iface 41 (.pointer (some ⟨g0, 0, none⟩)), .int .i64 1, 0⟩] : List MapEntry), (Op.equal 27 (.iface 41 (.pointer (some ⟨g1, 0, none⟩))) z.key).run Tryd.prog Y8_1.drew = .ok false Y8_1.drew := by
              intro z hz
              have ht := (Turns.refl [w.heap.size] Y8_1).drew
              simp only [List.mem_cons, List.not_mem_nil, or_false] at hz
              subst hz
              exact eqAB g1 g0 Y8_1.drew _ _ (by omega) (HA1 ht) (HA0 ht)
            refine (callsIn_wide.2 (quiet_survey _ _ _ (lit_surveyA (w.heap.size + 1) w.heap.size (w.heap.size + 1 + 1) Y16_2.heap.size 1 3 #[⟨.iface 41 (.pointer (some ⟨g0, 0, none⟩)), .int .i64 1, 0⟩, ⟨.iface 41 (.pointer (some ⟨g1, 0, none⟩)), .int .i64 1, 1⟩, ⟨.iface 29 (.int .i64 k), .int .i64 2, 2⟩] 41 (.pointer (some ⟨g1, 0, none⟩)) (.int .i64 1) (parts2) true Y8_1 hpop.h3 h5n hpop.hS hpop.hm (fun b W => checkA b g1 W) (find_yes (.iface 41 (.pointer (some ⟨g1, 0, none⟩))) Y8_1.drew [⟨.iface 41 (.pointer (some ⟨g0, 0, none⟩)), .int .i64 1, 0⟩] ⟨.iface 41 (.pointer (some ⟨g1, 0, none⟩)), .int .i64 1, 1⟩ [⟨.iface 29 (.int .i64 k), .int .i64 2, 2⟩] (eqAA g1 Y8_1.drew) hno) (bits_kA 9998 g1)))).mono ?_
            rintro e Y16_1 ⟨rfl, hme, hte⟩
            have hs : NS w (w.heap.size + 1) w.heap.size (w.heap.size + 1 + 1) (w.heap.size + 1 + 1 + 1 + 1) (parts2) 3 us2 (.slice (some ⟨gA2, 0, none⟩) 1 capA2) 1 [.iface 41 (.pointer (some ⟨g0, 0, none⟩)), .bool true] #[⟨.iface 41 (.pointer (some ⟨g0, 0, none⟩)), .int .i64 1, 0⟩, ⟨.iface 41 (.pointer (some ⟨g1, 0, none⟩)), .int .i64 2, 1⟩, ⟨.iface 29 (.int .i64 k), .int .i64 2, 2⟩] 3 Y16_1 := hpop.map hte hme
            have qD0 := hpop.dmap mD0 hte
            have qD1 := hpop.dmap mD1 hte
            have qD2 := hpop.dmap mD2 hte
            clear hpop h5n hme hte mD0 mD1 mD2 hno hq0 HA0 hq1 HA1
            have c4 := hs.h4.cell 0
            have f4 := hs.h4.free 0
            have c3 := hs.h3.cell 0
            have v2 := World.ownsRow.cells hs.own (g := gA2) rfl 0 (.iface 41 (.pointer (some ⟨g0, 0, none⟩))) rfl
            have v3 := World.ownsRow.cells hs.own (g := gA2) rfl 1 (.bool true) rfl
            simp only [List.getElem?_toArray, List.getElem?_cons_zero] at c4 c3
            simp only [add_plain, Nat.zero_add] at v2 v3
            have hcp : 1 ≤ capA2 := by
              rcases hs.own.2 with ⟨h, _⟩ | ⟨g', cap', cur, hv, _, _, hn, _⟩
              · cases h
              · cases hv
                exact hn
            have hgw : gA2 < Y16_1.heap.size := (hs.own.lt gA2 rfl).2
            have hl4 := hs.h4.lt
            have hl3 := hs.h3.lt
            have hsz := hs.low.size
            have HS := Lib.hid hs
            have ND0 := Lib.hid qD0
            have ND1 := Lib.hid qD1
            have ND2 := Lib.hid qD2
            clear hs qD0 qD1 qD2
            gi_wp2
            rw [roundsIn_succ]
            gi_wp2
            refine ⟨trivial, ?_⟩
            have hpop := (HS.out.put (ownsRow_pop (xs := []) (last := [.iface 41 (.pointer (some ⟨g0, 0, none⟩)), .bool true]) (n := 0) rfl HS.out.own)).alloc (.cells #[.iface 41 (.pointer (some ⟨g0, 0, none⟩)), .bool true] 82)
            have h5n := Has.new (Y16_1.setCell ⟨w.heap.size + 1 + 1 + 1 + 1, 0, none⟩ (.slice (some ⟨gA2, 0, none⟩) 0 capA2)) 82 #[.iface 41 (.pointer (some ⟨g0, 0, none⟩)), .bool true]
            rw [show (Y16_1.setCell ⟨w.heap.size + 1 + 1 + 1 + 1, 0, none⟩ (.slice (some ⟨gA2, 0, none⟩) 0 capA2)).heap.size = Y16_1.heap.size by simp [World.setCell]] at h5n
            have mD0 := (HS.out.dput ND0.out (.slice (some ⟨gA2, 0, none⟩) 0 capA2)).alloc (.cells #[.iface 41 (.pointer (some ⟨g0, 0, none⟩)), .bool true] 82)
            have mD1 := (HS.out.dput ND1.out (.slice (some ⟨gA2, 0, none⟩) 0 capA2)).alloc (.cells #[.iface 41 (.pointer (some ⟨g0, 0, none⟩)), .bool true] 82)
            have mD2 := (HS.out.dput ND2.out (.slice (some ⟨gA2, 0, none⟩) 0 capA2)).alloc (.cells #[.iface 41 (.pointer (some ⟨g0, 0, none⟩)), .bool true] 82)
            obtain ⟨Y8_0, hW8⟩ : ∃ W, W = (Y16_1.setCell ⟨w.heap.size + 1 + 1 + 1 + 1, 0, none⟩ (.slice (some ⟨gA2, 0, none⟩) 0 capA2)).alloc (.cells #[.iface 41 (.pointer (some ⟨g0, 0, none⟩)), .bool true] 82) := ⟨_, rfl⟩
            rw [← hW8] at hpop h5n mD0 mD1 mD2 ⊢
            have hlY8_0 := h5n.lt
            clear hW8 c3 c4 f4 v2 v3 HS hcp hl4 hl3 hsz ND0 ND1 ND2
            refine (callsIn_wide.2 (quiet_survey _ _ _ (lit_surveyA (w.heap.size + 1) w.heap.size (w.heap.size + 1 + 1) Y16_1.heap.size 0 3 #[⟨.iface 41 (.pointer (some ⟨g0, 0, none⟩)), .int .i64 1, 0⟩, ⟨.iface 41 (.pointer (some ⟨g1, 0, none⟩)), .int .i64 2, 1⟩, ⟨.iface 29 (.int .i64 k), .int .i64 2, 2⟩] 41 (.pointer (some ⟨g0, 0, none⟩)) (.int .i64 1) (parts2) true Y8_0 hpop.h3 h5n hpop.hS hpop.hm (fun b W => checkA b g0 W) (find_yes (.iface 41 (.pointer (some ⟨g0, 0, none⟩))) Y8_0.drew [] ⟨.iface 41 (.pointer (some ⟨g0, 0, none⟩)), .int .i64 1, 0⟩ [⟨.iface 41 (.pointer (some ⟨g1, 0, none⟩)), .int .i64 2, 1⟩, ⟨.iface 29 (.int .i64 k), .int .i64 2, 2⟩] (eqAA g0 Y8_0.drew) (fun z hz => by simp at hz)) (bits_kA 9998 g0)))).mono ?_
            rintro e Y16_0 ⟨rfl, hme, hte⟩
            have hs : NS w (w.heap.size + 1) w.heap.size (w.heap.size + 1 + 1) (w.heap.size + 1 + 1 + 1 + 1) (parts2) 3 us2 (.slice (some ⟨gA2, 0, none⟩) 0 capA2) 0 [] #[⟨.iface 41 (.pointer (some ⟨g0, 0, none⟩)), .int .i64 2, 0⟩, ⟨.iface 41 (.pointer (some ⟨g1, 0, none⟩)), .int .i64 2, 1⟩, ⟨.iface 29 (.int .i64 k), .int .i64 2, 2⟩] 3 Y16_0 := hpop.map hte hme
            have qD0 := hpop.dmap mD0 hte
            have qD1 := hpop.dmap mD1 hte
            have qD2 := hpop.dmap mD2 hte
            clear hpop h5n hme hte mD0 mD1 mD2
            have c4 := hs.h4.cell 0
            have c3 := hs.h3.cell 0
            simp only [List.getElem?_toArray, List.getElem?_cons_zero] at c4 c3
            have HS := Lib.hid hs
            have ND0 := Lib.hid qD0
            have ND1 := Lib.hid qD1
            have ND2 := Lib.hid qD2
            clear hs qD0 qD1 qD2
            gi_wp2
            rw [roundsIn_succ]
            gi_wp2
            have h1 : Has Y16_0 (w.heap.size + 1) 70 #[.map (some w.heap.size), .int .i64 0, parts2, .bool false] := HS.out.hS
            have lw := HS.out.low
            have hDl0 : w.heap.size ≤ D0 := by omega
            have hDl1 : w.heap.size ≤ D1 := by omega
            have hDl2 : w.heap.size ≤ D2 := by omega
            have tk0 : Mark Y16_0 D2 := ND2.out
            have sv0 : Has (Y16_0.putObj D2 (.deferred none)) (w.heap.size + 1) 70 #[.map (some w.heap.size), .int .i64 0, parts2, .bool false] := (World.putObj_heap_other (by intro e; have z : Y16_0.heap[w.heap.size + 1]? = _ := h1; have y : Y16_0.heap[D2]? = _ := tk0; rw [e] at z; rw [y] at z; cases z)).trans h1
            have lw0 := lw.grown (grownBy_putObj' Y16_0 D2 (.deferred none)) lw.size (fun k e => by cases e; exact hDl2)
            have mkD1 : Mark (Y16_0.putObj D2 (.deferred none)) D1 := (World.putObj_heap_other (by omega)).trans ND1.out
            have mkD0 : Mark (Y16_0.putObj D2 (.deferred none)) D0 := (World.putObj_heap_other (by omega)).trans ND0.out
            have tk1 : Mark (Y16_0.putObj D2 (.deferred none)) D1 := mkD1
            have sv1 : Has ((Y16_0.putObj D2 (.deferred none)).putObj D1 (.deferred none)) (w.heap.size + 1) 70 #[.map (some w.heap.size), .int .i64 0, parts2, .bool false] := (World.putObj_heap_other (by intro e; have z : (Y16_0.putObj D2 (.deferred none)).heap[w.heap.size + 1]? = _ := sv0; have y : (Y16_0.putObj D2 (.deferred none)).heap[D1]? = _ := tk1; rw [e] at z; rw [y] at z; cases z)).trans sv0
            have lw1 := lw0.grown (grownBy_putObj' (Y16_0.putObj D2 (.deferred none)) D1 (.deferred none)) lw0.size (fun k e => by cases e; exact hDl1)
            have mkD0 : Mark ((Y16_0.putObj D2 (.deferred none)).putObj D1 (.deferred none)) D0 := (World.putObj_heap_other (by omega)).trans mkD0
            have tk2 : Mark ((Y16_0.putObj D2 (.deferred none)).putObj D1 (.deferred none)) D0 := mkD0
            have sv2 : Has (((Y16_0.putObj D2 (.deferred none)).putObj D1 (.deferred none)).putObj D0 (.deferred none)) (w.heap.size + 1) 70 #[.map (some w.heap.size), .int .i64 0, parts2, .bool false] := (World.putObj_heap_other (by intro e; have z : ((Y16_0.putObj D2 (.deferred none)).putObj D1 (.deferred none)).heap[w.heap.size + 1]? = _ := sv1; have y : ((Y16_0.putObj D2 (.deferred none)).putObj D1 (.deferred none)).heap[D0]? = _ := tk2; rw [e] at z; rw [y] at z; cases z)).trans sv1
            have lw2 := lw1.grown (grownBy_putObj' ((Y16_0.putObj D2 (.deferred none)).putObj D1 (.deferred none)) D0 (.deferred none)) lw1.size (fun k e => by cases e; exact hDl0)
            refine ⟨by simp, .inl ⟨_, _, rfl, run_takeDeferred tk0, ?_⟩⟩
            refine ⟨by simp, .inl ⟨_, _, rfl, run_takeDeferred tk1, ?_⟩⟩
            refine ⟨by simp, .inl ⟨_, _, rfl, run_takeDeferred tk2, ?_⟩⟩
            exact ⟨_, results_tmp rfl _ _ _, w.heap.size + 1, w.heap.size, parts2, rfl, sv2, lw2⟩
end Go.Proofs.YtboeobgkepdabaaDoor.ft
