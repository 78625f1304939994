/-
  newSurvey at an At that wraps a Kind.
-/
import Derived.Test.YtnejkgkikpgajaaDoorFtBack
import Derived.Test.YtnejkgkikpgajaaDoorFtNS0
import Derived.Test.YtnejkgkikpgajaaDoorFtQuiet
namespace Go.Proofs.YtnejkgkikpgajaaDoor.ft
open Go.ChangeShapes Go.WideShapes Go.ChangeAt Go.RowKit Go.Extern.Stop Go.Stop Go.Extern Go.Shelf
open Go.Proofs.YtnejkgkikpgajaaDoor.lx (Has)
set_option linter.unusedVariables false
attribute [local go_sem] Oper.semAt_some

theorem visit_info : (Tryd.prog.info? 148).map (fun i => (i.zero, i.size, i.bytes)) = some (some (.agg #[.nilIface, .bool false]), 2, 24) := by kernel_rfl

set_option maxRecDepth 100000 in
set_option maxHeartbeats 8000000 in
theorem newSurvey_at (g : Nat) (x y k : Int) (nm : ByteArray) (nd : Bool) (w : World) (hg : Has w g 180 #[.int .i64 x, .int .i64 y, .string nm, .bool nd, .iface 56 (.int .i64 k)]) :
    Calls Tryd.prog 39 #[.iface 177 (.pointer (some ⟨g, 0, none⟩))] w fun e w' => ∃ S m parts, e = .returned (.pointer (some ⟨S, 0, none⟩)) ∧ Has w' S 124 #[.map (some m), .int .i64 0, parts, .bool false] ∧ Below w.heap.size w w' := by
  have hmf : ∀ (fn : Fn) (first cap : Array Value) (w : World), (Instr.makeFunc fn first cap).run Tryd.prog w = .ok (.func fn first cap) w := fun _ _ _ _ => rfl
  have hmk : ∀ (t : TypeId) (w : World), (Instr.makeMap t none).run Tryd.prog w = .ok (.map (some w.heap.size)) (w.alloc (.map #[] 0)) := fun _ _ => rfl
  obtain ⟨i0, hi0, hz0, hz1, hz2⟩ := info_parts visit_info
  have HG := Lib.hid hg
  clear hg
  refine (callsIn_wide (n := 10)).1 ?_
  refine callsIn_of_wp_marks Tryd.func39 rfl trivial ?_ rfl
  simp only [Tryd.ntmps39, List.size_toArray, List.length_cons, List.length_nil, Nat.reduceAdd, Nat.reduceSub, Array.replicate_succ, Array.replicate_zero, List.push_toArray, List.append_toArray, List.nil_append, List.cons_append]
  gi_wp2
  refine wpIn_loop_rounds 5 ?_
  rw [roundsIn_succ]
  gi_wp2
  refine ⟨trivial, ?_⟩
  obtain ⟨W0, hW0⟩ : ∃ W0, W0 = w6 w (.iface 177 (.pointer (some ⟨g, 0, none⟩))) := ⟨_, rfl⟩
  obtain ⟨ns0, h5⟩ := ns_start w (.iface 177 (.pointer (some ⟨g, 0, none⟩)))
  rw [show ((((((w.alloc (.map #[] 0)).alloc (.cells #[.map (some w.heap.size), .int .i64 0, .slice none 0 0, .bool false] 124)).alloc (.cells #[.pointer (some ⟨w.heap.size + 1, 0, none⟩)] 119)).alloc
    (.cells #[.iface 177 (.pointer (some ⟨g, 0, none⟩)), .bool false] 148)).alloc (.cells #[.slice (some ⟨w.heap.size + 1 + 1 + 1, 0, none⟩) 0 1] 149)).alloc (.cells #[.iface 177 (.pointer (some ⟨g, 0, none⟩)), .bool false] 148)) = W0 from hW0.symm]
  rw [← hW0] at ns0 h5
  clear hW0
  refine (callsIn_wide.2 (enters_new (w.heap.size + 1) w.heap.size 0 0 #[] 177 (.pointer (some ⟨g, 0, none⟩)) (.slice none 0 0) W0 ns0.hS ns0.hm (fun b W => checkA b g W) (fun W => find_nil _ W) (fun W => findA1 g (.int .i64 1) 0 W))).mono ?_
  rintro e W1 ⟨rfl, hS1, hm1, ht1⟩
  have ns1 := ns0.map ht1 hm1
  have h51 := ht1.has h5 (by simpa using (map_has ns0.hm h5).symm)
  clear ns0 h5 hS1 hm1 ht1
  have c4 := ns1.h4.cell 0
  have f4 := ns1.h4.free 0
  have c5 := h51.cell 0
  have c3 := ns1.h3.cell 0
  simp only [List.getElem?_toArray, List.getElem?_cons_zero] at c3 c4 c5
  have NS1 := Lib.hid ns1
  have H5 := Lib.hid h51
  have h5t := h51
  have hsz1 := ns1.low.size
  clear ns1 h51
  gi_wp2_with (gi_at_builtin; refine wpListIn_append_own _ rfl _ _ 149 rfl w.heap.size 148 i0 _ 2 24 Tryd.underlying149 hi0 hz0 hz1 hz2 rfl (by decide) _ _ _ rfl (NS1.out.own.alloc _) ⟨W1.heap.size, 0, none⟩ 1 1 [.iface 177 (.pointer (some ⟨g, 0, none⟩)), .bool true] rfl rfl ?c1 ?c2 ?c3 ?c4 ?c5 ?_)
  case c1 =>
    intro j u hj
    match j, hj with
    | 0, hj => simp at hj; subst hj; simp [Addr.add]
    | 1, hj => simp at hj; subst hj; simp [Addr.add]
  case c2 => intro u hu; simp at hu; rcases hu with rfl | rfl <;> rfl
  case c3 => unfold maxLen; omega
  case c4 => omega
  case c5 => simp; omega
  intro v' W2 hown2 hgrow _
  obtain ⟨g2, cap2, hv2, hbg2, hlt2⟩ := World.ownsRow.form hown2 (by omega)
  subst hv2
  have n1a := NS1.out.alloc (.cells #[.iface 177 (.pointer (some ⟨g, 0, none⟩)), .bool true] 148)
  have h4w := n1a.far hgrow n1a.h4 (by decide)
  have ns3 := n1a.grown hgrow hown2
  have d4 := h4w.cell 0
  have e4 := h4w.free 0
  have d3 := ns3.h3.cell 0
  have hne5 : some (w.heap.size + 1 + 1 + 1 + 1 + 1) ≠ (Value.slice (some ⟨w.heap.size + 1 + 1 + 1, 0, none⟩) 0 1).ownBlock := by simp [Value.ownBlock]; omega
  have h53 := ((H5.out.alloc (.cells #[.iface 177 (.pointer (some ⟨g, 0, none⟩)), .bool true] 148)).grown hgrow hne5).put_far 0 (.slice (some ⟨g2, 0, none⟩) (0 + 1) cap2) (ne_types h5t NS1.out.h4 (by decide))
  have d5 := h53.cell 0
  simp only [List.getElem?_toArray, List.getElem?_cons_zero] at d3 d4 d5
  have NS3 := Lib.hid ns3
  have H53 := Lib.hid h53
  clear n1a h4w ns3 h53 hgrow hown2 c3 c4 c5 f4
  gi_wp2
  refine ⟨trivial, ?_⟩
  obtain ⟨W3, hW3⟩ : ∃ W3, W3 = W2.setCell ⟨w.heap.size + 1 + 1 + 1 + 1, 0, none⟩ (.slice (some ⟨g2, 0, none⟩) 1 cap2) := ⟨_, rfl⟩
  rw [← hW3]
  have ns3 : NS w (w.heap.size + 1) w.heap.size (w.heap.size + 1 + 1) (w.heap.size + 1 + 1 + 1 + 1) (.slice none 0 0) 0 [] (.slice (some ⟨g2, 0, none⟩) 1 cap2) 1 [.iface 177 (.pointer (some ⟨g, 0, none⟩)), .bool true] #[⟨.iface 177 (.pointer (some ⟨g, 0, none⟩)), .int .i64 1, 0⟩] 1 W3 := by rw [hW3]; exact NS3.out
  have h53 : Has W3 (w.heap.size + 1 + 1 + 1 + 1 + 1) 148 #[.iface 177 (.pointer (some ⟨g, 0, none⟩)), .bool false] := by rw [hW3]; exact H53.out
  have hg3 := HG.out.below ns3.low HG.out.lt
  clear hW3 NS3 H53 NS1 H5 h5t d3 d4 d5 e4
  refine (callsIn_wide.2 (take_at (w.heap.size + 1) w.heap.size g w.heap.size x y k nm nd W3 ns3.hS hg3 ns3.low.size)).mono ?_
  rintro e W4 ⟨r, pg, cap4, u4, rfl, hr4, hrb4, hS4, hown4, hne4, ht4⟩
  have hS4' : Has W4 (w.heap.size + 1) 124 #[.map (some w.heap.size), .int .i64 0, .slice (some ⟨pg, 0, none⟩) 1 cap4, .bool false] := hS4
  have ns4 := ns3.took ht4 (by intro i hi; simp at hi; exact .inl hi) hS4' hown4
  have h54 := ht4.has h53 (by simp; omega)
  have NS4 := Lib.hid ns4
  have H54 := Lib.hid h54
  have HR4 := Lib.hid hr4
  have hrl4 : w.heap.size ≤ r := Nat.le_trans ns3.low.size hrb4
  clear ns3 h53 hg3 ns4 h54 hr4 hrb4 hS4 hS4' hown4 ht4
  gi_wp2
  refine ⟨trivial, ?_⟩
  refine (callsIn_wide.2 (backward (some ⟨r, 0, none⟩) 1 1 W4)).mono ?_
  rintro e W5 ⟨rfl, rfl⟩
  gi_wp2
  have hml : w.heap.size < (W4.alloc (.cells #[.slice (some ⟨r, 0, none⟩) 1 1] 122)).heap.size := by have := lt_get NS4.out.hm; simp; omega
  have hcb : (W4.alloc (.cells #[.slice (some ⟨r, 0, none⟩) 1 1] 122)).cell? ⟨W4.heap.size, 0, none⟩ = some (.slice (some ⟨r, 0, none⟩) 1 1) := (Has.new W4 122 #[.slice (some ⟨r, 0, none⟩) 1 1]).cell 0
  have hcr : (W4.alloc (.cells #[.slice (some ⟨r, 0, none⟩) 1 1] 122)).cell? ⟨r, 0, none⟩ = some (.iface 56 (.int .i64 k)) := (HR4.out.alloc (.cells #[.slice (some ⟨r, 0, none⟩) 1 1] 122)).cell 0
  have ns5 := NS4.out.alloc (.cells #[.slice (some ⟨r, 0, none⟩) 1 1] 122)
  obtain ⟨W5, hW5⟩ : ∃ W5, W5 = W4.alloc (.cells #[.slice (some ⟨r, 0, none⟩) 1 1] 122) := ⟨_, rfl⟩
  rw [← hW5] at hml hcb hcr ns5 ⊢
  have NS5 := Lib.hid ns5
  clear ns5 hW5
  refine wpIn_rangeFunc_ownG (α := Unit) rfl (by omega) (gf := 83) (lb := #[.pointer (some ⟨W4.heap.size, 0, none⟩)]) rfl trivial (enters_of Tryd.func83 (by kernel_rfl) rfl)
    (one_stops 9 (by omega) W4.heap.size r 56 (.int .i64 k) W5 hcb hcr) (fun _ _ => trivial) (fun _ _ _ _ _ _ _ _ => trivial) (Below.refl _ _) (fun _ => rfl)
    (fun pre W => (pre = [] ∧ NS w (w.heap.size + 1) w.heap.size (w.heap.size + 1 + 1) (w.heap.size + 1 + 1 + 1 + 1) (.slice (some ⟨pg, 0, none⟩) 1 cap4) 1 [u4] (.slice (some ⟨g2, 0, none⟩) 1 cap2) 1 [.iface 177 (.pointer (some ⟨g, 0, none⟩)), .bool true] #[⟨.iface 177 (.pointer (some ⟨g, 0, none⟩)), .int .i64 1, 0⟩] 1 W) ∨ (pre = [()] ∧ ∃ g6 cap6, NS w (w.heap.size + 1) w.heap.size (w.heap.size + 1 + 1) (w.heap.size + 1 + 1 + 1 + 1) (.slice (some ⟨pg, 0, none⟩) 1 cap4) 1 [u4] (.slice (some ⟨g6, 0, none⟩) 2 cap6) 2 [.iface 177 (.pointer (some ⟨g, 0, none⟩)), .bool true, .iface 56 (.int .i64 k), .bool false] #[⟨.iface 177 (.pointer (some ⟨g, 0, none⟩)), .int .i64 1, 0⟩] 1 W))
    (fun _ _ _ => False) ?hI (fun _ _ _ _ _ hs _ _ => hs) (.inl ⟨rfl, NS5.out⟩) ?a1 ?assign ?body ?done ?stop
  case hI =>
    rintro pre X X' row (⟨h0, hs⟩ | ⟨h0, g6, cap6, hs⟩) hg hr
    · exact .inl ⟨h0, hs.abides hml (Nat.le_of_lt hml) hg hr⟩
    · exact .inr ⟨h0, g6, cap6, hs.abides hml (Nat.le_of_lt hml) hg hr⟩
  case assign =>
    intro l x W K hK
    gi_wp2
    exact hK
  case body =>
    rintro l pre x W (⟨rfl, hs⟩ | ⟨rfl, _⟩) hlt
    · have c4 := hs.h4.cell 0
      have f4 := hs.h4.free 0
      simp only [List.getElem?_toArray, List.getElem?_cons_zero] at c4
      have HS := Lib.hid hs
      have hsz := hs.low.size
      clear hs
      gi_wp2_with (gi_at_builtin; refine wpListIn_append_own _ rfl _ _ 149 rfl w.heap.size 148 i0 _ 2 24 Tryd.underlying149 hi0 hz0 hz1 hz2 rfl (by decide) _ _ _ rfl (HS.out.own.alloc _) ⟨W.heap.size, 0, none⟩ 1 1 [.iface 56 (.int .i64 k), .bool false] rfl rfl ?c1 ?c2 ?c3 ?c4 ?c5 ?_)
      case c1 =>
        intro j u hj
        match j, hj with
        | 0, hj => simp at hj; subst hj; simp [Addr.add]
        | 1, hj => simp at hj; subst hj; simp [Addr.add]
      case c2 => intro u hu; simp at hu; rcases hu with rfl | rfl <;> rfl
      case c3 => unfold maxLen; omega
      case c4 => omega
      case c5 => simp; omega
      intro v' W6 hown6 hgrow6 _
      obtain ⟨g6, cap6, hv6, _⟩ := World.ownsRow.form hown6 (by omega)
      subst hv6
      have na := HS.out.alloc (.cells #[.iface 56 (.int .i64 k), .bool false] 148)
      have h4w := na.far hgrow6 na.h4 (by decide)
      have NS6 := Lib.hid (na.grown hgrow6 hown6)
      have hks : KeepsOthers W (W6.setCell ⟨w.heap.size + 1 + 1 + 1 + 1, 0, none⟩ (.slice (some ⟨g6, 0, none⟩) (1 + 1) cap6)) := ((KeepsOthers.alloc W _).trans (KeepsOthers.of_grownBy hgrow6 (fun j o e ho => by
        obtain ⟨c, fz, hc⟩ := Lib.ownsRow_kind na.own j e
        rw [hc] at ho
        cases ho
        rfl))).trans (KeepsOthers.setCell _ _ _)
      have HK6 := Lib.hid (hks.from W5.heap.size)
      have d4 := h4w.cell 0
      have e4 := h4w.free 0
      simp only [List.getElem?_toArray, List.getElem?_cons_zero] at d4
      clear na h4w hks hgrow6 hown6 c4 f4
      gi_wp2
      exact ⟨HK6.out, trivial, .inr ⟨rfl, g6, cap6, NS6.out⟩⟩
    · simp at hlt
  case done =>
    rintro D xs W7 hD rfl (⟨h, _⟩ | ⟨_, g6, cap6, hs⟩) hK
    · cases h
    · have c4 := hs.h4.cell 0
      have f4 := hs.h4.free 0
      have v2 := World.ownsRow.cells hs.own (g := g6) rfl 2 (.iface 56 (.int .i64 k)) rfl
      have v3 := World.ownsRow.cells hs.own (g := g6) rfl 3 (.bool false) rfl
      simp only [List.getElem?_toArray, List.getElem?_cons_zero] at c4
      simp only [add_plain, Nat.zero_add] at v2 v3
      have c3 := hs.h3.cell 0
      simp only [List.getElem?_toArray, List.getElem?_cons_zero] at c3
      have hcp : 2 ≤ cap6 := by
        rcases hs.own.2 with ⟨h, _⟩ | ⟨g', cap', cur, hv, _, _, hn, _⟩
        · cases h
        · cases hv
          exact hn
      have HS := Lib.hid hs
      have hsz := hs.low.size
      have hg6 : g6 < W7.heap.size := (hs.own.lt g6 rfl).2
      have hl4 := hs.h4.lt
      have hl3 := hs.h3.lt
      have HK := Lib.hid hK
      have hDl := lt_get hK
      clear hs hK
      gi_wp2
      rw [roundsIn_succ]
      gi_wp2
      refine ⟨trivial, ?_⟩
      have hpop := (HS.out.put (ownsRow_pop (xs := [.iface 177 (.pointer (some ⟨g, 0, none⟩)), .bool true]) (last := [.iface 56 (.int .i64 k), .bool false]) (n := 1) rfl HS.out.own)).alloc (.cells #[.iface 56 (.int .i64 k), .bool false] 148)
      have h5n := Has.new (W7.setCell ⟨w.heap.size + 1 + 1 + 1 + 1, 0, none⟩ (.slice (some ⟨g6, 0, none⟩) 1 cap6)) 148 #[.iface 56 (.int .i64 k), .bool false]
      rw [show (W7.setCell ⟨w.heap.size + 1 + 1 + 1 + 1, 0, none⟩ (.slice (some ⟨g6, 0, none⟩) 1 cap6)).heap.size = W7.heap.size by simp [World.setCell]] at h5n
      have hK8 : ((W7.setCell ⟨w.heap.size + 1 + 1 + 1 + 1, 0, none⟩ (.slice (some ⟨g6, 0, none⟩) 1 cap6)).alloc (.cells #[.iface 56 (.int .i64 k), .bool false] 148)).heap[D]? = some (.deferred (some [])) := by
        rw [Lib.alloc_old _ _ D (by simpa [World.setCell] using hDl), Below.heap_setCell _ _ _ _ (by intro e; have h1 := HK.out; have h2 : W7.heap[w.heap.size + 1 + 1 + 1 + 1]? = _ := HS.out.h4; rw [e] at h1; rw [h1] at h2; cases h2)]
        exact HK.out
      obtain ⟨W8, hW8⟩ : ∃ W8, W8 = (W7.setCell ⟨w.heap.size + 1 + 1 + 1 + 1, 0, none⟩ (.slice (some ⟨g6, 0, none⟩) 1 cap6)).alloc (.cells #[.iface 56 (.int .i64 k), .bool false] 148) := ⟨_, rfl⟩
      rw [← hW8] at hpop h5n hK8 ⊢
      have hl57 : W7.heap.size < W8.heap.size := h5n.lt
      clear hW8 c3 c4 f4 v2 v3 HS HK
      refine (callsIn_wide.2 (enters_new (w.heap.size + 1) w.heap.size 1 1 #[⟨.iface 177 (.pointer (some ⟨g, 0, none⟩)), .int .i64 1, 0⟩] 56 (.int .i64 k) (.slice (some ⟨pg, 0, none⟩) 1 cap4) W8 hpop.hS hpop.hm (fun b W => checkK b k W) (fun W => findK1 g k (.int .i64 1) 0 W) (fun W => findK2 g k (.int .i64 1) (.int .i64 1) 0 1 W))).mono ?_
      rintro e W9 ⟨rfl, hS9, hm9, ht9⟩
      have ns9 := hpop.map ht9 hm9
      have h59 := ht9.has h5n (by simpa using (map_has hpop.hm h5n).symm)
      have hK9 : W9.heap[D]? = some (.deferred (some [])) := (ht9.block D (lt_get hK8) (by intro e; simp at e; rw [e, hpop.hm] at hK8; cases hK8)).trans hK8
      clear hpop h5n hS9 hm9 ht9 hK8
      have c4 := ns9.h4.cell 0
      have f4 := ns9.h4.free 0
      have c5 := h59.cell 0
      have c3 := ns9.h3.cell 0
      simp only [List.getElem?_toArray, List.getElem?_cons_zero] at c3 c4 c5
      have NS9 := Lib.hid ns9
      have H59 := Lib.hid h59
      have HK9 := Lib.hid hK9
      have hsz9 := ns9.low.size
      clear ns9 h59 hK9
      gi_wp2_with (gi_at_builtin; refine wpListIn_append_own _ rfl _ _ 149 rfl w.heap.size 148 i0 _ 2 24 Tryd.underlying149 hi0 hz0 hz1 hz2 rfl (by decide) _ _ _ rfl (NS9.out.own.alloc _) ⟨W9.heap.size, 0, none⟩ 1 1 [.iface 56 (.int .i64 k), .bool true] rfl rfl ?c1 ?c2 ?c3 ?c4 ?c5 ?_)
      case c1 =>
        intro j u hj
        match j, hj with
        | 0, hj => simp at hj; subst hj; simp [Addr.add]
        | 1, hj => simp at hj; subst hj; simp [Addr.add]
      case c2 => intro u hu; simp at hu; rcases hu with rfl | rfl <;> rfl
      case c3 => unfold maxLen; omega
      case c4 => omega
      case c5 => simp; omega
      intro v' W10 hown10 hgrow10 _
      obtain ⟨g10, cap10, hv10, _⟩ := World.ownsRow.form hown10 (by omega)
      subst hv10
      have n9a := NS9.out.alloc (.cells #[.iface 56 (.int .i64 k), .bool true] 148)
      have h4w := n9a.far hgrow10 n9a.h4 (by decide)
      have ns11 := n9a.grown hgrow10 hown10
      have hne5 : some W7.heap.size ≠ (Value.slice (some ⟨g6, 0, none⟩) 1 cap6).ownBlock := by simp [Value.ownBlock]; omega
      have h511 := ((H59.out.alloc (.cells #[.iface 56 (.int .i64 k), .bool true] 148)).grown hgrow10 hne5).put_far 0 (.slice (some ⟨g10, 0, none⟩) (1 + 1) cap10) (ne_types H59.out NS9.out.h4 (by decide))
      have hD10 : W10.heap[D]? = some (.deferred (some [])) := (hgrow10.block D (by have := lt_get HK9.out; simp; omega) (by
        intro e
        obtain ⟨c, fz, hc⟩ := Lib.ownsRow_kind n9a.own D e.symm
        have h1 := (Lib.alloc_old W9 (.cells #[.iface 56 (.int .i64 k), .bool true] 148) D (lt_get HK9.out)).trans HK9.out
        rw [h1] at hc
        cases hc)).trans ((Lib.alloc_old W9 _ D (lt_get HK9.out)).trans HK9.out)
      have hD11 : (W10.setCell ⟨w.heap.size + 1 + 1 + 1 + 1, 0, none⟩ (.slice (some ⟨g10, 0, none⟩) (1 + 1) cap10)).heap[D]? = some (.deferred (some [])) := by
        rw [Below.heap_setCell _ _ _ _ (by intro e; have h2 : W10.heap[w.heap.size + 1 + 1 + 1 + 1]? = _ := h4w; rw [e] at hD10; rw [hD10] at h2; cases h2)]
        exact hD10
      obtain ⟨W11, hW11⟩ : ∃ W11, W11 = W10.setCell ⟨w.heap.size + 1 + 1 + 1 + 1, 0, none⟩ (.slice (some ⟨g10, 0, none⟩) 2 cap10) := ⟨_, rfl⟩
      have ns11' : NS w (w.heap.size + 1) w.heap.size (w.heap.size + 1 + 1) (w.heap.size + 1 + 1 + 1 + 1) (.slice (some ⟨pg, 0, none⟩) 1 cap4) 1 [u4] (.slice (some ⟨g10, 0, none⟩) 2 cap10) 2 [.iface 177 (.pointer (some ⟨g, 0, none⟩)), .bool true, .iface 56 (.int .i64 k), .bool true] #[⟨.iface 177 (.pointer (some ⟨g, 0, none⟩)), .int .i64 1, 0⟩, ⟨.iface 56 (.int .i64 k), .int .i64 1, 1⟩] 2 W11 := by rw [hW11]; exact ns11
      have h511' : Has W11 W7.heap.size 148 #[.iface 56 (.int .i64 k), .bool false] := by rw [hW11]; exact h511
      have hD11' : W11.heap[D]? = some (.deferred (some [])) := by rw [hW11]; exact hD11
      have d4 := h4w.cell 0
      have e4 := h4w.free 0
      have d3 := ns11'.h3.cell 0
      have d5 := h511'.cell 0
      simp only [List.getElem?_toArray, List.getElem?_cons_zero] at d3 d4 d5
      rw [hW11] at d3 d5
      have NS11 := Lib.hid ns11'
      have H511 := Lib.hid h511'
      have HD11 := Lib.hid hD11'
      have HW11 := Lib.hid hW11
      clear n9a h4w ns11 h511 hgrow10 hown10 c3 c4 c5 f4 hD10 hD11 ns11' h511' hD11' hW11
      gi_wp2
      refine ⟨trivial, ?_⟩
      rw [← HW11.out]
      clear d3 d4 d5 e4 HW11 NS9 H59 HK9
      refine (callsIn_wide.2 (take_kind (w.heap.size + 1) w.heap.size w.heap.size pg cap4 k u4 W11 NS11.out.hS NS11.out.po NS11.out.low.size)).mono ?_
      rintro e W12 ⟨parts12, us12, rfl, hS12, hown12, ht12⟩
      have hpk := Lib.ownsRow_kind NS11.out.po pg rfl
      have hpb := (NS11.out.po.lt pg rfl).1
      have ns12 := NS11.out.took ht12 (by
        intro i hi
        simp at hi
        rcases hi with rfl | rfl
        · exact .inl rfl
        · obtain ⟨c, fz, hc⟩ := hpk
          exact .inr ⟨hpb, c, fz, hc⟩) hS12 hown12
      have hD12 : W12.heap[D]? = some (.deferred (some [])) := (ht12.block D (lt_get HD11.out) (by
        intro e
        simp at e
        rcases e with rfl | rfl
        · have h2 : W11.heap[w.heap.size + 1]? = _ := NS11.out.hS
          rw [HD11.out] at h2; cases h2
        · obtain ⟨c, fz, hc⟩ := hpk
          rw [HD11.out] at hc; cases hc)).trans HD11.out
      have NS12 := Lib.hid ns12
      have HD12 := Lib.hid hD12
      clear ns12 hD12 hpk hpb hS12 hown12 ht12 NS11 H511 HD11
      gi_wp2
      refine ⟨trivial, ?_⟩
      refine (callsIn_wide.2 (backward none 0 0 W12)).mono ?_
      rintro e W13 ⟨rfl, rfl⟩
      gi_wp2
      have hml2 : w.heap.size < (W12.alloc (.cells #[.slice none 0 0] 122)).heap.size := by have := lt_get NS12.out.hm; simp; omega
      have hDl2 : D < (W12.alloc (.cells #[.slice none 0 0] 122)).heap.size := by have := lt_get HD12.out; simp; omega
      have hcb2 : (W12.alloc (.cells #[.slice none 0 0] 122)).cell? ⟨W12.heap.size, 0, none⟩ = some (.slice none 0 0) := (Has.new W12 122 #[.slice none 0 0]).cell 0
      have ns13 := NS12.out.alloc (.cells #[.slice none 0 0] 122)
      have hD13 := (Lib.alloc_old W12 (.cells #[.slice none 0 0] 122) D (lt_get HD12.out)).trans HD12.out
      obtain ⟨W13, hW13⟩ : ∃ W13, W13 = W12.alloc (.cells #[.slice none 0 0] 122) := ⟨_, rfl⟩
      rw [← hW13] at hml2 hcb2 ns13 hD13 hDl2 ⊢
      have NS13 := Lib.hid ns13
      have HD13 := Lib.hid hD13
      clear ns13 hD13 hW13
      refine wpIn_rangeFunc_ownG (α := Unit) rfl (by omega) (gf := 83) (lb := #[.pointer (some ⟨W12.heap.size, 0, none⟩)]) rfl trivial (enters_of Tryd.func83 (by kernel_rfl) rfl)
        (none_stops 9 W12.heap.size W13 hcb2 (fun _ => #[.int .i64 0, .iface 56 (.int .i64 k)])) (fun _ _ => trivial) (fun _ _ _ _ _ _ _ _ => trivial) (Below.refl _ _) (fun _ => rfl)
        (fun pre W => NS w (w.heap.size + 1) w.heap.size (w.heap.size + 1 + 1) (w.heap.size + 1 + 1 + 1 + 1) parts12 2 us12 (.slice (some ⟨g10, 0, none⟩) 2 cap10) 2 [.iface 177 (.pointer (some ⟨g, 0, none⟩)), .bool true, .iface 56 (.int .i64 k), .bool true] #[⟨.iface 177 (.pointer (some ⟨g, 0, none⟩)), .int .i64 1, 0⟩, ⟨.iface 56 (.int .i64 k), .int .i64 1, 1⟩] 2 W ∧ W.heap[D]? = some (.deferred (some [])))
        (fun _ _ _ => False) ?hI2 (fun _ _ _ _ _ hs _ _ => hs) ⟨NS13.out, HD13.out⟩ ?a2 ?assign2 ?body2 ?done2 ?stop2
      case hI2 =>
        rintro pre X X' row ⟨hs, hd⟩ hg hr
        exact ⟨hs.abides hml2 (Nat.le_of_lt hml2) hg hr, (hg.block D (lt_get hd) (by intro e; have := (hr D e.symm).1; omega)).trans hd⟩
      case assign2 =>
        intro l x W K hK
        gi_wp2
        exact hK
      case body2 =>
        intro l pre x W _ hlt
        exact absurd hlt (Nat.not_lt_zero _)
      case stop2 => intro D c pre W _ _ h _; exact h.elim
      case done2 =>
        rintro D2 xs W14 hD2 rfl ⟨hs, hd⟩ hK2
        have c4 := hs.h4.cell 0
        have f4 := hs.h4.free 0
        have c3 := hs.h3.cell 0
        have v2 := World.ownsRow.cells hs.own (g := g10) rfl 2 (.iface 56 (.int .i64 k)) rfl
        have v3 := World.ownsRow.cells hs.own (g := g10) rfl 3 (.bool true) rfl
        simp only [List.getElem?_toArray, List.getElem?_cons_zero] at c4 c3
        simp only [add_plain, Nat.zero_add] at v2 v3
        have hcp : 2 ≤ cap10 := by
          rcases hs.own.2 with ⟨h, _⟩ | ⟨g', cap', cur, hv, _, _, hn, _⟩
          · cases h
          · cases hv
            exact hn
        have hg10 : g10 < W14.heap.size := (hs.own.lt g10 rfl).2
        have hl4 := hs.h4.lt
        have hl3 := hs.h3.lt
        have HS := Lib.hid hs
        have HDa := Lib.hid hd
        have HDb := Lib.hid hK2
        have hsz := hs.low.size
        clear hs hd hK2
        gi_wp2
        rw [roundsIn_succ]
        gi_wp2
        refine ⟨trivial, ?_⟩
        have hpop := (HS.out.put (ownsRow_pop (xs := [.iface 177 (.pointer (some ⟨g, 0, none⟩)), .bool true]) (last := [.iface 56 (.int .i64 k), .bool true]) (n := 1) rfl HS.out.own)).alloc (.cells #[.iface 56 (.int .i64 k), .bool true] 148)
        have h5n := Has.new (W14.setCell ⟨w.heap.size + 1 + 1 + 1 + 1, 0, none⟩ (.slice (some ⟨g10, 0, none⟩) 1 cap10)) 148 #[.iface 56 (.int .i64 k), .bool true]
        rw [show (W14.setCell ⟨w.heap.size + 1 + 1 + 1 + 1, 0, none⟩ (.slice (some ⟨g10, 0, none⟩) 1 cap10)).heap.size = W14.heap.size by simp [World.setCell]] at h5n
        have hkeep : ∀ (d : Nat), W14.heap[d]? = some (.deferred (some [])) → ((W14.setCell ⟨w.heap.size + 1 + 1 + 1 + 1, 0, none⟩ (.slice (some ⟨g10, 0, none⟩) 1 cap10)).alloc (.cells #[.iface 56 (.int .i64 k), .bool true] 148)).heap[d]? = some (.deferred (some [])) := by
          intro d hd
          rw [Lib.alloc_old _ _ d (by simpa [World.setCell] using lt_get hd), Below.heap_setCell _ _ _ _ (by intro e; have h2 : W14.heap[w.heap.size + 1 + 1 + 1 + 1]? = _ := HS.out.h4; rw [e] at hd; rw [hd] at h2; cases h2)]
          exact hd
        have hda := hkeep D HDa.out
        have hdb := hkeep D2 HDb.out
        obtain ⟨W15, hWn⟩ : ∃ W15, W15 = (W14.setCell ⟨w.heap.size + 1 + 1 + 1 + 1, 0, none⟩ (.slice (some ⟨g10, 0, none⟩) 1 cap10)).alloc (.cells #[.iface 56 (.int .i64 k), .bool true] 148) := ⟨_, rfl⟩
        rw [← hWn] at hpop h5n hda hdb ⊢
        clear hkeep hWn c3 c4 f4 v2 v3 HS HDa HDb
        refine (callsIn_wide.2 (quiet_survey _ _ _ (lit_survey (w.heap.size + 1) w.heap.size (w.heap.size + 1 + 1) W14.heap.size 1 2 #[⟨.iface 177 (.pointer (some ⟨g, 0, none⟩)), .int .i64 1, 0⟩, ⟨.iface 56 (.int .i64 k), .int .i64 1, 1⟩] 56 (.int .i64 k) (.int .i64 1) parts12 true W15 hpop.h3 h5n hpop.hS hpop.hm (fun b W => checkK b k W) (fun W => findK2 g k (.int .i64 1) (.int .i64 1) 0 1 W) (bits_kK 9998 k)))).mono ?_
        rintro e W16 ⟨rfl, hme, hte⟩
        have nse : NS w (w.heap.size + 1) w.heap.size (w.heap.size + 1 + 1) (w.heap.size + 1 + 1 + 1 + 1) parts12 2 us12 (.slice (some ⟨g10, 0, none⟩) 1 cap10) 1 [.iface 177 (.pointer (some ⟨g, 0, none⟩)), .bool true] #[⟨.iface 177 (.pointer (some ⟨g, 0, none⟩)), .int .i64 1, 0⟩, ⟨.iface 56 (.int .i64 k), .int .i64 2, 1⟩] 2 W16 := hpop.map hte hme
        have hda2 : W16.heap[D]? = some (.deferred (some [])) := (hte.block D (lt_get hda) (by intro e; simp at e; rw [e, hpop.hm] at hda; cases hda)).trans hda
        have hdb2 : W16.heap[D2]? = some (.deferred (some [])) := (hte.block D2 (lt_get hdb) (by intro e; simp at e; rw [e, hpop.hm] at hdb; cases hdb)).trans hdb
        clear hpop h5n hda hdb hme hte
        have c4 := nse.h4.cell 0
        have f4 := nse.h4.free 0
        have c3 := nse.h3.cell 0
        have v2 := World.ownsRow.cells nse.own (g := g10) rfl 0 (.iface 177 (.pointer (some ⟨g, 0, none⟩))) rfl
        have v3 := World.ownsRow.cells nse.own (g := g10) rfl 1 (.bool true) rfl
        simp only [List.getElem?_toArray, List.getElem?_cons_zero] at c4 c3
        simp only [add_plain, Nat.zero_add] at v2 v3
        have hg10b : g10 < W16.heap.size := (nse.own.lt g10 rfl).2
        have hl4b := nse.h4.lt
        have hl3b := nse.h3.lt
        have HS := Lib.hid nse
        have HDa := Lib.hid hda2
        have HDb := Lib.hid hdb2
        have hszb := nse.low.size
        clear nse hda2 hdb2
        gi_wp2
        rw [roundsIn_succ]
        gi_wp2
        refine ⟨trivial, ?_⟩
        have hpop := (HS.out.put (ownsRow_pop (xs := []) (last := [.iface 177 (.pointer (some ⟨g, 0, none⟩)), .bool true]) (n := 0) rfl HS.out.own)).alloc (.cells #[.iface 177 (.pointer (some ⟨g, 0, none⟩)), .bool true] 148)
        have h5n := Has.new (W16.setCell ⟨w.heap.size + 1 + 1 + 1 + 1, 0, none⟩ (.slice (some ⟨g10, 0, none⟩) 0 cap10)) 148 #[.iface 177 (.pointer (some ⟨g, 0, none⟩)), .bool true]
        rw [show (W16.setCell ⟨w.heap.size + 1 + 1 + 1 + 1, 0, none⟩ (.slice (some ⟨g10, 0, none⟩) 0 cap10)).heap.size = W16.heap.size by simp [World.setCell]] at h5n
        have hkeep : ∀ (d : Nat), W16.heap[d]? = some (.deferred (some [])) → ((W16.setCell ⟨w.heap.size + 1 + 1 + 1 + 1, 0, none⟩ (.slice (some ⟨g10, 0, none⟩) 0 cap10)).alloc (.cells #[.iface 177 (.pointer (some ⟨g, 0, none⟩)), .bool true] 148)).heap[d]? = some (.deferred (some [])) := by
          intro d hd
          rw [Lib.alloc_old _ _ d (by simpa [World.setCell] using lt_get hd), Below.heap_setCell _ _ _ _ (by intro e; have h2 : W16.heap[w.heap.size + 1 + 1 + 1 + 1]? = _ := HS.out.h4; rw [e] at hd; rw [hd] at h2; cases h2)]
          exact hd
        have hda := hkeep D HDa.out
        have hdb := hkeep D2 HDb.out
        obtain ⟨W17, hWn⟩ : ∃ W17, W17 = (W16.setCell ⟨w.heap.size + 1 + 1 + 1 + 1, 0, none⟩ (.slice (some ⟨g10, 0, none⟩) 0 cap10)).alloc (.cells #[.iface 177 (.pointer (some ⟨g, 0, none⟩)), .bool true] 148) := ⟨_, rfl⟩
        rw [← hWn] at hpop h5n hda hdb ⊢
        clear hkeep hWn c3 c4 f4 v2 v3 HS HDa HDb
        refine (callsIn_wide.2 (quiet_survey _ _ _ (lit_survey (w.heap.size + 1) w.heap.size (w.heap.size + 1 + 1) W16.heap.size 0 2 #[⟨.iface 177 (.pointer (some ⟨g, 0, none⟩)), .int .i64 1, 0⟩, ⟨.iface 56 (.int .i64 k), .int .i64 2, 1⟩] 177 (.pointer (some ⟨g, 0, none⟩)) (.int .i64 1) parts12 true W17 hpop.h3 h5n hpop.hS hpop.hm (fun b W => checkA b g W) (fun W => findA2 g k (.int .i64 1) (.int .i64 2) 0 1 W) (bits_kA 9998 g)))).mono ?_
        rintro e W18 ⟨rfl, hme, hte⟩
        have nse : NS w (w.heap.size + 1) w.heap.size (w.heap.size + 1 + 1) (w.heap.size + 1 + 1 + 1 + 1) parts12 2 us12 (.slice (some ⟨g10, 0, none⟩) 0 cap10) 0 [] #[⟨.iface 177 (.pointer (some ⟨g, 0, none⟩)), .int .i64 2, 0⟩, ⟨.iface 56 (.int .i64 k), .int .i64 2, 1⟩] 2 W18 := hpop.map hte hme
        have hda2 : W18.heap[D]? = some (.deferred (some [])) := (hte.block D (lt_get hda) (by intro e; simp at e; rw [e, hpop.hm] at hda; cases hda)).trans hda
        have hdb2 : W18.heap[D2]? = some (.deferred (some [])) := (hte.block D2 (lt_get hdb) (by intro e; simp at e; rw [e, hpop.hm] at hdb; cases hdb)).trans hdb
        clear hpop h5n hda hdb hme hte
        have c4 := nse.h4.cell 0
        have c3 := nse.h3.cell 0
        simp only [List.getElem?_toArray, List.getElem?_cons_zero] at c4 c3
        have HS := Lib.hid nse
        have HDa := Lib.hid hda2
        have HDb := Lib.hid hdb2
        clear nse hda2 hdb2
        gi_wp2
        rw [roundsIn_succ]
        gi_wp2
        have hDD : D ≠ D2 := by omega
        have hDlow : w.heap.size ≤ D := by omega
        have hDlow2 : w.heap.size ≤ D2 := by omega
        have hq : (W18.putObj D2 (.deferred none)).heap[D]? = some (.deferred (some [])) := (World.putObj_heap_other hDD).trans HDa.out
        have hS2 : Has ((W18.putObj D2 (.deferred none)).putObj D (.deferred none)) (w.heap.size + 1) 124 #[.map (some w.heap.size), .int .i64 0, parts12, .bool false] := by
          have h1 : W18.heap[w.heap.size + 1]? = _ := HS.out.hS
          refine (World.putObj_heap_other ?_).trans ((World.putObj_heap_other ?_).trans h1)
          · intro e
            rw [e] at h1
            rw [HDa.out] at h1
            cases h1
          · intro e
            rw [e] at h1
            rw [HDb.out] at h1
            cases h1
        have hlow := (HS.out.low.grown (grownBy_putObj' W18 D2 (.deferred none)) HS.out.low.size (fun k e => by cases e; exact hDlow2))
        have hlow2 := hlow.grown (grownBy_putObj' (W18.putObj D2 (.deferred none)) D (.deferred none)) hlow.size (fun k e => by cases e; exact hDlow)
        refine ⟨by simp, .inl ⟨_, _, rfl, run_takeDeferred HDb.out, ?_⟩⟩
        refine ⟨by simp, .inl ⟨_, _, rfl, run_takeDeferred hq, ?_⟩⟩
        exact ⟨_, results_tmp rfl _ _ _, w.heap.size + 1, w.heap.size, parts12, rfl, hS2, hlow2⟩
  case stop => intro D c pre W _ _ h _; exact h.elim
end Go.Proofs.YtnejkgkikpgajaaDoor.ft
