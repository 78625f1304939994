/-
  place and Where at an At that bears a name, over an At that bears none.
-/
import Derived.Test.YtboeobgkepdabaaDoorFtBack
import Derived.Test.YtboeobgkepdabaaDoorFcKind
namespace Go.Proofs.YtboeobgkepdabaaDoor.ft
open Go.ChangeShapes Go.WideShapes Go.ChangeAt Go.RowKit Go.Extern.Stop Go.Stop Go.Extern Go.Shelf
open Go.Proofs.YtboeobgkepdabaaDoor.lx (Has grown_refl grown_put grown_below)
set_option linter.unusedVariables false
attribute [local go_sem] Oper.semAt_some

/-- what place goes by -/
structure PS (w : World) (todo : Value) (n : Nat) (vs : List Value) (W : World) : Prop where
  hp : Has W w.heap.size 23 #[.int .i64 0, .int .i64 0]
  h3 : Has W (w.heap.size + 1 + 1) 47 #[todo]
  own : W.ownsRow w.heap.size 27 1 todo n vs
  low : Below w.heap.size w W
section
variable {w : World} {todo : Value} {n : Nat} {vs : List Value} {W W' : World}
theorem PS.below (h : PS w todo n vs W) (hb : Below W.heap.size W W') : PS w todo n vs W' :=
  ⟨h.hp.below hb h.hp.lt, h.h3.below hb h.h3.lt, owns_below h.own hb, h.low.trans (hb.mono h.low.size)⟩
theorem PS.alloc (h : PS w todo n vs W) (o : Obj) : PS w todo n vs (W.alloc o) := h.below ((Below.refl _ W).alloc (Nat.le_refl _) o)
theorem PS.put (h : PS w todo n vs W) {todo' : Value} {n' : Nat} {vs' : List Value} (ho : W.ownsRow w.heap.size 27 1 todo' n' vs') : PS w todo' n' vs' (W.setCell ⟨w.heap.size + 1 + 1, 0, none⟩ todo') :=
  ⟨h.hp.put_far 0 _ (by omega), by simpa using h.h3.put 0 todo', owns_put ho h.h3 (by decide) 0 _, h.low.setCell (p := ⟨w.heap.size + 1 + 1, 0, none⟩) (by show _ ≤ w.heap.size + 1 + 1; omega) _⟩
theorem PS.grown (h : PS w todo n vs W) (hg : W.grownBy W' todo.ownBlock) {todo' : Value} {n' : Nat} {vs' : List Value} (ho : W'.ownsRow w.heap.size 27 1 todo' n' vs') : PS w todo' n' vs' (W'.setCell ⟨w.heap.size + 1 + 1, 0, none⟩ todo') ∧ Has W' (w.heap.size + 1 + 1) 47 #[todo] := by
  have hk : ∀ {g : Nat} {t : TypeId} {cs : Array Value}, Has W g t cs → t ≠ 27 → some g ≠ todo.ownBlock := by
    intro g t cs hh ht e
    obtain ⟨c', fz, hc⟩ := Lib.ownsRow_kind h.own g e.symm
    exact not_type hh ht _ _ hc
  have h3 := h.h3.grown hg (hk h.h3 (by decide))
  have hp := h.hp.grown hg (hk h.hp (by decide))
  have low : Below w.heap.size w W' := h.low.grown hg h.low.size (fun k hk2 => (h.own.lt k hk2).1)
  exact ⟨⟨hp.put_far 0 _ (by omega), by simpa using h3.put 0 todo', owns_put ho h3 (by decide) 0 _, low.setCell (p := ⟨w.heap.size + 1 + 1, 0, none⟩) (by show _ ≤ w.heap.size + 1 + 1; omega) _⟩, h3⟩
theorem PS.abides {B : Nat} {row : Option Nat} (h : PS w todo n vs W) (hB : w.heap.size ≤ B) (hg : W.grownBy W' row) (hr : ∀ r, row = some r → B ≤ r ∧ ∃ o : Obj, W.heap[r]? = some o ∧ o.isCells = false) : PS w todo n vs W' := by
  have hk : ∀ {g : Nat} {t : TypeId} {cs : Array Value} {fr : Nat × Nat}, W.heap[g]? = some (.cells cs t fr) → some g ≠ row := by
    intro g t cs fr hh e
    obtain ⟨_, o, ho, hc⟩ := hr g e.symm
    rw [hh] at ho
    simp only [Option.some.injEq] at ho
    subst ho
    cases hc
  have hown : W'.ownsRow w.heap.size 27 1 todo n vs := by
    by_cases hb : todo.ownBlock = none
    · exact h.own.kept hg (.inl hb)
    · obtain ⟨b, hb2⟩ : ∃ b, todo.ownBlock = some b := Option.ne_none_iff_exists'.1 hb
      obtain ⟨c1, f1, g1⟩ := Lib.ownsRow_kind h.own b hb2
      exact h.own.kept hg (.inr (fun e => hk g1 (by rw [← hb2, e])))
  exact ⟨h.hp.grown hg (hk h.hp), h.h3.grown hg (hk h.h3), hown, h.low.grown hg h.low.size (fun k hk2 => Nat.le_trans hB (hr k hk2).1)⟩
end

set_option maxRecDepth 100000 in
set_option maxHeartbeats 8000000 in
theorem place_aa (g0 g1 : Nat) (x0 y0 x1 y1 : Int) (nm0 nm1 : ByteArray) (er : Value) (w : World) (hh : Handle w)
    (hg0 : Has w g0 50 #[.int .i64 x0, .int .i64 y0, .string nm0, .bool true, .iface 41 (.pointer (some ⟨g1, 0, none⟩))])
    (hg1 : Has w g1 50 #[.int .i64 x1, .int .i64 y1, .string nm1, .bool false, er]) :
    Calls Tryd.prog 24 #[.iface 41 (.pointer (some ⟨g0, 0, none⟩))] w fun ev w' => ev = .returned (.agg #[.int .i64 x1, .int .i64 y1]) ∧ Below w.heap.size w w' := by
  obtain ⟨i0, hi0, hz0, hz1, hz2⟩ := info_parts err_info
  have HG0 := Lib.hid hg0
  have HG1 := Lib.hid hg1
  have hgl0 := hg0.lt
  have hgl1 := hg1.lt
  have HH := Lib.hid hh
  clear hg0 hg1 hh
  refine (callsIn_wide (n := 10)).1 ?_
  refine callsIn_of_wp_marks Tryd.func24 rfl trivial ?_ rfl
  simp only [Tryd.ntmps24, List.size_toArray, List.length_cons, List.length_nil, Nat.reduceAdd, Nat.reduceSub, Array.replicate_succ, Array.replicate_zero, List.push_toArray, List.append_toArray, List.nil_append, List.cons_append]
  gi_wp2
  refine wpIn_loop_rounds 3 ?_
  rw [roundsIn_succ]
  gi_wp2
  refine ⟨trivial, ?_⟩
  obtain ⟨WA, hWA⟩ : ∃ WA, WA = (((w.alloc (.cells #[.int .i64 0, .int .i64 0] 23)).alloc (.cells #[.iface 41 (.pointer (some ⟨g0, 0, none⟩))] 27)).alloc (.cells #[.slice (some ⟨w.heap.size + 1, 0, none⟩) 0 1] 47)) := ⟨_, rfl⟩
  rw [← hWA]
  have ps0 : PS w (.slice (some ⟨w.heap.size + 1, 0, none⟩) 0 1) 0 [] WA := by
    have n1 := Has.new w 23 #[.int .i64 0, .int .i64 0]
    have n2 := Has.new (w.alloc (.cells #[.int .i64 0, .int .i64 0] 23)) 27 #[.iface 41 (.pointer (some ⟨g0, 0, none⟩))]
    have n3 := Has.new ((w.alloc (.cells #[.int .i64 0, .int .i64 0] 23)).alloc (.cells #[.iface 41 (.pointer (some ⟨g0, 0, none⟩))] 27)) 47 #[.slice (some ⟨w.heap.size + 1, 0, none⟩) 0 1]
    simp only [World.size_alloc] at n2 n3
    subst hWA
    have hrow := n2.alloc (.cells #[.slice (some ⟨w.heap.size + 1, 0, none⟩) 0 1] 47)
    exact ⟨(n1.alloc _).alloc _, n3, ⟨rfl, .inr ⟨_, 1, #[.iface 41 (.pointer (some ⟨g0, 0, none⟩))], rfl, by omega, hrow, by omega, by unfold maxLen; omega, rfl, rfl⟩⟩, (((Below.refl _ _).alloc (Nat.le_refl _) _).alloc (by simp) _).alloc (by simp; omega) _⟩
  clear hWA
  have PS0 := Lib.hid ps0
  refine (callsIn_wide.2 (at_any g0 WA (HH.out.below ps0.low))).mono ?_
  rintro ev w1 ⟨rfl, hb1⟩
  have ps1 := ps0.below hb1
  have hg0 := HG0.out.below ps1.low hgl0
  have c3 := hg0.cell 3
  simp only [List.getElem?_toArray, List.getElem?_cons_zero, List.getElem?_cons_succ] at c3
  have PS1 := Lib.hid ps1
  have HG := Lib.hid hg0
  clear ps0 PS0 hb1 ps1 hg0
  gi_wp2
  refine ⟨trivial, ?_⟩
  refine (callsIn_wide.2 (wrapped_c g0 x0 y0 nm0 true _ _ w1 HG.out)).mono ?_
  rintro ev w2 ⟨r, rfl, hr, hle, hb2⟩
  have ps2 := PS1.out.below hb2
  have hrl : w.heap.size ≤ r := Nat.le_trans PS1.out.low.size hle
  have PS2 := Lib.hid ps2
  have HR := Lib.hid hr
  clear c3 PS1 HG hr hb2 ps2
  gi_wp2
  refine ⟨trivial, ?_⟩
  refine (callsIn_wide.2 (backward (some ⟨r, 0, none⟩) 1 1 w2)).mono ?_
  rintro ev WX ⟨rfl, rfl⟩
  gi_wp2
  have hcb : (w2.alloc (.cells #[.slice (some ⟨r, 0, none⟩) 1 1] 47)).cell? ⟨w2.heap.size, 0, none⟩ = some (.slice (some ⟨r, 0, none⟩) 1 1) := (Has.new w2 47 #[.slice (some ⟨r, 0, none⟩) 1 1]).cell 0
  have hcr : (w2.alloc (.cells #[.slice (some ⟨r, 0, none⟩) 1 1] 47)).cell? ⟨r, 0, none⟩ = some (.iface 41 (.pointer (some ⟨g1, 0, none⟩))) := (HR.out.alloc (.cells #[.slice (some ⟨r, 0, none⟩) 1 1] 47)).cell 0
  have psL := PS2.out.alloc (.cells #[.slice (some ⟨r, 0, none⟩) 1 1] 47)
  obtain ⟨WL, hWL⟩ : ∃ W, W = w2.alloc (.cells #[.slice (some ⟨r, 0, none⟩) 1 1] 47) := ⟨_, rfl⟩
  rw [← hWL] at hcb hcr psL ⊢
  have hsL := psL.low.size
  have PSL := Lib.hid psL
  clear psL hWL HR PS2
  refine wpIn_rangeFunc_ownG (α := Unit) rfl (by omega) (gf := 50) (lb := #[.pointer (some ⟨w2.heap.size, 0, none⟩)]) rfl trivial (enters_of Tryd.func50 (by kernel_rfl) rfl)
    (one_stops 9 (by omega) w2.heap.size r 41 (.pointer (some ⟨g1, 0, none⟩)) WL hcb hcr) (fun _ _ => trivial) (fun _ _ _ _ _ _ _ _ => trivial) (Below.refl _ _) (fun _ => rfl)
    (fun pre W => (pre = [] ∧ PS w (.slice (some ⟨w.heap.size + 1, 0, none⟩) 0 1) 0 [] W) ∨ (pre = [()] ∧ ∃ q cap, PS w (.slice (some ⟨q, 0, none⟩) 1 cap) 1 [.iface 41 (.pointer (some ⟨g1, 0, none⟩))] W))
    (fun _ _ _ => False) ?hI (fun _ _ _ _ _ hs _ _ => hs) (.inl ⟨rfl, PSL.out⟩) ?a1 ?assign ?body ?done ?stop
  case hI =>
    rintro pre X X' row (⟨h0, hs⟩ | ⟨h0, q, cap, hs⟩) hg hr
    · exact .inl ⟨h0, hs.abides hsL hg hr⟩
    · exact .inr ⟨h0, q, cap, hs.abides hsL hg hr⟩
  case assign =>
    intro l x W K hK
    gi_wp2
    exact hK
  case body =>
    rintro l pre x W (⟨rfl, hs⟩ | ⟨rfl, _⟩) hlt
    · have c4 := hs.h3.cell 0
      have f4 := hs.h3.free 0
      simp only [List.getElem?_toArray, List.getElem?_cons_zero] at c4
      have HS := Lib.hid hs
      have hsz := hs.low.size
      have hl3 := hs.h3.lt
      clear hs
      gi_wp2_with (gi_at_builtin; refine wpListIn_append_own _ rfl _ _ 47 rfl w.heap.size 27 i0 _ 1 16 Tryd.underlying47 hi0 hz0 hz1 hz2 rfl (by decide) _ _ _ rfl (HS.out.own.alloc _) ⟨W.heap.size, 0, none⟩ 1 1 [.iface 41 (.pointer (some ⟨g1, 0, none⟩))] rfl rfl ?c1 ?c2 ?c3 ?c4 ?c5 ?_)
      case c1 =>
        intro j u hj
        match j, hj with
        | 0, hj => simp at hj; subst hj; simp [Addr.add]
      case c2 => intro u hu; simp at hu; subst hu; rfl
      case c3 => unfold maxLen; omega
      case c4 => omega
      case c5 => simp; omega
      intro v' W6 hown6 hgrow6 _
      obtain ⟨q, cap, hv6, _⟩ := World.ownsRow.form hown6 (by omega)
      subst hv6
      have na := HS.out.alloc (.cells #[.iface 41 (.pointer (some ⟨g1, 0, none⟩))] 27)
      obtain ⟨ps6, h4w⟩ := na.grown hgrow6 hown6
      have PS6 := Lib.hid ps6
      have hks : KeepsOthers W (W6.setCell ⟨w.heap.size + 1 + 1, 0, none⟩ (.slice (some ⟨q, 0, none⟩) (0 + 1) cap)) := ((KeepsOthers.alloc W _).trans (KeepsOthers.of_grownBy hgrow6 (fun j o e ho => by
        obtain ⟨c, fz, hc⟩ := Lib.ownsRow_kind na.own j e
        rw [hc] at ho
        cases ho
        rfl))).trans (KeepsOthers.setCell _ _ _)
      have HK6 := Lib.hid (hks.from WL.heap.size)
      have d4 := h4w.cell 0
      have e4 := h4w.free 0
      simp only [List.getElem?_toArray, List.getElem?_cons_zero] at d4
      clear na h4w hks hgrow6 hown6 c4 f4 ps6
      gi_wp2
      exact ⟨HK6.out, trivial, .inr ⟨rfl, q, cap, PS6.out⟩⟩
    · simp at hlt
  case stop => intro D c pre W _ _ h _; exact h.elim
  case done =>
    rintro D xs W7 hD rfl (⟨h, _⟩ | ⟨_, q, cap, hs⟩) hK
    · cases h
    · have c4 := hs.h3.cell 0
      have f4 := hs.h3.free 0
      have v0 := World.ownsRow.cells hs.own (g := q) rfl 0 (.iface 41 (.pointer (some ⟨g1, 0, none⟩))) rfl
      simp only [List.getElem?_toArray, List.getElem?_cons_zero] at c4
      simp only [add_plain, Nat.zero_add] at v0
      have hcp : 1 ≤ cap := by
        rcases hs.own.2 with ⟨h, _⟩ | ⟨g', cap', cur, hv, _, _, hn, _⟩
        · cases h
        · cases hv
          exact hn
      have hq : q < W7.heap.size := (hs.own.lt q rfl).2
      have hl3 := hs.h3.lt
      have HS := Lib.hid hs
      have hKl := lt_get hK
      have HK := Lib.hid hK
      have hsz := hs.low.size
      clear hs hK
      gi_wp2
      rw [roundsIn_succ]
      gi_wp2
      refine ⟨trivial, ?_⟩
      have ps8 := HS.out.put (ownsRow_pop (xs := []) (last := [.iface 41 (.pointer (some ⟨g1, 0, none⟩))]) (n := 0) rfl HS.out.own)
      have hK8 : Mark (W7.setCell ⟨w.heap.size + 1 + 1, 0, none⟩ (.slice (some ⟨q, 0, none⟩) 0 cap)) D := by
        unfold Mark
        rw [Below.heap_setCell _ _ _ _ (by intro e; have h1 := HK.out; have h2 : W7.heap[w.heap.size + 1 + 1]? = _ := HS.out.h3; rw [← show D = w.heap.size + 1 + 1 from e] at h2; rw [h1] at h2; cases h2)]
        exact HK.out
      obtain ⟨W8, hW8⟩ : ∃ W, W = W7.setCell ⟨w.heap.size + 1 + 1, 0, none⟩ (.slice (some ⟨q, 0, none⟩) 0 cap) := ⟨_, rfl⟩
      rw [← hW8] at ps8 hK8 ⊢
      have PS8 := Lib.hid ps8
      clear hW8 c4 f4 v0 HS HK
      refine (callsIn_wide.2 (at_any g1 W8 (HH.out.below ps8.low))).mono ?_
      rintro ev w9 ⟨rfl, hb9⟩
      have ps9 := ps8.below hb9
      have hK9 : Mark w9 D := (hb9.block D hK8.lt).trans hK8
      have hg1 := HG1.out.below ps9.low hgl1
      have b0 := hg1.cell 0
      have b1 := hg1.cell 1
      have b3 := hg1.cell 3
      have hp := ps9.hp
      have p0 := hp.cell 0
      have p1 := hp.cell 1
      have pf := fun i => hp.free i
      have pl := hp.lt
      simp only [List.getElem?_toArray, List.getElem?_cons_zero, List.getElem?_cons_succ] at b0 b1 b3 p0 p1
      have PS9 := Lib.hid ps9
      have HP := Lib.hid hp
      have HK9 := Lib.hid hK9
      have hDl : w.heap.size ≤ D := by omega
      have hDp : D ≠ w.heap.size := by
        intro e
        have h2 : w9.heap[w.heap.size]? = _ := hp
        rw [← e] at h2
        have h1 : w9.heap[D]? = _ := hK9
        rw [h1] at h2
        cases h2
      clear ps8 PS8 hK8 hb9 ps9 hK9 hg1 hp
      gi_wp2
      have mk : Mark ((w9.setCell ⟨w.heap.size, 0, none⟩ (.int .i64 x1)).setCell ⟨w.heap.size, 1, none⟩ (.int .i64 y1)) D := by
        unfold Mark
        rw [Below.heap_setCell _ _ _ _ hDp, Below.heap_setCell _ _ _ _ hDp]
        exact HK9.out
      have hp2 := (HP.out.put 0 (.int .i64 x1)).put 1 (.int .i64 y1)
      simp only [List.setIfInBounds_toArray, List.set_cons_zero, List.set_cons_succ] at hp2
      have low2 := (PS9.out.low.setCell (p := ⟨w.heap.size, 0, none⟩) (Nat.le_refl _) (.int .i64 x1)).setCell (p := ⟨w.heap.size, 1, none⟩) (Nat.le_refl _) (.int .i64 y1)
      generalize ((w9.setCell ⟨w.heap.size, 0, none⟩ (.int .i64 x1)).setCell ⟨w.heap.size, 1, none⟩ (.int .i64 y1)) = Wf at *
      have hp3 : Has (Wf.putObj D (.deferred none)) w.heap.size 23 #[.int .i64 x1, .int .i64 y1] := (World.putObj_heap_other (Ne.symm hDp)).trans hp2
      have low3 := low2.grown (grownBy_putObj' Wf D (.deferred none)) low2.size (fun k e => by cases e; exact hDl)
      refine ⟨by simp, .inl ⟨_, _, rfl, run_takeDeferred mk, ?_⟩⟩
      have e0 := hp3.cell 0
      have e1 := hp3.cell 1
      simp only [List.getElem?_toArray, List.getElem?_cons_zero, List.getElem?_cons_succ] at e0 e1
      exact ⟨.agg #[.int .i64 x1, .int .i64 y1], by simp [results, Tryd.results24, go_sem, e0, e1], rfl, low3⟩

set_option maxRecDepth 10000 in
set_option maxHeartbeats 4000000 in
/-- Where of an error, by its finite and its place -/
theorem where_g (t : TypeId) (v : Value) (x y : Int) (w : World) (hF : OwnFinite w (.iface t v))
    (hP : ∀ W, Below w.heap.size w W → Calls Tryd.prog 24 #[.iface t v] W fun ev w' => ev = .returned (.agg #[.int .i64 x, .int .i64 y]) ∧ Below W.heap.size W w') :
    Calls Tryd.prog 16 #[.iface t v] w fun ev w' => ev = .returned (.agg #[.int .i64 x, .int .i64 y]) ∧ Below w.heap.size w w' := by
  have hb0 := (Below.refl w.heap.size w).alloc (Nat.le_refl _) (.cells #[.int .i64 0, .int .i64 0] 23)
  have hn := Has.new w 23 #[.int .i64 0, .int .i64 0]
  have HF := Lib.hid (hF _ hb0)
  have HP := Lib.hid hP
  have HB0 := Lib.hid hb0
  have HN := Lib.hid hn
  clear hF hP hb0 hn
  go_enter Tryd.func16, Tryd.ntmps16
  go_wp2_with fail
  refine HF.out.mono ?_
  rintro ev w1 ⟨rfl, hb1⟩
  have HB1 := Lib.hid (HB0.out.trans (hb1.mono HB0.out.size))
  have HN1 := Lib.hid (HN.out.below hb1 HN.out.lt)
  clear hb1 HF HB0 HN
  go_wp2_with fail
  refine (HP.out _ HB1.out).mono ?_
  rintro ev w2 ⟨rfl, hb2⟩
  have hn := HN1.out.below hb2 HN1.out.lt
  have c0 := hn.cell 0
  have c1 := hn.cell 1
  have f := fun i => hn.free i
  have hl := hn.lt
  simp only [List.getElem?_toArray, List.getElem?_cons_zero, List.getElem?_cons_succ] at c0 c1
  have H2 := Lib.hid ((hn.put 0 (.int .i64 x)).put 1 (.int .i64 y))
  have HB2 := Lib.hid (HB1.out.trans (hb2.mono HB1.out.size))
  clear hb2 hn HN1 HB1
  go_wp2_with fail
  have e0 := H2.out.cell 0
  have e1 := H2.out.cell 1
  have hlast := (HB2.out.setCell (p := ⟨w.heap.size, 0, none⟩) (Nat.le_refl _) (.int .i64 x)).setCell (p := ⟨w.heap.size, 1, none⟩) (Nat.le_refl _) (.int .i64 y)
  simp only [List.setIfInBounds_toArray, List.set_cons_zero, List.set_cons_succ, List.getElem?_toArray, List.getElem?_cons_zero, List.getElem?_cons_succ] at e0 e1
  generalize ((w2.setCell ⟨w.heap.size, 0, none⟩ (.int .i64 x)).setCell ⟨w.heap.size, 1, none⟩ (.int .i64 y)) = Wf at *
  exact bodyPost_ret (v := .agg #[.int .i64 x, .int .i64 y]) (by simp [results, Tryd.results16, go_sem, e0, e1]) rfl ⟨rfl, hlast⟩

theorem where_aak (g0 g1 : Nat) (x0 y0 x1 y1 k : Int) (nm0 nm1 : ByteArray) (w : World) (hh : Handle w) (hne : g0 ≠ g1)
    (hg0 : Has w g0 50 #[.int .i64 x0, .int .i64 y0, .string nm0, .bool true, .iface 41 (.pointer (some ⟨g1, 0, none⟩))])
    (hg1 : Has w g1 50 #[.int .i64 x1, .int .i64 y1, .string nm1, .bool false, .iface 29 (.int .i64 k)]) :
    Calls Tryd.prog 16 #[.iface 41 (.pointer (some ⟨g0, 0, none⟩))] w fun ev w' => ev = .returned (.agg #[.int .i64 x1, .int .i64 y1]) ∧ Below w.heap.size w w' :=
  where_g _ _ x1 y1 w (own_aak g0 g1 x0 y0 x1 y1 k nm0 nm1 true false w hne hg0 hg1) (fun W hb => place_aa g0 g1 x0 y0 x1 y1 nm0 nm1 _ W (hh.below hb) (hg0.below hb hg0.lt) (hg1.below hb hg1.lt))
end Go.Proofs.YtboeobgkepdabaaDoor.ft
