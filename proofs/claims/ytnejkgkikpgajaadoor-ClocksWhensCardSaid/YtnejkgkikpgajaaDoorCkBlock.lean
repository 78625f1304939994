/-
  The law's block and node are checked; so Check of the law's program.
-/
import Derived.Test.YtnejkgkikpgajaaDoorCkBlock0
namespace Go.Proofs.YtnejkgkikpgajaaDoor.ck
open Go.ChangeShapes Go.WideShapes Go.ChangeAt Go.RowKit
open tr Go.Sort
set_option linter.unusedVariables false
set_option linter.unusedSimpArgs false

def BlkPost (w0 : World) (g : Nat) (er : Bool) (e : Ending) (w' : World) : Prop := e = .returned (.tuple #[]) ∧ (∃ v mv, Ck w' g mv 0 v ∧ Er w' v er) ∧ Below w0.heap.size w0 w'
theorem below_two {w0 w w' : World} {g : Nat} (hb : Below w0.heap.size w0 w) (hg : w.grownBy w' (some g)) (hle : w0.heap.size ≤ g) : Below w0.heap.size w0 w' := below_by hb hg hle
theorem EnvM.block {w : World} {m : Nat} {L : List En} (h : EnvM w m L) : ∃ es c, w.heap[m]? = some (.map es c) := by
  obtain ⟨es, c, h, _⟩ := h
  exact ⟨es, c, h⟩
theorem laidAt_of {w : World} {g o : Nat} {q : Qd} {ok : Nat → Prop} (h : QAt w ok g o q) :
    ∃ (e' : Ex) (x y : Int), er e' = er q.e ∧ LaidAt w g (o + 5) e' ∧ w.cell? ⟨g, o, none⟩ = some (.int .u8 1) ∧ w.cell? ⟨g, o + 1, none⟩ = some (.slice q.la q.ll q.lc) ∧ w.cell? ⟨g, o + 14, none⟩ = some (.int .i64 x) ∧ w.cell? ⟨g, o + 15, none⟩ = some (.int .i64 y) := by
  obtain ⟨e', ecs, x, y, h1, h2, h3⟩ := h
  have hl := h2.len
  refine ⟨e', x, y, h1, ⟨ecs, fun j v hj => ?_, LaidP.laidC _ _ h2⟩, ?_, h3 1 _ rfl, h3 14 _ ?_, h3 15 _ ?_⟩
  · have hj8 : j < 8 := by have := (List.getElem?_eq_some_iff.1 hj).1; omega
    have := h3 (5 + j) v (by
      unfold qcells
      rw [List.getElem?_append_left (by simp; omega), List.getElem?_append_right (by simp)]
      simpa using hj)
    rw [show o + 5 + j = o + (5 + j) by omega]; exact this
  · have := h3 0 _ rfl
    simpa using this
  · unfold qcells
    rw [List.getElem?_append_right (by simp; omega)]
    simp [hl]
  · unfold qcells
    rw [List.getElem?_append_right (by simp; omega)]
    simp [hl]

set_option maxRecDepth 100000 in
set_option maxHeartbeats 16000000 in
theorem block_law (w0 w : World) (g m gn gv gq oc lw lx cv cq : Nat) (x : Ex) (hb : Below w0.heap.size w0 w) (hle : w0.heap.size ≤ g) (hlm : w0.heap.size ≤ m) (h3 : w0.cell? ⟨gn, 3, none⟩ = some (.slice (some ⟨gv, 0, none⟩) 1 cv)) (h4 : w0.cell? ⟨gn, 4, none⟩ = some (.slice (some ⟨gq, 0, none⟩) 2 cq))
    (hv : VarAt w0 gv 0 bW (some ⟨oc, 0, none⟩) 1 1) (ho0 : w0.cell? ⟨oc, 0, none⟩ = some (.string bT)) (ho1 : w0.cell? ⟨oc, 1, none⟩ = some (.string bC)) (hlw : w0.cell? ⟨lw, 0, none⟩ = some (.string bW)) (hlx : w0.cell? ⟨lx, 0, none⟩ = some (.string bX))
    (hq1 : QAt w0 (fun _ => True) gq 0 ⟨some ⟨lw, 0, none⟩, 1, 1, one⟩) (hq2 : QAt w0 (fun _ => True) gq 16 ⟨some ⟨lx, 0, none⟩, 1, 1, x⟩) (hS : St w g m LC 0 false) :
    Calls Tryd.prog 33 #[.pointer (some ⟨g, 0, none⟩), .pointer (some ⟨gn, 3, none⟩), .slice none 0 0] w (BlkPost w0 g (!okE LW 0 [] x)) := by
  obtain ⟨e1, x1, y1, he1, hle1, a0, a1, a14, a15⟩ := laidAt_of hq1
  obtain ⟨e2, x2, y2, he2, hle2, b0, b1, b14, b15⟩ := laidAt_of hq2
  have hok1 : okE LW 0 [(bT, bC)] e1 = true := by rw [okE_same he1]; rfl
  have hok2 : okE LW 0 [] e2 = okE LW 0 [] x := okE_same he2
  have HUP : Hid (∀ (W : World) (b o : Nat) (v : Value), Below w0.heap.size w0 W → w0.cell? ⟨b, o, none⟩ = some v → W.cell? ⟨b, o, none⟩ = some v) := Lib.hid (fun W b o v hW hv => (hW.cell (p := ⟨b, o, none⟩) (World.block_lt_of_cell? w0 _ hv)).trans hv)
  have hgn : gn < w0.heap.size := World.block_lt_of_cell? w0 _ h3
  have hgv := hv.lt
  have HVB : Hid (∀ W, Below w0.heap.size w0 W → VarAt W gv 0 bW (some ⟨oc, 0, none⟩) 1 1) := Lib.hid (fun W hW => hv.below hW)
  have HON : Hid (∀ W, Below w0.heap.size w0 W → Ons W (some ⟨oc, 0, none⟩) [(bT, bC)]) := Lib.hid (fun W hW i p hp => by
    have hi : i = 0 := by have := (List.getElem?_eq_some_iff.1 hp).1; simp at this; exact this
    subst hi
    simp only [List.getElem?_cons_zero, Option.some.injEq] at hp
    subst hp
    exact ⟨oc, 0, rfl, HUP.out _ _ _ _ hW ho0, HUP.out _ _ _ _ hW ho1⟩)
  have HSEE := Lib.hid (see_one w g m gv cv bW (some ⟨oc, 0, none⟩) [(bT, bC)] 1 LC 0 false (HVB.out w hb) (HON.out w hb) (by decide) hS lk_w0)
  have HCLK : Hid (∀ W, Below w0.heap.size w0 W → St W g m LW 0 false → Calls Tryd.prog 48 #[.pointer (some ⟨g, 0, none⟩), .slice (some ⟨gv, 0, none⟩) 1 cv] W (CkPost W g m LW 0 false)) := Lib.hid (fun W hW hSW => by
    have := clocks_one W g m gv cv oc bW bT bC LW 0 false (HVB.out W hW) (HUP.out _ _ _ _ hW ho0) (HUP.out _ _ _ _ hW ho1) hSW (by omega)
    rw [on_c] at this
    exact this)
  have HE1 : Hid (∀ W, Below w0.heap.size w0 W → St W g m LW 0 false → Calls Tryd.prog 49 #[.pointer (some ⟨g, 0, none⟩), .pointer (some ⟨gq, 0, none⟩)] W (CkPost W g m LW 0 false)) := Lib.hid (fun W hW hSW => by
    have := eq_def w0 W g m gq 0 lw 1 bW x1 y1 e1 _ LW 0 false hW hle a0 a1 a14 a15 hle1 hlw hSW lk_w rfl
    rw [hok1] at this
    exact this)
  have HE2 : Hid (∀ W, Below w0.heap.size w0 W → St W g m LW 0 false → Calls Tryd.prog 49 #[.pointer (some ⟨g, 0, none⟩), .pointer (some ⟨gq, 16, none⟩)] W (CkPost W g m LW 0 (!okE LW 0 [] x))) := Lib.hid (fun W hW hSW => by
    have := eq_def w0 W g m gq 16 lx 1 bX x2 y2 e2 _ LW 0 false hW hle b0 b1 b14 b15 hle2 hlx hSW lk_x rfl
    rw [hok2, Bool.false_or] at this
    exact this)
  obtain ⟨R, hR⟩ : ∃ R, R = !okE LW 0 [] x := ⟨_, rfl⟩
  rw [← hR] at HE2 ⊢
  have n3 := HUP.out _ _ _ _ hb h3
  have HB := Lib.hid hb
  have H3 := Lib.hid h3
  have H4 := Lib.hid h4
  have HV := Lib.hid hv
  clear hq1 hq2 he1 hle1 a0 a1 a14 a15 he2 hle2 b0 b1 b14 b15 hok1 hok2 ho0 ho1 hlw hlx hS hR hb h3 h4 hv
  unfold BlkPost
  unfold SeePost CkPost at *
  go_enter Tryd.func33, Tryd.ntmps33
  go_wp2_with fail
  refine HSEE.out.mono ?_
  rintro e w1 ⟨rfl, hs1, hg1⟩
  have HB1 := Lib.hid (below_two HB.out hg1 hlm)
  have HS1 : Hid (St w1 g m LW 0 false) := Lib.hid hs1
  clear n3 hs1 hg1 HSEE
  have n3 := HUP.out _ _ _ _ HB1.out H3.out
  have HC1 := Lib.hid (HCLK.out w1 HB1.out HS1.out)
  clear HCLK
  go_wp2_with fail
  refine HC1.out.mono ?_
  rintro e w2 ⟨rfl, hs2, hg2⟩
  have HB2 := Lib.hid (below_two HB1.out hg2 hle)
  have HS2 := Lib.hid hs2
  clear n3 hs2 hg2 HC1 HS1
  have n4 := HUP.out _ _ _ _ HB2.out H4.out
  have HX1 := Lib.hid (HE1.out w2 HB2.out HS2.out)
  clear HE1
  go_wp2_with fail
  refine wp_loop_rounds 3 ?_
  rw [rounds_succ]
  go_wp2_with fail
  refine HX1.out.mono ?_
  rintro e w3 ⟨rfl, hs3, hg3⟩
  have HB3 := Lib.hid (below_two HB2.out hg3 hle)
  have HS3 := Lib.hid hs3
  clear n4 hs3 hg3 HX1 HS2
  have n4 := HUP.out _ _ _ _ HB3.out H4.out
  have HX2 := Lib.hid (HE2.out w3 HB3.out HS3.out)
  clear HE2
  go_wp2_with fail
  rw [rounds_succ]
  go_wp2_with fail
  refine HX2.out.mono ?_
  rintro e w4 ⟨rfl, hs4, hg4⟩
  have HB4 := Lib.hid (below_two HB3.out hg4 hle)
  have HS4 := Lib.hid hs4
  clear n4 hs4 hg4 HX2 HS3
  have n4 := HUP.out _ _ _ _ HB4.out H4.out
  have n3 := HUP.out _ _ _ _ HB4.out H3.out
  go_wp2_with fail
  rw [rounds_succ]
  go_wp2_with fail
  refine (ways_nil _ _).mono ?_
  rintro e w5 ⟨rfl, rfl⟩
  go_wp2_with fail
  refine wp_loop_rounds 2 ?_
  rw [rounds_succ]
  obtain ⟨gx, gy, v0, _, _, _⟩ := (HVB.out w5 HB4.out).four
  obtain ⟨ev, hC, hE, hM⟩ := HS4.out
  have k0 := Has.cell hC 0
  simp only [List.getElem?_toArray, List.getElem?_cons_zero] at k0
  obtain ⟨W6, hd, ⟨v6, hC6, hE6⟩, hg6⟩ := (HS4.out.below (Below.refl _ w5).drew).del bW 0
  have HD6 := Lib.hid (And.intro hC6 hE6)
  have HB6 := Lib.hid (below_two (HB4.out.trans ((Below.refl _ w5).drew.mono HB4.out.size)) hg6 hlm)
  clear hC hE hM hC6 hE6 hg6 HS4
  go_wp2_with fail
  go_still_tail 12, (by kernel_rfl)
  change wpList _ _ _ _ _ w5.drew
  go_wp2_with fail
  clear hd k0 v0 n3 n4
  rw [rounds_succ]
  go_wp2_with fail
  go_returns
  exact ⟨rfl, ⟨v6, _, HD6.out.1, HD6.out.2⟩, HB6.out⟩

set_option maxRecDepth 100000 in
set_option maxHeartbeats 16000000 in
theorem node_law (w0 w : World) (g gn : Nat) (x : Ex) (hb : Below w0.heap.size w0 w) (hle : w0.heap.size ≤ g) (hP : ProgAt w0 gn x) (hC : Ck w g (.map none) 0 .nilIface) :
    Calls Tryd.prog 16 #[.pointer (some ⟨g, 0, none⟩), .pointer (some ⟨gn, 0, none⟩)] w (BlkPost w0 g (!okE LW 0 [] x)) := by
  obtain ⟨oc, lw, lx, ⟨_, gi, gx, gv, gq, ci, cx, cv, cq, px, _, _, _, hn, hvi, hvx, hvv, hqs⟩, ho0, ho1, hlw, hlx⟩ := hP
  obtain ⟨q1, e1, _, hq1⟩ := hqs 0 (by simp)
  obtain ⟨q2, e2, _, hq2⟩ := hqs 1 (by simp)
  rw [e1] at e2
  simp only [Option.some.injEq, Addr.mk.injEq, and_true] at e2
  subst e2
  subst e1
  have n1 := hn 1 _ rfl
  have n2 := hn 2 _ rfl
  have n3 := hn 3 _ rfl
  have n4 := hn 4 _ rfl
  have hgn : gn < w0.heap.size := World.block_lt_of_cell? w0 _ n1
  have hgl : g < w.heap.size := Has.lt hC
  have HUP : Hid (∀ (W : World) (b o : Nat) (v : Value), Below w0.heap.size w0 W → w0.cell? ⟨b, o, none⟩ = some v → W.cell? ⟨b, o, none⟩ = some v) := Lib.hid (fun W b o v hW hv => (hW.cell (p := ⟨b, o, none⟩) (World.block_lt_of_cell? w0 _ hv)).trans hv)
  obtain ⟨m, hm⟩ : ∃ m, m = w.heap.size := ⟨_, rfl⟩
  have hlm : w0.heap.size ≤ m := by rw [hm]; exact hb.size
  obtain ⟨W1, hW1⟩ : ∃ W1, W1 = (w.setCell ⟨g, 0, none⟩ (.map (some w.heap.size))).alloc (.map #[] 0) := ⟨_, rfl⟩
  have hg1 : w.grownBy W1 (some g) := by rw [hW1]; exact grown_alloc (grown_put (grown_refl w _) 0 _) _
  have hS1 : St W1 g m [] 0 false := by
    refine ⟨.nilIface, ?_, ⟨fun _ => rfl, (fun h => by cases h)⟩, #[], 0, ?_, trivial⟩
    · rw [hW1, hm]
      have := (Has.put hC 0 (.map (some w.heap.size))).alloc (.map #[] 0)
      unfold Ck
      simpa using this
    · rw [hW1, hm]
      show ((w.setCell ⟨g, 0, none⟩ (.map (some w.heap.size))).heap.push (.map #[] 0))[w.heap.size]? = _
      have hs : (w.setCell ⟨g, 0, none⟩ (.map (some w.heap.size))).heap.size = w.heap.size := by simp
      rw [Array.getElem?_push, if_pos hs.symm]
  have HB1 := Lib.hid (below_two hb hg1 hle)
  have HS1 := Lib.hid hS1
  have c0 := Has.cell hC 0
  have cf := Has.free hC 0
  simp only [List.getElem?_toArray, List.getElem?_cons_zero] at c0
  have hmk : ∀ (t : TypeId) (w : World), (Instr.makeMap t none).run Tryd.prog w = .ok (.map (some w.heap.size)) (w.alloc (.map #[] 0)) := fun _ _ => rfl
  have HVI : Hid (∀ W, Below w0.heap.size w0 W → VarAt W gi 0 bC none 0 0) := Lib.hid (fun W hW => hvi.below hW)
  have HVX : Hid (∀ W, Below w0.heap.size w0 W → VarAt W gx 0 bX none 0 0) := Lib.hid (fun W hW => hvx.below hW)
  have HGI : Hid (gi < w0.heap.size ∧ gx < w0.heap.size) := Lib.hid ⟨hvi.lt, hvx.lt⟩
  have HBK : Hid (∀ W, Below w0.heap.size w0 W → St W g m LC 0 false → Calls Tryd.prog 33 #[.pointer (some ⟨g, 0, none⟩), .pointer (some ⟨gn, 3, none⟩), .slice none 0 0] W (BlkPost w0 g (!okE LW 0 [] x))) := Lib.hid (fun W hW hSW =>
    block_law w0 W g m gn gv q1 oc lw lx cv cq x hW hle hlm n3 n4 hvv ho0 ho1 hlw hlx hq1 hq2 hSW)
  have HN := Lib.hid (And.intro n1 n2)
  have HW1 := Lib.hid hW1
  have hons : ∀ W, Ons W none [] := fun W i p hp => by simp at hp
  have HOO := Lib.hid hons
  clear hqs hq1 hq2 hn hvi hvx hvv ho0 ho1 hlw hlx hC hS1 hg1 hW1 n1 n2 n3 n4 hb hons
  obtain ⟨R, hR⟩ : ∃ R, R = !okE LW 0 [] x := ⟨_, rfl⟩
  rw [← hR] at HBK ⊢
  clear hR
  unfold BlkPost at *
  go_enter Tryd.func16, Tryd.ntmps16
  have n1 := HUP.out _ _ _ _ HB1.out HN.out.1
  rw [HW1.out] at n1
  go_wp2_with fail
  rw [← HW1.out] at n1 ⊢
  refine (see_one W1 g m gi ci bC none [] 0 [] 0 false (HVI.out _ HB1.out) (HOO.out _) (by decide) HS1.out rfl).mono ?_
  rintro e w2 ⟨rfl, hs2, hg2⟩
  have HB2 := Lib.hid (below_two HB1.out hg2 hlm)
  have HS2 : Hid (St w2 g m [⟨bC, [], 0⟩] 0 false) := Lib.hid hs2
  clear n1 hs2 hg2 c0 cf hmk
  have n2 := HUP.out _ _ _ _ HB2.out HN.out.2
  go_wp2_with fail
  refine (see_one w2 g m gx cx bX none [] 0 [⟨bC, [], 0⟩] 0 false (HVX.out _ HB2.out) (HOO.out _) (by decide) HS2.out lk_x0).mono ?_
  rintro e w3 ⟨rfl, hs3, hg3⟩
  have HB3 := Lib.hid (below_two HB2.out hg3 hlm)
  have HS3 : Hid (St w3 g m LC 0 false) := Lib.hid hs3
  clear n2 hs3 hg3
  have n1 := HUP.out _ _ _ _ HB3.out HN.out.1
  go_wp2_with fail
  refine (unsampled_one w3 g m gi ci bC LC 0 false (HVI.out _ HB3.out) HS3.out (by have := HGI.out; omega)).mono ?_
  rintro e w4 ⟨rfl, hs4, hg4⟩
  have HB4 := Lib.hid (below_two HB3.out hg4 hle)
  have HS4 := Lib.hid hs4
  clear n1 hs4 hg4
  have n2 := HUP.out _ _ _ _ HB4.out HN.out.2
  go_wp2_with fail
  refine (unsampled_one w4 g m gx cx bX LC 0 false (HVX.out _ HB4.out) HS4.out (by have := HGI.out; omega)).mono ?_
  rintro e w5 ⟨rfl, hs5, hg5⟩
  have HB5 := Lib.hid (below_two HB4.out hg5 hle)
  have HS5 := Lib.hid hs5
  clear n2 hs5 hg5
  go_wp2_with fail
  refine (HBK.out w5 HB5.out HS5.out).mono ?_
  rintro e w6 ⟨rfl, h1, h2⟩
  have H1 := Lib.hid h1
  have H2 := Lib.hid h2
  clear h1 h2
  go_wp2_with fail
  go_returns
  exact ⟨rfl, H1.out, H2.out⟩

def CheckPost (w : World) (bad : Bool) (e : Ending) (w' : World) : Prop := ∃ v, e = .returned v ∧ Er w' v bad ∧ Below w.heap.size w w'
theorem ProgAt.below {w w' : World} {gn : Nat} {x : Ex} (h : ProgAt w gn x) (hb : Below w.heap.size w w') : ProgAt w' gn x := by
  have up : ∀ (b o : Nat) (v : Value), w.cell? ⟨b, o, none⟩ = some v → w'.cell? ⟨b, o, none⟩ = some v := fun b o v hv => (hb.cell (p := ⟨b, o, none⟩) (World.block_lt_of_cell? w _ hv)).trans hv
  obtain ⟨oc, lw, lx, hn, h1, h2, h3, h4⟩ := h
  exact ⟨oc, lw, lx, hn.keep (fun _ h => h) (fun b o v _ hv => up b o v hv), up _ _ _ h1, up _ _ _ h2, up _ _ _ h3, up _ _ _ h4⟩

set_option maxRecDepth 100000 in
set_option maxHeartbeats 16000000 in
theorem check_law (w : World) (gn cn : Nat) (x : Ex) (hP : ProgAt w gn x) :
    Calls Tryd.prog 7 #[.agg #[.slice none 0 0, .slice (some ⟨gn, 0, none⟩) 1 cn]] w (CheckPost w (!okE LW 0 [] x)) := by
  obtain ⟨wb, hwb⟩ : ∃ wb, wb = w.alloc (.cells #[.slice none 0 0, .slice (some ⟨gn, 0, none⟩) 1 cn] 33) := ⟨_, rfl⟩
  have hbb : Below w.heap.size w wb := by rw [hwb]; exact (Below.refl _ w).alloc (Nat.le_refl _) _
  have hp1 : Has wb w.heap.size 33 #[.slice none 0 0, .slice (some ⟨gn, 0, none⟩) 1 cn] := by rw [hwb]; exact Has.new w _ _
  have hsb : wb.heap.size = w.heap.size + 1 := by rw [hwb]; simp
  obtain ⟨W1, hW1⟩ : ∃ W1, W1 = wb.alloc (.cells #[.map none, .int .i64 0, .nilIface] 69) := ⟨_, rfl⟩
  have hb1 : Below wb.heap.size wb W1 := by rw [hW1]; exact (Below.refl _ wb).alloc (Nat.le_refl _) _
  have hc1 : Ck W1 wb.heap.size (.map none) 0 .nilIface := by
    rw [hW1]
    exact Has.new wb _ _
  have HN := Lib.hid (node_law wb W1 wb.heap.size gn x hb1 (Nat.le_refl _) (hP.below hbb) hc1)
  rw [hsb] at HN
  have HP1 := Lib.hid hp1
  have HBB := Lib.hid hbb
  have HSB := Lib.hid hsb
  have HWA : Hid (W1 = (w.alloc (.cells #[.slice none 0 0, .slice (some ⟨gn, 0, none⟩) 1 cn] 33)).alloc (.cells #[.map none, .int .i64 0, .nilIface] 69)) := Lib.hid (by rw [hW1, hwb])
  obtain ⟨R, hR⟩ : ∃ R, R = !okE LW 0 [] x := ⟨_, rfl⟩
  rw [← hR] at HN ⊢
  clear hW1 hb1 hp1 hc1 hP hR hwb hbb hsb
  unfold CheckPost
  unfold BlkPost at *
  go_enter Tryd.func7, Tryd.ntmps7
  go_wp2_with fail
  refine wp_loop_rounds 2 ?_
  rw [rounds_succ]
  go_wp2_with fail
  rw [← HWA.out]
  refine HN.out.mono ?_
  rintro e w2 ⟨rfl, ⟨v, mv, h1, h2⟩, hb2⟩
  have c2 := Has.cell h1 2
  simp only [List.getElem?_toArray, List.getElem?_cons_zero, List.getElem?_cons_succ] at c2
  have hpb := HP1.out.below hb2 (by have := HSB.out; omega)
  have p1 := hpb.cell 1
  simp only [List.getElem?_toArray, List.getElem?_cons_zero, List.getElem?_cons_succ] at p1
  have HB2 : Hid (Below w.heap.size w w2) := Lib.hid (HBB.out.trans (hb2.mono HBB.out.size))
  have HE2 := Lib.hid h2
  clear h1 h2 hb2 hpb HN
  go_wp2_with fail
  rw [rounds_succ]
  go_wp2_with fail
  go_ret
  exact ⟨v, rfl, HE2.out, HB2.out⟩
end Go.Proofs.YtnejkgkikpgajaaDoor.ck
