/-
  Placed, as the reference has it, at a program of one node without types.
-/
import Derived.Test.YtnejkgkikpgajaaDoorPlBlock
namespace Go.Proofs.YtnejkgkikpgajaaDoor.ck
open Go.ChangeShapes Go.WideShapes Go.ChangeAt Go.RowKit
open tr
set_option linter.unusedVariables false
set_option linter.unusedSimpArgs false

theorem node_info : (Tryd.prog.info? 59).map (fun i => (i.zero, i.size, i.bytes)) = some (some (.agg #[.string ⟨#[]⟩, .slice none 0 0, .slice none 0 0, .slice none 0 0, .slice none 0 0, .int .i64 0, .int .i64 0]), 7, 128) := by kernel_rfl
/-- a node that was placed, at block gn: one variable that goes in, one that comes out, one of its own, some definitions -/
def NodeAt (w : World) (ok : Nat → Prop) (gn : Nat) (f ni nx nv : ByteArray) (ca : Option Addr) (cl cc : Nat) (l : List Qd) : Prop :=
  ok gn ∧ ∃ (gi gx gv : Nat) (gq : Option Addr) (ci cx cv cq : Nat) (px : Int), ok gi ∧ ok gx ∧ ok gv ∧
    (∀ (k : Nat) (u : Value), ([.string f, .slice (some ⟨gi, 0, none⟩) 1 ci, .slice (some ⟨gx, 0, none⟩) 1 cx, .slice (some ⟨gv, 0, none⟩) 1 cv, .slice gq l.length cq, .int .i64 px, .int .i64 1] : List Value)[k]? = some u → w.cell? ⟨gn, k, none⟩ = some u) ∧ VarAt w gi 0 ni none 0 0 ∧ VarAt w gx 0 nx none 0 0 ∧ VarAt w gv 0 nv ca cl cc ∧ ∀ i (hi : i < l.length), ∃ g, gq = some ⟨g, 0, none⟩ ∧ ok g ∧ QAt w ok g (i * 16) l[i]
theorem NodeAt.keep {w w' : World} {ok ok' : Nat → Prop} {gn : Nat} {f ni nx nv : ByteArray} {ca : Option Addr} {cl cc : Nat} {l : List Qd} (h : NodeAt w ok gn f ni nx nv ca cl cc l) (ho : ∀ b, ok b → ok' b) (hw : ∀ b o v, ok b → w.cell? ⟨b, o, none⟩ = some v → w'.cell? ⟨b, o, none⟩ = some v) : NodeAt w' ok' gn f ni nx nv ca cl cc l := by
  obtain ⟨h0, gi, gx, gv, gq, ci, cx, cv, cq, px, k1, k2, k3, h1, h2, h3, h4, h5⟩ := h
  refine ⟨ho _ h0, gi, gx, gv, gq, ci, cx, cv, cq, px, ho _ k1, ho _ k2, ho _ k3, fun k u hk => hw _ _ _ h0 (h1 k u hk), h2.keep (fun i v hv => hw _ _ _ k1 hv), h3.keep (fun i v hv => hw _ _ _ k2 hv), h4.keep (fun i v hv => hw _ _ _ k3 hv), fun i hi => ?_⟩
  obtain ⟨g, e, hg, hq⟩ := h5 i hi
  exact ⟨g, e, ho _ hg, QAt.keep (fun b _ hb => ho b hb) hw hg hq⟩
/-- a row of variables that was placed -/
def VarsAt (w : World) (ok : Nat → Prop) (ga : Option Addr) (vs : List Vd) : Prop := ∀ i (hi : i < vs.length), ∃ g, ga = some ⟨g, 0, none⟩ ∧ ok g ∧ VarAt w g (i * 15) vs[i].nm vs[i].ca vs[i].cl vs[i].cc
theorem VarsAt.keep {w w' : World} {ok ok' : Nat → Prop} {ga : Option Addr} {vs : List Vd} (h : VarsAt w ok ga vs) (ho : ∀ g, ok g → ok' g) (hk : ∀ g i v, ok g → w.cell? ⟨g, i, none⟩ = some v → w'.cell? ⟨g, i, none⟩ = some v) : VarsAt w' ok' ga vs := fun i hi => by
  obtain ⟨g, e1, e2, e3⟩ := h i hi
  exact ⟨g, e1, ho g e2, e3.keep (fun i v hv => hk g i v e2 hv)⟩
theorem VarsAt.one {w : World} {ok : Nat → Prop} {ga : Option Addr} {q : Vd} (h : VarsAt w ok ga [q]) : ∃ g, ga = some ⟨g, 0, none⟩ ∧ ok g ∧ VarAt w g 0 q.nm q.ca q.cl q.cc := h 0 (by simp)
/-- a node that was placed, at block gn: variables that go in, that come out, of its own; some definitions -/
def NodeG (w : World) (ok : Nat → Prop) (gn : Nat) (f : ByteArray) (is xs vs : List Vd) (l : List Qd) : Prop :=
  ok gn ∧ ∃ (gi gx gv gq : Option Addr) (ci cx cv cq : Nat) (px : Int),
    (∀ (k : Nat) (u : Value), ([.string f, .slice gi is.length ci, .slice gx xs.length cx, .slice gv vs.length cv, .slice gq l.length cq, .int .i64 px, .int .i64 1] : List Value)[k]? = some u → w.cell? ⟨gn, k, none⟩ = some u) ∧ VarsAt w ok gi is ∧ VarsAt w ok gx xs ∧ VarsAt w ok gv vs ∧ ∀ i (hi : i < l.length), ∃ g, gq = some ⟨g, 0, none⟩ ∧ ok g ∧ QAt w ok g (i * 16) l[i]
theorem NodeG.keep {w w' : World} {ok ok' : Nat → Prop} {gn : Nat} {f : ByteArray} {is xs vs : List Vd} {l : List Qd} (h : NodeG w ok gn f is xs vs l) (ho : ∀ b, ok b → ok' b) (hw : ∀ b o v, ok b → w.cell? ⟨b, o, none⟩ = some v → w'.cell? ⟨b, o, none⟩ = some v) : NodeG w' ok' gn f is xs vs l := by
  obtain ⟨h0, gi, gx, gv, gq, ci, cx, cv, cq, px, h1, h2, h3, h4, h5⟩ := h
  refine ⟨ho _ h0, gi, gx, gv, gq, ci, cx, cv, cq, px, fun k u hk => hw _ _ _ h0 (h1 k u hk), h2.keep ho hw, h3.keep ho hw, h4.keep ho hw, fun i hi => ?_⟩
  obtain ⟨g, e, hg, hq⟩ := h5 i hi
  exact ⟨g, e, ho _ hg, QAt.keep (fun b _ hb => ho b hb) hw hg hq⟩
theorem NodeG.one {w : World} {ok : Nat → Prop} {gn : Nat} {f : ByteArray} {i x v : Vd} {l : List Qd} (hi : i.ca = none ∧ i.cl = 0 ∧ i.cc = 0) (hx : x.ca = none ∧ x.cl = 0 ∧ x.cc = 0) (h : NodeG w ok gn f [i] [x] [v] l) : NodeAt w ok gn f i.nm x.nm v.nm v.ca v.cl v.cc l := by
  obtain ⟨h0, gi, gx, gv, gq, ci, cx, cv, cq, px, h1, h2, h3, h4, h5⟩ := h
  obtain ⟨g1, rfl, k1, h2⟩ := h2.one
  obtain ⟨g2, rfl, k2, h3⟩ := h3.one
  obtain ⟨g3, rfl, k3, h4⟩ := h4.one
  rw [hi.1, hi.2.1, hi.2.2] at h2
  rw [hx.1, hx.2.1, hx.2.2] at h3
  exact ⟨h0, g1, g2, g3, gq, ci, cx, cv, cq, px, k1, k2, k3, h1, h2, h3, h4, h5⟩
def PlacedPost (w : World) (okI : Nat → Prop) (f : ByteArray) (is xs vs : List Vd) (l : List Qd) (e : Ending) (w' : World) : Prop :=
  ∃ gn cn, e = .returned (.agg #[.slice none 0 0, .slice (some ⟨gn, 0, none⟩) 1 cn]) ∧ NodeG w' (fun b => okI b ∨ w.heap.size ≤ b) gn f is xs vs l ∧ Below w.heap.size w w'
theorem VarAt.below {w w' : World} {g o : Nat} {nm : ByteArray} {ca : Option Addr} {cl cc : Nat} (h : VarAt w g o nm ca cl cc) (hb : Below w.heap.size w w') : VarAt w' g o nm ca cl cc :=
  h.keep fun i v hc => (hb.cell (p := ⟨g, i, none⟩) (World.block_lt_of_cell? w _ hc)).trans hc
theorem VarAt.grownC {w w' : World} {g o c : Nat} {nm : ByteArray} {ca : Option Addr} {cl cc : Nat} (h : VarAt w g o nm ca cl cc) (hb : w.grownBy w' (some c)) (hc : g ≠ c) : VarAt w' g o nm ca cl cc :=
  h.keep fun i v hv => cell_grown_c hb hc hv
theorem VarAt.but {w w' : World} {g o N : Nat} {nm : ByteArray} {ca : Option Addr} {cl cc : Nat} (h : VarAt w g o nm ca cl cc) (hb : But w w' N) (hc : g ≠ N) : VarAt w' g o nm ca cl cc :=
  h.keep fun i v hv => hb.cell hc hv

set_option maxRecDepth 100000 in
set_option maxHeartbeats 16000000 in
theorem placed_any (w : World) (nn : Nat) (ia xa va : Option Addr) (ik xk vk qb qk nk : Nat) (f : ByteArray) (is xs vs : List Vd) (l : List Qd) (okI : Nat → Prop)
    (hn : Has w nn 59 #[.string f, .slice ia is.length ik, .slice xa xs.length xk, .slice va vs.length vk, .slice (some ⟨qb, 0, none⟩) l.length qk, .int .i64 0, .int .i64 0]) (hi : VarsIn w ia is) (hx : VarsIn w xa xs) (hv : VarsIn w va vs) (hil : ∀ b, ia = some ⟨b, 0, none⟩ → b < w.heap.size) (hxl : ∀ b, xa = some ⟨b, 0, none⟩ → b < w.heap.size) (hvl : ∀ b, va = some ⟨b, 0, none⟩ → b < w.heap.size) (hi3 : is.length ≤ 1000) (hx3 : xs.length ≤ 1000) (hv3' : vs.length ≤ 1000)
    (hq : ∀ i (hi : i < l.length), ∃ ecs, LaidP w okI l[i].e ecs ∧ ∀ (k : Nat) (v : Value), (qcells l[i] ecs 0 0)[k]? = some v → w.cell? ⟨qb, i * 16 + k, none⟩ = some v) (hl : l.length ≤ 1000) (hqb : qb < w.heap.size) :
    Calls Tryd.prog 15 #[.agg #[.slice none 0 0, .slice (some ⟨nn, 0, none⟩) 1 nk]] w (PlacedPost w okI f is xs vs l) := by
  obtain ⟨iv0, hvi, hv3⟩ := Option.map_eq_some_iff.1 node_info
  simp only [Prod.mk.injEq] at hv3
  obtain ⟨hvz, hvs, hvb⟩ := hv3
  have HVI := Lib.hid hvi
  have HVZ := Lib.hid hvz
  have HVS := Lib.hid hvs
  have HVB := Lib.hid hvb
  have HNN := Lib.hid hn
  have HI := Lib.hid hi
  have HX := Lib.hid hx
  have HV := Lib.hid hv
  have HQ := Lib.hid hq
  have HIL := Lib.hid hil
  have HXL := Lib.hid hxl
  have HVL := Lib.hid hvl
  clear hvi hvz hvs hvb
  have a0 := hn.cell 0
  have a1 := hn.cell 1
  have a2 := hn.cell 2
  have a3 := hn.cell 3
  have a4 := hn.cell 4
  have a5 := hn.cell 5
  have a6 := hn.cell 6
  simp only [List.getElem?_toArray, List.getElem?_cons_zero, List.getElem?_cons_succ] at a0 a1 a2 a3 a4 a5 a6
  obtain ⟨c, hc⟩ : ∃ c, c = w.heap.size + 1 + 1 := ⟨_, rfl⟩
  obtain ⟨ob, ho⟩ : ∃ ob, ob = w.heap.size + 1 + 1 + 1 := ⟨_, rfl⟩
  obtain ⟨W0, hW0⟩ : ∃ W0, W0 = (((w.alloc (.cells #[.slice none 0 0, .slice (some ⟨nn, 0, none⟩) 1 nk] 33)).alloc (.cells #[.slice none 0 0, .slice none 0 0] 33)).alloc (.cells #[.int .i64 0] 94)).alloc (.cells #[.slice none 0 0, .slice none 0 0] 33) := ⟨_, rfl⟩
  have hb0 : Below w.heap.size w W0 := by subst hW0; go_grown
  have hs0 : W0.heap.size = w.heap.size + 4 := by subst hW0; simp
  have hB0 : Has W0 w.heap.size 33 #[.slice none 0 0, .slice (some ⟨nn, 0, none⟩) 1 nk] := by subst hW0; exact (((Has.new w _ _).alloc _).alloc _).alloc _
  have hR0 : Has W0 (w.heap.size + 1) 33 #[.slice none 0 0, .slice none 0 0] := by
    subst hW0
    have := ((Has.new (w.alloc (.cells #[.slice none 0 0, .slice (some ⟨nn, 0, none⟩) 1 nk] 33)) 33 #[.slice none 0 0, .slice none 0 0]).alloc (.cells #[.int .i64 0] 94)).alloc (.cells #[.slice none 0 0, .slice none 0 0] 33)
    simpa using this
  have hC0 : CtrAt W0 c := by
    subst hW0 hc
    have := (Has.new ((w.alloc (.cells #[.slice none 0 0, .slice (some ⟨nn, 0, none⟩) 1 nk] 33)).alloc (.cells #[.slice none 0 0, .slice none 0 0] 33)) 94 #[.int .i64 0]).alloc (.cells #[.slice none 0 0, .slice none 0 0] 33)
    simp only [World.size_alloc] at this
    exact ⟨0, this⟩
  have hO0 : Has W0 ob 33 #[.slice none 0 0, .slice none 0 0] := by
    subst hW0 ho
    have := Has.new (((w.alloc (.cells #[.slice none 0 0, .slice (some ⟨nn, 0, none⟩) 1 nk] 33)).alloc (.cells #[.slice none 0 0, .slice none 0 0] 33)).alloc (.cells #[.int .i64 0] 94)) 33 #[.slice none 0 0, .slice none 0 0]
    simp only [World.size_alloc] at this
    exact this
  have p0 := hB0.cell 0
  have p1 := hB0.cell 1
  simp only [List.getElem?_toArray, List.getElem?_cons_zero, List.getElem?_cons_succ] at p0 p1
  have b0 := (hb0.cell (p := ⟨nn, 0, none⟩) (Has.lt hn)).trans a0
  have b1 := (hb0.cell (p := ⟨nn, 1, none⟩) (Has.lt hn)).trans a1
  have b2 := (hb0.cell (p := ⟨nn, 2, none⟩) (Has.lt hn)).trans a2
  have b3 := (hb0.cell (p := ⟨nn, 3, none⟩) (Has.lt hn)).trans a3
  have b4 := (hb0.cell (p := ⟨nn, 4, none⟩) (Has.lt hn)).trans a4
  have b5 := (hb0.cell (p := ⟨nn, 5, none⟩) (Has.lt hn)).trans a5
  have b6 := (hb0.cell (p := ⟨nn, 6, none⟩) (Has.lt hn)).trans a6
  have HB0 := Lib.hid hB0
  have HR0 := Lib.hid hR0
  have HC0 := Lib.hid hC0
  have HO0 := Lib.hid hO0
  have HBE := Lib.hid hb0
  have HS0 := Lib.hid hs0
  have HW0 := Lib.hid hW0
  have HC := Lib.hid hc
  have HO := Lib.hid ho
  clear hW0 hc ho hB0 hR0 hC0 hO0 hb0 hs0 hn hi hx hv hq hil hxl hvl a0 a1 a2 a3 a4 a5 a6
  unfold PlacedPost
  go_enter Tryd.func15, Tryd.ntmps15
  go_wp2_with fail
  rw [← HW0.out, ← HO.out, ← HC.out]
  refine wp_loop_rounds 1 ?_
  rw [rounds_succ]
  go_wp2_with fail
  refine wp_loop_rounds 2 ?_
  rw [rounds_succ]
  obtain ⟨nb, hnb⟩ : ∃ nb, nb = W0.heap.size := ⟨_, rfl⟩
  obtain ⟨A0, hA0⟩ : ∃ A0, A0 = W0.alloc (.cells #[.string f, .slice ia is.length ik, .slice xa xs.length xk, .slice va vs.length vk, .slice (some ⟨qb, 0, none⟩) l.length qk, .int .i64 0, .int .i64 0] 59) := ⟨_, rfl⟩
  have hcv := HC.out
  have hov := HO.out
  have hs0 := HS0.out
  have hal : Below W0.heap.size W0 A0 := by rw [hA0]; exact (Below.refl _ _).alloc (Nat.le_refl _) _
  have hbA : Below w.heap.size w A0 := HBE.out.trans (hal.mono HBE.out.size)
  have HN0 : Hid (Has A0 nb 59 #[.string f, .slice ia is.length ik, .slice xa xs.length xk, .slice va vs.length vk, .slice (some ⟨qb, 0, none⟩) l.length qk, .int .i64 0, .int .i64 0]) := Lib.hid (by rw [hA0, hnb]; exact Has.new W0 _ _)
  have HB1 : Hid (Has A0 w.heap.size 33 #[.slice none 0 0, .slice (some ⟨nn, 0, none⟩) 1 nk]) := Lib.hid (HB0.out.below hal (by omega))
  have HR1 : Hid (Has A0 (w.heap.size + 1) 33 #[.slice none 0 0, .slice none 0 0]) := Lib.hid (HR0.out.below hal (by omega))
  have HO1 : Hid (Has A0 ob 33 #[.slice none 0 0, .slice none 0 0]) := Lib.hid (HO0.out.below hal (by omega))
  have HNX := Lib.hid (next_any A0 c (HC0.out.below hal))
  have HSA : Hid (A0.heap.size = w.heap.size + 5) := Lib.hid (by rw [hA0]; simp; omega)
  have HBA := Lib.hid hbA
  have HNB : Hid (nb = w.heap.size + 4) := Lib.hid (by omega)
  have HA0 := Lib.hid hA0
  have HNE := Lib.hid hnb
  clear hcv hov hs0 hal hbA hA0 hnb HB0 HR0 HO0 HC0 HBE
  go_wp2_with fail
  rw [← HA0.out, ← HNE.out]
  refine HNX.out.mono ?_
  rintro e x1 ⟨px, rfl, hC1, hg1⟩
  have hcv := HC.out
  have hov := HO.out
  have hnv := HNB.out
  have hsp := hg1.size
  rw [HSA.out] at hsp
  have hN := HN0.out.grown hg1 (fun e => by injection e with e; omega)
  have hB := HB1.out.grown hg1 (fun e => by injection e with e; omega)
  have hR := HR1.out.grown hg1 (fun e => by injection e with e; omega)
  have hO := HO1.out.grown hg1 (fun e => by injection e with e; omega)
  obtain ⟨A1, hA1⟩ : ∃ A1, A1 = ((x1.setCell ⟨nb, 5, none⟩ (.int .i64 px)).setCell ⟨nb, 6, none⟩ (.int .i64 1)) := ⟨_, rfl⟩
  have hbu : But x1 A1 nb := by rw [hA1]; exact ((But.refl _ _).put 5 _).put 6 _
  have hNk : Has A1 nb 59 #[.string f, .slice ia is.length ik, .slice xa xs.length xk, .slice va vs.length vk, .slice (some ⟨qb, 0, none⟩) l.length qk, .int .i64 px, .int .i64 1] := by
    rw [hA1]
    have := ((hN.put 5 (.int .i64 px)).put 6 (.int .i64 1))
    simpa using this
  have fr1 := fun i => hN.free i
  have HN1 := Lib.hid hNk
  have HB2 := Lib.hid (hbu.has (by omega) hB)
  have HR2 := Lib.hid (hbu.has (by omega) hR)
  have HO2 := Lib.hid (hbu.has (by omega) hO)
  have HC1 := Lib.hid (hC1.but hbu (by omega))
  have hgB : Below w.heap.size w x1 := HBA.out.grown hg1 HBA.out.size (fun k hk => by injection hk with hk; omega)
  have HBA' := Lib.hid (hbu.below hgB (by omega))
  clear HBA
  have HBA := HBA'
  clear HBA'
  have HSZ : Hid (w.heap.size + 5 ≤ A1.heap.size) := Lib.hid (by rw [hbu.1]; exact hsp)
  have s5 := hN.cell 5
  have s6 := hN.cell 6
  have l1 := hNk.cell 1
  simp only [List.getElem?_toArray, List.getElem?_cons_zero, List.getElem?_cons_succ] at s5 s6 l1
  rw [hA1] at l1
  have HVN := Lib.hid (vars_any A1 c ia ik is (HI.out.below HBA.out) (fun b hb => by have := HIL.out b hb; omega) hi3 HC1.out)
  have HA1 := Lib.hid hA1
  clear hcv hov hnv hsp hN hB hR hO hA1 hbu hNk hgB hC1 hg1
  go_wp2_with fail
  rw [← HA1.out]
  refine HVN.out.mono ?_
  rintro e x2 ⟨gi, ci, rfl, hvi, hC2, hg2⟩
  have hcv := HC.out
  have hov := HO.out
  have hnv := HNB.out
  have hsp := hg2.size
  have hspp := HSZ.out
  clear HSZ
  have hN := HN1.out.grown hg2 (fun e => by injection e with e; omega)
  have hB := HB2.out.grown hg2 (fun e => by injection e with e; omega)
  have hR := HR2.out.grown hg2 (fun e => by injection e with e; omega)
  have hO := HO2.out.grown hg2 (fun e => by injection e with e; omega)
  obtain ⟨A2, hA2⟩ : ∃ A2, A2 = (x2.setCell ⟨nb, 1, none⟩ (.slice gi is.length ci)) := ⟨_, rfl⟩
  have hbu : But x2 A2 nb := by rw [hA2]; exact (But.refl _ _).put 1 _
  have hNk : Has A2 nb 59 #[.string f, .slice gi is.length ci, .slice xa xs.length xk, .slice va vs.length vk, .slice (some ⟨qb, 0, none⟩) l.length qk, .int .i64 px, .int .i64 1] := by
    rw [hA2]
    have := (hN.put 1 (.slice gi is.length ci))
    simpa using this
  have fr2 := fun i => hN.free i
  have HN2 := Lib.hid hNk
  have HB3 := Lib.hid (hbu.has (by omega) hB)
  have HR3 := Lib.hid (hbu.has (by omega) hR)
  have HO3 := Lib.hid (hbu.has (by omega) hO)
  have HC2 := Lib.hid (hC2.but hbu (by omega))
  have hgB : Below w.heap.size w x2 := HBA.out.grown hg2 HBA.out.size (fun k hk => by injection hk with hk; omega)
  have HBA' := Lib.hid (hbu.below hgB (by omega))
  clear HBA
  have HBA := HBA'
  clear HBA'
  have HSZ : Hid (w.heap.size + 5 ≤ A2.heap.size) := Lib.hid (by rw [hbu.1]; omega)
  have HVI1 : Hid (VarsAt A2 (fun b => w.heap.size + 5 ≤ b) gi is) := Lib.hid (VarsAt.keep (w := x2) hvi (fun g h => Nat.le_trans hspp h) (fun g i v h hv => hbu.cell (by omega) hv))
  have s1 := hN.cell 1
  have l2 := hNk.cell 2
  simp only [List.getElem?_toArray, List.getElem?_cons_zero, List.getElem?_cons_succ] at s1 l2
  rw [hA2] at l2
  have HVN := Lib.hid (vars_any A2 c xa xk xs (HX.out.below HBA.out) (fun b hb => by have := HXL.out b hb; omega) hx3 HC2.out)
  have HA2 := Lib.hid hA2
  clear hcv hov hnv hsp hspp hN hB hR hO hA2 hbu hNk hgB hC2 hg2 hvi s5 s6 l1 fr1
  go_wp2_with fail
  rw [← HA2.out]
  refine HVN.out.mono ?_
  rintro e x3 ⟨gx, cx, rfl, hvx, hC3, hg3⟩
  have hcv := HC.out
  have hov := HO.out
  have hnv := HNB.out
  have hsp := hg3.size
  have hspp := HSZ.out
  clear HSZ
  have hN := HN2.out.grown hg3 (fun e => by injection e with e; omega)
  have hB := HB3.out.grown hg3 (fun e => by injection e with e; omega)
  have hR := HR3.out.grown hg3 (fun e => by injection e with e; omega)
  have hO := HO3.out.grown hg3 (fun e => by injection e with e; omega)
  obtain ⟨A3, hA3⟩ : ∃ A3, A3 = (x3.setCell ⟨nb, 2, none⟩ (.slice gx xs.length cx)) := ⟨_, rfl⟩
  have hbu : But x3 A3 nb := by rw [hA3]; exact (But.refl _ _).put 2 _
  have hNk : Has A3 nb 59 #[.string f, .slice gi is.length ci, .slice gx xs.length cx, .slice va vs.length vk, .slice (some ⟨qb, 0, none⟩) l.length qk, .int .i64 px, .int .i64 1] := by
    rw [hA3]
    have := (hN.put 2 (.slice gx xs.length cx))
    simpa using this
  have fr3 := fun i => hN.free i
  have HN3 := Lib.hid hNk
  have HB4 := Lib.hid (hbu.has (by omega) hB)
  have HR4 := Lib.hid (hbu.has (by omega) hR)
  have HO4 := Lib.hid (hbu.has (by omega) hO)
  have HC3 := Lib.hid (hC3.but hbu (by omega))
  have hgB : Below w.heap.size w x3 := HBA.out.grown hg3 HBA.out.size (fun k hk => by injection hk with hk; omega)
  have HBA' := Lib.hid (hbu.below hgB (by omega))
  clear HBA
  have HBA := HBA'
  clear HBA'
  have HSZ : Hid (w.heap.size + 5 ≤ A3.heap.size) := Lib.hid (by rw [hbu.1]; omega)
  have HVI2 : Hid (VarsAt A3 (fun b => w.heap.size + 5 ≤ b) gi is) := Lib.hid (HVI1.out.keep (fun g h => h) (fun g i v h hv => hbu.cell (by omega) (cell_grown_c hg3 (by omega) hv)))
  have HVX1 : Hid (VarsAt A3 (fun b => w.heap.size + 5 ≤ b) gx xs) := Lib.hid (VarsAt.keep (w := x3) hvx (fun g h => Nat.le_trans hspp h) (fun g i v h hv => hbu.cell (by omega) hv))
  have s2 := hN.cell 2
  have l3 := hNk.cell 3
  have l4 := hNk.cell 4
  simp only [List.getElem?_toArray, List.getElem?_cons_zero, List.getElem?_cons_succ] at s2 l3 l4
  rw [hA3] at l3 l4
  have HVN := Lib.hid (block_any A3 c va vk qb qk vs l (fun b => okI b ∧ b < w.heap.size) (HV.out.below HBA.out) (fun b hb => by have := HVL.out b hb; omega) hv3'
    (fun i hi => by
      obtain ⟨ecs, h1, h2⟩ := HQ.out i hi
      exact ⟨ecs, LaidP.keep (fun b hb h => ⟨h, hb⟩) (fun b o u _ hu => (HBA.out.cell (p := ⟨b, o, none⟩) (World.block_lt_of_cell? w _ hu)).trans hu) _ _ h1, fun k u hk => (HBA.out.cell (p := ⟨qb, i * 16 + k, none⟩) hqb).trans (h2 k u hk)⟩) (by omega) (fun b hb => by omega) hl HC3.out)
  have HA3 := Lib.hid hA3
  clear hcv hov hnv hsp hspp hN hB hR hO hA3 hbu hNk hgB hC3 hg3 hvx s1 l2 fr2 HVI1
  go_wp2_with fail
  rw [← HA3.out]
  refine HVN.out.mono ?_
  rintro e x4 ⟨gv, gq, cv, cq, rfl, hvv, hqq, hC4, hg4⟩
  have hcv := HC.out
  have hov := HO.out
  have hnv := HNB.out
  have hsp := hg4.size
  have hspp := HSZ.out
  clear HSZ
  have hN := HN3.out.grown hg4 (fun e => by injection e with e; omega)
  have hB := HB4.out.grown hg4 (fun e => by injection e with e; omega)
  have hR := HR4.out.grown hg4 (fun e => by injection e with e; omega)
  have hO := HO4.out.grown hg4 (fun e => by injection e with e; omega)
  obtain ⟨A4, hA4⟩ : ∃ A4, A4 = ((x4.setCell ⟨nb, 3, none⟩ (.slice gv vs.length cv)).setCell ⟨nb, 4, none⟩ (.slice gq l.length cq)) := ⟨_, rfl⟩
  have hbu : But x4 A4 nb := by rw [hA4]; exact ((But.refl _ _).put 3 _).put 4 _
  have hNk : Has A4 nb 59 #[.string f, .slice gi is.length ci, .slice gx xs.length cx, .slice gv vs.length cv, .slice gq l.length cq, .int .i64 px, .int .i64 1] := by
    rw [hA4]
    have := ((hN.put 3 (.slice gv vs.length cv)).put 4 (.slice gq l.length cq))
    simpa using this
  have fr4 := fun i => hN.free i
  have HN4 := Lib.hid hNk
  have HB5 := Lib.hid (hbu.has (by omega) hB)
  have HR5 := Lib.hid (hbu.has (by omega) hR)
  have HO5 := Lib.hid (hbu.has (by omega) hO)
  have HC4 := Lib.hid (hC4.but hbu (by omega))
  have hgB : Below w.heap.size w x4 := HBA.out.grown hg4 HBA.out.size (fun k hk => by injection hk with hk; omega)
  have HBA' := Lib.hid (hbu.below hgB (by omega))
  clear HBA
  have HBA := HBA'
  clear HBA'
  have HSZ : Hid (w.heap.size + 5 ≤ A4.heap.size) := Lib.hid (by rw [hbu.1]; omega)
  have HVI3 : Hid (VarsAt A4 (fun b => w.heap.size + 5 ≤ b) gi is) := Lib.hid (HVI2.out.keep (fun g h => h) (fun g i v h hv => hbu.cell (by omega) (cell_grown_c hg4 (by omega) hv)))
  have HVX2 : Hid (VarsAt A4 (fun b => w.heap.size + 5 ≤ b) gx xs) := Lib.hid (HVX1.out.keep (fun g h => h) (fun g i v h hv => hbu.cell (by omega) (cell_grown_c hg4 (by omega) hv)))
  have HVV : Hid (VarsAt A4 (fun b => w.heap.size + 5 ≤ b) gv vs) := Lib.hid (VarsAt.keep (w := x4) hvv (fun g h => Nat.le_trans hspp h) (fun g i v h hv => hbu.cell (by omega) hv))
  have HQQ : Hid (∀ i (hi : i < l.length), ∃ g, gq = some ⟨g, 0, none⟩ ∧ QAt A4 (fun b => (okI b ∧ b < w.heap.size) ∨ w.heap.size + 5 ≤ b) g (i * 16) l[i] ∧ w.heap.size + 5 ≤ g) := Lib.hid (fun i hi => by
    obtain ⟨gg, h1, h2, h3⟩ := hqq i hi
    exact ⟨gg, h1, QAt.keep (fun b _ hb => by rcases hb with h | h; exact .inl h; exact .inr (by omega)) (fun b o u hb hu => hbu.cell (by rcases hb with h | h <;> omega) hu) (.inr h2) h3, by omega⟩)
  have s3 := hN.cell 3
  have s4 := hN.cell 4
  have o1 := (hbu.has (by omega) hO : Has A4 ob 33 #[.slice none 0 0, .slice none 0 0]).cell 1
  have k0 := hNk.cell 0
  have k1 := hNk.cell 1
  have k2 := hNk.cell 2
  have k3 := hNk.cell 3
  have k4 := hNk.cell 4
  have k5 := hNk.cell 5
  have k6 := hNk.cell 6
  simp only [List.getElem?_toArray, List.getElem?_cons_zero, List.getElem?_cons_succ] at s3 s4 o1 k0 k1 k2 k3 k4 k5 k6
  rw [hA4] at o1 k0 k1 k2 k3 k4 k5 k6
  have HXS : Hid (x4.heap.size = A4.heap.size) := Lib.hid hbu.1.symm
  have HA4 := Lib.hid hA4
  have HC6 : Hid (A4.heap.size ≤ (A4.alloc (.cells #[.string f, .slice gi is.length ci, .slice gx xs.length cx, .slice gv vs.length cv, .slice gq l.length cq, .int .i64 px, .int .i64 1] 59)).heap.size) := Lib.hid (by simp)
  clear hcv hov hnv hsp hspp hN hB hR hO hA4 hbu hNk hgB hC4 hg4 hvv hqq s2 l3 l4 fr3 HVI2 HVX1
  go_wp2_with (at_builtin; rw [← HA4.out]; refine wpList_append_lies _ rfl _ _ 31 rfl A4.heap.size 59 iv0 _ 7 128 Tryd.underlying31 HVI.out HVZ.out HVS.out HVB.out rfl (by decide) (.slice none 0 0) 0 [] rfl (World.ownsRow_nil _ _ _ _) ⟨x4.heap.size, 0, none⟩ 1 1 [.string f, .slice gi is.length ci, .slice gx xs.length cx, .slice gv vs.length cv, .slice gq l.length cq, .int .i64 px, .int .i64 1] rfl rfl (news_of A4 [.string f, .slice gi is.length ci, .slice gx xs.length cx, .slice gv vs.length cv, .slice gq l.length cq, .int .i64 px, .int .i64 1] 59 _ HXS.out) (by intro v hv; simp only [List.mem_cons, List.not_mem_nil, or_false] at hv; rcases hv with rfl | rfl | rfl | rfl | rfl | rfl | rfl <;> rfl) (by decide) (by decide) (by decide) HC6.out _ rfl ?_; intro g3 cap3 w5 hown3 hgr3 hg3 hlt3; have hb5 : Below A4.heap.size A4 w5 := ((Below.refl _ A4).alloc (Nat.le_refl _) (.cells #[.string f, .slice gi is.length ci, .slice gx xs.length cx, .slice gv vs.length cv, .slice gq l.length cq, .int .i64 px, .int .i64 1] 59)).grown hgr3 (by simp) (fun k hk => by simp [Value.ownBlock] at hk); have hO5 := HO5.out.below hb5 (Has.lt HO5.out); have HOW := Lib.hid hown3; have HB5' := Lib.hid hb5; have of1 := hO5.free 1; have oc1 := hO5.cell 1; simp only [List.getElem?_toArray, List.getElem?_cons_zero, List.getElem?_cons_succ] at oc1; have HOO := Lib.hid hO5; have HG3 : Hid (A4.heap.size ≤ g3) := Lib.hid (hown3.lt g3 rfl).1; clear hown3 hgr3 hg3 hlt3 hb5 hO5; clear o1 s3 s4 fr4 k0 k1 k2 k3 k4 k5 k6)
  have hcv := HC.out
  have hov := HO.out
  have hnv := HNB.out
  have hsz := HSZ.out
  have hb5 := HB5'.out
  have hob5 : But w5 (w5.setCell ⟨ob, 1, none⟩ (.slice (some ⟨g3, 0, none⟩) (0 + 1) cap3)) ob := (But.refl _ _).put 1 _
  have hO6 : Has (w5.setCell ⟨ob, 1, none⟩ (.slice (some ⟨g3, 0, none⟩) (0 + 1) cap3)) ob 33 #[.slice none 0 0, .slice (some ⟨g3, 0, none⟩) (0 + 1) cap3] := by
    have := HOO.out.put 1 (.slice (some ⟨g3, 0, none⟩) (0 + 1) cap3)
    simpa using this
  have hB6 := hob5.has (b := w.heap.size) (by omega) (HB5.out.below hb5 (Has.lt HB5.out))
  have hR6 := hob5.has (b := w.heap.size + 1) (by omega) (HR5.out.below hb5 (Has.lt HR5.out))
  have u1 := hB6.cell 1
  have v0 := hO6.cell 0
  have v1 := hO6.cell 1
  have r0 := hR6.cell 0
  have r1 := hR6.cell 1
  have rf := fun i => hR6.free i
  simp only [List.getElem?_toArray, List.getElem?_cons_zero, List.getElem?_cons_succ] at u1 v0 v1 r0 r1
  obtain ⟨W6, hW6⟩ : ∃ W6, W6 = w5.setCell ⟨ob, 1, none⟩ (.slice (some ⟨g3, 0, none⟩) (0 + 1) cap3) := ⟨_, rfl⟩
  rw [← hW6] at u1 v0 v1 r0 r1 rf hob5 hR6
  have HSELF := Lib.hid (self2 hR6 (.slice none 0 0) (.slice (some ⟨g3, 0, none⟩) (0 + 1) cap3))
  have HBUT := Lib.hid (but2 W6 (w.heap.size + 1) (.slice none 0 0) (.slice (some ⟨g3, 0, none⟩) (0 + 1) cap3))
  have HOB5 := Lib.hid hob5
  have HW6 := Lib.hid hW6
  clear hcv hov hnv hsz hb5 hob5 hO6 hB6 hR6 hW6 of1 oc1
  rw [rounds_succ]
  first | rw [← HW6.out] | skip
  go_wp2_with fail
  (try simp only [Exit.inBlock, Exit.then])
  have x0 := HSELF.out.cell 0
  have x1 := HSELF.out.cell 1
  simp only [List.getElem?_toArray, List.getElem?_cons_zero, List.getElem?_cons_succ] at x0 x1
  refine bodyPost_ret (v := .agg #[.slice none 0 0, .slice (some ⟨g3, 0, none⟩) (0 + 1) cap3]) (by simp [results, Tryd.results15, go_sem, x0, x1]) rfl ?_
  have hcv := HC.out
  have hov := HO.out
  have hnv := HNB.out
  have hsz := HSZ.out
  have hg3 := HG3.out
  have keepF : ∀ b o u, b ≠ ob → b ≠ w.heap.size + 1 → A4.cell? ⟨b, o, none⟩ = some u → ((W6.setCell ⟨w.heap.size + 1, 0, none⟩ (.slice none 0 0)).setCell ⟨w.heap.size + 1, 1, none⟩ (.slice (some ⟨g3, 0, none⟩) (0 + 1) cap3)).cell? ⟨b, o, none⟩ = some u := fun b o u h1 h2 hu =>
    HBUT.out.cell h2 (HOB5.out.cell h1 ((HB5'.out.cell (p := ⟨b, o, none⟩) (World.block_lt_of_cell? A4 _ hu)).trans hu))
  obtain ⟨a, cap, e, _, _, hcell⟩ := owned_cells HOW.out
  have e' := e
  simp only [Value.slice.injEq] at e'
  obtain ⟨rfl, -, rfl⟩ := e'
  refine ⟨g3, cap3, rfl, ⟨.inr (by omega), gi, gx, gv, gq, ci, cx, cv, cq, px, ?_, ?_, ?_, ?_, ?_⟩, ?_⟩
  · intro k u hk
    obtain ⟨g', eg, hle, hcl⟩ := hcell k u (by simpa using hk)
    simp only [Option.some.injEq, Addr.mk.injEq, and_true] at eg
    subst eg
    exact HBUT.out.cell (by omega) (HOB5.out.cell (by omega) hcl)
  · exact HVI3.out.keep (fun g h => .inr (by omega)) (fun g i v h hv => keepF _ _ _ (by omega) (by omega) hv)
  · exact HVX2.out.keep (fun g h => .inr (by omega)) (fun g i v h hv => keepF _ _ _ (by omega) (by omega) hv)
  · exact HVV.out.keep (fun g h => .inr (by omega)) (fun g i v h hv => keepF _ _ _ (by omega) (by omega) hv)
  · intro i hi
    obtain ⟨gg, h1, h2, h3⟩ := HQQ.out i hi
    exact ⟨gg, h1, .inr (by omega), QAt.keep (fun b _ hb => by rcases hb with h | h; exact .inl h.1; exact .inr (by omega)) (fun b o u hb hu => keepF b o u (by rcases hb with h | h <;> omega) (by rcases hb with h | h <;> omega) hu) (.inr h3) h2⟩
  · exact HBUT.out.below (HOB5.out.below (HBA.out.trans (HB5'.out.mono HBA.out.size)) (by omega)) (by omega)
end Go.Proofs.YtnejkgkikpgajaaDoor.ck
