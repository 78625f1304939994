/-
  The document's own clock checker: the law's block.
  The document's own clock checker: at the top of the law's equation, a merge of leaves under samplings.
  The document's own clock checker: Check of the law's program.
  Rows of truths that come in.
  ClocksWhens: what its loop keeps.
  ClocksWhens: the law's own walk.
-/
import Derived.Test.YtnejkgkikpgajaaDoorRfAll
import Derived.Test.YtnejkgkikpgajaaDoorCkBlock
import Derived.Deep.RegionHeldLaw
import Derived.Test.YtnejkgkikpgajaaDoorTrOns
import Derived.Deep.Strs
import Derived.OpenShut
import Derived.Test.YtnejkgkikpgajaaDoorLwAwake
namespace Go.Proofs.YtnejkgkikpgajaaDoor.ck
open Go.ChangeShapes Go.WideShapes Go.ChangeAt Go.RowKit
open tr Go.Sort
set_option linter.unusedVariables false
set_option linter.unusedSimpArgs false

theorem seen_info : (Tryd.prog.info? 78).map (fun i => (i.zero, i.size, i.bytes)) = some (some (.agg #[.string ⟨#[]⟩, .int .i64 0, .slice none 0 0]), 3, 48) := by kernel_rfl
/-- what the document's expr does at the top of the law's equation -/
def RTop (x : Ex) : Prop := ∀ (e' : Ex), er e' = er x → ∀ (w : World) (g : Nat) (sa : Option Addr) (sc : Nat) (b : Bool) (cs : Array Value), LaidC w e' cs.toList → Sn w sa LW → Lk w g b →
  Calls Tryd.prog 36 #[.pointer (some ⟨g, 0, none⟩), .slice sa LW.length sc, .int .i64 0, .agg cs, .slice none 0 0] w (RPost w g (b || !okE LW 0 [] x))
abbrev envC : List Value := [.string bC, .int .i64 0, .slice none 0 0, .string bX, .int .i64 0, .slice none 0 0]
abbrev envW (oc : Nat) : List Value := envC ++ [.string bW, .int .i64 0, .slice (some ⟨oc, 0, none⟩) 1 1]
theorem sn_owned {W : World} {base : Nat} {v : Value} {oc : Nat} (h : W.ownsRow base 78 3 v 3 (envW oc)) (h0 : W.cell? ⟨oc, 0, none⟩ = some (.string bT)) (h1 : W.cell? ⟨oc, 1, none⟩ = some (.string bC)) :
    ∃ sa sc, v = .slice sa LW.length sc ∧ Sn W sa LW := by
  obtain ⟨a, c, e, hn, hz, hcell⟩ := owned_cells h
  refine ⟨a, c, e, fun i x hi => ?_⟩
  obtain ⟨g, rfl, _, c0⟩ := hcell 0 _ rfl
  have hc : ∀ k u, (envW oc)[k]? = some u → W.cell? ⟨g, k, none⟩ = some u := fun k u hk => by
    obtain ⟨g', e', _, hh⟩ := hcell k u hk
    simp only [Option.some.injEq, Addr.mk.injEq, and_true] at e'
    subst e'
    exact hh
  have hnil : Ons W none [] := fun i p hp => by simp at hp
  match i, hi with
  | 0, hi => obtain rfl : (⟨bC, [], 0⟩ : En) = x := Option.some.inj hi; exact ⟨g, none, 0, rfl, hc 0 _ rfl, hc 1 _ rfl, hc 2 _ rfl, hnil, by decide, fun _ => ⟨rfl, rfl⟩, Nat.le_refl _⟩
  | 1, hi => obtain rfl : (⟨bX, [], 0⟩ : En) = x := Option.some.inj hi; exact ⟨g, none, 0, rfl, hc 3 _ rfl, hc 4 _ rfl, hc 5 _ rfl, hnil, by decide, fun _ => ⟨rfl, rfl⟩, Nat.le_refl _⟩
  | 2, hi =>
    obtain rfl : (⟨bW, [(bT, bC)], 0⟩ : En) = x := Option.some.inj hi
    refine ⟨g, some ⟨oc, 0, none⟩, 1, rfl, hc 6 _ rfl, hc 7 _ rfl, hc 8 _ rfl, fun i p hp => ?_, by decide, fun h => (by cases h), Nat.le_refl _⟩
    have hi : i = 0 := by have := (List.getElem?_eq_some_iff.1 hp).1; simp at this; exact this
    subst hi
    simp only [List.getElem?_cons_zero, Option.some.injEq] at hp
    subst hp
    exact ⟨oc, 0, rfl, h0, h1⟩
  | n + 3, hi => simp [LW, LC] at hi

theorem q16 {w : World} {g o : Nat} {q : Qd} (h : QAt w (fun _ => True) g o q) : ∃ (e' : Ex) (e0 e1 e2 e3 e4 e5 e6 e7 : Value) (x y : Int), er e' = er q.e ∧ LaidC w e' [e0, e1, e2, e3, e4, e5, e6, e7] ∧ w.cell? ⟨g, o, none⟩ = some (.int .u8 1) ∧ w.cell? ⟨g, o + 1, none⟩ = some (.slice q.la q.ll q.lc) ∧ w.cell? ⟨g, o + 2, none⟩ = some (.string ⟨#[]⟩) ∧ w.cell? ⟨g, o + 3, none⟩ = some (.slice none 0 0) ∧ w.cell? ⟨g, o + 4, none⟩ = some (.bool false) ∧ w.cell? ⟨g, o + 5, none⟩ = some e0 ∧ w.cell? ⟨g, o + 6, none⟩ = some e1 ∧ w.cell? ⟨g, o + 7, none⟩ = some e2 ∧ w.cell? ⟨g, o + 8, none⟩ = some e3 ∧ w.cell? ⟨g, o + 9, none⟩ = some e4 ∧ w.cell? ⟨g, o + 10, none⟩ = some e5 ∧ w.cell? ⟨g, o + 11, none⟩ = some e6 ∧ w.cell? ⟨g, o + 12, none⟩ = some e7 ∧ w.cell? ⟨g, o + 13, none⟩ = some (.slice none 0 0) ∧ w.cell? ⟨g, o + 14, none⟩ = some (.int .i64 x) ∧ w.cell? ⟨g, o + 15, none⟩ = some (.int .i64 y) := by
  obtain ⟨e', ecs, x, y, h1, h2, h3⟩ := h
  have hl := LaidP.laidC _ _ h2
  obtain ⟨e0, e1, e2, e3, e4, e5, e6, e7, e⟩ : ∃ c0 c1 c2 c3 c4 c5 c6 c7, ecs = [c0, c1, c2, c3, c4, c5, c6, c7] := by
    have h := hl
    cases e'
    unfold LaidC at h
    obtain ⟨_, _, _, _, _, na, nc, ka, kc, _, _, e, _, _⟩ := h
    exact ⟨_, _, _, _, _, _, _, _, e⟩
  subst e
  exact ⟨e', e0, e1, e2, e3, e4, e5, e6, e7, x, y, h1, hl, h3 0 _ rfl, h3 1 _ rfl, h3 2 _ rfl, h3 3 _ rfl, h3 4 _ rfl, h3 5 _ rfl, h3 6 _ rfl, h3 7 _ rfl, h3 8 _ rfl, h3 9 _ rfl, h3 10 _ rfl, h3 11 _ rfl, h3 12 _ rfl, h3 13 _ rfl, h3 14 _ rfl, h3 15 _ rfl⟩
theorem gd_one {e' : Ex} (h : er e' = er one) : Gd e' := by
  obtain ⟨k, o, n, nm, nms, kids, l, c⟩ := e'
  unfold one at h
  rw [er, er] at h
  injection h with h1 h2 h3 h4 h5 h6
  have hk : kids = [] := by
    rw [erK_map] at h6
    exact List.map_eq_nil_iff.1 (h6.trans (by rw [erK]))
  subst hk
  subst h1
  exact Gd.leaf _ _ _ _ _ _ _ (by decide) (by decide) (by decide)
theorem ok_one {e' : Ex} (h : er e' = er one) : okE LW 0 [(bT, bC)] e' = true := by rw [okE_same h]; rfl

theorem row_below {W1 w2 w3 : World} {o : Obj} {g2 : Nat} (hb : Below W1.heap.size W1 w2) (hg : ((w2.alloc o).drew).grownBy w3 (some g2)) (hle : W1.heap.size ≤ g2) : Below W1.heap.size W1 w3 :=
  below_two (hb.trans ((((Below.refl _ w2).alloc (Nat.le_refl _) o).drew).mono hb.size)) hg hle

set_option maxRecDepth 100000 in
set_option maxHeartbeats 16000000 in
theorem rblock_law (w : World) (g ge ce gv gq oc lw lx cv cq : Nat) (x : Ex) (hE : ∀ k u, envC[k]? = some u → w.cell? ⟨ge, k, none⟩ = some u)
    (hv : VarAt w gv 0 bW (some ⟨oc, 0, none⟩) 1 1) (ho0 : w.cell? ⟨oc, 0, none⟩ = some (.string bT)) (ho1 : w.cell? ⟨oc, 1, none⟩ = some (.string bC)) (hlw : w.cell? ⟨lw, 0, none⟩ = some (.string bW)) (hlx : w.cell? ⟨lx, 0, none⟩ = some (.string bX))
    (hq1 : QAt w (fun _ => True) gq 0 ⟨some ⟨lw, 0, none⟩, 1, 1, one⟩) (hq2 : QAt w (fun _ => True) gq 16 ⟨some ⟨lx, 0, none⟩, 1, 1, x⟩) (hK : Lk w g false) (hT : RTop x) :
    Calls Tryd.prog 18 #[.pointer (some ⟨g, 0, none⟩), .slice (some ⟨ge, 0, none⟩) 2 ce, .int .i64 0, .agg #[.slice (some ⟨gv, 0, none⟩) 1 cv, .slice (some ⟨gq, 0, none⟩) 2 cq], .slice none 0 0] w (RPost w g (!okE LW 0 [] x)) := by
  obtain ⟨iv0, hvi, hv3⟩ := Option.map_eq_some_iff.1 seen_info
  simp only [Prod.mk.injEq] at hv3
  obtain ⟨hvz, hvs, hvb⟩ := hv3
  have HVI := Lib.hid hvi
  have HVZ := Lib.hid hvz
  have HVS := Lib.hid hvs
  have HVB := Lib.hid hvb
  obtain ⟨W1, hW1⟩ : ∃ W1, W1 = w.alloc (.cells #[.slice (some ⟨gv, 0, none⟩) 1 cv, .slice (some ⟨gq, 0, none⟩) 2 cq] 45) := ⟨_, rfl⟩
  have hb1 : Below w.heap.size w W1 := by rw [hW1]; exact (Below.refl _ w).alloc (Nat.le_refl _) _
  have hex : Has W1 w.heap.size 45 #[.slice (some ⟨gv, 0, none⟩) 1 cv, .slice (some ⟨gq, 0, none⟩) 2 cq] := by rw [hW1]; exact Has.new w _ _
  have hgl := hK.lt
  have hne : w.heap.size ≠ g := by omega
  have hs1 : W1.heap.size = w.heap.size + 1 := by rw [hW1]; simp
  obtain ⟨vx, vy, hv0, hv3, hv13, hv14⟩ := hv.four
  rw [Nat.zero_add] at hv3 hv13 hv14
  have HNW : Hid (∀ j u, envC[j]? = some u → W1.cell? ((⟨ge, 0, none⟩ : Addr).add j) = some u) := Lib.hid (fun j u hu => by
    rw [add_plain, Nat.zero_add]
    exact (hb1.cell (p := ⟨ge, j, none⟩) (World.block_lt_of_cell? w _ (hE j u hu))).trans (hE j u hu))
  have HONE : Hid (∀ u ∈ envC, u.oneCell' = true) := Lib.hid (by intro v hv; simp only [List.mem_cons, List.not_mem_nil, or_false] at hv; rcases hv with rfl | rfl | rfl | rfl | rfl | rfl <;> rfl)
  have a0 := hex.cell 0
  have a1 := hex.cell 1
  simp only [List.getElem?_toArray, List.getElem?_cons_zero, List.getElem?_cons_succ] at a0 a1
  have HAA : Hid (∀ W, Below W1.heap.size W1 W → W.cell? ⟨w.heap.size, 0, none⟩ = some (.slice (some ⟨gv, 0, none⟩) 1 cv) ∧ W.cell? ⟨gv, 0, none⟩ = some (.string bW) ∧ W.cell? ⟨gv, 2 + 1, none⟩ = some (.slice (some ⟨oc, 0, none⟩) 1 1)) := Lib.hid (fun W hW => by
    have up : ∀ (b i : Nat) (v : Value), W1.cell? ⟨b, i, none⟩ = some v → W.cell? ⟨b, i, none⟩ = some v := fun b i v hv => (hW.cell (p := ⟨b, i, none⟩) (World.block_lt_of_cell? W1 _ hv)).trans hv
    have up1 : ∀ (b i : Nat) (v : Value), w.cell? ⟨b, i, none⟩ = some v → W1.cell? ⟨b, i, none⟩ = some v := fun b i v hv => (hb1.cell (p := ⟨b, i, none⟩) (World.block_lt_of_cell? w _ hv)).trans hv
    exact ⟨up _ _ _ a0, up _ _ _ (up1 _ _ _ hv0), up _ _ _ (up1 _ _ _ hv3)⟩)
  have HW1 := Lib.hid hW1
  have HB1 := Lib.hid hb1
  have HK := Lib.hid hK
  have HS1 := Lib.hid hs1
  have HA1 := Lib.hid a1
  have HO := Lib.hid (And.intro ho0 ho1)
  have HLL := Lib.hid (And.intro hlw hlx)
  have HQ1 := Lib.hid hq1
  have HQ2 := Lib.hid hq2
  have HT := Lib.hid hT
  obtain ⟨R, hR⟩ : ∃ R, R = !okE LW 0 [] x := ⟨_, rfl⟩
  have HR := Lib.hid hR
  rw [← hR]
  clear hvi hvz hvs hvb hW1 hb1 hex hv0 hv13 hv14 hs1 hK ho0 ho1 hlw hlx hq1 hq2 hT hE hR a1 a0 hv3
  unfold RPost
  go_enter Tryd.func18, Tryd.ntmps18
  go_wp2_with (at_builtin; rw [← HW1.out]; refine wpList_append_lies _ rfl _ _ 75 rfl W1.heap.size 78 iv0 _ 3 48 Tryd.underlying75 HVI.out HVZ.out HVS.out HVB.out rfl (by decide) (.slice none 0 0) 0 [] rfl (World.ownsRow_nil _ _ _ _) ⟨ge, 0, none⟩ 2 ce envC rfl rfl HNW.out HONE.out (by decide) (by decide) (by decide) (Nat.le_refl _) _ rfl ?_; intro g2 cap2 w2 hown2 hgr2 hg2 hlt2; have HOWN2 : Hid (w2.ownsRow W1.heap.size 78 3 (.slice (some ⟨g2, 0, none⟩) 2 cap2) 2 envC) := Lib.hid hown2; have HB2 : Hid (Below W1.heap.size W1 w2) := Lib.hid ⟨hgr2.os, hgr2.tape, hgr2.output, hgr2.size, fun k hk => hgr2.block k hk (by simp [Value.ownBlock])⟩; clear hown2 hgr2 hg2 hlt2)
  have HG2 : Hid (W1.heap.size ≤ g2) := Lib.hid (HOWN2.out.lt g2 rfl).1
  have HNW2 : Hid (∀ j z, ([.string bW, .int .i64 0, .slice (some ⟨oc, 0, none⟩) 1 1] : List Value)[j]? = some z → ((w2.alloc (.cells #[.string bW, .int .i64 0, .slice (some ⟨oc, 0, none⟩) 1 1] 78)).drew).cell? ((⟨w2.heap.size, 0, none⟩ : Addr).add j) = some z) := Lib.hid (news_of w2 [.string bW, .int .i64 0, .slice (some ⟨oc, 0, none⟩) 1 1] 78 _ rfl)
  have HONE2 : Hid (∀ u ∈ ([.string bW, .int .i64 0, .slice (some ⟨oc, 0, none⟩) 1 1] : List Value), u.oneCell' = true) := Lib.hid (by intro v hv; simp only [List.mem_cons, List.not_mem_nil, or_false] at hv; rcases hv with rfl | rfl | rfl <;> rfl)
  have HOWNA : Hid (((w2.alloc (.cells #[.string bW, .int .i64 0, .slice (some ⟨oc, 0, none⟩) 1 1] 78)).drew).ownsRow W1.heap.size 78 3 (.slice (some ⟨g2, 0, none⟩) 2 cap2) 2 envC) := Lib.hid (HOWN2.out.alloc _)
  have HBS : Hid (W1.heap.size ≤ ((w2.alloc (.cells #[.string bW, .int .i64 0, .slice (some ⟨oc, 0, none⟩) 1 1] 78)).drew).heap.size) := Lib.hid (by have := HB2.out.size; simp; omega)
  have HSD := Lib.hid (HAA.out w2.drew (HB2.out.trans ((Below.refl _ w2).drew.mono HB2.out.size)))
  have HSE := Lib.hid (HAA.out ((w2.alloc (.cells #[.string bW, .int .i64 0, .slice (some ⟨oc, 0, none⟩) 1 1] 78)).drew) (HB2.out.trans ((((Below.refl _ w2).alloc (Nat.le_refl _) (.cells #[.string bW, .int .i64 0, .slice (some ⟨oc, 0, none⟩) 1 1] 78)).drew).mono HB2.out.size)))
  obtain ⟨b0, b1, b2⟩ := HAA.out w2 HB2.out
  refine wp_loop_rounds 2 ?_
  rw [rounds_succ]
  go_wp2_with fail
  go_region_held_law (fun w' => w'.cell? ⟨w.heap.size, 0, none⟩ = some (.slice (some ⟨gv, 0, none⟩) 1 cv) ∧ w'.cell? ⟨gv, 0, none⟩ = some (.string bW) ∧ w'.cell? ⟨gv, 2 + 1, none⟩ = some (.slice (some ⟨oc, 0, none⟩) 1 1)) (first | with_reducible exact HS3.out | with_reducible exact HSE.out | with_reducible exact HSD.out | fail)
    ((refine step_append_lies _ (by rfl) _ _ 75 (by rfl) W1.heap.size 78 iv0 _ 3 48 Tryd.underlying75 HVI.out HVZ.out HVS.out HVB.out rfl (by decide) (.slice (some ⟨g2, 0, none⟩) 2 cap2) 2 envC (by rfl) HOWNA.out ⟨w2.heap.size, 0, none⟩ 1 1 [.string bW, .int .i64 0, .slice (some ⟨oc, 0, none⟩) 1 1] (by rfl) (by rfl) HNW2.out HONE2.out (by decide) (by decide) (by decide) HBS.out _ rfl ?_; intro g3 cap3 w3 hown3 hgr3 hg3 hlt3; have HB3 := Lib.hid (row_below HB2.out hgr3 HG2.out); have HS3 := Lib.hid (HAA.out w3 HB3.out); have HOWN3 := Lib.hid hown3; clear hown3 hgr3 hg3 hlt3))
  all_goals
    obtain ⟨b0, b1, b2⟩ := HS3.out
    have HSN3 : Hid (Sn w3 (some ⟨g3, 0, none⟩) LW) := Lib.hid (by
      have up : ∀ (b i : Nat) (v : Value), w.cell? ⟨b, i, none⟩ = some v → w3.cell? ⟨b, i, none⟩ = some v := fun b i v hv => ((HB1.out.trans (HB3.out.mono HB1.out.size)).cell (p := ⟨b, i, none⟩) (World.block_lt_of_cell? w _ hv)).trans hv
      obtain ⟨sa, sc, e, hsn⟩ := sn_owned (v := .slice (some ⟨g3, 0, none⟩) 3 cap3) HOWN3.out (up _ _ _ HO.out.1) (up _ _ _ HO.out.2)
      simp only [Value.slice.injEq] at e
      obtain ⟨rfl, -, rfl⟩ := e
      exact hsn)
    have HON : Hid (∀ a' c' W, Below w3.heap.size w3 W → Calls Tryd.prog 34 #[.slice (some ⟨g3, 0, none⟩) LW.length cap3, .int .i64 0, .string bC, .slice a' 0 c'] W (fun e w' => e = .returned (.bool true) ∧ Below W.heap.size W w')) := Lib.hid (fun a' c' W hW => (ron_any W (some ⟨g3, 0, none⟩) a' cap3 c' LW 0 bC [] (HSN3.out.below hW) (by decide) (fun i p hp => by simp at hp) (by simp)).mono (fun e w' h => ⟨by rw [h.1, on_c], by obtain ⟨-, k, rfl⟩ := h; exact drewN_below _ _⟩))
    have HOC : Hid (∀ W, Below w3.heap.size w3 W → W.cell? ⟨oc, 1, none⟩ = some (.string bC)) := Lib.hid (fun W hW => by
      have hb := HB1.out.trans ((HB3.out.trans (hW.mono HB3.out.size)).mono HB1.out.size)
      exact (hb.cell (p := ⟨oc, 1, none⟩) (World.block_lt_of_cell? w _ HO.out.2)).trans HO.out.2)
    have k0 := fun d os => HOC.out (grow (redrawn w3 d) os) (below_regrown _ _ _)
    clear HS3 HOWN3 HSD HSE HOWNA HNW2 HONE2 HBS HG2 HOWN2 HB2
    go_wp2_with fail
    rw [rounds_succ]
    go_wp2_with fail
    refine wp_loop_rounds 2 ?_
    rw [rounds_succ]
    go_wp2_with fail
    refine wp_loop_rounds 2 ?_
    rw [rounds_succ]
    go_wp2_with fail
    refine wp_region_quiet_below (by kernel_rfl) (by kernel_rfl) ?_
    repeat (go_big_quiet_step (first | (go_at_call 34; exact Calls.regrown_of (HON.out _ _ _ (below_regrown _ _ _))) | fail))
    refine wpQuiet_nil ?_
    intro w4 hw4
    have HB4 : Hid (Below W1.heap.size W1 w4) := Lib.hid (by obtain ⟨p, rfl⟩ := hw4; exact HB3.out.trans ((below_regrown _ _ _).mono HB3.out.size))
    have HSN4 : Hid (Sn w4 (some ⟨g3, 0, none⟩) LW) := Lib.hid (by obtain ⟨p, rfl⟩ := hw4; exact HSN3.out.below (below_regrown _ _ _))
    clear hw4 HSN3 HON HOC k0 b0 b1 b2
    obtain ⟨b0, b1, b2⟩ := HAA.out w4 HB4.out
    go_wp2_with fail
    rw [rounds_succ]
    go_wp2_with fail
    rw [rounds_succ]
    go_wp2_with fail
    have HUP : Hid (∀ (W : World) (b i : Nat) (v : Value), Below W1.heap.size W1 W → w.cell? ⟨b, i, none⟩ = some v → W.cell? ⟨b, i, none⟩ = some v) := Lib.hid (fun W b i v hW hv => ((HB1.out.trans (hW.mono HB1.out.size)).cell (p := ⟨b, i, none⟩) (World.block_lt_of_cell? w _ hv)).trans hv)
    have HLK4 : Hid (Lk w4 g false) := Lib.hid (HK.out.below (HB1.out.trans (HB4.out.mono HB1.out.size)))
    have HBX : Hid (∀ W, w4.grownBy W (some g) → W.cell? ⟨w.heap.size, 1, none⟩ = some (.slice (some ⟨gq, 0, none⟩) 2 cq)) := Lib.hid (fun W hW => by
      have h4 := (HB4.out.cell (p := ⟨w.heap.size, 1, none⟩) (World.block_lt_of_cell? W1 _ HA1.out)).trans HA1.out
      exact cell_grown hW hne h4)
    have HQ14 : Hid (QAt w4 (fun _ => True) gq 0 ⟨some ⟨lw, 0, none⟩, 1, 1, one⟩) := Lib.hid (HQ1.out.keep (fun _ _ h => h) (fun b o v _ hv => HUP.out w4 b o v HB4.out hv) trivial)
    have HQ24 : Hid (QAt w4 (fun _ => True) gq 16 ⟨some ⟨lx, 0, none⟩, 1, 1, x⟩) := Lib.hid (HQ2.out.keep (fun _ _ h => h) (fun b o v _ hv => HUP.out w4 b o v HB4.out hv) trivial)
    have HL4 : Hid (w4.cell? ⟨lw, 0, none⟩ = some (.string bW) ∧ w4.cell? ⟨lx, 0, none⟩ = some (.string bX)) := Lib.hid ⟨HUP.out w4 _ _ _ HB4.out HLL.out.1, HUP.out w4 _ _ _ HB4.out HLL.out.2⟩
    have HG4 : Hid (w.grownBy w4 (some g)) := Lib.hid (grown_below _ (HB1.out.trans (HB4.out.mono HB1.out.size)))
    clear b0 b1 b2 HAA HUP HQ1 HQ2 HLL HB4 HB3
    have c1 := HBX.out w4 (grown_refl _ _)
    obtain ⟨lx4, ly4, hlk4⟩ := HLK4.out
    have c0 := hlk4.cell 0
    simp only [List.getElem?_toArray, List.getElem?_cons_zero, List.getElem?_cons_succ] at c0
    clear hlk4
    obtain ⟨f1, p0, p1, p2, p3, p4, p5, p6, p7, px, py, he1, hl1, r0, r1, r2, r3, r4, r5, r6, r7, r8, r9, r10, r11, r12, r13, r14, r15⟩ := q16 HQ14.out
    simp only [Nat.zero_add] at r0 r1 r2 r3 r4 r5 r6 r7 r8 r9 r10 r11 r12 r13 r14 r15
    have HE1 := Lib.hid (req_def w4 g (some ⟨g3, 0, none⟩) cap3 LW false false lw 0 1 bW ⟨#[]⟩ ⟨bW, [(bT, bC)], 0⟩ false p0 p1 p2 p3 p4 p5 p6 p7 px py lk_w rfl HL4.out.1 HSN4.out (by decide) HLK4.out (fun W ka kc hW ho _ hcap => by
      have := rexpr_gd f1 (gd_one he1) W g (some ⟨g3, 0, none⟩) cap3 LW ka kc [(bT, bC)] false #[p0, p1, p2, p3, p4, p5, p6, p7] hcap (LaidC.below hW _ _ hl1) (HSN4.out.below hW) (by decide) ⟨ho, by decide⟩ (HLK4.out.below hW)
      rw [ok_one he1] at this
      exact this))
    clear he1 hl1
    unfold RPost at HE1
    go_wp2_with fail
    refine wp_loop_rounds 3 ?_
    rw [rounds_succ]
    go_wp2_with fail
    refine HE1.out.mono ?_
    rintro e w5 ⟨rfl, h1, h2⟩
    have HLK5 := Lib.hid h1
    have HG5 := Lib.hid h2
    clear h1 h2 c0 c1 HE1 r0 r1 r2 r3 r4 r5 r6 r7 r8 r9 r10 r11 r12 r13 r14 r15
    have HSN5 : Hid (Sn w5 (some ⟨g3, 0, none⟩) LW) := Lib.hid (Sn.look HLK4.out HG5.out HSN4.out)
    have c1 := HBX.out w5 HG5.out
    obtain ⟨lx5, ly5, hlk5⟩ := HLK5.out
    have c0 := hlk5.cell 0
    simp only [List.getElem?_toArray, List.getElem?_cons_zero, List.getElem?_cons_succ] at c0
    clear hlk5
    obtain ⟨f1, p0, p1, p2, p3, p4, p5, p6, p7, px, py, he1, hl1, r0, r1, r2, r3, r4, r5, r6, r7, r8, r9, r10, r11, r12, r13, r14, r15⟩ := q16 HQ24.out
    have HE2 := Lib.hid (req_def w5 g (some ⟨g3, 0, none⟩) cap3 LW false R lx 0 1 bX ⟨#[]⟩ ⟨bX, [], 0⟩ false p0 p1 p2 p3 p4 p5 p6 p7 px py lk_x rfl (HLK4.out.kept HG5.out HL4.out.2 _ _ HL4.out.2) HSN5.out (by decide) HLK5.out (fun W ka kc hW _ hnil _ => by
      obtain ⟨rfl, rfl⟩ := hnil rfl
      have := HT.out f1 he1 W g (some ⟨g3, 0, none⟩) cap3 false #[p0, p1, p2, p3, p4, p5, p6, p7] (LaidC.below hW _ _ (LaidC.look HLK4.out HG5.out _ _ hl1)) (HSN5.out.below hW) (HLK5.out.below hW)
      rw [Bool.false_or, ← HR.out] at this
      exact this))
    have kq := HLK4.out.kept HG5.out r2
    have t0 := kq _ _ r0
    have t1 := kq _ _ r1
    have t2 := kq _ _ r2
    have t3 := kq _ _ r3
    have t4 := kq _ _ r4
    have t5 := kq _ _ r5
    have t6 := kq _ _ r6
    have t7 := kq _ _ r7
    have t8 := kq _ _ r8
    have t9 := kq _ _ r9
    have t10 := kq _ _ r10
    have t11 := kq _ _ r11
    have t12 := kq _ _ r12
    have t13 := kq _ _ r13
    have t14 := kq _ _ r14
    have t15 := kq _ _ r15
    clear kq he1 hl1 r0 r1 r2 r3 r4 r5 r6 r7 r8 r9 r10 r11 r12 r13 r14 r15
    unfold RPost at HE2
    go_wp2_with fail
    rw [rounds_succ]
    go_wp2_with fail
    refine HE2.out.mono ?_
    rintro e w6 ⟨rfl, h1, h2⟩
    have HLK6 := Lib.hid h1
    have HG6 := Lib.hid (grown_trans HG5.out h2)
    clear h1 h2 c0 c1 HE2 t0 t1 t2 t3 t4 t5 t6 t7 t8 t9 t10 t11 t12 t13 t14 t15
    have c1 := HBX.out w6 HG6.out
    go_wp2_with fail
    rw [rounds_succ]
    go_wp2_with fail
    refine wp_loop_rounds 1 ?_
    rw [rounds_succ]
    go_wp2_with fail
    go_returns
    exact ⟨rfl, HLK6.out, grown_trans HG4.out HG6.out⟩
end Go.Proofs.YtnejkgkikpgajaaDoor.ck

namespace Go.Proofs.YtnejkgkikpgajaaDoor.ck
open Go.ChangeShapes Go.WideShapes Go.ChangeAt Go.RowKit
open tr Go.Sort
set_option linter.unusedVariables false
set_option linter.unusedSimpArgs false

theorem gd_same {y : Ex} (h : Gd y) : ∀ x : Ex, er x = er y → Gd x := by
  induction h with
  | leaf k o n nm nms l c h12 h13 h5 =>
    intro x he
    obtain ⟨k', o', n', nm', nms', kids', l', c'⟩ := x
    rw [er, er] at he
    injection he with e1 e2 e3 e4 e5 e6
    have hk : kids' = [] := by
      rw [erK_map] at e6
      exact List.map_eq_nil_iff.1 (e6.trans (by rw [erK]))
    subst hk
    subst e1
    exact Gd.leaf _ _ _ _ _ _ _ h12 h13 h5
  | when o n nm nms y l c hn _ ih =>
    intro x he
    obtain ⟨k', o', n', nm', nms', kids', l', c'⟩ := x
    rw [er, er] at he
    injection he with e1 e2 e3 e4 e5 e6
    rw [erK_map, erK_map] at e6
    obtain ⟨x', hx', hk⟩ : ∃ x', kids' = [x'] ∧ er x' = er y := by
      rcases kids' with _ | ⟨a, _ | ⟨b, r⟩⟩
      · simp at e6
      · exact ⟨a, rfl, by simpa using e6⟩
      · simp at e6
    subst hx'
    subst e1
    subst e5
    exact Gd.when _ _ _ _ _ _ _ hn (ih x' hk)

theorem rtop_merge (o : Nat) (n : Int) (nms : List ByteArray) (kids : List Ex) (l c : Int) (hkn : kids.length ≤ nms.length) (hg : ∀ i (hi : i < kids.length), Gd kids[i]) : RTop (.mk 13 o n bC nms kids l c) := by
  intro e' he w g sa sc b cs hx hS hK
  have hok := okE_same (L := LW) (d := 0) (ck := []) he
  rw [← hok]
  obtain ⟨k', o', n', nm', nms', kids', l', c'⟩ := e'
  have he2 := he
  rw [er, er] at he2
  injection he2 with e1 e2 e3 e4 e5 e6
  rw [erK_map, erK_map] at e6
  subst e1
  subst e4
  subst e5
  have hl : kids'.length = kids.length := by have := congrArg List.length e6; simpa using this
  refine rexpr_merge w g sa sc LW b o' n' bC nms' kids' l' c' cs (by omega) (fun i hi => ?_) on_c hx hS (by decide) hK
  refine rexpr_gd _ (gd_same (hg i (by omega)) _ ?_)
  have h1 : (kids'.map er)[i]? = (kids.map er)[i]? := by rw [e6]
  rw [List.getElem?_map, List.getElem?_map, List.getElem?_eq_getElem hi, List.getElem?_eq_getElem (show i < kids.length by omega)] at h1
  simpa using h1

/-- what the law builds: an expression under samplings, each true or false -/
def bFa : ByteArray := ⟨#[102, 97, 108, 115, 101]⟩
def base (v : Bool) : Ex := if v then .mk 4 0 0 bW [] [] 0 0 else .mk 1 0 1 noT [] [] 0 0
def under (v : Bool) : List Bool → Ex
  | [] => base v
  | b :: r => .mk 12 0 0 bC [if b then bT else bFa] [under v r] 0 0
/-- l is in the order in which the law goes through it: the last one is the outermost -/
def lawE (v : Bool) (l : List Bool) : Ex := .mk 13 0 0 bC [bT, bFa] [under v l.reverse, one] 0 0
theorem under_gd (v : Bool) : ∀ l : List Bool, Gd (under v l)
  | [] => by
    unfold under base
    cases v
    · exact Gd.leaf _ _ _ _ _ _ _ (by decide) (by decide) (by decide)
    · exact Gd.leaf _ _ _ _ _ _ _ (by decide) (by decide) (by decide)
  | b :: r => by
    unfold under
    exact Gd.when _ _ _ _ _ _ _ (by simp) (under_gd v r)
theorem lawE_top (v : Bool) (l : List Bool) : RTop (lawE v l) := by
  unfold lawE
  refine rtop_merge _ _ _ _ _ _ (by simp) (fun i hi => ?_)
  match i, hi with
  | 0, _ => exact under_gd v _
  | 1, _ => exact Gd.leaf _ _ _ _ _ _ _ (by decide) (by decide) (by decide)
theorem under_nil (v : Bool) : ∀ l : List Bool, okE LW 0 [] (under v l) = (decide (l = []) && !v)
  | [] => by
    unfold under base
    cases v
    · rw [if_neg (by decide), okE, if_neg (by decide), if_neg (by decide), if_neg (by decide), okK]; simp
    · rw [if_pos rfl, okE, if_pos (.inl rfl)]
      have : onB LW 0 bW [] = false := by unfold onB; rw [lk_w]; rfl
      rw [this]; simp
  | b :: r => by unfold under; rw [okE, if_neg (by decide), if_pos rfl]; simp
theorem smp0 (b : Bool) : smp [if b then bT else bFa] bC 0 = (if b then bT else bFa, bC) := by rw [smp_lt (by simp)]; rfl
theorem under_true (v : Bool) : ∀ l : List Bool, okE LW 0 [(bT, bC)] (under v l) = (decide (l = []) || decide (l = [true]) && !v)
  | [] => by
    unfold under base
    cases v
    · rw [if_neg (by decide), okE, if_neg (by decide), if_neg (by decide), if_neg (by decide), okK]; simp
    · rw [if_pos rfl, okE, if_pos (.inl rfl)]
      have : onB LW 0 bW [(bT, bC)] = true := by unfold onB; rw [lk_w]; dsimp only; rw [onsB_refl]; rfl
      rw [this]; simp
  | b :: r => by
    unfold under
    rw [okE, if_neg (by decide), if_pos rfl, smp0, okK, okK, Bool.and_true, under_nil, on_c]
    cases b
    · have : eqO (bT, bC) (bFa, bC) = false := by kernel_rfl
      simp [this]
    · have : eqO (bT, bC) (bT, bC) = true := by kernel_rfl
      simp [this]
/-- the law's program is right just if the list is empty, or true alone over a number -/
theorem lawE_ok (v : Bool) (l : List Bool) : okE LW 0 [] (lawE v l) = (decide (l = []) || decide (l = [true]) && !v) := by
  unfold lawE
  rw [okE, if_neg (by decide), if_neg (by decide), if_pos rfl, on_c, Bool.true_and, okM, okM, okM]
  have h0 : smp [bT, bFa] bC 0 = (bT, bC) := by rw [smp_lt (by simp)]; rfl
  have h1 : okE LW 0 [smp [bT, bFa] bC (0 + 1)] one = true := by rw [show one = (.mk 1 0 0 ⟨#[]⟩ [] [] 0 0 : Ex) from rfl]; rw [okE, if_neg (by decide), if_neg (by decide), if_neg (by decide), okK]
  rw [h0, h1, under_true, Bool.and_true, Bool.and_true]
  congr 1
  · simp
  · congr 1
    cases l with
    | nil => rfl
    | cons a r => cases r with
      | nil => rfl
      | cons b s =>
        have h1 : ¬ (a :: b :: s).reverse = [true] := fun h => by have := congrArg List.length h; simp at this
        have h2 : ¬ (a :: b :: s) = [true] := fun h => by have := congrArg List.length h; simp at this
        rw [decide_eq_false h1, decide_eq_false h2]
end Go.Proofs.YtnejkgkikpgajaaDoor.ck

namespace Go.Proofs.YtnejkgkikpgajaaDoor.ck
open Go.ChangeShapes Go.WideShapes Go.ChangeAt Go.RowKit
open tr Go.Sort
set_option linter.unusedVariables false
set_option linter.unusedSimpArgs false

def RCheckPost (w : World) (bad : Bool) (e : Ending) (w' : World) : Prop := ∃ x y : Int, e = .returned (.tuple #[.bool bad, .agg #[.int .i64 x, .int .i64 y]]) ∧ Below w.heap.size w w'
/-- what the loop over the node's variables keeps, behind j of them -/
structure VarsSeen (W4 : World) (L : List Value) (n : Nat) (v : Value) (W : World) : Prop where
  below : Below W4.heap.size W4 W
  row : W.ownsRow W4.heap.size 78 3 v n L

set_option maxRecDepth 100000 in
set_option maxHeartbeats 16000000 in
theorem rcheck_law (w : World) (gn cn : Nat) (x : Ex) (hP : ProgAt w gn x) (hT : RTop x) :
    Calls Tryd.prog 8 #[.agg #[.slice none 0 0, .slice (some ⟨gn, 0, none⟩) 1 cn]] w (RCheckPost w (!okE LW 0 [] x)) := by
  obtain ⟨iv0, hvi, hv3⟩ := Option.map_eq_some_iff.1 seen_info
  simp only [Prod.mk.injEq] at hv3
  obtain ⟨hvz, hvs, hvb⟩ := hv3
  have HVI := Lib.hid hvi
  have HVZ := Lib.hid hvz
  have HVS := Lib.hid hvs
  have HVB := Lib.hid hvb
  obtain ⟨oc, lw, lx, ⟨_, gi, gx, gv, gq, ci, cx, cv, cq, px, _, _, _, hn, hvi', hvx, hvv, hqs⟩, ho0, ho1, hlw, hlx⟩ := hP
  obtain ⟨q1, e1, _, hq1⟩ := hqs 0 (by simp)
  obtain ⟨q2, e2, _, hq2⟩ := hqs 1 (by simp)
  rw [e1] at e2
  simp only [Option.some.injEq, Addr.mk.injEq, and_true] at e2
  subst e2
  subst e1
  have n0 := hn 0 _ rfl
  have n1 := hn 1 _ rfl
  have n2 := hn 2 _ rfl
  have n3 := hn 3 _ rfl
  have n4 := hn 4 _ rfl
  have n5 := hn 5 _ rfl
  have n6 := hn 6 _ rfl
  obtain ⟨vitk, vitn, _, vix, viy, ⟨vik, vio, vin, vinm, vina, vinl, vinc, vika, vikl, vikc, vil, vic, rfl⟩, hic⟩ := hvi'
  obtain ⟨vxtk, vxtn, _, vxx, vxy, ⟨vxk, vxo, vxn, vxnm, vxna, vxnl, vxnc, vxka, vxkl, vxkc, vxl, vxc, rfl⟩, hxc⟩ := hvx
  have c0 := hic 0 _ rfl
  have c1 := hic 1 _ rfl
  have c2 := hic 2 _ rfl
  have c3 := hic 3 _ rfl
  have c4 := hic 4 _ rfl
  have c5 := hic 5 _ rfl
  have c6 := hic 6 _ rfl
  have c7 := hic 7 _ rfl
  have c8 := hic 8 _ rfl
  have c9 := hic 9 _ rfl
  have c10 := hic 10 _ rfl
  have c11 := hic 11 _ rfl
  have c12 := hic 12 _ rfl
  have c13 := hic 13 _ rfl
  have c14 := hic 14 _ rfl
  have d0 := hxc 0 _ rfl
  have d1 := hxc 1 _ rfl
  have d2 := hxc 2 _ rfl
  have d3 := hxc 3 _ rfl
  have d4 := hxc 4 _ rfl
  have d5 := hxc 5 _ rfl
  have d6 := hxc 6 _ rfl
  have d7 := hxc 7 _ rfl
  have d8 := hxc 8 _ rfl
  have d9 := hxc 9 _ rfl
  have d10 := hxc 10 _ rfl
  have d11 := hxc 11 _ rfl
  have d12 := hxc 12 _ rfl
  have d13 := hxc 13 _ rfl
  have d14 := hxc 14 _ rfl
  simp only [Nat.zero_add] at c0 d0 c1 d1 c2 d2 c3 d3 c4 d4 c5 d5 c6 d6 c7 d7 c8 d8 c9 d9 c10 d10 c11 d11 c12 d12 c13 d13 c14 d14
  obtain ⟨W3, hW3⟩ : ∃ W3, W3 = ((w.alloc (.cells #[.slice none 0 0, .slice (some ⟨gn, 0, none⟩) 1 cn] 33)).alloc (.cells #[.int .i64 0, .int .i64 0] 27)).alloc (.cells #[.bool false, .int .i64 0, .int .i64 0] 74) := ⟨_, rfl⟩
  have hA3 : W3 = allocs w [.cells #[.slice none 0 0, .slice (some ⟨gn, 0, none⟩) 1 cn] 33, .cells #[.int .i64 0, .int .i64 0] 27, .cells #[.bool false, .int .i64 0, .int .i64 0] 74] := hW3
  have hb3 : Below w.heap.size w W3 := by rw [hA3]; exact allocs_below _ _
  have hs3 : W3.heap.size = w.heap.size + 3 := by rw [hA3, allocs_size]; rfl
  have hprog : Has W3 w.heap.size 33 #[.slice none 0 0, .slice (some ⟨gn, 0, none⟩) 1 cn] := by rw [hA3]; exact allocs_get w _ 0 (by simp)
  have hpos : Has W3 (w.heap.size + 1) 27 #[.int .i64 0, .int .i64 0] := by rw [hA3]; exact allocs_get w _ 1 (by simp)
  have hlook : Has W3 (w.heap.size + 2) 74 #[.bool false, .int .i64 0, .int .i64 0] := by rw [hA3]; exact allocs_get w _ 2 (by simp)
  have up3 : ∀ (b i : Nat) (v : Value), w.cell? ⟨b, i, none⟩ = some v → W3.cell? ⟨b, i, none⟩ = some v := fun b i v hv => (hb3.cell (p := ⟨b, i, none⟩) (World.block_lt_of_cell? w _ hv)).trans hv
  have m0 := up3 _ _ _ n0
  have m1 := up3 _ _ _ n1
  have m2 := up3 _ _ _ n2
  have m3 := up3 _ _ _ n3
  have m4 := up3 _ _ _ n4
  have m5 := up3 _ _ _ n5
  have m6 := up3 _ _ _ n6
  rw [hW3] at m0 m1 m2 m3 m4 m5 m6
  unfold RCheckPost
  go_enter Tryd.func8, Tryd.ntmps8
  go_wp2_with fail
  refine wp_loop_rounds 2 ?_
  rw [rounds_succ]
  go_wp2_with fail
  rw [← hW3]
  obtain ⟨W4, hW4⟩ : ∃ W4, W4 = W3.alloc (.cells #[.string bF, .slice (some ⟨gi, 0, none⟩) 1 ci, .slice (some ⟨gx, 0, none⟩) 1 cx, .slice (some ⟨gv, 0, none⟩) 1 cv, .slice (some ⟨q1, 0, none⟩) 2 cq, .int .i64 px, .int .i64 1] 59) := ⟨_, rfl⟩
  have hb4 : Below W3.heap.size W3 W4 := by rw [hW4]; exact (Below.refl _ _).alloc (Nat.le_refl _) _
  have hn4 : Has W4 (w.heap.size + 1 + 1 + 1) 59 #[.string bF, .slice (some ⟨gi, 0, none⟩) 1 ci, .slice (some ⟨gx, 0, none⟩) 1 cx, .slice (some ⟨gv, 0, none⟩) 1 cv, .slice (some ⟨q1, 0, none⟩) 2 cq, .int .i64 px, .int .i64 1] := by
    have : w.heap.size + 1 + 1 + 1 = W3.heap.size := by omega
    rw [this, hW4]
    exact Has.new _ _ _
  have hbw4 : Below w.heap.size w W4 := hb3.trans (hb4.mono hb3.size)
  have hs4 : W4.heap.size = w.heap.size + 4 := by rw [hW4]; simp; omega
  rw [← hW4]
  have HN4 : Hid (∀ W, Below W4.heap.size W4 W → Has W (w.heap.size + 1 + 1 + 1) 59 #[.string bF, .slice (some ⟨gi, 0, none⟩) 1 ci, .slice (some ⟨gx, 0, none⟩) 1 cx, .slice (some ⟨gv, 0, none⟩) 1 cv, .slice (some ⟨q1, 0, none⟩) 2 cq, .int .i64 px, .int .i64 1]) := Lib.hid (fun W hW => hn4.below hW (by omega))
  have HC4 : Hid (∀ W, Below W4.heap.size W4 W → ∀ (b i : Nat) (v : Value), w.cell? ⟨b, i, none⟩ = some v → W.cell? ⟨b, i, none⟩ = some v) := Lib.hid (fun W hW b i v hv => ((hbw4.trans (hW.mono hbw4.size)).cell (p := ⟨b, i, none⟩) (World.block_lt_of_cell? w _ hv)).trans hv)
  have HBW4 := Lib.hid hbw4
  have HS4 := Lib.hid hs4
  have HB4 := Lib.hid hb4
  have HS3 := Lib.hid hs3
  have HL3 := Lib.hid (And.intro hprog hlook)
  have HPOS := Lib.hid hpos
  have HGI : Hid (gi < W4.heap.size ∧ gx < W4.heap.size) := Lib.hid ⟨by have := World.block_lt_of_cell? w _ c0; have := hbw4.size; simp at *; omega, by have := World.block_lt_of_cell? w _ d0; have := hbw4.size; simp at *; omega⟩
  have HIC : Hid (∀ k u, ([.string bC, .int .u8 vitk, .string vitn, .slice none 0 0, .bool false, .int .u8 vik, .int .u8 vio, .int .i32 vin, .string vinm, .slice vina vinl vinc, .slice vika vikl vikc, .int .i64 vil, .int .i64 vic, .int .i64 vix, .int .i64 viy] : List Value)[k]? = some u → w.cell? ⟨gi, k, none⟩ = some u) := Lib.hid (fun k u hk => by have := hic k u hk; rw [Nat.zero_add] at this; exact this)
  have HXC : Hid (∀ k u, ([.string bX, .int .u8 vxtk, .string vxtn, .slice none 0 0, .bool false, .int .u8 vxk, .int .u8 vxo, .int .i32 vxn, .string vxnm, .slice vxna vxnl vxnc, .slice vxka vxkl vxkc, .int .i64 vxl, .int .i64 vxc, .int .i64 vxx, .int .i64 vxy] : List Value)[k]? = some u → w.cell? ⟨gx, k, none⟩ = some u) := Lib.hid (fun k u hk => by have := hxc k u hk; rw [Nat.zero_add] at this; exact this)
  have HVV := Lib.hid hvv
  have HO := Lib.hid (And.intro ho0 (And.intro ho1 (And.intro hlw hlx)))
  have HQQ := Lib.hid (And.intro hq1 hq2)
  have HTT := Lib.hid hT
  clear m0 n0 m1 n1 m2 n2 m3 n3 m4 n4 m5 n5 m6 n6 c0 d0 c1 d1 c2 d2 c3 d3 c4 d4 c5 d5 c6 d6 c7 d7 c8 d8 c9 d9 c10 d10 c11 d11 c12 d12 c13 d13 c14 d14 hvi hvz hvs hvb hvv ho0 ho1 hlw hlx hq1 hq2 hT hprog hpos hlook hs3 hb4 hn hqs hic hxc hW3 hA3 hb3 up3 hW4 hn4 hbw4 hs4
  -- ROUND 1
  have HR0 : Hid (VarsSeen W4 [] 0 (.slice none 0 0) W4) := Lib.hid ⟨Below.refl _ _, World.ownsRow_nil _ _ _ _⟩
  refine wp_loop_rounds 3 ?_
  rw [rounds_succ]
  have hn4 := HN4.out W4 HR0.out.below
  have nn1 := hn4.cell 1
  have nn2 := hn4.cell 2
  have nl := Has.lt hn4
  simp only [List.getElem?_toArray, List.getElem?_cons_zero, List.getElem?_cons_succ] at nn1 nn2
  have gl1 : gi < W4.heap.size := Nat.lt_of_lt_of_le HGI.out.1 HR0.out.below.size
  have gl2 : gx < W4.heap.size := Nat.lt_of_lt_of_le HGI.out.2 HR0.out.below.size
  have c0 := HC4.out W4 HR0.out.below _ _ _ (HIC.out 0 _ rfl)
  have c1 := HC4.out W4 HR0.out.below _ _ _ (HIC.out 1 _ rfl)
  have c2 := HC4.out W4 HR0.out.below _ _ _ (HIC.out 2 _ rfl)
  have c3 := HC4.out W4 HR0.out.below _ _ _ (HIC.out 3 _ rfl)
  have c4 := HC4.out W4 HR0.out.below _ _ _ (HIC.out 4 _ rfl)
  have c5 := HC4.out W4 HR0.out.below _ _ _ (HIC.out 5 _ rfl)
  have c6 := HC4.out W4 HR0.out.below _ _ _ (HIC.out 6 _ rfl)
  have c7 := HC4.out W4 HR0.out.below _ _ _ (HIC.out 7 _ rfl)
  have c8 := HC4.out W4 HR0.out.below _ _ _ (HIC.out 8 _ rfl)
  have c9 := HC4.out W4 HR0.out.below _ _ _ (HIC.out 9 _ rfl)
  have c10 := HC4.out W4 HR0.out.below _ _ _ (HIC.out 10 _ rfl)
  have c11 := HC4.out W4 HR0.out.below _ _ _ (HIC.out 11 _ rfl)
  have c12 := HC4.out W4 HR0.out.below _ _ _ (HIC.out 12 _ rfl)
  have c13 := HC4.out W4 HR0.out.below _ _ _ (HIC.out 13 _ rfl)
  have c14 := HC4.out W4 HR0.out.below _ _ _ (HIC.out 14 _ rfl)
  have hfz := (Has.new W4 54 #[.string ⟨#[]⟩, .int .u8 0, .string ⟨#[]⟩, .slice none 0 0, .bool false, .int .u8 0, .int .u8 0, .int .i32 0, .string ⟨#[]⟩, .slice none 0 0, .slice none 0 0, .int .i64 0, .int .i64 0, .int .i64 0, .int .i64 0]).free
  clear hn4
  have HNW : Hid (∀ j z, ([.string bC, .int .i64 0, .slice none 0 0] : List Value)[j]? = some z → ((W4.alloc (.cells #[.string bC, .int .u8 vitk, .string vitn, .slice none 0 0, .bool false, .int .u8 vik, .int .u8 vio, .int .i32 vin, .string vinm, .slice vina vinl vinc, .slice vika vikl vikc, .int .i64 vil, .int .i64 vic, .int .i64 vix, .int .i64 viy] 54)).alloc (.cells #[.string bC, .int .i64 0, .slice none 0 0] 78)).cell? ((⟨W4.heap.size + 1, 0, none⟩ : Addr).add j) = some z) := Lib.hid (news_of (W4.alloc (.cells #[.string bC, .int .u8 vitk, .string vitn, .slice none 0 0, .bool false, .int .u8 vik, .int .u8 vio, .int .i32 vin, .string vinm, .slice vina vinl vinc, .slice vika vikl vikc, .int .i64 vil, .int .i64 vic, .int .i64 vix, .int .i64 viy] 54)) [.string bC, .int .i64 0, .slice none 0 0] 78 _ (by simp))
  have HRW : Hid (((W4.alloc (.cells #[.string bC, .int .u8 vitk, .string vitn, .slice none 0 0, .bool false, .int .u8 vik, .int .u8 vio, .int .i32 vin, .string vinm, .slice vina vinl vinc, .slice vika vikl vikc, .int .i64 vil, .int .i64 vic, .int .i64 vix, .int .i64 viy] 54)).alloc (.cells #[.string bC, .int .i64 0, .slice none 0 0] 78)).ownsRow W4.heap.size 78 3 (Value.slice none 0 0) 0 []) := Lib.hid ((HR0.out.row.alloc _).alloc _)
  have HSZ : Hid (W4.heap.size ≤ ((W4.alloc (.cells #[.string bC, .int .u8 vitk, .string vitn, .slice none 0 0, .bool false, .int .u8 vik, .int .u8 vio, .int .i32 vin, .string vinm, .slice vina vinl vinc, .slice vika vikl vikc, .int .i64 vil, .int .i64 vic, .int .i64 vix, .int .i64 viy] 54)).alloc (.cells #[.string bC, .int .i64 0, .slice none 0 0] 78)).heap.size) := Lib.hid (by have := HR0.out.below.size; simp only [World.size_alloc]; omega)
  have HST : Hid (∀ (w3 : World) (g3 cap3 : Nat), w3.ownsRow W4.heap.size 78 3 (.slice (some ⟨g3, 0, none⟩) (0 + 1) cap3) (0 + 1) ([] ++ [.string bC, .int .i64 0, .slice none 0 0]) → ((W4.alloc (.cells #[.string bC, .int .u8 vitk, .string vitn, .slice none 0 0, .bool false, .int .u8 vik, .int .u8 vio, .int .i32 vin, .string vinm, .slice vina vinl vinc, .slice vika vikl vikc, .int .i64 vil, .int .i64 vic, .int .i64 vix, .int .i64 viy] 54)).alloc (.cells #[.string bC, .int .i64 0, .slice none 0 0] 78)).grownBy w3 ((Value.slice none 0 0)).ownBlock → VarsSeen W4 ([] ++ [.string bC, .int .i64 0, .slice none 0 0]) (0 + 1) (.slice (some ⟨g3, 0, none⟩) (0 + 1) cap3) w3) := Lib.hid (fun w3 g3 cap3 p1 p2 => by
    refine ⟨?_, p1⟩
    refine (((HR0.out.below.alloc HR0.out.below.size _).alloc (by have := HR0.out.below.size; simp only [World.size_alloc]; omega) _).grown p2 (by have := HR0.out.below.size; simp only [World.size_alloc]; omega) (fun g hg => ?_))
    exact (HR0.out.row.lt g hg).1)
  go_wp2_with (at_builtin; refine wpList_append_lies _ rfl _ _ 75 rfl W4.heap.size 78 iv0 _ 3 48 Tryd.underlying75 HVI.out HVZ.out HVS.out HVB.out rfl (by decide) (Value.slice none 0 0) 0 [] rfl HRW.out ⟨W4.heap.size + 1, 0, none⟩ 1 1 [.string bC, .int .i64 0, .slice none 0 0] rfl rfl HNW.out (by intro v hv; simp only [List.mem_cons, List.not_mem_nil, or_false] at hv; rcases hv with rfl | rfl | rfl <;> rfl) (by decide) (by decide) (by decide) HSZ.out _ rfl ?_; intro g1 cap1 w1 hown3 hgr3 hg3 hlt3; have HR1 := Lib.hid (HST.out w1 g1 cap1 hown3 hgr3); clear hown3 hgr3 hg3 hlt3; clear c0 c1 c2 c3 c4 c5 c6 c7 c8 c9 c10 c11 c12 c13 c14 nn1 nn2 nl gl1 gl2 hfz)
  clear HNW HRW HSZ HST HR0
  rw [rounds_succ]
  have hn4 := HN4.out w1 HR1.out.below
  have nn1 := hn4.cell 1
  have nn2 := hn4.cell 2
  have nl := Has.lt hn4
  simp only [List.getElem?_toArray, List.getElem?_cons_zero, List.getElem?_cons_succ] at nn1 nn2
  have gl1 : gi < w1.heap.size := Nat.lt_of_lt_of_le HGI.out.1 HR1.out.below.size
  have gl2 : gx < w1.heap.size := Nat.lt_of_lt_of_le HGI.out.2 HR1.out.below.size
  have c0 := HC4.out w1 HR1.out.below _ _ _ (HXC.out 0 _ rfl)
  have c1 := HC4.out w1 HR1.out.below _ _ _ (HXC.out 1 _ rfl)
  have c2 := HC4.out w1 HR1.out.below _ _ _ (HXC.out 2 _ rfl)
  have c3 := HC4.out w1 HR1.out.below _ _ _ (HXC.out 3 _ rfl)
  have c4 := HC4.out w1 HR1.out.below _ _ _ (HXC.out 4 _ rfl)
  have c5 := HC4.out w1 HR1.out.below _ _ _ (HXC.out 5 _ rfl)
  have c6 := HC4.out w1 HR1.out.below _ _ _ (HXC.out 6 _ rfl)
  have c7 := HC4.out w1 HR1.out.below _ _ _ (HXC.out 7 _ rfl)
  have c8 := HC4.out w1 HR1.out.below _ _ _ (HXC.out 8 _ rfl)
  have c9 := HC4.out w1 HR1.out.below _ _ _ (HXC.out 9 _ rfl)
  have c10 := HC4.out w1 HR1.out.below _ _ _ (HXC.out 10 _ rfl)
  have c11 := HC4.out w1 HR1.out.below _ _ _ (HXC.out 11 _ rfl)
  have c12 := HC4.out w1 HR1.out.below _ _ _ (HXC.out 12 _ rfl)
  have c13 := HC4.out w1 HR1.out.below _ _ _ (HXC.out 13 _ rfl)
  have c14 := HC4.out w1 HR1.out.below _ _ _ (HXC.out 14 _ rfl)
  have hfz := (Has.new w1 54 #[.string ⟨#[]⟩, .int .u8 0, .string ⟨#[]⟩, .slice none 0 0, .bool false, .int .u8 0, .int .u8 0, .int .i32 0, .string ⟨#[]⟩, .slice none 0 0, .slice none 0 0, .int .i64 0, .int .i64 0, .int .i64 0, .int .i64 0]).free
  clear hn4
  have HNW : Hid (∀ j z, ([.string bX, .int .i64 0, .slice none 0 0] : List Value)[j]? = some z → ((w1.alloc (.cells #[.string bX, .int .u8 vxtk, .string vxtn, .slice none 0 0, .bool false, .int .u8 vxk, .int .u8 vxo, .int .i32 vxn, .string vxnm, .slice vxna vxnl vxnc, .slice vxka vxkl vxkc, .int .i64 vxl, .int .i64 vxc, .int .i64 vxx, .int .i64 vxy] 54)).alloc (.cells #[.string bX, .int .i64 0, .slice none 0 0] 78)).cell? ((⟨w1.heap.size + 1, 0, none⟩ : Addr).add j) = some z) := Lib.hid (news_of (w1.alloc (.cells #[.string bX, .int .u8 vxtk, .string vxtn, .slice none 0 0, .bool false, .int .u8 vxk, .int .u8 vxo, .int .i32 vxn, .string vxnm, .slice vxna vxnl vxnc, .slice vxka vxkl vxkc, .int .i64 vxl, .int .i64 vxc, .int .i64 vxx, .int .i64 vxy] 54)) [.string bX, .int .i64 0, .slice none 0 0] 78 _ (by simp))
  have HRW : Hid (((w1.alloc (.cells #[.string bX, .int .u8 vxtk, .string vxtn, .slice none 0 0, .bool false, .int .u8 vxk, .int .u8 vxo, .int .i32 vxn, .string vxnm, .slice vxna vxnl vxnc, .slice vxka vxkl vxkc, .int .i64 vxl, .int .i64 vxc, .int .i64 vxx, .int .i64 vxy] 54)).alloc (.cells #[.string bX, .int .i64 0, .slice none 0 0] 78)).ownsRow W4.heap.size 78 3 (Value.slice (some ⟨g1, 0, none⟩) (0 + 1) cap1) 1 [.string bC, .int .i64 0, .slice none 0 0]) := Lib.hid ((HR1.out.row.alloc _).alloc _)
  have HSZ : Hid (W4.heap.size ≤ ((w1.alloc (.cells #[.string bX, .int .u8 vxtk, .string vxtn, .slice none 0 0, .bool false, .int .u8 vxk, .int .u8 vxo, .int .i32 vxn, .string vxnm, .slice vxna vxnl vxnc, .slice vxka vxkl vxkc, .int .i64 vxl, .int .i64 vxc, .int .i64 vxx, .int .i64 vxy] 54)).alloc (.cells #[.string bX, .int .i64 0, .slice none 0 0] 78)).heap.size) := Lib.hid (by have := HR1.out.below.size; simp only [World.size_alloc]; omega)
  have HST : Hid (∀ (w3 : World) (g3 cap3 : Nat), w3.ownsRow W4.heap.size 78 3 (.slice (some ⟨g3, 0, none⟩) (1 + 1) cap3) (1 + 1) ([.string bC, .int .i64 0, .slice none 0 0] ++ [.string bX, .int .i64 0, .slice none 0 0]) → ((w1.alloc (.cells #[.string bX, .int .u8 vxtk, .string vxtn, .slice none 0 0, .bool false, .int .u8 vxk, .int .u8 vxo, .int .i32 vxn, .string vxnm, .slice vxna vxnl vxnc, .slice vxka vxkl vxkc, .int .i64 vxl, .int .i64 vxc, .int .i64 vxx, .int .i64 vxy] 54)).alloc (.cells #[.string bX, .int .i64 0, .slice none 0 0] 78)).grownBy w3 ((Value.slice (some ⟨g1, 0, none⟩) (0 + 1) cap1)).ownBlock → VarsSeen W4 ([.string bC, .int .i64 0, .slice none 0 0] ++ [.string bX, .int .i64 0, .slice none 0 0]) (1 + 1) (.slice (some ⟨g3, 0, none⟩) (1 + 1) cap3) w3) := Lib.hid (fun w3 g3 cap3 p1 p2 => by
    refine ⟨?_, p1⟩
    refine (((HR1.out.below.alloc HR1.out.below.size _).alloc (by have := HR1.out.below.size; simp only [World.size_alloc]; omega) _).grown p2 (by have := HR1.out.below.size; simp only [World.size_alloc]; omega) (fun g hg => ?_))
    exact (HR1.out.row.lt g hg).1)
  go_wp2_with (at_builtin; refine wpList_append_lies _ rfl _ _ 75 rfl W4.heap.size 78 iv0 _ 3 48 Tryd.underlying75 HVI.out HVZ.out HVS.out HVB.out rfl (by decide) (Value.slice (some ⟨g1, 0, none⟩) (0 + 1) cap1) 1 [.string bC, .int .i64 0, .slice none 0 0] rfl HRW.out ⟨w1.heap.size + 1, 0, none⟩ 1 1 [.string bX, .int .i64 0, .slice none 0 0] rfl rfl HNW.out (by intro v hv; simp only [List.mem_cons, List.not_mem_nil, or_false] at hv; rcases hv with rfl | rfl | rfl <;> rfl) (by decide) (by decide) (by decide) HSZ.out _ rfl ?_; intro g2 cap2 w2 hown3 hgr3 hg3 hlt3; have HR2 := Lib.hid (HST.out w2 g2 cap2 hown3 hgr3); clear hown3 hgr3 hg3 hlt3; clear c0 c1 c2 c3 c4 c5 c6 c7 c8 c9 c10 c11 c12 c13 c14 nn1 nn2 nl gl1 gl2 hfz)
  clear HNW HRW HSZ HST HR1
  rw [rounds_succ]
  have hn4 := HN4.out w2 HR2.out.below
  have nn1 := hn4.cell 1
  have nn2 := hn4.cell 2
  have nn3 := hn4.cell 3
  have nn4 := hn4.cell 4
  simp only [List.getElem?_toArray, List.getElem?_cons_zero, List.getElem?_cons_succ] at nn1 nn2 nn3 nn4
  clear hn4
  have HBL : Hid (Calls Tryd.prog 18 #[.pointer (some ⟨w.heap.size + 1 + 1, 0, none⟩), .slice (some ⟨g2, 0, none⟩) (1 + 1) cap2, .int .i64 0, .agg #[.slice (some ⟨gv, 0, none⟩) 1 cv, .slice (some ⟨q1, 0, none⟩) 2 cq], .slice none 0 0] w2 (RPost w2 (w.heap.size + 1 + 1) (!okE LW 0 [] x))) := Lib.hid (by
    have up := HC4.out w2 HR2.out.below
    have hb2 : Below w.heap.size w w2 := HBW4.out.trans (HR2.out.below.mono HBW4.out.size)
    obtain ⟨a, cap, e, _, _, hcell⟩ := owned_cells HR2.out.row
    simp only [Value.slice.injEq] at e
    obtain ⟨rfl, -, rfl⟩ := e
    refine rblock_law w2 (w.heap.size + 1 + 1) g2 cap2 gv q1 oc lw lx cv cq x (fun k u hk => ?_) (HVV.out.below hb2) (up _ _ _ HO.out.1) (up _ _ _ HO.out.2.1) (up _ _ _ HO.out.2.2.1) (up _ _ _ HO.out.2.2.2) (HQQ.out.1.keep (fun b _ h => h) (fun b o v _ hv => up _ _ _ hv) trivial) (HQQ.out.2.keep (fun b _ h => h) (fun b o v _ hv => up _ _ _ hv) trivial) ⟨0, 0, ?_⟩ HTT.out
    · obtain ⟨g, eg, _, hc⟩ := hcell k u hk
      simp only [Option.some.injEq, Addr.mk.injEq, and_true] at eg
      subst eg
      exact hc
    · exact ((HL3.out.2.below HB4.out (by have := HS3.out; omega)).below HR2.out.below (by have := HS4.out; omega)))
  go_wp2_with fail
  refine HBL.out.mono ?_
  rintro e w3 ⟨rfl, hlk, hg3⟩
  have hsz : W4.heap.size ≤ w2.heap.size := HR2.out.below.size
  have hprog3 := ((HL3.out.1.below HB4.out (by have := HS3.out; omega)).below HR2.out.below (by have := HS4.out; omega)).grown hg3 (fun e => by injection e with e; omega)
  have p1 := hprog3.cell 1
  obtain ⟨ax, ay, hlk⟩ := hlk
  have l0 := hlk.cell 0
  have l1 := hlk.cell 1
  have l2 := hlk.cell 2
  simp only [List.getElem?_toArray, List.getElem?_cons_zero, List.getElem?_cons_succ] at p1 l0 l1 l2
  have hbw : Below w.heap.size w w3 := (HBW4.out.trans (HR2.out.below.mono HBW4.out.size)).grown hg3 (by have := HS4.out; omega) (fun k hk => by injection hk with hk; omega)
  have hpos3 := ((HPOS.out.below HB4.out (by have := HS3.out; omega)).below HR2.out.below (by have := HS4.out; omega)).grown hg3 (fun e => by injection e with e; omega)
  have r0 := hpos3.cell 0
  have r1 := hpos3.cell 1
  have rf := fun i => hpos3.free i
  simp only [List.getElem?_toArray, List.getElem?_cons_zero, List.getElem?_cons_succ] at r0 r1
  have HBW := Lib.hid hbw
  have HP3 := Lib.hid hpos3
  clear hprog3 hlk hbw hg3 hsz hpos3 nn1 nn2 nn3 nn4 HBL
  go_wp2_with fail
  rw [rounds_succ]
  go_wp2_with fail
  go_region_held3 (fun w' => w'.cell? ⟨w.heap.size + 1 + 1, 0, none⟩ = some (.bool (!okE LW 0 [] x)) ∧ w'.cell? ⟨w.heap.size + 1 + 1, 1, none⟩ = some (.int .i64 ax) ∧ w'.cell? ⟨w.heap.size + 1 + 1, 2, none⟩ = some (.int .i64 ay)) (first | go_keep | fail) (first | fail)
  all_goals
    go_wp2_with fail
    have hself := self2 HP3.out (.int .i64 ax) (.int .i64 ay)
    have hbut := but2 w3 (w.heap.size + 1) (.int .i64 ax) (.int .i64 ay)
    have x0 : (((w3.setCell ⟨w.heap.size + 1, 0, none⟩ (.int .i64 ax)).setCell ⟨w.heap.size + 1, 1, none⟩ (.int .i64 ay)).drew).cell? ⟨w.heap.size + 1, 0, none⟩ = some (.int .i64 ax) := hself.cell 0
    have x1 : (((w3.setCell ⟨w.heap.size + 1, 0, none⟩ (.int .i64 ax)).setCell ⟨w.heap.size + 1, 1, none⟩ (.int .i64 ay)).drew).cell? ⟨w.heap.size + 1, 1, none⟩ = some (.int .i64 ay) := hself.cell 1
    (try simp only [Exit.inBlock, Exit.then])
    refine bodyPost_ret (v := .tuple #[.bool (!okE LW 0 [] x), .agg #[.int .i64 ax, .int .i64 ay]]) (by simp [results, Tryd.results8, go_sem, x0, x1]) rfl ?_
    have hb9 := hbut.below HBW.out (by omega)
    exact ⟨ax, ay, rfl, hb9.trans (((Below.refl _ _).drew).mono hb9.size)⟩
end Go.Proofs.YtnejkgkikpgajaaDoor.ck

namespace Go.Proofs.YtnejkgkikpgajaaDoor.tr
open Go.ChangeShapes Go.WideShapes Go.ChangeAt Go.RowKit
set_option linter.unusedVariables false

/-- a row of truths that lies -/
def Bs (w : World) (a : Option Addr) (l : List Bool) : Prop := ∀ (i : Nat) (b : Bool), l[i]? = some b → ∃ blk off, a = some ⟨blk, off, none⟩ ∧ w.cell? ⟨blk, off + i, none⟩ = some (.bool b)
theorem Bs.below {w w' : World} {a : Option Addr} {l : List Bool} (h : Bs w a l) (hb : Below w.heap.size w w') : Bs w' a l := by
  intro i b hi
  obtain ⟨k, off, e, hc⟩ := h i b hi
  exact ⟨k, off, e, (hb.cell (p := ⟨k, off + i, none⟩) (World.block_lt_of_cell? w _ hc)).trans hc⟩

section
variable {H : Type} {enc : TypeId × Value → H} {w : World} {base : Nat} {sp : Nat → Bool} {hd : Bool}

set_option maxRecDepth 100000 in
theorem open_bools {fuel : Nat} {v : List Value} {x : DataW H × List MemPlace} (h : DataW.trod enc Tryd.prog w base sp hd fuel 22 v = some x) :
    ∃ a l c, v = [.slice a l.length c] ∧ l.length ≤ c ∧ c ≤ maxLen ∧ Bs w a l := by
  rcases DataW.trod_slice Tryd.underlying22 h with ⟨h', _⟩ | ⟨a, len, cap, elems, rest, m, hm, h', _, hb, hl, hcm, hlen, hel, _, _⟩
  · exact ⟨none, [], 0, h', Nat.le_refl _, by decide, fun i p hi => by simp at hi⟩
  · have zs : Tryd.prog.cellsOf 4 = 1 := by kernel_rfl
    have each : ∀ i, i < len → ∃ p : Bool, (a.add (i * 1)).spot = none ∧ w.cell? (a.add (i * 1)) = some (.bool p) := fun i hi => by
      have hk := hel i hi
      rw [zs, List.getElem?_eq_getElem (by omega)] at hk
      obtain ⟨cs', g1, g2⟩ := Option.bind_eq_some_iff.1 hk
      obtain ⟨_, hl2, hcell⟩ := World.cells?_some g1
      obtain ⟨b, e, _⟩ := DataW.trod_bool Tryd.underlying4 g2
      match cs', hl2 with
      | [c0], _ =>
        replace e : c0 = .bool b := by simpa using e
        subst e
        have k0 := hcell 0 (by omega)
        have k1 : w.cell? (a.add (i * 1)) = some (.bool b) := by simpa [Addr.add] using k0
        exact ⟨b, World.cell?_spot k1, k1⟩
    obtain ⟨f, hf⟩ := Go.Deep.choose_lt (α := Bool) each
    refine ⟨some a, (List.range len).map f, cap, by rw [h']; simp, by simpa using hl, hcm, fun i p hi => ?_⟩
    have hil : i < len := by
      have := (List.getElem?_eq_some_iff.1 hi).1
      simpa using this
    have hs : p = f i := by
      rw [List.getElem?_map, List.getElem?_range hil] at hi
      simpa using hi.symm
    subst hs
    obtain ⟨b, off, spot⟩ := a
    have hspot : spot = none := by
      have h0 := (hf 0 (by omega)).1
      simpa [Addr.add] using h0
    subst hspot
    obtain ⟨_, h0⟩ := hf i hil
    rw [Go.WideShapes.add_plain, Nat.mul_one] at h0
    exact ⟨b, off, rfl, h0⟩
end
end Go.Proofs.YtnejkgkikpgajaaDoor.tr

namespace Go.Proofs.YtnejkgkikpgajaaDoor.ck
open Go.ChangeShapes Go.WideShapes Go.ChangeAt Go.RowKit
open tr Go.Sort
set_option linter.unusedVariables false
set_option linter.unusedSimpArgs false

def WhensPost (w : World) (e : Ending) (w' : World) : Prop := e = .returned (.bool true) ∧ Below w.heap.size w w'
/-- what the law's loop keeps: the expression, at block eb, under j samplings -/
def Und (w : World) (eb : Nat) (v : Bool) (l : List Bool) (j : Nat) (cs : Array Value) (W : World) : Prop :=
  Below w.heap.size w W ∧ Has W eb 29 cs ∧ LaidP W (fun b => b ≠ eb) (under v (l.take j).reverse) cs.toList

theorem Und.step {w wr : World} {eb : Nat} {v : Bool} {l : List Bool} {j : Nat} {ek eo : Nat} {en : Int} {enm : ByteArray} {ena : Option Addr} {enl enc : Nat} {eka : Option Addr} {ekl ekc : Nat} {el ecl : Int} {b : Bool}
    (hU : Und w eb v l j #[.int .u8 ek, .int .u8 eo, .int .i32 en, .string enm, .slice ena enl enc, .slice eka ekl ekc, .int .i64 el, .int .i64 ecl] wr) (hw : w.heap.size ≤ eb) (hj : j < l.length) (hb : b = l[j]) :
    Und w eb v l (j + 1) #[.int .u8 12, .int .u8 0, .int .i32 0, .string bC, .slice (some ⟨wr.heap.size, 0, none⟩) 1 1, .slice (some ⟨wr.heap.size + 1, 0, none⟩) 1 1, .int .i64 0, .int .i64 0] ((((((((((wr.setCell ⟨eb, 0, none⟩ (.int .u8 12)).setCell ⟨eb, 1, none⟩ (.int .u8 0)).setCell ⟨eb, 2, none⟩ (.int .i32 0)).setCell ⟨eb, 3, none⟩ (.string bC)).setCell ⟨eb, 4, none⟩ (.slice (some ⟨wr.heap.size, 0, none⟩) 1 1)).setCell ⟨eb, 5, none⟩ (.slice (some ⟨wr.heap.size + 1, 0, none⟩) 1 1)).setCell ⟨eb, 6, none⟩ (.int .i64 0)).setCell ⟨eb, 7, none⟩ (.int .i64 0)).alloc (.cells #[.string (if b then bT else bFa)] 9)).alloc (.cells #[.int .u8 ek, .int .u8 eo, .int .i32 en, .string enm, .slice ena enl enc, .slice eka ekl ekc, .int .i64 el, .int .i64 ecl] 29)) := by
  obtain ⟨h1, h2, h3⟩ := hU
  have hlt := Has.lt h2
  have hself := self8 h2 (.int .u8 12) (.int .u8 0) (.int .i32 0) (.string bC) (.slice (some ⟨wr.heap.size, 0, none⟩) 1 1) (.slice (some ⟨wr.heap.size + 1, 0, none⟩) 1 1) (.int .i64 0) (.int .i64 0)
  have hbut := but8 wr eb (.int .u8 12) (.int .u8 0) (.int .i32 0) (.string bC) (.slice (some ⟨wr.heap.size, 0, none⟩) 1 1) (.slice (some ⟨wr.heap.size + 1, 0, none⟩) 1 1) (.int .i64 0) (.int .i64 0)
  obtain ⟨X, hX⟩ : ∃ X, X = ((((((((wr.setCell ⟨eb, 0, none⟩ (.int .u8 12)).setCell ⟨eb, 1, none⟩ (.int .u8 0)).setCell ⟨eb, 2, none⟩ (.int .i32 0)).setCell ⟨eb, 3, none⟩ (.string bC)).setCell ⟨eb, 4, none⟩ (.slice (some ⟨wr.heap.size, 0, none⟩) 1 1)).setCell ⟨eb, 5, none⟩ (.slice (some ⟨wr.heap.size + 1, 0, none⟩) 1 1)).setCell ⟨eb, 6, none⟩ (.int .i64 0)).setCell ⟨eb, 7, none⟩ (.int .i64 0)) := ⟨_, rfl⟩
  rw [← hX] at hself hbut ⊢
  obtain ⟨Y, hY⟩ : ∃ Y, Y = ((X.alloc (.cells #[.string (if b then bT else bFa)] 9)).alloc (.cells #[.int .u8 ek, .int .u8 eo, .int .i32 en, .string enm, .slice ena enl enc, .slice eka ekl ekc, .int .i64 el, .int .i64 ecl] 29)) := ⟨_, rfl⟩
  rw [← hY]
  have hxs : X.heap.size = wr.heap.size := hbut.1
  have hXY : Below X.heap.size X Y := by rw [hY]; exact ((Below.refl _ _).alloc (Nat.le_refl _) _).alloc (by simp) _
  have hst : Has Y wr.heap.size 9 #[.string (if b then bT else bFa)] := by rw [hY, ← hxs]; exact (Has.new X _ _).alloc _
  have hks : Has Y (wr.heap.size + 1) 29 #[.int .u8 ek, .int .u8 eo, .int .i32 en, .string enm, .slice ena enl enc, .slice eka ekl ekc, .int .i64 el, .int .i64 ecl] := by
    rw [hY, ← hxs]
    have := Has.new (X.alloc (.cells #[.string (if b then bT else bFa)] 9)) 29 #[.int .u8 ek, .int .u8 eo, .int .i32 en, .string enm, .slice ena enl enc, .slice eka ekl ekc, .int .i64 el, .int .i64 ecl]
    simp only [World.size_alloc] at this
    exact this
  have hbX : Below w.heap.size w X := hbut.below h1 hw
  refine ⟨hbX.trans (hXY.mono hbX.size), hself.below hXY (Has.lt hself), ?_⟩
  rw [show l.take (j + 1) = l.take j ++ [l[j]] from List.take_succ_eq_append_getElem hj, List.reverse_append, ← hb]
  show LaidP Y _ (under v (b :: (l.take j).reverse)) _
  unfold under LaidP
  refine ⟨by decide, by decide, by decide, by simp [maxLen], by simp, _, 1, _, 1, Nat.le_refl _, Nat.le_refl _, rfl, fun i s hi => ?_, ?_⟩
  · have hi0 : i = 0 := by have := (List.getElem?_eq_some_iff.1 hi).1; simpa using this
    subst hi0
    simp only [List.getElem?_cons_zero, Option.some.injEq] at hi
    subst hi
    refine ⟨wr.heap.size, 0, rfl, by omega, hst.cell 0, ?_⟩
    cases b <;> decide
  · unfold LaidPK LaidPK
    refine ⟨_, 0, _, rfl, by omega, fun k u hk => ?_, LaidP.keep (fun g _ hg => hg) (fun g o u hg hu => ?_) _ _ h3, trivial⟩
    · rw [Nat.zero_add, hks.cell k, List.getElem?_toArray]; exact hk
    · have := hbut.cell hg hu
      exact (hXY.cell (p := ⟨g, o, none⟩) (World.block_lt_of_cell? X _ this)).trans this

theorem law_laid {wr : World} {ok : Nat → Prop} {v : Bool} {l : List Bool} {ek eo : Nat} {en : Int} {enm : ByteArray} {ena : Option Addr} {enl enc : Nat} {eka : Option Addr} {ekl ekc : Nat} {el ecl : Int} (h : LaidP wr ok (under v l.reverse) #[.int .u8 ek, .int .u8 eo, .int .i32 en, .string enm, .slice ena enl enc, .slice eka ekl ekc, .int .i64 el, .int .i64 ecl].toList) :
    LaidP (((wr.alloc (.cells #[.string ⟨#[116, 114, 117, 101]⟩, .string ⟨#[102, 97, 108, 115, 101]⟩] 9)).alloc (.cells #[.int .u8 ek, .int .u8 eo, .int .i32 en, .string enm, .slice ena enl enc, .slice eka ekl ekc, .int .i64 el, .int .i64 ecl, .int .u8 1, .int .u8 0, .int .i32 0, .string ⟨#[]⟩, .slice none 0 0, .slice none 0 0, .int .i64 0, .int .i64 0] 29)).alloc (.cells #[.int .u8 13, .int .u8 0, .int .i32 0, .string ⟨#[99]⟩, .slice (some ⟨wr.heap.size, 0, none⟩) 2 2, .slice (some ⟨wr.heap.size + 1, 0, none⟩) 2 2, .int .i64 0, .int .i64 0] 29)) (fun _ => True) (lawE v l) #[.int .u8 13, .int .u8 0, .int .i32 0, .string ⟨#[99]⟩, .slice (some ⟨wr.heap.size, 0, none⟩) 2 2, .slice (some ⟨wr.heap.size + 1, 0, none⟩) 2 2, .int .i64 0, .int .i64 0].toList := by
  obtain ⟨Y, hY⟩ : ∃ Y, Y = (((wr.alloc (.cells #[.string ⟨#[116, 114, 117, 101]⟩, .string ⟨#[102, 97, 108, 115, 101]⟩] 9)).alloc (.cells #[.int .u8 ek, .int .u8 eo, .int .i32 en, .string enm, .slice ena enl enc, .slice eka ekl ekc, .int .i64 el, .int .i64 ecl, .int .u8 1, .int .u8 0, .int .i32 0, .string ⟨#[]⟩, .slice none 0 0, .slice none 0 0, .int .i64 0, .int .i64 0] 29)).alloc (.cells #[.int .u8 13, .int .u8 0, .int .i32 0, .string ⟨#[99]⟩, .slice (some ⟨wr.heap.size, 0, none⟩) 2 2, .slice (some ⟨wr.heap.size + 1, 0, none⟩) 2 2, .int .i64 0, .int .i64 0] 29)) := ⟨_, rfl⟩
  rw [← hY]
  have hXY : Below wr.heap.size wr Y := by rw [hY]; exact (((Below.refl _ _).alloc (Nat.le_refl _) _).alloc (by simp) _).alloc (by simp; omega) _
  have hst : Has Y wr.heap.size 9 #[.string ⟨#[116, 114, 117, 101]⟩, .string ⟨#[102, 97, 108, 115, 101]⟩] := by rw [hY]; exact ((Has.new wr _ _).alloc _).alloc _
  have hks : Has Y (wr.heap.size + 1) 29 #[.int .u8 ek, .int .u8 eo, .int .i32 en, .string enm, .slice ena enl enc, .slice eka ekl ekc, .int .i64 el, .int .i64 ecl, .int .u8 1, .int .u8 0, .int .i32 0, .string ⟨#[]⟩, .slice none 0 0, .slice none 0 0, .int .i64 0, .int .i64 0] := by
    rw [hY]
    have := (Has.new (wr.alloc (.cells #[.string ⟨#[116, 114, 117, 101]⟩, .string ⟨#[102, 97, 108, 115, 101]⟩] 9)) 29 #[.int .u8 ek, .int .u8 eo, .int .i32 en, .string enm, .slice ena enl enc, .slice eka ekl ekc, .int .i64 el, .int .i64 ecl, .int .u8 1, .int .u8 0, .int .i32 0, .string ⟨#[]⟩, .slice none 0 0, .slice none 0 0, .int .i64 0, .int .i64 0]).alloc (.cells #[.int .u8 13, .int .u8 0, .int .i32 0, .string ⟨#[99]⟩, .slice (some ⟨wr.heap.size, 0, none⟩) 2 2, .slice (some ⟨wr.heap.size + 1, 0, none⟩) 2 2, .int .i64 0, .int .i64 0] 29)
    simp only [World.size_alloc] at this
    exact this
  unfold lawE LaidP
  refine ⟨by decide, by decide, by decide, by decide, by simp, _, 2, _, 2, Nat.le_refl _, Nat.le_refl _, rfl, fun i s hi => ?_, ?_⟩
  · refine ⟨wr.heap.size, 0, rfl, trivial, ?_, ?_⟩
    · rw [Nat.zero_add, hst.cell i]
      match i, hi with
      | 0, hi => cases hi; rfl
      | 1, hi => cases hi; rfl
    · match i, hi with
      | 0, hi => cases hi; decide
      | 1, hi => cases hi; decide
  · unfold LaidPK LaidPK LaidPK
    refine ⟨_, 0, _, rfl, trivial, fun k u hk => ?_, LaidP.keep (fun g _ hg => trivial) (fun g o u hg hu => (hXY.cell (p := ⟨g, o, none⟩) (World.block_lt_of_cell? wr _ hu)).trans hu) _ _ h, _, 8, _, rfl, trivial, fun k u hk => ?_, leafP Y _ 1 ⟨#[]⟩ (by decide) (by decide), trivial⟩
    · have hk8 : k < 8 := by have := (List.getElem?_eq_some_iff.1 hk).1; simpa using this
      rw [Nat.zero_add, hks.cell k, ← hk]
      rcases (show k = 0 ∨ k = 1 ∨ k = 2 ∨ k = 3 ∨ k = 4 ∨ k = 5 ∨ k = 6 ∨ k = 7 by omega) with rfl | rfl | rfl | rfl | rfl | rfl | rfl | rfl <;> rfl
    · have hk8 : k < 8 := by have := (List.getElem?_eq_some_iff.1 hk).1; simpa using this
      rw [hks.cell (8 + k), ← hk]
      rcases (show k = 0 ∨ k = 1 ∨ k = 2 ∨ k = 3 ∨ k = 4 ∨ k = 5 ∨ k = 6 ∨ k = 7 by omega) with rfl | rfl | rfl | rfl | rfl | rfl | rfl | rfl <;> rfl

end Go.Proofs.YtnejkgkikpgajaaDoor.ck

namespace Go.Proofs.YtnejkgkikpgajaaDoor.ck
open Go.ChangeShapes Go.WideShapes Go.ChangeAt Go.RowKit
open tr Go.Sort
set_option linter.unusedVariables false
set_option linter.unusedSimpArgs false

set_option maxRecDepth 100000 in
set_option maxHeartbeats 16000000 in
theorem whens_walk (a : Option Addr) (l : List Bool) (c : Nat) (hc : l.length ≤ c) (hm : c ≤ maxLen) (v : Bool) (w : World) (hs : Bs w a l) :
    Calls Tryd.prog 3 #[.slice a l.length c, .bool v] w (WhensPost w) := by
  have HA := Lib.hid (awake_any w)
  have HS := Lib.hid hs
  clear hs
  by_cases h10 : 10 < l.length
  · have i0 : decide ((l.length : Int) > 10) = true := decide_eq_true (by omega)
    unfold WhensPost
    go_enter Tryd.func3, Tryd.ntmps3
    go_wp2_with fail
    refine HA.out.mono ?_
    rintro e w1 ⟨rfl, hb1⟩
    have HB1 := Lib.hid hb1
    clear hb1
    go_wp2_with fail
    refine (awake_any w1).mono ?_
    rintro e w2 ⟨rfl, hb2⟩
    have HB2 := Lib.hid (HB1.out.trans (hb2.mono HB1.out.size))
    clear hb2
    go_wp2_with fail
    go_ret
    exact ⟨rfl, HB2.out⟩
  · have i0 : decide ((l.length : Int) > 10) = false := decide_eq_false (by omega)
    have hl10 : l.length ≤ 10 := by omega
    clear h10
    unfold WhensPost
    go_enter Tryd.func3, Tryd.ntmps3
    go_wp2_with fail
    refine HA.out.mono ?_
    rintro e w1 ⟨rfl, hb1⟩
    have HB1 := Lib.hid hb1
    clear hb1 HA
    have HST : ∃ cs, Hid (Und w1 w1.heap.size v l 0 cs (w1.alloc (.cells cs 29))) ∧ cs = (if v then #[.int .u8 4, .int .u8 0, .int .i32 0, .string bW, .slice none 0 0, .slice none 0 0, .int .i64 0, .int .i64 0] else #[.int .u8 1, .int .u8 0, .int .i32 1, .string ⟨#[]⟩, .slice none 0 0, .slice none 0 0, .int .i64 0, .int .i64 0]) := by
      refine ⟨_, Lib.hid ⟨(Below.refl _ _).alloc (Nat.le_refl _) _, Has.new _ _ _, ?_⟩, rfl⟩
      rw [List.take_zero, List.reverse_nil]
      unfold under base
      cases v
      · rw [if_neg (by decide), if_neg (by decide)]
        unfold LaidP
        exact ⟨by decide, by decide, by decide, by decide, by decide, none, 0, none, 0, Nat.le_refl _, Nat.le_refl _, rfl, fun i s hi => by simp at hi, by unfold LaidPK; trivial⟩
      · rw [if_pos rfl, if_pos rfl]
        unfold LaidP
        exact ⟨by decide, by decide, by decide, by decide, by decide, none, 0, none, 0, Nat.le_refl _, Nat.le_refl _, rfl, fun i s hi => by simp at hi, by unfold LaidPK; trivial⟩
    cases v
    all_goals
      obtain ⟨cs0, HU0, hcs0⟩ := HST
      first | rw [if_neg (by decide)] at hcs0 | rw [if_pos rfl] at hcs0
      subst hcs0
      go_wp2_with fail
      go_loopw [6] (fun iv wr => ∃ (j : Nat) (cs : Array Value), j ≤ l.length ∧ iv = .int .i64 j ∧ Hid (Und w1 w1.heap.size _ l j cs wr)) (fun iv _ => l.length - (intOf iv).toNat)
      case atStart => exact ⟨0, _, by omega, rfl, HU0⟩
      case round =>
        obtain ⟨j, cs, hj, rfl, HR⟩ := hrel
        clear HU0
        by_cases hlt : j < l.length
        · obtain ⟨hb, hE, hL⟩ := HR.out
          obtain ⟨ek, eo, en, enm, ena, enl, enc, eka, ekl, ekc, el, ecl, rfl⟩ := hL.shape
          obtain ⟨lb, lo, rfl, hcell0⟩ := HS.out j l[j] (List.getElem?_eq_getElem hlt)
          have hcell := ((HB1.out.trans (hb.mono HB1.out.size)).cell (p := ⟨lb, lo + j, none⟩) (World.block_lt_of_cell? w _ hcell0)).trans hcell0
          have j0 : (0 : Int) ≤ (j : Int) := Int.natCast_nonneg _
          have j1 : (j : Int) < (l.length : Int) := by omega
          have c0 := hE.cell 0
          have c1 := hE.cell 1
          have c2 := hE.cell 2
          have c3 := hE.cell 3
          have c4 := hE.cell 4
          have c5 := hE.cell 5
          have c6 := hE.cell 6
          have c7 := hE.cell 7
          have fr := fun i => hE.free i
          simp only [List.getElem?_toArray, List.getElem?_cons_zero, List.getElem?_cons_succ] at c0 c1 c2 c3 c4 c5 c6 c7
          have heb : w1.heap.size < wr.heap.size := Has.lt hE
          obtain ⟨b, hbj⟩ : ∃ b, b = l[j] := ⟨_, rfl⟩
          rw [← hbj] at hcell
          have HBJ := Lib.hid hbj
          have HHB := Lib.hid hb
          have HHE := Lib.hid hE
          have HHL := Lib.hid hL
          clear hbj hcell0 hb hE hL HR
          cases b
          all_goals
            go_wp2_with fail
            go_roundw
            case rel =>
              have HN := Und.step ⟨HHB.out, HHE.out, HHL.out⟩ (Nat.le_refl _) hlt HBJ.out
              first | rw [if_neg (by decide)] at HN | rw [if_pos rfl] at HN
              first | unfold bFa bC at HN | unfold bT bC at HN
              exact ⟨j + 1, #[.int .u8 12, .int .u8 0, .int .i32 0, .string ⟨#[99]⟩, .slice (some ⟨wr.heap.size, 0, none⟩) 1 1, .slice (some ⟨wr.heap.size + 1, 0, none⟩) 1 1, .int .i64 0, .int .i64 0], by omega, by go_num, by with_reducible exact Lib.hid HN⟩
            case measure => simp [intOf]; omega
        · obtain rfl : j = l.length := by omega
          obtain ⟨hb, hE, hL⟩ := HR.out
          rw [List.take_length] at hL
          obtain ⟨ek, eo, en, enm, ena, enl, enc, eka, ekl, ekc, el, ecl, rfl⟩ := hL.shape
          have c0 := hE.cell 0
          have c1 := hE.cell 1
          have c2 := hE.cell 2
          have c3 := hE.cell 3
          have c4 := hE.cell 4
          have c5 := hE.cell 5
          have c6 := hE.cell 6
          have c7 := hE.cell 7
          simp only [List.getElem?_toArray, List.getElem?_cons_zero, List.getElem?_cons_succ] at c0 c1 c2 c3 c4 c5 c6 c7
          have heb : w1.heap.size < wr.heap.size := Has.lt hE
          have HHB := Lib.hid (HB1.out.trans (hb.mono HB1.out.size))
          have HHL := Lib.hid hL
          have HW : Hid (Below w.heap.size w (((wr.alloc (.cells #[.string ⟨#[116, 114, 117, 101]⟩, .string ⟨#[102, 97, 108, 115, 101]⟩] 9)).alloc (.cells #[.int .u8 ek, .int .u8 eo, .int .i32 en, .string enm, .slice ena enl enc, .slice eka ekl ekc, .int .i64 el, .int .i64 ecl, .int .u8 1, .int .u8 0, .int .i32 0, .string ⟨#[]⟩, .slice none 0 0, .slice none 0 0, .int .i64 0, .int .i64 0] 29)).alloc (.cells #[.int .u8 13, .int .u8 0, .int .i32 0, .string ⟨#[99]⟩, .slice (some ⟨wr.heap.size, 0, none⟩) 2 2, .slice (some ⟨wr.heap.size + 1, 0, none⟩) 2 2, .int .i64 0, .int .i64 0] 29))) := Lib.hid (HHB.out.trans (((((Below.refl _ wr).alloc (Nat.le_refl _) _).alloc (by simp) _).alloc (by simp; omega) _).mono HHB.out.size))
          have HP := Lib.hid (program_any (((wr.alloc (.cells #[.string ⟨#[116, 114, 117, 101]⟩, .string ⟨#[102, 97, 108, 115, 101]⟩] 9)).alloc (.cells #[.int .u8 ek, .int .u8 eo, .int .i32 en, .string enm, .slice ena enl enc, .slice eka ekl ekc, .int .i64 el, .int .i64 ecl, .int .u8 1, .int .u8 0, .int .i32 0, .string ⟨#[]⟩, .slice none 0 0, .slice none 0 0, .int .i64 0, .int .i64 0] 29)).alloc (.cells #[.int .u8 13, .int .u8 0, .int .i32 0, .string ⟨#[99]⟩, .slice (some ⟨wr.heap.size, 0, none⟩) 2 2, .slice (some ⟨wr.heap.size + 1, 0, none⟩) 2 2, .int .i64 0, .int .i64 0] 29)) _ #[.int .u8 13, .int .u8 0, .int .i32 0, .string ⟨#[99]⟩, .slice (some ⟨wr.heap.size, 0, none⟩) 2 2, .slice (some ⟨wr.heap.size + 1, 0, none⟩) 2 2, .int .i64 0, .int .i64 0] (law_laid HHL.out))
          clear hb hE hL HR HHL
          go_wp2_with fail
          refine HP.out.mono ?_
          rintro e w2 ⟨gn, cn, rfl, hp, hb2⟩
          have HB2 := Lib.hid (HW.out.trans (hb2.mono HW.out.size))
          have HPP := Lib.hid hp
          clear hp hb2 HP HW c0 c1 c2 c3 c4 c5 c6 c7
          have HC1 := Lib.hid (check_law _ gn cn _ (HPP.out.below ((Below.refl _ w2).alloc (Nat.le_refl _) (.cells #[.slice none 0 0, .slice (some ⟨gn, 0, none⟩) 1 cn] 33))))
          go_wp2_with fail
          refine HC1.out.mono ?_
          rintro e w3 ⟨v1, rfl, he1, hb3⟩
          have hba := (Below.refl _ w2).alloc (Nat.le_refl _) (.cells #[.slice none 0 0, .slice (some ⟨gn, 0, none⟩) 1 cn] 33)
          have hbox := (Has.new w2 33 #[.slice none 0 0, .slice (some ⟨gn, 0, none⟩) 1 cn]).below hb3 (by simp)
          have p0 := hbox.cell 0
          have p1 := hbox.cell 1
          simp only [List.getElem?_toArray, List.getElem?_cons_zero, List.getElem?_cons_succ] at p0 p1
          have HRC := Lib.hid (rcheck_law w3 gn cn _ ((HPP.out.below hba).below hb3) (lawE_top _ l))
          have HB3 := Lib.hid ((HB2.out.trans (hba.mono HB2.out.size)).trans (hb3.mono (by simp only [World.size_alloc]; have := HB2.out.size; omega)))
          have HE1 := Lib.hid he1
          clear he1 hb3 hba hbox HC1 HPP
          by_cases l0 : l.length = 0
          · have hd0 : decide (l = []) = true := decide_eq_true (List.eq_nil_of_length_eq_zero l0)
            have he1 := HE1.out
            have hrc := HRC.out
            rw [lawE_ok, hd0, Bool.true_or] at he1 hrc
            obtain rfl := he1.1 rfl
            have e0 : ((l.length : Int) == 0) = true := by rw [l0]; rfl
            clear hd0 l0
            have HRC2 := Lib.hid hrc
            clear he1 hrc HRC HE1
            go_wp2_with fail
            refine HRC2.out.mono ?_
            rintro e w4 ⟨px, py, rfl, hb4⟩
            have HB4 := Lib.hid (HB3.out.trans (hb4.mono HB3.out.size))
            clear hb4 HRC2 p0 p1
            go_wp2_with fail
            go_ret
            exact ⟨rfl, HB4.out.alloc HB4.out.size _⟩
          · have e0 : ((l.length : Int) == 0) = false := by rw [beq_eq_false_iff_ne]; omega
            have hd0 : decide (l = []) = false := decide_eq_false (fun h => l0 (by rw [h]; rfl))
            by_cases l1 : l.length = 1
            · have e1 : ((l.length : Int) == 1) = true := by rw [l1]; rfl
              obtain ⟨b, hlb⟩ := List.length_eq_one_iff.1 l1
              obtain ⟨lb, lo, rfl, hcell0⟩ := HS.out 0 b (by rw [hlb]; rfl)
              rw [Nat.add_zero] at hcell0
              have hd1 : decide (l = [true]) = b := by rw [hlb]; cases b <;> rfl
              have j1 : (0 : Int) < (l.length : Int) := by omega
              have HCL := Lib.hid hcell0
              clear hcell0 hlb l0 l1
              cases b
              all_goals
                have he1 := HE1.out
                have hrc := HRC.out
                rw [lawE_ok, hd0, hd1] at he1 hrc
                simp only [Bool.false_or, Bool.true_and, Bool.false_and, Bool.not_false, Bool.not_true, Bool.and_true, Bool.and_false, Bool.and_self, Bool.or_false] at he1 hrc
                first
                  | obtain rfl := he1.1 rfl
                  | (obtain ⟨ga, ex, ey, hv1, _⟩ := he1.2 rfl; subst hv1)
                clear hd0 hd1
                have HRC2 := Lib.hid hrc
                clear he1 hrc HRC HE1
                go_wp2_with fail
                refine HRC2.out.mono ?_
                rintro e w4 ⟨px, py, rfl, hb4⟩
                have HB4 := Lib.hid (HB3.out.trans (hb4.mono HB3.out.size))
                have hcell := (HB4.out.cell (p := ⟨lb, lo, none⟩) (World.block_lt_of_cell? w _ HCL.out)).trans HCL.out
                have hlbl : lb < w4.heap.size := World.block_lt_of_cell? w4 _ hcell
                clear hb4 HRC2 p0 p1
                go_wp2_with fail
                go_ret
                exact ⟨rfl, HB4.out.alloc HB4.out.size _⟩
            · have e1 : ((l.length : Int) == 1) = false := by rw [beq_eq_false_iff_ne]; omega
              have hd1 : decide (l = [true]) = false := decide_eq_false (fun h => l1 (by rw [h]; rfl))
              have he1 := HE1.out
              have hrc := HRC.out
              rw [lawE_ok, hd0, hd1, Bool.false_or, Bool.false_and] at he1 hrc
              obtain ⟨ga, ex, ey, hv1, _⟩ := he1.2 rfl
              subst hv1
              clear hd0 hd1 l0 l1
              have HRC2 := Lib.hid hrc
              clear he1 hrc HRC HE1
              go_wp2_with fail
              refine HRC2.out.mono ?_
              rintro e w4 ⟨px, py, rfl, hb4⟩
              have HB4 := Lib.hid (HB3.out.trans (hb4.mono HB3.out.size))
              clear hb4 HRC2 p0 p1
              go_wp2_with fail
              go_ret
              exact ⟨rfl, HB4.out.alloc HB4.out.size _⟩
end Go.Proofs.YtnejkgkikpgajaaDoor.ck
namespace Go.Proofs.YtnejkgkikpgajaaDoor.clocksWhens
open Go.ChangeShapes Go.WideShapes Go.ChangeAt Go.RowKit
theorem walk (a : Option Addr) (l : List Bool) (c : Nat) (hc : l.length ≤ c) (hm : c ≤ maxLen) (v : Bool) (w : World) (hs : tr.Bs w a l) :
    Calls Tryd.prog 3 #[.slice a l.length c, .bool v] w fun e w' => e = .returned (.bool true) ∧ Below w.heap.size w w' :=
  ck.whens_walk a l c hc hm v w hs
end Go.Proofs.YtnejkgkikpgajaaDoor.clocksWhens
