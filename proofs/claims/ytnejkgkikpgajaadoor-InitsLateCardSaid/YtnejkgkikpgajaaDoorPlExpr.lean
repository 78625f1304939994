/-
  The places of an expression, as the reference lays them: the counter's expr, at every expression.
-/
import Derived.Test.YtnejkgkikpgajaaDoorPlExpr0
import Derived.Deep.LoopGhost
namespace Go.Proofs.YtnejkgkikpgajaaDoor.ck
open Go.ChangeShapes Go.WideShapes Go.ChangeAt Go.RowKit
open tr
set_option linter.unusedVariables false
set_option linter.unusedSimpArgs false

theorem PlAt.own {w W : World} {c j : Nat} {ok : Nat → Prop} {hd : Array Value} {kids : List Ex} {v : Value} (h : PlAt w c ok hd kids j v W) : ∃ a cap, v = .slice a j cap := by
  obtain ⟨_, _, _, _, _, L, xs, _, _, ho, _⟩ := h
  obtain ⟨a, cp, e, _⟩ := owned_cells ho
  exact ⟨a, cp, e⟩

set_option maxRecDepth 100000 in
set_option maxHeartbeats 8000000 in
theorem place_any (N : Nat) : ∀ (x : Ex), sz x ≤ N → ∀ (w : World) (c : Nat) (ok : Nat → Prop) (cs : Array Value), LaidP w ok x cs.toList → (∀ b, ok b → b ≠ c) → CtrAt w c →
    Calls Tryd.prog 44 #[.pointer (some ⟨c, 0, none⟩), .agg cs] w (PlacePost w c ok x) := by
  induction N with
  | zero => intro x h; have := sz_pos x; omega
  | succ N ih =>
    intro x hN w c ok cs hx hokc hC
    obtain ⟨k, op, n, nm, nms, kids, l, cl⟩ := x
    unfold sz at hN
    unfold LaidP at hx
    obtain ⟨h1, h2, h3, h4, h5, na, nc, ka, kc, g1, g2, e, hs, hk⟩ := hx
    obtain rfl : cs = #[.int .u8 k, .int .u8 op, .int .i32 n, .string nm, .slice na nms.length nc, .slice ka kids.length kc, .int .i64 l, .int .i64 cl] := by apply Array.toList_inj.1; rw [e]
    clear e
    have hcl := hC.lt
    obtain ⟨iv0, hvi, hv3⟩ := Option.map_eq_some_iff.1 expr_info
    simp only [Prod.mk.injEq] at hv3
    obtain ⟨hvz, hvs, hvb⟩ := hv3
    have HVI := Lib.hid hvi
    have HVZ := Lib.hid hvz
    have HVS := Lib.hid hvs
    have HVB := Lib.hid hvb
    have HI : Hid (∀ i (hi : i < kids.length), ∀ (w : World) (c : Nat) (ok : Nat → Prop) (cs : Array Value), LaidP w ok kids[i] cs.toList → (∀ b, ok b → b ≠ c) → CtrAt w c → Calls Tryd.prog 44 #[.pointer (some ⟨c, 0, none⟩), .agg cs] w (PlacePost w c ok kids[i])) :=
      Lib.hid (fun i hi => ih kids[i] (by have := sz_kid kids i hi; omega))
    have HHH : Hid (k ≤ 255 ∧ op ≤ 255 ∧ nm.size ≤ maxLen ∧ nms.length ≤ maxLen ∧ nms.length ≤ nc) := Lib.hid ⟨h1, h2, h3, h4, g1⟩
    have HS := Lib.hid hs
    have HK := Lib.hid hk
    have HOK := Lib.hid hokc
    have HCL := Lib.hid hcl
    obtain ⟨W0, hW0⟩ : ∃ W0, W0 = (w.alloc (.cells #[.int .u8 k, .int .u8 op, .int .i32 n, .string nm, .slice na nms.length nc, .slice ka kids.length kc, .int .i64 l, .int .i64 cl] 29)).alloc (.cells zeroE 29) := ⟨_, rfl⟩
    have hb0 : Below w.heap.size w W0 := by subst hW0; exact ((Below.refl _ w).alloc (Nat.le_refl _) _).alloc (by simp) _
    have hs0 : W0.heap.size = w.heap.size + 1 + 1 := by subst hW0; simp
    have HB1 : Hid (Has W0 w.heap.size 29 #[.int .u8 k, .int .u8 op, .int .i32 n, .string nm, .slice na nms.length nc, .slice ka kids.length kc, .int .i64 l, .int .i64 cl]) := Lib.hid (by subst hW0; exact (Has.new w _ _).alloc _)
    have HR1 : Hid (Has W0 (w.heap.size + 1) 29 zeroE) := Lib.hid (by subst hW0; have := Has.new (w.alloc (.cells #[.int .u8 k, .int .u8 op, .int .i32 n, .string nm, .slice na nms.length nc, .slice ka kids.length kc, .int .i64 l, .int .i64 cl] 29)) 29 zeroE; simpa using this)
    have HNX := Lib.hid (next_any W0 c (hC.below hb0))
    have HG0 : Hid (w.grownBy W0 (some c)) := Lib.hid (grown_below _ hb0)
    have HS0 := Lib.hid hs0
    have HW0 := Lib.hid hW0
    clear hvi hvz hvs hvb h1 h2 h3 h4 g1 g2 hs hk hokc hC hN ih hW0 hb0 hs0 hcl
    unfold PlacePost
    go_enter Tryd.func44, Tryd.ntmps44
    go_wp2_with fail
    rw [← HW0.out]
    refine HNX.out.mono ?_
    rintro e w1 ⟨px, rfl, hC1, hg1⟩
    have hcl := HCL.out
    have hne : some w.heap.size ≠ some c := fun e => by injection e with e; omega
    have hne1 : some (w.heap.size + 1) ≠ some c := fun e => by injection e with e; omega
    have hB1 := HB1.out.grown hg1 hne
    have hR1 := HR1.out.grown hg1 hne1
    have hG1 := grown_trans HG0.out hg1
    have hs1 := hg1.size
    rw [HS0.out] at hs1
    have f6 := hB1.free 6
    have f7 := hB1.free 7
    have b6 := hB1.cell 6
    have b7 := hB1.cell 7
    simp only [List.getElem?_toArray, List.getElem?_cons_zero, List.getElem?_cons_succ] at b6 b7
    obtain ⟨W1, hW1⟩ : ∃ W1, W1 = (w1.setCell ⟨w.heap.size, 6, none⟩ (.int .i64 px)).setCell ⟨w.heap.size, 7, none⟩ (.int .i64 1) := ⟨_, rfl⟩
    have hbut : But w1 W1 w.heap.size := by rw [hW1]; exact ((But.refl _ _).put 6 _).put 7 _
    have hB2 : Has W1 w.heap.size 29 #[.int .u8 k, .int .u8 op, .int .i32 n, .string nm, .slice na nms.length nc, .slice ka kids.length kc, .int .i64 px, .int .i64 1] := by
      rw [hW1]
      have := (hB1.put 6 (.int .i64 px)).put 7 (.int .i64 1)
      simpa using this
    have HPL : Hid (PlAt w c ok #[.int .u8 k, .int .u8 op, .int .i32 n, .string nm, .slice na nms.length nc, .slice ka kids.length kc, .int .i64 px, .int .i64 1] kids 0 (.slice none 0 0) W1) := Lib.hid
      ⟨hbut.grown hG1 (Nat.le_refl _), hC1.but hbut (by omega), hB2, hbut.has (by omega) hR1, by rw [hbut.1]; omega, [], [], rfl, by simp, World.ownsRow_nil _ _ _ _, rfl⟩
    have HW1 := Lib.hid hW1
    clear hcl hB1 hR1 hG1 hbut hB2 hW1 hC1 hg1 HB1 HR1 HNX HG0
    go_wp2_with fail
    rw [← HW1.out]
    go_loopw [5, 6] (fun lv iv wr => ∃ (j : Nat) (u : Value), j ≤ kids.length ∧ iv = .int .i64 j ∧ u = lv ∧ Hid (PlAt w c ok #[.int .u8 k, .int .u8 op, .int .i32 n, .string nm, .slice na nms.length nc, .slice ka kids.length kc, .int .i64 px, .int .i64 1] kids j u wr)) (fun _ iv _ => kids.length - (intOf iv).toNat)
    case atStart => exact ⟨0, _, by omega, rfl, rfl, HPL⟩
    case round =>
      obtain ⟨j, u, hj, rfl, hu, HP⟩ := hrel
      subst hu
      clear HPL HW1 f6 f7 b6 b7 HW0
      obtain ⟨q1, q2, q3, q4, q5, L, xs, q6, q7, q8, q9⟩ := HP.out
      have c5 := q3.cell 5
      simp only [List.getElem?_toArray, List.getElem?_cons_zero, List.getElem?_cons_succ] at c5
      by_cases hlt : j < kids.length
      · obtain ⟨b, off, kcs, rfl, hb, hc, hkl⟩ := HK.out.get j hlt
        have hbc := HOK.out b hb
        have h8 := hkl.len
        have hcw : ∀ (i : Nat) (v : Value), kcs[i]? = some v → u.ownBlock ≠ some b ∧ wr.cell? ⟨b, off + j * 8 + i, none⟩ = some v := fun i v hi => by
          have hcell := hc i v hi
          have hbl : b < w.heap.size := World.block_lt_of_cell? w _ hcell
          refine ⟨own_ge q8 (by omega), ?_⟩
          have := q1.block b hbl (fun e => hbc (by injection e))
          unfold World.cell? at hcell ⊢
          rw [this]; exact hcell
        obtain ⟨kk, ko, kn, knm, kna, knl, knc, kka, kkl, kkc, kl, kcc, hkcs⟩ := LaidP.shape (cs := kcs.toArray) (by simpa using hkl)
        have hkcs' : kcs = [.int .u8 kk, .int .u8 ko, .int .i32 kn, .string knm, .slice kna knl knc, .slice kka kkl kkc, .int .i64 kl, .int .i64 kcc] := by
          have := congrArg Array.toList hkcs
          simpa using this
        subst hkcs'
        have z0 := (hcw 0 _ rfl).2
        have z1 := (hcw 1 _ rfl).2
        have z2 := (hcw 2 _ rfl).2
        have z3 := (hcw 3 _ rfl).2
        have z4 := (hcw 4 _ rfl).2
        have z5 := (hcw 5 _ rfl).2
        have z6 := (hcw 6 _ rfl).2
        have z7 := (hcw 7 _ rfl).2
        rw [Nat.add_zero] at z0
        have i0 : (0 : Int) ≤ (j : Int) := Int.natCast_nonneg _
        have i1 : (j : Int) < (kids.length : Int) := by omega
        have HXX := Lib.hid (HI.out j hlt wr c (fun b => ok b ∧ b < w.heap.size) #[.int .u8 kk, .int .u8 ko, .int .i32 kn, .string knm, .slice kna knl knc, .slice kka kkl kkc, .int .i64 kl, .int .i64 kcc]
          (LaidP.keep (w := w) (ok := ok) (fun b hbl hb => ⟨hb, hbl⟩) (fun b o v hb hv => by
            have hbl : b < w.heap.size := World.block_lt_of_cell? w _ hv
            have := q1.block b hbl (fun e => HOK.out b hb (by injection e))
            unfold World.cell? at hv ⊢
            rw [this]; exact hv) _ _ hkl) (fun b hb => HOK.out b hb.1) q2)
        have HOWN := Lib.hid q8
        have HQ : Hid (w.grownBy wr (some c) ∧ Has wr w.heap.size 29 #[.int .u8 k, .int .u8 op, .int .i32 n, .string nm, .slice na nms.length nc, .slice (some ⟨b, off, none⟩) kids.length kc, .int .i64 px, .int .i64 1] ∧ Has wr (w.heap.size + 1) 29 zeroE ∧ w.heap.size + 2 ≤ wr.heap.size ∧ L.length = j ∧ erK L = erK (kids.take j) ∧ CellsE wr (fun b => ((ok b ∧ b < w.heap.size) ∨ w.heap.size + 2 ≤ b) ∧ u.ownBlock ≠ some b) L xs) := Lib.hid ⟨q1, q3, q4, q5, q6, q7, q9⟩
        have HC3 : Hid (j + 1 ≤ maxLen) := Lib.hid (by unfold maxLen; omega)
        have HC4 : Hid ((j + 1) * 88 ≤ 140737488355328) := Lib.hid (by omega)
        clear q1 q2 q3 q4 q5 q6 q7 q8 q9 hc hkl hcw h8 hbc hb HP hkcs
        go_wp2_with fail
        refine HXX.out.mono ?_
        rintro e w2 ⟨y, ycs, rfl, hy, hey, hC2, hg2⟩
        obtain ⟨yk, yo, yn, ynm, yna, ynl, ync, yka, ykl, ykc, yl, yc, rfl⟩ := hy.shape
        obtain ⟨q1, q3, q4, q5, q6, q7, q9⟩ := HQ.out
        have HOWN2 := Lib.hid (row_grown HOWN.out hg2 (by have := HCL.out; omega))
        have hsz2 := hg2.size
        have HC6 : Hid (w.heap.size + 2 ≤ (w2.alloc (.cells #[.int .u8 yk, .int .u8 yo, .int .i32 yn, .string ynm, .slice yna ynl ync, .slice yka ykl ykc, .int .i64 yl, .int .i64 yc] 29)).heap.size) := Lib.hid (by simp only [World.size_alloc]; omega)
        have HST : Hid (∀ (w3 : World) (g3 cap3 : Nat), w3.ownsRow (w.heap.size + 2) 29 8 (.slice (some ⟨g3, 0, none⟩) (j + 1) cap3) (j + 1) (xs ++ [.int .u8 yk, .int .u8 yo, .int .i32 yn, .string ynm, .slice yna ynl ync, .slice yka ykl ykc, .int .i64 yl, .int .i64 yc]) →
            (w2.alloc (.cells #[.int .u8 yk, .int .u8 yo, .int .i32 yn, .string ynm, .slice yna ynl ync, .slice yka ykl ykc, .int .i64 yl, .int .i64 yc] 29)).grownBy w3 u.ownBlock → (u.ownBlock = some g3 ∨ g3 = (w2.alloc (.cells #[.int .u8 yk, .int .u8 yo, .int .i32 yn, .string ynm, .slice yna ynl ync, .slice yka ykl ykc, .int .i64 yl, .int .i64 yc] 29)).heap.size) →
            PlAt w c ok #[.int .u8 k, .int .u8 op, .int .i32 n, .string nm, .slice na nms.length nc, .slice (some ⟨b, off, none⟩) kids.length kc, .int .i64 px, .int .i64 1] kids (j + 1) (.slice (some ⟨g3, 0, none⟩) (j + 1) cap3) w3) := Lib.hid (fun w3 g3 cap3 a1 a2 a3 =>
          PlAt.step (cs := #[.int .u8 yk, .int .u8 yo, .int .i32 yn, .string ynm, .slice yna ynl ync, .slice yka ykl ykc, .int .i64 yl, .int .i64 yc]) HCL.out HOK.out hlt q1 q3 q4 q5 q6 q7 HOWN.out q9 hg2 hC2 hy hey a1 a2 a3)
        clear hy hey hC2 hg2 q1 q3 q4 q5 q6 q7 q9 HXX HQ z0 z1 z2 z3 z4 z5 z6 z7 c5 hsz2
        go_wp2_with (at_builtin; refine wpList_append_lies _ rfl _ _ 25 rfl (w.heap.size + 2) 29 iv0 _ 8 88 Tryd.underlying25 HVI.out HVZ.out HVS.out HVB.out rfl (by decide) _ _ _ rfl (row_alloc HOWN2.out _) ⟨w2.heap.size, 0, none⟩ 1 1 [.int .u8 yk, .int .u8 yo, .int .i32 yn, .string ynm, .slice yna ynl ync, .slice yka ykl ykc, .int .i64 yl, .int .i64 yc] rfl rfl (news_of w2 [.int .u8 yk, .int .u8 yo, .int .i32 yn, .string ynm, .slice yna ynl ync, .slice yka ykl ykc, .int .i64 yl, .int .i64 yc] 29 _ rfl) (by intro v hv; simp only [List.mem_cons, List.not_mem_nil, or_false] at hv; rcases hv with rfl | rfl | rfl | rfl | rfl | rfl | rfl | rfl <;> rfl) (by decide) HC3.out HC4.out HC6.out _ rfl ?_; intro g3 cap3 w3 hown3 hgr3 hg3 hlt3)
        go_roundw
        case rel => exact ⟨j + 1, _, by omega, by go_num, rfl, Lib.hid (HST.out _ _ _ hown3 hgr3 hg3)⟩
        case measure => simp [intOf]; omega
      · obtain rfl : j = kids.length := by omega
        rw [List.take_length] at q7
        obtain ⟨ra, rc, hue, hrc, hr0, hrow⟩ := exs_owned (ok := fun b => (ok b ∧ b < w.heap.size) ∨ w.heap.size + 2 ≤ b) (by rw [q6]; exact q8) (q9.keep (fun b _ hb => hb.1) (fun _ _ _ _ h => h)) (fun g hg => .inr hg)
        rw [q6] at hue hrc
        subst hue
        have HROW := Lib.hid hrow
        have HLK := Lib.hid q6
        have HEK := Lib.hid q7
        have hB := q3.put 5 (.slice ra kids.length rc)
        have hB' : Has (wr.setCell ⟨w.heap.size, 5, none⟩ (.slice ra kids.length rc)) w.heap.size 29 #[.int .u8 k, .int .u8 op, .int .i32 n, .string nm, .slice na nms.length nc, .slice ra kids.length rc, .int .i64 px, .int .i64 1] := by simpa using hB
        have hR' : Has (wr.setCell ⟨w.heap.size, 5, none⟩ (.slice ra kids.length rc)) (w.heap.size + 1) 29 zeroE := q4.put_far 5 _ (by omega)
        have HBU : Hid (But wr (wr.setCell ⟨w.heap.size, 5, none⟩ (.slice ra kids.length rc)) w.heap.size) := Lib.hid ((But.refl _ _).put 5 _)
        have HG := Lib.hid q1
        have HC := Lib.hid q2
        have HSELF := Lib.hid (self8 hR' (.int .u8 k) (.int .u8 op) (.int .i32 n) (.string nm) (.slice na nms.length nc) (.slice ra kids.length rc) (.int .i64 px) (.int .i64 1))
        have HBUT := Lib.hid (but8 (wr.setCell ⟨w.heap.size, 5, none⟩ (.slice ra kids.length rc)) (w.heap.size + 1) (.int .u8 k) (.int .u8 op) (.int .i32 n) (.string nm) (.slice na nms.length nc) (.slice ra kids.length rc) (.int .i64 px) (.int .i64 1))
        have f5 := q3.free 5
        have y0 := hB'.cell 0
        have y1 := hB'.cell 1
        have y2 := hB'.cell 2
        have y3 := hB'.cell 3
        have y4 := hB'.cell 4
        have y5 := hB'.cell 5
        have y6 := hB'.cell 6
        have y7 := hB'.cell 7
        have t0 := hR'.cell 0
        have t1 := hR'.cell 1
        have t2 := hR'.cell 2
        have t3 := hR'.cell 3
        have t4 := hR'.cell 4
        have t5 := hR'.cell 5
        have t6 := hR'.cell 6
        have t7 := hR'.cell 7
        have fr := fun i => hR'.free i
        simp only [List.getElem?_toArray, List.getElem?_cons_zero, List.getElem?_cons_succ] at y0 y1 y2 y3 y4 y5 y6 y7 t0 t1 t2 t3 t4 t5 t6 t7
        have HRC := Lib.hid hrc
        clear q1 q2 q3 q4 q5 q6 q7 q8 q9 hrow hr0 hB hB' hR' HP hrc
        go_wp2_with fail
        (try simp only [Exit.inBlock, Exit.then])
        have x0 := HSELF.out.cell 0
        have x1 := HSELF.out.cell 1
        have x2 := HSELF.out.cell 2
        have x3 := HSELF.out.cell 3
        have x4 := HSELF.out.cell 4
        have x5 := HSELF.out.cell 5
        have x6 := HSELF.out.cell 6
        have x7 := HSELF.out.cell 7
        simp only [List.getElem?_toArray, List.getElem?_cons_zero, List.getElem?_cons_succ] at x0 x1 x2 x3 x4 x5 x6 x7
        refine bodyPost_ret (v := .agg #[.int .u8 k, .int .u8 op, .int .i32 n, .string nm, .slice na nms.length nc, .slice ra kids.length rc, .int .i64 px, .int .i64 1]) (by simp [results, Tryd.results44, go_sem, x0, x1, x2, x3, x4, x5, x6, x7]) rfl ?_
        have keepF : ∀ b o v, b ≠ w.heap.size → b ≠ w.heap.size + 1 → wr.cell? ⟨b, o, none⟩ = some v → _ := fun b o v n1 n2 hv => HBUT.out.cell (b := b) (o := o) (v := v) n2 (HBU.out.cell n1 hv)
        obtain ⟨m1, m2, m3, m4, m5⟩ := HHH.out
        refine ⟨.mk k op n nm nms L px 1, _, rfl, ?_, ?_, ?_, ?_⟩
        · unfold LaidP
          refine ⟨m1, m2, m3, m4, by rw [HLK.out]; exact h5, na, nc, ra, rc, m5, by rw [HLK.out]; exact HRC.out, by rw [HLK.out], ?_, ?_⟩
          · refine StrsP.keep (fun b _ hb => .inl hb) (fun b o v hb hv => ?_) HS.out
            have hbl : b < w.heap.size := World.block_lt_of_cell? w _ hv
            refine keepF b o v (by omega) (by omega) ?_
            have := HG.out.block b hbl (fun e => HOK.out b hb (by injection e))
            unfold World.cell? at hv ⊢
            rw [this]; exact hv
          · refine LaidPK.keep (fun b _ hb => ?_) (fun b o v hb hv => ?_) _ _ HROW.out
            · rcases hb with h | h
              · exact .inl h.1
              · exact .inr (by omega)
            · refine keepF b o v ?_ ?_ hv
              · rcases hb with h | h <;> omega
              · rcases hb with h | h <;> omega
        · rw [er, er, HEK.out]
        · exact (HC.out.but HBU.out (by have := HCL.out; omega)).but HBUT.out (by have := HCL.out; omega)
        · exact HBUT.out.grown (HBU.out.grown HG.out (Nat.le_refl _)) (by omega)
end Go.Proofs.YtnejkgkikpgajaaDoor.ck
