/-
  The places of a block of one variable and some definitions, as the reference lays them: the counter's block.
-/
import Derived.Test.YtnejkgkikpgajaaDoorPlBlock0
namespace Go.Proofs.YtnejkgkikpgajaaDoor.ck
open Go.ChangeShapes Go.WideShapes Go.ChangeAt Go.RowKit
open tr
set_option linter.unusedVariables false
set_option linter.unusedSimpArgs false

def BlockPost (w : World) (c : Nat) (ok : Nat → Prop) (vs : List Vd) (l : List Qd) (e : Ending) (w' : World) : Prop :=
  ∃ (gv gq : Option Addr) (cv cq : Nat), e = .returned (.agg #[.slice gv vs.length cv, .slice gq l.length cq]) ∧ (∀ i (hi : i < vs.length), ∃ g, gv = some ⟨g, 0, none⟩ ∧ w.heap.size ≤ g ∧ VarAt w' g (i * 15) vs[i].nm vs[i].ca vs[i].cl vs[i].cc) ∧ (∀ i (hi : i < l.length), ∃ g, gq = some ⟨g, 0, none⟩ ∧ w.heap.size ≤ g ∧ QAt w' (fun b => ok b ∨ w.heap.size ≤ b) g (i * 16) l[i]) ∧ CtrAt w' c ∧ w.grownBy w' (some c)
theorem VarAt.keep {w w' : World} {g o : Nat} {nm : ByteArray} {ca : Option Addr} {cl cc : Nat} (h : VarAt w g o nm ca cl cc) (hk : ∀ i v, w.cell? ⟨g, i, none⟩ = some v → w'.cell? ⟨g, i, none⟩ = some v) : VarAt w' g o nm ca cl cc := by
  obtain ⟨tk, tn, ecs, x, y, hke, h⟩ := h
  exact ⟨tk, tn, ecs, x, y, hke, fun k u hu => hk _ _ (h k u hu)⟩
theorem VarAt.lt {w : World} {g o : Nat} {nm : ByteArray} {ca : Option Addr} {cl cc : Nat} (h : VarAt w g o nm ca cl cc) : g < w.heap.size := by
  obtain ⟨x, y, h1, h2, h3, h4⟩ := h.four
  exact World.block_lt_of_cell? w _ h1
theorem cell_grown_c {w W : World} {c b o : Nat} {v : Value} (hg : w.grownBy W (some c)) (hbg : b ≠ c) (h : w.cell? ⟨b, o, none⟩ = some v) : W.cell? ⟨b, o, none⟩ = some v := by
  have hl : b < w.heap.size := World.block_lt_of_cell? w _ h
  have := hg.block b hl (fun e => hbg (by injection e))
  unfold World.cell? at h ⊢
  rw [this]
  exact h

set_option maxRecDepth 100000 in
set_option maxHeartbeats 16000000 in
theorem block_any (w : World) (c : Nat) (va : Option Addr) (vk qb qk : Nat) (vs : List Vd) (l : List Qd) (ok : Nat → Prop) (hv : VarsIn w va vs) (hvc : ∀ b, va = some ⟨b, 0, none⟩ → b ≠ c) (hvl : vs.length ≤ 1000)
    (hq : ∀ i (hi : i < l.length), ∃ ecs, LaidP w ok l[i].e ecs ∧ ∀ (k : Nat) (v : Value), (qcells l[i] ecs 0 0)[k]? = some v → w.cell? ⟨qb, i * 16 + k, none⟩ = some v) (hqc : qb ≠ c) (hokc : ∀ b, ok b → b ≠ c) (hl : l.length ≤ 1000) (hC : CtrAt w c) :
    Calls Tryd.prog 30 #[.pointer (some ⟨c, 0, none⟩), .agg #[.slice va vs.length vk, .slice (some ⟨qb, 0, none⟩) l.length qk]] w (BlockPost w c ok vs l) := by
  have hcl := hC.lt
  obtain ⟨iv0, hvi, hv3⟩ := Option.map_eq_some_iff.1 eq_info
  simp only [Prod.mk.injEq] at hv3
  obtain ⟨hvz, hvs, hvb⟩ := hv3
  have HVI := Lib.hid hvi
  have HVZ := Lib.hid hvz
  have HVS := Lib.hid hvs
  have HVB := Lib.hid hvb
  obtain ⟨W0, hW0⟩ : ∃ W0, W0 = (w.alloc (.cells #[.slice va vs.length vk, .slice (some ⟨qb, 0, none⟩) l.length qk] 45)).alloc (.cells #[.slice none 0 0, .slice none 0 0] 45) := ⟨_, rfl⟩
  have hb0 : Below w.heap.size w W0 := by subst hW0; exact ((Below.refl _ w).alloc (Nat.le_refl _) _).alloc (by simp) _
  have HB0 : Hid (Has W0 w.heap.size 45 #[.slice va vs.length vk, .slice (some ⟨qb, 0, none⟩) l.length qk]) := Lib.hid (by subst hW0; exact (Has.new w _ _).alloc _)
  have HR0 : Hid (Has W0 (w.heap.size + 1) 45 #[.slice none 0 0, .slice none 0 0]) := Lib.hid (by subst hW0; have := Has.new (w.alloc (.cells #[.slice va vs.length vk, .slice (some ⟨qb, 0, none⟩) l.length qk] 45)) 45 #[.slice none 0 0, .slice none 0 0]; simpa using this)
  have hs0 : W0.heap.size = w.heap.size + 1 + 1 := by subst hW0; simp
  have HVV := Lib.hid (vars_any W0 c va vk vs (hv.below hb0) hvc hvl (hC.below hb0))
  have HG0 : Hid (w.grownBy W0 (some c)) := Lib.hid (grown_below _ hb0)
  have HS0 := Lib.hid hs0
  have HW0 := Lib.hid hW0
  have HQ := Lib.hid hq
  have HOK := Lib.hid hokc
  have HCL := Lib.hid hcl
  clear hvi hvz hvs hvb hv hq hokc hC hb0 hW0 hs0 hcl
  unfold BlockPost
  go_enter Tryd.func30, Tryd.ntmps30
  go_wp2_with fail
  rw [← HW0.out]
  refine HVV.out.mono ?_
  rintro e w1 ⟨gv, cv, rfl, hvat, hC1, hg1⟩
  have hcl := HCL.out
  have hs1 := hg1.size
  rw [HS0.out] at hs1
  have hB1 := HB0.out.grown hg1 (fun e => by injection e with e; omega)
  have hR1 := HR0.out.grown hg1 (fun e => by injection e with e; omega)
  have hG1 := grown_trans HG0.out hg1
  obtain ⟨WB, hWB⟩ : ∃ WB, WB = w1.alloc (.cells #[.slice gv vs.length cv, .slice none 0 0] 45) := ⟨_, rfl⟩
  obtain ⟨g, hgw⟩ : ∃ g, g = w1.heap.size := ⟨_, rfl⟩
  have hsB : WB.heap.size = g + 1 := by rw [hWB, hgw]; simp
  have hgl : w.heap.size + 2 ≤ g := by omega
  have HGB : Hid (w.grownBy WB (some c)) := Lib.hid (by rw [hWB]; exact grown_alloc hG1 _)
  have HBB : Hid (Has WB w.heap.size 45 #[.slice va vs.length vk, .slice (some ⟨qb, 0, none⟩) l.length qk]) := Lib.hid (by rw [hWB]; exact hB1.alloc _)
  have HRB : Hid (Has WB (w.heap.size + 1) 45 #[.slice none 0 0, .slice none 0 0]) := Lib.hid (by rw [hWB]; exact hR1.alloc _)
  have HVA : Hid (∀ i (hi : i < vs.length), ∃ gg, gv = some ⟨gg, 0, none⟩ ∧ (gg ≠ c ∧ gg ≠ g ∧ gg < WB.heap.size ∧ gg ≠ w.heap.size + 1 ∧ w.heap.size ≤ gg) ∧ VarAt WB gg (i * 15) vs[i].nm vs[i].ca vs[i].cl vs[i].cc) := Lib.hid (fun i hi => by
    obtain ⟨gg, e1, e2, e3⟩ := hvat i hi
    have hlt := e3.lt
    have hs00 := HS0.out
    exact ⟨gg, e1, ⟨by omega, by omega, by omega, by omega, by omega⟩, e3.keep (fun i v hc => by rw [hWB]; exact ((Below.refl w1.heap.size w1).alloc (Nat.le_refl _) _).cell (p := ⟨gg, i, none⟩) (World.block_lt_of_cell? w1 _ hc) |>.trans hc)⟩)
  have HQ0 : Hid (QlAt WB c g (fun b => ok b ∧ b < w.heap.size) (.slice gv vs.length cv) l 0 WB) := Lib.hid ⟨Kp.refl _ _, by rw [hWB]; exact hC1.alloc _, .slice none 0 0, [], by rw [hWB, hgw]; exact Has.new w1 _ _, World.ownsRow_nil _ _ _ _, rfl⟩
  have HWB := Lib.hid hWB
  have HGW := Lib.hid hgw
  have HSB := Lib.hid hsB
  have HGL := Lib.hid hgl
  clear hs1 hB1 hR1 hG1 hWB hgw hsB hgl hcl hvat hC1 hg1 HVV HB0 HR0 HG0 HS0 HW0
  go_wp2_with fail
  rw [← HWB.out, ← HGW.out]
  go_loopw [6] (fun iv wr => ∃ j : Nat, j ≤ l.length ∧ iv = .int .i64 j ∧ Hid (QlAt WB c g (fun b => ok b ∧ b < w.heap.size) (.slice gv vs.length cv) l j wr)) (fun iv _ => l.length - (intOf iv).toNat)
  case atStart => exact ⟨0, by omega, rfl, HQ0⟩
  case round =>
    obtain ⟨j, hj, rfl, HR⟩ := hrel
    clear HQ0
    obtain ⟨q1, q2, v, xs, q3, q4, q5⟩ := HR.out
    have hcl := HCL.out
    have hgl := HGL.out
    have hB := q1.has (b := w.heap.size) (by simp only [List.mem_cons, List.not_mem_nil, or_false]; omega) HBB.out
    have bb1 := hB.cell 1
    simp only [List.getElem?_toArray, List.getElem?_cons_zero, List.getElem?_cons_succ] at bb1
    by_cases hlt : j < l.length
    · obtain ⟨q, hqq⟩ : ∃ q, q = l[j] := ⟨_, rfl⟩
      obtain ⟨ecs, hel, hec⟩ := HQ.out j hlt
      rw [← hqq] at hel hec
      obtain ⟨ek, eo, en, enm, ena, enl, enc, eka, ekl, ekc, el, ecl, hes⟩ := LaidP.shape (cs := ecs.toArray) (by simpa using hel)
      have hes' : ecs = [.int .u8 ek, .int .u8 eo, .int .i32 en, .string enm, .slice ena enl enc, .slice eka ekl ekc, .int .i64 el, .int .i64 ecl] := by
        have := congrArg Array.toList hes
        simpa using this
      subst hes'
      have hqk : ∀ (k : Nat) (u : Value), ([.int .u8 1, .slice q.la q.ll q.lc, .string ⟨#[]⟩, .slice none 0 0, .bool false, .int .u8 ek, .int .u8 eo, .int .i32 en, .string enm, .slice ena enl enc, .slice eka ekl ekc, .int .i64 el, .int .i64 ecl, .slice none 0 0, .int .i64 0, .int .i64 0] : List Value)[k]? = some u → wr.cell? ⟨qb, j * 16 + k, none⟩ = some u := fun k u hk => by
        have h0 := hec k u hk
        have hbl : qb < w.heap.size := World.block_lt_of_cell? w _ h0
        exact q1.cell (by simp only [List.mem_cons, List.not_mem_nil, or_false]; omega) (cell_grown_c HGB.out hqc h0)
      have a0 := hqk 0 _ rfl
      have a1 := hqk 1 _ rfl
      have a2 := hqk 2 _ rfl
      have a3 := hqk 3 _ rfl
      have a4 := hqk 4 _ rfl
      have a5 := hqk 5 _ rfl
      have a6 := hqk 6 _ rfl
      have a7 := hqk 7 _ rfl
      have a8 := hqk 8 _ rfl
      have a9 := hqk 9 _ rfl
      have a10 := hqk 10 _ rfl
      have a11 := hqk 11 _ rfl
      have a12 := hqk 12 _ rfl
      have a13 := hqk 13 _ rfl
      have a14 := hqk 14 _ rfl
      have a15 := hqk 15 _ rfl
      rw [Nat.add_zero] at a0
      have i0 : (0 : Int) ≤ (j : Int) := Int.natCast_nonneg _
      have i1 : (j : Int) < (l.length : Int) := by omega
      obtain ⟨A0, hA0⟩ : ∃ A0, A0 = wr.alloc (.cells #[.int .u8 1, .slice q.la q.ll q.lc, .string ⟨#[]⟩, .slice none 0 0, .bool false, .int .u8 ek, .int .u8 eo, .int .i32 en, .string enm, .slice ena enl enc, .slice eka ekl ekc, .int .i64 el, .int .i64 ecl, .slice none 0 0, .int .i64 0, .int .i64 0] 64) := ⟨_, rfl⟩
      have hb0 : Below wr.heap.size wr A0 := by subst hA0; exact (Below.refl _ wr).alloc (Nat.le_refl _) _
      have HV0 : Hid (Has A0 wr.heap.size 64 #[.int .u8 1, .slice q.la q.ll q.lc, .string ⟨#[]⟩, .slice none 0 0, .bool false, .int .u8 ek, .int .u8 eo, .int .i32 en, .string enm, .slice ena enl enc, .slice eka ekl ekc, .int .i64 el, .int .i64 ecl, .slice none 0 0, .int .i64 0, .int .i64 0]) := Lib.hid (by subst hA0; exact Has.new wr _ _)
      have HSA : Hid (A0.heap.size = wr.heap.size + 1) := Lib.hid (by subst hA0; simp)
      have HN := Lib.hid (next_any A0 c (q2.below hb0))
      have HEL : Hid (LaidP wr (fun b => (ok b ∧ b < w.heap.size) ∧ b ≠ g ∧ b < WB.heap.size) q.e [.int .u8 ek, .int .u8 eo, .int .i32 en, .string enm, .slice ena enl enc, .slice eka ekl ekc, .int .i64 el, .int .i64 ecl]) := Lib.hid (LaidP.keep (fun b hbl hb => ⟨⟨hb, hbl⟩, by omega, by have := HGB.out.size; omega⟩) (fun b i u hb hu => by
        have hbl : b < w.heap.size := World.block_lt_of_cell? w _ hu
        exact q1.cell (by simp only [List.mem_cons, List.not_mem_nil, or_false]; have := HOK.out b hb; omega) (cell_grown_c HGB.out (HOK.out b hb) hu)) _ _ hel)
      have HB0 := Lib.hid hb0
      have HA0 := Lib.hid hA0
      have H1 := Lib.hid q1
      have H3 := Lib.hid q3
      have H4 := Lib.hid q4
      have H5 := Lib.hid q5
      have HQQ := Lib.hid hqq
      have hkb : WB.heap.size ≤ wr.heap.size := q1.size
      have HKB := Lib.hid hkb
      clear q1 q2 q3 q4 q5 hB hel hec hqk hA0 hb0 hes HR hcl hgl hqq hkb
      go_wp2_with fail
      rw [← HA0.out]
      refine HN.out.mono ?_
      rintro e x1 ⟨px, rfl, hC1, hg1⟩
      have hcl := HCL.out
      have hsB := HSB.out
      have hgl := HGL.out
      have hkb := HKB.out
      have hs1 := hg1.size
      rw [HSA.out] at hs1
      have hv1 := HV0.out.grown hg1 (fun e => by injection e with e; omega)
      obtain ⟨A1, hA1⟩ : ∃ A1, A1 = ((x1.setCell ⟨wr.heap.size, 14, none⟩ (.int .i64 px)).setCell ⟨wr.heap.size, 15, none⟩ (.int .i64 1)) := ⟨_, rfl⟩
      have hbu1 : But x1 A1 wr.heap.size := by rw [hA1]; exact ((But.refl _ _).put 14 _).put 15 _
      have hv2 : Has A1 wr.heap.size 64 #[.int .u8 1, .slice q.la q.ll q.lc, .string ⟨#[]⟩, .slice none 0 0, .bool false, .int .u8 ek, .int .u8 eo, .int .i32 en, .string enm, .slice ena enl enc, .slice eka ekl ekc, .int .i64 el, .int .i64 ecl, .slice none 0 0, .int .i64 px, .int .i64 1] := by
        rw [hA1]
        have := ((hv1.put 14 (.int .i64 px)).put 15 (.int .i64 1))
        simpa using this
      have fr := fun i => hv1.free i
      have b14 := hv1.cell 14
      have b15 := hv1.cell 15
      have b5 := hv2.cell 5
      have b6 := hv2.cell 6
      have b7 := hv2.cell 7
      have b8 := hv2.cell 8
      have b9 := hv2.cell 9
      have b10 := hv2.cell 10
      have b11 := hv2.cell 11
      have b12 := hv2.cell 12
      simp only [List.getElem?_toArray, List.getElem?_cons_zero, List.getElem?_cons_succ] at b5 b6 b7 b8 b9 b10 b11 b12 b14 b15
      rw [hA1] at b5 b6 b7 b8 b9 b10 b11 b12
      have hA01 : wr.grownBy A1 (some c) := hbu1.grown (grown_trans (grown_below _ HB0.out) hg1) (Nat.le_refl _)
      have HXX := Lib.hid (place_any (sz q.e) q.e (Nat.le_refl _) A1 c (fun b => (ok b ∧ b < w.heap.size) ∧ b ≠ g ∧ b < WB.heap.size) #[.int .u8 ek, .int .u8 eo, .int .i32 en, .string enm, .slice ena enl enc, .slice eka ekl ekc, .int .i64 el, .int .i64 ecl]
        (LaidP.keep (w := wr) (fun b _ h => h) (fun b i u hb hu => cell_grown_c hA01 (HOK.out b hb.1.1) hu) _ _ HEL.out) (fun b hb => HOK.out b hb.1.1) (hC1.but hbu1 (by omega)))
      have HV2 := Lib.hid hv2
      have H01 := Lib.hid hA01
      have HS1 : Hid (wr.heap.size + 1 ≤ A1.heap.size) := Lib.hid (by rw [hbu1.1]; exact hs1)
      have HA1 := Lib.hid hA1
      clear hv1 hv2 hbu1 hA1 hC1 hg1 hcl hs1 hA01 HN HV0 HSA hsB hgl hkb
      go_wp2_with fail
      rw [← HA1.out]
      refine HXX.out.mono ?_
      rintro e x2 ⟨y, ycs, rfl, hy, hey, hC2, hg2⟩
      obtain ⟨yk, yo, yn, ynm, yna, ynl, ync, yka, ykl, ykc, yl, yc, rfl⟩ := hy.shape
      have hcl := HCL.out
      have hsB := HSB.out
      have hgl := HGL.out
      have hkb := HKB.out
      have hs1 := HS1.out
      have hs2 := hg2.size
      have hv3 := HV2.out.grown hg2 (fun e => by injection e with e; omega)
      have h02 := grown_trans H01.out hg2
      obtain ⟨A2, hA2⟩ : ∃ A2, A2 = ((((((((x2.setCell ⟨wr.heap.size, 5, none⟩ (.int .u8 yk)).setCell ⟨wr.heap.size, 6, none⟩ (.int .u8 yo)).setCell ⟨wr.heap.size, 7, none⟩ (.int .i32 yn)).setCell ⟨wr.heap.size, 8, none⟩ (.string ynm)).setCell ⟨wr.heap.size, 9, none⟩ (.slice yna ynl ync)).setCell ⟨wr.heap.size, 10, none⟩ (.slice yka ykl ykc)).setCell ⟨wr.heap.size, 11, none⟩ (.int .i64 yl)).setCell ⟨wr.heap.size, 12, none⟩ (.int .i64 yc)) := ⟨_, rfl⟩
      have hbu2 : But x2 A2 wr.heap.size := by rw [hA2]; exact ((((((((But.refl _ _).put 5 _).put 6 _).put 7 _).put 8 _).put 9 _).put 10 _).put 11 _).put 12 _
      have hv4 : Has A2 wr.heap.size 64 #[.int .u8 1, .slice q.la q.ll q.lc, .string ⟨#[]⟩, .slice none 0 0, .bool false, .int .u8 yk, .int .u8 yo, .int .i32 yn, .string ynm, .slice yna ynl ync, .slice yka ykl ykc, .int .i64 yl, .int .i64 yc, .slice none 0 0, .int .i64 px, .int .i64 1] := by
        rw [hA2]
        have := ((((((((hv3.put 5 (.int .u8 yk)).put 6 (.int .u8 yo)).put 7 (.int .i32 yn)).put 8 (.string ynm)).put 9 (.slice yna ynl ync)).put 10 (.slice yka ykl ykc)).put 11 (.int .i64 yl)).put 12 (.int .i64 yc))
        simpa using this
      have fr2 := fun i => hv3.free i
      have e5 := hv3.cell 5
      have e6 := hv3.cell 6
      have e7 := hv3.cell 7
      have e8 := hv3.cell 8
      have e9 := hv3.cell 9
      have e10 := hv3.cell 10
      have e11 := hv3.cell 11
      have e12 := hv3.cell 12
      simp only [List.getElem?_toArray, List.getElem?_cons_zero, List.getElem?_cons_succ] at e5 e6 e7 e8 e9 e10 e11 e12
      have HY := Lib.hid hy
      have HEY := Lib.hid hey
      have HC2 := Lib.hid hC2
      have H02 := Lib.hid h02
      have HBU2 := Lib.hid hbu2
      have HV4 := Lib.hid hv4
      have HA2 := Lib.hid hA2
      clear hy hey hC2 h02 hbu2 hv4 hv3 hA2 hg2 hcl hsB hgl hkb hs1 hs2 b14 b15 b5 b6 b7 b8 b9 b10 b11 b12 fr HXX HEL HV2 a0 a1 a2 a3 a4 a5 a6 a7 a8 a9 a10 a11 a12 a13 a14 a15
      go_wp2_with fail
      rw [← HA2.out]
      have d3 := HV4.out.cell 3
      have d13 := HV4.out.cell 13
      have fr4 := fun i => HV4.out.free i
      simp only [List.getElem?_toArray, List.getElem?_cons_zero, List.getElem?_cons_succ] at d3 d13
      clear e5 e6 e7 e8 e9 e10 e11 e12 fr2
      refine wp_loop_rounds 1 ?_
      rw [rounds_succ]
      go_wp2_with fail
      obtain ⟨A3, hA3⟩ : ∃ A3, A3 = A2.setCell ⟨wr.heap.size, 3, none⟩ (.slice none 0 0) := ⟨_, rfl⟩
      have hbu3 : But x2 A3 wr.heap.size := by rw [hA3]; exact HBU2.out.put 3 _
      have hv5 : Has A3 wr.heap.size 64 #[.int .u8 1, .slice q.la q.ll q.lc, .string ⟨#[]⟩, .slice none 0 0, .bool false, .int .u8 yk, .int .u8 yo, .int .i32 yn, .string ynm, .slice yna ynl ync, .slice yka ykl ykc, .int .i64 yl, .int .i64 yc, .slice none 0 0, .int .i64 px, .int .i64 1] := by
        rw [hA3]
        have := HV4.out.put 3 (.slice none 0 0)
        simpa using this
      rw [← hA3]
      have HBU3 := Lib.hid hbu3
      have HV5 := Lib.hid hv5
      clear hbu3 hv5 hA3 d3 d13 fr4
      have d13 := HV5.out.cell 13
      have fr5 := fun i => HV5.out.free i
      simp only [List.getElem?_toArray, List.getElem?_cons_zero, List.getElem?_cons_succ] at d13
      refine wp_loop_rounds 1 ?_
      rw [rounds_succ]
      obtain ⟨A4, hA4⟩ : ∃ A4, A4 = A3.setCell ⟨wr.heap.size, 13, none⟩ (.slice none 0 0) := ⟨_, rfl⟩
      have hcl := HCL.out
      have hsB := HSB.out
      have hgl := HGL.out
      have hkb := HKB.out
      have hbu4 : But x2 A4 wr.heap.size := by rw [hA4]; exact HBU3.out.put 13 _
      have hv6 : Has A4 wr.heap.size 64 #[.int .u8 1, .slice q.la q.ll q.lc, .string ⟨#[]⟩, .slice none 0 0, .bool false, .int .u8 yk, .int .u8 yo, .int .i32 yn, .string ynm, .slice yna ynl ync, .slice yka ykl ykc, .int .i64 yl, .int .i64 yc, .slice none 0 0, .int .i64 px, .int .i64 1] := by
        rw [hA4]
        have := HV5.out.put 13 (.slice none 0 0)
        simpa using this
      have hG4 : Has A4 g 45 #[.slice gv vs.length cv, v] := hbu4.has (by omega) (H3.out.grown H02.out (fun e => by injection e with e; omega))
      have g41 := hG4.cell 1
      have k0 := hv6.cell 0
      have k1 := hv6.cell 1
      have k2 := hv6.cell 2
      have k3 := hv6.cell 3
      have k4 := hv6.cell 4
      have k5 := hv6.cell 5
      have k6 := hv6.cell 6
      have k7 := hv6.cell 7
      have k8 := hv6.cell 8
      have k9 := hv6.cell 9
      have k10 := hv6.cell 10
      have k11 := hv6.cell 11
      have k12 := hv6.cell 12
      have k13 := hv6.cell 13
      have k14 := hv6.cell 14
      have k15 := hv6.cell 15
      simp only [List.getElem?_toArray, List.getElem?_cons_zero, List.getElem?_cons_succ] at g41 k0 k1 k2 k3 k4 k5 k6 k7 k8 k9 k10 k11 k12 k13 k14 k15
      rw [hA4] at g41 k0 k1 k2 k3 k4 k5 k6 k7 k8 k9 k10 k11 k12 k13 k14 k15
      have nV : v.ownBlock ≠ some wr.heap.size := fun e => by have := (H4.out.lt _ e).2; omega
      have hR4 : A4.ownsRow WB.heap.size 64 16 v j xs := hbu4.row (row_grown H4.out H02.out (by omega)) nV
      have hK4 : Kp [c, g] WB A4 := (H1.out.grown H02.out (.inl (by simp))).but hbu4 (.inr hkb)
      have hs4 : wr.heap.size + 1 ≤ A4.heap.size := by rw [hbu4.1]; have := H02.out.size; have := HV5.out.lt; have := HBU3.out.1; omega
      have HSZ : Hid (A3.heap.size = A4.heap.size) := Lib.hid (by rw [hA4]; simp)
      have HST : Hid (∀ (w3 : World) (g3 cap3 : Nat), w3.ownsRow WB.heap.size 64 16 (.slice (some ⟨g3, 0, none⟩) (j + 1) cap3) (j + 1) (xs ++ [.int .u8 1, .slice q.la q.ll q.lc, .string ⟨#[]⟩, .slice none 0 0, .bool false, .int .u8 yk, .int .u8 yo, .int .i32 yn, .string ynm, .slice yna ynl ync, .slice yka ykl ykc, .int .i64 yl, .int .i64 yc, .slice none 0 0, .int .i64 px, .int .i64 1]) → (A4.alloc (.cells #[.int .u8 1, .slice q.la q.ll q.lc, .string ⟨#[]⟩, .slice none 0 0, .bool false, .int .u8 yk, .int .u8 yo, .int .i32 yn, .string ynm, .slice yna ynl ync, .slice yka ykl ykc, .int .i64 yl, .int .i64 yc, .slice none 0 0, .int .i64 px, .int .i64 1] 64)).grownBy w3 v.ownBlock → (v.ownBlock = some g3 ∨ g3 = (A4.alloc (.cells #[.int .u8 1, .slice q.la q.ll q.lc, .string ⟨#[]⟩, .slice none 0 0, .bool false, .int .u8 yk, .int .u8 yo, .int .i32 yn, .string ynm, .slice yna ynl ync, .slice yka ykl ykc, .int .i64 yl, .int .i64 yc, .slice none 0 0, .int .i64 px, .int .i64 1] 64)).heap.size) → QlAt WB c g (fun b => ok b ∧ b < w.heap.size) (.slice gv vs.length cv) l (j + 1) (w3.setCell ⟨g, 1, none⟩ (.slice (some ⟨g3, 0, none⟩) (j + 1) cap3))) := Lib.hid (fun w3 g3 cap3 p1 p2 p3 =>
        QlAt.step (W := wr) (w2 := x2) (W3 := A4) (V := wr.heap.size) (y := y) (ycs := [.int .u8 yk, .int .u8 yo, .int .i32 yn, .string ynm, .slice yna ynl ync, .slice yka ykl ykc, .int .i64 yl, .int .i64 yc]) (px := px) (by omega) (by omega) (by omega) (fun b hb => HOK.out b hb.1) hlt H1.out H3.out H4.out H5.out rfl (fun b i u hb _ hu => cell_grown_c H02.out hb hu) hbu4 (HC2.out.but hbu4 (by omega)) hG4 hK4 hs4 hR4
          (LaidP.keep (fun b _ hb => by rcases hb with h | h; exact .inl h; exact .inr (by have := HS1.out; omega)) (fun _ _ _ _ h => h) _ _ HY.out) (by rw [← HQQ.out]; exact HEY.out) (by rw [← HQQ.out]; exact p1) (by rw [← HQQ.out]; exact p2) (by rw [← HQQ.out]; exact p3))
      have HGG : Hid (∀ w3, (A4.alloc (.cells #[.int .u8 1, .slice q.la q.ll q.lc, .string ⟨#[]⟩, .slice none 0 0, .bool false, .int .u8 yk, .int .u8 yo, .int .i32 yn, .string ynm, .slice yna ynl ync, .slice yka ykl ykc, .int .i64 yl, .int .i64 yc, .slice none 0 0, .int .i64 px, .int .i64 1] 64)).grownBy w3 v.ownBlock → Has w3 g 45 #[.slice gv vs.length cv, v]) := Lib.hid (fun w3 p2 => (hG4.alloc _).grown p2 (fun e => own_ge H4.out (by omega) e.symm))
      have HR4 := Lib.hid hR4
      have HA4 := Lib.hid hA4
      have HC3 : Hid (j + 1 ≤ maxLen) := Lib.hid (by unfold maxLen; omega)
      have HC4 : Hid ((j + 1) * 208 ≤ 140737488355328) := Lib.hid (by omega)
      have HC6 : Hid (WB.heap.size ≤ (A4.alloc (.cells #[.int .u8 1, .slice q.la q.ll q.lc, .string ⟨#[]⟩, .slice none 0 0, .bool false, .int .u8 yk, .int .u8 yo, .int .i32 yn, .string ynm, .slice yna ynl ync, .slice yka ykl ykc, .int .i64 yl, .int .i64 yc, .slice none 0 0, .int .i64 px, .int .i64 1] 64)).heap.size) := Lib.hid (by simp only [World.size_alloc]; omega)
      clear hcl hsB hgl hkb hbu4 hv6 hG4 nV hR4 hK4 hs4 hA4
      go_wp2_with (at_builtin; rw [← HA4.out]; refine wpList_append_lies _ rfl _ _ 43 rfl WB.heap.size 64 iv0 _ 16 208 Tryd.underlying43 HVI.out HVZ.out HVS.out HVB.out rfl (by decide) v j xs rfl (row_alloc HR4.out _) ⟨A3.heap.size, 0, none⟩ 1 1 [.int .u8 1, .slice q.la q.ll q.lc, .string ⟨#[]⟩, .slice none 0 0, .bool false, .int .u8 yk, .int .u8 yo, .int .i32 yn, .string ynm, .slice yna ynl ync, .slice yka ykl ykc, .int .i64 yl, .int .i64 yc, .slice none 0 0, .int .i64 px, .int .i64 1] rfl rfl (news_of A4 [.int .u8 1, .slice q.la q.ll q.lc, .string ⟨#[]⟩, .slice none 0 0, .bool false, .int .u8 yk, .int .u8 yo, .int .i32 yn, .string ynm, .slice yna ynl ync, .slice yka ykl ykc, .int .i64 yl, .int .i64 yc, .slice none 0 0, .int .i64 px, .int .i64 1] 64 _ HSZ.out) (by intro v hv; simp only [List.mem_cons, List.not_mem_nil, or_false] at hv; rcases hv with rfl | rfl | rfl | rfl | rfl | rfl | rfl | rfl | rfl | rfl | rfl | rfl | rfl | rfl | rfl | rfl <;> rfl) (by decide) HC3.out HC4.out HC6.out _ rfl ?_; intro g3 cap3 w3 hown3 hgr3 hg3 hlt3; have hgg := HGG.out w3 hgr3; have gg1 := hgg.cell 1; have ggf := hgg.free 1; simp only [List.getElem?_toArray, List.getElem?_cons_zero, List.getElem?_cons_succ] at gg1; have HQN := Lib.hid (HST.out w3 g3 cap3 hown3 hgr3 hg3); clear hown3 hgr3 hg3 hlt3 hgg; clear g41 k0 k1 k2 k3 k4 k5 k6 k7 k8 k9 k10 k11 k12 k13 k14 k15 d13 fr5)
      go_roundw
      case rel => exact ⟨j + 1, by omega, by go_num, HQN⟩
      case measure => simp [intOf]; omega
    · obtain rfl : j = l.length := by omega
      rw [List.take_length] at q5
      obtain ⟨qa, qc, hve, hqc0, hq0, hqcell⟩ := owned_cells q4
      subst hve
      have hR := q1.has (b := w.heap.size + 1) (by simp only [List.mem_cons, List.not_mem_nil, or_false]; omega) HRB.out
      have hsB := HSB.out
      have hbf := but2 wr (w.heap.size + 1) (.slice gv vs.length cv) (.slice qa l.length qc)
      have hlf := q5.keep (ok' := fun b => ok b ∨ w.heap.size ≤ b) (fun b _ hb => by rcases hb.1 with h | h; exact .inl h.1.1; exact .inr (by omega)) (fun b o u hb hu => hbf.cell (by rcases hb.1 with h | h <;> omega) hu)
      have hqx : ∀ i (hi : i < l.length), ∃ gg, qa = some ⟨gg, 0, none⟩ ∧ w.heap.size ≤ gg ∧ QAt ((wr.setCell ⟨w.heap.size + 1, 0, none⟩ (.slice gv vs.length cv)).setCell ⟨w.heap.size + 1, 1, none⟩ (.slice qa l.length qc)) (fun b => ok b ∨ w.heap.size ≤ b) gg (i * 16) l[i] := fun i hi => by
        have hx16 : 0 < xs.length := by have := q4.1; omega
        obtain ⟨gg, eg, hge, _⟩ := hqcell 0 xs[0] (List.getElem?_eq_getElem hx16)
        refine ⟨gg, eg, by omega, ?_⟩
        have := CellsQ.at_ (g := gg) 0 hlf (fun k u hk => by
          obtain ⟨g', eg', _, hc⟩ := hqcell k u hk
          rw [eg] at eg'
          simp only [Option.some.injEq, Addr.mk.injEq, and_true] at eg'
          subst eg'
          rw [Nat.zero_add]; exact hbf.cell (by omega) hc) i hi
        rw [Nat.zero_add] at this
        exact this
      have HQX := Lib.hid hqx
      have z0 := q3.cell 0
      have z1 := q3.cell 1
      have r0 := hR.cell 0
      have r1 := hR.cell 1
      have rf := fun i => hR.free i
      simp only [List.getElem?_toArray, List.getElem?_cons_zero, List.getElem?_cons_succ] at z0 z1 r0 r1
      have HSELF := Lib.hid (self2 hR (.slice gv vs.length cv) (.slice qa l.length qc))
      have HBUT := Lib.hid (but2 wr (w.heap.size + 1) (.slice gv vs.length cv) (.slice qa l.length qc))
      have HQ1 := Lib.hid q1
      have HQ2 := Lib.hid q2
      clear q1 q2 q3 q4 q5 hB hqx hbf hlf hqcell hq0 hqc0 hR HR
      go_wp2_with fail
      (try simp only [Exit.inBlock, Exit.then])
      have x0 := HSELF.out.cell 0
      have x1 := HSELF.out.cell 1
      simp only [List.getElem?_toArray, List.getElem?_cons_zero, List.getElem?_cons_succ] at x0 x1
      refine bodyPost_ret (v := .agg #[.slice gv vs.length cv, .slice qa l.length qc]) (by simp [results, Tryd.results30, go_sem, x0, x1]) rfl ?_
      refine ⟨gv, qa, cv, qc, rfl, fun i hi => ?_, fun i hi => ?_, ?_, ?_⟩
      · obtain ⟨gg, e1, ⟨n1, n2, n3, n4, n5⟩, e3⟩ := HVA.out i hi
        refine ⟨gg, e1, n5, VarAt.keep e3 (fun i u hu => HBUT.out.cell ?_ (HQ1.out.cell ?_ hu))⟩
        · exact n4
        · simp only [List.mem_cons, List.not_mem_nil, or_false]; omega
      · exact HQX.out i hi
      · exact HQ2.out.but HBUT.out (by have := HCL.out; omega)
      · exact HBUT.out.grown (HQ1.out.toGrown HGB.out (by omega)) (by omega)
end Go.Proofs.YtnejkgkikpgajaaDoor.ck
