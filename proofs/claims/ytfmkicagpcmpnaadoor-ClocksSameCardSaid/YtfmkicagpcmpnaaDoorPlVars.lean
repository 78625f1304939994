/-
  The places of one variable, as the reference lays them: the counter's vars, at a row of one.
-/
import Derived.Test.YtfmkicagpcmpnaaDoorPlExpr
import Derived.LoopN
namespace Go.Proofs.YtfmkicagpcmpnaaDoor.ck
open Go.ChangeShapes Go.WideShapes Go.ChangeAt Go.RowKit
open tr
set_option linter.unusedVariables false
set_option linter.unusedSimpArgs false

theorem var_info : (Tryd.prog.info? 50).map (fun i => (i.zero, i.size, i.bytes)) = some (some (.agg #[.string ⟨#[]⟩, .int .u8 0, .string ⟨#[]⟩, .slice none 0 0, .bool false, .int .u8 0, .int .u8 0, .int .i32 0, .string ⟨#[]⟩, .slice none 0 0, .slice none 0 0, .int .i64 0, .int .i64 0, .int .i64 0, .int .i64 0]), 15, 176) := by kernel_rfl
abbrev varZ (nm : ByteArray) (tk : Nat) (tn : ByteArray) (ca : Option Addr) (cl cc : Nat) : Array Value := #[.string nm, .int .u8 tk, .string tn, .slice ca cl cc, .bool false, .int .u8 0, .int .u8 0, .int .i32 0, .string ⟨#[]⟩, .slice none 0 0, .slice none 0 0, .int .i64 0, .int .i64 0, .int .i64 0, .int .i64 0]
/-- a variable that was placed, at block g, offset o -/
def VarAt (w : World) (g o : Nat) (nm : ByteArray) (ca : Option Addr) (cl cc : Nat) : Prop := ∃ x y : Int, w.cell? ⟨g, o, none⟩ = some (.string nm) ∧ w.cell? ⟨g, o + 3, none⟩ = some (.slice ca cl cc) ∧ w.cell? ⟨g, o + 13, none⟩ = some (.int .i64 x) ∧ w.cell? ⟨g, o + 14, none⟩ = some (.int .i64 y)
def VarsPost (w : World) (c : Nat) (nm : ByteArray) (ca : Option Addr) (cl cc : Nat) (e : Ending) (w' : World) : Prop :=
  ∃ g cap, e = .returned (.slice (some ⟨g, 0, none⟩) 1 cap) ∧ w.heap.size ≤ g ∧ VarAt w' g 0 nm ca cl cc ∧ CtrAt w' c ∧ w.grownBy w' (some c)
theorem zeroP (w : World) (ok : Nat → Prop) : LaidP w ok (.mk 0 0 0 ⟨#[]⟩ [] [] 0 0) (zeroE).toList := by
  unfold LaidP
  exact ⟨by decide, by decide, by decide, by decide, by decide, none, 0, none, 0, Nat.le_refl _, Nat.le_refl _, rfl, fun i s hi => by simp at hi, by unfold LaidPK; trivial⟩
theorem sz_zero : sz (.mk 0 0 0 ⟨#[]⟩ [] [] 0 0) ≤ 1 := by decide

set_option maxRecDepth 100000 in
set_option maxHeartbeats 8000000 in
theorem vars_one (w : World) (c vb kk : Nat) (nm : ByteArray) (tk : Nat) (tn : ByteArray) (ca : Option Addr) (cl cc : Nat) (hv : Has w vb 50 (varZ nm tk tn ca cl cc)) (hC : CtrAt w c) (hne : vb ≠ c) :
    Calls Tryd.prog 20 #[.pointer (some ⟨c, 0, none⟩), .slice (some ⟨vb, 0, none⟩) 1 kk] w (VarsPost w c nm ca cl cc) := by
  have hcl := hC.lt
  have hvl := Has.lt hv
  obtain ⟨iv0, hvi, hv3⟩ := Option.map_eq_some_iff.1 var_info
  simp only [Prod.mk.injEq] at hv3
  obtain ⟨hvz, hvs, hvb⟩ := hv3
  have HVI := Lib.hid hvi
  have HVZ := Lib.hid hvz
  have HVS := Lib.hid hvs
  have HVB := Lib.hid hvb
  have a0 := hv.cell 0
  have a1 := hv.cell 1
  have a2 := hv.cell 2
  have a3 := hv.cell 3
  have a4 := hv.cell 4
  have a5 := hv.cell 5
  have a6 := hv.cell 6
  have a7 := hv.cell 7
  have a8 := hv.cell 8
  have a9 := hv.cell 9
  have a10 := hv.cell 10
  have a11 := hv.cell 11
  have a12 := hv.cell 12
  have a13 := hv.cell 13
  have a14 := hv.cell 14
  simp only [List.getElem?_toArray, List.getElem?_cons_zero, List.getElem?_cons_succ] at a0 a1 a2 a3 a4 a5 a6 a7 a8 a9 a10 a11 a12 a13 a14
  obtain ⟨W0, hW0⟩ : ∃ W0, W0 = w.alloc (.cells #[.string nm, .int .u8 tk, .string tn, .slice ca cl cc, .bool false, .int .u8 0, .int .u8 0, .int .i32 0, .string ⟨#[]⟩, .slice none 0 0, .slice none 0 0, .int .i64 0, .int .i64 0, .int .i64 0, .int .i64 0] 50) := ⟨_, rfl⟩
  have hb0 : Below w.heap.size w W0 := by subst hW0; exact (Below.refl _ w).alloc (Nat.le_refl _) _
  have HB0 : Hid (Has W0 w.heap.size 50 #[.string nm, .int .u8 tk, .string tn, .slice ca cl cc, .bool false, .int .u8 0, .int .u8 0, .int .i32 0, .string ⟨#[]⟩, .slice none 0 0, .slice none 0 0, .int .i64 0, .int .i64 0, .int .i64 0, .int .i64 0]) := Lib.hid (by subst hW0; exact Has.new w _ _)
  have HN := Lib.hid (next_any W0 c (hC.below hb0))
  have HG0 : Hid (w.grownBy W0 (some c)) := Lib.hid (grown_below _ hb0)
  have HW0 := Lib.hid hW0
  have HCL := Lib.hid hcl
  have HS0 : Hid (W0.heap.size = w.heap.size + 1) := Lib.hid (by rw [hW0]; simp)
  clear hvi hvz hvs hvb hv hC hb0 hW0 hcl hne
  unfold VarsPost
  go_enter Tryd.func20, Tryd.ntmps20
  go_wp2_with fail
  refine wp_loop_rounds 2 ?_
  rw [rounds_succ]
  go_wp2_with fail
  rw [← HW0.out]
  refine HN.out.mono ?_
  rintro e w1 ⟨px, rfl, hC1, hg1⟩
  have hcl := HCL.out
  have hB1 := HB0.out.grown hg1 (fun e => by injection e with e; omega)
  have hG1 := grown_trans HG0.out hg1
  have hs1 := hg1.size
  rw [HS0.out] at hs1
  obtain ⟨W1, hW1⟩ : ∃ W1, W1 = (w1.setCell ⟨w.heap.size, 13, none⟩ (.int .i64 px)).setCell ⟨w.heap.size, 14, none⟩ (.int .i64 1) := ⟨_, rfl⟩
  have hbut : But w1 W1 w.heap.size := by rw [hW1]; exact ((But.refl _ _).put 13 _).put 14 _
  have hB2 : Has W1 w.heap.size 50 #[.string nm, .int .u8 tk, .string tn, .slice ca cl cc, .bool false, .int .u8 0, .int .u8 0, .int .i32 0, .string ⟨#[]⟩, .slice none 0 0, .slice none 0 0, .int .i64 0, .int .i64 0, .int .i64 px, .int .i64 1] := by
    rw [hW1]
    have := (hB1.put 13 (.int .i64 px)).put 14 (.int .i64 1)
    simpa using this
  have fr := fun i => hB1.free i
  have b13 := hB1.cell 13
  have b14 := hB1.cell 14
  simp only [List.getElem?_toArray, List.getElem?_cons_zero, List.getElem?_cons_succ] at b13 b14
  have b5 := hB2.cell 5
  have b6 := hB2.cell 6
  have b7 := hB2.cell 7
  have b8 := hB2.cell 8
  have b9 := hB2.cell 9
  have b10 := hB2.cell 10
  have b11 := hB2.cell 11
  have b12 := hB2.cell 12
  simp only [List.getElem?_toArray, List.getElem?_cons_zero, List.getElem?_cons_succ] at b5 b6 b7 b8 b9 b10 b11 b12
  rw [hW1] at b5 b6 b7 b8 b9 b10 b11 b12
  have HX := Lib.hid (place_any 1 _ sz_zero W1 c (fun b => b ≠ c) zeroE (zeroP _ _) (fun b h => h) (hC1.but hbut (by omega)))
  have HB2 := Lib.hid hB2
  have HG1 : Hid (w.grownBy W1 (some c)) := Lib.hid (hbut.grown hG1 (Nat.le_refl _))
  have HS1 : Hid (w.heap.size + 1 ≤ W1.heap.size) := Lib.hid (by rw [hbut.1]; exact hs1)
  have HW1 := Lib.hid hW1
  clear hB1 hG1 hbut hB2 hW1 hC1 hg1 HN HG0 HB0 HS0 hcl hs1
  go_wp2_with fail
  rw [← HW1.out]
  refine HX.out.mono ?_
  rintro e w2 ⟨y, ycs, rfl, hy, hey, hC2, hg2⟩
  obtain ⟨yk, yo, yn, ynm, yna, ynl, ync, yka, ykl, ykc, yl, yc, rfl⟩ := hy.shape
  have hcl := HCL.out
  have hB3 := HB2.out.grown hg2 (fun e => by injection e with e; omega)
  have hG2 := grown_trans HG1.out hg2
  have hs2 := hg2.size
  have hs1 := HS1.out
  obtain ⟨W2, hW2⟩ : ∃ W2, W2 = ((((((((w2.setCell ⟨w.heap.size, 5, none⟩ (.int .u8 yk)).setCell ⟨w.heap.size, 6, none⟩ (.int .u8 yo)).setCell ⟨w.heap.size, 7, none⟩ (.int .i32 yn)).setCell ⟨w.heap.size, 8, none⟩ (.string ynm)).setCell ⟨w.heap.size, 9, none⟩ (.slice yna ynl ync)).setCell ⟨w.heap.size, 10, none⟩ (.slice yka ykl ykc)).setCell ⟨w.heap.size, 11, none⟩ (.int .i64 yl)).setCell ⟨w.heap.size, 12, none⟩ (.int .i64 yc)) := ⟨_, rfl⟩
  have hbut : But w2 W2 w.heap.size := by rw [hW2]; exact ((((((((But.refl _ _).put 5 _).put 6 _).put 7 _).put 8 _).put 9 _).put 10 _).put 11 _).put 12 _
  have hB4 : Has W2 w.heap.size 50 #[.string nm, .int .u8 tk, .string tn, .slice ca cl cc, .bool false, .int .u8 yk, .int .u8 yo, .int .i32 yn, .string ynm, .slice yna ynl ync, .slice yka ykl ykc, .int .i64 yl, .int .i64 yc, .int .i64 px, .int .i64 1] := by
    rw [hW2]
    have := ((((((((hB3.put 5 (.int .u8 yk)).put 6 (.int .u8 yo)).put 7 (.int .i32 yn)).put 8 (.string ynm)).put 9 (.slice yna ynl ync)).put 10 (.slice yka ykl ykc)).put 11 (.int .i64 yl)).put 12 (.int .i64 yc))
    simpa using this
  have fr2 := fun i => hB3.free i
  have e5 := hB3.cell 5
  have e6 := hB3.cell 6
  have e7 := hB3.cell 7
  have e8 := hB3.cell 8
  have e9 := hB3.cell 9
  have e10 := hB3.cell 10
  have e11 := hB3.cell 11
  have e12 := hB3.cell 12
  have jj0 := hB4.cell 0
  have jj1 := hB4.cell 1
  have jj2 := hB4.cell 2
  have jj3 := hB4.cell 3
  have jj4 := hB4.cell 4
  have jj5 := hB4.cell 5
  have jj6 := hB4.cell 6
  have jj7 := hB4.cell 7
  have jj8 := hB4.cell 8
  have jj9 := hB4.cell 9
  have jj10 := hB4.cell 10
  have jj11 := hB4.cell 11
  have jj12 := hB4.cell 12
  have jj13 := hB4.cell 13
  have jj14 := hB4.cell 14
  simp only [List.getElem?_toArray, List.getElem?_cons_zero, List.getElem?_cons_succ] at e5 e6 e7 e8 e9 e10 e11 e12 jj0 jj1 jj2 jj3 jj4 jj5 jj6 jj7 jj8 jj9 jj10 jj11 jj12 jj13 jj14
  rw [hW2] at jj0 jj1 jj2 jj3 jj4 jj5 jj6 jj7 jj8 jj9 jj10 jj11 jj12 jj13 jj14
  have HW2 := Lib.hid hW2
  have HB4 := Lib.hid hB4
  have HG2 : Hid (w.grownBy W2 (some c)) := Lib.hid (hbut.grown hG2 (Nat.le_refl _))
  have HS2 : Hid (w.heap.size + 1 ≤ W2.heap.size) := Lib.hid (by rw [hbut.1]; omega)
  have HSZ : Hid (w2.heap.size = W2.heap.size) := Lib.hid hbut.1.symm
  have HC2 : Hid (CtrAt W2 c) := Lib.hid (hC2.but hbut (by omega))
  have HC6 : Hid (w.heap.size + 1 ≤ (W2.alloc (.cells #[.string nm, .int .u8 tk, .string tn, .slice ca cl cc, .bool false, .int .u8 yk, .int .u8 yo, .int .i32 yn, .string ynm, .slice yna ynl ync, .slice yka ykl ykc, .int .i64 yl, .int .i64 yc, .int .i64 px, .int .i64 1] 50)).heap.size) := Lib.hid (by simp only [World.size_alloc]; have := HS2.out; omega)
  clear hB3 hG2 hbut hB4 hC2 hg2 HX hy hey hcl hs1 hs2 b13 b14 b5 b6 b7 b8 b9 b10 b11 b12 fr HB2
  go_wp2_with (at_builtin; rw [← HW2.out]; refine wpList_append_lies _ rfl _ _ 51 rfl (w.heap.size + 1) 50 iv0 _ 15 176 Tryd.underlying51 HVI.out HVZ.out HVS.out HVB.out rfl (by decide) (.slice none 0 0) 0 [] rfl (World.ownsRow_nil _ _ _ _) ⟨w2.heap.size, 0, none⟩ 1 1 [.string nm, .int .u8 tk, .string tn, .slice ca cl cc, .bool false, .int .u8 yk, .int .u8 yo, .int .i32 yn, .string ynm, .slice yna ynl ync, .slice yka ykl ykc, .int .i64 yl, .int .i64 yc, .int .i64 px, .int .i64 1] rfl rfl (news_of W2 [.string nm, .int .u8 tk, .string tn, .slice ca cl cc, .bool false, .int .u8 yk, .int .u8 yo, .int .i32 yn, .string ynm, .slice yna ynl ync, .slice yka ykl ykc, .int .i64 yl, .int .i64 yc, .int .i64 px, .int .i64 1] 50 _ HSZ.out) (by intro v hv; simp only [List.mem_cons, List.not_mem_nil, or_false] at hv; rcases hv with rfl | rfl | rfl | rfl | rfl | rfl | rfl | rfl | rfl | rfl | rfl | rfl | rfl | rfl | rfl <;> rfl) (by decide) (by decide) (by decide) HC6.out _ rfl ?_; intro g3 cap3 w3 hown3 hgr3 hg3 hlt3; have HOWN := Lib.hid hown3; have HGR := Lib.hid hgr3; clear hown3 hgr3 hg3 hlt3)
  clear jj0 jj1 jj2 jj3 jj4 jj5 jj6 jj7 jj8 jj9 jj10 jj11 jj12 jj13 jj14 e5 e6 e7 e8 e9 e10 e11 e12 a0 a1 a2 a3 a4 a5 a6 a7 a8 a9 a10 a11 a12 a13 a14 fr2
  rw [rounds_succ]
  go_wp2_with fail
  go_ret
  have hgr := HGR.out
  have hG : w.grownBy w3 (some c) := by
    have h2 := grown_alloc HG2.out (.cells #[.string nm, .int .u8 tk, .string tn, .slice ca cl cc, .bool false, .int .u8 yk, .int .u8 yo, .int .i32 yn, .string ynm, .slice yna ynl ync, .slice yka ykl ykc, .int .i64 yl, .int .i64 yc, .int .i64 px, .int .i64 1] 50)
    refine ⟨hgr.os.trans h2.os, hgr.tape.trans h2.tape, hgr.output.trans h2.output, Nat.le_trans h2.size hgr.size, fun k hk hne => (hgr.block k (Nat.lt_of_lt_of_le hk h2.size) (by simp [Value.ownBlock])).trans (h2.block k hk hne)⟩
  have hC : CtrAt w3 c := by
    obtain ⟨n, hn⟩ := HC2.out
    exact ⟨n, (hn.alloc _).grown hgr (by simp [Value.ownBlock])⟩
  obtain ⟨a, cap, e, _, _, hcell⟩ := owned_cells HOWN.out
  have e' := e
  simp only [Value.slice.injEq] at e'
  obtain ⟨rfl, -, rfl⟩ := e'
  have hat : ∀ k u, ([.string nm, .int .u8 tk, .string tn, .slice ca cl cc, .bool false, .int .u8 yk, .int .u8 yo, .int .i32 yn, .string ynm, .slice yna ynl ync, .slice yka ykl ykc, .int .i64 yl, .int .i64 yc, .int .i64 px, .int .i64 1] : List Value)[k]? = some u → w.heap.size + 1 ≤ g3 ∧ w3.cell? ⟨g3, k, none⟩ = some u := fun k u hk => by
    obtain ⟨g, eg, hle, hcl⟩ := hcell k u (by simpa using hk)
    simp only [Option.some.injEq, Addr.mk.injEq, and_true] at eg
    subst eg
    exact ⟨hle, hcl⟩
  have hle := (hat 0 _ rfl).1
  exact ⟨g3, cap3, rfl, by omega, ⟨_, _, (hat 0 _ rfl).2, (hat 3 _ rfl).2, (hat 13 _ rfl).2, (hat 14 _ rfl).2⟩, hC, hG⟩
end Go.Proofs.YtfmkicagpcmpnaaDoor.ck
