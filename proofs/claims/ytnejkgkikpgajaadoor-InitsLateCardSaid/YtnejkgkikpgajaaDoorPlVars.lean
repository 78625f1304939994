/-
  The places of a row of variables, as the reference lays them: the counter's vars.
-/
import Derived.Test.YtnejkgkikpgajaaDoorPlKept
import Derived.LoopN
namespace Go.Proofs.YtnejkgkikpgajaaDoor.ck
open Go.ChangeShapes Go.WideShapes Go.ChangeAt Go.RowKit
open tr
set_option linter.unusedVariables false
set_option linter.unusedSimpArgs false

theorem var_info : (Tryd.prog.info? 54).map (fun i => (i.zero, i.size, i.bytes)) = some (some (.agg #[.string ⟨#[]⟩, .int .u8 0, .string ⟨#[]⟩, .slice none 0 0, .bool false, .int .u8 0, .int .u8 0, .int .i32 0, .string ⟨#[]⟩, .slice none 0 0, .slice none 0 0, .int .i64 0, .int .i64 0, .int .i64 0, .int .i64 0]), 15, 176) := by kernel_rfl
abbrev varZ (nm : ByteArray) (tk : Nat) (tn : ByteArray) (ca : Option Addr) (cl cc : Nat) : Array Value := #[.string nm, .int .u8 tk, .string tn, .slice ca cl cc, .bool false, .int .u8 0, .int .u8 0, .int .i32 0, .string ⟨#[]⟩, .slice none 0 0, .slice none 0 0, .int .i64 0, .int .i64 0, .int .i64 0, .int .i64 0]
/-- a variable: its name, its type, its clock -/
structure Vd where
  nm : ByteArray
  tk : Nat
  tn : ByteArray
  ca : Option Addr
  cl : Nat
  cc : Nat
abbrev vcells (q : Vd) (ecs : List Value) (x y : Int) : List Value := [.string q.nm, .int .u8 q.tk, .string q.tn, .slice q.ca q.cl q.cc, .bool false] ++ ecs ++ [.int .i64 x, .int .i64 y]
/-- the cells of some expression, by their kinds -/
def KindsE (ecs : List Value) : Prop := ∃ (yk yo : Nat) (yn : Int) (ynm : ByteArray) (yna : Option Addr) (ynl ync : Nat) (yka : Option Addr) (ykl ykc : Nat) (yl yc : Int), ecs = [.int .u8 yk, .int .u8 yo, .int .i32 yn, .string ynm, .slice yna ynl ync, .slice yka ykl ykc, .int .i64 yl, .int .i64 yc]
def CellsV : List Vd → List Value → Prop
  | [], xs => xs = []
  | q :: r, xs => ∃ ecs ys x y, xs = vcells q ecs x y ++ ys ∧ KindsE ecs ∧ CellsV r ys
theorem CellsV.app : ∀ {L M : List Vd} {xs ys : List Value}, CellsV L xs → CellsV M ys → CellsV (L ++ M) (xs ++ ys)
  | [], _, _, _, h, k => by rw [CellsV] at h; rw [h]; exact k
  | x :: r, _, _, _, ⟨ecs, zs, a, b, e, h1, h2⟩, k => ⟨ecs, zs ++ _, a, b, by rw [e, List.append_assoc], h1, h2.app k⟩
/-- a variable that was placed, at block g, offset o -/
def VarAt (w : World) (g o : Nat) (nm : ByteArray) (ca : Option Addr) (cl cc : Nat) : Prop := ∃ (tk : Nat) (tn : ByteArray) (ecs : List Value) (x y : Int), KindsE ecs ∧ ∀ (k : Nat) (u : Value), (vcells ⟨nm, tk, tn, ca, cl, cc⟩ ecs x y)[k]? = some u → w.cell? ⟨g, o + k, none⟩ = some u
theorem VarAt.four {w : World} {g o : Nat} {nm : ByteArray} {ca : Option Addr} {cl cc : Nat} (h : VarAt w g o nm ca cl cc) : ∃ x y : Int, w.cell? ⟨g, o, none⟩ = some (.string nm) ∧ w.cell? ⟨g, o + 3, none⟩ = some (.slice ca cl cc) ∧ w.cell? ⟨g, o + 13, none⟩ = some (.int .i64 x) ∧ w.cell? ⟨g, o + 14, none⟩ = some (.int .i64 y) := by
  obtain ⟨tk, tn, ecs, x, y, ⟨yk, yo, yn, ynm, yna, ynl, ync, yka, ykl, ykc, yl, yc, rfl⟩, h⟩ := h
  exact ⟨x, y, h 0 _ rfl, h 3 _ rfl, h 13 _ rfl, h 14 _ rfl⟩
theorem CellsV.at_ {w : World} {g : Nat} : ∀ {L : List Vd} {xs : List Value} (o : Nat), CellsV L xs → (∀ k u, xs[k]? = some u → w.cell? ⟨g, o + k, none⟩ = some u) → ∀ i (hi : i < L.length), VarAt w g (o + i * 15) L[i].nm L[i].ca L[i].cl L[i].cc
  | [], _, _, _, _, i, hi => by simp at hi
  | q :: r, _, o, ⟨ecs, ys, a, b, e, h1, h2⟩, hc, i, hi => by
    have hl : (vcells q ecs a b).length = 15 := by obtain ⟨_, _, _, _, _, _, _, _, _, _, _, _, rfl⟩ := h1; rfl
    cases i with
    | zero =>
      refine ⟨q.tk, q.tn, ecs, a, b, h1, fun k v hk => ?_⟩
      rw [show o + 0 * 15 + k = o + k by omega]
      refine hc k v ?_
      have hk' : (vcells q ecs a b)[k]? = some v := hk
      rw [e, List.getElem?_append_left (List.getElem?_eq_some_iff.1 hk').1]; exact hk'
    | succ i =>
      have := CellsV.at_ (o + 15) h2 (fun k u hk => by
        have := hc (15 + k) u (by rw [e, List.getElem?_append_right (by omega), hl]; simpa using hk)
        rw [show o + 15 + k = o + (15 + k) by omega]; exact this) i (by simpa using hi)
      rw [show o + (i + 1) * 15 = o + 15 + i * 15 by omega]
      exact this
def VarsPost (w : World) (c : Nat) (vs : List Vd) (e : Ending) (w' : World) : Prop :=
  ∃ (ga : Option Addr) (cap : Nat), e = .returned (.slice ga vs.length cap) ∧ (∀ i (hi : i < vs.length), ∃ g, ga = some ⟨g, 0, none⟩ ∧ w.heap.size ≤ g ∧ VarAt w' g (i * 15) vs[i].nm vs[i].ca vs[i].cl vs[i].cc) ∧ CtrAt w' c ∧ w.grownBy w' (some c)
/-- a row of variables as a law makes it -/
def VarsIn (w : World) (va : Option Addr) (vs : List Vd) : Prop := ∀ i (hi : i < vs.length), ∃ vb, va = some ⟨vb, 0, none⟩ ∧ ∀ k u, (vcells vs[i] [.int .u8 0, .int .u8 0, .int .i32 0, .string ⟨#[]⟩, .slice none 0 0, .slice none 0 0, .int .i64 0, .int .i64 0] 0 0)[k]? = some u → w.cell? ⟨vb, i * 15 + k, none⟩ = some u
theorem VarsIn.one {w : World} {vb : Nat} {q : Vd} (h : Has w vb 54 (varZ q.nm q.tk q.tn q.ca q.cl q.cc)) : VarsIn w (some ⟨vb, 0, none⟩) [q] := fun i hi => by
  have hi : i = 0 := by simpa using hi
  subst hi
  exact ⟨vb, rfl, fun k u hk => by rw [Nat.zero_mul, Nat.zero_add]; have e : (varZ q.nm q.tk q.tn q.ca q.cl q.cc) = (vcells q [.int .u8 0, .int .u8 0, .int .i32 0, .string ⟨#[]⟩, .slice none 0 0, .slice none 0 0, .int .i64 0, .int .i64 0] 0 0).toArray := rfl; rw [h.cell k, e, List.getElem?_toArray]; exact hk⟩
theorem VarsIn.none (w : World) (a : Option Addr) : VarsIn w a [] := fun i hi => by simp at hi
theorem VarsIn.below {w w' : World} {va : Option Addr} {vs : List Vd} (h : VarsIn w va vs) (hb : Below w.heap.size w w') : VarsIn w' va vs := fun i hi => by
  obtain ⟨vb, e, hc⟩ := h i hi
  exact ⟨vb, e, fun k u hk => (hb.cell (p := ⟨vb, i * 15 + k, Option.none⟩) (World.block_lt_of_cell? w _ (hc k u hk))).trans (hc k u hk)⟩
def VlAt (w : World) (c : Nat) (vs : List Vd) (j : Nat) (v : Value) (W : World) : Prop :=
  Kp [c] w W ∧ CtrAt W c ∧ ∃ xs : List Value, W.ownsRow w.heap.size 54 15 v j xs ∧ CellsV (vs.take j) xs
theorem Kp.toG {w w' : World} {c : Nat} (h : Kp [c] w w') : w.grownBy w' (some c) :=
  ⟨h.os, h.tape, h.output, h.size, fun k hk hn => h.block k hk (fun hm => hn (by simp only [List.mem_cons, List.not_mem_nil, or_false] at hm; rw [hm]))⟩
theorem VlAt.step {w W3 w3 : World} {c : Nat} {vs : List Vd} {v : Value} {j : Nat} {xs : List Value} {Wj : World} {ecs : List Value} {px py : Int} {g3 cap3 : Nat} (hcb : c < w.heap.size) (hj : j < vs.length)
    (ho : Wj.ownsRow w.heap.size 54 15 v j xs) (hc : CellsV (vs.take j) xs) (hC : CtrAt W3 c) (hK : Kp [c] w W3) (hke : KindsE ecs)
    (ho3 : w3.ownsRow w.heap.size 54 15 (.slice (some ⟨g3, 0, none⟩) (j + 1) cap3) (j + 1) (xs ++ vcells vs[j] ecs px py)) (hg3 : (W3.alloc (.cells (vcells vs[j] ecs px py).toArray 54)).grownBy w3 v.ownBlock) :
    VlAt w c vs (j + 1) (.slice (some ⟨g3, 0, none⟩) (j + 1) cap3) w3 := by
  have nc : v.ownBlock ≠ some c := own_ge ho hcb
  refine ⟨(hK.alloc _).grownRow hg3 (fun k hk => (ho.lt k hk).1), ?_, xs ++ vcells vs[j] ecs px py, ho3, ?_⟩
  · obtain ⟨n, hn⟩ := hC
    exact ⟨n, (hn.alloc _).grown hg3 (fun e => nc e.symm)⟩
  · rw [show vs.take (j + 1) = vs.take j ++ [vs[j]] from List.take_succ_eq_append_getElem hj]
    exact hc.app ⟨ecs, [], px, py, by simp, hke, rfl⟩
theorem zeroP (w : World) (ok : Nat → Prop) : LaidP w ok (.mk 0 0 0 ⟨#[]⟩ [] [] 0 0) (zeroE).toList := by
  unfold LaidP
  exact ⟨by decide, by decide, by decide, by decide, by decide, none, 0, none, 0, Nat.le_refl _, Nat.le_refl _, rfl, fun i s hi => by simp at hi, by unfold LaidPK; trivial⟩
theorem sz_zero : sz (.mk 0 0 0 ⟨#[]⟩ [] [] 0 0) ≤ 1 := by decide

set_option maxRecDepth 100000 in
set_option maxHeartbeats 8000000 in
theorem vars_any (w : World) (c : Nat) (va : Option Addr) (kk : Nat) (vs : List Vd) (hv : VarsIn w va vs) (hne : ∀ b, va = some ⟨b, 0, none⟩ → b ≠ c) (hl : vs.length ≤ 1000) (hC : CtrAt w c) :
    Calls Tryd.prog 29 #[.pointer (some ⟨c, 0, none⟩), .slice va vs.length kk] w (VarsPost w c vs) := by
  have hcl := hC.lt
  obtain ⟨iv0, hvi, hv3⟩ := Option.map_eq_some_iff.1 var_info
  simp only [Prod.mk.injEq] at hv3
  obtain ⟨hvz, hvs, hvb⟩ := hv3
  have HVI := Lib.hid hvi
  have HVZ := Lib.hid hvz
  have HVS := Lib.hid hvs
  have HVB := Lib.hid hvb
  have HV := Lib.hid hv
  have HNE := Lib.hid hne
  have HCL := Lib.hid hcl
  have H0 : Hid (VlAt w c vs 0 (.slice none 0 0) w) := Lib.hid ⟨Kp.refl _ _, hC, [], World.ownsRow_nil _ _ _ _, rfl⟩
  clear hvi hvz hvs hvb hv hne hC hcl
  unfold VarsPost
  go_enter Tryd.func29, Tryd.ntmps29
  go_wp2_with fail
  go_loopw [5, 6] (fun mv iv wr => ∃ (j : Nat) (v : Value), j ≤ vs.length ∧ v = mv ∧ iv = .int .i64 j ∧ Hid (VlAt w c vs j v wr)) (fun _ iv _ => vs.length - (intOf iv).toNat)
  case atStart => exact ⟨0, _, by omega, rfl, rfl, H0⟩
  case round =>
    obtain ⟨j, v, hj, rfl, rfl, HR⟩ := hrel
    clear H0
    by_cases hlt : j < vs.length
    · obtain ⟨q1, q2, xs, q4, q5⟩ := HR.out
      obtain ⟨q, hqq⟩ : ∃ q, q = vs[j] := ⟨_, rfl⟩
      obtain ⟨vb, rfl, hec⟩ := HV.out j hlt
      rw [← hqq] at hec
      have hvc := HNE.out vb rfl
      have hcl := HCL.out
      have hqk : ∀ (k : Nat) (u : Value), ([.string q.nm, .int .u8 q.tk, .string q.tn, .slice q.ca q.cl q.cc, .bool false, .int .u8 0, .int .u8 0, .int .i32 0, .string ⟨#[]⟩, .slice none 0 0, .slice none 0 0, .int .i64 0, .int .i64 0, .int .i64 0, .int .i64 0] : List Value)[k]? = some u → wr.cell? ⟨vb, j * 15 + k, none⟩ = some u := fun k u hk => by
        have h0 := hec k u hk
        exact q1.cell (by simp only [List.mem_cons, List.not_mem_nil, or_false]; omega) h0
      have a0 := hqk 0 _ rfl
      have a1 := hqk 1 _ rfl
      have a2 := hqk 2 _ rfl
      have a3 := hqk 3 _ rfl
      have a4 := hqk 4 _ rfl
      have a5 := hqk 5 _ rfl
      have a6 := hqk 6 _ rfl
      have a7 := hqk 7 _ rfl
      have a8 := hqk 8 _ rfl
      have a9 := hqk 9 _ rfl
      have a10 := hqk 10 _ rfl
      have a11 := hqk 11 _ rfl
      have a12 := hqk 12 _ rfl
      have a13 := hqk 13 _ rfl
      have a14 := hqk 14 _ rfl
      rw [Nat.add_zero] at a0
      have i0 : (0 : Int) ≤ (j : Int) := Int.natCast_nonneg _
      have i1 : (j : Int) < (vs.length : Int) := by omega
      obtain ⟨A0, hA0⟩ : ∃ A0, A0 = wr.alloc (.cells #[.string q.nm, .int .u8 q.tk, .string q.tn, .slice q.ca q.cl q.cc, .bool false, .int .u8 0, .int .u8 0, .int .i32 0, .string ⟨#[]⟩, .slice none 0 0, .slice none 0 0, .int .i64 0, .int .i64 0, .int .i64 0, .int .i64 0] 54) := ⟨_, rfl⟩
      have hb0 : Below wr.heap.size wr A0 := by subst hA0; exact (Below.refl _ wr).alloc (Nat.le_refl _) _
      have HV0 : Hid (Has A0 wr.heap.size 54 #[.string q.nm, .int .u8 q.tk, .string q.tn, .slice q.ca q.cl q.cc, .bool false, .int .u8 0, .int .u8 0, .int .i32 0, .string ⟨#[]⟩, .slice none 0 0, .slice none 0 0, .int .i64 0, .int .i64 0, .int .i64 0, .int .i64 0]) := Lib.hid (by subst hA0; exact Has.new wr _ _)
      have HSA : Hid (A0.heap.size = wr.heap.size + 1) := Lib.hid (by subst hA0; simp)
      have HN := Lib.hid (next_any A0 c (q2.below hb0))
      have HB0 := Lib.hid hb0
      have HA0 := Lib.hid hA0
      have H1 := Lib.hid q1
      have H4 := Lib.hid q4
      have H5 := Lib.hid q5
      have HQQ := Lib.hid hqq
      have hkb : w.heap.size ≤ wr.heap.size := q1.size
      have HKB := Lib.hid hkb
      clear q1 q2 q4 q5 hec hqk hA0 hb0 HR hqq hkb hcl hvc
      go_wp2_with fail
      rw [← HA0.out]
      refine HN.out.mono ?_
      rintro e x1 ⟨px, rfl, hC1, hg1⟩
      have hcl := HCL.out
      have hkb := HKB.out
      have hs1 := hg1.size
      rw [HSA.out] at hs1
      have hv1 := HV0.out.grown hg1 (fun e => by injection e with e; omega)
      obtain ⟨A1, hA1⟩ : ∃ A1, A1 = ((x1.setCell ⟨wr.heap.size, 13, none⟩ (.int .i64 px)).setCell ⟨wr.heap.size, 14, none⟩ (.int .i64 1)) := ⟨_, rfl⟩
      have hbu1 : But x1 A1 wr.heap.size := by rw [hA1]; exact ((But.refl _ _).put 13 _).put 14 _
      have hv2 : Has A1 wr.heap.size 54 #[.string q.nm, .int .u8 q.tk, .string q.tn, .slice q.ca q.cl q.cc, .bool false, .int .u8 0, .int .u8 0, .int .i32 0, .string ⟨#[]⟩, .slice none 0 0, .slice none 0 0, .int .i64 0, .int .i64 0, .int .i64 px, .int .i64 1] := by
        rw [hA1]
        have := ((hv1.put 13 (.int .i64 px)).put 14 (.int .i64 1))
        simpa using this
      have fr := fun i => hv1.free i
      have b13 := hv1.cell 13
      have b14 := hv1.cell 14
      have b5 := hv2.cell 5
      have b6 := hv2.cell 6
      have b7 := hv2.cell 7
      have b8 := hv2.cell 8
      have b9 := hv2.cell 9
      have b10 := hv2.cell 10
      have b11 := hv2.cell 11
      have b12 := hv2.cell 12
      simp only [List.getElem?_toArray, List.getElem?_cons_zero, List.getElem?_cons_succ] at b5 b6 b7 b8 b9 b10 b11 b12 b13 b14
      rw [hA1] at b5 b6 b7 b8 b9 b10 b11 b12
      have hA01 : wr.grownBy A1 (some c) := hbu1.grown (grown_trans (grown_below _ HB0.out) hg1) (Nat.le_refl _)
      have HXX := Lib.hid (place_any 1 _ sz_zero A1 c (fun b => b ≠ c) zeroE (zeroP _ _) (fun b h => h) (hC1.but hbu1 (by omega)))
      have HV2 := Lib.hid hv2
      have H01 := Lib.hid hA01
      have HS1 : Hid (wr.heap.size + 1 ≤ A1.heap.size) := Lib.hid (by rw [hbu1.1]; exact hs1)
      have HA1 := Lib.hid hA1
      clear hv1 hv2 hbu1 hA1 hC1 hg1 hcl hs1 hA01 HN HV0 HSA hkb
      go_wp2_with fail
      rw [← HA1.out]
      refine HXX.out.mono ?_
      rintro e x2 ⟨y, ycs, rfl, hy, hey, hC2, hg2⟩
      obtain ⟨yk, yo, yn, ynm, yna, ynl, ync, yka, ykl, ykc, yl, yc, rfl⟩ := hy.shape
      have hcl := HCL.out
      have hkb := HKB.out
      have hs1 := HS1.out
      have hs2 := hg2.size
      have hv3 := HV2.out.grown hg2 (fun e => by injection e with e; omega)
      have h02 := grown_trans H01.out hg2
      obtain ⟨A2, hA2⟩ : ∃ A2, A2 = ((((((((x2.setCell ⟨wr.heap.size, 5, none⟩ (.int .u8 yk)).setCell ⟨wr.heap.size, 6, none⟩ (.int .u8 yo)).setCell ⟨wr.heap.size, 7, none⟩ (.int .i32 yn)).setCell ⟨wr.heap.size, 8, none⟩ (.string ynm)).setCell ⟨wr.heap.size, 9, none⟩ (.slice yna ynl ync)).setCell ⟨wr.heap.size, 10, none⟩ (.slice yka ykl ykc)).setCell ⟨wr.heap.size, 11, none⟩ (.int .i64 yl)).setCell ⟨wr.heap.size, 12, none⟩ (.int .i64 yc)) := ⟨_, rfl⟩
      have hbu2 : But x2 A2 wr.heap.size := by rw [hA2]; exact ((((((((But.refl _ _).put 5 _).put 6 _).put 7 _).put 8 _).put 9 _).put 10 _).put 11 _).put 12 _
      have hv4 : Has A2 wr.heap.size 54 #[.string q.nm, .int .u8 q.tk, .string q.tn, .slice q.ca q.cl q.cc, .bool false, .int .u8 yk, .int .u8 yo, .int .i32 yn, .string ynm, .slice yna ynl ync, .slice yka ykl ykc, .int .i64 yl, .int .i64 yc, .int .i64 px, .int .i64 1] := by
        rw [hA2]
        have := ((((((((hv3.put 5 (.int .u8 yk)).put 6 (.int .u8 yo)).put 7 (.int .i32 yn)).put 8 (.string ynm)).put 9 (.slice yna ynl ync)).put 10 (.slice yka ykl ykc)).put 11 (.int .i64 yl)).put 12 (.int .i64 yc))
        simpa using this
      have fr2 := fun i => hv3.free i
      have e5 := hv3.cell 5
      have e6 := hv3.cell 6
      have e7 := hv3.cell 7
      have e8 := hv3.cell 8
      have e9 := hv3.cell 9
      have e10 := hv3.cell 10
      have e11 := hv3.cell 11
      have e12 := hv3.cell 12
      have jj0 := hv4.cell 0
      have jj1 := hv4.cell 1
      have jj2 := hv4.cell 2
      have jj3 := hv4.cell 3
      have jj4 := hv4.cell 4
      have jj5 := hv4.cell 5
      have jj6 := hv4.cell 6
      have jj7 := hv4.cell 7
      have jj8 := hv4.cell 8
      have jj9 := hv4.cell 9
      have jj10 := hv4.cell 10
      have jj11 := hv4.cell 11
      have jj12 := hv4.cell 12
      have jj13 := hv4.cell 13
      have jj14 := hv4.cell 14
      simp only [List.getElem?_toArray, List.getElem?_cons_zero, List.getElem?_cons_succ] at e5 e6 e7 e8 e9 e10 e11 e12 jj0 jj1 jj2 jj3 jj4 jj5 jj6 jj7 jj8 jj9 jj10 jj11 jj12 jj13 jj14
      rw [hA2] at jj0 jj1 jj2 jj3 jj4 jj5 jj6 jj7 jj8 jj9 jj10 jj11 jj12 jj13 jj14
      have hR4 : A2.ownsRow w.heap.size 54 15 v j xs := hbu2.row (row_grown H4.out h02 (by omega)) (fun e => by have := (H4.out.lt _ e).2; omega)
      have hK4 : Kp [c] w A2 := (H1.out.grown h02 (.inl (by simp))).but hbu2 (.inr hkb)
      have hC4 : CtrAt A2 c := hC2.but hbu2 (by omega)
      have HST : Hid (∀ (w3 : World) (g3 cap3 : Nat), w3.ownsRow w.heap.size 54 15 (.slice (some ⟨g3, 0, none⟩) (j + 1) cap3) (j + 1) (xs ++ [.string q.nm, .int .u8 q.tk, .string q.tn, .slice q.ca q.cl q.cc, .bool false, .int .u8 yk, .int .u8 yo, .int .i32 yn, .string ynm, .slice yna ynl ync, .slice yka ykl ykc, .int .i64 yl, .int .i64 yc, .int .i64 px, .int .i64 1]) → (A2.alloc (.cells #[.string q.nm, .int .u8 q.tk, .string q.tn, .slice q.ca q.cl q.cc, .bool false, .int .u8 yk, .int .u8 yo, .int .i32 yn, .string ynm, .slice yna ynl ync, .slice yka ykl ykc, .int .i64 yl, .int .i64 yc, .int .i64 px, .int .i64 1] 54)).grownBy w3 v.ownBlock → VlAt w c vs (j + 1) (.slice (some ⟨g3, 0, none⟩) (j + 1) cap3) w3) := Lib.hid (fun w3 g3 cap3 p1 p2 =>
        VlAt.step (W3 := A2) (Wj := wr) (ecs := [.int .u8 yk, .int .u8 yo, .int .i32 yn, .string ynm, .slice yna ynl ync, .slice yka ykl ykc, .int .i64 yl, .int .i64 yc]) (px := px) (py := 1) hcl hlt H4.out H5.out hC4 hK4 ⟨_, _, _, _, _, _, _, _, _, _, _, _, rfl⟩ (by rw [← HQQ.out]; exact p1) (by rw [← HQQ.out]; exact p2))
      have HR4 := Lib.hid hR4
      have HSZ : Hid (x2.heap.size = A2.heap.size) := Lib.hid hbu2.1.symm
      have HA2 := Lib.hid hA2
      have HC3 : Hid (j + 1 ≤ maxLen) := Lib.hid (by unfold maxLen; omega)
      have HC4 : Hid ((j + 1) * 176 ≤ 140737488355328) := Lib.hid (by omega)
      have HC6 : Hid (w.heap.size ≤ (A2.alloc (.cells #[.string q.nm, .int .u8 q.tk, .string q.tn, .slice q.ca q.cl q.cc, .bool false, .int .u8 yk, .int .u8 yo, .int .i32 yn, .string ynm, .slice yna ynl ync, .slice yka ykl ykc, .int .i64 yl, .int .i64 yc, .int .i64 px, .int .i64 1] 54)).heap.size) := Lib.hid (by simp only [World.size_alloc]; rw [hbu2.1]; omega)
      clear hv3 hv4 hbu2 hA2 hC2 hg2 hy hey hcl hs1 hs2 hkb h02 hR4 hK4 hC4 b13 b14 b5 b6 b7 b8 b9 b10 b11 b12 fr HXX HV2 
      go_wp2_with (at_builtin; rw [← HA2.out]; refine wpList_append_lies _ rfl _ _ 42 rfl w.heap.size 54 iv0 _ 15 176 Tryd.underlying42 HVI.out HVZ.out HVS.out HVB.out rfl (by decide) v j xs rfl (row_alloc HR4.out _) ⟨x2.heap.size, 0, none⟩ 1 1 [.string q.nm, .int .u8 q.tk, .string q.tn, .slice q.ca q.cl q.cc, .bool false, .int .u8 yk, .int .u8 yo, .int .i32 yn, .string ynm, .slice yna ynl ync, .slice yka ykl ykc, .int .i64 yl, .int .i64 yc, .int .i64 px, .int .i64 1] rfl rfl (news_of A2 [.string q.nm, .int .u8 q.tk, .string q.tn, .slice q.ca q.cl q.cc, .bool false, .int .u8 yk, .int .u8 yo, .int .i32 yn, .string ynm, .slice yna ynl ync, .slice yka ykl ykc, .int .i64 yl, .int .i64 yc, .int .i64 px, .int .i64 1] 54 _ HSZ.out) (by intro v hv; simp only [List.mem_cons, List.not_mem_nil, or_false] at hv; rcases hv with rfl | rfl | rfl | rfl | rfl | rfl | rfl | rfl | rfl | rfl | rfl | rfl | rfl | rfl | rfl <;> rfl) (by decide) HC3.out HC4.out HC6.out _ rfl ?_; intro g3 cap3 w3 hown3 hgr3 hg3 hlt3; have HQN := Lib.hid (HST.out w3 g3 cap3 hown3 hgr3); clear hown3 hgr3 hg3 hlt3; clear jj0 jj1 jj2 jj3 jj4 jj5 jj6 jj7 jj8 jj9 jj10 jj11 jj12 jj13 jj14 e5 e6 e7 e8 e9 e10 e11 e12 a0 a1 a2 a3 a4 a5 a6 a7 a8 a9 a10 a11 a12 a13 a14 fr2)
      go_roundw
      case rel => exact ⟨j + 1, _, by omega, rfl, by go_num, HQN⟩
      case measure => simp [intOf]; omega
    · obtain rfl : j = vs.length := by omega
      obtain ⟨q1, q2, xs, q4, q5⟩ := HR.out
      rw [List.take_length] at q5
      obtain ⟨qa, qc, hve, hqc0, hq0, hqcell⟩ := owned_cells q4
      subst hve
      have HP : Hid ((∀ i (hi : i < vs.length), ∃ g, qa = some ⟨g, 0, none⟩ ∧ w.heap.size ≤ g ∧ VarAt wr g (i * 15) vs[i].nm vs[i].ca vs[i].cl vs[i].cc) ∧ CtrAt wr c ∧ w.grownBy wr (some c)) := Lib.hid ⟨fun i hi => by
        have hx15 : 0 < xs.length := by have := q4.1; omega
        obtain ⟨gg, eg, hge, _⟩ := hqcell 0 xs[0] (List.getElem?_eq_getElem hx15)
        refine ⟨gg, eg, hge, ?_⟩
        have := CellsV.at_ (w := wr) (g := gg) 0 q5 (fun k u hk => by
          obtain ⟨g', eg', _, hc⟩ := hqcell k u hk
          rw [eg] at eg'
          simp only [Option.some.injEq, Addr.mk.injEq, and_true] at eg'
          subst eg'
          rw [Nat.zero_add]; exact hc) i hi
        rw [Nat.zero_add] at this
        exact this, q2, q1.toG⟩
      clear q1 q2 q4 q5 hqc0 hq0 hqcell HR
      go_wp2_with fail
      go_ret
      exact ⟨qa, qc, rfl, HP.out⟩
end Go.Proofs.YtnejkgkikpgajaaDoor.ck
