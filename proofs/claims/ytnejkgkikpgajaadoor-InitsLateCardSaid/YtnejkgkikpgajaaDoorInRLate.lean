/-
  The document's own Late at a block of definitions.
-/
import Derived.Test.YtnejkgkikpgajaaDoorInLateFn
namespace Go.Proofs.YtnejkgkikpgajaaDoor.ini
open Go.ChangeShapes Go.WideShapes Go.ChangeAt Go.RowKit
open tr ck Go.Sort
set_option linter.unusedVariables false
set_option linter.unusedSimpArgs false

/-- a definition of one variable with all its cells, at block qb, offset qo -/
def EqF (w : World) (qb qo : Nat) (q : Eqn) : Prop :=
  ∃ (lb lc : Nat) (ek eo : Nat) (en : Int) (enm : ByteArray) (ena : Option Addr) (enl enc : Nat) (eka : Option Addr) (ekl ekc : Nat) (el ecl : Int) (x y : Int),
    LaidC w q.2 [.int .u8 ek, .int .u8 eo, .int .i32 en, .string enm, .slice ena enl enc, .slice eka ekl ekc, .int .i64 el, .int .i64 ecl] ∧ w.cell? ⟨lb, 0, none⟩ = some (.string q.1) ∧
    ∀ (k : Nat) (u : Value), ([.int .u8 1, .slice (some ⟨lb, 0, none⟩) 1 lc, .string ⟨#[]⟩, .slice none 0 0, .bool false, .int .u8 ek, .int .u8 eo, .int .i32 en, .string enm, .slice ena enl enc, .slice eka ekl ekc, .int .i64 el, .int .i64 ecl, .slice none 0 0, .int .i64 x, .int .i64 y] : List Value)[k]? = some u → w.cell? ⟨qb, qo + k, none⟩ = some u
theorem EqF.in_ {w : World} {qb qo : Nat} {q : Eqn} (h : EqF w qb qo q) : EqIn w qb qo q := by
  obtain ⟨lb, lc, ek, eo, en, enm, ena, enl, enc, eka, ekl, ekc, el, ecl, x, y, h1, h2, h3⟩ := h
  refine ⟨h3 0 _ rfl, ⟨lb, 0, lc, h3 1 _ rfl, h2⟩, _, fun k u hk => ?_, h1⟩
  have hk8 : k < 8 := by have := (List.getElem?_eq_some_iff.1 hk).1; simpa using this
  have := h3 (5 + k) u (by
    rw [← hk]
    rcases (show k = 0 ∨ k = 1 ∨ k = 2 ∨ k = 3 ∨ k = 4 ∨ k = 5 ∨ k = 6 ∨ k = 7 by omega) with rfl | rfl | rfl | rfl | rfl | rfl | rfl | rfl <;> rfl)
  rw [show qo + 5 + k = qo + (5 + k) by omega]; exact this
/-- late so far: plainly -/
structure RI (own : List ByteArray) (All : List Eqn) (S : List ByteArray) : Prop where
  d : ∀ n ∈ S, n ∈ own ∧ ∀ X, Closed own All X → n ∈ X
  e : S.Nodup
theorem RI.add {own : List ByteArray} {All : List Eqn} {S : List ByteArray} {q : Eqn} (h : RI own All S) (hq : q ∈ All) (ho : q.1 ∈ own) (hn : q.1 ∉ S) (hl : lateB S q.2 = true) : RI own All (S ++ [q.1]) :=
  ⟨fun n hn' => by
    rcases List.mem_append.1 hn' with hn' | hn'
    · exact h.d n hn'
    · rw [List.mem_singleton] at hn'
      rw [hn']
      exact ⟨ho, fun X hX => hX q hq ho (late_mono (fun m hm => (h.d m hm).2 X hX) _ hl)⟩, by
    rw [List.nodup_append]
    exact ⟨h.e, by simp, fun a ha b hb => by rw [List.mem_singleton] at hb; rw [hb]; exact fun e => hn (e ▸ ha)⟩⟩
theorem RI.len {own : List ByteArray} {All : List Eqn} {S : List ByteArray} (h : RI own All S) : S.length ≤ own.length := nodup_le h.e (fun n hn => (h.d n hn).1)
theorem RI.least {own : List ByteArray} {All : List Eqn} {S : List ByteArray} (h : RI own All S) (hc : Closed own All S) : Least own All S := ⟨hc, fun T hT n hn => (h.d n hn).2 T hT, fun n hn => (h.d n hn).1, h.e⟩
/-- what both loops keep in memory -/
structure RM (w : World) (va : Option Addr) (cv : Nat) (own : List ByteArray) (qa : Option Addr) (qc : Nat) (All : List Eqn) (la : Option Addr) (lc : Nat) (S : List ByteArray) (W : World) : Prop where
  row : RowS W (w.heap.size + 1) la lc S
  nil : S = [] → la = none ∧ lc = 0
  box : Has W w.heap.size 45 #[.slice va own.length cv, .slice qa All.length qc]
  below : Below w.heap.size w W
/-- what the inner loop keeps, behind j of the definitions -/
structure RQ (w : World) (va : Option Addr) (cv : Nat) (own : List ByteArray) (qa : Option Addr) (qc : Nat) (All : List Eqn) (S S' : List ByteArray) (ag : Bool) (j : Nat) (la : Option Addr) (lc : Nat) (W : World) : Prop where
  rm : RM w va cv own qa qc All la lc S' W
  ri : RI own All S'
  le : S.length ≤ S'.length
  lt : ag = true → S.length < S'.length
  cl : ag = false → ∀ i (hi : i < All.length), i < j → All[i].1 ∈ own → lateB S' All[i].2 = true → All[i].1 ∈ S'
theorem RM.belowW {w W W' : World} {va : Option Addr} {cv : Nat} {own : List ByteArray} {qa : Option Addr} {qc : Nat} {All : List Eqn} {la : Option Addr} {lc : Nat} {S : List ByteArray} (h : RM w va cv own qa qc All la lc S W) (hb : Below W.heap.size W W') : RM w va cv own qa qc All la lc S W' :=
  ⟨⟨h.row.row.kept (grown_below none hb) (by by_cases e : (Value.slice la S.length lc).ownBlock = none; exact .inl e; exact .inr e)⟩, h.nil, h.box.below hb h.box.lt, h.below.trans (hb.mono h.below.size)⟩
theorem RM.la {w W : World} {va : Option Addr} {cv : Nat} {own : List ByteArray} {qa : Option Addr} {qc : Nat} {All : List Eqn} {la : Option Addr} {lc : Nat} {S : List ByteArray} (h : RM w va cv own qa qc All la lc S W) : (S = [] ∧ la = none ∧ lc = 0) ∨ (∃ g, la = some ⟨g, 0, none⟩ ∧ S.length ≤ lc ∧ 0 < S.length) := by
  by_cases hs : S = []
  · exact .inl ⟨hs, h.nil hs⟩
  · have hp : 0 < S.length := by cases S with | nil => exact absurd rfl hs | cons y r => simp
    rcases h.row.row.2 with ⟨_, h0⟩ | ⟨g, cap, cur, e, _, _, hc, _⟩
    · omega
    · simp only [Value.slice.injEq] at e
      obtain ⟨rfl, -, rfl⟩ := e
      exact .inr ⟨g, rfl, hc, hp⟩
theorem RQ.next {w W W' : World} {va : Option Addr} {cv : Nat} {own : List ByteArray} {qa : Option Addr} {qc : Nat} {All : List Eqn} {S S' : List ByteArray} {ag : Bool} {j : Nat} {la : Option Addr} {lc : Nat} (h : RQ w va cv own qa qc All S S' ag j la lc W) (hb : Below W.heap.size W W') (hj : j < All.length) (hc : All[j].1 ∈ own → lateB S' All[j].2 = true → All[j].1 ∈ S') : RQ w va cv own qa qc All S S' ag (j + 1) la lc W' :=
  ⟨h.rm.belowW hb, h.ri, h.le, h.lt, fun ha i hi hij => by
    by_cases e : i = j
    · subst e; exact hc
    · exact h.cl ha i hi (by omega)⟩
def RLatePost (w : World) (own : List ByteArray) (All : List Eqn) (e : Ending) (w' : World) : Prop :=
  ∃ S la lc, e = .returned (.slice la S.length lc) ∧ Least own All S ∧ RowS w' (w.heap.size + 1) la lc S ∧ Below w.heap.size w w'
set_option maxRecDepth 100000 in
set_option maxHeartbeats 16000000 in
theorem rlate_any (w : World) (va : Option Addr) (cv : Nat) (own : List ByteArray) (qa : Option Addr) (qc : Nat) (All : List Eqn) (hV : NamesV w va own) (hD : ∀ j (hj : j < All.length), ∃ qb, qa = some ⟨qb, 0, none⟩ ∧ EqF w qb (j * 16) All[j]) (hw : ∀ j (hj : j < All.length), wfE All[j].2 = true) (hl : own.length ≤ 1000) (hk : All.length ≤ 1000) (hne : ∀ n ∈ own, n.size ≤ maxLen) :
    Calls Tryd.prog 12 #[.slice none 0 0, .agg #[.slice va own.length cv, .slice qa All.length qc]] w (RLatePost w own All) := by
  obtain ⟨iv0, hvi, hv3⟩ := Option.map_eq_some_iff.1 str_info
  simp only [Prod.mk.injEq] at hv3
  obtain ⟨hvz, hvs, hvb⟩ := hv3
  have HVI := Lib.hid hvi
  have HVZ := Lib.hid hvz
  have HVS := Lib.hid hvs
  have HVB := Lib.hid hvb
  have HV := Lib.hid hV
  have HD := Lib.hid hD
  have HWF := Lib.hid hw
  have HNE := Lib.hid hne
  have H0 : Hid (RM w va cv own qa qc All none 0 [] (w.alloc (.cells #[.slice va own.length cv, .slice qa All.length qc] 45)) ∧ RI own All []) := Lib.hid ⟨⟨⟨World.ownsRow_nil _ _ _ _⟩, fun _ => ⟨rfl, rfl⟩, Has.new w _ _, (Below.refl _ w).alloc (Nat.le_refl _) _⟩, ⟨fun n hn => by simp at hn, by simp⟩⟩
  clear hvi hvz hvs hvb hV hD hw hne
  unfold RLatePost
  go_enter Tryd.func12, Tryd.ntmps12
  go_wp2_with fail
  refine wp_loop_rounds 1 ?_
  rw [rounds_succ]
  go_wp2_with fail
  go_loopg [5, 8] (own.length + 1) (fun k lv av wr => ∃ (S : List ByteArray) (ag : Bool) (la : Option Addr) (lc : Nat), (own.length - S.length) + (if ag then 1 else 0) ≤ k ∧ lv = .slice la S.length lc ∧ av = .bool ag ∧ Hid (RM w va cv own qa qc All la lc S wr ∧ RI own All S) ∧ Hid (ag = false → Closed own All S))
  case atStart => exact ⟨[], true, none, 0, by simp, rfl, rfl, H0, Lib.hid (fun h => by cases h)⟩
  case round =>
    obtain ⟨S, ag, la, lc, hgk, rfl, rfl, HR, HC⟩ := hrel
    clear H0
    cases ag
    · have H : Hid (Least own All S ∧ RowS wr (w.heap.size + 1) la lc S ∧ Below w.heap.size w wr) := Lib.hid ⟨HR.out.2.least (HC.out rfl), HR.out.1.row, HR.out.1.below⟩
      clear HR HC
      go_wp2_with fail
      go_ret
      exact ⟨S, la, lc, rfl, H.out⟩
    · rw [if_pos rfl] at hgk
      have HI0 : Hid (RQ w va cv own qa qc All S S false 0 la lc wr) := Lib.hid ⟨HR.out.1, HR.out.2, Nat.le_refl _, (fun h => by cases h), fun _ i _ hi => by omega⟩
      clear HC
      go_wp2_with fail
      go_loopw [5, 8, 9] (fun lv av iv wx => ∃ (S' : List ByteArray) (ag : Bool) (j : Nat) (la : Option Addr) (lc : Nat), j ≤ All.length ∧ iv = .int .i64 j ∧ lv = .slice la S'.length lc ∧ av = .bool ag ∧ Hid (RQ w va cv own qa qc All S S' ag j la lc wx)) (fun _ _ iv _ => All.length - (intOf iv).toNat)
      case atStart => exact ⟨S, false, 0, la, lc, by omega, rfl, rfl, rfl, HI0⟩
      case round =>
        obtain ⟨S', ag, j, la, lc, hj, rfl, rfl, rfl, HQ⟩ := hrel
        clear HI0 HR
        have x0 := HQ.out.rm.box.cell 0
        have x1 := HQ.out.rm.box.cell 1
        simp only [List.getElem?_toArray, List.getElem?_cons_zero, List.getElem?_cons_succ] at x0 x1
        by_cases hlt : j < All.length
        · have i0 : (0 : Int) ≤ (j : Int) := Int.natCast_nonneg _
          have i1 : (j : Int) < (All.length : Int) := by omega
          obtain ⟨qb, rfl, hq⟩ := HD.out j hlt
          obtain ⟨lb, lhc, ek, eo, en, enm, ena, enl, enc, eka, ekl, ekc, el, ecl, px, py, hlaid, hname, hcells⟩ := hq
          have up := cell_below HQ.out.rm.below
          have hq16 : ∀ (k : Nat) (u : Value), ([.int .u8 1, .slice (some ⟨lb, 0, none⟩) 1 lhc, .string ⟨#[]⟩, .slice none 0 0, .bool false, .int .u8 ek, .int .u8 eo, .int .i32 en, .string enm, .slice ena enl enc, .slice eka ekl ekc, .int .i64 el, .int .i64 ecl, .slice none 0 0, .int .i64 px, .int .i64 py] : List Value)[k]? = some u → wr.cell? ⟨qb, j * 16 + k, none⟩ = some u := fun k u h => up _ _ _ (hcells k u h)
          have a0 := hq16 0 _ rfl
          have a1 := hq16 1 _ rfl
          have a2 := hq16 2 _ rfl
          have a3 := hq16 3 _ rfl
          have a4 := hq16 4 _ rfl
          have a5 := hq16 5 _ rfl
          have a6 := hq16 6 _ rfl
          have a7 := hq16 7 _ rfl
          have a8 := hq16 8 _ rfl
          have a9 := hq16 9 _ rfl
          have a10 := hq16 10 _ rfl
          have a11 := hq16 11 _ rfl
          have a12 := hq16 12 _ rfl
          have a13 := hq16 13 _ rfl
          have a14 := hq16 14 _ rfl
          have a15 := hq16 15 _ rfl
          rw [Nat.add_zero] at a0
          obtain ⟨n, hnj⟩ : ∃ n, n = All[j].1 := ⟨_, rfl⟩
          rw [← hnj] at hname
          obtain ⟨W2, hW2⟩ : ∃ W2, W2 = wr.alloc (.cells #[.int .u8 1, .slice (some ⟨lb, 0, none⟩) 1 lhc, .string ⟨#[]⟩, .slice none 0 0, .bool false, .int .u8 ek, .int .u8 eo, .int .i32 en, .string enm, .slice ena enl enc, .slice eka ekl ekc, .int .i64 el, .int .i64 ecl, .slice none 0 0, .int .i64 px, .int .i64 py] 64) := ⟨_, rfl⟩
          have hb2 : Below wr.heap.size wr W2 := by rw [hW2]; exact (Below.refl _ _).alloc (Nat.le_refl _) _
          have hq2 : Has W2 wr.heap.size 64 #[.int .u8 1, .slice (some ⟨lb, 0, none⟩) 1 lhc, .string ⟨#[]⟩, .slice none 0 0, .bool false, .int .u8 ek, .int .u8 eo, .int .i32 en, .string enm, .slice ena enl enc, .slice eka ekl ekc, .int .i64 el, .int .i64 ecl, .slice none 0 0, .int .i64 px, .int .i64 py] := by rw [hW2]; exact Has.new wr _ _
          have hbw2 : Below w.heap.size w W2 := HQ.out.rm.below.trans (hb2.mono HQ.out.rm.below.size)
          have hbox2 := HQ.out.rm.box.below hb2 HQ.out.rm.box.lt
          have HCE : Hid (∀ W, Below W2.heap.size W2 W → (W.cell? ⟨wr.heap.size, 0, none⟩ = some (.int .u8 1) ∧ W.cell? ⟨wr.heap.size, 1, none⟩ = some (.slice (some ⟨lb, 0, none⟩) 1 lhc) ∧ W.cell? ⟨lb, 0, none⟩ = some (.string n) ∧ W.cell? ⟨w.heap.size, 0, none⟩ = some (.slice va own.length cv)) ∧ W.cell? ⟨wr.heap.size, 5, none⟩ = some (.int .u8 ek) ∧ W.cell? ⟨wr.heap.size, 6, none⟩ = some (.int .u8 eo) ∧ W.cell? ⟨wr.heap.size, 7, none⟩ = some (.int .i32 en) ∧ W.cell? ⟨wr.heap.size, 8, none⟩ = some (.string enm) ∧ W.cell? ⟨wr.heap.size, 9, none⟩ = some (.slice ena enl enc) ∧ W.cell? ⟨wr.heap.size, 10, none⟩ = some (.slice eka ekl ekc) ∧ W.cell? ⟨wr.heap.size, 11, none⟩ = some (.int .i64 el) ∧ W.cell? ⟨wr.heap.size, 12, none⟩ = some (.int .i64 ecl)) := Lib.hid (fun W hW => by
            have hq3 := hq2.below hW hq2.lt
            exact ⟨⟨hq3.cell 0, hq3.cell 1, cell_below (hbw2.trans (hW.mono hbw2.size)) _ _ _ hname, (hbox2.below hW hbox2.lt).cell 0⟩, hq3.cell 5, hq3.cell 6, hq3.cell 7, hq3.cell 8, hq3.cell 9, hq3.cell 10, hq3.cell 11, hq3.cell 12⟩)
          have hrow2 : W2.ownsRow (w.heap.size + 1) 9 1 (.slice la S'.length lc) S'.length (rowS S') := HQ.out.rm.row.row.kept (grown_below none hb2) (by by_cases e : (Value.slice la S'.length lc).ownBlock = none; exact .inl e; exact .inr e)
          have HSTR : Hid (∀ W, Below W2.heap.size W2 W → Strs W la S') := Lib.hid (fun W hW i s hi => by
            obtain ⟨g, e, hc⟩ := RowS.cells ⟨hrow2⟩ i s hi
            refine ⟨g, 0, e, ?_, ?_⟩
            · rw [Nat.zero_add]; exact cell_below hW _ _ _ hc
            · exact HNE.out s ((HQ.out.ri.d s (List.mem_of_getElem? hi)).1))
          have hls := HQ.out.ri.len
          have HFI : Hid (∀ W, Below W2.heap.size W2 W → Calls Tryd.prog 24 #[.slice va own.length cv, .string n] W (fun e w' => e = .returned (.int .i64 (fnd n own)) ∧ Below W.heap.size W w')) := Lib.hid (fun W hW => (rfind_any W va cv own n (HV.out.keep (cell_below (hbw2.trans (hW.mono hbw2.size)))) (by omega)).mono (fun e w' h => ⟨h.1, by rw [← h.2]; exact Below.refl _ _⟩))
          have HHA : Hid (∀ c W, Below W2.heap.size W2 W → Calls Tryd.prog 13 #[.slice la S'.length c, .string n] W (fun e w' => e = .returned (.bool (memB n S')) ∧ Below W.heap.size W w')) := Lib.hid (fun c W hW => (rhas_any W la c S' n (HSTR.out W hW) (by omega)).mono (fun e w' h => ⟨h.1, by rw [← h.2]; exact Below.refl _ _⟩))
          have HMY : Hid (∀ W, Below W2.heap.size W2 W → Calls Tryd.prog 25 #[.slice la S'.length lc, .agg #[.int .u8 ek, .int .u8 eo, .int .i32 en, .string enm, .slice ena enl enc, .slice eka ekl ekc, .int .i64 el, .int .i64 ecl]] W (fun e w' => e = .returned (.bool (lateB S' All[j].2)) ∧ Below W.heap.size W w')) := Lib.hid (fun W hW => may_any la lc S' (by omega) (sz All[j].2) All[j].2 (Nat.le_refl _) (HWF.out j hlt) W _ (LaidC.below (hbw2.trans (hW.mono hbw2.size)) _ _ hlaid) (HSTR.out W hW))
          have HW2 := Lib.hid hW2
          have HB2 := Lib.hid (And.intro hb2 (And.intro hbw2 (And.intro hbox2 hrow2)))
          have HNJ := Lib.hid hnj
          obtain ⟨⟨y0, y1, y2, y3⟩, y5, y6, y7, y8, y9, y10, y11, y12⟩ := HCE.out W2 (Below.refl _ _)
          have k0 := fun d os => (HCE.out (grow (redrawn W2 d) os) (below_regrown _ _ _)).1.1
          have k1 := fun d os => (HCE.out (grow (redrawn W2 d) os) (below_regrown _ _ _)).1.2.1
          have k2 := fun d os => (HCE.out (grow (redrawn W2 d) os) (below_regrown _ _ _)).1.2.2.1
          have k3 := fun d os => (HCE.out (grow (redrawn W2 d) os) (below_regrown _ _ _)).1.2.2.2
          have k5 := fun d os => (HCE.out (grow (redrawn W2 d) os) (below_regrown _ _ _)).2.1
          have k6 := fun d os => (HCE.out (grow (redrawn W2 d) os) (below_regrown _ _ _)).2.2.1
          have k7 := fun d os => (HCE.out (grow (redrawn W2 d) os) (below_regrown _ _ _)).2.2.2.1
          have k8 := fun d os => (HCE.out (grow (redrawn W2 d) os) (below_regrown _ _ _)).2.2.2.2.1
          have k9 := fun d os => (HCE.out (grow (redrawn W2 d) os) (below_regrown _ _ _)).2.2.2.2.2.1
          have k10 := fun d os => (HCE.out (grow (redrawn W2 d) os) (below_regrown _ _ _)).2.2.2.2.2.2.1
          have k11 := fun d os => (HCE.out (grow (redrawn W2 d) os) (below_regrown _ _ _)).2.2.2.2.2.2.2.1
          have k12 := fun d os => (HCE.out (grow (redrawn W2 d) os) (below_regrown _ _ _)).2.2.2.2.2.2.2.2
          clear hq16 hcells hlaid hname up hb2 hq2 hbw2 hbox2 hrow2 hls hW2 hnj
          obtain ⟨f, hf⟩ : ∃ f, f = fnd n own := ⟨_, rfl⟩
          rw [← hf] at HFI
          have HF := Lib.hid hf
          clear hf
          by_cases hin : n ∈ own
          · have g1 : decide (f ≥ 0) = true := by
              rw [HF.out]
              unfold fnd
              rcases hx : idx n own with _ | i
              · exact absurd hin (idx_none.1 hx)
              · exact decide_eq_true (by simp)
            have g2 : decide (0 ≤ f) = true := g1
            rcases HQ.out.rm.la with ⟨hSn, rfl, rfl⟩ | ⟨g, rfl, hcap, hpos⟩
            · subst hSn
              have hns : n ∉ ([] : List ByteArray) := by simp
              have hmm : memB n [] = false := rfl
              rw [hmm] at HHA
              clear hmm
              cases hlt2 : lateB ([] : List ByteArray) All[j].2
              · rw [hlt2] at HMY
                have HL2 := Lib.hid hlt2
                clear hlt2
                go_wp2_with fail
                first | rw [← HW2.out] | skip
                refine wp_region_quiet_below (by kernel_rfl) (by kernel_rfl) ?_
                repeat (go_big_quiet_step (first | (go_at_call 24; exact Calls.regrown_of (HFI.out _ (below_regrown _ _ _))) | (go_at_call 13; exact Calls.regrown_of (HHA.out _ _ (below_regrown _ _ _))) | (go_at_call 25; exact Calls.regrown_of (HMY.out _ (below_regrown _ _ _))) | fail))
                refine wpQuiet_nil ?_
                intro w4 hw4
                have HB4 : Hid (Below W2.heap.size W2 w4) := Lib.hid (by obtain ⟨p, rfl⟩ := hw4; exact below_regrown _ _ _)
                clear hw4 k0 k1 k2 k3 k5 k6 k7 k8 k9 k10 k11 k12 a0 a1 a2 a3 a4 a5 a6 a7 a8 a9 a10 a11 a12 a13 a14 a15
                have H : Hid (RQ w va cv own (some ⟨qb, 0, none⟩) qc All S ([] : List ByteArray) ag (j + 1) none 0 w4) := Lib.hid (HQ.out.next (HB2.out.1.trans (HB4.out.mono HB2.out.1.size)) hlt (by rw [← HNJ.out]; exact fun _ h => by rw [HL2.out] at h; cases h))
                clear y0 y1 y2 y3 y5 y6 y7 y8 y9 y10 y11 y12
                go_wp2_with fail
                go_roundw
                case rel => exact ⟨([] : List ByteArray), ag, j + 1, _, _, by omega, by go_num, rfl, rfl, H⟩
                case measure => simp [intOf]; omega
              · rw [hlt2] at HMY
                have HL2 := Lib.hid hlt2
                clear hlt2
                go_wp2_with fail
                first | rw [← HW2.out] | skip
                refine wp_region_quiet_below (by kernel_rfl) (by kernel_rfl) ?_
                repeat (go_big_quiet_step (first | (go_at_call 24; exact Calls.regrown_of (HFI.out _ (below_regrown _ _ _))) | (go_at_call 13; exact Calls.regrown_of (HHA.out _ _ (below_regrown _ _ _))) | (go_at_call 25; exact Calls.regrown_of (HMY.out _ (below_regrown _ _ _))) | fail))
                refine wpQuiet_nil ?_
                intro w4 hw4
                have HB4 : Hid (Below W2.heap.size W2 w4) := Lib.hid (by obtain ⟨p, rfl⟩ := hw4; exact below_regrown _ _ _)
                clear hw4 k0 k1 k2 k3 k5 k6 k7 k8 k9 k10 k11 k12 a0 a1 a2 a3 a4 a5 a6 a7 a8 a9 a10 a11 a12 a13 a14 a15
                clear y0 y1 y2 y3 y5 y6 y7 y8 y9 y10 y11 y12
                obtain ⟨⟨y0, y1, y2, y3⟩, -⟩ := HCE.out w4 HB4.out
                have hrow4 : w4.ownsRow (w.heap.size + 1) 9 1 (.slice none (([] : List ByteArray)).length 0) (([] : List ByteArray)).length (rowS ([] : List ByteArray)) := HB2.out.2.2.2.kept (grown_below none HB4.out) (by by_cases e : (Value.slice none (([] : List ByteArray)).length 0).ownBlock = none; exact .inl e; exact .inr e)
                have hbw4 : Below w.heap.size w w4 := HB2.out.2.1.trans (HB4.out.mono HB2.out.2.1.size)
                have hbx4 := HB2.out.2.2.1.below HB4.out HB2.out.2.2.1.lt
                have HON : Hid ((w4.alloc (.cells #[.string n] 9)).ownsRow (w.heap.size + 1) 9 1 (.slice none (([] : List ByteArray)).length 0) (([] : List ByteArray)).length (rowS ([] : List ByteArray))) := Lib.hid (hrow4.alloc _)
                have HNW : Hid (∀ i z, ([.string n] : List Value)[i]? = some z → (w4.alloc (.cells #[.string n] 9)).cell? ((⟨w4.heap.size, 0, none⟩ : Addr).add i) = some z) := Lib.hid (news_of w4 [.string n] 9 _ rfl)
                have HBS : Hid (w.heap.size + 1 ≤ (w4.alloc (.cells #[.string n] 9)).heap.size) := Lib.hid (by have := hbw4.size; simp; omega)
                have hlen := HQ.out.ri.len
                have HC3 : Hid ((([] : List ByteArray)).length + 1 ≤ maxLen) := Lib.hid (by unfold maxLen; omega)
                have HC4 : Hid (((([] : List ByteArray)).length + 1) * 16 ≤ 140737488355328) := Lib.hid (by omega)
                have HST : Hid (∀ (w5 : World) (g5 cap5 : Nat), w5.ownsRow (w.heap.size + 1) 9 1 (.slice (some ⟨g5, 0, none⟩) ((([] : List ByteArray)).length + 1) cap5) ((([] : List ByteArray)).length + 1) (rowS (([] : List ByteArray)) ++ [.string n]) → (w4.alloc (.cells #[.string n] 9)).grownBy w5 (Value.slice none (([] : List ByteArray)).length 0).ownBlock → RQ w va cv own (some ⟨qb, 0, none⟩) qc All S ((([] : List ByteArray)) ++ [n]) true (j + 1) (some ⟨g5, 0, none⟩) cap5 w5) := Lib.hid (fun w5 g5 cap5 h1 h2 => by
                  refine ⟨⟨⟨?_⟩, fun h => (by simp at h), ?_, ?_⟩, ?_, ?_, fun _ => ?_, fun h => (by cases h)⟩
                  · rw [show ((([] : List ByteArray)) ++ [n]).length = (([] : List ByteArray)).length + 1 from by simp, show rowS ((([] : List ByteArray)) ++ [n]) = rowS (([] : List ByteArray)) ++ [.string n] from by simp]
                    exact h1
                  · exact (hbx4.alloc _).grown h2 (fun e => Has.own_ne hbx4 hrow4 (by decide) e.symm)
                  · exact (hbw4.alloc hbw4.size _).grown h2 (by have := hbw4.size; simp only [World.size_alloc]; omega) (fun g e => by have := (hrow4.lt g e).1; omega)
                  · have := HQ.out.ri.add (List.getElem_mem hlt) (by rw [← HNJ.out]; exact hin) (by rw [← HNJ.out]; exact hns) HL2.out
                    rw [← HNJ.out] at this; exact this
                  · have := HQ.out.le; rw [List.length_append]; omega
                  · have := HQ.out.le; rw [List.length_append, List.length_singleton]; omega)
                have hlb := World.block_lt_of_cell? w4 _ y2
                clear hrow4 hbx4 hbw4 hlen
                go_wp2_with (at_builtin; refine wpList_append_lies _ rfl _ _ 24 rfl (w.heap.size + 1) 9 iv0 _ 1 16 Tryd.underlying24 HVI.out HVZ.out HVS.out HVB.out rfl (by decide) (.slice none (([] : List ByteArray)).length 0) (([] : List ByteArray)).length _ rfl HON.out ⟨w4.heap.size, 0, none⟩ 1 1 [.string n] rfl rfl HNW.out (by intro u hu; simp only [List.mem_cons, List.not_mem_nil, or_false] at hu; rw [hu]; rfl) (by decide) HC3.out HC4.out HBS.out _ rfl ?_; intro g5 cap5 w5 hown5 hgr5 hg5 hlt5; have H5 := Lib.hid (HST.out w5 g5 cap5 hown5 hgr5); clear hown5 hgr5 hg5 hlt5 y0 y1 y2 y3)
                go_roundw
                case rel => exact ⟨(([] : List ByteArray)) ++ [n], true, j + 1, _, _, by omega, by go_num, by simp, rfl, H5⟩
                case measure => simp [intOf]; omega
            · have c1 : (0 : Int) ≤ (S'.length : Int) := Int.natCast_nonneg _
              have c2 : (S'.length : Int) ≤ (lc : Int) := by omega
              have c3 : lc ≠ 0 := by omega
              have c4 : (0 : Int) ≤ (lc : Int) := Int.natCast_nonneg _
              cases hmem : memB n S'
              · have hns : n ∉ S' := memB_false.1 hmem
                rw [hmem] at HHA
                clear hmem
                cases hlt2 : lateB S' All[j].2
                · rw [hlt2] at HMY
                  have HL2 := Lib.hid hlt2
                  clear hlt2
                  go_wp2_with fail
                  first | rw [← HW2.out] | skip
                  refine wp_region_quiet_below (by kernel_rfl) (by kernel_rfl) ?_
                  repeat (go_big_quiet_step (first | (go_at_call 24; exact Calls.regrown_of (HFI.out _ (below_regrown _ _ _))) | (go_at_call 13; exact Calls.regrown_of (HHA.out _ _ (below_regrown _ _ _))) | (go_at_call 25; exact Calls.regrown_of (HMY.out _ (below_regrown _ _ _))) | fail))
                  refine wpQuiet_nil ?_
                  intro w4 hw4
                  have HB4 : Hid (Below W2.heap.size W2 w4) := Lib.hid (by obtain ⟨p, rfl⟩ := hw4; exact below_regrown _ _ _)
                  clear hw4 k0 k1 k2 k3 k5 k6 k7 k8 k9 k10 k11 k12 a0 a1 a2 a3 a4 a5 a6 a7 a8 a9 a10 a11 a12 a13 a14 a15
                  have H : Hid (RQ w va cv own (some ⟨qb, 0, none⟩) qc All S S' ag (j + 1) (some ⟨g, 0, none⟩) lc w4) := Lib.hid (HQ.out.next (HB2.out.1.trans (HB4.out.mono HB2.out.1.size)) hlt (by rw [← HNJ.out]; exact fun _ h => by rw [HL2.out] at h; cases h))
                  clear y0 y1 y2 y3 y5 y6 y7 y8 y9 y10 y11 y12
                  go_wp2_with fail
                  go_roundw
                  case rel => exact ⟨S', ag, j + 1, _, _, by omega, by go_num, rfl, rfl, H⟩
                  case measure => simp [intOf]; omega
                · rw [hlt2] at HMY
                  have HL2 := Lib.hid hlt2
                  clear hlt2
                  go_wp2_with fail
                  first | rw [← HW2.out] | skip
                  refine wp_region_quiet_below (by kernel_rfl) (by kernel_rfl) ?_
                  repeat (go_big_quiet_step (first | (go_at_call 24; exact Calls.regrown_of (HFI.out _ (below_regrown _ _ _))) | (go_at_call 13; exact Calls.regrown_of (HHA.out _ _ (below_regrown _ _ _))) | (go_at_call 25; exact Calls.regrown_of (HMY.out _ (below_regrown _ _ _))) | fail))
                  refine wpQuiet_nil ?_
                  intro w4 hw4
                  have HB4 : Hid (Below W2.heap.size W2 w4) := Lib.hid (by obtain ⟨p, rfl⟩ := hw4; exact below_regrown _ _ _)
                  clear hw4 k0 k1 k2 k3 k5 k6 k7 k8 k9 k10 k11 k12 a0 a1 a2 a3 a4 a5 a6 a7 a8 a9 a10 a11 a12 a13 a14 a15
                  clear y0 y1 y2 y3 y5 y6 y7 y8 y9 y10 y11 y12
                  obtain ⟨⟨y0, y1, y2, y3⟩, -⟩ := HCE.out w4 HB4.out
                  have hrow4 : w4.ownsRow (w.heap.size + 1) 9 1 (.slice (some ⟨g, 0, none⟩) (S').length lc) (S').length (rowS S') := HB2.out.2.2.2.kept (grown_below none HB4.out) (by by_cases e : (Value.slice (some ⟨g, 0, none⟩) (S').length lc).ownBlock = none; exact .inl e; exact .inr e)
                  have hbw4 : Below w.heap.size w w4 := HB2.out.2.1.trans (HB4.out.mono HB2.out.2.1.size)
                  have hbx4 := HB2.out.2.2.1.below HB4.out HB2.out.2.2.1.lt
                  have HON : Hid ((w4.alloc (.cells #[.string n] 9)).ownsRow (w.heap.size + 1) 9 1 (.slice (some ⟨g, 0, none⟩) (S').length lc) (S').length (rowS S')) := Lib.hid (hrow4.alloc _)
                  have HNW : Hid (∀ i z, ([.string n] : List Value)[i]? = some z → (w4.alloc (.cells #[.string n] 9)).cell? ((⟨w4.heap.size, 0, none⟩ : Addr).add i) = some z) := Lib.hid (news_of w4 [.string n] 9 _ rfl)
                  have HBS : Hid (w.heap.size + 1 ≤ (w4.alloc (.cells #[.string n] 9)).heap.size) := Lib.hid (by have := hbw4.size; simp; omega)
                  have hlen := HQ.out.ri.len
                  have HC3 : Hid ((S').length + 1 ≤ maxLen) := Lib.hid (by unfold maxLen; omega)
                  have HC4 : Hid (((S').length + 1) * 16 ≤ 140737488355328) := Lib.hid (by omega)
                  have HST : Hid (∀ (w5 : World) (g5 cap5 : Nat), w5.ownsRow (w.heap.size + 1) 9 1 (.slice (some ⟨g5, 0, none⟩) ((S').length + 1) cap5) ((S').length + 1) (rowS (S') ++ [.string n]) → (w4.alloc (.cells #[.string n] 9)).grownBy w5 (Value.slice (some ⟨g, 0, none⟩) (S').length lc).ownBlock → RQ w va cv own (some ⟨qb, 0, none⟩) qc All S ((S') ++ [n]) true (j + 1) (some ⟨g5, 0, none⟩) cap5 w5) := Lib.hid (fun w5 g5 cap5 h1 h2 => by
                    refine ⟨⟨⟨?_⟩, fun h => (by simp at h), ?_, ?_⟩, ?_, ?_, fun _ => ?_, fun h => (by cases h)⟩
                    · rw [show ((S') ++ [n]).length = (S').length + 1 from by simp, show rowS ((S') ++ [n]) = rowS (S') ++ [.string n] from by simp]
                      exact h1
                    · exact (hbx4.alloc _).grown h2 (fun e => Has.own_ne hbx4 hrow4 (by decide) e.symm)
                    · exact (hbw4.alloc hbw4.size _).grown h2 (by have := hbw4.size; simp only [World.size_alloc]; omega) (fun g e => by have := (hrow4.lt g e).1; omega)
                    · have := HQ.out.ri.add (List.getElem_mem hlt) (by rw [← HNJ.out]; exact hin) (by rw [← HNJ.out]; exact hns) HL2.out
                      rw [← HNJ.out] at this; exact this
                    · have := HQ.out.le; rw [List.length_append]; omega
                    · have := HQ.out.le; rw [List.length_append, List.length_singleton]; omega)
                  have hlb := World.block_lt_of_cell? w4 _ y2
                  clear hrow4 hbx4 hbw4 hlen
                  go_wp2_with (at_builtin; refine wpList_append_lies _ rfl _ _ 24 rfl (w.heap.size + 1) 9 iv0 _ 1 16 Tryd.underlying24 HVI.out HVZ.out HVS.out HVB.out rfl (by decide) (.slice (some ⟨g, 0, none⟩) (S').length lc) (S').length _ rfl HON.out ⟨w4.heap.size, 0, none⟩ 1 1 [.string n] rfl rfl HNW.out (by intro u hu; simp only [List.mem_cons, List.not_mem_nil, or_false] at hu; rw [hu]; rfl) (by decide) HC3.out HC4.out HBS.out _ rfl ?_; intro g5 cap5 w5 hown5 hgr5 hg5 hlt5; have H5 := Lib.hid (HST.out w5 g5 cap5 hown5 hgr5); clear hown5 hgr5 hg5 hlt5 y0 y1 y2 y3)
                  go_roundw
                  case rel => exact ⟨(S') ++ [n], true, j + 1, _, _, by omega, by go_num, by simp, rfl, H5⟩
                  case measure => simp [intOf]; omega
              · rw [hmem] at HHA
                have HMB := Lib.hid (memB_iff.1 hmem)
                clear hmem
                go_wp2_with fail
                first | rw [← HW2.out] | skip
                refine wp_region_quiet_below (by kernel_rfl) (by kernel_rfl) ?_
                repeat (go_big_quiet_step (first | (go_at_call 24; exact Calls.regrown_of (HFI.out _ (below_regrown _ _ _))) | (go_at_call 13; exact Calls.regrown_of (HHA.out _ _ (below_regrown _ _ _))) | (go_at_call 25; exact Calls.regrown_of (HMY.out _ (below_regrown _ _ _))) | fail))
                refine wpQuiet_nil ?_
                intro w4 hw4
                have HB4 : Hid (Below W2.heap.size W2 w4) := Lib.hid (by obtain ⟨p, rfl⟩ := hw4; exact below_regrown _ _ _)
                clear hw4 k0 k1 k2 k3 k5 k6 k7 k8 k9 k10 k11 k12 a0 a1 a2 a3 a4 a5 a6 a7 a8 a9 a10 a11 a12 a13 a14 a15
                have H : Hid (RQ w va cv own (some ⟨qb, 0, none⟩) qc All S S' ag (j + 1) (some ⟨g, 0, none⟩) lc w4) := Lib.hid (HQ.out.next (HB2.out.1.trans (HB4.out.mono HB2.out.1.size)) hlt (by rw [← HNJ.out]; exact fun _ _ => HMB.out))
                clear y0 y1 y2 y3 y5 y6 y7 y8 y9 y10 y11 y12
                go_wp2_with fail
                go_roundw
                case rel => exact ⟨S', ag, j + 1, _, _, by omega, by go_num, rfl, rfl, H⟩
                case measure => simp [intOf]; omega
          · have g1 : decide (f ≥ 0) = false := by
              rw [HF.out]
              unfold fnd
              rw [idx_none.2 hin]
              rfl
            have g2 : decide (0 ≤ f) = false := g1
            have HIN := Lib.hid hin
            clear hin
            go_wp2_with fail
            first | rw [← HW2.out] | skip
            refine wp_region_quiet_below (by kernel_rfl) (by kernel_rfl) ?_
            repeat (go_big_quiet_step (first | (go_at_call 24; exact Calls.regrown_of (HFI.out _ (below_regrown _ _ _))) | (go_at_call 13; exact Calls.regrown_of (HHA.out _ _ (below_regrown _ _ _))) | (go_at_call 25; exact Calls.regrown_of (HMY.out _ (below_regrown _ _ _))) | fail))
            refine wpQuiet_nil ?_
            intro w4 hw4
            have HB4 : Hid (Below W2.heap.size W2 w4) := Lib.hid (by obtain ⟨p, rfl⟩ := hw4; exact below_regrown _ _ _)
            clear hw4 k0 k1 k2 k3 k5 k6 k7 k8 k9 k10 k11 k12 a0 a1 a2 a3 a4 a5 a6 a7 a8 a9 a10 a11 a12 a13 a14 a15
            have H : Hid (RQ w va cv own (some ⟨qb, 0, none⟩) qc All S S' ag (j + 1) la lc w4) := Lib.hid (HQ.out.next (HB2.out.1.trans (HB4.out.mono HB2.out.1.size)) hlt (by rw [← HNJ.out]; exact fun h => absurd h HIN.out))
            clear y0 y1 y2 y3 y5 y6 y7 y8 y9 y10 y11 y12
            go_wp2_with fail
            go_roundw
            case rel => exact ⟨S', ag, j + 1, _, _, by omega, by go_num, rfl, rfl, H⟩
            case measure => simp [intOf]; omega
        · obtain rfl : j = All.length := by omega
          have H1 : Hid (RM w va cv own qa qc All la lc S' wr ∧ RI own All S') := Lib.hid ⟨HQ.out.rm, HQ.out.ri⟩
          have H2 : Hid (ag = false → Closed own All S') := Lib.hid (fun ha q hq ho hlq => by
            obtain ⟨i, hi, rfl⟩ := List.getElem_of_mem hq
            exact HQ.out.cl ha i hi hi ho hlq)
          have hl1 := HQ.out.ri.len
          have hl2 := HQ.out.le
          have HM : Hid ((own.length - S'.length) + (if ag then 1 else 0) < gk) := Lib.hid (by
            cases ag
            · simp; omega
            · have := HQ.out.lt rfl; simp; omega)
          clear hl1 hl2 HQ
          go_wp2_with fail
          go_roundg ((own.length - S'.length) + (if ag then 1 else 0))
          case rel => exact ⟨S', ag, la, lc, Nat.le_refl _, rfl, rfl, H1, H2⟩
          case measure => exact HM.out
end Go.Proofs.YtnejkgkikpgajaaDoor.ini
