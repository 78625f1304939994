/-
  inits.Late at a block of definitions.
-/
import Derived.Test.YtnejkgkikpgajaaDoorInFind
namespace Go.Proofs.YtnejkgkikpgajaaDoor.ini
open Go.ChangeShapes Go.WideShapes Go.ChangeAt Go.RowKit
open tr ck
set_option linter.unusedVariables false
set_option linter.unusedSimpArgs false

theorem str_info : (Tryd.prog.info? 9).map (fun i => (i.zero, i.size, i.bytes)) = some (some (.string ⟨#[]⟩), 1, 16) := by kernel_rfl
abbrev rowS (l : List ByteArray) : List Value := l.map (fun s => .string s)
theorem filter_take (own : List ByteArray) (p : ByteArray → Bool) (j : Nat) (h : j < own.length) : (own.take (j + 1)).filter p = (own.take j).filter p ++ (if p own[j] then [own[j]] else []) := by
  rw [List.take_succ_eq_append_getElem h, List.filter_append]
  cases hp : p own[j] <;> simp [hp]
/-- a row of texts that is owned -/
structure RowS (w : World) (base : Nat) (la : Option Addr) (lc : Nat) (l : List ByteArray) : Prop where
  row : w.ownsRow base 9 1 (.slice la l.length lc) l.length (rowS l)
theorem RowS.cells {w : World} {base : Nat} {la : Option Addr} {lc : Nat} {l : List ByteArray} (h : RowS w base la lc l) (i : Nat) (s : ByteArray) (hi : l[i]? = some s) : ∃ g, la = some ⟨g, 0, none⟩ ∧ w.cell? ⟨g, i, none⟩ = some (.string s) := by
  have hlt := (List.getElem?_eq_some_iff.1 hi).1
  obtain ⟨g, cap, e, _, _⟩ := h.row.form (by omega)
  simp only [Value.slice.injEq] at e
  obtain ⟨rfl, -, rfl⟩ := e
  refine ⟨g, rfl, ?_⟩
  rw [h.row.cellAt i (by omega), List.getElem?_map, hi]; rfl
def LatePost (w : World) (own : List ByteArray) (All : List Eqn) (e : Ending) (w' : World) : Prop :=
  ∃ S la lc, e = .returned (.slice la (own.filter (fun n => memB n S)).length lc) ∧ Least own All S ∧ RowS w' w.heap.size la lc (own.filter (fun n => memB n S)) ∧ Below w.heap.size w w'
set_option maxRecDepth 100000 in
set_option maxHeartbeats 8000000 in
theorem late_fn (w : World) (va : Option Addr) (cv : Nat) (own : List ByteArray) (qa : Option Addr) (qc : Nat) (All : List Eqn) (hV : NamesV w va own) (hD : ∀ j (hj : j < All.length), ∃ qb, qa = some ⟨qb, 0, none⟩ ∧ EqIn w qb (j * 16) All[j]) (hn : own.Nodup) (hl : own.length ≤ 1000) (hk : All.length ≤ 1000) (hz : szAll All ≤ 1000000) :
    Calls Tryd.prog 11 #[.agg #[.slice va own.length cv, .slice qa All.length qc]] w (LatePost w own All) := by
  have hmk : ∀ (t : TypeId) (w : World), (Instr.makeMap t none).run Tryd.prog w = .ok (.map (some w.heap.size)) (w.alloc (.map #[] 0)) := fun _ _ => rfl
  obtain ⟨iv0, hvi, hv3⟩ := Option.map_eq_some_iff.1 str_info
  simp only [Prod.mk.injEq] at hv3
  obtain ⟨hvz, hvs, hvb⟩ := hv3
  have HVI := Lib.hid hvi
  have HVZ := Lib.hid hvz
  have HVS := Lib.hid hvs
  have HVB := Lib.hid hvb
  obtain ⟨W1, hW1⟩ : ∃ W1, W1 = (w.alloc (.cells #[.slice va own.length cv, .slice qa All.length qc] 45)).alloc (.map #[] 0) := ⟨_, rfl⟩
  have hb1 : Below w.heap.size w W1 := by rw [hW1]; exact ((Below.refl _ w).alloc (Nat.le_refl _) _).alloc (by simp) _
  have hs1 : W1.heap.size = w.heap.size + 2 := by rw [hW1]; simp
  have hbx : Has W1 w.heap.size 45 #[.slice va own.length cv, .slice qa All.length qc] := by rw [hW1]; exact (Has.new w _ _).alloc _
  have hm1 : MAt W1 (w.heap.size + 1) (ltL []) := by
    rw [hW1]
    have := MAt.new (w.alloc (.cells #[.slice va own.length cv, .slice qa All.length qc] 45))
    simp only [World.size_alloc] at this
    exact this
  have HNU := Lib.hid (numbered_any W1 va cv own (hV.keep (cell_below hb1)) hn hl)
  have x0 := hbx.cell 0
  have x1 := hbx.cell 1
  simp only [List.getElem?_toArray, List.getElem?_cons_zero, List.getElem?_cons_succ] at x0 x1
  have HW1 := Lib.hid hW1
  have H1 := Lib.hid (And.intro hb1 (And.intro hs1 (And.intro hbx hm1)))
  have HV := Lib.hid hV
  have HD := Lib.hid hD
  have HN := Lib.hid hn
  clear hvi hvz hvs hvb hV hD hn hbx hm1 hb1 hW1
  unfold LatePost
  go_enter Tryd.func11, Tryd.ntmps11
  go_wp2_with fail
  rw [← HW1.out]
  refine HNU.out.mono ?_
  rintro e w2 ⟨om, hom, rfl, hnb, hb2⟩
  have hbw2 : Below w.heap.size w w2 := H1.out.1.trans (hb2.mono H1.out.1.size)
  have hbx2 := H1.out.2.2.1.below hb2 (Has.lt H1.out.2.2.1)
  have HF := Lib.hid (find_any w2 (w.heap.size + 1) om w.heap.size 0 va cv own qa qc All ⟨hbx2.cell 0, hbx2.cell 1, HV.out.keep (cell_below hbw2), fun j hj => by
    obtain ⟨qb, e, hq⟩ := HD.out j hj
    obtain ⟨lb, lo, lc, h1, h2⟩ := hq.lhs
    exact ⟨qb, e, cell_below hbw2 _ _ _ hq.kind, ⟨lb, lo, lc, cell_below hbw2 _ _ _ h1, cell_below hbw2 _ _ _ h2⟩, by
      obtain ⟨cs, hc, hl⟩ := hq.e
      exact ⟨cs, fun k u hk => cell_below hbw2 _ _ _ (hc k u hk), LaidC.below hbw2 _ _ hl⟩⟩⟩ (H1.out.2.2.2.below hb2 H1.out.2.2.2.lt) hnb (by have := H1.out.2.1; omega) HN.out hl hk hz)
  have H2 := Lib.hid (And.intro hbw2 hbx2)
  clear hnb hb2 hbw2 hbx2 hom HNU x0 x1
  unfold FindPost at HF
  go_wp2_with fail
  refine HF.out.mono ?_
  rintro e w3 ⟨S, rfl, hm3, hL3, hk3⟩
  have hbx3 := hk3.has (by simp only [List.mem_cons, List.not_mem_nil, or_false]; omega) H2.out.2
  have hb3 : Below w.heap.size w w3 := H2.out.1.trans ⟨hk3.os, hk3.tape, hk3.output, hk3.size, fun k hk => hk3.block k (by have := H2.out.1.size; omega) (by simp only [List.mem_cons, List.not_mem_nil, or_false]; omega)⟩
  have x0 := hbx3.cell 0
  simp only [List.getElem?_toArray, List.getElem?_cons_zero] at x0
  have H3 := Lib.hid (And.intro hb3 (And.intro hbx3 (And.intro hm3 hL3)))
  have H0 : Hid (w3.ownsRow w.heap.size 9 1 (.slice none 0 0) ((own.take 0).filter (fun n => memB n S)).length (rowS ((own.take 0).filter (fun n => memB n S))) ∧ MAt w3 (w.heap.size + 1) (ltL S) ∧ Has w3 w.heap.size 45 #[.slice va own.length cv, .slice qa All.length qc] ∧ Below w.heap.size w w3) := Lib.hid ⟨World.ownsRow_nil _ _ _ _, hm3, hbx3, hb3⟩
  clear hm3 hL3 hk3 hbx3 hb3 HF
  go_wp2_with fail
  go_loopw [4, 15] (fun lv iv wr => ∃ (j : Nat) (la : Option Addr) (lc : Nat), j ≤ own.length ∧ iv = .int .i64 j ∧ lv = .slice la ((own.take j).filter (fun n => memB n S)).length lc ∧ Hid (wr.ownsRow w.heap.size 9 1 (.slice la ((own.take j).filter (fun n => memB n S)).length lc) ((own.take j).filter (fun n => memB n S)).length (rowS ((own.take j).filter (fun n => memB n S))) ∧ MAt wr (w.heap.size + 1) (ltL S) ∧ Has wr w.heap.size 45 #[.slice va own.length cv, .slice qa All.length qc] ∧ Below w.heap.size w wr)) (fun _ iv _ => own.length - (intOf iv).toNat)
  case atStart => exact ⟨0, none, 0, by omega, rfl, rfl, H0⟩
  case round =>
    obtain ⟨j, la, lc, hj, rfl, rfl, HR⟩ := hrel
    clear H0 x0
    by_cases hlt : j < own.length
    · have i0 : (0 : Int) ≤ (j : Int) := Int.natCast_nonneg _
      have i1 : (j : Int) < (own.length : Int) := by omega
      obtain ⟨n, hnj⟩ : ∃ n, n = own[j] := ⟨_, rfl⟩
      obtain ⟨vb, rfl, hc⟩ := HV.out j own[j] (List.getElem?_eq_getElem hlt)
      rw [← hnj] at hc
      have hc1 := cell_below HR.out.2.2.2 _ _ _ hc
      have x0 := HR.out.2.2.1.cell 0
      simp only [List.getElem?_toArray, List.getElem?_cons_zero] at x0
      have HH := Lib.hid (has_any wr (w.heap.size + 1) S n HR.out.2.1)
      have HFT : Hid ((own.take (j + 1)).filter (fun n => memB n S) = (own.take j).filter (fun n => memB n S) ++ (if memB n S then [n] else [])) := Lib.hid (by rw [filter_take own _ j hlt, ← hnj])
      obtain ⟨k, hkk⟩ : ∃ k, k = ((own.take j).filter (fun n => memB n S)).length := ⟨_, rfl⟩
      have hkl : k ≤ 1000 := by
        have := List.length_filter_le (fun n => memB n S) (own.take j)
        rw [hkk]; simp at this ⊢; omega
      rw [← hkk]
      have HKK := Lib.hid hkk
      have HC := Lib.hid hc
      clear hc hnj hkk
      cases hmem : memB n S
      · rw [hmem] at HH
        have HMEM := Lib.hid hmem
        clear hmem
        go_wp2_with fail
        refine HH.out.mono ?_
        rintro e w4 ⟨rfl, hb4⟩
        have H : Hid (w4.ownsRow w.heap.size 9 1 (.slice la ((own.take (j + 1)).filter (fun n => memB n S)).length lc) ((own.take (j + 1)).filter (fun n => memB n S)).length (rowS ((own.take (j + 1)).filter (fun n => memB n S))) ∧ MAt w4 (w.heap.size + 1) (ltL S) ∧ Has w4 w.heap.size 45 #[.slice (some ⟨vb, 0, none⟩) own.length cv, .slice qa All.length qc] ∧ Below w.heap.size w w4) := Lib.hid (by
          have he : (own.take (j + 1)).filter (fun n => memB n S) = (own.take j).filter (fun n => memB n S) := by rw [HFT.out, HMEM.out]; simp
          rw [he]
          exact ⟨HR.out.1.kept (grown_below none hb4) (by by_cases e : (Value.slice la ((own.take j).filter (fun n => memB n S)).length lc).ownBlock = none; exact .inl e; exact .inr e), HR.out.2.1.below hb4 HR.out.2.1.lt, HR.out.2.2.1.below hb4 HR.out.2.2.1.lt, HR.out.2.2.2.trans (hb4.mono HR.out.2.2.2.size)⟩)
        have HE : Hid (k = ((own.take (j + 1)).filter (fun n => memB n S)).length) := Lib.hid (by rw [HFT.out, HMEM.out, HKK.out]; simp)
        clear hb4 HH x0 hc1
        go_wp2_with fail
        go_roundw
        case rel => exact ⟨j + 1, la, lc, by omega, by go_num, by rw [HE.out], H⟩
        case measure => simp [intOf]; omega
      · rw [hmem] at HH
        have HMEM := Lib.hid hmem
        clear hmem
        go_wp2_with fail
        refine HH.out.mono ?_
        rintro e w4 ⟨rfl, hb4⟩
        have hbw4 : Below w.heap.size w w4 := HR.out.2.2.2.trans (hb4.mono HR.out.2.2.2.size)
        have hbx4 := HR.out.2.2.1.below hb4 HR.out.2.2.1.lt
        have y0 := hbx4.cell 0
        simp only [List.getElem?_toArray, List.getElem?_cons_zero] at y0
        have hc4 := cell_below hbw4 _ _ _ HC.out
        have hm4 := HR.out.2.1.below hb4 HR.out.2.1.lt
        have hrow4 : w4.ownsRow w.heap.size 9 1 (.slice la k lc) k (rowS ((own.take j).filter (fun n => memB n S))) := by
          rw [HKK.out]
          exact HR.out.1.kept (grown_below none hb4) (by by_cases e : (Value.slice la ((own.take j).filter (fun n => memB n S)).length lc).ownBlock = none; exact .inl e; exact .inr e)
        have HON : Hid ((w4.alloc (.cells #[.string n] 9)).ownsRow w.heap.size 9 1 (.slice la k lc) k (rowS ((own.take j).filter (fun n => memB n S)))) := Lib.hid (hrow4.alloc _)
        have HNW : Hid (∀ i z, ([.string n] : List Value)[i]? = some z → (w4.alloc (.cells #[.string n] 9)).cell? ((⟨w4.heap.size, 0, none⟩ : Addr).add i) = some z) := Lib.hid (news_of w4 [.string n] 9 _ rfl)
        have HBS : Hid (w.heap.size ≤ (w4.alloc (.cells #[.string n] 9)).heap.size) := Lib.hid (by have := hbw4.size; simp; omega)
        have HC3 : Hid (k + 1 ≤ maxLen) := Lib.hid (by unfold maxLen; omega)
        have HC4 : Hid ((k + 1) * 16 ≤ 140737488355328) := Lib.hid (by omega)
        have HST : Hid (∀ (w5 : World) (g5 cap5 : Nat), w5.ownsRow w.heap.size 9 1 (.slice (some ⟨g5, 0, none⟩) (k + 1) cap5) (k + 1) (rowS ((own.take j).filter (fun n => memB n S)) ++ [.string n]) → (w4.alloc (.cells #[.string n] 9)).grownBy w5 (Value.slice la k lc).ownBlock → (k + 1 = ((own.take (j + 1)).filter (fun n => memB n S)).length ∧ (w5.ownsRow w.heap.size 9 1 (.slice (some ⟨g5, 0, none⟩) ((own.take (j + 1)).filter (fun n => memB n S)).length cap5) ((own.take (j + 1)).filter (fun n => memB n S)).length (rowS ((own.take (j + 1)).filter (fun n => memB n S))) ∧ MAt w5 (w.heap.size + 1) (ltL S) ∧ Has w5 w.heap.size 45 #[.slice (some ⟨vb, 0, none⟩) own.length cv, .slice qa All.length qc] ∧ Below w.heap.size w w5))) := Lib.hid (fun w5 g5 cap5 h1 h2 => by
          have he : (own.take (j + 1)).filter (fun n => memB n S) = (own.take j).filter (fun n => memB n S) ++ [n] := by rw [HFT.out, HMEM.out]; rfl
          have hk1 : k + 1 = ((own.take (j + 1)).filter (fun n => memB n S)).length := by rw [he, List.length_append, HKK.out]; rfl
          refine ⟨hk1, ?_, ?_, ?_, ?_⟩
          · rw [← hk1, he, show rowS ((own.take j).filter (fun n => memB n S) ++ [n]) = rowS ((own.take j).filter (fun n => memB n S)) ++ [.string n] from by simp]
            exact h1
          · exact (hm4.keep (Below.heap_alloc _ _ _ hm4.lt)).grown h2 (fun e => row_not_map hrow4 hm4 e.symm)
          · exact (hbx4.alloc _).grown h2 (fun e => Has.own_ne hbx4 hrow4 (by decide) e.symm)
          · exact (hbw4.alloc hbw4.size _).grown h2 (by have := hbw4.size; simp only [World.size_alloc]; omega) (fun g e => (hrow4.lt g e).1))
        clear hb4 hbw4 hbx4 hm4 hrow4 HH x0 hc1
        go_wp2_with (at_builtin; refine wpList_append_lies _ rfl _ _ 24 rfl w.heap.size 9 iv0 _ 1 16 Tryd.underlying24 HVI.out HVZ.out HVS.out HVB.out rfl (by decide) (.slice la k lc) k _ rfl HON.out ⟨w4.heap.size, 0, none⟩ 1 1 [.string n] rfl rfl HNW.out (by intro u hu; simp only [List.mem_cons, List.not_mem_nil, or_false] at hu; rw [hu]; rfl) (by decide) HC3.out HC4.out HBS.out _ rfl ?_; intro g5 cap5 w5 hown5 hgr5 hg5 hlt5; have H5 := Lib.hid (HST.out w5 g5 cap5 hown5 hgr5); clear hown5 hgr5 hg5 hlt5 y0 hc4)
        go_roundw
        case rel => exact ⟨j + 1, _, _, by omega, by go_num, by rw [← H5.out.1], Lib.hid H5.out.2⟩
        case measure => simp [intOf]; omega
    · obtain rfl : j = own.length := by omega
      rw [List.take_length] at HR ⊢
      have x0 := HR.out.2.2.1.cell 0
      simp only [List.getElem?_toArray, List.getElem?_cons_zero] at x0
      have H : Hid (Least own All S ∧ RowS wr w.heap.size la lc (own.filter (fun n => memB n S)) ∧ Below w.heap.size w wr) := Lib.hid ⟨H3.out.2.2.2, ⟨HR.out.1⟩, HR.out.2.2.2⟩
      clear HR
      go_wp2_with fail
      go_ret
      exact ⟨S, la, lc, rfl, H.out⟩
end Go.Proofs.YtnejkgkikpgajaaDoor.ini
