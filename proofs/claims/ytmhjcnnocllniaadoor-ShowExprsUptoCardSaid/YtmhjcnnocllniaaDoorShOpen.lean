/-
  An argument of type api.Expr, opened: what reads as data is laid out as an expression, whose numbers are within 32 bits, and whose text is no longer than the data's bulk allows.
-/
import Derived.Test.YtmhjcnnocllniaaDoorShTx
import Derived.Deep.Strs
import Derived.ChangeArms
namespace Go.Proofs.YtmhjcnnocllniaaDoor.sh
open Go.ChangeShapes Go.WideShapes Go.ChangeAt Go.RowKit Go.Proofs.YtmhjcnnocllniaaDoor.tr
set_option linter.unusedVariables false

theorem bulk_pos {H : Type} (d : DataW H) : 1 ≤ Rows.uptoBulk d := by
  cases d with
  | lit l => cases l <;> simp [Rows.uptoBulk]
  | _ => simp [Rows.uptoBulk]

section
variable {H : Type} {enc : TypeId × Value → H} {w : World} {base : Nat} {sp : Nat → Bool} {hd : Bool}

theorem laidK_of (b : Nat) : ∀ (els : List (DataW H × List MemPlace)) (off : Nat), (∀ i (hi : i < els.length), ∃ x cs, (∀ (j : Nat) (v : Value), cs[j]? = some v → w.cell? ⟨b, off + i * 8 + j, none⟩ = some v) ∧ LaidC w x cs ∧ fitE x ∧ wt x + 8 ≤ 64 * Rows.uptoBulk els[i].1) →
    ∃ l : List Ex, l.length = els.length ∧ LaidK w (some ⟨b, off, none⟩) l ∧ fitK l ∧ wtK l ≤ 64 * Rows.uptoBulkAll (els.map (·.1)) := by
  intro els
  induction els with
  | nil => intro off _; exact ⟨[], rfl, by unfold LaidK; trivial, by unfold fitK; trivial, by simp [wtK]⟩
  | cons y r ih =>
    intro off h
    obtain ⟨x, cs, hc, hx, hf, hw⟩ := h 0 (by simp)
    obtain ⟨l, hl, hk, hfk, hwk⟩ := ih (off + 8) (fun i hi => by
      obtain ⟨x, cs, hc, hx, hf, hw⟩ := h (i + 1) (by simp; exact hi)
      exact ⟨x, cs, fun j v hj => by rw [show off + 8 + i * 8 + j = off + (i + 1) * 8 + j by omega]; exact hc j v hj, hx, hf, by simpa using hw⟩)
    refine ⟨x :: l, by simp [hl], ?_, ?_, ?_⟩
    · unfold LaidK
      exact ⟨b, off, cs, rfl, fun j v hj => by have := hc j v hj; simpa using this, hx, hk⟩
    · unfold fitK; exact ⟨hf, hfk⟩
    · unfold wtK
      simp only [List.map_cons, Rows.uptoBulkAll]
      simp only [List.getElem_cons_zero] at hw
      omega

theorem wtN_bulk (f : Nat → ByteArray) : ∀ l : List Nat, wtN (l.map f) ≤ 8 * Rows.uptoBulkAll (l.map fun i => (DataW.lit (.string (f i).data.toList) : DataW H))
  | [] => by simp [wtN]
  | i :: r => by
    have := wtN_bulk f r
    simp only [List.map_cons, wtN, Rows.uptoBulkAll, Rows.uptoBulk]
    have e : (f i).data.toList.length = (f i).size := by rw [Array.length_toList]; rfl
    omega

theorem open_names {fuel : Nat} {v : List Value} {x : DataW H × List MemPlace} (h : DataW.trod enc Tryd.prog w base sp hd fuel 22 v = some x) :
    ∃ a nms nc, v = [.slice a nms.length nc] ∧ nms.length ≤ nc ∧ nc ≤ maxLen ∧ Strs w a nms ∧ wtN nms ≤ 8 * Rows.uptoBulk x.1 := by
  rcases Go.Deep.open_strs Tryd.underlying22 Tryd.underlying9 (by kernel_rfl) h with ⟨rfl, _⟩ | ⟨a, len, cap, m, Sx, rfl, hb, hl, hm, hmm, rfl, hc⟩
  · exact ⟨none, [], 0, rfl, Nat.le_refl _, by decide, fun i s hi => by simp at hi, by simp [wtN]⟩
  · have hlm : len ≤ m := by rw [hmm]; split <;> omega
    have hwn := wtN_bulk (H := H) Sx (List.range len)
    refine ⟨some a, (List.range len).map Sx, cap, by simp, by simpa using hl, hm, fun i s hi => ?_, by simp only [Rows.uptoBulk]; omega⟩
    have hil : i < len := by
      have := (List.getElem?_eq_some_iff.1 hi).1
      simpa using this
    have hs : s = Sx i := by
      rw [List.getElem?_map, List.getElem?_range hil] at hi
      simpa using hi.symm
    obtain ⟨h1, h2⟩ := hc i (by omega)
    subst hs
    obtain ⟨b, off, spot⟩ := a
    have hspot : spot = none := by
      have h0 := World.cell?_spot (hc 0 (by omega)).1
      simpa [Addr.add] using h0
    subst hspot
    rw [Go.WideShapes.add_plain] at h1
    exact ⟨b, off, rfl, h1, h2⟩

theorem fields8 {a b : Nat} (cs : List Value) (hl : cs.length = 8) : ∃ c0 c1 c2 c3 c4 c5 c6 c7, cs = [c0, c1, c2, c3, c4, c5, c6, c7] := by
  match cs, hl with
  | [c0, c1, c2, c3, c4, c5, c6, c7], _ => exact ⟨c0, c1, c2, c3, c4, c5, c6, c7, rfl⟩

theorem open_expr : ∀ (fuel : Nat) (cs : List Value) (x : DataW H × List MemPlace), DataW.trod enc Tryd.prog w base sp hd fuel 27 cs = some x → ∃ e, LaidC w e cs ∧ fitE e ∧ wt e + 8 ≤ 64 * Rows.uptoBulk x.1 := by
  intro fuel
  induction fuel using Nat.strongRecOn with
  | _ fuel ih =>
    intro cs x h
    obtain ⟨xs, n, rfl, hxe, hcl, hxl, hf⟩ := DataW.trod_struct Tryd.underlying27 h
    have hc8 : cs.length = 8 := hcl.trans (by kernel_rfl)
    obtain ⟨c0, c1, c2, c3, c4, c5, c6, c7, rfl⟩ := fields8 (a := 0) (b := 0) cs hc8
    have h0 : DataW.trod enc Tryd.prog w base sp hd n 5 (([c0, c1, c2, c3, c4, c5, c6, c7].drop 0).take (Tryd.prog.cellsOf 5)) = xs[0]? := hf 0 _ rfl
    have h1 : DataW.trod enc Tryd.prog w base sp hd n 5 (([c0, c1, c2, c3, c4, c5, c6, c7].drop 1).take (Tryd.prog.cellsOf 5)) = xs[1]? := hf 1 _ rfl
    have h2 : DataW.trod enc Tryd.prog w base sp hd n 21 (([c0, c1, c2, c3, c4, c5, c6, c7].drop 2).take (Tryd.prog.cellsOf 21)) = xs[2]? := hf 2 _ rfl
    have h3 : DataW.trod enc Tryd.prog w base sp hd n 9 (([c0, c1, c2, c3, c4, c5, c6, c7].drop 3).take (Tryd.prog.cellsOf 9)) = xs[3]? := hf 3 _ rfl
    have h4 : DataW.trod enc Tryd.prog w base sp hd n 22 (([c0, c1, c2, c3, c4, c5, c6, c7].drop 4).take (Tryd.prog.cellsOf 22)) = xs[4]? := hf 4 _ rfl
    have h5 : DataW.trod enc Tryd.prog w base sp hd n 23 (([c0, c1, c2, c3, c4, c5, c6, c7].drop 5).take (Tryd.prog.cellsOf 23)) = xs[5]? := hf 5 _ rfl
    have h6 : DataW.trod enc Tryd.prog w base sp hd n 25 (([c0, c1, c2, c3, c4, c5, c6, c7].drop 6).take (Tryd.prog.cellsOf 25)) = xs[6]? := hf 6 _ rfl
    have hxl' : xs.length = 7 := hxl.trans (by rfl)
    have g : ∀ i, i < 7 → ∃ y, xs[i]? = some y := fun i hi => ⟨_, List.getElem?_eq_getElem (by omega)⟩
    obtain ⟨y0, e0⟩ := g 0 (by omega)
    obtain ⟨y1, e1⟩ := g 1 (by omega)
    obtain ⟨y2, e2⟩ := g 2 (by omega)
    obtain ⟨y3, e3⟩ := g 3 (by omega)
    obtain ⟨y4, e4⟩ := g 4 (by omega)
    obtain ⟨y5, e5⟩ := g 5 (by omega)
    obtain ⟨y6, e6⟩ := g 6 (by omega)
    rw [e0] at h0
    rw [e1] at h1
    rw [e2] at h2
    rw [e3] at h3
    rw [e4] at h4
    rw [e5] at h5
    rw [e6] at h6
    have z8 : Tryd.prog.cellsOf 5 = 1 := by kernel_rfl
    have z32 : Tryd.prog.cellsOf 21 = 1 := by kernel_rfl
    have zs : Tryd.prog.cellsOf 9 = 1 := by kernel_rfl
    have zss : Tryd.prog.cellsOf 22 = 1 := by kernel_rfl
    have zse : Tryd.prog.cellsOf 23 = 1 := by kernel_rfl
    have zp : Tryd.prog.cellsOf 25 = 2 := by kernel_rfl
    have ze : Tryd.prog.cellsOf 27 = 8 := by kernel_rfl
    rw [z8] at h0
    replace h0 : DataW.trod enc Tryd.prog w base sp hd n 5 [c0] = some y0 := h0
    rw [z8] at h1
    replace h1 : DataW.trod enc Tryd.prog w base sp hd n 5 [c1] = some y1 := h1
    rw [z32] at h2
    replace h2 : DataW.trod enc Tryd.prog w base sp hd n 21 [c2] = some y2 := h2
    rw [zs] at h3
    replace h3 : DataW.trod enc Tryd.prog w base sp hd n 9 [c3] = some y3 := h3
    rw [zss] at h4
    replace h4 : DataW.trod enc Tryd.prog w base sp hd n 22 [c4] = some y4 := h4
    rw [zse] at h5
    replace h5 : DataW.trod enc Tryd.prog w base sp hd n 23 [c5] = some y5 := h5
    rw [zp] at h6
    replace h6 : DataW.trod enc Tryd.prog w base sp hd n 25 [c6, c7] = some y6 := h6
    obtain ⟨k, ek, _, wk⟩ := DataW.trod_int Tryd.underlying5 h0
    obtain ⟨o, eo, _, wo⟩ := DataW.trod_int Tryd.underlying5 h1
    obtain ⟨nn, en, _, wn⟩ := DataW.trod_int Tryd.underlying21 h2
    obtain ⟨nm, em, ym, wm⟩ := DataW.trod_string Tryd.underlying9 h3
    obtain ⟨na, nms, nc, ens, hnl, hnm, hns, hnw⟩ := open_names h4
    obtain ⟨ys, m, e7, _, hpl, hyl, hp⟩ := DataW.trod_struct Tryd.underlying25 h6
    have hy2 : ys.length = 2 := hyl.trans (by rfl)
    have zi : Tryd.prog.cellsOf 3 = 1 := by kernel_rfl
    have p0 : DataW.trod enc Tryd.prog w base sp hd m 3 (([c6, c7].drop 0).take (Tryd.prog.cellsOf 3)) = ys[0]? := hp 0 _ rfl
    have p1 : DataW.trod enc Tryd.prog w base sp hd m 3 (([c6, c7].drop 1).take (Tryd.prog.cellsOf 3)) = ys[1]? := hp 1 _ rfl
    have gy : ∀ i, i < 2 → ∃ y, ys[i]? = some y := fun i hi => ⟨_, List.getElem?_eq_getElem (by omega)⟩
    obtain ⟨w0, f0⟩ := gy 0 (by omega)
    obtain ⟨w1, f1⟩ := gy 1 (by omega)
    rw [f0] at p0
    rw [f1] at p1
    rw [zi] at p0
    replace p0 : DataW.trod enc Tryd.prog w base sp hd m 3 [c6] = some w0 := p0
    rw [zi] at p1
    replace p1 : DataW.trod enc Tryd.prog w base sp hd m 3 [c7] = some w1 := p1
    obtain ⟨ln, el, _, wl⟩ := DataW.trod_int Tryd.underlying3 p0
    obtain ⟨cl, ec, _, wc⟩ := DataW.trod_int Tryd.underlying3 p1
    have bk := bounds_u8 wk
    have bo := bounds_u8 wo
    have bn := bounds_i32 wn
    simp only [List.cons.injEq, and_true] at ek eo en em ens el ec
    have kids : ∃ ka ks kc, c5 = .slice ka ks.length kc ∧ ks.length ≤ kc ∧ kc ≤ maxLen ∧ LaidK w ka ks ∧ fitK ks ∧ wtK ks ≤ 64 * Rows.uptoBulk y5.1 := by
      rcases DataW.trod_slice Tryd.underlying23 h5 with ⟨h', _⟩ | ⟨a, len, cap, elems, rest, m5, hm5, h', hy5, hb, hl, hcm, hlen, hel, _, _⟩
      · simp only [List.cons.injEq, and_true] at h'
        exact ⟨none, [], 0, h', Nat.le_refl _, by decide, by unfold LaidK; trivial, by unfold fitK; trivial, by simp [wtK]⟩
      · simp only [List.cons.injEq, and_true] at h'
        have each : ∀ i (hi : i < elems.length), ∃ cs', w.cells? base (a.add (i * 8)) 8 = some cs' ∧ DataW.trod enc Tryd.prog w base sp hd m5 27 cs' = some elems[i] := fun i hi => by
          have hk := hel i (by omega)
          rw [ze, List.getElem?_eq_getElem hi] at hk
          obtain ⟨cs', g1, g2⟩ := Option.bind_eq_some_iff.1 hk
          exact ⟨cs', g1, g2⟩
        have hbk : Rows.uptoBulkAll (elems.map (·.1)) ≤ Rows.uptoBulk y5.1 := by rw [hy5]; simp only [Rows.uptoBulk]; omega
        by_cases hl0 : len = 0
        · subst hl0
          exact ⟨some a, [], cap, h', hl, hcm, by unfold LaidK; trivial, by unfold fitK; trivial, by simp [wtK]⟩
        obtain ⟨b, off, spot⟩ := a
        have hspot : spot = none := by
          obtain ⟨cs', g1, _⟩ := each 0 (by omega)
          obtain ⟨_, hl8, hcell⟩ := World.cells?_some g1
          have hc0 := hcell 0 (by omega)
          rw [List.getElem?_eq_getElem (by omega)] at hc0
          simpa [Addr.add] using World.cell?_spot hc0
        subst hspot
        obtain ⟨l, hll, hlk, hlf, hlw⟩ := laidK_of (w := w) b elems off (fun i hi => by
          obtain ⟨cs', g1, g2⟩ := each i hi
          obtain ⟨e, he, hef, hew⟩ := ih m5 (by omega) cs' _ g2
          obtain ⟨_, hl8, hcell⟩ := World.cells?_some g1
          refine ⟨e, cs', fun j v hj => ?_, he, hef, hew⟩
          have hj8 : j < 8 := by have := (List.getElem?_eq_some_iff.1 hj).1; omega
          have hcj := hcell j hj8
          rw [hj] at hcj
          rw [Go.WideShapes.add_plain, Go.WideShapes.add_plain] at hcj
          exact hcj)
        exact ⟨_, l, cap, by rw [h', hll, hlen], by rw [hll, hlen]; exact hl, hcm, hlk, hlf, by omega⟩
    obtain ⟨ka, ks, kc, ek5, hkl, hkm, hkk, hkf, hkw⟩ := kids
    subst ek eo en em ens el ec ek5
    obtain ⟨k', rfl⟩ := Int.eq_ofNat_of_zero_le bk.1
    obtain ⟨o', rfl⟩ := Int.eq_ofNat_of_zero_le bo.1
    refine ⟨.mk k' o' nn nm nms ks ln cl, ?_, ?_, ?_⟩
    · unfold LaidC
      exact ⟨by omega, by omega, wm, by omega, by omega, na, nc, ka, kc, hnl, hkl, rfl, hns, hkk⟩
    · unfold fitE
      exact ⟨by omega, by omega, hkf⟩
    · have e : nm.data.toList.length = nm.size := by rw [Array.length_toList]; rfl
      have hxs : xs = [y0, y1, y2, y3, y4, y5, y6] := by
        apply List.ext_getElem?
        intro i
        match i with
        | 0 => exact e0
        | 1 => exact e1
        | 2 => exact e2
        | 3 => exact e3
        | 4 => exact e4
        | 5 => exact e5
        | 6 => exact e6
        | i + 7 => rw [List.getElem?_eq_none (by omega)]; simp
      have q0 := bulk_pos y0.1
      have q1 := bulk_pos y1.1
      have q2 := bulk_pos y2.1
      have q6 := bulk_pos y6.1
      have q3 : Rows.uptoBulk y3.1 = nm.size + 1 := by rw [ym]; simp only [Rows.uptoBulk]; omega
      rw [hxe, hxs]
      simp only [List.map_cons, List.map_nil, Rows.uptoBulk, Rows.uptoBulkAll]
      rw [wt]
      omega

set_option maxRecDepth 100000 in
/-- an argument of type api.Expr -/
theorem open_arg {r : Reach} {b0 : Nat} {W : World} {v : Value} {d : DataW H} {ps : List MemPlace} (hval : Value.okWide Tryd.prog W r b0 27 v) (h : DataW.Trod enc Tryd.prog w base sp hd 27 v d ps) :
    ∃ cs e, v = .agg cs ∧ LaidC w e cs.toList ∧ fitE e ∧ wt e + 8 ≤ 64 * Rows.uptoBulk d := by
  obtain ⟨cs, rfl, _⟩ := Go.WideShapes.okWide_struct Tryd.underlying27 hval
  obtain ⟨fuel, hf⟩ := h
  obtain ⟨e, he, hfe, hwe⟩ := open_expr fuel _ _ hf
  exact ⟨cs, e, rfl, he, hfe, hwe⟩
end
end Go.Proofs.YtmhjcnnocllniaaDoor.sh
