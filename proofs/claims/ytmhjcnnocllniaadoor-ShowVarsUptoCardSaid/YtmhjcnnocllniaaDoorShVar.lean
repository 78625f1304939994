/-
  Variables as they lie in memory, and as texts; an argument of type api.Var, opened: what its text's length can be.
-/
import Derived.Test.YtmhjcnnocllniaaDoorShOpen
import Derived.Test.YtmhjcnnocllniaaDoorShTop
namespace Go.Proofs.YtmhjcnnocllniaaDoor.sh
open Go.ChangeShapes Go.WideShapes Go.ChangeAt Go.RowKit Go.Proofs.YtmhjcnnocllniaaDoor.tr
set_option linter.unusedVariables false

/-- a row of samplings -/
def Ons (w : World) (a : Option Addr) (l : List (ByteArray × ByteArray)) : Prop :=
  ∀ i p, l[i]? = some p → ∃ b off, a = some ⟨b, off, none⟩ ∧ w.cell? ⟨b, off + i * 2, none⟩ = some (.string p.1) ∧ w.cell? ⟨b, off + i * 2 + 1, none⟩ = some (.string p.2)
theorem Ons.below {w w' : World} {a : Option Addr} {l : List (ByteArray × ByteArray)} (h : Ons w a l) (hb : Below w.heap.size w w') : Ons w' a l := fun i p hi => by
  obtain ⟨b, off, e, h0, h1⟩ := h i p hi
  exact ⟨b, off, e, (hb.cell (p := ⟨b, off + i * 2, none⟩) (World.block_lt_of_cell? w _ h0)).trans h0, (hb.cell (p := ⟨b, off + i * 2 + 1, none⟩) (World.block_lt_of_cell? w _ h1)).trans h1⟩
/-- how long the samplings' text can be -/
def wtC : List (ByteArray × ByteArray) → Nat
  | [] => 0
  | p :: r => p.1.size + p.2.size + 8 + wtC r
/-- the samplings' text -/
def whens : List (ByteArray × ByteArray) → List UInt8
  | [] => []
  | p :: r => whenL p.1 p.2 ++ whens r
theorem whens_take (l : List (ByteArray × ByteArray)) (i : Nat) (hi : i < l.length) : whens (l.take (i + 1)) = whens (l.take i) ++ whenL l[i].1 l[i].2 := by
  induction l generalizing i with
  | nil => simp at hi
  | cons p r ih =>
    cases i with
    | zero => simp [whens]
    | succ i =>
      have := ih i (by simpa using hi)
      simp only [List.take_succ_cons, whens, List.getElem_cons_succ, this, List.append_assoc]
theorem whens_len (l : List (ByteArray × ByteArray)) (i : Nat) (hi : i < l.length) : (whens (l.take i)).length + (l[i].1.size + l[i].2.size + 8) ≤ wtC l := by
  induction l generalizing i with
  | nil => simp at hi
  | cons p r ih =>
    cases i with
    | zero => simp [whens, wtC]
    | succ i =>
      have := ih i (by simpa using hi)
      simp only [List.take_succ_cons, whens, List.getElem_cons_succ, wtC, List.length_append]
      have hw : (whenL p.1 p.2).length = p.1.size + p.2.size + 8 := by simp [whenL]; omega
      omega
theorem whens_all_len (l : List (ByteArray × ByteArray)) : (whens l).length ≤ wtC l := by
  induction l with
  | nil => simp [whens, wtC]
  | cons p r ih =>
    have hw : (whenL p.1 p.2).length = p.1.size + p.2.size + 8 := by simp [whenL]; omega
    simp only [whens, wtC, List.length_append]
    omega

/-- a variable -/
structure Vr where
  name : ByteArray
  tk : Nat
  tn : ByteArray
  clock : List (ByteArray × ByteArray)
  last : Bool
  first : Ex
  line : Int
  col : Int

/-- a variable's cells -/
def LaidV (w : World) (v : Vr) (cs : List Value) : Prop :=
  v.tk ≤ 255 ∧ v.clock.length ≤ maxLen ∧ ∃ ca cc c0 c1 c2 c3 c4 c5 c6 c7, LaidC w v.first [c0, c1, c2, c3, c4, c5, c6, c7] ∧ Ons w ca v.clock ∧
    cs = [.string v.name, .int .u8 v.tk, .string v.tn, .slice ca v.clock.length cc, .bool v.last, c0, c1, c2, c3, c4, c5, c6, c7, .int .i64 v.line, .int .i64 v.col]
theorem LaidV.below {w w' : World} {v : Vr} {cs : List Value} (h : LaidV w v cs) (hb : Below w.heap.size w w') : LaidV w' v cs := by
  obtain ⟨h1, h2, ca, cc, c0, c1, c2, c3, c4, c5, c6, c7, hx, ho, e⟩ := h
  exact ⟨h1, h2, ca, cc, c0, c1, c2, c3, c4, c5, c6, c7, LaidC.below hb _ _ hx, ho.below hb, e⟩

/-- how long a variable's text can be -/
def wtV (v : Vr) : Nat := v.name.size + v.tn.size + wtC v.clock + wt v.first + 32
/-- a variable's text -/
def txtV (v : Vr) : List UInt8 := (if v.last then [108, 97, 115, 116, 32] else []) ++ (bs v.name ++ ([32, 58, 32] ++ bs (typeS v.tk v.tn))) ++ whens v.clock ++ (if v.last then [32, 61, 32] ++ txt v.first else [])

theorem bulk_two {H : Type} (xs : List (DataW H × List MemPlace)) (hl : xs.length = 2) : Rows.uptoBulk (DataW.agg (xs.map (·.1))) = Rows.uptoBulk (xs[0]'(by omega)).1 + Rows.uptoBulk (xs[1]'(by omega)).1 + 1 := by
  match xs, hl with
  | [x, y], _ => simp [Rows.uptoBulk, Rows.uptoBulkAll]
theorem bulk_str {H : Type} (s : ByteArray) : Rows.uptoBulk (DataW.lit (H := H) (.string s.data.toList)) = s.size + 1 := by
  have e : s.data.toList.length = s.size := by rw [Array.length_toList]; rfl
  simp only [Rows.uptoBulk]
  omega
theorem bulk_six {H : Type} (xs : List (DataW H × List MemPlace)) (hl : xs.length = 6) : Rows.uptoBulk (DataW.agg (xs.map (·.1))) = Rows.uptoBulk (xs[0]'(by omega)).1 + Rows.uptoBulk (xs[1]'(by omega)).1 + Rows.uptoBulk (xs[2]'(by omega)).1 + Rows.uptoBulk (xs[3]'(by omega)).1 + Rows.uptoBulk (xs[4]'(by omega)).1 + Rows.uptoBulk (xs[5]'(by omega)).1 + 1 := by
  match xs, hl with
  | [x0, x1, x2, x3, x4, x5], _ => simp [Rows.uptoBulk, Rows.uptoBulkAll]; omega

section
variable {H : Type} {enc : TypeId × Value → H} {w : World} {base : Nat} {sp : Nat → Bool} {hd : Bool}

theorem ons_of (b : Nat) : ∀ (els : List (DataW H × List MemPlace)) (off : Nat), (∀ i (hi : i < els.length), ∃ p : ByteArray × ByteArray, w.cell? ⟨b, off + i * 2, none⟩ = some (.string p.1) ∧ w.cell? ⟨b, off + i * 2 + 1, none⟩ = some (.string p.2) ∧ p.1.size + p.2.size + 3 = Rows.uptoBulk els[i].1) →
    ∃ l : List (ByteArray × ByteArray), l.length = els.length ∧ Ons w (some ⟨b, off, none⟩) l ∧ wtC l ≤ 8 * Rows.uptoBulkAll (els.map (·.1)) := by
  intro els
  induction els with
  | nil => intro off _; exact ⟨[], rfl, fun i p h => by simp at h, by simp [wtC]⟩
  | cons y r ih =>
    intro off h
    obtain ⟨p, h0, h1, hw⟩ := h 0 (by simp)
    obtain ⟨l, hl, ho, hwl⟩ := ih (off + 2) (fun i hi => by
      obtain ⟨p, h0, h1, hw⟩ := h (i + 1) (by simp; exact hi)
      exact ⟨p, by rw [show off + 2 + i * 2 = off + (i + 1) * 2 by omega]; exact h0, by rw [show off + 2 + i * 2 + 1 = off + (i + 1) * 2 + 1 by omega]; exact h1, by simpa using hw⟩)
    refine ⟨p :: l, by simp [hl], ?_, ?_⟩
    · intro i q hi
      cases i with
      | zero =>
        obtain rfl : p = q := by simpa using hi
        exact ⟨b, off, rfl, h0, h1⟩
      | succ i =>
        obtain ⟨b', off', e, g0, g1⟩ := ho i q (by simpa using hi)
        simp only [Option.some.injEq, Addr.mk.injEq, and_true] at e
        obtain ⟨rfl, rfl⟩ := e
        exact ⟨_, off, rfl, by rw [show off + (i + 1) * 2 = off + 2 + i * 2 by omega]; exact g0, by rw [show off + (i + 1) * 2 + 1 = off + 2 + i * 2 + 1 by omega]; exact g1⟩
    · simp only [wtC, List.map_cons, Rows.uptoBulkAll]
      simp only [List.getElem_cons_zero] at hw
      omega

set_option maxRecDepth 100000 in
theorem open_ons {fuel : Nat} {v : List Value} {x : DataW H × List MemPlace} (h : DataW.trod enc Tryd.prog w base sp hd fuel 34 v = some x) :
    ∃ a l c, v = [.slice a l.length c] ∧ l.length ≤ c ∧ c ≤ maxLen ∧ Ons w a l ∧ wtC l ≤ 8 * Rows.uptoBulk x.1 := by
  rcases DataW.trod_slice Tryd.underlying34 h with ⟨h', _⟩ | ⟨a, len, cap, elems, rest, m, hm, h', hx, hb, hl, hcm, hlen, hel, _, _⟩
  · exact ⟨none, [], 0, h', Nat.le_refl _, by decide, fun i p hi => by simp at hi, by simp [wtC]⟩
  · have ze : Tryd.prog.cellsOf 56 = 2 := by kernel_rfl
    have zs : Tryd.prog.cellsOf 9 = 1 := by kernel_rfl
    have hbk : Rows.uptoBulkAll (elems.map (·.1)) ≤ Rows.uptoBulk x.1 := by rw [hx]; simp only [Rows.uptoBulk]; omega
    have each : ∀ i (hi : i < elems.length), ∃ p : ByteArray × ByteArray, (a.add (i * 2)).spot = none ∧ w.cell? ((a.add (i * 2)).add 0) = some (.string p.1) ∧ w.cell? ((a.add (i * 2)).add 1) = some (.string p.2) ∧ p.1.size + p.2.size + 3 = Rows.uptoBulk elems[i].1 := fun i hi => by
      have hk := hel i (by omega)
      rw [ze, List.getElem?_eq_getElem hi] at hk
      obtain ⟨cs', g1, g2⟩ := Option.bind_eq_some_iff.1 hk
      obtain ⟨_, hl2, hcell⟩ := World.cells?_some g1
      obtain ⟨xs, n, _, hxe, _, hxl, hf⟩ := DataW.trod_struct Tryd.underlying56 g2
      have hx2 : xs.length = 2 := hxl.trans (by rfl)
      match cs', hl2 with
      | [c0, c1], _ =>
        have h0 : DataW.trod enc Tryd.prog w base sp hd n 9 (([c0, c1].drop 0).take (Tryd.prog.cellsOf 9)) = xs[0]? := hf 0 _ rfl
        have h1 : DataW.trod enc Tryd.prog w base sp hd n 9 (([c0, c1].drop 1).take (Tryd.prog.cellsOf 9)) = xs[1]? := hf 1 _ rfl
        rw [zs, List.getElem?_eq_getElem (by omega)] at h0 h1
        obtain ⟨s0, e0, d0, _⟩ := DataW.trod_string Tryd.underlying9 h0
        obtain ⟨s1, e1, d1, _⟩ := DataW.trod_string Tryd.underlying9 h1
        replace e0 : c0 = .string s0 := by simpa using e0
        replace e1 : c1 = .string s1 := by simpa using e1
        subst e0 e1
        have k0 := hcell 0 (by omega)
        have k1 := hcell 1 (by omega)
        refine ⟨(s0, s1), ?_, k0, k1, ?_⟩
        · have := World.cell?_spot k0
          simpa [Addr.add] using this
        · rw [hxe]
          show _ = Rows.uptoBulk (DataW.agg (xs.map (·.1)))
          rw [bulk_two xs hx2, d0, d1]
          show _ = Rows.uptoBulk (DataW.lit (H := H) (.string s0.data.toList)) + Rows.uptoBulk (DataW.lit (H := H) (.string s1.data.toList)) + 1
          rw [bulk_str, bulk_str]
          show s0.size + s1.size + 3 = _
          omega
    by_cases hl0 : len = 0
    · subst hl0
      exact ⟨some a, [], cap, h', hl, hcm, fun i p hi => by simp at hi, by simp [wtC]⟩
    obtain ⟨b, off, spot⟩ := a
    have hspot : spot = none := by
      obtain ⟨_, h0, _⟩ := each 0 (by omega)
      simpa [Addr.add] using h0
    subst hspot
    obtain ⟨l, hll, hlo, hlw⟩ := ons_of (w := w) b elems off (fun i hi => by
      obtain ⟨p, _, h0, h1, hw⟩ := each i hi
      rw [Go.WideShapes.add_plain, Go.WideShapes.add_plain] at h0 h1
      exact ⟨p, h0, h1, hw⟩)
    exact ⟨_, l, cap, by rw [h', hll, hlen], by rw [hll, hlen]; exact hl, hcm, hlo, by omega⟩

theorem fields15 (cs : List Value) (hl : cs.length = 15) : ∃ c0 c1 c2 c3 c4 c5 c6 c7 c8 c9 c10 c11 c12 c13 c14, cs = [c0, c1, c2, c3, c4, c5, c6, c7, c8, c9, c10, c11, c12, c13, c14] := by
  match cs, hl with
  | [c0, c1, c2, c3, c4, c5, c6, c7, c8, c9, c10, c11, c12, c13, c14], _ => exact ⟨_, _, _, _, _, _, _, _, _, _, _, _, _, _, _, rfl⟩

set_option maxRecDepth 100000 in
theorem open_v (fuel : Nat) (cs : List Value) (x : DataW H × List MemPlace) (h : DataW.trod enc Tryd.prog w base sp hd fuel 36 cs = some x) : ∃ v, LaidV w v cs ∧ fitE v.first ∧ wtV v ≤ 64 * Rows.uptoBulk x.1 := by
  obtain ⟨xs, n, rfl, hxe, hcl, hxl, hf⟩ := DataW.trod_struct Tryd.underlying36 h
  have hc15 : cs.length = 15 := hcl.trans (by kernel_rfl)
  obtain ⟨c0, c1, c2, c3, c4, c5, c6, c7, c8, c9, c10, c11, c12, c13, c14, rfl⟩ := fields15 cs hc15
  have zs : Tryd.prog.cellsOf 9 = 1 := by kernel_rfl
  have z8 : Tryd.prog.cellsOf 5 = 1 := by kernel_rfl
  have zt : Tryd.prog.cellsOf 33 = 2 := by kernel_rfl
  have zo : Tryd.prog.cellsOf 34 = 1 := by kernel_rfl
  have zb : Tryd.prog.cellsOf 4 = 1 := by kernel_rfl
  have ze : Tryd.prog.cellsOf 27 = 8 := by kernel_rfl
  have zp : Tryd.prog.cellsOf 25 = 2 := by kernel_rfl
  have zi : Tryd.prog.cellsOf 3 = 1 := by kernel_rfl
  have hxl' : xs.length = 6 := hxl.trans (by rfl)
  have h0 : DataW.trod enc Tryd.prog w base sp hd n 9 (([c0, c1, c2, c3, c4, c5, c6, c7, c8, c9, c10, c11, c12, c13, c14].drop 0).take (Tryd.prog.cellsOf 9)) = xs[0]? := hf 0 _ rfl
  have h1 : DataW.trod enc Tryd.prog w base sp hd n 33 (([c0, c1, c2, c3, c4, c5, c6, c7, c8, c9, c10, c11, c12, c13, c14].drop 1).take (Tryd.prog.cellsOf 33)) = xs[1]? := hf 1 _ rfl
  have h2 : DataW.trod enc Tryd.prog w base sp hd n 34 (([c0, c1, c2, c3, c4, c5, c6, c7, c8, c9, c10, c11, c12, c13, c14].drop 3).take (Tryd.prog.cellsOf 34)) = xs[2]? := hf 2 _ rfl
  have h3 : DataW.trod enc Tryd.prog w base sp hd n 4 (([c0, c1, c2, c3, c4, c5, c6, c7, c8, c9, c10, c11, c12, c13, c14].drop 4).take (Tryd.prog.cellsOf 4)) = xs[3]? := hf 3 _ rfl
  have h4 : DataW.trod enc Tryd.prog w base sp hd n 27 (([c0, c1, c2, c3, c4, c5, c6, c7, c8, c9, c10, c11, c12, c13, c14].drop 5).take (Tryd.prog.cellsOf 27)) = xs[4]? := hf 4 _ rfl
  have h5 : DataW.trod enc Tryd.prog w base sp hd n 25 (([c0, c1, c2, c3, c4, c5, c6, c7, c8, c9, c10, c11, c12, c13, c14].drop 13).take (Tryd.prog.cellsOf 25)) = xs[5]? := hf 5 _ rfl
  rw [zs, List.getElem?_eq_getElem (by omega)] at h0
  rw [zt, List.getElem?_eq_getElem (by omega)] at h1
  rw [zo, List.getElem?_eq_getElem (by omega)] at h2
  rw [zb, List.getElem?_eq_getElem (by omega)] at h3
  rw [ze, List.getElem?_eq_getElem (by omega)] at h4
  rw [zp, List.getElem?_eq_getElem (by omega)] at h5
  obtain ⟨nm, e0, y0, _⟩ := DataW.trod_string Tryd.underlying9 h0
  replace e0 : c0 = .string nm := by simpa using e0
  obtain ⟨ts, n1, e1', y1, _, htl, ht⟩ := DataW.trod_struct Tryd.underlying33 h1
  have ht2 : ts.length = 2 := htl.trans (by rfl)
  have t0 : DataW.trod enc Tryd.prog w base sp hd n1 5 (([c1, c2].drop 0).take (Tryd.prog.cellsOf 5)) = ts[0]? := ht 0 _ rfl
  have t1 : DataW.trod enc Tryd.prog w base sp hd n1 9 (([c1, c2].drop 1).take (Tryd.prog.cellsOf 9)) = ts[1]? := ht 1 _ rfl
  rw [z8, List.getElem?_eq_getElem (by omega)] at t0
  rw [zs, List.getElem?_eq_getElem (by omega)] at t1
  obtain ⟨tk, e1, _, wk⟩ := DataW.trod_int Tryd.underlying5 t0
  replace e1 : c1 = .int .u8 tk := by simpa using e1
  obtain ⟨tn, e2, y1b, _⟩ := DataW.trod_string Tryd.underlying9 t1
  replace e2 : c2 = .string tn := by simpa using e2
  obtain ⟨ca, cl, cc, e3, hcl1, hcl2, hons, hcw⟩ := open_ons h2
  replace e3 : c3 = .slice ca cl.length cc := by simpa using e3
  obtain ⟨lb, e4⟩ : ∃ lb, c4 = .bool lb := by
    cases n with
    | zero => simp [DataW.trod] at h3
    | succ n =>
      unfold DataW.trod at h3
      rw [Tryd.underlying4] at h3
      simp only [List.drop_succ_cons, List.drop_zero, List.take_succ_cons, List.take_zero] at h3
      split at h3 <;> simp_all
  obtain ⟨ex, hex, hexf, hexw⟩ := open_expr n _ _ h4
  obtain ⟨ys, m, e7, _, hpl, hyl, hp⟩ := DataW.trod_struct Tryd.underlying25 h5
  have hy2 : ys.length = 2 := hyl.trans (by rfl)
  have p0 : DataW.trod enc Tryd.prog w base sp hd m 3 (([c13, c14].drop 0).take (Tryd.prog.cellsOf 3)) = ys[0]? := hp 0 _ rfl
  have p1 : DataW.trod enc Tryd.prog w base sp hd m 3 (([c13, c14].drop 1).take (Tryd.prog.cellsOf 3)) = ys[1]? := hp 1 _ rfl
  rw [zi, List.getElem?_eq_getElem (by omega)] at p0 p1
  obtain ⟨ln, e13, _, _⟩ := DataW.trod_int Tryd.underlying3 p0
  replace e13 : c13 = .int .i64 ln := by simpa using e13
  obtain ⟨co, e14, _, _⟩ := DataW.trod_int Tryd.underlying3 p1
  replace e14 : c14 = .int .i64 co := by simpa using e14
  have bk := bounds_u8 wk
  obtain ⟨k', rfl⟩ := Int.eq_ofNat_of_zero_le bk.1
  subst e0 e1 e2 e3 e4 e13 e14
  refine ⟨⟨nm, k', tn, cl, lb, ex, ln, co⟩, ⟨by simp only; omega, by simp only; omega, ca, cc, c5, c6, c7, c8, c9, c10, c11, c12, hex, hons, rfl⟩, hexf, ?_⟩
  have q1 : Rows.uptoBulk xs[1].1 ≥ tn.size + 1 := by
    rw [y1]
    show Rows.uptoBulk (DataW.agg (ts.map (·.1))) ≥ _
    rw [bulk_two ts ht2, y1b]
    show _ + Rows.uptoBulk (DataW.lit (H := H) (.string tn.data.toList)) + 1 ≥ _
    rw [bulk_str]
    omega
  have q0 : Rows.uptoBulk xs[0].1 = nm.size + 1 := by rw [y0]; exact bulk_str nm
  rw [hxe]
  show _ ≤ 64 * Rows.uptoBulk (DataW.agg (xs.map (·.1)))
  rw [bulk_six xs hxl', q0]
  simp only [wtV]
  omega

set_option maxRecDepth 100000 in
/-- an argument of type api.Var -/
theorem open_var {r : Reach} {b0 : Nat} {W : World} {v : Value} {d : DataW H} {ps : List MemPlace} (hval : Value.okWide Tryd.prog W r b0 36 v) (h : DataW.Trod enc Tryd.prog w base sp hd 36 v d ps) :
    ∃ cs e, v = .agg cs ∧ LaidV w e cs.toList ∧ fitE e.first ∧ wtV e ≤ 64 * Rows.uptoBulk d := by
  obtain ⟨cs, rfl, _⟩ := Go.WideShapes.okWide_struct Tryd.underlying36 hval
  obtain ⟨fuel, hf⟩ := h
  obtain ⟨e, he, hef, hew⟩ := open_v fuel _ _ hf
  exact ⟨cs, e, rfl, he, hef, hew⟩
end
end Go.Proofs.YtmhjcnnocllniaaDoor.sh
