/-
  Variables as they lie in memory; an argument of type api.Var, opened.
-/
import Derived.Test.YtjkkalhgbfbcbaaTrOpen
import Derived.Test.YtjkkalhgbfbcbaaTrEqs
import Derived.Test.YtjkkalhgbfbcbaaTrCount
namespace Go.Proofs.Ytjkkalhgbfbcbaa.tr
open Go.ChangeShapes Go.WideShapes Go.ChangeAt Go.RowKit
set_option linter.unusedVariables false

/-- a variable -/
structure Vr where
  name : ByteArray
  tk : Nat
  tn : ByteArray
  clock : List (ByteArray × ByteArray)
  last : Bool
  first : Ex
  line : Int
  col : Int

/-- a variable's cells -/
def LaidV (w : World) (v : Vr) (cs : List Value) : Prop :=
  v.tk ≤ 255 ∧ v.clock.length ≤ maxLen ∧ ∃ ca cc c0 c1 c2 c3 c4 c5 c6 c7, LaidC w v.first [c0, c1, c2, c3, c4, c5, c6, c7] ∧ Ons w ca v.clock ∧
    cs = [.string v.name, .int .u8 v.tk, .string v.tn, .slice ca v.clock.length cc, .bool v.last, c0, c1, c2, c3, c4, c5, c6, c7, .int .i64 v.line, .int .i64 v.col]
theorem LaidV.below {w w' : World} {v : Vr} {cs : List Value} (h : LaidV w v cs) (hb : Below w.heap.size w w') : LaidV w' v cs := by
  obtain ⟨h1, h2, ca, cc, c0, c1, c2, c3, c4, c5, c6, c7, hx, ho, e⟩ := h
  exact ⟨h1, h2, ca, cc, c0, c1, c2, c3, c4, c5, c6, c7, LaidC.below hb _ _ hx, ho.below hb, e⟩

section
variable {H : Type} {enc : TypeId × Value → H} {w : World} {base : Nat} {sp : Nat → Bool} {hd : Bool}

set_option maxRecDepth 100000 in
theorem open_ons {fuel : Nat} {v : List Value} {x : DataW H × List MemPlace} (h : DataW.trod enc Try.prog w base sp hd fuel 50 v = some x) :
    ∃ a l c, v = [.slice a l.length c] ∧ l.length ≤ c ∧ c ≤ maxLen ∧ Ons w a l := by
  rcases DataW.trod_slice Try.underlying50 h with ⟨h', _⟩ | ⟨a, len, cap, elems, rest, m, hm, h', _, hb, hl, hcm, hlen, hel, _, _⟩
  · exact ⟨none, [], 0, h', Nat.le_refl _, by decide, fun i p hi => by simp at hi⟩
  · have ze : Try.prog.cellsOf 74 = 2 := by kernel_rfl
    have zs : Try.prog.cellsOf 9 = 1 := by kernel_rfl
    have each : ∀ i, i < len → ∃ p : ByteArray × ByteArray, (a.add (i * 2)).spot = none ∧ w.cell? ((a.add (i * 2)).add 0) = some (.string p.1) ∧ w.cell? ((a.add (i * 2)).add 1) = some (.string p.2) := fun i hi => by
      have hk := hel i hi
      rw [ze, List.getElem?_eq_getElem (by omega)] at hk
      obtain ⟨cs', g1, g2⟩ := Option.bind_eq_some_iff.1 hk
      obtain ⟨_, hl2, hcell⟩ := World.cells?_some g1
      obtain ⟨xs, n, _, _, _, hxl, hf⟩ := DataW.trod_struct Try.underlying74 g2
      have hx2 : xs.length = 2 := hxl.trans (by rfl)
      match cs', hl2 with
      | [c0, c1], _ =>
        have h0 : DataW.trod enc Try.prog w base sp hd n 9 (([c0, c1].drop 0).take (Try.prog.cellsOf 9)) = xs[0]? := hf 0 _ rfl
        have h1 : DataW.trod enc Try.prog w base sp hd n 9 (([c0, c1].drop 1).take (Try.prog.cellsOf 9)) = xs[1]? := hf 1 _ rfl
        rw [zs, List.getElem?_eq_getElem (by omega)] at h0 h1
        obtain ⟨s0, e0, _, _⟩ := DataW.trod_string Try.underlying9 h0
        obtain ⟨s1, e1, _, _⟩ := DataW.trod_string Try.underlying9 h1
        replace e0 : c0 = .string s0 := by simpa using e0
        replace e1 : c1 = .string s1 := by simpa using e1
        subst e0 e1
        have k0 := hcell 0 (by omega)
        have k1 := hcell 1 (by omega)
        refine ⟨(s0, s1), ?_, k0, k1⟩
        have := World.cell?_spot k0
        simpa [Addr.add] using this
    obtain ⟨f, hf⟩ := Go.Deep.choose_lt (α := ByteArray × ByteArray) each
    refine ⟨some a, (List.range len).map f, cap, by rw [h']; simp, by simpa using hl, hcm, fun i p hi => ?_⟩
    have hil : i < len := by
      have := (List.getElem?_eq_some_iff.1 hi).1
      simpa using this
    have hs : p = f i := by
      rw [List.getElem?_map, List.getElem?_range hil] at hi
      simpa using hi.symm
    subst hs
    obtain ⟨b, off, spot⟩ := a
    have hspot : spot = none := by
      have h0 := (hf 0 (by omega)).1
      simpa [Addr.add] using h0
    subst hspot
    obtain ⟨_, h0, h1⟩ := hf i hil
    rw [Go.WideShapes.add_plain, Go.WideShapes.add_plain] at h0 h1
    exact ⟨b, off, rfl, h0, h1⟩

theorem fields15 (cs : List Value) (hl : cs.length = 15) : ∃ c0 c1 c2 c3 c4 c5 c6 c7 c8 c9 c10 c11 c12 c13 c14, cs = [c0, c1, c2, c3, c4, c5, c6, c7, c8, c9, c10, c11, c12, c13, c14] := by
  match cs, hl with
  | [c0, c1, c2, c3, c4, c5, c6, c7, c8, c9, c10, c11, c12, c13, c14], _ => exact ⟨_, _, _, _, _, _, _, _, _, _, _, _, _, _, _, rfl⟩

set_option maxRecDepth 100000 in
theorem open_v (fuel : Nat) (cs : List Value) (x : DataW H × List MemPlace) (h : DataW.trod enc Try.prog w base sp hd fuel 52 cs = some x) : ∃ v, LaidV w v cs := by
  obtain ⟨xs, n, rfl, _, hcl, hxl, hf⟩ := DataW.trod_struct Try.underlying52 h
  have hc15 : cs.length = 15 := hcl.trans (by kernel_rfl)
  obtain ⟨c0, c1, c2, c3, c4, c5, c6, c7, c8, c9, c10, c11, c12, c13, c14, rfl⟩ := fields15 cs hc15
  have zs : Try.prog.cellsOf 9 = 1 := by kernel_rfl
  have z8 : Try.prog.cellsOf 5 = 1 := by kernel_rfl
  have zt : Try.prog.cellsOf 49 = 2 := by kernel_rfl
  have zo : Try.prog.cellsOf 50 = 1 := by kernel_rfl
  have zb : Try.prog.cellsOf 4 = 1 := by kernel_rfl
  have ze : Try.prog.cellsOf 44 = 8 := by kernel_rfl
  have zp : Try.prog.cellsOf 37 = 2 := by kernel_rfl
  have zi : Try.prog.cellsOf 3 = 1 := by kernel_rfl
  have hxl' : xs.length = 6 := hxl.trans (by rfl)
  have h0 : DataW.trod enc Try.prog w base sp hd n 9 (([c0, c1, c2, c3, c4, c5, c6, c7, c8, c9, c10, c11, c12, c13, c14].drop 0).take (Try.prog.cellsOf 9)) = xs[0]? := hf 0 _ rfl
  have h1 : DataW.trod enc Try.prog w base sp hd n 49 (([c0, c1, c2, c3, c4, c5, c6, c7, c8, c9, c10, c11, c12, c13, c14].drop 1).take (Try.prog.cellsOf 49)) = xs[1]? := hf 1 _ rfl
  have h2 : DataW.trod enc Try.prog w base sp hd n 50 (([c0, c1, c2, c3, c4, c5, c6, c7, c8, c9, c10, c11, c12, c13, c14].drop 3).take (Try.prog.cellsOf 50)) = xs[2]? := hf 2 _ rfl
  have h3 : DataW.trod enc Try.prog w base sp hd n 4 (([c0, c1, c2, c3, c4, c5, c6, c7, c8, c9, c10, c11, c12, c13, c14].drop 4).take (Try.prog.cellsOf 4)) = xs[3]? := hf 3 _ rfl
  have h4 : DataW.trod enc Try.prog w base sp hd n 44 (([c0, c1, c2, c3, c4, c5, c6, c7, c8, c9, c10, c11, c12, c13, c14].drop 5).take (Try.prog.cellsOf 44)) = xs[4]? := hf 4 _ rfl
  have h5 : DataW.trod enc Try.prog w base sp hd n 37 (([c0, c1, c2, c3, c4, c5, c6, c7, c8, c9, c10, c11, c12, c13, c14].drop 13).take (Try.prog.cellsOf 37)) = xs[5]? := hf 5 _ rfl
  rw [zs, List.getElem?_eq_getElem (by omega)] at h0
  rw [zt, List.getElem?_eq_getElem (by omega)] at h1
  rw [zo, List.getElem?_eq_getElem (by omega)] at h2
  rw [zb, List.getElem?_eq_getElem (by omega)] at h3
  rw [ze, List.getElem?_eq_getElem (by omega)] at h4
  rw [zp, List.getElem?_eq_getElem (by omega)] at h5
  obtain ⟨nm, e0, _, _⟩ := DataW.trod_string Try.underlying9 h0
  replace e0 : c0 = .string nm := by simpa using e0
  obtain ⟨ts, n1, e1', _, _, htl, ht⟩ := DataW.trod_struct Try.underlying49 h1
  have ht2 : ts.length = 2 := htl.trans (by rfl)
  have t0 : DataW.trod enc Try.prog w base sp hd n1 5 (([c1, c2].drop 0).take (Try.prog.cellsOf 5)) = ts[0]? := ht 0 _ rfl
  have t1 : DataW.trod enc Try.prog w base sp hd n1 9 (([c1, c2].drop 1).take (Try.prog.cellsOf 9)) = ts[1]? := ht 1 _ rfl
  rw [z8, List.getElem?_eq_getElem (by omega)] at t0
  rw [zs, List.getElem?_eq_getElem (by omega)] at t1
  obtain ⟨tk, e1, _, wk⟩ := DataW.trod_int Try.underlying5 t0
  replace e1 : c1 = .int .u8 tk := by simpa using e1
  obtain ⟨tn, e2, _, _⟩ := DataW.trod_string Try.underlying9 t1
  replace e2 : c2 = .string tn := by simpa using e2
  obtain ⟨ca, cl, cc, e3, hcl1, hcl2, hons⟩ := open_ons h2
  replace e3 : c3 = .slice ca cl.length cc := by simpa using e3
  obtain ⟨lb, e4⟩ : ∃ lb, c4 = .bool lb := by
    cases n with
    | zero => simp [DataW.trod] at h3
    | succ n =>
      unfold DataW.trod at h3
      rw [Try.underlying4] at h3
      simp only [List.drop_succ_cons, List.drop_zero, List.take_succ_cons, List.take_zero] at h3
      split at h3 <;> simp_all
  obtain ⟨ex, hex⟩ := open_expr n _ _ h4
  obtain ⟨ys, m, e7, _, hpl, hyl, hp⟩ := DataW.trod_struct Try.underlying37 h5
  have hy2 : ys.length = 2 := hyl.trans (by rfl)
  have p0 : DataW.trod enc Try.prog w base sp hd m 3 (([c13, c14].drop 0).take (Try.prog.cellsOf 3)) = ys[0]? := hp 0 _ rfl
  have p1 : DataW.trod enc Try.prog w base sp hd m 3 (([c13, c14].drop 1).take (Try.prog.cellsOf 3)) = ys[1]? := hp 1 _ rfl
  rw [zi, List.getElem?_eq_getElem (by omega)] at p0 p1
  obtain ⟨ln, e13, _, _⟩ := DataW.trod_int Try.underlying3 p0
  replace e13 : c13 = .int .i64 ln := by simpa using e13
  obtain ⟨co, e14, _, _⟩ := DataW.trod_int Try.underlying3 p1
  replace e14 : c14 = .int .i64 co := by simpa using e14
  have bk := bounds_u8 wk
  obtain ⟨k', rfl⟩ := Int.eq_ofNat_of_zero_le bk.1
  subst e0 e1 e2 e3 e4 e13 e14
  exact ⟨⟨nm, k', tn, cl, lb, ex, ln, co⟩, by simp only; omega, by simp only; omega, ca, cc, c5, c6, c7, c8, c9, c10, c11, c12, hex, hons, rfl⟩

set_option maxRecDepth 100000 in
/-- an argument of type api.Var -/
theorem open_var {r : Reach} {b0 : Nat} {W : World} {v : Value} {d : DataW H} {ps : List MemPlace} (hval : Value.okWide Try.prog W r b0 52 v) (h : DataW.Trod enc Try.prog w base sp hd 52 v d ps) :
    ∃ cs e, v = .agg cs ∧ LaidV w e cs.toList := by
  obtain ⟨cs, rfl, _⟩ := Go.WideShapes.okWide_struct Try.underlying52 hval
  obtain ⟨fuel, hf⟩ := h
  obtain ⟨e, he⟩ := open_v fuel _ _ hf
  exact ⟨cs, e, rfl, he⟩
end
end Go.Proofs.Ytjkkalhgbfbcbaa.tr
