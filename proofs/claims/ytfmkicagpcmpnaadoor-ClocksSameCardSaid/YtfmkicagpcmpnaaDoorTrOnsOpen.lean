/-
  Rows of samplings that come in.
-/
import Derived.Test.YtfmkicagpcmpnaaDoorTrOns

import Derived.Deep.Strs
import Derived.OpenShut
namespace Go.Proofs.YtfmkicagpcmpnaaDoor.tr
open Go.ChangeShapes Go.WideShapes Go.ChangeAt Go.RowKit
set_option linter.unusedVariables false

section
variable {H : Type} {enc : TypeId × Value → H} {w : World} {base : Nat} {sp : Nat → Bool} {hd : Bool}

set_option maxRecDepth 100000 in
theorem open_ons {fuel : Nat} {v : List Value} {x : DataW H × List MemPlace} (h : DataW.trod enc Tryd.prog w base sp hd fuel 22 v = some x) :
    ∃ a l c, v = [.slice a l.length c] ∧ l.length ≤ c ∧ c ≤ maxLen ∧ Ons w a l := by
  rcases DataW.trod_slice Tryd.underlying22 h with ⟨h', _⟩ | ⟨a, len, cap, elems, rest, m, hm, h', _, hb, hl, hcm, hlen, hel, _, _⟩
  · exact ⟨none, [], 0, h', Nat.le_refl _, by decide, fun i p hi => by simp at hi⟩
  · have ze : Tryd.prog.cellsOf 46 = 2 := by kernel_rfl
    have zs : Tryd.prog.cellsOf 9 = 1 := by kernel_rfl
    have each : ∀ i, i < len → ∃ p : ByteArray × ByteArray, (a.add (i * 2)).spot = none ∧ w.cell? ((a.add (i * 2)).add 0) = some (.string p.1) ∧ w.cell? ((a.add (i * 2)).add 1) = some (.string p.2) := fun i hi => by
      have hk := hel i hi
      rw [ze, List.getElem?_eq_getElem (by omega)] at hk
      obtain ⟨cs', g1, g2⟩ := Option.bind_eq_some_iff.1 hk
      obtain ⟨_, hl2, hcell⟩ := World.cells?_some g1
      obtain ⟨xs, n, _, _, _, hxl, hf⟩ := DataW.trod_struct Tryd.underlying46 g2
      have hx2 : xs.length = 2 := hxl.trans (by rfl)
      match cs', hl2 with
      | [c0, c1], _ =>
        have h0 : DataW.trod enc Tryd.prog w base sp hd n 9 (([c0, c1].drop 0).take (Tryd.prog.cellsOf 9)) = xs[0]? := hf 0 _ rfl
        have h1 : DataW.trod enc Tryd.prog w base sp hd n 9 (([c0, c1].drop 1).take (Tryd.prog.cellsOf 9)) = xs[1]? := hf 1 _ rfl
        rw [zs, List.getElem?_eq_getElem (by omega)] at h0 h1
        obtain ⟨s0, e0, _, _⟩ := DataW.trod_string Tryd.underlying9 h0
        obtain ⟨s1, e1, _, _⟩ := DataW.trod_string Tryd.underlying9 h1
        replace e0 : c0 = .string s0 := by simpa using e0
        replace e1 : c1 = .string s1 := by simpa using e1
        subst e0 e1
        have k0 := hcell 0 (by omega)
        have k1 := hcell 1 (by omega)
        refine ⟨(s0, s1), ?_, k0, k1⟩
        have := World.cell?_spot k0
        simpa [Addr.add] using this
    obtain ⟨f, hf⟩ := Go.Deep.choose_lt (α := ByteArray × ByteArray) each
    refine ⟨some a, (List.range len).map f, cap, by rw [h']; simp, by simpa using hl, hcm, fun i p hi => ?_⟩
    have hil : i < len := by
      have := (List.getElem?_eq_some_iff.1 hi).1
      simpa using this
    have hs : p = f i := by
      rw [List.getElem?_map, List.getElem?_range hil] at hi
      simpa using hi.symm
    subst hs
    obtain ⟨b, off, spot⟩ := a
    have hspot : spot = none := by
      have h0 := (hf 0 (by omega)).1
      simpa [Addr.add] using h0
    subst hspot
    obtain ⟨_, h0, h1⟩ := hf i hil
    rw [Go.WideShapes.add_plain, Go.WideShapes.add_plain] at h0 h1
    exact ⟨b, off, rfl, h0, h1⟩
end
end Go.Proofs.YtfmkicagpcmpnaaDoor.tr
