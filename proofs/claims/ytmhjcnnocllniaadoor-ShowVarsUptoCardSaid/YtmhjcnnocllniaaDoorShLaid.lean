/-
  What the listed tables give a walk, of what a row lists.
-/
import Derived.Test.YtmhjcnnocllniaaDoorShLeaf
import Derived.Test.YtmhjcnnocllniaaDoorRows
import Derived.Stop.LaidErr
namespace Go.Proofs.YtmhjcnnocllniaaDoor.sh
open Go.ChangeShapes Go.WideShapes Go.ChangeAt Go.RowKit
set_option linter.unusedVariables false

theorem tWords : (Tryd.prog.globals[0]?).map (·.type) = some 71 := by kernel_rfl
theorem tPow : (Tryd.prog.globals[1]?).map (·.type) = some 83 := by kernel_rfl

/-- an array of strings that reads as such a list holds these strings -/
theorem cells_of_strs {H : Type} {enc : TypeId × Value → H} {P : Program} {w : World} {base : Nat} {sp : Nat → Bool} {held : Bool} {fuel : Nat} {t e : TypeId} {n : Nat} {cs : List Value} {zs : List (List UInt8)} {p : List MemPlace}
    (ht : P.underlying t = some (.array n e)) (he : P.underlying e = some .string) (hce : P.cellsOf e = 1) (hct : P.cellsOf t = n)
    (h : DataW.trod enc P w base sp held fuel t cs = some (.agg (zs.map fun z => .lit (.string z)), p)) : cs = zs.map fun z => Value.string ⟨z.toArray⟩ := by
  cases fuel with
  | zero => simp [DataW.trod] at h
  | succ fuel =>
    simp only [DataW.trod, ht, hce, hct, Nat.mul_one] at h
    split at h
    · rename_i hl
      obtain ⟨xs, hm, hx⟩ := Option.map_eq_some_iff.1 h
      have hxs : xs.map (·.1) = zs.map fun z => (DataW.lit (.string z) : DataW H) := by
        have := congrArg Prod.fst hx
        simpa using this
      have hxl : xs.length = n := by simpa using Lib.mapM_length hm
      have hzl : zs.length = n := by
        have := congrArg List.length hxs
        simp at this
        omega
      apply List.ext_getElem?
      intro i
      by_cases hi : i < n
      · obtain ⟨b, hb, hf⟩ := Lib.mapM_at hm i i (by simp [hi])
        obtain ⟨z, hc, rfl, _⟩ := DataW.trod_string he hf
        have h1 : cs[i]? = some (.string z) := by
          have := congrArg (·[0]?) hc
          simpa [List.getElem?_take, List.getElem?_drop] using this
        have h2 : (xs.map (·.1))[i]? = some (DataW.lit (.string z.data.toList) : DataW H) := by simp [hb]
        rw [hxs] at h2
        simp only [List.getElem?_map, Option.map_eq_some_iff, DataW.lit.injEq, Lit.string.injEq] at h2
        obtain ⟨z', hz', e1⟩ := h2
        have e2 : z = ⟨z'.toArray⟩ := by
          obtain ⟨d⟩ := z
          simp only [] at e1
          rw [e1]
        simp [h1, hz', e2]
      · rw [List.getElem?_eq_none (by omega), List.getElem?_eq_none (by simp; omega)]
    · cases h

theorem of_words {W : World} {cs : Array Value} (hv : W.var? Tryd.prog "metronome/nums.words" = some cs) (hc : cs.toList = wtab.map fun z => Value.string ⟨z.toArray⟩) : ∃ t fr, W.heap[0]? = some (.cells wtabA t fr) := by
  have e : cs = wtabA := by
    apply Array.toList_inj.1
    rw [hc]; rfl
  subst e
  unfold World.var? at hv
  rw [gWords] at hv
  simp only [Option.bind_some] at hv
  split at hv
  · rename_i cs t fr hh
    simp only [Option.some.injEq] at hv
    subst hv
    exact ⟨t, fr, hh⟩
  · cases hv

abbrev listed : List (String × DataW Unit) := [("math/bits.deBruijn32tab", Rows.laid_math_bits_deBruijn32tab), ("math/bits.deBruijn64tab", Rows.laid_math_bits_deBruijn64tab), ("internal/strconv.uint64pow10", Rows.laid_internal_strconv_uint64pow10), ("metronome/nums.words", Rows.laid_metronome_nums_words)]
theorem of_listed {W : World} (h : laidMetH Tryd.prog listed W) : Laid W := by
  rw [MakeChecks.laidMetH_plain _ _ _ (by kernel_rfl)] at h
  have h3 := (h.tail).tail
  refine ⟨?_, ?_⟩
  · obtain ⟨ps, ⟨g0, t0, cs0, f0, p0, q0, hg0, ht0, hv0, hd0, _, _⟩, _, _⟩ := h3.tail
    obtain rfl := Option.some.inj (gWords.symm.trans hg0)
    obtain rfl := Option.some.inj (tWords.symm.trans ht0)
    exact of_words hv0 (cells_of_strs (zs := wtab) Tryd.underlying71 Tryd.underlying9 (by kernel_rfl) (by kernel_rfl) hd0)
  · exact Lib.tabIs_of_head (zs := Lib.pow10Tab) gPow tPow Tryd.underlying83 Tryd.underlying66 (by kernel_rfl) (by kernel_rfl) h3
end Go.Proofs.YtmhjcnnocllniaaDoor.sh
