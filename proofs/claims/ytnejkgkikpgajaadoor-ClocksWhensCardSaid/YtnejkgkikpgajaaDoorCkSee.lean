/-
  A clock out of a row of samplings; variables that become visible.
-/
import Derived.Test.YtnejkgkikpgajaaDoorCkExpr
import Derived.Test.YtnejkgkikpgajaaDoorLwProg
namespace Go.Proofs.YtnejkgkikpgajaaDoor.ck
open Go.ChangeShapes Go.WideShapes Go.ChangeAt Go.RowKit
open tr Go.Sort
set_option linter.unusedVariables false
set_option linter.unusedSimpArgs false

def ClkOfPost (w : World) (l : List Smp) (e : Ending) (w' : World) : Prop := ∃ p, e = .returned (.pointer p) ∧ CkL w' p l.reverse ∧ Below w.heap.size w w'
set_option maxRecDepth 100000 in
set_option maxHeartbeats 4000000 in
theorem clockOf_any (w : World) (a : Option Addr) (l : List Smp) (c : Nat) (hs : Ons w a l) (hl : l.length ≤ maxLen) :
    Calls Tryd.prog 46 #[.slice a l.length c] w (ClkOfPost w l) := by
  unfold ClkOfPost maxLen at *
  have HS := Lib.hid hs
  clear hs
  go_enter Tryd.func46, Tryd.ntmps46
  go_wp2_with fail
  go_loopw [3, 8] (fun pv iv wr => ∃ (j : Nat) (p : Option Addr), j ≤ l.length ∧ iv = .int .i64 j ∧ pv = .pointer p ∧ Hid (CkL wr p (l.take j).reverse) ∧ Hid (Below w.heap.size w wr)) (fun _ iv _ => l.length - (intOf iv).toNat)
  case atStart => exact ⟨0, none, by omega, rfl, rfl, Lib.hid (by rw [List.take_zero]; rfl), Lib.hid (Below.refl _ _)⟩
  case round =>
    obtain ⟨j, p, hj, rfl, rfl, HP, HB⟩ := hrel
    by_cases hlt : j < l.length
    · obtain ⟨⟨s1, s2⟩, hse⟩ : ∃ s, s = l[j] := ⟨_, rfl⟩
      obtain ⟨b, off, rfl, hc1, hc2⟩ := HS.out j l[j] (List.getElem?_eq_getElem hlt)
      rw [← hse] at hc1 hc2
      have d1 := (HB.out.cell (p := ⟨b, off + j * 2, none⟩) (World.block_lt_of_cell? w _ hc1)).trans hc1
      have d2 := (HB.out.cell (p := ⟨b, off + j * 2 + 1, none⟩) (World.block_lt_of_cell? w _ hc2)).trans hc2
      have i0 : (0 : Int) ≤ (j : Int) := Int.natCast_nonneg _
      have i1 : (j : Int) < (l.length : Int) := by omega
      have HN : Hid (CkL ((wr.alloc (.cells #[.string s1, .string s2] 61)).alloc (.cells #[.string s1, .string s2, .pointer p] 163)) (some ⟨wr.heap.size + 1, 0, none⟩) (l.take (j + 1)).reverse) := Lib.hid (by
        rw [take_snoc l j hlt, List.reverse_append, ← hse]
        have := (HP.out.below ((Below.refl _ wr).alloc (Nat.le_refl _) (.cells #[.string s1, .string s2] 61))).snoc s1 s2
        simp only [World.size_alloc] at this
        exact this)
      have HB2 : Hid (Below w.heap.size w ((wr.alloc (.cells #[.string s1, .string s2] 61)).alloc (.cells #[.string s1, .string s2, .pointer p] 163))) := Lib.hid ((HB.out.alloc HB.out.size _).alloc (by have := HB.out.size; simp; omega) _)
      clear hc1 hc2 hse
      go_wp2_with fail
      go_roundw
      case rel => exact ⟨j + 1, _, by omega, by go_num, rfl, HN, HB2⟩
      case measure => simp [intOf]; omega
    · obtain rfl : j = l.length := by omega
      have HP2 : Hid (CkL wr p l.reverse) := Lib.hid (by have := HP.out; rwa [List.take_length] at this)
      clear HP
      go_wp2_with fail
      go_ret
      exact ⟨p, rfl, HP2.out, HB.out⟩

theorem run_put {W : World} {m : Nat} {es : Array MapEntry} {c : Nat} {n : ByteArray} {v : Value} (hW : W.heap[m]? = some (.map es c)) (hf : Instr.findNow .string (.string n) es.toList 0 = some none) :
    (Instr.mapUpdate 67 (.map (some m)) (.string n) v).run Tryd.prog W = .ok () { W with heap := W.heap.setIfInBounds m (.map (es.push { key := .string n, val := v, born := c }) (c + 1)) } := by
  have hu := run_underlying (P := Tryd.prog) (w := W) Tryd.underlying67
  have hus := run_underlying (P := Tryd.prog) (w := W) Tryd.underlying9
  have hk : ∀ b, (Instr.checkKey b 10000 9 (.string n)).run Tryd.prog W = .ok () W := fun b => by kernel_rfl
  have hf' : (Instr.findKey 9 (.string n) es.toList).run Tryd.prog W = .ok none W := by
    unfold Instr.findKey
    simp only [Sem.run_bind, hus, Result.andThen_ok, hf, Sem.run_pure]
  unfold Instr.mapUpdate
  simp only [Sem.run_bind, hu, Result.andThen_ok, @MapKept.run_getObj_map _ _ _ _ _ hW, hk, hf', MapKept.run_setObj_map _ hW]

theorem map_not {w : World} {m g : Nat} {t : TypeId} {cs : Array Value} {es : Array MapEntry} {c : Nat} (h : w.heap[m]? = some (.map es c)) (hh : Has w g t cs) : g ≠ m := fun e => by
  subst e
  unfold Has at hh
  rw [h] at hh
  injection hh with hh
  cases hh
theorem EntsL.one {w : World} {n : ByteArray} {a : Option Addr} {l : List Smp} {d : Int} {b : Nat} (h : CkL w a l) : EntsL w [{ key := .string n, val := .agg #[.pointer a, .int .i64 d], born := b }] [⟨n, l, d⟩] := ⟨rfl, ⟨a, rfl, h⟩, trivial⟩
/-- one more entry -/
theorem St.put {w : World} {g m : Nat} {L : List En} {d : Int} {er : Bool} {n : ByteArray} {a : Option Addr} {l : List Smp} (h : St w g m L d er) (hn : lk n L = none) (hc : CkL w a l) :
    ∃ W, (Instr.mapUpdate 67 (.map (some m)) (.string n) (.agg #[.pointer a, .int .i64 d])).run Tryd.prog w = .ok () W ∧ St W g m (L ++ [⟨n, l, d⟩]) d er ∧ w.grownBy W (some m) := by
  obtain ⟨v, h1, h2, es, c, h3, h4⟩ := h
  have hf : Instr.findNow .string (.string n) es.toList 0 = some none := by
    rcases find_lk n 0 h4 with ⟨_, hf⟩ | ⟨x, a', j, hx, _, _⟩
    · exact hf
    · rw [hn] at hx; cases hx
  have hm : m < w.heap.size := (Array.getElem?_eq_some_iff.1 h3).1
  have hg : w.grownBy { w with heap := w.heap.setIfInBounds m (.map (es.push { key := .string n, val := .agg #[.pointer a, .int .i64 d], born := c }) (c + 1)) } (some m) :=
    ⟨rfl, rfl, rfl, by simp, fun k hk hne => by
      have : k ≠ m := fun e => hne (by rw [e])
      simp [Array.getElem?_setIfInBounds, this.symm]⟩
  have keep : ∀ t g' cs, Has w g' t cs → Has { w with heap := w.heap.setIfInBounds m (.map (es.push { key := .string n, val := .agg #[.pointer a, .int .i64 d], born := c }) (c + 1)) } g' t cs := fun t g' cs hh => hh.grown hg (fun e => map_not h3 hh (by injection e))
  refine ⟨_, run_put h3 hf, ⟨v, keep _ _ _ h1, h2.keep (keep _), es.push { key := .string n, val := .agg #[.pointer a, .int .i64 d], born := c }, c + 1, ?_, ?_⟩, hg⟩
  · simp [hm]
  · rw [Array.toList_push]
    exact (h4.keep (keep _)).app (EntsL.one (hc.keep (keep _)))
end Go.Proofs.YtnejkgkikpgajaaDoor.ck
