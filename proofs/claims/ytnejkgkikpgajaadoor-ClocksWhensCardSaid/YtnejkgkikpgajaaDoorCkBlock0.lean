/-
  What is deleted of the map; ways of no transitions.
-/
import Derived.Test.YtnejkgkikpgajaaDoorCkEq
namespace Go.Proofs.YtnejkgkikpgajaaDoor.ck
open Go.ChangeShapes Go.WideShapes Go.ChangeAt Go.RowKit
open tr Go.Sort
set_option linter.unusedVariables false
set_option linter.unusedSimpArgs false

theorem run_del {W : World} {m : Nat} {es : Array MapEntry} {c : Nat} {n : ByteArray} (ty : TypeId) (r : Option (Nat × Value)) (hW : W.heap[m]? = some (.map es c)) (hf : Instr.findNow .string (.string n) es.toList 0 = some r) :
    ∃ es', (Builtin.delete_ #[67, 9] ty #[.map (some m), .string n]).run Tryd.prog W = .ok (.tuple #[]) { W with heap := W.heap.setIfInBounds m (.map es' c) } := by
  have hu := run_underlying (P := Tryd.prog) (w := W) Tryd.underlying67
  have hus := run_underlying (P := Tryd.prog) (w := W) Tryd.underlying9
  have hk : ∀ b, (Instr.checkKey b 10000 9 (.string n)).run Tryd.prog W = .ok () W := fun b => by kernel_rfl
  have hf' : (Instr.findKey 9 (.string n) es.toList).run Tryd.prog W = .ok r W := by
    unfold Instr.findKey
    simp only [Sem.run_bind, hus, Result.andThen_ok, hf, Sem.run_pure]
  rcases r with _ | ⟨i, v⟩
  · refine ⟨es, ?_⟩
    unfold Builtin.delete_
    simp only [List.getElem?_toArray, List.getElem?_cons_zero, List.getElem?_cons_succ, Sem.run_bind, hu, Result.andThen_ok, @MapKept.run_getObj_map _ _ _ _ _ hW, hk, hf', MapKept.run_setObj_map _ hW, Sem.run_pure]
  · refine ⟨es.eraseIdxIfInBounds i, ?_⟩
    unfold Builtin.delete_
    simp only [List.getElem?_toArray, List.getElem?_cons_zero, List.getElem?_cons_succ, Sem.run_bind, hu, Result.andThen_ok, @MapKept.run_getObj_map _ _ _ _ _ hW, hk, hf', MapKept.run_setObj_map _ hW, Sem.run_pure]

theorem St.del {w : World} {g m : Nat} {L : List En} {d : Int} {er : Bool} (n : ByteArray) (ty : TypeId) (h : St w g m L d er) :
    ∃ W, (Builtin.delete_ #[67, 9] ty #[.map (some m), .string n]).run Tryd.prog w = .ok (.tuple #[]) W ∧ (∃ v, Ck W g (.map (some m)) d v ∧ Er W v er) ∧ w.grownBy W (some m) := by
  obtain ⟨v, h1, h2, es, c, h3, h4⟩ := h
  have hf : ∃ r, Instr.findNow .string (.string n) es.toList 0 = some r := by
    rcases find_lk n 0 h4 with ⟨_, hf⟩ | ⟨x, a', j, _, _, hf⟩
    · exact ⟨_, hf⟩
    · exact ⟨_, hf⟩
  obtain ⟨r, hf⟩ := hf
  obtain ⟨es', hr⟩ := run_del ty r h3 hf
  have hg : w.grownBy { w with heap := w.heap.setIfInBounds m (.map es' c) } (some m) :=
    ⟨rfl, rfl, rfl, by simp, fun k hk hne => by
      have : k ≠ m := fun e => hne (by rw [e])
      simp [Array.getElem?_setIfInBounds, this.symm]⟩
  have keep : ∀ t g' cs, Has w g' t cs → Has { w with heap := w.heap.setIfInBounds m (.map es' c) } g' t cs := fun t g' cs hh => hh.grown hg (fun e => map_not h3 hh (by injection e))
  exact ⟨_, hr, ⟨v, keep _ _ _ h1, h2.keep (keep _)⟩, hg⟩

set_option maxRecDepth 100000 in
theorem ways_nil (w : World) (g : Nat) :
    Calls Tryd.prog 50 #[.pointer (some ⟨g, 0, none⟩), .slice none 0 0] w fun e w' => e = .returned (.tuple #[]) ∧ w' = w := by
  go_enter Tryd.func50, Tryd.ntmps50
  go_wp2_with fail
  refine wp_loop_rounds 1 ?_
  rw [rounds_succ]
  go_wp2_with fail
  go_returns
  exact ⟨rfl, rfl⟩

mutual
theorem okE_er (L : List En) (d : Int) : ∀ (ck : List Smp) (x : Ex), okE L d ck (er x) = okE L d ck x
  | ck, .mk k o n nm nms kids l c => by
    rw [er]
    rcases ck with _ | ⟨p, r⟩
    · by_cases h1 : k = 4 ∨ k = 5
      · rw [okE, okE, if_pos h1, if_pos h1]
      · by_cases h2 : k = 12
        · rw [okE, okE, if_neg h1, if_neg h1, if_pos h2, if_pos h2]
        · by_cases h3 : k = 13
          · rw [okE, okE, if_neg h1, if_neg h1, if_neg h2, if_neg h2, if_pos h3, if_pos h3, okM_er L d [] nms nm 0 kids]
          · rw [okE, okE, if_neg h1, if_neg h1, if_neg h2, if_neg h2, if_neg h3, if_neg h3, okK_er L d [] kids]
    · by_cases h1 : k = 4 ∨ k = 5
      · rw [okE, okE, if_pos h1, if_pos h1]
      · by_cases h2 : k = 12
        · rw [okE, okE, if_neg h1, if_neg h1, if_pos h2, if_pos h2, okK_er L d r kids]
        · by_cases h3 : k = 13
          · rw [okE, okE, if_neg h1, if_neg h1, if_neg h2, if_neg h2, if_pos h3, if_pos h3, okM_er L d (p :: r) nms nm 0 kids]
          · rw [okE, okE, if_neg h1, if_neg h1, if_neg h2, if_neg h2, if_neg h3, if_neg h3, okK_er L d (p :: r) kids]
theorem okK_er (L : List En) (d : Int) : ∀ (ck : List Smp) (l : List Ex), okK L d ck (erK l) = okK L d ck l
  | _, [] => rfl
  | ck, x :: r => by rw [erK, okK, okK, okE_er L d ck x, okK_er L d ck r]
theorem okM_er (L : List En) (d : Int) : ∀ (ck : List Smp) (nms : List ByteArray) (nm : ByteArray) (i : Nat) (l : List Ex), okM L d ck nms nm i (erK l) = okM L d ck nms nm i l
  | _, _, _, _, [] => by rw [erK, okM]
  | ck, nms, nm, i, x :: r => by rw [erK, okM, okM, okE_er L d _ x, okM_er L d ck nms nm (i + 1) r]
end
theorem okE_same {L : List En} {d : Int} {ck : List Smp} {x y : Ex} (h : er x = er y) : okE L d ck x = okE L d ck y := by rw [← okE_er L d ck x, h, okE_er]

def LC : List En := [⟨bC, [], 0⟩, ⟨bX, [], 0⟩]
def LW : List En := LC ++ [⟨bW, [(bT, bC)], 0⟩]
theorem lk_c : lk bC LW = some ⟨bC, [], 0⟩ := by kernel_rfl
theorem lk_x : lk bX LW = some ⟨bX, [], 0⟩ := by kernel_rfl
theorem lk_w : lk bW LW = some ⟨bW, [(bT, bC)], 0⟩ := by kernel_rfl
theorem lk_w0 : lk bW LC = none := by kernel_rfl
theorem lk_x0 : lk bX [⟨bC, [], 0⟩] = none := by kernel_rfl
theorem on_c : onB LW 0 bC [] = true := by unfold onB; rw [lk_c]; rfl
end Go.Proofs.YtnejkgkikpgajaaDoor.ck
