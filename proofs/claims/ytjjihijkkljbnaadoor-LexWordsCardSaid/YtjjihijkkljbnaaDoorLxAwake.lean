/-
  awake: the document's example: its walk.
-/
import Derived.Test.YtjjihijkkljbnaaDoorLxWords
import Derived.Deep.AppendLies
namespace Go.Proofs.YtjjihijkkljbnaaDoor.lx
open Go.ChangeShapes Go.WideShapes Go.ChangeAt Go.RowKit
set_option linter.unusedVariables false

theorem awake_words : wordsR [120, 61, 45, 49] = .ok [⟨2, [120], 0, 1, 1⟩, ⟨5, [61], 0, 1, 2⟩, ⟨5, [45], 0, 1, 3⟩, ⟨1, [49], 1, 1, 4⟩, ⟨0, [], 0, 1, 5⟩] := by
  kernel_rfl

theorem awake_any (w : World) (hT : Laid w) :
    Calls Tryd.prog 22 #[] w fun e w' => e = .returned (.bool true) ∧ Below w.heap.size w w' := by
  have hw := fun W => words_any ⟨#[120, 61, 45, 49]⟩ W
  simp only [awake_words] at hw
  have HW := Lib.hid hw
  clear hw
  go_enter Tryd.func22, Tryd.ntmps22
  go_wp2_with fail
  refine (HW.out _ hT).mono ?_
  rintro e w1 ⟨⟨v, rfl, hown⟩, hb⟩
  have hown : w1.ownsRow w.heap.size 58 5 v 5 _ := hown
  obtain ⟨g, cap, hv, hg, hlt⟩ := World.ownsRow.form hown (by omega)
  subst hv
  have hc := hown.cells (g := g) rfl
  have c15 := hc 15 _ rfl
  have c17 := hc 17 _ rfl
  have c20 := hc 20 _ rfl
  have c23 := hc 23 _ rfl
  have c24 := hc 24 _ rfl
  simp [Addr.add] at c15 c17 c20 c23 c24
  have HB := Lib.hid hb
  clear hown hc hb
  go_wp2
  go_ret
  exact ⟨rfl, HB.out⟩
end Go.Proofs.YtjjihijkkljbnaaDoor.lx
