/-
  The clocks of variables: one variable with one sampling; the clock of what an equation has on its left; a definition.
-/
import Derived.Test.YtnejkgkikpgajaaDoorCkSee1
namespace Go.Proofs.YtnejkgkikpgajaaDoor.ck
open Go.ChangeShapes Go.WideShapes Go.ChangeAt Go.RowKit
open tr Go.Sort
set_option linter.unusedVariables false
set_option linter.unusedSimpArgs false

set_option maxRecDepth 100000 in
set_option maxHeartbeats 8000000 in
theorem clocks_one (w : World) (g m vb vk oc : Nat) (nm s1 s2 : ByteArray) (L : List En) (d : Int) (er : Bool) (hv : VarAt w vb 0 nm (some ⟨oc, 0, none⟩) 1 1) (h1 : w.cell? ⟨oc, 0, none⟩ = some (.string s1)) (h2 : w.cell? ⟨oc, 1, none⟩ = some (.string s2)) (hS : St w g m L d er) (hne : vb ≠ g) :
    Calls Tryd.prog 48 #[.pointer (some ⟨g, 0, none⟩), .slice (some ⟨vb, 0, none⟩) 1 vk] w (CkPost w g m L d (er || !onB L d s2 [])) := by
  obtain ⟨vx, vy, v0, v3, v13, v14⟩ := hv.four
  have hgl := hS.lt
  obtain ⟨w1, hw1⟩ : ∃ w1, w1 = w.alloc (.cells #[.string s1, .string s2] 61) := ⟨_, rfl⟩
  have hb1 : Below w.heap.size w w1 := by rw [hw1]; exact (Below.refl _ w).alloc (Nat.le_refl _) _
  have hon : Has w1 w.heap.size 61 #[.string s1, .string s2] := by rw [hw1]; exact Has.new w _ _
  have u13 := (hb1.cell (p := ⟨vb, 13, none⟩) (World.block_lt_of_cell? w _ v13)).trans v13
  have u14 := (hb1.cell (p := ⟨vb, 14, none⟩) (World.block_lt_of_cell? w _ v14)).trans v14
  have hgo : w.heap.size ≠ g := by omega
  have HSG : Hid (∀ W, w1.grownBy W (some g) → W.cell? ⟨w.heap.size, 1, none⟩ = some (.string s2) ∧ W.cell? ⟨vb, 13, none⟩ = some (.int .i64 vx) ∧ W.cell? ⟨vb, 14, none⟩ = some (.int .i64 vy)) := Lib.hid (fun W hW => ⟨cell_grown_c hW hgo (hon.cell 1), cell_grown_c hW hne u13, cell_grown_c hW hne u14⟩)
  have HO0 : Hid (∀ W, w1.grownBy W (some g) → W.cell? ⟨w.heap.size, 0, none⟩ = some (.string s1)) := Lib.hid (fun W hW => cell_grown_c hW hgo (hon.cell 0))
  have HON : Hid (∀ W, Below w1.heap.size w1 W → Calls Tryd.prog 67 #[.pointer (some ⟨g, 0, none⟩), .string s2, .pointer none] W (OnPost W (onB L d s2 []))) := Lib.hid (fun W hW => on_any W g m L d er s2 none [] ((hS.below hb1).below hW) rfl)
  have HMM : Hid (∀ W, Below w1.heap.size w1 W → Calls Tryd.prog 47 #[.pointer (some ⟨g, 0, none⟩), .bool (onB L d s2 []), .agg #[.int .i64 vx, .int .i64 vy]] W (CkPost W g m L d (er || !onB L d s2 []))) := Lib.hid (fun W hW => must_any W g m L d er _ vx vy ((hS.below hb1).below hW))
  have HSD := Lib.hid (HSG.out w1.drew (grown_below _ (Below.refl _ w1).drew))
  have HB1 := Lib.hid hb1
  have HW1 := Lib.hid hw1
  clear hS hw1 hb1 hon u13 u14 v0
  unfold CkPost OnPost at *
  go_enter Tryd.func48, Tryd.ntmps48
  go_wp2_with fail
  refine wp_loop_rounds 2 ?_
  rw [rounds_succ]
  go_wp2_with fail
  refine wp_loop_rounds 2 ?_
  rw [rounds_succ]
  go_wp2_with fail
  rw [← HW1.out]
  clear h1 h2 v3 v13 v14
  first | go_region_held3 (fun w' => w'.cell? ⟨w.heap.size, 1, none⟩ = some (.string s2) ∧ w'.cell? ⟨vb, 13, none⟩ = some (.int .i64 vx) ∧ w'.cell? ⟨vb, 14, none⟩ = some (.int .i64 vy)) (first | with_reducible exact HS3.out | with_reducible exact HS2.out | with_reducible exact HSD.out | fail) (first
    | (go_at_call 67; refine (HON.out _ (Below.refl _ w1).drew).mono ?_; rintro e w2 ⟨rfl, hb2⟩; have HB2 : Hid (Below w1.heap.size w1 w2) := Lib.hid ((Below.refl _ w1).drew.trans hb2); have HS2 := Lib.hid (HSG.out w2 (grown_below _ HB2.out)); clear hb2)
    | (go_at_call 47; refine (HMM.out w2 HB2.out).mono ?_; rintro e w3 ⟨rfl, hs3, hg3⟩; have HT3 := Lib.hid hs3; have HG3 := Lib.hid (grown_trans (grown_below (some g) HB2.out) hg3); have HS3 := Lib.hid (HSG.out w3 HG3.out); clear hs3 hg3)
    | fail) | fail
  all_goals
    have o0 := HO0.out w3 HG3.out
    have o1 := HS3.out.1
    clear HSG HO0 HON HMM HSD HS2 HS3 HW1
    go_wp2_with fail
    rw [rounds_succ]
    go_wp2_with fail
    rw [rounds_succ]
    go_wp2_with fail
    go_returns
    have hb4 : Below w3.heap.size w3 (w3.alloc (.cells #[.string s1, .string s2, .pointer none] 163)) := (Below.refl _ w3).alloc (Nat.le_refl _) _
    exact ⟨rfl, HT3.out.below hb4, grown_trans (grown_trans (grown_below _ HB1.out) HG3.out) (grown_below _ hb4)⟩
end Go.Proofs.YtnejkgkikpgajaaDoor.ck
