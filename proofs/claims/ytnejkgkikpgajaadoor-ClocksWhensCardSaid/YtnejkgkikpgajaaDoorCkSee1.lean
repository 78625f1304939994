/-
  One variable becomes visible; what goes in and comes out is never sampled; the clocks of variables.
-/
import Derived.Test.YtnejkgkikpgajaaDoorCkSee
namespace Go.Proofs.YtnejkgkikpgajaaDoor.ck
open Go.ChangeShapes Go.WideShapes Go.ChangeAt Go.RowKit
open tr Go.Sort
set_option linter.unusedVariables false
set_option linter.unusedSimpArgs false

def SeePost (w : World) (g m : Nat) (L : List En) (d : Int) (er : Bool) (e : Ending) (w' : World) : Prop := e = .returned (.tuple #[]) ∧ St w' g m L d er ∧ w.grownBy w' (some m)

set_option maxRecDepth 100000 in
set_option maxHeartbeats 8000000 in
theorem see_one (w : World) (g m vb vk : Nat) (nm : ByteArray) (ca : Option Addr) (l : List Smp) (cc : Nat) (L : List En) (d : Int) (er : Bool) (hv : VarAt w vb 0 nm ca l.length cc) (ho : Ons w ca l) (hl : l.length ≤ maxLen) (hS : St w g m L d er) (hn : lk nm L = none) :
    Calls Tryd.prog 31 #[.pointer (some ⟨g, 0, none⟩), .slice (some ⟨vb, 0, none⟩) 1 vk] w (SeePost w g m (L ++ [⟨nm, l.reverse, d⟩]) d er) := by
  obtain ⟨vx, vy, v0, v3, _, _⟩ := hv.four
  have hS0 := hS
  obtain ⟨ev, hC, hE, hM⟩ := hS0
  have hgm : g ≠ m := by
    obtain ⟨es, c, h, _⟩ := hM
    exact map_not h hC
  have HSS : Hid (∀ W, Below w.heap.size w W → W.cell? ⟨g, 0, none⟩ = some (.map (some m)) ∧ W.cell? ⟨g, 1, none⟩ = some (.int .i64 d) ∧ W.cell? ⟨vb, 0, none⟩ = some (.string nm) ∧ W.cell? ⟨vb, 3, none⟩ = some (.slice ca l.length cc)) := Lib.hid (fun W hW =>
    ⟨(Has.below hC hW (Has.lt hC)).cell 0, (Has.below hC hW (Has.lt hC)).cell 1, (hW.cell (p := ⟨vb, 0, none⟩) (World.block_lt_of_cell? w _ v0)).trans v0, (hW.cell (p := ⟨vb, 3, none⟩) (World.block_lt_of_cell? w _ v3)).trans v3⟩)
  have hvm : vb ≠ m := fun e => by
    obtain ⟨es, c, h, _⟩ := hM
    subst e
    unfold World.cell? at v0
    simp [h] at v0
  have HSG : Hid (∀ W W', Below w.heap.size w W → W.grownBy W' (some m) → W'.cell? ⟨g, 0, none⟩ = some (.map (some m)) ∧ W'.cell? ⟨g, 1, none⟩ = some (.int .i64 d) ∧ W'.cell? ⟨vb, 0, none⟩ = some (.string nm) ∧ W'.cell? ⟨vb, 3, none⟩ = some (.slice ca l.length cc)) := Lib.hid (fun W W' hW hg => by
    obtain ⟨a, b, c, e⟩ := HSS.out W hW
    exact ⟨cell_grown_c hg hgm a, cell_grown_c hg hgm b, cell_grown_c hg hvm c, cell_grown_c hg hvm e⟩)
  have HCO : Hid (∀ W, Below w.heap.size w W → Calls Tryd.prog 46 #[.slice ca l.length cc] W (ClkOfPost W l)) := Lib.hid (fun W hW => clockOf_any W ca l cc (ho.below hW) hl)
  have HPU : Hid (∀ W p, Below w.heap.size w W → CkL W p l.reverse → ∃ W3, (Instr.mapUpdate 67 (.map (some m)) (.string nm) (.agg #[.pointer p, .int .i64 d])).run Tryd.prog W = .ok () W3 ∧ St W3 g m (L ++ [⟨nm, l.reverse, d⟩]) d er ∧ W.grownBy W3 (some m)) := Lib.hid (fun W p hW hp => (hS.below hW).put hn hp)
  have HSD := Lib.hid (HSS.out w.drew (Below.refl _ w).drew)
  clear hS hC hE hM ho hgm hvm v0 v3 hn
  unfold SeePost
  unfold ClkOfPost at *
  go_enter Tryd.func31, Tryd.ntmps31
  go_wp2_with fail
  refine wp_loop_rounds 2 ?_
  rw [rounds_succ]
  go_wp2_with fail
  first | go_region_held3 (fun w' => w'.cell? ⟨g, 0, none⟩ = some (.map (some m)) ∧ w'.cell? ⟨g, 1, none⟩ = some (.int .i64 d) ∧ w'.cell? ⟨vb, 0, none⟩ = some (.string nm) ∧ w'.cell? ⟨vb, 3, none⟩ = some (.slice ca l.length cc)) (first | with_reducible exact HS3.out | with_reducible exact HS2.out | with_reducible exact HSD.out | fail) (first
    | (go_at_call 46; refine (HCO.out _ (Below.refl _ w).drew).mono ?_; rintro e w2 ⟨p, rfl, hp, hb2⟩; have HB2 : Hid (Below w.heap.size w w2) := Lib.hid ((Below.refl _ w).drew.trans hb2); have HS2 := Lib.hid (HSS.out w2 HB2.out); obtain ⟨w3, hu, hst, hg3⟩ := HPU.out w2 p HB2.out hp; have HS3 := Lib.hid (HSG.out w2 w3 HB2.out hg3); have HST := Lib.hid hst; have HG3 := Lib.hid hg3; clear hb2 hp hst hg3)
    | fail) | fail
  all_goals
    clear hu
    go_wp2_with fail
    rw [rounds_succ]
    go_wp2_with fail
    go_returns
    exact ⟨rfl, HST.out, grown_trans (grown_below _ HB2.out) HG3.out⟩

set_option maxRecDepth 100000 in
set_option maxHeartbeats 8000000 in
theorem unsampled_one (w : World) (g m vb vk : Nat) (nm : ByteArray) (L : List En) (d : Int) (er : Bool) (hv : VarAt w vb 0 nm none 0 0) (hS : St w g m L d er) (hne : vb ≠ g) :
    Calls Tryd.prog 32 #[.pointer (some ⟨g, 0, none⟩), .slice (some ⟨vb, 0, none⟩) 1 vk] w (CkPost w g m L d er) := by
  obtain ⟨vx, vy, v0, v3, v13, v14⟩ := hv.four
  have HM : Hid (Calls Tryd.prog 47 #[.pointer (some ⟨g, 0, none⟩), .bool true, .agg #[.int .i64 vx, .int .i64 vy]] w.drew (CkPost w.drew g m L d (er || !true))) := Lib.hid (must_any w.drew g m L d er true vx vy (hS.below (Below.refl _ w).drew))
  clear hS v0
  unfold CkPost at *
  go_enter Tryd.func32, Tryd.ntmps32
  go_wp2_with fail
  refine wp_loop_rounds 2 ?_
  rw [rounds_succ]
  go_wp2_with fail
  go_still_tail 13, (by kernel_rfl)
  change wpList _ _ _ _ _ w.drew
  go_wp2_with fail
  refine HM.out.mono ?_
  rintro e w2 ⟨rfl, h2, h3⟩
  rw [Bool.not_true, Bool.or_false] at h2
  have H2 := Lib.hid h2
  have H3 : Hid (w.grownBy w2 (some g)) := Lib.hid (grown_trans (grown_below _ (Below.refl _ w).drew) h3)
  clear h2 h3 v3 v13 v14 HM
  go_wp2_with fail
  rw [rounds_succ]
  go_wp2_with fail
  go_returns
  exact ⟨rfl, H2.out, H3.out⟩
end Go.Proofs.YtnejkgkikpgajaaDoor.ck
