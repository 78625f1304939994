/-
  The clock of what a definition has on its left; a definition.
-/
import Derived.Test.YtnejkgkikpgajaaDoorCkClocks
namespace Go.Proofs.YtnejkgkikpgajaaDoor.ck
open Go.ChangeShapes Go.WideShapes Go.ChangeAt Go.RowKit
open tr Go.Sort
set_option linter.unusedVariables false
set_option linter.unusedSimpArgs false

def LeftPost (w : World) (g m : Nat) (L : List En) (d : Int) (er : Bool) (ck : List Smp) (e : Ending) (w' : World) : Prop := ∃ a, e = .returned (.pointer a) ∧ CkL w' a ck ∧ St w' g m L d er ∧ w.grownBy w' (some g)

set_option maxRecDepth 100000 in
set_option maxHeartbeats 8000000 in
theorem left_one (w : World) (g m qb qo lb lc : Nat) (n : ByteArray) (x y : Int) (en : En) (L : List En) (d : Int) (er : Bool) (h1 : w.cell? ⟨qb, qo + 1, none⟩ = some (.slice (some ⟨lb, 0, none⟩) 1 lc)) (h14 : w.cell? ⟨qb, qo + 14, none⟩ = some (.int .i64 x)) (h15 : w.cell? ⟨qb, qo + 15, none⟩ = some (.int .i64 y))
    (hlb : w.cell? ⟨lb, 0, none⟩ = some (.string n)) (hS : St w g m L d er) (hne : qb ≠ g) (hlk : lk n L = some en) (hrd : rd d en = true) :
    Calls Tryd.prog 69 #[.pointer (some ⟨g, 0, none⟩), .pointer (some ⟨qb, qo, none⟩)] w (LeftPost w g m L d er en.clk) := by
  have HC := Lib.hid (clock_any w g m L d er n hS)
  have HSS := Lib.hid hS
  have HSG : Hid (∀ W, w.grownBy W (some g) → W.cell? ⟨qb, qo + 14, none⟩ = some (.int .i64 x) ∧ W.cell? ⟨qb, qo + 15, none⟩ = some (.int .i64 y)) := Lib.hid (fun W hW => ⟨cell_grown_c hW hne h14, cell_grown_c hW hne h15⟩)
  have HLK := Lib.hid (And.intro hlk hrd)
  clear hS hlk hrd
  unfold LeftPost
  unfold ClockPost at *
  go_enter Tryd.func69, Tryd.ntmps69
  go_wp2_with fail
  refine wp_loop_rounds 2 ?_
  rw [rounds_succ]
  go_wp2_with fail
  refine HC.out.mono ?_
  rintro e w1 ⟨a, ok, rfl, hb1, hk⟩
  obtain ⟨hlk, hrd⟩ := HLK.out
  unfold ClkOf at hk
  rw [hlk] at hk
  obtain ⟨hk1, hok⟩ := hk
  rw [hrd] at hok
  subst hok
  have HB1 := Lib.hid hb1
  have HK1 := Lib.hid (hk1.below hb1)
  have HSM : Hid (∀ W, Below w1.heap.size w1 W → Calls Tryd.prog 86 #[.pointer a, .pointer a] W fun e w' => e = .returned (.bool true) ∧ ∃ n, w' = W.drewN n) := Lib.hid (fun W hW => by
    have := same_any W a a en.clk en.clk ((hk1.below hb1).below hW) ((hk1.below hb1).below hW)
    rw [onsB_refl] at this
    exact this)
  have HMM : Hid (∀ W, Below w1.heap.size w1 W → Calls Tryd.prog 47 #[.pointer (some ⟨g, 0, none⟩), .bool true, .agg #[.int .i64 x, .int .i64 y]] W (CkPost W g m L d (er || !true))) := Lib.hid (fun W hW => must_any W g m L d er _ x y ((HSS.out.below hb1).below hW))
  have HSD := Lib.hid (HSG.out w1.drew (grown_below _ (hb1.trans ((Below.refl _ w1).drew.mono hb1.size))))
  clear hk1 hb1 hlk hrd h1 h14 h15 hlb HC HLK
  unfold CkPost at *
  go_wp2_with fail
  first | go_region_held3 (fun w' => w'.cell? ⟨qb, qo + 14, none⟩ = some (.int .i64 x) ∧ w'.cell? ⟨qb, qo + 15, none⟩ = some (.int .i64 y)) (first | with_reducible exact HS3.out | with_reducible exact HS2.out | with_reducible exact HSD.out | fail) (first
    | (go_at_call 86; refine (HSM.out _ (Below.refl _ w1).drew).mono ?_; rintro e w2 ⟨rfl, nn, hw2⟩; have HB2 : Hid (Below w1.heap.size w1 w2) := Lib.hid (by rw [hw2]; exact below_drewN (Below.refl _ w1).drew nn); have HS2 := Lib.hid (HSG.out w2 (grown_below _ (HB1.out.trans (HB2.out.mono HB1.out.size)))); clear hw2)
    | (go_at_call 47; refine (HMM.out w2 HB2.out).mono ?_; rintro e w3 ⟨rfl, hs3, hg3⟩; rw [Bool.not_true, Bool.or_false] at hs3; have HT3 := Lib.hid hs3; have HG2 := Lib.hid hg3; have HG3 := Lib.hid (grown_trans (grown_below (some g) (HB1.out.trans (HB2.out.mono HB1.out.size))) hg3); have HS3 := Lib.hid (HSG.out w3 HG3.out); clear hs3 hg3)
    | fail) | fail
  all_goals
    obtain ⟨cs, hcs⟩ := (HSS.out.below (HB1.out.trans (HB2.out.mono HB1.out.size))).has
    have HKF := Lib.hid ((HK1.out.below HB2.out).grown HG2.out hcs)
    clear hcs HSM HMM HSD HS2 HS3 HSG
    go_wp2_with fail
    rw [rounds_succ]
    go_wp2_with fail
    go_ret
    exact ⟨a, rfl, HKF.out, HT3.out, HG3.out⟩

set_option maxRecDepth 100000 in
set_option maxHeartbeats 8000000 in
theorem eq_def (w0 w : World) (g m qb qo lb lc : Nat) (n : ByteArray) (x y : Int) (e' : Ex) (en : En) (L : List En) (d : Int) (er : Bool) (hb : Below w0.heap.size w0 w) (hle : w0.heap.size ≤ g) (h0 : w0.cell? ⟨qb, qo, none⟩ = some (.int .u8 1)) (h1 : w0.cell? ⟨qb, qo + 1, none⟩ = some (.slice (some ⟨lb, 0, none⟩) 1 lc)) (h14 : w0.cell? ⟨qb, qo + 14, none⟩ = some (.int .i64 x)) (h15 : w0.cell? ⟨qb, qo + 15, none⟩ = some (.int .i64 y))
    (he : LaidAt w0 qb (qo + 5) e') (hlb : w0.cell? ⟨lb, 0, none⟩ = some (.string n)) (hS : St w g m L d er) (hlk : lk n L = some en) (hrd : rd d en = true) :
    Calls Tryd.prog 49 #[.pointer (some ⟨g, 0, none⟩), .pointer (some ⟨qb, qo, none⟩)] w (CkPost w g m L d (er || !okE L d en.clk e')) := by
  have hq0 : qb < w0.heap.size := World.block_lt_of_cell? w0 _ h0
  have hne : qb ≠ g := by omega
  have hl0 : lb < w0.heap.size := World.block_lt_of_cell? w0 _ hlb
  have up : ∀ (W : World) (b o : Nat) (v : Value), Below w0.heap.size w0 W → w0.cell? ⟨b, o, none⟩ = some v → W.cell? ⟨b, o, none⟩ = some v := fun W b o v hW hv => (hW.cell (p := ⟨b, o, none⟩) (World.block_lt_of_cell? w0 _ hv)).trans hv
  have c0 := up w _ _ _ hb h0
  have HD1 : Hid (Below w0.heap.size w0 w.drew) := Lib.hid (hb.trans ((Below.refl _ w).drew.mono hb.size))
  have HLF := Lib.hid (left_one w.drew g m qb qo lb lc n x y en L d er (up _ _ _ _ HD1.out h1) (up _ _ _ _ HD1.out h14) (up _ _ _ _ HD1.out h15) (up _ _ _ _ HD1.out hlb) (hS.below (Below.refl _ w).drew) hne hlk hrd)
  have HEX := Lib.hid (expr_any (sz e') e' (Nat.le_refl _) w0)
  have HLA := Lib.hid he
  have HKK : Hid (∀ W, w.grownBy W (some g) → W.cell? ⟨qb, qo, none⟩ = some (.int .u8 1)) := Lib.hid (fun W hW => cell_grown_c hW hne c0)
  have HSD := Lib.hid (HKK.out w.drew (grown_below _ (Below.refl _ w).drew))
  have HB := Lib.hid hb
  clear hS hlk hrd h0 h1 h14 h15 hlb he up hb hq0 hl0
  unfold LeftPost at HLF
  unfold CkPost
  go_enter Tryd.func49, Tryd.ntmps49
  go_wp2_with fail
  first | go_region_held3 (fun w' => w'.cell? ⟨qb, qo, none⟩ = some (.int .u8 1)) (first | with_reducible exact HS3.out | with_reducible exact HS2.out | with_reducible exact HSD.out | fail) (first
    | (go_at_call 69; refine HLF.out.mono ?_; rintro e w2 ⟨a, rfl, hck, hst, hg2⟩; have HCK := Lib.hid hck; have HST := Lib.hid hst; have HG2 := Lib.hid (grown_trans (grown_below (some g) (Below.refl _ w).drew) hg2); have HS2 := Lib.hid (HKK.out w2 HG2.out); clear hck hst hg2)
    | (go_at_call 68; refine (HEX.out w2 qb (qo + 5) g m L d er a en.clk (below_by HB.out HG2.out hle) HLA.out hle HST.out HCK.out).mono ?_; rintro e w3 ⟨rfl, hs3, hg3⟩; have HT3 := Lib.hid hs3; have HG3 := Lib.hid (grown_trans HG2.out hg3); have HS3 := Lib.hid (HKK.out w3 HG3.out); clear hs3 hg3)
    | fail) | fail
  all_goals
    clear HSD HS2 HS3 HKK c0
    go_wp2_with fail
    go_returns
    exact ⟨rfl, HT3.out, HG3.out⟩
end Go.Proofs.YtnejkgkikpgajaaDoor.ck
