/-
  A sampled expression, given what its kids do.
-/
import Derived.Test.YtnejkgkikpgajaaDoorCkExprs
import Derived.Deep.RegionHeld3
import Derived.Lib.QuietBelow
import Derived.Outline
namespace Go.Proofs.YtnejkgkikpgajaaDoor.ck
open Go.ChangeShapes Go.WideShapes Go.ChangeAt Go.RowKit
open tr Go.Sort
set_option linter.unusedVariables false

theorem laid_cell {w : World} {b o k op : Nat} {n : Int} {nm : ByteArray} {nms : List ByteArray} {kids : List Ex} {l c : Int} (h : LaidAt w b o (.mk k op n nm nms kids l c)) :
    ∃ ka kc, kids.length ≤ maxLen ∧ LaidK w ka kids ∧ w.cell? ⟨b, o, none⟩ = some (.int .u8 k) ∧ w.cell? ⟨b, o + 3, none⟩ = some (.string nm) ∧ w.cell? ⟨b, o + 5, none⟩ = some (.slice ka kids.length kc) ∧ w.cell? ⟨b, o + 6, none⟩ = some (.int .i64 l) ∧ w.cell? ⟨b, o + 7, none⟩ = some (.int .i64 c) := by
  obtain ⟨cs, hc, hx⟩ := h
  unfold LaidC at hx
  obtain ⟨_, _, _, hnl, hkl, na, nc, ka, kc, _, _, rfl, hs, hk⟩ := hx
  exact ⟨ka, kc, hkl, hk, by simpa using hc 0 _ rfl, hc 3 _ rfl, hc 5 _ rfl, hc 6 _ rfl, hc 7 _ rfl⟩

set_option maxRecDepth 100000 in
set_option maxHeartbeats 4000000 in
theorem when_nil (w : World) (b o g m k op : Nat) (n : Int) (nm : ByteArray) (nms : List ByteArray) (kids : List Ex) (l c : Int) (L : List En) (d : Int) (er : Bool) (hl : LaidAt w b o (.mk k op n nm nms kids l c)) (hS : St w g m L d er) :
    Calls Tryd.prog 87 #[.pointer (some ⟨g, 0, none⟩), .pointer (some ⟨b, o, none⟩), .pointer none] w (CkPost w g m L d true) := by
  obtain ⟨ka, kc, hkl, hk, c0, c3, c5, c6, c7⟩ := laid_cell hl
  have HM := Lib.hid (fun n => must_any (w.drewN n) g m L d er false l c (hS.below ⟨rfl, rfl, rfl, Nat.le_refl _, fun _ _ => rfl⟩))
  clear hS hk hkl hl c0 c3 c5
  unfold CkPost at *
  go_enter Tryd.func87, Tryd.ntmps87
  go_wp2_with fail
  go_quiet (fail)
  go_wp2_with fail
  refine (HM.out _).mono ?_
  rintro e w2 ⟨rfl, hs, hg⟩
  rw [Bool.not_false, Bool.or_true] at hs
  have HS := Lib.hid hs
  have HG := Lib.hid hg
  clear hs hg
  go_wp2_with fail
  go_returns
  exact ⟨rfl, HS.out, grown_trans (grown_below _ (below_drewN (Below.refl _ _) _)) HG.out⟩

set_option maxRecDepth 100000 in
set_option maxHeartbeats 4000000 in
theorem when_some (w0 w : World) (b o g m op : Nat) (n : Int) (nm : ByteArray) (nms : List ByteArray) (kids : List Ex) (l c : Int) (L : List En) (d : Int) (er : Bool) (a : Option Addr) (p : Smp) (r : List Smp)
    (hD : ∀ i (hi : i < kids.length), ExprDoes w0 kids[i]) (hl : LaidAt w0 b o (.mk 12 op n nm nms kids l c)) (hb : Below w0.heap.size w0 w) (hle : w0.heap.size ≤ g) (hS : St w g m L d er) (hck : CkL w a (p :: r)) :
    Calls Tryd.prog 87 #[.pointer (some ⟨g, 0, none⟩), .pointer (some ⟨b, o, none⟩), .pointer a] w (CkPost w g m L d (er || !okE L d (p :: r) (.mk 12 op n nm nms kids l c))) := by
  have hlw := hl.below hb
  obtain ⟨ka, kc, hkl, hk, c0, c3, c5, c6, c7⟩ := laid_cell hlw
  obtain ⟨gc, a', rfl, hh, hr⟩ := hck
  obtain ⟨p1, p2⟩ := p
  obtain ⟨ka0, kc0, hkl0, hk0, d0, d3, d5, d6, d7⟩ := laid_cell hl
  have hck1 := (hb.cell (p := ⟨b, o + 5, none⟩) (World.block_lt_of_cell? w0 _ d5)).trans d5
  rw [c5] at hck1
  simp only [Option.some.injEq, Value.slice.injEq] at hck1
  obtain ⟨rfl, -, rfl⟩ := hck1
  have HSS : Hid (∀ W, Below w.heap.size w W → W.cell? ⟨gc, 0, none⟩ = some (.string p1) ∧ W.cell? ⟨gc, 1, none⟩ = some (.string p2) ∧ W.cell? ⟨gc, 2, none⟩ = some (.pointer a') ∧ W.cell? ⟨b, o + 3, none⟩ = some (.string nm)) := Lib.hid (fun W hW =>
    ⟨(hh.below hW hh.lt).cell 0, (hh.below hW hh.lt).cell 1, (hh.below hW hh.lt).cell 2, (hW.cell (p := ⟨b, o + 3, none⟩) (World.block_lt_of_cell? w _ c3)).trans c3⟩)
  have HTT : Hid (∀ W, Below w.heap.size w W → W.cell? ⟨gc, 2, none⟩ = some (.pointer a') ∧ W.cell? ⟨b, o + 5, none⟩ = some (.slice ka kids.length kc)) := Lib.hid (fun W hW =>
    ⟨(hh.below hW hh.lt).cell 2, (hW.cell (p := ⟨b, o + 5, none⟩) (World.block_lt_of_cell? w _ c5)).trans c5⟩)
  have HUU : Hid (∀ W, Below w.heap.size w W → W.cell? ⟨b, o + 6, none⟩ = some (.int .i64 l) ∧ W.cell? ⟨b, o + 7, none⟩ = some (.int .i64 c)) := Lib.hid (fun W hW =>
    ⟨(hW.cell (p := ⟨b, o + 6, none⟩) (World.block_lt_of_cell? w _ c6)).trans c6, (hW.cell (p := ⟨b, o + 7, none⟩) (World.block_lt_of_cell? w _ c7)).trans c7⟩)
  have HSM : Hid (∀ W, Below w.heap.size w W → Calls Tryd.prog 95 #[.pointer (some ⟨b, o, none⟩), .int .i64 0] W (SmpPost W (smp nms nm 0))) := Lib.hid (fun W hW => smp_any W b o 0 0 rfl _ _ _ _ _ _ _ _ (hlw.below hW))
  have HON : Hid (∀ W, Below w.heap.size w W → Calls Tryd.prog 67 #[.pointer (some ⟨g, 0, none⟩), .string nm, .pointer a'] W (OnPost W (onB L d nm r))) := Lib.hid (fun W hW => on_any W g m L d er nm a' r (hS.below hW) (hr.below hW))
  have HMM : Hid (∀ W, Below w.heap.size w W → Calls Tryd.prog 47 #[.pointer (some ⟨g, 0, none⟩), .bool false, .agg #[.int .i64 l, .int .i64 c]] W (CkPost W g m L d (er || !false))) := Lib.hid (fun W hW => must_any W g m L d er false l c (hS.below hW))
  have HEX : Hid (∀ W, Below w.heap.size w W → Calls Tryd.prog 70 #[.pointer (some ⟨g, 0, none⟩), .slice ka kids.length kc, .pointer a'] W (CkPost W g m L d (er || !okK L d r kids))) := Lib.hid (fun W hW => exprs_of w0 W ka kc g m kids L d er a' r hk0 hkl hD (hb.trans (hW.mono hb.size)) hle (hS.below hW) (hr.below hW))
  have HSD := Lib.hid (HSS.out w.drew (Below.refl _ w).drew)
  obtain ⟨s, hs⟩ : ∃ s, s = smp nms nm 0 := ⟨_, rfl⟩
  obtain ⟨s1, s2⟩ := s
  have HOK : Hid (okE L d ((p1, p2) :: r) (.mk 12 op n nm nms kids l c) = (eqO (p1, p2) (s1, s2) && onB L d nm r && okK L d r kids)) := Lib.hid (by rw [okE, if_neg (by decide), if_pos rfl, hs])
  rw [← hs] at HSM
  simp only [eqO] at HOK
  clear hs hlw hk hkl hk0 hkl0 c0 c3 c5 c6 c7 d0 d3 d5 d6 d7 hh hr hD hl hS
  unfold CkPost SmpPost OnPost at *
  have k0 := fun d os => (HSS.out (grow (redrawn w d) os) (below_regrown _ _ _)).1
  have k1 := fun d os => (HSS.out (grow (redrawn w d) os) (below_regrown _ _ _)).2.1
  have k2 := fun d os => (HSS.out (grow (redrawn w d) os) (below_regrown _ _ _)).2.2.1
  have k3 := fun d os => (HSS.out (grow (redrawn w d) os) (below_regrown _ _ _)).2.2.2
  cases he : eqS p1 s1
  · rw [he, Bool.false_and, Bool.false_and, Bool.false_and] at HOK
    have e1 : (p1.toList == s1.toList) = false := he
    clear he
    go_enter Tryd.func87, Tryd.ntmps87
    go_wp2_with fail
    refine wp_region_quiet_below (by kernel_rfl) (by kernel_rfl) ?_
    repeat (go_big_quiet_step (first | (go_at_call 95; exact Calls.regrown_of (HSM.out _ (below_regrown _ _ _))) | (go_at_call 67; exact Calls.regrown_of (HON.out _ (below_regrown _ _ _))) | fail))
    refine wpQuiet_nil ?_
    intro w2 hw2
    have HB2 : Hid (Below w.heap.size w w2) := Lib.hid (by obtain ⟨p, rfl⟩ := hw2; exact below_regrown _ _ _)
    clear hw2
    obtain ⟨u6, u7⟩ := HUU.out w2 HB2.out
    have HM2 := Lib.hid (HMM.out w2 HB2.out)
    clear HSS HTT HUU HSM HON HMM HEX k0 k1 k2 k3
    go_wp2_with fail
    refine HM2.out.mono ?_
    rintro e w3 ⟨rfl, hs3, hg3⟩
    have HS3 : Hid (St w3 g m L d (er || !okE L d ((p1, p2) :: r) (.mk 12 op n nm nms kids l c))) := Lib.hid (by rw [HOK.out]; exact hs3)
    have HG3 := Lib.hid (grown_trans (grown_below (some g) HB2.out) hg3)
    clear hs3 hg3
    go_wp2_with fail
    go_returns
    exact ⟨rfl, HS3.out, HG3.out⟩
  cases he' : eqS p2 s2
  · rw [he', Bool.and_false, Bool.false_and, Bool.false_and] at HOK
    have e1 : (p1.toList == s1.toList) = true := he
    have e2 : (p2.toList == s2.toList) = false := he'
    clear he he'
    go_enter Tryd.func87, Tryd.ntmps87
    go_wp2_with fail
    refine wp_region_quiet_below (by kernel_rfl) (by kernel_rfl) ?_
    repeat (go_big_quiet_step (first | (go_at_call 95; exact Calls.regrown_of (HSM.out _ (below_regrown _ _ _))) | (go_at_call 67; exact Calls.regrown_of (HON.out _ (below_regrown _ _ _))) | fail))
    refine wpQuiet_nil ?_
    intro w2 hw2
    have HB2 : Hid (Below w.heap.size w w2) := Lib.hid (by obtain ⟨p, rfl⟩ := hw2; exact below_regrown _ _ _)
    clear hw2
    obtain ⟨u6, u7⟩ := HUU.out w2 HB2.out
    have HM2 := Lib.hid (HMM.out w2 HB2.out)
    clear HSS HTT HUU HSM HON HMM HEX k0 k1 k2 k3
    go_wp2_with fail
    refine HM2.out.mono ?_
    rintro e w3 ⟨rfl, hs3, hg3⟩
    have HS3 : Hid (St w3 g m L d (er || !okE L d ((p1, p2) :: r) (.mk 12 op n nm nms kids l c))) := Lib.hid (by rw [HOK.out]; exact hs3)
    have HG3 := Lib.hid (grown_trans (grown_below (some g) HB2.out) hg3)
    clear hs3 hg3
    go_wp2_with fail
    go_returns
    exact ⟨rfl, HS3.out, HG3.out⟩
  rw [he, he', Bool.and_self, Bool.true_and] at HOK
  have e1 : (p1.toList == s1.toList) = true := he
  have e2 : (p2.toList == s2.toList) = true := he'
  clear he he'
  cases ho : onB L d nm r
  · rw [ho, Bool.false_and] at HOK
    rw [ho] at HON
    clear ho
    go_enter Tryd.func87, Tryd.ntmps87
    go_wp2_with fail
    refine wp_region_quiet_below (by kernel_rfl) (by kernel_rfl) ?_
    repeat (go_big_quiet_step (first | (go_at_call 95; exact Calls.regrown_of (HSM.out _ (below_regrown _ _ _))) | (go_at_call 67; exact Calls.regrown_of (HON.out _ (below_regrown _ _ _))) | fail))
    refine wpQuiet_nil ?_
    intro w2 hw2
    have HB2 : Hid (Below w.heap.size w w2) := Lib.hid (by obtain ⟨p, rfl⟩ := hw2; exact below_regrown _ _ _)
    clear hw2
    obtain ⟨u6, u7⟩ := HUU.out w2 HB2.out
    have HM2 := Lib.hid (HMM.out w2 HB2.out)
    clear HSS HTT HUU HSM HON HMM HEX k0 k1 k2 k3
    go_wp2_with fail
    refine HM2.out.mono ?_
    rintro e w3 ⟨rfl, hs3, hg3⟩
    have HS3 : Hid (St w3 g m L d (er || !okE L d ((p1, p2) :: r) (.mk 12 op n nm nms kids l c))) := Lib.hid (by rw [HOK.out]; exact hs3)
    have HG3 := Lib.hid (grown_trans (grown_below (some g) HB2.out) hg3)
    clear hs3 hg3
    go_wp2_with fail
    go_returns
    exact ⟨rfl, HS3.out, HG3.out⟩
  · rw [ho, Bool.true_and] at HOK
    rw [ho] at HON
    clear ho
    go_enter Tryd.func87, Tryd.ntmps87
    go_wp2_with fail
    refine wp_region_quiet_below (by kernel_rfl) (by kernel_rfl) ?_
    repeat (go_big_quiet_step (first | (go_at_call 95; exact Calls.regrown_of (HSM.out _ (below_regrown _ _ _))) | (go_at_call 67; exact Calls.regrown_of (HON.out _ (below_regrown _ _ _))) | fail))
    refine wpQuiet_nil ?_
    intro w2 hw2
    have HB2 : Hid (Below w.heap.size w w2) := Lib.hid (by obtain ⟨p, rfl⟩ := hw2; exact below_regrown _ _ _)
    clear hw2
    obtain ⟨u6, u7⟩ := HTT.out w2.drew (HB2.out.trans ((Below.refl _ _).drew.mono HB2.out.size))
    have HX2 := Lib.hid (HEX.out w2.drew (HB2.out.trans ((Below.refl _ _).drew.mono HB2.out.size)))
    have HGD : Hid (w.grownBy w2.drew (some g)) := Lib.hid (grown_below _ (HB2.out.trans ((Below.refl _ _).drew.mono HB2.out.size)))
    clear HSS HTT HUU HSM HON HMM HEX k0 k1 k2 k3
    go_wp2_with fail
    go_still_tail 9, (by kernel_rfl)
    change wpList _ _ _ _ _ w2.drew
    generalize w2.drew = w3 at *
    go_wp2_with fail
    refine HX2.out.mono ?_
    rintro e w4 ⟨rfl, hs4, hg4⟩
    have HS3 : Hid (St w4 g m L d (er || !okE L d ((p1, p2) :: r) (.mk 12 op n nm nms kids l c))) := Lib.hid (by rw [HOK.out]; exact hs4)
    have HG3 := Lib.hid (grown_trans HGD.out hg4)
    clear hs4 hg4
    go_wp2_with fail
    go_returns
    exact ⟨rfl, HS3.out, HG3.out⟩
end Go.Proofs.YtnejkgkikpgajaaDoor.ck
