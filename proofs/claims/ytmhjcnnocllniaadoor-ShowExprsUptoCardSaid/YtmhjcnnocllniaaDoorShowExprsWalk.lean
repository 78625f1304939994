/-
  ShowExprs' walk.
-/
import Derived.Test.YtmhjcnnocllniaaDoorShTop
import Derived.Test.YtmhjcnnocllniaaDoorShRight
import Derived.Test.YtmhjcnnocllniaaDoorTrGreat
import Derived.Deep.RegionHeld3
namespace Go.Proofs.YtmhjcnnocllniaaDoor.showExprs
open Go.ChangeShapes Go.WideShapes Go.ChangeAt Go.RowKit Go.Proofs.YtmhjcnnocllniaaDoor.tr Go.Proofs.YtmhjcnnocllniaaDoor.sh
set_option linter.unusedVariables false
set_option linter.unusedSimpArgs false

set_option maxRecDepth 100000 in
set_option maxHeartbeats 8000000 in
theorem walk (w : World) (cs : Array Value) (x : Ex) (hl : LaidC w x cs.toList) (hf : fitE x) (hw : wt x ≤ 1000000000) (hL : Laid w) :
    Calls Tryd.prog 3 #[.agg cs] w fun e w' => e = .returned (.bool true) ∧ Below w.heap.size w w' := by
  obtain ⟨c0, c1, c2, c3, c4, c5, c6, c7, rfl⟩ := hl.form
  obtain ⟨xs, hxs⟩ : ∃ xs : Array Value, xs = #[c0, c1, c2, c3, c4, c5, c6, c7] := ⟨_, rfl⟩
  have hs0 := Over.start w xs
  have HV : Hid (∀ w', Over w xs w' → w'.cell? ⟨w.heap.size, 0, none⟩ = some c0 ∧ w'.cell? ⟨w.heap.size, 1, none⟩ = some c1 ∧ w'.cell? ⟨w.heap.size, 2, none⟩ = some c2 ∧ w'.cell? ⟨w.heap.size, 3, none⟩ = some c3 ∧ w'.cell? ⟨w.heap.size, 4, none⟩ = some c4 ∧ w'.cell? ⟨w.heap.size, 5, none⟩ = some c5 ∧ w'.cell? ⟨w.heap.size, 6, none⟩ = some c6 ∧ w'.cell? ⟨w.heap.size, 7, none⟩ = some c7) := Lib.hid fun w' h => by
    have h8 := h.has
    rw [hxs] at h8
    exact has8 h8
  have HO : Hid (∀ wx, Over w xs wx → Below w.heap.size w wx) := Lib.hid (fun wx h => h.below)
  have HLT : Hid (∀ w1 wx, Over w xs w1 → Below w1.heap.size w1 wx → Over w xs wx) := Lib.hid (fun w1 wx h hb => h.later hb)
  have HLC : Hid (∀ wx, Over w xs wx → LaidC wx x [c0, c1, c2, c3, c4, c5, c6, c7]) := Lib.hid (fun wx h => LaidC.below h.below _ _ hl)
  have HLL : Hid (∀ wx, Over w xs wx → Laid wx) := Lib.hid (fun wx h => hL.below h.below)
  have HS0 : Hid (Over w xs (w.alloc (.cells #[c0, c1, c2, c3, c4, c5, c6, c7] 27))) := Lib.hid (by have h := hs0; rw [hxs] at h ⊢; exact h)
  have HG : Hid (∀ wx, Over w xs wx → Calls Tryd.prog 5 #[.agg #[c0, c1, c2, c3, c4, c5, c6, c7], .int .i64 300] wx (fun e w' => e = .returned (.bool (decide (countD 200 300 x < 0))) ∧ Below wx.heap.size wx w')) := Lib.hid (fun wx h => great_any wx x _ 300 (HLC.out wx h) (by omega) (by omega))
  have HR : Hid (∀ wx, Over w xs wx → Calls Tryd.prog 6 #[.agg #[c0, c1, c2, c3, c4, c5, c6, c7]] wx (RightPost wx (okE x))) := Lib.hid (fun wx h => right_does x wx _ (HLC.out wx h))
  have HA : Hid (∀ wx, Over w xs wx → Calls Tryd.prog 7 #[] wx (fun e w' => e = .returned (.bool true) ∧ Below wx.heap.size wx w')) := Lib.hid (fun wx h => awake_any wx (HLL.out wx h))
  have HSH : okE x = true → Hid (∀ wx, Over w xs wx → Calls Tryd.prog 8 #[.agg #[c0, c1, c2, c3, c4, c5, c6, c7]] wx (ShownPost wx (txt x))) := fun hok => Lib.hid (fun wx h => show_any wx x _ (HLC.out wx h) hok hf (HLL.out wx h) (by omega))
  have HRF : okE x = true → Hid (∀ wx, Over w xs wx → Calls Tryd.prog 9 #[.agg #[c0, c1, c2, c3, c4, c5, c6, c7]] wx (TextPost wx (txt x))) := fun hok => Lib.hid (fun wx h => ref_does x hok hf (by omega) wx _ (HLC.out wx h))
  have hv0 := HV.out _ HS0.out
  obtain ⟨x0, x1, x2, x3, x4, x5, x6, x7⟩ := hv0
  clear hl hf hw hL hs0 HLC HLL
  cases hg : decide (countD 200 300 x < 0)
  case true =>
    rw [hg] at HG
    clear hg HR HSH HRF
    go_enter Tryd.func3, Tryd.ntmps3
    go_wp2_with fail
    refine (HG.out _ HS0.out).mono ?_
    rintro e w1 ⟨rfl, hb1⟩
    have HO1 := Lib.hid (HLT.out _ _ HS0.out hb1)
    clear hb1
    go_wp2_with fail
    refine (HA.out _ HO1.out).mono ?_
    rintro e w2 ⟨rfl, hb2⟩
    have HO2 := Lib.hid (HO.out _ (HLT.out _ _ HO1.out hb2))
    clear hb2
    go_wp2_with fail
    go_ret
    exact ⟨rfl, HO2.out⟩
  case false =>
    rw [hg] at HG
    unfold RightPost at HR
    cases hok : okE x
    case false =>
      rw [hok] at HR
      clear hg hok HSH HRF
      go_enter Tryd.func3, Tryd.ntmps3
      go_wp2_with fail
      refine (HG.out _ HS0.out).mono ?_
      rintro e w1 ⟨rfl, hb1⟩
      have HO1 := Lib.hid (HLT.out _ _ HS0.out hb1)
      obtain ⟨y0, y1, y2, y3, y4, y5, y6, y7⟩ := HV.out _ HO1.out
      clear hb1 x0 x1 x2 x3 x4 x5 x6 x7
      go_wp2_with fail
      refine (HR.out _ HO1.out).mono ?_
      rintro e w2 ⟨rfl, hb2⟩
      have HO2 := Lib.hid (HLT.out _ _ HO1.out hb2)
      clear hb2 y0 y1 y2 y3 y4 y5 y6 y7
      go_wp2_with fail
      refine (HA.out _ HO2.out).mono ?_
      rintro e w3 ⟨rfl, hb3⟩
      have HO3 := Lib.hid (HO.out _ (HLT.out _ _ HO2.out hb3))
      clear hb3
      go_wp2_with fail
      go_ret
      exact ⟨rfl, HO3.out⟩
    case true =>
      rw [hok] at HR
      have HSH1 := HSH hok
      have HRF1 := HRF hok
      unfold ShownPost at HSH1
      unfold TextPost at HRF1
      clear hg hok HSH HRF
      obtain ⟨sx, hsx⟩ : ∃ sx : ByteArray, sx = ⟨(txt x).toArray⟩ := ⟨_, rfl⟩
      have HEQ : Hid (∀ s : ByteArray, bs s = txt x → s = sx) := Lib.hid (fun s h => by rw [hsx, ← h])
      rw [← hsx] at HSH1
      have hss : (sx.toList == sx.toList) = true := beq_self_eq_true _
      have HK : Hid (∀ (w1 w' : World) (R : Prop), (Over w xs w1 ∧ R) → Below w1.heap.size w1 w' → Over w xs w' ∧ w'.cell? ⟨w.heap.size, 0, none⟩ = some c0 ∧ w'.cell? ⟨w.heap.size, 1, none⟩ = some c1 ∧ w'.cell? ⟨w.heap.size, 2, none⟩ = some c2 ∧ w'.cell? ⟨w.heap.size, 3, none⟩ = some c3 ∧ w'.cell? ⟨w.heap.size, 4, none⟩ = some c4 ∧ w'.cell? ⟨w.heap.size, 5, none⟩ = some c5 ∧ w'.cell? ⟨w.heap.size, 6, none⟩ = some c6 ∧ w'.cell? ⟨w.heap.size, 7, none⟩ = some c7) := Lib.hid (fun w1 w' R h hb => ⟨h.1.later hb, HV.out w' (h.1.later hb)⟩)
      clear hsx
      go_enter Tryd.func3, Tryd.ntmps3
      go_wp2_with fail
      refine (HG.out _ HS0.out).mono ?_
      rintro e w1 ⟨rfl, hb1⟩
      have HO1 := Lib.hid (HLT.out _ _ HS0.out hb1)
      obtain ⟨y0, y1, y2, y3, y4, y5, y6, y7⟩ := HV.out _ HO1.out
      clear hb1 x0 x1 x2 x3 x4 x5 x6 x7
      go_wp2_with fail
      refine (HR.out _ HO1.out).mono ?_
      rintro e w2 ⟨rfl, hb2⟩
      have HO2 := Lib.hid (HLT.out _ _ HO1.out hb2)
      have HB0 : Hid (Over w xs w2.drew ∧ w2.drew.cell? ⟨w.heap.size, 0, none⟩ = some c0 ∧ w2.drew.cell? ⟨w.heap.size, 1, none⟩ = some c1 ∧ w2.drew.cell? ⟨w.heap.size, 2, none⟩ = some c2 ∧ w2.drew.cell? ⟨w.heap.size, 3, none⟩ = some c3 ∧ w2.drew.cell? ⟨w.heap.size, 4, none⟩ = some c4 ∧ w2.drew.cell? ⟨w.heap.size, 5, none⟩ = some c5 ∧ w2.drew.cell? ⟨w.heap.size, 6, none⟩ = some c6 ∧ w2.drew.cell? ⟨w.heap.size, 7, none⟩ = some c7) := Lib.hid ⟨HO2.out.drew, HV.out _ HO2.out.drew⟩
      clear hb2 y0 y1 y2 y3 y4 y5 y6 y7
      go_wp2_with fail
      go_region_held3 (fun w' => Over w xs w' ∧ w'.cell? ⟨w.heap.size, 0, none⟩ = some c0 ∧ w'.cell? ⟨w.heap.size, 1, none⟩ = some c1 ∧ w'.cell? ⟨w.heap.size, 2, none⟩ = some c2 ∧ w'.cell? ⟨w.heap.size, 3, none⟩ = some c3 ∧ w'.cell? ⟨w.heap.size, 4, none⟩ = some c4 ∧ w'.cell? ⟨w.heap.size, 5, none⟩ = some c5 ∧ w'.cell? ⟨w.heap.size, 6, none⟩ = some c6 ∧ w'.cell? ⟨w.heap.size, 7, none⟩ = some c7)
        (first | exact HK.out _ _ _ (by assumption) hb5 | exact HK.out _ _ _ (by assumption) hb4 | exact HK.out _ _ _ (by assumption) hb3 | exact HB0.out)
        (first
          | (go_at_call 7; refine (HA.out _ (And.left (by assumption))).mono ?_; rintro e w3 ⟨rfl, hb3⟩)
          | (go_at_call 8; refine (HSH1.out _ (And.left (by assumption))).mono ?_; rintro e w4 ⟨rfl, hb4⟩)
          | (go_at_call 9; refine (HRF1.out _ (And.left (by assumption))).mono ?_; rintro e w5 ⟨⟨s5, rfl, hs5, hz5⟩, hb5⟩; obtain rfl := HEQ.out s5 hs5))
      all_goals
        have HZ := Lib.hid (HO.out w5 (And.left (by assumption)))
        go_wp2_with fail
        go_ret
        exact ⟨rfl, HZ.out⟩
end Go.Proofs.YtmhjcnnocllniaaDoor.showExprs
