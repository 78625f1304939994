/-
  ShowVars' walk.
-/
import Derived.Test.YtmhjcnnocllniaaDoorShVarR
import Derived.Test.YtmhjcnnocllniaaDoorShRight
import Derived.Test.YtmhjcnnocllniaaDoorTrGreat
import Derived.Deep.RegionHeld3
namespace Go.Proofs.YtmhjcnnocllniaaDoor.showVars
open Go.ChangeShapes Go.WideShapes Go.ChangeAt Go.RowKit Go.Proofs.YtmhjcnnocllniaaDoor.tr Go.Proofs.YtmhjcnnocllniaaDoor.sh
set_option linter.unusedVariables false
set_option linter.unusedSimpArgs false

theorem ch15 {W : World} {g : Nat} {T : TypeId} {d0 d1 d2 d3 d4 d5 d6 d7 d8 d9 d10 d11 d12 d13 d14 : Value} (h : Has W g T #[d0, d1, d2, d3, d4, d5, d6, d7, d8, d9, d10, d11, d12, d13, d14]) :
    W.cell? ⟨g, 0, none⟩ = some d0 ∧ W.cell? ⟨g, 1, none⟩ = some d1 ∧ W.cell? ⟨g, 2, none⟩ = some d2 ∧ W.cell? ⟨g, 3, none⟩ = some d3 ∧ W.cell? ⟨g, 4, none⟩ = some d4 ∧ W.cell? ⟨g, 5, none⟩ = some d5 ∧ W.cell? ⟨g, 6, none⟩ = some d6 ∧ W.cell? ⟨g, 7, none⟩ = some d7 ∧ W.cell? ⟨g, 8, none⟩ = some d8 ∧ W.cell? ⟨g, 9, none⟩ = some d9 ∧ W.cell? ⟨g, 10, none⟩ = some d10 ∧ W.cell? ⟨g, 11, none⟩ = some d11 ∧ W.cell? ⟨g, 12, none⟩ = some d12 ∧ W.cell? ⟨g, 13, none⟩ = some d13 ∧ W.cell? ⟨g, 14, none⟩ = some d14 :=
  ⟨h.cell 0, h.cell 1, h.cell 2, h.cell 3, h.cell 4, h.cell 5, h.cell 6, h.cell 7, h.cell 8, h.cell 9, h.cell 10, h.cell 11, h.cell 12, h.cell 13, h.cell 14⟩

set_option maxRecDepth 100000 in
set_option maxHeartbeats 8000000 in
theorem walk (w : World) (cs : Array Value) (v : Vr) (hl : LaidV w v cs.toList) (hf : fitE v.first) (hw : wtV v ≤ 1000000000) (hL : Laid w) :
    Calls Tryd.prog 4 #[.agg cs] w fun e w' => e = .returned (.bool true) ∧ Below w.heap.size w w' := by
  have hl' := hl
  obtain ⟨htk, hcl, ca, cc, c0, c1, c2, c3, c4, c5, c6, c7, hlc, hons, hcs⟩ := hl'
  obtain rfl : cs = #[.string v.name, .int .u8 v.tk, .string v.tn, .slice ca v.clock.length cc, .bool v.last, c0, c1, c2, c3, c4, c5, c6, c7, .int .i64 v.line, .int .i64 v.col] := by apply Array.toList_inj.1; rw [hcs]
  have hwt : wt v.first ≤ 1000000000 := by unfold wtV at hw; omega
  obtain ⟨xs, hxs⟩ : ∃ xs : Array Value, xs = #[.string v.name, .int .u8 v.tk, .string v.tn, .slice ca v.clock.length cc, .bool v.last, c0, c1, c2, c3, c4, c5, c6, c7, .int .i64 v.line, .int .i64 v.col] := ⟨_, rfl⟩
  have HSH : okE v.first = true → Hid (∀ wx, OverV w xs wx → Calls Tryd.prog 10 #[.agg #[.string v.name, .int .u8 v.tk, .string v.tn, .slice ca v.clock.length cc, .bool v.last, c0, c1, c2, c3, c4, c5, c6, c7, .int .i64 v.line, .int .i64 v.col]] wx (ShownPost wx (txtV v))) := fun hok => Lib.hid (fun wx h => showv_any wx v _ (hl.below h.below) hok hf (hL.below h.below) (by omega))
  have HRF : okE v.first = true → Hid (∀ wx, OverV w xs wx → Calls Tryd.prog 11 #[.agg #[.string v.name, .int .u8 v.tk, .string v.tn, .slice ca v.clock.length cc, .bool v.last, c0, c1, c2, c3, c4, c5, c6, c7, .int .i64 v.line, .int .i64 v.col]] wx (TextPost wx (txtV v))) := fun hok => Lib.hid (fun wx h => refv_any wx v _ (hl.below h.below) hok hf (by omega))
  generalize txtV v = tx at *
  clear hl hw hcs
  obtain ⟨name, tk, tn, clock, last, first, line, col⟩ := v
  simp only at *
  have hs0 := OverV.start w xs
  have HV : Hid (∀ w', OverV w xs w' → (OverV w xs w' ∧ w'.cell? ⟨w.heap.size, 0, none⟩ = some (.string name) ∧ w'.cell? ⟨w.heap.size, 1, none⟩ = some (.int .u8 tk) ∧ w'.cell? ⟨w.heap.size, 2, none⟩ = some (.string tn) ∧ w'.cell? ⟨w.heap.size, 3, none⟩ = some (.slice ca clock.length cc) ∧ w'.cell? ⟨w.heap.size, 4, none⟩ = some (.bool last) ∧ w'.cell? ⟨w.heap.size, 5, none⟩ = some (c0) ∧ w'.cell? ⟨w.heap.size, 6, none⟩ = some (c1) ∧ w'.cell? ⟨w.heap.size, 7, none⟩ = some (c2) ∧ w'.cell? ⟨w.heap.size, 8, none⟩ = some (c3) ∧ w'.cell? ⟨w.heap.size, 9, none⟩ = some (c4) ∧ w'.cell? ⟨w.heap.size, 10, none⟩ = some (c5) ∧ w'.cell? ⟨w.heap.size, 11, none⟩ = some (c6) ∧ w'.cell? ⟨w.heap.size, 12, none⟩ = some (c7) ∧ w'.cell? ⟨w.heap.size, 13, none⟩ = some (.int .i64 line) ∧ w'.cell? ⟨w.heap.size, 14, none⟩ = some (.int .i64 col))) := Lib.hid fun w' h => by
    have h8 := h.has
    rw [hxs] at h8
    exact ⟨h, ch15 h8⟩
  have HO : Hid (∀ wx, OverV w xs wx → Below w.heap.size w wx) := Lib.hid (fun wx h => h.below)
  have HLT : Hid (∀ w1 wx, OverV w xs w1 → Below w1.heap.size w1 wx → OverV w xs wx) := Lib.hid (fun w1 wx h hb => h.later hb)
  have HS0 : Hid (OverV w xs (w.alloc (.cells #[.string name, .int .u8 tk, .string tn, .slice ca clock.length cc, .bool last, c0, c1, c2, c3, c4, c5, c6, c7, .int .i64 line, .int .i64 col] 36))) := Lib.hid (by have h := hs0; rw [hxs] at h ⊢; exact h)
  have HG : Hid (∀ wx, OverV w xs wx → Calls Tryd.prog 5 #[.agg #[c0, c1, c2, c3, c4, c5, c6, c7], .int .i64 300] wx (fun e w' => e = .returned (.bool (decide (countD 200 300 first < 0))) ∧ Below wx.heap.size wx w')) := Lib.hid (fun wx h => great_any wx first _ 300 (LaidC.below h.below _ _ hlc) (by omega) (by omega))
  have HR : Hid (∀ wx, OverV w xs wx → Calls Tryd.prog 6 #[.agg #[c0, c1, c2, c3, c4, c5, c6, c7]] wx (RightPost wx (okE first))) := Lib.hid (fun wx h => right_does first wx _ (LaidC.below h.below _ _ hlc))
  have HA : Hid (∀ wx, OverV w xs wx → Calls Tryd.prog 7 #[] wx (fun e w' => e = .returned (.bool true) ∧ Below wx.heap.size wx w')) := Lib.hid (fun wx h => awake_any wx (hL.below h.below))
  have HTY : Hid (∀ W, Calls Tryd.prog 12 #[.agg #[.int .u8 tk, .string tn]] W (fun e w' => e = .returned (.string (typeS tk tn)) ∧ Below W.heap.size W w')) := Lib.hid (fun W => type_any W tk tn)
  have HTR : Hid (∀ W, Calls Tryd.prog 13 #[.agg #[.int .u8 tk, .string tn]] W (fun e w' => e = .returned (.string (typeS tk tn)) ∧ Below W.heap.size W w')) := Lib.hid (fun W => rtype_any W tk tn)
  unfold maxLen at hcl
  generalize typeS tk tn = ty at *
  obtain ⟨_, x0, x1, x2, x3, x4, x5, x6, x7, x8, x9, x10, x11, x12, x13, x14⟩ := HV.out _ HS0.out
  clear hlc hons hf hL hs0 htk hwt
  unfold RightPost at HR
  cases hg : decide (countD 200 300 first < 0)
  case true =>
    rw [hg] at HG
    clear hg HR HSH HRF
    go_enter Tryd.func4, Tryd.ntmps4
    go_wp2_with fail
    refine (HG.out _ HS0.out).mono ?_
    rintro e w1 ⟨rfl, hb1⟩
    have HO1 := Lib.hid (HLT.out _ _ HS0.out hb1)
    clear hb1
    go_wp2_with fail
    refine (HA.out _ HO1.out).mono ?_
    rintro e w2 ⟨rfl, hb2⟩
    have HO2 := Lib.hid (HO.out _ (HLT.out _ _ HO1.out hb2))
    clear hb2
    go_wp2_with fail
    go_ret
    exact ⟨rfl, HO2.out⟩
  case false =>
    rw [hg] at HG
    cases hok : okE first
    case false =>
      rw [hok] at HR
      clear hg hok HSH HRF
      go_enter Tryd.func4, Tryd.ntmps4
      go_wp2_with fail
      refine (HG.out _ HS0.out).mono ?_
      rintro e w1 ⟨rfl, hb1⟩
      have HO1 := Lib.hid (HLT.out _ _ HS0.out hb1)
      obtain ⟨_, y0, y1, y2, y3, y4, y5, y6, y7, y8, y9, y10, y11, y12, y13, y14⟩ := HV.out _ HO1.out
      clear hb1 x0 x1 x2 x3 x4 x5 x6 x7 x8 x9 x10 x11 x12 x13 x14
      go_wp2_with fail
      refine (HR.out _ HO1.out).mono ?_
      rintro e w2 ⟨rfl, hb2⟩
      have HO2 := Lib.hid (HLT.out _ _ HO1.out hb2)
      clear hb2 y0 y1 y2 y3 y4 y5 y6 y7 y8 y9 y10 y11 y12 y13 y14
      go_wp2_with fail
      refine (HA.out _ HO2.out).mono ?_
      rintro e w3 ⟨rfl, hb3⟩
      have HO3 := Lib.hid (HO.out _ (HLT.out _ _ HO2.out hb3))
      clear hb3
      go_wp2_with fail
      go_ret
      exact ⟨rfl, HO3.out⟩
    case true =>
      rw [hok] at HR
      have HSH1 := HSH hok
      have HRF1 := HRF hok
      unfold ShownPost at HSH1
      unfold TextPost at HRF1
      clear hg hok HSH HRF
      by_cases hlen : 20 < clock.length
      · have hli : (20 : Int) < (clock.length : Int) := by omega
        clear HSH1 HRF1 hlen
        go_enter Tryd.func4, Tryd.ntmps4
        go_wp2_with fail
        refine (HG.out _ HS0.out).mono ?_
        rintro e w1 ⟨rfl, hb1⟩
        have HO1 := Lib.hid (HLT.out _ _ HS0.out hb1)
        obtain ⟨_, y0, y1, y2, y3, y4, y5, y6, y7, y8, y9, y10, y11, y12, y13, y14⟩ := HV.out _ HO1.out
        clear hb1 x0 x1 x2 x3 x4 x5 x6 x7 x8 x9 x10 x11 x12 x13 x14
        go_wp2_with fail
        refine (HR.out _ HO1.out).mono ?_
        rintro e w2 ⟨rfl, hb2⟩
        have HO2 := Lib.hid (HLT.out _ _ HO1.out hb2)
        obtain ⟨_, z0, z1, z2, z3, z4, z5, z6, z7, z8, z9, z10, z11, z12, z13, z14⟩ := HV.out _ HO2.out
        clear hb2 y0 y1 y2 y3 y4 y5 y6 y7 y8 y9 y10 y11 y12 y13 y14
        go_wp2_with fail
        refine (HA.out _ HO2.out).mono ?_
        rintro e w3 ⟨rfl, hb3⟩
        have HO3 := Lib.hid (HO.out _ (HLT.out _ _ HO2.out hb3))
        clear hb3
        go_wp2_with fail
        go_ret
        exact ⟨rfl, HO3.out⟩
      · have hli : ¬ (20 : Int) < (clock.length : Int) := by omega
        clear hlen
        obtain ⟨sx, hsx⟩ : ∃ sx : ByteArray, sx = ⟨tx.toArray⟩ := ⟨_, rfl⟩
        have HEQ : Hid (∀ s : ByteArray, bs s = tx → s = sx) := Lib.hid (fun s h => by rw [hsx, ← h])
        rw [← hsx] at HSH1
        have hss : (sx.toList == sx.toList) = true := beq_self_eq_true _
        have htt : (ty.toList == ty.toList) = true := beq_self_eq_true _
        have HK : Hid (∀ (w1 w' : World) (R : Prop), (OverV w xs w1 ∧ R) → Below w1.heap.size w1 w' → (OverV w xs w' ∧ w'.cell? ⟨w.heap.size, 0, none⟩ = some (.string name) ∧ w'.cell? ⟨w.heap.size, 1, none⟩ = some (.int .u8 tk) ∧ w'.cell? ⟨w.heap.size, 2, none⟩ = some (.string tn) ∧ w'.cell? ⟨w.heap.size, 3, none⟩ = some (.slice ca clock.length cc) ∧ w'.cell? ⟨w.heap.size, 4, none⟩ = some (.bool last) ∧ w'.cell? ⟨w.heap.size, 5, none⟩ = some (c0) ∧ w'.cell? ⟨w.heap.size, 6, none⟩ = some (c1) ∧ w'.cell? ⟨w.heap.size, 7, none⟩ = some (c2) ∧ w'.cell? ⟨w.heap.size, 8, none⟩ = some (c3) ∧ w'.cell? ⟨w.heap.size, 9, none⟩ = some (c4) ∧ w'.cell? ⟨w.heap.size, 10, none⟩ = some (c5) ∧ w'.cell? ⟨w.heap.size, 11, none⟩ = some (c6) ∧ w'.cell? ⟨w.heap.size, 12, none⟩ = some (c7) ∧ w'.cell? ⟨w.heap.size, 13, none⟩ = some (.int .i64 line) ∧ w'.cell? ⟨w.heap.size, 14, none⟩ = some (.int .i64 col))) := Lib.hid (fun w1 w' R h hb => HV.out w' (HLT.out w1 w' h.1 hb))
        clear hsx
        go_enter Tryd.func4, Tryd.ntmps4
        go_wp2_with fail
        refine (HG.out _ HS0.out).mono ?_
        rintro e w1 ⟨rfl, hb1⟩
        have HO1 := Lib.hid (HLT.out _ _ HS0.out hb1)
        obtain ⟨_, y0, y1, y2, y3, y4, y5, y6, y7, y8, y9, y10, y11, y12, y13, y14⟩ := HV.out _ HO1.out
        clear hb1 x0 x1 x2 x3 x4 x5 x6 x7 x8 x9 x10 x11 x12 x13 x14
        go_wp2_with fail
        refine (HR.out _ HO1.out).mono ?_
        rintro e w2 ⟨rfl, hb2⟩
        have HO2 := Lib.hid (HLT.out _ _ HO1.out hb2)
        have HB0 : Hid (OverV w xs w2.drew ∧ w2.drew.cell? ⟨w.heap.size, 0, none⟩ = some (.string name) ∧ w2.drew.cell? ⟨w.heap.size, 1, none⟩ = some (.int .u8 tk) ∧ w2.drew.cell? ⟨w.heap.size, 2, none⟩ = some (.string tn) ∧ w2.drew.cell? ⟨w.heap.size, 3, none⟩ = some (.slice ca clock.length cc) ∧ w2.drew.cell? ⟨w.heap.size, 4, none⟩ = some (.bool last) ∧ w2.drew.cell? ⟨w.heap.size, 5, none⟩ = some (c0) ∧ w2.drew.cell? ⟨w.heap.size, 6, none⟩ = some (c1) ∧ w2.drew.cell? ⟨w.heap.size, 7, none⟩ = some (c2) ∧ w2.drew.cell? ⟨w.heap.size, 8, none⟩ = some (c3) ∧ w2.drew.cell? ⟨w.heap.size, 9, none⟩ = some (c4) ∧ w2.drew.cell? ⟨w.heap.size, 10, none⟩ = some (c5) ∧ w2.drew.cell? ⟨w.heap.size, 11, none⟩ = some (c6) ∧ w2.drew.cell? ⟨w.heap.size, 12, none⟩ = some (c7) ∧ w2.drew.cell? ⟨w.heap.size, 13, none⟩ = some (.int .i64 line) ∧ w2.drew.cell? ⟨w.heap.size, 14, none⟩ = some (.int .i64 col)) := Lib.hid (HV.out _ HO2.out.drew)
        obtain ⟨_, z0, z1, z2, z3, z4, z5, z6, z7, z8, z9, z10, z11, z12, z13, z14⟩ := HV.out _ HO2.out
        clear hb2 y0 y1 y2 y3 y4 y5 y6 y7 y8 y9 y10 y11 y12 y13 y14
        go_wp2_with fail
        clear z0 z1 z2 z3 z4 z5 z6 z7 z8 z9 z10 z11 z12 z13 z14
        go_region_held3 (fun w' => OverV w xs w' ∧ w'.cell? ⟨w.heap.size, 0, none⟩ = some (.string name) ∧ w'.cell? ⟨w.heap.size, 1, none⟩ = some (.int .u8 tk) ∧ w'.cell? ⟨w.heap.size, 2, none⟩ = some (.string tn) ∧ w'.cell? ⟨w.heap.size, 3, none⟩ = some (.slice ca clock.length cc) ∧ w'.cell? ⟨w.heap.size, 4, none⟩ = some (.bool last) ∧ w'.cell? ⟨w.heap.size, 5, none⟩ = some (c0) ∧ w'.cell? ⟨w.heap.size, 6, none⟩ = some (c1) ∧ w'.cell? ⟨w.heap.size, 7, none⟩ = some (c2) ∧ w'.cell? ⟨w.heap.size, 8, none⟩ = some (c3) ∧ w'.cell? ⟨w.heap.size, 9, none⟩ = some (c4) ∧ w'.cell? ⟨w.heap.size, 10, none⟩ = some (c5) ∧ w'.cell? ⟨w.heap.size, 11, none⟩ = some (c6) ∧ w'.cell? ⟨w.heap.size, 12, none⟩ = some (c7) ∧ w'.cell? ⟨w.heap.size, 13, none⟩ = some (.int .i64 line) ∧ w'.cell? ⟨w.heap.size, 14, none⟩ = some (.int .i64 col))
          (first | exact HK.out _ _ _ (by assumption) hb7 | exact HK.out _ _ _ (by assumption) hb6 | exact HK.out _ _ _ (by assumption) hb5 | exact HK.out _ _ _ (by assumption) hb4 | exact HK.out _ _ _ (by assumption) hb3 | exact HB0.out)
          (first
            | (go_at_call 7; refine (HA.out _ (And.left (by assumption))).mono ?_; rintro e w3 ⟨rfl, hb3⟩)
            | (go_at_call 10; refine (HSH1.out _ (And.left (by assumption))).mono ?_; rintro e w4 ⟨rfl, hb4⟩)
            | (go_at_call 11; refine (HRF1.out _ (And.left (by assumption))).mono ?_; rintro e w5 ⟨⟨s5, rfl, hs5, hz5⟩, hb5⟩; obtain rfl := HEQ.out s5 hs5)
            | (go_at_call 12; refine (HTY.out _).mono ?_; rintro e w6 ⟨rfl, hb6⟩)
            | (go_at_call 13; refine (HTR.out _).mono ?_; rintro e w7 ⟨rfl, hb7⟩))
        all_goals
          have HZ := Lib.hid (HO.out w7 (And.left (by assumption)))
          go_wp2_with fail
          go_ret
          exact ⟨rfl, HZ.out⟩
end Go.Proofs.YtmhjcnnocllniaaDoor.showVars
