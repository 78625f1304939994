/-
  SameVar tells of any two variables whether they are one, as the document's own answer does, and of each that it is itself (of variables whose first value has more than 1,000 parts or is deeper than 200, or that stand on more than 100 samplings, the law says nothing). No condition. The walk.
-/
import Derived.Test.YtjkkalhgbfbcbaaTvReg
import Derived.Outline
import Derived.Deep.LoopGhost
namespace Go.Proofs.Ytjkkalhgbfbcbaa.treeVars
open Go.ChangeShapes Go.WideShapes Go.ChangeAt Go.RowKit
set_option linter.unusedVariables false
open tr
set_option maxRecDepth 100000 in
set_option maxHeartbeats 40000000 in
theorem case_g0 (w : World) (a0 a1 a2 a4 a13 a14 b0 b1 b2 b4 b13 b14 c0 c1 c2 c3 c4 c5 c6 c7 d0 d1 d2 d3 d4 d5 d6 d7 : Value) (ca da : Option Addr) (na nb cc dc : Nat)
    (hG0 : ∀ wx, Good w #[a0, a1, a2, .slice ca na cc, a4, c0, c1, c2, c3, c4, c5, c6, c7, a13, a14] #[b0, b1, b2, .slice da nb dc, b4, d0, d1, d2, d3, d4, d5, d6, d7, b13, b14] wx → Calls Try.prog 16 #[.agg #[c0, c1, c2, c3, c4, c5, c6, c7], .int .i64 1000] wx (fun e w' => e = .returned (.bool true) ∧ Below wx.heap.size wx w')) :
    Calls Try.prog 4 #[.agg #[a0, a1, a2, .slice ca na cc, a4, c0, c1, c2, c3, c4, c5, c6, c7, a13, a14], .agg #[b0, b1, b2, .slice da nb dc, b4, d0, d1, d2, d3, d4, d5, d6, d7, b13, b14]] w fun e w' => e = .returned (.bool true) ∧ Below w.heap.size w w' := by
  have hb := ((Below.refl w.heap.size w).alloc (Nat.le_refl _) (.cells #[a0, a1, a2, .slice ca na cc, a4, c0, c1, c2, c3, c4, c5, c6, c7, a13, a14] 52)).alloc (by simp) (.cells #[b0, b1, b2, .slice da nb dc, b4, d0, d1, d2, d3, d4, d5, d6, d7, b13, b14] 52)
  have hX := (Has.new w 52 #[a0, a1, a2, .slice ca na cc, a4, c0, c1, c2, c3, c4, c5, c6, c7, a13, a14]).alloc (.cells #[b0, b1, b2, .slice da nb dc, b4, d0, d1, d2, d3, d4, d5, d6, d7, b13, b14] 52)
  have hY := Has.new (w.alloc (.cells #[a0, a1, a2, .slice ca na cc, a4, c0, c1, c2, c3, c4, c5, c6, c7, a13, a14] 52)) 52 #[b0, b1, b2, .slice da nb dc, b4, d0, d1, d2, d3, d4, d5, d6, d7, b13, b14]
  simp only [World.size_alloc] at hY
  have HB0 : Hid (Good w #[a0, a1, a2, .slice ca na cc, a4, c0, c1, c2, c3, c4, c5, c6, c7, a13, a14] #[b0, b1, b2, .slice da nb dc, b4, d0, d1, d2, d3, d4, d5, d6, d7, b13, b14] ((w.alloc (.cells #[a0, a1, a2, .slice ca na cc, a4, c0, c1, c2, c3, c4, c5, c6, c7, a13, a14] 52)).alloc (.cells #[b0, b1, b2, .slice da nb dc, b4, d0, d1, d2, d3, d4, d5, d6, d7, b13, b14] 52))) := Lib.hid ⟨hb, hX, hY⟩
  have HI := Lib.hid (fun w1 w2 (h : Good w #[a0, a1, a2, .slice ca na cc, a4, c0, c1, c2, c3, c4, c5, c6, c7, a13, a14] #[b0, b1, b2, .slice da nb dc, b4, d0, d1, d2, d3, d4, d5, d6, d7, b13, b14] w1) (hb : Below w1.heap.size w1 w2) => h.later hb)
  clear hb hX hY
  have HG0 := Lib.hid hG0
  clear hG0
  go_enter Try.func4, Try.ntmps4
  go_wp2_with fail
  refine (HG0.out _ HB0.out).mono ?_
  rintro e w1 ⟨rfl, hb1⟩
  have HB1 := Lib.hid (HI.out _ w1 HB0.out hb1)
  clear hb1
  go_wp2_with fail
  refine (awake_any _).mono ?_
  rintro e w9 ⟨rfl, hb9⟩
  have HB9 := Lib.hid (HB1.out.1.trans (hb9.mono HB1.out.1.size))
  clear hb9
  go_wp2_with fail
  go_ret
  exact ⟨rfl, HB9.out⟩
set_option maxRecDepth 100000 in
set_option maxHeartbeats 40000000 in
theorem case_g1 (w : World) (a0 a1 a2 a4 a13 a14 b0 b1 b2 b4 b13 b14 c0 c1 c2 c3 c4 c5 c6 c7 d0 d1 d2 d3 d4 d5 d6 d7 : Value) (ca da : Option Addr) (na nb cc dc : Nat)
    (hG0 : ∀ wx, Good w #[a0, a1, a2, .slice ca na cc, a4, c0, c1, c2, c3, c4, c5, c6, c7, a13, a14] #[b0, b1, b2, .slice da nb dc, b4, d0, d1, d2, d3, d4, d5, d6, d7, b13, b14] wx → Calls Try.prog 16 #[.agg #[c0, c1, c2, c3, c4, c5, c6, c7], .int .i64 1000] wx (fun e w' => e = .returned (.bool false) ∧ Below wx.heap.size wx w'))
    (hG1 : ∀ wx, Good w #[a0, a1, a2, .slice ca na cc, a4, c0, c1, c2, c3, c4, c5, c6, c7, a13, a14] #[b0, b1, b2, .slice da nb dc, b4, d0, d1, d2, d3, d4, d5, d6, d7, b13, b14] wx → Calls Try.prog 16 #[.agg #[d0, d1, d2, d3, d4, d5, d6, d7], .int .i64 1000] wx (fun e w' => e = .returned (.bool true) ∧ Below wx.heap.size wx w')) :
    Calls Try.prog 4 #[.agg #[a0, a1, a2, .slice ca na cc, a4, c0, c1, c2, c3, c4, c5, c6, c7, a13, a14], .agg #[b0, b1, b2, .slice da nb dc, b4, d0, d1, d2, d3, d4, d5, d6, d7, b13, b14]] w fun e w' => e = .returned (.bool true) ∧ Below w.heap.size w w' := by
  have hb := ((Below.refl w.heap.size w).alloc (Nat.le_refl _) (.cells #[a0, a1, a2, .slice ca na cc, a4, c0, c1, c2, c3, c4, c5, c6, c7, a13, a14] 52)).alloc (by simp) (.cells #[b0, b1, b2, .slice da nb dc, b4, d0, d1, d2, d3, d4, d5, d6, d7, b13, b14] 52)
  have hX := (Has.new w 52 #[a0, a1, a2, .slice ca na cc, a4, c0, c1, c2, c3, c4, c5, c6, c7, a13, a14]).alloc (.cells #[b0, b1, b2, .slice da nb dc, b4, d0, d1, d2, d3, d4, d5, d6, d7, b13, b14] 52)
  have hY := Has.new (w.alloc (.cells #[a0, a1, a2, .slice ca na cc, a4, c0, c1, c2, c3, c4, c5, c6, c7, a13, a14] 52)) 52 #[b0, b1, b2, .slice da nb dc, b4, d0, d1, d2, d3, d4, d5, d6, d7, b13, b14]
  simp only [World.size_alloc] at hY
  have HB0 : Hid (Good w #[a0, a1, a2, .slice ca na cc, a4, c0, c1, c2, c3, c4, c5, c6, c7, a13, a14] #[b0, b1, b2, .slice da nb dc, b4, d0, d1, d2, d3, d4, d5, d6, d7, b13, b14] ((w.alloc (.cells #[a0, a1, a2, .slice ca na cc, a4, c0, c1, c2, c3, c4, c5, c6, c7, a13, a14] 52)).alloc (.cells #[b0, b1, b2, .slice da nb dc, b4, d0, d1, d2, d3, d4, d5, d6, d7, b13, b14] 52))) := Lib.hid ⟨hb, hX, hY⟩
  have HI := Lib.hid (fun w1 w2 (h : Good w #[a0, a1, a2, .slice ca na cc, a4, c0, c1, c2, c3, c4, c5, c6, c7, a13, a14] #[b0, b1, b2, .slice da nb dc, b4, d0, d1, d2, d3, d4, d5, d6, d7, b13, b14] w1) (hb : Below w1.heap.size w1 w2) => h.later hb)
  clear hb hX hY
  have HG0 := Lib.hid hG0
  have HG1 := Lib.hid hG1
  clear hG0 hG1
  go_enter Try.func4, Try.ntmps4
  go_wp2_with fail
  refine (HG0.out _ HB0.out).mono ?_
  rintro e w1 ⟨rfl, hb1⟩
  have HB1 := Lib.hid (HI.out _ w1 HB0.out hb1)
  clear hb1
  obtain ⟨x0c, x1c, x2c, x3c, x4c, x5c, x6c, x7c, x8c, x9c, x10c, x11c, x12c, x13c, x14c⟩ := has15 HB1.out.2.1
  obtain ⟨y0c, y1c, y2c, y3c, y4c, y5c, y6c, y7c, y8c, y9c, y10c, y11c, y12c, y13c, y14c⟩ := has15 HB1.out.2.2
  go_wp2_with fail
  clear x0c x1c x2c x3c x4c x5c x6c x7c x8c x9c x10c x11c x12c x13c x14c y0c y1c y2c y3c y4c y5c y6c y7c y8c y9c y10c y11c y12c y13c y14c
  refine (HG1.out _ HB1.out).mono ?_
  rintro e w2 ⟨rfl, hb2⟩
  have HB2 := Lib.hid (HI.out _ w2 HB1.out hb2)
  clear hb2
  go_wp2_with fail
  refine (awake_any _).mono ?_
  rintro e w9 ⟨rfl, hb9⟩
  have HB9 := Lib.hid (HB2.out.1.trans (hb9.mono HB2.out.1.size))
  clear hb9
  go_wp2_with fail
  go_ret
  exact ⟨rfl, HB9.out⟩
set_option maxRecDepth 100000 in
set_option maxHeartbeats 40000000 in
theorem case_k (w : World) (a0 a1 a2 a4 a13 a14 b0 b1 b2 b4 b13 b14 c0 c1 c2 c3 c4 c5 c6 c7 d0 d1 d2 d3 d4 d5 d6 d7 : Value) (ca da : Option Addr) (na nb cc dc : Nat) (ka : na ≤ 2 ^ 63 - 1) (kb : nb ≤ 2 ^ 63 - 1) (hk : 100 < na ∨ 100 < nb)
    (hG0 : ∀ wx, Good w #[a0, a1, a2, .slice ca na cc, a4, c0, c1, c2, c3, c4, c5, c6, c7, a13, a14] #[b0, b1, b2, .slice da nb dc, b4, d0, d1, d2, d3, d4, d5, d6, d7, b13, b14] wx → Calls Try.prog 16 #[.agg #[c0, c1, c2, c3, c4, c5, c6, c7], .int .i64 1000] wx (fun e w' => e = .returned (.bool false) ∧ Below wx.heap.size wx w'))
    (hG1 : ∀ wx, Good w #[a0, a1, a2, .slice ca na cc, a4, c0, c1, c2, c3, c4, c5, c6, c7, a13, a14] #[b0, b1, b2, .slice da nb dc, b4, d0, d1, d2, d3, d4, d5, d6, d7, b13, b14] wx → Calls Try.prog 16 #[.agg #[d0, d1, d2, d3, d4, d5, d6, d7], .int .i64 1000] wx (fun e w' => e = .returned (.bool false) ∧ Below wx.heap.size wx w')) :
    Calls Try.prog 4 #[.agg #[a0, a1, a2, .slice ca na cc, a4, c0, c1, c2, c3, c4, c5, c6, c7, a13, a14], .agg #[b0, b1, b2, .slice da nb dc, b4, d0, d1, d2, d3, d4, d5, d6, d7, b13, b14]] w fun e w' => e = .returned (.bool true) ∧ Below w.heap.size w w' := by
  have hb := ((Below.refl w.heap.size w).alloc (Nat.le_refl _) (.cells #[a0, a1, a2, .slice ca na cc, a4, c0, c1, c2, c3, c4, c5, c6, c7, a13, a14] 52)).alloc (by simp) (.cells #[b0, b1, b2, .slice da nb dc, b4, d0, d1, d2, d3, d4, d5, d6, d7, b13, b14] 52)
  have hX := (Has.new w 52 #[a0, a1, a2, .slice ca na cc, a4, c0, c1, c2, c3, c4, c5, c6, c7, a13, a14]).alloc (.cells #[b0, b1, b2, .slice da nb dc, b4, d0, d1, d2, d3, d4, d5, d6, d7, b13, b14] 52)
  have hY := Has.new (w.alloc (.cells #[a0, a1, a2, .slice ca na cc, a4, c0, c1, c2, c3, c4, c5, c6, c7, a13, a14] 52)) 52 #[b0, b1, b2, .slice da nb dc, b4, d0, d1, d2, d3, d4, d5, d6, d7, b13, b14]
  simp only [World.size_alloc] at hY
  have HB0 : Hid (Good w #[a0, a1, a2, .slice ca na cc, a4, c0, c1, c2, c3, c4, c5, c6, c7, a13, a14] #[b0, b1, b2, .slice da nb dc, b4, d0, d1, d2, d3, d4, d5, d6, d7, b13, b14] ((w.alloc (.cells #[a0, a1, a2, .slice ca na cc, a4, c0, c1, c2, c3, c4, c5, c6, c7, a13, a14] 52)).alloc (.cells #[b0, b1, b2, .slice da nb dc, b4, d0, d1, d2, d3, d4, d5, d6, d7, b13, b14] 52))) := Lib.hid ⟨hb, hX, hY⟩
  have HI := Lib.hid (fun w1 w2 (h : Good w #[a0, a1, a2, .slice ca na cc, a4, c0, c1, c2, c3, c4, c5, c6, c7, a13, a14] #[b0, b1, b2, .slice da nb dc, b4, d0, d1, d2, d3, d4, d5, d6, d7, b13, b14] w1) (hb : Below w1.heap.size w1 w2) => h.later hb)
  clear hb hX hY
  have HG0 := Lib.hid hG0
  have HG1 := Lib.hid hG1
  clear hG0 hG1
  by_cases k0 : 100 < na
  · clear hk
    go_enter Try.func4, Try.ntmps4
    go_wp2_with fail
    refine (HG0.out _ HB0.out).mono ?_
    rintro e w1 ⟨rfl, hb1⟩
    have HB1 := Lib.hid (HI.out _ w1 HB0.out hb1)
    clear hb1
    obtain ⟨x0c, x1c, x2c, x3c, x4c, x5c, x6c, x7c, x8c, x9c, x10c, x11c, x12c, x13c, x14c⟩ := has15 HB1.out.2.1
    obtain ⟨y0c, y1c, y2c, y3c, y4c, y5c, y6c, y7c, y8c, y9c, y10c, y11c, y12c, y13c, y14c⟩ := has15 HB1.out.2.2
    go_wp2_with fail
    clear x0c x1c x2c x3c x4c x5c x6c x7c x8c x9c x10c x11c x12c x13c x14c y0c y1c y2c y3c y4c y5c y6c y7c y8c y9c y10c y11c y12c y13c y14c
    refine (HG1.out _ HB1.out).mono ?_
    rintro e w2 ⟨rfl, hb2⟩
    have HB2 := Lib.hid (HI.out _ w2 HB1.out hb2)
    clear hb2
    obtain ⟨x0c, x1c, x2c, x3c, x4c, x5c, x6c, x7c, x8c, x9c, x10c, x11c, x12c, x13c, x14c⟩ := has15 HB2.out.2.1
    obtain ⟨y0c, y1c, y2c, y3c, y4c, y5c, y6c, y7c, y8c, y9c, y10c, y11c, y12c, y13c, y14c⟩ := has15 HB2.out.2.2
    go_wp2_with fail
    clear x0c x1c x2c x3c x4c x5c x6c x7c x8c x9c x10c x11c x12c x13c x14c y0c y1c y2c y3c y4c y5c y6c y7c y8c y9c y10c y11c y12c y13c y14c
    refine (awake_any _).mono ?_
    rintro e w9 ⟨rfl, hb9⟩
    have HB9 := Lib.hid (HB2.out.1.trans (hb9.mono HB2.out.1.size))
    clear hb9
    go_wp2_with fail
    go_ret
    exact ⟨rfl, HB9.out⟩
  · have k1 : 100 < nb := by omega
    clear hk
    go_enter Try.func4, Try.ntmps4
    go_wp2_with fail
    refine (HG0.out _ HB0.out).mono ?_
    rintro e w1 ⟨rfl, hb1⟩
    have HB1 := Lib.hid (HI.out _ w1 HB0.out hb1)
    clear hb1
    obtain ⟨x0c, x1c, x2c, x3c, x4c, x5c, x6c, x7c, x8c, x9c, x10c, x11c, x12c, x13c, x14c⟩ := has15 HB1.out.2.1
    obtain ⟨y0c, y1c, y2c, y3c, y4c, y5c, y6c, y7c, y8c, y9c, y10c, y11c, y12c, y13c, y14c⟩ := has15 HB1.out.2.2
    go_wp2_with fail
    clear x0c x1c x2c x3c x4c x5c x6c x7c x8c x9c x10c x11c x12c x13c x14c y0c y1c y2c y3c y4c y5c y6c y7c y8c y9c y10c y11c y12c y13c y14c
    refine (HG1.out _ HB1.out).mono ?_
    rintro e w2 ⟨rfl, hb2⟩
    have HB2 := Lib.hid (HI.out _ w2 HB1.out hb2)
    clear hb2
    obtain ⟨x0c, x1c, x2c, x3c, x4c, x5c, x6c, x7c, x8c, x9c, x10c, x11c, x12c, x13c, x14c⟩ := has15 HB2.out.2.1
    obtain ⟨y0c, y1c, y2c, y3c, y4c, y5c, y6c, y7c, y8c, y9c, y10c, y11c, y12c, y13c, y14c⟩ := has15 HB2.out.2.2
    go_wp2_with fail
    clear x0c x1c x2c x3c x4c x5c x6c x7c x8c x9c x10c x11c x12c x13c x14c y0c y1c y2c y3c y4c y5c y6c y7c y8c y9c y10c y11c y12c y13c y14c
    refine (awake_any _).mono ?_
    rintro e w9 ⟨rfl, hb9⟩
    have HB9 := Lib.hid (HB2.out.1.trans (hb9.mono HB2.out.1.size))
    clear hb9
    go_wp2_with fail
    go_ret
    exact ⟨rfl, HB9.out⟩
set_option maxRecDepth 100000 in
set_option maxHeartbeats 40000000 in
theorem case_rest (w : World) (a0 a1 a2 a4 a13 a14 b0 b1 b2 b4 b13 b14 c0 c1 c2 c3 c4 c5 c6 c7 d0 d1 d2 d3 d4 d5 d6 d7 : Value) (ca da : Option Addr) (na nb cc dc : Nat) (ka : na ≤ 100) (kb : nb ≤ 100) (sv : Bool)
    (hG0 : ∀ wx, Good w #[a0, a1, a2, .slice ca na cc, a4, c0, c1, c2, c3, c4, c5, c6, c7, a13, a14] #[b0, b1, b2, .slice da nb dc, b4, d0, d1, d2, d3, d4, d5, d6, d7, b13, b14] wx → Calls Try.prog 16 #[.agg #[c0, c1, c2, c3, c4, c5, c6, c7], .int .i64 1000] wx (fun e w' => e = .returned (.bool false) ∧ Below wx.heap.size wx w'))
    (hG1 : ∀ wx, Good w #[a0, a1, a2, .slice ca na cc, a4, c0, c1, c2, c3, c4, c5, c6, c7, a13, a14] #[b0, b1, b2, .slice da nb dc, b4, d0, d1, d2, d3, d4, d5, d6, d7, b13, b14] wx → Calls Try.prog 16 #[.agg #[d0, d1, d2, d3, d4, d5, d6, d7], .int .i64 1000] wx (fun e w' => e = .returned (.bool false) ∧ Below wx.heap.size wx w'))
    (hSV : ∀ wx, Below w.heap.size w wx → Calls Try.prog 17 #[.agg #[a0, a1, a2, .slice ca na cc, a4, c0, c1, c2, c3, c4, c5, c6, c7, a13, a14], .agg #[b0, b1, b2, .slice da nb dc, b4, d0, d1, d2, d3, d4, d5, d6, d7, b13, b14]] wx (fun e w' => e = .returned (.bool sv) ∧ Below wx.heap.size wx w'))
    (hSS : ∀ wx, Below w.heap.size w wx → Calls Try.prog 17 #[.agg #[a0, a1, a2, .slice ca na cc, a4, c0, c1, c2, c3, c4, c5, c6, c7, a13, a14], .agg #[a0, a1, a2, .slice ca na cc, a4, c0, c1, c2, c3, c4, c5, c6, c7, a13, a14]] wx (fun e w' => e = .returned (.bool true) ∧ Below wx.heap.size wx w'))
    (hR : ∀ wx g1 g2, Below w.heap.size w wx → Has wx g1 52 #[a0, a1, a2, .slice ca na cc, a4, c0, c1, c2, c3, c4, c5, c6, c7, a13, a14] → Has wx g2 52 #[b0, b1, b2, .slice da nb dc, b4, d0, d1, d2, d3, d4, d5, d6, d7, b13, b14] → Calls Try.prog 18 #[.slice (some ⟨g1, 0, none⟩) 1 1, .slice (some ⟨g2, 0, none⟩) 1 1] wx (fun e w' => e = .returned (.bool sv) ∧ Below wx.heap.size wx w')) :
    Calls Try.prog 4 #[.agg #[a0, a1, a2, .slice ca na cc, a4, c0, c1, c2, c3, c4, c5, c6, c7, a13, a14], .agg #[b0, b1, b2, .slice da nb dc, b4, d0, d1, d2, d3, d4, d5, d6, d7, b13, b14]] w fun e w' => e = .returned (.bool true) ∧ Below w.heap.size w w' := by
  have hb := ((Below.refl w.heap.size w).alloc (Nat.le_refl _) (.cells #[a0, a1, a2, .slice ca na cc, a4, c0, c1, c2, c3, c4, c5, c6, c7, a13, a14] 52)).alloc (by simp) (.cells #[b0, b1, b2, .slice da nb dc, b4, d0, d1, d2, d3, d4, d5, d6, d7, b13, b14] 52)
  have hX := (Has.new w 52 #[a0, a1, a2, .slice ca na cc, a4, c0, c1, c2, c3, c4, c5, c6, c7, a13, a14]).alloc (.cells #[b0, b1, b2, .slice da nb dc, b4, d0, d1, d2, d3, d4, d5, d6, d7, b13, b14] 52)
  have hY := Has.new (w.alloc (.cells #[a0, a1, a2, .slice ca na cc, a4, c0, c1, c2, c3, c4, c5, c6, c7, a13, a14] 52)) 52 #[b0, b1, b2, .slice da nb dc, b4, d0, d1, d2, d3, d4, d5, d6, d7, b13, b14]
  simp only [World.size_alloc] at hY
  have HB0 : Hid (Good w #[a0, a1, a2, .slice ca na cc, a4, c0, c1, c2, c3, c4, c5, c6, c7, a13, a14] #[b0, b1, b2, .slice da nb dc, b4, d0, d1, d2, d3, d4, d5, d6, d7, b13, b14] ((w.alloc (.cells #[a0, a1, a2, .slice ca na cc, a4, c0, c1, c2, c3, c4, c5, c6, c7, a13, a14] 52)).alloc (.cells #[b0, b1, b2, .slice da nb dc, b4, d0, d1, d2, d3, d4, d5, d6, d7, b13, b14] 52))) := Lib.hid ⟨hb, hX, hY⟩
  have HI := Lib.hid (fun w1 w2 (h : Good w #[a0, a1, a2, .slice ca na cc, a4, c0, c1, c2, c3, c4, c5, c6, c7, a13, a14] #[b0, b1, b2, .slice da nb dc, b4, d0, d1, d2, d3, d4, d5, d6, d7, b13, b14] w1) (hb : Below w1.heap.size w1 w2) => h.later hb)
  clear hb hX hY
  have HG0 := Lib.hid hG0
  have HG1 := Lib.hid hG1
  clear hG0 hG1
  have HSV := Lib.hid hSV
  have HSS := Lib.hid hSS
  have HR := Lib.hid hR
  clear hSV hSS hR
  have hbb : (sv == sv) = true := by cases sv <;> rfl
  go_enter Try.func4, Try.ntmps4
  go_wp2_with fail
  refine (HG0.out _ HB0.out).mono ?_
  rintro e w1 ⟨rfl, hb1⟩
  have HB1 := Lib.hid (HI.out _ w1 HB0.out hb1)
  clear hb1
  obtain ⟨x0c, x1c, x2c, x3c, x4c, x5c, x6c, x7c, x8c, x9c, x10c, x11c, x12c, x13c, x14c⟩ := has15 HB1.out.2.1
  obtain ⟨y0c, y1c, y2c, y3c, y4c, y5c, y6c, y7c, y8c, y9c, y10c, y11c, y12c, y13c, y14c⟩ := has15 HB1.out.2.2
  go_wp2_with fail
  clear x0c x1c x2c x3c x4c x5c x6c x7c x8c x9c x10c x11c x12c x13c x14c y0c y1c y2c y3c y4c y5c y6c y7c y8c y9c y10c y11c y12c y13c y14c
  refine (HG1.out _ HB1.out).mono ?_
  rintro e w2 ⟨rfl, hb2⟩
  have HB2 := Lib.hid (HI.out _ w2 HB1.out hb2)
  clear hb2
  obtain ⟨x0c, x1c, x2c, x3c, x4c, x5c, x6c, x7c, x8c, x9c, x10c, x11c, x12c, x13c, x14c⟩ := has15 HB2.out.2.1
  obtain ⟨y0c, y1c, y2c, y3c, y4c, y5c, y6c, y7c, y8c, y9c, y10c, y11c, y12c, y13c, y14c⟩ := has15 HB2.out.2.2
  go_wp2_with fail
  clear x0c x1c x2c x3c x4c x5c x6c x7c x8c x9c x10c x11c x12c x13c x14c y0c y1c y2c y3c y4c y5c y6c y7c y8c y9c y10c y11c y12c y13c y14c
  refine region_three w _ _ _ _ _ _ _ _ _ _ _ _ _ _ _ _ _ _ _ _ _ _ _ _ _ _ _ _ _ _ _ _ _ _ _ _ _ _ _ _ _ _ _ _ _ _ _ _ _ _ _ _ _ sv _ HSV.out HSS.out HR.out HB2.out ?_
  intro a' w' h4 hd hb
  go_wp2_with fail
  refine bodyPost_ret (v := .bool true) (by rw [← h4]; simp [results, Try.results4, go_sem]) hd ⟨rfl, hb⟩
set_option maxRecDepth 100000 in
theorem walk (w : World) (cs0 : Array Value) (x0 : tr.Vr) (hx0 : tr.LaidV w x0 cs0.toList) (cs1 : Array Value) (x1 : tr.Vr) (hx1 : tr.LaidV w x1 cs1.toList) :
    Calls Try.prog 4 #[.agg cs0, .agg cs1] w fun e w' => e = .returned (.bool true) ∧ Below w.heap.size w w' := by
  obtain ⟨h1, l1, ca, cc, c0, c1, c2, c3, c4, c5, c6, c7, hcx, hox, e1⟩ := hx0
  obtain ⟨h2, l2, da, dc, d0, d1, d2, d3, d4, d5, d6, d7, hcy, hoy, e2⟩ := hx1
  obtain rfl : cs0 = #[.string x0.name, .int .u8 (x0.tk : Int), .string x0.tn, .slice ca x0.clock.length cc, .bool x0.last, c0, c1, c2, c3, c4, c5, c6, c7, .int .i64 x0.line, .int .i64 x0.col] := by apply Array.toList_inj.1; rw [e1]
  obtain rfl : cs1 = #[.string x1.name, .int .u8 (x1.tk : Int), .string x1.tn, .slice da x1.clock.length dc, .bool x1.last, d0, d1, d2, d3, d4, d5, d6, d7, .int .i64 x1.line, .int .i64 x1.col] := by apply Array.toList_inj.1; rw [e2]
  clear e1 e2
  have hG0 := fun wx (h : Good w #[.string x0.name, .int .u8 (x0.tk : Int), .string x0.tn, .slice ca x0.clock.length cc, .bool x0.last, c0, c1, c2, c3, c4, c5, c6, c7, .int .i64 x0.line, .int .i64 x0.col] #[.string x1.name, .int .u8 (x1.tk : Int), .string x1.tn, .slice da x1.clock.length dc, .bool x1.last, d0, d1, d2, d3, d4, d5, d6, d7, .int .i64 x1.line, .int .i64 x1.col] wx) => great_any wx x0.first #[c0, c1, c2, c3, c4, c5, c6, c7] 1000 (LaidC.below h.1 _ _ hcx) (by omega) (by omega)
  have hG1 := fun wx (h : Good w #[.string x0.name, .int .u8 (x0.tk : Int), .string x0.tn, .slice ca x0.clock.length cc, .bool x0.last, c0, c1, c2, c3, c4, c5, c6, c7, .int .i64 x0.line, .int .i64 x0.col] #[.string x1.name, .int .u8 (x1.tk : Int), .string x1.tn, .slice da x1.clock.length dc, .bool x1.last, d0, d1, d2, d3, d4, d5, d6, d7, .int .i64 x1.line, .int .i64 x1.col] wx) => great_any wx x1.first #[d0, d1, d2, d3, d4, d5, d6, d7] 1000 (LaidC.below h.1 _ _ hcy) (by omega) (by omega)
  have hV0 : ∀ wx, Below w.heap.size w wx → LaidV wx x0 [.string x0.name, .int .u8 (x0.tk : Int), .string x0.tn, .slice ca x0.clock.length cc, .bool x0.last, c0, c1, c2, c3, c4, c5, c6, c7, .int .i64 x0.line, .int .i64 x0.col] := fun wx h => ⟨h1, l1, ca, cc, c0, c1, c2, c3, c4, c5, c6, c7, LaidC.below h _ _ hcx, hox.below h, rfl⟩
  have hV1 : ∀ wx, Below w.heap.size w wx → LaidV wx x1 [.string x1.name, .int .u8 (x1.tk : Int), .string x1.tn, .slice da x1.clock.length dc, .bool x1.last, d0, d1, d2, d3, d4, d5, d6, d7, .int .i64 x1.line, .int .i64 x1.col] := fun wx h => ⟨h2, l2, da, dc, d0, d1, d2, d3, d4, d5, d6, d7, LaidC.below h _ _ hcy, hoy.below h, rfl⟩
  have hR : ∀ wx g1 g2, Below w.heap.size w wx → Has wx g1 52 #[.string x0.name, .int .u8 (x0.tk : Int), .string x0.tn, .slice ca x0.clock.length cc, .bool x0.last, c0, c1, c2, c3, c4, c5, c6, c7, .int .i64 x0.line, .int .i64 x0.col] → Has wx g2 52 #[.string x1.name, .int .u8 (x1.tk : Int), .string x1.tn, .slice da x1.clock.length dc, .bool x1.last, d0, d1, d2, d3, d4, d5, d6, d7, .int .i64 x1.line, .int .i64 x1.col] → Calls Try.prog 18 #[.slice (some ⟨g1, 0, none⟩) 1 1, .slice (some ⟨g2, 0, none⟩) 1 1] wx (fun e w' => e = .returned (.bool (sameV x0 x1)) ∧ Below wx.heap.size wx w') :=
    fun wx g1 g2 h hh1 hh2 => sameVars_any wx x0 x1 g1 g2 ca da cc dc c0 c1 c2 c3 c4 c5 c6 c7 d0 d1 d2 d3 d4 d5 d6 d7 h1 h2 l1 l2 (hox.below h) (hoy.below h) (LaidC.below h _ _ hcx) (LaidC.below h _ _ hcy) hh1 hh2
  have hSV := fun wx (h : Below w.heap.size w wx) => sameVar_any wx x0 x1 #[.string x0.name, .int .u8 (x0.tk : Int), .string x0.tn, .slice ca x0.clock.length cc, .bool x0.last, c0, c1, c2, c3, c4, c5, c6, c7, .int .i64 x0.line, .int .i64 x0.col] #[.string x1.name, .int .u8 (x1.tk : Int), .string x1.tn, .slice da x1.clock.length dc, .bool x1.last, d0, d1, d2, d3, d4, d5, d6, d7, .int .i64 x1.line, .int .i64 x1.col] (hV0 wx h) (hV1 wx h)
  have hSS := fun wx (h : Below w.heap.size w wx) => sameVar_any wx x0 x0 #[.string x0.name, .int .u8 (x0.tk : Int), .string x0.tn, .slice ca x0.clock.length cc, .bool x0.last, c0, c1, c2, c3, c4, c5, c6, c7, .int .i64 x0.line, .int .i64 x0.col] #[.string x0.name, .int .u8 (x0.tk : Int), .string x0.tn, .slice ca x0.clock.length cc, .bool x0.last, c0, c1, c2, c3, c4, c5, c6, c7, .int .i64 x0.line, .int .i64 x0.col] (hV0 wx h) (hV0 wx h)
  rw [sameV_refl] at hSS
  by_cases g0 : countD 200 1000 x0.first < 0
  · rw [decide_eq_true g0] at hG0
    exact case_g0 w _ _ _ _ _ _ _ _ _ _ _ _ _ _ _ _ _ _ _ _ _ _ _ _ _ _ _ _ _ _ _ _ _ _ hG0
  rw [decide_eq_false g0] at hG0
  by_cases g1 : countD 200 1000 x1.first < 0
  · rw [decide_eq_true g1] at hG1
    exact case_g1 w _ _ _ _ _ _ _ _ _ _ _ _ _ _ _ _ _ _ _ _ _ _ _ _ _ _ _ _ _ _ _ _ _ _ hG0 hG1
  rw [decide_eq_false g1] at hG1
  by_cases k0 : 100 < x0.clock.length ∨ 100 < x1.clock.length
  · exact case_k w _ _ _ _ _ _ _ _ _ _ _ _ _ _ _ _ _ _ _ _ _ _ _ _ _ _ _ _ _ _ _ _ _ _ (by unfold maxLen at l1; omega) (by unfold maxLen at l2; omega) k0 hG0 hG1
  · exact case_rest w _ _ _ _ _ _ _ _ _ _ _ _ _ _ _ _ _ _ _ _ _ _ _ _ _ _ _ _ _ _ _ _ _ _ (by omega) (by omega) (sameV x0 x1) hG0 hG1 hSV hSS hR
end Go.Proofs.Ytjkkalhgbfbcbaa.treeVars
