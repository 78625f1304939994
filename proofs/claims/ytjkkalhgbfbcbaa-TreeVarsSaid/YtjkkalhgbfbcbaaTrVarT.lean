/-
  SameVar of package tree; SameVars of the reference on two single variables: their walks.
-/
import Derived.Test.YtjkkalhgbfbcbaaTrVarS
import Derived.Deep.RegionHeld3
namespace Go.Proofs.Ytjkkalhgbfbcbaa.tr
open Go.ChangeShapes Go.WideShapes Go.ChangeAt Go.RowKit
set_option linter.unusedVariables false

theorem SamePost.below {w w' : World} {b : Bool} {e : Ending} {w2 : World} (h : SamePost w' b e w2) (hb : Below w.heap.size w w') : e = .returned (.bool b) ∧ Below w.heap.size w w2 := by
  obtain ⟨he, n, rfl⟩ := h
  exact ⟨he, below_drewN hb n⟩
set_option maxRecDepth 100000 in
theorem sameVar_any (w : World) (x y : Vr) (cs ds : Array Value) (hx : LaidV w x cs.toList) (hy : LaidV w y ds.toList) :
    Calls Try.prog 17 #[.agg cs, .agg ds] w (fun e w' => e = .returned (.bool (sameV x y)) ∧ Below w.heap.size w w') := by
  obtain ⟨h1, l1, ca, cc, c0, c1, c2, c3, c4, c5, c6, c7, hcx, hox, e1⟩ := hx
  obtain ⟨h2, l2, da, dc, d0, d1, d2, d3, d4, d5, d6, d7, hcy, hoy, e2⟩ := hy
  obtain rfl : cs = #[.string x.name, .int .u8 x.tk, .string x.tn, .slice ca x.clock.length cc, .bool x.last, c0, c1, c2, c3, c4, c5, c6, c7, .int .i64 x.line, .int .i64 x.col] := by apply Array.toList_inj.1; rw [e1]
  obtain rfl : ds = #[.string y.name, .int .u8 y.tk, .string y.tn, .slice da y.clock.length dc, .bool y.last, d0, d1, d2, d3, d4, d5, d6, d7, .int .i64 y.line, .int .i64 y.col] := by apply Array.toList_inj.1; rw [e2]
  have hb := ((Below.refl w.heap.size w).alloc (Nat.le_refl _) (.cells #[.string x.name, .int .u8 x.tk, .string x.tn, .slice ca x.clock.length cc, .bool x.last, c0, c1, c2, c3, c4, c5, c6, c7, .int .i64 x.line, .int .i64 x.col] 52)).alloc (by simp) (.cells #[.string y.name, .int .u8 y.tk, .string y.tn, .slice da y.clock.length dc, .bool y.last, d0, d1, d2, d3, d4, d5, d6, d7, .int .i64 y.line, .int .i64 y.col] 52)
  have hX := (Has.new w 52 #[.string x.name, .int .u8 x.tk, .string x.tn, .slice ca x.clock.length cc, .bool x.last, c0, c1, c2, c3, c4, c5, c6, c7, .int .i64 x.line, .int .i64 x.col]).alloc (.cells #[.string y.name, .int .u8 y.tk, .string y.tn, .slice da y.clock.length dc, .bool y.last, d0, d1, d2, d3, d4, d5, d6, d7, .int .i64 y.line, .int .i64 y.col] 52)
  have hY := Has.new (w.alloc (.cells #[.string x.name, .int .u8 x.tk, .string x.tn, .slice ca x.clock.length cc, .bool x.last, c0, c1, c2, c3, c4, c5, c6, c7, .int .i64 x.line, .int .i64 x.col] 52)) 52 #[.string y.name, .int .u8 y.tk, .string y.tn, .slice da y.clock.length dc, .bool y.last, d0, d1, d2, d3, d4, d5, d6, d7, .int .i64 y.line, .int .i64 y.col]
  simp only [World.size_alloc] at hY
  have hC := sameVarP_any _ x y _ _ ca da cc dc c0 c1 c2 c3 c4 c5 c6 c7 d0 d1 d2 d3 d4 d5 d6 d7 h1 h2 l1 l2 (hox.below hb) (hoy.below hb) (LaidC.below hb _ _ hcx) (LaidC.below hb _ _ hcy) hX hY
  have HC := Lib.hid hC
  have HB := Lib.hid hb
  clear hb hX hY hC hcx hcy hox hoy e1 e2
  go_enter Try.func17, Try.ntmps17
  go_wp2_with fail
  refine HC.out.mono ?_
  rintro e w1 hp
  obtain ⟨rfl, hb1⟩ := hp.below HB.out
  have HB1 := Lib.hid hb1
  clear hb1 hp
  go_wp2_with fail
  go_ret
  exact ⟨rfl, HB1.out⟩

set_option maxRecDepth 100000 in
set_option maxHeartbeats 4000000 in
theorem sameVars_any (w : World) (x y : Vr) (gx gy : Nat) (ca da : Option Addr) (cc dc : Nat) (c0 c1 c2 c3 c4 c5 c6 c7 d0 d1 d2 d3 d4 d5 d6 d7 : Value)
    (h1 : x.tk ≤ 255) (h2 : y.tk ≤ 255) (l1 : x.clock.length ≤ maxLen) (l2 : y.clock.length ≤ maxLen) (hox : Ons w ca x.clock) (hoy : Ons w da y.clock)
    (hcx : LaidC w x.first [c0, c1, c2, c3, c4, c5, c6, c7]) (hcy : LaidC w y.first [d0, d1, d2, d3, d4, d5, d6, d7])
    (hx : Has w gx 52 #[.string x.name, .int .u8 x.tk, .string x.tn, .slice ca x.clock.length cc, .bool x.last, c0, c1, c2, c3, c4, c5, c6, c7, .int .i64 x.line, .int .i64 x.col]) (hy : Has w gy 52 #[.string y.name, .int .u8 y.tk, .string y.tn, .slice da y.clock.length dc, .bool y.last, d0, d1, d2, d3, d4, d5, d6, d7, .int .i64 y.line, .int .i64 y.col]) :
    Calls Try.prog 18 #[.slice (some ⟨gx, 0, none⟩) 1 1, .slice (some ⟨gy, 0, none⟩) 1 1] w (fun e w' => e = .returned (.bool (sameV x y)) ∧ Below w.heap.size w w') := by
  have hE := fun wx (hb : Below w.heap.size w wx) => sameExprR_any (sz x.first) x.first y.first (Nat.le_refl _) wx #[c0, c1, c2, c3, c4, c5, c6, c7] #[d0, d1, d2, d3, d4, d5, d6, d7] (LaidC.below hb _ _ hcx) (LaidC.below hb _ _ hcy)
  have hO := fun wx (hb : Below w.heap.size w wx) => sameclock_any wx ca da x.clock y.clock cc dc (hox.below hb) (hoy.below hb) l1 l2
  have hHX := fun wx (hb : Below w.heap.size w wx) => has15 (hx.below hb hx.lt)
  have hHY := fun wx (hb : Below w.heap.size w wx) => has15 (hy.below hb hy.lt)
  have HHX := Lib.hid hHX
  have HHY := Lib.hid hHY
  have HE := Lib.hid hE
  have HO := Lib.hid hO
  clear hE hO hx hy hcx hcy hox hoy l1 l2 hHX hHY
  have HW := Lib.hid (Below.refl w.heap.size w)
  have hcase : sameV x y = true ∨ sameV x y = false := by cases sameV x y <;> simp
  unfold sameV at hcase ⊢
  have hS : ∀ w', Below w.heap.size w w' → (w'.cell? ⟨gx, 0, none⟩ = some (.string x.name) ∧ w'.cell? ⟨gx, 1, none⟩ = some (.int .u8 (x.tk : Int)) ∧ w'.cell? ⟨gx, 2, none⟩ = some (.string x.tn) ∧ w'.cell? ⟨gx, 3, none⟩ = some (.slice ca x.clock.length cc) ∧ w'.cell? ⟨gx, 4, none⟩ = some (.bool x.last) ∧ w'.cell? ⟨gx, 5, none⟩ = some (c0) ∧ w'.cell? ⟨gx, 6, none⟩ = some (c1) ∧ w'.cell? ⟨gx, 7, none⟩ = some (c2) ∧ w'.cell? ⟨gx, 8, none⟩ = some (c3) ∧ w'.cell? ⟨gx, 9, none⟩ = some (c4) ∧ w'.cell? ⟨gx, 10, none⟩ = some (c5) ∧ w'.cell? ⟨gx, 11, none⟩ = some (c6) ∧ w'.cell? ⟨gx, 12, none⟩ = some (c7) ∧ w'.cell? ⟨gy, 0, none⟩ = some (.string y.name) ∧ w'.cell? ⟨gy, 1, none⟩ = some (.int .u8 (y.tk : Int)) ∧ w'.cell? ⟨gy, 2, none⟩ = some (.string y.tn) ∧ w'.cell? ⟨gy, 3, none⟩ = some (.slice da y.clock.length dc) ∧ w'.cell? ⟨gy, 4, none⟩ = some (.bool y.last) ∧ w'.cell? ⟨gy, 5, none⟩ = some (d0) ∧ w'.cell? ⟨gy, 6, none⟩ = some (d1) ∧ w'.cell? ⟨gy, 7, none⟩ = some (d2) ∧ w'.cell? ⟨gy, 8, none⟩ = some (d3) ∧ w'.cell? ⟨gy, 9, none⟩ = some (d4) ∧ w'.cell? ⟨gy, 10, none⟩ = some (d5) ∧ w'.cell? ⟨gy, 11, none⟩ = some (d6) ∧ w'.cell? ⟨gy, 12, none⟩ = some (d7)) := fun w' hb => by
    obtain ⟨x0, x1, x2, x3, x4, x5, x6, x7, x8, x9, x10, x11, x12, x13, x14⟩ := HHX.out _ hb
    obtain ⟨y0, y1, y2, y3, y4, y5, y6, y7, y8, y9, y10, y11, y12, y13, y14⟩ := HHY.out _ hb
    exact ⟨x0, x1, x2, x3, x4, x5, x6, x7, x8, x9, x10, x11, x12, y0, y1, y2, y3, y4, y5, y6, y7, y8, y9, y10, y11, y12⟩
  have HS := Lib.hid hS
  clear hS
  cases e1 : eqS x.name y.name
  case false =>
    rw [Bool.false_and]
    have f1 : (x.name.toList == y.name.toList) = false := e1
    clear e1 HE HO hcase
    go_enter Try.func18, Try.ntmps18
    go_wp2_with fail
    go_loopw [5] (fun iv wr => iv = .int .i64 0 ∧ Hid (Below w.heap.size w wr)) (fun iv _ => 0)
    case atStart => exact ⟨rfl, HW⟩
    case round =>
      obtain ⟨rfl, HB⟩ := hrel
      obtain ⟨x0, x1, x2, x3, x4, x5, x6, x7, x8, x9, x10, x11, x12, x13, x14⟩ := HHX.out _ HB.out
      obtain ⟨y0, y1, y2, y3, y4, y5, y6, y7, y8, y9, y10, y11, y12, y13, y14⟩ := HHY.out _ HB.out
      go_wp2_with fail
      try dsimp only [List.append]
      go_quiet (fail)
      go_wp2_with fail
      go_ret
      exact ⟨rfl, below_drewN HB.out _⟩
  have f1 : (x.name.toList == y.name.toList) = true := e1
  rw [e1] at hcase
  clear e1
  rw [Bool.true_and] at hcase ⊢
  by_cases e2 : x.tk = y.tk
  case neg =>
    rw [decide_eq_false e2, Bool.false_and, Bool.false_and]
    have f2 : ((x.tk : Int) == (y.tk : Int)) = false := by rw [beq_eq_false_iff_ne]; omega
    have g2 : ((x.tk : Int) != (y.tk : Int)) = true := by rw [bne_iff_ne]; omega
    clear e2 HE HO hcase
    go_enter Try.func18, Try.ntmps18
    go_wp2_with fail
    go_loopw [5] (fun iv wr => iv = .int .i64 0 ∧ Hid (Below w.heap.size w wr)) (fun iv _ => 0)
    case atStart => exact ⟨rfl, HW⟩
    case round =>
      obtain ⟨rfl, HB⟩ := hrel
      obtain ⟨x0, x1, x2, x3, x4, x5, x6, x7, x8, x9, x10, x11, x12, x13, x14⟩ := HHX.out _ HB.out
      obtain ⟨y0, y1, y2, y3, y4, y5, y6, y7, y8, y9, y10, y11, y12, y13, y14⟩ := HHY.out _ HB.out
      go_wp2_with fail
      try dsimp only [List.append]
      go_quiet (fail)
      go_wp2_with fail
      go_ret
      exact ⟨rfl, below_drewN HB.out _⟩
  rw [decide_eq_true e2, Bool.true_and] at hcase ⊢
  have f2 : ((x.tk : Int) == (y.tk : Int)) = true := by rw [beq_iff_eq]; omega
  have g2 : ((x.tk : Int) != (y.tk : Int)) = false := by simp [e2]
  clear e2
  cases e3 : eqS x.tn y.tn
  case false =>
    rw [Bool.false_and]
    have f3 : (x.tn.toList == y.tn.toList) = false := e3
    clear e3 HE HO hcase
    go_enter Try.func18, Try.ntmps18
    go_wp2_with fail
    go_loopw [5] (fun iv wr => iv = .int .i64 0 ∧ Hid (Below w.heap.size w wr)) (fun iv _ => 0)
    case atStart => exact ⟨rfl, HW⟩
    case round =>
      obtain ⟨rfl, HB⟩ := hrel
      obtain ⟨x0, x1, x2, x3, x4, x5, x6, x7, x8, x9, x10, x11, x12, x13, x14⟩ := HHX.out _ HB.out
      obtain ⟨y0, y1, y2, y3, y4, y5, y6, y7, y8, y9, y10, y11, y12, y13, y14⟩ := HHY.out _ HB.out
      go_wp2_with fail
      try dsimp only [List.append]
      go_quiet (fail)
      go_wp2_with fail
      go_ret
      exact ⟨rfl, below_drewN HB.out _⟩
  have f3 : (x.tn.toList == y.tn.toList) = true := e3
  rw [e3] at hcase
  clear e3
  rw [Bool.true_and] at hcase ⊢
  cases e4 : onsB x.clock y.clock
  case false =>
    rw [Bool.false_and]
    rw [e4] at HO
    clear e4 HE hcase
    go_enter Try.func18, Try.ntmps18
    go_wp2_with fail
    go_loopw [5] (fun iv wr => iv = .int .i64 0 ∧ Hid (Below w.heap.size w wr)) (fun iv _ => 0)
    case atStart => exact ⟨rfl, HW⟩
    case round =>
      obtain ⟨rfl, HB⟩ := hrel
      obtain ⟨x0, x1, x2, x3, x4, x5, x6, x7, x8, x9, x10, x11, x12, x13, x14⟩ := HHX.out _ HB.out
      obtain ⟨y0, y1, y2, y3, y4, y5, y6, y7, y8, y9, y10, y11, y12, y13, y14⟩ := HHY.out _ HB.out
      go_wp2_with fail
      try dsimp only [List.append]
      go_quiet ((exact Calls.quiet_of (HO.out _ (below_drewN HB.out _))))
      go_wp2_with fail
      go_ret
      exact ⟨rfl, below_drewN HB.out _⟩
  rw [e4] at hcase
  rw [Bool.true_and] at hcase ⊢
  rw [e4] at HO
  clear e4
  cases e5 : (x.last == y.last)
  case false =>
    rw [Bool.false_and]
    have g5 : (x.last != y.last) = true := by simp only [bne, e5]; rfl
    clear HE hcase
    go_enter Try.func18, Try.ntmps18
    go_wp2_with fail
    go_loopw [5] (fun iv wr => iv = .int .i64 0 ∧ Hid (Below w.heap.size w wr)) (fun iv _ => 0)
    case atStart => exact ⟨rfl, HW⟩
    case round =>
      obtain ⟨rfl, HB⟩ := hrel
      obtain ⟨x0, x1, x2, x3, x4, x5, x6, x7, x8, x9, x10, x11, x12, x13, x14⟩ := HHX.out _ HB.out
      obtain ⟨y0, y1, y2, y3, y4, y5, y6, y7, y8, y9, y10, y11, y12, y13, y14⟩ := HHY.out _ HB.out
      go_wp2_with fail
      try dsimp only [List.append]
      go_quiet ((exact Calls.quiet_of (HO.out _ (below_drewN HB.out _))))
      go_wp2_with fail
      go_ret
      exact ⟨rfl, below_drewN HB.out _⟩
  rw [e5] at hcase
  rw [Bool.true_and] at hcase ⊢
  have g5 : (x.last != y.last) = false := by simp only [bne, e5]; rfl
  cases e6 : sameE x.first y.first
  case false =>
    rw [e6] at HE
    clear hcase e6
    go_enter Try.func18, Try.ntmps18
    go_wp2_with fail
    go_loopw [5] (fun iv wr => iv = .int .i64 0 ∧ Hid (Below w.heap.size w wr)) (fun iv _ => 0)
    case atStart => exact ⟨rfl, HW⟩
    case round =>
      obtain ⟨rfl, HB⟩ := hrel
      go_wp2_with fail
      try dsimp only [List.append]
      go_region_held3 (fun w' => w'.cell? ⟨gx, 0, none⟩ = some (.string x.name) ∧ w'.cell? ⟨gx, 1, none⟩ = some (.int .u8 (x.tk : Int)) ∧ w'.cell? ⟨gx, 2, none⟩ = some (.string x.tn) ∧ w'.cell? ⟨gx, 3, none⟩ = some (.slice ca x.clock.length cc) ∧ w'.cell? ⟨gx, 4, none⟩ = some (.bool x.last) ∧ w'.cell? ⟨gx, 5, none⟩ = some (c0) ∧ w'.cell? ⟨gx, 6, none⟩ = some (c1) ∧ w'.cell? ⟨gx, 7, none⟩ = some (c2) ∧ w'.cell? ⟨gx, 8, none⟩ = some (c3) ∧ w'.cell? ⟨gx, 9, none⟩ = some (c4) ∧ w'.cell? ⟨gx, 10, none⟩ = some (c5) ∧ w'.cell? ⟨gx, 11, none⟩ = some (c6) ∧ w'.cell? ⟨gx, 12, none⟩ = some (c7) ∧ w'.cell? ⟨gy, 0, none⟩ = some (.string y.name) ∧ w'.cell? ⟨gy, 1, none⟩ = some (.int .u8 (y.tk : Int)) ∧ w'.cell? ⟨gy, 2, none⟩ = some (.string y.tn) ∧ w'.cell? ⟨gy, 3, none⟩ = some (.slice da y.clock.length dc) ∧ w'.cell? ⟨gy, 4, none⟩ = some (.bool y.last) ∧ w'.cell? ⟨gy, 5, none⟩ = some (d0) ∧ w'.cell? ⟨gy, 6, none⟩ = some (d1) ∧ w'.cell? ⟨gy, 7, none⟩ = some (d2) ∧ w'.cell? ⟨gy, 8, none⟩ = some (d3) ∧ w'.cell? ⟨gy, 9, none⟩ = some (d4) ∧ w'.cell? ⟨gy, 10, none⟩ = some (d5) ∧ w'.cell? ⟨gy, 11, none⟩ = some (d6) ∧ w'.cell? ⟨gy, 12, none⟩ = some (d7))
        (first | exact HS.out _ HB.out.drew | exact HS.out _ (below_drewN HB.out _) | exact HS.out _ ((below_drewN HB.out _).trans (hb8.mono (below_drewN HB.out _).size)))
        (first | (go_at_call 45; refine (HO.out _ HB.out.drew).mono ?_; rintro e w7 ⟨rfl, n7, rfl⟩) | (go_at_call 46; refine (HE.out _ (below_drewN HB.out _)).mono ?_; rintro e w8 ⟨rfl, hb8⟩))
      have HB8 := Lib.hid ((below_drewN HB.out _).trans (hb8.mono (below_drewN HB.out _).size))
      clear hb8
      go_wp2_with fail
      go_ret
      exact ⟨rfl, HB8.out⟩
  rw [e6] at HE
  clear hcase e6
  go_enter Try.func18, Try.ntmps18
  go_wp2_with fail
  go_loopw [5] (fun iv wr => ∃ i : Nat, i ≤ 1 ∧ iv = .int .i64 i ∧ Hid (Below w.heap.size w wr)) (fun iv _ => 1 - (intOf iv).toNat)
  case atStart => exact ⟨0, by omega, rfl, HW⟩
  case round =>
    obtain ⟨i, hi, rfl, HB⟩ := hrel
    by_cases hlt : i < 1
    · obtain rfl : i = 0 := by omega
      clear hlt hi
      go_wp2_with fail
      try dsimp only [List.append]
      go_region_held3 (fun w' => w'.cell? ⟨gx, 0, none⟩ = some (.string x.name) ∧ w'.cell? ⟨gx, 1, none⟩ = some (.int .u8 (x.tk : Int)) ∧ w'.cell? ⟨gx, 2, none⟩ = some (.string x.tn) ∧ w'.cell? ⟨gx, 3, none⟩ = some (.slice ca x.clock.length cc) ∧ w'.cell? ⟨gx, 4, none⟩ = some (.bool x.last) ∧ w'.cell? ⟨gx, 5, none⟩ = some (c0) ∧ w'.cell? ⟨gx, 6, none⟩ = some (c1) ∧ w'.cell? ⟨gx, 7, none⟩ = some (c2) ∧ w'.cell? ⟨gx, 8, none⟩ = some (c3) ∧ w'.cell? ⟨gx, 9, none⟩ = some (c4) ∧ w'.cell? ⟨gx, 10, none⟩ = some (c5) ∧ w'.cell? ⟨gx, 11, none⟩ = some (c6) ∧ w'.cell? ⟨gx, 12, none⟩ = some (c7) ∧ w'.cell? ⟨gy, 0, none⟩ = some (.string y.name) ∧ w'.cell? ⟨gy, 1, none⟩ = some (.int .u8 (y.tk : Int)) ∧ w'.cell? ⟨gy, 2, none⟩ = some (.string y.tn) ∧ w'.cell? ⟨gy, 3, none⟩ = some (.slice da y.clock.length dc) ∧ w'.cell? ⟨gy, 4, none⟩ = some (.bool y.last) ∧ w'.cell? ⟨gy, 5, none⟩ = some (d0) ∧ w'.cell? ⟨gy, 6, none⟩ = some (d1) ∧ w'.cell? ⟨gy, 7, none⟩ = some (d2) ∧ w'.cell? ⟨gy, 8, none⟩ = some (d3) ∧ w'.cell? ⟨gy, 9, none⟩ = some (d4) ∧ w'.cell? ⟨gy, 10, none⟩ = some (d5) ∧ w'.cell? ⟨gy, 11, none⟩ = some (d6) ∧ w'.cell? ⟨gy, 12, none⟩ = some (d7))
        (first | exact HS.out _ HB.out.drew | exact HS.out _ (below_drewN HB.out _) | exact HS.out _ ((below_drewN HB.out _).trans (hb8.mono (below_drewN HB.out _).size)))
        (first | (go_at_call 45; refine (HO.out _ HB.out.drew).mono ?_; rintro e w7 ⟨rfl, n7, rfl⟩) | (go_at_call 46; refine (HE.out _ (below_drewN HB.out _)).mono ?_; rintro e w8 ⟨rfl, hb8⟩))
      have HB8 := Lib.hid ((below_drewN HB.out _).trans (hb8.mono (below_drewN HB.out _).size))
      clear hb8
      go_wp2_with fail
      go_roundw
      case rel => exact ⟨1, by omega, rfl, HB8⟩
      case measure => simp [intOf]
    · obtain rfl : i = 1 := by omega
      go_wp2_with fail
      go_ret
      exact ⟨rfl, HB.out⟩
end Go.Proofs.Ytjkkalhgbfbcbaa.tr
