/-
  Are two variables one: SameVar of package tree, SameVars of the reference.
-/
import Derived.Test.YtjkkalhgbfbcbaaTrSameR
import Derived.Test.YtjkkalhgbfbcbaaTrVar
namespace Go.Proofs.Ytjkkalhgbfbcbaa.tr
open Go.ChangeShapes Go.WideShapes Go.ChangeAt Go.RowKit
set_option linter.unusedVariables false

def sameV (x y : Vr) : Bool := eqS x.name y.name && ((decide (x.tk = y.tk) && eqS x.tn y.tn) && (onsB x.clock y.clock && ((x.last == y.last) && sameE x.first y.first)))
theorem sameV_refl (x : Vr) : sameV x x = true := by
  unfold sameV
  rw [eqS_refl, eqS_refl, onsB_refl, sameE_refl, decide_eq_true rfl]
  simp

theorem has15 {w : World} {g : Nat} {t : TypeId} {a0 a1 a2 a3 a4 a5 a6 a7 a8 a9 a10 a11 a12 a13 a14 : Value} (h : Has w g t #[a0, a1, a2, a3, a4, a5, a6, a7, a8, a9, a10, a11, a12, a13, a14]) :
    w.cell? ⟨g, 0, none⟩ = some a0 ∧ w.cell? ⟨g, 1, none⟩ = some a1 ∧ w.cell? ⟨g, 2, none⟩ = some a2 ∧ w.cell? ⟨g, 3, none⟩ = some a3 ∧ w.cell? ⟨g, 4, none⟩ = some a4 ∧ w.cell? ⟨g, 5, none⟩ = some a5 ∧ w.cell? ⟨g, 6, none⟩ = some a6 ∧ w.cell? ⟨g, 7, none⟩ = some a7 ∧ w.cell? ⟨g, 8, none⟩ = some a8 ∧ w.cell? ⟨g, 9, none⟩ = some a9 ∧ w.cell? ⟨g, 10, none⟩ = some a10 ∧ w.cell? ⟨g, 11, none⟩ = some a11 ∧ w.cell? ⟨g, 12, none⟩ = some a12 ∧ w.cell? ⟨g, 13, none⟩ = some a13 ∧ w.cell? ⟨g, 14, none⟩ = some a14 :=
  ⟨h.cell 0, h.cell 1, h.cell 2, h.cell 3, h.cell 4, h.cell 5, h.cell 6, h.cell 7, h.cell 8, h.cell 9, h.cell 10, h.cell 11, h.cell 12, h.cell 13, h.cell 14⟩
theorem Has.exprAt5 {w : World} {g : Nat} {t : TypeId} {a0 a1 a2 a3 a4 a5 a6 a7 a8 a9 a10 a11 a12 a13 a14 : Value} {x : Ex} (h : Has w g t #[a0, a1, a2, a3, a4, a5, a6, a7, a8, a9, a10, a11, a12, a13, a14]) (hx : LaidC w x [a5, a6, a7, a8, a9, a10, a11, a12]) : LaidAt w g 5 x := by
  refine ⟨_, fun j v hj => ?_, hx⟩
  have := h.cell (5 + j)
  rw [this]
  have hj8 : j < 8 := (List.getElem?_eq_some_iff.1 hj).1
  match j, hj8, hj with
  | 0, _, hj => simpa using hj
  | 1, _, hj => simpa using hj
  | 2, _, hj => simpa using hj
  | 3, _, hj => simpa using hj
  | 4, _, hj => simpa using hj
  | 5, _, hj => simpa using hj
  | 6, _, hj => simpa using hj
  | 7, _, hj => simpa using hj

set_option maxRecDepth 100000 in
set_option maxHeartbeats 4000000 in
theorem sameVarP_any (w : World) (x y : Vr) (gx gy : Nat) (ca da : Option Addr) (cc dc : Nat) (c0 c1 c2 c3 c4 c5 c6 c7 d0 d1 d2 d3 d4 d5 d6 d7 : Value)
    (h1 : x.tk ≤ 255) (h2 : y.tk ≤ 255) (l1 : x.clock.length ≤ maxLen) (l2 : y.clock.length ≤ maxLen) (hox : Ons w ca x.clock) (hoy : Ons w da y.clock)
    (hcx : LaidC w x.first [c0, c1, c2, c3, c4, c5, c6, c7]) (hcy : LaidC w y.first [d0, d1, d2, d3, d4, d5, d6, d7])
    (hx : Has w gx 52 #[.string x.name, .int .u8 x.tk, .string x.tn, .slice ca x.clock.length cc, .bool x.last, c0, c1, c2, c3, c4, c5, c6, c7, .int .i64 x.line, .int .i64 x.col]) (hy : Has w gy 52 #[.string y.name, .int .u8 y.tk, .string y.tn, .slice da y.clock.length dc, .bool y.last, d0, d1, d2, d3, d4, d5, d6, d7, .int .i64 y.line, .int .i64 y.col]) :
    Calls Try.prog 44 #[.pointer (some ⟨gx, 0, none⟩), .pointer (some ⟨gy, 0, none⟩)] w (SamePost w (sameV x y)) := by
  have hE := fun j => sameExpr_any (sz x.first) x.first y.first (Nat.le_refl _) (w.drewN j) gx 5 gy 5 ((hx.exprAt5 hcx).drew j) ((hy.exprAt5 hcy).drew j)
  have hO := fun j => equal_ons (w.drewN j) ca da x.clock y.clock cc dc hox hoy l1 l2
  obtain ⟨x0, x1, x2, x3, x4, _, _, _, _, _, _, _, _, _, _⟩ := has15 hx
  obtain ⟨y0, y1, y2, y3, y4, _, _, _, _, _, _, _, _, _, _⟩ := has15 hy
  have HE := Lib.hid hE
  have HO := Lib.hid hO
  clear hE hO hx hy hcx hcy hox hoy l1 l2
  unfold SamePost
  unfold sameV
  cases e1 : eqS x.name y.name
  case false =>
    rw [Bool.false_and]
    have f1 : (x.name.toList == y.name.toList) = false := e1
    clear e1 HE HO
    go_enter Try.func44, Try.ntmps44
    go_wp2_with fail
    try dsimp only [List.append]
    go_quiet (fail)
    go_wp2_with fail
    go_ret
    exact ⟨rfl, nq, rfl⟩

  have f1 : (x.name.toList == y.name.toList) = true := e1
  clear e1
  rw [Bool.true_and]
  by_cases e2 : x.tk = y.tk
  case neg =>
    rw [decide_eq_false e2, Bool.false_and, Bool.false_and]
    have f2 : ((x.tk : Int) == (y.tk : Int)) = false := by rw [beq_eq_false_iff_ne]; omega
    clear e2 HE HO
    go_enter Try.func44, Try.ntmps44
    go_wp2_with fail
    try dsimp only [List.append]
    go_quiet (fail)
    go_wp2_with fail
    go_ret
    exact ⟨rfl, nq, rfl⟩

  rw [decide_eq_true e2, Bool.true_and]
  have f2 : ((x.tk : Int) == (y.tk : Int)) = true := by rw [beq_iff_eq]; omega
  clear e2
  cases e3 : eqS x.tn y.tn
  case false =>
    rw [Bool.false_and]
    have f3 : (x.tn.toList == y.tn.toList) = false := e3
    clear e3 HE HO
    go_enter Try.func44, Try.ntmps44
    go_wp2_with fail
    try dsimp only [List.append]
    go_quiet (fail)
    go_wp2_with fail
    go_ret
    exact ⟨rfl, nq, rfl⟩

  have f3 : (x.tn.toList == y.tn.toList) = true := e3
  clear e3
  rw [Bool.true_and]
  cases e4 : onsB x.clock y.clock
  case false =>
    rw [Bool.false_and]
    rw [e4] at HO
    clear e4 HE
    go_enter Try.func44, Try.ntmps44
    go_wp2_with fail
    try dsimp only [List.append]
    go_quiet ((exact Calls.quiet_of (HO.out _)))
    go_wp2_with fail
    go_ret
    exact ⟨rfl, nq, rfl⟩

  rw [Bool.true_and]
  rw [e4] at HO
  clear e4
  cases e5 : (x.last == y.last)
  case false =>
    rw [Bool.false_and]
    clear HE
    go_enter Try.func44, Try.ntmps44
    go_wp2_with fail
    try dsimp only [List.append]
    go_quiet ((exact Calls.quiet_of (HO.out _)))
    go_wp2_with fail
    go_ret
    exact ⟨rfl, nq, rfl⟩

  rw [Bool.true_and]
  go_enter Try.func44, Try.ntmps44
  go_wp2_with fail
  try dsimp only [List.append]
  go_quiet ((first | exact Calls.quiet_of (HO.out _) | exact Calls.quiet_of (HE.out _)))
  go_wp2_with fail
  go_ret
  exact ⟨rfl, nq, rfl⟩

end Go.Proofs.Ytjkkalhgbfbcbaa.tr
