/-
  Are two expressions one: sameExpr of package tree, by induction on the expression.
-/
import Derived.Test.YtjkkalhgbfbcbaaTrEqs
import Derived.Test.YtjkkalhgbfbcbaaTrCount
namespace Go.Proofs.Ytjkkalhgbfbcbaa.tr
open Go.ChangeShapes Go.WideShapes Go.ChangeAt Go.RowKit
set_option linter.unusedVariables false

mutual
def sameE : Ex → Ex → Bool
  | .mk k o n nm nms kids _ _, .mk k' o' n' nm' nms' kids' _ _ => decide (k = k') && (decide (o = o') && (decide (n = n') && (eqS nm nm' && (namesB nms nms' && sameK kids kids'))))
def sameK : List Ex → List Ex → Bool
  | [], [] => true
  | x :: r, y :: s => sameE x y && sameK r s
  | _, _ => false
end
theorem sameK_len : ∀ (l m : List Ex), l.length ≠ m.length → sameK l m = false
  | [], [], h => absurd rfl h
  | [], _ :: _, _ => by simp [sameK]
  | _ :: _, [], _ => by simp [sameK]
  | x :: r, y :: s, h => by
    rw [sameK, sameK_len r s (by simpa using h), Bool.and_false]
mutual
theorem sameE_refl : ∀ (x : Ex), sameE x x = true
  | .mk k o n nm nms kids _ _ => by rw [sameE, decide_eq_true rfl, decide_eq_true rfl, decide_eq_true rfl, eqS_refl, namesB_refl, sameK_refl kids]; rfl
theorem sameK_refl : ∀ (l : List Ex), sameK l l = true
  | [] => by rw [sameK]
  | x :: r => by rw [sameK, sameE_refl x, sameK_refl r]; rfl
end
theorem sameK_at (l m : List Ex) (i : Nat) (hi : i < l.length) (hj : i < m.length) : sameK (l.drop i) (m.drop i) = (sameE l[i] m[i] && sameK (l.drop (i + 1)) (m.drop (i + 1))) := by
  rw [List.drop_eq_getElem_cons hi, List.drop_eq_getElem_cons hj, sameK]
theorem sameK_end (l m : List Ex) (h : l.length = m.length) : sameK (l.drop l.length) (m.drop l.length) = true := by
  rw [List.drop_length, List.drop_eq_nil_of_le (by omega), sameK]

theorem LaidAt.drew {w : World} {b off : Nat} {x : Ex} (h : LaidAt w b off x) (n : Nat) : LaidAt (w.drewN n) b off x := h.below (below_drewN (Below.refl _ _) n)

set_option maxRecDepth 100000 in
/-- two rows of expressions, given that each two are compared -/
theorem sameAll_of (w : World) (ka kb : Option Addr) (l m : List Ex) (c d : Nat) (hl : LaidK w ka l) (hm : LaidK w kb m) (h1 : l.length ≤ maxLen) (h2 : m.length ≤ maxLen)
    (H : ∀ i (hi : i < l.length) (hj : i < m.length) (b off b' off' : Nat) (n : Nat), LaidAt w b off l[i] → LaidAt w b' off' m[i] →
      Calls Try.prog 69 #[.pointer (some ⟨b, off, none⟩), .pointer (some ⟨b', off', none⟩)] (w.drewN n) fun e w' => e = .returned (.bool (sameE l[i] m[i])) ∧ ∃ k, w' = (w.drewN n).drewN k) :
    Calls Try.prog 77 #[.slice ka l.length c, .slice kb m.length d, .func (.func 69) #[] #[]] w fun e w' => e = .returned (.bool (sameK l m)) ∧ ∃ n, w' = w.drewN n := by
  unfold maxLen at h1 h2
  by_cases hq : l.length = m.length
  · have HL := Lib.hid hl
    have HM := Lib.hid hm
    have HQ := Lib.hid hq
    have HH := Lib.hid H
    have hq' : ((l.length : Int) != (m.length : Int)) = false := by simp [hq]
    clear hl hm hq H
    go_enter Try.func77, Try.ntmps77
    go_wp2_with fail
    go_loopw [15] (fun iv wr => ∃ (i j : Nat), i ≤ l.length ∧ iv = .int .i64 i ∧ Hid (wr = w.drewN j) ∧ Hid (sameK (l.drop i) (m.drop i) = sameK l m)) (fun iv _ => l.length - (intOf iv).toNat)
    case atStart => exact ⟨0, 0, by omega, rfl, Lib.hid rfl, Lib.hid (by rw [List.drop_zero, List.drop_zero])⟩
    case round =>
      obtain ⟨i, j, hi, rfl, HW, HF⟩ := hrel
      by_cases hlt : i < l.length
      · have hlt2 : i < m.length := by rw [← HQ.out]; exact hlt
        obtain ⟨xb, xo, rfl, hx⟩ := HL.out.get i hlt
        obtain ⟨yb, yo, rfl, hy⟩ := HM.out.get i hlt2
        have hF := HF.out
        rw [sameK_at l m i hlt hlt2] at hF
        have hcall : ∀ n, Calls Try.prog 69 #[.pointer (some ⟨xb, xo + i * 8, none⟩), .pointer (some ⟨yb, yo + i * 8, none⟩)] (wr.drewN n) fun e w' => e = .returned (.bool (sameE l[i] m[i])) ∧ ∃ k, w' = (wr.drewN n).drewN k := fun n => by
          rw [HW.out, World.drewN_drewN]
          exact HH.out i hlt hlt2 _ _ _ _ (j + n) hx hy
        have i0 : (0 : Int) ≤ (i : Int) := Int.natCast_nonneg _
        have i1 : (i : Int) < (l.length : Int) := by omega
        have i2 : (i : Int) < (m.length : Int) := by omega
        have hz1 : 0 < l.length := by omega
        clear HF hx hy
        cases he : sameE l[i] m[i]
        all_goals
          rw [he] at hF hcall
          simp only [Bool.false_and, Bool.true_and] at hF
          have HF2 := Lib.hid hF
          have HC := Lib.hid hcall
          clear hF hcall he
          go_wp2_with fail
          go_quiet ((exact Calls.quiet_of (HC.out _)))
          go_wp2_with fail
          first
          | (go_ret
             exact ⟨ret_bool' HF2.out, j + nq, by rw [HW.out]; exact World.drewN_drewN _ _ _⟩)
          | (go_roundw
             case rel => exact ⟨i + 1, j + nq, by omega, by go_num, Lib.hid (by rw [HW.out]; exact World.drewN_drewN _ _ _), HF2⟩
             case measure => simp [intOf]; omega)
      · obtain rfl : i = l.length := by omega
        have hF := HF.out
        rw [sameK_end l m HQ.out] at hF
        have HF2 := Lib.hid hF
        clear hF
        go_wp2_with fail
        go_ret
        exact ⟨ret_bool' HF2.out, j, HW.out⟩
  · have hq' : ((l.length : Int) != (m.length : Int)) = true := by rw [bne_iff_ne]; omega
    rw [sameK_len l m hq]
    clear hq
    go_enter Try.func77, Try.ntmps77
    go_wp2_with fail
    go_ret
    exact ⟨rfl, 0, rfl⟩

/-- an expression's first six cells, at a place -/
theorem LaidAt.open6 {w : World} {b off : Nat} {x : Ex} (h : LaidAt w b off x) : ∃ k o n nm nms kids l c na nc ka kc, x = .mk k o n nm nms kids l c ∧ k ≤ 255 ∧ o ≤ 255 ∧ nm.size ≤ maxLen ∧ nms.length ≤ maxLen ∧ kids.length ≤ maxLen ∧
    w.cell? ⟨b, off, none⟩ = some (.int .u8 k) ∧ w.cell? ⟨b, off + 1, none⟩ = some (.int .u8 o) ∧ w.cell? ⟨b, off + 2, none⟩ = some (.int .i32 n) ∧ w.cell? ⟨b, off + 3, none⟩ = some (.string nm) ∧
    w.cell? ⟨b, off + 4, none⟩ = some (.slice na nms.length nc) ∧ w.cell? ⟨b, off + 5, none⟩ = some (.slice ka kids.length kc) ∧ Strs w na nms ∧ LaidK w ka kids := by
  obtain ⟨k, o, n, nm, nms, kids, l, c⟩ := x
  obtain ⟨cs, hc, hx⟩ := h
  unfold LaidC at hx
  obtain ⟨hk, ho, hnm, hnl, hkl, na, nc, ka, kc, _, hkc, rfl, hns, hks⟩ := hx
  have z0 := hc 0 _ rfl
  rw [Nat.add_zero] at z0
  exact ⟨k, o, n, nm, nms, kids, l, c, na, nc, ka, kc, rfl, hk, ho, hnm, hnl, hkl, z0, hc 1 _ rfl, hc 2 _ rfl, hc 3 _ rfl, hc 4 _ rfl, hc 5 _ rfl, hns, hks⟩

def SamePost (w : World) (b : Bool) (e : Ending) (w' : World) : Prop := e = .returned (.bool b) ∧ ∃ n, w' = w.drewN n
set_option maxRecDepth 100000 in
set_option maxHeartbeats 4000000 in
theorem sameExpr_any (N : Nat) : ∀ (x y : Ex), sz x ≤ N → ∀ (w : World) (b off b' off' : Nat), LaidAt w b off x → LaidAt w b' off' y →
    Calls Try.prog 69 #[.pointer (some ⟨b, off, none⟩), .pointer (some ⟨b', off', none⟩)] w (SamePost w (sameE x y)) := by
  induction N with
  | zero => intro x y h; have := sz_pos x; omega
  | succ N ih =>
    intro x y hN w b off b' off' hx hy
    obtain ⟨k, o, n, nm, nms, kids, l, c, na, nc, ka, kc, rfl, hk, ho, hnm, hnl, hkl, x0, x1, x2, x3, x4, x5, hns, hks⟩ := hx.open6
    obtain ⟨k', o', n', nm', nms', kids', l', c', na', nc', ka', kc', rfl, hk', ho', hnm', hnl', hkl', y0, y1, y2, y3, y4, y5, hns', hks'⟩ := hy.open6
    unfold sz at hN
    have hE := fun j => equal_strs (w.drewN j) na na' nms nms' nc nc' hns hns' hnl hnl'
    have hA := fun j => sameAll_of (w.drewN j) ka ka' kids kids' kc kc' (LaidK.below (below_drewN (Below.refl _ _) j) _ _ hks) (LaidK.below (below_drewN (Below.refl _ _) j) _ _ hks') hkl hkl' (fun i hi hj b off b' off' n h1 h2 => ih kids[i] kids'[i] (by have := sz_kid kids i hi; omega) _ _ _ _ _ (h1.drew n) (h2.drew n))
    have HE := Lib.hid hE
    have HA := Lib.hid hA
    clear hE hA hns hns' hks hks' ih hx hy hk ho hnm hnl hkl hk' ho' hnm' hnl' hkl' hN
    rw [sameE]
    unfold SamePost
    by_cases c1 : k = k'
    case neg =>
      rw [decide_eq_false c1, Bool.false_and]
      have f1 : ((k : Int) == (k' : Int)) = false := by rw [beq_eq_false_iff_ne]; omega
      clear c1 HE HA
      go_enter Try.func69, Try.ntmps69
      go_wp2_with fail
      dsimp only [List.append]
      go_quiet (fail)
      go_wp2_with fail
      go_ret
      exact ⟨rfl, nq, rfl⟩

    rw [decide_eq_true c1, Bool.true_and]
    have f1 : ((k : Int) == (k' : Int)) = true := by rw [beq_iff_eq]; omega
    clear c1
    by_cases c2 : o = o'
    case neg =>
      rw [decide_eq_false c2, Bool.false_and]
      have f2 : ((o : Int) == (o' : Int)) = false := by rw [beq_eq_false_iff_ne]; omega
      clear c2 HE HA
      go_enter Try.func69, Try.ntmps69
      go_wp2_with fail
      dsimp only [List.append]
      go_quiet (fail)
      go_wp2_with fail
      go_ret
      exact ⟨rfl, nq, rfl⟩

    rw [decide_eq_true c2, Bool.true_and]
    have f2 : ((o : Int) == (o' : Int)) = true := by rw [beq_iff_eq]; omega
    clear c2
    by_cases c3 : n = n'
    case neg =>
      rw [decide_eq_false c3, Bool.false_and]
      have f3 : (n == n') = false := by rw [beq_eq_false_iff_ne]; exact c3
      clear c3 HE HA
      go_enter Try.func69, Try.ntmps69
      go_wp2_with fail
      dsimp only [List.append]
      go_quiet (fail)
      go_wp2_with fail
      go_ret
      exact ⟨rfl, nq, rfl⟩

    rw [decide_eq_true c3, Bool.true_and]
    have f3 : (n == n') = true := by rw [beq_iff_eq]; exact c3
    clear c3
    cases c4 : eqS nm nm'
    case false =>
      rw [Bool.false_and]
      have f4 : (nm.toList == nm'.toList) = false := c4
      clear c4 HE HA
      go_enter Try.func69, Try.ntmps69
      go_wp2_with fail
      dsimp only [List.append]
      go_quiet (fail)
      go_wp2_with fail
      go_ret
      exact ⟨rfl, nq, rfl⟩

    have f4 : (nm.toList == nm'.toList) = true := c4
    clear c4
    rw [Bool.true_and]
    cases c5 : namesB nms nms'
    case false =>
      rw [Bool.false_and]
      have HE2 := Lib.hid (by have h := HE.out; rw [c5] at h; exact h)
      clear c5 HE HA
      go_enter Try.func69, Try.ntmps69
      go_wp2_with fail
      dsimp only [List.append]
      go_quiet ((exact Calls.quiet_of (HE2.out _)))
      go_wp2_with fail
      go_ret
      exact ⟨rfl, nq, rfl⟩

    rw [Bool.true_and]
    have HE2 := Lib.hid (by have h := HE.out; rw [c5] at h; exact h)
    clear c5 HE
    go_enter Try.func69, Try.ntmps69
    go_wp2_with fail
    dsimp only [List.append]
    go_quiet ((first | exact Calls.quiet_of (HE2.out _) | exact Calls.quiet_of (HA.out _)))
    go_wp2_with fail
    go_ret
    exact ⟨rfl, nq, rfl⟩

end Go.Proofs.Ytjkkalhgbfbcbaa.tr
