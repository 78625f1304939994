/-
  Are two expressions one: the reference's SameExpr, by induction on the expression.
-/
import Derived.Test.YtjkkalhgbfbcbaaTrSame
import Derived.StillTailTactics
namespace Go.Proofs.Ytjkkalhgbfbcbaa.tr
open Go.ChangeShapes Go.WideShapes Go.ChangeAt Go.RowKit
set_option linter.unusedVariables false

def SamePostR (w : World) (b : Bool) (e : Ending) (w' : World) : Prop := e = .returned (.bool b) ∧ Below w.heap.size w w'
set_option maxRecDepth 100000 in
set_option maxHeartbeats 4000000 in
theorem sameExprR_any (N : Nat) : ∀ (x y : Ex), sz x ≤ N → ∀ (w : World) (cs ds : Array Value), LaidC w x cs.toList → LaidC w y ds.toList →
    Calls Try.prog 46 #[.agg cs, .agg ds] w (SamePostR w (sameE x y)) := by
  induction N with
  | zero => intro x y h; have := sz_pos x; omega
  | succ N ih =>
    intro x y hN w cs ds hx hy
    obtain ⟨k, o, n, nm, nms, kids, l, c⟩ := x
    obtain ⟨k', o', n', nm', nms', kids', l', c'⟩ := y
    unfold sz at hN
    unfold LaidC at hx hy
    obtain ⟨hk, ho, hnm, hnl, hkl, na, nc, ka, kc, _, hkc, hcs, hns, hks⟩ := hx
    obtain ⟨hk', ho', hnm', hnl', hkl', na', nc', ka', kc', _, hkc', hds, hns', hks'⟩ := hy
    obtain rfl : cs = #[.int .u8 k, .int .u8 o, .int .i32 n, .string nm, .slice na nms.length nc, .slice ka kids.length kc, .int .i64 l, .int .i64 c] := by apply Array.toList_inj.1; rw [hcs]
    obtain rfl : ds = #[.int .u8 k', .int .u8 o', .int .i32 n', .string nm', .slice na' nms'.length nc', .slice ka' kids'.length kc', .int .i64 l', .int .i64 c'] := by apply Array.toList_inj.1; rw [hds]
    clear hcs hds
    have hB0 := ((Below.refl w.heap.size w).alloc (Nat.le_refl _) (.cells #[.int .u8 k, .int .u8 o, .int .i32 n, .string nm, .slice na nms.length nc, .slice ka kids.length kc, .int .i64 l, .int .i64 c] 44)).alloc (by simp) (.cells #[.int .u8 k', .int .u8 o', .int .i32 n', .string nm', .slice na' nms'.length nc', .slice ka' kids'.length kc', .int .i64 l', .int .i64 c'] 44)
    have hE := fun wx (hb : Below w.heap.size w wx) => samenames_any wx na na' nms nms' nc nc' (hns.below hb) (hns'.below hb) hnl hnl'
    have HE := Lib.hid hE
    have HB0 := Lib.hid hB0
    have HK := Lib.hid hks
    have HK' := Lib.hid hks'
    have HI : Hid (∀ i (hi : i < kids.length) (hj : i < kids'.length) (wx : World) (cs ds : Array Value), LaidC wx kids[i] cs.toList → LaidC wx kids'[i] ds.toList → Calls Try.prog 46 #[.agg cs, .agg ds] wx (SamePostR wx (sameE kids[i] kids'[i]))) :=
      Lib.hid (fun i hi hj wx cs ds h1 h2 => ih kids[i] kids'[i] (by have := sz_kid kids i hi; omega) wx cs ds h1 h2)
    unfold maxLen at hkl hkl' hnl hnl'
    clear hE hB0 hks hks' hns hns' ih hN ho ho' hk hk' hnm hnm'
    rw [sameE]
    unfold SamePostR
    by_cases c1 : k = k'
    case neg =>
      rw [decide_eq_false c1, Bool.false_and]
      have f1 : ((k : Int) == (k' : Int)) = false := by rw [beq_eq_false_iff_ne]; omega
      have g1 : ((k : Int) != (k' : Int)) = true := by rw [bne_iff_ne]; omega
      clear c1
      go_enter Try.func46, Try.ntmps46
      go_wp2_with fail
      go_ret
      exact ⟨rfl, HB0.out⟩
    rw [decide_eq_true c1, Bool.true_and]
    have f1 : ((k : Int) == (k' : Int)) = true := by rw [beq_iff_eq]; omega
    have g1 : ((k : Int) != (k' : Int)) = false := by simp [c1]
    clear c1
    by_cases c2 : o = o'
    case neg =>
      rw [decide_eq_false c2, Bool.false_and]
      have f2 : ((o : Int) == (o' : Int)) = false := by rw [beq_eq_false_iff_ne]; omega
      have g2 : ((o : Int) != (o' : Int)) = true := by rw [bne_iff_ne]; omega
      clear c2
      go_enter Try.func46, Try.ntmps46
      go_wp2_with fail
      go_ret
      exact ⟨rfl, HB0.out⟩
    rw [decide_eq_true c2, Bool.true_and]
    have f2 : ((o : Int) == (o' : Int)) = true := by rw [beq_iff_eq]; omega
    have g2 : ((o : Int) != (o' : Int)) = false := by simp [c2]
    clear c2
    by_cases c3 : n = n'
    case neg =>
      rw [decide_eq_false c3, Bool.false_and]
      have f3 : (n == n') = false := by rw [beq_eq_false_iff_ne]; exact c3
      have g3 : (n != n') = true := by rw [bne_iff_ne]; exact c3
      clear c3
      go_enter Try.func46, Try.ntmps46
      go_wp2_with fail
      go_ret
      exact ⟨rfl, HB0.out⟩
    rw [decide_eq_true c3, Bool.true_and]
    have f3 : (n == n') = true := by rw [beq_iff_eq]; exact c3
    have g3 : (n != n') = false := by simp [c3]
    clear c3
    cases c4 : eqS nm nm'
    case false =>
      rw [Bool.false_and]
      have f4 : (nm.toList == nm'.toList) = false := c4
      clear c4
      go_enter Try.func46, Try.ntmps46
      go_wp2_with fail
      go_ret
      exact ⟨rfl, HB0.out⟩
    have f4 : (nm.toList == nm'.toList) = true := c4
    clear c4
    rw [Bool.true_and]
    cases c5 : namesB nms nms'
    case false =>
      rw [Bool.false_and]
      rw [c5] at HE
      clear c5
      go_enter Try.func46, Try.ntmps46
      go_wp2_with fail
      refine (HE.out _ HB0.out).mono ?_
      rintro e w1 ⟨rfl, n1, rfl⟩
      go_wp2_with fail
      go_ret
      exact ⟨rfl, below_drewN HB0.out _⟩
    rw [Bool.true_and]
    rw [c5] at HE
    clear c5
    by_cases c6 : kids.length = kids'.length
    case neg =>
      rw [sameK_len _ _ c6]
      have f6 : ((kids.length : Int) == (kids'.length : Int)) = false := by rw [beq_eq_false_iff_ne]; omega
      have g6 : ((kids.length : Int) != (kids'.length : Int)) = true := by rw [bne_iff_ne]; omega
      clear c6
      go_enter Try.func46, Try.ntmps46
      go_wp2_with fail
      refine (HE.out _ HB0.out).mono ?_
      rintro e w1 ⟨rfl, n1, rfl⟩
      go_wp2_with fail
      go_ret
      exact ⟨rfl, below_drewN HB0.out _⟩
    have f6 : ((kids.length : Int) == (kids'.length : Int)) = true := by rw [beq_iff_eq]; omega
    have g6 : ((kids.length : Int) != (kids'.length : Int)) = false := by simp [c6]
    have H6 := Lib.hid c6
    clear c6
    have hx0 := (Has.new w 44 #[.int .u8 k, .int .u8 o, .int .i32 n, .string nm, .slice na nms.length nc, .slice ka kids.length kc, .int .i64 l, .int .i64 c]).alloc (.cells #[.int .u8 k', .int .u8 o', .int .i32 n', .string nm', .slice na' nms'.length nc', .slice ka' kids'.length kc', .int .i64 l', .int .i64 c'] 44)
    have hy0 := Has.new (w.alloc (.cells #[.int .u8 k, .int .u8 o, .int .i32 n, .string nm, .slice na nms.length nc, .slice ka kids.length kc, .int .i64 l, .int .i64 c] 44)) 44 #[.int .u8 k', .int .u8 o', .int .i32 n', .string nm', .slice na' nms'.length nc', .slice ka' kids'.length kc', .int .i64 l', .int .i64 c']
    simp only [World.size_alloc] at hy0
    have HX := Lib.hid hx0
    have HY := Lib.hid hy0
    clear hx0 hy0
    go_enter Try.func46, Try.ntmps46
    go_wp2_with fail
    refine (HE.out _ HB0.out).mono ?_
    rintro e w1 ⟨rfl, n1, rfl⟩
    go_wp2_with fail
    go_loopw [5] (fun iv wr => ∃ (i : Nat), i ≤ kids.length ∧ iv = .int .i64 i ∧ Hid (Below w.heap.size w wr ∧ w.heap.size + 2 ≤ wr.heap.size) ∧ Hid (Has wr w.heap.size 44 #[.int .u8 k, .int .u8 o, .int .i32 n, .string nm, .slice na nms.length nc, .slice ka kids.length kc, .int .i64 l, .int .i64 c]) ∧ Hid (Has wr (w.heap.size + 1) 44 #[.int .u8 k', .int .u8 o', .int .i32 n', .string nm', .slice na' nms'.length nc', .slice ka' kids'.length kc', .int .i64 l', .int .i64 c']) ∧ Hid (sameK (kids.drop i) (kids'.drop i) = sameK kids kids')) (fun iv _ => kids.length - (intOf iv).toNat)
    case atStart => exact ⟨0, by omega, rfl, Lib.hid ⟨below_drewN HB0.out _, by rw [drewN_heap]; simp⟩, Lib.hid HX.out, Lib.hid HY.out, Lib.hid (by rw [List.drop_zero, List.drop_zero])⟩
    case round =>
      obtain ⟨i, hi, rfl, HB, HX1, HY1, HF⟩ := hrel
      obtain ⟨p0, p1, p2, p3, p4, p5, p6, p7⟩ := has8 HX1.out
      obtain ⟨q0, q1, q2, q3, q4, q5, q6, q7⟩ := has8 HY1.out
      by_cases hlt : i < kids.length
      · have hlt2 : i < kids'.length := by rw [← H6.out]; exact hlt
        obtain ⟨xb, xo, rfl, hx⟩ := HK.out.get i hlt
        obtain ⟨yb, yo, rfl, hy⟩ := HK'.out.get i hlt2
        obtain ⟨k0, k1, k2, k3, k4, k5, k6, k7, hx', r0, r1, r2, r3, r4, r5, r6, r7⟩ := (hx.below HB.out.1).form
        obtain ⟨l0, l1, l2, l3, l4, l5, l6, l7, hy', s0, s1, s2, s3, s4, s5, s6, s7⟩ := (hy.below HB.out.1).form
        have hF := HF.out
        rw [sameK_at kids kids' i hlt hlt2] at hF
        obtain ⟨w2, hw2⟩ : ∃ w2, w2 = wr.drew := ⟨_, rfl⟩
        have hbd : Below wr.heap.size wr w2 := by rw [hw2]; exact ⟨rfl, rfl, rfl, Nat.le_refl _, fun _ _ => rfl⟩
        have hcall := HI.out i hlt hlt2 w2 #[k0, k1, k2, k3, k4, k5, k6, k7] #[l0, l1, l2, l3, l4, l5, l6, l7] (LaidC.below hbd _ _ hx') (LaidC.below hbd _ _ hy')
        have HW2 := Lib.hid hw2
        have HBD := Lib.hid hbd
        have i0 : (0 : Int) ≤ (i : Int) := Int.natCast_nonneg _
        have i1 : (i : Int) < (kids.length : Int) := by omega
        have i2 : (i : Int) < (kids'.length : Int) := by omega
        clear HF hx hy hx' hy' hw2 hbd
        cases he : sameE kids[i] kids'[i]
        all_goals
          rw [he] at hF hcall
          simp only [Bool.false_and, Bool.true_and] at hF
          have HF2 := Lib.hid hF
          have HC := Lib.hid hcall
          clear hF hcall he
          go_wp2_with fail
          go_still_tail 10, (by kernel_rfl)
          change wpList _ _ _ _ _ wr.drew
          rw [← HW2.out]
          go_wp2_with fail
          refine HC.out.mono ?_
          rintro e w3 ⟨rfl, hb3⟩
          have hb := HBD.out.trans (hb3.mono HBD.out.size)
          have HB3 := Lib.hid (And.intro (HB.out.1.trans (hb.mono HB.out.1.size)) (Nat.le_trans HB.out.2 hb.size))
          have HX3 := Lib.hid (HX1.out.below hb HX1.out.lt)
          have HY3 := Lib.hid (HY1.out.below hb HY1.out.lt)
          clear hb3 hb
          go_wp2_with fail
          first
          | (go_ret
             exact ⟨ret_bool' HF2.out, HB3.out.1⟩)
          | (go_roundw
             case rel => exact ⟨i + 1, by omega, by go_num, HB3, HX3, HY3, HF2⟩
             case measure => simp [intOf]; omega)
      · obtain rfl : i = kids.length := by omega
        have hF := HF.out
        rw [sameK_end _ _ H6.out] at hF
        have HF2 := Lib.hid hF
        clear hF
        go_wp2_with fail
        go_ret
        exact ⟨ret_bool' HF2.out, HB.out.1⟩
end Go.Proofs.Ytjkkalhgbfbcbaa.tr
