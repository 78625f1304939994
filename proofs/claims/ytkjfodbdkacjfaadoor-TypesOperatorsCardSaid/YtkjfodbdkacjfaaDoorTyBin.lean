/-
  expr of package types at an operator of two.
-/
import Derived.Test.YtkjfodbdkacjfaaDoorTyNode
namespace Go.Proofs.YtkjfodbdkacjfaaDoor.ty
open Go.ChangeShapes Go.WideShapes Go.ChangeAt Go.RowKit
open Go.Proofs.YtkjfodbdkacjfaaDoor.lx (Has grown_refl grown_put grown_below)
set_option linter.unusedVariables false

theorem grown_after {w W w' : World} {row : Option Nat} (hb : Below w.heap.size w W) (h : W.grownBy w' row) : w.grownBy w' row :=
  ⟨h.os.trans hb.os, h.tape.trans hb.tape, h.output.trans hb.output, Nat.le_trans hb.size h.size, fun k hk hne => (h.block k (Nat.lt_of_lt_of_le hk hb.size) hne).trans (hb.block k hk)⟩
theorem grown_far {w w' : World} {row : Option Nat} (h : w.grownBy w' row) {p : Addr} (hp : w.heap.size ≤ p.block) (v : Value) : w.grownBy (w'.setCell p v) row :=
  ⟨h.os, h.tape, h.output, by simp [World.setCell]; exact h.size, fun k hk hne => (Below.heap_setCell w' p v k (by omega)).trans (h.block k hk hne)⟩

/-- what expr leaves at an operator: its type; an error, if its kids aren't of it -/
def ExprPost (w : World) (g : Nat) (en mv : Value) (x y t : Int) (ok : Bool) (e : Ending) (w' : World) : Prop :=
  e = .returned (ty t noT) ∧ w.grownBy w' (some g) ∧ (ok = true → Chk w' g en mv .nilIface) ∧ (ok = false → ∃ ga, w.heap.size ≤ ga ∧ Has w' ga 96 #[.int .i64 x, .int .i64 y, .string noT, .bool false, .iface 56 (.int .i64 7)] ∧ Chk w' g en mv (.iface 92 (.pointer (some ⟨ga, 0, none⟩))))

set_option maxRecDepth 100000 in
set_option maxHeartbeats 4000000 in
theorem expr_bin (w : World) (g b o kb kc : Nat) (en mv : Value) (t k1 k2 x y : Int) (n1 n2 : ByteArray) (ok : Bool) (hc : Chk w g en mv .nilIface)
    (hbl : b < w.heap.size) (l5 : w.cell? ⟨b, o + 5, none⟩ = some (.slice (some ⟨kb, 0, none⟩) 2 kc)) (l6 : w.cell? ⟨b, o + 6, none⟩ = some (.int .i64 x)) (l7 : w.cell? ⟨b, o + 7, none⟩ = some (.int .i64 y)) (hkl : kb < w.heap.size) (hkc : 2 ≤ kc)
    (H0 : ∀ W, Below w.heap.size w W → Calls Tryd.prog 8 #[.pointer (some ⟨g, 0, none⟩), .pointer (some ⟨kb, 0, none⟩)] W fun e w' => e = .returned (ty k1 n1) ∧ Below W.heap.size W w')
    (H1 : ∀ W, Below w.heap.size w W → Calls Tryd.prog 8 #[.pointer (some ⟨g, 0, none⟩), .pointer (some ⟨kb, 8, none⟩)] W fun e w' => e = .returned (ty k2 n2) ∧ Below W.heap.size W w')
    (HO : ∀ W K, Below w.heap.size w W → Has W K 35 #[.int .u8 k1, .string n1, .int .u8 k2, .string n2] → Calls Tryd.prog 13 #[.pointer (some ⟨g, 0, none⟩), .pointer (some ⟨b, o, none⟩), .slice (some ⟨K, 0, none⟩) 2 2] W fun e w' => e = .returned (.tuple #[ty t noT, .bool ok]) ∧ Below W.heap.size W w') :
    Calls Tryd.prog 8 #[.pointer (some ⟨g, 0, none⟩), .pointer (some ⟨b, o, none⟩)] w (ExprPost w g en mv x y t ok) := by
  unfold ExprPost
  have H0W := Lib.hid H0
  have H1W := Lib.hid H1
  have HOW := Lib.hid HO
  have HCK := Lib.hid hc
  have hgl := hc.lt
  clear H0 H1 HO hc
  have hmk := make2
  go_enter Tryd.func8, Tryd.ntmps8
  go_wp2_with fail
  refine wp_loop_rounds 3 ?_
  rw [rounds_succ]
  go_wp2_with fail
  refine (H0W.out _ (by go_grown)).mono ?_
  rintro e w1 ⟨rfl, hb1⟩
  have hB : Below w.heap.size w w1 := (((Below.refl _ w).alloc (Nat.le_refl _) (.cells #[.int .u8 0, .string ⟨#[]⟩] 35)).alloc (by simp) (.cells #[.int .u8 0, .string ⟨#[]⟩, .int .u8 0, .string ⟨#[]⟩] 35)).trans (hb1.mono (by simp; omega))
  have hr := ((Has.new w 35 #[.int .u8 0, .string ⟨#[]⟩]).alloc (.cells #[.int .u8 0, .string ⟨#[]⟩, .int .u8 0, .string ⟨#[]⟩] 35)).below hb1 (by simp; omega)
  have hk := (Has.new (w.alloc (.cells #[.int .u8 0, .string ⟨#[]⟩] 35)) 35 #[.int .u8 0, .string ⟨#[]⟩, .int .u8 0, .string ⟨#[]⟩]).below hb1 (by simp)
  have hs := hb1.size
  simp only [World.size_alloc] at hs hk
  have HB := Lib.hid hB
  have HR := Lib.hid hr
  have HK := Lib.hid hk
  have q5 := (hB.cell (p := ⟨b, o + 5, none⟩) hbl).trans l5
  have kc0 := hk.cell 0
  have kc1 := hk.cell 1
  have kf := fun i => hk.free i
  simp only [List.getElem?_toArray, List.getElem?_cons_zero, List.getElem?_cons_succ] at kc0 kc1
  have hbl1 : b < w1.heap.size := by omega
  have wl1 : w.heap.size + 1 < w1.heap.size := by omega
  have bne : b ≠ w.heap.size + 1 := by omega
  clear hb1 hB hr H0W hk
  go_wp2_with fail
  rw [rounds_succ]
  go_wp2_with fail
  refine (H1W.out _ ((HB.out.setCell (by simp) _).setCell (by simp) _)).mono ?_
  rintro e w2 ⟨rfl, hb2⟩
  have hB := ((HB.out.setCell (p := ⟨w.heap.size + 1, 0, none⟩) (by simp) (.int .u8 k1)).setCell (p := ⟨w.heap.size + 1, 1, none⟩) (by simp) (.string n1)).trans (hb2.mono (by simp; omega))
  have hr := ((HR.out.put_far 0 (.int .u8 k1) (g' := w.heap.size + 1) (by omega)).put_far 1 (.string n1) (g' := w.heap.size + 1) (by omega)).below hb2 (by simp; omega)
  have hk := ((HK.out.put 0 (.int .u8 k1)).put 1 (.string n1)).below hb2 (by simp; omega)
  have hs2 := hb2.size
  simp only [World.size_setCell] at hs2
  simp only [List.setIfInBounds_toArray, List.set_cons_zero, List.set_cons_succ] at hk
  have HB2 := Lib.hid hB
  have HR2 := Lib.hid hr
  have HK2 := Lib.hid hk
  have kc2 := hk.cell 2
  have kc3 := hk.cell 3
  have kf2 := fun i => hk.free i
  simp only [List.getElem?_toArray, List.getElem?_cons_zero, List.getElem?_cons_succ] at kc2 kc3
  have q5' := (hB.cell (p := ⟨b, o + 5, none⟩) hbl).trans l5
  have hbl2 : b < w2.heap.size := by omega
  have wl2 : w.heap.size + 1 < w2.heap.size := by omega
  clear hb2 hB hr H1W hk HB HR HK kc0 kc1 kf q5
  go_wp2_with fail
  rw [rounds_succ]
  go_wp2_with fail
  refine (HOW.out _ _ ((HB2.out.setCell (by simp) _).setCell (by simp) _) ((HK2.out.put 2 (.int .u8 k2)).put 3 (.string n2))).mono ?_
  rintro e w3 ⟨rfl, hb3⟩
  have hB := ((HB2.out.setCell (p := ⟨w.heap.size + 1, 2, none⟩) (by simp) (.int .u8 k2)).setCell (p := ⟨w.heap.size + 1, 3, none⟩) (by simp) (.string n2)).trans (hb3.mono (by simp; omega))
  have hr := ((HR2.out.put_far 2 (.int .u8 k2) (g' := w.heap.size + 1) (by omega)).put_far 3 (.string n2) (g' := w.heap.size + 1) (by omega)).below hb3 (by simp; omega)
  have hs3 := hb3.size
  simp only [World.size_setCell] at hs3
  have HB3 := Lib.hid hB
  have HR3 := Lib.hid hr
  have q6 := (hB.cell (p := ⟨b, o + 6, none⟩) hbl).trans l6
  have q7 := (hB.cell (p := ⟨b, o + 7, none⟩) hbl).trans l7
  have hbl3 : b < w3.heap.size := by omega
  have wl3 : w.heap.size + 1 < w3.heap.size := by omega
  clear hb3 hB hr HOW HB2 HR2 HK2 kc2 kc3 kf2 q5' l5 l6 l7
  go_wp2_with fail
  cases ok
  · refine (must_bad _ _ _ _ _ _ (HCK.out.below (HB3.out.alloc (by omega) _) hgl)).mono ?_
    rintro e w4 ⟨rfl, ga, hga, hn, hk4, hg4⟩
    have hG := grown_after (HB3.out.alloc (by omega) (.cells #[.int .u8 t, .string noT] 35)) hg4
    have hr := (HR3.out.alloc (.cells #[.int .u8 t, .string noT] 35)).grown hg4 (by simp; omega)
    have h7 := (Has.new w3 35 #[.int .u8 t, .string noT]).grown hg4 (by simp; omega)
    have hs4 := hg4.size
    simp only [World.size_alloc] at hs4 hga
    have rs := fun v0 v1 => selfs2 hr v0 v1
    have R := Lib.hid rs
    have rc0 := hr.cell 0
    have rc1 := hr.cell 1
    have rf := fun i => hr.free i
    have k0 := h7.cell 0
    have k1 := h7.cell 1
    simp only [List.getElem?_toArray, List.getElem?_cons_zero, List.getElem?_cons_succ] at rc0 rc1 k0 k1
    have HG := Lib.hid hG
    have HN := Lib.hid hn
    have HK4 := Lib.hid hk4
    have wl4 : w.heap.size < w4.heap.size := by omega
    clear hG hr rs HR3 HB3 h7 hn hk4 hg4 HCK
    go_wp2_with fail
    (try simp only [Exit.inBlock, Exit.then])
    refine bodyPost_ret (by simp [results, Tryd.results8, go_sem, R.out]; try rfl) rfl ?_
    exact ⟨rfl, grown_far (grown_far HG.out (by simp) _) (by simp) _, ga, by omega, (HN.out.put_far 0 _ (by omega)).put_far 1 _ (by omega), (HK4.out.put_far 0 _ (by omega)).put_far 1 _ (by omega)⟩
  · refine (must_ok _ _ _ _).mono ?_
    rintro e w4 ⟨rfl, hb4⟩
    have hB := (HB3.out.alloc (by omega) (.cells #[.int .u8 t, .string noT] 35)).trans (hb4.mono (by simp; omega))
    have hr := (HR3.out.alloc (.cells #[.int .u8 t, .string noT] 35)).below hb4 (by simp; omega)
    have h7 := (Has.new w3 35 #[.int .u8 t, .string noT]).below hb4 (by simp)
    have hs4 := hb4.size
    simp only [World.size_alloc] at hs4
    have rs := fun v0 v1 => selfs2 hr v0 v1
    have R := Lib.hid rs
    have rc0 := hr.cell 0
    have rc1 := hr.cell 1
    have rf := fun i => hr.free i
    have k0 := h7.cell 0
    have k1 := h7.cell 1
    simp only [List.getElem?_toArray, List.getElem?_cons_zero, List.getElem?_cons_succ] at rc0 rc1 k0 k1
    have HB := Lib.hid hB
    have wl4 : w.heap.size < w4.heap.size := by omega
    clear hB hr rs HR3 HB3 h7 hb4
    go_wp2_with fail
    (try simp only [Exit.inBlock, Exit.then])
    refine bodyPost_ret (by simp [results, Tryd.results8, go_sem, R.out]; try rfl) rfl ?_
    have hb5 := (HB.out.setCell (p := ⟨w.heap.size, 0, none⟩) (by simp) (.int .u8 t)).setCell (p := ⟨w.heap.size, 1, none⟩) (by simp) (.string noT)
    exact ⟨rfl, grown_below _ hb5, HCK.out.below hb5 hgl⟩
end Go.Proofs.YtkjfodbdkacjfaaDoor.ty
