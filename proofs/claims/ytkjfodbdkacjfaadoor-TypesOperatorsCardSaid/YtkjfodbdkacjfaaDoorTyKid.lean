/-
  own at a constructor; must; faults.New of Typed; expr at an expression without kids.
-/
import Derived.Test.YtkjfodbdkacjfaaDoorTyLeaf
namespace Go.Proofs.YtkjfodbdkacjfaaDoor.ty
open Go.ChangeShapes Go.WideShapes Go.ChangeAt Go.RowKit
open Go.Proofs.YtkjfodbdkacjfaaDoor.lx (Has grown_refl grown_put grown_below)
set_option linter.unusedVariables false

set_option maxRecDepth 100000 in
theorem make0 (w : World) : (Instr.makeSlice 64 (.int .i64 0) (.int .i64 0)).run Tryd.prog w = .ok (.slice (some ⟨w.heap.size, 0, none⟩) 0 0) (w.alloc (.cells #[] 35)) := by kernel_rfl
theorem make1 (w : World) : (Instr.makeSlice 64 (.int .i64 1) (.int .i64 1)).run Tryd.prog w = .ok (.slice (some ⟨w.heap.size, 0, none⟩) 1 1) (w.alloc (.cells #[.int .u8 0, .string ⟨#[]⟩] 35)) := by kernel_rfl
theorem make2 (w : World) : (Instr.makeSlice 64 (.int .i64 2) (.int .i64 2)).run Tryd.prog w = .ok (.slice (some ⟨w.heap.size, 0, none⟩) 2 2) (w.alloc (.cells #[.int .u8 0, .string ⟨#[]⟩, .int .u8 0, .string ⟨#[]⟩] 35)) := by kernel_rfl

set_option maxRecDepth 100000 in
theorem own_ctor (w : World) (g b o : Nat) (s nm : ByteArray) (c : Nat) (ka : Option Addr) (hl : Leaf w b o 3 s)
    (HO : ∀ W, Below w.heap.size w W → Calls Tryd.prog 27 #[.pointer (some ⟨g, 0, none⟩), .string s] W (OwnPost W (ty 3 nm))) :
    Calls Tryd.prog 13 #[.pointer (some ⟨g, 0, none⟩), .pointer (some ⟨b, o, none⟩), .slice ka 0 c] w (OwnPost w (ty 3 nm)) := by
  unfold OwnPost at *
  have hbl := hl.lt
  obtain ⟨l0, l3, -⟩ := hl
  have HC := Lib.hid fun W => common_none W ka c
  have HOW := Lib.hid HO
  clear HO
  go_enter Tryd.func13, Tryd.ntmps13
  go_wp2_with fail
  refine (HC.out _).mono ?_
  rintro e w1 ⟨rfl, hb1⟩
  have hB : Below w.heap.size w w1 := ((Below.refl _ w).alloc (Nat.le_refl _) _).trans (hb1.mono (by simp))
  have hr := (Has.new w 35 #[.int .u8 0, .string ⟨#[]⟩]).below hb1 (by simp)
  have HB := Lib.hid hB
  have HR := Lib.hid hr
  have hs := hb1.size
  simp only [World.size_alloc] at hs
  have q0 := (hB.cell (p := ⟨b, o, none⟩) hbl).trans l0
  have q3 := (hB.cell (p := ⟨b, o + 3, none⟩) hbl).trans l3
  have hbl1 : b < w1.heap.size := by omega
  have wl1 : w.heap.size < w1.heap.size := by omega
  clear l0 l3 HC hb1 hB hr
  go_wp2_with fail
  refine (HOW.out _ (HB.out.alloc (by omega) _)).mono ?_
  rintro e w2 ⟨rfl, hb2⟩
  have hr := (HR.out.alloc (.cells #[.int .u8 0, .string noT] 35)).below hb2 (by simp; omega)
  have hs2 := hb2.size
  simp only [World.size_alloc] at hs2
  have hB2 : Below w.heap.size w w2 := (HB.out.alloc (by omega) _).trans (hb2.mono (by simp; omega))
  have rs := fun v0 v1 => selfs2 hr v0 v1
  have R := Lib.hid rs
  have rc0 := hr.cell 0
  have rc1 := hr.cell 1
  have rf := fun i => hr.free i
  simp only [List.getElem?_toArray, List.getElem?_cons_zero, List.getElem?_cons_succ] at rc0 rc1
  have HB2 := Lib.hid hB2
  have wl2 : w.heap.size < w2.heap.size := by omega
  clear hb2 hB2 hr rs HR HB HOW
  go_wp2_with fail
  (try simp only [Exit.inBlock, Exit.then])
  refine bodyPost_ret (by simp [results, Tryd.results13, go_sem, R.out]; try rfl) rfl ?_
  exact ⟨rfl, (HB2.out.setCell (by simp) _).setCell (by simp) _⟩

set_option maxRecDepth 100000 in
theorem must_ok (w : World) (g : Nat) (x y : Int) :
    Calls Tryd.prog 14 #[.pointer (some ⟨g, 0, none⟩), .bool true, .agg #[.int .i64 x, .int .i64 y]] w fun e w' => e = .returned (.tuple #[]) ∧ Below w.heap.size w w' := by
  go_enter Tryd.func14, Tryd.ntmps14
  go_wp2_with fail
  go_returns
  exact ⟨rfl, by go_grown⟩

set_option maxRecDepth 100000 in
theorem new_typed (w : World) (x y : Int) :
    Calls Tryd.prog 32 #[.int .i64 7, .agg #[.int .i64 x, .int .i64 y]] w fun e w' => ∃ ga, w.heap.size ≤ ga ∧ e = .returned (.iface 92 (.pointer (some ⟨ga, 0, none⟩))) ∧ Has w' ga 96 #[.int .i64 x, .int .i64 y, .string noT, .bool false, .iface 56 (.int .i64 7)] ∧ Below w.heap.size w w' := by
  have hn := Has.new (w.alloc (.cells #[.int .i64 x, .int .i64 y] 24)) 96 #[.int .i64 x, .int .i64 y, .string noT, .bool false, .iface 56 (.int .i64 7)]
  simp only [World.size_alloc] at hn
  have HN := Lib.hid hn
  clear hn
  go_enter Tryd.func32, Tryd.ntmps32
  go_wp2_with fail
  go_ret
  refine ⟨_, ?_, rfl, HN.out, ?_⟩
  · simp
  · go_grown

set_option maxRecDepth 100000 in
theorem must_bad (w : World) (g : Nat) (en mv : Value) (x y : Int) (hc : Chk w g en mv .nilIface) :
    Calls Tryd.prog 14 #[.pointer (some ⟨g, 0, none⟩), .bool false, .agg #[.int .i64 x, .int .i64 y]] w fun e w' => e = .returned (.tuple #[]) ∧ ∃ ga, w.heap.size ≤ ga ∧ Has w' ga 96 #[.int .i64 x, .int .i64 y, .string noT, .bool false, .iface 56 (.int .i64 7)] ∧ Chk w' g en mv (.iface 92 (.pointer (some ⟨ga, 0, none⟩))) ∧ w.grownBy w' (some g) := by
  have hg := hc.lt
  have c3 := hc.cell 3
  simp only [List.getElem?_toArray, List.getElem?_cons_zero, List.getElem?_cons_succ] at c3
  have HC := Lib.hid hc
  clear hc
  go_enter Tryd.func14, Tryd.ntmps14
  go_wp2_with fail
  refine (new_typed _ x y).mono ?_
  rintro e w1 ⟨ga, hga, rfl, hn, hb⟩
  have hB : Below w.heap.size w w1 := ((Below.refl _ w).alloc (Nat.le_refl _) _).trans (hb.mono (by simp))
  have hk := HC.out.below hB hg
  have d3 := hk.cell 3
  have f3 := hk.free 3
  simp only [List.getElem?_toArray, List.getElem?_cons_zero, List.getElem?_cons_succ] at d3
  simp only [World.size_alloc] at hga
  have HB := Lib.hid hB
  have HN := Lib.hid hn
  have HK := Lib.hid hk
  clear hb hB hn hk HC c3
  go_wp2_with fail
  go_returns
  exact ⟨rfl, ga, by omega, HN.out.put_far 3 _ (by omega), HK.out.put 3 _, grown_put (grown_below _ HB.out) 3 _⟩

set_option maxRecDepth 100000 in
theorem expr_leaf (w : World) (g b o : Nat) (k tk : Int) (s nm : ByteArray) (hl : Leaf w b o k s)
    (HO : ∀ W, Below w.heap.size w W → ∀ ka c, Calls Tryd.prog 13 #[.pointer (some ⟨g, 0, none⟩), .pointer (some ⟨b, o, none⟩), .slice ka 0 c] W (OwnPost W (ty tk nm))) :
    Calls Tryd.prog 8 #[.pointer (some ⟨g, 0, none⟩), .pointer (some ⟨b, o, none⟩)] w fun e w' => e = .returned (ty tk nm) ∧ Below w.heap.size w w' := by
  have hbl := hl.lt
  obtain ⟨l0, l3, l5, l6, l7⟩ := hl
  unfold OwnPost at HO
  have HOW := Lib.hid HO
  clear HO l0 l3
  have hmk := make0
  go_enter Tryd.func8, Tryd.ntmps8
  go_wp2_with fail
  refine wp_loop_rounds 1 ?_
  rw [rounds_succ]
  go_wp2_with fail
  refine (HOW.out _ (by go_grown) _ _).mono ?_
  rintro e w1 ⟨rfl, hb1⟩
  have hB : Below w.heap.size w w1 := (((Below.refl _ w).alloc (Nat.le_refl _) (.cells #[.int .u8 0, .string ⟨#[]⟩] 35)).alloc (by simp) (.cells #[] 35)).trans (hb1.mono (by simp; omega))
  have hr := ((Has.new w 35 #[.int .u8 0, .string ⟨#[]⟩]).alloc (.cells #[] 35)).below hb1 (by simp; omega)
  have hs := hb1.size
  simp only [World.size_alloc] at hs
  have HB := Lib.hid hB
  have HR := Lib.hid hr
  have q6 := (hB.cell (p := ⟨b, o + 6, none⟩) hbl).trans l6
  have q7 := (hB.cell (p := ⟨b, o + 7, none⟩) hbl).trans l7
  have hbl1 : b < w1.heap.size := by omega
  have wl1 : w.heap.size < w1.heap.size := by omega
  clear l5 l6 l7 hb1 hB hr HOW
  go_wp2_with fail
  refine (must_ok _ _ _ _).mono ?_
  rintro e w2 ⟨rfl, hb2⟩
  have hr := (HR.out.alloc (.cells #[.int .u8 tk, .string nm] 35)).below hb2 (by simp; omega)
  have h7 := (Has.new w1 35 #[.int .u8 tk, .string nm]).below hb2 (by simp)
  have hs2 := hb2.size
  simp only [World.size_alloc] at hs2
  have hB2 : Below w.heap.size w w2 := (HB.out.alloc (by omega) (.cells #[.int .u8 tk, .string nm] 35)).trans (hb2.mono (by simp; omega))
  have rs := fun v0 v1 => selfs2 hr v0 v1
  have R := Lib.hid rs
  have rc0 := hr.cell 0
  have rc1 := hr.cell 1
  have rf := fun i => hr.free i
  have k0 := h7.cell 0
  have k1 := h7.cell 1
  simp only [List.getElem?_toArray, List.getElem?_cons_zero, List.getElem?_cons_succ] at rc0 rc1 k0 k1
  have HB2 := Lib.hid hB2
  have wl2 : w.heap.size < w2.heap.size := by omega
  clear hb2 hB2 hr rs HR HB h7
  go_wp2_with fail
  (try simp only [Exit.inBlock, Exit.then])
  refine bodyPost_ret (by simp [results, Tryd.results8, go_sem, R.out]; try rfl) rfl ?_
  exact ⟨rfl, (HB2.out.setCell (by simp) _).setCell (by simp) _⟩
end Go.Proofs.YtkjfodbdkacjfaaDoor.ty
