/-
  place of package faults, at an At that is no name's; Kind and Where, where the error is its own finite.
-/
import Derived.Test.YtboeobgkepdabaaDoorFtIsQ
import Derived.Test.YtboeobgkepdabaaDoorFtAtQ
import Derived.BigRegion
namespace Go.Proofs.YtboeobgkepdabaaDoor.ft
open Go.ChangeShapes Go.WideShapes Go.ChangeAt Go.RowKit Go.Extern.Stop Go.Stop Go.Extern
open Go.Proofs.YtboeobgkepdabaaDoor.lx (Has)
set_option linter.unusedVariables false

set_option maxRecDepth 10000 in
set_option maxHeartbeats 4000000 in
theorem place_at (g : Nat) (x y : Int) (nm : ByteArray) (e : Value) (w : World) (hh : Handle w) (hg : Has w g 50 #[.int .i64 x, .int .i64 y, .string nm, .bool false, e]) :
    Calls Tryd.prog 24 #[.iface 41 (.pointer (some ⟨g, 0, none⟩))] w fun ev w' => ev = .returned (.agg #[.int .i64 x, .int .i64 y]) ∧ Below w.heap.size w w' := by
  have HG := Lib.hid hg
  have HH := Lib.hid hh
  clear hg hh
  go_enter Tryd.func24, Tryd.ntmps24
  go_wp2_with fail
  refine wp_loop_rounds 1 ?_
  rw [rounds_succ]
  go_wp2_with fail
  obtain ⟨WA, hWA⟩ : ∃ WA, WA = (((w.alloc (.cells #[.int .i64 0, .int .i64 0] 23)).alloc (.cells #[.iface 41 (.pointer (some ⟨g, 0, none⟩))] 27)).alloc (.cells #[.slice (some ⟨w.heap.size + 1, 0, none⟩) 0 1] 47)) := ⟨_, rfl⟩
  rw [← hWA]
  have hb : Below w.heap.size w WA := by rw [hWA]; exact (((Below.refl _ _).alloc (Nat.le_refl _) _).alloc (by simp) _).alloc (by simp; omega) _
  have hp : Has WA w.heap.size 23 #[.int .i64 0, .int .i64 0] := by rw [hWA]; exact ((Has.new w 23 #[.int .i64 0, .int .i64 0]).alloc _).alloc _
  have HB := Lib.hid hb
  have HP := Lib.hid hp
  clear hWA hb hp
  refine (at_any g WA (HH.out.below HB.out)).mono ?_
  rintro ev w1 ⟨rfl, hb1⟩
  have hg1 := (HG.out.below HB.out HG.out.lt).below hb1 (Nat.lt_of_lt_of_le HG.out.lt HB.out.size)
  have hp1 := HP.out.below hb1 HP.out.lt
  have hne : w.heap.size ≠ g := Nat.ne_of_gt HG.out.lt
  have c0 := hg1.cell 0
  have c1 := hg1.cell 1
  have c3 := hg1.cell 3
  have d0 := hp1.cell 0
  have d1 := hp1.cell 1
  have f0 := hp1.free 0
  have f1 := hp1.free 1
  have lp := hp1.lt
  simp only [List.getElem?_toArray, List.getElem?_cons_zero, List.getElem?_cons_succ] at c0 c1 c3 d0 d1
  have hp2 := (hp1.put 0 (.int .i64 x)).put 1 (.int .i64 y)
  simp only [List.setIfInBounds_toArray, List.set_cons_zero, List.set_cons_succ] at hp2
  have H2 := Lib.hid hp2
  have HL := Lib.hid ((HB.out.trans (hb1.mono HB.out.size)))
  clear hg1 hp1 hb1 hp2
  go_wp2_with fail
  have e0 := H2.out.cell 0
  have e1 := H2.out.cell 1
  simp only [List.getElem?_toArray, List.getElem?_cons_zero, List.getElem?_cons_succ] at e0 e1
  have hlast := (HL.out.setCell (p := ⟨w.heap.size, 0, none⟩) (Nat.le_refl _) (.int .i64 x)).setCell (p := ⟨w.heap.size, 1, none⟩) (Nat.le_refl _) (.int .i64 y)
  generalize ((w1.setCell ⟨w.heap.size, 0, none⟩ (.int .i64 x)).setCell ⟨w.heap.size, 1, none⟩ (.int .i64 y)) = Wf at *
  exact bodyPost_ret (v := .agg #[.int .i64 x, .int .i64 y]) (by simp [results, Tryd.results24, go_sem, e0, e1]) rfl ⟨rfl, hlast⟩

/-- an At that wraps a Kind and no name -/
abbrev atCells (x y k : Int) (nm : ByteArray) : Array Value := #[.int .i64 x, .int .i64 y, .string nm, .bool false, .iface 29 (.int .i64 k)]

/-- the error is its own finite -/
def OwnFinite (w : World) (ev : Value) : Prop := ∀ W, Below w.heap.size w W → Calls Tryd.prog 22 #[ev] W fun e w' => e = .returned ev ∧ Below W.heap.size W w'

set_option maxRecDepth 10000 in
set_option maxHeartbeats 4000000 in
theorem where_of (g : Nat) (x y : Int) (nm : ByteArray) (e : Value) (w : World) (hh : Handle w) (hg : Has w g 50 #[.int .i64 x, .int .i64 y, .string nm, .bool false, e]) (hF : OwnFinite w (.iface 41 (.pointer (some ⟨g, 0, none⟩)))) :
    Calls Tryd.prog 16 #[.iface 41 (.pointer (some ⟨g, 0, none⟩))] w fun ev w' => ev = .returned (.agg #[.int .i64 x, .int .i64 y]) ∧ Below w.heap.size w w' := by
  have HG := Lib.hid hg
  have HH := Lib.hid hh
  have HF := Lib.hid hF
  clear hg hh hF
  obtain ⟨WA, hWA⟩ : ∃ WA, WA = w.alloc (.cells #[.int .i64 0, .int .i64 0] 23) := ⟨_, rfl⟩
  have hb : Below w.heap.size w WA := by rw [hWA]; exact (Below.refl _ _).alloc (Nat.le_refl _) _
  have hp : Has WA w.heap.size 23 #[.int .i64 0, .int .i64 0] := by rw [hWA]; exact Has.new w 23 #[.int .i64 0, .int .i64 0]
  have HB := Lib.hid hb
  have HP := Lib.hid hp
  clear hb hp
  go_enter Tryd.func16, Tryd.ntmps16
  go_wp2_with fail
  rw [← hWA]
  clear hWA
  refine (HF.out WA HB.out).mono ?_
  rintro ev w1 ⟨rfl, hb1⟩
  have hlow1 := HB.out.trans (hb1.mono HB.out.size)
  have HL1 := Lib.hid hlow1
  have HP1 := Lib.hid (HP.out.below hb1 HP.out.lt)
  clear hb1 hlow1
  go_wp2_with fail
  refine (place_at g x y nm e w1 (HH.out.below HL1.out) (HG.out.below HL1.out HG.out.lt)).mono ?_
  rintro ev w2 ⟨rfl, hb2⟩
  have hp1 := HP1.out.below hb2 HP1.out.lt
  have d0 := hp1.cell 0
  have d1 := hp1.cell 1
  have f0 := hp1.free 0
  have f1 := hp1.free 1
  have lp := hp1.lt
  simp only [List.getElem?_toArray, List.getElem?_cons_zero, List.getElem?_cons_succ] at d0 d1
  have hp2 := (hp1.put 0 (.int .i64 x)).put 1 (.int .i64 y)
  simp only [List.setIfInBounds_toArray, List.set_cons_zero, List.set_cons_succ] at hp2
  have H2 := Lib.hid hp2
  have HL := Lib.hid ((HL1.out.trans (hb2.mono HL1.out.size)))
  clear hp1 hb2 hp2
  go_wp2_with fail
  have e0 := H2.out.cell 0
  have e1 := H2.out.cell 1
  simp only [List.getElem?_toArray, List.getElem?_cons_zero, List.getElem?_cons_succ] at e0 e1
  have hlast := (HL.out.setCell (p := ⟨w.heap.size, 0, none⟩) (Nat.le_refl _) (.int .i64 x)).setCell (p := ⟨w.heap.size, 1, none⟩) (Nat.le_refl _) (.int .i64 y)
  generalize ((w2.setCell ⟨w.heap.size, 0, none⟩ (.int .i64 x)).setCell ⟨w.heap.size, 1, none⟩ (.int .i64 y)) = Wf at *
  exact bodyPost_ret (v := .agg #[.int .i64 x, .int .i64 y]) (by simp [results, Tryd.results16, go_sem, e0, e1]) rfl ⟨rfl, hlast⟩

set_option maxRecDepth 10000 in
set_option maxHeartbeats 4000000 in
theorem kind_of (g : Nat) (x y : Int) (nm : ByteArray) (nd : Bool) (k : Nat) (hk1 : 1 ≤ k) (hk2 : k < 12) (w : World) (hg : Has w g 50 #[.int .i64 x, .int .i64 y, .string nm, .bool nd, .iface 29 (.int .i64 (k : Int))]) (hF : OwnFinite w (.iface 41 (.pointer (some ⟨g, 0, none⟩)))) :
    Calls Tryd.prog 15 #[.iface 41 (.pointer (some ⟨g, 0, none⟩))] w fun ev w' => ev = .returned (.int .i64 (k : Int)) ∧ Below w.heap.size w w' := by
  have HG := Lib.hid hg
  have HF := Lib.hid (hF w (Below.refl _ _))
  clear hg hF
  go_enter Tryd.func15, Tryd.ntmps15
  go_wp2_with fail
  refine HF.out.mono ?_
  rintro ev w1 ⟨rfl, hb1⟩
  have HL1 := Lib.hid hb1
  clear hb1
  go_wp2_with fail
  go_loopw [3] (fun kv wr => ∃ n : Nat, 1 ≤ n ∧ n ≤ k ∧ kv = .int .i64 n ∧ Hid (Below w.heap.size w wr)) (fun kv _ => 12 - (intOf kv).toNat)
  case atStart => exact ⟨1, by omega, hk1, rfl, HL1⟩
  case round =>
    obtain ⟨n, hn1, hn2, rfl, HW⟩ := hrel
    have hn12 : (n : Int) < 12 := by omega
    by_cases hnk : n = k
    · subst hnk
      have HI := Lib.hid (is_any 41 (.pointer (some ⟨g, 0, none⟩)) (n : Int) true wr (fun W hb => is_at_true g x y nm nd (n : Int) (n : Int) W rfl ((HG.out.below HW.out HG.out.lt).below hb (Nat.lt_of_lt_of_le HG.out.lt HW.out.size))))
      go_wp2_with fail
      refine HI.out.mono ?_
      rintro ev w2 ⟨rfl, hb2⟩
      have HL2 := Lib.hid (HW.out.trans (hb2.mono HW.out.size))
      clear hb2
      go_wp2
      go_ret
      exact ⟨rfl, HL2.out⟩
    · have HI := Lib.hid (is_any 41 (.pointer (some ⟨g, 0, none⟩)) (n : Int) false wr (fun W hb => is_at_false g x y nm nd (k : Int) (n : Int) W (by omega) ((HG.out.below HW.out HG.out.lt).below hb (Nat.lt_of_lt_of_le HG.out.lt HW.out.size))))
      go_wp2_with fail
      refine HI.out.mono ?_
      rintro ev w2 ⟨rfl, hb2⟩
      have HL2 := Lib.hid (HW.out.trans (hb2.mono HW.out.size))
      clear hb2
      go_wp2
      go_roundw
      case rel => exact ⟨n + 1, by omega, by omega, by go_num, HL2⟩
      case measure => simp [intOf]; omega
end Go.Proofs.YtboeobgkepdabaaDoor.ft
