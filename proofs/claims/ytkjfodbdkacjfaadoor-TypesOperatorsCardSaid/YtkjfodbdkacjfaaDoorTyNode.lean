/-
  own and expr of package types at an operator of one and of two.
-/
import Derived.Test.YtkjfodbdkacjfaaDoorTyKid
import Derived.BigRegion
import Derived.RegionTactic
namespace Go.Proofs.YtkjfodbdkacjfaaDoor.ty
open Go.ChangeShapes Go.WideShapes Go.ChangeAt Go.RowKit
open Go.Proofs.YtkjfodbdkacjfaaDoor.lx (Has grown_refl grown_put grown_below)
set_option linter.unusedVariables false

theorem selfs2d {W : World} {g : Nat} {t : TypeId} {a b : Value} (h : Has W g t #[a, b]) (v0 v1 : Value) (o : Obj) :
    ((((W.setCell ⟨g, 0, none⟩ v0).setCell ⟨g, 1, none⟩ v1).alloc o).drew).cell? ⟨g, 0, none⟩ = some v0 ∧ ((((W.setCell ⟨g, 0, none⟩ v0).setCell ⟨g, 1, none⟩ v1).alloc o).drew).cell? ⟨g, 1, none⟩ = some v1 :=
  selfs2a h v0 v1 o

set_option maxRecDepth 100000 in
theorem common_one (w : World) (g : Nat) (k1 : Int) (n1 : ByteArray) (c : Nat) (h : Has w g 35 #[.int .u8 k1, .string n1]) (hc : 1 ≤ c) :
    Calls Tryd.prog 26 #[.slice (some ⟨g, 0, none⟩) 1 c] w fun e w' => e = .returned (.tuple #[ty k1 n1, .bool true]) ∧ Below w.heap.size w w' := by
  have hl := h.lt
  have c0 := h.cell 0
  have c1 := h.cell 1
  simp only [List.getElem?_toArray, List.getElem?_cons_zero, List.getElem?_cons_succ] at c0 c1
  clear h
  have bl : ∀ o1 o2 n, Below w.heap.size w (((w.alloc o1).alloc o2).drewN n) := fun o1 o2 n =>
    below_drewN (((Below.refl _ w).alloc (Nat.le_refl _) o1).alloc (by simp) o2) n
  have x0 := fun o1 o2 n => ((bl o1 o2 n).cell (p := ⟨g, 0, none⟩) hl).trans c0
  have x1 := fun o1 o2 n => ((bl o1 o2 n).cell (p := ⟨g, 1, none⟩) hl).trans c1
  clear bl
  have rs := fun o1 n v0 v1 => selfs2 (has_drewN ((Has.new w 35 #[.int .u8 0, .string ⟨#[]⟩]).alloc o1) n) v0 v1
  have R := Lib.hid rs
  clear rs
  go_enter Tryd.func26, Tryd.ntmps26
  go_wp2_with fail
  refine wp_loop_rounds 2 ?_
  rw [rounds_succ]
  go_wp2_with fail
  go_quiet (fail)
  go_wp2_with fail
  rw [rounds_succ]
  go_wp2_with fail
  (try simp only [Exit.inBlock, Exit.then])
  refine bodyPost_ret (by simp [results, Tryd.results26, go_sem, R.out]; try rfl) rfl ?_
  refine ⟨rfl, ?_⟩
  repeat' (first | (with_reducible exact Below.refl _ _) | (with_reducible refine Below.alloc ?_ ?_ _) | (with_reducible refine below_drewN ?_ _) | (with_reducible refine Below.setCell ?_ ?_ _) | (with_reducible exact Nat.le_refl _) | (simp; done) | (simp; omega))

set_option maxRecDepth 100000 in
set_option maxHeartbeats 4000000 in
theorem own_node (w : World) (g b o K n c : Nat) (k op k1 : Int) (n1 : ByteArray) (al b0 b1 : Bool) (hk : k = 6 ∨ k = 7) (l0 : w.cell? ⟨b, o, none⟩ = some (.int .u8 k)) (l1 : w.cell? ⟨b, o + 1, none⟩ = some (.int .u8 op)) (ho : 1 ≤ op) (ho2 : op ≤ 16)
    (HC : ∀ W, Below w.heap.size w W → Calls Tryd.prog 26 #[.slice (some ⟨K, 0, none⟩) n c] W fun e w' => e = .returned (.tuple #[ty k1 n1, .bool al]) ∧ Below W.heap.size W w')
    (h0 : (inI op == 0) = b0) (h1 : (inI op == k1) = b1) :
    Calls Tryd.prog 13 #[.pointer (some ⟨g, 0, none⟩), .pointer (some ⟨b, o, none⟩), .slice (some ⟨K, 0, none⟩) n c] w fun e w' => e = .returned (.tuple #[ty (outI op) noT, .bool (al && (b0 || b1))]) ∧ Below w.heap.size w w' := by
  have hbl := World.block_lt_of_cell? w _ l0
  have hbl : b < w.heap.size := hbl
  have HCW := Lib.hid HC
  have HTY := Lib.hid fun W => types_any op ho ho2 W
  clear HC
  rcases hk with rfl | rfl <;> cases al <;> cases b0 <;> cases b1
  all_goals
    go_enter Tryd.func13, Tryd.ntmps13
    go_wp2_with fail
    refine (HCW.out _ (by go_grown)).mono ?_
    rintro e w1 ⟨rfl, hb1⟩
    have hB : Below w.heap.size w w1 := ((Below.refl _ w).alloc (Nat.le_refl _) _).trans (hb1.mono (by simp))
    have hr := (Has.new w 35 #[.int .u8 0, .string ⟨#[]⟩]).below hb1 (by simp)
    have HB := Lib.hid hB
    have rc0 := hr.cell 0
    have rc1 := hr.cell 1
    have rf := fun i => hr.free i
    simp only [List.getElem?_toArray, List.getElem?_cons_zero, List.getElem?_cons_succ] at rc0 rc1
    have HR := Lib.hid hr
    have hs := hb1.size
    simp only [World.size_alloc] at hs
    have q0 := (hB.cell (p := ⟨b, o, none⟩) hbl).trans l0
    have q1 := (hB.cell (p := ⟨b, o + 1, none⟩) hbl).trans l1
    have hbl1 : b < w1.heap.size := by omega
    have wl1 : w.heap.size < w1.heap.size := by omega
    clear l0 l1 HCW hb1 hB hr
    go_wp2_with fail
    refine (HTY.out _).mono ?_
    rintro e w2 ⟨rfl, rfl⟩
    clear HTY
    go_wp2_with fail
    have rs := fun v0 v1 o1 => selfs2d HR.out v0 v1 o1
    have R := Lib.hid rs
    clear rs
    go_region
    go_wp2_with fail
    (try simp only [Exit.inBlock, Exit.then])
    refine bodyPost_ret (by simp [results, Tryd.results13, go_sem, R.out]; try rfl) rfl ?_
    exact ⟨rfl, (((HB.out.setCell (by simp) _).setCell (by simp) _).alloc (by simp; omega) _).drew⟩
end Go.Proofs.YtkjfodbdkacjfaaDoor.ty
