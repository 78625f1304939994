/-
  nums.Types and the document's own; common of package types, of no type, one, two.
-/
import Derived.Test.YtkjfodbdkacjfaaDoorTyFst
import Derived.LoopN
import Derived.Handy
namespace Go.Proofs.YtkjfodbdkacjfaaDoor.ty
open Go.ChangeShapes Go.WideShapes Go.ChangeAt Go.RowKit
open Go.Proofs.YtkjfodbdkacjfaaDoor.lx (Has)
set_option linter.unusedVariables false

/-- of what an operator is, and what it answers -/
def inI (o : Int) : Int := if o = 1 then 1 else if o ≤ 7 then 2 else if o ≤ 10 then 1 else if o ≤ 12 then 0 else 2
def outI (o : Int) : Int := if o = 1 then 1 else if o ≤ 7 then 2 else 1

theorem ops16 (o : Int) (h0 : 1 ≤ o) (h1 : o ≤ 16) : o = 1 ∨ o = 2 ∨ o = 3 ∨ o = 4 ∨ o = 5 ∨ o = 6 ∨ o = 7 ∨ o = 8 ∨ o = 9 ∨ o = 10 ∨ o = 11 ∨ o = 12 ∨ o = 13 ∨ o = 14 ∨ o = 15 ∨ o = 16 := by omega

set_option maxRecDepth 100000 in
theorem types_any (o : Int) (h0 : 1 ≤ o) (h1 : o ≤ 16) (w : World) :
    Calls Tryd.prog 28 #[.int .u8 o] w fun e w' => e = .returned (.tuple #[.int .u8 (inI o), .int .u8 (outI o)]) ∧ w' = w := by
  rcases ops16 o h0 h1 with rfl | rfl | rfl | rfl | rfl | rfl | rfl | rfl | rfl | rfl | rfl | rfl | rfl | rfl | rfl | rfl
  all_goals
    go_enter Tryd.func28, Tryd.ntmps28
    go_wp2_with fail
    go_ret2
    exact ⟨rfl, rfl⟩

set_option maxRecDepth 100000 in
theorem typesR_any (o : Int) (h0 : 1 ≤ o) (h1 : o ≤ 16) (w : World) :
    Calls Tryd.prog 19 #[.int .u8 o] w fun e w' => e = .returned (.tuple #[.int .u8 (inI o), .int .u8 (outI o)]) ∧ w' = w := by
  rcases ops16 o h0 h1 with rfl | rfl | rfl | rfl | rfl | rfl | rfl | rfl | rfl | rfl | rfl | rfl | rfl | rfl | rfl | rfl
  all_goals
    go_enter Tryd.func19, Tryd.ntmps19
    go_wp2_with fail
    go_ret2
    exact ⟨rfl, rfl⟩

/-- a type -/
abbrev ty (k : Int) (n : ByteArray) : Value := .agg #[.int .u8 k, .string n]
def noT : ByteArray := ⟨#[]⟩

set_option maxRecDepth 100000 in
theorem common_none (w : World) (a : Option Addr) (c : Nat) :
    Calls Tryd.prog 26 #[.slice a 0 c] w fun e w' => e = .returned (.tuple #[ty 0 noT, .bool false]) ∧ Below w.heap.size w w' := by
  have HB := Lib.hid (Below.refl w.heap.size w)
  go_enter Tryd.func26, Tryd.ntmps26
  go_wp2_with fail
  go_returns
  exact ⟨rfl, by go_grown⟩

set_option maxRecDepth 100000 in
theorem common_two (w : World) (g : Nat) (k1 k2 : Int) (n1 n2 : ByteArray) (c : Nat) (h : Has w g 35 #[.int .u8 k1, .string n1, .int .u8 k2, .string n2]) (hc : 2 ≤ c) (b1 b2 : Bool) (h1 : (k2 == k1) = b1) (h2 : (n2.toList == n1.toList) = b2) :
    Calls Tryd.prog 26 #[.slice (some ⟨g, 0, none⟩) 2 c] w fun e w' => e = .returned (.tuple #[if (b1 && b2) = true then ty k1 n1 else ty 0 noT, .bool (b1 && b2)]) ∧ Below w.heap.size w w' := by
  have hl := h.lt
  have c0 := h.cell 0
  have c1 := h.cell 1
  have c2 := h.cell 2
  have c3 := h.cell 3
  simp only [List.getElem?_toArray, List.getElem?_cons_zero, List.getElem?_cons_succ] at c0 c1 c2 c3
  clear h
  have bl : ∀ o1 o2 n o3 m, Below w.heap.size w (((((w.alloc o1).alloc o2).drewN n).alloc o3).drewN m) := fun o1 o2 n o3 m =>
    below_drewN ((below_drewN (((Below.refl _ w).alloc (Nat.le_refl _) o1).alloc (by simp) o2) n).alloc (by show _ ≤ ((w.alloc o1).alloc o2).heap.size; simp; omega) o3) m
  have x0 := fun o1 o2 n o3 m => ((bl o1 o2 n o3 m).cell (p := ⟨g, 0, none⟩) hl).trans c0
  have x1 := fun o1 o2 n o3 m => ((bl o1 o2 n o3 m).cell (p := ⟨g, 1, none⟩) hl).trans c1
  clear bl
  have rs := fun o1 n o2 m v0 v1 => selfs2 (has_drewN ((has_drewN ((Has.new w 35 #[.int .u8 0, .string ⟨#[]⟩]).alloc o1) n).alloc o2) m) v0 v1
  have r0 := fun o1 n o2 m v0 v1 => (rs o1 n o2 m v0 v1).1
  have r1 := fun o1 n o2 m v0 v1 => (rs o1 n o2 m v0 v1).2
  clear rs
  have R0 := Lib.hid r0
  have R1 := Lib.hid r1
  clear r0 r1
  cases b1 <;> cases b2
  all_goals
    go_enter Tryd.func26, Tryd.ntmps26
    go_wp2_with fail
    refine wp_loop_rounds 3 ?_
    rw [rounds_succ]
    go_wp2_with fail
    go_quiet (fail)
    go_wp2_with fail
    rw [rounds_succ]
    go_wp2_with fail
    go_quiet (fail)
    go_wp2_with fail
    try (rw [rounds_succ]; go_wp2_with fail)
    refine bodyPost_ret (by simp [results, Tryd.results26, go_sem, R0.out, R1.out]; try rfl) rfl ?_
    refine ⟨rfl, ?_⟩
    repeat' (first | (with_reducible exact Below.refl _ _) | (with_reducible refine Below.alloc ?_ ?_ _) | (with_reducible refine below_drewN ?_ _) | (with_reducible refine Below.setCell ?_ ?_ _) | (with_reducible exact Nat.le_refl _) | (simp; done) | (simp; omega))
end Go.Proofs.YtkjfodbdkacjfaaDoor.ty
