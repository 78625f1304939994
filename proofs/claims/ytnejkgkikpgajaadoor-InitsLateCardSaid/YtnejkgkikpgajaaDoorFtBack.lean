/-
  slices.Backward at no error and at one: what a range over it meets.
-/
import Derived.RangeFuncNested
import Derived.RangeFuncBound
import Derived.RangeFuncCalls
import Derived.RangeFuncLeaves
import Derived.RangeFuncWrites
import Derived.RangeFuncBox
import Derived.Shelf.Abstract
import Derived.WalkKit
import Derived.OwnWalkIn
import Derived.TacticsInMore
import Derived.LoopNIn
import Derived.LoopIn
import Derived.Test.YtnejkgkikpgajaaDoorProg
namespace Go.Proofs.YtnejkgkikpgajaaDoor.ft
open Go.RowKit Go.Shelf
attribute [local go_sem] Oper.semAt_some
set_option linter.unusedVariables false

theorem backward (a : Option Addr) (len cap : Nat) (w : World) :
    Calls Tryd.prog 61 #[.slice a len cap] w fun e w' => e = .returned (.func (.func 83) #[] #[.pointer (some ⟨w.heap.size, 0, none⟩)]) ∧ w' = w.alloc (.cells #[.slice a len cap] 122) := by
  have hmf : ∀ (fn : Fn) (first cap : Array Value) (w : World), (Instr.makeFunc fn first cap).run Tryd.prog w = .ok (.func fn first cap) w := fun _ _ _ _ => rfl
  go_enter Tryd.func61, Tryd.ntmps61
  go_wp2
  go_ret
  exact ⟨rfl, rfl⟩

set_option maxRecDepth 100000 in
set_option maxHeartbeats 2000000 in
theorem back_none (n l Bs : Nat) (J : List Unit → World → Prop) (W : World) (hBs : W.cell? ⟨Bs, 0, none⟩ = some (.slice none 0 0)) (h0 : J [] W) :
    CallsIn Fence.wide n Tryd.prog 83 #[.func (.yield l) #[] #[], .pointer (some ⟨Bs, 0, none⟩)] W fun e W' => (∃ v, e = .returned v) ∧ J [] W' := by
  refine callsIn_of_wp Tryd.func83 rfl trivial ?_ rfl
  simp only [Tryd.ntmps83, List.size_toArray, List.length_cons, List.length_nil, Nat.reduceAdd, Nat.reduceSub, Array.replicate_succ, Array.replicate_zero, List.push_toArray, List.append_toArray, List.nil_append, List.cons_append]
  gi_wp2
  refine wpIn_loop_rounds 1 ?_
  rw [roundsIn_succ]
  gi_wp2
  go_end0
  exact ⟨⟨_, rfl⟩, h0⟩

set_option maxRecDepth 100000 in
set_option maxHeartbeats 2000000 in
theorem back_one (n : Nat) (hn : 1 ≤ n) (l Bs r : Nat) (ty : TypeId) (v : Value) (J Jx : List Unit → World → Prop)
    (hY : ∀ pre (u : Unit) W, J pre W → pre.length < 1 → YieldAt Fence.wide (n - 1) Tryd.prog l #[.int .i64 0, .iface ty v] W fun e W' =>
      (e = .returned (.bool true) ∧ J (pre ++ [u]) W' ∧ True) ∨ (e = .returned (.bool false) ∧ Jx (pre ++ [u]) W'))
    (W : World) (hBs : W.cell? ⟨Bs, 0, none⟩ = some (.slice (some ⟨r, 0, none⟩) 1 1)) (hx : W.cell? ⟨r, 0, none⟩ = some (.iface ty v)) (h0 : J [] W) :
    CallsIn Fence.wide n Tryd.prog 83 #[.func (.yield l) #[] #[], .pointer (some ⟨Bs, 0, none⟩)] W fun e W' => (∃ v, e = .returned v) ∧ (J [()] W' ∨ Jx [()] W') := by
  refine callsIn_of_wp Tryd.func83 rfl trivial ?_ rfl
  simp only [Tryd.ntmps83, List.size_toArray, List.length_cons, List.length_nil, Nat.reduceAdd, Nat.reduceSub, Array.replicate_succ, Array.replicate_zero, List.push_toArray, List.append_toArray, List.nil_append, List.cons_append]
  obtain ⟨fn, tmps, assign, body, hy, hR⟩ := hY [] () W h0 (by decide)
  gi_wp2
  refine wpIn_loop_rounds 2 ?_
  rw [roundsIn_succ]
  gi_wp2
  refine hR.mono ?_
  rintro e W3 (⟨rfl, hJ3, _⟩ | ⟨rfl, hJx3⟩)
  · gi_wp2
    rw [roundsIn_succ]
    gi_wp2
    go_end0
    exact ⟨⟨_, rfl⟩, .inl hJ3⟩
  · gi_wp2
    refine bodyPost_ret (results_none rfl _ _ _) rfl ?_
    exact ⟨⟨_, rfl⟩, .inr hJx3⟩

theorem one_stops (n : Nat) (hn : 1 ≤ n) (Bs r : Nat) (ty : TypeId) (v : Value) (w : World) (hBs : w.cell? ⟨Bs, 0, none⟩ = some (.slice (some ⟨r, 0, none⟩) 1 1)) (hx : w.cell? ⟨r, 0, none⟩ = some (.iface ty v)) :
    SeqStopsK Fence.wide n Tryd.prog 83 #[.pointer (some ⟨Bs, 0, none⟩)] (fun _ : Unit => #[.int .i64 0, .iface ty v]) (fun _ _ => True) (fun xs => xs = [()]) (fun _ => True) 1 w := fun l J Jx W hW _ _ hY h0 => by
  have h1 := (hW.cell (p := ⟨Bs, 0, none⟩) (World.block_lt_of_cell? w _ hBs)).trans hBs
  have h2 := (hW.cell (p := ⟨r, 0, none⟩) (World.block_lt_of_cell? w _ hx)).trans hx
  refine (back_one n hn l Bs r ty v J Jx hY W h1 h2 h0).mono ?_
  rintro e W' ⟨he, hj | hj⟩
  · exact ⟨he, .inl ⟨_, rfl, hj⟩⟩
  · exact ⟨he, .inr ⟨_, trivial, hj⟩⟩

theorem none_stops (n Bs : Nat) (w : World) (hBs : w.cell? ⟨Bs, 0, none⟩ = some (.slice none 0 0)) (encs : Unit → Array Value) :
    SeqStopsK Fence.wide n Tryd.prog 83 #[.pointer (some ⟨Bs, 0, none⟩)] encs (fun _ _ => True) (fun xs => xs = []) (fun _ => True) 0 w := fun l J Jx W hW _ _ hY h0 => by
  have h1 := (hW.cell (p := ⟨Bs, 0, none⟩) (World.block_lt_of_cell? w _ hBs)).trans hBs
  refine (back_none n l Bs J W h1 h0).mono ?_
  rintro e W' ⟨he, hj⟩
  exact ⟨he, .inl ⟨_, rfl, hj⟩⟩
end Go.Proofs.YtnejkgkikpgajaaDoor.ft
