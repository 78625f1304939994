/-
  Is a variable on a clock; must: the first error is kept.
-/
import Derived.Test.YtnejkgkikpgajaaDoorCkClock
namespace Go.Proofs.YtnejkgkikpgajaaDoor.ck
open Go.ChangeShapes Go.WideShapes Go.ChangeAt Go.RowKit
open tr
set_option linter.unusedVariables false

def onB (L : List En) (d : Int) (n : ByteArray) (ck : List Smp) : Bool :=
  match lk n L with
  | none => false
  | some x => rd d x && onsB x.clk ck
def OnPost (w : World) (b : Bool) (e : Ending) (w' : World) : Prop := e = .returned (.bool b) ∧ Below w.heap.size w w'

set_option maxRecDepth 100000 in
set_option maxHeartbeats 4000000 in
theorem on_any (w : World) (g m : Nat) (L : List En) (d : Int) (b : Bool) (n : ByteArray) (a : Option Addr) (ck : List Smp) (hS : St w g m L d b) (hck : CkL w a ck) :
    Calls Tryd.prog 67 #[.pointer (some ⟨g, 0, none⟩), .string n, .pointer a] w (OnPost w (onB L d n ck)) := by
  have HC := Lib.hid (clock_any w g m L d b n hS)
  have HK := Lib.hid hck
  unfold OnPost
  clear hS hck
  go_enter Tryd.func67, Tryd.ntmps67
  go_wp2_with fail
  refine HC.out.mono ?_
  rintro e w1 ⟨a1, ok, rfl, hb, hk⟩
  have HB := Lib.hid hb
  cases ok
  · have HF : Hid (onB L d n ck = false) := by
      unfold ClkOf at hk
      unfold onB
      rcases hl : lk n L with _ | x
      · exact Lib.hid rfl
      · rw [hl] at hk
        refine Lib.hid ?_
        dsimp only
        rw [← hk.2]; rfl
    clear hk hb HC
    go_wp2_with fail
    go_ret
    exact ⟨ret_bool' HF.out.symm, HB.out⟩
  · have hx : ∃ x, lk n L = some x ∧ CkL w a1 x.clk ∧ rd d x = true := by
      unfold ClkOf at hk
      rcases hl : lk n L with _ | x
      · rw [hl] at hk; cases hk.2
      · rw [hl] at hk; exact ⟨x, rfl, hk.1, hk.2.symm⟩
    obtain ⟨x, hl, hk1, hr⟩ := hx
    have HS := Lib.hid (same_any w1 a1 a x.clk ck (hk1.below hb) (HK.out.below hb))
    have HF : Hid (onB L d n ck = onsB x.clk ck) := Lib.hid (by unfold onB; rw [hl]; dsimp only; rw [hr, Bool.true_and])
    clear hk hk1 hr hl hb HC
    go_wp2_with fail
    refine HS.out.mono ?_
    rintro e w2 ⟨rfl, nn, rfl⟩
    clear HS
    go_wp2_with fail
    go_ret
    exact ⟨ret_bool' HF.out.symm, below_drewN HB.out _⟩

theorem CkL.grown {w w' : World} {g : Nat} {cs : Array Value} {a : Option Addr} {l : List Smp} (h : CkL w a l) (hg : w.grownBy w' (some g)) (hC : Has w g 69 cs) : CkL w' a l :=
  h.keep fun g' cs' hh => hh.grown hg (fun e => by
    injection e with e
    subst e
    have := Has.same hh hC
    exact absurd this (by decide))
theorem EntsL.grown {w w' : World} {g : Nat} {cs : Array Value} {es : List MapEntry} {L : List En} (h : EntsL w es L) (hg : w.grownBy w' (some g)) (hC : Has w g 69 cs) : EntsL w' es L :=
  h.keep fun g' cs' hh => hh.grown hg (fun e => by
    injection e with e
    subst e
    have := Has.same hh hC
    exact absurd this (by decide))
theorem EnvM.grown {w w' : World} {g m : Nat} {cs : Array Value} {L : List En} (h : EnvM w m L) (hg : w.grownBy w' (some g)) (hC : Has w g 69 cs) : EnvM w' m L := by
  have hl := h.lt
  obtain ⟨es, c, h, hE⟩ := h
  refine ⟨es, c, (hg.block m hl (fun e => ?_)).trans h, hE.grown hg hC⟩
  injection e with e
  subst e
  unfold Has at hC
  rw [h] at hC
  injection hC with hC
  cases hC

set_option maxRecDepth 100000 in
theorem new_clock (w : World) (x y : Int) :
    Calls Tryd.prog 66 #[.int .i64 8, .agg #[.int .i64 x, .int .i64 y]] w fun e w' => ∃ ga, w.heap.size ≤ ga ∧ e = .returned (.iface 177 (.pointer (some ⟨ga, 0, none⟩))) ∧ Has w' ga 180 #[.int .i64 x, .int .i64 y, .string noT, .bool false, .iface 56 (.int .i64 8)] ∧ Below w.heap.size w w' := by
  have hn := Has.new (w.alloc (.cells #[.int .i64 x, .int .i64 y] 27)) 180 #[.int .i64 x, .int .i64 y, .string noT, .bool false, .iface 56 (.int .i64 8)]
  simp only [World.size_alloc] at hn
  have HN := Lib.hid hn
  clear hn
  go_enter Tryd.func66, Tryd.ntmps66
  go_wp2_with fail
  go_ret
  refine ⟨_, ?_, rfl, HN.out, ?_⟩
  · simp
  · go_grown

/-- what a part of the checker leaves: found an error or not -/
def CkPost (w : World) (g m : Nat) (L : List En) (d : Int) (b : Bool) (e : Ending) (w' : World) : Prop := e = .returned (.tuple #[]) ∧ St w' g m L d b ∧ w.grownBy w' (some g)

set_option maxRecDepth 100000 in
set_option maxHeartbeats 4000000 in
theorem must_any (w : World) (g m : Nat) (L : List En) (d : Int) (b h : Bool) (x y : Int) (hS : St w g m L d b) :
    Calls Tryd.prog 47 #[.pointer (some ⟨g, 0, none⟩), .bool h, .agg #[.int .i64 x, .int .i64 y]] w (CkPost w g m L d (b || !h)) := by
  unfold CkPost
  have hg := hS.lt
  cases h
  · obtain ⟨v, hC, hE, hM⟩ := hS
    have c2 := Has.cell hC 2
    simp only [List.getElem?_toArray, List.getElem?_cons_zero, List.getElem?_cons_succ] at c2
    cases b
    · have hv := hE.1 rfl
      subst hv
      have HC := Lib.hid hC
      have HM := Lib.hid hM
      clear hC hM hE
      go_enter Tryd.func47, Tryd.ntmps47
      go_wp2_with fail
      refine (new_clock _ x y).mono ?_
      rintro e w1 ⟨ga, hga, rfl, hn, hb⟩
      have hB : Below w.heap.size w w1 := ((Below.refl _ w).alloc (Nat.le_refl _) _).trans (hb.mono (by simp))
      have hk := Has.below HC.out hB hg
      have d3 := hk.cell 2
      have f3 := hk.free 2
      simp only [List.getElem?_toArray, List.getElem?_cons_zero, List.getElem?_cons_succ] at d3
      simp only [World.size_alloc] at hga
      have HB := Lib.hid hB
      have HN := Lib.hid hn
      have HK := Lib.hid hk
      clear hb hB hn hk HC c2
      go_wp2_with fail
      go_returns
      have hgr := grown_put (grown_below (some g) HB.out) 2 (.iface 177 (.pointer (some ⟨ga, 0, none⟩)))
      have hgr1 : w1.grownBy (w1.setCell ⟨g, 2, none⟩ (.iface 177 (.pointer (some ⟨ga, 0, none⟩)))) (some g) := grown_put (grown_refl w1 _) 2 _
      exact ⟨rfl, ⟨_, HK.out.put 2 _, ⟨(fun h => by cases h), fun _ => ⟨ga, x, y, rfl, HN.out.put_far 2 _ (by omega)⟩⟩, (HM.out.below HB.out).grown hgr1 HK.out⟩, hgr⟩
    · obtain ⟨ga, x', y', hv, hh⟩ := hE.2 rfl
      subst hv
      have HS : Hid (St w g m L d true) := Lib.hid ⟨_, hC, hE, hM⟩
      clear hC hM hE hh
      go_enter Tryd.func47, Tryd.ntmps47
      go_wp2_with fail
      go_returns
      have hB : Below w.heap.size w (w.alloc (.cells #[.int .i64 x, .int .i64 y] 27)) := (Below.refl _ w).alloc (Nat.le_refl _) _
      exact ⟨rfl, HS.out.below hB, grown_below _ hB⟩
  · have HS : Hid (St w g m L d (b || !true)) := Lib.hid (by simpa using hS)
    clear hS
    go_enter Tryd.func47, Tryd.ntmps47
    go_wp2_with fail
    go_returns
    have hB : Below w.heap.size w (w.alloc (.cells #[.int .i64 x, .int .i64 y] 27)) := (Below.refl _ w).alloc (Nat.le_refl _) _
    exact ⟨rfl, HS.out.below hB, grown_below _ hB⟩
end Go.Proofs.YtnejkgkikpgajaaDoor.ck
