/-
  The clock of a variable; is it on a clock; must.
-/
import Derived.Test.YtnejkgkikpgajaaDoorCkEnv
namespace Go.Proofs.YtnejkgkikpgajaaDoor.ck
open Go.ChangeShapes Go.WideShapes Go.ChangeAt Go.RowKit
open tr
set_option linter.unusedVariables false

/-- the checker, what it sees, has it found an error -/
def St (w : World) (g m : Nat) (L : List En) (d : Int) (b : Bool) : Prop := ∃ v, Ck w g (.map (some m)) d v ∧ Er w v b ∧ EnvM w m L
theorem EnvM.lt {w : World} {m : Nat} {L : List En} (h : EnvM w m L) : m < w.heap.size := by
  obtain ⟨es, c, h, _⟩ := h
  exact (Array.getElem?_eq_some_iff.1 h).1
theorem EnvM.below {w w' : World} {m : Nat} {L : List En} (h : EnvM w m L) (hb : Below w.heap.size w w') : EnvM w' m L := by
  have hl := h.lt
  obtain ⟨es, c, h, hE⟩ := h
  exact ⟨es, c, (hb.block m hl).trans h, hE.keep fun g cs hh => hh.below hb hh.lt⟩
theorem Er.below {w w' : World} {v : Value} {b : Bool} (h : Er w v b) (hb : Below w.heap.size w w') : Er w' v b := h.keep fun g cs hh => hh.below hb hh.lt
theorem St.below {w w' : World} {g m : Nat} {L : List En} {d : Int} {b : Bool} (h : St w g m L d b) (hb : Below w.heap.size w w') : St w' g m L d b := by
  obtain ⟨v, h1, h2, h3⟩ := h
  exact ⟨v, Has.below h1 hb (Has.lt h1), h2.below hb, h3.below hb⟩
theorem St.lt {w : World} {g m : Nat} {L : List En} {d : Int} {b : Bool} (h : St w g m L d b) : g < w.heap.size := by
  obtain ⟨v, h1, h2, h3⟩ := h
  exact Has.lt h1
def rd (d : Int) (x : En) : Bool := x.dep == d || x.clk.isEmpty
/-- what clock answers -/
def ClkOf (w : World) (L : List En) (d : Int) (n : ByteArray) (a : Option Addr) (ok : Bool) : Prop :=
  match lk n L with
  | none => a = none ∧ ok = false
  | some x => CkL w a x.clk ∧ ok = rd d x
def ClockPost (w : World) (L : List En) (d : Int) (n : ByteArray) (e : Ending) (w' : World) : Prop := ∃ a ok, e = .returned (.tuple #[.pointer a, .bool ok]) ∧ Below w.heap.size w w' ∧ ClkOf w L d n a ok

set_option maxRecDepth 100000 in
set_option maxHeartbeats 4000000 in
theorem clock_any (w : World) (g m : Nat) (L : List En) (d : Int) (b : Bool) (n : ByteArray) (hS : St w g m L d b) :
    Calls Tryd.prog 85 #[.pointer (some ⟨g, 0, none⟩), .string n] w (ClockPost w L d n) := by
  have hg := hS.lt
  obtain ⟨v, hC, _, hM⟩ := hS
  have c0 := Has.cell hC 0
  have c1 := Has.cell hC 1
  simp only [List.getElem?_toArray, List.getElem?_cons_zero, List.getElem?_cons_succ] at c0 c1
  unfold ClockPost
  rcases run_lk n hM with ⟨h1, h2⟩ | ⟨x, a, h1, h2, h3⟩
  · have HF : Hid (ClkOf w L d n none false) := Lib.hid (by unfold ClkOf; rw [h1]; exact ⟨rfl, rfl⟩)
    clear hM h1 hC
    go_enter Tryd.func85, Tryd.ntmps85
    go_wp2_with fail
    go_quiet (fail)
    go_wp2_with fail
    go_ret2
    exact ⟨none, false, rfl, below_drewN (by go_grown) _, HF.out⟩
  · by_cases hd : x.dep = d
    · have HF : Hid (ClkOf w L d n a true) := Lib.hid (by unfold ClkOf rd; rw [h1]; exact ⟨h2, by simp [hd]⟩)
      have e1 : (x.dep == d) = true := by simpa using hd
      clear hM h1 hC h2 hd
      go_enter Tryd.func85, Tryd.ntmps85
      go_wp2_with fail
      go_quiet (fail)
      go_wp2_with fail
      go_ret2
      exact ⟨a, true, rfl, below_drewN (by go_grown) _, HF.out⟩
    · have e1 : (x.dep == d) = false := by simpa using hd
      rcases hc : x.clk with _ | ⟨p, r⟩
      · rw [hc] at h2
        have HF : Hid (ClkOf w L d n a true) := Lib.hid (by unfold ClkOf rd; rw [h1]; exact ⟨by rw [hc]; exact h2, by simp [hc]⟩)
        rw [CkL] at h2
        subst h2
        clear hM h1 hC hd hc
        go_enter Tryd.func85, Tryd.ntmps85
        go_wp2_with fail
        go_quiet (fail)
        go_wp2_with fail
        go_ret2
        exact ⟨none, true, rfl, below_drewN (by go_grown) _, HF.out⟩
      · rw [hc] at h2
        have HF : Hid (ClkOf w L d n a false) := Lib.hid (by unfold ClkOf rd; rw [h1]; exact ⟨by rw [hc]; exact h2, by simp [hc, e1]⟩)
        obtain ⟨g', a', rfl, _, _⟩ := h2
        clear hM h1 hC hd hc
        go_enter Tryd.func85, Tryd.ntmps85
        go_wp2_with fail
        go_quiet (fail)
        go_wp2_with fail
        go_ret2
        exact ⟨_, false, rfl, below_drewN (by go_grown) _, HF.out⟩
end Go.Proofs.YtnejkgkikpgajaaDoor.ck
