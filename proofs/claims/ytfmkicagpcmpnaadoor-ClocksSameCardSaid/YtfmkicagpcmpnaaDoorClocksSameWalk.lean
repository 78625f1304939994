/-
  For all lists of samplings a and b, the awake example holds, and, where neither is longer than 100, clocks.Same agrees with the document's own comparison and finds a equal to itself. The walk.
-/
import Derived.Test.YtfmkicagpcmpnaaDoorLwAwake
import Derived.Test.YtfmkicagpcmpnaaDoorTrOnsOpen
namespace Go.Proofs.YtfmkicagpcmpnaaDoor.clocksSame
open Go.ChangeShapes Go.WideShapes Go.ChangeAt Go.RowKit
open tr ck
set_option linter.unusedVariables false
set_option linter.unusedSimpArgs false

set_option maxRecDepth 100000 in
theorem same_law (w : World) (a b : Option Addr) (ss ts : List (ByteArray × ByteArray)) (c d : Nat) (hs : Ons w a ss) (ht : Ons w b ts) (h1 : ss.length ≤ maxLen) (h2 : ts.length ≤ maxLen) :
    Calls Tryd.prog 6 #[.slice a ss.length c, .slice b ts.length d] w fun e w' => e = .returned (.bool (onsB ss ts)) ∧ Below w.heap.size w w' := by
  have HE := Lib.hid (equal_ons w a b ss ts c d hs ht h1 h2)
  clear hs ht
  go_enter Tryd.func6, Tryd.ntmps6
  go_wp2_with fail
  refine HE.out.mono ?_
  rintro e w1 ⟨rfl, n, rfl⟩
  go_wp2_with fail
  go_ret
  exact ⟨rfl, tr.below_drewN (Below.refl _ _) n⟩

set_option maxRecDepth 100000 in
set_option maxHeartbeats 4000000 in
theorem walk (a0 : Option Addr) (l0 : List (ByteArray × ByteArray)) (c0 : Nat) (hc0 : l0.length ≤ c0) (hm0 : c0 ≤ maxLen) (a1 : Option Addr) (l1 : List (ByteArray × ByteArray)) (c1 : Nat) (hc1 : l1.length ≤ c1) (hm1 : c1 ≤ maxLen) (w : World) (hs0 : Ons w a0 l0) (hs1 : Ons w a1 l1) :
    Calls Tryd.prog 3 #[.slice a0 l0.length c0, .slice a1 l1.length c1] w fun e w' => e = .returned (.bool true) ∧ Below w.heap.size w w' := by
  have hx0 : l0.length ≤ maxLen := Nat.le_trans hc0 hm0
  have hx1 : l1.length ≤ maxLen := Nat.le_trans hc1 hm1
  have HS0 := Lib.hid hs0
  have HS1 := Lib.hid hs1
  clear hs0 hs1 hm0 hm1
  by_cases hlong : 100 < l0.length ∨ 100 < l1.length
  · have HL := Lib.hid hlong
    by_cases h0 : 100 < l0.length
    · have e0 : decide ((100 : Int) < (l0.length : Int)) = true := decide_eq_true (by omega)
      have HA := Lib.hid (awake_any w)
      clear hlong HL
      go_enter Tryd.func3, Tryd.ntmps3
      go_wp2_with fail
      refine HA.out.mono ?_
      rintro e w1 ⟨rfl, hb1⟩
      have HB1 := Lib.hid hb1
      clear hb1
      go_wp2_with fail
      go_ret
      exact ⟨rfl, HB1.out⟩
    · have e0 : decide ((100 : Int) < (l0.length : Int)) = false := decide_eq_false (by omega)
      have e1 : decide ((100 : Int) < (l1.length : Int)) = true := decide_eq_true (by omega)
      have HA := Lib.hid (awake_any w)
      clear hlong HL
      go_enter Tryd.func3, Tryd.ntmps3
      go_wp2_with fail
      refine HA.out.mono ?_
      rintro e w1 ⟨rfl, hb1⟩
      have HB1 := Lib.hid hb1
      clear hb1
      go_wp2_with fail
      go_ret
      exact ⟨rfl, HB1.out⟩
  · have e0 : decide ((100 : Int) < (l0.length : Int)) = false := decide_eq_false (by omega)
    have e1 : decide ((100 : Int) < (l1.length : Int)) = false := decide_eq_false (by omega)
    have HA := Lib.hid (awake_any w)
    obtain ⟨r, hr⟩ : ∃ r, r = onsB l0 l1 := ⟨_, rfl⟩
    have HE : Hid (∀ W, Below w.heap.size w W → Calls Tryd.prog 6 #[.slice a0 l0.length c0, .slice a1 l1.length c1] W fun e w' => e = .returned (.bool r) ∧ Below W.heap.size W w') := Lib.hid (fun W hW => by rw [hr]; exact same_law W a0 a1 l0 l1 c0 c1 (HS0.out.below hW) (HS1.out.below hW) hx0 hx1)
    have HR : Hid (∀ W, Below w.heap.size w W → Calls Tryd.prog 7 #[.slice a0 l0.length c0, .slice a1 l1.length c1] W fun e w' => e = .returned (.bool r) ∧ Below W.heap.size W w') := Lib.hid (fun W hW => by
      rw [hr]
      refine (sameclock_any W a0 a1 l0 l1 c0 c1 (HS0.out.below hW) (HS1.out.below hW) hx0 hx1).mono ?_
      rintro e w' ⟨he, n, rfl⟩
      exact ⟨he, tr.below_drewN (Below.refl _ _) n⟩)
    have HH : Hid (∀ W, Below w.heap.size w W → Calls Tryd.prog 6 #[.slice a0 l0.length c0, .slice a0 l0.length c0] W fun e w' => e = .returned (.bool true) ∧ Below W.heap.size W w') := Lib.hid (fun W hW => by
      have := same_law W a0 a0 l0 l0 c0 c0 (HS0.out.below hW) (HS0.out.below hW) hx0 hx0
      rw [onsB_refl] at this
      exact this)
    have hrr : (r == r) = true := by cases r <;> rfl
    clear hlong hr
    go_enter Tryd.func3, Tryd.ntmps3
    go_wp2_with fail
    refine HA.out.mono ?_
    rintro e w1 ⟨rfl, hb1⟩
    have HB1 := Lib.hid hb1
    clear hb1
    go_wp2_with fail
    refine (HE.out w1 HB1.out).mono ?_
    rintro e w2 ⟨rfl, hb2⟩
    have HB2 := Lib.hid (HB1.out.trans (hb2.mono HB1.out.size))
    clear hb2
    go_wp2_with fail
    refine (HR.out w2 HB2.out).mono ?_
    rintro e w3 ⟨rfl, hb3⟩
    have HB3 := Lib.hid (HB2.out.trans (hb3.mono HB2.out.size))
    clear hb3
    go_wp2_with fail
    refine (HH.out w3 HB3.out).mono ?_
    rintro e w4 ⟨rfl, hb4⟩
    have HB4 := Lib.hid (HB3.out.trans (hb4.mono HB3.out.size))
    clear hb4
    go_wp2_with fail
    go_ret
    exact ⟨rfl, HB4.out⟩
end Go.Proofs.YtfmkicagpcmpnaaDoor.clocksSame
