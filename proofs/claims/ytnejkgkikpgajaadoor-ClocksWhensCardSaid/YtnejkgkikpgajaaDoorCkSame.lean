/-
  Are two clocks one: (*clock).same.
-/
import Derived.Test.YtnejkgkikpgajaaDoorCkPtr
namespace Go.Proofs.YtnejkgkikpgajaaDoor.ck
open Go.ChangeShapes Go.WideShapes Go.ChangeAt Go.RowKit
open tr
set_option linter.unusedVariables false

theorem CkL.drewN {w : World} {a : Option Addr} {l : List Smp} (h : CkL w a l) (n : Nat) : CkL (w.drewN n) a l := CkL.keep (w := w) (w' := w.drewN n) (fun g cs hh => hh) h
theorem hasN {w : World} {g : Nat} {t : TypeId} {cs : Array Value} (h : Has w g t cs) (n : Nat) : Has (w.drewN n) g t cs := h

set_option maxRecDepth 100000 in
set_option maxHeartbeats 4000000 in
theorem same_any (w : World) (a b : Option Addr) (l m : List Smp) (hl : CkL w a l) (hm : CkL w b m) :
    Calls Tryd.prog 86 #[.pointer a, .pointer b] w fun e w' => e = .returned (.bool (onsB l m)) ∧ ∃ n, w' = w.drewN n := by
  have HL := Lib.hid hl
  have HM := Lib.hid hm
  clear hl hm
  go_enter Tryd.func86, Tryd.ntmps86
  go_wp2_with fail
  go_loopg [0, 1] (l.length) (fun k p q wr => ∃ (a' b' : Option Addr) (l' m' : List Smp) (j : Nat), l'.length ≤ k ∧ p = .pointer a' ∧ q = .pointer b' ∧ Hid (wr = w.drewN j) ∧ Hid (CkL w a' l') ∧ Hid (CkL w b' m') ∧ Hid (onsB l' m' = onsB l m))
  case atStart => exact ⟨a, b, l, m, 0, by omega, rfl, rfl, Lib.hid rfl, HL, HM, Lib.hid rfl⟩
  case round =>
    obtain ⟨a', b', l', m', j, hk, rfl, rfl, HW, HL', HM', HF⟩ := hrel
    clear HL HM
    rcases l' with _ | ⟨⟨p1, p2⟩, r⟩
    · have hn := HL'.out
      rw [CkL] at hn
      subst hn
      rcases m' with _ | ⟨⟨q1, q2⟩, s⟩
      · have hn := HM'.out
        rw [CkL] at hn
        subst hn
        go_wp2_with fail
        go_quiet (fail)
        go_wp2_with fail
        go_ret
        exact ⟨ret_bool' HF.out, j + nq, by rw [HW.out]; exact World.drewN_drewN _ _ _⟩
      · obtain ⟨g', b2, rfl, hh', hs⟩ := HM'.out
        have HF2 : Hid (false = onsB l m) := HF
        have P1 := fun W => neq_none W g'
        have P2 := fun W => eql_none W g'
        clear HF HM' hs hh'
        go_wp2_with fail
        go_quiet (fail)
        go_wp2_with fail
        go_ret
        exact ⟨ret_bool' HF2.out, j + nq, by rw [HW.out]; exact World.drewN_drewN _ _ _⟩
    · obtain ⟨g, a2, rfl, hh, hr⟩ := HL'.out
      rcases m' with _ | ⟨⟨q1, q2⟩, s⟩
      · have hn := HM'.out
        rw [CkL] at hn
        subst hn
        have HF2 : Hid (false = onsB l m) := HF
        clear HF HL' hr hh
        go_wp2_with fail
        go_quiet (fail)
        go_wp2_with fail
        go_ret
        exact ⟨ret_bool' HF2.out, j + nq, by rw [HW.out]; exact World.drewN_drewN _ _ _⟩
      · obtain ⟨g', b2, rfl, hh', hs⟩ := HM'.out
        by_cases hg : g = g'
        · subst hg
          have hlm := CkL.uniq HL'.out HM'.out
          have HF2 : Hid (true = onsB l m) := Lib.hid (by rw [← HF.out, hlm, onsB_refl])
          have P2 := fun W => eql_same W g
          have P1 := fun W => neq_of_eql (eql_same W g)
          simp only [Bool.not_true] at P1
          clear HF HL' HM' hr hs hh hh' hlm
          go_wp2_with fail
          go_quiet (fail)
          go_wp2_with fail
          go_ret
          exact ⟨ret_bool' HF2.out, j + nq, by rw [HW.out]; exact World.drewN_drewN _ _ _⟩
        · have hF := HF.out
          simp only [onsB, eqO] at hF
          have P2 := fun n => eql_other (wr.drewN n) g g' _ _ hg (by rw [HW.out]; exact hasN (hasN hh _) _) (by rw [HW.out]; exact hasN (hasN hh' _) _)
          have P1 := fun n => neq_of_eql (P2 n)
          simp only [Bool.not_false] at P1
          have x1 : wr.cell? ⟨g, 0, none⟩ = some (.string p1) := by rw [HW.out]; exact (hasN hh _).cell 0
          have x2 : wr.cell? ⟨g, 1, none⟩ = some (.string p2) := by rw [HW.out]; exact (hasN hh _).cell 1
          have x3 : wr.cell? ⟨g, 2, none⟩ = some (.pointer a2) := by rw [HW.out]; exact (hasN hh _).cell 2
          have y1 : wr.cell? ⟨g', 0, none⟩ = some (.string q1) := by rw [HW.out]; exact (hasN hh' _).cell 0
          have y2 : wr.cell? ⟨g', 1, none⟩ = some (.string q2) := by rw [HW.out]; exact (hasN hh' _).cell 1
          have y3 : wr.cell? ⟨g', 2, none⟩ = some (.pointer b2) := by rw [HW.out]; exact (hasN hh' _).cell 2
          have HR := Lib.hid hr
          have HS := Lib.hid hs
          clear HF HL' HM' hr hs hh hh'
          cases he : eqS p1 q1
          · rw [he, Bool.false_and, Bool.false_and] at hF
            have HF2 := Lib.hid hF
            have e1 : (p1.toList == q1.toList) = false := he
            clear hF he hg
            go_wp2_with fail
            go_quiet (fail)
            go_wp2_with fail
            go_ret
            exact ⟨ret_bool' HF2.out, j + nq, by rw [HW.out]; exact World.drewN_drewN _ _ _⟩
          cases he' : eqS p2 q2
          · rw [he', Bool.and_false, Bool.false_and] at hF
            have HF2 := Lib.hid hF
            have e1 : (p1.toList == q1.toList) = true := he
            have e2 : (p2.toList == q2.toList) = false := he'
            clear hF he he' hg
            go_wp2_with fail
            go_quiet (fail)
            go_wp2_with fail
            go_ret
            exact ⟨ret_bool' HF2.out, j + nq, by rw [HW.out]; exact World.drewN_drewN _ _ _⟩
          · rw [he, he', Bool.and_self, Bool.true_and] at hF
            have HF2 := Lib.hid hF
            have e1 : (p1.toList == q1.toList) = true := he
            have e2 : (p2.toList == q2.toList) = true := he'
            clear hF he he' hg
            go_wp2_with fail
            go_quiet (fail)
            go_wp2_with fail
            go_quiet (fail)
            go_wp2_with fail
            go_roundg r.length
            case rel => exact ⟨a2, b2, r, s, _, Nat.le_refl _, rfl, rfl, Lib.hid (by rw [HW.out, World.drewN_drewN, World.drewN_drewN]), HR, HS, HF2⟩
            case measure => simp at hk; omega
end Go.Proofs.YtnejkgkikpgajaaDoor.ck
