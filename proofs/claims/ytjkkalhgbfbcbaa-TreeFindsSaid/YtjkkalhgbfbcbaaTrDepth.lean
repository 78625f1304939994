/-
  How deeply an expression is nested: its walk.
-/
import Derived.Test.YtjkkalhgbfbcbaaTrOnce
namespace Go.Proofs.Ytjkkalhgbfbcbaa.tr
open Go.ChangeShapes Go.WideShapes Go.ChangeAt Go.RowKit
set_option linter.unusedVariables false

mutual
theorem depth_le : ∀ x : Ex, depthE x ≤ sz x
  | .mk _ _ _ _ _ kids _ _ => by
    unfold depthE sz
    have := depthK_le kids
    omega
theorem depthK_le : ∀ l : List Ex, depthK l ≤ szK l
  | [] => by unfold depthK szK; omega
  | x :: r => by
    unfold depthK szK
    have := depth_le x
    have := depthK_le r
    omega
end
theorem depthK_snoc (l : List Ex) (i : Nat) (hi : i < l.length) : depthK (l.take (i + 1)) = max (depthK (l.take i)) (depthE l[i]) := by
  induction l generalizing i with
  | nil => simp at hi
  | cons x r ih =>
    cases i with
    | zero => simp [depthK]
    | succ i =>
      have := ih i (by simpa using hi)
      rw [List.take_succ_cons, List.take_succ_cons]
      unfold depthK
      rw [this]
      simp only [List.getElem_cons_succ]
      omega

set_option maxRecDepth 100000 in
set_option maxHeartbeats 4000000 in
theorem depth_any (N : Nat) : ∀ (x : Ex), sz x ≤ N → N ≤ 1000000 → ∀ (w : World) (b off : Nat), LaidAt w b off x →
    Calls Try.prog 58 #[.pointer (some ⟨b, off, none⟩)] w (fun e w' => e = .returned (.int .i64 (depthE x)) ∧ w' = w) := by
  induction N with
  | zero => intro x h; have := sz_pos x; omega
  | succ N ih =>
    intro x hN hM w b off hl
    obtain ⟨k, o, num, nm, nms, kids, ln, cl⟩ := x
    obtain ⟨cs, hc, hx⟩ := hl
    unfold LaidC at hx
    obtain ⟨hk, _, hnm, _, hkl, na, nc, ka, kc, _, hkc, rfl, _, hks⟩ := hx
    unfold sz at hN
    have z0 := hc 0 _ rfl
    have z5 := hc 5 _ rfl
    rw [Nat.add_zero] at z0
    have HK := Lib.hid hks
    have hkd := depthK_le kids
    have HKD : Hid (depthK kids ≤ 1000000) := Lib.hid (by omega)
    unfold maxLen at hkl
    have hde : depthE (.mk k o num nm nms kids ln cl) = 1 + depthK kids := by rw [depthE]
    rw [hde]
    clear hc hks hkd hde
    go_enter Try.func58, Try.ntmps58
    go_wp2_with fail
    go_loop [3, 10] (fun mv iv => ∃ i : Nat, i ≤ kids.length ∧ iv = .int .i64 i ∧ mv = .int .i64 ((depthK (kids.take i) : Nat) : Int)) (fun _ iv => kids.length - (intOf iv).toNat)
    case atStart => exact ⟨0, by omega, rfl, by rw [List.take_zero]; rfl⟩
    case round =>
      obtain ⟨i, hi, rfl, rfl⟩ := hrel
      by_cases hlt : i < kids.length
      · obtain ⟨kb, koff, rfl, hkid⟩ := HK.out.get i hlt
        have hsz := sz_kid kids i hlt
        have hcall := ih kids[i] (by omega) (by omega) w kb (koff + i * 8) hkid
        have HCALL := Lib.hid hcall
        have HSN := Lib.hid (depthK_snoc kids i hlt)
        have hi0 : (0 : Int) ≤ (i : Int) := Int.natCast_nonneg _
        have hi1 : (i : Int) < (kids.length : Int) := by omega
        clear hkid hsz hcall
        go_wp2_with fail
        refine HCALL.out.mono ?_
        rintro e w' ⟨rfl, rfl⟩
        go_wp2_with fail
        go_round
        case rel => exact ⟨i + 1, by omega, by go_num, by rw [HSN.out]; congr 1; split <;> omega⟩
        case measure => simp [intOf]; omega
      · have hie : i = kids.length := by omega
        subst hie
        have HTK : Hid (kids.take kids.length = kids) := Lib.hid (List.take_length)
        go_wp2_with fail
        have hd0 := HKD.out
        have hw := Go.IntWalk.wrap64_in (1 + (depthK kids : Int)) (by omega)
        go_ret
        exact ⟨congrArg (fun z => Ending.returned (.int .i64 z)) hw, rfl⟩
end Go.Proofs.Ytjkkalhgbfbcbaa.tr
