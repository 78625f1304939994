/-
  The law's own look at an expression, part by part.
-/
import Derived.Test.YtmhjcnnocllniaaDoorShRightA
import Derived.BigQuiet
namespace Go.Proofs.YtmhjcnnocllniaaDoor.sh
open Go.ChangeShapes Go.WideShapes Go.ChangeAt Go.RowKit Go.Proofs.YtmhjcnnocllniaaDoor.tr
set_option linter.unusedVariables false
set_option linter.unusedSimpArgs false
set_option maxRecDepth 100000 in
set_option maxHeartbeats 8000000 in
theorem right_case11 (o : Nat) (n : Int) (nm : ByteArray) (nms : List ByteArray) (kids : List Ex) (ln cl : Int) (hR : ∀ i (hi : i < kids.length), RightDoes kids[i]) : RightDoes (.mk 11 o n nm nms kids ln cl) := by
  intro w cs hl
  have hl' := hl
  unfold LaidC at hl'
  obtain ⟨hk, ho, _, hnl, hkl, na, nc, ka, kc, _, _, hcs, _, hks⟩ := hl'
  obtain rfl : cs = #[.int .u8 11, .int .u8 o, .int .i32 n, .string nm, .slice na nms.length nc, .slice ka kids.length kc, .int .i64 ln, .int .i64 cl] := by apply Array.toList_inj.1; rw [hcs]; rfl
  obtain ⟨xs, hxs⟩ : ∃ xs : Array Value, xs = #[.int .u8 11, .int .u8 o, .int .i32 n, .string nm, .slice na nms.length nc, .slice ka kids.length kc, .int .i64 ln, .int .i64 cl] := ⟨_, rfl⟩
  have hs0 := Over.start w xs
  have hV : ∀ w', Over w xs w' → w'.cell? ⟨w.heap.size, 5, none⟩ = some (.slice ka kids.length kc) := fun w' h => by
    have h8 := h.has
    rw [hxs] at h8
    obtain ⟨g0, g1, g2, g3, g4, g5, _, _⟩ := has8 h8
    exact g5
  have HO : Hid (∀ wx, Over w xs wx → Below w.heap.size w wx) := Lib.hid (fun wx h => h.below)
  have HLT : Hid (∀ w1 wx, Over w xs w1 → Below w1.heap.size w1 wx → Over w xs wx) := Lib.hid (fun w1 wx h hb => h.later hb)
  have HV := Lib.hid hV
  have HS0 : Hid (Over w xs ((w.alloc (.cells #[.int .u8 11, .int .u8 o, .int .i32 n, .string nm, .slice na nms.length nc, .slice ka kids.length kc, .int .i64 ln, .int .i64 cl] 27)).alloc (.cells #[.int .i64 0, .int .i64 0, .int .i64 0, .int .i64 0, .int .i64 0, .int .i64 0, .int .i64 1, .int .i64 2, .int .i64 3, .int .i64 2, .int .i64 1, .int .i64 2, .int .i64 1] 3))) := Lib.hid (by have h := hs0.later ((Below.refl _ _).alloc (Nat.le_refl _) (.cells #[.int .i64 0, .int .i64 0, .int .i64 0, .int .i64 0, .int .i64 0, .int .i64 0, .int .i64 1, .int .i64 2, .int .i64 3, .int .i64 2, .int .i64 1, .int .i64 2, .int .i64 1] 3)); rw [hxs] at h ⊢; exact h)
  have HKC := Lib.hid (fun i (hi : i < kids.length) => kid_cells (cs := xs) hks i hi)
  have HRR := Lib.hid hR
  unfold maxLen at hkl hnl
  clear hs0 hV hl hcs hks hR
  unfold RightPost
  clear hk
  by_cases hlen : kids.length = 2
  · have l1 : ((kids.length : Int) == 2) = true := by rw [hlen]; rfl
    have l2 : ((kids.length : Int) != 2) = false := by rw [hlen]; rfl
    have HF : Hid (okE (.mk 11 o n nm nms kids ln cl) = okK kids) := Lib.hid (by rw [okE, decide_eq_true (by unfold okH; omega), Bool.true_and])
    clear hlen
    go_enter Tryd.func6, Tryd.ntmps6
    go_wp2_with fail
    try dsimp only [List.append]
    go_quiet (fail)
    go_wp2_with fail
    go_loopw [4] (fun iv wr => ∃ (i : Nat), i ≤ kids.length ∧ iv = .int .i64 i ∧ Hid (Over w xs wr) ∧ Hid (okK (kids.drop i) = okK kids)) (fun iv _ => kids.length - (intOf iv).toNat)
    case atStart => exact ⟨0, by omega, rfl, Lib.hid (by first | exact HS0.out | exact HS0.out.drew | exact HLT.out _ _ HS0.out (below_drewN2 (Below.refl _ _) _)), Lib.hid (by rw [List.drop_zero])⟩
    case round =>
      obtain ⟨i, hi, rfl, HWR, HKD⟩ := hrel
      have y5 := HV.out _ HWR.out
      have hi0 : (0 : Int) ≤ (i : Int) := Int.natCast_nonneg _
      by_cases hlt : i < kids.length
      · obtain ⟨kb, ko, a0, a1, a2, a3, a4, a5, a6, a7, rfl, hlc0, hkc0⟩ := HKC.out i hlt
        have hi1 : (i : Int) < (kids.length : Int) := by omega
        have hcall := HRR.out i hlt wr #[a0, a1, a2, a3, a4, a5, a6, a7] (LaidC.below (HO.out _ HWR.out) _ _ hlc0)
        have hd := okK_drop kids i hlt
        rw [HKD.out] at hd
        obtain ⟨u0, u1, u2, u3, u4, u5, u6, u7⟩ := hkc0 wr HWR.out
        clear hkc0 hlc0 HKD
        unfold RightPost at hcall
        cases hok : okE kids[i]
        all_goals
          rw [hok] at hd hcall
          simp only [Bool.false_and, Bool.true_and] at hd
          have HD := Lib.hid hd
          have HCL := Lib.hid hcall
          clear hd hcall hok
          go_wp2_with fail
          refine HCL.out.mono ?_
          rintro e w1 ⟨rfl, hb1⟩
          have HB1 := Lib.hid (HLT.out _ _ HWR.out hb1)
          clear hb1
          go_wp2_with fail
          first
          | (go_ret
             exact ⟨by rw [HF.out, HD.out]; rfl, HO.out _ HB1.out⟩)
          | (go_roundw
             case rel => exact ⟨i + 1, by omega, by go_num, HB1, Lib.hid HD.out.symm⟩
             case measure => simp [intOf]; omega)
      · have hie : i = kids.length := by omega
        subst hie
        have hd : okK kids = true := by rw [← HKD.out, List.drop_length]; rfl
        have HD := Lib.hid hd
        clear hd
        go_wp2_with fail
        go_ret
        exact ⟨by rw [HF.out, HD.out]; rfl, HO.out _ HWR.out⟩
  · have l1 : ((kids.length : Int) == 2) = false := beq_eq_false_iff_ne.2 (by omega)
    have l2 : ((kids.length : Int) != 2) = true := bne_iff_ne.2 (by omega)
    have HF : Hid (okE (.mk 11 o n nm nms kids ln cl) = false) := Lib.hid (by rw [okE, decide_eq_false (by unfold okH; omega), Bool.false_and])
    clear hlen
    go_enter Tryd.func6, Tryd.ntmps6
    go_wp2_with fail
    try dsimp only [List.append]
    go_quiet (fail)
    go_wp2_with fail
    go_ret
    exact ⟨by rw [HF.out]; rfl, HO.out _ (by first | exact HS0.out | exact HS0.out.drew | exact HLT.out _ _ HS0.out (below_drewN2 (Below.refl _ _) _))⟩
set_option maxRecDepth 100000 in
set_option maxHeartbeats 8000000 in
theorem right_case12 (o : Nat) (n : Int) (nm : ByteArray) (nms : List ByteArray) (kids : List Ex) (ln cl : Int) (hR : ∀ i (hi : i < kids.length), RightDoes kids[i]) : RightDoes (.mk 12 o n nm nms kids ln cl) := by
  intro w cs hl
  have hl' := hl
  unfold LaidC at hl'
  obtain ⟨hk, ho, _, hnl, hkl, na, nc, ka, kc, _, _, hcs, _, hks⟩ := hl'
  obtain rfl : cs = #[.int .u8 12, .int .u8 o, .int .i32 n, .string nm, .slice na nms.length nc, .slice ka kids.length kc, .int .i64 ln, .int .i64 cl] := by apply Array.toList_inj.1; rw [hcs]; rfl
  obtain ⟨xs, hxs⟩ : ∃ xs : Array Value, xs = #[.int .u8 12, .int .u8 o, .int .i32 n, .string nm, .slice na nms.length nc, .slice ka kids.length kc, .int .i64 ln, .int .i64 cl] := ⟨_, rfl⟩
  have hs0 := Over.start w xs
  have hV : ∀ w', Over w xs w' → w'.cell? ⟨w.heap.size, 5, none⟩ = some (.slice ka kids.length kc) := fun w' h => by
    have h8 := h.has
    rw [hxs] at h8
    obtain ⟨g0, g1, g2, g3, g4, g5, _, _⟩ := has8 h8
    exact g5
  have HO : Hid (∀ wx, Over w xs wx → Below w.heap.size w wx) := Lib.hid (fun wx h => h.below)
  have HLT : Hid (∀ w1 wx, Over w xs w1 → Below w1.heap.size w1 wx → Over w xs wx) := Lib.hid (fun w1 wx h hb => h.later hb)
  have HV := Lib.hid hV
  have HS0 : Hid (Over w xs ((w.alloc (.cells #[.int .u8 12, .int .u8 o, .int .i32 n, .string nm, .slice na nms.length nc, .slice ka kids.length kc, .int .i64 ln, .int .i64 cl] 27)).alloc (.cells #[.int .i64 0, .int .i64 0, .int .i64 0, .int .i64 0, .int .i64 0, .int .i64 0, .int .i64 1, .int .i64 2, .int .i64 3, .int .i64 2, .int .i64 1, .int .i64 2, .int .i64 1] 3))) := Lib.hid (by have h := hs0.later ((Below.refl _ _).alloc (Nat.le_refl _) (.cells #[.int .i64 0, .int .i64 0, .int .i64 0, .int .i64 0, .int .i64 0, .int .i64 0, .int .i64 1, .int .i64 2, .int .i64 3, .int .i64 2, .int .i64 1, .int .i64 2, .int .i64 1] 3)); rw [hxs] at h ⊢; exact h)
  have HKC := Lib.hid (fun i (hi : i < kids.length) => kid_cells (cs := xs) hks i hi)
  have HRR := Lib.hid hR
  unfold maxLen at hkl hnl
  clear hs0 hV hl hcs hks hR
  unfold RightPost
  clear hk
  by_cases hlen : kids.length = 1
  · have l1 : ((kids.length : Int) == 1) = true := by rw [hlen]; rfl
    have l2 : ((kids.length : Int) != 1) = false := by rw [hlen]; rfl
    by_cases hnn : nms.length = 1
    · have m1 : ((nms.length : Int) == 1) = true := by rw [hnn]; rfl
      have m2 : ((nms.length : Int) != 1) = false := by rw [hnn]; rfl
      have HF : Hid (okE (.mk 12 o n nm nms kids ln cl) = okK kids) := Lib.hid (by rw [okE, decide_eq_true (by unfold okH; omega), Bool.true_and])
      clear hlen hnn
      go_enter Tryd.func6, Tryd.ntmps6
      go_wp2_with fail
      try dsimp only [List.append]
      go_quiet (fail)
      go_wp2_with fail
      go_loopw [4] (fun iv wr => ∃ (i : Nat), i ≤ kids.length ∧ iv = .int .i64 i ∧ Hid (Over w xs wr) ∧ Hid (okK (kids.drop i) = okK kids)) (fun iv _ => kids.length - (intOf iv).toNat)
      case atStart => exact ⟨0, by omega, rfl, Lib.hid (by first | exact HS0.out | exact HS0.out.drew | exact HLT.out _ _ HS0.out (below_drewN2 (Below.refl _ _) _)), Lib.hid (by rw [List.drop_zero])⟩
      case round =>
        obtain ⟨i, hi, rfl, HWR, HKD⟩ := hrel
        have y5 := HV.out _ HWR.out
        have hi0 : (0 : Int) ≤ (i : Int) := Int.natCast_nonneg _
        by_cases hlt : i < kids.length
        · obtain ⟨kb, ko, a0, a1, a2, a3, a4, a5, a6, a7, rfl, hlc0, hkc0⟩ := HKC.out i hlt
          have hi1 : (i : Int) < (kids.length : Int) := by omega
          have hcall := HRR.out i hlt wr #[a0, a1, a2, a3, a4, a5, a6, a7] (LaidC.below (HO.out _ HWR.out) _ _ hlc0)
          have hd := okK_drop kids i hlt
          rw [HKD.out] at hd
          obtain ⟨u0, u1, u2, u3, u4, u5, u6, u7⟩ := hkc0 wr HWR.out
          clear hkc0 hlc0 HKD
          unfold RightPost at hcall
          cases hok : okE kids[i]
          all_goals
            rw [hok] at hd hcall
            simp only [Bool.false_and, Bool.true_and] at hd
            have HD := Lib.hid hd
            have HCL := Lib.hid hcall
            clear hd hcall hok
            go_wp2_with fail
            refine HCL.out.mono ?_
            rintro e w1 ⟨rfl, hb1⟩
            have HB1 := Lib.hid (HLT.out _ _ HWR.out hb1)
            clear hb1
            go_wp2_with fail
            first
            | (go_ret
               exact ⟨by rw [HF.out, HD.out]; rfl, HO.out _ HB1.out⟩)
            | (go_roundw
               case rel => exact ⟨i + 1, by omega, by go_num, HB1, Lib.hid HD.out.symm⟩
               case measure => simp [intOf]; omega)
        · have hie : i = kids.length := by omega
          subst hie
          have hd : okK kids = true := by rw [← HKD.out, List.drop_length]; rfl
          have HD := Lib.hid hd
          clear hd
          go_wp2_with fail
          go_ret
          exact ⟨by rw [HF.out, HD.out]; rfl, HO.out _ HWR.out⟩
    · have m1 : ((nms.length : Int) == 1) = false := beq_eq_false_iff_ne.2 (by omega)
      have m2 : ((nms.length : Int) != 1) = true := bne_iff_ne.2 (by omega)
      have HF : Hid (okE (.mk 12 o n nm nms kids ln cl) = false) := Lib.hid (by rw [okE, decide_eq_false (by unfold okH; omega), Bool.false_and])
      clear hlen hnn
      go_enter Tryd.func6, Tryd.ntmps6
      go_wp2_with fail
      try dsimp only [List.append]
      go_quiet (fail)
      go_wp2_with fail
      go_ret
      exact ⟨by rw [HF.out]; rfl, HO.out _ (by first | exact HS0.out | exact HS0.out.drew | exact HLT.out _ _ HS0.out (below_drewN2 (Below.refl _ _) _))⟩
  · have l1 : ((kids.length : Int) == 1) = false := beq_eq_false_iff_ne.2 (by omega)
    have l2 : ((kids.length : Int) != 1) = true := bne_iff_ne.2 (by omega)
    have HF : Hid (okE (.mk 12 o n nm nms kids ln cl) = false) := Lib.hid (by rw [okE, decide_eq_false (by unfold okH; omega), Bool.false_and])
    clear hlen
    go_enter Tryd.func6, Tryd.ntmps6
    go_wp2_with fail
    try dsimp only [List.append]
    go_quiet (fail)
    go_wp2_with fail
    go_ret
    exact ⟨by rw [HF.out]; rfl, HO.out _ (by first | exact HS0.out | exact HS0.out.drew | exact HLT.out _ _ HS0.out (below_drewN2 (Below.refl _ _) _))⟩
set_option maxRecDepth 100000 in
set_option maxHeartbeats 8000000 in
theorem right_case13 (o : Nat) (n : Int) (nm : ByteArray) (nms : List ByteArray) (kids : List Ex) (ln cl : Int) (hR : ∀ i (hi : i < kids.length), RightDoes kids[i]) : RightDoes (.mk 13 o n nm nms kids ln cl) := by
  intro w cs hl
  have hl' := hl
  unfold LaidC at hl'
  obtain ⟨hk, ho, _, hnl, hkl, na, nc, ka, kc, _, _, hcs, _, hks⟩ := hl'
  obtain rfl : cs = #[.int .u8 13, .int .u8 o, .int .i32 n, .string nm, .slice na nms.length nc, .slice ka kids.length kc, .int .i64 ln, .int .i64 cl] := by apply Array.toList_inj.1; rw [hcs]; rfl
  obtain ⟨xs, hxs⟩ : ∃ xs : Array Value, xs = #[.int .u8 13, .int .u8 o, .int .i32 n, .string nm, .slice na nms.length nc, .slice ka kids.length kc, .int .i64 ln, .int .i64 cl] := ⟨_, rfl⟩
  have hs0 := Over.start w xs
  have hV : ∀ w', Over w xs w' → w'.cell? ⟨w.heap.size, 5, none⟩ = some (.slice ka kids.length kc) := fun w' h => by
    have h8 := h.has
    rw [hxs] at h8
    obtain ⟨g0, g1, g2, g3, g4, g5, _, _⟩ := has8 h8
    exact g5
  have HO : Hid (∀ wx, Over w xs wx → Below w.heap.size w wx) := Lib.hid (fun wx h => h.below)
  have HLT : Hid (∀ w1 wx, Over w xs w1 → Below w1.heap.size w1 wx → Over w xs wx) := Lib.hid (fun w1 wx h hb => h.later hb)
  have HV := Lib.hid hV
  have HS0 : Hid (Over w xs ((w.alloc (.cells #[.int .u8 13, .int .u8 o, .int .i32 n, .string nm, .slice na nms.length nc, .slice ka kids.length kc, .int .i64 ln, .int .i64 cl] 27)).alloc (.cells #[.int .i64 0, .int .i64 0, .int .i64 0, .int .i64 0, .int .i64 0, .int .i64 0, .int .i64 1, .int .i64 2, .int .i64 3, .int .i64 2, .int .i64 1, .int .i64 2, .int .i64 1] 3))) := Lib.hid (by have h := hs0.later ((Below.refl _ _).alloc (Nat.le_refl _) (.cells #[.int .i64 0, .int .i64 0, .int .i64 0, .int .i64 0, .int .i64 0, .int .i64 0, .int .i64 1, .int .i64 2, .int .i64 3, .int .i64 2, .int .i64 1, .int .i64 2, .int .i64 1] 3)); rw [hxs] at h ⊢; exact h)
  have HKC := Lib.hid (fun i (hi : i < kids.length) => kid_cells (cs := xs) hks i hi)
  have HRR := Lib.hid hR
  unfold maxLen at hkl hnl
  clear hs0 hV hl hcs hks hR
  unfold RightPost
  clear hk
  by_cases hlen : nms.length = kids.length
  · have l1 : ((nms.length : Int) == (kids.length : Int)) = true := by rw [hlen]; exact beq_self_eq_true _
    have l2 : ((nms.length : Int) != (kids.length : Int)) = false := by rw [hlen]; exact bne_self_eq_false _
    have HF : Hid (okE (.mk 13 o n nm nms kids ln cl) = okK kids) := Lib.hid (by rw [okE, decide_eq_true (by unfold okH; omega), Bool.true_and])
    clear hlen
    go_enter Tryd.func6, Tryd.ntmps6
    go_wp2_with fail
    go_loopw [4] (fun iv wr => ∃ (i : Nat), i ≤ kids.length ∧ iv = .int .i64 i ∧ Hid (Over w xs wr) ∧ Hid (okK (kids.drop i) = okK kids)) (fun iv _ => kids.length - (intOf iv).toNat)
    case atStart => exact ⟨0, by omega, rfl, Lib.hid (by first | exact HS0.out | exact HS0.out.drew | exact HLT.out _ _ HS0.out (below_drewN2 (Below.refl _ _) _)), Lib.hid (by rw [List.drop_zero])⟩
    case round =>
      obtain ⟨i, hi, rfl, HWR, HKD⟩ := hrel
      have y5 := HV.out _ HWR.out
      have hi0 : (0 : Int) ≤ (i : Int) := Int.natCast_nonneg _
      by_cases hlt : i < kids.length
      · obtain ⟨kb, ko, a0, a1, a2, a3, a4, a5, a6, a7, rfl, hlc0, hkc0⟩ := HKC.out i hlt
        have hi1 : (i : Int) < (kids.length : Int) := by omega
        have hcall := HRR.out i hlt wr #[a0, a1, a2, a3, a4, a5, a6, a7] (LaidC.below (HO.out _ HWR.out) _ _ hlc0)
        have hd := okK_drop kids i hlt
        rw [HKD.out] at hd
        obtain ⟨u0, u1, u2, u3, u4, u5, u6, u7⟩ := hkc0 wr HWR.out
        clear hkc0 hlc0 HKD
        unfold RightPost at hcall
        cases hok : okE kids[i]
        all_goals
          rw [hok] at hd hcall
          simp only [Bool.false_and, Bool.true_and] at hd
          have HD := Lib.hid hd
          have HCL := Lib.hid hcall
          clear hd hcall hok
          go_wp2_with fail
          refine HCL.out.mono ?_
          rintro e w1 ⟨rfl, hb1⟩
          have HB1 := Lib.hid (HLT.out _ _ HWR.out hb1)
          clear hb1
          go_wp2_with fail
          first
          | (go_ret
             exact ⟨by rw [HF.out, HD.out]; rfl, HO.out _ HB1.out⟩)
          | (go_roundw
             case rel => exact ⟨i + 1, by omega, by go_num, HB1, Lib.hid HD.out.symm⟩
             case measure => simp [intOf]; omega)
      · have hie : i = kids.length := by omega
        subst hie
        have hd : okK kids = true := by rw [← HKD.out, List.drop_length]; rfl
        have HD := Lib.hid hd
        clear hd
        go_wp2_with fail
        go_ret
        exact ⟨by rw [HF.out, HD.out]; rfl, HO.out _ HWR.out⟩
  · have l1 : ((nms.length : Int) == (kids.length : Int)) = false := beq_eq_false_iff_ne.2 (by omega)
    have l2 : ((nms.length : Int) != (kids.length : Int)) = true := bne_iff_ne.2 (by omega)

    have HF : Hid (okE (.mk 13 o n nm nms kids ln cl) = false) := Lib.hid (by rw [okE, decide_eq_false (by unfold okH; omega), Bool.false_and])
    clear hlen
    go_enter Tryd.func6, Tryd.ntmps6
    go_wp2_with fail
    go_ret
    exact ⟨by rw [HF.out]; rfl, HO.out _ (by first | exact HS0.out | exact HS0.out.drew | exact HLT.out _ _ HS0.out (below_drewN2 (Below.refl _ _) _))⟩
set_option maxRecDepth 100000 in
set_option maxHeartbeats 8000000 in
theorem right_caseBad (k o : Nat) (n : Int) (nm : ByteArray) (nms : List ByteArray) (kids : List Ex) (ln cl : Int) (hbad : ¬ (1 ≤ k ∧ k ≤ 13)) (hR : ∀ i (hi : i < kids.length), RightDoes kids[i]) : RightDoes (.mk k o n nm nms kids ln cl) := by
  intro w cs hl
  have hl' := hl
  unfold LaidC at hl'
  obtain ⟨hk, ho, _, hnl, hkl, na, nc, ka, kc, _, _, hcs, _, hks⟩ := hl'
  obtain rfl : cs = #[.int .u8 k, .int .u8 o, .int .i32 n, .string nm, .slice na nms.length nc, .slice ka kids.length kc, .int .i64 ln, .int .i64 cl] := by apply Array.toList_inj.1; rw [hcs]
  obtain ⟨xs, hxs⟩ : ∃ xs : Array Value, xs = #[.int .u8 k, .int .u8 o, .int .i32 n, .string nm, .slice na nms.length nc, .slice ka kids.length kc, .int .i64 ln, .int .i64 cl] := ⟨_, rfl⟩
  have hs0 := Over.start w xs
  have hV : ∀ w', Over w xs w' → w'.cell? ⟨w.heap.size, 5, none⟩ = some (.slice ka kids.length kc) := fun w' h => by
    have h8 := h.has
    rw [hxs] at h8
    obtain ⟨g0, g1, g2, g3, g4, g5, _, _⟩ := has8 h8
    exact g5
  have HO : Hid (∀ wx, Over w xs wx → Below w.heap.size w wx) := Lib.hid (fun wx h => h.below)
  have HLT : Hid (∀ w1 wx, Over w xs w1 → Below w1.heap.size w1 wx → Over w xs wx) := Lib.hid (fun w1 wx h hb => h.later hb)
  have HV := Lib.hid hV
  have HS0 : Hid (Over w xs ((w.alloc (.cells #[.int .u8 k, .int .u8 o, .int .i32 n, .string nm, .slice na nms.length nc, .slice ka kids.length kc, .int .i64 ln, .int .i64 cl] 27)).alloc (.cells #[.int .i64 0, .int .i64 0, .int .i64 0, .int .i64 0, .int .i64 0, .int .i64 0, .int .i64 1, .int .i64 2, .int .i64 3, .int .i64 2, .int .i64 1, .int .i64 2, .int .i64 1] 3))) := Lib.hid (by have h := hs0.later ((Below.refl _ _).alloc (Nat.le_refl _) (.cells #[.int .i64 0, .int .i64 0, .int .i64 0, .int .i64 0, .int .i64 0, .int .i64 0, .int .i64 1, .int .i64 2, .int .i64 3, .int .i64 2, .int .i64 1, .int .i64 2, .int .i64 1] 3)); rw [hxs] at h ⊢; exact h)
  have HKC := Lib.hid (fun i (hi : i < kids.length) => kid_cells (cs := xs) hks i hi)
  have HRR := Lib.hid hR
  unfold maxLen at hkl hnl
  clear hs0 hV hl hcs hks hR
  unfold RightPost
  by_cases hk1 : k < 1
  · have q1 : (k : Int) < 1 := by omega
    have HF : Hid (okE (.mk k o n nm nms kids ln cl) = false) := Lib.hid (by rw [okE, decide_eq_false (by unfold okH; omega), Bool.false_and])
    clear hk1 hbad hk
    go_enter Tryd.func6, Tryd.ntmps6
    go_wp2_with fail
    go_ret
    exact ⟨by rw [HF.out]; rfl, HO.out _ (by first | exact HS0.out | exact HS0.out.drew | exact HLT.out _ _ HS0.out (below_drewN2 (Below.refl _ _) _))⟩
  · have q1 : ¬ (k : Int) < 1 := by omega
    have q2 : (13 : Int) < (k : Int) := by omega
    have HF : Hid (okE (.mk k o n nm nms kids ln cl) = false) := Lib.hid (by rw [okE, decide_eq_false (by unfold okH; omega), Bool.false_and])
    clear hk1 hbad hk
    go_enter Tryd.func6, Tryd.ntmps6
    go_wp2_with fail
    go_ret
    exact ⟨by rw [HF.out]; rfl, HO.out _ (by first | exact HS0.out | exact HS0.out.drew | exact HLT.out _ _ HS0.out (below_drewN2 (Below.refl _ _) _))⟩
end Go.Proofs.YtmhjcnnocllniaaDoor.sh
