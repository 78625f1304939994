/-
  The search: late, with its closures; an expression at every tree.
-/
import Derived.Test.YtnejkgkikpgajaaDoorInExpr
namespace Go.Proofs.YtnejkgkikpgajaaDoor.ini
open Go.ChangeShapes Go.WideShapes Go.ChangeAt Go.RowKit
open tr ck
set_option linter.unusedVariables false
set_option linter.unusedSimpArgs false

abbrev fVar (ps pv : Nat) : Value := .func (.func 78) #[] #[.pointer (some ⟨ps, 0, none⟩), .pointer (some ⟨pv, 0, none⟩)]
abbrev fKid (ps pe pv : Nat) : Value := .func (.func 80) #[] #[.pointer (some ⟨ps, 0, none⟩), .pointer (some ⟨pe, 0, none⟩), .pointer (some ⟨pv, 0, none⟩)]
set_option maxRecDepth 100000 in
set_option maxHeartbeats 8000000 in
theorem late_any (x : Cx) (S : List ByteArray) (k o : Nat) (n : Int) (nm : ByteArray) (nms : List ByteArray) (kids : List Ex) (l c : Int) (hK : ∀ i (hi : i < kids.length), ExprDoes x S kids[i]) (W : World) (R : Nat → Value) (Ws : List (List Nat)) (ps pe pv b off v : Nat) (hS : Se x W S R Ws) (hB : Bx x W R ps pe pv b off v) (hL : LaidAt x.w b off (.mk k o n nm nms kids l c)) (ht : tot Ws + sz (.mk k o n nm nms kids l c) ≤ 1000000) :
    Calls Tryd.prog 79 #[.pointer (some ⟨b, off, none⟩), fVar ps pv, fKid ps pe pv] W (ExPost x W S R Ws v (reach (.mk k o n nm nms kids l c)) (lateB S (.mk k o n nm nms kids l c)) (sz (.mk k o n nm nms kids l c))) := by
  have hL0 := hL
  obtain ⟨cs, hc, hl⟩ := hL
  unfold LaidC at hl
  obtain ⟨hk, _, _, _, hkl, na, nc, ka, kc, _, _, rfl, _, hkids⟩ := hl
  have HKP : Hid (∀ W' R' Ws', Se x W' S R' Ws' → W'.cell? ⟨b, off, none⟩ = some (.int .u8 k) ∧ W'.cell? ⟨b, off + 3, none⟩ = some (.string nm) ∧ W'.cell? ⟨b, off + 5, none⟩ = some (.slice ka kids.length kc)) := Lib.hid (fun W' R' Ws' h => ⟨h.keep _ _ _ (hc 0 _ rfl), h.keep _ _ _ (hc 3 _ rfl), h.keep _ _ _ (hc 5 _ rfl)⟩)
  obtain ⟨k0, k3, k5⟩ := HKP.out W R Ws hS
  have e4 : ((k : Int) == 4) = decide (k = 4) := by rw [Bool.eq_iff_iff, beq_iff_eq, decide_eq_true_iff]; omega
  have e9 : ((k : Int) == 9) = decide (k = 9) := by rw [Bool.eq_iff_iff, beq_iff_eq, decide_eq_true_iff]; omega
  have e10 : ((k : Int) == 10) = decide (k = 10) := by rw [Bool.eq_iff_iff, beq_iff_eq, decide_eq_true_iff]; omega
  have e11 : ((k : Int) == 11) = decide (k = 11) := by rw [Bool.eq_iff_iff, beq_iff_eq, decide_eq_true_iff]; omega
  unfold sz at ht
  have HS := Lib.hid hS
  have HB := Lib.hid hB
  have HK := Lib.hid hK
  have HL := Lib.hid hL0
  have HT := Lib.hid ht
  clear hS hB hK hL0 hc hkids ht
  by_cases h10 : k = 10
  · rw [decide_eq_true h10] at e10
    have HF : Hid (lateB S (.mk k o n nm nms kids l c) = true ∧ reach (.mk k o n nm nms kids l c) = []) := Lib.hid (by rw [lateB, reach, if_pos h10, if_pos h10]; exact ⟨rfl, rfl⟩)
    rw [HF.out.1, HF.out.2]
    clear h10
    unfold ExPost
    go_enter Tryd.func79, Tryd.ntmps79
    go_wp2_with fail
    go_ret
    exact ⟨R, Ws, rfl, HS.out, Mv.refl _ _ _ _, ExR.refl (fun h => by cases h)⟩
  · rw [decide_eq_false h10] at e10
    by_cases h4 : k = 4
    · rw [decide_eq_true h4] at e4
      have HF : Hid (lateB S (.mk k o n nm nms kids l c) = memB nm S ∧ reach (.mk k o n nm nms kids l c) = [nm]) := Lib.hid (by rw [lateB, reach, if_neg h10, if_neg h10, if_pos h4, if_pos h4]; exact ⟨rfl, rfl⟩)
      rw [HF.out.1, HF.out.2]
      have HV := Lib.hid (var_any x W S R Ws nm v ps pv HS.out HB.out.s HB.out.v HB.out.nv (by have := HT.out; omega))
      clear h10 h4
      unfold ExPost at *
      go_enter Tryd.func79, Tryd.ntmps79
      go_wp2_with fail
      refine HV.out.mono ?_
      rintro e w1 ⟨R', Ws', rfl, h1, h2, h3⟩
      have H := Lib.hid (And.intro h1 (And.intro h2 (h3.more (k' := sz (.mk k o n nm nms kids l c)) (sz_pos _))))
      clear h1 h2 h3 HV
      go_wp2_with fail
      go_ret
      exact ⟨R', Ws', rfl, H.out⟩
    · rw [decide_eq_false h4] at e4
      by_cases h911 : k = 9 ∨ k = 11
      · have HF : Hid (lateB S (.mk k o n nm nms kids l c) = lateH S kids ∧ reach (.mk k o n nm nms kids l c) = reachH kids) := Lib.hid (by rw [lateB, reach, if_neg h10, if_neg h10, if_neg h4, if_neg h4, if_pos h911, if_pos h911]; exact ⟨rfl, rfl⟩)
        rw [HF.out.1, HF.out.2]
        have h9 : (((k : Int) == 9) = true) ∨ (((k : Int) == 9) = false ∧ ((k : Int) == 11) = true) := by
          rcases h911 with h | h
          · exact .inl (by rw [e9, decide_eq_true h])
          · exact .inr ⟨by rw [e9]; exact decide_eq_false (by omega), by rw [e11, decide_eq_true h]⟩
        clear h10 h4 h911 e9 e11
        by_cases hne : 0 < kids.length
        · have g0 : decide ((kids.length : Int) > 0) = true := decide_eq_true (by omega)
          have HG : Hid (lateH S kids = lateB S kids[0] ∧ reachH kids = reach kids[0]) := Lib.hid (by
            cases kids with
            | nil => simp at hne
            | cons y r => exact ⟨rfl, rfl⟩)
          rw [HG.out.1, HG.out.2]
          have hsz := sz_kid kids 0 hne
          have HC := Lib.hid (kid_any x S k o n nm nms kids l c 0 hne (HK.out 0 hne) W R Ws ps pe pv b off v HS.out HB.out HL.out (by have := HT.out; omega))
          have HSZ : Hid (sz kids[0] ≤ sz (.mk k o n nm nms kids l c)) := Lib.hid (by rw [sz]; omega)
          have g1 : decide (0 < kids.length) = true := decide_eq_true hne
          clear hsz
          unfold ExPost at *
          rcases h9 with h9 | ⟨h9, h11⟩
          all_goals
            go_enter Tryd.func79, Tryd.ntmps79
            go_wp2_with fail
            refine HC.out.mono ?_
            rintro e w1 ⟨R', Ws', rfl, h1, h2, h3⟩
            have H := Lib.hid (And.intro h1 (And.intro h2 (h3.more HSZ.out)))
            clear h1 h2 h3 HC
            go_wp2_with fail
            go_ret
            exact ⟨R', Ws', rfl, H.out⟩
        · have g0 : decide ((kids.length : Int) > 0) = false := decide_eq_false (by omega)
          have HG : Hid (lateH S kids = false ∧ reachH kids = []) := Lib.hid (by
            cases kids with
            | nil => exact ⟨rfl, rfl⟩
            | cons y r => simp at hne)
          rw [HG.out.1, HG.out.2]
          have g1 : decide (0 < kids.length) = false := decide_eq_false hne
          have g2 : kids.length = 0 := by omega
          clear hne g2
          unfold ExPost
          rcases h9 with h9 | ⟨h9, h11⟩
          all_goals
            go_enter Tryd.func79, Tryd.ntmps79
            go_wp2_with fail
            go_ret
            exact ⟨R, Ws, rfl, HS.out, Mv.refl _ _ _ _, ExR.refl (fun _ n hn => by simp at hn)⟩
      · rw [decide_eq_false (by omega)] at e9
        rw [decide_eq_false (by omega)] at e11
        have HF : Hid (lateB S (.mk k o n nm nms kids l c) = lateK S kids ∧ reach (.mk k o n nm nms kids l c) = reachK kids) := Lib.hid (by rw [lateB, reach, if_neg h10, if_neg h10, if_neg h4, if_neg h4, if_neg h911, if_neg h911]; exact ⟨rfl, rfl⟩)
        rw [HF.out.1, HF.out.2]
        have H0 : Hid (Se x W S R Ws ∧ Mv W W x.wb x.own.length R R ∧ ExR x.own v (reachK (kids.take 0)) false (szK (kids.take 0)) Ws Ws ∧ lateK S (kids.take 0) = false) := Lib.hid ⟨HS.out, Mv.refl _ _ _ _, ExR.refl (fun _ n hn => by simp [reachK] at hn), rfl⟩
        unfold maxLen at hkl
        clear h10 h4 h911
        unfold ExPost
        go_enter Tryd.func79, Tryd.ntmps79
        go_wp2_with fail
        go_loopw [40] (fun iv wr => ∃ (j : Nat) (R' : Nat → Value) (Ws' : List (List Nat)), j ≤ kids.length ∧ iv = .int .i64 j ∧ Hid (Se x wr S R' Ws' ∧ Mv W wr x.wb x.own.length R R' ∧ ExR x.own v (reachK (kids.take j)) false (szK (kids.take j)) Ws Ws' ∧ lateK S (kids.take j) = false)) (fun iv _ => kids.length - (intOf iv).toNat)
        case atStart => exact ⟨0, R, Ws, by omega, rfl, H0⟩
        case round =>
          obtain ⟨j, R', Ws', hj, rfl, HR⟩ := hrel
          clear H0
          by_cases hlt : j < kids.length
          · have i0 : (0 : Int) ≤ (j : Int) := Int.natCast_nonneg _
            have i1 : (j : Int) < (kids.length : Int) := by omega
            have hsz := szK_app (kids.take j) [kids[j]]
            rw [← List.take_succ_eq_append_getElem hlt] at hsz
            have hle := take_le kids (j + 1)
            have hone : szK [kids[j]] = sz kids[j] := by simp [szK]
            have htt := HR.out.2.2.1.tot
            have HC := Lib.hid (kid_any x S k o n nm nms kids l c j hlt (HK.out j hlt) wr R' Ws' ps pe pv b off v HR.out.1 (HB.out.move HS.out HR.out.2.1) HL.out (by have := HT.out; omega))
            have HSZ : Hid (szK (kids.take (j + 1)) = szK (kids.take j) + sz kids[j]) := Lib.hid (by omega)
            have HRE : Hid (reachK (kids.take (j + 1)) = reachK (kids.take j) ++ reach kids[j] ∧ lateK S (kids.take (j + 1)) = (lateK S (kids.take j) || lateB S kids[j])) := Lib.hid (by
              rw [List.take_succ_eq_append_getElem hlt, reachK_app, lateK_app]
              exact ⟨by simp [reachK], by simp [lateK]⟩)
            clear hsz hle hone htt
            unfold ExPost at HC
            cases hb : lateB S kids[j]
            · rw [hb] at HC
              have HBB := Lib.hid hb
              clear hb
              go_wp2_with fail
              refine HC.out.mono ?_
              rintro e w1 ⟨R2, Ws2, rfl, h1, h2, h3⟩
              have H := Lib.hid (show Se x w1 S R2 Ws2 ∧ Mv W w1 x.wb x.own.length R R2 ∧ ExR x.own v (reachK (kids.take (j + 1))) false (szK (kids.take (j + 1))) Ws Ws2 ∧ lateK S (kids.take (j + 1)) = false from ⟨h1, HR.out.2.1.trans h2, by rw [HRE.out.1, HSZ.out]; exact HR.out.2.2.1.trans h3, by rw [HRE.out.2, HR.out.2.2.2, HBB.out]; rfl⟩)
              clear h1 h2 h3 HC
              go_wp2_with fail
              go_roundw
              case rel => exact ⟨j + 1, R2, Ws2, by omega, by go_num, H⟩
              case measure => simp [intOf]; omega
            · rw [hb] at HC
              have HBB := Lib.hid hb
              clear hb
              go_wp2_with fail
              refine HC.out.mono ?_
              rintro e w1 ⟨R2, Ws2, rfl, h1, h2, h3⟩
              have HLT : Hid (lateK S kids = true) := Lib.hid (by
                have := lateK_app S (kids.take (j + 1)) (kids.drop (j + 1))
                rw [List.take_append_drop, HRE.out.2, HBB.out, Bool.or_true, Bool.true_or] at this
                exact this)
              have H := Lib.hid (show Se x w1 S R2 Ws2 ∧ Mv W w1 x.wb x.own.length R R2 ∧ ExR x.own v (reachK kids) true (sz (.mk k o n nm nms kids l c)) Ws Ws2 from ⟨h1, HR.out.2.1.trans h2, (HR.out.2.2.1.trans h3).wider (fun n hn => take_reach kids (j + 1) n (by rw [HRE.out.1]; exact hn)) (by rw [sz]; have := take_le kids (j + 1); have := HSZ.out; omega)⟩)
              clear h1 h2 h3 HC
              go_wp2_with fail
              go_ret
              exact ⟨R2, Ws2, ret_bool' HLT.out.symm, by rw [HLT.out]; exact H.out⟩
          · obtain rfl : j = kids.length := by omega
            have H : Hid (Se x wr S R' Ws' ∧ Mv W wr x.wb x.own.length R R' ∧ ExR x.own v (reachK kids) false (szK kids) Ws Ws' ∧ lateK S kids = false) := Lib.hid (by have := HR.out; rwa [List.take_length] at this)
            clear HR
            go_wp2_with fail
            go_ret
            exact ⟨R', Ws', ret_bool' H.out.2.2.2.symm, H.out.1, H.out.2.1, by rw [H.out.2.2.2]; exact H.out.2.2.1.more (by rw [sz]; omega)⟩

set_option maxRecDepth 100000 in
set_option maxHeartbeats 4000000 in
theorem expr_any (x : Cx) (S : List ByteArray) : ∀ (N : Nat) (e : Ex), sz e ≤ N → ExprDoes x S e := by
  intro N
  induction N with
  | zero => intro e hN; have := sz_pos e; omega
  | succ N ih =>
    intro e hN W R Ws b off v hS hL ht
    obtain ⟨k, o, n, nm, nms, kids, l, c⟩ := e
    have hK : ∀ i (hi : i < kids.length), ExprDoes x S kids[i] := fun i hi => ih kids[i] (by unfold sz at hN; have := sz_kid kids i hi; omega)
    obtain ⟨W1, hW1⟩ : ∃ W1, W1 = ((W.alloc (.cells #[.pointer (some ⟨x.sb, 0, none⟩)] 111)).alloc (.cells #[.pointer (some ⟨b, off, none⟩)] 145)).alloc (.cells #[.int .i64 (v : Int)] 3) := ⟨_, rfl⟩
    have hb1 : Below W.heap.size W W1 := by rw [hW1]; exact (((Below.refl _ _).alloc (Nat.le_refl _) _).alloc (by simp) _).alloc (by simp; omega) _
    have hB : Bx x W1 R W.heap.size (W.heap.size + 1) (W.heap.size + 1 + 1) b off v := by
      refine ⟨?_, ?_, ?_, fun u hu e => ?_⟩
      · rw [hW1]; exact ((Has.new W _ _).alloc _).alloc _
      · rw [hW1]
        have := (Has.new (W.alloc (.cells #[.pointer (some ⟨x.sb, 0, none⟩)] 111)) 145 #[.pointer (some ⟨b, off, none⟩)]).alloc (.cells #[.int .i64 (v : Int)] 3)
        simp only [World.size_alloc] at this
        exact this
      · rw [hW1]
        have := Has.new ((W.alloc (.cells #[.pointer (some ⟨x.sb, 0, none⟩)] 111)).alloc (.cells #[.pointer (some ⟨b, off, none⟩)] 145)) 3 #[.int .i64 (v : Int)]
        simp only [World.size_alloc] at this
        exact this
      · have := ((hS.wt.row u hu).lt _ e).2; omega
    have HC := Lib.hid (late_any x S k o n nm nms kids l c hK W1 R Ws W.heap.size (W.heap.size + 1) (W.heap.size + 1 + 1) b off v (hS.below hb1) hB hL ht)
    have HB1 := Lib.hid hb1
    have HW1 := Lib.hid hW1
    have c1 := hB.e.cell 0
    simp only [List.getElem?_toArray, List.getElem?_cons_zero] at c1
    clear hb1 hB hK hS hL ih hW1
    unfold ExPost at *
    go_enter Tryd.func57, Tryd.ntmps57
    go_wp2_with fail
    first | rw [← HW1.out] | skip
    refine HC.out.mono ?_
    rintro e w1 ⟨R', Ws', rfl, h1, h2, h3⟩
    have H := Lib.hid (And.intro h1 (And.intro ((Mv.below HB1.out).trans h2) h3))
    clear h1 h2 h3 HC
    go_wp2_with fail
    go_ret
    exact ⟨R', Ws', rfl, H.out⟩
end Go.Proofs.YtnejkgkikpgajaaDoor.ini
