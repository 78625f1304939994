/-
  (package show) expr, by induction on the expression; Expr: its text.
-/
import Derived.Test.YtmhjcnnocllniaaDoorShExpr
namespace Go.Proofs.YtmhjcnnocllniaaDoor.sh
open Go.ChangeShapes Go.WideShapes Go.ChangeAt Go.RowKit Go.Proofs.YtmhjcnnocllniaaDoor.tr
set_option linter.unusedVariables false
set_option linter.unusedSimpArgs false

theorem itoa_does (n : Int) (h0 : -2147483648 ≤ n) (h1 : n ≤ 2147483647) (w0 w : World) (l : List UInt8) (hL : Laid w0) (hB : Bu w0 l w) :
    Calls Tryd.prog 22 #[.int .i64 n] w (fun e w' => e = .returned (.string ⟨(Lib.itoa n).toArray⟩) ∧ Bu w0 l w') := by
  refine (itoa_any n (by omega) (by omega) w (tab_below hB.2 (Nat.le_refl _) hL.2)).mono ?_
  rintro e w' ⟨rfl, k, os, rfl⟩
  exact ⟨rfl, hB.grown (Lib.below_grow _ _ (Nat.le_refl _) k os)⟩

set_option maxRecDepth 100000 in
set_option maxHeartbeats 8000000 in
theorem expr_any (N : Nat) : ∀ x : Ex, sz x ≤ N → okE x = true → fitE x → ExprDoes x := by
  induction N with
  | zero => intro x h; have := sz_pos x; omega
  | succ N ih =>
    intro x hN hok hfit
    obtain ⟨k, o, n, nm, nms, kids, ln, cl⟩ := x
    rw [okE, Bool.and_eq_true, decide_eq_true_iff] at hok
    obtain ⟨hH, hokK⟩ := hok
    unfold okH at hH
    obtain ⟨hk1, hk13, hbool, hun, hbin, hmn, hl5, hl1, hl2, hl3, hn1⟩ := hH
    unfold fitE at hfit
    obtain ⟨hn0, hn9, hfk⟩ := hfit
    rw [sz] at hN
    have hE : ∀ i (hi : i < kids.length), ExprDoes kids[i] := fun i hi => ih kids[i] (by have := sz_kid kids i hi; omega) (okK_get kids hokK i hi) (fitK_get kids hfk i hi)
    intro w0 w l b off hL hx hB hlen
    rw [wt] at hlen
    obtain ⟨na, nc, ka, kc, hp⟩ := parts hx
    obtain ⟨x0, x1, x2, x3, x4, x5⟩ := hp.cells w hB.2
    have HB := Lib.hid hB
    have HX := Lib.hid hx
    have HPA := Lib.hid hp
    have HL := Lib.hid hL
    have HE := Lib.hid hE
    have HF := Lib.hid hfk
    clear ih hN hokK hE hB hx hp hL hfk
    unfold PutPost
    have hkk : k = 1 ∨ k = 2 ∨ k = 3 ∨ k = 4 ∨ k = 5 ∨ k = 6 ∨ k = 7 ∨ k = 8 ∨ k = 9 ∨ k = 10 ∨ k = 11 ∨ k = 12 ∨ k = 13 := by omega
    rcases hkk with rfl | rfl | rfl | rfl | rfl | rfl | rfl | rfl | rfl | rfl | rfl | rfl | rfl
    · have hil := Lib.itoa_length_le n (by omega) (by omega)
      have HI := Lib.hid (itoa_does n hn0 hn9 w0 w l HL.out HB.out)
      have HP := Lib.hid (fun w1 (h1 : Bu w0 l w1) => put1 w0 w1 l h1 ⟨(Lib.itoa n).toArray⟩ (Lib.itoa n) (by simp [bs]) (by omega))
      have HT : Hid (txt (.mk 1 o n nm nms kids ln cl) = Lib.itoa n) := Lib.hid (by rw [txt]; rfl)
      clear hbool hun hbin hmn hl5 hl1 hl2 hl3 hn1
      go_enter Tryd.func15, Tryd.ntmps15
      go_wp2_with fail
      refine HI.out.mono ?_
      rintro e w1 ⟨rfl, hB1⟩
      have HP1 := Lib.hid (HP.out w1 hB1)
      clear hB1
      go_wp2_with fail
      refine HP1.out.mono ?_
      rintro e w2 ⟨rfl, hBZ⟩
      have HBZ := Lib.hid hBZ
      clear hBZ
      go_wp2_with fail
      go_end0
      exact ⟨rfl, by rw [HT.out]; exact HBZ.out⟩
    · have HI := Lib.hid (truth_any n (hbool rfl) w)
      have HP := Lib.hid (put1 w0 w l HB.out ⟨(if n = 0 then ([102, 97, 108, 115, 101] : List UInt8) else [116, 114, 117, 101] : List UInt8).toArray⟩ (if n = 0 then ([102, 97, 108, 115, 101] : List UInt8) else ([116, 114, 117, 101] : List UInt8)) (by simp [bs]) (by split <;> simp <;> omega))
      have HT : Hid (txt (.mk 2 o n nm nms kids ln cl) = if n = 0 then ([102, 97, 108, 115, 101] : List UInt8) else ([116, 114, 117, 101] : List UInt8)) := Lib.hid (by rw [txt]; rfl)
      generalize (if n = 0 then ([102, 97, 108, 115, 101] : List UInt8) else [116, 114, 117, 101] : List UInt8) = tt at *
      clear hbool hun hbin hmn hl5 hl1 hl2 hl3 hn1
      go_enter Tryd.func15, Tryd.ntmps15
      go_wp2_with fail
      refine HI.out.mono ?_
      rintro e w1 ⟨rfl, rfl⟩
      go_wp2_with fail
      refine HP.out.mono ?_
      rintro e w2 ⟨rfl, hBZ⟩
      have HBZ := Lib.hid hBZ
      clear hBZ
      go_wp2_with fail
      go_end0
      exact ⟨rfl, by rw [HT.out]; exact HBZ.out⟩
    · have HP := Lib.hid (put1 w0 w l HB.out nm (bs nm) rfl (by rw [bs_len]; omega))
      have HT : Hid (txt (.mk 3 o n nm nms kids ln cl) = bs nm) := Lib.hid (by rw [txt]; rfl)
      clear hbool hun hbin hmn hl5 hl1 hl2 hl3 hn1
      go_enter Tryd.func15, Tryd.ntmps15
      go_wp2_with fail
      refine HP.out.mono ?_
      rintro e w2 ⟨rfl, hBZ⟩
      have HBZ := Lib.hid hBZ
      clear hBZ
      go_wp2_with fail
      go_end0
      exact ⟨rfl, by rw [HT.out]; exact HBZ.out⟩
    · have HP := Lib.hid (put1 w0 w l HB.out nm (bs nm) rfl (by rw [bs_len]; omega))
      have HT : Hid (txt (.mk 4 o n nm nms kids ln cl) = bs nm) := Lib.hid (by rw [txt]; rfl)
      clear hbool hun hbin hmn hl5 hl1 hl2 hl3 hn1
      go_enter Tryd.func15, Tryd.ntmps15
      go_wp2_with fail
      refine HP.out.mono ?_
      rintro e w2 ⟨rfl, hBZ⟩
      have HBZ := Lib.hid hBZ
      clear hBZ
      go_wp2_with fail
      go_end0
      exact ⟨rfl, by rw [HT.out]; exact HBZ.out⟩
    · have HP := Lib.hid (put2 w0 w l HB.out ⟨#[108, 97, 115, 116, 32]⟩ nm (([108, 97, 115, 116, 32] : List UInt8) ++ bs nm) rfl (by simp; omega))
      have HT : Hid (txt (.mk 5 o n nm nms kids ln cl) = ([108, 97, 115, 116, 32] : List UInt8) ++ bs nm) := Lib.hid (by rw [txt]; rfl)
      clear hbool hun hbin hmn hl5 hl1 hl2 hl3 hn1
      go_enter Tryd.func15, Tryd.ntmps15
      go_wp2_with fail
      refine HP.out.mono ?_
      rintro e w2 ⟨rfl, hBZ⟩
      have HBZ := Lib.hid hBZ
      clear hBZ
      go_wp2_with fail
      go_end0
      exact ⟨rfl, by rw [HT.out]; exact HBZ.out⟩
    · have h0 : 0 < kids.length := by have := hl1 (by omega); omega
      have hw := wt_kid kids 0 h0
      have hwl := wordL_len o
      have ho := hun rfl
      have hsz : (⟨(wordL o).toArray⟩ : ByteArray).size = (wordL o).length := by rw [← bs_len]
      have HW := Lib.hid (word_any o (by omega) (by omega) w (HL.out.below HB.out.2))
      have HO := Lib.hid (one_any HL.out HPA.out HX.out h0 (HE.out 0 h0) HF.out w l HB.out ⟨(wordL o).toArray⟩ (by omega))
      have HT : Hid (l ++ txt (.mk 6 o n nm nms kids ln cl) = l ++ (bs ⟨(wordL o).toArray⟩ ++ ([32] : List UInt8)) ++ par (bareB (decide (6 = 6) && decide (o = 2)) kids[0]) (txt kids[0])) := Lib.hid (by rw [txt]; show l ++ (wordL o ++ ([32] : List UInt8) ++ kidT kids (txtK kids) (decide (o = 2)) 0) = _; rw [kidT_get _ _ _ h0]; simp [bs])
      clear hsz ho hw hwl
      clear hbool hun hbin hmn hl5 hl1 hl2 hl3 hn1
      go_enter Tryd.func15, Tryd.ntmps15
      go_wp2_with fail
      refine HW.out.mono ?_
      rintro e w1 ⟨rfl, rfl⟩
      go_wp2_with fail
      refine HO.out.mono ?_
      rintro e w2 ⟨rfl, hBZ⟩
      have HBZ := Lib.hid hBZ
      clear hBZ
      go_wp2_with fail
      go_end0
      exact ⟨rfl, by rw [HT.out]; exact HBZ.out⟩
    · have h1 : 1 < kids.length := by have := hl2 (by omega); omega
      have h0 : 0 < kids.length := by omega
      have hwl := wordL_len o
      have ho := hbin rfl
      have hsz : (⟨(wordL o).toArray⟩ : ByteArray).size = (wordL o).length := by rw [← bs_len]
      have HW := Lib.hid (word_any o (by omega) (by omega) w (HL.out.below HB.out.2))
      have HO := Lib.hid (two_any HL.out HPA.out HX.out (by omega) h1 (HE.out 0 h0) (HE.out 1 h1) HF.out w l HB.out ⟨(wordL o).toArray⟩ (by omega))
      have HT : Hid (l ++ txt (.mk 7 o n nm nms kids ln cl) = l ++ par (bareB false kids[0]) (txt kids[0]) ++ (([32] : List UInt8) ++ (bs ⟨(wordL o).toArray⟩ ++ ([32] : List UInt8))) ++ par (bareB false kids[1]) (txt kids[1])) := Lib.hid (by rw [txt]; show l ++ (kidT kids (txtK kids) false 0 ++ ([32] : List UInt8) ++ wordL o ++ ([32] : List UInt8) ++ kidT kids (txtK kids) false 1) = _; rw [kidT_get _ _ _ h0, kidT_get _ _ _ h1]; simp [bs])
      clear hsz ho hwl
      clear hbool hun hbin hmn hl5 hl1 hl2 hl3 hn1
      go_enter Tryd.func15, Tryd.ntmps15
      go_wp2_with fail
      refine HW.out.mono ?_
      rintro e w1 ⟨rfl, rfl⟩
      go_wp2_with fail
      refine HO.out.mono ?_
      rintro e w2 ⟨rfl, hBZ⟩
      have HBZ := Lib.hid hBZ
      clear hBZ
      go_wp2_with fail
      go_end0
      exact ⟨rfl, by rw [HT.out]; exact HBZ.out⟩
    · have h2 : 2 < kids.length := by have := hl3 rfl; omega
      have h1 : 1 < kids.length := by omega
      have h0 : 0 < kids.length := by omega
      have HO := Lib.hid (choice_any HL.out HPA.out h2 (HE.out 0 h0) (HE.out 1 h1) (HE.out 2 h2) HF.out w l HB.out (by omega))
      have HT : Hid (l ++ txt (.mk 8 o n nm nms kids ln cl) = l ++ ([105, 102, 32] : List UInt8) ++ txt kids[0] ++ ([32, 116, 104, 101, 110, 32] : List UInt8) ++ txt kids[1] ++ ([32, 101, 108, 115, 101, 32] : List UInt8) ++ txt kids[2]) := Lib.hid (by rw [txt]; show l ++ (([105, 102, 32] : List UInt8) ++ (txtK kids).getD 0 [] ++ ([32, 116, 104, 101, 110, 32] : List UInt8) ++ (txtK kids).getD 1 [] ++ ([32, 101, 108, 115, 101, 32] : List UInt8) ++ (txtK kids).getD 2 []) = _; rw [txtK_get _ _ h0, txtK_get _ _ h1, txtK_get _ _ h2]; simp only [List.append_assoc])
      clear hbool hun hbin hmn hl5 hl1 hl2 hl3 hn1
      go_enter Tryd.func15, Tryd.ntmps15
      go_wp2_with fail
      refine HO.out.mono ?_
      rintro e w2 ⟨rfl, hBZ⟩
      have HBZ := Lib.hid hBZ
      clear hBZ
      go_wp2_with fail
      go_end0
      exact ⟨rfl, by rw [HT.out]; exact HBZ.out⟩
    · have h1 : 1 < kids.length := by have := hl2 (by omega); omega
      have h0 : 0 < kids.length := by omega
      have HO := Lib.hid (two_any HL.out HPA.out HX.out (by omega) h1 (HE.out 0 h0) (HE.out 1 h1) HF.out w l HB.out ⟨#[102, 98, 121]⟩ (by show l.length + 3 + 6 + wtK kids ≤ _; omega))
      have HT : Hid (l ++ txt (.mk 9 o n nm nms kids ln cl) = l ++ par (bareB false kids[0]) (txt kids[0]) ++ (([32] : List UInt8) ++ (bs ⟨#[102, 98, 121]⟩ ++ ([32] : List UInt8))) ++ par (bareB false kids[1]) (txt kids[1])) := Lib.hid (by rw [txt]; show l ++ (kidT kids (txtK kids) false 0 ++ ([32, 102, 98, 121, 32] : List UInt8) ++ kidT kids (txtK kids) false 1) = _; rw [kidT_get _ _ _ h0, kidT_get _ _ _ h1]; simp [bs])
      clear hbool hun hbin hmn hl5 hl1 hl2 hl3 hn1
      go_enter Tryd.func15, Tryd.ntmps15
      go_wp2_with fail
      refine HO.out.mono ?_
      rintro e w2 ⟨rfl, hBZ⟩
      have HBZ := Lib.hid hBZ
      clear hBZ
      go_wp2_with fail
      go_end0
      exact ⟨rfl, by rw [HT.out]; exact HBZ.out⟩
    · have h0 : 0 < kids.length := by have := hl1 (by omega); omega
      have hw := wt_kid kids 0 h0
      have HO := Lib.hid (one_any HL.out HPA.out HX.out h0 (HE.out 0 h0) HF.out w l HB.out ⟨#[112, 114, 101]⟩ (by show l.length + 3 + 3 + wt kids[0] ≤ _; omega))
      have HT : Hid (l ++ txt (.mk 10 o n nm nms kids ln cl) = l ++ (bs ⟨#[112, 114, 101]⟩ ++ ([32] : List UInt8)) ++ par (bareB (decide (10 = 6) && decide (o = 2)) kids[0]) (txt kids[0])) := Lib.hid (by rw [txt]; show l ++ (([112, 114, 101, 32] : List UInt8) ++ kidT kids (txtK kids) false 0) = _; rw [kidT_get _ _ _ h0]; simp [bs])
      clear hw
      clear hbool hun hbin hmn hl5 hl1 hl2 hl3 hn1
      go_enter Tryd.func15, Tryd.ntmps15
      go_wp2_with fail
      refine HO.out.mono ?_
      rintro e w2 ⟨rfl, hBZ⟩
      have HBZ := Lib.hid hBZ
      clear hBZ
      go_wp2_with fail
      go_end0
      exact ⟨rfl, by rw [HT.out]; exact HBZ.out⟩
    · have h1 : 1 < kids.length := by have := hl2 (by omega); omega
      have h0 : 0 < kids.length := by omega
      have HO := Lib.hid (two_any HL.out HPA.out HX.out (by omega) h1 (HE.out 0 h0) (HE.out 1 h1) HF.out w l HB.out ⟨#[45, 62]⟩ (by show l.length + 2 + 6 + wtK kids ≤ _; omega))
      have HT : Hid (l ++ txt (.mk 11 o n nm nms kids ln cl) = l ++ par (bareB false kids[0]) (txt kids[0]) ++ (([32] : List UInt8) ++ (bs ⟨#[45, 62]⟩ ++ ([32] : List UInt8))) ++ par (bareB false kids[1]) (txt kids[1])) := Lib.hid (by rw [txt]; show l ++ (kidT kids (txtK kids) false 0 ++ ([32, 45, 62, 32] : List UInt8) ++ kidT kids (txtK kids) false 1) = _; rw [kidT_get _ _ _ h0, kidT_get _ _ _ h1]; simp [bs])
      clear hbool hun hbin hmn hl5 hl1 hl2 hl3 hn1
      go_enter Tryd.func15, Tryd.ntmps15
      go_wp2_with fail
      refine HO.out.mono ?_
      rintro e w2 ⟨rfl, hBZ⟩
      have HBZ := Lib.hid hBZ
      clear hBZ
      go_wp2_with fail
      go_end0
      exact ⟨rfl, by rw [HT.out]; exact HBZ.out⟩
    · have h0 : 0 < kids.length := by have := hl1 (by omega); omega
      have hn0' : 0 < nms.length := by have := hn1 rfl; omega
      have hw := wt_kid kids 0 h0
      have hft := txt_len _ (fitK_get kids HF.out 0 h0)
      have hpl := par_len (bareB false kids[0]) (txt kids[0])
      have hnl := nms0_len nms
      have hn00 : nms.getD 0 ByteArray.empty = nms[0] := by rw [List.getD_eq_getElem?_getD, List.getElem?_eq_getElem hn0']; rfl
      rw [hn00] at hnl
      have HO : Hid (Calls Tryd.prog 28 #[.pointer (some ⟨w0.heap.size, 0, none⟩), .pointer (some ⟨b, off, none⟩), .int .i64 0] w (PutPost w0 (l ++ par (bareB false kids[0]) (txt kids[0])))) :=
        Lib.hid (by have := operand_any HL.out HPA.out HX.out 0 h0 (HE.out 0 h0) w _ HB.out (by omega) hft; rw [show (decide ((12 : Nat) = 6) && decide (o = 2)) = false by simp] at this; exact this)
      have HC : Hid (∀ w1, Below w0.heap.size w0 w1 → Calls Tryd.prog 29 #[.pointer (some ⟨b, off, none⟩), .int .i64 0] w1 (fun e w' => e = .returned (.string nms[0]) ∧ w' = w1)) :=
        Lib.hid (fun w1 h1 => ctor_any w0 w1 b off 12 o n nm nms kids na nc ka kc HPA.out h1 0 hn0')
      have HWN := Lib.hid (fun w1 (h1 : Bu w0 (l ++ par (bareB false kids[0]) (txt kids[0])) w1) => when_any w0 w1 _ h1 nms[0] nm (by simp [whenL]; omega))
      have HXC := Lib.hid (fun W (hW : Below w0.heap.size w0 W) => (HPA.out.cells W hW).2.2.2.1)
      have HT : Hid (l ++ txt (.mk 12 o n nm nms kids ln cl) = l ++ par (bareB false kids[0]) (txt kids[0]) ++ whenL nms[0] nm) := Lib.hid (by rw [txt]; show l ++ (kidT kids (txtK kids) false 0 ++ ([32, 119, 104, 101, 110, 32] : List UInt8) ++ bs (nms.getD 0 ByteArray.empty) ++ ([40] : List UInt8) ++ bs nm ++ ([41] : List UInt8)) = _; rw [kidT_get _ _ _ h0, hn00]; simp [whenL])
      unfold PutPost at HO HWN
      clear hw hft hpl hnl hn00
      clear hbool hun hbin hmn hl5 hl1 hl2 hl3 hn1
      go_enter Tryd.func15, Tryd.ntmps15
      go_wp2_with fail
      refine HO.out.mono ?_
      rintro e w1 ⟨rfl, hB1⟩
      have hbd : Below w1.heap.size w1 w1.drew := ⟨rfl, rfl, rfl, Nat.le_refl _, fun _ _ => rfl⟩
      have hB1d := hB1.grown hbd
      have y3 := HXC.out w1 hB1.2
      have HC1 := Lib.hid (HC.out w1.drew hB1d.2)
      have HW1 := Lib.hid (HWN.out w1.drew hB1d)
      clear hB1 hbd hB1d
      go_wp2_with fail
      go_region_with (first | (go_at_call 29; refine HC1.out.mono ?_; rintro e w2 ⟨rfl, rfl⟩) | (go_at_call 21; refine HW1.out.mono ?_; rintro e w2 ⟨rfl, hBZ⟩))
      all_goals
        have HBZ := Lib.hid hBZ
        clear hBZ
        go_wp2_with fail
        go_end0
        exact ⟨rfl, by rw [HT.out]; exact HBZ.out⟩
    · have hnk := hmn rfl
      have HO := Lib.hid (merge_any HL.out HPA.out hnk (HE.out) HF.out w l HB.out (by omega))
      have HT : Hid (l ++ txt (.mk 13 o n nm nms kids ln cl) = l ++ (([40, 109, 101, 114, 103, 101, 32] : List UInt8) ++ bs nm) ++ armsT nms (txtK kids) ++ ([41] : List UInt8)) := Lib.hid (by rw [txt]; show l ++ (([40, 109, 101, 114, 103, 101, 32] : List UInt8) ++ bs nm ++ armsT nms (txtK kids) ++ ([41] : List UInt8)) = _; simp only [List.append_assoc])
      clear hnk
      clear hbool hun hbin hmn hl5 hl1 hl2 hl3 hn1
      go_enter Tryd.func15, Tryd.ntmps15
      go_wp2_with fail
      refine HO.out.mono ?_
      rintro e w2 ⟨rfl, hBZ⟩
      have HBZ := Lib.hid hBZ
      clear hBZ
      go_wp2_with fail
      go_end0
      exact ⟨rfl, by rw [HT.out]; exact HBZ.out⟩

theorem expr_does (x : Ex) (hok : okE x = true) (hf : fitE x) : ExprDoes x := expr_any (sz x) x (Nat.le_refl _) hok hf

def ShownPost (w : World) (l : List UInt8) (e : Ending) (w' : World) : Prop := e = .returned (.string ⟨l.toArray⟩) ∧ Below w.heap.size w w'

set_option maxRecDepth 100000 in
/-- show.Expr: an expression's text. -/
theorem show_any (w : World) (x : Ex) (cs : Array Value) (hl : LaidC w x cs.toList) (hok : okE x = true) (hf : fitE x) (hL : Laid w) (hlen : wt x ≤ 140737488355328) :
    Calls Tryd.prog 8 #[.agg cs] w (ShownPost w (txt x)) := by
  have hat := hl.boxed
  obtain ⟨c0, c1, c2, c3, c4, c5, c6, c7, rfl⟩ := hl.form
  have hb0 := (Below.refl w.heap.size w).alloc (Nat.le_refl _) (.cells #[c0, c1, c2, c3, c4, c5, c6, c7] 27)
  obtain ⟨v0, hv0⟩ : ∃ v0, v0 = w.alloc (.cells #[c0, c1, c2, c3, c4, c5, c6, c7] 27) := ⟨_, rfl⟩
  have hs : v0.heap.size = w.heap.size + 1 := by rw [hv0, World.size_alloc]
  have HC : Hid (Calls Tryd.prog 15 #[.pointer (some ⟨w.heap.size + 1, 0, none⟩), .pointer (some ⟨w.heap.size, 0, none⟩)] ((w.alloc (.cells #[c0, c1, c2, c3, c4, c5, c6, c7] 27)).alloc (.cells #[.pointer none, .slice none 0 0] 47)) (PutPost v0 (txt x))) :=
    Lib.hid (by
      have := expr_does x hok hf v0 (v0.alloc (.cells #[.pointer none, .slice none 0 0] 47)) [] w.heap.size 0 (by rw [hv0]; exact hL.below hb0) (by rw [hv0]; exact hat) (Bu.new v0) (by simpa using hlen)
      rw [hs, List.nil_append] at this
      rw [← hv0]
      exact this)
  have HS : Hid (∀ w2, Bu v0 (txt x) w2 → Calls Tryd.prog 16 #[.pointer (some ⟨w.heap.size + 1, 0, none⟩)] w2 (fun e w' => e = .returned (.string ⟨(txt x).toArray⟩) ∧ Below (w.heap.size + 1) w2 w')) :=
    Lib.hid (fun w2 h2 => by have := string_any _ _ _ w2 h2.1 h2.2.size; rw [hs] at this; exact this)
  have HB : Hid (∀ w2 w3, Bu v0 (txt x) w2 → Below (w.heap.size + 1) w2 w3 → Below w.heap.size w w3) :=
    Lib.hid (fun w2 w3 h2 h3 => by
      have h4 := h2.2
      rw [hs] at h4
      rw [hv0] at h4
      exact hb0.trans ((h4.mono (by omega)).trans (h3.mono (by omega))))
  clear hl hat hb0 hv0 hs hL hlen hok hf
  unfold ShownPost
  go_enter Tryd.func8, Tryd.ntmps8
  go_wp2_with fail
  refine HC.out.mono ?_
  rintro e w1 ⟨rfl, hB1⟩
  have HS1 := Lib.hid (HS.out w1 hB1)
  have HB1 := Lib.hid (HB.out w1 · hB1)
  clear hB1
  go_wp2_with fail
  refine HS1.out.mono ?_
  rintro e w2 ⟨rfl, hb2⟩
  have HZ := Lib.hid (HB1.out w2 hb2)
  clear hb2
  go_wp2_with fail
  go_ret
  exact ⟨rfl, HZ.out⟩
end Go.Proofs.YtmhjcnnocllniaaDoor.sh
