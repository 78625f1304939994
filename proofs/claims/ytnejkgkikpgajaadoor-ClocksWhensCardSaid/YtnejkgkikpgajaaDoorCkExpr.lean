/-
  Is an expression valid on a clock: expr, at every expression.
-/
import Derived.Test.YtnejkgkikpgajaaDoorCkMerge
namespace Go.Proofs.YtnejkgkikpgajaaDoor.ck
open Go.ChangeShapes Go.WideShapes Go.ChangeAt Go.RowKit
open tr Go.Sort
set_option linter.unusedVariables false

set_option maxRecDepth 100000 in
set_option maxHeartbeats 4000000 in
theorem expr_var (w0 w : World) (b o g m k op : Nat) (n : Int) (nm : ByteArray) (nms : List ByteArray) (kids : List Ex) (l c : Int) (L : List En) (d : Int) (er : Bool) (a : Option Addr) (ck : List Smp) (e4 : ((k : Int) == 4) = decide (k = 4)) (e5 : ((k : Int) == 5) = decide (k = 5)) (hk : k = 4 ∨ k = 5)
    (hl : LaidAt w0 b o (.mk k op n nm nms kids l c)) (hb : Below w0.heap.size w0 w) (hle : w0.heap.size ≤ g) (hS : St w g m L d er) (hck : CkL w a ck) :
    Calls Tryd.prog 68 #[.pointer (some ⟨g, 0, none⟩), .pointer (some ⟨b, o, none⟩), .pointer a] w (CkPost w g m L d (er || !onB L d nm ck)) := by
  obtain ⟨ka0, kc0, hkl0, hk0, d0, d3, d5, d6, d7⟩ := laid_cell hl
  have hb0 := World.block_lt_of_cell? w0 _ d5
  have hbg : b ≠ g := by have : b < w0.heap.size := hb0; omega
  have c0 := (hb.cell (p := ⟨b, o, none⟩) hb0).trans d0
  have c3 := (hb.cell (p := ⟨b, o + 3, none⟩) hb0).trans d3
  have c6 := (hb.cell (p := ⟨b, o + 6, none⟩) hb0).trans d6
  have c7 := (hb.cell (p := ⟨b, o + 7, none⟩) hb0).trans d7
  have HSG : Hid (∀ W, w.grownBy W (some g) → W.cell? ⟨b, o + 3, none⟩ = some (.string nm) ∧ W.cell? ⟨b, o + 6, none⟩ = some (.int .i64 l) ∧ W.cell? ⟨b, o + 7, none⟩ = some (.int .i64 c)) := Lib.hid (fun W hW => ⟨cell_grown hW hbg c3, cell_grown hW hbg c6, cell_grown hW hbg c7⟩)
  have HON : Hid (∀ W, Below w.heap.size w W → Calls Tryd.prog 67 #[.pointer (some ⟨g, 0, none⟩), .string nm, .pointer a] W (OnPost W (onB L d nm ck))) := Lib.hid (fun W hW => on_any W g m L d er nm a ck (hS.below hW) (hck.below hW))
  have HMM : Hid (∀ W, Below w.heap.size w W → Calls Tryd.prog 47 #[.pointer (some ⟨g, 0, none⟩), .bool (onB L d nm ck), .agg #[.int .i64 l, .int .i64 c]] W (CkPost W g m L d (er || !onB L d nm ck))) := Lib.hid (fun W hW => must_any W g m L d er _ l c (hS.below hW))
  have HSD := Lib.hid (HSG.out w.drew (grown_below _ (Below.refl _ w).drew))
  clear hb0 c3 c6 c7 d0 d3 d5 d6 d7 hS hck hb hl hk0 hkl0
  unfold CkPost OnPost at *
  rcases hk with rfl | rfl
  · simp only [decide_true] at e4
    go_enter Tryd.func68, Tryd.ntmps68
    go_wp2_with fail
    first | go_region_held3 (fun w' => w'.cell? ⟨b, o + 3, none⟩ = some (.string nm) ∧ w'.cell? ⟨b, o + 6, none⟩ = some (.int .i64 l) ∧ w'.cell? ⟨b, o + 7, none⟩ = some (.int .i64 c)) (first | with_reducible exact HS3.out | with_reducible exact HS2.out | with_reducible exact HSD.out | fail) (first
      | (go_at_call 67; refine (HON.out _ (Below.refl _ w).drew).mono ?_; rintro e w2 ⟨rfl, hb2⟩; have HB2 : Hid (Below w.heap.size w w2) := Lib.hid ((Below.refl _ w).drew.trans hb2); have HS2 := Lib.hid (HSG.out w2 (grown_below _ HB2.out)); clear hb2)
      | (go_at_call 47; refine (HMM.out w2 HB2.out).mono ?_; rintro e w3 ⟨rfl, hs3, hg3⟩; have HT3 := Lib.hid hs3; have HG3 := Lib.hid (grown_trans (grown_below (some g) HB2.out) hg3); have HS3 := Lib.hid (HSG.out w3 HG3.out); clear hs3 hg3)
      | fail) | fail
    all_goals
      go_wp2_with fail
      go_returns
      exact ⟨rfl, HT3.out, HG3.out⟩
  · simp only [decide_true] at e5
    have e4' : (((5 : Nat) : Int) == 4) = false := by decide
    go_enter Tryd.func68, Tryd.ntmps68
    go_wp2_with fail
    first | go_region_held3 (fun w' => w'.cell? ⟨b, o + 3, none⟩ = some (.string nm) ∧ w'.cell? ⟨b, o + 6, none⟩ = some (.int .i64 l) ∧ w'.cell? ⟨b, o + 7, none⟩ = some (.int .i64 c)) (first | with_reducible exact HS3.out | with_reducible exact HS2.out | with_reducible exact HSD.out | fail) (first
      | (go_at_call 67; refine (HON.out _ (Below.refl _ w).drew).mono ?_; rintro e w2 ⟨rfl, hb2⟩; have HB2 : Hid (Below w.heap.size w w2) := Lib.hid ((Below.refl _ w).drew.trans hb2); have HS2 := Lib.hid (HSG.out w2 (grown_below _ HB2.out)); clear hb2)
      | (go_at_call 47; refine (HMM.out w2 HB2.out).mono ?_; rintro e w3 ⟨rfl, hs3, hg3⟩; have HT3 := Lib.hid hs3; have HG3 := Lib.hid (grown_trans (grown_below (some g) HB2.out) hg3); have HS3 := Lib.hid (HSG.out w3 HG3.out); clear hs3 hg3)
      | fail) | fail
    all_goals
      go_wp2_with fail
      go_returns
      exact ⟨rfl, HT3.out, HG3.out⟩

set_option maxRecDepth 100000 in
set_option maxHeartbeats 4000000 in
theorem expr_any (N : Nat) : ∀ (x : Ex), sz x ≤ N → ∀ (w0 : World), ExprDoes w0 x := by
  induction N with
  | zero => intro x h; have := sz_pos x; omega
  | succ N ih =>
    intro x hN w0 w b o g m L d er a ck hb hl hle hS hck
    obtain ⟨k, op, n, nm, nms, kids, l, c⟩ := x
    unfold sz at hN
    have hD : ∀ i (hi : i < kids.length), ExprDoes w0 kids[i] := fun i hi => ih kids[i] (by have := sz_kid kids i hi; omega) w0
    have e4 : ((k : Int) == 4) = decide (k = 4) := by rw [Bool.eq_iff_iff, beq_iff_eq, decide_eq_true_iff]; omega
    have e5 : ((k : Int) == 5) = decide (k = 5) := by rw [Bool.eq_iff_iff, beq_iff_eq, decide_eq_true_iff]; omega
    have e12 : ((k : Int) == 12) = decide (k = 12) := by rw [Bool.eq_iff_iff, beq_iff_eq, decide_eq_true_iff]; omega
    have e13 : ((k : Int) == 13) = decide (k = 13) := by rw [Bool.eq_iff_iff, beq_iff_eq, decide_eq_true_iff]; omega
    by_cases hk : k = 4 ∨ k = 5
    · have := expr_var w0 w b o g m k op n nm nms kids l c L d er a ck e4 e5 hk hl hb hle hS hck
      rw [show okE L d ck (.mk k op n nm nms kids l c) = onB L d nm ck by cases ck <;> rw [okE, if_pos hk]]
      exact this
    obtain ⟨ka, kc, hkl, hk0, d0, d3, d5, d6, d7⟩ := laid_cell hl
    have hb0 := World.block_lt_of_cell? w0 _ d5
    have c0 := (hb.cell (p := ⟨b, o, none⟩) hb0).trans d0
    have c5 := (hb.cell (p := ⟨b, o + 5, none⟩) hb0).trans d5
    rw [decide_eq_false (by omega)] at e4 e5
    by_cases h12 : k = 12
    · have HX : Hid (Calls Tryd.prog 87 #[.pointer (some ⟨g, 0, none⟩), .pointer (some ⟨b, o, none⟩), .pointer a] w (CkPost w g m L d (er || !okE L d ck (.mk k op n nm nms kids l c)))) := by
        subst h12
        rcases ck with _ | ⟨p, r⟩
        · rw [CkL] at hck
          subst hck
          have := when_nil w b o g m 12 op n nm nms kids l c L d er (hl.below hb) hS
          rw [okE, if_neg (by decide), if_pos rfl, Bool.not_false, Bool.or_true]
          exact Lib.hid this
        · exact Lib.hid (when_some w0 w b o g m op n nm nms kids l c L d er a p r hD hl hb hle hS hck)
      rw [decide_eq_true h12] at e12
      clear ih hN hD e13 hk hk0 hkl hb0 d0 d3 d5 d6 d7 c5 hl hb hS hck h12
      unfold CkPost at *
      go_enter Tryd.func68, Tryd.ntmps68
      go_wp2_with fail
      refine HX.out.mono ?_
      rintro e w2 ⟨rfl, h2, h3⟩
      have H2 := Lib.hid h2
      have H3 := Lib.hid h3
      clear h2 h3
      go_wp2_with fail
      go_returns
      exact ⟨rfl, H2.out, H3.out⟩
    rw [decide_eq_false h12] at e12
    by_cases h13 : k = 13
    · have HX : Hid (Calls Tryd.prog 88 #[.pointer (some ⟨g, 0, none⟩), .pointer (some ⟨b, o, none⟩), .pointer a] w (CkPost w g m L d (er || !okE L d ck (.mk k op n nm nms kids l c)))) := by
        subst h13
        exact Lib.hid (merge_of w0 w b o g m op n nm nms kids l c L d er a ck hD hl hb hle hS hck)
      rw [decide_eq_true h13] at e13
      clear ih hN hD hk hk0 hkl hb0 d0 d3 d5 d6 d7 c5 hl hb hS hck h12 h13
      unfold CkPost at *
      go_enter Tryd.func68, Tryd.ntmps68
      go_wp2_with fail
      refine HX.out.mono ?_
      rintro e w2 ⟨rfl, h2, h3⟩
      have H2 := Lib.hid h2
      have H3 := Lib.hid h3
      clear h2 h3
      go_wp2_with fail
      go_returns
      exact ⟨rfl, H2.out, H3.out⟩
    · rw [decide_eq_false h13] at e13
      have HX := Lib.hid (exprs_of w0 w ka kc g m kids L d er a ck hk0 hkl hD hb hle hS hck)
      rw [show okE L d ck (.mk k op n nm nms kids l c) = okK L d ck kids by cases ck <;> rw [okE, if_neg hk, if_neg h12, if_neg h13]]
      clear ih hN hD hk hk0 hkl hb0 d0 d3 d5 d6 d7 hl hb hS hck h12 h13
      unfold CkPost at *
      go_enter Tryd.func68, Tryd.ntmps68
      go_wp2_with fail
      refine HX.out.mono ?_
      rintro e w2 ⟨rfl, h2, h3⟩
      have H2 := Lib.hid h2
      have H3 := Lib.hid h3
      clear h2 h3
      go_wp2_with fail
      go_returns
      exact ⟨rfl, H2.out, H3.out⟩
end Go.Proofs.YtnejkgkikpgajaaDoor.ck
