/-
  Of every text lex.Words gives the document's words with their places, or the document's kind and place of the first fault (of texts of more than 70,000 bytes the law says nothing). Condition: errors.errorType and the table of signs, lex.signs, hold at the call's begin what the program's text lays; the card ties both to the text. The walk.
-/
import Derived.Test.YtjjihijkkljbnaaDoorRows
import Derived.Test.YtjjihijkkljbnaaDoorLxLaid2
import Derived.Test.YtjjihijkkljbnaaDoorLxRWords
import Derived.Test.YtjjihijkkljbnaaDoorLxSameR
import Derived.Test.YtjjihijkkljbnaaDoorFtFinite
import Derived.Deep.RegionHeld3
import Derived.WalkKit
import Derived.ProofKit
import Derived.OpenShut
import Derived.Below
import Derived.Lib.Hide
import Derived.Outline
import Derived.Deep.LoopGhost
namespace Go.Proofs.YtjjihijkkljbnaaDoor.lexWords
open Go.ChangeShapes Go.WideShapes Go.ChangeAt Go.RowKit
set_option linter.unusedVariables false

/-- faults.Kind of what New makes, in any later world -/
theorem kind_later (g k c d : Nat) (hk1 : 1 ≤ k) (hk2 : k < 12) (w w' : World) (h : lx.Has w g 45 (lx.atCells k c d)) (hb : Below w.heap.size w w') :
    Calls Tryd.prog 14 #[.iface 35 (.pointer (some ⟨g, 0, none⟩))] w' fun ev w2 => ev = .returned (.int .i64 (k : Int)) ∧ Below w'.heap.size w' w2 :=
  ft.kind_at g c d _ false k hk1 hk2 w' (h.below hb h.lt)
theorem where_later (g k c d : Nat) (w w' : World) (hT : lx.Laid2 w') (h : lx.Has w g 45 (lx.atCells k c d)) (hb : Below w.heap.size w w') :
    Calls Tryd.prog 15 #[.iface 35 (.pointer (some ⟨g, 0, none⟩))] w' fun ev w2 => ev = .returned (.agg #[.int .i64 c, .int .i64 d]) ∧ Below w'.heap.size w' w2 :=
  ft.where_at g c d k _ w' hT.2 (h.below hb h.lt)
/-- what the last statement's region keeps -/
theorem keep3 {w3 w' w'' : World} {m : Nat} {c d : Int} (h0 : w'.cell? ⟨m, 0, none⟩ = some (.int .i64 c)) (h1 : w'.cell? ⟨m, 1, none⟩ = some (.int .i64 d)) (h2 : Below w3.heap.size w3 w') (hb : Below w'.heap.size w' w'') :
    w''.cell? ⟨m, 0, none⟩ = some (.int .i64 c) ∧ w''.cell? ⟨m, 1, none⟩ = some (.int .i64 d) ∧ Below w3.heap.size w3 w'' :=
  ⟨(hb.cell (p := ⟨m, 0, none⟩) (World.block_lt_of_cell? w' _ h0)).trans h0, (hb.cell (p := ⟨m, 1, none⟩) (World.block_lt_of_cell? w' _ h1)).trans h1, h2.trans (hb.mono h2.size)⟩
set_option maxRecDepth 10000 in
set_option maxHeartbeats 8000000 in

theorem walk (a0 : ByteArray) (w0 : a0.size ≤ maxLen) (w : World) (hT : lx.Laid2 w) :
    Calls Tryd.prog 7 #[.string a0] w fun e w' => e = .returned (.bool true) ∧ Below w.heap.size w w' := by
  have hma : a0.size ≤ maxLen := w0
  unfold maxLen at hma
  have HT := Lib.hid hT
  clear hT w0
  by_cases hla : 70000 < a0.size
  · go_enter Tryd.func7, Tryd.ntmps7
    go_wp2_with fail
    refine (lx.awake_any _ HT.out.1).mono ?_
    rintro e w2 ⟨rfl, hb2⟩
    have HB2 := Lib.hid hb2
    clear hb2
    go_wp2_with fail
    refine (lx.awake_any _ (HT.out.1.below HB2.out)).mono ?_
    rintro e w3 ⟨rfl, hb3⟩
    have HB3 := Lib.hid hb3
    clear hb3
    go_wp2_with fail
    go_ret
    exact ⟨rfl, HB2.out.trans (HB3.out.mono HB2.out.size)⟩
  have hq := lx.words_any a0
  have hr := fun W => lx.rwords_any a0 W (by omega)
  cases hX : lx.wordsR a0.data.toList with
  | bad k c d =>
    have hk := lx.words_kinds _ _ _ _ hX
    have hk1 : 1 ≤ k := by omega
    have hk2 : k < 12 := by omega
    rw [hX] at hq hr
    have HQ := Lib.hid hq
    have HR := Lib.hid hr
    clear hq hr hX hk
    go_enter Tryd.func7, Tryd.ntmps7
    go_wp2_with fail
    refine (lx.awake_any _ HT.out.1).mono ?_
    rintro e w2 ⟨rfl, hb2⟩
    have HL2 := Lib.hid hb2
    clear hb2
    go_wp2_with fail
    refine (HQ.out _ (HT.out.1.below HL2.out)).mono ?_
    rintro e w3 ⟨⟨g1, rfl, hg1, hh1⟩, hb3⟩
    have HH1 := Lib.hid hh1
    have HL3 := Lib.hid (HL2.out.trans (hb3.mono HL2.out.size))
    clear hh1 hb3
    go_wp2_with fail
    refine (HR.out _).mono ?_
    rintro e w4 ⟨hrp, hb4⟩
    obtain rfl : e = .returned (.tuple #[.slice none 0 0, .int .i64 k, .agg #[.int .i64 c, .int .i64 d]]) := hrp
    have HB4 := Lib.hid hb4
    clear hb4
    go_wp2_with fail
    have hWA : Below w3.heap.size w3 (w4.alloc (.cells #[.int .i64 c, .int .i64 d] 30)) := HB4.out.alloc HB4.out.size _
    have hnew := lx.Has.new w4 30 #[.int .i64 c, .int .i64 d]
    have e0 := hnew.cell 0
    have e1 := hnew.cell 1
    simp only [List.getElem?_toArray, List.getElem?_cons_zero, List.getElem?_cons_succ] at e0 e1
    have HT3 := Lib.hid (HT.out.below HL3.out)
    clear hnew
    generalize (w4.alloc (.cells #[.int .i64 c, .int .i64 d] 30)) = WA at *
    generalize w4.heap.size = mm at *
    go_region_held3 (fun w' => w'.cell? ⟨mm, 0, none⟩ = some (.int .i64 c) ∧ w'.cell? ⟨mm, 1, none⟩ = some (.int .i64 d) ∧ Below w3.heap.size w3 w')
      (first | exact ⟨e0, e1, hWA.drew⟩ | (go_keep; done) | (go_split_ands; first | exact keep3 (by assumption) (by assumption) (by assumption) hb5 | exact (keep3 (by assumption) (by assumption) (by assumption) hb5).2.2))
      (first | (go_at_call 25; refine (lx.same_none _).mono ?_; rintro e w5 ⟨rfl, hb5⟩) | (go_at_call 14; go_split_ands; refine (kind_later g1 k c d hk1 hk2 w3 _ HH1.out (by assumption)).mono ?_; rintro e w5 ⟨rfl, hb5⟩) | (go_at_call 15; go_split_ands; refine (where_later g1 k c d w3 _ (HT3.out.below (by assumption)) HH1.out (by assumption)).mono ?_; rintro e w5 ⟨rfl, hb5⟩))
    go_split_ands
    have hfin : Below w3.heap.size w3 w5 := by assumption
    have HFIN := Lib.hid (HL3.out.trans (hfin.mono HL3.out.size))
    clear hfin
    go_wp2_with fail
    go_ret
    exact ⟨rfl, HFIN.out⟩
  | ok ts =>
    have hcnt := lx.words_count _ _ hX
    obtain ⟨hn1, hn2⟩ := hcnt
    rw [hX] at hq hr
    have HQ := Lib.hid hq
    have HR := Lib.hid hr
    clear hq hr hX
    go_enter Tryd.func7, Tryd.ntmps7
    go_wp2_with fail
    refine (lx.awake_any _ HT.out.1).mono ?_
    rintro e w2 ⟨rfl, hb2⟩
    have HL2 := Lib.hid hb2
    clear hb2
    go_wp2_with fail
    refine (HQ.out _ (HT.out.1.below HL2.out)).mono ?_
    rintro e w3 ⟨⟨v1, rfl, hown1⟩, hb3⟩
    have hown1 : w3.ownsRow w2.heap.size 58 5 v1 ts.length (ts.flatMap lx.tokCells) := hown1
    obtain ⟨g1, cap1, hv1, hg1, hlt1⟩ := World.ownsRow.form hown1 (by omega)
    subst hv1
    have HO1 := Lib.hid hown1
    have HL3 := Lib.hid (HL2.out.trans (hb3.mono HL2.out.size))
    clear hown1 hb3
    go_wp2_with fail
    refine (HR.out _).mono ?_
    rintro e w4 ⟨⟨v2, rfl, hown2⟩, hb4⟩
    have hown2 : w4.ownsRow w3.heap.size 81 5 v2 ts.length (ts.flatMap lx.tokCells) := hown2
    obtain ⟨g2, cap2, hv2, hg2, hlt2⟩ := World.ownsRow.form hown2 (by omega)
    subst hv2
    have HO1 := Lib.hid (lx.owns_below2 HO1.out hb4)
    have HO2 := Lib.hid hown2
    have HL4 := Lib.hid (HL3.out.trans (hb4.mono HL3.out.size))
    clear hown2 hb4
    go_wp2_with fail
    have hWA : Below w4.heap.size w4 (w4.alloc (.cells #[.int .i64 0, .int .i64 0] 30)) := (Below.refl _ _).alloc (Nat.le_refl _) _
    have hnew := lx.Has.new w4 30 #[.int .i64 0, .int .i64 0]
    have e0 := hnew.cell 0
    have e1 := hnew.cell 1
    simp only [List.getElem?_toArray, List.getElem?_cons_zero, List.getElem?_cons_succ] at e0 e1
    have HSAME := Lib.hid fun (W : World) (hb : Below w4.heap.size w4 W) => lx.same_rows ts _ _ g1 g2 cap1 cap2 W (by omega) (lx.owns_below2 HO1.out hb) (lx.owns_below2 HO2.out hb)
    clear hnew
    generalize (w4.alloc (.cells #[.int .i64 0, .int .i64 0] 30)) = WA at *
    obtain ⟨mm, hmm⟩ : ∃ mm, mm = w4.heap.size := ⟨_, rfl⟩
    rw [← hmm] at e0 e1 ⊢
    clear hmm
    go_region_held3 (fun w' => w'.cell? ⟨mm, 0, none⟩ = some (.int .i64 0) ∧ w'.cell? ⟨mm, 1, none⟩ = some (.int .i64 0) ∧ Below w4.heap.size w4 w')
      (first | exact ⟨e0, e1, hWA.drew⟩ | (go_keep; done) | (go_split_ands; first | exact keep3 (by assumption) (by assumption) (by assumption) hb5 | exact (keep3 (by assumption) (by assumption) (by assumption) hb5).2.2))
      (first | (go_at_call 25; go_split_ands; refine (HSAME.out _ (by assumption)).mono ?_; rintro e w5 ⟨rfl, hb5⟩) | (go_at_call 14; refine (lx.kind_nil _).mono ?_; rintro e w5 ⟨rfl, rfl⟩) | (go_at_call 15; refine (lx.where_nil _).mono ?_; rintro e w5 ⟨rfl, hb5⟩))
    go_split_ands
    have hfin : Below w4.heap.size w4 w5 := by assumption
    have HFIN := Lib.hid (HL4.out.trans (hfin.mono HL4.out.size))
    clear hfin
    go_wp2_with fail
    go_ret
    exact ⟨rfl, HFIN.out⟩
end Go.Proofs.YtjjihijkkljbnaaDoor.lexWords
