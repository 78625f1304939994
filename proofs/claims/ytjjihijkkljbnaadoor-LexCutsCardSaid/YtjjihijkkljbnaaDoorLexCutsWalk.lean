/-
  A text that is cut behind a line's end has the words of both its parts, or what is wrong with the first part, at its place, or the kind of what is wrong with the second (of texts of more than 5,000 bytes the law says nothing). Condition: errors.errorType and the table of signs, lex.signs, hold at the call's begin what the program's text lays; the card ties both to the text. The walk.
-/
import Derived.Test.YtjjihijkkljbnaaDoorRows
import Derived.Test.YtjjihijkkljbnaaDoorLxLaid2
import Derived.Test.YtjjihijkkljbnaaDoorLxCut
import Derived.Test.YtjjihijkkljbnaaDoorFtFinite
import Derived.Test.YtjjihijkkljbnaaDoorLxSame
import Derived.Test.YtjjihijkkljbnaaDoorLxTok
import Derived.WalkKit
import Derived.ProofKit
import Derived.OpenShut
import Derived.Below
import Derived.Lib.Hide
import Derived.Outline
import Derived.Deep.LoopGhost
namespace Go.Proofs.YtjjihijkkljbnaaDoor.lexCuts
open Go.ChangeShapes Go.WideShapes Go.ChangeAt Go.RowKit
set_option linter.unusedVariables false

/-- the three texts' words -/
theorem cut_words (a b : ByteArray) (ha : a.size ≤ 5000) (hb : b.size ≤ 5000) :
    (∃ k c d, lx.wordsR (a ++ ⟨#[10]⟩).data.toList = .bad k c d ∧ lx.wordsR ((a ++ ⟨#[10]⟩) ++ b).data.toList = .bad k c d) ∨
    (∃ ts e, lx.wordsR (a ++ ⟨#[10]⟩).data.toList = .ok (ts ++ [e]) ∧
      ((∃ k c d c' d', lx.wordsR b.data.toList = .bad k c d ∧ lx.wordsR ((a ++ ⟨#[10]⟩) ++ b).data.toList = .bad k c' d') ∨
       ∃ us vs, lx.wordsR b.data.toList = .ok us ∧ lx.wordsR ((a ++ ⟨#[10]⟩) ++ b).data.toList = .ok (ts ++ vs) ∧ us.map lx.strip' = vs.map lx.strip')) := by
  have e1 : (a ++ ⟨#[10]⟩ : ByteArray).data.toList = a.data.toList ++ [10] := by simp
  have e2 : ((a ++ ⟨#[10]⟩) ++ b : ByteArray).data.toList = a.data.toList ++ 10 :: b.data.toList := by simp
  have z : ∀ x : ByteArray, x.data.toList.length = x.size := fun x => by simp
  have za := z a
  have zb := z b
  have h := lx.cut a.data.toList b.data.toList
  have l1 : (a.data.toList ++ [(10 : UInt8)]).length ≤ 65536 := by rw [List.length_append]; simp only [List.length_cons, List.length_nil]; omega
  have l2 : (a.data.toList ++ (10 : UInt8) :: b.data.toList).length ≤ 65536 := by rw [List.length_append]; simp only [List.length_cons]; omega
  rw [e1, e2]
  unfold lx.wordsR
  rw [if_neg (by omega), if_neg (by omega), if_neg (by omega)]
  exact h
/-- whatever the words of a text are -/
theorem words_some (a : ByteArray) (w : World) (hT : lx.Laid w) : Calls Tryd.prog 23 #[.string a] w fun e w' => (∃ v1 v2, e = .returned (.tuple #[v1, v2])) ∧ Below w.heap.size w w' :=
  (lx.words_any a w hT).mono fun e w' h => by
    obtain ⟨h1, h2⟩ := h
    cases hX : lx.wordsR a.data.toList with
    | bad k c d => rw [hX] at h1; obtain ⟨g, he, _⟩ := h1; exact ⟨⟨_, _, he⟩, h2⟩
    | ok l => rw [hX] at h1; obtain ⟨v, he, _⟩ := h1; exact ⟨⟨_, _, he⟩, h2⟩

/-- faults.Kind of what New makes, in any later world -/
theorem kind_later (g k c d : Nat) (hk1 : 1 ≤ k) (hk2 : k < 12) (w w' : World) (h : lx.Has w g 45 (lx.atCells k c d)) (hb : Below w.heap.size w w') :
    Calls Tryd.prog 14 #[.iface 35 (.pointer (some ⟨g, 0, none⟩))] w' fun ev w2 => ev = .returned (.int .i64 (k : Int)) ∧ Below w'.heap.size w' w2 :=
  ft.kind_at g c d _ false k hk1 hk2 w' (h.below hb h.lt)
theorem where_later (g k c d : Nat) (w w' : World) (hT : lx.Laid2 w') (h : lx.Has w g 45 (lx.atCells k c d)) (hb : Below w.heap.size w w') :
    Calls Tryd.prog 15 #[.iface 35 (.pointer (some ⟨g, 0, none⟩))] w' fun ev w2 => ev = .returned (.agg #[.int .i64 c, .int .i64 d]) ∧ Below w'.heap.size w' w2 :=
  ft.where_at g c d k _ w' hT.2 (h.below hb h.lt)

/-- the tokens of a cut text: of the first part, then of the second -/
theorem at_first (ts vs : List lx.Tok) (i : Nat) (hi : i < ts.length) (h : i < (ts ++ vs).length) : (ts ++ vs)[i] = ts[i] := List.getElem_append_left hi
theorem at_end (ts : List lx.Tok) (en : lx.Tok) (i : Nat) (hi : i < ts.length) (h : i < (ts ++ [en]).length) : (ts ++ [en])[i] = ts[i] := List.getElem_append_left hi
theorem at_second (ts us vs : List lx.Tok) (hst : us.map lx.strip' = vs.map lx.strip') (i j : Nat) (hij : i = ts.length + j) (hj : j < us.length) (h : i < (ts ++ vs).length) :
    us[j].kind = (ts ++ vs)[i].kind ∧ us[j].text = (ts ++ vs)[i].text ∧ us[j].num = (ts ++ vs)[i].num := by
  subst hij
  have hv : vs.length = us.length := by have := congrArg List.length hst; simpa using this.symm
  have e : (ts ++ vs)[ts.length + j] = vs[j]'(by omega) := by
    rw [List.getElem_append_right (by omega)]
    simp
  have h1 : (us.map lx.strip')[j]? = (vs.map lx.strip')[j]? := by rw [hst]
  rw [e]
  have h2 : lx.strip' us[j] = lx.strip' (vs[j]'(by omega)) := by
    rw [List.getElem?_map, List.getElem?_map, List.getElem?_eq_getElem hj, List.getElem?_eq_getElem (by omega)] at h1
    simpa using h1
  simp only [lx.strip', Prod.mk.injEq] at h2
  exact h2
set_option maxRecDepth 10000 in
set_option maxHeartbeats 8000000 in

theorem walk (a0 : ByteArray) (a1 : ByteArray) (w0 : a0.size ≤ maxLen) (w1 : a1.size ≤ maxLen) (w : World) (hT : lx.Laid2 w) :
    Calls Tryd.prog 10 #[.string a0, .string a1] w fun e w' => e = .returned (.bool true) ∧ Below w.heap.size w w' := by
  have hma : a0.size ≤ maxLen := w0
  have hmb : a1.size ≤ maxLen := w1
  unfold maxLen at hma hmb
  have HT := Lib.hid hT
  clear hT w0 w1
  by_cases hla : 5000 < a0.size
  · go_enter Tryd.func10, Tryd.ntmps10
    go_wp2_with fail
    refine (lx.awake_any _ HT.out.1).mono ?_
    rintro e w2 ⟨rfl, hb2⟩
    have HB2 := Lib.hid hb2
    clear hb2
    go_wp2_with fail
    refine (lx.awake_any _ (HT.out.1.below HB2.out)).mono ?_
    rintro e w3 ⟨rfl, hb3⟩
    have HB3 := Lib.hid hb3
    clear hb3
    go_wp2_with fail
    go_ret
    exact ⟨rfl, HB2.out.trans (HB3.out.mono HB2.out.size)⟩
  by_cases hlb : 5000 < a1.size
  · go_enter Tryd.func10, Tryd.ntmps10
    go_wp2_with fail
    refine (lx.awake_any _ HT.out.1).mono ?_
    rintro e w2 ⟨rfl, hb2⟩
    have HB2 := Lib.hid hb2
    clear hb2
    go_wp2_with fail
    refine (lx.awake_any _ (HT.out.1.below HB2.out)).mono ?_
    rintro e w3 ⟨rfl, hb3⟩
    have HB3 := Lib.hid hb3
    clear hb3
    go_wp2_with fail
    go_ret
    exact ⟨rfl, HB2.out.trans (HB3.out.mono HB2.out.size)⟩
  have hq1 := lx.words_any (a0 ++ ⟨#[10]⟩)
  have hq2 := lx.words_any a1
  have hq3 := lx.words_any ((a0 ++ ⟨#[10]⟩) ++ a1)
  have hcut := cut_words a0 a1 (by omega) (by omega)
  rcases hcut with ⟨k, c, d, h1, h3⟩ | ⟨ts, en, h1, ⟨k, c, d, c', d', h2, h3⟩ | ⟨us, vs, h2, h3, hst⟩⟩
  · -- the first part is wrong
    have hk := lx.words_kinds _ _ _ _ h1
    have hk1 : 1 ≤ k := by omega
    have hk2 : k < 12 := by omega
    rw [h1] at hq1
    rw [h3] at hq3
    have HQ1 := Lib.hid hq1
    have HQ3 := Lib.hid hq3
    clear hq1 hq3 h1 h3 hk
    have HQ2 := Lib.hid fun wz hz => words_some a1 wz hz
    clear hq2
    go_enter Tryd.func10, Tryd.ntmps10
    go_wp2_with fail
    refine (lx.awake_any _ HT.out.1).mono ?_
    rintro e w2 ⟨rfl, hb2⟩
    have HL2 := Lib.hid hb2
    clear hb2
    go_wp2_with fail
    refine (HQ1.out _ (HT.out.1.below HL2.out)).mono ?_
    rintro e w3 ⟨⟨g1, rfl, hg1, hh1⟩, hb3⟩
    have HH1 := Lib.hid hh1
    have HL3 := Lib.hid (HL2.out.trans (hb3.mono HL2.out.size))
    clear hh1 hb3
    go_wp2_with fail
    refine (HQ2.out _ (HT.out.1.below HL3.out)).mono ?_
    rintro e w4 ⟨⟨v1, v2, rfl⟩, hb4⟩
    have HB4 := Lib.hid hb4
    have HL4 := Lib.hid (HL3.out.trans (hb4.mono HL3.out.size))
    clear hb4
    go_wp2_with fail
    refine (HQ3.out _ (HT.out.1.below HL4.out)).mono ?_
    rintro e w5 ⟨⟨g3, rfl, hg3, hh3⟩, hb5⟩
    have HH3 := Lib.hid hh3
    have HB5 := Lib.hid (HB4.out.trans (hb5.mono HB4.out.size))
    have HL5 := Lib.hid (HL4.out.trans (hb5.mono HL4.out.size))
    clear hh3 hb5 HB4
    go_wp2_with fail
    refine (kind_later g3 k c d hk1 hk2 _ _ HH3.out (Below.refl _ _)).mono ?_
    rintro e w6 ⟨rfl, hb6⟩
    have HB6 := Lib.hid hb6
    clear hb6
    go_wp2_with fail
    refine (kind_later g1 k c d hk1 hk2 _ _ HH1.out (HB5.out.trans (HB6.out.mono HB5.out.size))).mono ?_
    rintro e w7 ⟨rfl, hb7⟩
    have HB7 := Lib.hid (HB6.out.trans (hb7.mono HB6.out.size))
    clear hb7 HB6
    have HT7 := Lib.hid (HT.out.below (HL5.out.trans (HB7.out.mono HL5.out.size)))
    go_wp2_with fail
    refine (where_later g3 k c d _ _ HT7.out HH3.out HB7.out).mono ?_
    rintro e w8 ⟨rfl, hb8⟩
    have HB8 := Lib.hid (HB7.out.trans (hb8.mono HB7.out.size))
    have HT8 := Lib.hid (HT7.out.below hb8)
    clear hb8 HB7
    go_wp2_with fail
    refine (where_later g1 k c d _ _ HT8.out HH1.out (HB5.out.trans (HB8.out.mono HB5.out.size))).mono ?_
    rintro e w9 ⟨rfl, hb9⟩
    have HL9 := Lib.hid ((HL5.out.trans (HB8.out.mono HL5.out.size)).trans (hb9.mono (Nat.le_trans HL5.out.size HB8.out.size)))
    clear hb9
    go_wp2_with fail
    go_ret
    exact ⟨rfl, HL9.out⟩
  · -- the second part is wrong
    have hk := lx.words_kinds _ _ _ _ h2
    have hk1 : 1 ≤ k := by omega
    have hk2 : k < 12 := by omega
    rw [h1] at hq1
    rw [h2] at hq2
    rw [h3] at hq3
    have HQ1 := Lib.hid hq1
    have HQ2 := Lib.hid hq2
    have HQ3 := Lib.hid hq3
    clear hq1 hq2 hq3 h1 h2 h3 hk
    go_enter Tryd.func10, Tryd.ntmps10
    go_wp2_with fail
    refine (lx.awake_any _ HT.out.1).mono ?_
    rintro e w2 ⟨rfl, hb2⟩
    have HL2 := Lib.hid hb2
    clear hb2
    go_wp2_with fail
    refine (HQ1.out _ (HT.out.1.below HL2.out)).mono ?_
    rintro e w3 ⟨⟨v1, rfl, hown1⟩, hb3⟩
    have HL3 := Lib.hid (HL2.out.trans (hb3.mono HL2.out.size))
    clear hown1 hb3
    go_wp2_with fail
    refine (HQ2.out _ (HT.out.1.below HL3.out)).mono ?_
    rintro e w4 ⟨⟨g1, rfl, hg1, hh1⟩, hb4⟩
    have HH1 := Lib.hid hh1
    have HL4 := Lib.hid (HL3.out.trans (hb4.mono HL3.out.size))
    clear hh1 hb4
    go_wp2_with fail
    refine (HQ3.out _ (HT.out.1.below HL4.out)).mono ?_
    rintro e w5 ⟨⟨g3, rfl, hg3, hh3⟩, hb5⟩
    have HH3 := Lib.hid hh3
    have HB5 := Lib.hid hb5
    have HL5 := Lib.hid (HL4.out.trans (hb5.mono HL4.out.size))
    clear hh3 hb5
    go_wp2_with fail
    refine (kind_later g3 k c' d' hk1 hk2 _ _ HH3.out (Below.refl _ _)).mono ?_
    rintro e w6 ⟨rfl, hb6⟩
    have HB6 := Lib.hid hb6
    clear hb6
    go_wp2_with fail
    refine (kind_later g1 k c d hk1 hk2 _ _ HH1.out (HB5.out.trans (HB6.out.mono HB5.out.size))).mono ?_
    rintro e w7 ⟨rfl, hb7⟩
    have HL7 := Lib.hid ((HL5.out.trans (HB6.out.mono HL5.out.size)).trans (hb7.mono (Nat.le_trans HL5.out.size HB6.out.size)))
    clear hb7
    go_wp2_with fail
    go_ret
    exact ⟨rfl, HL7.out⟩
  · -- both are right
    rw [h1] at hq1
    rw [h2] at hq2
    rw [h3] at hq3
    have hvl : vs.length = us.length := by have := congrArg List.length hst; simpa using this.symm
    have HQ1 := Lib.hid hq1
    have HQ2 := Lib.hid hq2
    have HQ3 := Lib.hid hq3
    have HST := Lib.hid hst
    have HVL := Lib.hid hvl
    have hbt1 := (lx.words_count _ _ h1).2
    obtain ⟨hpos, hbt2⟩ := lx.words_count _ _ h2
    have hl1 : (ts ++ [en]).length = ts.length + 1 := by simp
    have hl3 : (ts ++ vs).length = ts.length + us.length := by simp [hvl]
    rw [hl1] at hbt1
    have HL1 := Lib.hid hl1
    have HLL3 := Lib.hid hl3
    clear hq1 hq2 hq3 h1 h2 h3 hst hvl hl1 hl3
    go_enter Tryd.func10, Tryd.ntmps10
    go_wp2_with fail
    refine (lx.awake_any _ HT.out.1).mono ?_
    rintro e w2 ⟨rfl, hb2⟩
    have HL2 := Lib.hid hb2
    clear hb2
    go_wp2_with fail
    refine (HQ1.out _ (HT.out.1.below HL2.out)).mono ?_
    rintro e w3 ⟨⟨v1, rfl, hown1⟩, hb3⟩
    have hown1 : w3.ownsRow w2.heap.size 58 5 v1 (ts ++ [en]).length ((ts ++ [en]).flatMap lx.tokCells) := hown1
    obtain ⟨g1, cap1, hv1, hg1, hlt1⟩ := World.ownsRow.form hown1 (by rw [HL1.out]; omega)
    rw [HL1.out] at hv1
    subst hv1
    have HO1 := Lib.hid hown1
    have HL3 := Lib.hid (HL2.out.trans (hb3.mono HL2.out.size))
    clear hown1 hb3
    go_wp2_with fail
    refine (HQ2.out _ (HT.out.1.below HL3.out)).mono ?_
    rintro e w4 ⟨⟨v2, rfl, hown2⟩, hb4⟩
    have hown2 : w4.ownsRow w3.heap.size 58 5 v2 us.length (us.flatMap lx.tokCells) := hown2
    obtain ⟨g2, cap2, hv2, hg2, hlt2⟩ := World.ownsRow.form hown2 hpos
    subst hv2
    have HO2 := Lib.hid hown2
    have HB4 := Lib.hid hb4
    have HL4 := Lib.hid (HL3.out.trans (hb4.mono HL3.out.size))
    clear hown2 hb4
    go_wp2_with fail
    refine (HQ3.out _ (HT.out.1.below HL4.out)).mono ?_
    rintro e w5 ⟨⟨v3, rfl, hown3⟩, hb5⟩
    have hown3 : w5.ownsRow w4.heap.size 58 5 v3 (ts ++ vs).length ((ts ++ vs).flatMap lx.tokCells) := hown3
    obtain ⟨g3, cap3, hv3, hg3, hlt3⟩ := World.ownsRow.form hown3 (by rw [HLL3.out]; omega)
    rw [HLL3.out] at hv3
    subst hv3
    have HO3 := Lib.hid hown3
    have HB5 := Lib.hid (HB4.out.trans (hb5.mono HB4.out.size))
    have HB52 := Lib.hid hb5
    have HL5 := Lib.hid (HL4.out.trans (hb5.mono HL4.out.size))
    clear hown3 hb5 HB4
    have hne : (((ts.length : Int) + (us.length : Int)) != ((ts.length : Int) + 1 + (us.length : Int) - 1)) = false := by
      rw [bne_eq_false_iff_eq]; omega
    go_wp2_with fail
    go_loopw [11, 12] (fun iv pv wr => ∃ i : Nat, i ≤ ts.length + us.length ∧ iv = .int .i64 i ∧ Hid (Below w5.heap.size w5 wr)) (fun iv _ _ => ts.length + us.length - (intOf iv).toNat)
    case atStart => exact ⟨0, by omega, rfl, Lib.hid (Below.refl _ _)⟩
    case round =>
      obtain ⟨i, hi, rfl, HI⟩ := hrel
      by_cases hlt : i < ts.length + us.length
      · by_cases hfst : i < ts.length
        · have hz52 := HB52.out.size
          have hz5 := HB5.out.size
          have hB5 := HB5.out.trans (HI.out.mono HB5.out.size)
          obtain ⟨hg1w, a0c, a1c, a2c, a3c, a4c⟩ := lx.tok_later HO1.out hB5 i (by rw [HL1.out]; omega)
          rw [at_end ts en i hfst] at a0c a1c a2c a3c a4c
          have hO3 := HO3.out
          rw [show ts.length + us.length = (ts ++ vs).length from HLL3.out.symm] at hO3
          obtain ⟨hg3w, b0c, b1c, b2c, b3c, b4c⟩ := lx.tok_later HO3.out HI.out i (by rw [HLL3.out]; omega)
          rw [at_first ts vs i hfst] at b0c b1c b2c b3c b4c
          generalize (⟨ts[i].text.toArray⟩ : ByteArray) = tx at *
          generalize (ts[i].kind : Int) = kx at *
          generalize ts[i].num = nx at *
          generalize (ts[i].line : Int) = lx1 at *
          generalize (ts[i].col : Int) = cx1 at *
          have hgw1 : g1 < wr.heap.size := World.block_lt_of_cell? wr _ a0c
          have hgw3 : g3 < wr.heap.size := World.block_lt_of_cell? wr _ b0c
          have hi0 : (0 : Int) ≤ (i : Int) := Int.natCast_nonneg _
          clear hB5 hO3 hg1w hg3w hz52 hz5
          go_wp2_with fail
          have hba : Below wr.heap.size wr (wr.alloc (.cells #[.int .u8 kx, .string tx, .int .i32 nx, .int .i64 lx1, .int .i64 cx1] 58)) := (Below.refl _ _).alloc (Nat.le_refl _) _
          have hnew := lx.Has.new wr 58 #[.int .u8 kx, .string tx, .int .i32 nx, .int .i64 lx1, .int .i64 cx1]
          have HBA := Lib.hid hba
          have HNW := Lib.hid hnew
          clear hba hnew
          generalize (wr.alloc (.cells #[.int .u8 kx, .string tx, .int .i32 nx, .int .i64 lx1, .int .i64 cx1] 58)) = WA at *
          have e0 : WA.cell? ⟨wr.heap.size, 0, none⟩ = some (.int .u8 kx) := HNW.out.cell 0
          have e1 : WA.cell? ⟨wr.heap.size, 1, none⟩ = some (.string tx) := HNW.out.cell 1
          have e2 : WA.cell? ⟨wr.heap.size, 2, none⟩ = some (.int .i32 nx) := HNW.out.cell 2
          have e3 : WA.cell? ⟨wr.heap.size, 3, none⟩ = some (.int .i64 lx1) := HNW.out.cell 3
          have e4 : WA.cell? ⟨wr.heap.size, 4, none⟩ = some (.int .i64 cx1) := HNW.out.cell 4
          have hm := HNW.out.lt
          have hg3A : g3 < WA.heap.size := Nat.lt_of_lt_of_le hgw3 HBA.out.size
          have k3 : ∀ o, WA.cell? ⟨g3, o, none⟩ = wr.cell? ⟨g3, o, none⟩ := fun o => HBA.out.cell (p := ⟨g3, o, none⟩) hgw3
          rw [← k3] at b0c b1c b2c b3c b4c
          have HWA : Hid (Below w5.heap.size w5 WA) := Lib.hid (HI.out.trans (HBA.out.mono HI.out.size))
          clear k3 HBA HNW a0c a1c a2c a3c a4c
          generalize wr.heap.size = mm at *
          go_region_held3 (fun w' => w'.cell? ⟨g3, i * 5, none⟩ = some (.int .u8 kx) ∧ w'.cell? ⟨g3, i * 5 + 1, none⟩ = some (.string tx) ∧ w'.cell? ⟨g3, i * 5 + 2, none⟩ = some (.int .i32 nx) ∧ w'.cell? ⟨g3, i * 5 + 3, none⟩ = some (.int .i64 lx1) ∧ w'.cell? ⟨g3, i * 5 + 4, none⟩ = some (.int .i64 cx1) ∧ w'.cell? ⟨mm, 0, none⟩ = some (.int .u8 kx) ∧ w'.cell? ⟨mm, 1, none⟩ = some (.string tx) ∧ w'.cell? ⟨mm, 2, none⟩ = some (.int .i32 nx) ∧ w'.cell? ⟨mm, 3, none⟩ = some (.int .i64 lx1) ∧ w'.cell? ⟨mm, 4, none⟩ = some (.int .i64 cx1))
            (first | go_keep | (go_split_ands; refine ⟨?_, ?_, ?_, ?_, ?_, ?_, ?_, ?_, ?_, ?_⟩ <;> first | (rw [hb7.cell (p := ⟨g3, _, none⟩) (by simpa using hg3A)]; assumption) | (rw [hb7.cell (p := ⟨mm, _, none⟩) (by simpa using hm)]; assumption)))
            (first | (go_at_call 26; refine (lx.same_any kx nx lx1 cx1 lx1 cx1 tx _).mono ?_; rintro e w7 ⟨rfl, hb7⟩))
          have hI7 : Below w5.heap.size w5 w7 := HWA.out.drew.trans (hb7.mono (by simpa using HWA.out.size))
          have HI7 := Lib.hid hI7
          clear hI7 hb7
          go_wp2
          go_roundw
          case rel =>
            exact ⟨i + 1, by omega, by go_num, HI7⟩
          case measure => simp [intOf]; omega
        · obtain ⟨j, hj0⟩ : ∃ j, i = ts.length + j := ⟨i - ts.length, by omega⟩
          have hj : j < us.length := by omega
          have hB5 := HB52.out.trans (HI.out.mono HB52.out.size)
          obtain ⟨hg2w, a0c, a1c, a2c, a3c, a4c⟩ := lx.tok_later HO2.out hB5 j hj
          have hij : i < (ts ++ vs).length := by rw [HLL3.out]; omega
          have hO3 := HO3.out
          rw [show ts.length + us.length = (ts ++ vs).length from HLL3.out.symm] at hO3
          obtain ⟨hg3w, b0c, b1c, b2c, b3c, b4c⟩ := lx.tok_later HO3.out HI.out i hij
          obtain ⟨q1, q2, q3⟩ := at_second ts us vs HST.out i j hj0 hj hij
          rw [← q1] at b0c
          rw [← q2] at b1c
          rw [← q3] at b2c
          generalize (⟨us[j].text.toArray⟩ : ByteArray) = tx at *
          generalize (us[j].kind : Int) = kx at *
          generalize us[j].num = nx at *
          generalize (us[j].line : Int) = lx1 at *
          generalize (us[j].col : Int) = cx1 at *
          generalize (((ts ++ vs)[i]'hij).line : Int) = lx3 at *
          generalize (((ts ++ vs)[i]'hij).col : Int) = cx3 at *
          have hgw2 : g2 < wr.heap.size := World.block_lt_of_cell? wr _ a0c
          have hgw3 : g3 < wr.heap.size := World.block_lt_of_cell? wr _ b0c
          have hi0 : (0 : Int) ≤ (i : Int) := Int.natCast_nonneg _
          have hix : ((i : Int) - ((ts.length : Int) + 1) + 1).toNat = j := by omega
          have hjl : (i : Int) - ((ts.length : Int) + 1) + 1 < (us.length : Int) := by omega
          clear hB5 hO3 hg2w hg3w q1 q2 q3 hj0
          go_wp2_with fail
          have hba : Below wr.heap.size wr (wr.alloc (.cells #[.int .u8 kx, .string tx, .int .i32 nx, .int .i64 lx1, .int .i64 cx1] 58)) := (Below.refl _ _).alloc (Nat.le_refl _) _
          have hnew := lx.Has.new wr 58 #[.int .u8 kx, .string tx, .int .i32 nx, .int .i64 lx1, .int .i64 cx1]
          have HBA := Lib.hid hba
          have HNW := Lib.hid hnew
          clear hba hnew
          generalize (wr.alloc (.cells #[.int .u8 kx, .string tx, .int .i32 nx, .int .i64 lx1, .int .i64 cx1] 58)) = WA at *
          have e0 : WA.cell? ⟨wr.heap.size, 0, none⟩ = some (.int .u8 kx) := HNW.out.cell 0
          have e1 : WA.cell? ⟨wr.heap.size, 1, none⟩ = some (.string tx) := HNW.out.cell 1
          have e2 : WA.cell? ⟨wr.heap.size, 2, none⟩ = some (.int .i32 nx) := HNW.out.cell 2
          have e3 : WA.cell? ⟨wr.heap.size, 3, none⟩ = some (.int .i64 lx1) := HNW.out.cell 3
          have e4 : WA.cell? ⟨wr.heap.size, 4, none⟩ = some (.int .i64 cx1) := HNW.out.cell 4
          have hm := HNW.out.lt
          have hg3A : g3 < WA.heap.size := Nat.lt_of_lt_of_le hgw3 HBA.out.size
          have k3 : ∀ o, WA.cell? ⟨g3, o, none⟩ = wr.cell? ⟨g3, o, none⟩ := fun o => HBA.out.cell (p := ⟨g3, o, none⟩) hgw3
          rw [← k3] at b0c b1c b2c b3c b4c
          have HWA : Hid (Below w5.heap.size w5 WA) := Lib.hid (HI.out.trans (HBA.out.mono HI.out.size))
          clear k3 HBA HNW a0c a1c a2c a3c a4c hix
          generalize wr.heap.size = mm at *
          go_region_held3 (fun w' => w'.cell? ⟨g3, i * 5, none⟩ = some (.int .u8 kx) ∧ w'.cell? ⟨g3, i * 5 + 1, none⟩ = some (.string tx) ∧ w'.cell? ⟨g3, i * 5 + 2, none⟩ = some (.int .i32 nx) ∧ w'.cell? ⟨g3, i * 5 + 3, none⟩ = some (.int .i64 lx3) ∧ w'.cell? ⟨g3, i * 5 + 4, none⟩ = some (.int .i64 cx3) ∧ w'.cell? ⟨mm, 0, none⟩ = some (.int .u8 kx) ∧ w'.cell? ⟨mm, 1, none⟩ = some (.string tx) ∧ w'.cell? ⟨mm, 2, none⟩ = some (.int .i32 nx) ∧ w'.cell? ⟨mm, 3, none⟩ = some (.int .i64 lx1) ∧ w'.cell? ⟨mm, 4, none⟩ = some (.int .i64 cx1))
            (first | go_keep | (go_split_ands; refine ⟨?_, ?_, ?_, ?_, ?_, ?_, ?_, ?_, ?_, ?_⟩ <;> first | (rw [hb7.cell (p := ⟨g3, _, none⟩) (by simpa using hg3A)]; assumption) | (rw [hb7.cell (p := ⟨mm, _, none⟩) (by simpa using hm)]; assumption)))
            (first | (go_at_call 26; refine (lx.same_any kx nx lx3 cx3 lx1 cx1 tx _).mono ?_; rintro e w7 ⟨rfl, hb7⟩))
          have hI7 : Below w5.heap.size w5 w7 := HWA.out.drew.trans (hb7.mono (by simpa using HWA.out.size))
          have HI7 := Lib.hid hI7
          clear hI7 hb7
          go_wp2
          go_roundw
          case rel =>
            exact ⟨i + 1, by omega, by go_num, HI7⟩
          case measure => simp [intOf]; omega
      · obtain rfl : i = ts.length + us.length := by omega
        go_wp2_with fail
        go_ret
        exact ⟨rfl, HL5.out.trans (HI.out.mono HL5.out.size)⟩
end Go.Proofs.YtjjihijkkljbnaaDoor.lexCuts
