/-
  Words of package lex: its walk.
-/
import Derived.Test.YtjjihijkkljbnaaDoorLxNew
namespace Go.Proofs.YtjjihijkkljbnaaDoor.lx
open Go.ChangeShapes Go.WideShapes Go.ChangeAt Go.RowKit
set_option linter.unusedVariables false

theorem words_long (s : ByteArray) (w : World) (hz : 65536 < s.size) :
    Calls Tryd.prog 23 #[.string s] w fun e w' => WordsPost (wordsR s.data.toList) w.heap.size e w' ∧ Below w.heap.size w w' := by
  have hX : wordsR s.data.toList = .bad 3 1 1 := by unfold wordsR; rw [if_pos (by simpa using hz)]
  rw [hX]
  clear hX
  have hn := fun W => new_any 3 1 1 W (by decide) (by decide) (by decide) (by decide)
  have HN := Lib.hid hn
  clear hn
  go_enter Tryd.func23, Tryd.ntmps23
  go_wp2_with (go_at_call 18; refine (HN.out _).mono ?_; rintro e w1 ⟨g, rfl, hg, hh, hb⟩)
  go_ret2
  refine ⟨⟨g, rfl, ?_, hh⟩, (((Below.refl _ _).alloc (Nat.le_refl _) _).trans (hb.mono (by simp)))⟩
  simp at hg
  omega

set_option maxHeartbeats 1000000 in
set_option maxRecDepth 100000 in
theorem words_short (s : ByteArray) (w : World) (hz : s.size ≤ 65536) (hT : Laid w) :
    Calls Tryd.prog 23 #[.string s] w fun e w' => WordsPost (wordsR s.data.toList) w.heap.size e w' ∧ Below w.heap.size w w' := by
  have hX : wordsR s.data.toList = lex (s.size + 1) s.data.toList (1, 1) := by
    unfold wordsR
    rw [if_neg (by simp; omega)]
    simp
  rw [hX]
  clear hX
  obtain ⟨i0, hi, hi0, hi1, hi2⟩ := info_parts tok_info
  go_enter Tryd.func23, Tryd.ntmps23
  go_wp2
  go_loopg [5] (s.size + 1) (fun m v wr => ∃ (r : ByteArray) (q : Nat × Nat) (ts : List Tok), r.size < m ∧ r.size ≤ s.size ∧ Hid (RelW w s r q ts v wr))
  case atStart =>
    exact ⟨s, (1, 1), [], by omega, Nat.le_refl _, Lib.hid ⟨Has.new _ _ _, World.ownsRow_nil _ _ _ _, (Below.refl _ _).alloc (Nat.le_refl _) _, ⟨s.size + 1, by omega, by cases lex (s.size + 1) s.data.toList (1, 1) <;> rfl⟩, by simp; omega, by simp; omega, by simp, by simp⟩⟩
  case round =>
    obtain ⟨r, q, ts, hrm, hrs, HR⟩ := hrel
    have hh := HR.out.has
    have c0 := hh.cell 0
    have c1 := hh.cell 1
    have c2 := hh.cell 2
    have f0 := hh.free 0
    have f1 := hh.free 1
    have f2 := hh.free 2
    simp only [List.getElem?_toArray, List.getElem?_cons_zero, List.getElem?_cons_succ] at c0 c1 c2
    have hg := gap_any r
    have hgl := gapB_le false r.data.toList
    have hrl : r.data.toList.length = r.size := by simp
    rw [hrl] at hgl
    have HG := Lib.hid hg
    clear hg hh hrl
    go_wp2_with fail
    refine (HG.out _ (Nat.le_trans hrs (Nat.le_trans hz (by decide)))).mono ?_
    rintro e w' ⟨rfl, rfl⟩
    go_wp2_with fail
    refine (skip_any w.heap.size r q (gapB false r.data.toList) _ HR.out.has hgl (by omega) (by have := HR.out.line; omega) (by have := HR.out.col; omega)).mono ?_
    rintro e w1 ⟨rfl, hs1, hs2⟩
    have hx := HR.out.gap hs1 hs2
    clear hs1 hs2 c0 c1 c2 f0 f1 f2
    have hxs : (r.extract (gapB false r.data.toList) r.size).size ≤ r.size := by simp
    generalize (r.extract (gapB false r.data.toList) r.size) = r1 at *
    generalize (adv (r.data.toList.take (gapB false r.data.toList)) q) = q1 at *
    have HX := Lib.hid hx
    have hh := hx.has
    have c0 := hh.cell 0
    have c1 := hh.cell 1
    have c2 := hh.cell 2
    have f0 := hh.free 0
    have f1 := hh.free 1
    have f2 := hh.free 2
    simp only [List.getElem?_toArray, List.getElem?_cons_zero, List.getElem?_cons_succ] at c0 c1 c2
    have hb1 := hx.below
    have hz1 := hx.has.lt
    have HB1 := Lib.hid hb1
    clear hh hx hb1 HR HG hgl
    have hf := first_any r1 w1
    have hr70 : r1.size ≤ 70000 := by omega
    cases hr : first r1.data.toList with
    | bad kk =>
      have hk := first_bad _ _ hr
      have hkb : ((kk : Int) != 0) = true := by rw [bne_iff_ne]; omega
      simp only [hr, fstV] at hf
      have HF := Lib.hid hf
      have HRR := Lib.hid hr
      have hq1 : q1.1 ≤ 4000000000 := by have := HX.out.line; omega
      have hq2 : q1.2 ≤ 4000000000 := by have := HX.out.col; omega
      have hn := fun W => new_any kk q1.1 q1.2 W hk.1 hk.2 hq1 hq2
      have HN := Lib.hid hn
      clear hf hr hk hq1 hq2 hn
      go_wp2_with fail
      refine (HF.out hr70 (hT.below HB1.out)).mono ?_
      rintro e w2 ⟨rfl, hb2⟩
      have hh := HX.out.has.below hb2 hz1
      clear c0 c1 c2 f0 f1 f2
      have c1 := hh.cell 1
      have c2 := hh.cell 2
      simp only [List.getElem?_toArray, List.getElem?_cons_zero, List.getElem?_cons_succ] at c1 c2
      have hz2 := hh.lt
      have HB2 := Lib.hid hb2
      clear hh hb2
      go_wp2_with fail
      refine (HN.out _).mono ?_
      rintro e w3 ⟨g, rfl, hg, hh, hb3⟩
      have HH := Lib.hid hh
      have HB3 := Lib.hid hb3
      simp at hg
      clear hh hb3
      go_wp2
      go_ret2
      obtain ⟨n, hn1, hn2⟩ := HX.out.next
      have he : lex (s.size + 1) s.data.toList (1, 1) = .bad kk q1.1 q1.2 := by
        rw [hn2]
        unfold lexAt
        rw [HRR.out]
        rfl
      rw [he]
      exact ⟨⟨g, rfl, by omega, HH.out⟩, (HB1.out.trans ((HB2.out.mono (Nat.le_of_lt hz1)).trans ((Below.refl _ _).alloc (Nat.le_of_lt hz2) _))).trans (HB3.out.mono (by simp; omega))⟩
    | ok kk tx nn =>
      simp only [hr, fstV] at hf
      have HF := Lib.hid hf
      have HRR := Lib.hid hr
      clear hf hr
      go_wp2_with fail
      refine (HF.out hr70 (hT.below HB1.out)).mono ?_
      rintro e w2 ⟨rfl, hb2⟩
      have hh := HX.out.has.below hb2 hz1
      clear c0 c1 c2 f0 f1 f2
      have c1 := hh.cell 1
      have c2 := hh.cell 2
      simp only [List.getElem?_toArray, List.getElem?_cons_zero, List.getElem?_cons_succ] at c1 c2
      have hz2 := hh.lt
      have HB2 := Lib.hid hb2
      clear hh hb2
      have own2 := HX.out.own.kept (grown_below none HB2.out) (Classical.em _)
      have hlen := HX.out.len
      have HO := Lib.hid own2
      clear own2
      go_wp2_with (at_builtin; refine wpList_append_own _ rfl _ _ 47 rfl w.heap.size 58 i0 _ 5 48 Tryd.underlying47 hi hi0 hi1 hi2 rfl (by decide) _ _ _ rfl ((HO.out.alloc _).alloc _) ⟨w2.heap.size + 1, 0, none⟩ 1 1 [.int .u8 kk, .string ⟨tx.toArray⟩, .int .i32 nn, .int .i64 q1.1, .int .i64 q1.2] rfl rfl ?c1 ?c2 ?c3 ?c4 ?c5 ?_)
      case c1 =>
        intro j u hj
        match j, hj with
        | 0, hj => simp at hj; subst hj; simp [Addr.add]
        | 1, hj => simp at hj; subst hj; simp [Addr.add]
        | 2, hj => simp at hj; subst hj; simp [Addr.add]
        | 3, hj => simp at hj; subst hj; simp [Addr.add]
        | 4, hj => simp at hj; subst hj; simp [Addr.add]
        | j + 5, hj => simp at hj
      case c2 => intro u hu; simp at hu; rcases hu with rfl | rfl | rfl | rfl | rfl <;> rfl
      case c3 => unfold maxLen; omega
      case c4 => omega
      case c5 => simp; omega
      · intro v' w3 hown3 hgr3 _
        have hx2 := HX.out.has.below HB2.out hz1
        have hh3 := ((hx2.alloc _).alloc _).grown hgr3 (fun e => (hx2.own_ne HO.out (by decide)) e.symm)
        have ht3 := ((Has.new w2 58 #[.int .u8 kk, .string ⟨tx.toArray⟩, .int .i32 nn, .int .i64 q1.1, .int .i64 q1.2]).alloc _).grown hgr3 (fun e => by have := (HO.out.lt _ e.symm).2; omega)
        have hb3 := (((HB1.out.trans (HB2.out.mono (Nat.le_of_lt hz1))).alloc (Nat.le_of_lt hz2) _).alloc (by simp; omega) _).grown hgr3 (by simp; omega) (fun k hk => (HO.out.lt k hk).1)
        have c0 := ht3.cell 0
        have c1 := ht3.cell 1
        simp only [List.getElem?_toArray, List.getElem?_cons_zero, List.getElem?_cons_succ] at c0 c1
        have HH3 := Lib.hid hh3
        have HB3 := Lib.hid hb3
        have HO3 := Lib.hid hown3
        clear hx2 ht3 hh3 hb3 hown3 hgr3
        by_cases hk : kk = 0
        · have hkb : ((kk : Int) == 0) = true := by rw [hk]; rfl
          have HK := Lib.hid hk
          clear hk
          go_wp2
          go_ret2
          obtain ⟨n, hn1, hn2⟩ := HX.out.next
          have he : lex (s.size + 1) s.data.toList (1, 1) = .ok (ts ++ [⟨kk, tx, nn, q1.1, q1.2⟩]) := by
            rw [hn2]
            unfold lexAt
            rw [HRR.out]
            simp only
            rw [if_pos HK.out]
            rfl
          rw [he]
          refine ⟨⟨v', rfl, ?_⟩, HB3.out⟩
          have hl : (ts ++ [(⟨kk, tx, nn, q1.1, q1.2⟩ : Tok)]).length = ts.length + 1 := by simp
          have hfl : (ts ++ [(⟨kk, tx, nn, q1.1, q1.2⟩ : Tok)]).flatMap tokCells = ts.flatMap tokCells ++ [.int .u8 kk, .string ⟨tx.toArray⟩, .int .i32 nn, .int .i64 q1.1, .int .i64 q1.2] := by
            rw [List.flatMap_append]; rfl
          rw [hl, hfl]
          exact HO3.out
        · have hkb : ((kk : Int) == 0) = false := by rw [beq_eq_false_iff_ne]; omega
          have HK := Lib.hid hk
          clear hk
          have hfo := first_ok _ _ _ _ HRR.out
          have htl : tx.length ≤ r1.size := by have := hfo.2.1; simpa using this
          have hp1 : q1.1 ≤ 200000 := by have := HX.out.line; omega
          have hp2 : q1.2 ≤ 200000 := by have := HX.out.col; omega
          clear hfo
          go_wp2_with fail
          refine (skip_any w.heap.size r1 q1 tx.length _ HH3.out htl hr70 hp1 hp2).mono ?_
          rintro e w4 ⟨rfl, hs1, hs2⟩
          have hst := HX.out.step HRR.out HK.out HO3.out HB3.out HH3.out hs1 hs2
          have HST := Lib.hid hst
          clear hst hs1 hs2
          go_wp2
          go_roundg ((r1.extract tx.length r1.size).size + 1)
          case measure => have := HST.out.2; omega
          case rel => exact ⟨_, _, _, Nat.lt_succ_self _, by have := HST.out.2; omega, Lib.hid HST.out.1⟩

theorem words_any (s : ByteArray) (w : World) (hT : Laid w) :
    Calls Tryd.prog 23 #[.string s] w fun e w' => WordsPost (wordsR s.data.toList) w.heap.size e w' ∧ Below w.heap.size w w' := by
  rcases Nat.lt_or_ge 65536 s.size with h | h
  · exact words_long s w h
  · exact words_short s w h hT
end Go.Proofs.YtjjihijkkljbnaaDoor.lx
