/-
  The document's answer for the words of a text: its walk.
-/
import Derived.Test.YtjjihijkkljbnaaDoorLxRWDig
import Derived.Test.YtjjihijkkljbnaaDoorLxRWLet
import Derived.Test.YtjjihijkkljbnaaDoorLxRWSig
namespace Go.Proofs.YtjjihijkkljbnaaDoor.lx
open Go.ChangeShapes Go.WideShapes Go.ChangeAt Go.RowKit
set_option linter.unusedVariables false
set_option maxRecDepth 100000 in
set_option maxHeartbeats 60000000 in
theorem rwords_any (s : ByteArray) (w : World) (hz : s.size ≤ 70000) :
    Calls Tryd.prog 24 #[.string s] w fun e w' => RefPost (wordsR s.data.toList) w.heap.size e w' ∧ Below w.heap.size w w' := by
  by_cases hbig : 65536 < s.size
  · have hX : wordsR s.data.toList = .bad 3 1 1 := by unfold wordsR; rw [if_pos (by simpa using hbig)]
    rw [hX]
    clear hX
    go_enter Tryd.func24, Tryd.ntmps24
    go_wp2_with fail
    refine bodyPost_ret (v := .tuple #[.slice none 0 0, .int .i64 3, .agg #[.int .i64 1, .int .i64 1]]) (by simp [results, Tryd.results24, go_sem]) rfl ⟨rfl, ?_⟩
    exact (Below.refl _ _).alloc (Nat.le_refl _) _
  have hX : wordsR s.data.toList = lex (s.size + 1) s.data.toList (1, 1) := by
    unfold wordsR
    rw [if_neg (by simp; omega)]
    simp
  rw [hX]
  clear hX
  obtain ⟨i0, hii, hi0, hi1, hi2⟩ := info_parts rtok_info
  go_enter Tryd.func24, Tryd.ntmps24
  go_wp2_with fail
  go_loopw [5, 6, 7, 8, 9, 12] (fun ov lv cv iv p9 p12 wr => ∃ (i : Nat) (q : Nat × Nat) (ts : List Tok), i ≤ s.size ∧ iv = .int .i64 i ∧ lv = .int .i64 q.1 ∧ cv = .int .i64 q.2 ∧ Hid (RelR w s i q ts ov wr)) (fun _ _ _ iv _ _ _ => s.size - (intOf iv).toNat)
  case atStart => exact ⟨0, (1, 1), [], by omega, rfl, rfl, rfl, Lib.hid ⟨Has.new _ _ _, World.ownsRow_nil _ _ _ _, (Below.refl _ _).alloc (Nat.le_refl _) _, ⟨s.size + 1, by omega, (app_nil _).symm⟩, by simp; omega, by simp; omega, by simp⟩⟩
  case round =>
    obtain ⟨i, q, ts, hi, rfl, rfl, rfl, HR⟩ := hrel
    obtain ⟨ln, cl⟩ := q
    simp only at *
    have hl1 := HR.out.line
    have hl2 := HR.out.col
    simp only at hl1 hl2
    by_cases hlt : i < s.size
    · have hd := drop_at s i hlt
      have hc256 : s[i].toNat < 256 := s[i].toNat_lt
      have hw2 := below2 wr (.cells #[.int .i64 (ln : Int), .int .i64 (cl : Int)] 30) (.cells #[.int .u8 0, .string ByteArray.empty, .int .i32 0, .int .i64 (ln : Int), .int .i64 (cl : Int)] 81)
      by_cases hb : blankB s[i] = true
      · have hnx := fun n => (congrArg (fun l => lex (n + 1) l (ln, cl)) hd).trans (lex_blank n s[i] (s.data.toList.drop (i + 1)) (ln, cl) hb)
        by_cases h10 : s[i].toNat = 10
        · simp only [if_pos h10] at hnx
          have HRN := Lib.hid (HR.out.go hw2 hnx (by omega) (by omega) (by simp only; omega) (by simp only; omega))
          have hbt : ((s[i].toNat : Int) == 10) = true := by rw [beq_iff_eq]; omega
          clear hnx hw2 hd hb h10 HR
          go_wp2_with fail
          go_roundw
          case rel => exact ⟨i + 1, (ln + 1, 1), ts, by omega, by go_num, by go_num, rfl, HRN⟩
          case measure => simp [intOf]; omega
        · simp only [if_neg h10] at hnx
          have HRN := Lib.hid (HR.out.go hw2 hnx (by omega) (by omega) (by simp only; omega) (by simp only; omega))
          have hbt : ((s[i].toNat : Int) == 10) = false := by rw [beq_eq_false_iff_ne]; omega
          have hbc : ((s[i].toNat : Int) == 32) = true ∨ (((s[i].toNat : Int) == 32) = false ∧ ((s[i].toNat : Int) == 9) = true) := by
            have : s[i].toNat = 32 ∨ s[i].toNat = 9 := by
              simp only [blankB, Bool.or_eq_true, decide_eq_true_eq] at hb
              omega
            rcases this with e | e
            · exact .inl (by rw [e]; rfl)
            · exact .inr ⟨by rw [e]; rfl, by rw [e]; rfl⟩
          clear hnx hw2 hd hb h10 HR
          rcases hbc with hb2 | ⟨hb2, hb3⟩
          all_goals
            go_wp2_with fail
            go_roundw
            case rel => exact ⟨i + 1, (ln, cl + 1), ts, by omega, by go_num, rfl, by go_num, HRN⟩
            case measure => simp [intOf]; omega
      · have hb' : ((s[i].toNat : Int) == 10) = false ∧ ((s[i].toNat : Int) == 32) = false ∧ ((s[i].toNat : Int) == 9) = false := by
          simp [blankB] at hb
          refine ⟨?_, ?_, ?_⟩ <;> (rw [beq_eq_false_iff_ne]; omega)
        obtain ⟨b1, b2, b3⟩ := hb'
        have hbf : blankB s[i] = false := by simpa using hb
        by_cases hm : ∃ h1 : i + 1 < s.size, s[i].toNat = 45 ∧ s[i + 1].toNat = 45
        · obtain ⟨h1, m1, m2⟩ := hm
          have hd1 := drop_at s (i + 1) h1
          have hnx := fun n => (congrArg (fun l => lex (n + 1) l (ln, cl)) (hd.trans (congrArg _ hd1))).trans (lex_remark n s[i] s[i + 1] (s.data.toList.drop (i + 1 + 1)) (ln, cl) m1 m2)
          rw [← hd1, ← hd] at hnx
          have hle := run_le lineB (s.data.toList.drop i)
          have hr1 : 1 ≤ run lineB (s.data.toList.drop i) := by
            rw [hd]
            have : lineB s[i] = true := by simp [lineB]; omega
            simp [run, this]
          rw [List.length_drop, show s.data.toList.length = s.size by simp] at hle
          simp only [List.drop_drop] at hnx
          obtain ⟨m, hm⟩ : ∃ m, m = run lineB (s.data.toList.drop i) := ⟨_, rfl⟩
          rw [← hm] at hnx hle hr1
          have HRN := Lib.hid (HR.out.go hw2 hnx (by omega) (by omega) (by simp only; omega) (by simp only; omega))
          have HM := Lib.hid hm
          have e1 : ((s[i].toNat : Int) == 45) = true := by rw [beq_iff_eq]; omega
          have e2 : ((s[i + 1].toNat : Int) == 45) = true := by rw [beq_iff_eq]; omega
          clear hnx hw2 hd hd1 hb hbf HR m1 m2 hm
          go_wp2_with fail
          obtain ⟨wo, hwo⟩ : ∃ wo : World, wo = wr := ⟨_, rfl⟩
          subst hwo
          go_loop [7, 8] (fun cv iv => ∃ j : Nat, j ≤ m ∧ iv = .int .i64 ((i + j : Nat) : Int) ∧ cv = .int .i64 ((cl + j : Nat) : Int)) (fun _ iv => s.size - (intOf iv).toNat)
          case atStart => exact ⟨0, by omega, rfl, rfl⟩
          case round =>
            obtain ⟨j, hj, rfl, rfl⟩ := hrel
            by_cases hin : i + j < s.size
            · have hs2 := run_step lineB s i j (by rw [← HM.out]; exact hj) hin
              rw [← HM.out] at hs2
              cases hq : lineB s[i + j]
              · have hjm : j = m := hs2.2 hq
                have hb10 : ((s[i + j].toNat : Int) != 10) = false := by
                  rw [bne_eq_false_iff_eq]
                  simp [lineB] at hq
                  omega
                have HJ := Lib.hid hjm
                clear hs2 hq hjm
                go_wp2_with fail
                go_roundw
                case rel => exact ⟨i + j, (ln, cl + j), ts, by omega, rfl, rfl, rfl, by rw [HJ.out]; exact HRN⟩
                case measure => have := HJ.out; simp [intOf]; omega
              · have hjm := hs2.1 hq
                have hb10 : ((s[i + j].toNat : Int) != 10) = true := by
                  rw [bne_iff_ne]
                  simp [lineB] at hq
                  omega
                clear hs2 hq
                go_wp2_with fail
                go_round
                case rel => exact ⟨j + 1, hjm, by go_num, by go_num⟩
                case measure => simp [intOf]; omega
            · have hjm : j = m := by
                have := run_stop lineB s i j (by rw [← HM.out]; exact hj) hin
                rw [← HM.out] at this
                exact this
              have HJ := Lib.hid hjm
              clear hjm
              go_wp2_with fail
              go_roundw
              case rel => exact ⟨i + j, (ln, cl + j), ts, by omega, rfl, rfl, rfl, by rw [HJ.out]; exact HRN⟩
              case measure => have := HJ.out; simp [intOf]; omega
        · by_cases hdig : digB s[i] = true
          · refine round_dig s w hz hbig (by assumption) (Lib.hid ?hret_dig) (Lib.hid ?hn_dig) hi HR hl1 hl2 hlt hb hm (Lib.hid hdig)
            · exact fun _ _ h => h
            · intros
              rename_i hr hme
              exact ⟨⟨_, _, _, _, _, _, _, _, _, _, _, _, _, _, _, _, _, _, _, _, _, _, _, _, _, _, _, _, _, _, _, _, _, _, _, _, _, _, _, _, _, _, _, _, _, _, _, _, _, _, _, _, _, _, _, _, _, _, _, _, _, _, _, _, _, _, _, _, _, _, _, _, _, _, _, _, _, _, _, _, _, _, _, _, _, _, _, _, _, _, _, _, _, _, _, _, _, _, _, _, _, _, _, _, _, _, _, _, _, _, _, _, _, _, _, _, _, _, _, _, _, _, _, _, _, _, _, _, _, _, _, _, _, _, _, _, _, _, _, _, _, _, _, _, _, _, _, _, _, _, _, _, _, _, _, _, _, _, _, _, _, _, _, _, _, _, _, _, _, _, _, _, _, _, _, _, _, _, _, _, _, _, _, _, _, _, _, _, _, _, _, _, _, _, _, _, _, _, _, _, _, _, _, _, _, _, hr, rfl⟩, hme⟩
          · by_cases hlet : letB s[i] = true
            · refine round_let s w hz hbig (by assumption) (Lib.hid ?hret_let) (Lib.hid ?hn_let) hi HR hl1 hl2 hlt hb hm (Lib.hid ⟨by simpa using hdig, hlet⟩)
              · exact fun _ _ h => h
              · intros
                rename_i hr hme
                exact ⟨⟨_, _, _, _, _, _, _, _, _, _, _, _, _, _, _, _, _, _, _, _, _, _, _, _, _, _, _, _, _, _, _, _, _, _, _, _, _, _, _, _, _, _, _, _, _, _, _, _, _, _, _, _, _, _, _, _, _, _, _, _, _, _, _, _, _, _, _, _, _, _, _, _, _, _, _, _, _, _, _, _, _, _, _, _, _, _, _, _, _, _, _, _, _, _, _, _, _, _, _, _, _, _, _, _, _, _, _, _, _, _, _, _, _, _, _, _, _, _, _, _, _, _, _, _, _, _, _, _, _, _, _, _, _, _, _, _, _, _, _, _, _, _, _, _, _, _, _, _, _, _, _, _, _, _, _, _, _, _, _, _, _, _, _, _, _, _, _, _, _, _, _, _, _, _, _, _, _, _, _, _, _, _, _, _, _, _, _, _, _, _, _, _, _, _, _, _, _, _, _, _, _, _, _, _, _, _, hr, rfl⟩, hme⟩
            · refine round_sig s w hz hbig (by assumption) (Lib.hid ?hret_sig) (Lib.hid ?hn_sig) hi HR hl1 hl2 hlt hb hm (Lib.hid ⟨by simpa using hdig, by simpa using hlet⟩)
              · exact fun _ _ h => h
              · intros
                rename_i hr hme
                exact ⟨⟨_, _, _, _, _, _, _, _, _, _, _, _, _, _, _, _, _, _, _, _, _, _, _, _, _, _, _, _, _, _, _, _, _, _, _, _, _, _, _, _, _, _, _, _, _, _, _, _, _, _, _, _, _, _, _, _, _, _, _, _, _, _, _, _, _, _, _, _, _, _, _, _, _, _, _, _, _, _, _, _, _, _, _, _, _, _, _, _, _, _, _, _, _, _, _, _, _, _, _, _, _, _, _, _, _, _, _, _, _, _, _, _, _, _, _, _, _, _, _, _, _, _, _, _, _, _, _, _, _, _, _, _, _, _, _, _, _, _, _, _, _, _, _, _, _, _, _, _, _, _, _, _, _, _, _, _, _, _, _, _, _, _, _, _, _, _, _, _, _, _, _, _, _, _, _, _, _, _, _, _, _, _, _, _, _, _, _, _, _, _, _, _, _, _, _, _, _, _, _, _, _, _, _, _, _, _, hr, rfl⟩, hme⟩
    · obtain rfl : i = s.size := by omega
      have hx : lex (s.size + 1) s.data.toList (1, 1) = .ok (ts ++ [⟨0, [], 0, ln, cl⟩]) := by
        obtain ⟨n, hn1, hn2⟩ := HR.out.next
        obtain ⟨m, rfl⟩ : ∃ m, n = m + 1 := ⟨n - 1, by omega⟩
        rw [hn2, List.drop_of_length_le (by simp), lex_none]
        rfl
      have hlen := HR.out.len
      have HX := Lib.hid hx
      clear hx
      go_wp2_with (at_builtin; refine wpList_append_own _ rfl _ _ 50 rfl w.heap.size 81 i0 _ 5 48 Tryd.underlying50 hii hi0 hi1 hi2 rfl (by decide) _ _ _ rfl (HR.out.own.alloc _) ⟨wr.heap.size, 0, none⟩ 1 1 [.int .u8 0, .string ByteArray.empty, .int .i32 0, .int .i64 ln, .int .i64 cl] rfl rfl ?c1 ?c2 ?c3 ?c4 ?c5 ?_)
      case c1 =>
        intro j u hj
        match j, hj with
        | 0, hj => simp at hj; subst hj; simp [Addr.add]
        | 1, hj => simp at hj; subst hj; simp [Addr.add]; rfl
        | 2, hj => simp at hj; subst hj; simp [Addr.add]
        | 3, hj => simp at hj; subst hj; simp [Addr.add]
        | 4, hj => simp at hj; subst hj; simp [Addr.add]
        | j + 5, hj => simp at hj
      case c2 => intro u hu; simp at hu; rcases hu with rfl | rfl | rfl | rfl | rfl <;> rfl
      case c3 => unfold maxLen; omega
      case c4 => omega
      case c5 => simp; have := HR.out.below.size; omega
      intro v' w3 hown3 hgr3 _
      have hh3 := (HR.out.has.alloc (.cells #[.int .u8 0, .string ByteArray.empty, .int .i32 0, .int .i64 (ln : Int), .int .i64 (cl : Int)] 81)).grown hgr3 (fun e => (HR.out.has.own_ne HR.out.own (by decide)) e.symm)
      have hb3 := (HR.out.below.alloc HR.out.below.size _).grown hgr3 (by have := HR.out.below.size; simp; omega) (fun k hk => (HR.out.own.lt k hk).1)
      have c0 := hh3.cell 0
      have c1 := hh3.cell 1
      have f0 := hh3.free 0
      have f1 := hh3.free 1
      have hlt3 := hh3.lt
      simp only [List.getElem?_toArray, List.getElem?_cons_zero, List.getElem?_cons_succ] at c0 c1
      have HH3 := Lib.hid hh3
      have HB3 := Lib.hid hb3
      have HO3 := Lib.hid hown3
      clear hh3 hb3 hown3 hgr3
      go_wp2_with fail
      have h4 := (HH3.out.put 0 (.int .i64 0)).put 1 (.int .i64 0)
      have e0 := h4.cell 0
      have e1 := h4.cell 1
      simp only [List.setIfInBounds_toArray, List.set_cons_zero, List.set_cons_succ, List.getElem?_toArray, List.getElem?_cons_zero, List.getElem?_cons_succ] at e0 e1
      have hlast := (HB3.out.setCell (p := ⟨w.heap.size, 0, none⟩) (Nat.le_refl _) (.int .i64 0)).setCell (p := ⟨w.heap.size, 1, none⟩) (Nat.le_refl _) (.int .i64 0)
      have own4 := HO3.out.kept (grown_put (grown_put (grown_refl w3 (some w.heap.size)) 0 (.int .i64 0)) 1 (.int .i64 0)) (.inr (HH3.out.own_ne HO3.out (by decide)))
      generalize ((w3.setCell ⟨w.heap.size, 0, none⟩ (.int .i64 0)).setCell ⟨w.heap.size, 1, none⟩ (.int .i64 0)) = Wf at *
      refine bodyPost_ret (v := .tuple #[v', .int .i64 0, .agg #[.int .i64 0, .int .i64 0]]) (by simp [results, Tryd.results24, go_sem, e0, e1]) rfl ⟨?_, hlast⟩
      rw [HX.out]
      refine ⟨v', rfl, ?_⟩
      have hl : (ts ++ [(⟨0, [], 0, ln, cl⟩ : Tok)]).length = ts.length + 1 := by simp
      have hfl : (ts ++ [(⟨0, [], 0, ln, cl⟩ : Tok)]).flatMap tokCells = ts.flatMap tokCells ++ [.int .u8 0, .string ByteArray.empty, .int .i32 0, .int .i64 ln, .int .i64 cl] := by
        rw [List.flatMap_append]; rfl
      rw [hl, hfl]
      exact own4
end Go.Proofs.YtjjihijkkljbnaaDoor.lx
