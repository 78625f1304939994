/-
  A number of up to 2^31, written with as many noughts ahead, is read as one word of its value; a greater one is refused with the kind 'limit'; one with a letter behind it is none, and one with another byte behind it is a word, or refused. Condition: errors.errorType and the table of signs, lex.signs, hold at the call's begin what the program's text lays; the card ties both to the text. The walk.
-/
import Derived.Test.YtjjihijkkljbnaaDoorRows
import Derived.Test.YtjjihijkkljbnaaDoorLxLaid2
import Derived.Test.YtjjihijkkljbnaaDoorLxNum
import Derived.Test.YtjjihijkkljbnaaDoorFtFinite
import Derived.WalkSpells
import Derived.Laws.BytesArg
import Derived.WalkKit
import Derived.ProofKit
import Derived.OpenShut
import Derived.Below
import Derived.Lib.Hide
import Derived.Outline
import Derived.Deep.LoopGhost
namespace Go.Proofs.YtjjihijkkljbnaaDoor.lexNumbers
open Go.ChangeShapes Go.WideShapes Go.ChangeAt Go.RowKit
set_option linter.unusedVariables false

/-- what the text's words are -/
theorem num_words (n0 z : Nat) (sb db : ByteArray) (hz : z ≤ 20) (hs : sb.data.toList = List.replicate z 48) (hd : lx.Digs n0 0 db.data.toList) (hn : db.data.toList ≠ []) :
    (lx.wordsR (sb ++ db).data.toList = if 2147483648 < n0 then .bad 3 1 1 else .ok [⟨1, (sb ++ db).data.toList, if n0 = 2147483648 then -2147483648 else n0, 1, 1⟩, ⟨0, [], 0, 1, 1 + (sb ++ db).data.toList.length⟩]) ∧
    (n0 ≤ 2147483648 → ∀ c : UInt8, lx.letB c = true → lx.wordsR ((sb ++ db) ++ ⟨#[c]⟩ : ByteArray).data.toList = .bad 1 1 1) ∧
    ∀ (c : UInt8) (ts : List lx.Tok), lx.wordsR ((sb ++ db) ++ ⟨#[c]⟩ : ByteArray).data.toList = .ok ts → 2 ≤ ts.length := by
  have e : (sb ++ db).data.toList = List.replicate z 48 ++ db.data.toList := by rw [← hs]; simp
  have e2 : ∀ c : UInt8, ((sb ++ db) ++ ⟨#[c]⟩ : ByteArray).data.toList = (List.replicate z 48 ++ db.data.toList) ++ [c] := by intro c; rw [← e]; simp
  have hv : n0 = lx.numV db.data.toList := by have := hd.val; simpa using this
  have hv2 : lx.numV (List.replicate z 48 ++ db.data.toList) = n0 := by rw [lx.numV_zeros, ← hv]
  have hall : lx.allD (List.replicate z 48 ++ db.data.toList) := by
    intro c hc
    rcases List.mem_append.1 hc with h | h
    · rw [(List.mem_replicate.1 h).2]; decide
    · exact hd.all c h
  have hne : List.replicate z 48 ++ db.data.toList ≠ [] := by simp [hn]
  have hlen : (List.replicate z 48 ++ db.data.toList).length ≤ 30 := by
    have := hd.size
    rw [List.length_append, List.length_replicate]; omega
  rw [e]
  refine ⟨?_, ?_, ?_⟩
  · unfold lx.wordsR
    rw [if_neg (by omega), lx.lex_number _ hall hne, hv2]
  · intro hle c hc
    rw [e2]
    unfold lx.wordsR
    rw [if_neg (by rw [List.length_append]; simp only [List.length_cons, List.length_nil]; omega)]
    exact lx.lex_letter _ hall hne c hc (by rw [hv2]; exact hle) _
  · intro c ts h
    rw [e2] at h
    unfold lx.wordsR at h
    rw [if_neg (by rw [List.length_append]; simp only [List.length_cons, List.length_nil]; omega)] at h
    have hp := List.length_pos_iff.2 hne
    generalize hg : (List.replicate z 48 ++ db.data.toList ++ [c]).length + 1 = k at h
    obtain ⟨j, rfl⟩ : ∃ j, k = j + 2 := ⟨k - 2, by rw [List.length_append] at hg; simp only [List.length_cons, List.length_nil] at hg; omega⟩
    exact lx.lex_behind _ hall hne c _ ts h

theorem one_byte (n : Nat) : strOfNums [((n : Nat) : Int)] = ⟨#[UInt8.ofNat n]⟩ := by simp [strOfNums]

theorem conv_one (v : Int) (wr : World) : (convert 41 9 (.slice (some ⟨wr.heap.size, 0, none⟩) 1 1)).run Tryd.prog (wr.alloc (.cells #[.int .u8 v] 5)) = .ok (.string (strOfNums [v])) (wr.alloc (.cells #[.int .u8 v] 5)) :=
  run_convert_bytes_arg _ 41 5 Tryd.underlying41 Tryd.underlying5 wr.heap.size 0 1 1 [v] rfl (fun i hi => by
    obtain rfl : i = 0 := by omega
    simp) 9 Tryd.underlying9

/-- the loop's step -/
theorem digs_step {n0 x : Nat} {db : ByteArray} (h : lx.Digs n0 x db.data.toList) (hn : n0 ≤ 4294967295) (hc : 0 < x ∨ db.data.toList = []) :
    lx.Digs n0 (x / 10) (strOfNums [48 + (x : Int) % 10] ++ db).data.toList ∧ (strOfNums [48 + (x : Int) % 10] ++ db).size ≤ 10 ∧ (strOfNums [48 + (x : Int) % 10] ++ db).size ≠ 0 := by
  have e : (48 : Int) + (x : Int) % 10 = ((48 + x % 10 : Nat) : Int) := by omega
  rw [e, one_byte]
  have hd : ((⟨#[UInt8.ofNat (48 + x % 10)]⟩ : ByteArray) ++ db).data.toList = UInt8.ofNat (48 + x % 10) :: db.data.toList := by simp
  have hs := h.step (by omega) hc (UInt8.ofNat (48 + x % 10)) (lx.dig_of x)
  rw [← hd] at hs
  have h10 := hs.size
  have hsz : ∀ b : ByteArray, b.size = b.data.toList.length := fun b => by simp
  refine ⟨hs, by rw [hsz]; exact h10, ?_⟩
  rw [hsz, hd]
  simp
set_option maxRecDepth 10000 in
set_option maxHeartbeats 8000000 in

theorem walk (a0 : Int) (a1 : Int) (a2 : Int) (w0 : (Lit.int .u32 a0).wf = true) (w1 : (Lit.int .u8 a1).wf = true) (w2 : (Lit.int .u8 a2).wf = true) (w : World) (hT : lx.Laid2 w) :
    Calls Tryd.prog 8 #[.int .u32 a0, .int .u8 a1, .int .u8 a2] w fun e w' => e = .returned (.bool true) ∧ Below w.heap.size w w' := by
  have ⟨p1, p2⟩ := bounds_u8 w1
  have ⟨q1, q2⟩ := bounds_u8 w2
  have ⟨r1, r2⟩ := bounds_u32 w0
  clear w1 w2 w0
  obtain ⟨n0, rfl⟩ := Int.eq_ofNat_of_zero_le r1
  obtain ⟨n1, rfl⟩ := Int.eq_ofNat_of_zero_le p1
  obtain ⟨n2, rfl⟩ := Int.eq_ofNat_of_zero_le q1
  have hj : n1 % 20 < 20 := Nat.mod_lt _ (by decide)
  have HT := Lib.hid hT
  clear hT
  go_enter Tryd.func8, Tryd.ntmps8
  go_wp2_with fail
  go_loop [7, 8] (fun sv iv => ∃ (i : Nat) (sb : ByteArray), i ≤ n1 % 20 ∧ iv = .int .i64 i ∧ sv = .string sb ∧ sb.size ≤ 20 ∧ Hid (sb.data.toList = List.replicate i 48)) (fun _ iv => 41 - (intOf iv).toNat)
  case atStart => exact ⟨0, _, by omega, rfl, rfl, by decide, Lib.hid rfl⟩
  case round =>
    obtain ⟨i, sb, hi, rfl, rfl, hz, HS⟩ := hrel
    by_cases hlt : i < n1 % 20
    · have hz2 : sb.size = i := by
        have h1 := congrArg List.length HS.out
        simpa using h1
      have hz4 : (sb ++ (⟨#[48]⟩ : ByteArray)).size ≤ 20 := by rw [ByteArray.size_append, show (⟨#[48]⟩ : ByteArray).size = 1 from rfl]; omega
      have HZ4 := Lib.hid hz4
      clear hz2 hz4
      have HS2 : Hid ((sb ++ (⟨#[48]⟩ : ByteArray)).data.toList = List.replicate (i + 1) 48) := Lib.hid (by rw [List.replicate_succ', ← HS.out]; simp)
      go_wp2
      go_round
      case rel => exact ⟨i + 1, _, by omega, by go_num, rfl, HZ4.out, HS2⟩
      case measure => simp [intOf]; omega
    · clear hj
      have HI : Hid (i ≤ 20) := Lib.hid (by omega)
      go_wp2_with fail
      go_loopw [9, 10] (fun xv dv wr => ∃ (x : Nat) (db : ByteArray), x ≤ n0 ∧ xv = .int .u64 x ∧ dv = .string db ∧ db.size ≤ 10 ∧ Hid (lx.Digs n0 x db.data.toList) ∧ Hid (Below w.heap.size w wr)) (fun xv dv _ => 2 * (intOf xv).toNat + (match dv with | .string b => if b.size = 0 then 1 else 0 | _ => 0))
      case atStart => exact ⟨n0, _, by omega, rfl, rfl, by decide, Lib.hid (lx.Digs.start n0), Lib.hid (Below.refl _ _)⟩
      case round =>
        obtain ⟨x, db, hx, rfl, rfl, hdz, HD, HW⟩ := hrel
        by_cases hgo : 0 < x ∨ db.data.toList = []
        · have hst := digs_step HD.out (by omega) hgo
          have kc := conv_one (48 + (x : Int) % 10) wr
          have HST := Lib.hid hst
          have hcz : (strOfNums [48 + (x : Int) % 10]).size ≤ 1 := by rw [strOfNums_size]; exact Nat.le_refl _
          clear hst
          generalize strOfNums [48 + (x : Int) % 10] = cb at *
          by_cases hpos : 0 < x
          · have hp2 : (0 : Int) < (x : Int) := by omega
            clear hgo
            have hb2 : Below w.heap.size w (wr.alloc (.cells #[.int .u8 (48 + (x : Int) % 10)] 5)) := HW.out.alloc HW.out.size _
            have HB2 := Lib.hid hb2
            clear hb2
            go_wp2
            go_roundw
            case rel => exact ⟨x / 10, _, by omega, by go_num, rfl, HST.out.2.1, Lib.hid HST.out.1, HB2⟩
            case measure => have h3 := HST.out.2.2; simp only [intOf]; rw [if_neg h3]; split <;> omega
          · have hx0 : x = 0 := by omega
            subst hx0
            rw [show (48 : Int) + ((0 : Nat) : Int) % 10 = 48 from rfl] at kc
            have hdn : db.data.toList = [] := by rcases hgo with h | h; omega; exact h
            obtain rfl : db = ByteArray.empty := by
              apply ByteArray.ext
              apply Array.ext'
              rw [hdn]; rfl
            clear hgo hdn
            have hb2 : Below w.heap.size w (wr.alloc (.cells #[.int .u8 48] 5)) := HW.out.alloc HW.out.size _
            have HB2 := Lib.hid hb2
            have hst2 := HST.out
            rw [show cb ++ ByteArray.empty = cb by simp] at hst2
            have HST2 := Lib.hid hst2
            clear hb2 hst2 HST
            go_wp2
            go_roundw
            case rel => exact ⟨0, _, by omega, by go_num, rfl, HST2.out.2.1, Lib.hid HST2.out.1, HB2⟩
            case measure => have h3 := HST2.out.2.2; simp only [intOf]; rw [if_neg h3]; decide
        · have hx0 : x = 0 := by omega
          subst hx0
          have hdn : db.data.toList ≠ [] := fun e => hgo (.inr e)
          have hb1 : db.toList = [] → False := fun e => hdn (by rw [← Lib.toList_data]; exact e)
          have hb2 : db.toList.isEmpty = false := by
            cases h : db.toList with
            | nil => exact absurd h hb1
            | cons c r => rfl
          have hbe : (!db.toList.isEmpty) = true := by rw [hb2]; rfl
          obtain ⟨g1, g2, g3⟩ := num_words n0 i sb db HI.out HS.out HD.out hdn
          have hq1 := lx.words_any (sb ++ db)
          rw [g1] at hq1
          have hsz : (sb ++ db).size ≤ 30 := by rw [ByteArray.size_append]; omega
          have hq2 := lx.words_any ((sb ++ db) ++ ⟨#[UInt8.ofNat n2]⟩)
          rw [← one_byte] at hq2
          have g2' := fun (h : n0 ≤ 2147483648) => g2 h (UInt8.ofNat n2)
          have g3' := g3 (UInt8.ofNat n2)
          rw [← one_byte] at g2' g3'
          have hcz : (strOfNums [(n2 : Int)]).size ≤ 1 := by rw [strOfNums_size]; exact Nat.le_refl _
          have hkc := fun wz : World => conv_one (n2 : Int) wz
          generalize strOfNums [(n2 : Int)] = cb at *
          clear g1 g2 g3 hgo hdn hb1 HD HS HI hlt
          by_cases hbig : 2147483648 < n0
          · rw [if_pos hbig] at hq1
            have hbi : (2147483648 : Int) < (n0 : Int) := by omega
            have HQ1 := Lib.hid hq1
            clear hq1 hq2 g2' g3' hkc
            go_wp2_with fail
            refine (HQ1.out _ (HT.out.1.below HW.out)).mono ?_
            rintro e w1 ⟨⟨g, rfl, hg, hh⟩, hb⟩
            have hlow := HW.out.trans (hb.mono HW.out.size)
            have HH := Lib.hid hh
            have HB := Lib.hid hlow
            have HT1 := Lib.hid (HT.out.below hlow)
            clear hh hb hlow
            go_wp2_with fail
            refine (lx.awake_any _ HT1.out.1).mono ?_
            rintro e w2 ⟨rfl, hb2⟩
            have hh2 := HH.out.below hb2 HH.out.lt
            have hlow := HB.out.trans (hb2.mono HB.out.size)
            have HH2 : Hid (lx.Has w2 g 45 #[.int .i64 1, .int .i64 1, .string ByteArray.empty, .bool false, .iface 26 (.int .i64 ((3 : Nat) : Int))]) := Lib.hid hh2
            have HL := Lib.hid hlow
            clear hh2 hb2 hlow HH
            go_wp2_with fail
            refine (ft.kind_at g 1 1 _ false 3 (by decide) (by decide) w2 HH2.out).mono ?_
            rintro e w3 ⟨rfl, hb3⟩
            have HL3 := Lib.hid (HL.out.trans (hb3.mono HL.out.size))
            clear hb3
            go_wp2_with fail
            go_ret
            exact ⟨rfl, HL3.out⟩
          · rw [if_neg hbig] at hq1
            have hbi : ¬ ((2147483648 : Int) < (n0 : Int)) := by omega
            have G2 := Lib.hid (g2' (by omega))
            have G3 := Lib.hid g3'
            have HQ2 := Lib.hid hq2
            have HKC := Lib.hid hkc
            clear hq2 g2' g3' hkc
            have hnum : ∃ nn : Int, (if n0 = 2147483648 then -2147483648 else (n0 : Int)) = nn ∧ (nn = (n0 : Int) ∧ nn ≤ 2147483647 ∨ nn = -2147483648 ∧ n0 = 2147483648) := by
              refine ⟨_, rfl, ?_⟩
              by_cases h : n0 = 2147483648
              · exact .inr ⟨by rw [if_pos h], h⟩
              · exact .inl ⟨by rw [if_neg h], by rw [if_neg h]; omega⟩
            obtain ⟨nn, hnn, hnc⟩ := hnum
            rw [hnn] at hq1
            have HQ1 := Lib.hid hq1
            clear hq1 hnn
            go_wp2_with fail
            refine (HQ1.out _ (HT.out.1.below HW.out)).mono ?_
            rintro e w1 ⟨⟨v, rfl, hown⟩, hb⟩
            have hown : w1.ownsRow wr.heap.size 58 5 v 2 _ := hown
            obtain ⟨g, cap, hv, hg, hlt⟩ := World.ownsRow.form hown (by omega)
            subst hv
            have hc := hown.cells (g := g) rfl
            have c0 := hc 0 _ rfl
            have c2 := hc 2 _ rfl
            simp [Addr.add] at c0 c2
            have l0 : g < w1.heap.size := World.block_lt_of_cell? w1 _ c0
            have hlow := HW.out.trans (hb.mono HW.out.size)
            have HT1 := Lib.hid (HT.out.below hlow)
            have HB := Lib.hid hlow
            have C0 := Lib.hid c0
            have C2 := Lib.hid c2
            clear hown hc hb c0 c2 hlow
            go_wp2_with fail
            refine (lx.awake_any _ HT1.out.1).mono ?_
            rintro e w2 ⟨rfl, hb2⟩
            have c0 := (hb2.cell (p := ⟨g, 0, none⟩) l0).trans C0.out
            have c2 := (hb2.cell (p := ⟨g, 2, none⟩) l0).trans C2.out
            have HT2 := Lib.hid (HT1.out.below hb2)
            have HL := Lib.hid (HB.out.trans (hb2.mono HB.out.size))
            clear hb2 C0 C2 HB HQ1 HT1
            have kc := HKC.out w2
            have hlow2 : Below w2.heap.size w2 (w2.alloc (.cells #[.int .u8 (n2 : Int)] 5)) := (Below.refl _ _).alloc (Nat.le_refl _) _
            have HT3 := Lib.hid (HT2.out.below hlow2)
            have HL2 := Lib.hid (HL.out.trans (hlow2.mono HL.out.size))
            clear hlow2 HT2 HL
            have hn2 : (UInt8.ofNat n2).toNat = n2 := by rw [UInt8.toNat_ofNat']; omega
            have hlc : (97 ≤ n2 ∧ n2 ≤ 122 ∨ 65 ≤ n2 ∧ n2 ≤ 90 ∨ n2 = 95) ∨ (n2 < 65 ∨ (90 < n2 ∧ n2 < 95) ∨ n2 = 96 ∨ 122 < n2) := by omega
            rcases hlc with hlet | hnol
            · have hX := G2.out (by simp only [lx.letB, lx.smallB, lx.greatB, hn2, Bool.or_eq_true, Bool.and_eq_true, decide_eq_true_eq]; omega)
              have hq2 := HQ2.out
              rw [hX] at hq2
              have HQ3 := Lib.hid hq2
              clear hX hq2 HQ2 G2 G3 hn2 HKC
              have hlet2 : ((n2 : Int) ≤ 122 ∧ (97 : Int) ≤ n2) ∨ ((n2 : Int) < 97 ∧ (65 : Int) ≤ n2 ∧ (n2 : Int) ≤ 90) ∨ ((n2 : Int) < 97 ∧ (90 : Int) < n2 ∧ ((n2 : Int) == 95) = true) := by simp only [beq_iff_eq]; omega
              clear hlet
              rcases hnc with ⟨rfl, hnn⟩ | ⟨rfl, rfl⟩
              all_goals
                rcases hlet2 with ⟨l1, l2⟩ | ⟨l1, l2, l3⟩ | ⟨l1, l2, l3⟩
              all_goals
                go_wp2_with fail
                refine (HQ3.out _ HT3.out.1).mono ?_
                rintro e w4 ⟨⟨g2, rfl, hg2, hh⟩, hb4⟩
                have HH2 : Hid (lx.Has w4 g2 45 #[.int .i64 1, .int .i64 1, .string ByteArray.empty, .bool false, .iface 26 (.int .i64 ((1 : Nat) : Int))]) := Lib.hid hh
                have HT4 := Lib.hid (HT3.out.below hb4)
                have HL4 := Lib.hid (HL2.out.trans (hb4.mono HL2.out.size))
                clear hh hb4
                go_wp2_with fail
                refine (ft.kind_at g2 1 1 _ false 1 (by decide) (by decide) w4 HH2.out).mono ?_
                rintro e w5 ⟨rfl, hb5⟩
                have HH3 : Hid (lx.Has w5 g2 45 #[.int .i64 1, .int .i64 1, .string ByteArray.empty, .bool false, .iface 26 (.int .i64 1)]) := Lib.hid (HH2.out.below hb5 HH2.out.lt)
                have HT5 := Lib.hid (HT4.out.below hb5)
                have HL5 := Lib.hid (HL4.out.trans (hb5.mono HL4.out.size))
                clear hb5 HH2
                go_wp2_with fail
                refine (ft.where_at g2 1 1 1 _ w5 HT5.out.2 HH3.out).mono ?_
                rintro e w6 ⟨rfl, hb6⟩
                have HL6 := Lib.hid (HL5.out.trans (hb6.mono HL5.out.size))
                clear hb6
                go_wp2_with fail
                go_ret
                exact ⟨rfl, HL6.out⟩
            · have hnol2 : ((n2 : Int) < 65) ∨ ((90 : Int) < n2 ∧ (n2 : Int) < 97) ∨ ((122 : Int) < n2) := by omega
              have hn95 : ((n2 : Int) == 95) = false := by rw [beq_eq_false_iff_ne]; omega
              clear hnol
              cases hX : lx.wordsR ((sb ++ db) ++ cb).data.toList with
              | bad kk la lb =>
                have hq2 := HQ2.out
                rw [hX] at hq2
                have HQ3 := Lib.hid hq2
                clear hX hq2 HQ2 G2 G3 hn2 HKC
                rcases hnc with ⟨rfl, hnn⟩ | ⟨rfl, rfl⟩
                all_goals
                  rcases hnol2 with l1 | ⟨l1, l2⟩ | l1
                all_goals
                  go_wp2_with fail
                  refine (HQ3.out _ HT3.out.1).mono ?_
                  rintro e w4 ⟨⟨g2, rfl, hg2, hh⟩, hb4⟩
                  have HL4 := Lib.hid (HL2.out.trans (hb4.mono HL2.out.size))
                  clear hh hb4
                  go_wp2_with fail
                  go_ret
                  exact ⟨rfl, HL4.out⟩
              | ok ts =>
                have hq2 := HQ2.out
                have hl2 := G3.out ts hX
                rw [hX] at hq2
                have HQ3 := Lib.hid hq2
                clear hX hq2 HQ2 G2 G3 hn2 HKC
                have hl2i : (2 : Int) ≤ (ts.length : Int) := by omega
                rcases hnc with ⟨rfl, hnn⟩ | ⟨rfl, rfl⟩
                all_goals
                  rcases hnol2 with l1 | ⟨l1, l2⟩ | l1
                all_goals
                  go_wp2_with fail
                  refine (HQ3.out _ HT3.out.1).mono ?_
                  rintro e w4 ⟨⟨v2, rfl, hown2⟩, hb4⟩
                  obtain ⟨g2, cap2, hv2, hg2, hlt2⟩ := World.ownsRow.form hown2 (by omega)
                  subst hv2
                  have HL4 := Lib.hid (HL2.out.trans (hb4.mono HL2.out.size))
                  clear hown2 hb4
                  go_wp2_with fail
                  go_ret
                  exact ⟨rfl, HL4.out⟩
end Go.Proofs.YtjjihijkkljbnaaDoor.lexNumbers
