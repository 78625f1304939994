/-
  A name of one to forty letters, great or small, is read as one word of its kind; one of more than 32 letters is refused with the kind 'limit' at its place. Condition: errors.errorType and the table of signs, lex.signs, hold at the call's begin what the program's text lays; the card ties both to the text. The walk.
-/
import Derived.Test.YtjjihijkkljbnaaDoorRows
import Derived.Test.YtjjihijkkljbnaaDoorLxLaid2
import Derived.Test.YtjjihijkkljbnaaDoorLxLim
import Derived.Test.YtjjihijkkljbnaaDoorFtFinite
import Derived.WalkKit
import Derived.ProofKit
import Derived.OpenShut
import Derived.Below
import Derived.Lib.Hide
import Derived.Outline
import Derived.Deep.LoopGhost
namespace Go.Proofs.YtjjihijkkljbnaaDoor.lexLimits
open Go.ChangeShapes Go.WideShapes Go.ChangeAt Go.RowKit
set_option linter.unusedVariables false

theorem lim_words (m : Nat) (g : Bool) (sb : ByteArray) (hm : m < 40) (hs : sb.data.toList = lx.limS g (m + 1)) :
    lx.wordsR ((⟨#[32]⟩ ++ sb : ByteArray).data.toList) = if 32 < m + 1 then .bad 3 1 2 else .ok [⟨if g then 3 else 2, lx.limS g (m + 1), 0, 1, 2⟩, ⟨0, [], 0, 1, m + 3⟩] := by
  have e : (⟨#[32]⟩ ++ sb : ByteArray).data.toList = 32 :: lx.limS g (m + 1) := by
    rw [← hs]; simp
  have hl := lx.limS_len g (m + 1)
  rw [e]
  unfold lx.wordsR
  rw [if_neg (by simp only [List.length_cons, hl]; omega)]
  exact lx.lim_lex m hm g
set_option maxRecDepth 10000 in
set_option maxHeartbeats 4000000 in

theorem walk (a0 : Int) (a1 : Bool) (w0 : (Lit.int .u8 a0).wf = true) (w : World) (hT : lx.Laid2 w) :
    Calls Tryd.prog 9 #[.int .u8 a0, .bool a1] w fun e w' => e = .returned (.bool true) ∧ Below w.heap.size w w' := by
  have ⟨p1, p2⟩ := bounds_u8 w0
  clear w0
  obtain ⟨n, rfl⟩ := Int.eq_ofNat_of_zero_le p1
  have hj : n % 40 < 40 := Nat.mod_lt _ (by decide)
  have HT := Lib.hid hT
  clear hT
  go_enter Tryd.func9, Tryd.ntmps9
  go_wp2_with fail
  go_loop [6, 7] (fun sv iv => ∃ (i : Nat) (sb : ByteArray), i ≤ 1 + n % 40 ∧ iv = .int .i64 i ∧ sv = .string sb ∧ sb.size ≤ 40 ∧ Hid (sb.data.toList = lx.limS a1 i)) (fun _ iv => 41 - (intOf iv).toNat)
  case atStart => exact ⟨0, _, by omega, rfl, rfl, by decide, Lib.hid rfl⟩
  case round =>
    obtain ⟨i, sb, hi, rfl, rfl, hz, HS⟩ := hrel
    by_cases hlt : i < 1 + n % 40
    · have hz2 : sb.size = i := by
        have h1 := congrArg List.length HS.out
        rw [lx.limS_len] at h1
        simpa using h1
      have hz3 : (sb ++ (⟨#[81]⟩ : ByteArray)).size ≤ 40 := by rw [ByteArray.size_append, show (⟨#[81]⟩ : ByteArray).size = 1 from rfl]; omega
      have hz4 : (sb ++ (⟨#[113]⟩ : ByteArray)).size ≤ 40 := by rw [ByteArray.size_append, show (⟨#[113]⟩ : ByteArray).size = 1 from rfl]; omega
      have HZ3 := Lib.hid hz3
      have HZ4 := Lib.hid hz4
      clear hz2 hz3 hz4
      by_cases h0 : a1 = true ∧ i = 0
      · obtain ⟨rfl, rfl⟩ := h0
        have HS2 : Hid ((sb ++ (⟨#[81]⟩ : ByteArray)).data.toList = lx.limS true (0 + 1)) := Lib.hid (by rw [lx.limS, ← HS.out]; simp)
        go_wp2
        go_round
        case rel => exact ⟨0 + 1, _, by omega, by go_num, rfl, HZ3.out, HS2⟩
        case measure => simp [intOf]
      · have HS2 : Hid ((sb ++ (⟨#[113]⟩ : ByteArray)).data.toList = lx.limS a1 (i + 1)) := Lib.hid (by
          rw [lx.limS, ← HS.out]
          cases a1
          · simp
          · have : i ≠ 0 := fun e => h0 ⟨rfl, e⟩
            simp [this])
        cases a1
        · clear h0
          go_wp2
          go_round
          case rel => exact ⟨i + 1, _, by omega, by go_num, rfl, HZ4.out, HS2⟩
          case measure => simp [intOf]; omega
        · have hi0 : ((i : Int) == 0) = false := by
            rw [beq_eq_false_iff_ne]
            have : i ≠ 0 := fun e => h0 ⟨rfl, e⟩
            omega
          clear h0
          go_wp2
          go_round
          case rel => exact ⟨i + 1, _, by omega, by go_num, rfl, HZ4.out, HS2⟩
          case measure => simp [intOf]; omega
    · obtain rfl : i = 1 + n % 40 := by omega
      have hcast : (1 : Int) + (n : Int) % 40 = ((n % 40 + 1 : Nat) : Int) := by omega
      obtain ⟨m, hm⟩ : ∃ m, m = n % 40 := ⟨_, rfl⟩
      have hq := fun W => lx.words_any (⟨#[32]⟩ ++ sb) W
      have hs := HS.out
      rw [Nat.add_comm, ← hm] at hs
      rw [← hm] at hj
      rw [lim_words m a1 sb hj hs] at hq
      have hs2 : (⟨(lx.limS a1 (m + 1)).toArray⟩ : ByteArray) = sb := by
        rw [← hs]
      have HM := Lib.hid hm
      have HSB := Lib.hid hs2
      clear hs hs2 HS hcast
      by_cases hgt : 32 < m + 1
      · have hk : (32 : Int) < 1 + (n : Int) % 40 := by have := HM.out; omega
        rw [if_pos hgt] at hq
        have HQ := Lib.hid hq
        clear hq hm hlt hi
        go_wp2_with fail
        refine (HQ.out _ HT.out.1).mono ?_
        rintro e w1 ⟨⟨g, rfl, hg, hh⟩, hb⟩
        have hT1 := HT.out.below hb
        have HH := Lib.hid hh
        have HB := Lib.hid hb
        have HT1 := Lib.hid hT1
        clear hh hb hT1
        go_wp2_with fail
        refine (lx.awake_any _ HT1.out.1).mono ?_
        rintro e w2 ⟨rfl, hb2⟩
        have hh2 := HH.out.below hb2 HH.out.lt
        have hT2 := HT1.out.below hb2
        have hlow := HB.out.trans (hb2.mono HB.out.size)
        have HH2 : Hid (lx.Has w2 g 45 #[.int .i64 1, .int .i64 2, .string ByteArray.empty, .bool false, .iface 26 (.int .i64 ((3 : Nat) : Int))]) := Lib.hid hh2
        have HT2 := Lib.hid hT2
        have HL := Lib.hid hlow
        clear hh2 hT2 hb2 hlow HH
        go_wp2_with fail
        refine (ft.kind_at g 1 2 _ false 3 (by decide) (by decide) w2 HH2.out).mono ?_
        rintro e w3 ⟨rfl, hb3⟩
        have HH3 : Hid (lx.Has w3 g 45 #[.int .i64 1, .int .i64 2, .string ByteArray.empty, .bool false, .iface 26 (.int .i64 3)]) := Lib.hid (HH2.out.below hb3 HH2.out.lt)
        have HT3 := Lib.hid (HT2.out.below hb3)
        have HL3 := Lib.hid (HL.out.trans (hb3.mono HL.out.size))
        clear hb3 HH2 HT2
        go_wp2_with fail
        refine (ft.where_at g 1 2 3 _ w3 HT3.out.2 HH3.out).mono ?_
        rintro e w4 ⟨rfl, hb4⟩
        have HL4 := Lib.hid (HL3.out.trans (hb4.mono HL3.out.size))
        clear hb4
        go_wp2_with fail
        go_ret
        exact ⟨rfl, HL4.out⟩
      · have hk : ¬ ((32 : Int) < 1 + (n : Int) % 40) := by have := HM.out; omega
        rw [if_neg hgt] at hq
        have HQ := Lib.hid hq
        clear hq hm hlt hi
        cases a1
        all_goals
          go_wp2_with fail
          refine (HQ.out _ HT.out.1).mono ?_
          rintro e w1 ⟨⟨v, rfl, hown⟩, hb⟩
          have hown : w1.ownsRow w.heap.size 58 5 v 2 _ := hown
          obtain ⟨g, cap, hv, hg, hlt⟩ := World.ownsRow.form hown (by omega)
          subst hv
          have hc := hown.cells (g := g) rfl
          have c0 := hc 0 _ rfl
          have c1 := hc 1 _ rfl
          simp [Addr.add] at c0 c1
          rw [HSB.out] at c1
          have l0 : g < w1.heap.size := World.block_lt_of_cell? w1 _ c0
          have HT1 := Lib.hid (HT.out.below hb)
          have HB := Lib.hid hb
          have C0 := Lib.hid c0
          have C1 := Lib.hid c1
          clear hown hc hb c0 c1
          go_wp2_with fail
          refine (lx.awake_any _ HT1.out.1).mono ?_
          rintro e w2 ⟨rfl, hb2⟩
          have c0 := (hb2.cell (p := ⟨g, 0, none⟩) l0).trans C0.out
          have c1 := (hb2.cell (p := ⟨g, 1, none⟩) l0).trans C1.out
          have HL := Lib.hid (HB.out.trans (hb2.mono HB.out.size))
          clear hb2 C0 C1 HB HQ HSB
          go_wp2
          go_ret
          exact ⟨rfl, HL.out⟩
end Go.Proofs.YtjjihijkkljbnaaDoor.lexLimits
