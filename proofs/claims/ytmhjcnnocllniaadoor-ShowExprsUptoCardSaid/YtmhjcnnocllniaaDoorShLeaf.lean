/-
  What the two listed tables give; operators' words, numbers' digits, in the program and in the document's answer; types' names.
-/
import Derived.Test.YtmhjcnnocllniaaDoorShTx
import Derived.Test.YtmhjcnnocllniaaDoorShItoa
import Derived.Lib.LaidTab
import Derived.Lib.AppendIntMem
import Derived.LaidMore
import Derived.LaidLaws
import Derived.WalkSpells
import Derived.Laws.BytesArg
import Derived.Stop.Joined
namespace Go.Proofs.YtmhjcnnocllniaaDoor.sh
open Go.ChangeShapes Go.WideShapes Go.ChangeAt Go.RowKit Go.Proofs.YtmhjcnnocllniaaDoor.tr
set_option linter.unusedVariables false

/-- the table of words -/
def wtab : List (List UInt8) := (List.range 17).map wordL
def wtabA : Array Value := (wtab.map fun z => Value.string ⟨z.toArray⟩).toArray
def Laid (w : World) : Prop := (∃ t fr, w.heap[0]? = some (.cells wtabA t fr)) ∧ Lib.TabIs Tryd.prog w "internal/strconv.uint64pow10" .u64 Lib.pow10Tab

theorem gWords : Tryd.prog.globalNamed "metronome/nums.words" = some 0 := by kernel_rfl
theorem gPow : Tryd.prog.globalNamed "internal/strconv.uint64pow10" = some 1 := by kernel_rfl
theorem lt_some {w : World} {k : Nat} {o : Obj} (h : w.heap[k]? = some o) : k < w.heap.size := by
  rcases Nat.lt_or_ge k w.heap.size with h' | h'
  · exact h'
  · simp [Array.getElem?_eq_none h'] at h
theorem tab_below {w w' : World} {B : Nat} {cs : List Int} (hb : Below B w w') (hB : w.heap.size ≤ B) (h : Lib.TabIs Tryd.prog w "internal/strconv.uint64pow10" .u64 cs) : Lib.TabIs Tryd.prog w' "internal/strconv.uint64pow10" .u64 cs := by
  unfold Lib.TabIs World.var? at h ⊢
  rw [gPow] at h ⊢
  simp only [Option.bind_some] at h ⊢
  split at h
  · rename_i c t fr hh
    rw [hb.block _ (Nat.lt_of_lt_of_le (lt_some hh) hB), hh]
    exact h
  · cases h
theorem Laid.below {w w' : World} (h : Laid w) (hb : Below w.heap.size w w') : Laid w' := by
  obtain ⟨⟨t, fr, h1⟩, h2⟩ := h
  exact ⟨⟨t, fr, (hb.block _ (lt_some h1)).trans h1⟩, tab_below hb (Nat.le_refl _) h2⟩
theorem Laid.word {w : World} (h : Laid w) (i : Nat) (hi : i < 17) : w.cell? ⟨0, i, none⟩ = some (.string ⟨(wordL i).toArray⟩) := by
  obtain ⟨⟨t, fr, h1⟩, _⟩ := h
  rw [cell_of_row w _ i wtabA t fr h1]
  simp [wtabA, wtab, hi]

def StrPost (w : World) (l : List UInt8) (e : Ending) (w' : World) : Prop := (∃ s : ByteArray, e = .returned (.string s) ∧ bs s = l) ∧ Below w.heap.size w w'

theorem words17 (P : Nat → Prop) (h : P 1 ∧ P 2 ∧ P 3 ∧ P 4 ∧ P 5 ∧ P 6 ∧ P 7 ∧ P 8 ∧ P 9 ∧ P 10 ∧ P 11 ∧ P 12 ∧ P 13 ∧ P 14 ∧ P 15 ∧ P 16) (o : Nat) (h1 : 1 ≤ o) (h2 : o ≤ 16) : P o := by
  obtain ⟨a1, a2, a3, a4, a5, a6, a7, a8, a9, a10, a11, a12, a13, a14, a15, a16⟩ := h
  have : o = 1 ∨ o = 2 ∨ o = 3 ∨ o = 4 ∨ o = 5 ∨ o = 6 ∨ o = 7 ∨ o = 8 ∨ o = 9 ∨ o = 10 ∨ o = 11 ∨ o = 12 ∨ o = 13 ∨ o = 14 ∨ o = 15 ∨ o = 16 := by omega
  rcases this with rfl | rfl | rfl | rfl | rfl | rfl | rfl | rfl | rfl | rfl | rfl | rfl | rfl | rfl | rfl | rfl <;> assumption

/-- nums.Word -/
theorem word_any (o : Nat) (h1 : 1 ≤ o) (h2 : o ≤ 16) (w : World) (hL : Laid w) :
    Calls Tryd.prog 25 #[.int .u8 o] w fun e w' => e = .returned (.string ⟨(wordL o).toArray⟩) ∧ w' = w := by
  have hc := hL.word o (by omega)
  clear hL
  have i0 : (0 : Int) ≤ (o : Int) := Int.natCast_nonneg _
  have i1 : (o : Int) < 17 := by omega
  have i2 : ¬ (17 : Int) ≤ (o : Int) := by omega
  go_enter Tryd.func25, Tryd.ntmps25
  go_wp2_with fail
  go_ret
  exact ⟨rfl, rfl⟩

/-- the document's Word -/
theorem rword_any (o : Nat) (h1 : 1 ≤ o) (h2 : o ≤ 16) (w : World) :
    Calls Tryd.prog 19 #[.int .u8 o] w fun e w' => e = .returned (.string ⟨(wordL o).toArray⟩) ∧ w' = w := by
  revert o
  intro o h1 h2
  refine words17 (fun o => Calls Tryd.prog 19 #[.int .u8 (o : Nat)] w fun e w' => e = .returned (.string ⟨(wordL o).toArray⟩) ∧ w' = w) ?_ o h1 h2
  refine ⟨?_, ?_, ?_, ?_, ?_, ?_, ?_, ?_, ?_, ?_, ?_, ?_, ?_, ?_, ?_, ?_⟩
  all_goals
    go_enter Tryd.func19, Tryd.ntmps19
    go_wp2_with fail
    go_ret
    exact ⟨rfl, rfl⟩

/-- show.truth -/
theorem truth_any (n : Int) (h : n = 0 ∨ n = 1) (w : World) :
    Calls Tryd.prog 23 #[.int .i32 n] w fun e w' => e = .returned (.string ⟨(if n = 0 then [102, 97, 108, 115, 101] else [116, 114, 117, 101] : List UInt8).toArray⟩) ∧ w' = w := by
  rcases h with rfl | rfl
  all_goals
    go_enter Tryd.func23, Tryd.ntmps23
    go_wp2_with fail
    go_ret
    exact ⟨rfl, rfl⟩

theorem conv_one (v : Int) (wr : World) : (convert 43 9 (.slice (some ⟨wr.heap.size, 0, none⟩) 1 1)).run Tryd.prog (wr.alloc (.cells #[.int .u8 v] 5)) = .ok (.string (strOfNums [v])) (wr.alloc (.cells #[.int .u8 v] 5)) :=
  run_convert_bytes_arg _ 43 5 Tryd.underlying43 Tryd.underlying5 wr.heap.size 0 1 1 [v] rfl (fun i hi => by
    obtain rfl : i = 0 := by omega
    simp) 9 Tryd.underlying9

theorem one_byte (n : Nat) : strOfNums [((n : Nat) : Int)] = ⟨#[UInt8.ofNat n]⟩ := by simp [strOfNums]

theorem dig_len (n : Nat) (hn : n < 18446744073709551616) : (Lib.decDigits n).length ≤ 20 := by rw [Lib.decDigits_length]; exact Lib.nDigits_le20 n (by omega)
theorem size_of {s : ByteArray} {l : List UInt8} (h : bs s = l) : s.size = l.length := by rw [← h, bs_len]
theorem bs_app (a b : ByteArray) : bs (a ++ b) = bs a ++ bs b := by simp [bs]

set_option maxRecDepth 100000 in
/-- the document's digits -/
theorem digits_any (n : Nat) : ∀ (w : World), n < 18446744073709551616 →
    Calls Tryd.prog 31 #[.int .u64 n] w (StrPost w (Lib.decDigits n)) := by
  induction n using Nat.strongRecOn with
  | _ n ih =>
    intro w hn
    unfold StrPost
    by_cases h10 : n < 10
    · have i0 : (n : Int) < 10 := by omega
      have e1 : (48 : Int) + (n : Int) = ((48 + n : Nat) : Int) := by omega
      have kc := conv_one ((48 + n : Nat) : Int) w
      rw [one_byte, ← e1] at kc
      have HD : Hid (Lib.decDigits n = [UInt8.ofNat (48 + n)]) := Lib.hid (Lib.decDigits_one h10)
      have HB := Lib.hid ((Below.refl w.heap.size w).alloc (Nat.le_refl _) (.cells #[.int .u8 (48 + (n : Int))] 5))
      have hw3 : IntKind.u8.wrap (48 + (n : Int)) = 48 + (n : Int) := by simp [IntKind.wrap, IntKind.bits, IntKind.signed]; omega
      clear ih hn e1
      go_enter Tryd.func31, Tryd.ntmps31
      go_wp2_with fail
      go_ret
      exact ⟨⟨_, rfl, by rw [HD.out, UInt8.ofNat_add]; rfl⟩, HB.out⟩
    · have i0 : ¬ (n : Int) < 10 := by omega
      have HA := Lib.hid (fun wx => ih (n / 10) (by omega) wx (by omega))
      have HM := Lib.hid (fun wx => ih (n % 10) (by omega) wx (by omega))
      have HD : Hid (Lib.decDigits n = Lib.decDigits (n / 10) ++ Lib.decDigits (n % 10)) := Lib.hid (by rw [Lib.decDigits, dif_neg h10, Lib.decDigits_one (show n % 10 < 10 by omega)])
      have ha := dig_len (n / 10) (by omega)
      have hm := dig_len (n % 10) (by omega)
      clear ih
      go_enter Tryd.func31, Tryd.ntmps31
      go_wp2_with fail
      refine (HA.out _).mono ?_
      rintro e w1 ⟨⟨s1, rfl, hs1⟩, hb1⟩
      have hz1 := size_of hs1
      have HB1 := Lib.hid hb1
      have HS1 := Lib.hid hs1
      clear hb1 hs1
      go_wp2_with fail
      refine (HM.out _).mono ?_
      rintro e w2 ⟨⟨s2, rfl, hs2⟩, hb2⟩
      have hz2 := size_of hs2
      have HB2 := Lib.hid (HB1.out.trans (hb2.mono HB1.out.size))
      have HS2 := Lib.hid hs2
      clear hb2 hs2
      go_wp2_with fail
      go_ret
      exact ⟨⟨_, rfl, by rw [HD.out, bs_app, HS1.out, HS2.out]⟩, HB2.out⟩

set_option maxRecDepth 100000 in
/-- the document's Num -/
theorem num_any (n : Int) (h0 : -2147483648 ≤ n) (h1 : n ≤ 2147483647) (w : World) :
    Calls Tryd.prog 17 #[.int .i64 n] w (StrPost w (Lib.itoa n)) := by
  unfold StrPost
  by_cases hn : n < 0
  · obtain ⟨u, rfl⟩ : ∃ u : Nat, n = -(u : Int) := ⟨n.natAbs, by omega⟩
    have hu := dig_len u (by omega)
    have HC : Hid (∀ wx, Calls Tryd.prog 31 #[.int .u64 (-(-(u : Int) + 1) + 1)] wx (StrPost wx (Lib.decDigits u))) := Lib.hid (fun wx => by rw [show -(-(u : Int) + 1) + 1 = u by omega]; exact digits_any u wx (by omega))
    have HI : Hid (Lib.itoa (-(u : Int)) = 45 :: Lib.decDigits u) := Lib.hid (Lib.itoa_neg u (by omega))
    go_enter Tryd.func17, Tryd.ntmps17
    go_wp2_with fail
    refine (HC.out _).mono ?_
    rintro e w1 ⟨⟨s1, rfl, hs1⟩, hb1⟩
    have hz1 := size_of hs1
    have HB1 := Lib.hid hb1
    have HS1 := Lib.hid hs1
    clear hb1 hs1
    go_wp2_with fail
    go_ret
    exact ⟨⟨_, rfl, by rw [HI.out, bs_app, HS1.out]; rfl⟩, HB1.out⟩
  · obtain ⟨u, rfl⟩ := Int.eq_ofNat_of_zero_le (show 0 ≤ n by omega)
    have HC := Lib.hid (fun wx => digits_any u wx (by omega))
    have HI : Hid (Lib.itoa (u : Int) = Lib.decDigits u) := Lib.hid (Lib.itoa_nonneg u)
    go_enter Tryd.func17, Tryd.ntmps17
    go_wp2_with fail
    refine (HC.out _).mono ?_
    rintro e w1 ⟨⟨s1, rfl, hs1⟩, hb1⟩
    have HB1 := Lib.hid hb1
    have HS1 := Lib.hid hs1
    clear hb1 hs1
    go_wp2_with fail
    go_ret
    exact ⟨⟨_, rfl, by rw [HI.out, HS1.out]⟩, HB1.out⟩
end Go.Proofs.YtmhjcnnocllniaaDoor.sh
