/-
  Words with blanks, line ends and remarks between them are read as the same words as with one blank each (of more than thirty words the law says nothing). Condition: the table of signs, lex.signs, holds at the call's begin what the program's text lays; the card ties that to the text. The walk.
-/
import Derived.Test.YtbhibfadccghmaaDoorRows
import Derived.Test.YtbhibfadccghmaaDoorLxLaid
import Derived.Test.YtbhibfadccghmaaDoorLxGaps
import Derived.WalkKit
import Derived.ProofKit
import Derived.OpenShut
import Derived.Below
import Derived.Lib.Hide
import Derived.Outline
import Derived.Deep.LoopGhost
namespace Go.Proofs.YtbhibfadccghmaaDoor.lexBlanks
open Go.ChangeShapes Go.WideShapes Go.ChangeAt Go.RowKit
set_option linter.unusedVariables false
/-- WHAT THE WALK IS TOLD OF A SLICE OF INTEGERS THAT CAME IN: it is nil; or it leads to a row of 'cap' cells, the numbers 'zs' (the first 'len' are its elements, the rest its spare room), each fitting its kind. -/
def IsRow (k : IntKind) (w : World) (a : Option Addr) (len cap : Nat) (zs : List Int) : Prop :=
  (a = none ∧ len = 0 ∧ cap = 0 ∧ zs = []) ∨
  ∃ x, a = some x ∧ len ≤ cap ∧ cap ≤ maxLen ∧ zs.length = cap ∧ (∀ i, i < zs.length → w.cell? (x.add i) = some (.int k (zs.getD i 0))) ∧ ∀ n ∈ zs, (Lit.int k n).wf = true

/-- the first loop's relation: the words and gaps so far -/
structure Rel (w : World) (tb ub : ByteArray) (n : Nat) (l : List (List UInt8 × List UInt8)) : Prop where
  t : tb.data.toList = lx.src (l.map fun x => (x.1, [32]))
  u : ub.data.toList = lx.src l
  ok : ∀ x ∈ l, (∃ k v, lx.IsWord x.1 k v) ∧ ∃ g, x.2 = 32 :: g ∧ lx.GapOk x.2
  len : l.length = n
  tz : tb.size ≤ n * 40
  uz : ub.size ≤ n * 40

theorem Rel.step {w : World} {tb ub : ByteArray} {n : Nat} {l : List (List UInt8 × List UInt8)} (h : Rel w tb ub n l) (k : Nat) (ps : List Nat) (g : List UInt8) (hg : lx.GapOk (32 :: g)) (hgl : g.length ≤ 13) :
    Rel w (tb ++ ((⟨(lx.wordS k ps).toArray⟩ : ByteArray) ++ ⟨#[32]⟩)) (ub ++ (((⟨(lx.wordS k ps).toArray⟩ : ByteArray) ++ ⟨#[32]⟩) ++ ⟨g.toArray⟩)) (n + 1) (l ++ [(lx.wordS k ps, 32 :: g)]) := by
  have hw := lx.wordS_len k ps
  have z1 : (⟨(lx.wordS k ps).toArray⟩ : ByteArray).size = (lx.wordS k ps).length := by show (lx.wordS k ps).toArray.size = _; simp
  have z2 : (⟨g.toArray⟩ : ByteArray).size = g.length := by show g.toArray.size = _; simp
  have z3 : (⟨#[32]⟩ : ByteArray).size = 1 := rfl
  refine ⟨?_, ?_, ?_, by simp [h.len], ?_, ?_⟩
  · rw [List.map_append]
    simp only [List.map_cons, List.map_nil]
    rw [lx.src_app, ← h.t]
    simp
  · rw [lx.src_app, ← h.u]
    simp
  · intro x hx
    rcases List.mem_append.1 hx with hx | hx
    · exact h.ok x hx
    · rw [List.mem_singleton] at hx
      subst hx
      exact ⟨lx.wordS_word k ps, g, rfl, hg⟩
  · have := h.tz
    rw [ByteArray.size_append, ByteArray.size_append, z1, z3]; omega
  · have := h.uz
    rw [ByteArray.size_append, ByteArray.size_append, ByteArray.size_append, z1, z2, z3]; omega

theorem walk (a0 : Option Addr) (len0 cap0 : Nat) (z0 : List Int) (a1 : Option Addr) (len1 cap1 : Nat) (z1 : List Int) (w : World) (w0 : IsRow .u8 w a0 len0 cap0 z0) (w1 : IsRow .u8 w a1 len1 cap1 z1) (hT : lx.Laid w) :
    Calls Tryd.prog 6 #[.slice a0 len0 cap0, .slice a1 len1 cap1] w fun e w' => e = .returned (.bool true) ∧ Below w.heap.size w w' := by
  obtain ⟨⟨ps0, hb0⟩, hm0⟩ := lx.bytes_of w0
  obtain ⟨⟨ps1, hb1⟩, hm1⟩ := lx.bytes_of w1
  unfold maxLen at hm0 hm1
  have HT := Lib.hid hT
  have HB0 := Lib.hid hb0
  have HB1 := Lib.hid hb1
  clear hT w0 w1 hb0 hb1
  by_cases h30 : 30 < len0
  · go_enter Tryd.func6, Tryd.ntmps6
    go_wp2_with fail
    refine (lx.awake_any _ HT.out).mono ?_
    rintro e w2 ⟨rfl, hb2⟩
    have HB2 := Lib.hid hb2
    clear hb2
    go_wp2_with fail
    refine (lx.awake_any _ (HT.out.below HB2.out)).mono ?_
    rintro e w3 ⟨rfl, hb3⟩
    have HB3 := Lib.hid hb3
    clear hb3
    go_wp2_with fail
    go_ret
    exact ⟨rfl, HB2.out.trans (HB3.out.mono HB2.out.size)⟩
  · go_enter Tryd.func6, Tryd.ntmps6
    go_wp2_with fail
    refine (lx.awake_any _ HT.out).mono ?_
    rintro e w2 ⟨rfl, hb2⟩
    have HB2 := Lib.hid hb2
    clear hb2
    go_wp2_with fail
    go_loopw [6, 7, 8] (fun tv uv iv wr => ∃ (n : Nat) (tb ub : ByteArray) (l : List (List UInt8 × List UInt8)), n ≤ len0 ∧ iv = .int .i64 n ∧ tv = .string tb ∧ uv = .string ub ∧ tb.size ≤ n * 40 ∧ ub.size ≤ n * 40 ∧ Hid (Rel w tb ub n l) ∧ Hid (lx.Has wr w2.heap.size 9 lx.blanksA ∧ Below w.heap.size w wr)) (fun _ _ iv _ => len0 - (intOf iv).toNat)
    case atStart => exact ⟨0, _, _, [], by omega, rfl, rfl, rfl, by decide, by decide, Lib.hid ⟨rfl, rfl, fun x hx => by simp at hx, rfl, by decide, by decide⟩, Lib.hid ⟨lx.Has.new w2 9 lx.blanksA, HB2.out.alloc HB2.out.size _⟩⟩
    case round =>
      obtain ⟨n, tb, ub, l, hn, rfl, rfl, rfl, htz, huz, HR, HW⟩ := hrel
      by_cases hlt : n < len0
      · obtain ⟨b, off, rfl, hc, hv⟩ := (HB0.out.below HW.out.2 (Nat.le_refl _)).2 n hlt
        obtain ⟨kv, hkv⟩ : ∃ kv, kv = ps0.getD n 0 := ⟨_, rfl⟩
        rw [← hkv] at hc hv
        have hbw : lx.Bytes (wr.alloc (.cells #[.int .u8 n] 5)) (some ⟨wr.heap.size, 0, none⟩) 1 [n] := ⟨rfl, fun i hi => by
          obtain rfl : i = 0 := by omega
          exact ⟨_, _, rfl, by simp, by simp; omega⟩⟩
        have hw := lx.word_any kv (some ⟨wr.heap.size, 0, none⟩) 1 1 [n] (wr.alloc (.cells #[.int .u8 n] 5)) hv (by decide) hbw
        have hwl := lx.wordS_len kv [n]
        have z1 : (⟨(lx.wordS kv [n]).toArray⟩ : ByteArray).size ≤ 9 := by show (lx.wordS kv [n]).toArray.size ≤ 9; simpa using hwl
        have HWA := Lib.hid hw
        have hst := HR.out.step kv [n]
        have HST := Lib.hid hst
        generalize (⟨(lx.wordS kv [n]).toArray⟩ : ByteArray) = wb at *
        clear hkv hbw hw hwl hst
        have hlow : Below w.heap.size w (wr.alloc (.cells #[.int .u8 n] 5)) := HW.out.2.alloc HW.out.2.size _
        have HL := Lib.hid hlow
        have hhb := HW.out.1.alloc (.cells #[.int .u8 n] 5)
        have HHB := Lib.hid hhb
        have hz2 := HB2.out.size
        clear hlow hhb
        go_wp2_with fail
        refine HWA.out.mono ?_
        rintro e w4 ⟨rfl, hb4⟩
        have hw4 : Below w.heap.size w w4 := HL.out.trans (hb4.mono HL.out.size)
        have hk4 := HHB.out.below hb4 HHB.out.lt
        have HW4 := Lib.hid (And.intro hk4 hw4)
        clear hb4 hk4 hw4 HWA hc
        by_cases hg : n < len1
        · obtain ⟨b1, off1, rfl, hc1, hv1⟩ := (HB1.out.below HW4.out.2 (Nat.le_refl _)).2 n hg
          obtain ⟨gv, hgv⟩ : ∃ gv, gv = ps1.getD n 0 := ⟨_, rfl⟩
          rw [← hgv] at hc1 hv1
          have hg6 : gv % 6 < 6 := Nat.mod_lt _ (by decide)
          have hcb := (HW4.out.1.cell (gv % 6)).trans (lx.blanksA_at (gv % 6) hg6)
          have hgl := lx.blanks_len (gv % 6) hg6
          have z2 : (⟨(lx.blanksG.getD (gv % 6) []).toArray⟩ : ByteArray).size ≤ 13 := by show (lx.blanksG.getD (gv % 6) []).toArray.size ≤ 13; simpa using hgl
          have hs2 := HST.out (lx.blanksG.getD (gv % 6) []) (lx.blanks_gap _ hg6) hgl
          generalize (⟨(lx.blanksG.getD (gv % 6) []).toArray⟩ : ByteArray) = gb at *
          have HS2 := Lib.hid hs2
          clear hgv hgl hs2 HST
          go_wp2
          go_roundw
          case rel => exact ⟨n + 1, _, _, _, by omega, by go_num, rfl, rfl, HS2.out.tz, HS2.out.uz, HS2, HW4⟩
          case measure => simp [intOf]; omega
        · have hs2 := HST.out [32] (lx.blanks_gap 0 (by decide)) (by decide)
          have HS2 := Lib.hid hs2
          clear hs2 HST
          go_wp2
          go_roundw
          case rel => exact ⟨n + 1, _, _, _, by omega, by go_num, rfl, rfl, HS2.out.tz, HS2.out.uz, HS2, HW4⟩
          case measure => simp [intOf]; omega
      · obtain ⟨ts, ht1, ht2⟩ := lx.words_src (l.map fun x => (x.1, [32])) (fun x hx => by
          obtain ⟨y, hy, rfl⟩ := List.mem_map.1 hx
          exact ⟨(HR.out.ok y hy).1, [], rfl, lx.gap_one⟩) (by rw [← HR.out.t]; have : tb.data.toList.length = tb.size := by simp
                                                               omega)
        obtain ⟨us, hu1, hu2⟩ := lx.words_src l HR.out.ok (by rw [← HR.out.u]; have : ub.data.toList.length = ub.size := by simp
                                                              omega)
        have hq1 := lx.words_any tb
        rw [HR.out.t, ht1] at hq1
        have hq2 := lx.words_any ub
        rw [HR.out.u, hu1] at hq2
        have hsame : ts.map lx.strip = us.map lx.strip := by rw [ht2, hu2, List.map_map]; rfl
        have hlen : ts.length = us.length := by have := congrArg List.length hsame; simpa using this
        have hpos : 0 < ts.length := by have := congrArg List.length ht2; simp at this; omega
        have htlen : ts.length ≤ 31 := by have := congrArg List.length ht2; have h2 := HR.out.len; simp at this; omega
        have HQ1 := Lib.hid hq1
        have HQ2 := Lib.hid hq2
        have HS := Lib.hid hsame
        have HLEN := Lib.hid hlen
        clear hq1 hq2 hsame ht1 ht2 hu1 hu2 hlen
        go_wp2_with fail
        refine (HQ1.out _ (HT.out.below HW.out.2)).mono ?_
        rintro e w5 ⟨⟨v1, rfl, hown1⟩, hb5⟩
        have hown1 : w5.ownsRow wr.heap.size 44 5 v1 ts.length _ := hown1
        obtain ⟨g1, cap1', hv1, hg1, hlt1⟩ := World.ownsRow.form hown1 hpos
        subst hv1
        have HO1 := Lib.hid hown1
        have HB5 := Lib.hid hb5
        clear hown1 hb5
        go_wp2_with fail
        refine (HQ2.out _ ((HT.out.below HW.out.2).below HB5.out)).mono ?_
        rintro e w6 ⟨⟨v2, rfl, hown2⟩, hb6⟩
        have hown2 : w6.ownsRow w5.heap.size 44 5 v2 us.length _ := hown2
        rw [← HLEN.out] at hown2
        obtain ⟨g2, cap2', hv2, hg2, hlt2⟩ := World.ownsRow.form hown2 hpos
        subst hv2
        have HO2 := Lib.hid hown2
        have HB6 := Lib.hid hb6
        clear hown2 hb6
        go_wp2_with fail
        obtain ⟨wo, hwo⟩ : ∃ wo : World, wo = wr := ⟨_, rfl⟩
        subst hwo
        go_loopw [15] (fun iv wr => ∃ n : Nat, n ≤ ts.length ∧ iv = .int .i64 n ∧ Hid (Below w6.heap.size w6 wr)) (fun iv _ => ts.length - (intOf iv).toNat)
        case atStart => exact ⟨0, by omega, rfl, Lib.hid (Below.refl _ _)⟩
        case round =>
          obtain ⟨i, hi, rfl, HI⟩ := hrel
          by_cases hlt2 : i < ts.length
          · have hlt3 : i < us.length := by rw [← HLEN.out]; exact hlt2
            have hO1 := HO1.out
            have hO2 := HO2.out
            rw [HLEN.out] at hO2
            obtain ⟨a1c, a2c, a3c, a4c, a5c⟩ := lx.tok_at hO1 i hlt2
            obtain ⟨b1c, b2c, b3c, b4c, b5c⟩ := lx.tok_at hO2 i hlt3
            have hg1w : g1 < w5.heap.size := World.block_lt_of_cell? w5 _ a1c
            have hg2w : g2 < w6.heap.size := World.block_lt_of_cell? w6 _ b1c
            have hsz := HB6.out.size
            have k5 : ∀ o, wr.cell? ⟨g1, o, none⟩ = w5.cell? ⟨g1, o, none⟩ := fun o => (HI.out.cell (p := ⟨g1, o, none⟩) (by show g1 < _; omega)).trans (HB6.out.cell (p := ⟨g1, o, none⟩) hg1w)
            have k6 : ∀ o, wr.cell? ⟨g2, o, none⟩ = w6.cell? ⟨g2, o, none⟩ := fun o => HI.out.cell (p := ⟨g2, o, none⟩) hg2w
            rw [← k5] at a1c a2c a3c a4c a5c
            rw [← k6] at b1c b2c b3c b4c b5c
            have hst : lx.strip ts[i] = lx.strip us[i] := by
              have h1 : (ts.map lx.strip)[i]? = (us.map lx.strip)[i]? := by rw [HS.out]
              simpa [hlt2, hlt3] using h1
            simp only [lx.strip, Prod.mk.injEq] at hst
            obtain ⟨e1, e2, e3⟩ := hst
            rw [← e1] at b1c
            rw [← e2] at b2c
            rw [← e3] at b3c
            generalize (⟨ts[i].text.toArray⟩ : ByteArray) = tx at *
            generalize (ts[i].kind : Int) = kx at *
            generalize ts[i].num = nx at *
            generalize (ts[i].line : Int) = lx1 at *
            generalize (ts[i].col : Int) = cx1 at *
            generalize (us[i].line : Int) = lx2 at *
            generalize (us[i].col : Int) = cx2 at *
            have hgw1 : g1 < wr.heap.size := World.block_lt_of_cell? wr _ a1c
            have hgw2 : g2 < wr.heap.size := World.block_lt_of_cell? wr _ b1c
            clear e1 e2 e3 k5 k6 hO1 hO2 hg1w hg2w hsz
            go_wp2_with fail
            have hi0 : (0 : Int) ≤ (i : Int) := Int.natCast_nonneg _
            have hi1 : (i : Int) < (ts.length : Int) := by omega
            have HAll := Lib.hid (And.intro a1c (And.intro a2c (And.intro a3c (And.intro a4c a5c))))
            go_region_held3 (fun w' => w'.cell? ⟨g1, i * 5, none⟩ = some (.int .u8 kx) ∧ w'.cell? ⟨g1, i * 5 + 1, none⟩ = some (.string tx) ∧ w'.cell? ⟨g1, i * 5 + 2, none⟩ = some (.int .i32 nx) ∧ w'.cell? ⟨g1, i * 5 + 3, none⟩ = some (.int .i64 lx1) ∧ w'.cell? ⟨g1, i * 5 + 4, none⟩ = some (.int .i64 cx1) ∧ w'.cell? ⟨g2, i * 5, none⟩ = some (.int .u8 kx) ∧ w'.cell? ⟨g2, i * 5 + 1, none⟩ = some (.string tx) ∧ w'.cell? ⟨g2, i * 5 + 2, none⟩ = some (.int .i32 nx) ∧ w'.cell? ⟨g2, i * 5 + 3, none⟩ = some (.int .i64 lx2) ∧ w'.cell? ⟨g2, i * 5 + 4, none⟩ = some (.int .i64 cx2))
              (first | go_keep | (go_split_ands; refine ⟨?_, ?_, ?_, ?_, ?_, ?_, ?_, ?_, ?_, ?_⟩ <;> first | (rw [hb7.cell (p := ⟨g1, _, none⟩) (by simpa using hgw1)]; assumption) | (rw [hb7.cell (p := ⟨g2, _, none⟩) (by simpa using hgw2)]; assumption)))
              (first | (go_at_call 21; refine (lx.same_any kx nx lx1 cx1 lx2 cx2 tx _).mono ?_; rintro e w7 ⟨rfl, hb7⟩))
            have hI7 : Below w6.heap.size w6 w7 := HI.out.drew.trans (hb7.mono (by simpa using HI.out.size))
            have HI7 := Lib.hid hI7
            clear hI7 hb7
            go_wp2
            go_roundw
            case rel => exact ⟨i + 1, by omega, by go_num, HI7⟩
            case measure => simp [intOf]; omega
          · obtain rfl : i = ts.length := by omega
            go_wp2
            go_ret
            exact ⟨rfl, ((HW.out.2.trans (HB5.out.mono HW.out.2.size)).trans (HB6.out.mono (Nat.le_trans HW.out.2.size HB5.out.size))).trans (HI.out.mono (Nat.le_trans HW.out.2.size (Nat.le_trans HB5.out.size HB6.out.size)))⟩
end Go.Proofs.YtbhibfadccghmaaDoor.lexBlanks
