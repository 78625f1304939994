/-
  Words that are joined with a blank behind each are read as these words; what lex.Join makes of them is read so again, and is the words with one blank between two (of more than forty words the law says nothing). Condition: the table of signs, lex.signs, holds at the call's begin what the program's text lays; the card ties that to the text. The walk.
-/
import Derived.Test.YtbhibfadccghmaaDoorRows
import Derived.Test.YtbhibfadccghmaaDoorLxLaid
import Derived.Test.YtbhibfadccghmaaDoorLxTail
import Derived.BigRegion
import Derived.WalkKit
import Derived.ProofKit
import Derived.OpenShut
import Derived.Below
import Derived.Lib.Hide
import Derived.Outline
import Derived.Deep.LoopGhost
namespace Go.Proofs.YtbhibfadccghmaaDoor.lexJoins
open Go.ChangeShapes Go.WideShapes Go.ChangeAt Go.RowKit
set_option linter.unusedVariables false
/-- WHAT THE WALK IS TOLD OF A SLICE OF INTEGERS THAT CAME IN: it is nil; or it leads to a row of 'cap' cells, the numbers 'zs' (the first 'len' are its elements, the rest its spare room), each fitting its kind. -/
def IsRow (k : IntKind) (w : World) (a : Option Addr) (len cap : Nat) (zs : List Int) : Prop :=
  (a = none ∧ len = 0 ∧ cap = 0 ∧ zs = []) ∨
  ∃ x, a = some x ∧ len ≤ cap ∧ cap ≤ maxLen ∧ zs.length = cap ∧ (∀ i, i < zs.length → w.cell? (x.add i) = some (.int k (zs.getD i 0))) ∧ ∀ n ∈ zs, (Lit.int k n).wf = true

/-- a word as a cell -/
def strV (x : List UInt8) : Value := .string ⟨x.toArray⟩
/-- the first loop's relation: the words so far -/
structure Rel (tb : ByteArray) (n : Nat) (l : List (List UInt8)) : Prop where
  t : tb.data.toList = lx.src (l.map fun x => (x, [32]))
  ok : ∀ x ∈ l, (∃ k v, lx.IsWord x k v) ∧ lx.EndSame x ∧ x.length ≤ 9
  len : l.length = n
  tz : tb.size ≤ n * 40

theorem Rel.step {tb : ByteArray} {n : Nat} {l : List (List UInt8)} (h : Rel tb n l) (k : Nat) (ps : List Nat) :
    Rel (tb ++ ((⟨(lx.wordS k ps).toArray⟩ : ByteArray) ++ ⟨#[32]⟩)) (n + 1) (l ++ [lx.wordS k ps]) := by
  have hw := lx.wordS_len k ps
  have z1 : (⟨(lx.wordS k ps).toArray⟩ : ByteArray).size = (lx.wordS k ps).length := by show (lx.wordS k ps).toArray.size = _; simp
  have z3 : (⟨#[32]⟩ : ByteArray).size = 1 := rfl
  refine ⟨?_, ?_, by simp [h.len], ?_⟩
  · rw [List.map_append]
    simp only [List.map_cons, List.map_nil]
    rw [lx.src_app, ← h.t]
    simp
  · intro x hx
    rcases List.mem_append.1 hx with hx | hx
    · exact h.ok x hx
    · rw [List.mem_singleton] at hx
      subst hx
      exact ⟨lx.wordS_word k ps, lx.wordS_end k ps, hw⟩
  · have := h.tz
    rw [ByteArray.size_append, ByteArray.size_append, z1, z3]; omega
theorem str_info : (Tryd.prog.info? 9).map (fun i => (i.zero, i.size, i.bytes)) = some (some (.string ⟨#[]⟩), 1, 16) := by kernel_rfl
set_option maxRecDepth 10000 in
set_option maxHeartbeats 8000000 in

theorem walk (a0 : Option Addr) (len0 cap0 : Nat) (z0 : List Int) (a1 : Option Addr) (len1 cap1 : Nat) (z1 : List Int) (w : World) (w0 : IsRow .u8 w a0 len0 cap0 z0) (w1 : IsRow .u8 w a1 len1 cap1 z1) (b1 : len1 ≤ 140737488355328) (hT : lx.Laid w) :
    Calls Tryd.prog 5 #[.slice a0 len0 cap0, .slice a1 len1 cap1] w fun e w' => e = .returned (.bool true) ∧ Below w.heap.size w w' := by
  obtain ⟨i0, hi0, hz0, hz1, hz2⟩ := info_parts str_info
  have hcap1 : len1 ≤ cap1 := by rcases w1 with ⟨_, rfl, rfl, _⟩ | ⟨_, _, h, _⟩ <;> omega
  obtain ⟨⟨ps0, hb0⟩, hm0⟩ := lx.bytes_of w0
  obtain ⟨⟨ps1, hb1⟩, hm1⟩ := lx.bytes_of w1
  unfold maxLen at hm0 hm1
  have HT := Lib.hid hT
  have HB0 := Lib.hid hb0
  have HB1 := Lib.hid hb1
  clear hT w0 w1 hb0 hb1
  by_cases h40 : 40 < len0
  · go_enter Tryd.func5, Tryd.ntmps5
    go_wp2_with fail
    refine (lx.awake_any _ HT.out).mono ?_
    rintro e w2 ⟨rfl, hb2⟩
    have HB2 := Lib.hid hb2
    clear hb2
    go_wp2_with fail
    refine (lx.awake_any _ (HT.out.below HB2.out)).mono ?_
    rintro e w3 ⟨rfl, hb3⟩
    have HB3 := Lib.hid hb3
    clear hb3
    go_wp2_with fail
    go_ret
    exact ⟨rfl, HB2.out.trans (HB3.out.mono HB2.out.size)⟩
  · go_enter Tryd.func5, Tryd.ntmps5
    go_wp2_with fail
    refine (lx.awake_any _ HT.out).mono ?_
    rintro e w2 ⟨rfl, hb2⟩
    have HB2 := Lib.hid hb2
    clear hb2
    go_wp2_with fail
    go_loopw [5, 6, 7] (fun tv uv iv wr => ∃ (n : Nat) (tb : ByteArray) (l : List (List UInt8)), n ≤ len0 ∧ iv = .int .i64 n ∧ tv = .string tb ∧ tb.size ≤ n * 40 ∧ Hid (Rel tb n l) ∧ Hid (wr.ownsRow w.heap.size 9 1 uv n (l.map strV) ∧ Below w.heap.size w wr)) (fun _ _ iv _ => len0 - (intOf iv).toNat)
    case atStart => exact ⟨0, _, [], by omega, rfl, rfl, by decide, Lib.hid ⟨rfl, fun x hx => by simp at hx, rfl, by decide⟩, Lib.hid ⟨World.ownsRow_nil _ _ _ _, HB2.out⟩⟩
    case round =>
      obtain ⟨n, tb, l, hn, rfl, rfl, htz, HR, HW⟩ := hrel
      by_cases hlt : n < len0
      · obtain ⟨b, off, rfl, hc, hv⟩ := (HB0.out.below HW.out.2 (Nat.le_refl _)).2 n hlt
        obtain ⟨kv, hkv⟩ : ∃ kv, kv = ps0.getD n 0 := ⟨_, rfl⟩
        rw [← hkv] at hc hv
        have hbr : b < wr.heap.size := World.block_lt_of_cell? wr _ hc
        obtain ⟨fr, hfr⟩ : ∃ fr : Nat, fr = if len1 < n * 3 then len1 else n * 3 := ⟨_, rfl⟩
        have hfl : fr ≤ len1 := by rw [hfr]; split <;> omega
        have hbt := (HB1.out.below HW.out.2 (Nat.le_refl _)).tail cap1 fr hfl hcap1
        have hw := lx.wordS_len kv (ps1.drop fr)
        have z1 : (⟨(lx.wordS kv (ps1.drop fr)).toArray⟩ : ByteArray).size ≤ 9 := by show (lx.wordS kv (ps1.drop fr)).toArray.size ≤ 9; simpa using hw
        have hst := HR.out.step kv (ps1.drop fr)
        have hall := fun (wz : World) (a' : Option Addr) (ln cp : Nat) (hl : ln ≤ 1152921504606846976) (h : lx.Bytes wz a' ln (ps1.drop fr)) => lx.word_any kv a' ln cp (ps1.drop fr) wz hv hl h
        obtain ⟨wb, hwb⟩ : ∃ wb : ByteArray, wb = ⟨(lx.wordS kv (ps1.drop fr)).toArray⟩ := ⟨_, rfl⟩
        rw [← hwb] at z1 hst
        simp only [← hwb] at hall
        obtain ⟨ws, hws⟩ : ∃ ws, ws = lx.wordS kv (ps1.drop fr) := ⟨_, rfl⟩
        rw [← hws] at hwb hst
        have HWB : Hid (strV ws = .string wb) := Lib.hid (by rw [hwb]; rfl)
        have HST := Lib.hid hst
        have HALL := Lib.hid hall
        have HBT := Lib.hid hbt
        have hsz0 := HW.out.2.size
        clear hbt hw hkv hwb hst hall hws
        have hq : (len1 < n * 3 ∧ cap1 = len1) ∨ (len1 < n * 3 ∧ cap1 ≠ len1) ∨ (n * 3 ≤ len1 ∧ cap1 = n * 3) ∨ (n * 3 ≤ len1 ∧ cap1 ≠ n * 3) := by omega
        rcases hq with ⟨hf, hcf⟩ | ⟨hf, hcf⟩ | ⟨hf, hcf⟩ | ⟨hf, hcf⟩
        focus
          have hfr2 : fr = len1 := by rw [hfr, if_pos (by omega)]
          have hf2 : (len1 : Int) < (n : Int) * 3 := by omega
          have HQ := Lib.hid (HALL.out wr.drew a1 0 0 (by omega) (by have h := HBT.out; rw [if_pos (by omega), show len1 - fr = 0 by omega] at h; exact h))
          clear hfr HALL HBT
          subst hcf
          go_wp2_with fail
          go_region_held3 (fun w' => w'.cell? ⟨b, off + n, none⟩ = some (.int .u8 kv))
            (first | go_keep | (rw [hb4.cell (p := ⟨b, off + n, none⟩) (by simpa using hbr)]; assumption))
            (first | (go_at_call 19; refine HQ.out.mono ?_; rintro e w4 ⟨rfl, hb4⟩))
        rotate_left
        focus
          have hfr2 : fr = len1 := by rw [hfr, if_pos (by omega)]
          have hf2 : (len1 : Int) < (n : Int) * 3 := by omega
          have HQ := Lib.hid (HALL.out wr.drew (a1.map (·.add len1)) 0 (cap1 - len1) (by omega) (by have h := HBT.out; rw [if_neg (by omega), show len1 - fr = 0 by omega, hfr2] at h; rw [hfr2]; exact h))
          clear hfr HALL HBT
          go_wp2_with fail
          go_region_held3 (fun w' => w'.cell? ⟨b, off + n, none⟩ = some (.int .u8 kv))
            (first | go_keep | (rw [hb4.cell (p := ⟨b, off + n, none⟩) (by simpa using hbr)]; assumption))
            (first | (go_at_call 19; refine HQ.out.mono ?_; rintro e w4 ⟨rfl, hb4⟩))
        rotate_left
        focus
          have hfr2 : fr = n * 3 := by rw [hfr, if_neg (by omega)]
          have hl1 : len1 = fr := by omega
          have hc1 : cap1 = fr := by omega
          have hm3 : (n : Int) * 3 = (fr : Int) := by omega
          have HQ := Lib.hid (HALL.out wr.drew a1 0 0 (by omega) (by have h := HBT.out; rw [if_pos hc1, show len1 - fr = 0 by omega] at h; exact h))
          clear hfr hfr2 hf hcf HALL HBT
          subst hl1
          subst hc1
          go_wp2_with fail
          go_region_held3 (fun w' => w'.cell? ⟨b, off + n, none⟩ = some (.int .u8 kv))
            (first | go_keep | (rw [hb4.cell (p := ⟨b, off + n, none⟩) (by simpa using hbr)]; assumption))
            (first | (go_at_call 19; refine HQ.out.mono ?_; rintro e w4 ⟨rfl, hb4⟩))
        rotate_left
        focus
          have hfr2 : fr = n * 3 := by rw [hfr, if_neg (by omega)]
          have hm3 : (n : Int) * 3 = (fr : Int) := by omega
          have hnf : ¬ ((len1 : Int) < (fr : Int)) := by omega
          have hcf2 : ¬ (cap1 = fr) := by omega
          have HQ := Lib.hid (HALL.out wr.drew (a1.map (·.add fr)) (len1 - fr) (cap1 - fr) (by omega) (by have h := HBT.out; rw [if_neg hcf2] at h; exact h))
          clear hfr hfr2 hf hcf HALL HBT
          go_wp2_with fail
          go_region_held3 (fun w' => w'.cell? ⟨b, off + n, none⟩ = some (.int .u8 kv))
            (first | go_keep | (rw [hb4.cell (p := ⟨b, off + n, none⟩) (by simpa using hbr)]; assumption))
            (first | (go_at_call 19; refine HQ.out.mono ?_; rintro e w4 ⟨rfl, hb4⟩))
        rotate_left
        all_goals
          have hlow4 : Below w.heap.size w w4 := HW.out.2.drew.trans (hb4.mono (by simpa using hsz0))
          have hown4 : w4.ownsRow w.heap.size 9 1 u6 n (l.map strV) := lx.owns_below (w := wr.drew) HW.out.1.drew (by simpa using hb4)
          have HW4 := Lib.hid (And.intro hown4 hlow4)
          have hsz4 := hlow4.size
          clear hb4 hlow4 hown4 HQ
          go_wp2_with (at_builtin; refine wpList_append_own _ rfl _ _ 38 rfl w.heap.size 9 i0 (.string ⟨#[]⟩) 1 16 Tryd.underlying38 hi0 hz0 hz1 hz2 rfl (by decide) _ _ _ rfl (HW4.out.1.alloc _) ⟨w4.heap.size, 0, none⟩ 1 1 [.string wb] rfl rfl ?c1 ?c2 ?c3 ?c4 ?c5 ?_)
          case c1 =>
            intro j u hj
            match j, hj with
            | 0, hj => simp at hj; subst hj; simp [Addr.add]
          case c2 => intro u hu; simp at hu; subst hu; rfl
          case c3 => unfold maxLen; omega
          case c4 => omega
          case c5 => simp; omega
          intro v' w5 hown5 hgrow5 _
          have hlow5 : Below w.heap.size w w5 := (HW4.out.2.alloc hsz4 _).grown hgrow5 (by simp; omega) (fun k hk => (HW4.out.1.lt k hk).1)
          have HW5 : Hid (w5.ownsRow w.heap.size 9 1 v' (n + 1) ((l ++ [ws]).map strV) ∧ Below w.heap.size w w5) := Lib.hid ⟨by rw [List.map_append]; simp only [List.map_cons, List.map_nil, HWB.out]; exact hown5, hlow5⟩
          clear hown5 hgrow5 hlow5
          go_wp2
          go_roundw
          case rel => exact ⟨n + 1, _, _, by omega, by go_num, rfl, HST.out.tz, HST, HW5⟩
          case measure => simp [intOf]; omega
      · obtain rfl : n = len0 := by omega
        obtain ⟨ts, ht1, ht2⟩ := lx.words_src (l.map fun x => (x, [32])) (fun x hx => by
          obtain ⟨y, hy, rfl⟩ := List.mem_map.1 hx
          exact ⟨(HR.out.ok y hy).1, [], rfl, lx.gap_one⟩) (by rw [← HR.out.t]; have : tb.data.toList.length = tb.size := by simp
                                                               omega)
        have hrow : lx.Row l ts := ⟨by rw [ht2, List.map_map]; rfl, HR.out.ok⟩
        have hq1 := lx.words_any tb
        rw [HR.out.t, ht1] at hq1
        have hll := HR.out.len
        have htl := hrow.len
        obtain ⟨us, hu1, hu2⟩ := hrow.back (by omega)
        have hq2 := lx.words_any ⟨(lx.joinS ts).toArray⟩
        rw [show (⟨(lx.joinS ts).toArray⟩ : ByteArray).data.toList = lx.joinS ts by simp, hu1] at hq2
        have hul : us.length = ts.length := by have := congrArg List.length hu2; simpa using this
        have hjl := lx.joinS_len ts hrow.text_le
        have HROW := Lib.hid hrow
        have HQ1 := Lib.hid hq1
        have HQ2 := Lib.hid hq2
        have HS := Lib.hid hu2
        have HJL := Lib.hid hjl
        clear hrow hq1 hq2 hu1 hu2 ht1 ht2 hjl
        have HN : Hid (l.length = n ∧ ts.length = n + 1 ∧ us.length = ts.length) := Lib.hid ⟨hll, by omega, hul⟩
        have hpos : 0 < ts.length := by omega
        have hln1 : (n : Int) + 1 = (ts.length : Int) := by omega
        clear hll htl hul
        obtain ⟨aw, cw, hu6⟩ : ∃ aw cw, u6 = .slice aw n cw := by
          rcases Nat.eq_zero_or_pos n with h0 | h0
          · rcases HW.out.1.2 with ⟨hv, _⟩ | ⟨g, cap, cur, hv, _⟩
            · exact ⟨none, 0, by rw [hv, h0]⟩
            · exact ⟨_, _, hv⟩
          · obtain ⟨g, cap, hv, _⟩ := World.ownsRow.form HW.out.1 h0
            exact ⟨_, _, hv⟩
        subst hu6
        go_wp2_with fail
        refine (HQ1.out _ (HT.out.below HW.out.2)).mono ?_
        rintro e w5 ⟨⟨v1, rfl, hown1⟩, hb5⟩
        have hown1 : w5.ownsRow wr.heap.size 44 5 v1 ts.length _ := hown1
        obtain ⟨g1, cap1', hv1, hg1, hlt1⟩ := World.ownsRow.form hown1 hpos
        subst hv1
        have hwant := lx.owns_below HW.out.1 hb5
        have HO1 := Lib.hid hown1
        have HWT := Lib.hid hwant
        have HB5 := Lib.hid hb5
        clear hown1 hb5 hwant
        go_wp2_with fail
        obtain ⟨wo, hwo⟩ : ∃ wo : World, wo = wr := ⟨_, rfl⟩
        subst hwo
        go_loopw [12, 13] (fun jv iv wr => ∃ (i : Nat) (jb : ByteArray), i ≤ n ∧ iv = .int .i64 i ∧ jv = .string jb ∧ jb.size ≤ i * 40 ∧ Hid (jb.data.toList = lx.joinS (ts.take i)) ∧ Hid (Below w5.heap.size w5 wr)) (fun _ iv _ => n - (intOf iv).toNat)
        case atStart => exact ⟨0, _, by omega, rfl, rfl, by decide, Lib.hid (by simp [lx.joinS, lx.joinFrom]), Lib.hid (Below.refl _ _)⟩
        case round =>
          obtain ⟨i, jb, hi, rfl, rfl, hjz, HJ, HI⟩ := hrel
          by_cases hlt2 : i < n
          · have hil : i < l.length := by have := HN.out.1; omega
            have hit : i < ts.length := by have := HN.out.2.1; omega
            obtain ⟨gw, capw, haw, hgw, _⟩ := World.ownsRow.form HWT.out (by omega)
            obtain ⟨rfl, rfl⟩ : aw = some ⟨gw, 0, none⟩ ∧ cw = capw := by simpa using haw
            have hcw := World.ownsRow.cells HWT.out (g := gw) rfl i (strV l[i]) (by simp [hil])
            obtain ⟨_, a2c, _, _, _⟩ := lx.tok_at HO1.out i hit
            have hat := HROW.out.at i hil hit
            rw [hat.1] at a2c
            have hg1w : g1 < w5.heap.size := World.block_lt_of_cell? w5 _ a2c
            rw [add_plain] at hcw
            have hbw : w5.cell? ⟨gw, i, none⟩ = some (strV l[i]) := by simpa using hcw
            have hgww : gw < w5.heap.size := World.block_lt_of_cell? w5 _ hbw
            have k1 := (HI.out.cell (p := ⟨g1, i * 5 + 1, none⟩) hg1w).trans a2c
            have k2 := (HI.out.cell (p := ⟨gw, i, none⟩) hgww).trans hbw
            have hstep := HROW.out.step i hil
            have hx9 := (HROW.out.ok l[i] (List.getElem_mem _)).2.2
            have hxz : (⟨l[i].toArray⟩ : ByteArray).size ≤ 9 := by show l[i].toArray.size ≤ 9; simpa using hx9
            unfold strV at k2
            have hxd : (⟨l[i].toArray⟩ : ByteArray).data.toList = l[i] := by simp
            generalize (⟨l[i].toArray⟩ : ByteArray) = tx at *
            have hgr1 : g1 < wr.heap.size := World.block_lt_of_cell? wr _ k1
            have hgrw : gw < wr.heap.size := World.block_lt_of_cell? wr _ k2
            have HSTEP : Hid (lx.joinS (ts.take (i + 1)) = lx.joinS (ts.take i) ++ ((if 0 < i then [32] else []) ++ tx.data.toList)) := Lib.hid (by rw [hxd]; exact hstep)
            clear hcw a2c hat hg1w hgww hbw hstep hx9 hxd haw hgw
            have hi0 : (0 : Int) ≤ (i : Int) := Int.natCast_nonneg _
            have hi1 : (i : Int) < (ts.length : Int) := by omega
            by_cases hp : 0 < i
            · have hp2 : (0 : Int) < (i : Int) := by omega
              go_wp2_with fail
              go_region_held3 (fun w' => w'.cell? ⟨g1, i * 5 + 1, none⟩ = some (.string tx) ∧ w'.cell? ⟨gw, i, none⟩ = some (.string tx))
                (first | go_keep)
                (fail)
              have HI2 : Hid (Below w5.heap.size w5 wr.drew) := Lib.hid HI.out.drew
              have HJ2 : Hid (((jb ++ ⟨#[32]⟩) ++ tx).data.toList = lx.joinS (ts.take (i + 1))) := Lib.hid (by rw [HSTEP.out, if_pos hp, ← HJ.out]; simp)
              have hz2 : ((jb ++ (⟨#[32]⟩ : ByteArray)) ++ tx).size ≤ (i + 1) * 40 := by
                rw [ByteArray.size_append, ByteArray.size_append, show (⟨#[32]⟩ : ByteArray).size = 1 from rfl]; omega
              go_wp2
              go_roundw
              case rel => exact ⟨i + 1, _, by omega, by go_num, rfl, hz2, HJ2, HI2⟩
              case measure => simp [intOf]; omega
            · have hp2 : ¬ ((0 : Int) < (i : Int)) := by omega
              go_wp2_with fail
              go_region_held3 (fun w' => w'.cell? ⟨g1, i * 5 + 1, none⟩ = some (.string tx) ∧ w'.cell? ⟨gw, i, none⟩ = some (.string tx))
                (first | go_keep)
                (fail)
              have HI2 : Hid (Below w5.heap.size w5 wr.drew) := Lib.hid HI.out.drew
              have HJ2 : Hid ((jb ++ tx).data.toList = lx.joinS (ts.take (i + 1))) := Lib.hid (by rw [HSTEP.out, if_neg hp, ← HJ.out]; simp)
              have hz2 : (jb ++ tx).size ≤ (i + 1) * 40 := by
                rw [ByteArray.size_append]; omega
              go_wp2
              go_roundw
              case rel => exact ⟨i + 1, _, by omega, by go_num, rfl, hz2, HJ2, HI2⟩
              case measure => simp [intOf]; omega
          · obtain rfl : i = n := by omega
            have hjb : jb = ⟨(lx.joinS ts).toArray⟩ := by
              apply ByteArray.ext
              apply Array.ext'
              rw [HJ.out, HROW.out.joined, HN.out.1]
            subst hjb
            have hl1000 : ts.length ≤ 1000 := by have := HN.out.2.1; omega
            have hown5 := lx.owns_below HO1.out HI.out
            have HO5 := Lib.hid hown5
            have hjoin := fun (wz : World) (h : wz.ownsRow wo.heap.size 44 5 (.slice (some ⟨g1, 0, none⟩) ts.length cap1') ts.length (ts.flatMap lx.tokCells)) => lx.join_any ts wo.heap.size g1 cap1' wz h HJL.out hl1000 HROW.out.text_le
            have HJOIN := Lib.hid hjoin
            have HQ2' := HQ2
            clear hown5 hjoin HQ2
            generalize (⟨(lx.joinS ts).toArray⟩ : ByteArray) = js at *
            go_wp2_with fail
            refine (HJOIN.out wr HO5.out).mono ?_
            rintro e w6 ⟨rfl, hb6⟩
            have hlow6 : Below w5.heap.size w5 w6 := HI.out.trans (hb6.mono HI.out.size)
            have HI6 := Lib.hid hlow6
            clear hb6 hlow6
            go_wp2_with fail
            refine (HQ2'.out _ (((HT.out.below HW.out.2).below HB5.out).below HI6.out)).mono ?_
            rintro e w8 ⟨⟨v2, rfl, hown2⟩, hb8⟩
            have hown2 : w8.ownsRow w6.heap.size 44 5 v2 us.length _ := hown2
            rw [HN.out.2.2] at hown2
            obtain ⟨g2, cap2', hv2, hg2, hlt2⟩ := World.ownsRow.form hown2 hpos
            subst hv2
            have hlow8 : Below w5.heap.size w5 w8 := HI6.out.trans (hb8.mono HI6.out.size)
            have HI8 := Lib.hid hlow8
            have HO2 := Lib.hid hown2
            have hown8 := lx.owns_below HO1.out hlow8
            have HO8 := Lib.hid hown8
            clear hb8 hlow8 hown2 hown8
            go_wp2_with fail
            refine (HJOIN.out w8 HO8.out).mono ?_
            rintro e w9 ⟨rfl, hb9⟩
            have hlow9 : Below w5.heap.size w5 w9 := HI8.out.trans (hb9.mono HI8.out.size)
            have hown9 := lx.owns_below HO2.out hb9
            have hown51 := lx.owns_below HO1.out hlow9
            have HI9 := Lib.hid hlow9
            have HO9 := Lib.hid hown9
            have HO51 := Lib.hid hown51
            clear hb9 hlow9 hown9 hown51
            go_wp2_with fail
            obtain ⟨wp, hwp⟩ : ∃ wp : World, wp = wr := ⟨_, rfl⟩
            subst hwp
            go_loopw [15] (fun iv wr => ∃ i : Nat, i ≤ ts.length ∧ iv = .int .i64 i ∧ Hid (Below w9.heap.size w9 wr)) (fun iv _ => ts.length - (intOf iv).toNat)
            case atStart => exact ⟨0, by omega, rfl, Lib.hid (Below.refl _ _)⟩
            case round =>
              obtain ⟨j, hj, rfl, HJI⟩ := hrel
              by_cases hlt3 : j < ts.length
              · have hlt4 : j < us.length := by rw [HN.out.2.2]; exact hlt3
                have hO1 := HO51.out
                have hO2 := HO9.out
                rw [← HN.out.2.2] at hO2
                obtain ⟨a1c, a2c, a3c, a4c, a5c⟩ := lx.tok_at hO1 j hlt3
                obtain ⟨b1c, b2c, b3c, b4c, b5c⟩ := lx.tok_at hO2 j hlt4
                have hg1w : g1 < w9.heap.size := World.block_lt_of_cell? w9 _ a1c
                have hg2w : g2 < w9.heap.size := World.block_lt_of_cell? w9 _ b1c
                have k5 : ∀ o, wr.cell? ⟨g1, o, none⟩ = w9.cell? ⟨g1, o, none⟩ := fun o => HJI.out.cell (p := ⟨g1, o, none⟩) hg1w
                have k6 : ∀ o, wr.cell? ⟨g2, o, none⟩ = w9.cell? ⟨g2, o, none⟩ := fun o => HJI.out.cell (p := ⟨g2, o, none⟩) hg2w
                rw [← k5] at a1c a2c a3c a4c a5c
                rw [← k6] at b1c b2c b3c b4c b5c
                have hst : lx.strip ts[j] = lx.strip us[j] := by
                  have h1 : (us.map lx.strip)[j]? = (ts.map lx.strip)[j]? := by rw [HS.out]
                  have h2 : lx.strip us[j] = lx.strip ts[j] := by simpa [hlt3, hlt4] using h1
                  exact h2.symm
                simp only [lx.strip, Prod.mk.injEq] at hst
                obtain ⟨e1, e2, e3⟩ := hst
                rw [← e1] at b1c
                rw [← e2] at b2c
                rw [← e3] at b3c
                generalize (⟨ts[j].text.toArray⟩ : ByteArray) = tx at *
                generalize (ts[j].kind : Int) = kx at *
                generalize ts[j].num = nx at *
                generalize (ts[j].line : Int) = lx1 at *
                generalize (ts[j].col : Int) = cx1 at *
                generalize (us[j].line : Int) = lx2 at *
                generalize (us[j].col : Int) = cx2 at *
                have hgw1 : g1 < wr.heap.size := World.block_lt_of_cell? wr _ a1c
                have hgw2 : g2 < wr.heap.size := World.block_lt_of_cell? wr _ b1c
                clear e1 e2 e3 k5 k6 hO1 hO2 hg1w hg2w
                go_wp2_with fail
                have hi0 : (0 : Int) ≤ (j : Int) := Int.natCast_nonneg _
                have hi1 : (j : Int) < (ts.length : Int) := by omega
                go_region_held3 (fun w' => w'.cell? ⟨g1, j * 5, none⟩ = some (.int .u8 kx) ∧ w'.cell? ⟨g1, j * 5 + 1, none⟩ = some (.string tx) ∧ w'.cell? ⟨g1, j * 5 + 2, none⟩ = some (.int .i32 nx) ∧ w'.cell? ⟨g1, j * 5 + 3, none⟩ = some (.int .i64 lx1) ∧ w'.cell? ⟨g1, j * 5 + 4, none⟩ = some (.int .i64 cx1) ∧ w'.cell? ⟨g2, j * 5, none⟩ = some (.int .u8 kx) ∧ w'.cell? ⟨g2, j * 5 + 1, none⟩ = some (.string tx) ∧ w'.cell? ⟨g2, j * 5 + 2, none⟩ = some (.int .i32 nx) ∧ w'.cell? ⟨g2, j * 5 + 3, none⟩ = some (.int .i64 lx2) ∧ w'.cell? ⟨g2, j * 5 + 4, none⟩ = some (.int .i64 cx2))
                  (first | go_keep | (go_split_ands; refine ⟨?_, ?_, ?_, ?_, ?_, ?_, ?_, ?_, ?_, ?_⟩ <;> first | (rw [hb7.cell (p := ⟨g1, _, none⟩) (by simpa using hgw1)]; assumption) | (rw [hb7.cell (p := ⟨g2, _, none⟩) (by simpa using hgw2)]; assumption)))
                  (first | (go_at_call 21; refine (lx.same_any kx nx lx1 cx1 lx2 cx2 tx _).mono ?_; rintro e w7 ⟨rfl, hb7⟩))
                have hI7 : Below w9.heap.size w9 w7 := HJI.out.drew.trans (hb7.mono (by simpa using HJI.out.size))
                have HI7 := Lib.hid hI7
                clear hI7 hb7
                go_wp2
                go_roundw
                case rel => exact ⟨j + 1, by omega, by go_num, HI7⟩
                case measure => simp [intOf]; omega
              · obtain rfl : j = ts.length := by omega
                go_wp2
                go_ret
                have z1 := HW.out.2.size
                have z2 := HB5.out.size
                have z3 := HI9.out.size
                exact ⟨rfl, ((HW.out.2.trans (HB5.out.mono z1)).trans (HI9.out.mono (by omega))).trans (HJI.out.mono (by omega))⟩
end Go.Proofs.YtbhibfadccghmaaDoor.lexJoins
