/-
  A merge, given what its kids do.
-/
import Derived.Test.YtnejkgkikpgajaaDoorCkWhen
namespace Go.Proofs.YtnejkgkikpgajaaDoor.ck
open Go.ChangeShapes Go.WideShapes Go.ChangeAt Go.RowKit
open tr Go.Sort
set_option linter.unusedVariables false

theorem CkL.snoc {w : World} {a : Option Addr} {ck : List Smp} (h : CkL w a ck) (s1 s2 : ByteArray) :
    CkL (w.alloc (.cells #[.string s1, .string s2, .pointer a] 163)) (some ⟨w.heap.size, 0, none⟩) ((s1, s2) :: ck) :=
  ⟨w.heap.size, a, rfl, Has.new _ _ _, h.below ((Below.refl _ w).alloc (Nat.le_refl _) _)⟩
theorem cell_grown {w W : World} {g b o : Nat} {v : Value} (hg : w.grownBy W (some g)) (hbg : b ≠ g) (h : w.cell? ⟨b, o, none⟩ = some v) : W.cell? ⟨b, o, none⟩ = some v := by
  have hl := World.block_lt_of_cell? w _ h
  have := hg.block b hl (fun e => hbg (by injection e))
  unfold World.cell? at h ⊢
  rw [this]
  exact h

set_option maxRecDepth 100000 in
set_option maxHeartbeats 4000000 in
theorem merge_of (w0 w : World) (b o g m op : Nat) (n : Int) (nm : ByteArray) (nms : List ByteArray) (kids : List Ex) (l c : Int) (L : List En) (d : Int) (er : Bool) (a : Option Addr) (ck : List Smp)
    (hD : ∀ i (hi : i < kids.length), ExprDoes w0 kids[i]) (hl : LaidAt w0 b o (.mk 13 op n nm nms kids l c)) (hb : Below w0.heap.size w0 w) (hle : w0.heap.size ≤ g) (hS : St w g m L d er) (hck : CkL w a ck) :
    Calls Tryd.prog 88 #[.pointer (some ⟨g, 0, none⟩), .pointer (some ⟨b, o, none⟩), .pointer a] w (CkPost w g m L d (er || !okE L d ck (.mk 13 op n nm nms kids l c))) := by
  obtain ⟨ka0, kc0, hkl0, hk0, d0, d3, d5, d6, d7⟩ := laid_cell hl
  have hlw := hl.below hb
  have hb0 := World.block_lt_of_cell? w0 _ d5
  have hbg : b ≠ g := by have : b < w0.heap.size := hb0; omega
  have c3 := (hb.cell (p := ⟨b, o + 3, none⟩) hb0).trans d3
  have c5 := (hb.cell (p := ⟨b, o + 5, none⟩) hb0).trans d5
  have c6 := (hb.cell (p := ⟨b, o + 6, none⟩) hb0).trans d6
  have c7 := (hb.cell (p := ⟨b, o + 7, none⟩) hb0).trans d7
  have HSG : Hid (∀ W, w.grownBy W (some g) → W.cell? ⟨b, o + 3, none⟩ = some (.string nm) ∧ W.cell? ⟨b, o + 6, none⟩ = some (.int .i64 l) ∧ W.cell? ⟨b, o + 7, none⟩ = some (.int .i64 c)) := Lib.hid (fun W hW => ⟨cell_grown hW hbg c3, cell_grown hW hbg c6, cell_grown hW hbg c7⟩)
  have HKG : Hid (∀ W, w.grownBy W (some g) → W.cell? ⟨b, o + 5, none⟩ = some (.slice ka0 kids.length kc0)) := Lib.hid (fun W hW => cell_grown hW hbg c5)
  have HON : Hid (∀ W, Below w.heap.size w W → Calls Tryd.prog 67 #[.pointer (some ⟨g, 0, none⟩), .string nm, .pointer a] W (OnPost W (onB L d nm ck))) := Lib.hid (fun W hW => on_any W g m L d er nm a ck (hS.below hW) (hck.below hW))
  have HMM : Hid (∀ W, Below w.heap.size w W → Calls Tryd.prog 47 #[.pointer (some ⟨g, 0, none⟩), .bool (onB L d nm ck), .agg #[.int .i64 l, .int .i64 c]] W (CkPost W g m L d (er || !onB L d nm ck))) := Lib.hid (fun W hW => must_any W g m L d er _ l c (hS.below hW))
  have HCS := Lib.hid hS.has
  have HCK := Lib.hid hck
  have HB := Lib.hid hb
  have HL := Lib.hid hl
  have HD := Lib.hid hD
  have HK := Lib.hid hk0
  have HOK : Hid (okE L d ck (.mk 13 op n nm nms kids l c) = (onB L d nm ck && okM L d ck nms nm 0 kids)) := Lib.hid (by cases ck <;> rw [okE, if_neg (by decide), if_neg (by decide), if_pos rfl])
  have HSD := Lib.hid (HSG.out w.drew (grown_below _ (Below.refl _ w).drew))
  unfold maxLen at hkl0
  clear hlw hb0 c3 c5 c6 c7 d0 d3 d5 d6 d7 hS hck hb hl hD hk0
  unfold CkPost OnPost at *
  go_enter Tryd.func88, Tryd.ntmps88
  go_wp2_with fail
  first | go_region_held3 (fun w' => w'.cell? ⟨b, o + 3, none⟩ = some (.string nm) ∧ w'.cell? ⟨b, o + 6, none⟩ = some (.int .i64 l) ∧ w'.cell? ⟨b, o + 7, none⟩ = some (.int .i64 c)) (first | with_reducible exact HS3.out | with_reducible exact HS2.out | with_reducible exact HSD.out | fail) (first
    | (go_at_call 67; refine (HON.out _ (Below.refl _ w).drew).mono ?_; rintro e w2 ⟨rfl, hb2⟩; have HB2 : Hid (Below w.heap.size w w2) := Lib.hid ((Below.refl _ w).drew.trans hb2); have HS2 := Lib.hid (HSG.out w2 (grown_below _ HB2.out)); clear hb2)
    | (go_at_call 47; refine (HMM.out w2 HB2.out).mono ?_; rintro e w3 ⟨rfl, hs3, hg3⟩; have HT3 := Lib.hid hs3; have HG3 := Lib.hid (grown_trans (grown_below (some g) HB2.out) hg3); have HS3 := Lib.hid (HSG.out w3 HG3.out); clear hs3 hg3)
    | fail) | fail
  all_goals
    have u5 := HKG.out w3 HG3.out
    clear HSG HON HMM HSD HS2 HS3
    obtain ⟨vb, hvb⟩ : ∃ vb, vb = onB L d nm ck := ⟨_, rfl⟩
    rw [← hvb] at HT3 HOK
    clear hvb
    go_wp2_with fail
    go_loopw [25] (fun iv wr => ∃ j : Nat, j ≤ kids.length ∧ iv = .int .i64 j ∧ Hid (w.grownBy wr (some g)) ∧ Hid (St wr g m L d (er || !(vb && okM L d ck nms nm 0 (kids.take j)))) ∧ Hid (CkL wr a ck)) (fun iv _ => kids.length - (intOf iv).toNat)
    case atStart =>
      obtain ⟨cs, hcs⟩ := HCS.out
      exact ⟨0, by omega, rfl, HG3, Lib.hid (by rw [List.take_zero, okM, Bool.and_true]; exact HT3.out), Lib.hid (HCK.out.grown HG3.out hcs)⟩
    case round =>
      obtain ⟨j, hj, rfl, HG, HR, HC2⟩ := hrel
      clear u5 HT3 HG3
      by_cases hlt : j < kids.length
      · obtain ⟨kb, ko, rfl, hat⟩ := HK.out.get j hlt
        obtain ⟨⟨s1, s2⟩, hs⟩ : ∃ s, s = smp nms nm j := ⟨_, rfl⟩
        have HSM : Hid (∀ W, Below wr.heap.size wr W → Calls Tryd.prog 95 #[.pointer (some ⟨b, o, none⟩), .int .i64 j] W (SmpPost W (s1, s2))) := Lib.hid (fun W hW => by rw [hs]; exact smp_any W b o j j rfl _ _ _ _ _ _ _ _ (HL.out.below (below_by HB.out (grown_trans HG.out (grown_below (some g) hW)) hle)))
        have HX : Hid (∀ W, Below wr.heap.size wr W → Calls Tryd.prog 68 #[.pointer (some ⟨g, 0, none⟩), .pointer (some ⟨kb, ko + j * 8, none⟩), .pointer (some ⟨W.heap.size, 0, none⟩)] (W.alloc (.cells #[.string s1, .string s2, .pointer a] 163)) (fun e w' => e = .returned (.tuple #[]) ∧ St w' g m L d (er || !(vb && okM L d ck nms nm 0 (kids.take (j + 1)))) ∧ w.grownBy w' (some g))) := Lib.hid (fun W hW => by
          have hal := hW.alloc hW.size (.cells #[.string s1, .string s2, .pointer a] 163)
          have hgr := grown_trans HG.out (grown_below (some g) hal)
          refine (HD.out j hlt _ kb (ko + j * 8) g m L d _ _ ((s1, s2) :: ck) (below_by HB.out hgr hle) hat hle (HR.out.below hal) ((HC2.out.below hW).snoc s1 s2)).mono ?_
          rintro e w' ⟨he, hst, hg'⟩
          refine ⟨he, ?_, grown_trans hgr hg'⟩
          rw [take_snoc kids j hlt, okM_snoc, List.length_take, Nat.min_eq_left (by omega), Nat.zero_add, ← hs]
          have eb2 : (er || !(vb && (okM L d ck nms nm 0 (kids.take j) && okE L d ((s1, s2) :: ck) kids[j]))) = ((er || !(vb && okM L d ck nms nm 0 (kids.take j))) || !okE L d ((s1, s2) :: ck) kids[j]) := by
            cases er <;> cases vb <;> cases okM L d ck nms nm 0 (kids.take j) <;> cases okE L d ((s1, s2) :: ck) kids[j] <;> rfl
          rw [eb2]; exact hst)
        have HKD : Hid (∀ W, Below wr.heap.size wr W → W.cell? ⟨b, o + 5, none⟩ = some (.slice (some ⟨kb, ko, none⟩) kids.length kc0)) := Lib.hid (fun W hW => HKG.out W (grown_trans HG.out (grown_below (some g) hW)))
        have HS1 := Lib.hid (HKD.out wr.drew (Below.refl _ wr).drew)
        have i0 : (0 : Int) ≤ (j : Int) := Int.natCast_nonneg _
        have i1 : (j : Int) < (kids.length : Int) := by omega
        clear hs hat
        unfold SmpPost at *
        go_wp2_with fail
        first | go_region_held3 (fun w' => w'.cell? ⟨b, o + 5, none⟩ = some (.slice (some ⟨kb, ko, none⟩) kids.length kc0)) (first | with_reducible exact HS6.out | with_reducible exact HS5.out | with_reducible exact HS4.out | with_reducible exact HS1.out | fail) (first
          | (go_at_call 95; refine (HSM.out _ (Below.refl _ wr).drew).mono ?_; rintro e w4 ⟨rfl, hb4⟩; have HB4 : Hid (Below wr.heap.size wr w4) := Lib.hid ((Below.refl _ wr).drew.trans hb4); have HS4 := Lib.hid (HKD.out w4 HB4.out); have HS5 := Lib.hid (HKD.out _ (HB4.out.alloc HB4.out.size (.cells #[.string s1, .string s2, .pointer a] 163))); clear hb4)
          | (go_at_call 68; refine (HX.out w4 HB4.out).mono ?_; rintro e w6 ⟨rfl, hs6, hg6⟩; have HT6 := Lib.hid hs6; have HG6 := Lib.hid hg6; have HS6 := Lib.hid (HKG.out w6 HG6.out); clear hs6 hg6)
          | fail) | fail
        all_goals
          obtain ⟨cs, hcs⟩ := HCS.out
          have HC7 := Lib.hid (HCK.out.grown HG6.out hcs)
          clear hcs
          go_wp2_with fail
          go_roundw
          case rel => exact ⟨j + 1, by omega, by go_num, HG6, HT6, HC7⟩
          case measure => simp [intOf]; omega
      · obtain rfl : j = kids.length := by omega
        have HR2 : Hid (St wr g m L d (er || !okE L d ck (.mk 13 op n nm nms kids l c))) := Lib.hid (by have := HR.out; rw [List.take_length] at this; rw [HOK.out]; exact this)
        clear HR
        go_wp2_with fail
        go_returns
        exact ⟨rfl, HR2.out, HG.out⟩
end Go.Proofs.YtnejkgkikpgajaaDoor.ck
