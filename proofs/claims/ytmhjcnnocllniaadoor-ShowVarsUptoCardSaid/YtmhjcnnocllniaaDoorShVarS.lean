/-
  show.Var: a variable's text.
-/
import Derived.Test.YtmhjcnnocllniaaDoorShVar
import Derived.Deep.RegionHeld3
namespace Go.Proofs.YtmhjcnnocllniaaDoor.sh
open Go.ChangeShapes Go.WideShapes Go.ChangeAt Go.RowKit Go.Proofs.YtmhjcnnocllniaaDoor.tr
set_option linter.unusedVariables false
set_option linter.unusedSimpArgs false

/-- a world over that in which the variable has been boxed -/
def OverV (w : World) (cs : Array Value) (w' : World) : Prop := Below (w.heap.size + 1) (w.alloc (.cells cs 36)) w'
theorem OverV.start (w : World) (cs : Array Value) : OverV w cs (w.alloc (.cells cs 36)) := Below.refl _ _
theorem OverV.drew {w w' : World} {cs : Array Value} (h : OverV w cs w') : OverV w cs w'.drew := Below.drew h
theorem OverV.later {w w' w2 : World} {cs : Array Value} (h : OverV w cs w') (hb : Below w'.heap.size w' w2) : OverV w cs w2 := Below.trans h (hb.mono (by have h2 := Below.size h; rw [World.size_alloc] at h2; exact h2))
theorem OverV.below {w w' : World} {cs : Array Value} (h : OverV w cs w') : Below w.heap.size w w' := ((Below.refl w.heap.size w).alloc (Nat.le_refl _) _).trans (Below.mono h (by omega))
theorem OverV.has {w w' : World} {cs : Array Value} (h : OverV w cs w') : Has w' w.heap.size 36 cs := (Has.new w _ cs).below h (by omega)

theorem below_up {B : Nat} {v0 w1 w' : World} (h : Below B v0 w1) (hb : Below w1.heap.size w1 w') (hB : B ≤ v0.heap.size := by omega) : Below B v0 w' := h.trans (hb.mono (Nat.le_trans hB h.size))

set_option maxRecDepth 100000 in
set_option maxHeartbeats 8000000 in
theorem showv_any (w : World) (v : Vr) (cs : Array Value) (hl : LaidV w v cs.toList) (hok : okE v.first = true) (hf : fitE v.first) (hL : Laid w) (hlen : wtV v ≤ 1000000000000) :
    Calls Tryd.prog 10 #[.agg cs] w (ShownPost w (txtV v)) := by
  obtain ⟨htk, hcl, ca, cc, c0, c1, c2, c3, c4, c5, c6, c7, hlc, hons, hcs⟩ := hl
  obtain rfl : cs = #[.string v.name, .int .u8 v.tk, .string v.tn, .slice ca v.clock.length cc, .bool v.last, c0, c1, c2, c3, c4, c5, c6, c7, .int .i64 v.line, .int .i64 v.col] := by apply Array.toList_inj.1; rw [hcs]
  have hty := typeS_len v.tk v.tn
  have hwa := whens_all_len v.clock
  have hft := txt_len _ hf
  have hwV : v.name.size + v.tn.size + wtC v.clock + wt v.first + 32 ≤ 1000000000000 := hlen
  unfold ShownPost
  have hTX : txtV v = (if v.last then ([108, 97, 115, 116, 32] : List UInt8) else []) ++ (bs v.name ++ (([32, 58, 32] : List UInt8) ++ bs (typeS v.tk v.tn))) ++ whens v.clock ++ (if v.last then ([32, 61, 32] : List UInt8) ++ txt v.first else []) := rfl
  have HTX := Lib.hid hTX
  generalize txtV v = tx at *
  obtain ⟨name, tk, tn, clock, last, first, line, col⟩ := v
  simp only at *
  obtain ⟨xs, hxs⟩ : ∃ xs : Array Value, xs = #[.string name, .int .u8 tk, .string tn, .slice ca clock.length cc, .bool last, c0, c1, c2, c3, c4, c5, c6, c7, .int .i64 line, .int .i64 col] := ⟨_, rfl⟩
  obtain ⟨v0, hv0⟩ : ∃ v0, v0 = w.alloc (.cells #[.string name, .int .u8 tk, .string tn, .slice ca clock.length cc, .bool last, c0, c1, c2, c3, c4, c5, c6, c7, .int .i64 line, .int .i64 col] 36) := ⟨_, rfl⟩
  have hs : v0.heap.size = w.heap.size + 1 := by rw [hv0, World.size_alloc]
  have hb0 : Below w.heap.size w v0 := by rw [hv0]; exact (Below.refl _ _).alloc (Nat.le_refl _) _
  have hh0 : Has v0 w.heap.size 36 #[.string name, .int .u8 tk, .string tn, .slice ca clock.length cc, .bool last, c0, c1, c2, c3, c4, c5, c6, c7, .int .i64 line, .int .i64 col] := by rw [hv0]; exact Has.new _ _ _
  have hL0 : Laid v0 := hL.below hb0
  have hat : LaidAt v0 w.heap.size 5 first := ⟨[c0, c1, c2, c3, c4, c5, c6, c7], fun j u hj => by
    have h8 : j < 8 := by have := (List.getElem?_eq_some_iff.1 hj).1; simpa using this
    rw [hh0.cell (5 + j)]
    match j, hj with
    | 0, hj => exact hj
    | 1, hj => exact hj
    | 2, hj => exact hj
    | 3, hj => exact hj
    | 4, hj => exact hj
    | 5, hj => exact hj
    | 6, hj => exact hj
    | 7, hj => exact hj
    | j + 8, _ => omega, LaidC.below hb0 _ _ hlc⟩
  have HV : Hid (∀ W, Below (w.heap.size + 1) v0 W → W.cell? ⟨w.heap.size, 0, none⟩ = some (.string name) ∧ W.cell? ⟨w.heap.size, 1, none⟩ = some (.int .u8 tk) ∧ W.cell? ⟨w.heap.size, 2, none⟩ = some (.string tn) ∧ W.cell? ⟨w.heap.size, 3, none⟩ = some (.slice ca clock.length cc) ∧ W.cell? ⟨w.heap.size, 4, none⟩ = some (.bool last)) := Lib.hid (fun W hW => by
    have h := hh0.below hW (by omega)
    exact ⟨h.cell 0, h.cell 1, h.cell 2, h.cell 3, h.cell 4⟩)
  have HON : Hid (∀ i (hi : i < clock.length), ∃ b off, ca = some ⟨b, off, none⟩ ∧ ∀ W, Below (w.heap.size + 1) v0 W → W.cell? ⟨b, off + i * 2, none⟩ = some (.string clock[i].1) ∧ W.cell? ⟨b, off + i * 2 + 1, none⟩ = some (.string clock[i].2)) := Lib.hid (fun i hi => by
    obtain ⟨b, off, e, h0, h1⟩ := hons.below hb0 i clock[i] (List.getElem?_eq_getElem hi)
    exact ⟨b, off, e, fun W hW => ⟨(hW.cell (p := ⟨b, off + i * 2, none⟩) (by have := World.block_lt_of_cell? v0 _ h0; rw [hs] at this; exact this)).trans h0, (hW.cell (p := ⟨b, off + i * 2 + 1, none⟩) (by have := World.block_lt_of_cell? v0 _ h1; rw [hs] at this; exact this)).trans h1⟩⟩)
  have HBB : Hid (∀ (l : List UInt8) (W : World), Bu v0 l W → Below (w.heap.size + 1) v0 W) := Lib.hid (fun l W h => by have := h.2; rw [hs] at this; exact this)
  have HBW : Hid (∀ (W : World), Below (w.heap.size + 1) v0 W → Below w.heap.size w W) := Lib.hid (fun W h => hb0.trans (h.mono (by omega)))
  have HGR : Hid (∀ (l : List UInt8) (W W' : World), Bu v0 l W → Below W.heap.size W W' → Bu v0 l W') := Lib.hid (fun l W W' h hb => h.grown hb)
  have HNB : Hid (Bu v0 [] ((w.alloc (.cells #[.string name, .int .u8 tk, .string tn, .slice ca clock.length cc, .bool last, c0, c1, c2, c3, c4, c5, c6, c7, .int .i64 line, .int .i64 col] 36)).alloc (.cells #[.pointer none, .slice none 0 0] 47))) := Lib.hid (by have := Bu.new v0; rw [hv0] at this ⊢; exact this)
  -- what is put
  have HP1 : Hid (∀ (l : List UInt8) (W : World) (s : ByteArray), Bu v0 l W → l.length + s.size ≤ 140737488355328 → Calls Tryd.prog 20 #[.pointer (some ⟨w.heap.size + 1, 0, none⟩), .slice (some ⟨W.heap.size, 0, none⟩) 1 1] (W.alloc (.cells #[.string s] 9)) (PutPost v0 (l ++ bs s))) := Lib.hid (fun l W s h hn => by have := put1 v0 W l h s (bs s) rfl (by rw [bs_len]; exact hn); rw [hs] at this; exact this)
  have HP3 : Hid (∀ (l : List UInt8) (W : World) (s1 s2 s3 : ByteArray), Bu v0 l W → l.length + (s1.size + (s2.size + s3.size)) ≤ 140737488355328 → Calls Tryd.prog 20 #[.pointer (some ⟨w.heap.size + 1, 0, none⟩), .slice (some ⟨W.heap.size, 0, none⟩) 3 3] (W.alloc (.cells #[.string s1, .string s2, .string s3] 9)) (PutPost v0 (l ++ (bs s1 ++ (bs s2 ++ bs s3))))) := Lib.hid (fun l W s1 s2 s3 h hn => by have := put3 v0 W l h s1 s2 s3 _ rfl (by simp only [List.length_append, bs_len]; exact hn); rw [hs] at this; exact this)
  have HWH : Hid (∀ (l : List UInt8) (W : World) (c v : ByteArray), Bu v0 l W → l.length + (whenL c v).length ≤ 140737488355328 → Calls Tryd.prog 21 #[.pointer (some ⟨w.heap.size + 1, 0, none⟩), .string c, .string v] W (PutPost v0 (l ++ whenL c v))) := Lib.hid (fun l W c v h hn => by have := when_any v0 W l h c v hn; rw [hs] at this; exact this)
  have HEX : Hid (∀ (l : List UInt8) (W : World), Bu v0 l W → l.length + wt first ≤ 140737488355328 → Calls Tryd.prog 15 #[.pointer (some ⟨w.heap.size + 1, 0, none⟩), .pointer (some ⟨w.heap.size, 5, none⟩)] W (PutPost v0 (l ++ txt first))) := Lib.hid (fun l W h hn => by have := expr_does first hok hf v0 W l w.heap.size 5 hL0 hat h hn; rw [hs] at this; exact this)
  have HST : Hid (∀ (l : List UInt8) (W : World), Bu v0 l W → Calls Tryd.prog 16 #[.pointer (some ⟨w.heap.size + 1, 0, none⟩)] W (fun e w' => e = .returned (.string ⟨l.toArray⟩) ∧ Below (w.heap.size + 1) W w')) := Lib.hid (fun l W h => by have := string_any _ _ _ W h.1 h.2.size; rw [hs] at this; exact this)
  have HTY : Hid (∀ W, Calls Tryd.prog 12 #[.agg #[.int .u8 tk, .string tn]] W (fun e w' => e = .returned (.string (typeS tk tn)) ∧ Below W.heap.size W w')) := Lib.hid (fun W => type_any W tk tn)
  have HTL : Hid ((typeS tk tn).size ≤ tn.size + 4) := Lib.hid hty
  have HWL : Hid (∀ i (hi : i < clock.length), (whens (clock.take i)).length + (clock[i].1.size + clock[i].2.size + 8) ≤ wtC clock) := Lib.hid (fun i hi => whens_len clock i hi)
  have HWT : Hid (∀ i (hi : i < clock.length), whens (clock.take (i + 1)) = whens (clock.take i) ++ whenL clock[i].1 clock[i].2) := Lib.hid (fun i hi => whens_take clock i hi)
  have HWA : Hid ((whens clock).length ≤ wtC clock) := Lib.hid hwa
  have HFT : Hid ((txt first).length ≤ wt first) := Lib.hid hft
  have HLN : Hid (name.size + tn.size + wtC clock + wt first + 32 ≤ 1000000000000) := Lib.hid hwV
  have hkc := hcl
  unfold maxLen at hkc
  generalize typeS tk tn = ty at *
  have HUP : Hid (∀ w1 w', Below (w.heap.size + 1) v0 w1 → Below w1.heap.size w1 w' → Below (w.heap.size + 1) v0 w') := Lib.hid (fun w1 w' h hb => below_up h hb (by omega))
  clear hv0 hs hb0 hh0 hL0 hat hons hlc hok hf hL hlen hty hwa hft hwV hcl hTX htk
  unfold PutPost at HP1 HP3 HWH HEX
  obtain ⟨x0, x1, x2, x3, x4⟩ := HV.out _ (HBB.out _ _ HNB.out)
  cases last
  case false =>
    obtain ⟨wb, hwb⟩ : ∃ wb : World, wb = (w.alloc (.cells #[.string name, .int .u8 tk, .string tn, .slice ca clock.length cc, .bool false, c0, c1, c2, c3, c4, c5, c6, c7, .int .i64 line, .int .i64 col] 36)).alloc (.cells #[.pointer none, .slice none 0 0] 47) := ⟨_, rfl⟩
    have HB1 : Hid (Bu v0 [] wb) := Lib.hid (by rw [hwb]; exact HNB.out)
    have HWB := Lib.hid hwb
    clear hwb
    go_enter Tryd.func10, Tryd.ntmps10
    go_wp2_with fail
    clear x0 x1 x2 x3 x4
    rw [← HWB.out]
    -- region 4
    have HS : Hid (∀ w', Below (w.heap.size + 1) v0 w' → (Below (w.heap.size + 1) v0 w' ∧ w'.cell? ⟨w.heap.size, 0, none⟩ = some (.string name) ∧ w'.cell? ⟨w.heap.size, 1, none⟩ = some (.int .u8 tk) ∧ w'.cell? ⟨w.heap.size, 2, none⟩ = some (.string tn))) := Lib.hid (fun w' h => ⟨h, (HV.out w' h).1, (HV.out w' h).2.1, (HV.out w' h).2.2.1⟩)
    have HB0 : Hid (Below (w.heap.size + 1) v0 wb.drew ∧ wb.drew.cell? ⟨w.heap.size, 0, none⟩ = some (.string name) ∧ wb.drew.cell? ⟨w.heap.size, 1, none⟩ = some (.int .u8 tk) ∧ wb.drew.cell? ⟨w.heap.size, 2, none⟩ = some (.string tn)) := Lib.hid (HS.out _ ((HBB.out _ _ HB1.out).drew))
    have HBd := Lib.hid (HGR.out _ _ wb.drew HB1.out ((Below.refl _ _).drew))
    have HK : Hid (∀ (w1 w' : World) (R : Prop), (Below (w.heap.size + 1) v0 w1 ∧ R) → Below w1.heap.size w1 w' → (Below (w.heap.size + 1) v0 w' ∧ w'.cell? ⟨w.heap.size, 0, none⟩ = some (.string name) ∧ w'.cell? ⟨w.heap.size, 1, none⟩ = some (.int .u8 tk) ∧ w'.cell? ⟨w.heap.size, 2, none⟩ = some (.string tn))) := Lib.hid (fun w1 w' R h hb => HS.out w' (HUP.out w1 w' h.1 hb))
    have HAL : Hid (∀ w1 o, Below w1.heap.size w1 (w1.alloc o)) := Lib.hid (fun w1 o => (Below.refl _ _).alloc (Nat.le_refl _) o)
    go_wp2_with fail
    go_region_held3 (fun w' => Below (w.heap.size + 1) v0 w' ∧ w'.cell? ⟨w.heap.size, 0, none⟩ = some (.string name) ∧ w'.cell? ⟨w.heap.size, 1, none⟩ = some (.int .u8 tk) ∧ w'.cell? ⟨w.heap.size, 2, none⟩ = some (.string tn))
      (first | exact HS.out _ (HBB.out _ _ hB4) | exact HK.out _ _ _ (by assumption) (HAL.out w3 _) | exact HK.out _ _ _ (by assumption) hb3 | exact HB0.out)
      (first
        | (go_at_call 12; refine (HTY.out _).mono ?_; rintro e w3 ⟨rfl, hb3⟩)
        | (go_at_call 20; refine (HP3.out _ w3 name ⟨#[32, 58, 32]⟩ ty (HGR.out _ _ w3 HBd.out hb3) (by have h5 : (⟨#[108, 97, 115, 116, 32]⟩ : ByteArray).size = 5 := rfl; have := HLN.out; have := HTL.out; show 0 + (name.size + (3 + ty.size)) ≤ _; omega)).mono ?_; rintro e w4 ⟨rfl, hB4⟩))
    have HB4 := Lib.hid hB4
    have y3 := (HV.out _ (HBB.out _ _ hB4)).2.2.2.1
    clear hB4
    go_wp2_with fail
    go_loopw [5, 20] (fun _ iv wr => ∃ i : Nat, i ≤ clock.length ∧ iv = .int .i64 i ∧ Hid (Bu v0 (([] : List UInt8) ++ (bs name ++ (([32, 58, 32] : List UInt8) ++ bs ty)) ++ whens (clock.take i)) wr)) (fun _ iv _ => clock.length - (intOf iv).toNat)
    case atStart => exact ⟨0, by omega, rfl, Lib.hid (by rw [List.take_zero]; show Bu v0 (_ ++ []) _; rw [List.append_nil]; exact HB4.out)⟩
    case round =>
      obtain ⟨i, hi, rfl, HBi⟩ := hrel
      have hi0 : (0 : Int) ≤ (i : Int) := Int.natCast_nonneg _
      by_cases hlt : i < clock.length
      · obtain ⟨b, off, rfl, hc⟩ := HON.out i hlt
        obtain ⟨d0, d1⟩ := hc wr (HBB.out _ _ HBi.out)
        have hi1 : (i : Int) < (clock.length : Int) := by omega
        have hwl := HWL.out i hlt
        have hti := HWT.out i hlt
        generalize clock[i]'hlt = pp at *
        obtain ⟨pc, pv⟩ := pp
        simp only at d0 d1 hwl hti
        have HWI := Lib.hid (HWH.out _ (wr.alloc (.cells #[.string pc, .string pv] 56)) pc pv (HGR.out _ _ _ HBi.out ((Below.refl _ _).alloc (Nat.le_refl _) _)) (by have h5 : (⟨#[108, 97, 115, 116, 32]⟩ : ByteArray).size = 5 := rfl; have := HLN.out; have := HTL.out; simp only [whenL, List.length_append, List.length_cons, List.length_nil, bs_len]; omega))
        have HTI := Lib.hid hti
        clear hc hwl hti
        go_wp2_with fail
        refine HWI.out.mono ?_
        rintro e w5 ⟨rfl, hB5⟩
        have HB5 := Lib.hid hB5
        clear hB5
        go_wp2_with fail
        go_roundw
        case rel => exact ⟨i + 1, by omega, by go_num, Lib.hid (by rw [HTI.out, ← List.append_assoc]; exact HB5.out)⟩
        case measure => simp [intOf]; omega
      · have hie : i = clock.length := by omega
        subst hie
        have HBe : Hid (Bu v0 (([] : List UInt8) ++ (bs name ++ (([32, 58, 32] : List UInt8) ++ bs ty)) ++ whens clock) wr) := Lib.hid (by have := HBi.out; rw [List.take_length] at this; exact this)
        have z4 := (HV.out _ (HBB.out _ _ HBe.out)).2.2.2.2
        have HS5 := Lib.hid (HST.out _ _ HBe.out)
        have HBX := Lib.hid (HBB.out _ _ HBe.out)
        go_wp2_with fail
        refine HS5.out.mono ?_
        rintro e w6 ⟨rfl, hb6⟩
        have HZ := Lib.hid (HBW.out _ (HBX.out.trans hb6))
        clear hb6
        go_wp2_with fail
        go_ret
        exact ⟨by rw [HTX.out]; simp, HZ.out⟩

  case true =>
    have hq0 := (HP1.out _ _ ⟨#[108, 97, 115, 116, 32]⟩ HNB.out (by show 0 + 5 ≤ _; omega))
    simp only [World.size_alloc] at hq0
    have HQ0 := Lib.hid hq0
    clear hq0
    go_enter Tryd.func10, Tryd.ntmps10
    go_wp2_with fail
    refine HQ0.out.mono ?_
    rintro e wb ⟨rfl, hB1⟩
    rw [List.nil_append] at hB1
    have HB1 := Lib.hid hB1
    clear hB1 x0 x1 x2 x3 x4
    -- region 4
    have HS : Hid (∀ w', Below (w.heap.size + 1) v0 w' → (Below (w.heap.size + 1) v0 w' ∧ w'.cell? ⟨w.heap.size, 0, none⟩ = some (.string name) ∧ w'.cell? ⟨w.heap.size, 1, none⟩ = some (.int .u8 tk) ∧ w'.cell? ⟨w.heap.size, 2, none⟩ = some (.string tn))) := Lib.hid (fun w' h => ⟨h, (HV.out w' h).1, (HV.out w' h).2.1, (HV.out w' h).2.2.1⟩)
    have HB0 : Hid (Below (w.heap.size + 1) v0 wb.drew ∧ wb.drew.cell? ⟨w.heap.size, 0, none⟩ = some (.string name) ∧ wb.drew.cell? ⟨w.heap.size, 1, none⟩ = some (.int .u8 tk) ∧ wb.drew.cell? ⟨w.heap.size, 2, none⟩ = some (.string tn)) := Lib.hid (HS.out _ ((HBB.out _ _ HB1.out).drew))
    have HBd := Lib.hid (HGR.out _ _ wb.drew HB1.out ((Below.refl _ _).drew))
    have HK : Hid (∀ (w1 w' : World) (R : Prop), (Below (w.heap.size + 1) v0 w1 ∧ R) → Below w1.heap.size w1 w' → (Below (w.heap.size + 1) v0 w' ∧ w'.cell? ⟨w.heap.size, 0, none⟩ = some (.string name) ∧ w'.cell? ⟨w.heap.size, 1, none⟩ = some (.int .u8 tk) ∧ w'.cell? ⟨w.heap.size, 2, none⟩ = some (.string tn))) := Lib.hid (fun w1 w' R h hb => HS.out w' (HUP.out w1 w' h.1 hb))
    have HAL : Hid (∀ w1 o, Below w1.heap.size w1 (w1.alloc o)) := Lib.hid (fun w1 o => (Below.refl _ _).alloc (Nat.le_refl _) o)
    go_wp2_with fail
    go_region_held3 (fun w' => Below (w.heap.size + 1) v0 w' ∧ w'.cell? ⟨w.heap.size, 0, none⟩ = some (.string name) ∧ w'.cell? ⟨w.heap.size, 1, none⟩ = some (.int .u8 tk) ∧ w'.cell? ⟨w.heap.size, 2, none⟩ = some (.string tn))
      (first | exact HS.out _ (HBB.out _ _ hB4) | exact HK.out _ _ _ (by assumption) (HAL.out w3 _) | exact HK.out _ _ _ (by assumption) hb3 | exact HB0.out)
      (first
        | (go_at_call 12; refine (HTY.out _).mono ?_; rintro e w3 ⟨rfl, hb3⟩)
        | (go_at_call 20; refine (HP3.out _ w3 name ⟨#[32, 58, 32]⟩ ty (HGR.out _ _ w3 HBd.out hb3) (by have h5 : (⟨#[108, 97, 115, 116, 32]⟩ : ByteArray).size = 5 := rfl; have := HLN.out; have := HTL.out; show 5 + (name.size + (3 + ty.size)) ≤ _; omega)).mono ?_; rintro e w4 ⟨rfl, hB4⟩))
    have HB4 := Lib.hid hB4
    have y3 := (HV.out _ (HBB.out _ _ hB4)).2.2.2.1
    clear hB4
    go_wp2_with fail
    go_loopw [5, 20] (fun _ iv wr => ∃ i : Nat, i ≤ clock.length ∧ iv = .int .i64 i ∧ Hid (Bu v0 (bs ⟨#[108, 97, 115, 116, 32]⟩ ++ (bs name ++ (([32, 58, 32] : List UInt8) ++ bs ty)) ++ whens (clock.take i)) wr)) (fun _ iv _ => clock.length - (intOf iv).toNat)
    case atStart => exact ⟨0, by omega, rfl, Lib.hid (by rw [List.take_zero]; show Bu v0 (_ ++ []) _; rw [List.append_nil]; exact HB4.out)⟩
    case round =>
      obtain ⟨i, hi, rfl, HBi⟩ := hrel
      have hi0 : (0 : Int) ≤ (i : Int) := Int.natCast_nonneg _
      by_cases hlt : i < clock.length
      · obtain ⟨b, off, rfl, hc⟩ := HON.out i hlt
        obtain ⟨d0, d1⟩ := hc wr (HBB.out _ _ HBi.out)
        have hi1 : (i : Int) < (clock.length : Int) := by omega
        have hwl := HWL.out i hlt
        have hti := HWT.out i hlt
        generalize clock[i]'hlt = pp at *
        obtain ⟨pc, pv⟩ := pp
        simp only at d0 d1 hwl hti
        have HWI := Lib.hid (HWH.out _ (wr.alloc (.cells #[.string pc, .string pv] 56)) pc pv (HGR.out _ _ _ HBi.out ((Below.refl _ _).alloc (Nat.le_refl _) _)) (by have h5 : (⟨#[108, 97, 115, 116, 32]⟩ : ByteArray).size = 5 := rfl; have := HLN.out; have := HTL.out; simp only [whenL, List.length_append, List.length_cons, List.length_nil, bs_len]; omega))
        have HTI := Lib.hid hti
        clear hc hwl hti
        go_wp2_with fail
        refine HWI.out.mono ?_
        rintro e w5 ⟨rfl, hB5⟩
        have HB5 := Lib.hid hB5
        clear hB5
        go_wp2_with fail
        go_roundw
        case rel => exact ⟨i + 1, by omega, by go_num, Lib.hid (by rw [HTI.out, ← List.append_assoc]; exact HB5.out)⟩
        case measure => simp [intOf]; omega
      · have hie : i = clock.length := by omega
        subst hie
        have HBe : Hid (Bu v0 (bs ⟨#[108, 97, 115, 116, 32]⟩ ++ (bs name ++ (([32, 58, 32] : List UInt8) ++ bs ty)) ++ whens clock) wr) := Lib.hid (by have := HBi.out; rw [List.take_length] at this; exact this)
        have z4 := (HV.out _ (HBB.out _ _ HBe.out)).2.2.2.2
        have HQ := Lib.hid (HP1.out _ wr ⟨#[32, 61, 32]⟩ HBe.out (by have h5 : (⟨#[108, 97, 115, 116, 32]⟩ : ByteArray).size = 5 := rfl; have := HLN.out; have := HTL.out; have := HWA.out; simp only [List.length_append, List.length_cons, List.length_nil, bs_len]; show _ + 3 ≤ _; omega))
        go_wp2_with fail
        refine HQ.out.mono ?_
        rintro e w6 ⟨rfl, hB6⟩
        have HE6 := Lib.hid (HEX.out _ w6 hB6 (by have h5 : (⟨#[108, 97, 115, 116, 32]⟩ : ByteArray).size = 5 := rfl; have := HLN.out; have := HTL.out; have := HWA.out; simp only [List.length_append, List.length_cons, List.length_nil, bs_len]; show _ + 3 + wt first ≤ _; omega))
        clear hB6
        go_wp2_with fail
        refine HE6.out.mono ?_
        rintro e w7 ⟨rfl, hB7⟩
        have HS5 := Lib.hid (HST.out _ _ hB7)
        have HBX := Lib.hid (HBB.out _ _ hB7)
        clear hB7
        go_wp2_with fail
        refine HS5.out.mono ?_
        rintro e w8 ⟨rfl, hb8⟩
        have HZ := Lib.hid (HBW.out _ (HBX.out.trans hb8))
        clear hb8
        go_wp2_with fail
        go_ret
        exact ⟨by rw [HTX.out]; simp [bs], HZ.out⟩

end Go.Proofs.YtmhjcnnocllniaaDoor.sh
