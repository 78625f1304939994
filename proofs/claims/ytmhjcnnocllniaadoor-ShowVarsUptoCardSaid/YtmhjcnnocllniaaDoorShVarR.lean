/-
  The document's Var: a variable's text.
-/
import Derived.Test.YtmhjcnnocllniaaDoorShVarS
namespace Go.Proofs.YtmhjcnnocllniaaDoor.sh
open Go.ChangeShapes Go.WideShapes Go.ChangeAt Go.RowKit Go.Proofs.YtmhjcnnocllniaaDoor.tr
set_option linter.unusedVariables false
set_option linter.unusedSimpArgs false

set_option maxRecDepth 100000 in
set_option maxHeartbeats 4000000 in
theorem refv_any (w : World) (v : Vr) (cs : Array Value) (hl : LaidV w v cs.toList) (hok : okE v.first = true) (hf : fitE v.first) (hlen : wtV v ≤ 1000000000000) :
    Calls Tryd.prog 11 #[.agg cs] w (TextPost w (txtV v)) := by
  obtain ⟨htk, hcl, ca, cc, c0, c1, c2, c3, c4, c5, c6, c7, hlc, hons, hcs⟩ := hl
  obtain rfl : cs = #[.string v.name, .int .u8 v.tk, .string v.tn, .slice ca v.clock.length cc, .bool v.last, c0, c1, c2, c3, c4, c5, c6, c7, .int .i64 v.line, .int .i64 v.col] := by apply Array.toList_inj.1; rw [hcs]
  clear hcs
  have hty := typeS_len v.tk v.tn
  have hwa := whens_all_len v.clock
  have hft := txt_len _ hf
  have hwV : v.name.size + v.tn.size + wtC v.clock + wt v.first + 32 ≤ 1000000000000 := hlen
  unfold TextPost
  have hTX : txtV v = (if v.last then [108, 97, 115, 116, 32] else []) ++ (bs v.name ++ ([32, 58, 32] ++ bs (typeS v.tk v.tn))) ++ whens v.clock ++ (if v.last then [32, 61, 32] ++ txt v.first else []) := rfl
  have HTX := Lib.hid hTX
  generalize txtV v = tx at *
  obtain ⟨name, tk, tn, clock, last, first, line, col⟩ := v
  simp only at *
  obtain ⟨xs, hxs⟩ : ∃ xs : Array Value, xs = #[.string name, .int .u8 tk, .string tn, .slice ca clock.length cc, .bool last, c0, c1, c2, c3, c4, c5, c6, c7, .int .i64 line, .int .i64 col] := ⟨_, rfl⟩
  have hs0 := OverV.start w xs
  have hV : ∀ W, OverV w xs W → W.cell? ⟨w.heap.size, 0, none⟩ = some (.string name) ∧ W.cell? ⟨w.heap.size, 1, none⟩ = some (.int .u8 tk) ∧ W.cell? ⟨w.heap.size, 2, none⟩ = some (.string tn) ∧ W.cell? ⟨w.heap.size, 3, none⟩ = some (.slice ca clock.length cc) ∧ W.cell? ⟨w.heap.size, 4, none⟩ = some (.bool last) ∧ W.cell? ⟨w.heap.size, 5, none⟩ = some c0 ∧ W.cell? ⟨w.heap.size, 6, none⟩ = some c1 ∧ W.cell? ⟨w.heap.size, 7, none⟩ = some c2 ∧ W.cell? ⟨w.heap.size, 8, none⟩ = some c3 ∧ W.cell? ⟨w.heap.size, 9, none⟩ = some c4 ∧ W.cell? ⟨w.heap.size, 10, none⟩ = some c5 ∧ W.cell? ⟨w.heap.size, 11, none⟩ = some c6 ∧ W.cell? ⟨w.heap.size, 12, none⟩ = some c7 := fun W hW => by
    have h := hW.has
    rw [hxs] at h
    exact ⟨h.cell 0, h.cell 1, h.cell 2, h.cell 3, h.cell 4, h.cell 5, h.cell 6, h.cell 7, h.cell 8, h.cell 9, h.cell 10, h.cell 11, h.cell 12⟩
  have HV := Lib.hid hV
  have HON : Hid (∀ i (hi : i < clock.length), ∃ b off, ca = some ⟨b, off, none⟩ ∧ ∀ W, OverV w xs W → W.cell? ⟨b, off + i * 2, none⟩ = some (.string clock[i].1) ∧ W.cell? ⟨b, off + i * 2 + 1, none⟩ = some (.string clock[i].2)) := Lib.hid (fun i hi => by
    obtain ⟨b, off, e, h0, h1⟩ := hons i clock[i] (List.getElem?_eq_getElem hi)
    exact ⟨b, off, e, fun W hW => ⟨(hW.below.cell (p := ⟨b, off + i * 2, none⟩) (World.block_lt_of_cell? w _ h0)).trans h0, (hW.below.cell (p := ⟨b, off + i * 2 + 1, none⟩) (World.block_lt_of_cell? w _ h1)).trans h1⟩⟩)
  have HO : Hid (∀ wx, OverV w xs wx → Below w.heap.size w wx) := Lib.hid (fun wx h => h.below)
  have HLT : Hid (∀ w1 wx, OverV w xs w1 → Below w1.heap.size w1 wx → OverV w xs wx) := Lib.hid (fun w1 wx h hb => h.later hb)
  have HS0 : Hid (OverV w xs (w.alloc (.cells #[.string name, .int .u8 tk, .string tn, .slice ca clock.length cc, .bool last, c0, c1, c2, c3, c4, c5, c6, c7, .int .i64 line, .int .i64 col] 36))) := Lib.hid (by have h := hs0; rw [hxs] at h ⊢; exact h)
  have HEX : Hid (∀ W, OverV w xs W → Calls Tryd.prog 9 #[.agg #[c0, c1, c2, c3, c4, c5, c6, c7]] W (TextPost W (txt first))) := Lib.hid (fun W h => ref_does first hok hf (by omega) W _ (LaidC.below h.below _ _ hlc))
  have HTY : Hid (∀ W, Calls Tryd.prog 13 #[.agg #[.int .u8 tk, .string tn]] W (fun e w' => e = .returned (.string (typeS tk tn)) ∧ Below W.heap.size W w')) := Lib.hid (fun W => rtype_any W tk tn)
  have HWL : Hid (∀ i (hi : i < clock.length), (whens (clock.take i)).length + (clock[i].1.size + clock[i].2.size + 8) ≤ wtC clock) := Lib.hid (fun i hi => whens_len clock i hi)
  have HWT : Hid (∀ i (hi : i < clock.length), whens (clock.take (i + 1)) = whens (clock.take i) ++ whenL clock[i].1 clock[i].2) := Lib.hid (fun i hi => whens_take clock i hi)
  have HWA : Hid ((whens clock).length ≤ wtC clock) := Lib.hid hwa
  have HW0 : Hid (whens (clock.take 0) = []) := Lib.hid (by rw [List.take_zero]; rfl)
  have hkc := hcl
  unfold maxLen at hkc
  generalize typeS tk tn = ty at *
  have hv0 := hV _ hs0
  rw [hxs] at hv0
  obtain ⟨x0, x1, x2, x3, x4, _, _, _, _, _, _, _, _⟩ := hv0
  have HFT := Lib.hid hft
  clear hs0 hV hons hlc hok hf hlen hwa hft hcl hTX htk
  unfold TextPost at HEX
  obtain ⟨W0, hW0⟩ : ∃ W0 : World, W0 = w.alloc (.cells #[.string name, .int .u8 tk, .string tn, .slice ca clock.length cc, .bool last, c0, c1, c2, c3, c4, c5, c6, c7, .int .i64 line, .int .i64 col] 36) := ⟨_, rfl⟩
  have HS : Hid (∀ w', OverV w xs w' → (OverV w xs w' ∧ w'.cell? ⟨w.heap.size, 0, none⟩ = some (.string name) ∧ w'.cell? ⟨w.heap.size, 1, none⟩ = some (.int .u8 tk) ∧ w'.cell? ⟨w.heap.size, 2, none⟩ = some (.string tn))) := Lib.hid (fun w' h => ⟨h, (HV.out w' h).1, (HV.out w' h).2.1, (HV.out w' h).2.2.1⟩)
  have HB0 : Hid (OverV w xs W0.drew ∧ W0.drew.cell? ⟨w.heap.size, 0, none⟩ = some (.string name) ∧ W0.drew.cell? ⟨w.heap.size, 1, none⟩ = some (.int .u8 tk) ∧ W0.drew.cell? ⟨w.heap.size, 2, none⟩ = some (.string tn)) := Lib.hid (HS.out _ (by rw [hW0]; exact HS0.out.drew))
  have HK : Hid (∀ (w1 w' : World) (R : Prop), (OverV w xs w1 ∧ R) → Below w1.heap.size w1 w' → (OverV w xs w' ∧ w'.cell? ⟨w.heap.size, 0, none⟩ = some (.string name) ∧ w'.cell? ⟨w.heap.size, 1, none⟩ = some (.int .u8 tk) ∧ w'.cell? ⟨w.heap.size, 2, none⟩ = some (.string tn))) := Lib.hid (fun w1 w' R h hb => HS.out w' (h.1.later hb))
  have HWW := Lib.hid hW0
  clear hW0
  cases last
  case false =>
    have ha0 : ¬ 9223372036854775807 < name.size + 3 := (by omega)
    have ha1 : ¬ 9223372036854775804 < name.size := (by omega)
    go_enter Tryd.func11, Tryd.ntmps11
    go_wp2_with fail
    clear x0 x1 x2 x3 x4
    rw [← HWW.out]
    go_region_held3 (fun w' => OverV w xs w' ∧ w'.cell? ⟨w.heap.size, 0, none⟩ = some (.string name) ∧ w'.cell? ⟨w.heap.size, 1, none⟩ = some (.int .u8 tk) ∧ w'.cell? ⟨w.heap.size, 2, none⟩ = some (.string tn))
      (first | exact HK.out _ _ _ (by assumption) hb3 | exact HB0.out)
      (first | (go_at_call 13; refine (HTY.out _).mono ?_; rintro e w3 ⟨rfl, hb3⟩; have hu0 : ¬ 9223372036854775807 < name.size + 3 + ty.size := (by omega)))
    have HZ3 : Hid (OverV w xs w3) := Lib.hid (And.left (by assumption))
    obtain ⟨_, _, _, y3, y4, _⟩ := HV.out _ HZ3.out
    have hl5 : ((⟨#[]⟩ : ByteArray) : ByteArray).size = 0 := rfl
    go_wp2_with fail
    go_loopw [3, 4] (fun sv iv wr => ∃ (i : Nat) (sb : ByteArray), i ≤ clock.length ∧ iv = .int .i64 i ∧ sv = .string sb ∧ Hid (bs sb = bs (⟨#[]⟩ : ByteArray) ++ (bs name ++ (([32, 58, 32] : List UInt8) ++ bs ty)) ++ whens (clock.take i)) ∧ Hid (OverV w xs wr)) (fun _ iv _ => clock.length - (intOf iv).toNat)
    case atStart => exact ⟨0, _, by omega, rfl, rfl, Lib.hid (by rw [HW0.out, List.append_nil]; simp only [bs_app, List.append_assoc] <;> rfl), HZ3⟩
    case round =>
      obtain ⟨i, sb, hi, rfl, rfl, HSB, HWR⟩ := hrel
      obtain ⟨_, _, _, z3, z4, z5, z6, z7, z8, z9, z10, z11, z12⟩ := HV.out _ HWR.out
      have hi0 : (0 : Int) ≤ (i : Int) := Int.natCast_nonneg _
      have hsb := size_of HSB.out
      simp only [List.length_append, List.length_cons, List.length_nil, bs_len, hl5] at hsb
      by_cases hlt : i < clock.length
      · obtain ⟨b, off, rfl, hc⟩ := HON.out i hlt
        have hi1 : (i : Int) < (clock.length : Int) := by omega
        have hwl := HWL.out i hlt
        have hti := HWT.out i hlt
        generalize clock[i]'hlt = pp at *
        obtain ⟨pc, pv⟩ := pp
        simp only at hc hwl hti
        have HTI := Lib.hid hti
        have hS8 : ∀ w', OverV w xs w' → (OverV w xs w' ∧ w'.cell? ⟨w.heap.size, 3, none⟩ = some (.slice (some ⟨b, off, none⟩) clock.length cc) ∧ w'.cell? ⟨b, off + i * 2, none⟩ = some (.string pc) ∧ w'.cell? ⟨b, off + i * 2 + 1, none⟩ = some (.string pv)) := fun w' h => ⟨h, (HV.out w' h).2.2.2.1, (hc w' h).1, (hc w' h).2⟩
        have HB8 : Hid (OverV w xs wr.drew ∧ wr.drew.cell? ⟨w.heap.size, 3, none⟩ = some (.slice (some ⟨b, off, none⟩) clock.length cc) ∧ wr.drew.cell? ⟨b, off + i * 2, none⟩ = some (.string pc) ∧ wr.drew.cell? ⟨b, off + i * 2 + 1, none⟩ = some (.string pv)) := Lib.hid (hS8 _ HWR.out.drew)
        have hsz : sb.size + pc.size + pv.size ≤ 1000000000100 := by omega
        clear hsb
        have hv0 : ¬ 9223372036854775807 < 6 + pc.size := (by omega)
        have hv1 : ¬ 9223372036854775807 < pc.size + 6 := (by omega)
        have hv2 : ¬ 9223372036854775801 < pc.size := (by omega)
        have hv3 : ¬ 9223372036854775807 < 6 + pc.size + 1 := (by omega)
        have hv4 : ¬ 9223372036854775806 < 6 + pc.size := (by omega)
        have hv5 : ¬ 9223372036854775807 < 6 + pc.size + 1 + pv.size := (by omega)
        have hv6 : ¬ 9223372036854775807 < 6 + pc.size + 1 + pv.size + 1 := (by omega)
        have hv7 : ¬ 9223372036854775806 < 6 + pc.size + 1 + pv.size := (by omega)
        have hv8 : ¬ 9223372036854775807 < sb.size + (6 + pc.size + 1 + pv.size + 1) := (by omega)
        have HSZ := Lib.hid hsz
        have HWL2 := Lib.hid hwl
        clear hS8 hc hti hwl hsz z4 z5 z6 z7 z8 z9 z10 z11 z12
        go_wp2_with fail
        clear z3
        go_region_held3 (fun w' => OverV w xs w' ∧ w'.cell? ⟨w.heap.size, 3, none⟩ = some (.slice (some ⟨b, off, none⟩) clock.length cc) ∧ w'.cell? ⟨b, off + i * 2, none⟩ = some (.string pc) ∧ w'.cell? ⟨b, off + i * 2 + 1, none⟩ = some (.string pv)) (exact HB8.out) (fail)
        go_wp2_with fail
        go_roundw
        case rel => exact ⟨i + 1, _, by omega, by go_num, rfl, Lib.hid (by rw [HTI.out]; simp only [bs_app, List.append_assoc, HSB.out, whenL] <;> rfl), Lib.hid HWR.out.drew⟩
        case measure => simp [intOf]; omega
      · have hie : i = clock.length := by omega
        subst hie
        have hTL : whens (clock.take clock.length) = whens clock := by rw [List.take_length]
        rw [hTL] at HSB hsb
        have hwa := HWA.out
        have hsz : sb.size ≤ 1000000000100 := by omega
        have HSZ := Lib.hid hsb
        clear hsb hwa hTL
        clear z5 z6 z7 z8 z9 z10 z11 z12
        go_wp2_with fail
        go_ret
        exact ⟨⟨_, rfl, by rw [HTX.out, HSB.out]; simp [bs], by omega⟩, HO.out _ HWR.out⟩

  case true =>
    have ha0 : ¬ 9223372036854775807 < name.size + 3 := (by omega)
    have ha1 : ¬ 9223372036854775804 < name.size := (by omega)
    go_enter Tryd.func11, Tryd.ntmps11
    go_wp2_with fail
    clear x0 x1 x2 x3 x4
    rw [← HWW.out]
    go_region_held3 (fun w' => OverV w xs w' ∧ w'.cell? ⟨w.heap.size, 0, none⟩ = some (.string name) ∧ w'.cell? ⟨w.heap.size, 1, none⟩ = some (.int .u8 tk) ∧ w'.cell? ⟨w.heap.size, 2, none⟩ = some (.string tn))
      (first | exact HK.out _ _ _ (by assumption) hb3 | exact HB0.out)
      (first | (go_at_call 13; refine (HTY.out _).mono ?_; rintro e w3 ⟨rfl, hb3⟩; have hu0 : ¬ 9223372036854775807 < name.size + 3 + ty.size := (by omega); have hu1 : ¬ 9223372036854775807 < 5 + (name.size + 3 + ty.size) := (by omega)))
    have HZ3 : Hid (OverV w xs w3) := Lib.hid (And.left (by assumption))
    obtain ⟨_, _, _, y3, y4, _⟩ := HV.out _ HZ3.out
    have hl5 : ((⟨#[108, 97, 115, 116, 32]⟩ : ByteArray) : ByteArray).size = 5 := rfl
    go_wp2_with fail
    go_loopw [3, 4] (fun sv iv wr => ∃ (i : Nat) (sb : ByteArray), i ≤ clock.length ∧ iv = .int .i64 i ∧ sv = .string sb ∧ Hid (bs sb = bs (⟨#[108, 97, 115, 116, 32]⟩ : ByteArray) ++ (bs name ++ (([32, 58, 32] : List UInt8) ++ bs ty)) ++ whens (clock.take i)) ∧ Hid (OverV w xs wr)) (fun _ iv _ => clock.length - (intOf iv).toNat)
    case atStart => exact ⟨0, _, by omega, rfl, rfl, Lib.hid (by rw [HW0.out, List.append_nil]; simp only [bs_app, List.append_assoc] <;> rfl), HZ3⟩
    case round =>
      obtain ⟨i, sb, hi, rfl, rfl, HSB, HWR⟩ := hrel
      obtain ⟨_, _, _, z3, z4, z5, z6, z7, z8, z9, z10, z11, z12⟩ := HV.out _ HWR.out
      have hi0 : (0 : Int) ≤ (i : Int) := Int.natCast_nonneg _
      have hsb := size_of HSB.out
      simp only [List.length_append, List.length_cons, List.length_nil, bs_len, hl5] at hsb
      by_cases hlt : i < clock.length
      · obtain ⟨b, off, rfl, hc⟩ := HON.out i hlt
        have hi1 : (i : Int) < (clock.length : Int) := by omega
        have hwl := HWL.out i hlt
        have hti := HWT.out i hlt
        generalize clock[i]'hlt = pp at *
        obtain ⟨pc, pv⟩ := pp
        simp only at hc hwl hti
        have HTI := Lib.hid hti
        have hS8 : ∀ w', OverV w xs w' → (OverV w xs w' ∧ w'.cell? ⟨w.heap.size, 3, none⟩ = some (.slice (some ⟨b, off, none⟩) clock.length cc) ∧ w'.cell? ⟨b, off + i * 2, none⟩ = some (.string pc) ∧ w'.cell? ⟨b, off + i * 2 + 1, none⟩ = some (.string pv)) := fun w' h => ⟨h, (HV.out w' h).2.2.2.1, (hc w' h).1, (hc w' h).2⟩
        have HB8 : Hid (OverV w xs wr.drew ∧ wr.drew.cell? ⟨w.heap.size, 3, none⟩ = some (.slice (some ⟨b, off, none⟩) clock.length cc) ∧ wr.drew.cell? ⟨b, off + i * 2, none⟩ = some (.string pc) ∧ wr.drew.cell? ⟨b, off + i * 2 + 1, none⟩ = some (.string pv)) := Lib.hid (hS8 _ HWR.out.drew)
        have hsz : sb.size + pc.size + pv.size ≤ 1000000000100 := by omega
        clear hsb
        have hv0 : ¬ 9223372036854775807 < 6 + pc.size := (by omega)
        have hv1 : ¬ 9223372036854775807 < pc.size + 6 := (by omega)
        have hv2 : ¬ 9223372036854775801 < pc.size := (by omega)
        have hv3 : ¬ 9223372036854775807 < 6 + pc.size + 1 := (by omega)
        have hv4 : ¬ 9223372036854775806 < 6 + pc.size := (by omega)
        have hv5 : ¬ 9223372036854775807 < 6 + pc.size + 1 + pv.size := (by omega)
        have hv6 : ¬ 9223372036854775807 < 6 + pc.size + 1 + pv.size + 1 := (by omega)
        have hv7 : ¬ 9223372036854775806 < 6 + pc.size + 1 + pv.size := (by omega)
        have hv8 : ¬ 9223372036854775807 < sb.size + (6 + pc.size + 1 + pv.size + 1) := (by omega)
        have HSZ := Lib.hid hsz
        have HWL2 := Lib.hid hwl
        clear hS8 hc hti hwl hsz z4 z5 z6 z7 z8 z9 z10 z11 z12
        go_wp2_with fail
        clear z3
        go_region_held3 (fun w' => OverV w xs w' ∧ w'.cell? ⟨w.heap.size, 3, none⟩ = some (.slice (some ⟨b, off, none⟩) clock.length cc) ∧ w'.cell? ⟨b, off + i * 2, none⟩ = some (.string pc) ∧ w'.cell? ⟨b, off + i * 2 + 1, none⟩ = some (.string pv)) (exact HB8.out) (fail)
        go_wp2_with fail
        go_roundw
        case rel => exact ⟨i + 1, _, by omega, by go_num, rfl, Lib.hid (by rw [HTI.out]; simp only [bs_app, List.append_assoc, HSB.out, whenL] <;> rfl), Lib.hid HWR.out.drew⟩
        case measure => simp [intOf]; omega
      · have hie : i = clock.length := by omega
        subst hie
        have hTL : whens (clock.take clock.length) = whens clock := by rw [List.take_length]
        rw [hTL] at HSB hsb
        have hwa := HWA.out
        have hsz : sb.size ≤ 1000000000100 := by omega
        have HSZ := Lib.hid hsb
        clear hsb hwa hTL
        go_wp2_with fail
        refine (HEX.out _ HWR.out).mono ?_
        rintro e w6 ⟨⟨s6, rfl, hs6, hz6⟩, hb6⟩
        have HS6 := Lib.hid hs6
        have HZ6 := Lib.hid (HO.out _ (HLT.out _ _ HWR.out hb6))
        clear hs6 hb6 z3 z4 z5 z6 z7 z8 z9 z10 z11 z12
        go_wp2_with fail
        go_ret
        refine ⟨⟨_, rfl, ?_, ?_⟩, HZ6.out⟩
        · rw [HTX.out]
          simp only [bs_app, HSB.out, HS6.out, List.append_assoc] <;> rfl
        · simp only [ByteArray.size_append]
          have h6 := size_of HS6.out
          have h7 := HFT.out
          show sb.size + (3 + s6.size) ≤ _
          omega

end Go.Proofs.YtmhjcnnocllniaaDoor.sh
