/-
  read of package tree: its walk, by induction on the expression.
-/
import Derived.Test.YtjkkalhgbfbcbaaTrOnce
import Derived.Deep.LoopGhost
namespace Go.Proofs.Ytjkkalhgbfbcbaa.tr
open Go.ChangeShapes Go.WideShapes Go.ChangeAt Go.RowKit Go.Maps Go.WideMaps
set_option linter.unusedVariables false

theorem ret_bool {a b : Bool} (h : a = b) : Ending.returned (.bool a) = .returned (.bool b) := by rw [h]

theorem behind_any (k i : Nat) (hk : k ≤ 255) (w : World) :
    Calls Try.prog 65 #[.int .u8 k, .int .i64 i] w fun e w' => e = .returned (.bool (behindB k i)) ∧ w = w' := by
  have e10 : ((k : Int) == 10) = decide (k = 10) := by rw [Bool.eq_iff_iff]; simp; omega
  have e9 : ((k : Int) == 9) = decide (k = 9) := by rw [Bool.eq_iff_iff]; simp; omega
  have e1 : ((i : Int) == 1) = decide (i = 1) := by rw [Bool.eq_iff_iff]; simp; omega
  unfold behindB
  cases h10 : decide (k = 10) <;> cases h9 : decide (k = 9) <;> cases h1 : decide (i = 1)
  all_goals
    rw [h10] at e10
    rw [h9] at e9
    rw [h1] at e1
    clear h10 h9 h1
    go_enter Try.func65, Try.ntmps65
    go_wp2
    go_ret
    exact ⟨rfl, rfl⟩

def ReadPost (w0 : World) (g n : Nat) (ns : List ByteArray) (e : Ending) (w' : World) : Prop := e = .returned (.tuple #[]) ∧ (∃ lv mv, IsOnce w' w0.heap.size g n ns lv mv) ∧ Below w0.heap.size w0 w'

/-- the head of an expression: what the loop finds behind it -/
theorem callsK_at (later : Bool) (k i : Nat) (kids : List Ex) (hi : i < kids.length) : callsK later k i (kids.drop i) = (if later || !behindB k i then calls later kids[i] else []) ++ callsK later k (i + 1) (kids.drop (i + 1)) := by
  rw [List.drop_eq_getElem_cons hi, callsK]

set_option maxRecDepth 100000 in
set_option maxHeartbeats 8000000 in
theorem read_any (later : Bool) (N : Nat) : ∀ (x : Ex), sz x ≤ N → ∀ (w0 w : World) (b off g n : Nat) (ns : List ByteArray) (lv mv : Value), LaidAt w0 b off x → Below w0.heap.size w0 w → IsOnce w w0.heap.size g n ns lv mv → n + (calls later x).length ≤ 1000000 →
    Calls Try.prog 38 #[.pointer (some ⟨b, off, none⟩), .bool later, .func (.func 39) #[.pointer (some ⟨g, 0, none⟩)] #[]] w (ReadPost w0 g (n + (calls later x).length) (addAll ns (calls later x))) := by
  induction N with
  | zero => intro x h; have := sz_pos x; omega
  | succ N ih =>
    intro x hN w0 w b off g n ns lv mv hl hb hO hn
    obtain ⟨k, o, num, nm, nms, kids, ln, cl⟩ := x
    obtain ⟨cs, hc, hx⟩ := hl
    unfold LaidC at hx
    obtain ⟨hk, _, hnm, _, hkl, na, nc, ka, kc, _, hkc, rfl, _, hks⟩ := hx
    unfold sz at hN
    have z0 := hc 0 _ rfl
    have z3 := hc 3 _ rfl
    have z5 := hc 5 _ rfl
    rw [Nat.add_zero] at z0
    have hbl : b < w0.heap.size := World.block_lt_of_cell? w0 _ z0
    have HC : Hid (∀ W, Below w0.heap.size w0 W → W.cell? ⟨b, off, none⟩ = some (.int .u8 (k : Int)) ∧ W.cell? ⟨b, off + 3, none⟩ = some (.string nm) ∧ W.cell? ⟨b, off + 5, none⟩ = some (.slice ka kids.length kc)) := Lib.hid fun W hW =>
      ⟨(hW.cell (p := ⟨b, off, none⟩) hbl).trans z0, (hW.cell (p := ⟨b, off + 3, none⟩) hbl).trans z3, (hW.cell (p := ⟨b, off + 5, none⟩) hbl).trans z5⟩
    have HK := Lib.hid hks
    have HO := Lib.hid hO
    have HB := Lib.hid hb
    have hcs : calls later (.mk k o num nm nms kids ln cl) = (if k = 4 ∨ k = 13 then [nm] else []) ++ (callsK later k 0 kids ++ if k = 12 then [nm] else []) := by rw [calls]
    have HCS := Lib.hid hcs
    have HN := Lib.hid hn
    unfold maxLen at hkl
    clear z0 z3 z5 hc hks hO hb hcs hn
    --WALK
    have hlong := HN.out
    rw [HCS.out] at hlong
    simp only [List.length_append] at hlong
    by_cases hhead : k = 4 ∨ k = 13
    · have hk12 : k ≠ 12 := by omega
      have f12 : ((k : Int) == 12) = false := by rw [beq_eq_false_iff_ne]; omega
      have hh : ((k : Int) == 4) = true ∨ (((k : Int) == 4) = false ∧ ((k : Int) == 13) = true) := by
        rcases hhead with rfl | rfl
        · exact .inl rfl
        · exact .inr ⟨rfl, rfl⟩
      rw [if_pos hhead] at hlong
      simp only [List.length_cons, List.length_nil] at hlong
      have hadd := add_any w w0.heap.size g n ns lv mv nm hnm (by omega) HB.out.size HO.out
      have HADD := Lib.hid hadd
      have HBD0 : Hid (n + 1 + (callsK later k 0 kids).length ≤ 1000000) := Lib.hid (by omega)
      have HHEAD := Lib.hid hhead
      have HK12 := Lib.hid hk12
      have hz := HC.out w HB.out
      obtain ⟨x0, x3, x5⟩ := hz
      clear hadd hhead hk12 hlong
      rcases hh with f4 | ⟨f4, f13⟩
      all_goals
        go_enter Try.func38, Try.ntmps38
        go_wp2_with fail
        refine HADD.out.mono ?_
        rintro e W1 ⟨rfl, ⟨lv1, mv1, hO1⟩, hb1⟩
        have HO1 := Lib.hid hO1
        have HB1 := Lib.hid (HB.out.trans (hb1.mono (Nat.le_refl _)))
        obtain ⟨n1, hn1⟩ : ∃ n1, n1 = n + 1 := ⟨_, rfl⟩
        obtain ⟨ns1, hns1⟩ : ∃ ns1, ns1 = addN ns nm := ⟨_, rfl⟩
        rw [← hn1, ← hns1] at HO1
        have HBD := HBD0
        rw [← hn1] at HBD
        clear HBD0
        have HN1 := Lib.hid hn1
        have HNS1 := Lib.hid hns1
        clear hO1 hb1 hn1 hns1 x0 x3 x5
        have hz := HC.out W1 HB1.out
        obtain ⟨y0, y3, y5⟩ := hz
        go_wp2_with fail
        go_loopw [6, 30] (fun _ iv wr => ∃ (i cnt : Nat) (nsi : List ByteArray), i ≤ kids.length ∧ iv = .int .i64 i ∧ Hid (∃ lv mv, IsOnce wr w0.heap.size g cnt nsi lv mv) ∧ Hid (Below w0.heap.size w0 wr) ∧ Hid (addAll nsi (callsK later k i (kids.drop i)) = addAll ns1 (callsK later k 0 kids) ∧ cnt + (callsK later k i (kids.drop i)).length = n1 + (callsK later k 0 kids).length)) (fun _ iv _ => kids.length - (intOf iv).toNat)
        case atStart => exact ⟨0, n1, ns1, by omega, rfl, Lib.hid ⟨_, _, HO1.out⟩, HB1, Lib.hid ⟨by rw [List.drop_zero], by rw [List.drop_zero]⟩⟩
        case round =>
          obtain ⟨i, cnt, nsi, hi, rfl, HOi, HBi, HEi⟩ := hrel
          have hz := HC.out wr HBi.out
          obtain ⟨y0, y3, y5⟩ := hz
          by_cases hlt : i < kids.length
          · obtain ⟨lvi, mvi, hOi⟩ := HOi.out
            obtain ⟨kb, koff, rfl, hkid⟩ := HK.out.get i hlt
            have hat := callsK_at later k i kids hlt
            have hEi := HEi.out
            have hsz := sz_kid kids i hlt
            have hlong := HBD.out
            have hBs := HBi.out.size
            have hi0 : (0 : Int) ≤ (i : Int) := Int.natCast_nonneg _
            have hi1 : (i : Int) < (kids.length : Int) := by omega
            cases hq : (later || !behindB k i)
            · rw [hq] at hat
              simp only [Bool.false_eq_true, if_false, List.nil_append] at hat
              rw [hat] at hEi
              have hq2 : later = false ∧ behindB k i = true := by simpa using hq
              obtain ⟨rfl, hq3⟩ := hq2
              have hbe := behind_any k i hk
              rw [hq3] at hbe
              have HBE := Lib.hid hbe
              have HEn := Lib.hid hEi
              have HOn : Hid (∃ lv mv, IsOnce wr w0.heap.size g cnt nsi lv mv) := HOi
              clear hq hq3 hbe hat hEi hOi hkid hsz hlong
              go_wp2_with fail
              refine (HBE.out _).mono ?_
              rintro e w' ⟨rfl, rfl⟩
              go_wp2_with fail
              go_roundw
              case rel => exact ⟨i + 1, cnt, nsi, by omega, by go_num, HOn, HBi, HEn⟩
              case measure => simp [intOf]; omega
            · rw [hq] at hat
              simp only [if_true] at hat
              rw [hat, addAll_app, List.length_append] at hEi
              have hEi2 := hEi.2
              have hcall := ih kids[i] (by omega) w0 wr kb (koff + i * 8) g cnt nsi lvi mvi hkid HBi.out hOi (by omega)
              have HCALL := Lib.hid hcall
              have HEn := Lib.hid hEi
              clear hat hEi hEi2 hOi hkid hsz hlong hcall
              cases later
              · have hq3 : behindB k i = false := by simpa using hq
                have hbe := behind_any k i hk
                rw [hq3] at hbe
                have HBE := Lib.hid hbe
                clear hq hq3 hbe
                go_wp2_with fail
                refine (HBE.out _).mono ?_
                rintro e w' ⟨rfl, rfl⟩
                go_wp2_with fail
                refine HCALL.out.mono ?_
                rintro e w2 ⟨rfl, hO2, hb2⟩
                have HO2 := Lib.hid hO2
                have HB2 := Lib.hid hb2
                clear hO2 hb2
                go_wp2_with fail
                go_roundw
                case rel => exact ⟨i + 1, cnt + (calls false kids[i]).length, addAll nsi (calls false kids[i]), by omega, by go_num, HO2, HB2, Lib.hid ⟨HEn.out.1, by have := HEn.out.2; omega⟩⟩
                case measure => simp [intOf]; omega
              · clear hq
                go_wp2_with fail
                refine HCALL.out.mono ?_
                rintro e w2 ⟨rfl, hO2, hb2⟩
                have HO2 := Lib.hid hO2
                have HB2 := Lib.hid hb2
                clear hO2 hb2
                go_wp2_with fail
                go_roundw
                case rel => exact ⟨i + 1, cnt + (calls true kids[i]).length, addAll nsi (calls true kids[i]), by omega, by go_num, HO2, HB2, Lib.hid ⟨HEn.out.1, by have := HEn.out.2; omega⟩⟩
                case measure => simp [intOf]; omega
          · obtain rfl : i = kids.length := by omega
            obtain ⟨lvi, mvi, hOi⟩ := HOi.out
            have hEi := HEi.out
            rw [List.drop_length, callsK] at hEi
            obtain ⟨hE1, hE2⟩ := hEi
            have hE1 : nsi = addAll ns1 (callsK later k 0 kids) := by simpa [addAll] using hE1
            have hE2 : cnt = n1 + (callsK later k 0 kids).length := by simpa using hE2
            have HOI := Lib.hid hOi
            have HE1 := Lib.hid hE1
            have HE2 := Lib.hid hE2
            clear hE1 hE2 hOi
            go_wp2_with fail
            go_end0
            refine ⟨rfl, ?_, HBi.out⟩
            rw [HCS.out]
            rw [if_pos HHEAD.out, if_neg HK12.out]
            have h3 := HN1.out
            have h4 := HNS1.out
            subst h3
            subst h4
            have h1 := HE1.out
            have h2 := HE2.out
            subst h1
            subst h2
            exact ⟨lvi, mvi, by simpa [addAll, Nat.add_assoc, Nat.add_comm, Nat.add_left_comm] using HOI.out⟩
    · have f4 : ((k : Int) == 4) = false := by rw [beq_eq_false_iff_ne]; omega
      have f13 : ((k : Int) == 13) = false := by rw [beq_eq_false_iff_ne]; omega
      rw [if_neg hhead] at hlong
      simp only [List.length_nil, Nat.zero_add] at hlong
      have HHEAD := Lib.hid hhead
      have HBD : Hid (n + (callsK later k 0 kids).length ≤ 1000000) := Lib.hid (by omega)
      have HLONG := Lib.hid hlong
      have HO1 := HO
      have HB1 := HB
      obtain ⟨n1, hn1⟩ : ∃ n1, n1 = n := ⟨_, rfl⟩
      obtain ⟨ns1, hns1⟩ : ∃ ns1, ns1 = ns := ⟨_, rfl⟩
      rw [← hn1, ← hns1] at HO1
      rw [← hn1] at HBD
      have HN1 := Lib.hid hn1
      have HNS1 := Lib.hid hns1
      have hz0 := HC.out w HB.out
      obtain ⟨x0, x3, x5⟩ := hz0
      clear hhead hlong hn1 hns1
      by_cases h12 : k = 12
      · have f12 : ((k : Int) == 12) = true := by rw [h12]; rfl
        have HK12 := Lib.hid h12
        clear h12
        go_enter Try.func38, Try.ntmps38
        go_wp2_with fail
        clear x0 x3 x5
        have hz := HC.out w HB1.out
        obtain ⟨y0, y3, y5⟩ := hz
        go_wp2_with fail
        go_loopw [6, 30] (fun _ iv wr => ∃ (i cnt : Nat) (nsi : List ByteArray), i ≤ kids.length ∧ iv = .int .i64 i ∧ Hid (∃ lv mv, IsOnce wr w0.heap.size g cnt nsi lv mv) ∧ Hid (Below w0.heap.size w0 wr) ∧ Hid (addAll nsi (callsK later k i (kids.drop i)) = addAll ns1 (callsK later k 0 kids) ∧ cnt + (callsK later k i (kids.drop i)).length = n1 + (callsK later k 0 kids).length)) (fun _ iv _ => kids.length - (intOf iv).toNat)
        case atStart => exact ⟨0, n1, ns1, by omega, rfl, Lib.hid ⟨_, _, HO1.out⟩, HB1, Lib.hid ⟨by rw [List.drop_zero], by rw [List.drop_zero]⟩⟩
        case round =>
          obtain ⟨i, cnt, nsi, hi, rfl, HOi, HBi, HEi⟩ := hrel
          have hz := HC.out wr HBi.out
          obtain ⟨y0, y3, y5⟩ := hz
          by_cases hlt : i < kids.length
          · obtain ⟨lvi, mvi, hOi⟩ := HOi.out
            obtain ⟨kb, koff, rfl, hkid⟩ := HK.out.get i hlt
            have hat := callsK_at later k i kids hlt
            have hEi := HEi.out
            have hsz := sz_kid kids i hlt
            have hlong := HBD.out
            have hBs := HBi.out.size
            have hi0 : (0 : Int) ≤ (i : Int) := Int.natCast_nonneg _
            have hi1 : (i : Int) < (kids.length : Int) := by omega
            cases hq : (later || !behindB k i)
            · rw [hq] at hat
              simp only [Bool.false_eq_true, if_false, List.nil_append] at hat
              rw [hat] at hEi
              have hq2 : later = false ∧ behindB k i = true := by simpa using hq
              obtain ⟨rfl, hq3⟩ := hq2
              have hbe := behind_any k i hk
              rw [hq3] at hbe
              have HBE := Lib.hid hbe
              have HEn := Lib.hid hEi
              have HOn : Hid (∃ lv mv, IsOnce wr w0.heap.size g cnt nsi lv mv) := HOi
              clear hq hq3 hbe hat hEi hOi hkid hsz hlong
              go_wp2_with fail
              refine (HBE.out _).mono ?_
              rintro e w' ⟨rfl, rfl⟩
              go_wp2_with fail
              go_roundw
              case rel => exact ⟨i + 1, cnt, nsi, by omega, by go_num, HOn, HBi, HEn⟩
              case measure => simp [intOf]; omega
            · rw [hq] at hat
              simp only [if_true] at hat
              rw [hat, addAll_app, List.length_append] at hEi
              have hEi2 := hEi.2
              have hcall := ih kids[i] (by omega) w0 wr kb (koff + i * 8) g cnt nsi lvi mvi hkid HBi.out hOi (by omega)
              have HCALL := Lib.hid hcall
              have HEn := Lib.hid hEi
              clear hat hEi hEi2 hOi hkid hsz hlong hcall
              cases later
              · have hq3 : behindB k i = false := by simpa using hq
                have hbe := behind_any k i hk
                rw [hq3] at hbe
                have HBE := Lib.hid hbe
                clear hq hq3 hbe
                go_wp2_with fail
                refine (HBE.out _).mono ?_
                rintro e w' ⟨rfl, rfl⟩
                go_wp2_with fail
                refine HCALL.out.mono ?_
                rintro e w2 ⟨rfl, hO2, hb2⟩
                have HO2 := Lib.hid hO2
                have HB2 := Lib.hid hb2
                clear hO2 hb2
                go_wp2_with fail
                go_roundw
                case rel => exact ⟨i + 1, cnt + (calls false kids[i]).length, addAll nsi (calls false kids[i]), by omega, by go_num, HO2, HB2, Lib.hid ⟨HEn.out.1, by have := HEn.out.2; omega⟩⟩
                case measure => simp [intOf]; omega
              · clear hq
                go_wp2_with fail
                refine HCALL.out.mono ?_
                rintro e w2 ⟨rfl, hO2, hb2⟩
                have HO2 := Lib.hid hO2
                have HB2 := Lib.hid hb2
                clear hO2 hb2
                go_wp2_with fail
                go_roundw
                case rel => exact ⟨i + 1, cnt + (calls true kids[i]).length, addAll nsi (calls true kids[i]), by omega, by go_num, HO2, HB2, Lib.hid ⟨HEn.out.1, by have := HEn.out.2; omega⟩⟩
                case measure => simp [intOf]; omega
          · obtain rfl : i = kids.length := by omega
            obtain ⟨lvi, mvi, hOi⟩ := HOi.out
            have hEi := HEi.out
            rw [List.drop_length, callsK] at hEi
            obtain ⟨hE1, hE2⟩ := hEi
            have hE1 : nsi = addAll ns1 (callsK later k 0 kids) := by simpa [addAll] using hE1
            have hE2 : cnt = n1 + (callsK later k 0 kids).length := by simpa using hE2
            have HOI := Lib.hid hOi
            have HE1 := Lib.hid hE1
            have HE2 := Lib.hid hE2
            clear hE1 hE2 hOi
            have hcnt : cnt ≤ 1000000 := by
              have := HE2.out
              have := HBD.out
              omega
            have hadd := add_any wr w0.heap.size g cnt nsi lvi mvi nm hnm hcnt HBi.out.size HOI.out
            have HADD := Lib.hid hadd
            clear hadd hcnt
            go_wp2_with fail
            refine HADD.out.mono ?_
            rintro e w2 ⟨rfl, ⟨lv2, mv2, hO2⟩, hb2⟩
            have HO2 := Lib.hid hO2
            have HB2 := Lib.hid (HBi.out.trans (hb2.mono (Nat.le_refl _)))
            clear hO2 hb2
            go_wp2_with fail
            go_end0
            refine ⟨rfl, ?_, HB2.out⟩
            rw [HCS.out, if_neg HHEAD.out, if_pos HK12.out]
            have h3 := HN1.out
            have h4 := HNS1.out
            subst h3
            subst h4
            have h1 := HE1.out
            have h2 := HE2.out
            subst h1
            subst h2
            exact ⟨lv2, mv2, by simpa [addAll, Nat.add_assoc, Nat.add_comm, Nat.add_left_comm] using HO2.out⟩
      · have f12 : ((k : Int) == 12) = false := by rw [beq_eq_false_iff_ne]; omega
        have HK12 := Lib.hid h12
        clear h12
        go_enter Try.func38, Try.ntmps38
        go_wp2_with fail
        clear x0 x3 x5
        have hz := HC.out w HB1.out
        obtain ⟨y0, y3, y5⟩ := hz
        go_wp2_with fail
        go_loopw [6, 30] (fun _ iv wr => ∃ (i cnt : Nat) (nsi : List ByteArray), i ≤ kids.length ∧ iv = .int .i64 i ∧ Hid (∃ lv mv, IsOnce wr w0.heap.size g cnt nsi lv mv) ∧ Hid (Below w0.heap.size w0 wr) ∧ Hid (addAll nsi (callsK later k i (kids.drop i)) = addAll ns1 (callsK later k 0 kids) ∧ cnt + (callsK later k i (kids.drop i)).length = n1 + (callsK later k 0 kids).length)) (fun _ iv _ => kids.length - (intOf iv).toNat)
        case atStart => exact ⟨0, n1, ns1, by omega, rfl, Lib.hid ⟨_, _, HO1.out⟩, HB1, Lib.hid ⟨by rw [List.drop_zero], by rw [List.drop_zero]⟩⟩
        case round =>
          obtain ⟨i, cnt, nsi, hi, rfl, HOi, HBi, HEi⟩ := hrel
          have hz := HC.out wr HBi.out
          obtain ⟨y0, y3, y5⟩ := hz
          by_cases hlt : i < kids.length
          · obtain ⟨lvi, mvi, hOi⟩ := HOi.out
            obtain ⟨kb, koff, rfl, hkid⟩ := HK.out.get i hlt
            have hat := callsK_at later k i kids hlt
            have hEi := HEi.out
            have hsz := sz_kid kids i hlt
            have hlong := HBD.out
            have hBs := HBi.out.size
            have hi0 : (0 : Int) ≤ (i : Int) := Int.natCast_nonneg _
            have hi1 : (i : Int) < (kids.length : Int) := by omega
            cases hq : (later || !behindB k i)
            · rw [hq] at hat
              simp only [Bool.false_eq_true, if_false, List.nil_append] at hat
              rw [hat] at hEi
              have hq2 : later = false ∧ behindB k i = true := by simpa using hq
              obtain ⟨rfl, hq3⟩ := hq2
              have hbe := behind_any k i hk
              rw [hq3] at hbe
              have HBE := Lib.hid hbe
              have HEn := Lib.hid hEi
              have HOn : Hid (∃ lv mv, IsOnce wr w0.heap.size g cnt nsi lv mv) := HOi
              clear hq hq3 hbe hat hEi hOi hkid hsz hlong
              go_wp2_with fail
              refine (HBE.out _).mono ?_
              rintro e w' ⟨rfl, rfl⟩
              go_wp2_with fail
              go_roundw
              case rel => exact ⟨i + 1, cnt, nsi, by omega, by go_num, HOn, HBi, HEn⟩
              case measure => simp [intOf]; omega
            · rw [hq] at hat
              simp only [if_true] at hat
              rw [hat, addAll_app, List.length_append] at hEi
              have hEi2 := hEi.2
              have hcall := ih kids[i] (by omega) w0 wr kb (koff + i * 8) g cnt nsi lvi mvi hkid HBi.out hOi (by omega)
              have HCALL := Lib.hid hcall
              have HEn := Lib.hid hEi
              clear hat hEi hEi2 hOi hkid hsz hlong hcall
              cases later
              · have hq3 : behindB k i = false := by simpa using hq
                have hbe := behind_any k i hk
                rw [hq3] at hbe
                have HBE := Lib.hid hbe
                clear hq hq3 hbe
                go_wp2_with fail
                refine (HBE.out _).mono ?_
                rintro e w' ⟨rfl, rfl⟩
                go_wp2_with fail
                refine HCALL.out.mono ?_
                rintro e w2 ⟨rfl, hO2, hb2⟩
                have HO2 := Lib.hid hO2
                have HB2 := Lib.hid hb2
                clear hO2 hb2
                go_wp2_with fail
                go_roundw
                case rel => exact ⟨i + 1, cnt + (calls false kids[i]).length, addAll nsi (calls false kids[i]), by omega, by go_num, HO2, HB2, Lib.hid ⟨HEn.out.1, by have := HEn.out.2; omega⟩⟩
                case measure => simp [intOf]; omega
              · clear hq
                go_wp2_with fail
                refine HCALL.out.mono ?_
                rintro e w2 ⟨rfl, hO2, hb2⟩
                have HO2 := Lib.hid hO2
                have HB2 := Lib.hid hb2
                clear hO2 hb2
                go_wp2_with fail
                go_roundw
                case rel => exact ⟨i + 1, cnt + (calls true kids[i]).length, addAll nsi (calls true kids[i]), by omega, by go_num, HO2, HB2, Lib.hid ⟨HEn.out.1, by have := HEn.out.2; omega⟩⟩
                case measure => simp [intOf]; omega
          · obtain rfl : i = kids.length := by omega
            obtain ⟨lvi, mvi, hOi⟩ := HOi.out
            have hEi := HEi.out
            rw [List.drop_length, callsK] at hEi
            obtain ⟨hE1, hE2⟩ := hEi
            have hE1 : nsi = addAll ns1 (callsK later k 0 kids) := by simpa [addAll] using hE1
            have hE2 : cnt = n1 + (callsK later k 0 kids).length := by simpa using hE2
            have HOI := Lib.hid hOi
            have HE1 := Lib.hid hE1
            have HE2 := Lib.hid hE2
            clear hE1 hE2 hOi
            go_wp2_with fail
            go_end0
            refine ⟨rfl, ?_, HBi.out⟩
            rw [HCS.out]
            rw [if_neg HHEAD.out, if_neg HK12.out]
            have h3 := HN1.out
            have h4 := HNS1.out
            subst h3
            subst h4
            have h1 := HE1.out
            have h2 := HE2.out
            subst h1
            subst h2
            exact ⟨lvi, mvi, by simpa [addAll, Nat.add_assoc, Nat.add_comm, Nat.add_left_comm] using HOI.out⟩
end Go.Proofs.Ytjkkalhgbfbcbaa.tr
