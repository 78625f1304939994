/-
  How great an expression is: its walk.
-/
import Derived.Test.YtjkkalhgbfbcbaaTrDepth
import Derived.Test.YtjkkalhgbfbcbaaTrReads
namespace Go.Proofs.Ytjkkalhgbfbcbaa.tr
open Go.ChangeShapes Go.WideShapes Go.ChangeAt Go.RowKit
set_option linter.unusedVariables false

set_option maxRecDepth 100000 in
theorem depth_top (w : World) (x : Ex) (cs : Array Value) (h : LaidC w x cs.toList) (hn : sz x ≤ 1000000) :
    Calls Try.prog 34 #[.agg cs] w (fun e w' => e = .returned (.int .i64 (depthE x)) ∧ Below w.heap.size w w') := by
  have hl := h.boxed
  obtain ⟨c0, c1, c2, c3, c4, c5, c6, c7, rfl⟩ := h.form
  have HR := Lib.hid (depth_any (sz x) x (Nat.le_refl _) hn _ _ _ hl)
  have HB := Lib.hid ((Below.refl w.heap.size w).alloc (Nat.le_refl _) (.cells #[c0, c1, c2, c3, c4, c5, c6, c7] 44))
  clear hl h
  go_enter Try.func34, Try.ntmps34
  go_wp2_with fail
  refine HR.out.mono ?_
  rintro e w1 ⟨rfl, rfl⟩
  go_wp2_with fail
  go_ret
  exact ⟨rfl, HB.out⟩

def VisitPost (w0 w : World) (g : Nat) (c : Nat) (e : Ending) (w' : World) : Prop := e = .returned (.tuple #[]) ∧ Has w' g 3 #[.int .i64 c] ∧ Below g w0 w'

set_option maxRecDepth 100000 in
theorem visit_any (w0 w : World) (g : Nat) (c : Nat) (p : Value) (h : Has w g 3 #[.int .i64 c]) (hb : Below g w0 w) (hc : c ≤ 1000000) :
    Calls Try.prog 70 #[p, .pointer (some ⟨g, 0, none⟩)] w (VisitPost w0 w g (c + 1)) := by
  have c0 := h.cell 0
  simp only [List.getElem?_toArray, List.getElem?_cons_zero] at c0
  have f0 := h.free 0
  have hp := h.put 0 (.int .i64 ((c : Int) + 1))
  have HP := Lib.hid hp
  have HB := Lib.hid (hb.setCell (p := ⟨g, 0, none⟩) (Nat.le_refl _) (.int .i64 ((c : Int) + 1)))
  clear hp h hb
  go_enter Try.func70, Try.ntmps70
  go_wp2_with fail
  go_end0
  exact ⟨rfl, by simpa using HP.out, HB.out⟩

theorem szK_drop (l : List Ex) (i : Nat) (hi : i < l.length) : szK (l.drop i) = sz l[i] + szK (l.drop (i + 1)) := by
  rw [List.drop_eq_getElem_cons hi, szK]

set_option maxRecDepth 100000 in
set_option maxHeartbeats 8000000 in
theorem walk_any (N : Nat) : ∀ (x : Ex), sz x ≤ N → ∀ (w0 w : World) (b off g c : Nat), LaidAt w0 b off x → g = w0.heap.size → Below g w0 w → Has w g 3 #[.int .i64 c] → c + sz x ≤ 1000000 →
    Calls Try.prog 41 #[.pointer (some ⟨b, off, none⟩), .func (.func 70) #[] #[.pointer (some ⟨g, 0, none⟩)]] w (VisitPost w0 w g (c + sz x)) := by
  induction N with
  | zero => intro x h; have := sz_pos x; omega
  | succ N ih =>
    intro x hN w0 w b off g c hl hg hb hh hM
    subst hg
    obtain ⟨k, o, num, nm, nms, kids, ln, cl⟩ := x
    have hszx : sz (.mk k o num nm nms kids ln cl) = 1 + szK kids := by rw [sz]
    obtain ⟨cs, hc, hx⟩ := hl
    unfold LaidC at hx
    obtain ⟨hk, _, hnm, _, hkl, na, nc, ka, kc, _, hkc, rfl, _, hks⟩ := hx
    rw [hszx] at hN hM ⊢
    have z0 := hc 0 _ rfl
    have z5 := hc 5 _ rfl
    rw [Nat.add_zero] at z0
    have hbl : b < w0.heap.size := World.block_lt_of_cell? w0 _ z0
    have HC : Hid (∀ W, Below w0.heap.size w0 W → W.cell? ⟨b, off, none⟩ = some (.int .u8 (k : Int)) ∧ W.cell? ⟨b, off + 5, none⟩ = some (.slice ka kids.length kc)) := Lib.hid fun W hW =>
      ⟨(hW.cell (p := ⟨b, off, none⟩) (hbl)).trans z0, (hW.cell (p := ⟨b, off + 5, none⟩) (hbl)).trans z5⟩
    have HK := Lib.hid hks
    have HV := Lib.hid (fun p => visit_any w0 w w0.heap.size c p hh hb (by omega))
    have hz := HC.out w hb
    obtain ⟨x0, x5⟩ := hz
    unfold maxLen at hkl
    clear z0 z5 hc hks hb hh hszx
    go_enter Try.func41, Try.ntmps41
    go_wp2_with fail
    refine (HV.out _).mono ?_
    rintro e w1 ⟨rfl, hH1, hB1⟩
    have hz := HC.out w1 hB1
    obtain ⟨y0, y5⟩ := hz
    have HH1 := Lib.hid hH1
    have HB1 := Lib.hid hB1
    clear hH1 hB1 x0 x5
    go_wp2_with fail
    go_loopw [13] (fun iv wr => ∃ (i cc : Nat), i ≤ kids.length ∧ iv = .int .i64 i ∧ Hid (Has wr w0.heap.size 3 #[.int .i64 cc]) ∧ Hid (Below w0.heap.size w0 wr) ∧ Hid (cc + szK (kids.drop i) = c + 1 + szK kids)) (fun iv _ => kids.length - (intOf iv).toNat)
    case atStart => exact ⟨0, c + 1, by omega, rfl, HH1, HB1, Lib.hid (by rw [List.drop_zero])⟩
    case round =>
      obtain ⟨i, cc, hi, rfl, HHi, HBi, HEi⟩ := hrel
      have hz := HC.out wr HBi.out
      obtain ⟨v0, v5⟩ := hz
      by_cases hlt : i < kids.length
      · obtain ⟨kb, koff, rfl, hkid⟩ := HK.out.get i hlt
        have hsz := sz_kid kids i hlt
        have hEi := HEi.out
        rw [szK_drop kids i hlt] at hEi
        have hcall := ih kids[i] (by omega) w0 wr kb (koff + i * 8) w0.heap.size cc hkid rfl HBi.out HHi.out (by omega)
        have HCALL := Lib.hid hcall
        have HEn : Hid (cc + sz kids[i] + szK (kids.drop (i + 1)) = c + 1 + szK kids) := Lib.hid (by omega)
        have hi0 : (0 : Int) ≤ (i : Int) := Int.natCast_nonneg _
        have hi1 : (i : Int) < (kids.length : Int) := by omega
        clear hkid hsz hcall hEi
        go_wp2_with fail
        refine HCALL.out.mono ?_
        rintro e w2 ⟨rfl, hH2, hB2⟩
        have HH2 := Lib.hid hH2
        have HB2 := Lib.hid hB2
        clear hH2 hB2
        go_wp2_with fail
        go_roundw
        case rel => exact ⟨i + 1, cc + sz kids[i], by omega, by go_num, HH2, HB2, HEn⟩
        case measure => simp [intOf]; omega
      · have hie : i = kids.length := by omega
        subst hie
        have hEi := HEi.out
        rw [List.drop_length, szK] at hEi
        have HE1 : Hid (cc = c + (1 + szK kids)) := Lib.hid (by omega)
        clear hEi
        go_wp2_with fail
        go_end0
        exact ⟨rfl, by rw [← HE1.out]; exact HHi.out, HBi.out⟩

def IntPost (w : World) (n : Nat) (e : Ending) (w' : World) : Prop := e = .returned (.int .i64 n) ∧ Below w.heap.size w w'

set_option maxRecDepth 100000 in
theorem size_any (w : World) (x : Ex) (b off : Nat) (hl : LaidAt w b off x) (hn : sz x ≤ 1000000) :
    Calls Try.prog 57 #[.pointer (some ⟨b, off, none⟩)] w (IntPost w (sz x)) := by
  have hmf : ∀ (fn : Fn) (first cap : Array Value) (w : World), (Instr.makeFunc fn first cap).run Try.prog w = .ok (.func fn first cap) w := fun _ _ _ _ => rfl
  have hr := walk_any (sz x) x (Nat.le_refl _) w (w.alloc (.cells #[.int .i64 0] 3)) b off w.heap.size 0 hl rfl ((Below.refl _ _).alloc (Nat.le_refl _) _) (Has.new _ _ _) (by omega)
  have HR := Lib.hid hr
  clear hr hl
  go_enter Try.func57, Try.ntmps57
  go_wp2_with fail
  refine HR.out.mono ?_
  rintro e w1 ⟨rfl, hH, hB⟩
  have c0 := hH.cell 0
  simp only [List.getElem?_toArray, List.getElem?_cons_zero, Nat.zero_add] at c0
  have HB := Lib.hid hB
  clear hB hH hmf
  go_wp2_with fail
  go_ret
  exact ⟨rfl, HB.out⟩

set_option maxRecDepth 100000 in
theorem size_top (w : World) (x : Ex) (cs : Array Value) (h : LaidC w x cs.toList) (hn : sz x ≤ 1000000) :
    Calls Try.prog 33 #[.agg cs] w (IntPost w (sz x)) := by
  have hl := h.boxed
  obtain ⟨c0, c1, c2, c3, c4, c5, c6, c7, rfl⟩ := h.form
  have HR := Lib.hid (size_any _ x _ _ hl hn)
  have HB := Lib.hid ((Below.refl w.heap.size w).alloc (Nat.le_refl _) (.cells #[c0, c1, c2, c3, c4, c5, c6, c7] 44))
  clear hl h
  go_enter Try.func33, Try.ntmps33
  go_wp2_with fail
  refine HR.out.mono ?_
  rintro e w1 ⟨rfl, hb⟩
  have HB2 := Lib.hid (HB.out.trans (hb.mono (by simp only [World.size_alloc]; omega)))
  clear hb
  go_wp2_with fail
  go_ret
  exact ⟨rfl, HB2.out⟩
end Go.Proofs.Ytjkkalhgbfbcbaa.tr
