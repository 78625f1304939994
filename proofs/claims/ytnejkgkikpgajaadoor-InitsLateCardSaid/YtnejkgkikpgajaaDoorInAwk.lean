/-
  inits: the checker; must; the interior of an expression (of those kinds that the law's program has).
  inits: the interior of an expression.
  inits.Check at a node of one definition.
  inits.Check at the law's program: a node without variables of its own, with one definition.
  The laws' program: a node with one variable that comes out, and one definition.
  awake: the document's examples of inits.
-/
import Derived.Test.YtnejkgkikpgajaaDoorInFind
import Derived.Deep.RegionHeld3
import Derived.StillTailTactics
import Derived.Test.YtnejkgkikpgajaaDoorPlTop
import Derived.Test.YtnejkgkikpgajaaDoorFtKind
namespace Go.Proofs.YtnejkgkikpgajaaDoor.ini
open Go.ChangeShapes Go.WideShapes Go.ChangeAt Go.RowKit
open tr ck
set_option linter.unusedVariables false
set_option linter.unusedSimpArgs false

def ErI (w : World) (v : Value) (b : Bool) : Prop :=
  (b = false → v = .nilIface) ∧ (b = true → ∃ ga x y, v = .iface 177 (.pointer (some ⟨ga, 0, none⟩)) ∧ Has w ga 180 #[.int .i64 x, .int .i64 y, .string noT, .bool false, .iface 56 (.int .i64 9)])
def Ic (W : World) (g m : Nat) (S : List ByteArray) (b : Bool) : Prop := ∃ v, Has W g 110 #[.map (some m), v] ∧ ErI W v b ∧ MAt W m (ltL S)
theorem Ic.lt {W : World} {g m : Nat} {S : List ByteArray} {b : Bool} (h : Ic W g m S b) : g < W.heap.size := by obtain ⟨v, h, _⟩ := h; exact h.lt
theorem Ic.map {W : World} {g m : Nat} {S : List ByteArray} {b : Bool} (h : Ic W g m S b) : MAt W m (ltL S) := by obtain ⟨v, _, _, h⟩ := h; exact h
theorem Ic.below {W W' : World} {g m : Nat} {S : List ByteArray} {b : Bool} (h : Ic W g m S b) (hb : Below W.heap.size W W') : Ic W' g m S b := by
  obtain ⟨v, h1, h2, h3⟩ := h
  refine ⟨v, h1.below hb h1.lt, ⟨h2.1, fun e => ?_⟩, h3.below hb h3.lt⟩
  obtain ⟨ga, x, y, e1, e2⟩ := h2.2 e
  exact ⟨ga, x, y, e1, e2.below hb e2.lt⟩
/-- a store to another block of cells -/
theorem Ic.but {W W' : World} {g m N : Nat} {S : List ByteArray} {b : Bool} {t : TypeId} {cs : Array Value} (h : Ic W g m S b) (hb : But W W' N) (hN : Has W N t cs) (h1 : t ≠ 110) (h2 : t ≠ 180) : Ic W' g m S b := by
  obtain ⟨v, k1, k2, k3⟩ := h
  refine ⟨v, hb.has (fun e => h1 (Has.same hN (e ▸ k1))) k1, ⟨k2.1, fun e => ?_⟩, k3.keep (hb.2.2.2.2 _ (k3.notHas hN).symm)⟩
  obtain ⟨ga, x, y, e1, e2⟩ := k2.2 e
  exact ⟨ga, x, y, e1, hb.has (fun e => h2 (Has.same hN (e ▸ e2))) e2⟩

set_option maxRecDepth 100000 in
theorem new_init (w : World) (x y : Int) :
    Calls Tryd.prog 66 #[.int .i64 9, .agg #[.int .i64 x, .int .i64 y]] w fun e w' => ∃ ga, w.heap.size ≤ ga ∧ e = .returned (.iface 177 (.pointer (some ⟨ga, 0, none⟩))) ∧ Has w' ga 180 #[.int .i64 x, .int .i64 y, .string noT, .bool false, .iface 56 (.int .i64 9)] ∧ Below w.heap.size w w' := by
  have hn := Has.new (w.alloc (.cells #[.int .i64 x, .int .i64 y] 27)) 180 #[.int .i64 x, .int .i64 y, .string noT, .bool false, .iface 56 (.int .i64 9)]
  simp only [World.size_alloc] at hn
  have HN := Lib.hid hn
  clear hn
  go_enter Tryd.func66, Tryd.ntmps66
  go_wp2_with fail
  go_ret
  refine ⟨_, ?_, rfl, HN.out, ?_⟩
  · simp
  · go_grown
def MustPost (w : World) (g m : Nat) (S : List ByteArray) (b : Bool) (e : Ending) (w' : World) : Prop := e = .returned (.tuple #[]) ∧ Ic w' g m S b ∧ w.grownBy w' (some g)
set_option maxRecDepth 100000 in
set_option maxHeartbeats 4000000 in
theorem imust_any (w : World) (g m : Nat) (S : List ByteArray) (b h : Bool) (x y : Int) (hS : Ic w g m S b) :
    Calls Tryd.prog 54 #[.pointer (some ⟨g, 0, none⟩), .bool h, .agg #[.int .i64 x, .int .i64 y]] w (MustPost w g m S (b || !h)) := by
  unfold MustPost
  have hg := hS.lt
  cases h
  · obtain ⟨v, hC, hE, hM⟩ := hS
    have c1 := Has.cell hC 1
    simp only [List.getElem?_toArray, List.getElem?_cons_zero, List.getElem?_cons_succ] at c1
    cases b
    · have hv := hE.1 rfl
      subst hv
      have HC := Lib.hid hC
      have HM := Lib.hid hM
      clear hC hM hE
      go_enter Tryd.func54, Tryd.ntmps54
      go_wp2_with fail
      refine (new_init _ x y).mono ?_
      rintro e w1 ⟨ga, hga, rfl, hn, hb⟩
      have hB : Below w.heap.size w w1 := ((Below.refl _ w).alloc (Nat.le_refl _) _).trans (hb.mono (by simp))
      have hk := Has.below HC.out hB hg
      have d3 := hk.cell 1
      have f3 := hk.free 1
      simp only [List.getElem?_toArray, List.getElem?_cons_zero, List.getElem?_cons_succ] at d3
      simp only [World.size_alloc] at hga
      have HB := Lib.hid hB
      have HN := Lib.hid hn
      have HK := Lib.hid hk
      clear hb hB hn hk HC c1
      go_wp2_with fail
      go_returns
      have hgr := grown_put (grown_below (some g) HB.out) 1 (.iface 177 (.pointer (some ⟨ga, 0, none⟩)))
      have hgr1 : w1.grownBy (w1.setCell ⟨g, 1, none⟩ (.iface 177 (.pointer (some ⟨ga, 0, none⟩)))) (some g) := grown_put (grown_refl w1 _) 1 _
      have hm1 := HM.out.below HB.out HM.out.lt
      exact ⟨rfl, ⟨_, HK.out.put 1 _, ⟨(fun h => by cases h), fun _ => ⟨ga, x, y, rfl, HN.out.put_far 1 _ (by omega)⟩⟩, hm1.grown hgr1 (fun e => hm1.notHas HK.out (by injection e with e; exact e.symm))⟩, hgr⟩
    · obtain ⟨ga, x', y', hv, hh⟩ := hE.2 rfl
      subst hv
      have HS : Hid (Ic w g m S true) := Lib.hid ⟨_, hC, hE, hM⟩
      clear hC hM hE hh
      go_enter Tryd.func54, Tryd.ntmps54
      go_wp2_with fail
      go_returns
      have hB : Below w.heap.size w (w.alloc (.cells #[.int .i64 x, .int .i64 y] 27)) := (Below.refl _ w).alloc (Nat.le_refl _) _
      exact ⟨rfl, HS.out.below hB, grown_below _ hB⟩
  · have HS : Hid (Ic w g m S (b || !true)) := Lib.hid (by simpa using hS)
    clear hS
    go_enter Tryd.func54, Tryd.ntmps54
    go_wp2_with fail
    go_returns
    have hB : Below w.heap.size w (w.alloc (.cells #[.int .i64 x, .int .i64 y] 27)) := (Below.refl _ w).alloc (Nat.le_refl _) _
    exact ⟨rfl, HS.out.below hB, grown_below _ hB⟩

mutual
/-- the kinds that the law's program has -/
def kdE : Ex → Bool
  | .mk k _ _ _ _ kids _ _ => decide (k ≠ 9 ∧ k ≠ 12 ∧ k ≠ 13 ∧ (k = 10 ∨ k = 11 → kids.length ≠ 0) ∧ kids.length ≤ 1000000) && kdK kids
def kdK : List Ex → Bool
  | [] => true
  | x :: r => kdE x && kdK r
end
theorem kdK_get : ∀ (l : List Ex), kdK l = true → ∀ i (hi : i < l.length), kdE l[i] = true
  | [], _, i, hi => by simp at hi
  | x :: r, h, i, hi => by
    unfold kdK at h
    rw [Bool.and_eq_true] at h
    cases i with
    | zero => exact h.1
    | succ i => exact kdK_get r h.2 i (by simpa using hi)
mutual
def okI (S : List ByteArray) : Ex → Bool
  | .mk k _ _ _ _ kids _ _ => okIK S kids && (if k = 10 ∨ k = 11 then !lateH S kids else true)
def okIK (S : List ByteArray) : List Ex → Bool
  | [] => true
  | x :: r => okI S x && okIK S r
end
theorem okIK_app (S : List ByteArray) : ∀ (l m : List Ex), okIK S (l ++ m) = (okIK S l && okIK S m)
  | [], m => by simp [okIK]
  | x :: r, m => by show (okI S x && okIK S (r ++ m)) = _; rw [okIK_app S r m, ← Bool.and_assoc]; rfl

/-- the flags of kids, at block kb; the slice at block pb -/
structure Kf (W : World) (pb kb : Nat) (S : List ByteArray) (kids : List Ex) (j : Nat) : Prop where
  box : Has W pb 22 #[.slice (some ⟨kb, 0, none⟩) kids.length kids.length]
  row : ∃ cs : Array Value, Has W kb 4 cs ∧ (∀ i, i < kids.length → ∃ b : Bool, cs[i]? = some (.bool b)) ∧ ∀ i (hi : i < kids.length), i < j → cs[i]? = some (.bool (lateB S kids[i]))
theorem Kf.below {W W' : World} {pb kb : Nat} {S : List ByteArray} {kids : List Ex} {j : Nat} (h : Kf W pb kb S kids j) (hb : Below W.heap.size W W') : Kf W' pb kb S kids j := by
  obtain ⟨cs, h1, h2, h3⟩ := h.row
  exact ⟨h.box.below hb h.box.lt, cs, h1.below hb h1.lt, h2, h3⟩
set_option maxRecDepth 100000 in
theorem flag_any (w : World) (pb kb : Nat) (S : List ByteArray) (kids : List Ex) (i : Nat) (hi : i < kids.length) (h : Kf w pb kb S kids kids.length) :
    Calls Tryd.prog 91 #[.int .i64 (i : Int), .pointer (some ⟨pb, 0, none⟩)] w fun e w' => e = .returned (.bool (lateB S kids[i])) ∧ w = w' := by
  obtain ⟨cs, h1, _, h3⟩ := h.row
  have c0 := h.box.cell 0
  have c1 := (h1.cell i).trans (h3 i hi hi)
  simp only [List.getElem?_toArray, List.getElem?_cons_zero] at c0
  have i0 : (0 : Int) ≤ (i : Int) := Int.natCast_nonneg _
  have i1 : (i : Int) < (kids.length : Int) := by omega
  clear h h1 h3
  go_enter Tryd.func91, Tryd.ntmps91
  go_wp2_with fail
  go_ret
  exact ⟨rfl, rfl⟩
abbrev fHas (m : Nat) : Value := .func (.func 23) #[.map (some m)] #[]
abbrev fFlag (pb : Nat) : Value := .func (.func 91) #[] #[.pointer (some ⟨pb, 0, none⟩)]
set_option maxRecDepth 100000 in
set_option maxHeartbeats 8000000 in
theorem ilate_any (w : World) (m : Nat) (S : List ByteArray) (k o : Nat) (n : Int) (nm : ByteArray) (nms : List ByteArray) (kids : List Ex) (l c : Int) (pb kb b off : Nat) (hL : LaidAt w b off (.mk k o n nm nms kids l c)) (hM : MAt w m (ltL S)) (hF : Kf w pb kb S kids kids.length) (hk9 : k ≠ 9) :
    Calls Tryd.prog 79 #[.pointer (some ⟨b, off, none⟩), fHas m, fFlag pb] w fun e w' => e = .returned (.bool (lateB S (.mk k o n nm nms kids l c))) ∧ Below w.heap.size w w' := by
  obtain ⟨cs, hc, hl⟩ := hL
  unfold LaidC at hl
  obtain ⟨hk, _, _, _, hkl, na, nc, ka, kc, _, _, rfl, _, hkids⟩ := hl
  have k0 := hc 0 _ rfl
  have k3 := hc 3 _ rfl
  have k5 := hc 5 _ rfl
  rw [Nat.add_zero] at k0
  have e4 : ((k : Int) == 4) = decide (k = 4) := by rw [Bool.eq_iff_iff, beq_iff_eq, decide_eq_true_iff]; omega
  have e9 : ((k : Int) == 9) = false := by rw [beq_eq_false_iff_ne]; omega
  have e10 : ((k : Int) == 10) = decide (k = 10) := by rw [Bool.eq_iff_iff, beq_iff_eq, decide_eq_true_iff]; omega
  have e11 : ((k : Int) == 11) = decide (k = 11) := by rw [Bool.eq_iff_iff, beq_iff_eq, decide_eq_true_iff]; omega
  have HF := Lib.hid hF
  have HH := Lib.hid (has_any w m S nm hM)
  clear hc hkids hM hF
  by_cases h10 : k = 10
  · rw [decide_eq_true h10] at e10
    have HE : Hid (lateB S (.mk k o n nm nms kids l c) = true) := Lib.hid (by rw [lateB, if_pos h10])
    clear h10 HH
    go_enter Tryd.func79, Tryd.ntmps79
    go_wp2_with fail
    go_ret
    exact ⟨ret_bool' HE.out.symm, Below.refl _ _⟩
  · rw [decide_eq_false h10] at e10
    by_cases h4 : k = 4
    · rw [decide_eq_true h4] at e4
      have HE : Hid (lateB S (.mk k o n nm nms kids l c) = memB nm S) := Lib.hid (by rw [lateB, if_neg h10, if_pos h4])
      clear h10 h4
      go_enter Tryd.func79, Tryd.ntmps79
      go_wp2_with fail
      refine HH.out.mono ?_
      rintro e w1 ⟨rfl, hb1⟩
      have HB1 := Lib.hid hb1
      clear hb1 HH
      go_wp2_with fail
      go_ret
      exact ⟨ret_bool' HE.out.symm, HB1.out⟩
    · rw [decide_eq_false h4] at e4
      by_cases h11 : k = 11
      · rw [decide_eq_true h11] at e11
        have HE : Hid (lateB S (.mk k o n nm nms kids l c) = lateH S kids) := Lib.hid (by rw [lateB, if_neg h10, if_neg h4, if_pos (.inr h11)])
        clear h10 h4 h11 HH
        by_cases hne : 0 < kids.length
        · have g1 : decide (0 < kids.length) = true := decide_eq_true hne
          have g0 : decide ((kids.length : Int) > 0) = true := decide_eq_true (by omega)
          have HG : Hid (lateH S kids = lateB S kids[0]) := Lib.hid (by
            cases kids with
            | nil => simp at hne
            | cons y r => rfl)
          have HC := Lib.hid (flag_any w pb kb S kids 0 hne HF.out)
          go_enter Tryd.func79, Tryd.ntmps79
          go_wp2_with fail
          refine HC.out.mono ?_
          rintro e w1 ⟨rfl, rfl⟩
          clear HC
          go_wp2_with fail
          go_ret
          exact ⟨ret_bool' (HE.out.trans HG.out).symm, Below.refl _ _⟩
        · have g1 : decide (0 < kids.length) = false := decide_eq_false hne
          have g0 : decide ((kids.length : Int) > 0) = false := decide_eq_false (by omega)
          have HG : Hid (lateH S kids = false) := Lib.hid (by
            cases kids with
            | nil => rfl
            | cons y r => simp at hne)
          clear hne
          go_enter Tryd.func79, Tryd.ntmps79
          go_wp2_with fail
          go_ret
          exact ⟨ret_bool' (HE.out.trans HG.out).symm, Below.refl _ _⟩
      · rw [decide_eq_false h11] at e11
        have HE : Hid (lateB S (.mk k o n nm nms kids l c) = lateK S kids) := Lib.hid (by rw [lateB, if_neg h10, if_neg h4, if_neg (by omega)])
        unfold maxLen at hkl
        clear h10 h4 h11 HH
        go_enter Tryd.func79, Tryd.ntmps79
        go_wp2_with fail
        go_loop [40] (fun iv => ∃ (j : Nat), j ≤ kids.length ∧ iv = .int .i64 j ∧ Hid (lateK S kids = lateK S (kids.drop j))) (fun iv => kids.length - (intOf iv).toNat)
        case atStart => exact ⟨0, by omega, rfl, Lib.hid (by rw [List.drop_zero])⟩
        case round =>
          obtain ⟨j, hj, rfl, HR⟩ := hrel
          by_cases hlt : j < kids.length
          · have i0 : (0 : Int) ≤ (j : Int) := Int.natCast_nonneg _
            have i1 : (j : Int) < (kids.length : Int) := by omega
            have HC := Lib.hid (flag_any w pb kb S kids j hlt HF.out)
            have hd := HR.out
            rw [lateK_drop S kids j hlt] at hd
            cases hb : lateB S kids[j]
            · rw [hb] at HC
              rw [hb, Bool.false_or] at hd
              have HD := Lib.hid hd
              clear hd hb
              go_wp2_with fail
              refine HC.out.mono ?_
              rintro e w1 ⟨rfl, rfl⟩
              clear HC
              go_wp2_with fail
              go_round
              case rel => exact ⟨j + 1, by omega, by go_num, HD⟩
              case measure => simp [intOf]; omega
            · rw [hb] at HC
              rw [hb, Bool.true_or] at hd
              have HD := Lib.hid hd
              clear hd hb
              go_wp2_with fail
              refine HC.out.mono ?_
              rintro e w1 ⟨rfl, rfl⟩
              clear HC
              go_wp2_with fail
              go_ret
              exact ⟨ret_bool' (HE.out.trans HD.out).symm, Below.refl _ _⟩
          · obtain rfl : j = kids.length := by omega
            have HD : Hid (lateK S kids = false) := Lib.hid (by have := HR.out; rw [List.drop_length] at this; exact this)
            clear HR
            go_wp2_with fail
            go_ret
            exact ⟨ret_bool' (HE.out.trans HD.out).symm, Below.refl _ _⟩
end Go.Proofs.YtnejkgkikpgajaaDoor.ini

namespace Go.Proofs.YtnejkgkikpgajaaDoor.ini
open Go.ChangeShapes Go.WideShapes Go.ChangeAt Go.RowKit
open tr ck
set_option linter.unusedVariables false
set_option linter.unusedSimpArgs false

theorem bool_info : (Tryd.prog.info? 4).map (fun i => (i.zero, i.size, i.bytes)) = some (some (.bool false), 1, 1) := by kernel_rfl
def bcells (n : Nat) : Array Value := madeCells (Value.bool false).cells (n * 1)
theorem bcells_get (n u : Nat) (h : u < n) : (bcells n)[u]? = some (.bool false) := by
  unfold bcells madeCells
  simp [Value.cells, Nat.mul_one, h, Nat.mod_one]
theorem run_mkb (n : Nat) (hn : n ≤ 1000000) (w : World) : (Instr.makeSlice 22 (.int .i64 (n : Int)) (.int .i64 (n : Int))).run Tryd.prog w = .ok (.slice (some ⟨w.heap.size, 0, none⟩) n n) (w.alloc (.cells (bcells n) 4)) := by
  obtain ⟨iv0, hvi, hv3⟩ := Option.map_eq_some_iff.1 bool_info
  simp only [Prod.mk.injEq] at hv3
  obtain ⟨hvz, hvs, hvb⟩ := hv3
  have := run_make (P := Tryd.prog) w 22 4 iv0 (.bool false) Tryd.underlying22 hvi hvz .i64 .i64 n n (by omega) (by omega) (by rw [hvb]; omega) (by omega)
  rw [hvs, Int.toNat_natCast] at this
  exact this
def IntPost (W : World) (g m : Nat) (S : List ByteArray) (er : Bool) (x : Ex) (e : Ending) (W' : World) : Prop := e = .returned (.bool (lateB S x)) ∧ Ic W' g m S (er || !okI S x) ∧ W.grownBy W' (some g)
/-- what the loop over the kids keeps -/
structure Ik (W : World) (g m : Nat) (S : List ByteArray) (er : Bool) (kids : List Ex) (j : Nat) (W' : World) : Prop where
  ic : Ic W' g m S (er || !okIK S (kids.take j))
  kf : Kf W' (W.heap.size + 1) W.heap.size S kids j
  gr : W.grownBy W' (some g)
theorem Ik.step {W W1 W2 : World} {g m : Nat} {S : List ByteArray} {er : Bool} {kids : List Ex} {j : Nat} (h : Ik W g m S er kids j W1) (hj : j < kids.length) (hg : g < W.heap.size) (hp : IntPost W1.drew g m S (er || !okIK S (kids.take j)) kids[j] (.returned (.bool (lateB S kids[j]))) W2) : Ik W g m S er kids (j + 1) (W2.setCell ⟨W.heap.size, j, none⟩ (.bool (lateB S kids[j]))) := by
  obtain ⟨_, h2, h3⟩ := hp
  have h3' : W1.grownBy W2 (some g) := ⟨h3.os, h3.tape, h3.output, h3.size, h3.block⟩
  have hbox := h.kf.box.grown h3' (fun e => by injection e with e; omega)
  obtain ⟨cs, k1, k2, k3⟩ := h.kf.row
  have hrow := k1.grown h3' (fun e => by injection e with e; omega)
  have hbut : But W2 (W2.setCell ⟨W.heap.size, j, none⟩ (.bool (lateB S kids[j]))) W.heap.size := (But.refl _ _).put j _
  have hs : cs.size > j := by obtain ⟨b, hb⟩ := k2 j hj; exact (Array.getElem?_eq_some_iff.1 hb).1
  refine ⟨?_, ⟨hbut.has (by omega) hbox, cs.setIfInBounds j (.bool (lateB S kids[j])), hrow.put j _, fun i hi => ?_, fun i hi hij => ?_⟩, hbut.grown (grown_trans h.gr h3') (Nat.le_refl _)⟩
  · rw [List.take_succ_eq_append_getElem hj, okIK_app, show okIK S [kids[j]] = okI S kids[j] from by simp [okIK], Bool.not_and, ← Bool.or_assoc]
    exact h2.but hbut hrow (by decide) (by decide)
  · rw [Array.getElem?_setIfInBounds]
    by_cases e : j = i
    · subst e; rw [if_pos rfl, if_pos hs]; exact ⟨_, rfl⟩
    · rw [if_neg e]; exact k2 i hi
  · rw [Array.getElem?_setIfInBounds]
    by_cases e : j = i
    · subst e; rw [if_pos rfl, if_pos hs]
    · rw [if_neg e]; exact k3 i hi (by omega)

set_option maxRecDepth 100000 in
set_option maxHeartbeats 16000000 in
theorem interior_any (w0 : World) (g m : Nat) (S : List ByteArray) (hg0 : w0.heap.size ≤ g) : ∀ (N : Nat) (x : Ex), sz x ≤ N → kdE x = true → ∀ (W : World) (b off : Nat) (er : Bool), Below w0.heap.size w0 W → Ic W g m S er → LaidAt w0 b off x →
    Calls Tryd.prog 74 #[.pointer (some ⟨g, 0, none⟩), .pointer (some ⟨b, off, none⟩)] W (IntPost W g m S er x) := by
  intro N
  induction N with
  | zero => intro x hN; have := sz_pos x; omega
  | succ N ih =>
    intro x hN hkd W b off er hb hI hL
    obtain ⟨k, o, n, nm, nms, kids, l, c⟩ := x
    have hL0 := hL
    obtain ⟨cs, hc, hl⟩ := hL
    unfold LaidC at hl
    obtain ⟨hk, _, _, _, hkl, na, nc, ka, kc, _, _, rfl, _, hkids⟩ := hl
    unfold kdE at hkd
    rw [Bool.and_eq_true, decide_eq_true_iff] at hkd
    obtain ⟨⟨hk9, hk12, hk13, hkn, hkz⟩, hkk⟩ := hkd
    unfold sz at hN
    have e9 : ((k : Int) == 9) = false := by rw [beq_eq_false_iff_ne]; omega
    have e12 : ((k : Int) == 12) = false := by rw [beq_eq_false_iff_ne]; omega
    have e13 : ((k : Int) == 13) = false := by rw [beq_eq_false_iff_ne]; omega
    have e10 : ((k : Int) == 10) = decide (k = 10) := by rw [Bool.eq_iff_iff, beq_iff_eq, decide_eq_true_iff]; omega
    have e11 : ((k : Int) == 11) = decide (k = 11) := by rw [Bool.eq_iff_iff, beq_iff_eq, decide_eq_true_iff]; omega
    have hmk := run_mkb kids.length hkz
    have HIH : Hid (∀ i (hi : i < kids.length) (W : World) (b off : Nat) (er : Bool), Below w0.heap.size w0 W → Ic W g m S er → LaidAt w0 b off kids[i] → Calls Tryd.prog 74 #[.pointer (some ⟨g, 0, none⟩), .pointer (some ⟨b, off, none⟩)] W (IntPost W g m S er kids[i])) := Lib.hid (fun i hi => ih kids[i] (by have := sz_kid kids i hi; omega) (kdK_get kids hkk i hi))
    have HKID := Lib.hid (fun i (hi : i < kids.length) => LaidK.get hkids i hi)
    have HCE : Hid (∀ W', Below w0.heap.size w0 W' → W'.cell? ⟨b, off, none⟩ = some (.int .u8 k) ∧ W'.cell? ⟨b, off + 5, none⟩ = some (.slice ka kids.length kc) ∧ W'.cell? ⟨b, off + 6, none⟩ = some (.int .i64 l) ∧ W'.cell? ⟨b, off + 7, none⟩ = some (.int .i64 c)) := Lib.hid (fun W' h => ⟨cell_below h _ _ _ (hc 0 _ rfl), cell_below h _ _ _ (hc 5 _ rfl), cell_below h _ _ _ (hc 6 _ rfl), cell_below h _ _ _ (hc 7 _ rfl)⟩)
    have HL := Lib.hid hL0
    have hgl := hI.lt
    obtain ⟨W1, hW1⟩ : ∃ W1, W1 = (W.alloc (.cells (bcells kids.length) 4)).alloc (.cells #[.slice (some ⟨W.heap.size, 0, none⟩) kids.length kids.length] 22) := ⟨_, rfl⟩
    have hb1 : Below W.heap.size W W1 := by rw [hW1]; exact ((Below.refl _ _).alloc (Nat.le_refl _) _).alloc (by simp) _
    have H0 : Hid (Ik W g m S er kids 0 W1) := Lib.hid ⟨by rw [List.take_zero]; show Ic W1 g m S (er || !true); rw [Bool.not_true, Bool.or_false]; exact hI.below hb1, ⟨by
      rw [hW1]
      have := Has.new (W.alloc (.cells (bcells kids.length) 4)) 22 #[.slice (some ⟨W.heap.size, 0, none⟩) kids.length kids.length]
      simp only [World.size_alloc] at this
      exact this, bcells kids.length, by rw [hW1]; exact (Has.new W _ _).alloc _, fun i hi => ⟨false, bcells_get _ _ hi⟩, fun i _ hi => by omega⟩, grown_below _ hb1⟩
    obtain ⟨k0, k5, k6, k7⟩ := HCE.out W hb
    have HB := Lib.hid hb
    have HGL := Lib.hid hgl
    have HW1 := Lib.hid hW1
    have HKN := Lib.hid hkn
    obtain ⟨z0, z5, z6, z7⟩ := HCE.out W1 (hb.trans (hb1.mono hb.size))
    rw [hW1] at z0 z5 z6 z7
    clear hL0 hc hkids hI hb hb1 hW1 ih hkk hN hkn hkl
    unfold IntPost
    go_enter Tryd.func74, Tryd.ntmps74
    go_wp2_with fail
    first | rw [← HW1.out] | skip
    go_loopw [18] (fun iv wr => ∃ j : Nat, j ≤ kids.length ∧ iv = .int .i64 j ∧ Hid (Ik W g m S er kids j wr)) (fun iv _ => kids.length - (intOf iv).toNat)
    case atStart => exact ⟨0, by omega, rfl, H0⟩
    case round =>
      obtain ⟨j, hj, rfl, HR⟩ := hrel
      clear H0 z0 z5 z6 z7 k0 k5 k6 k7
      have hbr : Below w0.heap.size w0 wr := HB.out.grown HR.out.gr HB.out.size (fun k hk => by injection hk with hk; omega)
      obtain ⟨k0, k5, k6, k7⟩ := HCE.out wr hbr
      by_cases hlt : j < kids.length
      · have i0 : (0 : Int) ≤ (j : Int) := Int.natCast_nonneg _
        have i1 : (j : Int) < (kids.length : Int) := by omega
        obtain ⟨kb, ko, rfl, hat⟩ := HKID.out j hlt
        have HC := Lib.hid (HIH.out j hlt wr.drew kb (ko + j * 8) (er || !okIK S (kids.take j)) (hbr.trans (((Below.refl _ wr).drew).mono hbr.size)) (HR.out.ic.below (Below.refl _ wr).drew) hat)
        have q0 := HR.out.kf.box.cell 0
        simp only [List.getElem?_toArray, List.getElem?_cons_zero] at q0
        have HS1 : Hid (wr.drew.cell? ⟨W.heap.size + 1, 0, none⟩ = some (.slice (some ⟨W.heap.size, 0, none⟩) kids.length kids.length) ∧ wr.drew.cell? ⟨b, off + 5, none⟩ = some (.slice (some ⟨kb, ko, none⟩) kids.length kc)) := Lib.hid ⟨q0, k5⟩
        have HBR := Lib.hid hbr
        have HFS : Hid (∀ w2, wr.drew.grownBy w2 (some g) → (w2.cell? ⟨W.heap.size + 1, 0, none⟩ = some (.slice (some ⟨W.heap.size, 0, none⟩) kids.length kids.length) ∧ w2.cell? ⟨b, off + 5, none⟩ = some (.slice (some ⟨kb, ko, none⟩) kids.length kc)) ∧ (∃ u, w2.cell? ⟨W.heap.size, j, none⟩ = some u) ∧ w2.frozen? ⟨W.heap.size, j, none⟩ = false ∧ W.heap.size < w2.heap.size ∧ ((w2.setCell ⟨W.heap.size, j, none⟩ (.bool (lateB S kids[j]))).cell? ⟨W.heap.size + 1, 0, none⟩ = some (.slice (some ⟨W.heap.size, 0, none⟩) kids.length kids.length) ∧ (w2.setCell ⟨W.heap.size, j, none⟩ (.bool (lateB S kids[j]))).cell? ⟨b, off + 5, none⟩ = some (.slice (some ⟨kb, ko, none⟩) kids.length kc))) := Lib.hid (fun w2 h2 => by
          have h3' : wr.grownBy w2 (some g) := ⟨h2.os, h2.tape, h2.output, h2.size, h2.block⟩
          have hgl := HGL.out
          obtain ⟨cs, q1, q2, q3⟩ := HR.out.kf.row
          have hr := q1.grown h3' (fun e => by injection e with e; omega)
          obtain ⟨bb, hbb⟩ := q2 j hlt
          have hbw : Below w0.heap.size w0 w2 := HBR.out.grown h3' HBR.out.size (fun k hk => by injection hk with hk; omega)
          have hbt : But w2 (w2.setCell ⟨W.heap.size, j, none⟩ (.bool (lateB S kids[j]))) W.heap.size := (But.refl _ _).put j _
          have hbl : b < W.heap.size := World.block_lt_of_cell? _ _ (HCE.out W HB.out).2.1
          have s1 := (HR.out.kf.box.grown h3' (fun e => by injection e with e; omega)).cell 0
          have s2 := (HCE.out w2 hbw).2.1
          exact ⟨⟨s1, s2⟩, ⟨_, (hr.cell j).trans hbb⟩, hr.free j, hr.lt, hbt.cell (by omega) s1, hbt.cell (by omega) s2⟩)
        clear hbr hat
        unfold IntPost at HC
        go_wp2_with fail
        first | go_region_held3 (fun w' => w'.cell? ⟨W.heap.size + 1, 0, none⟩ = some (.slice (some ⟨W.heap.size, 0, none⟩) kids.length kids.length) ∧ w'.cell? ⟨b, off + 5, none⟩ = some (.slice (some ⟨kb, ko, none⟩) kids.length kc)) (first | with_reducible exact HS1.out | with_reducible exact HS2.out | with_reducible exact HS3.out | fail) (first | (go_at_call 74; refine HC.out.mono ?_; rintro e w2 ⟨rfl, hi2, hg2⟩; obtain ⟨hs2, ⟨uu, c2⟩, f2, l2, hs3⟩ := HFS.out w2 hg2; have HS2 := Lib.hid hs2; have HS3 := Lib.hid hs3; have HP := Lib.hid (show IntPost wr.drew g m S (er || !okIK S (kids.take j)) kids[j] (.returned (.bool (lateB S kids[j]))) w2 from ⟨rfl, hi2, hg2⟩); clear hi2 hg2 hs2 hs3) | fail) | fail
        all_goals
          have H := Lib.hid (HR.out.step hlt HGL.out HP.out)
          go_wp2_with fail
          go_roundw
          case rel => exact ⟨j + 1, by omega, by go_num, H⟩
          case measure => simp [intOf]; omega
      · obtain rfl : j = kids.length := by omega
        have HIK := HR.out.ic
        have HKF := HR.out.kf
        have HGR := HR.out.gr
        rw [List.take_length] at HIK
        have HIK2 := Lib.hid HIK
        have HKF2 := Lib.hid HKF
        have HGR2 := Lib.hid HGR
        have HBR := Lib.hid hbr
        clear HIK HKF HGR HR hbr
        by_cases h1011 : k = 10 ∨ k = 11
        · have hne : 0 < kids.length := Nat.pos_of_ne_zero (HKN.out h1011)
          have HOK : Hid ((er || !okI S (.mk k o n nm nms kids l c)) = ((er || !okIK S kids) || !(!lateB S kids[0]))) := Lib.hid (by
            rw [okI, if_pos h1011]
            have : lateH S kids = lateB S kids[0] := by
              cases kids with
              | nil => simp at hne
              | cons y r => rfl
            rw [this]
            cases er <;> cases okIK S kids <;> cases lateB S kids[0] <;> rfl)
          have q0 := HKF2.out.box.cell 0
          obtain ⟨cs, r1, _, r3⟩ := HKF2.out.row
          have q1 := (r1.cell 0).trans (r3 0 hne hne)
          simp only [List.getElem?_toArray, List.getElem?_cons_zero] at q0
          have g1 : decide (kids.length < 1) = false := decide_eq_false (by omega)
          have g2 : decide ((kids.length : Int) < 1) = false := decide_eq_false (by omega)
          have i0 : (0 : Int) < (kids.length : Int) := by omega
          have HMU := Lib.hid (imust_any wr.drew g m S (er || !okIK S kids) (!lateB S kids[0]) l c (HIK2.out.below (Below.refl _ wr).drew))
          have HEK : Hid ((((k : Int) == 10) = true) ∨ (((k : Int) == 10) = false ∧ ((k : Int) == 11) = true)) := Lib.hid (by
            rcases h1011 with h | h
            · exact .inl (by rw [e10, decide_eq_true h])
            · exact .inr ⟨by rw [e10]; exact decide_eq_false (by omega), by rw [e11, decide_eq_true h]⟩)
          clear r1 r3 e10 e11 h1011
          unfold MustPost at HMU
          rcases HEK.out with h10 | ⟨h10, h11⟩
          all_goals
            clear HEK
            go_wp2_with fail
            go_still_tail 14, (by kernel_rfl)
            change wpList _ _ _ _ _ wr.drew
            go_wp2_with fail
            refine HMU.out.mono ?_
            rintro e w2 ⟨rfl, hic2, hg2⟩
            have hgw2 : wr.grownBy w2 (some g) := ⟨hg2.os, hg2.tape, hg2.output, hg2.size, hg2.block⟩
            have hgl := HGL.out
            have hkf2 : Kf w2 (W.heap.size + 1) W.heap.size S kids kids.length := by
              obtain ⟨cs, r1, r2, r3⟩ := HKF2.out.row
              exact ⟨HKF2.out.box.grown hgw2 (fun e => by injection e with e; omega), cs, r1.grown hgw2 (fun e => by injection e with e; omega), r2, r3⟩
            have hbw2 : Below w0.heap.size w0 w2 := HBR.out.grown hgw2 HBR.out.size (fun k hk => by injection hk with hk; omega)
            have HLT := Lib.hid (ilate_any w2 m S k o n nm nms kids l c (W.heap.size + 1) W.heap.size b off (HL.out.below hbw2) hic2.map hkf2 hk9)
            have hmv := hic2
            obtain ⟨vv, hck, _, _⟩ := hmv
            have m0 := hck.cell 0
            simp only [List.getElem?_toArray, List.getElem?_cons_zero] at m0
            have HF1 := Lib.hid (And.intro hic2 (grown_trans HGR2.out hgw2))
            clear hck hic2 hg2 hgw2 hkf2 hbw2 HMU q0 q1 k0 k5 k6 k7
            go_wp2_with fail
            refine HLT.out.mono ?_
            rintro e w3 ⟨rfl, hb3⟩
            have HF2 := Lib.hid (And.intro (HF1.out.1.below hb3) (grown_trans HF1.out.2 (grown_below (some g) hb3)))
            clear hb3 HLT m0
            go_wp2_with fail
            go_ret
            exact ⟨rfl, by rw [HOK.out]; exact HF2.out.1, HF2.out.2⟩
        · have HOK : Hid ((er || !okI S (.mk k o n nm nms kids l c)) = (er || !okIK S kids)) := Lib.hid (by rw [okI, if_neg h1011, Bool.and_true])
          rw [decide_eq_false (fun h => h1011 (.inl h))] at e10
          rw [decide_eq_false (fun h => h1011 (.inr h))] at e11
          clear h1011
          have HLT := Lib.hid (ilate_any wr m S k o n nm nms kids l c (W.heap.size + 1) W.heap.size b off (HL.out.below HBR.out) HIK2.out.map HKF2.out hk9)
          have hmv := HIK2.out
          obtain ⟨vv, hck, _, _⟩ := hmv
          have m0 := hck.cell 0
          simp only [List.getElem?_toArray, List.getElem?_cons_zero] at m0
          have HF1 := Lib.hid (And.intro HIK2.out HGR2.out)
          clear hck k5 k6 k7
          go_wp2_with fail
          refine HLT.out.mono ?_
          rintro e w3 ⟨rfl, hb3⟩
          have HF2 := Lib.hid (And.intro (HF1.out.1.below hb3) (grown_trans HF1.out.2 (grown_below (some g) hb3)))
          clear hb3 HLT m0
          go_wp2_with fail
          go_ret
          exact ⟨rfl, by rw [HOK.out]; exact HF2.out.1, HF2.out.2⟩
end Go.Proofs.YtnejkgkikpgajaaDoor.ini

namespace Go.Proofs.YtnejkgkikpgajaaDoor.ini
open Go.ChangeShapes Go.WideShapes Go.ChangeAt Go.RowKit
open tr ck
set_option linter.unusedVariables false
set_option linter.unusedSimpArgs false

def okQ (S own : List ByteArray) (q : Eqn) : Bool := okI S q.2 && (!lateB S q.2 || memB q.1 own)
set_option maxRecDepth 100000 in
set_option maxHeartbeats 8000000 in
theorem ieq_any (w0 : World) (g m om : Nat) (S own : List ByteArray) (hg0 : w0.heap.size ≤ g) (q : Eqn) (qb qo : Nat) (px py : Int) (hE : EqIn w0 qb qo q) (h14 : w0.cell? ⟨qb, qo + 14, none⟩ = some (.int .i64 px)) (h15 : w0.cell? ⟨qb, qo + 15, none⟩ = some (.int .i64 py)) (hkd : kdE q.2 = true) (W : World) (er : Bool) (hb : Below w0.heap.size w0 W) (hI : Ic W g m S er) (hO : MAt W om (nbL 0 own)) :
    Calls Tryd.prog 55 #[.pointer (some ⟨g, 0, none⟩), .pointer (some ⟨qb, qo, none⟩), .map (some om)] W (MustPost W g m S (er || !okQ S own q)) := by
  obtain ⟨lb, lo, lc, h1, h2⟩ := hE.lhs
  have HCE : Hid (∀ W', Below w0.heap.size w0 W' → W'.cell? ⟨qb, qo, none⟩ = some (.int .u8 1) ∧ W'.cell? ⟨qb, qo + 1, none⟩ = some (.slice (some ⟨lb, lo, none⟩) 1 lc) ∧ W'.cell? ⟨lb, lo, none⟩ = some (.string q.1) ∧ W'.cell? ⟨qb, qo + 14, none⟩ = some (.int .i64 px) ∧ W'.cell? ⟨qb, qo + 15, none⟩ = some (.int .i64 py)) := Lib.hid (fun W' h => ⟨cell_below h _ _ _ hE.kind, cell_below h _ _ _ h1, cell_below h _ _ _ h2, cell_below h _ _ _ h14, cell_below h _ _ _ h15⟩)
  have HIN := Lib.hid (interior_any w0 g m S hg0 (sz q.2) q.2 (Nat.le_refl _) hkd W qb (qo + 5) er hb hI hE.e)
  obtain ⟨k0, k1, k2, _, _⟩ := HCE.out W hb
  have hgl := hI.lt
  have hgo : om ≠ g := by
    obtain ⟨v, hc, _, _⟩ := hI
    exact fun e => hO.notHas hc e.symm
  have HB := Lib.hid hb
  have HO := Lib.hid hO
  have HGO := Lib.hid hgo
  clear hE h1 h2 h14 h15 hkd hb hI hO hgo
  unfold MustPost
  unfold IntPost at HIN
  cases hl : lateB S q.2
  · have HOK : Hid ((er || !okQ S own q) = ((er || !okI S q.2) || !true)) := Lib.hid (by unfold okQ; rw [hl]; cases er <;> cases okI S q.2 <;> rfl)
    rw [hl] at HIN
    clear hl
    go_enter Tryd.func55, Tryd.ntmps55
    go_wp2_with fail
    refine HIN.out.mono ?_
    rintro e w1 ⟨rfl, hic, hg1⟩
    have hb1 : Below w0.heap.size w0 w1 := HB.out.grown hg1 HB.out.size (fun k hk => by injection hk with hk; omega)
    have HM := Lib.hid (imust_any w1.drew g m S (er || !okI S q.2) true px py (hic.below (Below.refl _ w1).drew))
    have H1 := Lib.hid (And.intro hg1 hb1)
    obtain ⟨_, k1, k2, k14, k15⟩ := HCE.out w1 hb1
    clear hic hg1 hb1 HIN
    unfold MustPost at HM
    go_wp2_with fail
    refine wp_loop_rounds 2 ?_
    rw [rounds_succ]
    go_wp2_with fail
    go_still_tail 12, (by kernel_rfl)
    change wpList _ _ _ _ _ w1.drew
    go_wp2_with fail
    refine HM.out.mono ?_
    rintro e w2 ⟨rfl, hic, hg2⟩
    have H2 := Lib.hid (show Ic w2 g m S (er || !okQ S own q) ∧ W.grownBy w2 (some g) from ⟨by rw [HOK.out]; exact hic, grown_trans H1.out.1 ⟨hg2.os, hg2.tape, hg2.output, hg2.size, hg2.block⟩⟩)
    clear hic hg2 HM
    go_wp2_with fail
    rw [rounds_succ]
    go_wp2_with fail
    go_returns
    exact ⟨rfl, H2.out.1, H2.out.2⟩
  · have HOK : Hid ((er || !okQ S own q) = ((er || !okI S q.2) || !memB q.1 own)) := Lib.hid (by unfold okQ; rw [hl]; cases er <;> cases okI S q.2 <;> cases memB q.1 own <;> rfl)
    rw [hl] at HIN
    clear hl
    go_enter Tryd.func55, Tryd.ntmps55
    go_wp2_with fail
    refine HIN.out.mono ?_
    rintro e w1 ⟨rfl, hic, hg1⟩
    have hb1 : Below w0.heap.size w0 w1 := HB.out.grown hg1 HB.out.size (fun k hk => by injection hk with hk; omega)
    have hO1 := HO.out.grown hg1 (fun e => HGO.out (by injection e))
    have HN := Lib.hid (nhas_any w1.drew om own q.1 (hO1.below (Below.refl _ w1).drew hO1.lt))
    have HM : Hid (∀ w2, Below w1.drew.heap.size w1.drew w2 → Calls Tryd.prog 54 #[.pointer (some ⟨g, 0, none⟩), .bool (memB q.1 own), .agg #[.int .i64 px, .int .i64 py]] w2 (MustPost w2 g m S ((er || !okI S q.2) || !memB q.1 own))) := Lib.hid (fun w2 h => imust_any w2 g m S (er || !okI S q.2) (memB q.1 own) px py ((hic.below (Below.refl _ w1).drew).below h))
    have H1 := Lib.hid (And.intro hg1 hb1)
    have HS1 : Hid (w1.drew.cell? ⟨qb, qo + 14, none⟩ = some (.int .i64 px) ∧ w1.drew.cell? ⟨qb, qo + 15, none⟩ = some (.int .i64 py)) := Lib.hid ⟨(HCE.out w1 hb1).2.2.2.1, (HCE.out w1 hb1).2.2.2.2⟩
    have HSF : Hid (∀ w2, Below w1.drew.heap.size w1.drew w2 → w2.cell? ⟨qb, qo + 14, none⟩ = some (.int .i64 px) ∧ w2.cell? ⟨qb, qo + 15, none⟩ = some (.int .i64 py)) := Lib.hid (fun w2 h => ⟨cell_below h _ _ _ HS1.out.1, cell_below h _ _ _ HS1.out.2⟩)
    have HKK : Hid (∀ w2 w3, Below w1.drew.heap.size w1.drew w2 → w2.grownBy w3 (some g) → w3.cell? ⟨qb, qo + 14, none⟩ = some (.int .i64 px) ∧ w3.cell? ⟨qb, qo + 15, none⟩ = some (.int .i64 py)) := Lib.hid (fun w2 w3 h h3 => by
      have hbb : Below w0.heap.size w0 w2 := hb1.trans (show Below w0.heap.size w1 w2 from ⟨h.os, h.tape, h.output, h.size, fun k hk => h.block k (Nat.lt_of_lt_of_le hk hb1.size)⟩)
      have hb3 : Below w0.heap.size w0 w3 := hbb.grown h3 hbb.size (fun k hk => by injection hk with hk; omega)
      exact ⟨(HCE.out w3 hb3).2.2.2.1, (HCE.out w3 hb3).2.2.2.2⟩)
    obtain ⟨_, k1, k2, k14, k15⟩ := HCE.out w1 hb1
    clear hic hg1 hb1 HIN hO1
    unfold MustPost at HM
    go_wp2_with fail
    refine wp_loop_rounds 2 ?_
    rw [rounds_succ]
    go_wp2_with fail
    first | go_region_held3 (fun w' => w'.cell? ⟨qb, qo + 14, none⟩ = some (.int .i64 px) ∧ w'.cell? ⟨qb, qo + 15, none⟩ = some (.int .i64 py)) (first | with_reducible exact HS3.out | with_reducible exact HS2.out | with_reducible exact HS1.out | fail)
      (first | (go_at_call 75; refine HN.out.mono ?_; rintro e w2 ⟨rfl, hb2⟩; have HB2 := Lib.hid hb2; have HS2 := Lib.hid (HSF.out w2 hb2); clear hb2) | (go_at_call 54; refine (HM.out w2 HB2.out).mono ?_; rintro e w3 ⟨rfl, hic, hg3⟩; have HP := Lib.hid (And.intro hic hg3); have HS3 := Lib.hid (HKK.out w2 w3 HB2.out hg3); clear hic hg3) | fail) | skip
    all_goals
      have H2 := Lib.hid (show Ic w3 g m S (er || !okQ S own q) ∧ W.grownBy w3 (some g) from ⟨by rw [HOK.out]; exact HP.out.1, grown_trans H1.out.1 (grown_trans (grown_below (some g) (show Below w1.heap.size w1 w2 from ⟨HB2.out.os, HB2.out.tape, HB2.out.output, HB2.out.size, HB2.out.block⟩)) HP.out.2)⟩)
      go_wp2_with fail
      rw [rounds_succ]
      go_wp2_with fail
      go_returns
      exact ⟨rfl, H2.out.1, H2.out.2⟩
end Go.Proofs.YtnejkgkikpgajaaDoor.ini

namespace Go.Proofs.YtnejkgkikpgajaaDoor.ini
open Go.ChangeShapes Go.WideShapes Go.ChangeAt Go.RowKit
open tr ck
set_option linter.unusedVariables false
set_option linter.unusedSimpArgs false

mutual
theorem late_er (S : List ByteArray) : ∀ x : Ex, lateB S (er x) = lateB S x
  | .mk k o n nm nms kids l c => by
    unfold er lateB
    rw [lateH_er S kids, lateK_er S kids]
theorem lateH_er (S : List ByteArray) : ∀ l : List Ex, lateH S (erK l) = lateH S l
  | [] => by unfold erK; rfl
  | x :: r => by unfold erK lateH; exact late_er S x
theorem lateK_er (S : List ByteArray) : ∀ l : List Ex, lateK S (erK l) = lateK S l
  | [] => by unfold erK; rfl
  | x :: r => by unfold erK lateK; rw [late_er S x, lateK_er S r]
end
mutual
theorem ok_er (S : List ByteArray) : ∀ x : Ex, okI S (er x) = okI S x
  | .mk k o n nm nms kids l c => by
    unfold er okI
    rw [lateH_er S kids, okK_er S kids]
theorem okK_er (S : List ByteArray) : ∀ l : List Ex, okIK S (erK l) = okIK S l
  | [] => by unfold erK; rfl
  | x :: r => by unfold erK okIK; rw [ok_er S x, okK_er S r]
end
theorem erK_len (l : List Ex) : (erK l).length = l.length := by rw [erK_map]; simp
mutual
theorem kd_er : ∀ x : Ex, kdE (er x) = kdE x
  | .mk k o n nm nms kids l c => by
    unfold er kdE
    rw [erK_len, kdK_er kids]
theorem kdK_er : ∀ l : List Ex, kdK (erK l) = kdK l
  | [] => by unfold erK; rfl
  | x :: r => by unfold erK kdK; rw [kd_er x, kdK_er r]
end
mutual
theorem sz_er : ∀ x : Ex, sz (er x) = sz x
  | .mk k o n nm nms kids l c => by
    unfold er sz
    rw [szK_er kids]
theorem szK_er : ∀ l : List Ex, szK (erK l) = szK l
  | [] => by unfold erK; rfl
  | x :: r => by unfold erK szK; rw [sz_er x, szK_er r]
end
def bX : ByteArray := ⟨#[120]⟩
def bF : ByteArray := ⟨#[102]⟩
def IProgAt (w : World) (gn : Nat) (x : Ex) : Prop := ∃ lx : Nat, NodeG w (fun _ => True) gn bF [] [⟨bX, 2, ⟨#[]⟩, none, 0, 0⟩] [] [⟨some ⟨lx, 0, none⟩, 1, 1, x⟩] ∧ w.cell? ⟨lx, 0, none⟩ = some (.string bX)
theorem IProgAt.below {w w' : World} {gn : Nat} {x : Ex} (h : IProgAt w gn x) (hb : Below w.heap.size w w') : IProgAt w' gn x := by
  obtain ⟨lx, hn, h1⟩ := h
  exact ⟨lx, hn.keep (fun _ h => h) (fun b o v _ hv => cell_below hb b o v hv), cell_below hb _ _ _ h1⟩
set_option maxRecDepth 100000 in
theorem iways_nil (w : World) (g : Nat) : Calls Tryd.prog 56 #[.pointer (some ⟨g, 0, none⟩), .slice none 0 0] w fun e w' => e = .returned (.tuple #[]) ∧ w = w' := by
  go_enter Tryd.func56, Tryd.ntmps56
  go_wp2_with fail
  refine wp_loop_rounds 1 ?_
  rw [rounds_succ]
  go_wp2_with fail
  go_returns
  exact ⟨rfl, rfl⟩
def BlkPost (w0 : World) (g m : Nat) (b : Bool) (e : Ending) (w' : World) : Prop := e = .returned (.tuple #[]) ∧ Ic w' g m [] b ∧ Below w0.heap.size w0 w'
set_option maxRecDepth 100000 in
set_option maxHeartbeats 8000000 in
theorem iblock_any (w0 : World) (g m gn : Nat) (x : Ex) (hg0 : w0.heap.size ≤ g) (hm0 : w0.heap.size ≤ m) (hP : IProgAt w0 gn x) (hkd : kdE x = true) (hsz : sz x ≤ 1000000) (W : World) (hb : Below w0.heap.size w0 W) (hI : Ic W g m [] false) :
    Calls Tryd.prog 37 #[.pointer (some ⟨g, 0, none⟩), .pointer (some ⟨gn, 3, none⟩), .slice none 0 0] W (BlkPost w0 g m (!okQ [] [] (bX, x))) := by
  obtain ⟨lx, ⟨_, gi, gx, gv, gq, ci, cx, cv, cq, px, hn, _, _, _, hqs⟩, hlx⟩ := hP
  obtain ⟨gb, rfl, _, ⟨e', ecs, qx, qy, hre, hlaid, hqc⟩⟩ := hqs 0 (by simp)
  replace hre : er e' = er x := hre
  have hgm0 : g ≠ m := by obtain ⟨v, hc, _, hm⟩ := hI; exact hm.notHas hc
  have n3 := hn 3 _ rfl
  have n4 := hn 4 _ rfl
  have hE : EqIn w0 gb (0 * 16) (bX, e') := by
    refine ⟨hqc 0 _ rfl, ⟨lx, 0, 1, hqc 1 _ rfl, hlx⟩, ecs, fun k u hk => ?_, LaidP.laidC _ _ hlaid⟩
    have hl8 := hlaid.len
    have hk8 : k < 8 := by have := (List.getElem?_eq_some_iff.1 hk).1; omega
    have := hqc (5 + k) u (by
      show ((([.int .u8 1, .slice (some ⟨lx, 0, none⟩) 1 1, .string ⟨#[]⟩, .slice none 0 0, .bool false] : List Value) ++ ecs) ++ [.slice none 0 0, .int .i64 qx, .int .i64 qy])[5 + k]? = some u
      rw [List.getElem?_append_left (by simp; omega), List.getElem?_append_right (by simp), show 5 + k - [.int .u8 1, .slice (some ⟨lx, 0, none⟩) 1 1, .string ⟨#[]⟩, .slice none 0 0, (.bool false : Value)].length = k by simp]
      exact hk)
    rw [show 0 * 16 + 5 + k = 0 * 16 + (5 + k) by omega]; exact this
  have hl8 := hlaid.len
  have h14 : w0.cell? ⟨gb, 0 * 16 + 14, none⟩ = some (.int .i64 qx) := hqc 14 _ (by
    obtain ⟨c0, c1, c2, c3, c4, c5, c6, c7, rfl⟩ : ∃ c0 c1 c2 c3 c4 c5 c6 c7, ecs = [c0, c1, c2, c3, c4, c5, c6, c7] := by
      match ecs, hl8 with
      | [c0, c1, c2, c3, c4, c5, c6, c7], _ => exact ⟨c0, c1, c2, c3, c4, c5, c6, c7, rfl⟩
    rfl)
  have h15 : w0.cell? ⟨gb, 0 * 16 + 15, none⟩ = some (.int .i64 qy) := hqc 15 _ (by
    obtain ⟨c0, c1, c2, c3, c4, c5, c6, c7, rfl⟩ : ∃ c0 c1 c2 c3 c4 c5 c6 c7, ecs = [c0, c1, c2, c3, c4, c5, c6, c7] := by
      match ecs, hl8 with
      | [c0, c1, c2, c3, c4, c5, c6, c7], _ => exact ⟨c0, c1, c2, c3, c4, c5, c6, c7, rfl⟩
    rfl)
  rw [Nat.zero_mul] at hE h14 h15
  have hkd' : kdE e' = true := by rw [← kd_er e', hre, kd_er x]; exact hkd
  have hsz' : sz e' ≤ 1000000 := by rw [← sz_er e', hre, sz_er x]; exact hsz
  have HOQ : Hid (okQ [] [] (bX, x) = okQ [] [] (bX, e')) := Lib.hid (by
    unfold okQ
    show (okI [] x && (!lateB [] x || memB bX [])) = (okI [] e' && (!lateB [] e' || memB bX []))
    rw [← ok_er [] x, ← ok_er [] e', ← late_er [] x, ← late_er [] e', hre])
  rw [HOQ.out]
  have HCE : Hid (∀ W', Below w0.heap.size w0 W' → W'.cell? ⟨gn, 3, none⟩ = some (.slice gv 0 cv) ∧ W'.cell? ⟨gn, 4, none⟩ = some (.slice (some ⟨gb, 0, none⟩) 1 cq)) := Lib.hid (fun W' h => ⟨cell_below h _ _ _ n3, cell_below h _ _ _ n4⟩)
  have HNU := Lib.hid (numbered_any W gv cv [] (fun i n hi => by simp at hi) (by simp) (by simp))
  have HEQ := Lib.hid (And.intro hE (And.intro h14 (And.intro h15 (And.intro hkd' hsz'))))
  obtain ⟨k3, k4⟩ := HCE.out W hb
  have HB := Lib.hid hb
  have HI := Lib.hid hI
  have HG0 := Lib.hid (And.intro hg0 hm0)
  have HGL := Lib.hid hI.lt
  have HGM := Lib.hid hgm0
  clear hgm0 hE h14 h15 hkd' hsz' hl8 hqc hlaid hre hn n3 n4 hlx hqs hb hI hkd hsz hg0 hm0
  unfold BlkPost
  go_enter Tryd.func37, Tryd.ntmps37
  go_wp2_with fail
  refine HNU.out.mono ?_
  rintro e w1 ⟨om, hom, rfl, hnb, hb1⟩
  have hbw1 := HB.out.trans (hb1.mono HB.out.size)
  have hI1 := HI.out.below hb1
  have hmlt := hI1.map.lt
  have hml : m < W.heap.size := HI.out.map.lt
  have HF := Lib.hid (find_any w1 m om gn 3 gv cv [] (some ⟨gb, 0, none⟩) cq [(bX, e')] ⟨(HCE.out w1 hbw1).1, (HCE.out w1 hbw1).2, fun i n hi => by simp at hi, fun j hj => by
    have hj0 : j = 0 := by simpa using hj
    subst hj0
    obtain ⟨lb, lo, lc, h1, h2⟩ := HEQ.out.1.lhs
    obtain ⟨cs, hc, hl⟩ := HEQ.out.1.e
    exact ⟨gb, rfl, cell_below hbw1 _ _ _ HEQ.out.1.kind, ⟨lb, lo, lc, cell_below hbw1 _ _ _ h1, cell_below hbw1 _ _ _ h2⟩, ⟨cs, fun k u hk => cell_below hbw1 _ _ _ (hc k u hk), LaidC.below hbw1 _ _ hl⟩⟩⟩ hI1.map hnb (by omega) (by simp) (by simp) (by simp) (by have := HEQ.out.2.2.2.2; unfold szAll; simpa using this))
  obtain ⟨v1, hck, hev, _⟩ := hI1
  have m0 := hck.cell 0
  simp only [List.getElem?_toArray, List.getElem?_cons_zero] at m0
  obtain ⟨k3, k4⟩ := HCE.out w1 hbw1
  have H1 := Lib.hid (And.intro hbw1 (And.intro hck (And.intro hev (And.intro hnb (And.intro hom hml)))))
  clear hbw1 hck hev hnb hom hb1 HNU hmlt hml
  unfold FindPost at HF
  go_wp2_with fail
  refine HF.out.mono ?_
  rintro e w2 ⟨S, rfl, hm2, hL2, hk2⟩
  have hS : S = [] := List.eq_nil_iff_forall_not_mem.2 (fun n hn => by have := hL2.own n hn; simp at this)
  subst hS
  obtain ⟨hg0, hm0⟩ := HG0.out
  have hbw2 : Below w0.heap.size w0 w2 := H1.out.1.trans ⟨hk2.os, hk2.tape, hk2.output, Nat.le_trans H1.out.1.size hk2.size |> fun _ => hk2.size, fun k hk => hk2.block k (Nat.lt_of_lt_of_le hk H1.out.1.size) (by simp only [List.mem_cons, List.not_mem_nil, or_false]; omega)⟩
  have hgm := HGM.out
  have hI2 : Ic w2 g m [] false := ⟨v1, hk2.has (by simp only [List.mem_cons, List.not_mem_nil, or_false]; exact hgm) H1.out.2.1, ⟨H1.out.2.2.1.1, fun e => by cases e⟩, hm2⟩
  have hO2 : MAt w2 om (nbL 0 []) := H1.out.2.2.2.1.keep (hk2.block om H1.out.2.2.2.1.lt (by simp only [List.mem_cons, List.not_mem_nil, or_false]; have := H1.out.2.2.2.2.1; have := H1.out.2.2.2.2.2; omega))
  have HQ := Lib.hid (ieq_any w0 g m om [] [] hg0 (bX, e') gb 0 qx qy HEQ.out.1 HEQ.out.2.1 HEQ.out.2.2.1 HEQ.out.2.2.2.1 w2 false hbw2 hI2 hO2)
  obtain ⟨k3, k4⟩ := HCE.out w2 hbw2
  have H2 := Lib.hid hbw2
  clear hm2 hL2 hk2 hbw2 hI2 hO2 HF m0 hgm
  unfold MustPost at HQ
  go_wp2_with fail
  refine wp_loop_rounds 1 ?_
  rw [rounds_succ]
  go_wp2_with fail
  refine wp_loop_rounds 2 ?_
  rw [rounds_succ]
  go_wp2_with fail
  refine HQ.out.mono ?_
  rintro e w3 ⟨rfl, hic, hg3⟩
  have hbw3 : Below w0.heap.size w0 w3 := H2.out.grown hg3 H2.out.size (fun k hk => by injection hk with hk; omega)
  have H3 := Lib.hid (show Ic w3 g m [] (!okQ [] [] (bX, e')) ∧ Below w0.heap.size w0 w3 from ⟨by rw [Bool.false_or] at hic; exact hic, hbw3⟩)
  obtain ⟨k3, k4⟩ := HCE.out w3 hbw3
  clear hic hg3 hbw3 HQ hg0 hm0
  go_wp2_with fail
  rw [rounds_succ]
  go_wp2_with fail
  refine (iways_nil _ _).mono ?_
  rintro e w4 ⟨rfl, rfl⟩
  go_wp2_with fail
  refine wp_loop_rounds 1 ?_
  rw [rounds_succ]
  go_wp2_with fail
  go_returns
  exact ⟨rfl, H3.out.1, H3.out.2⟩
def ICheckPost (w : World) (bad : Bool) (e : Ending) (w' : World) : Prop := ∃ v, e = .returned v ∧ ErI w' v bad ∧ Below w.heap.size w w'
set_option maxRecDepth 100000 in
set_option maxHeartbeats 8000000 in
theorem icheck_law (w : World) (gn cn : Nat) (x : Ex) (hP : IProgAt w gn x) (hkd : kdE x = true) (hsz : sz x ≤ 1000000) :
    Calls Tryd.prog 19 #[.agg #[.slice none 0 0, .slice (some ⟨gn, 0, none⟩) 1 cn]] w (ICheckPost w (!okQ [] [] (bX, x))) := by
  have hmk : ∀ (t : TypeId) (w : World), (Instr.makeMap t none).run Tryd.prog w = .ok (.map (some w.heap.size)) (w.alloc (.map #[] 0)) := fun _ _ => rfl
  obtain ⟨W1, hW1⟩ : ∃ W1, W1 = ((w.alloc (.cells #[.slice none 0 0, .slice (some ⟨gn, 0, none⟩) 1 cn] 33)).alloc (.map #[] 0)).alloc (.cells #[.map (some (w.heap.size + 1)), .nilIface] 110) := ⟨_, rfl⟩
  have hb1 : Below w.heap.size w W1 := by rw [hW1]; exact (((Below.refl _ w).alloc (Nat.le_refl _) _).alloc (by simp) _).alloc (by simp; omega) _
  have hI : Ic W1 (w.heap.size + 2) (w.heap.size + 1) [] false := by
    refine ⟨.nilIface, ?_, ⟨fun _ => rfl, fun e => by cases e⟩, ?_⟩
    · rw [hW1]
      have := Has.new ((w.alloc (.cells #[.slice none 0 0, .slice (some ⟨gn, 0, none⟩) 1 cn] 33)).alloc (.map #[] 0)) 110 #[.map (some (w.heap.size + 1)), .nilIface]
      simp only [World.size_alloc] at this
      exact this
    · rw [hW1]
      have := MAt.new (w.alloc (.cells #[.slice none 0 0, .slice (some ⟨gn, 0, none⟩) 1 cn] 33))
      simp only [World.size_alloc] at this
      exact this.keep (Below.heap_alloc _ _ _ (by simp))
  have hbx : Has W1 w.heap.size 33 #[.slice none 0 0, .slice (some ⟨gn, 0, none⟩) 1 cn] := by rw [hW1]; exact ((Has.new w _ _).alloc _).alloc _
  have HBK := Lib.hid (iblock_any (w.alloc (.cells #[.slice none 0 0, .slice (some ⟨gn, 0, none⟩) 1 cn] 33)) (w.heap.size + 2) (w.heap.size + 1) gn x (by simp) (by simp) (hP.below ((Below.refl _ w).alloc (Nat.le_refl _) _)) hkd hsz W1 (by rw [hW1]; exact ((Below.refl _ _).alloc (Nat.le_refl _) _).alloc (by simp) _) hI)
  have x1 := hbx.cell 1
  simp only [List.getElem?_toArray, List.getElem?_cons_zero, List.getElem?_cons_succ] at x1
  have HW1 := Lib.hid hW1
  have HBX := Lib.hid (Has.new w 33 #[.slice none 0 0, .slice (some ⟨gn, 0, none⟩) 1 cn])
  rw [hW1] at x1
  clear hb1 hI hbx hP hkd hsz hW1
  unfold ICheckPost
  unfold BlkPost at HBK
  go_enter Tryd.func19, Tryd.ntmps19
  go_wp2_with fail
  refine wp_loop_rounds 2 ?_
  rw [rounds_succ]
  go_wp2_with fail
  rw [← HW1.out]
  refine HBK.out.mono ?_
  rintro e w2 ⟨rfl, hic, hb2⟩
  have hbx2 := HBX.out.below hb2 (by simp)
  have x1 := hbx2.cell 1
  simp only [List.getElem?_toArray, List.getElem?_cons_zero, List.getElem?_cons_succ] at x1
  obtain ⟨v, hck, hev, _⟩ := hic
  have c1 := hck.cell 1
  simp only [List.getElem?_toArray, List.getElem?_cons_zero, List.getElem?_cons_succ] at c1
  have H2 := Lib.hid (And.intro hev (show Below w.heap.size w w2 from ((Below.refl _ w).alloc (Nat.le_refl _) _).trans (hb2.mono (by simp))))
  clear hbx2 hck hev hb2 HBK
  go_wp2_with fail
  rw [rounds_succ]
  go_wp2_with fail
  go_ret
  exact ⟨v, rfl, H2.out.1, H2.out.2⟩
end Go.Proofs.YtnejkgkikpgajaaDoor.ini

namespace Go.Proofs.YtnejkgkikpgajaaDoor.ini
open Go.ChangeShapes Go.WideShapes Go.ChangeAt Go.RowKit
open tr ck
set_option linter.unusedVariables false
set_option linter.unusedSimpArgs false

def allocs (w : World) (l : List Obj) : World := l.foldl World.alloc w
theorem allocs_size (w : World) (l : List Obj) : (allocs w l).heap.size = w.heap.size + l.length := by
  induction l generalizing w with
  | nil => rfl
  | cons o r ih => show (allocs (w.alloc o) r).heap.size = _; rw [ih, World.size_alloc, List.length_cons]; omega
theorem allocs_below (w : World) (l : List Obj) : Below w.heap.size w (allocs w l) := by
  induction l generalizing w with
  | nil => exact Below.refl _ _
  | cons o r ih => exact ((Below.refl _ w).alloc (Nat.le_refl _) o).trans ((ih (w.alloc o)).mono (by simp))
theorem allocs_get (w : World) (l : List Obj) (i : Nat) (hi : i < l.length) : (allocs w l).heap[w.heap.size + i]? = some l[i] := by
  induction l generalizing w i with
  | nil => simp at hi
  | cons o r ih =>
    cases i with
    | zero =>
      have h := (allocs_below (w.alloc o) r).block w.heap.size (by simp)
      show (allocs (w.alloc o) r).heap[w.heap.size + 0]? = _
      rw [Nat.add_zero, h]
      show (w.heap.push o)[w.heap.size]? = _
      simp
    | succ i =>
      have := ih (w.alloc o) i (by simpa using hi)
      rw [World.size_alloc] at this
      rw [show w.heap.size + (i + 1) = w.heap.size + 1 + i by omega]
      exact this
def IProgPost (w : World) (x : Ex) (e : Ending) (w' : World) : Prop := ∃ gn cn, e = .returned (.agg #[.slice none 0 0, .slice (some ⟨gn, 0, none⟩) 1 cn]) ∧ IProgAt w' gn x ∧ Below w.heap.size w w'
set_option maxRecDepth 100000 in
set_option maxHeartbeats 16000000 in
theorem iprogram_any (w : World) (x : Ex) (cs : Array Value) (hx : LaidP w (fun _ => True) x cs.toList) :
    Calls Tryd.prog 20 #[.agg cs] w (IProgPost w x) := by
  obtain ⟨ek, eo, en, enm, ena, enl, enc, eka, ekl, ekc, el, ecl, rfl⟩ := hx.shape
  obtain ⟨W, hW⟩ : ∃ W, W = (((((((w.alloc (.cells #[.int .u8 ek, .int .u8 eo, .int .i32 en, .string enm, .slice ena enl enc, .slice eka ekl ekc, .int .i64 el, .int .i64 ecl] 29)).alloc (.cells #[.slice none 0 0, .slice none 0 0] 33)).alloc (.cells #[.string ⟨#[120]⟩, .int .u8 2, .string ⟨#[]⟩, .slice none 0 0, .bool false, .int .u8 0, .int .u8 0, .int .i32 0, .string ⟨#[]⟩, .slice none 0 0, .slice none 0 0, .int .i64 0, .int .i64 0, .int .i64 0, .int .i64 0] 54)).alloc (.cells #[.string ⟨#[102]⟩, .slice none 0 0, .slice (some ⟨w.heap.size + 1 + 1, 0, none⟩) 1 1, .slice none 0 0, .slice (some ⟨w.heap.size + 1 + 1 + 1 + 1 + 1, 0, none⟩) 1 1, .int .i64 0, .int .i64 0] 59)).alloc (.cells #[.string ⟨#[120]⟩] 9)).alloc (.cells #[.int .u8 1, .slice (some ⟨w.heap.size + 1 + 1 + 1 + 1, 0, none⟩) 1 1, .string ⟨#[]⟩, .slice none 0 0, .bool false, .int .u8 ek, .int .u8 eo, .int .i32 en, .string enm, .slice ena enl enc, .slice eka ekl ekc, .int .i64 el, .int .i64 ecl, .slice none 0 0, .int .i64 0, .int .i64 0] 64)).alloc (.cells #[.string ⟨#[102]⟩, .slice none 0 0, .slice (some ⟨w.heap.size + 1 + 1, 0, none⟩) 1 1, .slice none 0 0, .slice (some ⟨w.heap.size + 1 + 1 + 1 + 1 + 1, 0, none⟩) 1 1, .int .i64 0, .int .i64 0] 59)) := ⟨_, rfl⟩
  have hA : W = allocs w [.cells #[.int .u8 ek, .int .u8 eo, .int .i32 en, .string enm, .slice ena enl enc, .slice eka ekl ekc, .int .i64 el, .int .i64 ecl] 29, .cells #[.slice none 0 0, .slice none 0 0] 33, .cells #[.string ⟨#[120]⟩, .int .u8 2, .string ⟨#[]⟩, .slice none 0 0, .bool false, .int .u8 0, .int .u8 0, .int .i32 0, .string ⟨#[]⟩, .slice none 0 0, .slice none 0 0, .int .i64 0, .int .i64 0, .int .i64 0, .int .i64 0] 54, .cells #[.string ⟨#[102]⟩, .slice none 0 0, .slice (some ⟨w.heap.size + 1 + 1, 0, none⟩) 1 1, .slice none 0 0, .slice (some ⟨w.heap.size + 1 + 1 + 1 + 1 + 1, 0, none⟩) 1 1, .int .i64 0, .int .i64 0] 59, .cells #[.string ⟨#[120]⟩] 9, .cells #[.int .u8 1, .slice (some ⟨w.heap.size + 1 + 1 + 1 + 1, 0, none⟩) 1 1, .string ⟨#[]⟩, .slice none 0 0, .bool false, .int .u8 ek, .int .u8 eo, .int .i32 en, .string enm, .slice ena enl enc, .slice eka ekl ekc, .int .i64 el, .int .i64 ecl, .slice none 0 0, .int .i64 0, .int .i64 0] 64, .cells #[.string ⟨#[102]⟩, .slice none 0 0, .slice (some ⟨w.heap.size + 1 + 1, 0, none⟩) 1 1, .slice none 0 0, .slice (some ⟨w.heap.size + 1 + 1 + 1 + 1 + 1, 0, none⟩) 1 1, .int .i64 0, .int .i64 0] 59] := hW
  have hbw : Below w.heap.size w W := by rw [hA]; exact allocs_below _ _
  have hsw : W.heap.size = w.heap.size + 7 := by rw [hA, allocs_size]; rfl
  have gets : ∀ (i : Nat) (o : Obj) (b : Nat), b = w.heap.size + i → ([.cells #[.int .u8 ek, .int .u8 eo, .int .i32 en, .string enm, .slice ena enl enc, .slice eka ekl ekc, .int .i64 el, .int .i64 ecl] 29, .cells #[.slice none 0 0, .slice none 0 0] 33, .cells #[.string ⟨#[120]⟩, .int .u8 2, .string ⟨#[]⟩, .slice none 0 0, .bool false, .int .u8 0, .int .u8 0, .int .i32 0, .string ⟨#[]⟩, .slice none 0 0, .slice none 0 0, .int .i64 0, .int .i64 0, .int .i64 0, .int .i64 0] 54, .cells #[.string ⟨#[102]⟩, .slice none 0 0, .slice (some ⟨w.heap.size + 1 + 1, 0, none⟩) 1 1, .slice none 0 0, .slice (some ⟨w.heap.size + 1 + 1 + 1 + 1 + 1, 0, none⟩) 1 1, .int .i64 0, .int .i64 0] 59, .cells #[.string ⟨#[120]⟩] 9, .cells #[.int .u8 1, .slice (some ⟨w.heap.size + 1 + 1 + 1 + 1, 0, none⟩) 1 1, .string ⟨#[]⟩, .slice none 0 0, .bool false, .int .u8 ek, .int .u8 eo, .int .i32 en, .string enm, .slice ena enl enc, .slice eka ekl ekc, .int .i64 el, .int .i64 ecl, .slice none 0 0, .int .i64 0, .int .i64 0] 64, .cells #[.string ⟨#[102]⟩, .slice none 0 0, .slice (some ⟨w.heap.size + 1 + 1, 0, none⟩) 1 1, .slice none 0 0, .slice (some ⟨w.heap.size + 1 + 1 + 1 + 1 + 1, 0, none⟩) 1 1, .int .i64 0, .int .i64 0] 59] : List Obj)[i]? = some o → W.heap[b]? = some o := fun i o b hb ho => by
    obtain ⟨hi, he⟩ := List.getElem?_eq_some_iff.1 ho
    rw [hA, hb, allocs_get _ _ _ hi, he]
  have hout : Has W (w.heap.size + 1 + 1) 54 (varZ bX 2 ⟨#[]⟩ none 0 0) := gets 2 _ _ (by omega) rfl
  have hsx1 : Has W (w.heap.size + 1 + 1 + 1 + 1) 9 #[.string bX] := gets 4 _ _ (by omega) rfl
  have heq : Has W (w.heap.size + 1 + 1 + 1 + 1 + 1) 64 #[.int .u8 1, .slice (some ⟨w.heap.size + 1 + 1 + 1 + 1, 0, none⟩) 1 1, .string ⟨#[]⟩, .slice none 0 0, .bool false, .int .u8 ek, .int .u8 eo, .int .i32 en, .string enm, .slice ena enl enc, .slice eka ekl ekc, .int .i64 el, .int .i64 ecl, .slice none 0 0, .int .i64 0, .int .i64 0] := gets 5 _ _ (by omega) rfl
  have hnode : Has W (w.heap.size + 1 + 1 + 1 + 1 + 1 + 1) 59 #[.string ⟨#[102]⟩, .slice none 0 0, .slice (some ⟨w.heap.size + 1 + 1, 0, none⟩) 1 1, .slice none 0 0, .slice (some ⟨w.heap.size + 1 + 1 + 1 + 1 + 1, 0, none⟩) 1 1, .int .i64 0, .int .i64 0] := gets 6 _ _ (by omega) rfl
  have hres : Has W (w.heap.size + 1) 33 #[.slice none 0 0, .slice none 0 0] := gets 1 _ _ (by omega) rfl
  have HP := Lib.hid (placed_any W (w.heap.size + 1 + 1 + 1 + 1 + 1 + 1) none (some ⟨w.heap.size + 1 + 1, 0, none⟩) none 0 1 0 (w.heap.size + 1 + 1 + 1 + 1 + 1) 1 1 bF [] [⟨bX, 2, ⟨#[]⟩, none, 0, 0⟩] [] [⟨some ⟨w.heap.size + 1 + 1 + 1 + 1, 0, none⟩, 1, 1, x⟩] (fun b => b < w.heap.size) hnode (VarsIn.none _ _) (VarsIn.one hout) (VarsIn.none _ _) (fun b hb => by cases hb) (fun b hb => by cases hb; exact hout.lt) (fun b hb => by cases hb) (by decide) (by decide) (by decide)
    (fun i hi => by
      match i, hi with
      | 0, _ =>
        refine ⟨[.int .u8 ek, .int .u8 eo, .int .i32 en, .string enm, .slice ena enl enc, .slice eka ekl ekc, .int .i64 el, .int .i64 ecl], LaidP.keep (fun b hb _ => hb) (fun b o v _ hv => (hbw.cell (p := ⟨b, o, none⟩) (World.block_lt_of_cell? w _ hv)).trans hv) _ _ hx, fun k v hk => ?_⟩
        have hk16 : k < 16 := by have := (List.getElem?_eq_some_iff.1 hk).1; simpa using this
        have h2 := heq.cell (0 * 16 + k)
        rw [h2, Nat.zero_mul, Nat.zero_add, ← hk]
        rcases (show k = 0 ∨ k = 1 ∨ k = 2 ∨ k = 3 ∨ k = 4 ∨ k = 5 ∨ k = 6 ∨ k = 7 ∨ k = 8 ∨ k = 9 ∨ k = 10 ∨ k = 11 ∨ k = 12 ∨ k = 13 ∨ k = 14 ∨ k = 15 by omega) with rfl | rfl | rfl | rfl | rfl | rfl | rfl | rfl | rfl | rfl | rfl | rfl | rfl | rfl | rfl | rfl <;> rfl) (by simp) (by omega))
  have HF : Hid (∀ w', Below W.heap.size W w' → w'.cell? ⟨w.heap.size + 1 + 1 + 1 + 1, 0, none⟩ = some (.string bX) ∧ Has w' (w.heap.size + 1) 33 #[.slice none 0 0, .slice none 0 0]) := Lib.hid (fun w' hb =>
    ⟨(hsx1.below hb hsx1.lt).cell 0, hres.below hb hres.lt⟩)
  have HBW := Lib.hid hbw
  have HSW := Lib.hid hsw
  have HW := Lib.hid hW
  clear hW hA hbw hsw gets hout hsx1 heq hnode hres hx
  unfold IProgPost
  go_enter Tryd.func20, Tryd.ntmps20
  go_wp2_with fail
  rw [← HW.out]
  refine HP.out.mono ?_
  rintro e w1 ⟨gn, cn, rfl, hnode, hb1⟩
  obtain ⟨f1, f5⟩ := HF.out w1 hb1
  have r0 := f5.cell 0
  have r1 := f5.cell 1
  have rf := fun i => f5.free i
  simp only [List.getElem?_toArray, List.getElem?_cons_zero, List.getElem?_cons_succ] at r0 r1
  have HSELF := Lib.hid (self2 f5 (.slice none 0 0) (.slice (some ⟨gn, 0, none⟩) 1 cn))
  have HBUT := Lib.hid (but2 w1 (w.heap.size + 1) (.slice none 0 0) (.slice (some ⟨gn, 0, none⟩) 1 cn))
  have HNODE := Lib.hid hnode
  have HB1 := Lib.hid hb1
  have HFF := Lib.hid f1
  clear hnode hb1 f1 f5 HP HF HW
  go_wp2_with fail
  (try simp only [Exit.inBlock, Exit.then])
  have x0 := HSELF.out.cell 0
  have x1 := HSELF.out.cell 1
  simp only [List.getElem?_toArray, List.getElem?_cons_zero, List.getElem?_cons_succ] at x0 x1
  refine bodyPost_ret (v := .agg #[.slice none 0 0, .slice (some ⟨gn, 0, none⟩) 1 cn]) (by simp [results, Tryd.results20, go_sem, x0, x1]) rfl ?_
  have hsw := HSW.out
  refine ⟨gn, cn, rfl, ⟨w.heap.size + 1 + 1 + 1 + 1, HNODE.out.keep (fun _ _ => trivial) (fun b o v hb hv => HBUT.out.cell (by rcases hb with h | h <;> omega) hv), HBUT.out.cell (by omega) HFF.out⟩, ?_⟩
  exact HBUT.out.below (HBW.out.trans (HB1.out.mono HBW.out.size)) (by omega)

abbrev xv : Ex := .mk 4 0 0 bX [] [] 0 0
abbrev xpre : Ex := .mk 10 0 0 ⟨#[]⟩ [] [xv] 0 0
abbrev xone : Ex := .mk 1 0 0 ⟨#[]⟩ [] [] 0 0
abbrev xarr : Ex := .mk 11 0 0 ⟨#[]⟩ [] [xone, xpre] 0 0
theorem ok_pre : okQ [] [] (bX, xpre) = false := by kernel_rfl
theorem ok_arr : okQ [] [] (bX, xarr) = true := by kernel_rfl
theorem leafI (w : World) (ok : Nat → Prop) (k : Nat) (nm : ByteArray) (hk : k ≤ 255) (hn : nm.size ≤ maxLen) : LaidP w ok (.mk k 0 0 nm [] [] 0 0) [.int .u8 k, .int .u8 0, .int .i32 0, .string nm, .slice none 0 0, .slice none 0 0, .int .i64 0, .int .i64 0] := by
  unfold LaidP
  exact ⟨hk, by decide, hn, by decide, by decide, none, 0, none, 0, Nat.le_refl _, Nat.le_refl _, rfl, fun i s hi => by simp at hi, by unfold LaidPK; trivial⟩
end Go.Proofs.YtnejkgkikpgajaaDoor.ini

namespace Go.Proofs.YtnejkgkikpgajaaDoor.ini
open Go.ChangeShapes Go.WideShapes Go.ChangeAt Go.RowKit
open tr ck
set_option linter.unusedVariables false
set_option linter.unusedSimpArgs false

theorem pre_laid (w W : World) (hb : Below (w.heap.size + 1) (w.alloc (.cells #[.int .u8 4, .int .u8 0, .int .i32 0, .string ⟨#[120]⟩, .slice none 0 0, .slice none 0 0, .int .i64 0, .int .i64 0] 29)) W) : LaidP W (fun _ => True) xpre #[.int .u8 10, .int .u8 0, .int .i32 0, .string ⟨#[]⟩, .slice none 0 0, .slice (some ⟨w.heap.size, 0, none⟩) 1 1, .int .i64 0, .int .i64 0].toList := by
  have hks : Has W w.heap.size 29 #[.int .u8 4, .int .u8 0, .int .i32 0, .string ⟨#[120]⟩, .slice none 0 0, .slice none 0 0, .int .i64 0, .int .i64 0] := (Has.new w _ _).below hb (Nat.lt_succ_self _)
  unfold LaidP
  refine ⟨by decide, by decide, by decide, by decide, by decide, none, 0, _, 1, Nat.le_refl _, Nat.le_refl _, rfl, fun i s hi => by simp at hi, ?_⟩
  unfold LaidPK LaidPK
  refine ⟨_, 0, _, rfl, trivial, fun j v hj => ?_, leafI W _ 4 bX (by decide) (by decide), trivial⟩
  have hj8 : j < 8 := by have := (List.getElem?_eq_some_iff.1 hj).1; simpa using this
  rw [Nat.zero_add, hks.cell j, ← hj]
  rcases (show j = 0 ∨ j = 1 ∨ j = 2 ∨ j = 3 ∨ j = 4 ∨ j = 5 ∨ j = 6 ∨ j = 7 by omega) with rfl | rfl | rfl | rfl | rfl | rfl | rfl | rfl <;> rfl
theorem arr_laid (w : World) : LaidP (((w.alloc (.cells #[.int .u8 4, .int .u8 0, .int .i32 0, .string ⟨#[120]⟩, .slice none 0 0, .slice none 0 0, .int .i64 0, .int .i64 0] 29)).alloc (.cells #[.int .u8 10, .int .u8 0, .int .i32 0, .string ⟨#[]⟩, .slice none 0 0, .slice (some ⟨w.heap.size, 0, none⟩) 1 1, .int .i64 0, .int .i64 0] 29)).alloc (.cells #[.int .u8 1, .int .u8 0, .int .i32 0, .string ⟨#[]⟩, .slice none 0 0, .slice none 0 0, .int .i64 0, .int .i64 0, .int .u8 10, .int .u8 0, .int .i32 0, .string ⟨#[]⟩, .slice none 0 0, .slice (some ⟨w.heap.size, 0, none⟩) 1 1, .int .i64 0, .int .i64 0] 29)) (fun _ => True) xarr #[.int .u8 11, .int .u8 0, .int .i32 0, .string ⟨#[]⟩, .slice none 0 0, .slice (some ⟨w.heap.size + 1 + 1, 0, none⟩) 2 2, .int .i64 0, .int .i64 0].toList := by
  have hpre := pre_laid w (((w.alloc (.cells #[.int .u8 4, .int .u8 0, .int .i32 0, .string ⟨#[120]⟩, .slice none 0 0, .slice none 0 0, .int .i64 0, .int .i64 0] 29)).alloc (.cells #[.int .u8 10, .int .u8 0, .int .i32 0, .string ⟨#[]⟩, .slice none 0 0, .slice (some ⟨w.heap.size, 0, none⟩) 1 1, .int .i64 0, .int .i64 0] 29)).alloc (.cells #[.int .u8 1, .int .u8 0, .int .i32 0, .string ⟨#[]⟩, .slice none 0 0, .slice none 0 0, .int .i64 0, .int .i64 0, .int .u8 10, .int .u8 0, .int .i32 0, .string ⟨#[]⟩, .slice none 0 0, .slice (some ⟨w.heap.size, 0, none⟩) 1 1, .int .i64 0, .int .i64 0] 29)) ((((Below.refl _ _).alloc (by simp) _).alloc (by simp) _))
  have hks : Has (((w.alloc (.cells #[.int .u8 4, .int .u8 0, .int .i32 0, .string ⟨#[120]⟩, .slice none 0 0, .slice none 0 0, .int .i64 0, .int .i64 0] 29)).alloc (.cells #[.int .u8 10, .int .u8 0, .int .i32 0, .string ⟨#[]⟩, .slice none 0 0, .slice (some ⟨w.heap.size, 0, none⟩) 1 1, .int .i64 0, .int .i64 0] 29)).alloc (.cells #[.int .u8 1, .int .u8 0, .int .i32 0, .string ⟨#[]⟩, .slice none 0 0, .slice none 0 0, .int .i64 0, .int .i64 0, .int .u8 10, .int .u8 0, .int .i32 0, .string ⟨#[]⟩, .slice none 0 0, .slice (some ⟨w.heap.size, 0, none⟩) 1 1, .int .i64 0, .int .i64 0] 29)) (w.heap.size + 1 + 1) 29 #[.int .u8 1, .int .u8 0, .int .i32 0, .string ⟨#[]⟩, .slice none 0 0, .slice none 0 0, .int .i64 0, .int .i64 0, .int .u8 10, .int .u8 0, .int .i32 0, .string ⟨#[]⟩, .slice none 0 0, .slice (some ⟨w.heap.size, 0, none⟩) 1 1, .int .i64 0, .int .i64 0] := by
    have := Has.new ((w.alloc (.cells #[.int .u8 4, .int .u8 0, .int .i32 0, .string ⟨#[120]⟩, .slice none 0 0, .slice none 0 0, .int .i64 0, .int .i64 0] 29)).alloc (.cells #[.int .u8 10, .int .u8 0, .int .i32 0, .string ⟨#[]⟩, .slice none 0 0, .slice (some ⟨w.heap.size, 0, none⟩) 1 1, .int .i64 0, .int .i64 0] 29)) 29 #[.int .u8 1, .int .u8 0, .int .i32 0, .string ⟨#[]⟩, .slice none 0 0, .slice none 0 0, .int .i64 0, .int .i64 0, .int .u8 10, .int .u8 0, .int .i32 0, .string ⟨#[]⟩, .slice none 0 0, .slice (some ⟨w.heap.size, 0, none⟩) 1 1, .int .i64 0, .int .i64 0]
    simp only [World.size_alloc] at this
    exact this
  unfold LaidP
  refine ⟨by decide, by decide, by decide, by decide, by decide, none, 0, _, 2, Nat.le_refl _, Nat.le_refl _, rfl, fun i s hi => by simp at hi, ?_⟩
  unfold LaidPK LaidPK LaidPK
  refine ⟨_, 0, _, rfl, trivial, fun j v hj => ?_, leafI _ _ 1 ⟨#[]⟩ (by decide) (by decide), _, 8, _, rfl, trivial, fun j v hj => ?_, hpre, trivial⟩
  · have hj8 : j < 8 := by have := (List.getElem?_eq_some_iff.1 hj).1; simpa using this
    rw [Nat.zero_add, hks.cell j, ← hj]
    rcases (show j = 0 ∨ j = 1 ∨ j = 2 ∨ j = 3 ∨ j = 4 ∨ j = 5 ∨ j = 6 ∨ j = 7 by omega) with rfl | rfl | rfl | rfl | rfl | rfl | rfl | rfl <;> rfl
  · have hj8 : j < 8 := by have := (List.getElem?_eq_some_iff.1 hj).1; simpa using this
    rw [hks.cell (8 + j), ← hj]
    rcases (show j = 0 ∨ j = 1 ∨ j = 2 ∨ j = 3 ∨ j = 4 ∨ j = 5 ∨ j = 6 ∨ j = 7 by omega) with rfl | rfl | rfl | rfl | rfl | rfl | rfl | rfl <;> rfl
set_option maxRecDepth 100000 in
set_option maxHeartbeats 8000000 in
theorem iawake_any (w : World) :
    Calls Tryd.prog 9 #[] w fun e w' => e = .returned (.bool true) ∧ Below w.heap.size w w' := by
  have HP1 := Lib.hid (iprogram_any (((w.alloc (.cells #[.int .u8 4, .int .u8 0, .int .i32 0, .string ⟨#[120]⟩, .slice none 0 0, .slice none 0 0, .int .i64 0, .int .i64 0] 29)).alloc (.cells #[.int .u8 10, .int .u8 0, .int .i32 0, .string ⟨#[]⟩, .slice none 0 0, .slice (some ⟨w.heap.size, 0, none⟩) 1 1, .int .i64 0, .int .i64 0] 29)).alloc (.cells #[.int .u8 1, .int .u8 0, .int .i32 0, .string ⟨#[]⟩, .slice none 0 0, .slice none 0 0, .int .i64 0, .int .i64 0, .int .u8 10, .int .u8 0, .int .i32 0, .string ⟨#[]⟩, .slice none 0 0, .slice (some ⟨w.heap.size, 0, none⟩) 1 1, .int .i64 0, .int .i64 0] 29)) xarr #[.int .u8 11, .int .u8 0, .int .i32 0, .string ⟨#[]⟩, .slice none 0 0, .slice (some ⟨w.heap.size + 1 + 1, 0, none⟩) 2 2, .int .i64 0, .int .i64 0] (arr_laid w))
  have hbw : Below w.heap.size w (((w.alloc (.cells #[.int .u8 4, .int .u8 0, .int .i32 0, .string ⟨#[120]⟩, .slice none 0 0, .slice none 0 0, .int .i64 0, .int .i64 0] 29)).alloc (.cells #[.int .u8 10, .int .u8 0, .int .i32 0, .string ⟨#[]⟩, .slice none 0 0, .slice (some ⟨w.heap.size, 0, none⟩) 1 1, .int .i64 0, .int .i64 0] 29)).alloc (.cells #[.int .u8 1, .int .u8 0, .int .i32 0, .string ⟨#[]⟩, .slice none 0 0, .slice none 0 0, .int .i64 0, .int .i64 0, .int .u8 10, .int .u8 0, .int .i32 0, .string ⟨#[]⟩, .slice none 0 0, .slice (some ⟨w.heap.size, 0, none⟩) 1 1, .int .i64 0, .int .i64 0] 29)) := (((Below.refl _ w).alloc (Nat.le_refl _) _).alloc (by simp) _).alloc (by simp <;> omega) _
  have HBW := Lib.hid hbw
  have hp : Has (((w.alloc (.cells #[.int .u8 4, .int .u8 0, .int .i32 0, .string ⟨#[120]⟩, .slice none 0 0, .slice none 0 0, .int .i64 0, .int .i64 0] 29)).alloc (.cells #[.int .u8 10, .int .u8 0, .int .i32 0, .string ⟨#[]⟩, .slice none 0 0, .slice (some ⟨w.heap.size, 0, none⟩) 1 1, .int .i64 0, .int .i64 0] 29)).alloc (.cells #[.int .u8 1, .int .u8 0, .int .i32 0, .string ⟨#[]⟩, .slice none 0 0, .slice none 0 0, .int .i64 0, .int .i64 0, .int .u8 10, .int .u8 0, .int .i32 0, .string ⟨#[]⟩, .slice none 0 0, .slice (some ⟨w.heap.size, 0, none⟩) 1 1, .int .i64 0, .int .i64 0] 29)) (w.heap.size + 1) 29 #[.int .u8 10, .int .u8 0, .int .i32 0, .string ⟨#[]⟩, .slice none 0 0, .slice (some ⟨w.heap.size, 0, none⟩) 1 1, .int .i64 0, .int .i64 0] := by
    have := (Has.new (w.alloc (.cells #[.int .u8 4, .int .u8 0, .int .i32 0, .string ⟨#[120]⟩, .slice none 0 0, .slice none 0 0, .int .i64 0, .int .i64 0] 29)) 29 #[.int .u8 10, .int .u8 0, .int .i32 0, .string ⟨#[]⟩, .slice none 0 0, .slice (some ⟨w.heap.size, 0, none⟩) 1 1, .int .i64 0, .int .i64 0]).alloc (.cells #[.int .u8 1, .int .u8 0, .int .i32 0, .string ⟨#[]⟩, .slice none 0 0, .slice none 0 0, .int .i64 0, .int .i64 0, .int .u8 10, .int .u8 0, .int .i32 0, .string ⟨#[]⟩, .slice none 0 0, .slice (some ⟨w.heap.size, 0, none⟩) 1 1, .int .i64 0, .int .i64 0] 29)
    simp only [World.size_alloc] at this
    exact this
  have HPRE := Lib.hid hp
  have HLB : Hid (∀ W, Below ((((w.alloc (.cells #[.int .u8 4, .int .u8 0, .int .i32 0, .string ⟨#[120]⟩, .slice none 0 0, .slice none 0 0, .int .i64 0, .int .i64 0] 29)).alloc (.cells #[.int .u8 10, .int .u8 0, .int .i32 0, .string ⟨#[]⟩, .slice none 0 0, .slice (some ⟨w.heap.size, 0, none⟩) 1 1, .int .i64 0, .int .i64 0] 29)).alloc (.cells #[.int .u8 1, .int .u8 0, .int .i32 0, .string ⟨#[]⟩, .slice none 0 0, .slice none 0 0, .int .i64 0, .int .i64 0, .int .u8 10, .int .u8 0, .int .i32 0, .string ⟨#[]⟩, .slice none 0 0, .slice (some ⟨w.heap.size, 0, none⟩) 1 1, .int .i64 0, .int .i64 0] 29))).heap.size (((w.alloc (.cells #[.int .u8 4, .int .u8 0, .int .i32 0, .string ⟨#[120]⟩, .slice none 0 0, .slice none 0 0, .int .i64 0, .int .i64 0] 29)).alloc (.cells #[.int .u8 10, .int .u8 0, .int .i32 0, .string ⟨#[]⟩, .slice none 0 0, .slice (some ⟨w.heap.size, 0, none⟩) 1 1, .int .i64 0, .int .i64 0] 29)).alloc (.cells #[.int .u8 1, .int .u8 0, .int .i32 0, .string ⟨#[]⟩, .slice none 0 0, .slice none 0 0, .int .i64 0, .int .i64 0, .int .u8 10, .int .u8 0, .int .i32 0, .string ⟨#[]⟩, .slice none 0 0, .slice (some ⟨w.heap.size, 0, none⟩) 1 1, .int .i64 0, .int .i64 0] 29)) W → LaidP W (fun _ => True) xpre #[.int .u8 10, .int .u8 0, .int .i32 0, .string ⟨#[]⟩, .slice none 0 0, .slice (some ⟨w.heap.size, 0, none⟩) 1 1, .int .i64 0, .int .i64 0].toList) := Lib.hid (fun W h => pre_laid w W ((((Below.refl _ _).alloc (by simp) _).alloc (by simp) _).trans (h.mono (by simp <;> omega))))
  have HOK1 := Lib.hid ok_arr
  have HOK2 := Lib.hid ok_pre
  clear hbw hp
  go_enter Tryd.func9, Tryd.ntmps9
  go_wp2_with fail
  refine HP1.out.mono ?_
  rintro e w1 ⟨gn, cn, rfl, hp, hb1⟩
  have HB1 := Lib.hid hb1
  have HC1 := Lib.hid (icheck_law w1 gn cn xarr hp rfl (by decide))
  clear hb1 hp HP1
  go_wp2_with fail
  refine HC1.out.mono ?_
  rintro e w2 ⟨v1, rfl, he1, hb2⟩
  rw [HOK1.out] at he1
  obtain rfl := he1.1 rfl
  have hbb2 : Below ((((w.alloc (.cells #[.int .u8 4, .int .u8 0, .int .i32 0, .string ⟨#[120]⟩, .slice none 0 0, .slice none 0 0, .int .i64 0, .int .i64 0] 29)).alloc (.cells #[.int .u8 10, .int .u8 0, .int .i32 0, .string ⟨#[]⟩, .slice none 0 0, .slice (some ⟨w.heap.size, 0, none⟩) 1 1, .int .i64 0, .int .i64 0] 29)).alloc (.cells #[.int .u8 1, .int .u8 0, .int .i32 0, .string ⟨#[]⟩, .slice none 0 0, .slice none 0 0, .int .i64 0, .int .i64 0, .int .u8 10, .int .u8 0, .int .i32 0, .string ⟨#[]⟩, .slice none 0 0, .slice (some ⟨w.heap.size, 0, none⟩) 1 1, .int .i64 0, .int .i64 0] 29))).heap.size (((w.alloc (.cells #[.int .u8 4, .int .u8 0, .int .i32 0, .string ⟨#[120]⟩, .slice none 0 0, .slice none 0 0, .int .i64 0, .int .i64 0] 29)).alloc (.cells #[.int .u8 10, .int .u8 0, .int .i32 0, .string ⟨#[]⟩, .slice none 0 0, .slice (some ⟨w.heap.size, 0, none⟩) 1 1, .int .i64 0, .int .i64 0] 29)).alloc (.cells #[.int .u8 1, .int .u8 0, .int .i32 0, .string ⟨#[]⟩, .slice none 0 0, .slice none 0 0, .int .i64 0, .int .i64 0, .int .u8 10, .int .u8 0, .int .i32 0, .string ⟨#[]⟩, .slice none 0 0, .slice (some ⟨w.heap.size, 0, none⟩) 1 1, .int .i64 0, .int .i64 0] 29)) w2 := HB1.out.trans (hb2.mono HB1.out.size)
  have hpr := HPRE.out.below hbb2 (by simp <;> omega)
  have c0 := hpr.cell 0
  have c1 := hpr.cell 1
  have c2 := hpr.cell 2
  have c3 := hpr.cell 3
  have c4 := hpr.cell 4
  have c5 := hpr.cell 5
  have c6 := hpr.cell 6
  have c7 := hpr.cell 7
  simp only [List.getElem?_toArray, List.getElem?_cons_zero, List.getElem?_cons_succ] at c0 c1 c2 c3 c4 c5 c6 c7
  have HP2 := Lib.hid (iprogram_any w2 xpre #[.int .u8 10, .int .u8 0, .int .i32 0, .string ⟨#[]⟩, .slice none 0 0, .slice (some ⟨w.heap.size, 0, none⟩) 1 1, .int .i64 0, .int .i64 0] (HLB.out w2 hbb2))
  have HB2 := Lib.hid (HBW.out.trans (hbb2.mono HBW.out.size))
  clear he1 hb2 hbb2 hpr HC1
  go_wp2_with fail
  refine HP2.out.mono ?_
  rintro e w4 ⟨gn2, cn2, rfl, hp2, hb4⟩
  have HB4 := Lib.hid (HB2.out.trans (hb4.mono HB2.out.size))
  have HC2 := Lib.hid (icheck_law w4 gn2 cn2 xpre hp2 rfl (by decide))
  clear hb4 hp2 HP2 c0 c1 c2 c3 c4 c5 c6 c7
  go_wp2_with fail
  refine HC2.out.mono ?_
  rintro e w5 ⟨v2, rfl, he2, hb5⟩
  rw [HOK2.out] at he2
  obtain ⟨ga, ex, ey, hv2, hat⟩ := he2.2 rfl
  subst hv2
  have HB5 := Lib.hid (HB4.out.trans (hb5.mono HB4.out.size))
  have HAT5 := Lib.hid hat
  clear he2 hb5 hat HC2
  go_wp2_with fail
  refine (ft.kind_at ga ex ey noT false 9 (by decide) (by decide) _ HAT5.out).mono ?_
  rintro e w6 ⟨rfl, hb6⟩
  have HB6 := Lib.hid (HB5.out.trans (hb6.mono HB5.out.size))
  clear hb6
  go_wp2_with fail
  go_ret
  exact ⟨rfl, HB6.out⟩
end Go.Proofs.YtnejkgkikpgajaaDoor.ini
