/-
  First: of some errors that of the least place, of several the first.
-/
import Derived.Test.YtboeobgkepdabaaDoorFcAwake
import Derived.Test.YtboeobgkepdabaaDoorFtFinite
namespace Go.Proofs.YtboeobgkepdabaaDoor.ft
open Go.ChangeShapes Go.WideShapes Go.ChangeAt Go.RowKit
open Go.Proofs.YtboeobgkepdabaaDoor.lx (Has)
set_option linter.unusedVariables false
set_option linter.unusedSimpArgs false

/-- an error: its block, its place, its kind -/
structure Er where
  g : Nat
  x : Int
  y : Int
  k : Int
def earlier (e b : Er) : Bool := decide (e.x < b.x ∨ e.x = b.x ∧ e.y < b.y)
def pick : Option Er → Option Er → Option Er
  | b, none => b
  | none, some e => some e
  | some b, some e => if earlier e b = true then some e else some b
def bst (l : List (Option Er)) : Option Er := l.foldl pick none
theorem bst_snoc (l : List (Option Er)) (e : Option Er) : bst (l ++ [e]) = pick (bst l) e := by simp [bst, List.foldl_append]
def valE : Option Er → Value
  | none => .nilIface
  | some e => .iface 41 (.pointer (some ⟨e.g, 0, none⟩))
def LaidE (W : World) : Option Er → Prop
  | none => True
  | some e => Has W e.g 50 #[.int .i64 e.x, .int .i64 e.y, .string ⟨#[]⟩, .bool false, .iface 29 (.int .i64 e.k)]
def RowE (w : World) (a : Option Addr) (l : List (Option Er)) : Prop :=
  ∀ i e, l[i]? = some e → ∃ b off, a = some ⟨b, off, none⟩ ∧ w.cell? ⟨b, off + i, none⟩ = some (valE e) ∧ LaidE w e
def px : Option Er → Int | none => 0 | some e => e.x
def py : Option Er → Int | none => 0 | some e => e.y

theorem before_any (x1 y1 x2 y2 : Int) (w : World) :
    Calls Tryd.prog 26 #[.agg #[.int .i64 x1, .int .i64 y1], .agg #[.int .i64 x2, .int .i64 y2]] w fun e w' => e = .returned (.bool (decide (x1 < x2 ∨ x1 = x2 ∧ y1 < y2))) ∧ Below w.heap.size w w' := by
  by_cases h1 : x1 < x2
  · have hd : decide (x1 < x2 ∨ x1 = x2 ∧ y1 < y2) = true := decide_eq_true (.inl h1)
    rw [hd]
    clear hd
    go_enter Tryd.func26, Tryd.ntmps26
    go_wp2_with fail
    go_ret
    exact ⟨rfl, by go_grown⟩
  · by_cases h2 : x1 = x2
    · subst h2
      by_cases h3 : y1 < y2
      · have hd : decide (x1 < x1 ∨ x1 = x1 ∧ y1 < y2) = true := decide_eq_true (.inr ⟨rfl, h3⟩)
        rw [hd]
        clear hd
        go_enter Tryd.func26, Tryd.ntmps26
        go_wp2_with fail
        go_ret
        exact ⟨rfl, by go_grown⟩
      · have hd : decide (x1 < x1 ∨ x1 = x1 ∧ y1 < y2) = false := decide_eq_false (by omega)
        rw [hd]
        clear hd
        go_enter Tryd.func26, Tryd.ntmps26
        go_wp2_with fail
        go_ret
        exact ⟨rfl, by go_grown⟩
    · have hd : decide (x1 < x2 ∨ x1 = x2 ∧ y1 < y2) = false := decide_eq_false (by omega)
      have e1 : (x1 == x2) = false := beq_eq_false_iff_ne.2 h2
      rw [hd]
      clear hd h2
      go_enter Tryd.func26, Tryd.ntmps26
      go_wp2_with fail
      go_ret
      exact ⟨rfl, by go_grown⟩

/-- what First's loop keeps -/
structure FAt (w : World) (b : Option Er) (W : World) : Prop where
  least : Has W w.heap.size 23 #[.int .i64 (px b), .int .i64 (py b)]
  low : Below w.heap.size w W

set_option maxRecDepth 100000 in
set_option maxHeartbeats 8000000 in
theorem first_any (l : List (Option Er)) (a : Option Addr) (c : Nat) (w : World) (hh : Handle w) (hr : RowE w a l) (hn : l.length ≤ 100000) :
    Calls Tryd.prog 18 #[.slice a l.length c] w fun e w' => e = .returned (valE (bst l)) ∧ Below w.heap.size w w' := by
  have HH := Lib.hid hh
  have HR := Lib.hid hr
  have HS : Hid (FAt w (bst (l.take 0)) (w.alloc (.cells #[.int .i64 0, .int .i64 0] 23))) := Lib.hid ⟨Has.new w _ _, (Below.refl _ w).alloc (Nat.le_refl _) _⟩
  clear hh hr
  go_enter Tryd.func18, Tryd.ntmps18
  go_wp2_with fail
  go_loopw [3, 10] (fun fv iv wr => ∃ i : Nat, i ≤ l.length ∧ iv = .int .i64 i ∧ fv = valE (bst (l.take i)) ∧ Hid (FAt w (bst (l.take i)) wr)) (fun _ iv _ => l.length - (intOf iv).toNat)
  case atStart => exact ⟨0, by omega, rfl, rfl, HS⟩
  case round =>
    obtain ⟨i, hi, rfl, rfl, HF⟩ := hrel
    by_cases hil : i < l.length
    · have htk : l.take (i + 1) = l.take i ++ [l[i]] := by rw [List.take_succ_eq_append_getElem hil]
      have hbs : bst (l.take (i + 1)) = pick (bst (l.take i)) l[i] := by rw [htk, bst_snoc]
      obtain ⟨b, off, rfl, hc, hle⟩ := HR.out i l[i] (List.getElem?_eq_getElem hil)
      have hcr := (HF.out.low.cell (p := ⟨b, off + i, none⟩) (World.block_lt_of_cell? w _ hc)).trans hc
      obtain ⟨B, hB⟩ : ∃ B, B = bst (l.take i) := ⟨_, rfl⟩
      rw [← hB] at hbs HF
      rw [← hB]
      obtain ⟨e, he⟩ : ∃ e, e = l[i] := ⟨_, rfl⟩
      rw [← he] at hbs hcr hle
      have HBS := Lib.hid hbs
      have j0 : (0 : Int) ≤ (i : Int) := Int.natCast_nonneg _
      have j1 : (i : Int) < (l.length : Int) := by omega
      clear htk hbs hc he hB
      cases e with
      | none =>
        simp only [valE] at hcr
        clear hle
        go_wp2_with fail
        go_roundw
        case rel => exact ⟨i + 1, by omega, by go_num, by rw [HBS.out]; cases B <;> rfl, Lib.hid (by rw [HBS.out]; cases B <;> exact HF.out)⟩
        case measure => simp [intOf]; omega
      | some e =>
        simp only [valE] at hcr
        have HLE : Hid (Has wr e.g 50 #[.int .i64 e.x, .int .i64 e.y, .string ⟨#[]⟩, .bool false, .iface 29 (.int .i64 e.k)]) := Lib.hid (Has.below hle HF.out.low (Has.lt hle))
        clear hle
        go_wp2_with fail
        refine (where_at e.g e.x e.y e.k ⟨#[]⟩ wr (HH.out.below HF.out.low) HLE.out).mono ?_
        rintro ev w2 ⟨rfl, hb2⟩
        have HF2 := Lib.hid (FAt.mk (HF.out.least.below hb2 HF.out.least.lt) (HF.out.low.trans (hb2.mono HF.out.low.size)))
        have HA := Lib.hid (Has.new w2 23 #[.int .i64 e.x, .int .i64 e.y])
        clear hb2
        have c0 := HF2.out.least.cell 0
        have c1 := HF2.out.least.cell 1
        have fz := fun i => HF2.out.least.free i
        have hll := HF2.out.least.lt
        simp only [List.getElem?_toArray, List.getElem?_cons_zero, List.getElem?_cons_succ] at c0 c1
        cases B with
        | none =>
          simp only [valE, px, py] at c0 c1 ⊢
          have hl3 := (HF2.out.least.put 0 (.int .i64 e.x)).put 1 (.int .i64 e.y)
          simp only [List.setIfInBounds_toArray, List.set_cons_zero, List.set_cons_succ] at hl3
          have HL3 := Lib.hid hl3
          clear hl3
          go_wp2_with fail
          go_region
          all_goals
            go_wp2_with fail
            go_roundw
            case rel => exact ⟨i + 1, by omega, by go_num, by rw [HBS.out]; rfl, Lib.hid (by
              rw [HBS.out]
              exact ⟨HL3.out.alloc _, (((HF2.out.low.setCell (p := ⟨w.heap.size, 0, none⟩) (Nat.le_refl _) _).setCell (p := ⟨w.heap.size, 1, none⟩) (Nat.le_refl _) _).alloc (by simp; exact HF2.out.low.size) _).drew⟩)⟩
            case measure => simp [intOf]; omega
        | some d =>
          simp only [valE, px, py] at c0 c1 ⊢
          go_wp2_with fail
          refine (before_any e.x e.y d.x d.y _).mono ?_
          rintro ev w3 ⟨rfl, hb3⟩
          have hF3 : FAt w (some d) w3 := ⟨(HF2.out.least.alloc _).below hb3 (HF2.out.least.alloc _).lt, (HF2.out.low.alloc HF2.out.low.size _).trans (hb3.mono (HF2.out.low.alloc HF2.out.low.size _).size)⟩
          have hA3 := HA.out.below hb3 HA.out.lt
          have a0 := hA3.cell 0
          have a1 := hA3.cell 1
          simp only [List.getElem?_toArray, List.getElem?_cons_zero, List.getElem?_cons_succ] at a0 a1
          have fz3 := fun i => hF3.least.free i
          have hll3 := hF3.least.lt
          have hal3 := hA3.lt
          have HF3 := Lib.hid hF3
          have b0 := hF3.least.cell 0
          have b1 := hF3.least.cell 1
          simp only [List.getElem?_toArray, List.getElem?_cons_zero, List.getElem?_cons_succ] at b0 b1
          have hl4 := (((show Has w3.drew w.heap.size 23 #[.int .i64 d.x, .int .i64 d.y] from hF3.least).put 0 (.int .i64 e.x)).put 1 (.int .i64 e.y))
          simp only [List.setIfInBounds_toArray, List.set_cons_zero, List.set_cons_succ] at hl4
          have HL4 := Lib.hid hl4
          clear hb3 hF3 hA3 c0 c1 fz hll hl4
          cases hE : decide (e.x < d.x ∨ e.x = d.x ∧ e.y < d.y)
          · have hp : pick (some d) (some e) = some d := if_neg (by show ¬ earlier e d = true; unfold earlier; rw [hE]; decide)
            rw [hp] at HBS
            clear hE hp
            go_wp2_with fail
            go_roundw
            case rel => exact ⟨i + 1, by omega, by go_num, by rw [HBS.out]; rfl, Lib.hid (by rw [HBS.out]; exact HF3.out)⟩
            case measure => simp [intOf]; omega
          · have hp : pick (some d) (some e) = some e := if_pos (by show earlier e d = true; unfold earlier; exact hE)
            rw [hp] at HBS
            clear hE hp
            go_wp2_with fail
            go_region
            all_goals
              go_wp2_with fail
              go_roundw
              case rel => exact ⟨i + 1, by omega, by go_num, by rw [HBS.out]; rfl, Lib.hid (by
                rw [HBS.out]
                exact ⟨HL4.out, (((HF3.out.low.drew).setCell (p := ⟨w.heap.size, 0, none⟩) (Nat.le_refl _) _).setCell (p := ⟨w.heap.size, 1, none⟩) (Nat.le_refl _) _)⟩)⟩
              case measure => simp [intOf]; omega
    · have hil2 : i = l.length := by omega
      subst hil2
      rw [List.take_length] at HF
      rw [List.take_length]
      go_wp2_with fail
      go_ret
      exact ⟨rfl, HF.out.low⟩
end Go.Proofs.YtboeobgkepdabaaDoor.ft
