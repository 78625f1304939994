/-
  awake: the document's example.
-/
import Derived.Test.YtnejkgkikpgajaaDoorCkBlock
import Derived.Test.YtnejkgkikpgajaaDoorFtKind
namespace Go.Proofs.YtnejkgkikpgajaaDoor.ck
open Go.ChangeShapes Go.WideShapes Go.ChangeAt Go.RowKit
open tr Go.Sort
set_option linter.unusedVariables false
set_option linter.unusedSimpArgs false

def bFl : ByteArray := ⟨#[102, 97, 108, 115, 101]⟩
abbrev xw : Ex := .mk 4 0 0 bW [] [] 0 0
abbrev xi : Ex := .mk 1 0 0 ⟨#[]⟩ [] [] 0 0
abbrev xm : Ex := .mk 13 0 0 bC [bT, bFl] [xw, xi] 0 0
theorem ok_xw : okE LW 0 [] xw = false := by kernel_rfl
theorem ok_xm : okE LW 0 [] xm = true := by kernel_rfl
theorem leafP (w : World) (ok : Nat → Prop) (k : Nat) (nm : ByteArray) (hk : k ≤ 255) (hn : nm.size ≤ maxLen) : LaidP w ok (.mk k 0 0 nm [] [] 0 0) [.int .u8 k, .int .u8 0, .int .i32 0, .string nm, .slice none 0 0, .slice none 0 0, .int .i64 0, .int .i64 0] := by
  unfold LaidP
  exact ⟨hk, by decide, hn, by decide, by decide, none, 0, none, 0, Nat.le_refl _, Nat.le_refl _, rfl, fun i s hi => by simp at hi, by unfold LaidPK; trivial⟩

set_option maxRecDepth 100000 in
set_option maxHeartbeats 8000000 in
theorem awake_any (w : World) :
    Calls Tryd.prog 5 #[] w fun e w' => e = .returned (.bool true) ∧ Below w.heap.size w w' := by
  have HP1 := Lib.hid (program_any w xw #[.int .u8 4, .int .u8 0, .int .i32 0, .string bW, .slice none 0 0, .slice none 0 0, .int .i64 0, .int .i64 0] (leafP w _ 4 bW (by decide) (by decide)))
  have HOK1 := Lib.hid ok_xw
  have HOK2 := Lib.hid ok_xm
  go_enter Tryd.func5, Tryd.ntmps5
  go_wp2_with fail
  refine HP1.out.mono ?_
  rintro e w1 ⟨gn, cn, rfl, hp, hb1⟩
  have HB1 := Lib.hid hb1
  have HC1 := Lib.hid (check_law w1 gn cn xw hp)
  clear hb1 hp HP1
  go_wp2_with fail
  refine HC1.out.mono ?_
  rintro e w2 ⟨v1, rfl, he1, hb2⟩
  rw [HOK1.out] at he1
  obtain ⟨ga, ex, ey, hv1, hat⟩ := he1.2 rfl
  subst hv1
  have HB2 := Lib.hid (HB1.out.trans (hb2.mono HB1.out.size))
  obtain ⟨W2, hW2⟩ : ∃ W2, W2 = (w2.alloc (.cells #[.string bT, .string bFl] 9)).alloc (.cells #[.int .u8 4, .int .u8 0, .int .i32 0, .string bW, .slice none 0 0, .slice none 0 0, .int .i64 0, .int .i64 0, .int .u8 1, .int .u8 0, .int .i32 0, .string ⟨#[]⟩, .slice none 0 0, .slice none 0 0, .int .i64 0, .int .i64 0] 29) := ⟨_, rfl⟩
  have hb3 : Below w2.heap.size w2 W2 := by rw [hW2]; exact ((Below.refl _ w2).alloc (Nat.le_refl _) _).alloc (by simp) _
  have hst : Has W2 w2.heap.size 9 #[.string bT, .string bFl] := by rw [hW2]; exact (Has.new w2 _ _).alloc _
  have hks : Has W2 (w2.heap.size + 1) 29 #[.int .u8 4, .int .u8 0, .int .i32 0, .string bW, .slice none 0 0, .slice none 0 0, .int .i64 0, .int .i64 0, .int .u8 1, .int .u8 0, .int .i32 0, .string ⟨#[]⟩, .slice none 0 0, .slice none 0 0, .int .i64 0, .int .i64 0] := by
    rw [hW2]
    have := Has.new (w2.alloc (.cells #[.string bT, .string bFl] 9)) 29 #[.int .u8 4, .int .u8 0, .int .i32 0, .string bW, .slice none 0 0, .slice none 0 0, .int .i64 0, .int .i64 0, .int .u8 1, .int .u8 0, .int .i32 0, .string ⟨#[]⟩, .slice none 0 0, .slice none 0 0, .int .i64 0, .int .i64 0]
    simp only [World.size_alloc] at this
    exact this
  have hxm : LaidP W2 (fun _ => True) xm [.int .u8 13, .int .u8 0, .int .i32 0, .string bC, .slice (some ⟨w2.heap.size, 0, none⟩) 2 2, .slice (some ⟨w2.heap.size + 1, 0, none⟩) 2 2, .int .i64 0, .int .i64 0] := by
    unfold LaidP
    refine ⟨by decide, by decide, by decide, by decide, by decide, _, 2, _, 2, Nat.le_refl _, Nat.le_refl _, rfl, fun i s hi => ?_, ?_⟩
    · refine ⟨w2.heap.size, 0, rfl, trivial, ?_, ?_⟩
      · rw [Nat.zero_add, hst.cell i]
        match i, hi with
        | 0, hi => cases hi; rfl
        | 1, hi => cases hi; rfl
      · match i, hi with
        | 0, hi => cases hi; decide
        | 1, hi => cases hi; decide
    · unfold LaidPK LaidPK LaidPK
      refine ⟨_, 0, _, rfl, trivial, fun j v hj => ?_, leafP W2 _ 4 bW (by decide) (by decide), _, 8, _, rfl, trivial, fun j v hj => ?_, leafP W2 _ 1 ⟨#[]⟩ (by decide) (by decide), trivial⟩
      · have hj8 : j < 8 := by have := (List.getElem?_eq_some_iff.1 hj).1; simpa using this
        rw [Nat.zero_add, hks.cell j, ← hj]
        rcases (show j = 0 ∨ j = 1 ∨ j = 2 ∨ j = 3 ∨ j = 4 ∨ j = 5 ∨ j = 6 ∨ j = 7 by omega) with rfl | rfl | rfl | rfl | rfl | rfl | rfl | rfl <;> rfl
      · have hj8 : j < 8 := by have := (List.getElem?_eq_some_iff.1 hj).1; simpa using this
        rw [hks.cell (8 + j), ← hj]
        rcases (show j = 0 ∨ j = 1 ∨ j = 2 ∨ j = 3 ∨ j = 4 ∨ j = 5 ∨ j = 6 ∨ j = 7 by omega) with rfl | rfl | rfl | rfl | rfl | rfl | rfl | rfl <;> rfl
  have HP2 := Lib.hid (program_any W2 xm #[.int .u8 13, .int .u8 0, .int .i32 0, .string bC, .slice (some ⟨w2.heap.size, 0, none⟩) 2 2, .slice (some ⟨w2.heap.size + 1, 0, none⟩) 2 2, .int .i64 0, .int .i64 0] hxm)
  have HAT := Lib.hid (hat.below hb3 hat.lt)
  have HB3 := Lib.hid (HB2.out.trans (hb3.mono HB2.out.size))
  have HW2 := Lib.hid hW2
  clear hb2 hW2 hb3 hst hks hxm hat he1 HC1
  go_wp2_with fail
  have hw2 := HW2.out
  unfold bT bFl bW at hw2
  rw [← hw2]
  clear hw2
  refine HP2.out.mono ?_
  rintro e w4 ⟨gn2, cn2, rfl, hp2, hb4⟩
  have HB4 := Lib.hid (HB3.out.trans (hb4.mono HB3.out.size))
  have HAT4 := Lib.hid (HAT.out.below hb4 (Has.lt HAT.out))
  have HC2 := Lib.hid (check_law w4 gn2 cn2 xm hp2)
  clear hb4 hp2 HP2
  go_wp2_with fail
  refine HC2.out.mono ?_
  rintro e w5 ⟨v2, rfl, he2, hb5⟩
  rw [HOK2.out] at he2
  have hv2 := he2.1 rfl
  subst hv2
  have HB5 := Lib.hid (HB4.out.trans (hb5.mono HB4.out.size))
  have HAT5 := Lib.hid (HAT4.out.below hb5 (Has.lt HAT4.out))
  clear he2 hb5 HC2
  go_wp2_with fail
  refine (ft.kind_at ga ex ey noT false 8 (by decide) (by decide) _ HAT5.out).mono ?_
  rintro e w6 ⟨rfl, hb6⟩
  have HB6 := Lib.hid (HB5.out.trans (hb6.mono HB5.out.size))
  clear hb6
  go_wp2_with fail
  go_ret
  exact ⟨rfl, HB6.out⟩
end Go.Proofs.YtnejkgkikpgajaaDoor.ck
