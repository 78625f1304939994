/-
  The document's example of package tree: its walk.
-/
import Derived.Test.YtjkkalhgbfbcbaaTrSize
import Derived.Deep.AppendLies
namespace Go.Proofs.Ytjkkalhgbfbcbaa.tr
open Go.ChangeShapes Go.WideShapes Go.ChangeAt Go.RowKit
set_option linter.unusedVariables false

theorem laid_leaf (W : World) (k : Nat) (nm : ByteArray) (hk : k ≤ 255) (hn : nm.size ≤ maxLen) :
    LaidC W (.mk k 0 0 nm [] [] 0 0) [.int .u8 k, .int .u8 0, .int .i32 0, .string nm, .slice none 0 0, .slice none 0 0, .int .i64 0, .int .i64 0] := by
  unfold LaidC
  exact ⟨hk, by omega, hn, by decide, by decide, none, 0, none, 0, Nat.le_refl _, Nat.le_refl _, rfl, fun i s h => by simp at h, by unfold LaidK; trivial⟩

theorem laid_two (W : World) (k o : Nat) (x y : Ex) (cs cs' : List Value) (g : Nat) (hk : k ≤ 255) (ho : o ≤ 255) (hx : LaidC W x cs) (hy : LaidC W y cs') (hl : cs.length = 8) (h : Has W g 44 (cs ++ cs').toArray) :
    LaidC W (.mk k o 0 ⟨#[]⟩ [] [x, y] 0 0) [.int .u8 k, .int .u8 o, .int .i32 0, .string ⟨#[]⟩, .slice none 0 0, .slice (some ⟨g, 0, none⟩) 2 2, .int .i64 0, .int .i64 0] := by
  unfold LaidC
  refine ⟨hk, ho, by decide, by decide, by show (2 : Nat) ≤ maxLen; decide, none, 0, some ⟨g, 0, none⟩, 2, Nat.le_refl _, Nat.le_refl _, rfl, fun i s h => by simp at h, ?_⟩
  unfold LaidK
  refine ⟨g, 0, cs, rfl, fun j v hj => ?_, hx, ?_⟩
  · rw [Nat.zero_add, h.cell j]
    rw [List.getElem?_toArray, List.getElem?_append_left (by have := (List.getElem?_eq_some_iff.1 hj).1; omega), hj]
  · unfold LaidK
    refine ⟨g, 8, cs', rfl, fun j v hj => ?_, hy, by unfold LaidK; trivial⟩
    rw [h.cell (8 + j), List.getElem?_toArray, List.getElem?_append_right (by omega), hl, Nat.add_sub_cancel_left, hj]

def exA : Ex := .mk 4 0 0 ⟨#[97]⟩ [] [] 0 0
def exF : Ex := .mk 9 0 0 ⟨#[]⟩ [] [.mk 1 0 0 ⟨#[]⟩ [] [] 0 0, .mk 4 0 0 ⟨#[98]⟩ [] [] 0 0] 0 0
def exE : Ex := .mk 7 3 0 ⟨#[]⟩ [] [exA, exF] 0 0

theorem awake_world (w : World) : ∃ W0 : World, W0 = (((((w.alloc (.cells #[.int .u8 4, .int .u8 0, .int .i32 0, .string ⟨#[97]⟩, .slice none 0 0, .slice none 0 0, .int .i64 0, .int .i64 0] 44)).alloc (.cells #[.int .u8 1, .int .u8 0, .int .i32 0, .string ⟨#[]⟩, .slice none 0 0, .slice none 0 0, .int .i64 0, .int .i64 0, .int .u8 4, .int .u8 0, .int .i32 0, .string ⟨#[98]⟩, .slice none 0 0, .slice none 0 0, .int .i64 0, .int .i64 0] 44)).alloc (.cells #[.int .u8 9, .int .u8 0, .int .i32 0, .string ⟨#[]⟩, .slice none 0 0, .slice (some ⟨w.heap.size + 1, 0, none⟩) 2 2, .int .i64 0, .int .i64 0] 44)).alloc (.cells #[.int .u8 4, .int .u8 0, .int .i32 0, .string ⟨#[97]⟩, .slice none 0 0, .slice none 0 0, .int .i64 0, .int .i64 0, .int .u8 9, .int .u8 0, .int .i32 0, .string ⟨#[]⟩, .slice none 0 0, .slice (some ⟨w.heap.size + 1, 0, none⟩) 2 2, .int .i64 0, .int .i64 0] 44)).alloc (.cells #[.int .u8 7, .int .u8 3, .int .i32 0, .string ⟨#[]⟩, .slice none 0 0, .slice (some ⟨w.heap.size + 1 + 1 + 1, 0, none⟩) 2 2, .int .i64 0, .int .i64 0] 44)) ∧ LaidC W0 exE [.int .u8 7, .int .u8 3, .int .i32 0, .string ⟨#[]⟩, .slice none 0 0, .slice (some ⟨w.heap.size + 1 + 1 + 1, 0, none⟩) 2 2, .int .i64 0, .int .i64 0] ∧ Has W0 (w.heap.size + 1 + 1 + 1 + 1) 44 #[.int .u8 7, .int .u8 3, .int .i32 0, .string ⟨#[]⟩, .slice none 0 0, .slice (some ⟨w.heap.size + 1 + 1 + 1, 0, none⟩) 2 2, .int .i64 0, .int .i64 0] ∧ Below w.heap.size w W0 ∧ W0.heap.size = w.heap.size + 5 := by
  refine ⟨_, rfl, ?_, ?_, ?_, ?_⟩
  · have h1 : Has ((((((w.alloc (.cells #[.int .u8 4, .int .u8 0, .int .i32 0, .string ⟨#[97]⟩, .slice none 0 0, .slice none 0 0, .int .i64 0, .int .i64 0] 44)).alloc (.cells #[.int .u8 1, .int .u8 0, .int .i32 0, .string ⟨#[]⟩, .slice none 0 0, .slice none 0 0, .int .i64 0, .int .i64 0, .int .u8 4, .int .u8 0, .int .i32 0, .string ⟨#[98]⟩, .slice none 0 0, .slice none 0 0, .int .i64 0, .int .i64 0] 44)).alloc (.cells #[.int .u8 9, .int .u8 0, .int .i32 0, .string ⟨#[]⟩, .slice none 0 0, .slice (some ⟨w.heap.size + 1, 0, none⟩) 2 2, .int .i64 0, .int .i64 0] 44)).alloc (.cells #[.int .u8 4, .int .u8 0, .int .i32 0, .string ⟨#[97]⟩, .slice none 0 0, .slice none 0 0, .int .i64 0, .int .i64 0, .int .u8 9, .int .u8 0, .int .i32 0, .string ⟨#[]⟩, .slice none 0 0, .slice (some ⟨w.heap.size + 1, 0, none⟩) 2 2, .int .i64 0, .int .i64 0] 44)).alloc (.cells #[.int .u8 7, .int .u8 3, .int .i32 0, .string ⟨#[]⟩, .slice none 0 0, .slice (some ⟨w.heap.size + 1 + 1 + 1, 0, none⟩) 2 2, .int .i64 0, .int .i64 0] 44))) (w.heap.size + 1) 44 #[.int .u8 1, .int .u8 0, .int .i32 0, .string ⟨#[]⟩, .slice none 0 0, .slice none 0 0, .int .i64 0, .int .i64 0, .int .u8 4, .int .u8 0, .int .i32 0, .string ⟨#[98]⟩, .slice none 0 0, .slice none 0 0, .int .i64 0, .int .i64 0] := by
      have := Has.new ((w.alloc (.cells #[.int .u8 4, .int .u8 0, .int .i32 0, .string ⟨#[97]⟩, .slice none 0 0, .slice none 0 0, .int .i64 0, .int .i64 0] 44))) 44 #[.int .u8 1, .int .u8 0, .int .i32 0, .string ⟨#[]⟩, .slice none 0 0, .slice none 0 0, .int .i64 0, .int .i64 0, .int .u8 4, .int .u8 0, .int .i32 0, .string ⟨#[98]⟩, .slice none 0 0, .slice none 0 0, .int .i64 0, .int .i64 0]
      simp only [World.size_alloc] at this
      exact ((this.alloc _).alloc _).alloc _
    have h3 : Has ((((((w.alloc (.cells #[.int .u8 4, .int .u8 0, .int .i32 0, .string ⟨#[97]⟩, .slice none 0 0, .slice none 0 0, .int .i64 0, .int .i64 0] 44)).alloc (.cells #[.int .u8 1, .int .u8 0, .int .i32 0, .string ⟨#[]⟩, .slice none 0 0, .slice none 0 0, .int .i64 0, .int .i64 0, .int .u8 4, .int .u8 0, .int .i32 0, .string ⟨#[98]⟩, .slice none 0 0, .slice none 0 0, .int .i64 0, .int .i64 0] 44)).alloc (.cells #[.int .u8 9, .int .u8 0, .int .i32 0, .string ⟨#[]⟩, .slice none 0 0, .slice (some ⟨w.heap.size + 1, 0, none⟩) 2 2, .int .i64 0, .int .i64 0] 44)).alloc (.cells #[.int .u8 4, .int .u8 0, .int .i32 0, .string ⟨#[97]⟩, .slice none 0 0, .slice none 0 0, .int .i64 0, .int .i64 0, .int .u8 9, .int .u8 0, .int .i32 0, .string ⟨#[]⟩, .slice none 0 0, .slice (some ⟨w.heap.size + 1, 0, none⟩) 2 2, .int .i64 0, .int .i64 0] 44)).alloc (.cells #[.int .u8 7, .int .u8 3, .int .i32 0, .string ⟨#[]⟩, .slice none 0 0, .slice (some ⟨w.heap.size + 1 + 1 + 1, 0, none⟩) 2 2, .int .i64 0, .int .i64 0] 44))) (w.heap.size + 1 + 1 + 1) 44 #[.int .u8 4, .int .u8 0, .int .i32 0, .string ⟨#[97]⟩, .slice none 0 0, .slice none 0 0, .int .i64 0, .int .i64 0, .int .u8 9, .int .u8 0, .int .i32 0, .string ⟨#[]⟩, .slice none 0 0, .slice (some ⟨w.heap.size + 1, 0, none⟩) 2 2, .int .i64 0, .int .i64 0] := by
      have := Has.new ((((w.alloc (.cells #[.int .u8 4, .int .u8 0, .int .i32 0, .string ⟨#[97]⟩, .slice none 0 0, .slice none 0 0, .int .i64 0, .int .i64 0] 44)).alloc (.cells #[.int .u8 1, .int .u8 0, .int .i32 0, .string ⟨#[]⟩, .slice none 0 0, .slice none 0 0, .int .i64 0, .int .i64 0, .int .u8 4, .int .u8 0, .int .i32 0, .string ⟨#[98]⟩, .slice none 0 0, .slice none 0 0, .int .i64 0, .int .i64 0] 44)).alloc (.cells #[.int .u8 9, .int .u8 0, .int .i32 0, .string ⟨#[]⟩, .slice none 0 0, .slice (some ⟨w.heap.size + 1, 0, none⟩) 2 2, .int .i64 0, .int .i64 0] 44))) 44 #[.int .u8 4, .int .u8 0, .int .i32 0, .string ⟨#[97]⟩, .slice none 0 0, .slice none 0 0, .int .i64 0, .int .i64 0, .int .u8 9, .int .u8 0, .int .i32 0, .string ⟨#[]⟩, .slice none 0 0, .slice (some ⟨w.heap.size + 1, 0, none⟩) 2 2, .int .i64 0, .int .i64 0]
      simp only [World.size_alloc] at this
      exact this.alloc _
    exact laid_two _ 7 3 exA exF _ _ _ (by omega) (by omega) (laid_leaf _ 4 _ (by omega) (by decide)) (laid_two _ 9 0 _ _ _ _ _ (by omega) (by omega) (laid_leaf _ 1 _ (by omega) (by decide)) (laid_leaf _ 4 _ (by omega) (by decide)) rfl h1) rfl h3
  · have := Has.new (((((w.alloc (.cells #[.int .u8 4, .int .u8 0, .int .i32 0, .string ⟨#[97]⟩, .slice none 0 0, .slice none 0 0, .int .i64 0, .int .i64 0] 44)).alloc (.cells #[.int .u8 1, .int .u8 0, .int .i32 0, .string ⟨#[]⟩, .slice none 0 0, .slice none 0 0, .int .i64 0, .int .i64 0, .int .u8 4, .int .u8 0, .int .i32 0, .string ⟨#[98]⟩, .slice none 0 0, .slice none 0 0, .int .i64 0, .int .i64 0] 44)).alloc (.cells #[.int .u8 9, .int .u8 0, .int .i32 0, .string ⟨#[]⟩, .slice none 0 0, .slice (some ⟨w.heap.size + 1, 0, none⟩) 2 2, .int .i64 0, .int .i64 0] 44)).alloc (.cells #[.int .u8 4, .int .u8 0, .int .i32 0, .string ⟨#[97]⟩, .slice none 0 0, .slice none 0 0, .int .i64 0, .int .i64 0, .int .u8 9, .int .u8 0, .int .i32 0, .string ⟨#[]⟩, .slice none 0 0, .slice (some ⟨w.heap.size + 1, 0, none⟩) 2 2, .int .i64 0, .int .i64 0] 44))) 44 #[.int .u8 7, .int .u8 3, .int .i32 0, .string ⟨#[]⟩, .slice none 0 0, .slice (some ⟨w.heap.size + 1 + 1 + 1, 0, none⟩) 2 2, .int .i64 0, .int .i64 0]
    simp only [World.size_alloc] at this
    exact this
  · exact (((((Below.refl _ _).alloc (Nat.le_refl _) _).alloc (by simp only [World.size_alloc]; omega) _).alloc (by simp only [World.size_alloc]; omega) _).alloc (by simp only [World.size_alloc]; omega) _).alloc (by simp only [World.size_alloc]; omega) _
  · simp only [World.size_alloc]
theorem awake_reads : addAll [] (calls false exE) = [⟨#[97]⟩] := by decide +kernel
theorem awake_all : addAll [] (calls true exE) = [⟨#[97]⟩, ⟨#[98]⟩] := by decide +kernel
theorem awake_sz : sz exE = 5 := by decide +kernel
theorem awake_depth : depthE exE = 3 := by decide +kernel

theorem has8 {W : World} {g : Nat} {T : TypeId} {c0 c1 c2 c3 c4 c5 c6 c7 : Value} (h : Has W g T #[c0, c1, c2, c3, c4, c5, c6, c7]) :
    W.cell? ⟨g, 0, none⟩ = some c0 ∧ W.cell? ⟨g, 1, none⟩ = some c1 ∧ W.cell? ⟨g, 2, none⟩ = some c2 ∧ W.cell? ⟨g, 3, none⟩ = some c3 ∧ W.cell? ⟨g, 4, none⟩ = some c4 ∧ W.cell? ⟨g, 5, none⟩ = some c5 ∧ W.cell? ⟨g, 6, none⟩ = some c6 ∧ W.cell? ⟨g, 7, none⟩ = some c7 :=
  ⟨h.cell 0, h.cell 1, h.cell 2, h.cell 3, h.cell 4, h.cell 5, h.cell 6, h.cell 7⟩

set_option maxRecDepth 100000 in
set_option maxHeartbeats 4000000 in
theorem awake_any (w : World) :
    Calls Try.prog 7 #[] w (fun e w' => e = .returned (.bool true) ∧ Below w.heap.size w w') := by
  obtain ⟨W0, hW, hL, hE, hB, hS⟩ := awake_world w
  have HW := Lib.hid hW
  have HL := Lib.hid hL
  have HE := Lib.hid hE
  have HB := Lib.hid hB
  have HS := Lib.hid hS
  clear hW hL hE hB hS
  go_enter Try.func7, Try.ntmps7
  go_wp2_with fail
  rw [← HW.out]
  refine (reads_any W0 exE #[.int .u8 7, .int .u8 3, .int .i32 0, .string ⟨#[]⟩, .slice none 0 0, .slice (some ⟨w.heap.size + 1 + 1 + 1, 0, none⟩) 2 2, .int .i64 0, .int .i64 0] HL.out (by decide +kernel)).mono ?_
  rintro e w1 ⟨⟨lv, rfl, ho1⟩, hb1⟩
  rw [awake_reads] at ho1
  obtain ⟨l1, cap1, rfl, hl1, hl1'⟩ := World.ownsRow.form ho1 (by decide)
  have a0 := World.ownsRow.cellAt ho1 0 (by decide)
  have H1 := Lib.hid (HE.out.below hb1 HE.out.lt)
  have L1 := Lib.hid (LaidC.below hb1 _ _ HL.out)
  have B1 := Lib.hid hb1
  have Z1 := Lib.hid hl1'
  obtain ⟨q0, q1, q2, q3, q4, q5, q6, q7⟩ := has8 H1.out
  have A0 := Lib.hid a0
  clear ho1 hb1 a0 hl1 hl1'
  go_wp2_with fail
  clear q0 q1 q2 q3 q4 q5 q6 q7
  refine (all_any w1 exE #[.int .u8 7, .int .u8 3, .int .i32 0, .string ⟨#[]⟩, .slice none 0 0, .slice (some ⟨w.heap.size + 1 + 1 + 1, 0, none⟩) 2 2, .int .i64 0, .int .i64 0] L1.out (by decide +kernel)).mono ?_
  rintro e w2 ⟨⟨lv, rfl, ho2⟩, hb2⟩
  rw [awake_all] at ho2
  obtain ⟨l2, cap2, rfl, hl2, hl2'⟩ := World.ownsRow.form ho2 (by decide)
  have b1 := World.ownsRow.cellAt ho2 1 (by decide)
  have a2 := (hb2.cell (p := ⟨l1, 0, none⟩) Z1.out).trans A0.out
  have H2 := Lib.hid (H1.out.below hb2 H1.out.lt)
  have L2 := Lib.hid (LaidC.below hb2 _ _ L1.out)
  have B2 := Lib.hid hb2
  obtain ⟨q0, q1, q2, q3, q4, q5, q6, q7⟩ := has8 H2.out
  simp only [List.map_cons, List.map_nil, List.getElem?_cons_zero, List.getElem?_cons_succ, strV] at a2 b1
  clear ho2 hb2 hl2 hl2'
  go_wp2_with fail
  clear q0 q1 q2 q3 q4 q5 q6 q7 a2 b1
  refine (size_top w2 exE #[.int .u8 7, .int .u8 3, .int .i32 0, .string ⟨#[]⟩, .slice none 0 0, .slice (some ⟨w.heap.size + 1 + 1 + 1, 0, none⟩) 2 2, .int .i64 0, .int .i64 0] L2.out (by decide +kernel)).mono ?_
  rintro e w3 ⟨rfl, hb3⟩
  rw [awake_sz]
  have H3 := Lib.hid (H2.out.below hb3 H2.out.lt)
  have L3 := Lib.hid (LaidC.below hb3 _ _ L2.out)
  have B3 := Lib.hid hb3
  obtain ⟨q0, q1, q2, q3, q4, q5, q6, q7⟩ := has8 H3.out
  clear hb3
  go_wp2_with fail
  clear q0 q1 q2 q3 q4 q5 q6 q7
  refine (depth_top w3 exE #[.int .u8 7, .int .u8 3, .int .i32 0, .string ⟨#[]⟩, .slice none 0 0, .slice (some ⟨w.heap.size + 1 + 1 + 1, 0, none⟩) 2 2, .int .i64 0, .int .i64 0] L3.out (by decide +kernel)).mono ?_
  rintro e w4 ⟨rfl, hb4⟩
  rw [awake_depth]
  have B4 := Lib.hid hb4
  clear hb4
  go_wp2_with fail
  go_ret
  refine ⟨rfl, ?_⟩
  have s1 := B1.out.size
  have s2 := B2.out.size
  have s3 := B3.out.size
  have s0 := HS.out
  exact (((HB.out.trans (B1.out.mono (by omega))).trans (B2.out.mono (by omega))).trans (B3.out.mono (by omega))).trans (B4.out.mono (by omega))
end Go.Proofs.Ytjkkalhgbfbcbaa.tr
