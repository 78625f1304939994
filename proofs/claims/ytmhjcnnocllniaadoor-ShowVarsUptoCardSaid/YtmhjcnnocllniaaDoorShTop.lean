/-
  Types' names; the document's example.
-/
import Derived.Test.YtmhjcnnocllniaaDoorShAny
import Derived.Test.YtmhjcnnocllniaaDoorShRef2
namespace Go.Proofs.YtmhjcnnocllniaaDoor.sh
open Go.ChangeShapes Go.WideShapes Go.ChangeAt Go.RowKit Go.Proofs.YtmhjcnnocllniaaDoor.tr
set_option linter.unusedVariables false
set_option linter.unusedSimpArgs false

/-- a type's name -/
def typeS (k : Nat) (nm : ByteArray) : ByteArray := if k = 1 then ⟨#[98, 111, 111, 108]⟩ else if k = 2 then ⟨#[105, 110, 116]⟩ else nm
theorem typeS_len (k : Nat) (nm : ByteArray) : (typeS k nm).size ≤ nm.size + 4 := by
  unfold typeS
  split
  · show 4 ≤ _; omega
  · split
    · show 3 ≤ _; omega
    · omega

set_option maxRecDepth 100000 in
theorem type_any (w : World) (k : Nat) (nm : ByteArray) : Calls Tryd.prog 12 #[.agg #[.int .u8 k, .string nm]] w (fun e w' => e = .returned (.string (typeS k nm)) ∧ Below w.heap.size w w') := by
  have HB := Lib.hid ((Below.refl w.heap.size w).alloc (Nat.le_refl _) (.cells #[.int .u8 k, .string nm] 33))
  by_cases h1 : k = 1
  · subst h1
    go_enter Tryd.func12, Tryd.ntmps12
    go_wp2_with fail
    go_ret
    exact ⟨rfl, HB.out⟩
  · have n1 : ((k : Int) == 1) = false := beq_eq_false_iff_ne.2 (by omega)
    by_cases h2 : k = 2
    · subst h2
      go_enter Tryd.func12, Tryd.ntmps12
      go_wp2_with fail
      go_ret
      exact ⟨rfl, HB.out⟩
    · have n2 : ((k : Int) == 2) = false := beq_eq_false_iff_ne.2 (by omega)
      have HT : Hid (typeS k nm = nm) := Lib.hid (by unfold typeS; rw [if_neg h1, if_neg h2])
      clear h1 h2
      go_enter Tryd.func12, Tryd.ntmps12
      go_wp2_with fail
      go_ret
      exact ⟨by rw [HT.out]; rfl, HB.out⟩

set_option maxRecDepth 100000 in
theorem rtype_any (w : World) (k : Nat) (nm : ByteArray) : Calls Tryd.prog 13 #[.agg #[.int .u8 k, .string nm]] w (fun e w' => e = .returned (.string (typeS k nm)) ∧ Below w.heap.size w w') := by
  have HB := Lib.hid ((Below.refl w.heap.size w).alloc (Nat.le_refl _) (.cells #[.int .u8 k, .string nm] 33))
  by_cases h1 : k = 1
  · subst h1
    go_enter Tryd.func13, Tryd.ntmps13
    go_wp2_with fail
    go_ret
    exact ⟨rfl, HB.out⟩
  · have n1 : ((k : Int) == 1) = false := beq_eq_false_iff_ne.2 (by omega)
    by_cases h2 : k = 2
    · subst h2
      go_enter Tryd.func13, Tryd.ntmps13
      go_wp2_with fail
      go_ret
      exact ⟨rfl, HB.out⟩
    · have n2 : ((k : Int) == 2) = false := beq_eq_false_iff_ne.2 (by omega)
      have HT : Hid (typeS k nm = nm) := Lib.hid (by unfold typeS; rw [if_neg h1, if_neg h2])
      clear h1 h2
      go_enter Tryd.func13, Tryd.ntmps13
      go_wp2_with fail
      go_ret
      exact ⟨by rw [HT.out]; rfl, HB.out⟩

theorem laid_leaf (W : World) (k : Nat) (n : Int) (nm : ByteArray) (hk : k ≤ 255) (hn : nm.size ≤ maxLen) :
    LaidC W (.mk k 0 n nm [] [] 0 0) [.int .u8 k, .int .u8 0, .int .i32 n, .string nm, .slice none 0 0, .slice none 0 0, .int .i64 0, .int .i64 0] := by
  unfold LaidC
  exact ⟨hk, by omega, hn, by decide, by decide, none, 0, none, 0, Nat.le_refl _, Nat.le_refl _, rfl, fun i s h => by simp at h, by unfold LaidK; trivial⟩

theorem laid_two (W : World) (k o : Nat) (x y : Ex) (cs cs' : List Value) (g : Nat) (hk : k ≤ 255) (ho : o ≤ 255) (hx : LaidC W x cs) (hy : LaidC W y cs') (hl : cs.length = 8) (h : Has W g 27 (cs ++ cs').toArray) :
    LaidC W (.mk k o 0 ⟨#[]⟩ [] [x, y] 0 0) [.int .u8 k, .int .u8 o, .int .i32 0, .string ⟨#[]⟩, .slice none 0 0, .slice (some ⟨g, 0, none⟩) 2 2, .int .i64 0, .int .i64 0] := by
  unfold LaidC
  refine ⟨hk, ho, by decide, by decide, by show (2 : Nat) ≤ maxLen; decide, none, 0, some ⟨g, 0, none⟩, 2, Nat.le_refl _, Nat.le_refl _, rfl, fun i s h => by simp at h, ?_⟩
  unfold LaidK
  refine ⟨g, 0, cs, rfl, fun j v hj => ?_, hx, ?_⟩
  · rw [Nat.zero_add, h.cell j]
    rw [List.getElem?_toArray, List.getElem?_append_left (by have := (List.getElem?_eq_some_iff.1 hj).1; omega), hj]
  · unfold LaidK
    refine ⟨g, 8, cs', rfl, fun j v hj => ?_, hy, by unfold LaidK; trivial⟩
    rw [h.cell (8 + j), List.getElem?_toArray, List.getElem?_append_right (by omega), hl, Nat.add_sub_cancel_left, hj]

def exE : Ex := .mk 7 3 0 ⟨#[]⟩ [] [.mk 1 0 (-1) ⟨#[]⟩ [] [] 0 0, .mk 4 0 0 ⟨#[120]⟩ [] [] 0 0] 0 0
theorem ex_ok : okE exE = true := by decide +kernel
theorem ex_fit : fitE exE := by simp [exE, fitE, fitK]
theorem ex_wt : wt exE ≤ 1000 := by decide +kernel
theorem ex_txt : txt exE = [40, 45, 49, 41, 32, 43, 32, 120] := by
  have h1 : Lib.itoa (-1) = [45, 49] := by rw [show (-1 : Int) = -((1 : Nat) : Int) by rfl, Lib.itoa_neg 1 (by omega), Lib.decDigits_one (by omega)]; rfl
  simp only [exE, txt, txtK, asm, kidT, h1]
  rfl

set_option maxRecDepth 100000 in
set_option maxHeartbeats 4000000 in
theorem awake_any (w : World) (hL : Laid w) : Calls Tryd.prog 7 #[] w (fun e w' => e = .returned (.bool true) ∧ Below w.heap.size w w') := by
  obtain ⟨W0, hW⟩ : ∃ W0 : World, W0 = (w.alloc (.cells #[.int .u8 1, .int .u8 0, .int .i32 (-1), .string ⟨#[]⟩, .slice none 0 0, .slice none 0 0, .int .i64 0, .int .i64 0, .int .u8 4, .int .u8 0, .int .i32 0, .string ⟨#[120]⟩, .slice none 0 0, .slice none 0 0, .int .i64 0, .int .i64 0] 27)).alloc (.cells #[.int .u8 7, .int .u8 3, .int .i32 0, .string ⟨#[]⟩, .slice none 0 0, .slice (some ⟨w.heap.size, 0, none⟩) 2 2, .int .i64 0, .int .i64 0] 27) := ⟨_, rfl⟩
  have hB : Below w.heap.size w W0 := by rw [hW]; exact ((Below.refl _ _).alloc (Nat.le_refl _) _).alloc (by simp only [World.size_alloc]; omega) _
  have hX : LaidC W0 exE [.int .u8 7, .int .u8 3, .int .i32 0, .string ⟨#[]⟩, .slice none 0 0, .slice (some ⟨w.heap.size, 0, none⟩) 2 2, .int .i64 0, .int .i64 0] := by
    refine laid_two _ 7 3 _ _ _ _ _ (by omega) (by omega) (laid_leaf _ 1 (-1) _ (by omega) (by decide)) (laid_leaf _ 4 0 _ (by omega) (by decide)) rfl ?_
    rw [hW]
    exact (Has.new w 27 _).alloc _
  have HC := Lib.hid (show_any W0 exE #[.int .u8 7, .int .u8 3, .int .i32 0, .string ⟨#[]⟩, .slice none 0 0, .slice (some ⟨w.heap.size, 0, none⟩) 2 2, .int .i64 0, .int .i64 0] hX ex_ok ex_fit (hL.below hB) (by have := ex_wt; omega))
  rw [ex_txt] at HC
  have HW := Lib.hid hW
  have HB := Lib.hid hB
  clear hW hB hX hL
  unfold ShownPost at HC
  go_enter Tryd.func7, Tryd.ntmps7
  go_wp2_with fail
  rw [← HW.out]
  refine HC.out.mono ?_
  rintro e w1 ⟨rfl, hb1⟩
  have HB1 := Lib.hid (HB.out.trans (hb1.mono HB.out.size))
  clear hb1
  go_wp2_with fail
  refine (type_any w1 1 ⟨#[]⟩).mono ?_
  rintro e w2 ⟨rfl, hb2⟩
  have HB2 := Lib.hid (HB1.out.trans (hb2.mono HB1.out.size))
  clear hb2
  rw [show typeS 1 ⟨#[]⟩ = ⟨#[98, 111, 111, 108]⟩ from rfl]
  go_wp2_with fail
  go_ret
  exact ⟨rfl, HB2.out⟩
end Go.Proofs.YtmhjcnnocllniaaDoor.sh
