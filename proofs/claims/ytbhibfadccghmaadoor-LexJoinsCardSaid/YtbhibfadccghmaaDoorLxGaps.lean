/-
  What stands between words: gaps; a slice of bytes that came in; the last round of a law of package lex: Same of two lists of tokens.
-/
import Derived.Test.YtbhibfadccghmaaDoorLxText
import Derived.Test.YtbhibfadccghmaaDoorLxSame
namespace Go.Proofs.YtbhibfadccghmaaDoor.lx
open Go.ChangeShapes Go.WideShapes Go.ChangeAt Go.RowKit
set_option linter.unusedVariables false

def blanksG : List (List UInt8) := [[32], [9], [10], [32, 32], [32, 45, 45, 32, 97, 32, 114, 101, 109, 97, 114, 107, 10], [10, 10, 9]]
def blanksA : Array Value := #[.string ⟨#[32]⟩, .string ⟨#[9]⟩, .string ⟨#[10]⟩, .string ⟨#[32, 32]⟩, .string ⟨#[32, 45, 45, 32, 97, 32, 114, 101, 109, 97, 114, 107, 10]⟩, .string ⟨#[10, 10, 9]⟩]
theorem blanksA_at (k : Nat) (hk : k < 6) : blanksA[k]? = some (.string ⟨(blanksG.getD k []).toArray⟩) := by
  match k, hk with
  | 0, _ => rfl
  | 1, _ => rfl
  | 2, _ => rfl
  | 3, _ => rfl
  | 4, _ => rfl
  | 5, _ => rfl
  | k + 6, h => exact absurd h (by omega)
theorem blanks_len : ∀ k, k < 6 → (blanksG.getD k []).length ≤ 13 := by decide
theorem blanks_gap (k : Nat) (hk : k < 6) : GapOk (32 :: blanksG.getD k []) := by
  match k, hk with
  | 0, _ => intro rest; show gapB false ([32, 32] ++ rest) = 2 + gapB false rest; simp [gapB, blankB]; omega
  | 1, _ => intro rest; show gapB false ([32, 9] ++ rest) = 2 + gapB false rest; simp [gapB, blankB]; omega
  | 2, _ => intro rest; show gapB false ([32, 10] ++ rest) = 2 + gapB false rest; simp [gapB, blankB]; omega
  | 3, _ => intro rest; show gapB false ([32, 32, 32] ++ rest) = 3 + gapB false rest; simp [gapB, blankB]; omega
  | 4, _ => intro rest; show gapB false ([32, 32, 45, 45, 32, 97, 32, 114, 101, 109, 97, 114, 107, 10] ++ rest) = 14 + gapB false rest; simp [gapB, blankB]; omega
  | 5, _ => intro rest; show gapB false ([32, 10, 10, 9] ++ rest) = 4 + gapB false rest; simp [gapB, blankB]; omega
  | k + 6, h => exact absurd h (by omega)
theorem gap_one : GapOk [32] := by intro rest; show gapB false (32 :: rest) = 1 + gapB false rest; simp [gapB, blankB]; omega

theorem wordS_len (k : Nat) (ps : List Nat) : (wordS k ps).length ≤ 9 := by
  have h8 : ∀ f : Nat → UInt8, ((ps.take 8).map f).length ≤ 8 := fun f => by simp; omega
  have hk : ∀ j, j < 32 → (keys.getD j []).length ≤ 9 := by decide
  have hs : ∀ j, j < 17 → (signsW.getD j []).length ≤ 9 := by decide
  unfold wordS
  (repeat' split)
  · have := h8 (fun x => letters.getD (x % 10) 0); simp only [List.length_cons]; omega
  · have := h8 (fun x => digits.getD (x % 10) 0); simp only [List.length_cons]; omega
  · exact hk _ (Nat.mod_lt _ (by decide))
  · exact hs _ (Nat.mod_lt _ (by decide))
  · have := h8 (fun x => letters.getD (x % 10) 0); simp only [List.length_cons]; omega

theorem Bytes.below {w w' : World} {a : Option Addr} {len : Nat} {ps : List Nat} {B : Nat} (h : Bytes w a len ps) (hb : Below B w w') (hB : w.heap.size ≤ B) : Bytes w' a len ps := by
  refine ⟨h.1, fun i hi => ?_⟩
  obtain ⟨b, off, e, hc, hv⟩ := h.2 i hi
  have hlt : b < w.heap.size := World.block_lt_of_cell? w _ hc
  exact ⟨b, off, e, (hb.cell (p := ⟨b, off + i, none⟩) (Nat.lt_of_lt_of_le hlt hB)).trans hc, hv⟩

/-- a law's row of numbers, as bytes -/
theorem bytes_of {w : World} {a : Option Addr} {len cap : Nat} {zs : List Int} (h : (a = none ∧ len = 0 ∧ cap = 0 ∧ zs = []) ∨
    ∃ x, a = some x ∧ len ≤ cap ∧ cap ≤ maxLen ∧ zs.length = cap ∧ (∀ i, i < zs.length → w.cell? (x.add i) = some (.int .u8 (zs.getD i 0))) ∧ ∀ n ∈ zs, (Lit.int .u8 n).wf = true) :
    (∃ ps, Bytes w a len ps) ∧ len ≤ maxLen := by
  rcases h with ⟨rfl, rfl, rfl, rfl⟩ | ⟨x, rfl, hl, hm, hz, hc, hw⟩
  · exact ⟨⟨[], rfl, fun i hi => by omega⟩, Nat.zero_le _⟩
  · refine ⟨⟨(zs.take len).map Int.toNat, by simp; omega, fun i hi => ?_⟩, by omega⟩
    have hc0 := hc 0 (by omega)
    obtain ⟨b, off, spot⟩ := x
    have hspot : spot = none := by simpa [Addr.add] using World.cell?_spot hc0
    subst hspot
    have hci := hc i (by omega)
    have hmem : zs.getD i 0 ∈ zs := by
      rw [List.getD_eq_getElem?_getD, List.getElem?_eq_getElem (by omega)]
      exact List.getElem_mem _
    have hb := bounds_u8 (hw _ hmem)
    have hg : (((zs.take len).map Int.toNat).getD i 0 : Int) = zs.getD i 0 := by
      rw [List.getD_eq_getElem?_getD, List.getElem?_map, List.getElem?_take, if_pos hi]
      rw [List.getD_eq_getElem?_getD] at hb ⊢
      rw [List.getElem?_eq_getElem (by omega)] at hb ⊢
      simp only [Option.map_some, Option.getD_some] at hb ⊢
      omega
    refine ⟨b, off, rfl, ?_, by omega⟩
    rw [hg]
    rw [← hci, add_plain]

theorem tok_at {w : World} {base g n cap : Nat} {l : List Tok} (h : w.ownsRow base 44 5 (.slice (some ⟨g, 0, none⟩) n cap) l.length (l.flatMap tokCells)) (i : Nat) (hi : i < l.length) :
    w.cell? ⟨g, i * 5, none⟩ = some (.int .u8 (l[i].kind : Int)) ∧ w.cell? ⟨g, i * 5 + 1, none⟩ = some (.string ⟨l[i].text.toArray⟩) ∧ w.cell? ⟨g, i * 5 + 2, none⟩ = some (.int .i32 l[i].num) ∧
      w.cell? ⟨g, i * 5 + 3, none⟩ = some (.int .i64 (l[i].line : Int)) ∧ w.cell? ⟨g, i * 5 + 4, none⟩ = some (.int .i64 (l[i].col : Int)) := by
  have hc := World.ownsRow.cells h (g := g) rfl
  have hfl : ∀ (l : List Tok) (i : Nat) (hi : i < l.length) (j : Nat), j < 5 → (l.flatMap tokCells)[i * 5 + j]? = (tokCells l[i])[j]? := by
    intro l
    induction l with
    | nil => intro i hi; simp at hi
    | cons t r ih =>
      intro i hi j hj
      cases i with
      | zero =>
        simp only [List.flatMap_cons, List.getElem_cons_zero]
        rw [List.getElem?_append_left (by simp [tokCells]; omega)]
        congr 1
        omega
      | succ i =>
        simp only [List.flatMap_cons, List.getElem_cons_succ]
        rw [List.getElem?_append_right (by simp [tokCells]; omega)]
        rw [← ih i (by simpa using hi) j hj]
        congr 1
        simp [tokCells]
        omega
  have hx : ∀ j, j < 5 → ∀ u, (tokCells l[i])[j]? = some u → w.cell? ⟨g, i * 5 + j, none⟩ = some u := by
    intro j hj u hu
    have := hc (i * 5 + j) u (by rw [hfl l i hi j hj]; exact hu)
    rw [add_plain] at this
    simpa using this
  exact ⟨hx 0 (by omega) _ rfl, hx 1 (by omega) _ rfl, hx 2 (by omega) _ rfl, hx 3 (by omega) _ rfl, hx 4 (by omega) _ rfl⟩
end Go.Proofs.YtbhibfadccghmaaDoor.lx
