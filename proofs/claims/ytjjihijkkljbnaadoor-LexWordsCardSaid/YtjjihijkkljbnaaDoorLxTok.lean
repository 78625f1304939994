/-
  A row of tokens: the cells of each.
-/
import Derived.Test.YtjjihijkkljbnaaDoorLxNew
namespace Go.Proofs.YtjjihijkkljbnaaDoor.lx
open Go.ChangeShapes Go.WideShapes Go.ChangeAt Go.RowKit
set_option linter.unusedVariables false

theorem tok_at2 {w : World} {base g n cap : Nat} {l : List Tok} (h : w.ownsRow base 58 5 (.slice (some ⟨g, 0, none⟩) n cap) l.length (l.flatMap tokCells)) (i : Nat) (hi : i < l.length) :
    w.cell? ⟨g, i * 5, none⟩ = some (.int .u8 (l[i].kind : Int)) ∧ w.cell? ⟨g, i * 5 + 1, none⟩ = some (.string ⟨l[i].text.toArray⟩) ∧ w.cell? ⟨g, i * 5 + 2, none⟩ = some (.int .i32 l[i].num) ∧
      w.cell? ⟨g, i * 5 + 3, none⟩ = some (.int .i64 (l[i].line : Int)) ∧ w.cell? ⟨g, i * 5 + 4, none⟩ = some (.int .i64 (l[i].col : Int)) := by
  have hc := World.ownsRow.cells h (g := g) rfl
  have hfl : ∀ (l : List Tok) (i : Nat) (hi : i < l.length) (j : Nat), j < 5 → (l.flatMap tokCells)[i * 5 + j]? = (tokCells l[i])[j]? := by
    intro l
    induction l with
    | nil => intro i hi; simp at hi
    | cons t r ih =>
      intro i hi j hj
      cases i with
      | zero =>
        simp only [List.flatMap_cons, List.getElem_cons_zero]
        rw [List.getElem?_append_left (by simp [tokCells]; omega)]
        congr 1
        omega
      | succ i =>
        simp only [List.flatMap_cons, List.getElem_cons_succ]
        rw [List.getElem?_append_right (by simp [tokCells]; omega)]
        rw [← ih i (by simpa using hi) j hj]
        congr 1
        simp [tokCells]
        omega
  have hx : ∀ j, j < 5 → ∀ u, (tokCells l[i])[j]? = some u → w.cell? ⟨g, i * 5 + j, none⟩ = some u := by
    intro j hj u hu
    have := hc (i * 5 + j) u (by rw [hfl l i hi j hj]; exact hu)
    rw [add_plain] at this
    simpa using this
  exact ⟨hx 0 (by omega) _ rfl, hx 1 (by omega) _ rfl, hx 2 (by omega) _ rfl, hx 3 (by omega) _ rfl, hx 4 (by omega) _ rfl⟩

theorem owns_below2 {w w' : World} {B : Nat} {e : TypeId} {k : Nat} {v : Value} {n : Nat} {xs : List Value} (h : w.ownsRow B e k v n xs) (hb : Below w.heap.size w w') : w'.ownsRow B e k v n xs :=
  h.kept (row := none) ⟨hb.os, hb.tape, hb.output, hb.size, fun k hk _ => hb.block k hk⟩ (Classical.em _)

/-- the cells of the token at a place, in a later world -/
theorem tok_later {w w' : World} {base g n cap : Nat} {l : List Tok} (h : w.ownsRow base 58 5 (.slice (some ⟨g, 0, none⟩) n cap) l.length (l.flatMap tokCells)) (hb : Below w.heap.size w w') (i : Nat) (hi : i < l.length) :
    g < w.heap.size ∧ w'.cell? ⟨g, i * 5, none⟩ = some (.int .u8 (l[i].kind : Int)) ∧ w'.cell? ⟨g, i * 5 + 1, none⟩ = some (.string ⟨l[i].text.toArray⟩) ∧ w'.cell? ⟨g, i * 5 + 2, none⟩ = some (.int .i32 l[i].num) ∧
      w'.cell? ⟨g, i * 5 + 3, none⟩ = some (.int .i64 (l[i].line : Int)) ∧ w'.cell? ⟨g, i * 5 + 4, none⟩ = some (.int .i64 (l[i].col : Int)) := by
  obtain ⟨c0, c1, c2, c3, c4⟩ := tok_at2 h i hi
  have hg : g < w.heap.size := World.block_lt_of_cell? w _ c0
  have k : ∀ o, w'.cell? ⟨g, o, none⟩ = w.cell? ⟨g, o, none⟩ := fun o => hb.cell (p := ⟨g, o, none⟩) hg
  exact ⟨hg, (k _).trans c0, (k _).trans c1, (k _).trans c2, (k _).trans c3, (k _).trans c4⟩

theorem first_kinds (l : List UInt8) (k : Nat) (h : first l = .bad k) : k = 1 ∨ k = 3 := by
  unfold first at h
  cases l with
  | nil => simp at h
  | cons c r =>
    simp only at h
    unfold number name sign at h
    simp only at h
    (repeat' split at h) <;> (simp at h <;> omega)

theorem lex_kinds (n : Nat) : ∀ (l : List UInt8) (p : Nat × Nat) (k a b : Nat), lex n l p = .bad k a b → k = 1 ∨ k = 3 := by
  induction n with
  | zero => intro l p k a b h; simp [lex] at h
  | succ n ih =>
    intro l p k a b h
    rw [lex_at] at h
    unfold lexAt at h
    split at h
    · rename_i k' hf
      simp only [Res.bad.injEq] at h
      rw [← h.1]
      exact first_kinds _ _ hf
    · split at h
      · cases h
      · rename_i k' t v hf hk
        generalize hX : lex n _ _ = X at h
        cases X with
        | ok l => cases h
        | bad k2 a2 b2 =>
          simp only [Res.cons, Res.bad.injEq] at h
          obtain ⟨rfl, rfl, rfl⟩ := h
          exact ih _ _ _ _ _ hX

theorem words_kinds (l : List UInt8) (k a b : Nat) (h : wordsR l = .bad k a b) : k = 1 ∨ k = 3 := by
  unfold wordsR at h
  split at h
  · simp only [Res.bad.injEq] at h; omega
  · exact lex_kinds _ _ _ _ _ _ h

theorem lex_count (n : Nat) : ∀ (l : List UInt8) (p : Nat × Nat) (ts : List Tok), l.length < n → lex n l p = .ok ts → 1 ≤ ts.length ∧ ts.length ≤ l.length + 1 := by
  induction n with
  | zero => intro l p ts h; omega
  | succ n ih =>
    intro l p ts hn h
    rw [lex_at] at h
    unfold lexAt at h
    split at h
    · cases h
    · rename_i k t v hf
      split at h
      · simp only [Res.ok.injEq] at h
        rw [← h]
        simp
      · rename_i hk
        obtain ⟨_, f2, _, f4⟩ := first_ok _ _ _ _ hf
        have f5 := f4 hk
        rw [List.length_drop] at f2
        generalize hX : lex n _ _ = X at h
        cases X with
        | bad k2 a2 b2 => cases h
        | ok m =>
          simp only [Res.cons, Res.ok.injEq] at h
          have hl : ((l.drop (gapB false l)).drop t.length).length ≤ l.length - 1 := by simp only [List.length_drop]; omega
          have := ih _ _ _ (by omega) hX
          rw [← h]
          simp only [List.length_cons]
          omega

theorem words_count (l : List UInt8) (ts : List Tok) (h : wordsR l = .ok ts) : 1 ≤ ts.length ∧ ts.length ≤ 65537 := by
  unfold wordsR at h
  split at h
  · cases h
  · have := lex_count _ _ _ _ (by omega) h
    omega
end Go.Proofs.YtjjihijkkljbnaaDoor.lx
