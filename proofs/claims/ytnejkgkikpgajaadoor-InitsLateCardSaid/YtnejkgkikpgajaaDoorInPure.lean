/-
  Which variables may have no value at first: plainly.
-/
import Derived.Test.YtnejkgkikpgajaaDoorTrOns
import Derived.Laws.StructEq
namespace Go.Proofs.YtnejkgkikpgajaaDoor.ini
open tr
set_option linter.unusedVariables false

theorem eqS_iff (a b : ByteArray) : eqS a b = true ↔ a = b := by
  unfold eqS
  rw [← Go.beq_toListBytes]
  constructor
  · intro h
    have h2 : (a.data == b.data) = true := h
    have := eq_of_beq h2
    cases a; cases b; simpa using this
  · intro h
    subst h
    show (a.data == a.data) = true
    exact beq_self_eq_true _
def memB (n : ByteArray) (L : List ByteArray) : Bool := L.any (fun x => eqS n x)
theorem memB_iff {n : ByteArray} {L : List ByteArray} : memB n L = true ↔ n ∈ L := by
  unfold memB
  rw [List.any_eq_true]
  constructor
  · rintro ⟨x, hx, h⟩; rw [(eqS_iff _ _).1 h]; exact hx
  · intro h; exact ⟨n, h, (eqS_iff _ _).2 rfl⟩
theorem memB_false {n : ByteArray} {L : List ByteArray} : memB n L = false ↔ n ∉ L := by
  rw [← memB_iff]; cases memB n L <;> simp
/-- the index of a name: the first one -/
def idx (n : ByteArray) : List ByteArray → Option Nat
  | [] => none
  | x :: r => if eqS n x then some 0 else (idx n r).map (· + 1)
theorem idx_some {n : ByteArray} : ∀ {L : List ByteArray} {i : Nat}, idx n L = some i → ∃ h : i < L.length, L[i] = n
  | [], i, h => by simp [idx] at h
  | x :: r, i, h => by
    unfold idx at h
    cases e : eqS n x
    · rw [e] at h
      simp only [Bool.false_eq_true, if_false, Option.map_eq_some_iff] at h
      obtain ⟨j, hj, rfl⟩ := h
      obtain ⟨hl, he⟩ := idx_some hj
      exact ⟨by simpa using hl, by simpa using he⟩
    · rw [e] at h
      simp only [if_true, Option.some.injEq] at h
      subst h
      exact ⟨by simp, ((eqS_iff _ _).1 e).symm⟩
theorem idx_none {n : ByteArray} : ∀ {L : List ByteArray}, idx n L = none ↔ n ∉ L
  | [] => by simp [idx]
  | x :: r => by
    unfold idx
    cases e : eqS n x
    · have hne : n ≠ x := fun h => by rw [(eqS_iff _ _).2 h] at e; cases e
      simp only [Bool.false_eq_true, if_false, Option.map_eq_none_iff, List.mem_cons, not_or]
      exact ⟨fun h => ⟨hne, idx_none.1 h⟩, fun h => idx_none.2 h.2⟩
    · have he := (eqS_iff _ _).1 e
      simp [he]
theorem idx_at : ∀ {L : List ByteArray}, L.Nodup → ∀ {i : Nat} (h : i < L.length), idx L[i] L = some i
  | [], _, i, h => by simp at h
  | x :: r, hn, 0, h => by
    unfold idx
    rw [show (x :: r)[0] = x from rfl, (eqS_iff x x).2 rfl]; rfl
  | x :: r, hn, i + 1, h => by
    have hn' := List.nodup_cons.1 hn
    have hi : i < r.length := by simpa using h
    unfold idx
    rw [show (x :: r)[i + 1] = r[i] from rfl]
    have : eqS r[i] x = false := by
      cases e : eqS r[i] x
      · rfl
      · exact absurd ((eqS_iff _ _).1 e ▸ List.getElem_mem hi) hn'.1
    rw [this, idx_at hn'.2 hi]; rfl

mutual
/-- may an expression have no value at first, if these variables mayn't? -/
def lateB (S : List ByteArray) : Ex → Bool
  | .mk k _ _ nm _ kids _ _ => if k = 10 then true else if k = 4 then memB nm S else if k = 9 ∨ k = 11 then lateH S kids else lateK S kids
def lateH (S : List ByteArray) : List Ex → Bool
  | [] => false
  | x :: _ => lateB S x
def lateK (S : List ByteArray) : List Ex → Bool
  | [] => false
  | x :: r => lateB S x || lateK S r
end
mutual
/-- the variables that it hangs on -/
def reach : Ex → List ByteArray
  | .mk k _ _ nm _ kids _ _ => if k = 10 then [] else if k = 4 then [nm] else if k = 9 ∨ k = 11 then reachH kids else reachK kids
def reachH : List Ex → List ByteArray
  | [] => []
  | x :: _ => reach x
def reachK : List Ex → List ByteArray
  | [] => []
  | x :: r => reach x ++ reachK r
end
mutual
theorem late_mono {S T : List ByteArray} (h : ∀ n ∈ S, n ∈ T) : ∀ x : Ex, lateB S x = true → lateB T x = true
  | .mk k o n nm nms kids l c, hx => by
    unfold lateB at hx ⊢
    by_cases h1 : k = 10
    · rw [if_pos h1]
    · rw [if_neg h1] at hx ⊢
      by_cases h2 : k = 4
      · rw [if_pos h2] at hx ⊢; exact memB_iff.2 (h _ (memB_iff.1 hx))
      · rw [if_neg h2] at hx ⊢
        by_cases h3 : k = 9 ∨ k = 11
        · rw [if_pos h3] at hx ⊢; exact lateH_mono h kids hx
        · rw [if_neg h3] at hx ⊢; exact lateK_mono h kids hx
theorem lateH_mono {S T : List ByteArray} (h : ∀ n ∈ S, n ∈ T) : ∀ l : List Ex, lateH S l = true → lateH T l = true
  | [], hx => hx
  | x :: r, hx => by unfold lateH at hx ⊢; exact late_mono h x hx
theorem lateK_mono {S T : List ByteArray} (h : ∀ n ∈ S, n ∈ T) : ∀ l : List Ex, lateK S l = true → lateK T l = true
  | [], hx => hx
  | x :: r, hx => by
    unfold lateK at hx ⊢
    rw [Bool.or_eq_true] at hx ⊢
    rcases hx with hx | hx
    · exact .inl (late_mono h x hx)
    · exact .inr (lateK_mono h r hx)
end
mutual
/-- what it hangs on makes it late -/
theorem late_reach {S : List ByteArray} {n : ByteArray} (hn : n ∈ S) : ∀ x : Ex, n ∈ reach x → lateB S x = true
  | .mk k o m nm nms kids l c, hx => by
    unfold reach at hx
    unfold lateB
    by_cases h1 : k = 10
    · rw [if_pos h1]
    · rw [if_neg h1] at hx ⊢
      by_cases h2 : k = 4
      · rw [if_pos h2] at hx ⊢
        have : n = nm := by simpa using hx
        rw [← this]; exact memB_iff.2 hn
      · rw [if_neg h2] at hx ⊢
        by_cases h3 : k = 9 ∨ k = 11
        · rw [if_pos h3] at hx ⊢; exact lateH_reach hn kids hx
        · rw [if_neg h3] at hx ⊢; exact lateK_reach hn kids hx
theorem lateH_reach {S : List ByteArray} {n : ByteArray} (hn : n ∈ S) : ∀ l : List Ex, n ∈ reachH l → lateH S l = true
  | [], hx => by simp [reachH] at hx
  | x :: r, hx => by unfold reachH at hx; unfold lateH; exact late_reach hn x hx
theorem lateK_reach {S : List ByteArray} {n : ByteArray} (hn : n ∈ S) : ∀ l : List Ex, n ∈ reachK l → lateK S l = true
  | [], hx => by simp [reachK] at hx
  | x :: r, hx => by
    unfold reachK at hx
    unfold lateK
    rw [Bool.or_eq_true]
    rcases List.mem_append.1 hx with hx | hx
    · exact .inl (late_reach hn x hx)
    · exact .inr (lateK_reach hn r hx)
end
mutual
/-- it becomes late by one of the variables that it hangs on alone -/
theorem late_new {S T : List ByteArray} : ∀ x : Ex, lateB S x = false → lateB T x = true → ∃ n ∈ reach x, n ∈ T
  | .mk k o m nm nms kids l c, h0, h1 => by
    unfold lateB at h0 h1
    unfold reach
    by_cases e1 : k = 10
    · rw [if_pos e1] at h0; cases h0
    · rw [if_neg e1] at h0 h1 ⊢
      by_cases e2 : k = 4
      · rw [if_pos e2] at h0 h1 ⊢
        exact ⟨nm, by simp, memB_iff.1 h1⟩
      · rw [if_neg e2] at h0 h1 ⊢
        by_cases e3 : k = 9 ∨ k = 11
        · rw [if_pos e3] at h0 h1 ⊢; exact lateH_new kids h0 h1
        · rw [if_neg e3] at h0 h1 ⊢; exact lateK_new kids h0 h1
theorem lateH_new {S T : List ByteArray} : ∀ l : List Ex, lateH S l = false → lateH T l = true → ∃ n ∈ reachH l, n ∈ T
  | [], h0, h1 => by unfold lateH at h1; cases h1
  | x :: r, h0, h1 => by unfold lateH at h0 h1; unfold reachH; exact late_new x h0 h1
theorem lateK_new {S T : List ByteArray} : ∀ l : List Ex, lateK S l = false → lateK T l = true → ∃ n ∈ reachK l, n ∈ T
  | [], h0, h1 => by unfold lateK at h1; cases h1
  | x :: r, h0, h1 => by
    unfold lateK at h0 h1
    unfold reachK
    rw [Bool.or_eq_false_iff] at h0
    rw [Bool.or_eq_true] at h1
    rcases h1 with h1 | h1
    · obtain ⟨n, a, b⟩ := late_new x h0.1 h1; exact ⟨n, List.mem_append_left _ a, b⟩
    · obtain ⟨n, a, b⟩ := lateK_new r h0.2 h1; exact ⟨n, List.mem_append_right _ a, b⟩
end

abbrev Eqn := ByteArray × Ex
def Closed (own : List ByteArray) (eqs : List Eqn) (T : List ByteArray) : Prop := ∀ q ∈ eqs, q.1 ∈ own → lateB T q.2 = true → q.1 ∈ T
/-- the least set -/
structure Least (own : List ByteArray) (eqs : List Eqn) (S : List ByteArray) : Prop where
  closed : Closed own eqs S
  least : ∀ T, Closed own eqs T → ∀ n ∈ S, n ∈ T
  own : ∀ n ∈ S, n ∈ own
  nodup : S.Nodup
theorem Least.same {own : List ByteArray} {eqs : List Eqn} {S T : List ByteArray} (h : Least own eqs S) (k : Least own eqs T) (n : ByteArray) : n ∈ S ↔ n ∈ T :=
  ⟨h.least T k.closed n, k.least S h.closed n⟩
theorem nodup_le {α : Type} : ∀ {A B : List α}, A.Nodup → (∀ x ∈ A, x ∈ B) → A.length ≤ B.length
  | [], _, _, _ => Nat.zero_le _
  | a :: A, B, hn, hs => by
    obtain ⟨B1, B2, rfl⟩ := List.append_of_mem (hs a (by simp))
    have hn' := List.nodup_cons.1 hn
    have := nodup_le (A := A) (B := B1 ++ B2) hn'.2 (fun x hx => by
      have h := hs x (List.mem_cons_of_mem _ hx)
      rw [List.mem_append, List.mem_cons] at h
      rw [List.mem_append]
      rcases h with h | h | h
      · exact .inl h
      · rw [h] at hx; exact absurd hx hn'.1
      · exact .inr h)
    simp at this ⊢
    omega
theorem same_len {α : Type} {A B : List α} (ha : A.Nodup) (hb : B.Nodup) (h : ∀ x, x ∈ A ↔ x ∈ B) : A.length = B.length :=
  Nat.le_antisymm (nodup_le ha (fun x hx => (h x).1 hx)) (nodup_le hb (fun x hx => (h x).2 hx))
end Go.Proofs.YtnejkgkikpgajaaDoor.ini
