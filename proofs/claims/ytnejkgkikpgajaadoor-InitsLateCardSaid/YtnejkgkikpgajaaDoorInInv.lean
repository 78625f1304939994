/-
  What the search keeps: plainly. Rows of those that wait; those that are to be added.
-/
import Derived.Test.YtnejkgkikpgajaaDoorInLate
namespace Go.Proofs.YtnejkgkikpgajaaDoor.ini
open tr
set_option linter.unusedVariables false

/-- the name of a number -/
def nmA (own : List ByteArray) (t : Nat) : ByteArray := own.getD t ⟨#[]⟩
theorem nmA_lt {own : List ByteArray} {t : Nat} (h : t < own.length) : nmA own t = own[t] := by unfold nmA; rw [List.getD_eq_getElem?_getD, List.getElem?_eq_getElem h]; rfl
theorem idx_nmA {own : List ByteArray} {n : ByteArray} {v : Nat} (h : idx n own = some v) : v < own.length ∧ nmA own v = n := by
  obtain ⟨hl, he⟩ := idx_some h
  exact ⟨hl, by rw [nmA_lt hl, he]⟩
structure Inv (own : List ByteArray) (All P : List Eqn) (S : List ByteArray) (Ws : List (List Nat)) (T : List Nat) : Prop where
  a : ∀ q ∈ P, ∀ v, idx q.1 own = some v → q.1 ∈ S ∨ v ∈ T ∨ (lateB S q.2 = false ∧ ∀ n ∈ reach q.2, ∀ u, idx n own = some u → v ∈ gt Ws u)
  b : ∀ u t, t ∈ gt Ws u → t < own.length ∧ ∀ X, Closed own All X → nmA own u ∈ X → nmA own t ∈ X
  c : ∀ t ∈ T, t < own.length ∧ ∀ X, Closed own All X → nmA own t ∈ X
  d : ∀ n ∈ S, n ∈ own ∧ ∀ X, Closed own All X → n ∈ X
  e : S.Nodup
theorem Inv.start (own : List ByteArray) (All : List Eqn) (k : Nat) : Inv own All [] [] (List.replicate k []) [] := by
  have hg : ∀ u, gt (List.replicate k ([] : List Nat)) u = [] := fun u => by
    unfold gt
    rw [List.getD_eq_getElem?_getD, List.getElem?_replicate]
    split <;> rfl
  exact ⟨(fun q hq => by simp at hq), (fun u t ht => by rw [hg] at ht; simp at ht), (fun t ht => by simp at ht), (fun n hn => by simp at hn), by simp⟩
/-- an equation of no variable of the block's own -/
theorem Inv.skip {own : List ByteArray} {All P : List Eqn} {S : List ByteArray} {Ws : List (List Nat)} {T : List Nat} {q : Eqn} (h : Inv own All P S Ws T) (hq : idx q.1 own = none) : Inv own All (P ++ [q]) S Ws T :=
  ⟨(fun q' hq' v hv => by
    rcases List.mem_append.1 hq' with hq' | hq'
    · exact h.a q' hq' v hv
    · rw [List.mem_singleton] at hq'
      rw [hq', hq] at hv; cases hv), h.b, h.c, h.d, h.e⟩
/-- an equation was read -/
theorem Inv.read {own : List ByteArray} {All P : List Eqn} {S : List ByteArray} {Ws Ws' : List (List Nat)} {q : Eqn} {v k : Nat} (h : Inv own All P S Ws []) (hq : q ∈ All) (hv : idx q.1 own = some v) (hx : ExR own v (reach q.2) (lateB S q.2) k Ws Ws') :
    Inv own All (P ++ [q]) S Ws' (if lateB S q.2 then [v] else []) := by
  have hvn := idx_nmA hv
  refine ⟨fun q' hq' v' hv' => ?_, fun u t ht => ?_, fun t ht => ?_, h.d, h.e⟩
  · rcases List.mem_append.1 hq' with hq' | hq'
    · rcases h.a q' hq' v' hv' with h1 | h1 | ⟨h1, h2⟩
      · exact .inl h1
      · simp at h1
      · exact .inr (.inr ⟨h1, fun n hn u hu => hx.up u v' (h2 n hn u hu)⟩)
    · rw [List.mem_singleton] at hq'
      subst hq'
      rw [hv] at hv'
      injection hv' with hv'
      subst hv'
      cases hb : lateB S q'.2
      · exact .inr (.inr ⟨rfl, fun n hn u hu => hx.no hb n hn u hu⟩)
      · exact .inr (.inl (by simp))
  · rcases hx.back u t ht with h1 | ⟨rfl, n, hn, hi⟩
    · exact h.b u t h1
    · refine ⟨hvn.1, fun X hX hu => ?_⟩
      have hun := idx_nmA hi
      rw [hvn.2]
      refine hX q hq ?_ (late_reach (n := n) (by rw [← hun.2]; exact hu) _ hn)
      rw [← hvn.2, nmA_lt hvn.1]; exact List.getElem_mem _
  · cases hb : lateB S q.2
    · rw [hb] at ht; simp at ht
    · rw [hb] at ht
      simp only [if_true, List.mem_singleton] at ht
      subst ht
      refine ⟨hvn.1, fun X hX => ?_⟩
      rw [hvn.2]
      refine hX q hq ?_ (late_mono (fun n hn => (h.d n hn).2 X hX) _ hb)
      rw [← hvn.2, nmA_lt hvn.1]; exact List.getElem_mem _
/-- one that is late already -/
theorem Inv.drop {own : List ByteArray} {All P : List Eqn} {S : List ByteArray} {Ws : List (List Nat)} {T : List Nat} {v : Nat} (h : Inv own All P S Ws (T ++ [v])) (hS : nmA own v ∈ S) : Inv own All P S Ws T :=
  ⟨fun q hq v' hv' => by
    rcases h.a q hq v' hv' with h1 | h1 | h1
    · exact .inl h1
    · rcases List.mem_append.1 h1 with h1 | h1
      · exact .inr (.inl h1)
      · rw [List.mem_singleton] at h1
        subst h1
        rw [(idx_nmA hv').2] at hS
        exact .inl hS
    · exact .inr (.inr h1), h.b, fun t ht => h.c t (List.mem_append_left _ ht), h.d, h.e⟩
/-- one that becomes late -/
theorem Inv.add {own : List ByteArray} {All P : List Eqn} {S : List ByteArray} {Ws : List (List Nat)} {T : List Nat} {v : Nat} (hn : own.Nodup) (h : Inv own All P S Ws (T ++ [v])) (hS : nmA own v ∉ S) : Inv own All P (S ++ [nmA own v]) Ws (T ++ gt Ws v) := by
  have hv := h.c v (by simp)
  have hidx : idx (nmA own v) own = some v := by rw [nmA_lt hv.1]; exact idx_at hn hv.1
  refine ⟨fun q hq v' hv' => ?_, h.b, fun t ht => ?_, fun n hn' => ?_, ?_⟩
  · rcases h.a q hq v' hv' with h1 | h1 | ⟨h1, h2⟩
    · exact .inl (List.mem_append_left _ h1)
    · rcases List.mem_append.1 h1 with h1 | h1
      · exact .inr (.inl (List.mem_append_left _ h1))
      · rw [List.mem_singleton] at h1
        subst h1
        exact .inl (List.mem_append_right _ (by rw [(idx_nmA hv').2]; simp))
    · cases hb : lateB (S ++ [nmA own v]) q.2
      · exact .inr (.inr ⟨rfl, h2⟩)
      · obtain ⟨n, hr, hm⟩ := late_new _ h1 hb
        rcases List.mem_append.1 hm with hm | hm
        · rw [late_reach hm _ hr] at h1; cases h1
        · rw [List.mem_singleton] at hm
          rw [hm] at hr
          exact .inr (.inl (List.mem_append_right _ (h2 _ hr v hidx)))
  · rcases List.mem_append.1 ht with ht | ht
    · exact h.c t (List.mem_append_left _ ht)
    · have hb := h.b v t ht
      exact ⟨hb.1, fun X hX => hb.2 X hX (hv.2 X hX)⟩
  · rcases List.mem_append.1 hn' with hn' | hn'
    · exact h.d n hn'
    · rw [List.mem_singleton] at hn'
      rw [hn']
      exact ⟨by rw [nmA_lt hv.1]; exact List.getElem_mem _, hv.2⟩
  · rw [List.nodup_append]
    exact ⟨h.e, by simp, fun a ha b hb => by rw [List.mem_singleton] at hb; rw [hb]; exact fun e => hS (e ▸ ha)⟩
/-- all is read, nothing is to be added -/
theorem Inv.least {own : List ByteArray} {All : List Eqn} {S : List ByteArray} {Ws : List (List Nat)} (h : Inv own All All S Ws []) : Least own All S :=
  ⟨(fun q hq ho hl => by
    rcases hx : idx q.1 own with _ | v
    · exact absurd ho (idx_none.1 hx)
    · rcases h.a q hq v hx with h1 | h1 | ⟨h1, _⟩
      · exact h1
      · simp at h1
      · rw [hl] at h1; cases h1), fun T hT n hn => (h.d n hn).2 T hT, fun n hn => (h.d n hn).1, h.e⟩

/-- how many may still be added -/
def rest (S : List ByteArray) : List ByteArray → List (List Nat) → Nat
  | n :: r, w :: ws => (if memB n S then 0 else w.length) + rest S r ws
  | _, _ => 0
theorem rest_le (S : List ByteArray) : ∀ (own : List ByteArray) (Ws : List (List Nat)), rest S own Ws ≤ tot Ws
  | [], Ws => by simp [rest]
  | _ :: _, [] => by simp [rest]
  | n :: r, w :: ws => by
    have := rest_le S r ws
    show (if memB n S then 0 else w.length) + rest S r ws ≤ _
    unfold tot at *
    simp only [List.map_cons, List.sum_cons]
    split <;> omega
theorem rest_same {S : List ByteArray} {n : ByteArray} : ∀ (own : List ByteArray) (Ws : List (List Nat)), n ∉ own → rest (S ++ [n]) own Ws = rest S own Ws
  | [], Ws, _ => by simp [rest]
  | _ :: _, [], _ => by simp [rest]
  | m :: r, w :: ws, h => by
    rw [List.mem_cons, not_or] at h
    show (if memB m (S ++ [n]) then 0 else w.length) + rest (S ++ [n]) r ws = (if memB m S then 0 else w.length) + rest S r ws
    rw [rest_same r ws h.2]
    have : memB m (S ++ [n]) = memB m S := by
      rw [Bool.eq_iff_iff, memB_iff, memB_iff, List.mem_append, List.mem_singleton]
      exact ⟨fun h' => h'.elim id (fun e => absurd e.symm h.1), .inl⟩
    rw [this]
theorem rest_add {S : List ByteArray} : ∀ (own : List ByteArray) (Ws : List (List Nat)) (v : Nat), own.Nodup → Ws.length = own.length → v < own.length → nmA own v ∉ S → rest (S ++ [nmA own v]) own Ws + (gt Ws v).length = rest S own Ws
  | [], Ws, v, _, _, h, _ => by simp at h
  | m :: r, [], v, _, h, _, _ => by simp at h
  | m :: r, w :: ws, 0, hn, hl, hv, hS => by
    have hn' := List.nodup_cons.1 hn
    have e : nmA (m :: r) 0 = m := rfl
    rw [e] at hS ⊢
    show (if memB m (S ++ [m]) then 0 else w.length) + rest (S ++ [m]) r ws + w.length = (if memB m S then 0 else w.length) + rest S r ws
    rw [rest_same r ws hn'.1, memB_false.2 hS, memB_iff.2 (by simp)]
    show 0 + rest S r ws + w.length = w.length + rest S r ws
    omega
  | m :: r, w :: ws, v + 1, hn, hl, hv, hS => by
    have hn' := List.nodup_cons.1 hn
    have e : nmA (m :: r) (v + 1) = nmA r v := rfl
    have hv' : v < r.length := by simpa using hv
    have ih := rest_add (S := S) r ws v hn'.2 (by simpa using hl) hv' (by rw [← e]; exact hS)
    rw [e] at hS ⊢
    have hm : memB m (S ++ [nmA r v]) = memB m S := by
      rw [Bool.eq_iff_iff, memB_iff, memB_iff, List.mem_append, List.mem_singleton]
      refine ⟨fun h' => h'.elim id (fun e => absurd (e ▸ ?_) hn'.1), .inl⟩
      rw [nmA_lt hv']; exact List.getElem_mem _
    show (if memB m (S ++ [nmA r v]) then 0 else w.length) + rest (S ++ [nmA r v]) r ws + (gt ws v).length = (if memB m S then 0 else w.length) + rest S r ws
    rw [hm]
    omega
end Go.Proofs.YtnejkgkikpgajaaDoor.ini
