/-
  The state of newSurvey's loop, and what keeps it.
-/
import Derived.Test.YtnejkgkikpgajaaDoorFtTakeK
import Derived.Test.YtnejkgkikpgajaaDoorFtLeave
import Derived.WalkSmall
import Derived.RangeFuncWrites
import Derived.Lib.OwnKind
import Derived.Lib.Builder
namespace Go.Proofs.YtnejkgkikpgajaaDoor.ft
open Go.ChangeShapes Go.WideShapes Go.ChangeAt Go.RowKit
open Go.Proofs.YtnejkgkikpgajaaDoor.lx (Has grown_refl grown_put grown_below)
set_option linter.unusedVariables false

theorem lt_get {w : World} {k : Nat} {o : Obj} (h : w.heap[k]? = some o) : k < w.heap.size := by
  by_cases hq : k < w.heap.size
  · exact hq
  · rw [Array.getElem?_eq_none (by omega)] at h; cases h

theorem owns_turns {w w' : World} {B : Nat} {e : TypeId} {k : Nat} {v : Value} {n : Nat} {xs : List Value} {T : List Nat} (h : w.ownsRow B e k v n xs) (ht : Turns T w w') (hT : ∀ i ∈ T, ∀ cs fr, w.heap[i]? ≠ some (.cells cs e fr)) : w'.ownsRow B e k v n xs := by
  obtain ⟨hl, h | ⟨g, cap, cur, hv, hb, hg, h1, h2, h3, h4⟩⟩ := h
  · exact ⟨hl, .inl h⟩
  · exact ⟨hl, .inr ⟨g, cap, cur, hv, hb, (ht.block g (lt_get hg) (fun hm => hT g hm _ _ hg)).trans hg, h1, h2, h3, h4⟩⟩

theorem not_type {w : World} {g : Nat} {t e : TypeId} {cs : Array Value} (h : Has w g t cs) (hte : t ≠ e) : ∀ cs' fr, w.heap[g]? ≠ some (.cells cs' e fr) := by
  intro cs' fr he
  unfold Has at h
  rw [h] at he
  simp only [Option.some.injEq, Obj.cells.injEq] at he
  exact hte he.2.1
theorem not_type_map {w : World} {m : Nat} {e : TypeId} {es : Array MapEntry} {c : Nat} (h : w.heap[m]? = some (.map es c)) : ∀ cs' fr, w.heap[m]? ≠ some (.cells cs' e fr) := by
  intro cs' fr he
  rw [h] at he
  cases he

structure NS (w : World) (S m p3 p4 : Nat) (parts : Value) (np : Nat) (us : List Value) (todo : Value) (n : Nat) (vs : List Value) (es : Array MapEntry) (c : Nat) (W : World) : Prop where
  h3 : Has W p3 119 #[.pointer (some ⟨S, 0, none⟩)]
  h4 : Has W p4 149 #[todo]
  hS : Has W S 124 #[.map (some m), .int .i64 0, parts, .bool false]
  hm : W.heap[m]? = some (.map es c)
  own : W.ownsRow w.heap.size 148 2 todo n vs
  po : W.ownsRow w.heap.size 36 1 parts np us
  low : Below w.heap.size w W
  bm : w.heap.size ≤ m
  bS : w.heap.size ≤ S
  b4 : w.heap.size ≤ p4

section
variable {w : World} {S m p3 p4 : Nat} {parts : Value} {np : Nat} {us : List Value} {todo : Value} {n : Nat} {vs : List Value} {es : Array MapEntry} {c : Nat} {W : World}

theorem NS.alloc (h : NS w S m p3 p4 parts np us todo n vs es c W) (o : Obj) : NS w S m p3 p4 parts np us todo n vs es c (W.alloc o) :=
  ⟨h.h3.alloc o, h.h4.alloc o, h.hS.alloc o, (Lib.alloc_old W o m (lt_get h.hm)).trans h.hm, h.own.alloc o, h.po.alloc o, h.low.alloc h.low.size o, h.bm, h.bS, h.b4⟩

/-- a turn of the map -/
theorem NS.map {W' : World} {es' : Array MapEntry} {c' : Nat} (h : NS w S m p3 p4 parts np us todo n vs es c W) (ht : Turns [m] W W') (hm' : W'.heap[m]? = some (.map es' c')) : NS w S m p3 p4 parts np us todo n vs es' c' W' :=
  ⟨ht.has h.h3 (by simpa using (map_has h.hm h.h3).symm), ht.has h.h4 (by simpa using (map_has h.hm h.h4).symm), ht.has h.hS (by simpa using (map_has h.hm h.hS).symm), hm',
   owns_turns h.own ht (by intro i hi; simp at hi; subst hi; exact not_type_map h.hm), owns_turns h.po ht (by intro i hi; simp at hi; subst hi; exact not_type_map h.hm),
   h.low.trans (ht.toBelow h.low.size (by intro i hi; simp at hi; subst hi; exact h.bm)), h.bm, h.bS, h.b4⟩

/-- a turn of the survey, and of the row of its parts -/
theorem NS.took {W' : World} {T : List Nat} {parts' : Value} {np' : Nat} {us' : List Value} (h : NS w S m p3 p4 parts np us todo n vs es c W) (ht : Turns T W W')
    (hT : ∀ i ∈ T, i = S ∨ (w.heap.size ≤ i ∧ ∃ cs fr, W.heap[i]? = some (.cells cs 36 fr)))
    (hS' : Has W' S 124 #[.map (some m), .int .i64 0, parts', .bool false]) (hp' : W'.ownsRow w.heap.size 36 1 parts' np' us') : NS w S m p3 p4 parts' np' us' todo n vs es c W' := by
  have hne : ∀ {g : Nat} {t : TypeId} {cs : Array Value}, Has W g t cs → t ≠ 124 → t ≠ 36 → g ∉ T := by
    intro g t cs hg h1 h2 hmem
    rcases hT g hmem with rfl | ⟨_, cs', fr, he⟩
    · exact h1 (Has.same hg h.hS)
    · exact not_type hg h2 _ _ he
  have hmT : m ∉ T := by
    intro hmem
    rcases hT m hmem with rfl | ⟨_, cs', fr, he⟩
    · exact map_has h.hm h.hS rfl
    · exact not_type_map h.hm _ _ he
  refine ⟨ht.has h.h3 (hne h.h3 (by decide) (by decide)), ht.has h.h4 (hne h.h4 (by decide) (by decide)), hS', (ht.block m (lt_get h.hm) hmT).trans h.hm, owns_turns h.own ht ?_, hp', h.low.trans (ht.toBelow h.low.size ?_), h.bm, h.bS, h.b4⟩
  · intro i hi cs fr he
    rcases hT i hi with rfl | ⟨_, cs', fr', he'⟩
    · exact not_type h.hS (by decide) _ _ he
    · rw [he] at he'
      simp only [Option.some.injEq, Obj.cells.injEq] at he'
      exact absurd he'.2.1 (by decide)
  · intro i hi
    rcases hT i hi with rfl | ⟨hb, _⟩
    · exact h.bS
    · exact hb

theorem owns_put {B : Nat} {e : TypeId} {k : Nat} {v : Value} {n' : Nat} {xs : List Value} (h : W.ownsRow B e k v n' xs) {p : Nat} {t : TypeId} {cs : Array Value} (hp : Has W p t cs) (hte : t ≠ e) (i : Nat) (u : Value) : (W.setCell ⟨p, i, none⟩ u).ownsRow B e k v n' xs :=
  h.kept (grown_put (grown_refl W (some p)) i u) (.inr (fun hq => by
    obtain ⟨c, fz, hc⟩ := Lib.ownsRow_kind h p hq
    exact not_type hp hte _ _ hc))

/-- a store into the list of what is to do -/
theorem NS.put {todo' : Value} {n' : Nat} {vs' : List Value} (h : NS w S m p3 p4 parts np us todo n vs es c W) (ho : W.ownsRow w.heap.size 148 2 todo' n' vs') : NS w S m p3 p4 parts np us todo' n' vs' es c (W.setCell ⟨p4, 0, none⟩ todo') :=
  ⟨h.h3.put_far 0 _ (ne_types h.h3 h.h4 (by decide)), by simpa using h.h4.put 0 todo', h.hS.put_far 0 _ (ne_types h.hS h.h4 (by decide)), map_put h.hm (map_has h.hm h.h4) 0 _, owns_put ho h.h4 (by decide) 0 _, owns_put h.po h.h4 (by decide) 0 _,
   h.low.setCell (p := ⟨p4, 0, none⟩) h.b4 _, h.bm, h.bS, h.b4⟩

theorem NS.far {W' : World} (h : NS w S m p3 p4 parts np us todo n vs es c W) (hg : W.grownBy W' todo.ownBlock) {g : Nat} {t : TypeId} {cs : Array Value} (hh : Has W g t cs) (ht : t ≠ 148) : Has W' g t cs :=
  hh.grown hg (fun e => by
    obtain ⟨c', fz, hc⟩ := Lib.ownsRow_kind h.own g e.symm
    exact not_type hh ht _ _ hc)

/-- an append to what is to do: then the state, with the new list at hand but not yet stored -/
theorem NS.grown {W' : World} (h : NS w S m p3 p4 parts np us todo n vs es c W) (hg : W.grownBy W' todo.ownBlock) {todo' : Value} {n' : Nat} {vs' : List Value} (ho : W'.ownsRow w.heap.size 148 2 todo' n' vs') : NS w S m p3 p4 parts np us todo' n' vs' es c (W'.setCell ⟨p4, 0, none⟩ todo') := by
  have hk : ∀ {g : Nat} {t : TypeId} {cs : Array Value}, Has W g t cs → t ≠ 148 → some g ≠ todo.ownBlock := by
    intro g t cs hh ht e
    obtain ⟨c', fz, hc⟩ := Lib.ownsRow_kind h.own g e.symm
    exact not_type hh ht _ _ hc
  have h3 := h.h3.grown hg (hk h.h3 (by decide))
  have h4 := h.h4.grown hg (hk h.h4 (by decide))
  have hS := h.hS.grown hg (hk h.hS (by decide))
  have hm : W'.heap[m]? = some (.map es c) := (hg.block m (lt_get h.hm) (fun e => by
    obtain ⟨c', fz, hc⟩ := Lib.ownsRow_kind h.own m e.symm
    exact not_type_map h.hm _ _ hc)).trans h.hm
  have hp : W'.ownsRow w.heap.size 36 1 parts np us := by
    refine h.po.kept hg ?_
    by_cases hb : parts.ownBlock = none
    · exact .inl hb
    · refine .inr (fun e => ?_)
      obtain ⟨b, hb2⟩ : ∃ b, parts.ownBlock = some b := Option.ne_none_iff_exists'.1 hb
      obtain ⟨c1, f1, g1⟩ := Lib.ownsRow_kind h.po b hb2
      obtain ⟨c2, f2, g2⟩ := Lib.ownsRow_kind h.own b (by rw [← e]; exact hb2)
      rw [g1] at g2
      simp only [Option.some.injEq, Obj.cells.injEq] at g2
      exact absurd g2.2.1 (by decide)
  have low : Below w.heap.size w W' := h.low.grown hg h.low.size (fun k hk2 => (h.own.lt k hk2).1)
  exact ⟨h3.put_far 0 _ (ne_types h3 h4 (by decide)), by simpa using h4.put 0 todo', hS.put_far 0 _ (ne_types hS h4 (by decide)), map_put hm (map_has hm h4) 0 _, owns_put ho h4 (by decide) 0 _, owns_put hp h4 (by decide) 0 _,
    low.setCell (p := ⟨p4, 0, none⟩) h.b4 _, h.bm, h.bS, h.b4⟩

/-- what the range over a function turns by itself: blocks that are no cells, laid since the loop began -/
theorem NS.abides {W' : World} {B : Nat} {row : Option Nat} (h : NS w S m p3 p4 parts np us todo n vs es c W) (hmB : m < B) (hB : w.heap.size ≤ B) (hg : W.grownBy W' row) (hr : ∀ r, row = some r → B ≤ r ∧ ∃ o : Obj, W.heap[r]? = some o ∧ o.isCells = false) : NS w S m p3 p4 parts np us todo n vs es c W' := by
  have hk : ∀ {g : Nat} {t : TypeId} {cs : Array Value} {fr : Nat × Nat}, W.heap[g]? = some (.cells cs t fr) → some g ≠ row := by
    intro g t cs fr hh e
    obtain ⟨_, o, ho, hc⟩ := hr g e.symm
    rw [hh] at ho
    simp only [Option.some.injEq] at ho
    subst ho
    cases hc
  have hown : ∀ {e : TypeId} {k : Nat} {v : Value} {n' : Nat} {xs : List Value}, W.ownsRow w.heap.size e k v n' xs → W'.ownsRow w.heap.size e k v n' xs := by
    intro e k v n' xs ho
    by_cases hb : v.ownBlock = none
    · exact ho.kept hg (.inl hb)
    · obtain ⟨b, hb2⟩ : ∃ b, v.ownBlock = some b := Option.ne_none_iff_exists'.1 hb
      obtain ⟨c1, f1, g1⟩ := Lib.ownsRow_kind ho b hb2
      exact ho.kept hg (.inr (fun e => hk g1 (by rw [← hb2, e])))
  have hmr : some m ≠ row := by
    intro e
    have := (hr m e.symm).1
    omega
  exact ⟨h.h3.grown hg (hk h.h3), h.h4.grown hg (hk h.h4), h.hS.grown hg (hk h.hS), (hg.block m (lt_get h.hm) hmr).trans h.hm, hown h.own, hown h.po, h.low.grown hg h.low.size (fun k hk2 => Nat.le_trans hB (hr k hk2).1), h.bm, h.bS, h.b4⟩
end
end Go.Proofs.YtnejkgkikpgajaaDoor.ft
