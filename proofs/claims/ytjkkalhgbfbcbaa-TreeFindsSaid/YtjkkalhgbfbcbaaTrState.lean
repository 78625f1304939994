/-
  What TreeFinds makes: its variables, its program; each step.
-/
import Derived.Test.YtjkkalhgbfbcbaaTrMade
namespace Go.Proofs.Ytjkkalhgbfbcbaa.tr
open Go.ChangeShapes Go.WideShapes Go.ChangeAt Go.RowKit
set_option linter.unusedVariables false

structure Made (w : World) (G : Nat) (s : ByteArray) (lv ln : List ByteArray) (es : List Rw) (v ev u : Value) (W : World) : Prop where
  below : Below w.heap.size w W
  base : w.heap.size ≤ G
  box : Has W G 28 #[ev, u]
  vars : W.ownsRow w.heap.size 52 15 v lv.length (lv.flatMap varC)
  nodes : W.ownsRow w.heap.size 39 7 u ln.length (ln.flatMap nodeC)
  enums : W.ownsRow w.heap.size 58 4 ev es.length (es.flatMap (enumC s))

theorem news_of (W : World) (cs : List Value) (t : TypeId) (b : Nat) (hb : b = W.heap.size) : ∀ j u, cs[j]? = some u → (W.alloc (.cells cs.toArray t)).cell? ((⟨b, 0, none⟩ : Addr).add j) = some u := by
  intro j u hj
  subst hb
  have := (Has.new W t cs.toArray).cell j
  rw [add_plain, Nat.zero_add, this]
  simpa using hj

variable {w W : World} {G : Nat} {s : ByteArray} {lv ln : List ByteArray} {es : List Rw} {v ev u : Value}
theorem Made.start (w w2 : World) (s : ByteArray) (hb : Below w.heap.size w w2) : Made w w2.heap.size s [] [] [] (.slice none 0 0) (.slice none 0 0) (.slice none 0 0) (w2.alloc (.cells #[.slice none 0 0, .slice none 0 0] 28)) :=
  ⟨hb.alloc hb.size _, hb.size, Has.new _ _ _, World.ownsRow_nil _ _ _ _, World.ownsRow_nil _ _ _ _, World.ownsRow_nil _ _ _ _⟩
theorem Made.drew (h : Made w G s lv ln es v ev u W) : Made w G s lv ln es v ev u W.drew :=
  ⟨h.below.drew, h.base, h.box, h.vars, h.nodes, h.enums⟩
theorem Made.alloc (h : Made w G s lv ln es v ev u W) (o : Obj) : Made w G s lv ln es v ev u (W.alloc o) :=
  ⟨h.below.alloc h.below.size o, h.base, h.box.alloc o, h.vars.alloc o, h.nodes.alloc o, h.enums.alloc o⟩
theorem snoc_flat {α : Type} (C : α → List Value) (l : List α) (x : α) : (l ++ [x]).flatMap C = l.flatMap C ++ C x := by simp

theorem Made.var (h : Made w G s lv ln es v ev u W) {o : Obj} {w3 : World} {v' : Value} {x : ByteArray} (hown : w3.ownsRow w.heap.size 52 15 v' (lv.length + 1) (lv.flatMap varC ++ varC x)) (hg : (W.alloc o).grownBy w3 v.ownBlock) :
    Made w G s (lv ++ [x]) ln es v' ev u w3 := by
  have h1 := h.alloc o
  refine ⟨h1.below.grown hg h1.below.size (fun k hk => (h.vars.lt k hk).1), h.base, h1.box.grown hg (fun e => h1.box.own_ne h1.vars (by decide) e.symm), ?_, h1.nodes.kept hg (own_apart h1.nodes h1.vars (by decide)), h1.enums.kept hg (own_apart h1.enums h1.vars (by decide))⟩
  rw [snoc_flat, List.length_append]
  exact hown
theorem Made.boxN (h : Made w G s lv ln es v ev u W) {o : Obj} {w3 : World} (hg : (W.alloc o).grownBy w3 u.ownBlock) : Has w3 G 28 #[ev, u] :=
  (h.alloc o).box.grown hg (fun e => (h.alloc o).box.own_ne (h.alloc o).nodes (by decide) e.symm)
theorem Made.boxE (h : Made w G s lv ln es v ev u W) {o : Obj} {w3 : World} (hg : (W.alloc o).grownBy w3 ev.ownBlock) : Has w3 G 28 #[ev, u] :=
  (h.alloc o).box.grown hg (fun e => (h.alloc o).box.own_ne (h.alloc o).enums (by decide) e.symm)
theorem put_kept {W : World} {B n k : Nat} {e t : TypeId} {v : Value} {xs : List Value} {cs : Array Value} (h : W.ownsRow B e k v n xs) (hb : Has W G t cs) (hne : e ≠ t) (i : Nat) (x : Value) : (W.setCell ⟨G, i, none⟩ x).ownsRow B e k v n xs :=
  h.kept (grown_put (grown_refl W (some G)) i x) (.inr (hb.own_ne h hne))
theorem Made.node (h : Made w G s lv ln es v ev u W) {o : Obj} {w3 : World} {u' : Value} {x : ByteArray} (hown : w3.ownsRow w.heap.size 39 7 u' (ln.length + 1) (ln.flatMap nodeC ++ nodeC x)) (hg : (W.alloc o).grownBy w3 u.ownBlock) :
    Made w G s lv (ln ++ [x]) es v ev u' (w3.setCell ⟨G, 1, none⟩ u') := by
  have h1 := h.alloc o
  have hb := h.boxN hg
  refine ⟨(h1.below.grown hg h1.below.size (fun k hk => (h.nodes.lt k hk).1)).setCell h.base _, h.base, hb.put 1 u', ?_, ?_, ?_⟩
  · exact put_kept (h1.vars.kept hg (own_apart h1.vars h1.nodes (by decide))) hb (by decide) 1 u'
  · rw [snoc_flat, List.length_append]
    exact put_kept hown hb (by decide) 1 u'
  · exact put_kept (h1.enums.kept hg (own_apart h1.enums h1.nodes (by decide))) hb (by decide) 1 u'
theorem Made.enum (h : Made w G s lv ln es v ev u W) {o : Obj} {w3 : World} {e' : Value} {x : Rw} (hown : w3.ownsRow w.heap.size 58 4 e' (es.length + 1) (es.flatMap (enumC s) ++ enumC s x)) (hg : (W.alloc o).grownBy w3 ev.ownBlock) :
    Made w G s lv ln (es ++ [x]) v e' u (w3.setCell ⟨G, 0, none⟩ e') := by
  have h1 := h.alloc o
  have hb := h.boxE hg
  refine ⟨(h1.below.grown hg h1.below.size (fun k hk => (h.enums.lt k hk).1)).setCell h.base _, h.base, hb.put 0 e', ?_, ?_, ?_⟩
  · exact put_kept (h1.vars.kept hg (own_apart h1.vars h1.enums (by decide))) hb (by decide) 0 e'
  · exact put_kept (h1.nodes.kept hg (own_apart h1.nodes h1.enums (by decide))) hb (by decide) 0 e'
  · rw [snoc_flat, List.length_append]
    exact put_kept hown hb (by decide) 0 e'

theorem fstN_snoc (l : List Bool) (b : Bool) : ∀ i, fstN (l ++ [b]) i = if 0 ≤ fstN l i then fstN l i else if b = true then ((i + l.length : Nat) : Int) else -1 := by
  induction l with
  | nil => intro i; cases b <;> simp [fstN]
  | cons x r ih =>
    intro i
    rw [List.cons_append, fstN, fstN, ih (i + 1)]
    cases x
    · simp only [Bool.false_eq_true, if_false, List.length_cons]
      rw [show i + 1 + r.length = i + (r.length + 1) by omega]
    · simp only [if_true]
      rw [if_pos (Int.natCast_nonneg i)]
theorem oneV (x : ByteArray) : ∀ u ∈ varC x, u.oneCell' = true := by intro u hu; simp only [varC, List.mem_cons, List.not_mem_nil, or_false] at hu; rcases hu with rfl | rfl | rfl | rfl | rfl | rfl | rfl | rfl | rfl | rfl | rfl | rfl | rfl | rfl | rfl <;> rfl
theorem oneN (x : ByteArray) : ∀ u ∈ nodeC x, u.oneCell' = true := by intro u hu; simp only [nodeC, List.mem_cons, List.not_mem_nil, or_false] at hu; rcases hu with rfl | rfl | rfl | rfl | rfl | rfl | rfl <;> rfl
theorem oneE (s : ByteArray) (x : Rw) : ∀ u ∈ enumC s x, u.oneCell' = true := by intro u hu; simp only [enumC, List.mem_cons, List.not_mem_nil, or_false] at hu; rcases hu with rfl | rfl | rfl | rfl <;> rfl
end Go.Proofs.Ytjkkalhgbfbcbaa.tr
