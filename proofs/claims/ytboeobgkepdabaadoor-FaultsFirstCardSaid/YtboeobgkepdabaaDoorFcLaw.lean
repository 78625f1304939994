/-
  FaultsFirst's own loop: what it keeps.
-/
import Derived.Test.YtboeobgkepdabaaDoorFcFirst
import Derived.Test.YtboeobgkepdabaaDoorFcKind
import Derived.Test.YtboeobgkepdabaaDoorFtTakeK
import Derived.Deep.AppendLies
namespace Go.Proofs.YtboeobgkepdabaaDoor.ft
open Go.ChangeShapes Go.WideShapes Go.ChangeAt Go.RowKit
open Go.Proofs.YtboeobgkepdabaaDoor.lx (Has grown_refl grown_put grown_below)
set_option linter.unusedVariables false
set_option linter.unusedSimpArgs false

theorem plain_add (b o i : Nat) : (⟨b, o, none⟩ : Addr).add i = ⟨b, o + i, none⟩ := by
  by_cases h : i = 0
  · subst h; simp [Addr.add]
  · simp [Addr.add, h]
/-- numbers that came in as a slice -/
def IntsAt (k : IntKind) (w : World) (a : Option Addr) (len : Nat) (X : Nat → Int) : Prop :=
  ∀ i, i < len → ∃ b off, a = some ⟨b, off, none⟩ ∧ w.cell? ⟨b, off + i, none⟩ = some (.int k (X i)) ∧ (Lit.int k (X i)).wf = true
theorem ints_of {k : IntKind} {w : World} {a : Option Addr} {len cap : Nat} {zs : List Int} (h : (a = none ∧ len = 0 ∧ cap = 0 ∧ zs = []) ∨
    ∃ x, a = some x ∧ len ≤ cap ∧ cap ≤ maxLen ∧ zs.length = cap ∧ (∀ i, i < zs.length → w.cell? (x.add i) = some (.int k (zs.getD i 0))) ∧ ∀ n ∈ zs, (Lit.int k n).wf = true) :
    IntsAt k w a len (fun i => zs.getD i 0) ∧ len ≤ maxLen := by
  rcases h with ⟨rfl, rfl, rfl, rfl⟩ | ⟨x, rfl, hl, hm, hz, hc, hw⟩
  · exact ⟨fun i hi => by omega, Nat.zero_le _⟩
  · refine ⟨fun i hi => ?_, by omega⟩
    have hc0 := hc 0 (by omega)
    obtain ⟨b, off, spot⟩ := x
    have hspot : spot = none := by simpa [Addr.add] using World.cell?_spot hc0
    subst hspot
    have hci := hc i (by omega)
    have hmem : zs.getD i 0 ∈ zs := by
      rw [List.getD_eq_getElem?_getD, List.getElem?_eq_getElem (by omega)]
      exact List.getElem_mem _
    rw [plain_add] at hci
    exact ⟨b, off, rfl, hci, hw _ hmem⟩

def mkE (g : Nat) (x y k : Int) : Option Er := if k = 0 then none else some ⟨g, x, y, k⟩
theorem new_any (w : World) (k x y : Int) :
    Calls Tryd.prog 9 #[.int .i64 k, .agg #[.int .i64 x, .int .i64 y]] w fun e w' => ∃ g, e = .returned (valE (mkE g x y k)) ∧ LaidE w' (mkE g x y k) ∧ Below w.heap.size w w' := by
  by_cases hk : k = 0
  · subst hk
    refine (new_0 w x y).mono ?_
    rintro e w' ⟨rfl, hb⟩
    exact ⟨0, rfl, trivial, hb⟩
  · refine (new_k w k x y hk).mono ?_
    rintro e w' ⟨g, _, rfl, hg, hb⟩
    refine ⟨g, ?_, ?_, hb⟩
    · rw [mkE, if_neg hk]; rfl
    · rw [mkE, if_neg hk]; exact hg
theorem valE_one (e : Option Er) : (valE e).oneCell' = true := by cases e <;> rfl

structure LAt (w : World) (X Y Z : Nat → Int) (es : List (Option Er)) (u : Value) (W : World) : Prop where
  own : W.ownsRow w.heap.size 27 1 u es.length (es.map valE)
  laid : ∀ (j : Nat) e, es[j]? = some e → LaidE W e
  src : ∀ (j : Nat) e, es[j]? = some (some e) → e.x = X j ∧ e.y = Y j ∧ ∃ n : Nat, Z j = n ∧ n ≤ 255 ∧ e.k = 1 + ((n % 12 : Nat) : Int)
  low : Below w.heap.size w W
theorem LaidE.below {W W' : World} {e : Option Er} (h : LaidE W e) (hb : Below W.heap.size W W') : LaidE W' e := by
  cases e with
  | none => trivial
  | some e => exact Has.below h hb (Has.lt h)
theorem LaidE.alloc {W : World} {e : Option Er} (h : LaidE W e) (o : Obj) : LaidE (W.alloc o) e := h.below ((Below.refl _ W).alloc (Nat.le_refl _) o)
theorem LaidE.grown {W W' : World} {e : Option Er} {B n : Nat} {u : Value} {xs : List Value} (h : LaidE W e) (ho : W.ownsRow B 27 1 u n xs) (hg : W.grownBy W' u.ownBlock) : LaidE W' e := by
  cases e with
  | none => trivial
  | some e => exact Has.grown h hg (fun he => Lib.ownBlock_ne ho h (by decide) he.symm)
theorem LAt.start (w W : World) (X Y Z : Nat → Int) (hb : Below w.heap.size w W) : LAt w X Y Z [] (.slice none 0 0) W :=
  ⟨World.ownsRow_nil _ _ _ _, fun j e h => by simp at h, fun j e h => by simp at h, hb⟩
theorem LAt.snoc {w W W4 W5 : World} {X Y Z : Nat → Int} {es : List (Option Er)} {u u' : Value} (h : LAt w X Y Z es u W) (hb : Below W.heap.size W W4) (E : Option Er) (hE : LaidE W4 E)
    (hs : ∀ e, E = some e → e.x = X es.length ∧ e.y = Y es.length ∧ ∃ n : Nat, Z es.length = n ∧ n ≤ 255 ∧ e.k = 1 + ((n % 12 : Nat) : Int)) (o : Obj)
    (hown : W5.ownsRow w.heap.size 27 1 u' (es.length + 1) (es.map valE ++ [valE E])) (hg : (W4.alloc o).grownBy W5 u.ownBlock) : LAt w X Y Z (es ++ [E]) u' W5 := by
  have ho4 : (W4.alloc o).ownsRow w.heap.size 27 1 u es.length (es.map valE) := (owns_below h.own hb).alloc o
  have hlow : Below w.heap.size w (W4.alloc o) := (h.low.trans (hb.mono h.low.size)).alloc (Nat.le_trans h.low.size hb.size) o
  refine ⟨by simpa using hown, fun j e hj => ?_, fun j e hj => ?_, hlow.grown hg hlow.size (fun k hk => (ho4.lt k hk).1)⟩
  · by_cases hlt : j < es.length
    · rw [List.getElem?_append_left hlt] at hj
      exact (((h.laid j e hj).below hb).alloc o).grown ho4 hg
    · rw [List.getElem?_append_right (by omega)] at hj
      have hj2 : (some E) = some e := by
        cases hjj : j - es.length with
        | zero => rw [hjj] at hj; simpa using hj
        | succ m => rw [hjj] at hj; simp at hj
      obtain rfl := Option.some.inj hj2
      exact (hE.alloc o).grown ho4 hg
  · by_cases hlt : j < es.length
    · rw [List.getElem?_append_left hlt] at hj
      exact h.src j e hj
    · have hjl : j = es.length := by
        have := (List.getElem?_eq_some_iff.1 hj).1
        simp at this
        omega
      subst hjl
      rw [List.getElem?_append_right (Nat.le_refl _)] at hj
      simp at hj
      exact hs e hj
def BestAt (es : List (Option Er)) (bi : Int) : Prop :=
  (bst es = none ∧ bi = -1) ∨ ∃ (j : Nat) (e : Er), bi = j ∧ es[j]? = some (some e) ∧ bst es = some e
theorem BestAt.keep {es : List (Option Er)} {bi : Int} (h : BestAt es bi) (E : Option Er) (hp : pick (bst es) E = bst es) : BestAt (es ++ [E]) bi := by
  rcases h with ⟨h1, h2⟩ | ⟨j, e, h1, h2, h3⟩
  · exact .inl ⟨by rw [bst_snoc, hp, h1], h2⟩
  · exact .inr ⟨j, e, h1, by rw [List.getElem?_append_left (List.getElem?_eq_some_iff.1 h2).1, h2], by rw [bst_snoc, hp, h3]⟩
theorem BestAt.turn {es : List (Option Er)} (e : Er) (hp : pick (bst es) (some e) = some e) : BestAt (es ++ [some e]) (es.length : Nat) :=
  .inr ⟨es.length, e, rfl, by simp, by rw [bst_snoc, hp]⟩
theorem LAt.row {w W : World} {X Y Z : Nat → Int} {es : List (Option Er)} {u : Value} (h : LAt w X Y Z es u W) : ∃ a c, u = .slice a es.length c ∧ RowE W a es := by
  rcases h.own.2 with ⟨rfl, h0⟩ | ⟨g, cap, cur, rfl, _, hh, h1, h2, h3, h4⟩
  · refine ⟨none, 0, by rw [h0], fun i e hi => ?_⟩
    have := (List.getElem?_eq_some_iff.1 hi).1
    omega
  · refine ⟨some ⟨g, 0, none⟩, cap, rfl, fun i e hi => ⟨g, 0, rfl, ?_, h.laid i e hi⟩⟩
    have := h.own.cells (g := g) rfl i (valE e) (by rw [List.getElem?_map, hi]; rfl)
    rw [plain_add] at this
    exact this
end Go.Proofs.YtboeobgkepdabaaDoor.ft
