/-
  What is visible: the map of variables; a look-up in it.
-/
import Derived.Test.YtnejkgkikpgajaaDoorCkSame
import Derived.Laws.StructEq
namespace Go.Proofs.YtnejkgkikpgajaaDoor.ck
open Go.ChangeShapes Go.WideShapes Go.ChangeAt Go.RowKit
open tr
set_option linter.unusedVariables false

structure En where
  name : ByteArray
  clk : List Smp
  dep : Int
def EntsL (w : World) : List MapEntry → List En → Prop
  | [], [] => True
  | e :: es, x :: xs => e.key = .string x.name ∧ (∃ a, e.val = .agg #[.pointer a, .int .i64 x.dep] ∧ CkL w a x.clk) ∧ EntsL w es xs
  | _, _ => False
theorem EntsL.keep {w w' : World} (h : ∀ g cs, Has w g 163 cs → Has w' g 163 cs) : ∀ {es : List MapEntry} {L : List En}, EntsL w es L → EntsL w' es L
  | [], [], _ => trivial
  | _ :: _, _ :: _, ⟨h1, ⟨a, h2, h3⟩, h4⟩ => ⟨h1, ⟨a, h2, h3.keep h⟩, EntsL.keep h h4⟩
theorem EntsL.app {w : World} : ∀ {es : List MapEntry} {L : List En} {fs : List MapEntry} {M : List En}, EntsL w es L → EntsL w fs M → EntsL w (es ++ fs) (L ++ M)
  | [], [], _, _, _, h => h
  | _ :: _, _ :: _, _, _, ⟨h1, h2, h3⟩, h => ⟨h1, h2, h3.app h⟩
def lk (n : ByteArray) : List En → Option En
  | [] => none
  | x :: r => if eqS n x.name then some x else lk n r
theorem beq_eqS (a b : ByteArray) : (a == b) = eqS a b := beq_toListBytes a b
theorem find_lk {w : World} (n : ByteArray) : ∀ {es : List MapEntry} {L : List En} (i : Nat), EntsL w es L →
    (lk n L = none ∧ Instr.findNow .string (.string n) es i = some none) ∨ (∃ x a j, lk n L = some x ∧ CkL w a x.clk ∧ Instr.findNow .string (.string n) es i = some (some (j, .agg #[.pointer a, .int .i64 x.dep])))
  | [], [], i, _ => .inl ⟨rfl, rfl⟩
  | e :: es, x :: xs, i, ⟨h1, ⟨a, h2, h3⟩, h4⟩ => by
    unfold lk Instr.findNow
    rw [h1]
    simp only [Instr.sameNow]
    rw [beq_eqS]
    cases hb : eqS n x.name
    · simp only [Bool.false_eq_true, if_false]
      exact find_lk n (i + 1) h4
    · simp only [if_true]
      exact .inr ⟨x, a, i, rfl, h3, by rw [h2]⟩

/-- the map at block m -/
def EnvM (w : World) (m : Nat) (L : List En) : Prop := ∃ es c, w.heap[m]? = some (.map es c) ∧ EntsL w es.toList L
theorem run_lk {w : World} {m : Nat} {L : List En} (n : ByteArray) (h : EnvM w m L) :
    (lk n L = none ∧ (Instr.lookup 67 (.map (some m)) (.string n) true).run Tryd.prog w = .ok (.tuple #[.agg #[.pointer none, .int .i64 0], .bool false]) w) ∨
    (∃ x a, lk n L = some x ∧ CkL w a x.clk ∧ (Instr.lookup 67 (.map (some m)) (.string n) true).run Tryd.prog w = .ok (.tuple #[.agg #[.pointer a, .int .i64 x.dep], .bool true]) w) := by
  obtain ⟨es, c, hW, hE⟩ := h
  have hz : (zeroValue 135).run Tryd.prog w = .ok (.agg #[.pointer none, .int .i64 0]) w := by kernel_rfl
  have hu := run_underlying (P := Tryd.prog) (w := w) Tryd.underlying67
  have hus := run_underlying (P := Tryd.prog) (w := w) Tryd.underlying9
  have hk : ∀ b, (Instr.checkKey b 10000 9 (.string n)).run Tryd.prog w = .ok () w := fun b => by kernel_rfl
  rcases find_lk n 0 hE with ⟨h1, h2⟩ | ⟨x, a, j, h1, h2, h3⟩
  · refine .inl ⟨h1, ?_⟩
    have hf : (Instr.findKey 9 (.string n) es.toList).run Tryd.prog w = .ok none w := by
      unfold Instr.findKey
      simp only [Sem.run_bind, hus, Result.andThen_ok, h2, Sem.run_pure]
    unfold Instr.lookup
    simp only [Sem.run_bind, hu, Result.andThen_ok, @MapKept.run_getObj_map _ _ _ _ _ hW]
    simp [hk, hf, hz, Result.andThen]
  · refine .inr ⟨x, a, h1, h2, ?_⟩
    have hf : (Instr.findKey 9 (.string n) es.toList).run Tryd.prog w = .ok (some (j, .agg #[.pointer a, .int .i64 x.dep])) w := by
      unfold Instr.findKey
      simp only [Sem.run_bind, hus, Result.andThen_ok, h3, Sem.run_pure]
    unfold Instr.lookup
    simp only [Sem.run_bind, hu, Result.andThen_ok, @MapKept.run_getObj_map _ _ _ _ _ hW]
    simp [hk, hf, Result.andThen]
end Go.Proofs.YtnejkgkikpgajaaDoor.ck
