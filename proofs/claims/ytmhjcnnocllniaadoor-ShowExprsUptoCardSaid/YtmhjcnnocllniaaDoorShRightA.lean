/-
  The law's own look at an expression: has each part as many kids, and names, as its kind has?
-/
import Derived.Test.YtmhjcnnocllniaaDoorShRef2
import Derived.BigQuiet
namespace Go.Proofs.YtmhjcnnocllniaaDoor.sh
open Go.ChangeShapes Go.WideShapes Go.ChangeAt Go.RowKit Go.Proofs.YtmhjcnnocllniaaDoor.tr
set_option linter.unusedVariables false
set_option linter.unusedSimpArgs false

def RightPost (w : World) (b : Bool) (e : Ending) (w' : World) : Prop := e = .returned (.bool b) ∧ Below w.heap.size w w'
def RightDoes (x : Ex) : Prop := ∀ (w : World) (cs : Array Value), LaidC w x cs.toList → Calls Tryd.prog 6 #[.agg cs] w (RightPost w (okE x))
theorem okK_drop (l : List Ex) (i : Nat) (hi : i < l.length) : okK (l.drop i) = (okE l[i] && okK (l.drop (i + 1))) := by rw [List.drop_eq_getElem_cons hi, okK]
theorem not_le255 {a b : Nat} (h : ¬ a = b) : ((a : Int) == (b : Int)) = false ∧ ((a : Int) != (b : Int)) = true := by
  have h1 : ¬ (a : Int) = (b : Int) := by omega
  exact ⟨beq_eq_false_iff_ne.2 h1, bne_iff_ne.2 h1⟩
theorem is_eq {a b : Nat} (h : a = b) : ((a : Int) == (b : Int)) = true ∧ ((a : Int) != (b : Int)) = false := by
  subst h
  exact ⟨beq_self_eq_true _, bne_self_eq_false _⟩
theorem below_drewN2 {B : Nat} {w w' : World} (h : Below B w w') (n : Nat) : Below B w (w'.drewN n) := ⟨h.os, h.tape, h.output, h.size, h.block⟩
end Go.Proofs.YtmhjcnnocllniaaDoor.sh
