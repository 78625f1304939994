/-
  The clock checker: clocks, what is visible, and the checker itself, as they lie in memory.
-/
import Derived.Test.YtnejkgkikpgajaaDoorTrOns
import Derived.Test.YtnejkgkikpgajaaDoorLxHas
import Derived.MapKept
import Derived.StringKeys
import Derived.Handy
namespace Go.Proofs.YtnejkgkikpgajaaDoor.ck
open Go.ChangeShapes Go.WideShapes Go.ChangeAt Go.RowKit
open tr
set_option linter.unusedVariables false

abbrev Smp := ByteArray × ByteArray
def noT : ByteArray := ⟨#[]⟩

theorem grown_trans {w a b : World} {row : Option Nat} (h : w.grownBy a row) (k : a.grownBy b row) : w.grownBy b row :=
  ⟨k.os.trans h.os, k.tape.trans h.tape, k.output.trans h.output, Nat.le_trans h.size k.size, fun i hi hne => (k.block i (Nat.lt_of_lt_of_le hi h.size) hne).trans (h.block i hi hne)⟩
theorem take_snoc {α : Type} (l : List α) (j : Nat) (h : j < l.length) : l.take (j + 1) = l.take j ++ [l[j]] := by
  rw [List.take_succ_eq_append_getElem h]

/-- a clock, its innermost sampling first -/
def CkL (w : World) : Option Addr → List Smp → Prop
  | a, [] => a = none
  | a, p :: r => ∃ g a', a = some ⟨g, 0, none⟩ ∧ Has w g 163 #[.string p.1, .string p.2, .pointer a'] ∧ CkL w a' r
theorem CkL.keep {w w' : World} (h : ∀ g cs, Has w g 163 cs → Has w' g 163 cs) : ∀ {a : Option Addr} {l : List Smp}, CkL w a l → CkL w' a l
  | _, [], h0 => h0
  | _, _ :: _, ⟨g, a', e, h1, h2⟩ => ⟨g, a', e, h _ _ h1, CkL.keep h h2⟩
theorem CkL.below {w w' : World} {a : Option Addr} {l : List Smp} (h : CkL w a l) (hb : Below w.heap.size w w') : CkL w' a l := h.keep fun g cs hh => hh.below hb hh.lt
theorem CkL.uniq {w : World} : ∀ {a : Option Addr} {l m : List Smp}, CkL w a l → CkL w a m → l = m
  | _, [], [], _, _ => rfl
  | _, [], _ :: _, h, ⟨_, _, e, _⟩ => by rw [h] at e; cases e
  | _, _ :: _, [], ⟨_, _, e, _⟩, h => by rw [h] at e; cases e
  | _, (p1, p2) :: r, (q1, q2) :: s, ⟨g, a', e, h1, h2⟩, ⟨g', b', e', k1, k2⟩ => by
    rw [e] at e'
    simp only [Option.some.injEq, Addr.mk.injEq, and_true] at e'
    subst e'
    unfold Has at h1 k1
    rw [h1] at k1
    injection k1 with k1
    injection k1 with k1
    simp only [Array.mk.injEq, List.cons.injEq, Value.string.injEq, Value.pointer.injEq, and_true] at k1
    obtain ⟨rfl, rfl, rfl⟩ := k1
    rw [CkL.uniq h2 k2]

/-- the error -/
def Er (w : World) (v : Value) (b : Bool) : Prop :=
  (b = false → v = .nilIface) ∧ (b = true → ∃ ga x y, v = .iface 177 (.pointer (some ⟨ga, 0, none⟩)) ∧ Has w ga 180 #[.int .i64 x, .int .i64 y, .string noT, .bool false, .iface 56 (.int .i64 8)])
theorem Er.keep {w w' : World} (h : ∀ g cs, Has w g 180 cs → Has w' g 180 cs) {v : Value} {b : Bool} (he : Er w v b) : Er w' v b :=
  ⟨he.1, fun hb => let ⟨ga, x, y, e, hh⟩ := he.2 hb; ⟨ga, x, y, e, h _ _ hh⟩⟩

/-- the checker, at block g -/
def Ck (w : World) (g : Nat) (mv : Value) (d : Int) (er : Value) : Prop := Has w g 69 #[mv, .int .i64 d, er]
end Go.Proofs.YtnejkgkikpgajaaDoor.ck
