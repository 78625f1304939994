/-
  Expressions as they lie in memory; what a walk over one finds; plainly.
-/
import Derived.Test.YtnejkgkikpgajaaDoorRows
import Derived.WalkKit
import Derived.ProofKit
import Derived.OpenShut
import Derived.Below
import Derived.Lib.Hide
import Derived.Laws.OwnMore
import Derived.Laws.Rows
namespace Go.Proofs.YtnejkgkikpgajaaDoor.tr
open Go.ChangeShapes Go.WideShapes Go.ChangeAt Go.RowKit
set_option linter.unusedVariables false

/-- block g is these cells, of this element type, none frozen -/
def Has (w : World) (g : Nat) (t : TypeId) (cs : Array Value) : Prop := w.heap[g]? = some (.cells cs t (0, 0))
theorem Has.lt {w : World} {g : Nat} {t : TypeId} {cs : Array Value} (h : Has w g t cs) : g < w.heap.size := by
  unfold Has at h
  by_cases hg : g < w.heap.size
  · exact hg
  · rw [Array.getElem?_eq_none (by omega)] at h; cases h
theorem Has.cell {w : World} {g : Nat} {t : TypeId} {cs : Array Value} (h : Has w g t cs) (i : Nat) : w.cell? ⟨g, i, none⟩ = cs[i]? :=
  cell_of_row w g i cs t (0, 0) h
theorem Has.free {w : World} {g : Nat} {t : TypeId} {cs : Array Value} (h : Has w g t cs) (i : Nat) : w.frozen? ⟨g, i, none⟩ = false := by
  unfold Has at h; simp [World.frozen?, h]
theorem Has.new (w : World) (t : TypeId) (cs : Array Value) : Has (w.alloc (.cells cs t)) w.heap.size t cs := by
  unfold Has
  show (w.heap.push _)[w.heap.size]? = _
  simp
theorem Has.alloc {w : World} {g : Nat} {t : TypeId} {cs : Array Value} (h : Has w g t cs) (o : Obj) : Has (w.alloc o) g t cs :=
  (Below.heap_alloc w o g h.lt).trans h
theorem Has.put {w : World} {g : Nat} {t : TypeId} {cs : Array Value} (h : Has w g t cs) (i : Nat) (v : Value) : Has (w.setCell ⟨g, i, none⟩ v) g t (cs.setIfInBounds i v) := by
  unfold Has at h ⊢
  simp [World.setCell, Array.getElem?_modify, h]
theorem Has.put_far {w : World} {g g' : Nat} {t : TypeId} {cs : Array Value} (h : Has w g t cs) (i : Nat) (v : Value) (hne : g ≠ g') : Has (w.setCell ⟨g', i, none⟩ v) g t cs :=
  (Below.heap_setCell w ⟨g', i, none⟩ v g hne).trans h
theorem Has.below {w w' : World} {B g : Nat} {t : TypeId} {cs : Array Value} (h : Has w g t cs) (hb : Below B w w') (hg : g < B) : Has w' g t cs := (hb.block g hg).trans h
theorem Has.grown {w w' : World} {g : Nat} {t : TypeId} {cs : Array Value} {row : Option Nat} (h : Has w g t cs) (hb : w.grownBy w' row) (hg : some g ≠ row) : Has w' g t cs := (hb.block g h.lt hg).trans h
theorem Has.same {w : World} {g : Nat} {t t' : TypeId} {cs cs' : Array Value} (h : Has w g t cs) (h' : Has w g t' cs') : t = t' := by
  unfold Has at h h'
  rw [h] at h'
  injection h' with h'
  injection h'
theorem Has.own_ne {w : World} {g : Nat} {t : TypeId} {cs : Array Value} {base : Nat} {e : TypeId} {size n : Nat} {v : Value} {xs : List Value} (h : Has w g t cs) (ho : w.ownsRow base e size v n xs) (hne : e ≠ t) : v.ownBlock ≠ some g := by
  rcases ho.2 with ⟨rfl, _⟩ | ⟨g', cap, cur, rfl, _, hh, _⟩
  · simp [Value.ownBlock]
  · intro he
    have : g' = g := by simpa [Value.ownBlock] using he
    subst this
    exact hne (Has.same (t := e) hh h)
theorem grown_refl (w : World) (row : Option Nat) : w.grownBy w row := ⟨rfl, rfl, rfl, Nat.le_refl _, fun _ _ _ => rfl⟩
theorem grown_put {w w' : World} {g : Nat} (h : w.grownBy w' (some g)) (i : Nat) (v : Value) : w.grownBy (w'.setCell ⟨g, i, none⟩ v) (some g) :=
  ⟨h.os, h.tape, h.output, by simp [World.setCell]; exact h.size, fun k hk hne => (Below.heap_setCell w' ⟨g, i, none⟩ v k (fun e => hne (by rw [e]))).trans (h.block k hk hne)⟩
theorem grown_below {w w' : World} (row : Option Nat) (h : Below w.heap.size w w') : w.grownBy w' row := ⟨h.os, h.tape, h.output, h.size, fun k hk _ => h.block k hk⟩

/-- an expression -/
inductive Ex where
  | mk (kind op : Nat) (num : Int) (name : ByteArray) (names : List ByteArray) (kids : List Ex) (line col : Int)

/-- a row of texts -/
def Strs (w : World) (a : Option Addr) (l : List ByteArray) : Prop :=
  ∀ i s, l[i]? = some s → ∃ b off, a = some ⟨b, off, none⟩ ∧ w.cell? ⟨b, off + i, none⟩ = some (.string s) ∧ s.size ≤ maxLen

mutual
/-- an expression's cells -/
def LaidC (w : World) : Ex → List Value → Prop
  | .mk k o n nm nms kids l c, cs => k ≤ 255 ∧ o ≤ 255 ∧ nm.size ≤ maxLen ∧ nms.length ≤ maxLen ∧ kids.length ≤ maxLen ∧ ∃ na nc ka kc, nms.length ≤ nc ∧ kids.length ≤ kc ∧
      cs = [.int .u8 k, .int .u8 o, .int .i32 n, .string nm, .slice na nms.length nc, .slice ka kids.length kc, .int .i64 l, .int .i64 c] ∧ Strs w na nms ∧ LaidK w ka kids
/-- a row of expressions -/
def LaidK (w : World) (a : Option Addr) : List Ex → Prop
  | [] => True
  | x :: r => ∃ b off cs, a = some ⟨b, off, none⟩ ∧ (∀ j v, cs[j]? = some v → w.cell? ⟨b, off + j, none⟩ = some v) ∧ LaidC w x cs ∧ LaidK w (some ⟨b, off + 8, none⟩) r
end

/-- an expression at a place -/
def LaidAt (w : World) (b off : Nat) (x : Ex) : Prop := ∃ cs, (∀ j v, cs[j]? = some v → w.cell? ⟨b, off + j, none⟩ = some v) ∧ LaidC w x cs

theorem LaidK.get {w : World} {a : Option Addr} {l : List Ex} (h : LaidK w a l) (i : Nat) (hi : i < l.length) : ∃ b off, a = some ⟨b, off, none⟩ ∧ LaidAt w b (off + i * 8) l[i] := by
  induction l generalizing a i with
  | nil => simp at hi
  | cons x r ih =>
    unfold LaidK at h
    obtain ⟨b, off, cs, rfl, hc, hx, hr⟩ := h
    cases i with
    | zero => exact ⟨b, off, rfl, cs, by simpa using hc, hx⟩
    | succ i =>
      obtain ⟨b', off', e, hl⟩ := ih hr i (by simpa using hi)
      simp only [Option.some.injEq, Addr.mk.injEq] at e
      obtain ⟨rfl, rfl, _⟩ := e
      exact ⟨_, off, rfl, by rw [show off + (i + 1) * 8 = off + 8 + i * 8 by omega]; exact hl⟩

mutual
theorem LaidC.below {w w' : World} (hb : Below w.heap.size w w') : ∀ (x : Ex) (cs : List Value), LaidC w x cs → LaidC w' x cs
  | .mk k o n nm nms kids l c, cs, h => by
    unfold LaidC at h ⊢
    obtain ⟨h1, h2, h3, h4, h5, na, nc, ka, kc, g1, g2, e, hs, hk⟩ := h
    refine ⟨h1, h2, h3, h4, h5, na, nc, ka, kc, g1, g2, e, ?_, LaidK.below hb ka kids hk⟩
    intro i s hi
    obtain ⟨b, off, e, hc, hz⟩ := hs i s hi
    exact ⟨b, off, e, (hb.cell (p := ⟨b, off + i, none⟩) (World.block_lt_of_cell? w _ hc)).trans hc, hz⟩
theorem LaidK.below {w w' : World} (hb : Below w.heap.size w w') : ∀ (a : Option Addr) (l : List Ex), LaidK w a l → LaidK w' a l
  | _, [], _ => by unfold LaidK; trivial
  | _, x :: r, h => by
    unfold LaidK at h ⊢
    obtain ⟨b, off, cs, e, hc, hx, hr⟩ := h
    exact ⟨b, off, cs, e, fun j v hj => (hb.cell (p := ⟨b, off + j, none⟩) (World.block_lt_of_cell? w _ (hc j v hj))).trans (hc j v hj), LaidC.below hb x cs hx, LaidK.below hb _ r hr⟩
end

theorem LaidAt.below {w w' : World} {b off : Nat} {x : Ex} (h : LaidAt w b off x) (hb : Below w.heap.size w w') : LaidAt w' b off x := by
  obtain ⟨cs, hc, hx⟩ := h
  exact ⟨cs, fun j v hj => (hb.cell (p := ⟨b, off + j, none⟩) (World.block_lt_of_cell? w _ (hc j v hj))).trans (hc j v hj), hx.below hb⟩

mutual
def sz : Ex → Nat
  | .mk _ _ _ _ _ kids _ _ => 1 + szK kids
def szK : List Ex → Nat
  | [] => 0
  | x :: r => sz x + szK r
end
theorem sz_pos (x : Ex) : 1 ≤ sz x := by cases x; unfold sz; omega
theorem sz_kid (l : List Ex) (i : Nat) (hi : i < l.length) : sz l[i] ≤ szK l := by
  induction l generalizing i with
  | nil => simp at hi
  | cons x r ih =>
    unfold szK
    cases i with
    | zero => simp
    | succ i =>
      have := ih i (by simpa using hi)
      simp only [List.getElem_cons_succ]
      omega

/-- is a kid one whose value comes out only later? -/
def behindB (k i : Nat) : Bool := decide (k = 10) || (decide (k = 9) && decide (i = 1))
mutual
/-- the names that a walk finds -/
def calls (later : Bool) : Ex → List ByteArray
  | .mk k _ _ nm _ kids _ _ => (if k = 4 ∨ k = 13 then [nm] else []) ++ (callsK later k 0 kids ++ if k = 12 then [nm] else [])
def callsK (later : Bool) (k : Nat) : Nat → List Ex → List ByteArray
  | _, [] => []
  | i, x :: r => (if later || !behindB k i then calls later x else []) ++ callsK later k (i + 1) r
end

/-- a list of names, each once -/
def addN (l : List ByteArray) (s : ByteArray) : List ByteArray := if l.any (fun x => x.data.toList == s.data.toList) then l else l ++ [s]
def addAll (l : List ByteArray) (ss : List ByteArray) : List ByteArray := ss.foldl addN l
theorem addAll_app (l a b : List ByteArray) : addAll l (a ++ b) = addAll (addAll l a) b := by simp [addAll]

mutual
def depthE : Ex → Nat
  | .mk _ _ _ _ _ kids _ _ => 1 + depthK kids
def depthK : List Ex → Nat
  | [] => 0
  | x :: r => max (depthE x) (depthK r)
end
end Go.Proofs.YtnejkgkikpgajaaDoor.tr
