/-
  What was there lies as it lay, but for some blocks; equations that were placed, as one list of cells.
-/
import Derived.Test.YtnejkgkikpgajaaDoorPlExpr
namespace Go.Proofs.YtnejkgkikpgajaaDoor.ck
open Go.ChangeShapes Go.WideShapes Go.ChangeAt Go.RowKit
open tr
set_option linter.unusedVariables false
set_option linter.unusedSimpArgs false

/-- w' is w, but for these blocks, and with new ones -/
structure Kp (S : List Nat) (w w' : World) : Prop where
  os : w'.os = w.os
  tape : w'.tape = w.tape
  output : w'.output = w.output
  size : w.heap.size ≤ w'.heap.size
  block : ∀ k, k < w.heap.size → k ∉ S → w'.heap[k]? = w.heap[k]?
theorem Kp.refl (S : List Nat) (w : World) : Kp S w w := ⟨rfl, rfl, rfl, Nat.le_refl _, fun _ _ _ => rfl⟩
theorem Kp.trans {S : List Nat} {a b c : World} (h : Kp S a b) (k : Kp S b c) : Kp S a c :=
  ⟨k.os.trans h.os, k.tape.trans h.tape, k.output.trans h.output, Nat.le_trans h.size k.size, fun i hi hn => (k.block i (Nat.lt_of_lt_of_le hi h.size) hn).trans (h.block i hi hn)⟩
theorem Kp.mono {S T : List Nat} {a b : World} (h : Kp S a b) (hs : ∀ x ∈ S, x ∈ T) : Kp T a b := ⟨h.os, h.tape, h.output, h.size, fun i hi hn => h.block i hi (fun hm => hn (hs i hm))⟩
theorem Kp.below {S : List Nat} {a w w' : World} (h : Kp S a w) (hb : Below w.heap.size w w') : Kp S a w' := h.trans ⟨hb.os, hb.tape, hb.output, hb.size, fun k hk _ => hb.block k hk⟩
theorem Kp.alloc {S : List Nat} {a w : World} (h : Kp S a w) (o : Obj) : Kp S a (w.alloc o) := h.below ((Below.refl _ w).alloc (Nat.le_refl _) o)
/-- a change of one block, of these or a new one -/
theorem Kp.grown {S : List Nat} {a w w' : World} {g : Nat} (h : Kp S a w) (hg : w.grownBy w' (some g)) (hs : g ∈ S ∨ a.heap.size ≤ g) : Kp S a w' :=
  ⟨hg.os.trans h.os, hg.tape.trans h.tape, hg.output.trans h.output, Nat.le_trans h.size hg.size, fun k hk hn => (hg.block k (Nat.lt_of_lt_of_le hk h.size) (fun e => by
    injection e with e
    subst e
    rcases hs with h1 | h1
    · exact hn h1
    · omega)).trans (h.block k hk hn)⟩
theorem Kp.grownRow {S : List Nat} {a w w' : World} {v : Option Nat} (h : Kp S a w) (hg : w.grownBy w' v) (hs : ∀ g, v = some g → a.heap.size ≤ g) : Kp S a w' :=
  ⟨hg.os.trans h.os, hg.tape.trans h.tape, hg.output.trans h.output, Nat.le_trans h.size hg.size, fun k hk hn => (hg.block k (Nat.lt_of_lt_of_le hk h.size) (fun e => by
    have := hs k e.symm
    omega)).trans (h.block k hk hn)⟩
theorem Kp.but {S : List Nat} {a w w' : World} {g : Nat} (h : Kp S a w) (hb : But w w' g) (hs : g ∈ S ∨ a.heap.size ≤ g) : Kp S a w' := by
  obtain ⟨h1, h2, h3, h4, h5⟩ := hb
  exact ⟨h2.trans h.os, h3.trans h.tape, h4.trans h.output, by rw [h1]; exact h.size, fun k hk hn => (h5 k (fun e => by
    subst e
    rcases hs with h1 | h1
    · exact hn h1
    · omega)).trans (h.block k hk hn)⟩
theorem Kp.cell {S : List Nat} {w w' : World} (h : Kp S w w') {b o : Nat} {v : Value} (hb : b ∉ S) (hc : w.cell? ⟨b, o, none⟩ = some v) : w'.cell? ⟨b, o, none⟩ = some v := by
  have hl : b < w.heap.size := World.block_lt_of_cell? w _ hc
  unfold World.cell? at hc ⊢
  rw [h.block b hl hb]; exact hc
theorem Kp.has {S : List Nat} {w w' : World} (h : Kp S w w') {b : Nat} {t : TypeId} {cs : Array Value} (hb : b ∉ S) (hc : Has w b t cs) : Has w' b t cs := (h.block b hc.lt hb).trans hc
theorem Kp.toGrown {w w' : World} {c g : Nat} {u : World} (h : Kp [c, g] w w') (hu : u.grownBy w (some c)) (hg : u.heap.size ≤ g) : u.grownBy w' (some c) :=
  ⟨h.os.trans hu.os, h.tape.trans hu.tape, h.output.trans hu.output, Nat.le_trans hu.size h.size, fun k hk hn => (h.block k (Nat.lt_of_lt_of_le hk hu.size) (fun hm => by
    simp only [List.mem_cons, List.not_mem_nil, or_false] at hm
    rcases hm with rfl | rfl
    · exact hn rfl
    · omega)).trans (hu.block k hk hn)⟩

/-- an equation of one variable, or of some: the row of its variables; its right side -/
structure Qd where
  la : Option Addr
  ll : Nat
  lc : Nat
  e : Ex
abbrev qcells (q : Qd) (ecs : List Value) (x y : Int) : List Value := [.int .u8 1, .slice q.la q.ll q.lc, .string ⟨#[]⟩, .slice none 0 0, .bool false] ++ ecs ++ [.slice none 0 0, .int .i64 x, .int .i64 y]
def CellsQ (w : World) (ok : Nat → Prop) : List Qd → List Value → Prop
  | [], xs => xs = []
  | q :: r, xs => ∃ ecs ys x y, xs = qcells q ecs x y ++ ys ∧ (∃ e', er e' = er q.e ∧ LaidP w ok e' ecs) ∧ CellsQ w ok r ys
theorem CellsQ.app {w : World} {ok : Nat → Prop} : ∀ {L M : List Qd} {xs ys : List Value}, CellsQ w ok L xs → CellsQ w ok M ys → CellsQ w ok (L ++ M) (xs ++ ys)
  | [], _, _, _, h, k => by rw [CellsQ] at h; rw [h]; exact k
  | x :: r, _, _, _, ⟨ecs, zs, a, b, e, h1, h2⟩, k => ⟨ecs, zs ++ _, a, b, by rw [e, List.append_assoc], h1, h2.app k⟩
theorem CellsQ.keep {w w' : World} {ok ok' : Nat → Prop} (ho : ∀ b, b < w.heap.size → ok b → ok' b) (hw : ∀ b o v, ok b → w.cell? ⟨b, o, none⟩ = some v → w'.cell? ⟨b, o, none⟩ = some v) : ∀ {L : List Qd} {xs : List Value}, CellsQ w ok L xs → CellsQ w' ok' L xs
  | [], _, h => h
  | x :: r, _, ⟨ecs, ys, a, b, e, ⟨e', h0, h1⟩, h2⟩ => ⟨ecs, ys, a, b, e, ⟨e', h0, LaidP.keep ho hw _ _ h1⟩, h2.keep ho hw⟩
/-- an equation that was placed, at block g, offset o -/
def QAt (w : World) (ok : Nat → Prop) (g o : Nat) (q : Qd) : Prop := ∃ (e' : Ex) (ecs : List Value) (x y : Int), er e' = er q.e ∧ LaidP w ok e' ecs ∧ ∀ (k : Nat) (v : Value), (qcells q ecs x y)[k]? = some v → w.cell? ⟨g, o + k, none⟩ = some v
theorem QAt.keep {w w' : World} {ok ok' : Nat → Prop} {g o : Nat} {q : Qd} (ho : ∀ b, b < w.heap.size → ok b → ok' b) (hw : ∀ b o v, ok b → w.cell? ⟨b, o, none⟩ = some v → w'.cell? ⟨b, o, none⟩ = some v) (hg : ok g) (h : QAt w ok g o q) : QAt w' ok' g o q := by
  obtain ⟨e', ecs, x, y, h1, h2, h3⟩ := h
  exact ⟨e', ecs, x, y, h1, LaidP.keep ho hw _ _ h2, fun k v hk => hw _ _ _ hg (h3 k v hk)⟩
mutual
theorem LaidP.laidC {w : World} {ok : Nat → Prop} : ∀ (x : Ex) (cs : List Value), LaidP w ok x cs → LaidC w x cs
  | .mk k o n nm nms kids l c, cs, h => by
    unfold LaidP at h
    unfold LaidC
    obtain ⟨h1, h2, h3, h4, h5, na, nc, ka, kc, g1, g2, e, hs, hk⟩ := h
    refine ⟨h1, h2, h3, h4, by unfold maxLen; omega, na, nc, ka, kc, g1, g2, e, fun i s hi => ?_, LaidPK.laidK ka kids hk⟩
    obtain ⟨b, off, e, _, hc, hz⟩ := hs i s hi
    exact ⟨b, off, e, hc, hz⟩
theorem LaidPK.laidK {w : World} {ok : Nat → Prop} : ∀ (a : Option Addr) (l : List Ex), LaidPK w ok a l → LaidK w a l
  | _, [], _ => by unfold LaidK; trivial
  | _, x :: r, h => by
    unfold LaidPK at h
    unfold LaidK
    obtain ⟨b, off, cs, e, _, hc, hx, hr⟩ := h
    exact ⟨b, off, cs, e, hc, LaidP.laidC x cs hx, LaidPK.laidK _ r hr⟩
end
theorem qcells_len {q : Qd} {ecs : List Value} {x y : Int} (h : ecs.length = 8) : (qcells q ecs x y).length = 16 := by simp [qcells, h]
theorem CellsQ.at_ {w : World} {ok : Nat → Prop} {g : Nat} : ∀ {L : List Qd} {xs : List Value} (o : Nat), CellsQ w ok L xs → (∀ k u, xs[k]? = some u → w.cell? ⟨g, o + k, none⟩ = some u) → ∀ i (hi : i < L.length), QAt w ok g (o + i * 16) L[i]
  | [], _, _, _, _, i, hi => by simp at hi
  | q :: r, _, o, ⟨ecs, ys, a, b, e, ⟨e', h0, h1⟩, h2⟩, hc, i, hi => by
    have hl := qcells_len (q := q) (x := a) (y := b) h1.len
    cases i with
    | zero =>
      refine ⟨e', ecs, a, b, h0, h1, fun k v hk => ?_⟩
      rw [show o + 0 * 16 + k = o + k by omega]
      refine hc k v ?_
      have hk' : (qcells q ecs a b)[k]? = some v := hk
      rw [e, List.getElem?_append_left (List.getElem?_eq_some_iff.1 hk').1]; exact hk'
    | succ i =>
      have := CellsQ.at_ (o + 16) h2 (fun k u hk => by
        have := hc (16 + k) u (by rw [e, List.getElem?_append_right (by omega), hl]; simpa using hk)
        rw [show o + 16 + k = o + (16 + k) by omega]; exact this) i (by simpa using hi)
      rw [show o + (i + 1) * 16 = o + 16 + i * 16 by omega]
      exact this
end Go.Proofs.YtnejkgkikpgajaaDoor.ck
