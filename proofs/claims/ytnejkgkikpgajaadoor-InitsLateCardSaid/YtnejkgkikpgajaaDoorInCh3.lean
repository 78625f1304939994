/-
  The law's block: its row of definitions, one more.
-/
import Derived.Test.YtnejkgkikpgajaaDoorInCh2
namespace Go.Proofs.YtnejkgkikpgajaaDoor.ini
open Go.ChangeShapes Go.WideShapes Go.ChangeAt Go.RowKit
open tr ck
set_option linter.unusedVariables false
set_option linter.unusedSimpArgs false
set_option linter.unnecessarySimpa false

theorem rows_ne {w : World} {base base' : Nat} {e e' : TypeId} {size size' n n' : Nat} {v v' : Value} {xs xs' : List Value} (h : w.ownsRow base e size v n xs) (h' : w.ownsRow base' e' size' v' n' xs') (hne : e' ≠ e) : v.ownBlock = none ∨ v.ownBlock ≠ v'.ownBlock := by
  rcases h.2 with ⟨rfl, _⟩ | ⟨g, cap, cur, rfl, _, hh, _⟩
  · exact .inl rfl
  · refine .inr fun e => ?_
    have := Has.own_ne (t := _) hh h' hne
    exact this (by rw [← e]; rfl)
def CellsN (W : World) (ok : Nat → Prop) (All : List Eqn) (xs : List Value) : Prop :=
  ∀ i (hi : i < All.length), ∃ (lb lc : Nat) (ecs : Array Value), ok lb ∧ W.cell? ⟨lb, 0, none⟩ = some (.string All[i].1) ∧ LaidP W ok All[i].2 ecs.toList ∧ ∀ (k : Nat) (u : Value), (qcells ⟨some ⟨lb, 0, none⟩, 1, lc, All[i].2⟩ ecs.toList 0 0)[k]? = some u → xs[i * 16 + k]? = some u
theorem CellsN.nil (W : World) (ok : Nat → Prop) (xs : List Value) : CellsN W ok [] xs := fun i hi => by simp at hi
theorem CellsN.app {W : World} {ok : Nat → Prop} {All : List Eqn} {xs : List Value} {q : Eqn} {lb lc : Nat} {ecs : Array Value} (h : CellsN W ok All xs) (hx : xs.length = All.length * 16) (h1 : ok lb) (h2 : W.cell? ⟨lb, 0, none⟩ = some (.string q.1)) (h3 : LaidP W ok q.2 ecs.toList) :
    CellsN W ok (All ++ [q]) (xs ++ qcells ⟨some ⟨lb, 0, none⟩, 1, lc, q.2⟩ ecs.toList 0 0) := fun i hi => by
  by_cases e : i < All.length
  · obtain ⟨lb', lc', ecs', g1, g2, g3, g4⟩ := h i e
    have ea : (All ++ [q])[i] = All[i] := List.getElem_append_left e
    rw [ea]
    refine ⟨lb', lc', ecs', g1, g2, g3, fun k u hk => ?_⟩
    have := g4 k u hk
    rw [List.getElem?_append_left (List.getElem?_eq_some_iff.1 this).1]
    exact this
  · have hi' : i = All.length := by simp at hi; omega
    subst hi'
    have ea : (All ++ [q])[All.length] = q := by simp
    rw [ea]
    refine ⟨lb, lc, ecs, h1, h2, h3, fun k u hk => ?_⟩
    rw [List.getElem?_append_right (by omega), hx, Nat.add_sub_cancel_left]
    exact hk
theorem CellsN.keep {w w' : World} {ok ok' : Nat → Prop} (ho : ∀ b, b < w.heap.size → ok b → ok' b) (hw : ∀ b o v, ok b → w.cell? ⟨b, o, none⟩ = some v → w'.cell? ⟨b, o, none⟩ = some v) {All : List Eqn} {xs : List Value} (h : CellsN w ok All xs) : CellsN w' ok' All xs := fun i hi => by
  obtain ⟨lb, lc, ecs, g1, g2, g3, g4⟩ := h i hi
  exact ⟨lb, lc, ecs, ho _ (World.block_lt_of_cell? w _ g2) g1, hw _ _ _ g1 g2, LaidP.keep ho hw _ _ g3, g4⟩
/-- behind some definitions -/
structure CI (w : World) (n : Nat) (va : Option Addr) (vc : Nat) (qa : Option Addr) (qc : Nat) (All : List Eqn) (xs : List Value) (W : World) : Prop where
  below : Below w.heap.size w W
  res : Has W w.heap.size 45 #[.slice none 0 0, .slice none 0 0]
  box : Has W (w.heap.size + 1) 45 #[.slice va n vc, .slice qa All.length qc]
  row : W.ownsRow (w.heap.size + 2) 54 15 (.slice va n vc) n (rowV n)
  eqs : W.ownsRow (w.heap.size + 2) 64 16 (.slice qa All.length qc) All.length xs
  cel : CellsN W (fun b => w.heap.size + 2 ≤ b ∧ (Value.slice qa All.length qc).ownBlock ≠ some b) All xs
  sh : ∀ q ∈ All, wfE q.2 = true ∧ sz q.2 ≤ 10
theorem CI.first {w W : World} {n : Nat} {va : Option Addr} {vc : Nat} (h : VI w va vc n W) : CI w n va vc none 0 [] [] W :=
  ⟨h.below, h.res, h.box, h.row, World.ownsRow_nil _ _ _ _, CellsN.nil _ _ _, fun q hq => by simp at hq⟩
theorem CI.belowW {w W W' : World} {n : Nat} {va : Option Addr} {vc : Nat} {qa : Option Addr} {qc : Nat} {All : List Eqn} {xs : List Value} (h : CI w n va vc qa qc All xs W) (hb : Below W.heap.size W W') : CI w n va vc qa qc All xs W' :=
  ⟨h.below.trans (hb.mono h.below.size), h.res.below hb h.res.lt, h.box.below hb h.box.lt,
    h.row.kept (grown_below none hb) (by by_cases e : (Value.slice va n vc).ownBlock = none; exact .inl e; exact .inr e),
    h.eqs.kept (grown_below none hb) (by by_cases e : (Value.slice qa All.length qc).ownBlock = none; exact .inl e; exact .inr e),
    h.cel.keep (fun _ _ h => h) (fun b o v _ hc => cell_below hb b o v hc), h.sh⟩
theorem CI.step {w W w5 : World} {n : Nat} {va : Option Addr} {vc : Nat} {qa : Option Addr} {qc : Nat} {All : List Eqn} {xs : List Value} {N0 : Nat} {g5 cap5 : Nat} {nm : ByteArray} {x : Ex} {ecs : Array Value} (h : CI w n va vc qa qc All xs W) (hN : N0 ≤ W.heap.size) (hQ : ∀ b, (Value.slice qa All.length qc).ownBlock = some b → b < N0) (hN2 : w.heap.size + 2 ≤ N0)
    (hx : LaidP W (fun b => N0 ≤ b) x ecs.toList) (hs : wfE x = true ∧ sz x ≤ 10)
    (h1 : w5.ownsRow (w.heap.size + 2) 64 16 (.slice (some ⟨g5, 0, none⟩) (All.length + 1) cap5) (All.length + 1) (xs ++ qcells ⟨some ⟨W.heap.size, 0, none⟩, 1, 1, x⟩ ecs.toList 0 0))
    (h2 : ((W.alloc (.cells #[.string nm] 9)).alloc (.cells (qcells ⟨some ⟨W.heap.size, 0, none⟩, 1, 1, x⟩ ecs.toList 0 0).toArray 64)).grownBy w5 (Value.slice qa All.length qc).ownBlock)
    (h3 : (Value.slice qa All.length qc).ownBlock = some g5 ∨ g5 = ((W.alloc (.cells #[.string nm] 9)).alloc (.cells (qcells ⟨some ⟨W.heap.size, 0, none⟩, 1, 1, x⟩ ecs.toList 0 0).toArray 64)).heap.size) :
    Has w5 (w.heap.size + 1) 45 #[.slice va n vc, .slice qa All.length qc] ∧ CI w n va vc (some ⟨g5, 0, none⟩) cap5 (All ++ [(nm, x)]) (xs ++ qcells ⟨some ⟨W.heap.size, 0, none⟩, 1, 1, x⟩ ecs.toList 0 0) (w5.setCell ⟨w.heap.size + 1, 1, none⟩ (.slice (some ⟨g5, 0, none⟩) (All.length + 1) cap5)) := by
  have hs0 := h.below.size
  have hb8 : Below W.heap.size W ((W.alloc (.cells #[.string nm] 9)).alloc (.cells (qcells ⟨some ⟨W.heap.size, 0, none⟩, 1, 1, x⟩ ecs.toList 0 0).toArray 64)) := ((Below.refl _ W).alloc (Nat.le_refl _) _).alloc (by simp) _
  have h8 := h.belowW hb8
  have hbx := h8.box.grown h2 (fun e => own_ge h.eqs (b := w.heap.size + 1) (by omega) e.symm)
  have hrs := h8.res.grown h2 (fun e => own_ge h.eqs (b := w.heap.size) (by omega) e.symm)
  have hb5 : Below w.heap.size w w5 := h8.below.grown h2 h8.below.size (fun g e => by have := (h.eqs.lt g e).1; omega)
  have hg5 := (h1.lt g5 (by simp [Value.ownBlock])).1
  have hs8 : ((W.alloc (.cells #[.string nm] 9)).alloc (.cells (qcells ⟨some ⟨W.heap.size, 0, none⟩, 1, 1, x⟩ ecs.toList 0 0).toArray 64)).heap.size = W.heap.size + 2 := by simp
  have hstr : ((W.alloc (.cells #[.string nm] 9)).alloc (.cells (qcells ⟨some ⟨W.heap.size, 0, none⟩, 1, 1, x⟩ ecs.toList 0 0).toArray 64)).cell? ⟨W.heap.size, 0, none⟩ = some (.string nm) := by
    have := ((Has.new W 9 #[.string nm]).alloc (.cells (qcells ⟨some ⟨W.heap.size, 0, none⟩, 1, 1, x⟩ ecs.toList 0 0).toArray 64)).cell 0
    simpa using this
  have far : ∀ b o v, (w.heap.size + 2 ≤ b ∧ (Value.slice qa All.length qc).ownBlock ≠ some b) → ((W.alloc (.cells #[.string nm] 9)).alloc (.cells (qcells ⟨some ⟨W.heap.size, 0, none⟩, 1, 1, x⟩ ecs.toList 0 0).toArray 64)).cell? ⟨b, o, none⟩ = some v → (w5.setCell ⟨w.heap.size + 1, 1, none⟩ (.slice (some ⟨g5, 0, none⟩) (All.length + 1) cap5)).cell? ⟨b, o, none⟩ = some v := fun b o v hb hc => by
    refine ((But.refl w5 (w.heap.size + 1)).put 1 _).cell (by omega) ?_
    have hl := World.block_lt_of_cell? _ _ hc
    have := h2.block b hl (fun e => hb.2 e.symm)
    unfold World.cell? at hc ⊢
    rw [this]; exact hc
  have up : ∀ b, b < W.heap.size + 2 → (w.heap.size + 2 ≤ b ∧ (Value.slice qa All.length qc).ownBlock ≠ some b) → (w.heap.size + 2 ≤ b ∧ (Value.slice (some ⟨g5, 0, none⟩) (All ++ [(nm, x)]).length cap5).ownBlock ≠ some b) := fun b hbl hb => by
    refine ⟨hb.1, fun e => ?_⟩
    have e' : g5 = b := by simpa [Value.ownBlock] using e
    rcases h3 with h3 | h3
    · exact hb.2 (by rw [h3, e'])
    · omega
  have hlen : (All ++ [(nm, x)]).length = All.length + 1 := by simp
  have fresh : ∀ b, N0 ≤ b → (w.heap.size + 2 ≤ b ∧ (Value.slice qa All.length qc).ownBlock ≠ some b) := fun b hb => ⟨by omega, fun e => by have := hQ b e; omega⟩
  refine ⟨hbx, hb5.setCell (by simp) _, hrs.put_far 1 _ (by omega), ?_, ?_, ?_, ?_, ?_⟩
  · rw [hlen]
    have := hbx.put 1 (.slice (some ⟨g5, 0, none⟩) (All.length + 1) cap5)
    simpa using this
  · have hr5 := h8.row.kept h2 (rows_ne h8.row h8.eqs (by decide))
    exact ((But.refl w5 (w.heap.size + 1)).put 1 _).row hr5 (own_ge hr5 (by omega))
  · rw [hlen]
    exact ((But.refl w5 (w.heap.size + 1)).put 1 _).row h1 (by simp [Value.ownBlock]; omega)
  · refine CellsN.app (lc := 1) (q := (nm, x)) (h8.cel.keep (fun b hb => up b (by rw [← hs8]; exact hb)) far) ?_ (up _ (by omega) (fresh _ (by omega))) (far _ _ _ (fresh _ (by omega)) hstr) ?_
    · have := h.eqs.1; omega
    · exact LaidP.keep (fun b hb h => up b (by rw [← hs8]; exact hb) (fresh b h)) (fun b o v h => far b o v (fresh b h)) _ _ (hx.below hb8)
  · intro q hq
    rcases List.mem_append.1 hq with hq | hq
    · exact h.sh q hq
    · rw [List.mem_singleton] at hq; rw [hq]; exact hs
end Go.Proofs.YtnejkgkikpgajaaDoor.ini
