/-
  Stores of whole structs, cell by cell: what lies there then, and elsewhere.
-/
import Derived.Test.YtnejkgkikpgajaaDoorCkRows
namespace Go.Proofs.YtnejkgkikpgajaaDoor.ck
open Go.ChangeShapes Go.WideShapes Go.ChangeAt Go.RowKit
open tr
set_option linter.unusedVariables false

theorem grown_fresh {w W : World} {c N : Nat} (h : w.grownBy W (some c)) (hN : w.heap.size ≤ N) (i : Nat) (v : Value) : w.grownBy (W.setCell ⟨N, i, none⟩ v) (some c) :=
  ⟨h.os, h.tape, h.output, by simp [World.setCell]; exact h.size, fun k hk hne => (Below.heap_setCell W ⟨N, i, none⟩ v k (show k ≠ N by omega)).trans (h.block k hk hne)⟩
theorem grown_alloc {w W : World} {c : Option Nat} (h : w.grownBy W c) (o : Obj) : w.grownBy (W.alloc o) c :=
  ⟨h.os, h.tape, h.output, by simp; exact Nat.le_trans h.size (Nat.le_succ _), fun k hk hne => (Below.heap_alloc W o k (Nat.lt_of_lt_of_le hk h.size)).trans (h.block k hk hne)⟩
theorem cell_put {W : World} {N i b o : Nat} {v u : Value} (h : b ≠ N) (hc : W.cell? ⟨b, o, none⟩ = some u) : (W.setCell ⟨N, i, none⟩ v).cell? ⟨b, o, none⟩ = some u := by
  have := Below.heap_setCell W ⟨N, i, none⟩ v b h
  unfold World.cell? at hc ⊢
  rw [this]; exact hc
/-- W' is W but for block N -/
def But (W W' : World) (N : Nat) : Prop := W'.heap.size = W.heap.size ∧ W'.os = W.os ∧ W'.tape = W.tape ∧ W'.output = W.output ∧ ∀ k, k ≠ N → W'.heap[k]? = W.heap[k]?
theorem But.refl (W : World) (N : Nat) : But W W N := ⟨rfl, rfl, rfl, rfl, fun _ _ => rfl⟩
theorem But.put {W W' : World} {N : Nat} (h : But W W' N) (i : Nat) (v : Value) : But W (W'.setCell ⟨N, i, none⟩ v) N := by
  obtain ⟨h1, h2, h3, h4, h5⟩ := h
  exact ⟨by simp [World.setCell]; exact h1, h2, h3, h4, fun k hk => (Below.heap_setCell W' ⟨N, i, none⟩ v k hk).trans (h5 k hk)⟩
theorem But.cell {W W' : World} {N : Nat} (h : But W W' N) {b o : Nat} {v : Value} (hb : b ≠ N) (hc : W.cell? ⟨b, o, none⟩ = some v) : W'.cell? ⟨b, o, none⟩ = some v := by
  unfold World.cell? at hc ⊢
  rw [h.2.2.2.2 b hb]; exact hc
theorem But.has {W W' : World} {N : Nat} (h : But W W' N) {b : Nat} {t : TypeId} {cs : Array Value} (hb : b ≠ N) (hc : Has W b t cs) : Has W' b t cs := (h.2.2.2.2 b hb).trans hc
theorem But.grown {W W' w : World} {N c : Nat} (h : But W W' N) (hg : w.grownBy W (some c)) (hN : w.heap.size ≤ N) : w.grownBy W' (some c) := by
  obtain ⟨h1, h2, h3, h4, h5⟩ := h
  exact ⟨h2.trans hg.os, h3.trans hg.tape, h4.trans hg.output, by rw [h1]; exact hg.size, fun k hk hne => (h5 k (by omega)).trans (hg.block k hk hne)⟩
theorem But.below {W W' w : World} {N B : Nat} (h : But W W' N) (hg : Below B w W) (hN : B ≤ N) : Below B w W' := by
  obtain ⟨h1, h2, h3, h4, h5⟩ := h
  exact ⟨h2.trans hg.os, h3.trans hg.tape, h4.trans hg.output, by rw [h1]; exact hg.size, fun k hk => (h5 k (by omega)).trans (hg.block k hk)⟩
theorem But.row {W W' : World} {N base n size : Nat} {e : TypeId} {v : Value} {xs : List Value} (h : But W W' N) (ho : W.ownsRow base e size v n xs) (hN : v.ownBlock ≠ some N) : W'.ownsRow base e size v n xs := by
  obtain ⟨h1, h2⟩ := ho
  refine ⟨h1, ?_⟩
  rcases h2 with h2 | ⟨g, cap, cur, rfl, hb, hg, hr⟩
  · exact .inl h2
  · exact .inr ⟨g, cap, cur, rfl, hb, (h.2.2.2.2 g (fun e => hN (by rw [e]; rfl))).trans hg, hr⟩
theorem row_grown {w w' : World} {base c n size : Nat} {e : TypeId} {v : Value} {xs : List Value} (ho : w.ownsRow base e size v n xs) (hg : w.grownBy w' (some c)) (hc : c < base) : w'.ownsRow base e size v n xs := by
  obtain ⟨h1, h2⟩ := ho
  refine ⟨h1, ?_⟩
  rcases h2 with h2 | ⟨g, cap, cur, rfl, hb, hh, hr⟩
  · exact .inl h2
  · have hl : g < w.heap.size := (Array.getElem?_eq_some_iff.1 hh).1
    exact .inr ⟨g, cap, cur, rfl, hb, (hg.block g hl (fun e => by injection e with e; omega)).trans hh, hr⟩
theorem row_alloc {w : World} {base n size : Nat} {e : TypeId} {v : Value} {xs : List Value} (ho : w.ownsRow base e size v n xs) (o : Obj) : (w.alloc o).ownsRow base e size v n xs := by
  obtain ⟨h1, h2⟩ := ho
  refine ⟨h1, ?_⟩
  rcases h2 with h2 | ⟨g, cap, cur, rfl, hb, hh, hr⟩
  · exact .inl h2
  · have hl : g < w.heap.size := (Array.getElem?_eq_some_iff.1 hh).1
    exact .inr ⟨g, cap, cur, rfl, hb, (Below.heap_alloc w o g hl).trans hh, hr⟩
theorem but2 (W : World) (N : Nat) (d0 d1 : Value) : But W ((W.setCell ⟨N, 0, none⟩ d0).setCell ⟨N, 1, none⟩ d1) N := ((But.refl W N).put 0 d0).put 1 d1
theorem self2 {W : World} {N : Nat} {ty : TypeId} {c0 c1 : Value} (h : Has W N ty #[c0, c1]) (d0 d1 : Value) : Has ((W.setCell ⟨N, 0, none⟩ d0).setCell ⟨N, 1, none⟩ d1) N ty #[d0, d1] := by
  have := ((h.put 0 d0).put 1 d1)
  simpa using this
theorem but4 (W : World) (N : Nat) (d0 d1 d2 d3 : Value) : But W ((((W.setCell ⟨N, 0, none⟩ d0).setCell ⟨N, 1, none⟩ d1).setCell ⟨N, 2, none⟩ d2).setCell ⟨N, 3, none⟩ d3) N := ((((But.refl W N).put 0 d0).put 1 d1).put 2 d2).put 3 d3
theorem self4 {W : World} {N : Nat} {ty : TypeId} {c0 c1 c2 c3 : Value} (h : Has W N ty #[c0, c1, c2, c3]) (d0 d1 d2 d3 : Value) : Has ((((W.setCell ⟨N, 0, none⟩ d0).setCell ⟨N, 1, none⟩ d1).setCell ⟨N, 2, none⟩ d2).setCell ⟨N, 3, none⟩ d3) N ty #[d0, d1, d2, d3] := by
  have := ((((h.put 0 d0).put 1 d1).put 2 d2).put 3 d3)
  simpa using this
theorem but7 (W : World) (N : Nat) (d0 d1 d2 d3 d4 d5 d6 : Value) : But W (((((((W.setCell ⟨N, 0, none⟩ d0).setCell ⟨N, 1, none⟩ d1).setCell ⟨N, 2, none⟩ d2).setCell ⟨N, 3, none⟩ d3).setCell ⟨N, 4, none⟩ d4).setCell ⟨N, 5, none⟩ d5).setCell ⟨N, 6, none⟩ d6) N := (((((((But.refl W N).put 0 d0).put 1 d1).put 2 d2).put 3 d3).put 4 d4).put 5 d5).put 6 d6
theorem self7 {W : World} {N : Nat} {ty : TypeId} {c0 c1 c2 c3 c4 c5 c6 : Value} (h : Has W N ty #[c0, c1, c2, c3, c4, c5, c6]) (d0 d1 d2 d3 d4 d5 d6 : Value) : Has (((((((W.setCell ⟨N, 0, none⟩ d0).setCell ⟨N, 1, none⟩ d1).setCell ⟨N, 2, none⟩ d2).setCell ⟨N, 3, none⟩ d3).setCell ⟨N, 4, none⟩ d4).setCell ⟨N, 5, none⟩ d5).setCell ⟨N, 6, none⟩ d6) N ty #[d0, d1, d2, d3, d4, d5, d6] := by
  have := (((((((h.put 0 d0).put 1 d1).put 2 d2).put 3 d3).put 4 d4).put 5 d5).put 6 d6)
  simpa using this
theorem but8 (W : World) (N : Nat) (d0 d1 d2 d3 d4 d5 d6 d7 : Value) : But W ((((((((W.setCell ⟨N, 0, none⟩ d0).setCell ⟨N, 1, none⟩ d1).setCell ⟨N, 2, none⟩ d2).setCell ⟨N, 3, none⟩ d3).setCell ⟨N, 4, none⟩ d4).setCell ⟨N, 5, none⟩ d5).setCell ⟨N, 6, none⟩ d6).setCell ⟨N, 7, none⟩ d7) N := ((((((((But.refl W N).put 0 d0).put 1 d1).put 2 d2).put 3 d3).put 4 d4).put 5 d5).put 6 d6).put 7 d7
theorem self8 {W : World} {N : Nat} {ty : TypeId} {c0 c1 c2 c3 c4 c5 c6 c7 : Value} (h : Has W N ty #[c0, c1, c2, c3, c4, c5, c6, c7]) (d0 d1 d2 d3 d4 d5 d6 d7 : Value) : Has ((((((((W.setCell ⟨N, 0, none⟩ d0).setCell ⟨N, 1, none⟩ d1).setCell ⟨N, 2, none⟩ d2).setCell ⟨N, 3, none⟩ d3).setCell ⟨N, 4, none⟩ d4).setCell ⟨N, 5, none⟩ d5).setCell ⟨N, 6, none⟩ d6).setCell ⟨N, 7, none⟩ d7) N ty #[d0, d1, d2, d3, d4, d5, d6, d7] := by
  have := ((((((((h.put 0 d0).put 1 d1).put 2 d2).put 3 d3).put 4 d4).put 5 d5).put 6 d6).put 7 d7)
  simpa using this
theorem but15 (W : World) (N : Nat) (d0 d1 d2 d3 d4 d5 d6 d7 d8 d9 d10 d11 d12 d13 d14 : Value) : But W (((((((((((((((W.setCell ⟨N, 0, none⟩ d0).setCell ⟨N, 1, none⟩ d1).setCell ⟨N, 2, none⟩ d2).setCell ⟨N, 3, none⟩ d3).setCell ⟨N, 4, none⟩ d4).setCell ⟨N, 5, none⟩ d5).setCell ⟨N, 6, none⟩ d6).setCell ⟨N, 7, none⟩ d7).setCell ⟨N, 8, none⟩ d8).setCell ⟨N, 9, none⟩ d9).setCell ⟨N, 10, none⟩ d10).setCell ⟨N, 11, none⟩ d11).setCell ⟨N, 12, none⟩ d12).setCell ⟨N, 13, none⟩ d13).setCell ⟨N, 14, none⟩ d14) N := (((((((((((((((But.refl W N).put 0 d0).put 1 d1).put 2 d2).put 3 d3).put 4 d4).put 5 d5).put 6 d6).put 7 d7).put 8 d8).put 9 d9).put 10 d10).put 11 d11).put 12 d12).put 13 d13).put 14 d14
theorem self15 {W : World} {N : Nat} {ty : TypeId} {c0 c1 c2 c3 c4 c5 c6 c7 c8 c9 c10 c11 c12 c13 c14 : Value} (h : Has W N ty #[c0, c1, c2, c3, c4, c5, c6, c7, c8, c9, c10, c11, c12, c13, c14]) (d0 d1 d2 d3 d4 d5 d6 d7 d8 d9 d10 d11 d12 d13 d14 : Value) : Has (((((((((((((((W.setCell ⟨N, 0, none⟩ d0).setCell ⟨N, 1, none⟩ d1).setCell ⟨N, 2, none⟩ d2).setCell ⟨N, 3, none⟩ d3).setCell ⟨N, 4, none⟩ d4).setCell ⟨N, 5, none⟩ d5).setCell ⟨N, 6, none⟩ d6).setCell ⟨N, 7, none⟩ d7).setCell ⟨N, 8, none⟩ d8).setCell ⟨N, 9, none⟩ d9).setCell ⟨N, 10, none⟩ d10).setCell ⟨N, 11, none⟩ d11).setCell ⟨N, 12, none⟩ d12).setCell ⟨N, 13, none⟩ d13).setCell ⟨N, 14, none⟩ d14) N ty #[d0, d1, d2, d3, d4, d5, d6, d7, d8, d9, d10, d11, d12, d13, d14] := by
  have := (((((((((((((((h.put 0 d0).put 1 d1).put 2 d2).put 3 d3).put 4 d4).put 5 d5).put 6 d6).put 7 d7).put 8 d8).put 9 d9).put 10 d10).put 11 d11).put 12 d12).put 13 d13).put 14 d14)
  simpa using this
theorem but16 (W : World) (N : Nat) (d0 d1 d2 d3 d4 d5 d6 d7 d8 d9 d10 d11 d12 d13 d14 d15 : Value) : But W ((((((((((((((((W.setCell ⟨N, 0, none⟩ d0).setCell ⟨N, 1, none⟩ d1).setCell ⟨N, 2, none⟩ d2).setCell ⟨N, 3, none⟩ d3).setCell ⟨N, 4, none⟩ d4).setCell ⟨N, 5, none⟩ d5).setCell ⟨N, 6, none⟩ d6).setCell ⟨N, 7, none⟩ d7).setCell ⟨N, 8, none⟩ d8).setCell ⟨N, 9, none⟩ d9).setCell ⟨N, 10, none⟩ d10).setCell ⟨N, 11, none⟩ d11).setCell ⟨N, 12, none⟩ d12).setCell ⟨N, 13, none⟩ d13).setCell ⟨N, 14, none⟩ d14).setCell ⟨N, 15, none⟩ d15) N := ((((((((((((((((But.refl W N).put 0 d0).put 1 d1).put 2 d2).put 3 d3).put 4 d4).put 5 d5).put 6 d6).put 7 d7).put 8 d8).put 9 d9).put 10 d10).put 11 d11).put 12 d12).put 13 d13).put 14 d14).put 15 d15
theorem self16 {W : World} {N : Nat} {ty : TypeId} {c0 c1 c2 c3 c4 c5 c6 c7 c8 c9 c10 c11 c12 c13 c14 c15 : Value} (h : Has W N ty #[c0, c1, c2, c3, c4, c5, c6, c7, c8, c9, c10, c11, c12, c13, c14, c15]) (d0 d1 d2 d3 d4 d5 d6 d7 d8 d9 d10 d11 d12 d13 d14 d15 : Value) : Has ((((((((((((((((W.setCell ⟨N, 0, none⟩ d0).setCell ⟨N, 1, none⟩ d1).setCell ⟨N, 2, none⟩ d2).setCell ⟨N, 3, none⟩ d3).setCell ⟨N, 4, none⟩ d4).setCell ⟨N, 5, none⟩ d5).setCell ⟨N, 6, none⟩ d6).setCell ⟨N, 7, none⟩ d7).setCell ⟨N, 8, none⟩ d8).setCell ⟨N, 9, none⟩ d9).setCell ⟨N, 10, none⟩ d10).setCell ⟨N, 11, none⟩ d11).setCell ⟨N, 12, none⟩ d12).setCell ⟨N, 13, none⟩ d13).setCell ⟨N, 14, none⟩ d14).setCell ⟨N, 15, none⟩ d15) N ty #[d0, d1, d2, d3, d4, d5, d6, d7, d8, d9, d10, d11, d12, d13, d14, d15] := by
  have := ((((((((((((((((h.put 0 d0).put 1 d1).put 2 d2).put 3 d3).put 4 d4).put 5 d5).put 6 d6).put 7 d7).put 8 d8).put 9 d9).put 10 d10).put 11 d11).put 12 d12).put 13 d13).put 14 d14).put 15 d15)
  simpa using this
end Go.Proofs.YtnejkgkikpgajaaDoor.ck
