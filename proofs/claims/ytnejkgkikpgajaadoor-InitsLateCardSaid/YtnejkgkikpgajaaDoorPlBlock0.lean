/-
  The places of a block of one variable and some definitions, as the reference lays them.
-/
import Derived.Test.YtnejkgkikpgajaaDoorPlVars
namespace Go.Proofs.YtnejkgkikpgajaaDoor.ck
open Go.ChangeShapes Go.WideShapes Go.ChangeAt Go.RowKit
open tr
set_option linter.unusedVariables false
set_option linter.unusedSimpArgs false

theorem eq_info : (Tryd.prog.info? 64).map (fun i => (i.zero, i.size, i.bytes)) = some (some (.agg #[.int .u8 0, .slice none 0 0, .string ⟨#[]⟩, .slice none 0 0, .bool false, .int .u8 0, .int .u8 0, .int .i32 0, .string ⟨#[]⟩, .slice none 0 0, .slice none 0 0, .int .i64 0, .int .i64 0, .slice none 0 0, .int .i64 0, .int .i64 0]), 16, 208) := by kernel_rfl

/-- what the loop over the equations keeps: wB the world behind the variables, g the block that is made -/
def QlAt (wB : World) (c g : Nat) (ok : Nat → Prop) (vs : Value) (l : List Qd) (j : Nat) (W : World) : Prop :=
  Kp [c, g] wB W ∧ CtrAt W c ∧ ∃ (v : Value) (xs : List Value), Has W g 45 #[vs, v] ∧ W.ownsRow wB.heap.size 64 16 v j xs ∧ CellsQ W (fun b => ((ok b ∧ b ≠ g ∧ b < wB.heap.size) ∨ wB.heap.size ≤ b) ∧ v.ownBlock ≠ some b) (l.take j) xs

theorem QlAt.step {wB W w2 W3 w3 : World} {c g V : Nat} {ok : Nat → Prop} {vs v : Value} {l : List Qd} {j : Nat} {xs : List Value} {y : Ex} {ycs : List Value} {px : Int} {g3 cap3 : Nat} (hcb : c < wB.heap.size) (hgb : g < wB.heap.size) (hcg : c ≠ g) (hokc : ∀ b, ok b → b ≠ c) (hj : j < l.length)
    (h1 : Kp [c, g] wB W) (h3 : Has W g 45 #[vs, v]) (ho : W.ownsRow wB.heap.size 64 16 v j xs) (hc : CellsQ W (fun b => ((ok b ∧ b ≠ g ∧ b < wB.heap.size) ∨ wB.heap.size ≤ b) ∧ v.ownBlock ≠ some b) (l.take j) xs)
    (hV : V = W.heap.size) (hg : ∀ b o u, b ≠ c → b < W.heap.size → W.cell? ⟨b, o, none⟩ = some u → w2.cell? ⟨b, o, none⟩ = some u) (hb3 : But w2 W3 V) (hC : CtrAt W3 c) (hG : Has W3 g 45 #[vs, v]) (hK : Kp [c, g] wB W3) (hs : W.heap.size + 1 ≤ W3.heap.size) (hR : W3.ownsRow wB.heap.size 64 16 v j xs)
    (hy : LaidP w2 (fun b => (ok b ∧ b ≠ g ∧ b < wB.heap.size) ∨ W.heap.size + 1 ≤ b) y ycs) (he : er y = er l[j].e)
    (ho3 : w3.ownsRow wB.heap.size 64 16 (.slice (some ⟨g3, 0, none⟩) (j + 1) cap3) (j + 1) (xs ++ qcells l[j] ycs px 1)) (hg3 : (W3.alloc (.cells (qcells l[j] ycs px 1).toArray 64)).grownBy w3 v.ownBlock) (hat : v.ownBlock = some g3 ∨ g3 = (W3.alloc (.cells (qcells l[j] ycs px 1).toArray 64)).heap.size) :
    QlAt wB c g ok vs l (j + 1) (w3.setCell ⟨g, 1, none⟩ (.slice (some ⟨g3, 0, none⟩) (j + 1) cap3)) := by
  have nV : v.ownBlock ≠ some V := fun e => by have := (ho.lt V e).2; omega
  have ng : v.ownBlock ≠ some g := own_ge ho hgb
  have nc : v.ownBlock ≠ some c := own_ge ho hcb
  have hlow : ∀ k, v.ownBlock = some k → wB.heap.size ≤ k ∧ k < W.heap.size := fun k hk => ho.lt k hk
  have hs3 := hg3.size
  simp only [World.size_alloc] at hs3 hat
  have hbig : wB.heap.size ≤ W.heap.size := h1.size
  have hsz : W3.heap.size = w2.heap.size := hb3.1
  have hg3g : g3 ≠ g := by
    rcases hat with h | h
    · exact fun e => ng (by rw [h, e])
    · omega
  have keep3 : ∀ b o u, v.ownBlock ≠ some b → b ≠ g → W3.cell? ⟨b, o, none⟩ = some u → (w3.setCell ⟨g, 1, none⟩ (.slice (some ⟨g3, 0, none⟩) (j + 1) cap3)).cell? ⟨b, o, none⟩ = some u := fun b o u hv hb hu => by
    have hl : b < W3.heap.size := World.block_lt_of_cell? W3 _ hu
    refine cell_put hb ?_
    have e2 := hg3.block b (by simp only [World.size_alloc]; omega) (fun e => hv e.symm)
    have e3 : (W3.alloc (.cells (qcells l[j] ycs px 1).toArray 64)).heap[b]? = W3.heap[b]? := Below.heap_alloc _ _ _ hl
    unfold World.cell? at hu ⊢
    rw [e2, e3]; exact hu
  have hKp : Kp [c, g] wB w3 := (hK.alloc _).grownRow hg3 (fun k hk => (hlow k hk).1)
  refine ⟨hKp.but ((But.refl _ _).put 1 _) (.inl (by simp)), ?_, .slice (some ⟨g3, 0, none⟩) (j + 1) cap3, xs ++ qcells l[j] ycs px 1, ?_, ?_, ?_⟩
  · obtain ⟨n, hn⟩ := hC
    exact ⟨n, ((hn.alloc _).grown hg3 (fun e => nc e.symm)).put_far 1 _ hcg⟩
  · have := ((hG.alloc (.cells (qcells l[j] ycs px 1).toArray 64)).grown hg3 (fun e => ng e.symm)).put 1 (.slice (some ⟨g3, 0, none⟩) (j + 1) cap3)
    simpa using this
  · exact ((But.refl w3 g).put 1 _).row ho3 (by simp [Value.ownBlock]; exact hg3g)
  · rw [show l.take (j + 1) = l.take j ++ [l[j]] from List.take_succ_eq_append_getElem hj]
    have k1 : CellsQ (w3.setCell ⟨g, 1, none⟩ (.slice (some ⟨g3, 0, none⟩) (j + 1) cap3)) (fun b => ((ok b ∧ b ≠ g ∧ b < wB.heap.size) ∨ wB.heap.size ≤ b) ∧ (Value.slice (some ⟨g3, 0, none⟩) (j + 1) cap3).ownBlock ≠ some b) (l.take j) xs := by
      refine CellsQ.keep ?_ ?_ hc
      · intro b hbl hb
        refine ⟨hb.1, fun e => ?_⟩
        have e' : g3 = b := by simpa [Value.ownBlock] using e
        subst e'
        rcases hat with hat | hat
        · exact hb.2 hat
        · omega
      · intro b o u hb hu
        have hbl : b < W.heap.size := World.block_lt_of_cell? W _ hu
        have hbc : b ≠ c := by
          rcases hb.1 with h | h
          · exact hokc b h.1
          · omega
        have hbg : b ≠ g := by
          rcases hb.1 with h | h
          · exact h.2.1
          · omega
        exact keep3 b o u hb.2 hbg (hb3.cell (by omega) (hg b o u hbc hbl hu))
    have k2 : CellsQ (w3.setCell ⟨g, 1, none⟩ (.slice (some ⟨g3, 0, none⟩) (j + 1) cap3)) (fun b => ((ok b ∧ b ≠ g ∧ b < wB.heap.size) ∨ wB.heap.size ≤ b) ∧ (Value.slice (some ⟨g3, 0, none⟩) (j + 1) cap3).ownBlock ≠ some b) [l[j]] (qcells l[j] ycs px 1) := by
      refine ⟨ycs, [], px, 1, by simp, ⟨y, he, LaidP.keep ?_ ?_ _ _ hy⟩, rfl⟩
      · intro b hbl hb
        refine ⟨?_, fun e => ?_⟩
        · rcases hb with h | h
          · exact .inl h
          · exact .inr (by omega)
        · have e' : g3 = b := by simpa [Value.ownBlock] using e
          subst e'
          rcases hat with hat | hat
          · have := hlow g3 hat
            rcases hb with h | h
            · omega
            · omega
          · omega
      · intro b o u hb hu
        have hbV : b ≠ V := by
          rcases hb with h | h
          · omega
          · omega
        have hbg : b ≠ g := by
          rcases hb with h | h
          · exact h.2.1
          · omega
        refine keep3 b o u (fun e => ?_) hbg (hb3.cell hbV hu)
        have := hlow b e
        rcases hb with h | h
        · omega
        · omega
    exact k1.app k2
end Go.Proofs.YtnejkgkikpgajaaDoor.ck
