/-
  The places of an expression, as the reference lays them: what the loop over the kids keeps.
-/
import Derived.Test.YtnejkgkikpgajaaDoorPlNext
namespace Go.Proofs.YtnejkgkikpgajaaDoor.ck
open Go.ChangeShapes Go.WideShapes Go.ChangeAt Go.RowKit
open tr
set_option linter.unusedVariables false
set_option linter.unusedSimpArgs false

theorem add_plain (b o j : Nat) : (⟨b, o, none⟩ : Addr).add j = ⟨b, o + j, none⟩ := by simp [Addr.add]
theorem news_of (W : World) (cs : List Value) (t : TypeId) (b : Nat) (hb : b = W.heap.size) : ∀ j u, cs[j]? = some u → (W.alloc (.cells cs.toArray t)).cell? ((⟨b, 0, none⟩ : Addr).add j) = some u := by
  intro j u hj
  subst hb
  have := (Has.new W t cs.toArray).cell j
  rw [add_plain, Nat.zero_add, this]
  simpa using hj
theorem expr_info : (Tryd.prog.info? 29).map (fun i => (i.zero, i.size, i.bytes)) = some (some (.agg #[.int .u8 0, .int .u8 0, .int .i32 0, .string ⟨#[]⟩, .slice none 0 0, .slice none 0 0, .int .i64 0, .int .i64 0]), 8, 88) := by kernel_rfl
abbrev zeroE : Array Value := #[.int .u8 0, .int .u8 0, .int .i32 0, .string ⟨#[]⟩, .slice none 0 0, .slice none 0 0, .int .i64 0, .int .i64 0]

def PlacePost (w : World) (c : Nat) (ok : Nat → Prop) (x : Ex) (e : Ending) (w' : World) : Prop :=
  ∃ (y : Ex) (cs : Array Value), e = .returned (.agg cs) ∧ LaidP w' (fun b => ok b ∨ w.heap.size ≤ b) y cs.toList ∧ er y = er x ∧ CtrAt w' c ∧ w.grownBy w' (some c)

/-- what the loop keeps -/
def PlAt (w : World) (c : Nat) (ok : Nat → Prop) (hd : Array Value) (kids : List Ex) (j : Nat) (v : Value) (W : World) : Prop :=
  w.grownBy W (some c) ∧ CtrAt W c ∧ Has W w.heap.size 29 hd ∧ Has W (w.heap.size + 1) 29 zeroE ∧ w.heap.size + 2 ≤ W.heap.size ∧
  ∃ (L : List Ex) (xs : List Value), L.length = j ∧ erK L = erK (kids.take j) ∧ W.ownsRow (w.heap.size + 2) 29 8 v j xs ∧ CellsE W (fun b => ((ok b ∧ b < w.heap.size) ∨ w.heap.size + 2 ≤ b) ∧ v.ownBlock ≠ some b) L xs

theorem own_ge {w : World} {base n size : Nat} {e : TypeId} {v : Value} {xs : List Value} (h : w.ownsRow base e size v n xs) {b : Nat} (hb : b < base) : v.ownBlock ≠ some b := fun he => by
  have := (h.lt b he).1
  omega

/-- one more -/
theorem PlAt.step {w W w2 w3 : World} {c : Nat} {ok : Nat → Prop} {hd : Array Value} {kids : List Ex} {j : Nat} {v : Value} {L : List Ex} {xs : List Value} {y : Ex} {cs : Array Value} {g3 cap3 : Nat} (hcl : c < w.heap.size) (hokc : ∀ b, ok b → b ≠ c) (hj : j < kids.length)
    (h1 : w.grownBy W (some c)) (h3 : Has W w.heap.size 29 hd) (h4 : Has W (w.heap.size + 1) 29 zeroE) (h5 : w.heap.size + 2 ≤ W.heap.size) (hL : L.length = j) (hE : erK L = erK (kids.take j)) (ho : W.ownsRow (w.heap.size + 2) 29 8 v j xs)
    (hc : CellsE W (fun b => ((ok b ∧ b < w.heap.size) ∨ w.heap.size + 2 ≤ b) ∧ v.ownBlock ≠ some b) L xs)
    (hg : W.grownBy w2 (some c)) (hC2 : CtrAt w2 c) (hy : LaidP w2 (fun b => (ok b ∧ b < w.heap.size) ∨ W.heap.size ≤ b) y cs.toList) (he : er y = er kids[j])
    (ho3 : w3.ownsRow (w.heap.size + 2) 29 8 (.slice (some ⟨g3, 0, none⟩) (j + 1) cap3) (j + 1) (xs ++ cs.toList)) (hg3 : (w2.alloc (.cells cs 29)).grownBy w3 v.ownBlock) (hat : v.ownBlock = some g3 ∨ g3 = (w2.alloc (.cells cs 29)).heap.size) :
    PlAt w c ok hd kids (j + 1) (.slice (some ⟨g3, 0, none⟩) (j + 1) cap3) w3 := by
  have ho2 := row_grown ho hg (by omega)
  have n0 : v.ownBlock ≠ some w.heap.size := own_ge ho (by omega)
  have n1 : v.ownBlock ≠ some (w.heap.size + 1) := own_ge ho (by omega)
  have nc : v.ownBlock ≠ some c := own_ge ho (by omega)
  have hs2 := hg.size
  have hs3 := hg3.size
  simp only [World.size_alloc] at hs3 hat
  have hlow : ∀ g, v.ownBlock = some g → w.heap.size + 2 ≤ g ∧ g < W.heap.size := fun g hgv => ho.lt g hgv
  -- a block that is not the row's, nor the counter's, lies as it lay
  have keepB : ∀ b o u, b ≠ c → v.ownBlock ≠ some b → W.cell? ⟨b, o, none⟩ = some u → w3.cell? ⟨b, o, none⟩ = some u := fun b o u hb hv hu => by
    have hl : b < W.heap.size := World.block_lt_of_cell? W _ hu
    have e1 := hg.block b hl (fun e => hb (by injection e))
    have e2 := hg3.block b (by simp only [World.size_alloc]; omega) (fun e => hv e.symm)
    have e3 : (w2.alloc (.cells cs 29)).heap[b]? = w2.heap[b]? := Below.heap_alloc _ _ _ (by omega)
    unfold World.cell? at hu ⊢
    rw [e2, e3, e1]; exact hu
  have keep2 : ∀ b o u, v.ownBlock ≠ some b → w2.cell? ⟨b, o, none⟩ = some u → w3.cell? ⟨b, o, none⟩ = some u := fun b o u hv hu => by
    have hl : b < w2.heap.size := World.block_lt_of_cell? w2 _ hu
    have e2 := hg3.block b (by simp only [World.size_alloc]; omega) (fun e => hv e.symm)
    have e3 : (w2.alloc (.cells cs 29)).heap[b]? = w2.heap[b]? := Below.heap_alloc _ _ _ hl
    unfold World.cell? at hu ⊢
    rw [e2, e3]; exact hu
  have ncw : ∀ k : Nat, k ≠ c → some k ≠ some c := fun k hk e => hk (by injection e)
  have hgw2 : w.grownBy w2 (some c) := ⟨hg.os.trans h1.os, hg.tape.trans h1.tape, hg.output.trans h1.output, by omega, fun k hk hn => (hg.block k (by omega) hn).trans (h1.block k hk hn)⟩
  refine ⟨⟨hg3.os.trans hgw2.os, hg3.tape.trans hgw2.tape, hg3.output.trans hgw2.output, by omega, fun k hk hn => ?_⟩, ?_, ?_, ?_, by omega, L ++ [y], xs ++ cs.toList, by simp [hL], ?_, ho3, ?_⟩
  · refine (hg3.block k (by simp only [World.size_alloc]; omega) (fun e => ?_)).trans ((Below.heap_alloc _ _ _ (by omega)).trans (hgw2.block k hk hn))
    have := (hlow k e.symm).1
    omega
  · obtain ⟨n, hn⟩ := hC2
    exact ⟨n, (hn.alloc _).grown hg3 (fun e => nc e.symm)⟩
  · exact ((h3.grown hg (ncw _ (by omega))).alloc _).grown hg3 (fun e => n0 e.symm)
  · exact ((h4.grown hg (ncw _ (by omega))).alloc _).grown hg3 (fun e => n1 e.symm)
  · rw [erK_app, show kids.take (j + 1) = kids.take j ++ [kids[j]] from List.take_succ_eq_append_getElem hj, erK_app, hE, erK, erK, he]; rfl
  · have k1 : CellsE w3 (fun b => ((ok b ∧ b < w.heap.size) ∨ w.heap.size + 2 ≤ b) ∧ (Value.slice (some ⟨g3, 0, none⟩) (j + 1) cap3).ownBlock ≠ some b) L xs := by
      refine CellsE.keep ?_ ?_ hc
      · intro b hbl hb
        refine ⟨hb.1, fun e => ?_⟩
        have e' : g3 = b := by simpa [Value.ownBlock] using e
        subst e'
        rcases hat with hat | hat
        · exact hb.2 hat
        · omega
      · intro b o u hb hu
        refine keepB b o u (fun e => ?_) hb.2 hu
        rcases hb.1 with h | h
        · exact hokc b h.1 e
        · omega
    have k2 : LaidP w3 (fun b => ((ok b ∧ b < w.heap.size) ∨ w.heap.size + 2 ≤ b) ∧ (Value.slice (some ⟨g3, 0, none⟩) (j + 1) cap3).ownBlock ≠ some b) y cs.toList := by
      refine LaidP.keep ?_ ?_ _ _ hy
      · intro b hbl hb
        refine ⟨?_, fun e => ?_⟩
        · rcases hb with h | h
          · exact .inl h
          · exact .inr (by omega)
        · have e' : g3 = b := by simpa [Value.ownBlock] using e
          subst e'
          rcases hat with hat | hat
          · have := hlow g3 hat
            rcases hb with h | h
            · omega
            · omega
          · omega
      · intro b o u hb hu
        refine keep2 b o u (fun e => ?_) hu
        have := hlow b e
        rcases hb with h | h
        · omega
        · omega
    exact k1.app (CellsE.one k2)
end Go.Proofs.YtnejkgkikpgajaaDoor.ck
