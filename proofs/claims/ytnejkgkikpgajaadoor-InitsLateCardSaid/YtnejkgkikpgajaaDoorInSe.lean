/-
  The search for late variables, as it lies in memory: rows of those that wait.
-/
import Derived.Test.YtnejkgkikpgajaaDoorInRef
import Derived.Test.YtnejkgkikpgajaaDoorPlExpr0
namespace Go.Proofs.YtnejkgkikpgajaaDoor.ini
open Go.ChangeShapes Go.WideShapes Go.ChangeAt Go.RowKit
open tr ck
set_option linter.unusedVariables false
set_option linter.unusedSimpArgs false

abbrev rowI (l : List Nat) : List Value := l.map (fun t : Nat => .int .i64 (t : Int))
def tot (Ws : List (List Nat)) : Nat := (Ws.map List.length).sum
def gt (Ws : List (List Nat)) (u : Nat) : List Nat := Ws.getD u []
theorem gt_lt {Ws : List (List Nat)} {u : Nat} (h : u < Ws.length) : gt Ws u = Ws[u] := by unfold gt; rw [List.getD_eq_getElem?_getD, List.getElem?_eq_getElem h]; rfl
theorem gt_ge {Ws : List (List Nat)} {u : Nat} (h : Ws.length ≤ u) : gt Ws u = [] := by unfold gt; rw [List.getD_eq_getElem?_getD, List.getElem?_eq_none h]; rfl
theorem gt_set {Ws : List (List Nat)} {u k : Nat} {l : List Nat} (h : u < Ws.length) : gt (Ws.set u l) k = if k = u then l else gt Ws k := by
  unfold gt
  rw [List.getD_eq_getElem?_getD, List.getD_eq_getElem?_getD, List.getElem?_set]
  by_cases e : u = k
  · subst e; rw [if_pos rfl, if_pos h, if_pos rfl]; rfl
  · rw [if_neg e, if_neg (fun h => e h.symm)]
theorem sum_set : ∀ (l : List Nat) (u : Nat) (h : u < l.length) (a : Nat), (l.set u a).sum + l[u] = l.sum + a
  | [], u, h, a => by simp at h
  | x :: r, 0, h, a => by simp; omega
  | x :: r, u + 1, h, a => by
    have := sum_set r u (by simpa using h) a
    simp only [List.set_cons_succ, List.sum_cons, List.getElem_cons_succ]
    omega
theorem tot_set {Ws : List (List Nat)} {u : Nat} (h : u < Ws.length) (l : List Nat) : tot (Ws.set u l) + (gt Ws u).length = tot Ws + l.length := by
  unfold tot
  rw [gt_lt h, List.map_set]
  have := sum_set (Ws.map List.length) u (by simpa using h) l.length
  simpa using this
theorem len_le_tot : ∀ (Ws : List (List Nat)) (u : Nat), (gt Ws u).length ≤ tot Ws
  | [], u => by simp [gt, tot]
  | x :: r, 0 => by show x.length ≤ _; unfold tot; simp
  | x :: r, u + 1 => by
    have := len_le_tot r u
    show (gt r u).length ≤ _
    unfold tot at *
    simp only [List.map_cons, List.sum_cons]; omega

/-- the rows of those that wait, at block wb; R: the slices -/
structure Wt (W : World) (wb n base : Nat) (R : Nat → Value) (Ws : List (List Nat)) : Prop where
  len : Ws.length = n
  has : ∃ cs : Array Value, Has W wb 173 cs ∧ ∀ u, u < n → cs[u]? = some (R u)
  row : ∀ u, u < n → W.ownsRow base 3 1 (R u) (gt Ws u).length (rowI (gt Ws u))
  nil : ∀ u, u < n → gt Ws u = [] → R u = .slice none 0 0
  sep : ∀ u u', u < n → u' < n → u ≠ u' → (R u).ownBlock ≠ none → (R u).ownBlock ≠ (R u').ownBlock
/-- what moves: the rows, and where they lie -/
structure Mv (W W' : World) (wb n : Nat) (R R' : Nat → Value) : Prop where
  os : W'.os = W.os
  tape : W'.tape = W.tape
  output : W'.output = W.output
  size : W.heap.size ≤ W'.heap.size
  block : ∀ k, k < W.heap.size → k ≠ wb → (∀ u, u < n → (R u).ownBlock ≠ some k) → W'.heap[k]? = W.heap[k]?
  rows : ∀ u, u < n → ∀ k, (R' u).ownBlock = some k → (∃ u', u' < n ∧ (R u').ownBlock = some k) ∨ W.heap.size ≤ k
theorem Mv.refl (W : World) (wb n : Nat) (R : Nat → Value) : Mv W W wb n R R := ⟨rfl, rfl, rfl, Nat.le_refl _, fun _ _ _ _ => rfl, fun u hu k h => .inl ⟨u, hu, h⟩⟩
theorem Mv.below {W W' : World} {wb n : Nat} {R : Nat → Value} (h : Below W.heap.size W W') : Mv W W' wb n R R := ⟨h.os, h.tape, h.output, h.size, fun k hk _ _ => h.block k hk, fun u hu k h => .inl ⟨u, hu, h⟩⟩
theorem Mv.trans {A B C : World} {wb n : Nat} {R R' R'' : Nat → Value} (h : Mv A B wb n R R') (k : Mv B C wb n R' R'') : Mv A C wb n R R'' :=
  ⟨k.os.trans h.os, k.tape.trans h.tape, k.output.trans h.output, Nat.le_trans h.size k.size, fun i hi hw hr => (k.block i (Nat.lt_of_lt_of_le hi h.size) hw (fun u hu e => by
    rcases h.rows u hu i e with ⟨u', hu', e'⟩ | e'
    · exact hr u' hu' e'
    · omega)).trans (h.block i hi hw hr), fun u hu i e => by
    rcases k.rows u hu i e with ⟨u', hu', e'⟩ | e'
    · exact h.rows u' hu' i e'
    · exact .inr (Nat.le_trans h.size e')⟩
theorem Mv.has {W W' : World} {wb n g : Nat} {R R' : Nat → Value} {t : TypeId} {cs : Array Value} (h : Mv W W' wb n R R') (hg : Has W g t cs) (hw : g ≠ wb) (hr : ∀ u, u < n → (R u).ownBlock ≠ some g) : Has W' g t cs :=
  (h.block g hg.lt hw hr).trans hg
/-- a search: what doesn't change of it -/
structure Cx where
  w : World
  sb : Nat
  wb : Nat
  m : Nat
  om : Nat
  va : Option Addr
  cv : Nat
  wc : Nat
  own : List ByteArray
structure Se (x : Cx) (W : World) (S : List ByteArray) (R : Nat → Value) (Ws : List (List Nat)) : Prop where
  size : x.w.heap.size ≤ W.heap.size
  keep : ∀ b o v, x.w.cell? ⟨b, o, none⟩ = some v → W.cell? ⟨b, o, none⟩ = some v
  sbl : Has W x.sb 114 #[.map (some x.m), .slice x.va x.own.length x.cv, .map (some x.om), .slice (some ⟨x.wb, 0, none⟩) x.own.length x.wc]
  late : MAt W x.m (ltL S)
  nums : MAt W x.om (nbL 0 x.own)
  wt : Wt W x.wb x.own.length x.w.heap.size R Ws
  hsb : x.w.heap.size ≤ x.sb
  hwb : x.w.heap.size ≤ x.wb
  hmo : x.om ≠ x.m
theorem Wt.below {W W' : World} {wb n base : Nat} {R : Nat → Value} {Ws : List (List Nat)} (h : Wt W wb n base R Ws) (hb : Below W.heap.size W W') : Wt W' wb n base R Ws := by
  obtain ⟨cs, h1, h2⟩ := h.has
  exact ⟨h.len, ⟨cs, h1.below hb h1.lt, h2⟩, fun u hu => (h.row u hu).kept (grown_below none hb) (by by_cases e : (R u).ownBlock = none; exact .inl e; exact .inr e), h.nil, h.sep⟩
theorem Se.below {x : Cx} {W W' : World} {S : List ByteArray} {R : Nat → Value} {Ws : List (List Nat)} (h : Se x W S R Ws) (hb : Below W.heap.size W W') : Se x W' S R Ws :=
  ⟨Nat.le_trans h.size hb.size, fun b o v hv => cell_below hb _ _ _ (h.keep b o v hv), h.sbl.below hb h.sbl.lt, h.late.below hb h.late.lt, h.nums.below hb h.nums.lt, h.wt.below hb, h.hsb, h.hwb, h.hmo⟩
/-- a row's block is none of cells of another type -/
theorem Wt.notRow {W : World} {wb n base g : Nat} {R : Nat → Value} {Ws : List (List Nat)} (h : Wt W wb n base R Ws) {t : TypeId} {cs : Array Value} (hg : Has W g t cs) (ht : 3 ≠ t) (u : Nat) (hu : u < n) : (R u).ownBlock ≠ some g :=
  Has.own_ne hg (h.row u hu) ht
theorem row_not_map {W : World} {base : Nat} {e : TypeId} {size n : Nat} {v : Value} {xs : List Value} {m : Nat} {L : List (ByteArray × Value)} (h : W.ownsRow base e size v n xs) (hm : MAt W m L) : v.ownBlock ≠ some m := by
  rcases h.2 with ⟨rfl, _⟩ | ⟨g, cap, cur, rfl, _, hh, _⟩
  · simp [Value.ownBlock]
  · intro e
    have : g = m := by simpa [Value.ownBlock] using e
    subst this
    obtain ⟨es, c, h, _⟩ := hm
    rw [hh] at h
    cases h
/-- what an expression's search leaves: the rows have grown by v alone, at those that it hangs on -/
structure ExR (own : List ByteArray) (v : Nat) (rs : List ByteArray) (b : Bool) (k : Nat) (Ws Ws' : List (List Nat)) : Prop where
  len : Ws'.length = Ws.length
  no : b = false → ∀ n ∈ rs, ∀ u, idx n own = some u → v ∈ gt Ws' u
  up : ∀ u t, t ∈ gt Ws u → t ∈ gt Ws' u
  back : ∀ u t, t ∈ gt Ws' u → t ∈ gt Ws u ∨ (t = v ∧ ∃ n ∈ rs, idx n own = some u)
  tot : tot Ws' ≤ tot Ws + k
theorem ExR.refl {own : List ByteArray} {v : Nat} {rs : List ByteArray} {b : Bool} {k : Nat} {Ws : List (List Nat)} (h : b = false → ∀ n ∈ rs, idx n own = none) : ExR own v rs b k Ws Ws :=
  ⟨rfl, (fun hb n hn u hu => by rw [h hb n hn] at hu; cases hu), fun _ _ h => h, fun _ _ h => .inl h, Nat.le_add_right _ _⟩
def ExPost (x : Cx) (W : World) (S : List ByteArray) (R : Nat → Value) (Ws : List (List Nat)) (v : Nat) (rs : List ByteArray) (b : Bool) (k : Nat) (e : Ending) (W' : World) : Prop :=
  ∃ R' Ws', e = .returned (.bool b) ∧ Se x W' S R' Ws' ∧ Mv W W' x.wb x.own.length R R' ∧ ExR x.own v rs b k Ws Ws'
def setR (R : Nat → Value) (u : Nat) (v : Value) : Nat → Value := fun k => if k = u then v else R k

/-- one more waits -/
theorem Se.push {x : Cx} {W w5 : World} {S : List ByteArray} {R : Nat → Value} {Ws : List (List Nat)} {u t : Nat} {o : Obj} {g5 cap5 : Nat} (h : Se x W S R Ws) (hu : u < x.own.length)
    (ho : w5.ownsRow x.w.heap.size 3 1 (.slice (some ⟨g5, 0, none⟩) ((gt Ws u).length + 1) cap5) ((gt Ws u).length + 1) (rowI (gt Ws u) ++ [.int .i64 (t : Int)])) (hg : (W.alloc o).grownBy w5 (R u).ownBlock) (hat : (R u).ownBlock = some g5 ∨ W.heap.size < g5) :
    Se x (w5.setCell ⟨x.wb, u, none⟩ (.slice (some ⟨g5, 0, none⟩) ((gt Ws u).length + 1) cap5)) S (setR R u (.slice (some ⟨g5, 0, none⟩) ((gt Ws u).length + 1) cap5)) (Ws.set u (gt Ws u ++ [t])) ∧
    Mv W (w5.setCell ⟨x.wb, u, none⟩ (.slice (some ⟨g5, 0, none⟩) ((gt Ws u).length + 1) cap5)) x.wb x.own.length R (setR R u (.slice (some ⟨g5, 0, none⟩) ((gt Ws u).length + 1) cap5)) := by
  have h1 := h.below ((Below.refl _ W).alloc (Nat.le_refl _) o)
  obtain ⟨cs, hw, hcs⟩ := h1.wt.has
  have hlen := h.wt.len
  have nr := fun {g : Nat} {t : TypeId} {cs : Array Value} (hh : Has (W.alloc o) g t cs) (ht : 3 ≠ t) => h1.wt.notRow hh ht
  have hwb5 := hw.grown hg (fun e => nr hw (by decide) u hu e.symm)
  have hsb5 := h1.sbl.grown hg (fun e => nr h1.sbl (by decide) u hu e.symm)
  have hne : x.sb ≠ x.wb := fun e => by have h2 := h1.sbl; rw [e] at h2; exact absurd (Has.same h2 hw) (by decide)
  obtain ⟨v', hv'⟩ : ∃ v', v' = Value.slice (some ⟨g5, 0, none⟩) ((gt Ws u).length + 1) cap5 := ⟨_, rfl⟩
  have hvb : v'.ownBlock = some g5 := by rw [hv']; rfl
  rw [← hv'] at ho ⊢
  have hbut : But w5 (w5.setCell ⟨x.wb, u, none⟩ v') x.wb := (But.refl _ _).put u _
  have hg5wb : g5 ≠ x.wb := fun e => by
    have : v'.ownBlock ≠ some x.wb := Has.own_ne hwb5 ho (by decide)
    exact this (by rw [hvb, e])
  have rsz : ∀ k, k < x.own.length → ∀ g, (R k).ownBlock = some g → g < W.heap.size := fun k hk g e => ((h.wt.row k hk).lt g e).2
  refine ⟨⟨?_, ?_, hbut.has hne hsb5, ?_, ?_, ?_, h.hsb, h.hwb, h.hmo⟩, ?_⟩
  · have := h1.size; have := hg.size; rw [hbut.1]; omega
  · intro b o' v hv
    have hbl : b < x.w.heap.size := World.block_lt_of_cell? _ _ hv
    have k1 := h1.keep b o' v hv
    refine hbut.cell (by have := h.hwb; omega) ?_
    have hb1 := hg.block b (World.block_lt_of_cell? _ _ k1) (fun e => by
      have := (h.wt.row u hu).lt b e.symm
      omega)
    unfold World.cell? at k1 ⊢
    rw [hb1]; exact k1
  · refine (h1.late.grown hg (fun e => row_not_map (h1.wt.row u hu) h1.late e.symm)).keep ?_
    exact hbut.2.2.2.2 _ (h1.late.notHas hw).symm
  · refine (h1.nums.grown hg (fun e => row_not_map (h1.wt.row u hu) h1.nums e.symm)).keep ?_
    exact hbut.2.2.2.2 _ (h1.nums.notHas hw).symm
  · have hul : u < Ws.length := by rw [hlen]; exact hu
    refine ⟨by rw [List.length_set]; exact hlen, ⟨cs.setIfInBounds u v', hwb5.put u v', fun k hk => ?_⟩, fun k hk => ?_, fun k hk hk0 => ?_, fun k k' hk hk' hkk hnn => ?_⟩
    · unfold setR
      rw [Array.getElem?_setIfInBounds]
      by_cases e : k = u
      · subst e
        have hsz : k < cs.size := (Array.getElem?_eq_some_iff.1 (hcs k hk)).1
        rw [if_pos rfl, if_pos hsz, if_pos rfl]
      · rw [if_neg (fun h => e h.symm), if_neg e]; exact hcs k hk
    · rw [gt_set hul]
      unfold setR
      by_cases e : k = u
      · subst e
        rw [if_pos rfl, if_pos rfl, List.length_append, rowI, List.map_append]
        exact hbut.row ho (by rw [hvb]; intro e; injection e with e; exact hg5wb e)
      · rw [if_neg e, if_neg e]
        refine hbut.row ((h1.wt.row k hk).kept hg ?_) (nr hw (by decide) k hk)
        by_cases en : (R k).ownBlock = none
        · exact .inl en
        · exact .inr (h1.wt.sep k u hk hu e en)
    · rw [gt_set hul] at hk0
      unfold setR
      by_cases e : k = u
      · rw [if_pos e] at hk0; simp at hk0
      · rw [if_neg e] at hk0 ⊢; exact h.wt.nil k hk hk0
    · unfold setR at hnn ⊢
      by_cases e : k = u
      · rw [if_pos e, if_neg (fun h => hkk (by rw [e, h])), hvb]
        intro e'
        rcases hat with hat | hat
        · exact h.wt.sep u k' hu hk' (fun h => hkk (by rw [e, h])) (by rw [hat]; simp) (by rw [hat]; exact e')
        · have := rsz k' hk' g5 e'.symm; omega
      · rw [if_neg e] at hnn ⊢
        by_cases e2 : k' = u
        · rw [if_pos e2, hvb]
          intro e'
          rcases hat with hat | hat
          · exact h.wt.sep k u hk hu e hnn (by rw [hat]; exact e')
          · have := rsz k hk g5 e'; omega
        · rw [if_neg e2]; exact h.wt.sep k k' hk hk' hkk hnn
  · refine ⟨hbut.2.1.trans hg.os, hbut.2.2.1.trans hg.tape, hbut.2.2.2.1.trans hg.output, by have := hg.size; rw [hbut.1]; simp only [World.size_alloc] at this; omega, fun k hk hkw hkr => ?_, fun k hk g e => ?_⟩
    · refine (hbut.2.2.2.2 k hkw).trans ((hg.block k (by simp only [World.size_alloc]; omega) (fun e => hkr u hu e.symm)).trans (Below.heap_alloc _ _ _ hk))
    · unfold setR at e
      by_cases e1 : k = u
      · rw [if_pos e1, hvb] at e
        injection e with e
        subst e
        rcases hat with hat | hat
        · exact .inl ⟨u, hu, hat⟩
        · exact .inr (by omega)
      · rw [if_neg e1] at e; exact .inl ⟨k, hk, e⟩
end Go.Proofs.YtnejkgkikpgajaaDoor.ini
