/-
  The law's block: chain.
-/
import Derived.Test.YtnejkgkikpgajaaDoorInCh3
import Derived.Test.YtnejkgkikpgajaaDoorPlBlock0
namespace Go.Proofs.YtnejkgkikpgajaaDoor.ini
open Go.ChangeShapes Go.WideShapes Go.ChangeAt Go.RowKit
open tr ck Go.Sort
set_option linter.unusedVariables false
set_option linter.unusedSimpArgs false

def ChPost (w : World) (e : Ending) (w' : World) : Prop :=
  ∃ (n : Nat) (va : Option Addr) (vc : Nat) (qa : Option Addr) (qc : Nat) (All : List Eqn), n ≤ 12 ∧ All.length = n ∧ e = .returned (.agg #[.slice va n vc, .slice qa n qc]) ∧ NamesV w' va (nms n) ∧ (∀ j (hj : j < All.length), ∃ qb, qa = some ⟨qb, 0, none⟩ ∧ EqF w' qb (j * 16) All[j]) ∧ (∀ j (hj : j < All.length), wfE All[j].2 = true) ∧ szAll All ≤ 1000000 ∧ Below w.heap.size w w'
theorem szAll_le10 : ∀ (l : List Eqn), (∀ q ∈ l, wfE q.2 = true ∧ sz q.2 ≤ 10) → szAll l ≤ l.length * 10
  | [], _ => by simp [szAll]
  | q :: r, h => by
    have h1 := (h q (by simp)).2
    have h2 := szAll_le10 r (fun p hp => h p (by simp [hp]))
    unfold szAll at h2 ⊢
    rw [List.map_cons, List.sum_cons, List.length_cons]
    omega
theorem names_row {W : World} {base : Nat} {va : Option Addr} {vc n : Nat} (h : W.ownsRow base 54 15 (.slice va n vc) n (rowV n)) (s : Nat) (hs : s < n) : ∃ vb, va = some ⟨vb, 0, none⟩ ∧ vb < W.heap.size ∧ W.cell? ⟨vb, s * 15, none⟩ = some (.string (nmv s)) := by
  obtain ⟨g, cap, e, _, hl⟩ := h.form (by omega)
  simp only [Value.slice.injEq] at e
  obtain ⟨rfl, -, rfl⟩ := e
  exact ⟨g, rfl, hl, by rw [h.cellAt (s * 15) (by omega)]; exact rowV_name n s hs⟩
theorem CI.post {w W : World} {n : Nat} {va : Option Addr} {vc : Nat} {qa : Option Addr} {qc : Nat} {All : List Eqn} {xs : List Value} {v0 v1 : Value} (h : CI w n va vc qa qc All xs W) (hn : n ≤ 12) (ha : All.length = n) :
    ChPost w (.returned (.agg #[.slice va n vc, .slice qa n qc])) ((W.setCell ⟨w.heap.size, 0, none⟩ v0).setCell ⟨w.heap.size, 1, none⟩ v1) := by
  have hb : But W ((W.setCell ⟨w.heap.size, 0, none⟩ v0).setCell ⟨w.heap.size, 1, none⟩ v1) w.heap.size := ((But.refl _ _).put 0 _).put 1 _
  refine ⟨n, va, vc, qa, qc, All, hn, ha, rfl, ?_, ?_, ?_, ?_, ?_⟩
  · intro i s hi
    have hil : i < n := by have := (List.getElem?_eq_some_iff.1 hi).1; rw [nms_len] at this; exact this
    rw [nms_get n i hil] at hi
    injection hi with hi
    subst hi
    obtain ⟨vb, e, _, hc⟩ := names_row h.row i hil
    have hge := (h.row.lt vb (by rw [e]; rfl)).1
    exact ⟨vb, e, hb.cell (by omega) hc⟩
  · intro j hj
    obtain ⟨lb, lc, ecs, h1, h2, h3, h4⟩ := h.cel j hj
    obtain ⟨g, cap, e, hge, _⟩ := h.eqs.form (by omega)
    simp only [Value.slice.injEq] at e
    obtain ⟨rfl, -, rfl⟩ := e
    refine ⟨g, rfl, ?_⟩
    obtain ⟨ek, eo, en, enm, ena, enl, enc, eka, ekl, ekc, el, ecl, rfl⟩ := h3.shape
    have h3' := LaidP.keep (w' := (W.setCell ⟨w.heap.size, 0, none⟩ v0).setCell ⟨w.heap.size, 1, none⟩ v1) (ok' := fun _ => True) (fun _ _ _ => trivial) (fun b o v hok hc => hb.cell (by omega) hc) _ _ h3
    refine ⟨lb, lc, ek, eo, en, enm, ena, enl, enc, eka, ekl, ekc, el, ecl, 0, 0, LaidP.laidC _ _ h3', hb.cell (by omega) h2, fun k u hk => hb.cell (by omega) ?_⟩
    have hkl : k < 16 := by have := (List.getElem?_eq_some_iff.1 hk).1; simpa using this
    rw [h.eqs.cellAt (j * 16 + k) (by omega)]
    exact h4 k u hk
  · exact fun j hj => (h.sh _ (List.getElem_mem hj)).1
  · have := szAll_le10 All h.sh; omega
  · exact (h.below.setCell (by simp) _).setCell (by simp) _
theorem at_world {P : Program} {c : Code} {Q : Exit → Act → World → Prop} {a : Act} {w : World} (h : ∀ W, W = w → Code.wp P c Q a W) : Code.wp P c Q a w := h w rfl
theorem leafP (w : World) (ok : Nat → Prop) (k : Nat) (n : Int) (nm : ByteArray) (hk : k ≤ 255) (hn : nm.size ≤ maxLen) : LaidP w ok (.mk k 0 n nm [] [] 0 0) [.int .u8 k, .int .u8 0, .int .i32 n, .string nm, .slice none 0 0, .slice none 0 0, .int .i64 0, .int .i64 0] := by
  unfold LaidP
  exact ⟨hk, by decide, hn, by decide, by decide, none, 0, none, 0, Nat.le_refl _, Nat.le_refl _, rfl, fun i s hi => by simp at hi, by unfold LaidPK; trivial⟩
theorem leafW (wr : World) {ns : ByteArray} (hn : ns.size ≤ maxLen) : Below wr.heap.size wr (wr.alloc (.cells #[.int .u8 4, .int .u8 0, .int .i32 0, .string ns, .slice none 0 0, .slice none 0 0, .int .i64 0, .int .i64 0] 29)).drew ∧ Has (wr.alloc (.cells #[.int .u8 4, .int .u8 0, .int .i32 0, .string ns, .slice none 0 0, .slice none 0 0, .int .i64 0, .int .i64 0] 29)).drew wr.heap.size 29 #[.int .u8 4, .int .u8 0, .int .i32 0, .string ns, .slice none 0 0, .slice none 0 0, .int .i64 0, .int .i64 0] ∧ LaidP (wr.alloc (.cells #[.int .u8 4, .int .u8 0, .int .i32 0, .string ns, .slice none 0 0, .slice none 0 0, .int .i64 0, .int .i64 0] 29)).drew (fun b => wr.heap.size ≤ b) (.mk 4 0 0 ns [] [] 0 0) [.int .u8 4, .int .u8 0, .int .i32 0, .string ns, .slice none 0 0, .slice none 0 0, .int .i64 0, .int .i64 0] :=
  ⟨((Below.refl _ wr).alloc (Nat.le_refl _) _).drew, Has.new wr _ _, leafP _ _ 4 0 ns (by decide) hn⟩
theorem kids1 {W : World} {ok : Nat → Prop} {b off : Nat} {k : Nat} {n : Int} {nm : ByteArray} {r : List Ex} (hb : ok b) (hk : k ≤ 255) (hn : nm.size ≤ maxLen) (hc : ∀ (j : Nat) (v : Value), ([.int .u8 k, .int .u8 0, .int .i32 n, .string nm, .slice none 0 0, .slice none 0 0, .int .i64 0, .int .i64 0] : List Value)[j]? = some v → W.cell? ⟨b, off + j, none⟩ = some v) (hr : LaidPK W ok (some ⟨b, off + 8, none⟩) r) : LaidPK W ok (some ⟨b, off, none⟩) (.mk k 0 n nm [] [] 0 0 :: r) := by
  unfold LaidPK
  exact ⟨b, off, _, rfl, hb, hc, leafP W ok k n nm hk hn, hr⟩
theorem nodeP {W : World} {ok : Nat → Prop} {k o : Nat} {kids : List Ex} {ka : Option Addr} (hk : k ≤ 255) (ho : o ≤ 255) (hl : kids.length ≤ 1000000) (h : LaidPK W ok ka kids) : LaidP W ok (.mk k o 0 ⟨#[]⟩ [] kids 0 0) [.int .u8 k, .int .u8 o, .int .i32 0, .string ⟨#[]⟩, .slice none 0 0, .slice ka kids.length kids.length, .int .i64 0, .int .i64 0] := by
  unfold LaidP
  exact ⟨hk, ho, by decide, by decide, hl, none, 0, ka, kids.length, Nat.le_refl _, Nat.le_refl _, rfl, fun i s hi => by simp at hi, h⟩
theorem drewW {B : Nat} {wr W : World} {g : Nat} {t : TypeId} {cs : Array Value} {ok : Nat → Prop} {x : Ex} {l : List Value} (h : Below B wr W ∧ Has W g t cs ∧ LaidP W ok x l) : Below B wr W.drew ∧ Has W.drew g t cs ∧ LaidP W.drew ok x l := ⟨h.1.drew, h.2.1, h.2.2.below (Below.refl _ W).drew⟩
theorem nodeW1 (wr : World) {k o k1 : Nat} {n1 : Int} {s1 : ByteArray} (hk : k ≤ 255 ∧ o ≤ 255 ∧ k1 ≤ 255) (h1 : s1.size ≤ maxLen) {W : World} (hW : W = ((wr.alloc (.cells #[.int .u8 k, .int .u8 o, .int .i32 0, .string ⟨#[]⟩, .slice none 0 0, .slice (some ⟨wr.heap.size + 1, 0, none⟩) 1 1, .int .i64 0, .int .i64 0] 29)).alloc (.cells #[.int .u8 k1, .int .u8 0, .int .i32 n1, .string s1, .slice none 0 0, .slice none 0 0, .int .i64 0, .int .i64 0] 29))) :
    Below wr.heap.size wr W ∧ Has W wr.heap.size 29 #[.int .u8 k, .int .u8 o, .int .i32 0, .string ⟨#[]⟩, .slice none 0 0, .slice (some ⟨wr.heap.size + 1, 0, none⟩) 1 1, .int .i64 0, .int .i64 0] ∧ LaidP W (fun b => wr.heap.size ≤ b) (.mk k o 0 ⟨#[]⟩ [] [.mk k1 0 n1 s1 [] [] 0 0] 0 0) [.int .u8 k, .int .u8 o, .int .i32 0, .string ⟨#[]⟩, .slice none 0 0, .slice (some ⟨wr.heap.size + 1, 0, none⟩) 1 1, .int .i64 0, .int .i64 0] := by
  subst hW
  refine ⟨((Below.refl _ wr).alloc (Nat.le_refl _) _).alloc (by simp) _, (Has.new wr _ _).alloc _, nodeP hk.1 hk.2.1 (by simp) (kids1 (by omega) hk.2.2 h1 (fun j v hj => ?_) (by unfold LaidPK; trivial))⟩
  have := (Has.new (wr.alloc (.cells #[.int .u8 k, .int .u8 o, .int .i32 0, .string ⟨#[]⟩, .slice none 0 0, .slice (some ⟨wr.heap.size + 1, 0, none⟩) 1 1, .int .i64 0, .int .i64 0] 29)) 29 #[.int .u8 k1, .int .u8 0, .int .i32 n1, .string s1, .slice none 0 0, .slice none 0 0, .int .i64 0, .int .i64 0]).cell j
  rw [World.size_alloc] at this
  rw [Nat.zero_add, this, List.getElem?_toArray]; exact hj
theorem nodeW2 (wr : World) {k o k1 k2 : Nat} {n1 n2 : Int} {s1 s2 : ByteArray} (hk : k ≤ 255 ∧ o ≤ 255 ∧ k1 ≤ 255 ∧ k2 ≤ 255) (h1 : s1.size ≤ maxLen) (h2 : s2.size ≤ maxLen) {W : World} (hW : W = ((wr.alloc (.cells #[.int .u8 k, .int .u8 o, .int .i32 0, .string ⟨#[]⟩, .slice none 0 0, .slice (some ⟨wr.heap.size + 1, 0, none⟩) 2 2, .int .i64 0, .int .i64 0] 29)).alloc (.cells #[.int .u8 k1, .int .u8 0, .int .i32 n1, .string s1, .slice none 0 0, .slice none 0 0, .int .i64 0, .int .i64 0, .int .u8 k2, .int .u8 0, .int .i32 n2, .string s2, .slice none 0 0, .slice none 0 0, .int .i64 0, .int .i64 0] 29))) :
    Below wr.heap.size wr W ∧ Has W wr.heap.size 29 #[.int .u8 k, .int .u8 o, .int .i32 0, .string ⟨#[]⟩, .slice none 0 0, .slice (some ⟨wr.heap.size + 1, 0, none⟩) 2 2, .int .i64 0, .int .i64 0] ∧ LaidP W (fun b => wr.heap.size ≤ b) (.mk k o 0 ⟨#[]⟩ [] [.mk k1 0 n1 s1 [] [] 0 0, .mk k2 0 n2 s2 [] [] 0 0] 0 0) [.int .u8 k, .int .u8 o, .int .i32 0, .string ⟨#[]⟩, .slice none 0 0, .slice (some ⟨wr.heap.size + 1, 0, none⟩) 2 2, .int .i64 0, .int .i64 0] := by
  subst hW
  have hh := (Has.new (wr.alloc (.cells #[.int .u8 k, .int .u8 o, .int .i32 0, .string ⟨#[]⟩, .slice none 0 0, .slice (some ⟨wr.heap.size + 1, 0, none⟩) 2 2, .int .i64 0, .int .i64 0] 29)) 29 #[.int .u8 k1, .int .u8 0, .int .i32 n1, .string s1, .slice none 0 0, .slice none 0 0, .int .i64 0, .int .i64 0, .int .u8 k2, .int .u8 0, .int .i32 n2, .string s2, .slice none 0 0, .slice none 0 0, .int .i64 0, .int .i64 0])
  rw [World.size_alloc] at hh
  refine ⟨((Below.refl _ wr).alloc (Nat.le_refl _) _).alloc (by simp) _, (Has.new wr _ _).alloc _, nodeP hk.1 hk.2.1 (by simp) (kids1 (by omega) hk.2.2.1 h1 (fun j v hj => ?_) (kids1 (by omega) hk.2.2.2 h2 (fun j v hj => ?_) (by unfold LaidPK; trivial)))⟩
  · have hj8 : j < 8 := by have := (List.getElem?_eq_some_iff.1 hj).1; simpa using this
    rw [Nat.zero_add, hh.cell j, List.getElem?_toArray, ← hj]
    rcases (show j = 0 ∨ j = 1 ∨ j = 2 ∨ j = 3 ∨ j = 4 ∨ j = 5 ∨ j = 6 ∨ j = 7 by omega) with rfl | rfl | rfl | rfl | rfl | rfl | rfl | rfl <;> rfl
  · have hj8 : j < 8 := by have := (List.getElem?_eq_some_iff.1 hj).1; simpa using this
    rw [Nat.zero_add, hh.cell (8 + j), List.getElem?_toArray, ← hj]
    rcases (show j = 0 ∨ j = 1 ∨ j = 2 ∨ j = 3 ∨ j = 4 ∨ j = 5 ∨ j = 6 ∨ j = 7 by omega) with rfl | rfl | rfl | rfl | rfl | rfl | rfl | rfl <;> rfl
end Go.Proofs.YtnejkgkikpgajaaDoor.ini
