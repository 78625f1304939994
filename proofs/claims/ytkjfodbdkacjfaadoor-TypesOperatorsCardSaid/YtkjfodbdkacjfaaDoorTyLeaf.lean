/-
  common of one type; own of package types at a number, a truth, a constructor; must; expr at each of these.
-/
import Derived.Test.YtkjfodbdkacjfaaDoorTyOps
namespace Go.Proofs.YtkjfodbdkacjfaaDoor.ty
open Go.ChangeShapes Go.WideShapes Go.ChangeAt Go.RowKit
open Go.Proofs.YtkjfodbdkacjfaaDoor.lx (Has)
set_option linter.unusedVariables false

theorem selfs2a {W : World} {g : Nat} {t : TypeId} {a b : Value} (h : Has W g t #[a, b]) (v0 v1 : Value) (o : Obj) :
    (((W.setCell ⟨g, 0, none⟩ v0).setCell ⟨g, 1, none⟩ v1).alloc o).cell? ⟨g, 0, none⟩ = some v0 ∧ (((W.setCell ⟨g, 0, none⟩ v0).setCell ⟨g, 1, none⟩ v1).alloc o).cell? ⟨g, 1, none⟩ = some v1 :=
  ⟨(((h.put 0 v0).put 1 v1).alloc o).cell 0, (((h.put 0 v0).put 1 v1).alloc o).cell 1⟩

/-- what the package's own two types hold -/
def Glob (w : World) : Prop :=
  (∃ t fr, w.heap[0]? = some (.cells #[.int .u8 2, .string noT] t fr)) ∧ (∃ t fr, w.heap[1]? = some (.cells #[.int .u8 1, .string noT] t fr))
theorem blk_lt {w : World} {g : Nat} {o : Obj} (h : w.heap[g]? = some o) : g < w.heap.size := (Array.getElem?_eq_some_iff.1 h).1
theorem Glob.below {w w' : World} (h : Glob w) (hb : Below w.heap.size w w') : Glob w' := by
  obtain ⟨⟨t, fr, h1⟩, t', fr', h2⟩ := h
  exact ⟨⟨t, fr, (hb.block _ (blk_lt h1)).trans h1⟩, t', fr', (hb.block _ (blk_lt h2)).trans h2⟩

/-- the checker, at block g: the types' row, what is visible, the error -/
def Chk (w : World) (g : Nat) (en mv er : Value) : Prop := Has w g 48 #[en, .slice none 0 0, mv, er]

/-- an expression without kids -/
def Leaf (w : World) (b o : Nat) (k : Int) (s : ByteArray) : Prop :=
  w.cell? ⟨b, o, none⟩ = some (.int .u8 k) ∧ w.cell? ⟨b, o + 3, none⟩ = some (.string s) ∧ w.cell? ⟨b, o + 5, none⟩ = some (.slice none 0 0) ∧ w.cell? ⟨b, o + 6, none⟩ = some (.int .i64 0) ∧ w.cell? ⟨b, o + 7, none⟩ = some (.int .i64 0)
theorem Leaf.lt {w : World} {b o : Nat} {k : Int} {s : ByteArray} (h : Leaf w b o k s) : b < w.heap.size := World.block_lt_of_cell? w _ h.1
theorem Leaf.below {w w' : World} {b o B : Nat} {k : Int} {s : ByteArray} (h : Leaf w b o k s) (hb : Below B w w') (hB : b < B) : Leaf w' b o k s := by
  obtain ⟨h1, h2, h3, h4, h5⟩ := h
  exact ⟨(hb.cell (p := ⟨b, o, none⟩) hB).trans h1, (hb.cell (p := ⟨b, o + 3, none⟩) hB).trans h2, (hb.cell (p := ⟨b, o + 5, none⟩) hB).trans h3, (hb.cell (p := ⟨b, o + 6, none⟩) hB).trans h4, (hb.cell (p := ⟨b, o + 7, none⟩) hB).trans h5⟩

def OwnPost (w : World) (t : Value) (e : Ending) (w' : World) : Prop := e = .returned (.tuple #[t, .bool true]) ∧ Below w.heap.size w w'

set_option maxRecDepth 100000 in
theorem own_int (w : World) (g b o : Nat) (s : ByteArray) (c : Nat) (ka : Option Addr) (hG : Glob w) (hl : Leaf w b o 1 s) :
    Calls Tryd.prog 13 #[.pointer (some ⟨g, 0, none⟩), .pointer (some ⟨b, o, none⟩), .slice ka 0 c] w (OwnPost w (ty 2 noT)) := by
  unfold OwnPost
  have hbl := hl.lt
  obtain ⟨⟨t, fr, h1⟩, -⟩ := hG
  obtain ⟨l0, -⟩ := hl
  have g0 : w.cell? ⟨0, 0, none⟩ = some (.int .u8 2) := cell_of_row w _ 0 _ t fr h1
  have g1 : w.cell? ⟨0, 1, none⟩ = some (.string noT) := cell_of_row w _ 1 _ t fr h1
  have gl := blk_lt h1
  have HC := Lib.hid fun W => common_none W ka c
  clear h1
  go_enter Tryd.func13, Tryd.ntmps13
  go_wp2_with fail
  refine (HC.out _).mono ?_
  rintro e w1 ⟨rfl, hb1⟩
  have hB : Below w.heap.size w w1 := ((Below.refl _ w).alloc (Nat.le_refl _) _).trans (hb1.mono (by simp))
  have hr := (Has.new w 35 #[.int .u8 0, .string ⟨#[]⟩]).below hb1 (by simp)
  have rs := fun v0 v1 o1 => selfs2a hr v0 v1 o1
  have R := Lib.hid rs
  have rc0 := hr.cell 0
  have rc1 := hr.cell 1
  have rf := fun i => hr.free i
  simp only [List.getElem?_toArray, List.getElem?_cons_zero, List.getElem?_cons_succ] at rc0 rc1
  have HB := Lib.hid hB
  have hs := hb1.size
  simp only [World.size_alloc] at hs
  have q0 := (hB.cell (p := ⟨b, o, none⟩) hbl).trans l0
  have u0 := (hB.cell (p := ⟨0, 0, none⟩) gl).trans g0
  have u1 := (hB.cell (p := ⟨0, 1, none⟩) gl).trans g1
  have hbl1 : b < w1.heap.size := by omega
  have gl1 : 0 < w1.heap.size := by omega
  have wl1 : w.heap.size < w1.heap.size := by omega
  clear l0 g0 g1 HC hb1 hB hr rs
  go_wp2_with fail
  (try simp only [Exit.inBlock, Exit.then])
  refine bodyPost_ret (by simp [results, Tryd.results13, go_sem, R.out]; try rfl) rfl ?_
  exact ⟨rfl, ((HB.out.setCell (by simp) _).setCell (by simp) _).alloc (by simp; omega) _⟩

set_option maxRecDepth 100000 in
theorem own_bool (w : World) (g b o : Nat) (s : ByteArray) (c : Nat) (ka : Option Addr) (hG : Glob w) (hl : Leaf w b o 2 s) :
    Calls Tryd.prog 13 #[.pointer (some ⟨g, 0, none⟩), .pointer (some ⟨b, o, none⟩), .slice ka 0 c] w (OwnPost w (ty 1 noT)) := by
  unfold OwnPost
  have hbl := hl.lt
  obtain ⟨-, ⟨t, fr, h1⟩⟩ := hG
  obtain ⟨l0, -⟩ := hl
  have g0 : w.cell? ⟨1, 0, none⟩ = some (.int .u8 1) := cell_of_row w _ 0 _ t fr h1
  have g1 : w.cell? ⟨1, 1, none⟩ = some (.string noT) := cell_of_row w _ 1 _ t fr h1
  have gl := blk_lt h1
  have HC := Lib.hid fun W => common_none W ka c
  clear h1
  go_enter Tryd.func13, Tryd.ntmps13
  go_wp2_with fail
  refine (HC.out _).mono ?_
  rintro e w1 ⟨rfl, hb1⟩
  have hB : Below w.heap.size w w1 := ((Below.refl _ w).alloc (Nat.le_refl _) _).trans (hb1.mono (by simp))
  have hr := (Has.new w 35 #[.int .u8 0, .string ⟨#[]⟩]).below hb1 (by simp)
  have rs := fun v0 v1 o1 => selfs2a hr v0 v1 o1
  have R := Lib.hid rs
  have rc0 := hr.cell 0
  have rc1 := hr.cell 1
  have rf := fun i => hr.free i
  simp only [List.getElem?_toArray, List.getElem?_cons_zero, List.getElem?_cons_succ] at rc0 rc1
  have HB := Lib.hid hB
  have hs := hb1.size
  simp only [World.size_alloc] at hs
  have q0 := (hB.cell (p := ⟨b, o, none⟩) hbl).trans l0
  have u0 := (hB.cell (p := ⟨1, 0, none⟩) gl).trans g0
  have u1 := (hB.cell (p := ⟨1, 1, none⟩) gl).trans g1
  have hbl1 : b < w1.heap.size := by omega
  have gl1 : 1 < w1.heap.size := by omega
  have wl1 : w.heap.size < w1.heap.size := by omega
  clear l0 g0 g1 HC hb1 hB hr rs
  go_wp2_with fail
  (try simp only [Exit.inBlock, Exit.then])
  refine bodyPost_ret (by simp [results, Tryd.results13, go_sem, R.out]; try rfl) rfl ?_
  exact ⟨rfl, ((HB.out.setCell (by simp) _).setCell (by simp) _).alloc (by simp; omega) _⟩

set_option maxRecDepth 100000 in
/-- the type that has a constructor, if it is the i-th -/
theorem owner_any (w : World) (g eb n ec i : Nat) (mv er : Value) (l : List (List ByteArray)) (s nm : ByteArray) (hc : Chk w g (.slice (some ⟨eb, 0, none⟩) l.length ec) mv er) (hE : CtorsAt w (some ⟨eb, 0, none⟩) l) (hn : l.length ≤ 100) (hi : i < l.length) (hf : fstN (l.map (hasB s)) 0 = (i : Int)) (hN : w.cell? ⟨eb, i * 4, none⟩ = some (.string nm)) :
    Calls Tryd.prog 27 #[.pointer (some ⟨g, 0, none⟩), .string s] w (OwnPost w (ty 3 nm)) := by
  unfold OwnPost
  have hg := hc.lt
  have heb := World.block_lt_of_cell? w _ hN
  have he0 : eb < w.heap.size := heb
  have c0 := hc.cell 0
  simp only [List.getElem?_toArray, List.getElem?_cons_zero] at c0
  have HC := Lib.hid (ctorEnum_any (w.alloc (.cells #[.int .u8 0, .string ⟨#[]⟩] 35)) (some ⟨eb, 0, none⟩) l ec s (hE.below ((Below.refl _ w).alloc (Nat.le_refl _) _)) (by unfold maxLen; omega))
  have HF := Lib.hid hf
  have HE := Lib.hid hE
  have HK := Lib.hid hc
  clear hf hE heb hc
  go_enter Tryd.func27, Tryd.ntmps27
  go_wp2_with fail
  refine HC.out.mono ?_
  rintro e w1 ⟨rfl, hb1⟩
  rw [HF.out]
  have hB : Below w.heap.size w w1 := ((Below.refl _ w).alloc (Nat.le_refl _) _).trans (hb1.mono (by simp))
  have hr := (Has.new w 35 #[.int .u8 0, .string ⟨#[]⟩]).below hb1 (by simp)
  have rs := fun v0 v1 => selfs2 hr v0 v1
  have R := Lib.hid rs
  have rc0 := hr.cell 0
  have rc1 := hr.cell 1
  have rf := fun i => hr.free i
  simp only [List.getElem?_toArray, List.getElem?_cons_zero, List.getElem?_cons_succ] at rc0 rc1
  have HB := Lib.hid hB
  have hs := hb1.size
  simp only [World.size_alloc] at hs
  have q0 := (hB.cell (p := ⟨g, 0, none⟩) hg).trans c0
  have u0 := (hB.cell (p := ⟨eb, i * 4, none⟩) he0).trans hN
  have i0 : (0 : Int) ≤ (i : Int) := Int.natCast_nonneg _
  have i1 : (i : Int) < (l.length : Int) := by omega
  clear c0 hN hb1 hB hr rs HC
  go_wp2_with fail
  (try simp only [Exit.inBlock, Exit.then])
  refine bodyPost_ret (by simp [results, Tryd.results27, go_sem, R.out]; try rfl) rfl ?_
  exact ⟨rfl, (HB.out.setCell (by simp) _).setCell (by simp) _⟩
end Go.Proofs.YtkjfodbdkacjfaaDoor.ty
