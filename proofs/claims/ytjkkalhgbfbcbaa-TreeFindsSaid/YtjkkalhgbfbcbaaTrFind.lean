/-
  Find, FindNode, FindEnum, CtorEnum of package tree: their walks.
-/
import Derived.Test.YtjkkalhgbfbcbaaTrFst
namespace Go.Proofs.Ytjkkalhgbfbcbaa.tr
open Go.ChangeShapes Go.WideShapes Go.ChangeAt Go.RowKit
set_option linter.unusedVariables false

theorem eqS_comm (a b : ByteArray) : eqS a b = eqS b a := by unfold eqS; exact Bool.beq_comm
/-- names, one every sz cells -/
def NamesAt (sz : Nat) (w : World) (a : Option Addr) (l : List ByteArray) : Prop :=
  ∀ i s, l[i]? = some s → ∃ b off, a = some ⟨b, off, none⟩ ∧ w.cell? ⟨b, off + i * sz, none⟩ = some (.string s)
theorem NamesAt.below {sz : Nat} {w w' : World} {a : Option Addr} {l : List ByteArray} (h : NamesAt sz w a l) (hb : Below w.heap.size w w') : NamesAt sz w' a l := by
  intro i s hi
  obtain ⟨b, off, e, hc⟩ := h i s hi
  exact ⟨b, off, e, (hb.cell (p := ⟨b, off + i * sz, none⟩) (World.block_lt_of_cell? w _ hc)).trans hc⟩
/-- types, all of one name, by their constructors -/
def EnumsAt (w : World) (a : Option Addr) (nm : ByteArray) (l : List (List ByteArray)) : Prop :=
  ∀ i cs, l[i]? = some cs → cs.length ≤ 40 ∧ ∃ b off ca cc, a = some ⟨b, off, none⟩ ∧ w.cell? ⟨b, off + i * 4, none⟩ = some (.string nm) ∧ w.cell? ⟨b, off + i * 4 + 1, none⟩ = some (.slice ca cs.length cc) ∧ Strs w ca cs
theorem EnumsAt.below {w w' : World} {a : Option Addr} {nm : ByteArray} {l : List (List ByteArray)} (h : EnumsAt w a nm l) (hb : Below w.heap.size w w') : EnumsAt w' a nm l := by
  intro i cs hi
  obtain ⟨hl, b, off, ca, cc, e, h1, h2, h3⟩ := h i cs hi
  exact ⟨hl, b, off, ca, cc, e, (hb.cell (p := ⟨b, off + i * 4, none⟩) (World.block_lt_of_cell? w _ h1)).trans h1, (hb.cell (p := ⟨b, off + i * 4 + 1, none⟩) (World.block_lt_of_cell? w _ h2)).trans h2, h3.below hb⟩

def hitsL (s : ByteArray) (l : List ByteArray) : List Bool := l.map fun x => eqS x s

set_option maxRecDepth 100000 in
theorem find_any (w : World) (a : Option Addr) (l : List ByteArray) (c : Nat) (s : ByteArray) (h : NamesAt 15 w a l) (hl : l.length ≤ maxLen) :
    Calls Try.prog 20 #[.slice a l.length c, .string s] w fun e w' => e = .returned (.int .i64 (fstN (hitsL s l) 0)) ∧ Below w.heap.size w w' := by
  have hmf : ∀ (fn : Fn) (first cap : Array Value) (w : World), (Instr.makeFunc fn first cap).run Try.prog w = .ok (.func fn first cap) w := fun _ _ _ _ => rfl
  have hb := (Below.refl w.heap.size w).alloc (Nat.le_refl _) (.cells #[.string s] 9)
  have hn := (Has.new w 9 #[.string s]).cell 0
  simp only [List.getElem?_toArray, List.getElem?_cons_zero] at hn
  have hp := place_var w.heap.size (w.alloc (.cells #[.string s] 9)) a (hitsL s l) c (by simpa [hitsL] using hl) (fun i hi => by
    have hil : i < l.length := by simpa [hitsL] using hi
    obtain ⟨b, off, e, hc⟩ := h.below hb i l[i] (List.getElem?_eq_getElem hil)
    refine ⟨b, off, e, fun j => ?_⟩
    have := find_clo ((w.alloc (.cells #[.string s] 9)).drewN j) b (off + i * 15) w.heap.size l[i] s hc hn
    simpa [hitsL] using this)
  simp only [hitsL, List.length_map] at hp
  have HP := Lib.hid hp
  have HB := Lib.hid hb
  clear hp hb hn h
  go_enter Try.func20, Try.ntmps20
  go_wp2_with fail
  refine HP.out.mono ?_
  rintro e w2 ⟨rfl, n2, rfl⟩
  go_wp2_with fail
  go_ret
  exact ⟨rfl, below_drewN HB.out _⟩

set_option maxRecDepth 100000 in
theorem findEnum_any (w : World) (a : Option Addr) (l : List (List ByteArray)) (c : Nat) (nm : ByteArray) (s : ByteArray) (h : EnumsAt w a nm l) (hl : l.length ≤ maxLen) :
    Calls Try.prog 27 #[.slice a l.length c, .string s] w fun e w' => e = .returned (.int .i64 (fstN (l.map fun _ => eqS nm s) 0)) ∧ Below w.heap.size w w' := by
  have hmf : ∀ (fn : Fn) (first cap : Array Value) (w : World), (Instr.makeFunc fn first cap).run Try.prog w = .ok (.func fn first cap) w := fun _ _ _ _ => rfl
  have hb := (Below.refl w.heap.size w).alloc (Nat.le_refl _) (.cells #[.string s] 9)
  have hn := (Has.new w 9 #[.string s]).cell 0
  simp only [List.getElem?_toArray, List.getElem?_cons_zero] at hn
  have hp := place_enum w.heap.size (w.alloc (.cells #[.string s] 9)) a (l.map fun _ => eqS nm s) c (by simpa [hitsL] using hl) (fun i hi => by
    have hil : i < l.length := by simpa [hitsL] using hi
    obtain ⟨hcl, b, off, ca, cc, e, h1, h2, h3⟩ := h.below hb i l[i] (List.getElem?_eq_getElem hil)
    refine ⟨b, off, e, fun j => ?_⟩
    have := enum_clo ((w.alloc (.cells #[.string s] 9)).drewN j) b (off + i * 4) w.heap.size nm s h1 hn
    simpa using this)
  simp only [List.length_map] at hp
  have HP := Lib.hid hp
  have HB := Lib.hid hb
  clear hp hb hn h
  go_enter Try.func27, Try.ntmps27
  go_wp2_with fail
  refine HP.out.mono ?_
  rintro e w2 ⟨rfl, n2, rfl⟩
  go_wp2_with fail
  go_ret
  exact ⟨rfl, below_drewN HB.out _⟩

set_option maxRecDepth 100000 in
theorem ctorEnum_any (w : World) (a : Option Addr) (l : List (List ByteArray)) (c : Nat) (nm : ByteArray) (s : ByteArray) (h : EnumsAt w a nm l) (hl : l.length ≤ maxLen) :
    Calls Try.prog 22 #[.slice a l.length c, .string s] w fun e w' => e = .returned (.int .i64 (fstN (l.map (hasB s)) 0)) ∧ Below w.heap.size w w' := by
  have hmf : ∀ (fn : Fn) (first cap : Array Value) (w : World), (Instr.makeFunc fn first cap).run Try.prog w = .ok (.func fn first cap) w := fun _ _ _ _ => rfl
  have hb := (Below.refl w.heap.size w).alloc (Nat.le_refl _) (.cells #[.string s] 9)
  have hn := (Has.new w 9 #[.string s]).cell 0
  simp only [List.getElem?_toArray, List.getElem?_cons_zero] at hn
  have hp := place_ctor w.heap.size (w.alloc (.cells #[.string s] 9)) a (l.map (hasB s)) c (by simpa [hitsL] using hl) (fun i hi => by
    have hil : i < l.length := by simpa [hitsL] using hi
    obtain ⟨hcl, b, off, ca, cc, e, h1, h2, h3⟩ := h.below hb i l[i] (List.getElem?_eq_getElem hil)
    refine ⟨b, off, e, fun j => ?_⟩
    have := ctor_clo ((w.alloc (.cells #[.string s] 9)).drewN j) b (off + i * 4) w.heap.size ca l[i] cc s h2 hn h3 (by unfold maxLen; omega)
    simpa using this)
  simp only [List.length_map] at hp
  have HP := Lib.hid hp
  have HB := Lib.hid hb
  clear hp hb hn h
  go_enter Try.func22, Try.ntmps22
  go_wp2_with fail
  refine HP.out.mono ?_
  rintro e w2 ⟨rfl, n2, rfl⟩
  go_wp2_with fail
  go_ret
  exact ⟨rfl, below_drewN HB.out _⟩

set_option maxRecDepth 100000 in
theorem findNode_any (w : World) (a : Option Addr) (l : List ByteArray) (c : Nat) (en : Value) (s : ByteArray) (h : NamesAt 7 w a l) (hl : l.length ≤ maxLen) :
    Calls Try.prog 21 #[.agg #[en, .slice a l.length c], .string s] w fun e w' => e = .returned (.int .i64 (fstN (hitsL s l) 0)) ∧ Below w.heap.size w w' := by
  have hmf : ∀ (fn : Fn) (first cap : Array Value) (w : World), (Instr.makeFunc fn first cap).run Try.prog w = .ok (.func fn first cap) w := fun _ _ _ _ => rfl
  have hb := ((Below.refl w.heap.size w).alloc (Nat.le_refl _) (.cells #[en, .slice a l.length c] 28)).alloc (by simp) (.cells #[.string s] 9)
  have hn := (Has.new (w.alloc (.cells #[en, .slice a l.length c] 28)) 9 #[.string s]).cell 0
  simp only [List.getElem?_toArray, List.getElem?_cons_zero, World.size_alloc] at hn
  have hp := place_node (w.heap.size + 1) ((w.alloc (.cells #[en, .slice a l.length c] 28)).alloc (.cells #[.string s] 9)) a (hitsL s l) c (by simpa [hitsL] using hl) (fun i hi => by
    have hil : i < l.length := by simpa [hitsL] using hi
    obtain ⟨b, off, e, hc⟩ := h.below hb i l[i] (List.getElem?_eq_getElem hil)
    refine ⟨b, off, e, fun j => ?_⟩
    have := node_clo (((w.alloc (.cells #[en, .slice a l.length c] 28)).alloc (.cells #[.string s] 9)).drewN j) b (off + i * 7) (w.heap.size + 1) l[i] s hc hn
    simpa [hitsL] using this)
  simp only [hitsL, List.length_map] at hp
  have HP := Lib.hid hp
  have HB := Lib.hid hb
  clear hp hb hn h
  go_enter Try.func21, Try.ntmps21
  go_wp2_with fail
  refine HP.out.mono ?_
  rintro e w2 ⟨rfl, n2, rfl⟩
  go_wp2_with fail
  go_ret
  exact ⟨rfl, below_drewN HB.out _⟩
end Go.Proofs.Ytjkkalhgbfbcbaa.tr
