/-
  Maps from texts: the late variables, the indices of a block's own.
-/
import Derived.Test.YtnejkgkikpgajaaDoorInPure
import Derived.Test.YtnejkgkikpgajaaDoorLxHas
import Derived.MapKept
import Derived.StringKeys
import Derived.Handy
namespace Go.Proofs.YtnejkgkikpgajaaDoor.ini
open Go.ChangeShapes Go.WideShapes Go.ChangeAt Go.RowKit
open tr
set_option linter.unusedVariables false
set_option linter.unusedSimpArgs false

def MEnts : List MapEntry → List (ByteArray × Value) → Prop
  | [], [] => True
  | e :: es, x :: xs => e.key = .string x.1 ∧ e.val = x.2 ∧ MEnts es xs
  | _, _ => False
theorem MEnts.app : ∀ {es : List MapEntry} {L : List (ByteArray × Value)} {fs : List MapEntry} {M : List (ByteArray × Value)}, MEnts es L → MEnts fs M → MEnts (es ++ fs) (L ++ M)
  | [], [], _, _, _, h => h
  | _ :: _, _ :: _, _, _, ⟨h1, h2, h3⟩, h => ⟨h1, h2, h3.app h⟩
def mlk (n : ByteArray) : List (ByteArray × Value) → Option Value
  | [] => none
  | x :: r => if eqS n x.1 then some x.2 else mlk n r
theorem find_m (n : ByteArray) : ∀ {es : List MapEntry} {L : List (ByteArray × Value)} (i : Nat), MEnts es L →
    (mlk n L = none ∧ Instr.findNow .string (.string n) es i = some none) ∨ (∃ v j, mlk n L = some v ∧ Instr.findNow .string (.string n) es i = some (some (j, v)))
  | [], [], i, _ => .inl ⟨rfl, rfl⟩
  | e :: es, x :: xs, i, ⟨h1, h2, h4⟩ => by
    unfold mlk Instr.findNow
    rw [h1]
    simp only [Instr.sameNow]
    rw [show (n == x.1) = eqS n x.1 from Go.beq_toListBytes n x.1]
    cases hb : eqS n x.1
    · simp only [Bool.false_eq_true, if_false]
      exact find_m n (i + 1) h4
    · simp only [if_true]
      exact .inr ⟨x.2, i, rfl, by rw [h2]⟩
def MAt (w : World) (m : Nat) (L : List (ByteArray × Value)) : Prop := ∃ es c, w.heap[m]? = some (.map es c) ∧ MEnts es.toList L
theorem MAt.lt {w : World} {m : Nat} {L : List (ByteArray × Value)} (h : MAt w m L) : m < w.heap.size := by
  obtain ⟨es, c, h, _⟩ := h
  exact (Array.getElem?_eq_some_iff.1 h).1
theorem MAt.keep {w w' : World} {m : Nat} {L : List (ByteArray × Value)} (h : MAt w m L) (hb : w'.heap[m]? = w.heap[m]?) : MAt w' m L := by
  obtain ⟨es, c, h, hE⟩ := h
  exact ⟨es, c, hb.trans h, hE⟩
theorem MAt.below {w w' : World} {B m : Nat} {L : List (ByteArray × Value)} (h : MAt w m L) (hb : Below B w w') (hm : m < B) : MAt w' m L := h.keep (hb.block m hm)
theorem MAt.grown {w w' : World} {m : Nat} {r : Option Nat} {L : List (ByteArray × Value)} (h : MAt w m L) (hb : w.grownBy w' r) (hm : some m ≠ r) : MAt w' m L := h.keep (hb.block m h.lt hm)
theorem MAt.not {w : World} {m g : Nat} {L : List (ByteArray × Value)} (h : MAt w m L) {i : Nat} {v : Value} (hc : w.cell? ⟨g, i, none⟩ = some v) : g ≠ m := fun e => by
  subst e
  obtain ⟨es, c, h, _⟩ := h
  unfold World.cell? at hc
  simp [h] at hc
theorem MAt.notHas {w : World} {m g : Nat} {t : TypeId} {cs : Array Value} {L : List (ByteArray × Value)} (h : MAt w m L) (hh : Has w g t cs) : g ≠ m := fun e => by
  subst e
  obtain ⟨es, c, h, _⟩ := h
  unfold Has at hh
  rw [h] at hh
  injection hh with hh
  cases hh
theorem MAt.new (w : World) : MAt (w.alloc (.map #[] 0)) w.heap.size [] := ⟨#[], 0, by show (w.heap.push _)[w.heap.size]? = _; simp, trivial⟩
theorem get_lates {w : World} {m : Nat} {L : List (ByteArray × Value)} (n : ByteArray) (h : MAt w m L) :
    (Instr.lookup 81 (.map (some m)) (.string n) true).run Tryd.prog w = .ok (.tuple #[(mlk n L).getD (.agg #[]), .bool (mlk n L).isSome]) w := by
  obtain ⟨es, c, hW, hE⟩ := h
  have hz : (zeroValue 117).run Tryd.prog w = .ok (.agg #[]) w := by kernel_rfl
  have hu := run_underlying (P := Tryd.prog) (w := w) Tryd.underlying81
  have hus := run_underlying (P := Tryd.prog) (w := w) Tryd.underlying9
  have hk : ∀ b, (Instr.checkKey b 10000 9 (.string n)).run Tryd.prog w = .ok () w := fun b => by kernel_rfl
  rcases find_m n 0 hE with ⟨h1, h2⟩ | ⟨v, j, h1, h2⟩
  · have hf : (Instr.findKey 9 (.string n) es.toList).run Tryd.prog w = .ok none w := by
      unfold Instr.findKey
      simp only [Sem.run_bind, hus, Result.andThen_ok, h2, Sem.run_pure]
    rw [h1]
    unfold Instr.lookup
    simp only [Sem.run_bind, hu, Result.andThen_ok, @MapKept.run_getObj_map _ _ _ _ _ hW]
    simp [hk, hf, hz, Result.andThen]
  · have hf : (Instr.findKey 9 (.string n) es.toList).run Tryd.prog w = .ok (some (j, v)) w := by
      unfold Instr.findKey
      simp only [Sem.run_bind, hus, Result.andThen_ok, h2, Sem.run_pure]
    rw [h1]
    unfold Instr.lookup
    simp only [Sem.run_bind, hu, Result.andThen_ok, @MapKept.run_getObj_map _ _ _ _ _ hW]
    simp [hk, hf, Result.andThen]
theorem put_lates {w : World} {m : Nat} {L : List (ByteArray × Value)} (n : ByteArray) (v : Value) (h : MAt w m L) (hn : mlk n L = none) :
    ∃ W, (Instr.mapUpdate 81 (.map (some m)) (.string n) v).run Tryd.prog w = .ok () W ∧ MAt W m (L ++ [(n, v)]) ∧ w.grownBy W (some m) := by
  obtain ⟨es, c, hW, hE⟩ := h
  have hf : Instr.findNow .string (.string n) es.toList 0 = some none := by
    rcases find_m n 0 hE with ⟨_, hf⟩ | ⟨v', j, hx, _⟩
    · exact hf
    · rw [hn] at hx; cases hx
  have hm : m < w.heap.size := (Array.getElem?_eq_some_iff.1 hW).1
  have hu := run_underlying (P := Tryd.prog) (w := w) Tryd.underlying81
  have hus := run_underlying (P := Tryd.prog) (w := w) Tryd.underlying9
  have hk : ∀ b, (Instr.checkKey b 10000 9 (.string n)).run Tryd.prog w = .ok () w := fun b => by kernel_rfl
  have hf' : (Instr.findKey 9 (.string n) es.toList).run Tryd.prog w = .ok none w := by
    unfold Instr.findKey
    simp only [Sem.run_bind, hus, Result.andThen_ok, hf, Sem.run_pure]
  refine ⟨{ w with heap := w.heap.setIfInBounds m (.map (es.push { key := .string n, val := v, born := c }) (c + 1)) }, ?_, ?_, ?_⟩
  · unfold Instr.mapUpdate
    simp only [Sem.run_bind, hu, Result.andThen_ok, @MapKept.run_getObj_map _ _ _ _ _ hW, hk, hf', MapKept.run_setObj_map _ hW]
  · refine ⟨es.push { key := .string n, val := v, born := c }, c + 1, by simp [hm], ?_⟩
    rw [Array.toList_push]
    exact hE.app ⟨rfl, rfl, trivial⟩
  · exact ⟨rfl, rfl, rfl, by simp, fun k hk hne => by
      have : k ≠ m := fun e => hne (by rw [e])
      simp [Array.getElem?_setIfInBounds, this.symm]⟩
theorem get_numbers {w : World} {m : Nat} {L : List (ByteArray × Value)} (n : ByteArray) (h : MAt w m L) :
    (Instr.lookup 85 (.map (some m)) (.string n) true).run Tryd.prog w = .ok (.tuple #[(mlk n L).getD (.int .i64 0), .bool (mlk n L).isSome]) w := by
  obtain ⟨es, c, hW, hE⟩ := h
  have hz : (zeroValue 3).run Tryd.prog w = .ok (.int .i64 0) w := by kernel_rfl
  have hu := run_underlying (P := Tryd.prog) (w := w) Tryd.underlying85
  have hus := run_underlying (P := Tryd.prog) (w := w) Tryd.underlying9
  have hk : ∀ b, (Instr.checkKey b 10000 9 (.string n)).run Tryd.prog w = .ok () w := fun b => by kernel_rfl
  rcases find_m n 0 hE with ⟨h1, h2⟩ | ⟨v, j, h1, h2⟩
  · have hf : (Instr.findKey 9 (.string n) es.toList).run Tryd.prog w = .ok none w := by
      unfold Instr.findKey
      simp only [Sem.run_bind, hus, Result.andThen_ok, h2, Sem.run_pure]
    rw [h1]
    unfold Instr.lookup
    simp only [Sem.run_bind, hu, Result.andThen_ok, @MapKept.run_getObj_map _ _ _ _ _ hW]
    simp [hk, hf, hz, Result.andThen]
  · have hf : (Instr.findKey 9 (.string n) es.toList).run Tryd.prog w = .ok (some (j, v)) w := by
      unfold Instr.findKey
      simp only [Sem.run_bind, hus, Result.andThen_ok, h2, Sem.run_pure]
    rw [h1]
    unfold Instr.lookup
    simp only [Sem.run_bind, hu, Result.andThen_ok, @MapKept.run_getObj_map _ _ _ _ _ hW]
    simp [hk, hf, Result.andThen]
theorem put_numbers {w : World} {m : Nat} {L : List (ByteArray × Value)} (n : ByteArray) (v : Value) (h : MAt w m L) (hn : mlk n L = none) :
    ∃ W, (Instr.mapUpdate 85 (.map (some m)) (.string n) v).run Tryd.prog w = .ok () W ∧ MAt W m (L ++ [(n, v)]) ∧ w.grownBy W (some m) := by
  obtain ⟨es, c, hW, hE⟩ := h
  have hf : Instr.findNow .string (.string n) es.toList 0 = some none := by
    rcases find_m n 0 hE with ⟨_, hf⟩ | ⟨v', j, hx, _⟩
    · exact hf
    · rw [hn] at hx; cases hx
  have hm : m < w.heap.size := (Array.getElem?_eq_some_iff.1 hW).1
  have hu := run_underlying (P := Tryd.prog) (w := w) Tryd.underlying85
  have hus := run_underlying (P := Tryd.prog) (w := w) Tryd.underlying9
  have hk : ∀ b, (Instr.checkKey b 10000 9 (.string n)).run Tryd.prog w = .ok () w := fun b => by kernel_rfl
  have hf' : (Instr.findKey 9 (.string n) es.toList).run Tryd.prog w = .ok none w := by
    unfold Instr.findKey
    simp only [Sem.run_bind, hus, Result.andThen_ok, hf, Sem.run_pure]
  refine ⟨{ w with heap := w.heap.setIfInBounds m (.map (es.push { key := .string n, val := v, born := c }) (c + 1)) }, ?_, ?_, ?_⟩
  · unfold Instr.mapUpdate
    simp only [Sem.run_bind, hu, Result.andThen_ok, @MapKept.run_getObj_map _ _ _ _ _ hW, hk, hf', MapKept.run_setObj_map _ hW]
  · refine ⟨es.push { key := .string n, val := v, born := c }, c + 1, by simp [hm], ?_⟩
    rw [Array.toList_push]
    exact hE.app ⟨rfl, rfl, trivial⟩
  · exact ⟨rfl, rfl, rfl, by simp, fun k hk hne => by
      have : k ≠ m := fun e => hne (by rw [e])
      simp [Array.getElem?_setIfInBounds, this.symm]⟩

/-- the late variables -/
def ltL (S : List ByteArray) : List (ByteArray × Value) := S.map (fun n => (n, .agg #[]))
theorem mlk_lt (n : ByteArray) : ∀ S : List ByteArray, mlk n (ltL S) = if memB n S then some (.agg #[]) else none
  | [] => rfl
  | x :: r => by
    show (if eqS n x then some (Value.agg #[]) else mlk n (ltL r)) = _
    unfold memB
    rw [List.any_cons]
    cases eqS n x
    · simp only [Bool.false_eq_true, if_false, Bool.false_or]; exact mlk_lt n r
    · simp
theorem ltL_app (S : List ByteArray) (n : ByteArray) : ltL (S ++ [n]) = ltL S ++ [(n, .agg #[])] := by simp [ltL]
/-- the indices of names -/
def nbL (i : Nat) : List ByteArray → List (ByteArray × Value)
  | [] => []
  | x :: r => (x, .int .i64 i) :: nbL (i + 1) r
theorem mlk_nb (n : ByteArray) : ∀ (L : List ByteArray) (i : Nat), mlk n (nbL i L) = (idx n L).map (fun j => .int .i64 ((i + j : Nat) : Int))
  | [], i => rfl
  | x :: r, i => by
    show (if eqS n x then some (Value.int .i64 i) else mlk n (nbL (i + 1) r)) = _
    unfold idx
    cases eqS n x
    · simp only [Bool.false_eq_true, if_false]
      rw [mlk_nb n r (i + 1)]
      cases idx n r <;> simp [Nat.add_comm, Nat.add_left_comm]
    · simp
theorem nbL_app (n : ByteArray) : ∀ (L : List ByteArray) (i : Nat), nbL i (L ++ [n]) = nbL i L ++ [(n, .int .i64 ((i + L.length : Nat) : Int))]
  | [], i => by simp [nbL]
  | x :: r, i => by
    show (x, _) :: nbL (i + 1) (r ++ [n]) = _
    rw [nbL_app n r (i + 1)]
    simp [nbL, Nat.add_comm, Nat.add_left_comm]

set_option maxRecDepth 100000 in
theorem has_any (w : World) (m : Nat) (S : List ByteArray) (n : ByteArray) (h : MAt w m (ltL S)) :
    Calls Tryd.prog 23 #[.map (some m), .string n] w fun e w' => e = .returned (.bool (memB n S)) ∧ Below w.heap.size w w' := by
  have hg := get_lates n h
  rw [mlk_lt] at hg
  clear h
  cases hb : memB n S
  · rw [hb] at hg
    simp only [Bool.false_eq_true, if_false, Option.getD_none, Option.isSome_none] at hg
    clear hb
    go_enter Tryd.func23, Tryd.ntmps23
    go_wp2_with fail
    go_ret
    exact ⟨rfl, by go_grown⟩
  · rw [hb] at hg
    simp only [if_true, Option.getD_some, Option.isSome_some] at hg
    clear hb
    go_enter Tryd.func23, Tryd.ntmps23
    go_wp2_with fail
    go_ret
    exact ⟨rfl, by go_grown⟩
set_option maxRecDepth 100000 in
theorem nhas_any (w : World) (m : Nat) (L : List ByteArray) (n : ByteArray) (h : MAt w m (nbL 0 L)) :
    Calls Tryd.prog 75 #[.map (some m), .string n] w fun e w' => e = .returned (.bool (memB n L)) ∧ Below w.heap.size w w' := by
  have hg := get_numbers n h
  rw [mlk_nb] at hg
  clear h
  rcases hx : idx n L with _ | j
  · have hb : memB n L = false := memB_false.2 (idx_none.1 hx)
    have HB := Lib.hid hb
    rw [hx] at hg
    simp only [Option.map_none, Option.getD_none, Option.isSome_none] at hg
    clear hb hx
    go_enter Tryd.func75, Tryd.ntmps75
    go_wp2_with fail
    go_ret
    exact ⟨ret_bool' HB.out.symm, by go_grown⟩
  · have hb : memB n L = true := memB_iff.2 (by obtain ⟨h, e⟩ := idx_some hx; rw [← e]; exact List.getElem_mem h)
    have HB := Lib.hid hb
    rw [hx] at hg
    simp only [Option.map_some, Option.getD_some, Option.isSome_some] at hg
    clear hb hx
    go_enter Tryd.func75, Tryd.ntmps75
    go_wp2_with fail
    go_ret
    exact ⟨ret_bool' HB.out.symm, by go_grown⟩
def AddPost (w : World) (m : Nat) (S : List ByteArray) (n : ByteArray) (e : Ending) (w' : World) : Prop :=
  e = .returned (.bool (!memB n S)) ∧ MAt w' m (ltL (if memB n S then S else S ++ [n])) ∧ w.grownBy w' (some m)
set_option maxRecDepth 100000 in
theorem add_any (w : World) (m : Nat) (S : List ByteArray) (n : ByteArray) (h : MAt w m (ltL S)) :
    Calls Tryd.prog 81 #[.map (some m), .string n] w (AddPost w m S n) := by
  have HH := Lib.hid (has_any w m S n h)
  have HM := Lib.hid h
  clear h
  unfold AddPost
  cases hb : memB n S
  · have HB := Lib.hid hb
    clear hb
    go_enter Tryd.func81, Tryd.ntmps81
    go_wp2_with fail
    refine HH.out.mono ?_
    rintro e w1 ⟨rfl, hb1⟩
    rw [HB.out]
    have HB1 := Lib.hid hb1
    obtain ⟨W, hr, hm, hg⟩ := put_lates n (.agg #[]) (HM.out.below hb1 HM.out.lt) (by rw [mlk_lt, HB.out]; rfl)
    rw [← ltL_app] at hm
    have H2 := Lib.hid (And.intro hm (grown_below (some m) hb1 |> fun h => World.grownBy.mk (hg.os.trans h.os) (hg.tape.trans h.tape) (hg.output.trans h.output) (Nat.le_trans h.size hg.size) (fun i hi hne => (hg.block i (Nat.lt_of_lt_of_le hi h.size) hne).trans (h.block i hi hne))))
    clear hm hg hb1 HH
    go_wp2_with fail
    go_ret
    exact ⟨rfl, H2.out.1, H2.out.2⟩
  · have HB := Lib.hid hb
    clear hb
    go_enter Tryd.func81, Tryd.ntmps81
    go_wp2_with fail
    refine HH.out.mono ?_
    rintro e w1 ⟨rfl, hb1⟩
    rw [HB.out]
    have HB1 := Lib.hid hb1
    clear hb1 HH
    go_wp2_with fail
    go_ret
    exact ⟨rfl, HM.out.below HB1.out HM.out.lt, grown_below _ HB1.out⟩
end Go.Proofs.YtnejkgkikpgajaaDoor.ini
