/-
  Which entry of the survey's map an error is.
-/
import Derived.Test.YtnejkgkikpgajaaDoorFtMap
namespace Go.Proofs.YtnejkgkikpgajaaDoor.ft
open Go.ChangeShapes Go.WideShapes Go.ChangeAt Go.RowKit Go.Extern.Stop Go.Stop Go.Extern
open Go.Proofs.YtnejkgkikpgajaaDoor.lx (Has grown_refl grown_put grown_below)
set_option linter.unusedVariables false

theorem infoP : (Tryd.prog.info? 177).map (·.comparable) = some true := by kernel_rfl
theorem infoKc : (Tryd.prog.info? 56).map (·.comparable) = some true := by kernel_rfl
theorem infoAt : (Tryd.prog.info? 180).map (·.size) = some 5 := by kernel_rfl

theorem eqAA (g : Nat) (w : World) : (Op.equal 36 (kA g) (kA g)).run Tryd.prog w = .ok true w := by
  obtain ⟨i, hi, hc⟩ := Option.map_eq_some_iff.1 infoP
  obtain ⟨j, hj, _⟩ := Option.map_eq_some_iff.1 infoAt
  exact run_equalIn_iface_ptr_same w 9998 _ Tryd.underlying36 Tryd.underlying177 hi hc hj
theorem eqKA (k : Int) (g : Nat) (w : World) : (Op.equal 36 (kK k) (kA g)).run Tryd.prog w = .ok false w := by kernel_rfl
theorem eqAK (k : Int) (g : Nat) (w : World) : (Op.equal 36 (kA g) (kK k)).run Tryd.prog w = .ok false w := by kernel_rfl
theorem eqKKd (d : Nat) (k j : Int) (w : World) : (Op.equalIn (d + 2) 36 (kK k) (kK j)).run Tryd.prog w = .ok (k == j) w := by
  obtain ⟨i, hi, hc⟩ := Option.map_eq_some_iff.1 infoKc
  have h1 := run_underlying (P := Tryd.prog) (w := w) Tryd.underlying36
  have h2 := run_underlying (P := Tryd.prog) (w := w) Tryd.underlying56
  unfold kK
  simp [Op.equalIn, h1, h2, typeInfo, hi, hc, Result.andThen]
theorem eqKK1d (d : Nat) (k : Int) (w : World) : (Op.equalIn (d + 2) 36 (kK k) (kK k)).run Tryd.prog w = .ok true w := by
  rw [eqKKd, beq_self_eq_true]
theorem eqKK (k : Int) (w : World) : (Op.equal 36 (kK k) (kK k)).run Tryd.prog w = .ok true w := eqKK1d 9998 k w

theorem findNow_iface (ms : Array (String × TypeId)) (k : Value) (e : MapEntry) (es : List MapEntry) (i : Nat) : Instr.findNow (.interface ms) k (e :: es) i = none := by
  simp [Instr.findNow, Instr.sameNow]

theorem find_nil (key : Value) (w : World) : (Instr.findKey 36 key []).run Tryd.prog w = .ok none w := by
  have h1 := run_underlying (P := Tryd.prog) (w := w) Tryd.underlying36
  unfold Instr.findKey
  simp only [Sem.run_bind, h1, Result.andThen_ok, Instr.findNow]
  rfl

theorem find_cons (key : Value) (e : MapEntry) (es : List MapEntry) (w : World) : (Instr.findKey 36 key (e :: es)).run Tryd.prog w = (Instr.findAsking 36 key (e :: es)).run Tryd.prog w := by
  have h1 := run_underlying (P := Tryd.prog) (w := w) Tryd.underlying36
  unfold Instr.findKey
  simp only [Sem.run_bind, h1, Result.andThen_ok, findNow_iface]

theorem ask_nil (key : Value) (i : Nat) (w : World) : (Instr.findAsking 36 key [] i).run Tryd.prog w = .ok none w := rfl
theorem ask_cons (key : Value) (e : MapEntry) (es : List MapEntry) (i : Nat) (b : Bool) (w : World) (h : (Op.equal 36 key e.key).run Tryd.prog w = .ok b w) :
    (Instr.findAsking 36 key (e :: es) i).run Tryd.prog w = if b then .ok (some (i, e.val)) w else (Instr.findAsking 36 key es (i + 1)).run Tryd.prog w := by
  rw [Instr.findAsking]
  simp only [Sem.run_bind, h, Result.andThen_ok]
  cases b <;> rfl

theorem findA1 (g : Nat) (v : Value) (b : Nat) (w : World) : (Instr.findKey 36 (kA g) [⟨kA g, v, b⟩]).run Tryd.prog w = .ok (some (0, v)) w :=
  (find_cons (kA g) ⟨kA g, v, b⟩ [] w).trans (ask_cons (kA g) ⟨kA g, v, b⟩ [] 0 true w (eqAA g w))
theorem findK1 (g : Nat) (k : Int) (v : Value) (b : Nat) (w : World) : (Instr.findKey 36 (kK k) [⟨kA g, v, b⟩]).run Tryd.prog w = .ok none w :=
  (find_cons (kK k) ⟨kA g, v, b⟩ [] w).trans (ask_cons (kK k) ⟨kA g, v, b⟩ [] 0 false w (eqKA k g w))
theorem findA2 (g : Nat) (k : Int) (v u : Value) (b c : Nat) (w : World) : (Instr.findKey 36 (kA g) [⟨kA g, v, b⟩, ⟨kK k, u, c⟩]).run Tryd.prog w = .ok (some (0, v)) w :=
  (find_cons (kA g) ⟨kA g, v, b⟩ [⟨kK k, u, c⟩] w).trans (ask_cons (kA g) ⟨kA g, v, b⟩ [⟨kK k, u, c⟩] 0 true w (eqAA g w))
theorem askK1 (k : Int) (u : Value) (c : Nat) (w : World) : (Instr.findAsking 36 (kK k) [⟨kK k, u, c⟩] 1).run Tryd.prog w = .ok (some (1, u)) w := by
  rw [ask_cons (kK k) ⟨kK k, u, c⟩ [] 1 true w (eqKK k w), if_pos rfl]
theorem askK2 (g : Nat) (k : Int) (v u : Value) (b c : Nat) (w : World) : (Instr.findAsking 36 (kK k) [⟨kA g, v, b⟩, ⟨kK k, u, c⟩] 0).run Tryd.prog w = .ok (some (1, u)) w := by
  rw [ask_cons (kK k) ⟨kA g, v, b⟩ [⟨kK k, u, c⟩] 0 false w (eqKA k g w), if_neg (by decide)]
  exact askK1 k u c w
theorem findK2 (g : Nat) (k : Int) (v u : Value) (b c : Nat) (w : World) : (Instr.findKey 36 (kK k) [⟨kA g, v, b⟩, ⟨kK k, u, c⟩]).run Tryd.prog w = .ok (some (1, u)) w := by
  rw [find_cons (kK k) ⟨kA g, v, b⟩ [⟨kK k, u, c⟩] w]
  exact askK2 g k v u b c w

theorem bits_kA (n g : Nat) : Instr.sameBits (n + 2) (kA g) (kA g) = true := by simp [kA, Instr.sameBits]
theorem bits_kK (n : Nat) (k : Int) : Instr.sameBits (n + 2) (kK k) (kK k) = true := by simp [kK, Instr.sameBits]

theorem run_store_old (W : World) (m : Nat) (es : Array MapEntry) (c : Nat) (key v old : Value) (i : Nat) (hW : W.heap[m]? = some (.map es c))
    (hk : (Instr.checkKey false 10000 36 key).run Tryd.prog W = .ok () W) (hf : (Instr.findKey 36 key es.toList).run Tryd.prog W = .ok (some (i, old)) W)
    (hs : Instr.sameBits 10000 (((es[i]?).map (·.key)).getD key) key = true) :
    (Instr.mapUpdate 121 (.map (some m)) key v).run Tryd.prog W = .ok () { W with heap := W.heap.setIfInBounds m (.map (es.modify i fun e => { e with key, val := v }) c) } := by
  have hu := run_underlying (P := Tryd.prog) (w := W) Tryd.underlying121
  unfold Instr.mapUpdate
  simp only [Sem.run_bind, hu, Result.andThen_ok, @MapKept.run_getObj_map _ _ _ _ _ hW, hk, hf, Instr.keyThatStays, hs, if_true, Sem.run_pure, MapKept.run_setObj_map _ hW]
end Go.Proofs.YtnejkgkikpgajaaDoor.ft
