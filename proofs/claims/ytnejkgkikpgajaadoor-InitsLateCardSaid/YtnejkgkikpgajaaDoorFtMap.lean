/-
  The survey's map, whose keys are errors: what a look-up and a store do where the map's entries are known.
-/
import Derived.Test.YtnejkgkikpgajaaDoorFtWrapped
import Derived.RangeFuncRecord
import Derived.MapKept
import Derived.RegionTactic
import Derived.ChangeAlike
namespace Go.Proofs.YtnejkgkikpgajaaDoor.ft
open Go.ChangeShapes Go.WideShapes Go.ChangeAt Go.RowKit Go.Extern.Stop Go.Stop Go.Extern
open Go.Proofs.YtnejkgkikpgajaaDoor.lx (Has grown_refl grown_put grown_below)
set_option linter.unusedVariables false

/-- w' is w, but for these blocks, and with new ones. -/
structure Turns (S : List Nat) (w w' : World) : Prop where
  os : w'.os = w.os
  tape : w'.tape = w.tape
  output : w'.output = w.output
  size : w.heap.size ≤ w'.heap.size
  block : ∀ k, k < w.heap.size → k ∉ S → w'.heap[k]? = w.heap[k]?

theorem Turns.refl (S : List Nat) (w : World) : Turns S w w := ⟨rfl, rfl, rfl, Nat.le_refl _, fun _ _ _ => rfl⟩
theorem Turns.trans {S : List Nat} {a b c : World} (h : Turns S a b) (k : Turns S b c) : Turns S a c :=
  ⟨k.os.trans h.os, k.tape.trans h.tape, k.output.trans h.output, Nat.le_trans h.size k.size, fun i hi hn => (k.block i (Nat.lt_of_lt_of_le hi h.size) hn).trans (h.block i hi hn)⟩
theorem Turns.mono {S T : List Nat} {a b : World} (h : Turns S a b) (hs : ∀ x ∈ S, x ∈ T) : Turns T a b := ⟨h.os, h.tape, h.output, h.size, fun i hi hn => h.block i hi (fun hm => hn (hs i hm))⟩
theorem Turns.drew {S : List Nat} {a w : World} (h : Turns S a w) : Turns S a w.drew := ⟨h.os, h.tape, h.output, h.size, h.block⟩
theorem Turns.alloc {S : List Nat} {a w : World} (h : Turns S a w) (o : Obj) : Turns S a (w.alloc o) :=
  h.trans ⟨rfl, rfl, rfl, by simp, fun k hk _ => Below.heap_alloc _ _ _ hk⟩
theorem Turns.put {S : List Nat} {a w : World} (h : Turns S a w) (g i : Nat) (v : Value) (hg : g ∈ S) : Turns S a (w.setCell ⟨g, i, none⟩ v) :=
  h.trans ⟨rfl, rfl, rfl, by simp [World.setCell], fun k hk hn => Below.heap_setCell _ _ _ _ (fun e => hn (by rw [e]; exact hg))⟩
theorem Turns.obj {S : List Nat} {a w : World} (h : Turns S a w) (g : Nat) (o : Obj) (hg : g ∈ S) : Turns S a { w with heap := w.heap.setIfInBounds g o } :=
  h.trans ⟨rfl, rfl, rfl, by simp, fun k hk hn => by simp [show g ≠ k from fun e => hn (by rw [← e]; exact hg)]⟩
theorem Turns.below {S : List Nat} {a w w' : World} (h : Turns S a w) (hb : Below w.heap.size w w') : Turns S a w' := h.trans ⟨hb.os, hb.tape, hb.output, hb.size, fun k hk _ => hb.block k hk⟩
theorem Turns.grown {S : List Nat} {a w w' : World} {g : Nat} (h : Turns S a w) (hb : w.grownBy w' (some g)) (hg : g ∈ S) : Turns S a w' :=
  h.trans ⟨hb.os, hb.tape, hb.output, hb.size, fun k hk hn => hb.block k hk (fun e => hn (by injection e with e; rw [e]; exact hg))⟩
theorem Turns.has {S : List Nat} {w w' : World} (ht : Turns S w w') {g : Nat} {t : TypeId} {cs : Array Value} (h : Has w g t cs) (hg : g ∉ S) : Has w' g t cs := (ht.block g h.lt hg).trans h
theorem Turns.toBelow {S : List Nat} {w w' : World} {B : Nat} (h : Turns S w w') (hB : B ≤ w.heap.size) (hS : ∀ x ∈ S, B ≤ x) : Below B w w' :=
  ⟨h.os, h.tape, h.output, h.size, fun k hk => h.block k (by omega) (fun hm => by have := hS k hm; omega)⟩

def kA (g : Nat) : Value := .iface 177 (.pointer (some ⟨g, 0, none⟩))
def kK (k : Int) : Value := .iface 56 (.int .i64 k)

theorem ueq (w : World) : Tryd.prog.underlying 36 = some (.interface (match Tryd.prog.underlying 36 with | some (.interface ms) => ms | _ => #[])) := by kernel_rfl

theorem checkA (b : Bool) (g : Nat) (w : World) : (Instr.checkKey b 10000 36 (.iface 177 (.pointer (some ⟨g, 0, none⟩)))).run Tryd.prog w = .ok () w := by kernel_rfl
theorem checkK (b : Bool) (k : Int) (w : World) : (Instr.checkKey b 10000 36 (.iface 56 (.int .i64 k))).run Tryd.prog w = .ok () w := by kernel_rfl

theorem run_look (W : World) (m : Nat) (es : Array MapEntry) (c : Nat) (key : Value) (r : Option (Nat × Value)) (hW : W.heap[m]? = some (.map es c))
    (hk : (Instr.checkKey es.isEmpty 10000 36 key).run Tryd.prog W = .ok () W) (hf : (Instr.findKey 36 key es.toList).run Tryd.prog W = .ok r W) :
    (Instr.lookup 121 (.map (some m)) key false).run Tryd.prog W = .ok (match r with | some (_, v) => v | none => .int .i64 0) W := by
  have hz : (zeroValue 3).run Tryd.prog W = .ok (.int .i64 0) W := by kernel_rfl
  have hu := run_underlying (P := Tryd.prog) (w := W) Tryd.underlying121
  unfold Instr.lookup
  simp only [Sem.run_bind, hu, Result.andThen_ok, @MapKept.run_getObj_map _ _ _ _ _ hW]
  cases r with
  | none => simp [hk, hf, hz, Result.andThen]
  | some x => simp [hk, hf, Result.andThen]

theorem run_store_new (W : World) (m : Nat) (es : Array MapEntry) (c : Nat) (key v : Value) (hW : W.heap[m]? = some (.map es c))
    (hk : (Instr.checkKey false 10000 36 key).run Tryd.prog W = .ok () W) (hf : (Instr.findKey 36 key es.toList).run Tryd.prog W = .ok none W) :
    (Instr.mapUpdate 121 (.map (some m)) key v).run Tryd.prog W = .ok () { W with heap := W.heap.setIfInBounds m (.map (es.push { key, val := v, born := c }) (c + 1)) } := by
  have hu := run_underlying (P := Tryd.prog) (w := W) Tryd.underlying121
  unfold Instr.mapUpdate
  simp only [Sem.run_bind, hu, Result.andThen_ok, @MapKept.run_getObj_map _ _ _ _ _ hW, hk, hf, MapKept.run_setObj_map _ hW]
end Go.Proofs.YtnejkgkikpgajaaDoor.ft
