/-
  sampling: the sampling of a kid.
-/
import Derived.Test.YtnejkgkikpgajaaDoorCkMust
import Derived.RegionTactic
import Derived.StillTailTactics
namespace Go.Proofs.YtnejkgkikpgajaaDoor.ck
open Go.ChangeShapes Go.WideShapes Go.ChangeAt Go.RowKit
open tr
set_option linter.unusedVariables false

def smp (nms : List ByteArray) (nm : ByteArray) (i : Nat) : Smp := if h : i < nms.length then (nms[i], nm) else (noT, noT)
theorem smp_lt {nms : List ByteArray} {nm : ByteArray} {i : Nat} (h : i < nms.length) : smp nms nm i = (nms[i], nm) := by unfold smp; rw [dif_pos h]
theorem smp_ge {nms : List ByteArray} {nm : ByteArray} {i : Nat} (h : ¬ i < nms.length) : smp nms nm i = (noT, noT) := by unfold smp; rw [dif_neg h]
def SmpPost (w : World) (p : Smp) (e : Ending) (w' : World) : Prop := e = .returned (.agg #[.string p.1, .string p.2]) ∧ Below w.heap.size w w'

theorem selfs2 {W : World} {g : Nat} {t : TypeId} {a b : Value} (h : Has W g t #[a, b]) (v0 v1 : Value) :
    ((W.setCell ⟨g, 0, none⟩ v0).setCell ⟨g, 1, none⟩ v1).cell? ⟨g, 0, none⟩ = some v0 ∧ ((W.setCell ⟨g, 0, none⟩ v0).setCell ⟨g, 1, none⟩ v1).cell? ⟨g, 1, none⟩ = some v1 :=
  ⟨((h.put 0 v0).put 1 v1).cell 0, ((h.put 0 v0).put 1 v1).cell 1⟩

set_option maxRecDepth 100000 in
set_option maxHeartbeats 4000000 in
theorem smp_any (w : World) (b o i : Nat) (iv : Int) (hi : iv = i) (k op : Nat) (n : Int) (nm : ByteArray) (nms : List ByteArray) (kids : List Ex) (l c : Int) (hl : LaidAt w b o (.mk k op n nm nms kids l c)) :
    Calls Tryd.prog 95 #[.pointer (some ⟨b, o, none⟩), .int .i64 iv] w (SmpPost w (smp nms nm i)) := by
  subst hi
  obtain ⟨cs, hc, hx⟩ := hl
  unfold LaidC at hx
  obtain ⟨_, _, _, hnl, _, na, nc, ka, kc, _, _, rfl, hs, _⟩ := hx
  have z3 := hc 3 _ rfl
  have z4 := hc 4 _ rfl
  have hbl := World.block_lt_of_cell? w _ z3
  unfold SmpPost maxLen at *
  have i0 : (0 : Int) ≤ (i : Int) := Int.natCast_nonneg _
  by_cases h : i < nms.length
  · rw [smp_lt h]
    obtain ⟨sb, so, rfl, hsc, hz⟩ := hs i nms[i] (List.getElem?_eq_getElem h)
    obtain ⟨s, hs'⟩ : ∃ s, s = nms[i] := ⟨_, rfl⟩
    rw [← hs'] at hsc
    rw [← hs']
    have hsl := World.block_lt_of_cell? w _ hsc
    have i1 : (i : Int) < (nms.length : Int) := by omega
    have i2 : ¬ (nms.length : Int) ≤ (i : Int) := by omega
    have i3 : decide ((nms.length : Int) ≤ (i : Int)) = false := by simpa using h
    clear hz hs hs' hc h hnl
    go_enter Tryd.func95, Tryd.ntmps95
    go_wp2_with fail
    go_region
    go_wp2_with fail
    (try simp only [Exit.inBlock, Exit.then])
    refine bodyPost_ret (v := .agg #[.string s, .string nm]) (by simp [results, Tryd.results95, go_sem]) rfl ?_
    exact ⟨rfl, by go_grown⟩
  · rw [smp_ge h]
    have i3 : decide ((nms.length : Int) ≤ (i : Int)) = true := by simpa using h
    have i2 : (nms.length : Int) ≤ (i : Int) := by omega
    clear hs hc h
    go_enter Tryd.func95, Tryd.ntmps95
    go_wp2_with fail
    (try simp only [Exit.inBlock, Exit.then])
    refine bodyPost_ret (v := .agg #[.string noT, .string noT]) (by simp [results, Tryd.results95, go_sem, noT]) rfl ?_
    exact ⟨rfl, by go_grown⟩
end Go.Proofs.YtnejkgkikpgajaaDoor.ck
