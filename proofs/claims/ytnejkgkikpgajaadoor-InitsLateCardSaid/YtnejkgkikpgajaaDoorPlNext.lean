/-
  The places of a program's parts, as the reference lays them: the counter's next.
-/
import Derived.Test.YtnejkgkikpgajaaDoorPlPuts
namespace Go.Proofs.YtnejkgkikpgajaaDoor.ck
open Go.ChangeShapes Go.WideShapes Go.ChangeAt Go.RowKit
open tr
set_option linter.unusedVariables false
set_option linter.unusedSimpArgs false

def CtrAt (w : World) (c : Nat) : Prop := ∃ n : Int, Has w c 94 #[.int .i64 n]
theorem CtrAt.lt {w : World} {c : Nat} (h : CtrAt w c) : c < w.heap.size := by obtain ⟨n, h⟩ := h; exact Has.lt h
theorem CtrAt.below {w w' : World} {c : Nat} (h : CtrAt w c) (hb : Below w.heap.size w w') : CtrAt w' c := by obtain ⟨n, h⟩ := h; exact ⟨n, h.below hb (Has.lt h)⟩
theorem CtrAt.alloc {w : World} {c : Nat} (h : CtrAt w c) (o : Obj) : CtrAt (w.alloc o) c := by obtain ⟨n, h⟩ := h; exact ⟨n, h.alloc o⟩
theorem CtrAt.but {w w' : World} {c N : Nat} (h : CtrAt w c) (hb : But w w' N) (hn : c ≠ N) : CtrAt w' c := by obtain ⟨n, h⟩ := h; exact ⟨n, hb.has hn h⟩
def NextPost (w : World) (c : Nat) (e : Ending) (w' : World) : Prop := ∃ x : Int, e = .returned (.agg #[.int .i64 x, .int .i64 1]) ∧ CtrAt w' c ∧ w.grownBy w' (some c)

set_option maxRecDepth 100000 in
set_option maxHeartbeats 4000000 in
theorem next_any (w : World) (c : Nat) (h : CtrAt w c) :
    Calls Tryd.prog 28 #[.pointer (some ⟨c, 0, none⟩)] w (NextPost w c) := by
  obtain ⟨n, h⟩ := h
  have hl := Has.lt h
  have c0 := h.cell 0
  have f0 := h.free 0
  simp only [List.getElem?_toArray, List.getElem?_cons_zero] at c0
  have H := Lib.hid h
  clear h
  unfold NextPost
  go_enter Tryd.func28, Tryd.ntmps28
  go_wp2_with fail
  have z := Has.new (w.setCell ⟨c, 0, none⟩ (.int .i64 (wrap64 (n + 1)))) 27 #[.int .i64 (wrap64 (n + 1)), .int .i64 1]
  have z0 := z.cell 0
  have z1 := z.cell 1
  simp only [List.getElem?_toArray, List.getElem?_cons_zero, List.getElem?_cons_succ, World.size_setCell] at z0 z1
  (try simp only [Exit.inBlock, Exit.then])
  refine bodyPost_ret (v := .agg #[.int .i64 (wrap64 (n + 1)), .int .i64 1]) (by simp [results, Tryd.results28, go_sem, z0, z1]) rfl ?_
  have hc1 : Has (w.setCell ⟨c, 0, none⟩ (.int .i64 (wrap64 (n + 1)))) c 94 #[.int .i64 (wrap64 (n + 1))] := by
    have := H.out.put 0 (.int .i64 (wrap64 (n + 1)))
    simpa using this
  exact ⟨_, rfl, ⟨_, hc1.alloc _⟩, grown_alloc (grown_put (grown_refl w _) 0 _) _⟩
end Go.Proofs.YtnejkgkikpgajaaDoor.ck
