/-
  is and at of package faults: errors.Is, errors.As within quietly.
-/
import Derived.Test.YtnejkgkikpgajaaDoorFtIs
import Derived.Test.YtnejkgkikpgajaaDoorFtQuiet
import Derived.Test.YtnejkgkikpgajaaDoorFtEnters
import Derived.BigRegion
namespace Go.Proofs.YtnejkgkikpgajaaDoor.ft
open Go.ChangeShapes Go.WideShapes Go.ChangeAt Go.RowKit Go.Extern.Stop Go.Stop Go.Extern
open Go.Proofs.YtnejkgkikpgajaaDoor.lx (Has)
set_option linter.unusedVariables false

set_option maxRecDepth 10000 in
theorem lit_is (p2 p3 p4 : Nat) (ty : TypeId) (v : Value) (j : Int) (b old : Bool) (w : World) (h2 : Has w p2 36 #[.iface ty v]) (h3 : Has w p3 56 #[.int .i64 j]) (h4 : Has w p4 4 #[.bool old])
    (hI : Calls Tryd.prog 43 #[.iface ty v, .iface 56 (.int .i64 j)] w fun e w' => e = .returned (.bool b) ∧ w' = w) :
    Calls Tryd.prog 42 #[.pointer (some ⟨p2, 0, none⟩), .pointer (some ⟨p3, 0, none⟩), .pointer (some ⟨p4, 0, none⟩)] w fun e w' => e = .returned (.tuple #[]) ∧ w' = w.setCell ⟨p4, 0, none⟩ (.bool b) := by
  have a2 := h2.cell 0
  have a3 := h3.cell 0
  have a4 := h4.cell 0
  have f4 := h4.free 0
  simp only [List.getElem?_toArray, List.getElem?_cons_zero] at a2 a3 a4
  have HI := Lib.hid hI
  clear h2 h3 h4 hI
  go_enter Tryd.func42, Tryd.ntmps42
  go_wp2_with (go_at_call 43; refine HI.out.mono ?_; rintro e w' ⟨rfl, rfl⟩)
  go_end0
  exact ⟨rfl, rfl⟩

set_option maxRecDepth 10000 in
theorem is_any (ty : TypeId) (v : Value) (j : Int) (b : Bool) (w : World)
    (hI : ∀ W, Below w.heap.size w W → Calls Tryd.prog 43 #[.iface ty v, .iface 56 (.int .i64 j)] W fun e w' => e = .returned (.bool b) ∧ w' = W) :
    Calls Tryd.prog 27 #[.iface ty v, .int .i64 j] w fun e w' => e = .returned (.bool b) ∧ Below w.heap.size w w' := by
  have hmf : ∀ (fn : Fn) (first cap : Array Value) (w : World), (Instr.makeFunc fn first cap).run Tryd.prog w = .ok (.func fn first cap) w := fun _ _ _ _ => rfl
  obtain ⟨W, hW⟩ : ∃ W, W = ((w.alloc (.cells #[.iface ty v] 36)).alloc (.cells #[.int .i64 j] 56)).alloc (.cells #[.bool false] 4) := ⟨_, rfl⟩
  have hb : Below w.heap.size w W := by rw [hW]; exact (((Below.refl _ _).alloc (Nat.le_refl _) _).alloc (by simp) _).alloc (by simp; omega) _
  have h2 : Has W w.heap.size 36 #[.iface ty v] := by rw [hW]; exact ((Has.new w 36 #[.iface ty v]).alloc _).alloc _
  have h3 : Has W (w.heap.size + 1) 56 #[.int .i64 j] := by
    rw [hW]
    have := Has.new (w.alloc (.cells #[.iface ty v] 36)) 56 #[.int .i64 j]
    simp only [World.size_alloc] at this
    exact this.alloc _
  have h4 : Has W (w.heap.size + 2) 4 #[.bool false] := by
    rw [hW]
    have := Has.new ((w.alloc (.cells #[.iface ty v] 36)).alloc (.cells #[.int .i64 j] 56)) 4 #[.bool false]
    simp only [World.size_alloc] at this
    exact this
  have HL := Lib.hid (quiet_is _ _ _ (lit_is w.heap.size (w.heap.size + 1) (w.heap.size + 2) ty v j b false W h2 h3 h4 (hI W hb)))
  have h5 := h4.put 0 (.bool b)
  have HE := Lib.hid (hb.setCell (p := ⟨w.heap.size + 2, 0, none⟩) (by show _ ≤ w.heap.size + 2; omega) (.bool b))
  have a5 := h5.cell 0
  have f5 := h5.free 0
  simp only [List.setIfInBounds_toArray, List.set_cons_zero, List.getElem?_toArray, List.getElem?_cons_zero] at a5
  have hlt := h5.lt
  clear hI h2 h3 h4 hb h5
  go_enter Tryd.func27, Tryd.ntmps27
  go_wp2_with fail
  rw [← hW]
  clear hW
  refine HL.out.mono ?_
  rintro e w1 ⟨rfl, rfl⟩
  generalize W.setCell ⟨w.heap.size + 2, 0, none⟩ (.bool b) = W1 at *
  go_wp2_with fail
  refine bodyPost_ret (v := .bool b) (by simp [results, Tryd.results27, go_sem, a5]) rfl ⟨rfl, ?_⟩
  exact HE.out.setCell (p := ⟨w.heap.size + 2, 0, none⟩) (by show _ ≤ w.heap.size + 2; omega) _
end Go.Proofs.YtnejkgkikpgajaaDoor.ft
