/-
  wrapped of package faults: at an At that New makes, what it wraps; at a Kind, nothing.
-/
import Derived.Test.YtnejkgkikpgajaaDoorFtQuiet
import Derived.Test.YtnejkgkikpgajaaDoorFtAs
namespace Go.Proofs.YtnejkgkikpgajaaDoor.ft
open Go.ChangeShapes Go.WideShapes Go.ChangeAt Go.RowKit Go.Extern.Stop Go.Stop Go.Extern
open Go.Proofs.YtnejkgkikpgajaaDoor.lx (Has grown_refl grown_put grown_below)
set_option linter.unusedVariables false

theorem lit_at (g p q : Nat) (x y k : Int) (nm : ByteArray) (nd : Bool) (v : Value) (w : World) (h : Has w g 180 #[.int .i64 x, .int .i64 y, .string nm, .bool nd, .iface 56 (.int .i64 k)])
    (hp : Has w p 36 #[.iface 177 (.pointer (some ⟨g, 0, none⟩))]) (hq : Has w q 122 #[v]) :
    Calls Tryd.prog 92 #[.pointer (some ⟨p, 0, none⟩), .pointer (some ⟨q, 0, none⟩)] w fun e w' => e = .returned (.tuple #[]) ∧
      (∃ r, Has w' q 122 #[.slice (some ⟨r, 0, none⟩) 1 1] ∧ Has w' r 36 #[.iface 56 (.int .i64 k)] ∧ w.heap.size ≤ r ∧ w.grownBy w' (some q)) := by
  have HH := Lib.hid h
  have HQ := Lib.hid hq
  have c0 := hp.cell 0
  have d0 := hq.cell 0
  have f0 := hq.free 0
  have hql := hq.lt
  simp only [List.getElem?_toArray, List.getElem?_cons_zero] at c0 d0
  clear h hp hq
  go_enter Tryd.func92, Tryd.ntmps92
  go_wp2_with fail
  refine (unwrap_at g x y nm nd _ _ HH.out).mono ?_
  rintro e w' ⟨rfl, rfl⟩
  go_wp2_with fail
  refine bodyPost_ret (results_none rfl _ _ _) rfl ⟨rfl, w.heap.size, (HQ.out.put 0 _).alloc _, ?_, Nat.le_refl _, ?_⟩
  · have := Has.new (w.setCell ⟨q, 0, none⟩ (.slice (some ⟨w.heap.size, 0, none⟩) 1 1)) 36 #[.iface 56 (.int .i64 k)]
    rw [show (w.setCell ⟨q, 0, none⟩ (.slice (some ⟨w.heap.size, 0, none⟩) 1 1)).heap.size = w.heap.size by simp [World.setCell]] at this
    exact this
  · have h1 := grown_put (grown_refl w (some q)) 0 (.slice (some ⟨w.heap.size, 0, none⟩) 1 1)
    have h2 := World.grownBy_alloc (w.setCell ⟨q, 0, none⟩ (.slice (some ⟨w.heap.size, 0, none⟩) 1 1)) (.cells #[.iface 56 (.int .i64 k)] 36) (some q)
    exact ⟨h2.os.trans h1.os, h2.tape.trans h1.tape, h2.output.trans h1.output, Nat.le_trans h1.size h2.size, fun i hi hne => (h2.block i (Nat.lt_of_lt_of_le hi h1.size) hne).trans (h1.block i hi hne)⟩

theorem lit_kind (p q : Nat) (k : Int) (v : Value) (w : World)
    (hp : Has w p 36 #[.iface 56 (.int .i64 k)]) :
    Calls Tryd.prog 92 #[.pointer (some ⟨p, 0, none⟩), .pointer (some ⟨q, 0, none⟩)] w fun e w' => e = .returned (.tuple #[]) ∧ Below w.heap.size w w' := by
  have c0 := hp.cell 0
  have hpl := hp.lt
  simp only [List.getElem?_toArray, List.getElem?_cons_zero] at c0
  clear hp
  go_enter Tryd.func92, Tryd.ntmps92
  go_wp2_with fail
  refine (unwrap_kind k _).mono ?_
  rintro e w' ⟨rfl, rfl⟩
  go_wp2_with fail
  refine (as_kind k _ _ (by simp)).mono ?_
  rintro e w1 ⟨rfl, hb⟩
  have HB := Lib.hid hb
  clear hb
  go_wp2_with fail
  go_end0
  exact ⟨rfl, ((Below.refl _ _).alloc (Nat.le_refl _) _).trans (HB.out.mono (by simp))⟩

theorem wrapped_at (g : Nat) (x y k : Int) (nm : ByteArray) (nd : Bool) (w : World) (h : Has w g 180 #[.int .i64 x, .int .i64 y, .string nm, .bool nd, .iface 56 (.int .i64 k)]) :
    Calls Tryd.prog 84 #[.iface 177 (.pointer (some ⟨g, 0, none⟩))] w fun e w' => ∃ r, e = .returned (.slice (some ⟨r, 0, none⟩) 1 1) ∧ Has w' r 36 #[.iface 56 (.int .i64 k)] ∧ w.heap.size ≤ r ∧ Below w.heap.size w w' := by
  have hmf : ∀ (fn : Fn) (first cap : Array Value) (w : World), (Instr.makeFunc fn first cap).run Tryd.prog w = .ok (.func fn first cap) w := fun _ _ _ _ => rfl
  have HH := Lib.hid h
  clear h
  go_enter Tryd.func84, Tryd.ntmps84
  have hA := (HH.out.alloc (.cells #[.iface 177 (.pointer (some ⟨g, 0, none⟩))] 36)).alloc (.cells #[.slice none 0 0] 122)
  have hP := (Has.new w 36 #[.iface 177 (.pointer (some ⟨g, 0, none⟩))]).alloc (.cells #[.slice none 0 0] 122)
  have hQ := Has.new (w.alloc (.cells #[.iface 177 (.pointer (some ⟨g, 0, none⟩))] 36)) 122 #[.slice none 0 0]
  rw [show (w.alloc (.cells #[.iface 177 (.pointer (some ⟨g, 0, none⟩))] 36)).heap.size = w.heap.size + 1 by simp] at hQ
  have HL := Lib.hid (quiet_wrapped _ _ _ (lit_at g w.heap.size (w.heap.size + 1) x y k nm nd _ _ hA hP hQ))
  clear hA hP hQ
  go_wp2_with fail
  refine HL.out.mono ?_
  rintro e w1 ⟨rfl, r, hq, hr, hle, hgr⟩
  have c0 := hq.cell 0
  have f0 := hq.free 0
  have hql := hq.lt
  simp only [List.getElem?_toArray, List.getElem?_cons_zero] at c0
  have HR := Lib.hid hr
  have HGR := Lib.hid hgr
  simp at hle
  clear hq hr hgr
  go_wp2_with fail
  refine bodyPost_ret (v := .slice (some ⟨r, 0, none⟩) 1 1) (by simp [results, Tryd.results84, go_sem, c0]) rfl ⟨r, rfl, HR.out.put_far 0 _ (by omega), by omega, ?_⟩
  exact ((((Below.refl _ _).alloc (Nat.le_refl _) _).alloc (by simp) _).grown HGR.out (by simp; omega) (fun i hi => by injection hi with hi; omega)).setCell (p := ⟨w.heap.size + 1, 0, none⟩) (by show _ ≤ w.heap.size + 1; omega) _

theorem wrapped_kind (k : Int) (w : World) :
    Calls Tryd.prog 84 #[.iface 56 (.int .i64 k)] w fun e w' => e = .returned (.slice none 0 0) ∧ Below w.heap.size w w' := by
  have hmf : ∀ (fn : Fn) (first cap : Array Value) (w : World), (Instr.makeFunc fn first cap).run Tryd.prog w = .ok (.func fn first cap) w := fun _ _ _ _ => rfl
  go_enter Tryd.func84, Tryd.ntmps84
  have hP := (Has.new w 36 #[.iface 56 (.int .i64 k)]).alloc (.cells #[.slice none 0 0] 122)
  have hQ := Has.new (w.alloc (.cells #[.iface 56 (.int .i64 k)] 36)) 122 #[.slice none 0 0]
  rw [show (w.alloc (.cells #[.iface 56 (.int .i64 k)] 36)).heap.size = w.heap.size + 1 by simp] at hQ
  have HQ := Lib.hid hQ
  have HL := Lib.hid (quiet_wrapped _ _ _ (lit_kind w.heap.size (w.heap.size + 1) k (.slice none 0 0) _ hP))
  clear hP hQ
  go_wp2_with fail
  refine HL.out.mono ?_
  rintro e w1 ⟨rfl, hb⟩
  have hq := HQ.out.below hb (by simp)
  have c0 := hq.cell 0
  have f0 := hq.free 0
  have hql := hq.lt
  simp only [List.getElem?_toArray, List.getElem?_cons_zero] at c0
  have HB := Lib.hid hb
  clear hq hb
  go_wp2_with fail
  refine bodyPost_ret (v := .slice none 0 0) (by simp [results, Tryd.results84, go_sem, c0]) rfl ⟨rfl, ?_⟩
  exact ((((Below.refl _ _).alloc (Nat.le_refl _) _).alloc (by simp) _).trans (HB.out.mono (by simp; omega))).setCell (p := ⟨w.heap.size + 1, 0, none⟩) (by show _ ≤ w.heap.size + 1; omega) _
end Go.Proofs.YtnejkgkikpgajaaDoor.ft
