/-
  wrapped and take at an At that wraps whatever error, of whatever parts so far; take at a Kind.
-/
import Derived.Test.YtboeobgkepdabaaDoorFtTakeK
namespace Go.Proofs.YtboeobgkepdabaaDoor.ft
open Go.ChangeShapes Go.WideShapes Go.ChangeAt Go.RowKit Go.Extern.Stop Go.Stop Go.Extern
open Go.Proofs.YtboeobgkepdabaaDoor.lx (Has grown_refl grown_put grown_below)
set_option linter.unusedVariables false

theorem lit_c (g p q : Nat) (x y : Int) (nm : ByteArray) (nd : Bool) (ct : TypeId) (cv v : Value) (w : World) (h : Has w g 50 #[.int .i64 x, .int .i64 y, .string nm, .bool nd, .iface ct cv])
    (hp : Has w p 27 #[.iface 41 (.pointer (some ⟨g, 0, none⟩))]) (hq : Has w q 47 #[v]) :
    Calls Tryd.prog 51 #[.pointer (some ⟨p, 0, none⟩), .pointer (some ⟨q, 0, none⟩)] w fun e w' => e = .returned (.tuple #[]) ∧
      (∃ r, Has w' q 47 #[.slice (some ⟨r, 0, none⟩) 1 1] ∧ Has w' r 27 #[.iface ct cv] ∧ w.heap.size ≤ r ∧ w.grownBy w' (some q)) := by
  have HH := Lib.hid h
  have HQ := Lib.hid hq
  have c0 := hp.cell 0
  have d0 := hq.cell 0
  have f0 := hq.free 0
  have hql := hq.lt
  simp only [List.getElem?_toArray, List.getElem?_cons_zero] at c0 d0
  clear h hp hq
  go_enter Tryd.func51, Tryd.ntmps51
  go_wp2_with fail
  refine (unwrap_at g x y nm nd _ _ HH.out).mono ?_
  rintro e w' ⟨rfl, rfl⟩
  go_wp2_with fail
  refine bodyPost_ret (results_none rfl _ _ _) rfl ⟨rfl, w.heap.size, (HQ.out.put 0 _).alloc _, ?_, Nat.le_refl _, ?_⟩
  · have := Has.new (w.setCell ⟨q, 0, none⟩ (.slice (some ⟨w.heap.size, 0, none⟩) 1 1)) 27 #[.iface ct cv]
    rw [show (w.setCell ⟨q, 0, none⟩ (.slice (some ⟨w.heap.size, 0, none⟩) 1 1)).heap.size = w.heap.size by simp [World.setCell]] at this
    exact this
  · have h1 := grown_put (grown_refl w (some q)) 0 (.slice (some ⟨w.heap.size, 0, none⟩) 1 1)
    have h2 := World.grownBy_alloc (w.setCell ⟨q, 0, none⟩ (.slice (some ⟨w.heap.size, 0, none⟩) 1 1)) (.cells #[.iface ct cv] 27) (some q)
    exact ⟨h2.os.trans h1.os, h2.tape.trans h1.tape, h2.output.trans h1.output, Nat.le_trans h1.size h2.size, fun i hi hne => (h2.block i (Nat.lt_of_lt_of_le hi h1.size) hne).trans (h1.block i hi hne)⟩

theorem wrapped_c (g : Nat) (x y : Int) (nm : ByteArray) (nd : Bool) (ct : TypeId) (cv : Value) (w : World) (h : Has w g 50 #[.int .i64 x, .int .i64 y, .string nm, .bool nd, .iface ct cv]) :
    Calls Tryd.prog 38 #[.iface 41 (.pointer (some ⟨g, 0, none⟩))] w fun e w' => ∃ r, e = .returned (.slice (some ⟨r, 0, none⟩) 1 1) ∧ Has w' r 27 #[.iface ct cv] ∧ w.heap.size ≤ r ∧ Below w.heap.size w w' := by
  have hmf : ∀ (fn : Fn) (first cap : Array Value) (w : World), (Instr.makeFunc fn first cap).run Tryd.prog w = .ok (.func fn first cap) w := fun _ _ _ _ => rfl
  have HH := Lib.hid h
  clear h
  go_enter Tryd.func38, Tryd.ntmps38
  have hA := (HH.out.alloc (.cells #[.iface 41 (.pointer (some ⟨g, 0, none⟩))] 27)).alloc (.cells #[.slice none 0 0] 47)
  have hP := (Has.new w 27 #[.iface 41 (.pointer (some ⟨g, 0, none⟩))]).alloc (.cells #[.slice none 0 0] 47)
  have hQ := Has.new (w.alloc (.cells #[.iface 41 (.pointer (some ⟨g, 0, none⟩))] 27)) 47 #[.slice none 0 0]
  rw [show (w.alloc (.cells #[.iface 41 (.pointer (some ⟨g, 0, none⟩))] 27)).heap.size = w.heap.size + 1 by simp] at hQ
  have HL := Lib.hid (quiet_wrapped _ _ _ (lit_c g w.heap.size (w.heap.size + 1) x y nm nd ct cv _ _ hA hP hQ))
  clear hA hP hQ
  go_wp2_with fail
  refine HL.out.mono ?_
  rintro e w1 ⟨rfl, r, hq, hr, hle, hgr⟩
  have c0 := hq.cell 0
  have f0 := hq.free 0
  have hql := hq.lt
  simp only [List.getElem?_toArray, List.getElem?_cons_zero] at c0
  have HR := Lib.hid hr
  have HGR := Lib.hid hgr
  simp at hle
  clear hq hr hgr
  go_wp2_with fail
  refine bodyPost_ret (v := .slice (some ⟨r, 0, none⟩) 1 1) (by simp [results, Tryd.results38, go_sem, c0]) rfl ⟨r, rfl, HR.out.put_far 0 _ (by omega), by omega, ?_⟩
  exact ((((Below.refl _ _).alloc (Nat.le_refl _) _).alloc (by simp) _).grown HGR.out (by simp; omega) (fun i hi => by injection hi with hi; omega)).setCell (p := ⟨w.heap.size + 1, 0, none⟩) (by show _ ≤ w.heap.size + 1; omega) _

end Go.Proofs.YtboeobgkepdabaaDoor.ft
