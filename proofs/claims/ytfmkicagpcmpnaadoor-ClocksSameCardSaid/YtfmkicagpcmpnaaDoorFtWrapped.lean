/-
  wrapped of package faults: at an At that New makes, what it wraps; at a Kind, nothing.
-/
import Derived.Test.YtfmkicagpcmpnaaDoorFtQuiet
import Derived.Test.YtfmkicagpcmpnaaDoorFtAs
namespace Go.Proofs.YtfmkicagpcmpnaaDoor.ft
open Go.ChangeShapes Go.WideShapes Go.ChangeAt Go.RowKit Go.Extern.Stop Go.Stop Go.Extern
open Go.Proofs.YtfmkicagpcmpnaaDoor.lx (Has grown_refl grown_put grown_below)
set_option linter.unusedVariables false

theorem lit_at (g p q : Nat) (x y k : Int) (nm : ByteArray) (nd : Bool) (v : Value) (w : World) (h : Has w g 146 #[.int .i64 x, .int .i64 y, .string nm, .bool nd, .iface 43 (.int .i64 k)])
    (hp : Has w p 38 #[.iface 143 (.pointer (some ⟨g, 0, none⟩))]) (hq : Has w q 97 #[v]) :
    Calls Tryd.prog 66 #[.pointer (some ⟨p, 0, none⟩), .pointer (some ⟨q, 0, none⟩)] w fun e w' => e = .returned (.tuple #[]) ∧
      (∃ r, Has w' q 97 #[.slice (some ⟨r, 0, none⟩) 1 1] ∧ Has w' r 38 #[.iface 43 (.int .i64 k)] ∧ w.heap.size ≤ r ∧ w.grownBy w' (some q)) := by
  have HH := Lib.hid h
  have HQ := Lib.hid hq
  have c0 := hp.cell 0
  have d0 := hq.cell 0
  have f0 := hq.free 0
  have hql := hq.lt
  simp only [List.getElem?_toArray, List.getElem?_cons_zero] at c0 d0
  clear h hp hq
  go_enter Tryd.func66, Tryd.ntmps66
  go_wp2_with fail
  refine (unwrap_at g x y nm nd _ _ HH.out).mono ?_
  rintro e w' ⟨rfl, rfl⟩
  go_wp2_with fail
  refine bodyPost_ret (results_none rfl _ _ _) rfl ⟨rfl, w.heap.size, (HQ.out.put 0 _).alloc _, ?_, Nat.le_refl _, ?_⟩
  · have := Has.new (w.setCell ⟨q, 0, none⟩ (.slice (some ⟨w.heap.size, 0, none⟩) 1 1)) 38 #[.iface 43 (.int .i64 k)]
    rw [show (w.setCell ⟨q, 0, none⟩ (.slice (some ⟨w.heap.size, 0, none⟩) 1 1)).heap.size = w.heap.size by simp [World.setCell]] at this
    exact this
  · have h1 := grown_put (grown_refl w (some q)) 0 (.slice (some ⟨w.heap.size, 0, none⟩) 1 1)
    have h2 := World.grownBy_alloc (w.setCell ⟨q, 0, none⟩ (.slice (some ⟨w.heap.size, 0, none⟩) 1 1)) (.cells #[.iface 43 (.int .i64 k)] 38) (some q)
    exact ⟨h2.os.trans h1.os, h2.tape.trans h1.tape, h2.output.trans h1.output, Nat.le_trans h1.size h2.size, fun i hi hne => (h2.block i (Nat.lt_of_lt_of_le hi h1.size) hne).trans (h1.block i hi hne)⟩

theorem lit_kind (p q : Nat) (k : Int) (v : Value) (w : World)
    (hp : Has w p 38 #[.iface 43 (.int .i64 k)]) :
    Calls Tryd.prog 66 #[.pointer (some ⟨p, 0, none⟩), .pointer (some ⟨q, 0, none⟩)] w fun e w' => e = .returned (.tuple #[]) ∧ Below w.heap.size w w' := by
  have c0 := hp.cell 0
  have hpl := hp.lt
  simp only [List.getElem?_toArray, List.getElem?_cons_zero] at c0
  clear hp
  go_enter Tryd.func66, Tryd.ntmps66
  go_wp2_with fail
  refine (unwrap_kind k _).mono ?_
  rintro e w' ⟨rfl, rfl⟩
  go_wp2_with fail
  refine (as_kind k _ _ (by simp)).mono ?_
  rintro e w1 ⟨rfl, hb⟩
  have HB := Lib.hid hb
  clear hb
  go_wp2_with fail
  go_end0
  exact ⟨rfl, ((Below.refl _ _).alloc (Nat.le_refl _) _).trans (HB.out.mono (by simp))⟩

theorem wrapped_at (g : Nat) (x y k : Int) (nm : ByteArray) (nd : Bool) (w : World) (h : Has w g 146 #[.int .i64 x, .int .i64 y, .string nm, .bool nd, .iface 43 (.int .i64 k)]) :
    Calls Tryd.prog 59 #[.iface 143 (.pointer (some ⟨g, 0, none⟩))] w fun e w' => ∃ r, e = .returned (.slice (some ⟨r, 0, none⟩) 1 1) ∧ Has w' r 38 #[.iface 43 (.int .i64 k)] ∧ w.heap.size ≤ r ∧ Below w.heap.size w w' := by
  have hmf : ∀ (fn : Fn) (first cap : Array Value) (w : World), (Instr.makeFunc fn first cap).run Tryd.prog w = .ok (.func fn first cap) w := fun _ _ _ _ => rfl
  have HH := Lib.hid h
  clear h
  go_enter Tryd.func59, Tryd.ntmps59
  have hA := (HH.out.alloc (.cells #[.iface 143 (.pointer (some ⟨g, 0, none⟩))] 38)).alloc (.cells #[.slice none 0 0] 97)
  have hP := (Has.new w 38 #[.iface 143 (.pointer (some ⟨g, 0, none⟩))]).alloc (.cells #[.slice none 0 0] 97)
  have hQ := Has.new (w.alloc (.cells #[.iface 143 (.pointer (some ⟨g, 0, none⟩))] 38)) 97 #[.slice none 0 0]
  rw [show (w.alloc (.cells #[.iface 143 (.pointer (some ⟨g, 0, none⟩))] 38)).heap.size = w.heap.size + 1 by simp] at hQ
  have HL := Lib.hid (quiet_wrapped _ _ _ (lit_at g w.heap.size (w.heap.size + 1) x y k nm nd _ _ hA hP hQ))
  clear hA hP hQ
  go_wp2_with fail
  refine HL.out.mono ?_
  rintro e w1 ⟨rfl, r, hq, hr, hle, hgr⟩
  have c0 := hq.cell 0
  have f0 := hq.free 0
  have hql := hq.lt
  simp only [List.getElem?_toArray, List.getElem?_cons_zero] at c0
  have HR := Lib.hid hr
  have HGR := Lib.hid hgr
  simp at hle
  clear hq hr hgr
  go_wp2_with fail
  refine bodyPost_ret (v := .slice (some ⟨r, 0, none⟩) 1 1) (by simp [results, Tryd.results59, go_sem, c0]) rfl ⟨r, rfl, HR.out.put_far 0 _ (by omega), by omega, ?_⟩
  exact ((((Below.refl _ _).alloc (Nat.le_refl _) _).alloc (by simp) _).grown HGR.out (by simp; omega) (fun i hi => by injection hi with hi; omega)).setCell (p := ⟨w.heap.size + 1, 0, none⟩) (by show _ ≤ w.heap.size + 1; omega) _

theorem wrapped_kind (k : Int) (w : World) :
    Calls Tryd.prog 59 #[.iface 43 (.int .i64 k)] w fun e w' => e = .returned (.slice none 0 0) ∧ Below w.heap.size w w' := by
  have hmf : ∀ (fn : Fn) (first cap : Array Value) (w : World), (Instr.makeFunc fn first cap).run Tryd.prog w = .ok (.func fn first cap) w := fun _ _ _ _ => rfl
  go_enter Tryd.func59, Tryd.ntmps59
  have hP := (Has.new w 38 #[.iface 43 (.int .i64 k)]).alloc (.cells #[.slice none 0 0] 97)
  have hQ := Has.new (w.alloc (.cells #[.iface 43 (.int .i64 k)] 38)) 97 #[.slice none 0 0]
  rw [show (w.alloc (.cells #[.iface 43 (.int .i64 k)] 38)).heap.size = w.heap.size + 1 by simp] at hQ
  have HQ := Lib.hid hQ
  have HL := Lib.hid (quiet_wrapped _ _ _ (lit_kind w.heap.size (w.heap.size + 1) k (.slice none 0 0) _ hP))
  clear hP hQ
  go_wp2_with fail
  refine HL.out.mono ?_
  rintro e w1 ⟨rfl, hb⟩
  have hq := HQ.out.below hb (by simp)
  have c0 := hq.cell 0
  have f0 := hq.free 0
  have hql := hq.lt
  simp only [List.getElem?_toArray, List.getElem?_cons_zero] at c0
  have HB := Lib.hid hb
  clear hq hb
  go_wp2_with fail
  refine bodyPost_ret (v := .slice none 0 0) (by simp [results, Tryd.results59, go_sem, c0]) rfl ⟨rfl, ?_⟩
  exact ((((Below.refl _ _).alloc (Nat.le_refl _) _).alloc (by simp) _).trans (HB.out.mono (by simp; omega))).setCell (p := ⟨w.heap.size + 1, 0, none⟩) (by show _ ≤ w.heap.size + 1; omega) _
end Go.Proofs.YtfmkicagpcmpnaaDoor.ft
