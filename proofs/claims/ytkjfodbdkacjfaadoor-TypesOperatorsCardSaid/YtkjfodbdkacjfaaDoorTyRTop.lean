/-
  The reference's Expr at an operator, given what its look's expr leaves.
-/
import Derived.Test.YtkjfodbdkacjfaaDoorTyRUn
import Derived.Test.YtkjfodbdkacjfaaDoorTyTop
namespace Go.Proofs.YtkjfodbdkacjfaaDoor.ty
open Go.ChangeShapes Go.WideShapes Go.ChangeAt Go.RowKit
open Go.Proofs.YtkjfodbdkacjfaaDoor.lx (Has grown_refl grown_put grown_below)
set_option linter.unusedVariables false

theorem has_drew {w : World} {g : Nat} {t : TypeId} {cs : Array Value} (h : Has w g t cs) : Has w.drew g t cs := h
/-- two results of two cells each, stored -/
theorem selfs4 {W : World} {g p : Nat} {t u : TypeId} {a b c d : Value} (h : Has W g t #[a, b]) (k : Has W p u #[c, d]) (hne : g ≠ p) (v0 v1 v2 v3 : Value) (o : Obj) :
    ((((((W.setCell ⟨g, 0, none⟩ v0).setCell ⟨g, 1, none⟩ v1).setCell ⟨p, 0, none⟩ v2).setCell ⟨p, 1, none⟩ v3).alloc o).cell? ⟨g, 0, none⟩ = some v0 ∧ (((((W.setCell ⟨g, 0, none⟩ v0).setCell ⟨g, 1, none⟩ v1).setCell ⟨p, 0, none⟩ v2).setCell ⟨p, 1, none⟩ v3).alloc o).cell? ⟨g, 1, none⟩ = some v1) ∧
    ((((((W.setCell ⟨g, 0, none⟩ v0).setCell ⟨g, 1, none⟩ v1).setCell ⟨p, 0, none⟩ v2).setCell ⟨p, 1, none⟩ v3).alloc o).cell? ⟨p, 0, none⟩ = some v2 ∧ (((((W.setCell ⟨g, 0, none⟩ v0).setCell ⟨g, 1, none⟩ v1).setCell ⟨p, 0, none⟩ v2).setCell ⟨p, 1, none⟩ v3).alloc o).cell? ⟨p, 1, none⟩ = some v3) :=
  have hg := ((((h.put 0 v0).put 1 v1).put_far 0 v2 hne).put_far 1 v3 hne).alloc o
  have hp := ((((k.put_far 0 v0 (Ne.symm hne)).put_far 1 v1 (Ne.symm hne)).put 0 v2).put 1 v3).alloc o
  ⟨⟨hg.cell 0, hg.cell 1⟩, hp.cell 0, hp.cell 1⟩
theorem selfs4d {W : World} {g p : Nat} {t u : TypeId} {a b c d : Value} (h : Has W g t #[a, b]) (k : Has W p u #[c, d]) (hne : g ≠ p) (v0 v1 v2 v3 : Value) (o : Obj) :
    ((((((W.setCell ⟨g, 0, none⟩ v0).setCell ⟨g, 1, none⟩ v1).setCell ⟨p, 0, none⟩ v2).setCell ⟨p, 1, none⟩ v3).alloc o).drew.cell? ⟨g, 0, none⟩ = some v0 ∧ (((((W.setCell ⟨g, 0, none⟩ v0).setCell ⟨g, 1, none⟩ v1).setCell ⟨p, 0, none⟩ v2).setCell ⟨p, 1, none⟩ v3).alloc o).drew.cell? ⟨g, 1, none⟩ = some v1) ∧
    ((((((W.setCell ⟨g, 0, none⟩ v0).setCell ⟨g, 1, none⟩ v1).setCell ⟨p, 0, none⟩ v2).setCell ⟨p, 1, none⟩ v3).alloc o).drew.cell? ⟨p, 0, none⟩ = some v2 ∧ (((((W.setCell ⟨g, 0, none⟩ v0).setCell ⟨g, 1, none⟩ v1).setCell ⟨p, 0, none⟩ v2).setCell ⟨p, 1, none⟩ v3).alloc o).drew.cell? ⟨p, 1, none⟩ = some v3) :=
  have hg := has_drew (((((h.put 0 v0).put 1 v1).put_far 0 v2 hne).put_far 1 v3 hne).alloc o)
  have hp := has_drew (((((k.put_far 0 v0 (Ne.symm hne)).put_far 1 v1 (Ne.symm hne)).put 0 v2).put 1 v3).alloc o)
  ⟨⟨hg.cell 0, hg.cell 1⟩, hp.cell 0, hp.cell 1⟩

set_option maxRecDepth 100000 in
set_option maxHeartbeats 4000000 in
theorem rtop_any (w : World) (en ka : Value) (k op x y t : Int) (ok : Bool)
    (HE : ∀ W g, Below w.heap.size w W → w.heap.size ≤ g → Lk W g en false 0 0 → Calls Tryd.prog 9 #[.pointer (some ⟨g, 0, none⟩), .slice none 0 0, .agg (exC k op ka x y)] W (RPost W g en x y t ok)) :
    Calls Tryd.prog 5 #[.agg #[en, .slice none 0 0], .slice none 0 0, .agg (exC k op ka x y)] w fun e w' => Below w.heap.size w w' ∧ e = .returned (.tuple #[if ok = true then ty t noT else ty 0 noT, .bool (!ok), .agg #[.int .i64 (if ok = true then 0 else x), .int .i64 (if ok = true then 0 else y)]]) := by
  have HEW := Lib.hid HE
  clear HE
  unfold exC at *
  obtain ⟨W0, hW0⟩ : ∃ W0, W0 = ((((w.alloc (.cells #[en, .slice none 0 0] 30)).alloc (.cells #[.int .u8 k, .int .u8 op, .int .i32 0, .string noT, .slice none 0 0, ka, .int .i64 x, .int .i64 y] 33)).alloc (.cells #[.int .u8 0, .string ⟨#[]⟩] 35)).alloc (.cells #[.int .i64 0, .int .i64 0] 24)).alloc (.cells #[en, .slice none 0 0, .bool false, .int .i64 0, .int .i64 0] 54) := ⟨_, rfl⟩
  have hB0 : Below w.heap.size w W0 := by subst hW0; go_grown
  have hs0 : W0.heap.size = w.heap.size + 1 + 1 + 1 + 1 + 1 := by subst hW0; simp
  have hC0 : Lk W0 (w.heap.size + 1 + 1 + 1 + 1) en false 0 0 := by
    subst hW0
    have := Has.new ((((w.alloc (.cells #[en, .slice none 0 0] 30)).alloc (.cells #[.int .u8 k, .int .u8 op, .int .i32 0, .string noT, .slice none 0 0, ka, .int .i64 x, .int .i64 y] 33)).alloc (.cells #[.int .u8 0, .string ⟨#[]⟩] 35)).alloc (.cells #[.int .i64 0, .int .i64 0] 24)) 54 #[en, .slice none 0 0, .bool false, .int .i64 0, .int .i64 0]
    simp only [World.size_alloc] at this
    exact this
  have hE0 : Has W0 (w.heap.size + 1) 33 #[.int .u8 k, .int .u8 op, .int .i32 0, .string noT, .slice none 0 0, ka, .int .i64 x, .int .i64 y] := by
    subst hW0
    have := (((Has.new (w.alloc (.cells #[en, .slice none 0 0] 30)) 33 #[.int .u8 k, .int .u8 op, .int .i32 0, .string noT, .slice none 0 0, ka, .int .i64 x, .int .i64 y]).alloc (.cells #[.int .u8 0, .string ⟨#[]⟩] 35)).alloc (.cells #[.int .i64 0, .int .i64 0] 24)).alloc (.cells #[en, .slice none 0 0, .bool false, .int .i64 0, .int .i64 0] 54)
    simp only [World.size_alloc] at this
    exact this
  have hR0 : Has W0 (w.heap.size + 1 + 1) 35 #[.int .u8 0, .string ⟨#[]⟩] := by
    subst hW0
    have := ((Has.new ((w.alloc (.cells #[en, .slice none 0 0] 30)).alloc (.cells #[.int .u8 k, .int .u8 op, .int .i32 0, .string noT, .slice none 0 0, ka, .int .i64 x, .int .i64 y] 33)) 35 #[.int .u8 0, .string ⟨#[]⟩]).alloc (.cells #[.int .i64 0, .int .i64 0] 24)).alloc (.cells #[en, .slice none 0 0, .bool false, .int .i64 0, .int .i64 0] 54)
    simp only [World.size_alloc] at this
    exact this
  have hP0 : Has W0 (w.heap.size + 1 + 1 + 1) 24 #[.int .i64 0, .int .i64 0] := by
    subst hW0
    have := (Has.new (((w.alloc (.cells #[en, .slice none 0 0] 30)).alloc (.cells #[.int .u8 k, .int .u8 op, .int .i32 0, .string noT, .slice none 0 0, ka, .int .i64 x, .int .i64 y] 33)).alloc (.cells #[.int .u8 0, .string ⟨#[]⟩] 35)) 24 #[.int .i64 0, .int .i64 0]).alloc (.cells #[en, .slice none 0 0, .bool false, .int .i64 0, .int .i64 0] 54)
    simp only [World.size_alloc] at this
    exact this
  have e0 := hE0.cell 0
  have e1 := hE0.cell 1
  have e2 := hE0.cell 2
  have e3 := hE0.cell 3
  have e4 := hE0.cell 4
  have e5 := hE0.cell 5
  have e6 := hE0.cell 6
  have e7 := hE0.cell 7
  simp only [List.getElem?_toArray, List.getElem?_cons_zero, List.getElem?_cons_succ] at e0 e1 e2 e3 e4 e5 e6 e7
  have HW0 := Lib.hid hW0
  have HB0 := Lib.hid hB0
  have HC0 := Lib.hid hC0
  have HR0 := Lib.hid hR0
  have HP0 := Lib.hid hP0
  clear hW0 hB0 hC0 hE0 hR0 hP0
  go_enter Tryd.func5, Tryd.ntmps5
  go_wp2_with fail
  rw [← HW0.out]
  refine (HEW.out _ _ HB0.out (by omega) HC0.out).mono ?_
  rintro e w2 ⟨rfl, hg2, hok, hbad⟩
  clear HEW e0 e1 e2 e3 e4 e5 e6 e7
  have hs2 := hg2.size
  have hB := HB0.out.grown hg2 (by omega) (fun k hk => by cases hk; omega)
  have hr := HR0.out.grown hg2 (by simp)
  have hp := HP0.out.grown hg2 (by simp)
  clear hg2
  have rc0 := hr.cell 0
  have rc1 := hr.cell 1
  have rf := fun i => hr.free i
  have pc0 := hp.cell 0
  have pc1 := hp.cell 1
  have pf := fun i => hp.free i
  simp only [List.getElem?_toArray, List.getElem?_cons_zero, List.getElem?_cons_succ] at rc0 rc1 pc0 pc1
  have HB := Lib.hid hB
  have HR := Lib.hid hr
  have HP := Lib.hid hp
  have wl : w.heap.size + 1 + 1 + 1 + 1 < w2.heap.size := by omega
  have wl3 : w.heap.size + 1 + 1 < w2.heap.size := by omega
  have wl4 : w.heap.size + 1 + 1 + 1 < w2.heap.size := by omega
  clear hB hr hp HC0 HR0 HB0 HP0
  cases ok
  · have hk := hbad rfl
    have k2 := hk.cell 2
    have k3 := hk.cell 3
    have k4 := hk.cell 4
    simp only [List.getElem?_toArray, List.getElem?_cons_zero, List.getElem?_cons_succ] at k2 k3 k4
    clear hok hbad hk
    go_wp2_with fail
    go_region
    go_wp2_with fail
    have R := fun v0 v1 v2 v3 o => selfs4d HR.out HP.out (by omega) v0 v1 v2 v3 o
    (try simp only [Exit.inBlock, Exit.then])
    refine bodyPost_ret (by simp [results, Tryd.results5, go_sem, R]; try rfl) rfl ?_
    exact ⟨(((((HB.out.setCell (by simp; omega) _).setCell (by simp; omega) _).setCell (by simp; omega) _).setCell (by simp; omega) _).alloc (by simp; omega) _).drew, rfl⟩
  · have hk := hok rfl
    have k2 := hk.cell 2
    simp only [List.getElem?_toArray, List.getElem?_cons_zero, List.getElem?_cons_succ] at k2
    clear hok hbad hk
    go_wp2_with fail
    have R := fun v0 v1 v2 v3 o => selfs4 HR.out HP.out (by omega) v0 v1 v2 v3 o
    (try simp only [Exit.inBlock, Exit.then])
    refine bodyPost_ret (by simp [results, Tryd.results5, go_sem, R]; try rfl) rfl ?_
    exact ⟨((((HB.out.setCell (by simp; omega) _).setCell (by simp; omega) _).setCell (by simp; omega) _).setCell (by simp; omega) _).alloc (by simp; omega) _, rfl⟩
end Go.Proofs.YtkjfodbdkacjfaaDoor.ty
