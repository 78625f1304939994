/-
  types.Expr at an operator of one or two, given what expr leaves.
-/
import Derived.Test.YtkjfodbdkacjfaaDoorTyUn
namespace Go.Proofs.YtkjfodbdkacjfaaDoor.ty
open Go.ChangeShapes Go.WideShapes Go.ChangeAt Go.RowKit
open Go.Proofs.YtkjfodbdkacjfaaDoor.lx (Has grown_refl grown_put grown_below)
set_option linter.unusedVariables false

set_option maxRecDepth 100000 in
theorem see_none (w : World) (g : Nat) :
    Calls Tryd.prog 7 #[.pointer (some ⟨g, 0, none⟩), .slice none 0 0] w fun e w' => e = .returned (.tuple #[]) ∧ w' = w := by
  go_enter Tryd.func7, Tryd.ntmps7
  go_wp2_with fail
  refine wp_loop_rounds 1 ?_
  rw [rounds_succ]
  go_wp2_with fail
  go_returns
  exact ⟨rfl, rfl⟩

/-- an expression's cells -/
def exC (k op : Int) (ka : Value) (x y : Int) : Array Value := #[.int .u8 k, .int .u8 op, .int .i32 0, .string noT, .slice none 0 0, ka, .int .i64 x, .int .i64 y]

set_option maxRecDepth 100000 in
set_option maxHeartbeats 4000000 in
theorem texpr_any (w : World) (en ka : Value) (k op x y t : Int) (ok : Bool)
    (HE : ∀ W g b mv, Below w.heap.size w W → w.heap.size ≤ g → w.heap.size ≤ b → Chk W g en mv .nilIface → Has W b 33 (exC k op ka x y) → Calls Tryd.prog 8 #[.pointer (some ⟨g, 0, none⟩), .pointer (some ⟨b, 0, none⟩)] W (ExprPost W g en mv x y t ok)) :
    Calls Tryd.prog 4 #[.agg #[en, .slice none 0 0], .slice none 0 0, .agg (exC k op ka x y)] w fun e w' => Below w.heap.size w w' ∧ (ok = true → e = .returned (.tuple #[ty t noT, .nilIface])) ∧ (ok = false → ∃ ga, w.heap.size ≤ ga ∧ Has w' ga 96 #[.int .i64 x, .int .i64 y, .string noT, .bool false, .iface 56 (.int .i64 7)] ∧ e = .returned (.tuple #[ty 0 noT, .iface 92 (.pointer (some ⟨ga, 0, none⟩))])) := by
  have HEW := Lib.hid HE
  clear HE
  unfold exC at *
  have hmk : ∀ (t : TypeId) (w : World), (Instr.makeMap t none).run Tryd.prog w = .ok (.map (some w.heap.size)) (w.alloc (.map #[] 0)) := fun _ _ => rfl
  obtain ⟨W0, hW0⟩ : ∃ W0, W0 = ((((w.alloc (.cells #[en, .slice none 0 0] 30)).alloc (.cells #[.int .u8 k, .int .u8 op, .int .i32 0, .string noT, .slice none 0 0, ka, .int .i64 x, .int .i64 y] 33)).alloc (.cells #[.int .u8 0, .string ⟨#[]⟩] 35)).alloc (.map #[] 0)).alloc (.cells #[en, .slice none 0 0, .map (some (w.heap.size + 1 + 1 + 1)), .nilIface] 48) := ⟨_, rfl⟩
  have hB0 : Below w.heap.size w W0 := by subst hW0; go_grown
  have hs0 : W0.heap.size = w.heap.size + 1 + 1 + 1 + 1 + 1 := by subst hW0; simp
  have hC0 : Chk W0 (w.heap.size + 1 + 1 + 1 + 1) en (.map (some (w.heap.size + 1 + 1 + 1))) .nilIface := by
    subst hW0
    have := Has.new ((((w.alloc (.cells #[en, .slice none 0 0] 30)).alloc (.cells #[.int .u8 k, .int .u8 op, .int .i32 0, .string noT, .slice none 0 0, ka, .int .i64 x, .int .i64 y] 33)).alloc (.cells #[.int .u8 0, .string ⟨#[]⟩] 35)).alloc (.map #[] 0)) 48 #[en, .slice none 0 0, .map (some (w.heap.size + 1 + 1 + 1)), .nilIface]
    simp only [World.size_alloc] at this
    exact this
  have hE0 : Has W0 (w.heap.size + 1) 33 #[.int .u8 k, .int .u8 op, .int .i32 0, .string noT, .slice none 0 0, ka, .int .i64 x, .int .i64 y] := by
    subst hW0
    have := (((Has.new (w.alloc (.cells #[en, .slice none 0 0] 30)) 33 #[.int .u8 k, .int .u8 op, .int .i32 0, .string noT, .slice none 0 0, ka, .int .i64 x, .int .i64 y]).alloc (.cells #[.int .u8 0, .string ⟨#[]⟩] 35)).alloc (.map #[] 0)).alloc (.cells #[en, .slice none 0 0, .map (some (w.heap.size + 1 + 1 + 1)), .nilIface] 48)
    simp only [World.size_alloc] at this
    exact this
  have hR0 : Has W0 (w.heap.size + 1 + 1) 35 #[.int .u8 0, .string ⟨#[]⟩] := by
    subst hW0
    have := ((Has.new ((w.alloc (.cells #[en, .slice none 0 0] 30)).alloc (.cells #[.int .u8 k, .int .u8 op, .int .i32 0, .string noT, .slice none 0 0, ka, .int .i64 x, .int .i64 y] 33)) 35 #[.int .u8 0, .string ⟨#[]⟩]).alloc (.map #[] 0)).alloc (.cells #[en, .slice none 0 0, .map (some (w.heap.size + 1 + 1 + 1)), .nilIface] 48)
    simp only [World.size_alloc] at this
    exact this
  have HW0 := Lib.hid hW0
  have HB0 := Lib.hid hB0
  have HC0 := Lib.hid hC0
  have HE0 := Lib.hid hE0
  have HR0 := Lib.hid hR0
  clear hW0 hB0 hC0 hE0 hR0
  go_enter Tryd.func4, Tryd.ntmps4
  go_wp2_with fail
  rw [← HW0.out]
  refine (see_none _ _).mono ?_
  rintro e w1 ⟨rfl, rfl⟩
  go_wp2_with fail
  refine (HEW.out _ _ _ _ HB0.out (by omega) (by omega) HC0.out HE0.out).mono ?_
  rintro e w2 ⟨rfl, hg2, hok, hbad⟩
  clear HEW
  have hs2 := hg2.size
  have hB := HB0.out.grown hg2 (by omega) (fun k hk => by cases hk; omega)
  have hr := HR0.out.grown hg2 (by simp)
  clear hg2
  cases ok
  · obtain ⟨ga, hga, hn, hk⟩ := hbad rfl
    have k3 := hk.cell 3
    have rc0 := hr.cell 0
    have rc1 := hr.cell 1
    have rf := fun i => hr.free i
    simp only [List.getElem?_toArray, List.getElem?_cons_zero, List.getElem?_cons_succ] at rc0 rc1 k3
    have R := Lib.hid (fun v0 v1 o => selfs2d hr v0 v1 o)
    have HB := Lib.hid hB
    have HN := Lib.hid hn
    have wl : w.heap.size + 1 + 1 + 1 + 1 < w2.heap.size := by omega
    have wl3 : w.heap.size + 1 + 1 < w2.heap.size := by omega
    have wg : w.heap.size ≤ ga := by omega
    have wn : ga ≠ w.heap.size + 1 + 1 := by omega
    clear hok hbad hn hk hB hr HC0 HE0 HR0 HB0 hga
    go_wp2_with fail
    go_region
    go_wp2_with fail
    (try simp only [Exit.inBlock, Exit.then])
    refine bodyPost_ret (by simp [results, Tryd.results4, go_sem, R.out]; try rfl) rfl ?_
    exact ⟨(((HB.out.setCell (by simp; omega) _).setCell (by simp; omega) _).alloc (by simp; omega) _).drew, ga, wg, ((HN.out.put_far 0 _ wn).put_far 1 _ wn).alloc _, rfl⟩
  · have hk := hok rfl
    have k3 := hk.cell 3
    have rc0 := hr.cell 0
    have rc1 := hr.cell 1
    have rf := fun i => hr.free i
    simp only [List.getElem?_toArray, List.getElem?_cons_zero, List.getElem?_cons_succ] at rc0 rc1 k3
    have R := Lib.hid (fun v0 v1 o => selfs2a hr v0 v1 o)
    have HB := Lib.hid hB
    have wl : w.heap.size + 1 + 1 + 1 + 1 < w2.heap.size := by omega
    have wl3 : w.heap.size + 1 + 1 < w2.heap.size := by omega
    clear hok hbad hk hB hr HC0 HE0 HR0 HB0
    go_wp2_with fail
    (try simp only [Exit.inBlock, Exit.then])
    refine bodyPost_ret (by simp [results, Tryd.results4, go_sem, R.out]; try rfl) rfl ?_
    exact ⟨((HB.out.setCell (by simp; omega) _).setCell (by simp; omega) _).alloc (by simp; omega) _, rfl⟩
end Go.Proofs.YtkjfodbdkacjfaaDoor.ty
