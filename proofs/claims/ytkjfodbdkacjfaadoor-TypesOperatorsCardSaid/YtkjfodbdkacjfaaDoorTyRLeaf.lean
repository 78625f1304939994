/-
  The reference's look: fail; expr at a number, a truth, a constructor.
-/
import Derived.Test.YtkjfodbdkacjfaaDoorTyOps
namespace Go.Proofs.YtkjfodbdkacjfaaDoor.ty
open Go.ChangeShapes Go.WideShapes Go.ChangeAt Go.RowKit
open Go.Proofs.YtkjfodbdkacjfaaDoor.lx (Has grown_refl grown_put grown_below)
set_option linter.unusedVariables false

theorem grown_then {w W w' : World} {row : Option Nat} (h : w.grownBy W row) (hb : Below W.heap.size W w') : w.grownBy w' row :=
  ⟨hb.os.trans h.os, hb.tape.trans h.tape, hb.output.trans h.output, Nat.le_trans h.size hb.size, fun k hk hne => (hb.block k (Nat.lt_of_lt_of_le hk h.size)).trans (h.block k hk hne)⟩
theorem grown_alloc {w W : World} {row : Option Nat} (h : w.grownBy W row) (o : Obj) : w.grownBy (W.alloc o) row :=
  grown_then h ((Below.refl _ W).alloc (Nat.le_refl _) o)

/-- the look, at block g -/
def Lk (w : World) (g : Nat) (en : Value) (bad : Bool) (x y : Int) : Prop := Has w g 54 #[en, .slice none 0 0, .bool bad, .int .i64 x, .int .i64 y]

set_option maxRecDepth 100000 in
theorem fail_new (w : World) (g : Nat) (en : Value) (x y x0 y0 : Int) (h : Lk w g en false x0 y0) :
    Calls Tryd.prog 16 #[.pointer (some ⟨g, 0, none⟩), .agg #[.int .i64 x, .int .i64 y]] w fun e w' => e = .returned (.tuple #[]) ∧ Lk w' g en true x y ∧ w.grownBy w' (some g) := by
  have hl := h.lt
  have c2 := h.cell 2
  have c3 := h.cell 3
  have c4 := h.cell 4
  have hf := fun i => h.free i
  simp only [List.getElem?_toArray, List.getElem?_cons_zero, List.getElem?_cons_succ] at c2 c3 c4
  have HB := Lib.hid ((Below.refl w.heap.size w).alloc (Nat.le_refl _) (.cells #[.int .i64 x, .int .i64 y] 24))
  have H := Lib.hid h
  clear h
  go_enter Tryd.func16, Tryd.ntmps16
  go_wp2_with fail
  go_returns
  exact ⟨rfl, (((H.out.put 2 (.bool true)).put 3 (.int .i64 x)).put 4 (.int .i64 y)).alloc _, grown_alloc (grown_put (grown_put (grown_put (grown_refl _ _) 2 _) 3 _) 4 _) _⟩

set_option maxRecDepth 100000 in
theorem fail_old (w : World) (g : Nat) (en : Value) (x y x0 y0 : Int) (h : Lk w g en true x0 y0) :
    Calls Tryd.prog 16 #[.pointer (some ⟨g, 0, none⟩), .agg #[.int .i64 x, .int .i64 y]] w fun e w' => e = .returned (.tuple #[]) ∧ Lk w' g en true x0 y0 ∧ w.grownBy w' (some g) := by
  have hl := h.lt
  have c2 := h.cell 2
  simp only [List.getElem?_toArray, List.getElem?_cons_zero, List.getElem?_cons_succ] at c2
  have H := Lib.hid h
  clear h
  go_enter Tryd.func16, Tryd.ntmps16
  go_wp2_with fail
  go_returns
  have hb := (Below.refl w.heap.size w).alloc (Nat.le_refl _) (.cells #[.int .i64 x, .int .i64 y] 24)
  exact ⟨rfl, H.out.alloc _, grown_below _ hb⟩

/-- an expression without kids, as a value -/
def lfV (k n : Int) (s : ByteArray) : Value := .agg #[.int .u8 k, .int .u8 0, .int .i32 n, .string s, .slice none 0 0, .slice none 0 0, .int .i64 0, .int .i64 0]

set_option maxRecDepth 100000 in
theorem rleaf_int (w : World) (g : Nat) (en : Value) (n : Int) (s : ByteArray) (h : Lk w g en false 0 0) :
    Calls Tryd.prog 9 #[.pointer (some ⟨g, 0, none⟩), .slice none 0 0, lfV 1 n s] w fun e w' => e = .returned (ty 2 noT) ∧ Below w.heap.size w w' := by
  have hl := h.lt
  have c2 := h.cell 2
  simp only [List.getElem?_toArray, List.getElem?_cons_zero, List.getElem?_cons_succ] at c2
  clear h
  unfold lfV
  go_enter Tryd.func9, Tryd.ntmps9
  go_wp2_with fail
  refine wp_loop_rounds 1 ?_
  rw [rounds_succ]
  go_wp2_with fail
  go_returns
  exact ⟨rfl, by go_grown⟩

set_option maxRecDepth 100000 in
theorem rleaf_bool (w : World) (g : Nat) (en : Value) (n : Int) (s : ByteArray) (h : Lk w g en false 0 0) :
    Calls Tryd.prog 9 #[.pointer (some ⟨g, 0, none⟩), .slice none 0 0, lfV 2 n s] w fun e w' => e = .returned (ty 1 noT) ∧ Below w.heap.size w w' := by
  have hl := h.lt
  have c2 := h.cell 2
  simp only [List.getElem?_toArray, List.getElem?_cons_zero, List.getElem?_cons_succ] at c2
  clear h
  unfold lfV
  go_enter Tryd.func9, Tryd.ntmps9
  go_wp2_with fail
  refine wp_loop_rounds 1 ?_
  rw [rounds_succ]
  go_wp2_with fail
  go_returns
  exact ⟨rfl, by go_grown⟩

set_option maxRecDepth 100000 in
set_option maxHeartbeats 2000000 in
theorem rleaf_ctor (w : World) (g eb ec i : Nat) (l : List (List ByteArray)) (n : Int) (s nm : ByteArray) (h : Lk w g (.slice (some ⟨eb, 0, none⟩) l.length ec) false 0 0)
    (hE : CtorsAt w (some ⟨eb, 0, none⟩) l) (hn : l.length ≤ 100) (hi : i < l.length) (hf : (ctorAt s l 0).1 = (i : Int)) (hN : w.cell? ⟨eb, i * 4, none⟩ = some (.string nm)) :
    Calls Tryd.prog 9 #[.pointer (some ⟨g, 0, none⟩), .slice none 0 0, lfV 3 n s] w fun e w' => e = .returned (ty 3 nm) ∧ Below w.heap.size w w' := by
  have hl := h.lt
  have c0 := h.cell 0
  have c2 := h.cell 2
  simp only [List.getElem?_toArray, List.getElem?_cons_zero, List.getElem?_cons_succ] at c0 c2
  clear h
  have heb : eb < w.heap.size := World.block_lt_of_cell? w _ hN
  have HC := Lib.hid (fun W (hb : Below w.heap.size w W) => ctorAt_any W (some ⟨eb, 0, none⟩) l ec s (hE.below hb) (by unfold maxLen; omega))
  rw [hf] at HC
  have i0 : (0 : Int) ≤ (i : Int) := Int.natCast_nonneg _
  have i1 : (i : Int) < (l.length : Int) := by omega
  have bl : ∀ o1 o2 o3 m, Below w.heap.size w ((((w.alloc o1).alloc o2).alloc o3).drewN m) := fun o1 o2 o3 m =>
    below_drewN ((((Below.refl _ w).alloc (Nat.le_refl _) o1).alloc (by simp) o2).alloc (by simp; omega) o3) m
  have x0 := fun o1 o2 o3 m => ((bl o1 o2 o3 m).cell (p := ⟨g, 0, none⟩) hl).trans c0
  have x1 := fun o1 o2 o3 m => ((bl o1 o2 o3 m).cell (p := ⟨eb, i * 4, none⟩) heb).trans hN
  have rs := fun o1 o3 m v0 v1 => selfs2 (has_drewN ((Has.new (w.alloc o1) 35 #[.int .u8 0, .string ⟨#[]⟩]).alloc o3) m) v0 v1
  simp only [World.size_alloc] at rs
  have R := Lib.hid rs
  clear hE hf bl rs
  unfold lfV
  go_enter Tryd.func9, Tryd.ntmps9
  go_wp2_with fail
  refine wp_loop_rounds 1 ?_
  rw [rounds_succ]
  go_wp2_with fail
  go_quiet ((exact Calls.quiet_of_same (HC.out _ (below_drewN (by go_grown) _))))
  go_wp2_with fail
  (try simp only [Exit.inBlock, Exit.then])
  refine bodyPost_ret (by simp [results, Tryd.results9, go_sem, R.out]; try rfl) rfl ?_
  refine ⟨rfl, ?_⟩
  repeat' (first | (with_reducible exact Below.refl _ _) | (with_reducible refine Below.alloc ?_ ?_ _) | (with_reducible refine below_drewN ?_ _) | (with_reducible refine Below.setCell ?_ ?_ _) | (with_reducible exact Nat.le_refl _) | (simp; done) | (simp; omega))
end Go.Proofs.YtkjfodbdkacjfaaDoor.ty
