/-
  The law's program: a node with one variable that goes in, one that comes out, one that is sampled, and an expression.
-/
import Derived.Test.YtnejkgkikpgajaaDoorPlTop
namespace Go.Proofs.YtnejkgkikpgajaaDoor.ck
open Go.ChangeShapes Go.WideShapes Go.ChangeAt Go.RowKit
open tr
set_option linter.unusedVariables false
set_option linter.unusedSimpArgs false

def allocs (w : World) (l : List Obj) : World := l.foldl World.alloc w
theorem allocs_size (w : World) (l : List Obj) : (allocs w l).heap.size = w.heap.size + l.length := by
  induction l generalizing w with
  | nil => rfl
  | cons o r ih => show (allocs (w.alloc o) r).heap.size = _; rw [ih, World.size_alloc, List.length_cons]; omega
theorem allocs_below (w : World) (l : List Obj) : Below w.heap.size w (allocs w l) := by
  induction l generalizing w with
  | nil => exact Below.refl _ _
  | cons o r ih => exact ((Below.refl _ w).alloc (Nat.le_refl _) o).trans ((ih (w.alloc o)).mono (by simp))
theorem allocs_get (w : World) (l : List Obj) (i : Nat) (hi : i < l.length) : (allocs w l).heap[w.heap.size + i]? = some l[i] := by
  induction l generalizing w i with
  | nil => simp at hi
  | cons o r ih =>
    cases i with
    | zero =>
      have h := (allocs_below (w.alloc o) r).block w.heap.size (by simp)
      show (allocs (w.alloc o) r).heap[w.heap.size + 0]? = _
      rw [Nat.add_zero, h]
      show (w.heap.push o)[w.heap.size]? = _
      simp
    | succ i =>
      have := ih (w.alloc o) i (by simpa using hi)
      rw [World.size_alloc] at this
      rw [show w.heap.size + (i + 1) = w.heap.size + 1 + i by omega]
      exact this

abbrev one : Ex := .mk 1 0 0 ⟨#[]⟩ [] [] 0 0
def bC : ByteArray := ⟨#[99]⟩
def bX : ByteArray := ⟨#[120]⟩
def bW : ByteArray := ⟨#[119]⟩
def bF : ByteArray := ⟨#[102]⟩
def bT : ByteArray := ⟨#[116, 114, 117, 101]⟩
/-- the law's program as it lies, at the node's block -/
def ProgAt (w : World) (gn : Nat) (x : Ex) : Prop :=
  ∃ oc lw lx : Nat, NodeAt w (fun _ => True) gn bF bC bX bW (some ⟨oc, 0, none⟩) 1 1 [⟨some ⟨lw, 0, none⟩, 1, 1, one⟩, ⟨some ⟨lx, 0, none⟩, 1, 1, x⟩] ∧
    w.cell? ⟨oc, 0, none⟩ = some (.string bT) ∧ w.cell? ⟨oc, 1, none⟩ = some (.string bC) ∧ w.cell? ⟨lw, 0, none⟩ = some (.string bW) ∧ w.cell? ⟨lx, 0, none⟩ = some (.string bX)
def ProgPost (w : World) (x : Ex) (e : Ending) (w' : World) : Prop := ∃ gn cn, e = .returned (.agg #[.slice none 0 0, .slice (some ⟨gn, 0, none⟩) 1 cn]) ∧ ProgAt w' gn x ∧ Below w.heap.size w w'
set_option maxRecDepth 100000 in
set_option maxHeartbeats 16000000 in
theorem program_any (w : World) (x : Ex) (cs : Array Value) (hx : LaidP w (fun _ => True) x cs.toList) :
    Calls Tryd.prog 6 #[.agg cs] w (ProgPost w x) := by
  obtain ⟨ek, eo, en, enm, ena, enl, enc, eka, ekl, ekc, el, ecl, rfl⟩ := hx.shape
  obtain ⟨W, hW⟩ : ∃ W, W = (((((((((((((w.alloc (.cells #[.int .u8 ek, .int .u8 eo, .int .i32 en, .string enm, .slice ena enl enc, .slice eka ekl ekc, .int .i64 el, .int .i64 ecl] 29)).alloc (.cells #[.slice none 0 0, .slice none 0 0] 33)).alloc (.cells #[.int .u8 2, .string ⟨#[]⟩] 51)).alloc (.cells #[.int .u8 1, .string ⟨#[]⟩] 51)).alloc (.cells #[.string ⟨#[99]⟩, .int .u8 1, .string ⟨#[]⟩, .slice none 0 0, .bool false, .int .u8 0, .int .u8 0, .int .i32 0, .string ⟨#[]⟩, .slice none 0 0, .slice none 0 0, .int .i64 0, .int .i64 0, .int .i64 0, .int .i64 0] 54)).alloc (.cells #[.string ⟨#[120]⟩, .int .u8 2, .string ⟨#[]⟩, .slice none 0 0, .bool false, .int .u8 0, .int .u8 0, .int .i32 0, .string ⟨#[]⟩, .slice none 0 0, .slice none 0 0, .int .i64 0, .int .i64 0, .int .i64 0, .int .i64 0] 54)).alloc (.cells #[.string ⟨#[102]⟩, .slice (some ⟨w.heap.size + 1 + 1 + 1 + 1, 0, none⟩) 1 1, .slice (some ⟨w.heap.size + 1 + 1 + 1 + 1 + 1, 0, none⟩) 1 1, .slice (some ⟨w.heap.size + 1 + 1 + 1 + 1 + 1 + 1 + 1 + 1, 0, none⟩) 1 1, .slice (some ⟨w.heap.size + 1 + 1 + 1 + 1 + 1 + 1 + 1 + 1 + 1 + 1 + 1, 0, none⟩) 2 2, .int .i64 0, .int .i64 0] 59)).alloc (.cells #[.string ⟨#[116, 114, 117, 101]⟩, .string ⟨#[99]⟩] 61)).alloc (.cells #[.string ⟨#[119]⟩, .int .u8 2, .string ⟨#[]⟩, .slice (some ⟨w.heap.size + 1 + 1 + 1 + 1 + 1 + 1 + 1, 0, none⟩) 1 1, .bool false, .int .u8 0, .int .u8 0, .int .i32 0, .string ⟨#[]⟩, .slice none 0 0, .slice none 0 0, .int .i64 0, .int .i64 0, .int .i64 0, .int .i64 0] 54)).alloc (.cells #[.string ⟨#[119]⟩] 9)).alloc (.cells #[.string ⟨#[120]⟩] 9)).alloc (.cells #[.int .u8 1, .slice (some ⟨w.heap.size + 1 + 1 + 1 + 1 + 1 + 1 + 1 + 1 + 1, 0, none⟩) 1 1, .string ⟨#[]⟩, .slice none 0 0, .bool false, .int .u8 1, .int .u8 0, .int .i32 0, .string ⟨#[]⟩, .slice none 0 0, .slice none 0 0, .int .i64 0, .int .i64 0, .slice none 0 0, .int .i64 0, .int .i64 0, .int .u8 1, .slice (some ⟨w.heap.size + 1 + 1 + 1 + 1 + 1 + 1 + 1 + 1 + 1 + 1, 0, none⟩) 1 1, .string ⟨#[]⟩, .slice none 0 0, .bool false, .int .u8 ek, .int .u8 eo, .int .i32 en, .string enm, .slice ena enl enc, .slice eka ekl ekc, .int .i64 el, .int .i64 ecl, .slice none 0 0, .int .i64 0, .int .i64 0] 64)).alloc (.cells #[.string ⟨#[102]⟩, .slice (some ⟨w.heap.size + 1 + 1 + 1 + 1, 0, none⟩) 1 1, .slice (some ⟨w.heap.size + 1 + 1 + 1 + 1 + 1, 0, none⟩) 1 1, .slice (some ⟨w.heap.size + 1 + 1 + 1 + 1 + 1 + 1 + 1 + 1, 0, none⟩) 1 1, .slice (some ⟨w.heap.size + 1 + 1 + 1 + 1 + 1 + 1 + 1 + 1 + 1 + 1 + 1, 0, none⟩) 2 2, .int .i64 0, .int .i64 0] 59)) := ⟨_, rfl⟩
  have hA : W = allocs w [.cells #[.int .u8 ek, .int .u8 eo, .int .i32 en, .string enm, .slice ena enl enc, .slice eka ekl ekc, .int .i64 el, .int .i64 ecl] 29, .cells #[.slice none 0 0, .slice none 0 0] 33, .cells #[.int .u8 2, .string ⟨#[]⟩] 51, .cells #[.int .u8 1, .string ⟨#[]⟩] 51, .cells #[.string ⟨#[99]⟩, .int .u8 1, .string ⟨#[]⟩, .slice none 0 0, .bool false, .int .u8 0, .int .u8 0, .int .i32 0, .string ⟨#[]⟩, .slice none 0 0, .slice none 0 0, .int .i64 0, .int .i64 0, .int .i64 0, .int .i64 0] 54, .cells #[.string ⟨#[120]⟩, .int .u8 2, .string ⟨#[]⟩, .slice none 0 0, .bool false, .int .u8 0, .int .u8 0, .int .i32 0, .string ⟨#[]⟩, .slice none 0 0, .slice none 0 0, .int .i64 0, .int .i64 0, .int .i64 0, .int .i64 0] 54, .cells #[.string ⟨#[102]⟩, .slice (some ⟨w.heap.size + 1 + 1 + 1 + 1, 0, none⟩) 1 1, .slice (some ⟨w.heap.size + 1 + 1 + 1 + 1 + 1, 0, none⟩) 1 1, .slice (some ⟨w.heap.size + 1 + 1 + 1 + 1 + 1 + 1 + 1 + 1, 0, none⟩) 1 1, .slice (some ⟨w.heap.size + 1 + 1 + 1 + 1 + 1 + 1 + 1 + 1 + 1 + 1 + 1, 0, none⟩) 2 2, .int .i64 0, .int .i64 0] 59, .cells #[.string ⟨#[116, 114, 117, 101]⟩, .string ⟨#[99]⟩] 61, .cells #[.string ⟨#[119]⟩, .int .u8 2, .string ⟨#[]⟩, .slice (some ⟨w.heap.size + 1 + 1 + 1 + 1 + 1 + 1 + 1, 0, none⟩) 1 1, .bool false, .int .u8 0, .int .u8 0, .int .i32 0, .string ⟨#[]⟩, .slice none 0 0, .slice none 0 0, .int .i64 0, .int .i64 0, .int .i64 0, .int .i64 0] 54, .cells #[.string ⟨#[119]⟩] 9, .cells #[.string ⟨#[120]⟩] 9, .cells #[.int .u8 1, .slice (some ⟨w.heap.size + 1 + 1 + 1 + 1 + 1 + 1 + 1 + 1 + 1, 0, none⟩) 1 1, .string ⟨#[]⟩, .slice none 0 0, .bool false, .int .u8 1, .int .u8 0, .int .i32 0, .string ⟨#[]⟩, .slice none 0 0, .slice none 0 0, .int .i64 0, .int .i64 0, .slice none 0 0, .int .i64 0, .int .i64 0, .int .u8 1, .slice (some ⟨w.heap.size + 1 + 1 + 1 + 1 + 1 + 1 + 1 + 1 + 1 + 1, 0, none⟩) 1 1, .string ⟨#[]⟩, .slice none 0 0, .bool false, .int .u8 ek, .int .u8 eo, .int .i32 en, .string enm, .slice ena enl enc, .slice eka ekl ekc, .int .i64 el, .int .i64 ecl, .slice none 0 0, .int .i64 0, .int .i64 0] 64, .cells #[.string ⟨#[102]⟩, .slice (some ⟨w.heap.size + 1 + 1 + 1 + 1, 0, none⟩) 1 1, .slice (some ⟨w.heap.size + 1 + 1 + 1 + 1 + 1, 0, none⟩) 1 1, .slice (some ⟨w.heap.size + 1 + 1 + 1 + 1 + 1 + 1 + 1 + 1, 0, none⟩) 1 1, .slice (some ⟨w.heap.size + 1 + 1 + 1 + 1 + 1 + 1 + 1 + 1 + 1 + 1 + 1, 0, none⟩) 2 2, .int .i64 0, .int .i64 0] 59] := hW
  have hbw : Below w.heap.size w W := by rw [hA]; exact allocs_below _ _
  have hsw : W.heap.size = w.heap.size + 13 := by rw [hA, allocs_size]; rfl
  have gets : ∀ (i : Nat) (o : Obj) (b : Nat), b = w.heap.size + i → ([.cells #[.int .u8 ek, .int .u8 eo, .int .i32 en, .string enm, .slice ena enl enc, .slice eka ekl ekc, .int .i64 el, .int .i64 ecl] 29, .cells #[.slice none 0 0, .slice none 0 0] 33, .cells #[.int .u8 2, .string ⟨#[]⟩] 51, .cells #[.int .u8 1, .string ⟨#[]⟩] 51, .cells #[.string ⟨#[99]⟩, .int .u8 1, .string ⟨#[]⟩, .slice none 0 0, .bool false, .int .u8 0, .int .u8 0, .int .i32 0, .string ⟨#[]⟩, .slice none 0 0, .slice none 0 0, .int .i64 0, .int .i64 0, .int .i64 0, .int .i64 0] 54, .cells #[.string ⟨#[120]⟩, .int .u8 2, .string ⟨#[]⟩, .slice none 0 0, .bool false, .int .u8 0, .int .u8 0, .int .i32 0, .string ⟨#[]⟩, .slice none 0 0, .slice none 0 0, .int .i64 0, .int .i64 0, .int .i64 0, .int .i64 0] 54, .cells #[.string ⟨#[102]⟩, .slice (some ⟨w.heap.size + 1 + 1 + 1 + 1, 0, none⟩) 1 1, .slice (some ⟨w.heap.size + 1 + 1 + 1 + 1 + 1, 0, none⟩) 1 1, .slice (some ⟨w.heap.size + 1 + 1 + 1 + 1 + 1 + 1 + 1 + 1, 0, none⟩) 1 1, .slice (some ⟨w.heap.size + 1 + 1 + 1 + 1 + 1 + 1 + 1 + 1 + 1 + 1 + 1, 0, none⟩) 2 2, .int .i64 0, .int .i64 0] 59, .cells #[.string ⟨#[116, 114, 117, 101]⟩, .string ⟨#[99]⟩] 61, .cells #[.string ⟨#[119]⟩, .int .u8 2, .string ⟨#[]⟩, .slice (some ⟨w.heap.size + 1 + 1 + 1 + 1 + 1 + 1 + 1, 0, none⟩) 1 1, .bool false, .int .u8 0, .int .u8 0, .int .i32 0, .string ⟨#[]⟩, .slice none 0 0, .slice none 0 0, .int .i64 0, .int .i64 0, .int .i64 0, .int .i64 0] 54, .cells #[.string ⟨#[119]⟩] 9, .cells #[.string ⟨#[120]⟩] 9, .cells #[.int .u8 1, .slice (some ⟨w.heap.size + 1 + 1 + 1 + 1 + 1 + 1 + 1 + 1 + 1, 0, none⟩) 1 1, .string ⟨#[]⟩, .slice none 0 0, .bool false, .int .u8 1, .int .u8 0, .int .i32 0, .string ⟨#[]⟩, .slice none 0 0, .slice none 0 0, .int .i64 0, .int .i64 0, .slice none 0 0, .int .i64 0, .int .i64 0, .int .u8 1, .slice (some ⟨w.heap.size + 1 + 1 + 1 + 1 + 1 + 1 + 1 + 1 + 1 + 1, 0, none⟩) 1 1, .string ⟨#[]⟩, .slice none 0 0, .bool false, .int .u8 ek, .int .u8 eo, .int .i32 en, .string enm, .slice ena enl enc, .slice eka ekl ekc, .int .i64 el, .int .i64 ecl, .slice none 0 0, .int .i64 0, .int .i64 0] 64, .cells #[.string ⟨#[102]⟩, .slice (some ⟨w.heap.size + 1 + 1 + 1 + 1, 0, none⟩) 1 1, .slice (some ⟨w.heap.size + 1 + 1 + 1 + 1 + 1, 0, none⟩) 1 1, .slice (some ⟨w.heap.size + 1 + 1 + 1 + 1 + 1 + 1 + 1 + 1, 0, none⟩) 1 1, .slice (some ⟨w.heap.size + 1 + 1 + 1 + 1 + 1 + 1 + 1 + 1 + 1 + 1 + 1, 0, none⟩) 2 2, .int .i64 0, .int .i64 0] 59] : List Obj)[i]? = some o → W.heap[b]? = some o := fun i o b hb ho => by
    obtain ⟨hi, he⟩ := List.getElem?_eq_some_iff.1 ho
    rw [hA, hb, allocs_get _ _ _ hi, he]
  have hin : Has W (w.heap.size + 1 + 1 + 1 + 1) 54 (varZ bC 1 ⟨#[]⟩ none 0 0) := gets 4 _ _ (by omega) rfl
  have hout : Has W (w.heap.size + 1 + 1 + 1 + 1 + 1) 54 (varZ bX 2 ⟨#[]⟩ none 0 0) := gets 5 _ _ (by omega) rfl
  have hon : Has W (w.heap.size + 1 + 1 + 1 + 1 + 1 + 1 + 1) 61 #[.string bT, .string bC] := gets 7 _ _ (by omega) rfl
  have hvar : Has W (w.heap.size + 1 + 1 + 1 + 1 + 1 + 1 + 1 + 1) 54 (varZ bW 2 ⟨#[]⟩ (some ⟨w.heap.size + 1 + 1 + 1 + 1 + 1 + 1 + 1, 0, none⟩) 1 1) := gets 8 _ _ (by omega) rfl
  have hsw1 : Has W (w.heap.size + 1 + 1 + 1 + 1 + 1 + 1 + 1 + 1 + 1) 9 #[.string bW] := gets 9 _ _ (by omega) rfl
  have hsx1 : Has W (w.heap.size + 1 + 1 + 1 + 1 + 1 + 1 + 1 + 1 + 1 + 1) 9 #[.string bX] := gets 10 _ _ (by omega) rfl
  have heq : Has W (w.heap.size + 1 + 1 + 1 + 1 + 1 + 1 + 1 + 1 + 1 + 1 + 1) 64 #[.int .u8 1, .slice (some ⟨w.heap.size + 1 + 1 + 1 + 1 + 1 + 1 + 1 + 1 + 1, 0, none⟩) 1 1, .string ⟨#[]⟩, .slice none 0 0, .bool false, .int .u8 1, .int .u8 0, .int .i32 0, .string ⟨#[]⟩, .slice none 0 0, .slice none 0 0, .int .i64 0, .int .i64 0, .slice none 0 0, .int .i64 0, .int .i64 0, .int .u8 1, .slice (some ⟨w.heap.size + 1 + 1 + 1 + 1 + 1 + 1 + 1 + 1 + 1 + 1, 0, none⟩) 1 1, .string ⟨#[]⟩, .slice none 0 0, .bool false, .int .u8 ek, .int .u8 eo, .int .i32 en, .string enm, .slice ena enl enc, .slice eka ekl ekc, .int .i64 el, .int .i64 ecl, .slice none 0 0, .int .i64 0, .int .i64 0] := gets 11 _ _ (by omega) rfl
  have hnode : Has W (w.heap.size + 1 + 1 + 1 + 1 + 1 + 1 + 1 + 1 + 1 + 1 + 1 + 1) 59 #[.string ⟨#[102]⟩, .slice (some ⟨w.heap.size + 1 + 1 + 1 + 1, 0, none⟩) 1 1, .slice (some ⟨w.heap.size + 1 + 1 + 1 + 1 + 1, 0, none⟩) 1 1, .slice (some ⟨w.heap.size + 1 + 1 + 1 + 1 + 1 + 1 + 1 + 1, 0, none⟩) 1 1, .slice (some ⟨w.heap.size + 1 + 1 + 1 + 1 + 1 + 1 + 1 + 1 + 1 + 1 + 1, 0, none⟩) 2 2, .int .i64 0, .int .i64 0] := gets 12 _ _ (by omega) rfl
  have hres : Has W (w.heap.size + 1) 33 #[.slice none 0 0, .slice none 0 0] := gets 1 _ _ (by omega) rfl
  have HP := Lib.hid (placed_any W (w.heap.size + 1 + 1 + 1 + 1 + 1 + 1 + 1 + 1 + 1 + 1 + 1 + 1) (some ⟨w.heap.size + 1 + 1 + 1 + 1, 0, none⟩) (some ⟨w.heap.size + 1 + 1 + 1 + 1 + 1, 0, none⟩) (some ⟨w.heap.size + 1 + 1 + 1 + 1 + 1 + 1 + 1 + 1, 0, none⟩) 1 1 1 (w.heap.size + 1 + 1 + 1 + 1 + 1 + 1 + 1 + 1 + 1 + 1 + 1) 2 1 bF [⟨bC, 1, ⟨#[]⟩, none, 0, 0⟩] [⟨bX, 2, ⟨#[]⟩, none, 0, 0⟩] [⟨bW, 2, ⟨#[]⟩, some ⟨w.heap.size + 1 + 1 + 1 + 1 + 1 + 1 + 1, 0, none⟩, 1, 1⟩] [⟨some ⟨w.heap.size + 1 + 1 + 1 + 1 + 1 + 1 + 1 + 1 + 1, 0, none⟩, 1, 1, one⟩, ⟨some ⟨w.heap.size + 1 + 1 + 1 + 1 + 1 + 1 + 1 + 1 + 1 + 1, 0, none⟩, 1, 1, x⟩] (fun b => b < w.heap.size) hnode (VarsIn.one hin) (VarsIn.one hout) (VarsIn.one hvar) (fun b hb => by cases hb; exact hin.lt) (fun b hb => by cases hb; exact hout.lt) (fun b hb => by cases hb; exact hvar.lt) (by decide) (by decide) (by simp)
    (fun i hi => by
      match i, hi with
      | 0, _ =>
        refine ⟨[.int .u8 1, .int .u8 0, .int .i32 0, .string ⟨#[]⟩, .slice none 0 0, .slice none 0 0, .int .i64 0, .int .i64 0], ?_, fun k v hk => ?_⟩
        · show LaidP W _ one _
          unfold LaidP
          exact ⟨by decide, by decide, by decide, by decide, by decide, none, 0, none, 0, Nat.le_refl _, Nat.le_refl _, rfl, fun i s hi => by simp at hi, by unfold LaidPK; trivial⟩
        · have hk16 : k < 16 := by have := (List.getElem?_eq_some_iff.1 hk).1; simpa using this
          have h2 := heq.cell (0 * 16 + k)
          rw [h2, Nat.zero_mul, Nat.zero_add, ← hk]
          rcases (show k = 0 ∨ k = 1 ∨ k = 2 ∨ k = 3 ∨ k = 4 ∨ k = 5 ∨ k = 6 ∨ k = 7 ∨ k = 8 ∨ k = 9 ∨ k = 10 ∨ k = 11 ∨ k = 12 ∨ k = 13 ∨ k = 14 ∨ k = 15 by omega) with rfl | rfl | rfl | rfl | rfl | rfl | rfl | rfl | rfl | rfl | rfl | rfl | rfl | rfl | rfl | rfl <;> rfl
      | 1, _ =>
        refine ⟨[.int .u8 ek, .int .u8 eo, .int .i32 en, .string enm, .slice ena enl enc, .slice eka ekl ekc, .int .i64 el, .int .i64 ecl], LaidP.keep (fun b hb _ => hb) (fun b o v _ hv => (hbw.cell (p := ⟨b, o, none⟩) (World.block_lt_of_cell? w _ hv)).trans hv) _ _ hx, fun k v hk => ?_⟩
        have hk16 : k < 16 := by have := (List.getElem?_eq_some_iff.1 hk).1; simpa using this
        have h2 := heq.cell (1 * 16 + k)
        rw [h2, ← hk]
        rcases (show k = 0 ∨ k = 1 ∨ k = 2 ∨ k = 3 ∨ k = 4 ∨ k = 5 ∨ k = 6 ∨ k = 7 ∨ k = 8 ∨ k = 9 ∨ k = 10 ∨ k = 11 ∨ k = 12 ∨ k = 13 ∨ k = 14 ∨ k = 15 by omega) with rfl | rfl | rfl | rfl | rfl | rfl | rfl | rfl | rfl | rfl | rfl | rfl | rfl | rfl | rfl | rfl <;> rfl) (by simp) (by omega))
  have HF : Hid (∀ w', Below W.heap.size W w' → w'.cell? ⟨w.heap.size + 1 + 1 + 1 + 1 + 1 + 1 + 1, 0, none⟩ = some (.string bT) ∧ w'.cell? ⟨w.heap.size + 1 + 1 + 1 + 1 + 1 + 1 + 1, 1, none⟩ = some (.string bC) ∧ w'.cell? ⟨w.heap.size + 1 + 1 + 1 + 1 + 1 + 1 + 1 + 1 + 1, 0, none⟩ = some (.string bW) ∧ w'.cell? ⟨w.heap.size + 1 + 1 + 1 + 1 + 1 + 1 + 1 + 1 + 1 + 1, 0, none⟩ = some (.string bX) ∧ Has w' (w.heap.size + 1) 33 #[.slice none 0 0, .slice none 0 0]) := Lib.hid (fun w' hb =>
    ⟨(hon.below hb hon.lt).cell 0, (hon.below hb hon.lt).cell 1, (hsw1.below hb hsw1.lt).cell 0, (hsx1.below hb hsx1.lt).cell 0, hres.below hb hres.lt⟩)
  have HBW := Lib.hid hbw
  have HSW := Lib.hid hsw
  have HW := Lib.hid hW
  clear hW hA hbw hsw gets hin hout hon hvar hsw1 hsx1 heq hnode hres hx
  unfold ProgPost
  go_enter Tryd.func6, Tryd.ntmps6
  go_wp2_with fail
  rw [← HW.out]
  refine HP.out.mono ?_
  rintro e w1 ⟨gn, cn, rfl, hnodeG, hb1⟩
  have hnode := NodeG.one ⟨rfl, rfl, rfl⟩ ⟨rfl, rfl, rfl⟩ hnodeG
  clear hnodeG
  obtain ⟨f1, f2, f3, f4, f5⟩ := HF.out w1 hb1
  have r0 := f5.cell 0
  have r1 := f5.cell 1
  have rf := fun i => f5.free i
  simp only [List.getElem?_toArray, List.getElem?_cons_zero, List.getElem?_cons_succ] at r0 r1
  have HSELF := Lib.hid (self2 f5 (.slice none 0 0) (.slice (some ⟨gn, 0, none⟩) 1 cn))
  have HBUT := Lib.hid (but2 w1 (w.heap.size + 1) (.slice none 0 0) (.slice (some ⟨gn, 0, none⟩) 1 cn))
  have HNODE := Lib.hid hnode
  have HB1 := Lib.hid hb1
  have HFF := Lib.hid (And.intro f1 (And.intro f2 (And.intro f3 f4)))
  clear hnode hb1 f1 f2 f3 f4 f5 HP HF HW
  go_wp2_with fail
  (try simp only [Exit.inBlock, Exit.then])
  have x0 := HSELF.out.cell 0
  have x1 := HSELF.out.cell 1
  simp only [List.getElem?_toArray, List.getElem?_cons_zero, List.getElem?_cons_succ] at x0 x1
  refine bodyPost_ret (v := .agg #[.slice none 0 0, .slice (some ⟨gn, 0, none⟩) 1 cn]) (by simp [results, Tryd.results6, go_sem, x0, x1]) rfl ?_
  have hsw := HSW.out
  have hkeep : ∀ b o v, (b < w.heap.size ∨ W.heap.size ≤ b) → w1.cell? ⟨b, o, none⟩ = some v → _ := fun b o v hb hv => HBUT.out.cell (b := b) (o := o) (v := v) (by omega) hv
  obtain ⟨f1, f2, f3, f4⟩ := HFF.out
  refine ⟨gn, cn, rfl, ⟨w.heap.size + 1 + 1 + 1 + 1 + 1 + 1 + 1, w.heap.size + 1 + 1 + 1 + 1 + 1 + 1 + 1 + 1 + 1, w.heap.size + 1 + 1 + 1 + 1 + 1 + 1 + 1 + 1 + 1 + 1, HNODE.out.keep (fun _ _ => trivial) (fun b o v hb hv => hkeep b o v hb hv), HBUT.out.cell (by omega) f1, HBUT.out.cell (by omega) f2, HBUT.out.cell (by omega) f3, HBUT.out.cell (by omega) f4⟩, ?_⟩
  exact HBUT.out.below (HBW.out.trans (HB1.out.mono HBW.out.size)) (by omega)
end Go.Proofs.YtnejkgkikpgajaaDoor.ck
