/-
  The law's block: its rows of variables and of definitions.
-/
import Derived.Test.YtnejkgkikpgajaaDoorInCh1
import Derived.Laws.IdiomStrings
import Derived.Deep.RegionWith
namespace Go.Proofs.YtnejkgkikpgajaaDoor.ini
open Go.ChangeShapes Go.WideShapes Go.ChangeAt Go.RowKit
open tr ck
set_option linter.unusedVariables false
set_option linter.unusedSimpArgs false

theorem conv1 (w : World) (g c : Nat) (x : Int) (hx : 0 ≤ x) (hx2 : x ≤ 255) (h : w.cell? ⟨g, 0, none⟩ = some (.int .u8 x)) :
    (convert 41 9 (.slice (some ⟨g, 0, none⟩) 1 c)).run Tryd.prog w = .ok (.string ⟨#[UInt8.ofNat x.toNat]⟩) w := by
  have := run_convert_bytes_back (P := Tryd.prog) w 41 9 5 ⟨g, 0, none⟩ c [UInt8.ofNat x.toNat] (by kernel_rfl) (by kernel_rfl) (by kernel_rfl) (fun j hj => by
    obtain rfl : j = 0 := by simpa using hj
    have e : ((UInt8.ofNat x.toNat).toNat : Int) = x := by rw [UInt8.toNat_ofNat']; omega
    simp only [List.getElem_cons_zero, e]
    exact h)
  exact this

def rowV (j : Nat) : List Value := (List.range j).flatMap (fun i => (varZ (nmv i) 2 ⟨#[]⟩ none 0 0).toList)
theorem rowV_succ (j : Nat) : rowV (j + 1) = rowV j ++ (varZ (nmv j) 2 ⟨#[]⟩ none 0 0).toList := by
  unfold rowV
  rw [List.range_succ, List.flatMap_append]
  simp
theorem rowV_len (j : Nat) : (rowV j).length = j * 15 := by
  induction j with
  | zero => rfl
  | succ j ih => rw [rowV_succ, List.length_append, ih]; simp; omega
theorem rowV_name (j i : Nat) (h : i < j) : (rowV j)[i * 15]? = some (.string (nmv i)) := by
  induction j with
  | zero => omega
  | succ j ih =>
    rw [rowV_succ]
    by_cases e : i = j
    · subst e
      rw [List.getElem?_append_right (by rw [rowV_len]; omega), rowV_len]
      simp
    · rw [List.getElem?_append_left (by rw [rowV_len]; omega)]
      exact ih (by omega)
/-- behind j variables -/
structure VI (w : World) (va : Option Addr) (vc j : Nat) (W : World) : Prop where
  below : Below w.heap.size w W
  res : Has W w.heap.size 45 #[.slice none 0 0, .slice none 0 0]
  box : Has W (w.heap.size + 1) 45 #[.slice va j vc, .slice none 0 0]
  row : W.ownsRow (w.heap.size + 2) 54 15 (.slice va j vc) j (rowV j)
theorem VI.step {w W w5 : World} {va : Option Addr} {vc j g5 cap5 : Nat} {o1 o2 : Obj} (h : VI w va vc j W)
    (h1 : w5.ownsRow (w.heap.size + 2) 54 15 (.slice (some ⟨g5, 0, none⟩) (j + 1) cap5) (j + 1) (rowV j ++ (varZ (nmv j) 2 ⟨#[]⟩ none 0 0).toList))
    (h2 : ((W.alloc o1).alloc o2).grownBy w5 (Value.slice va j vc).ownBlock) :
    Has w5 (w.heap.size + 1) 45 #[.slice va j vc, .slice none 0 0] ∧ VI w (some ⟨g5, 0, none⟩) cap5 (j + 1) (w5.setCell ⟨w.heap.size + 1, 0, none⟩ (.slice (some ⟨g5, 0, none⟩) (j + 1) cap5)) := by
  have hs := h.below.size
  have hbx := ((h.box.alloc o1).alloc o2).grown h2 (fun e => own_ge h.row (b := w.heap.size + 1) (by omega) e.symm)
  have hrs := ((h.res.alloc o1).alloc o2).grown h2 (fun e => own_ge h.row (b := w.heap.size) (by omega) e.symm)
  have hb5 : Below w.heap.size w w5 := ((h.below.alloc hs _).alloc (by simp only [World.size_alloc]; omega) _).grown h2 (by simp only [World.size_alloc]; omega) (fun g e => by have := (h.row.lt g e).1; omega)
  have hg5 := (h1.lt g5 (by simp [Value.ownBlock])).1
  refine ⟨hbx, hb5.setCell (by simp) _, hrs.put_far 0 _ (by omega), ?_, ?_⟩
  · have := hbx.put 0 (.slice (some ⟨g5, 0, none⟩) (j + 1) cap5)
    simpa using this
  · rw [rowV_succ]
    exact ((But.refl w5 (w.heap.size + 1)).put 0 _).row h1 (by simp [Value.ownBlock]; omega)
theorem nmv_sum (j : Nat) : (⟨#[118]⟩ : ByteArray) ++ ⟨#[UInt8.ofNat ((97 + (j : Int)).toNat)]⟩ = nmv j := by
  have e : (97 + (j : Int)).toNat = 97 + j := by omega
  rw [e]; rfl
/-- the links: bytes that lie -/
def Lks (w : World) (la : Option Addr) (L : List Nat) : Prop := ∀ i (hi : i < L.length), ∃ g o, la = some ⟨g, o, none⟩ ∧ w.cell? ⟨g, o + i, none⟩ = some (.int .u8 L[i]) ∧ L[i] ≤ 255
end Go.Proofs.YtnejkgkikpgajaaDoor.ini
