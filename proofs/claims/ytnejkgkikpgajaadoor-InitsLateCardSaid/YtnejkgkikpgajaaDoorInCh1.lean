/-
  The law's block: its variables.
-/
import Derived.Test.YtnejkgkikpgajaaDoorInRLate
import Derived.Test.YtnejkgkikpgajaaDoorPlVars
namespace Go.Proofs.YtnejkgkikpgajaaDoor.ini
open Go.ChangeShapes Go.WideShapes Go.ChangeAt Go.RowKit
open tr ck
set_option linter.unusedVariables false
set_option linter.unusedSimpArgs false

/-- the names of the law's variables -/
def nmv (i : Nat) : ByteArray := ⟨#[118, UInt8.ofNat (97 + i)]⟩
def nms (n : Nat) : List ByteArray := (List.range n).map nmv
theorem nms_len (n : Nat) : (nms n).length = n := by simp [nms]
theorem nms_get (n i : Nat) (h : i < n) : (nms n)[i]? = some (nmv i) := by simp [nms, h]
theorem nmv_inj {i j : Nat} (hi : i < 12) (hj : j < 12) (h : nmv i = nmv j) : i = j := by
  unfold nmv at h
  have h1 := congrArg ByteArray.data h
  simp only [Array.mk.injEq, List.cons.injEq, and_true, true_and] at h1
  have h2 := congrArg UInt8.toNat h1
  simp at h2
  omega
theorem nms_nodup (n : Nat) (h : n ≤ 12) : (nms n).Nodup := by
  unfold nms
  rw [List.nodup_iff_pairwise_ne, List.pairwise_map]
  refine List.Pairwise.imp_of_mem ?_ (List.nodup_iff_pairwise_ne.1 List.nodup_range)
  intro a b ha hb hab e
  rw [List.mem_range] at ha hb
  exact hab (nmv_inj (by omega) (by omega) e)
end Go.Proofs.YtnejkgkikpgajaaDoor.ini
