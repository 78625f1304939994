/-
  newSurvey's loop: its beginning.
-/
import Derived.Test.YtnejkgkikpgajaaDoorFtNS
namespace Go.Proofs.YtnejkgkikpgajaaDoor.ft
open Go.ChangeShapes Go.WideShapes Go.ChangeAt Go.RowKit
open Go.Proofs.YtnejkgkikpgajaaDoor.lx (Has)
set_option linter.unusedVariables false

abbrev w6 (w : World) (A : Value) : World :=
  (((((w.alloc (.map #[] 0)).alloc (.cells #[.map (some w.heap.size), .int .i64 0, .slice none 0 0, .bool false] 124)).alloc (.cells #[.pointer (some ⟨w.heap.size + 1, 0, none⟩)] 119)).alloc
    (.cells #[A, .bool false] 148)).alloc (.cells #[.slice (some ⟨w.heap.size + 1 + 1 + 1, 0, none⟩) 0 1] 149)).alloc (.cells #[A, .bool false] 148)

theorem ns_start (w : World) (A : Value) :
    NS w (w.heap.size + 1) w.heap.size (w.heap.size + 1 + 1) (w.heap.size + 1 + 1 + 1 + 1) (.slice none 0 0) 0 [] (.slice (some ⟨w.heap.size + 1 + 1 + 1, 0, none⟩) 0 1) 0 [] #[] 0 (w6 w A) ∧ Has (w6 w A) (w.heap.size + 1 + 1 + 1 + 1 + 1) 148 #[A, .bool false] := by
  have n1 := Has.new (w.alloc (.map #[] 0)) 124 #[.map (some w.heap.size), .int .i64 0, .slice none 0 0, .bool false]
  have n2 := Has.new ((w.alloc (.map #[] 0)).alloc (.cells #[.map (some w.heap.size), .int .i64 0, .slice none 0 0, .bool false] 124)) 119 #[.pointer (some ⟨w.heap.size + 1, 0, none⟩)]
  have n3 := Has.new (((w.alloc (.map #[] 0)).alloc (.cells #[.map (some w.heap.size), .int .i64 0, .slice none 0 0, .bool false] 124)).alloc (.cells #[.pointer (some ⟨w.heap.size + 1, 0, none⟩)] 119)) 148 #[A, .bool false]
  have n4 := Has.new ((((w.alloc (.map #[] 0)).alloc (.cells #[.map (some w.heap.size), .int .i64 0, .slice none 0 0, .bool false] 124)).alloc (.cells #[.pointer (some ⟨w.heap.size + 1, 0, none⟩)] 119)).alloc
    (.cells #[A, .bool false] 148)) 149 #[.slice (some ⟨w.heap.size + 1 + 1 + 1, 0, none⟩) 0 1]
  have n5 := Has.new (((((w.alloc (.map #[] 0)).alloc (.cells #[.map (some w.heap.size), .int .i64 0, .slice none 0 0, .bool false] 124)).alloc (.cells #[.pointer (some ⟨w.heap.size + 1, 0, none⟩)] 119)).alloc
    (.cells #[A, .bool false] 148)).alloc (.cells #[.slice (some ⟨w.heap.size + 1 + 1 + 1, 0, none⟩) 0 1] 149)) 148 #[A, .bool false]
  have nm : (w.alloc (.map #[] 0)).heap[w.heap.size]? = some (.map #[] 0) := heap_alloc_new w _
  simp only [World.size_alloc] at n1 n2 n3 n4 n5
  have hrow : Has (w6 w A) (w.heap.size + 1 + 1 + 1) 148 #[A, .bool false] := (n3.alloc _).alloc _
  have hs : ∀ o, w.heap.size < (w.alloc o).heap.size := by intro o; simp
  refine ⟨⟨((n2.alloc _).alloc _).alloc _, n4.alloc _, (((n1.alloc _).alloc _).alloc _).alloc _, ?_, ⟨rfl, .inr ⟨_, 1, #[A, .bool false], rfl, by omega, hrow, by omega, by unfold maxLen; omega, rfl, rfl⟩⟩, World.ownsRow_nil _ _ _ _, ?_, Nat.le_refl _, by omega, by omega⟩, n5⟩
  · unfold w6
    rw [Lib.alloc_old _ _ _ (by simp only [World.size_alloc]; omega), Lib.alloc_old _ _ _ (by simp only [World.size_alloc]; omega), Lib.alloc_old _ _ _ (by simp only [World.size_alloc]; omega), Lib.alloc_old _ _ _ (by simp only [World.size_alloc]; omega), Lib.alloc_old _ _ _ (by simp only [World.size_alloc]; omega)]
    exact nm
  · exact ((((((Below.refl _ w).alloc (Nat.le_refl _) _).alloc (by simp) _).alloc (by simp; omega) _).alloc (by simp; omega) _).alloc (by simp; omega) _).alloc (by simp; omega) _
end Go.Proofs.YtnejkgkikpgajaaDoor.ft
