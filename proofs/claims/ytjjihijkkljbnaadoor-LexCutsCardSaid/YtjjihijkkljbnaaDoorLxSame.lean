/-
  Same of package lex: its walk, where all but the places is alike.
-/
import Derived.Test.YtjjihijkkljbnaaDoorLxAwake
import Derived.Deep.RegionHeld3
namespace Go.Proofs.YtjjihijkkljbnaaDoor.lx
open Go.ChangeShapes Go.WideShapes Go.ChangeAt Go.RowKit
set_option linter.unusedVariables false

theorem same_any (k n a b c d : Int) (t : ByteArray) (w : World) :
    Calls Tryd.prog 26 #[.agg #[.int .u8 k, .string t, .int .i32 n, .int .i64 a, .int .i64 b], .agg #[.int .u8 k, .string t, .int .i32 n, .int .i64 c, .int .i64 d]] w fun e w' => e = .returned (.bool true) ∧ Below w.heap.size w w' := by
  go_enter Tryd.func26, Tryd.ntmps26
  go_wp2
  go_ret
  exact ⟨rfl, ((Below.refl _ _).alloc (Nat.le_refl _) _).alloc (by simp) _⟩
end Go.Proofs.YtjjihijkkljbnaaDoor.lx
