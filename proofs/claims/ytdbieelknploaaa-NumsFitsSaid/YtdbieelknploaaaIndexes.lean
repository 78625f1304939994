/-
  A constructor's place among others (the first that is it, or -1), and which numbers are values of a type: the walks.
-/
import Derived.Test.YtdbieelknploaaaArith
import Derived.WalkKit
import Derived.ProofKit
import Derived.OpenShut
import Derived.LoopTactic
import Derived.Lib.Hide
namespace Go.Proofs.Ytdbieelknploaaa.bins
open Go.ChangeShapes Go.WideShapes Go.ChangeAt Go.RowKit
set_option linter.unusedVariables false

/-- what a walk is told of a slice of strings that came in: its cells -/
def IsStrs (w : World) (a : Option Addr) (len cap : Nat) (ss : List ByteArray) : Prop :=
  len ≤ cap ∧ cap ≤ maxLen ∧ ss.length = cap ∧ ∀ i, i < cap → ∃ b off, a = some ⟨b, off, none⟩ ∧ w.cell? ⟨b, off + i, none⟩ = some (.string (ss.getD i ByteArray.empty))

/-- r is the first place at which p holds, from place k on, below n; or -1, if there is none -/
def IsFirst (p : Nat → Bool) (k n : Nat) (r : Int) : Prop :=
  (r = -1 ∧ ∀ i, k ≤ i → i < n → p i = false) ∨ (∃ j : Nat, r = j ∧ k ≤ j ∧ j < n ∧ p j = true ∧ ∀ i, k ≤ i → i < j → p i = false)

theorem IsFirst.same {p : Nat → Bool} {k n : Nat} {r s : Int} (h : IsFirst p k n r) (g : IsFirst p k n s) : r = s := by
  rcases h with ⟨rfl, h⟩ | ⟨j, rfl, h1, h2, h3, h4⟩
  · rcases g with ⟨rfl, g⟩ | ⟨i, rfl, g1, g2, g3, g4⟩
    · rfl
    · rw [h i g1 g2] at g3; cases g3
  · rcases g with ⟨rfl, g⟩ | ⟨i, rfl, g1, g2, g3, g4⟩
    · rw [g j h1 h2] at h3; cases h3
    · have : j = i := by
        rcases Nat.lt_trichotomy j i with h | h | h
        · rw [g4 j h1 h] at h3; cases h3
        · exact h
        · rw [h4 i g1 h] at g3; cases g3
      rw [this]

def At (ss : List ByteArray) (c : ByteArray) (i : Nat) : Bool := c.toList == (ss[i]?.getD ByteArray.empty).toList

theorem sindex_any (a : Option Addr) (len cap : Nat) (ss : List ByteArray) (c : ByteArray) (w : World) (h : IsStrs w a len cap ss) :
    Calls Try.prog 21 #[.slice a len cap, .string c] w fun e w' => (∃ r : Int, IsFirst (At ss c) 0 len r ∧ e = .returned (.int .i64 r)) ∧ w = w' := by
  obtain ⟨hl, hm, hz, hcell⟩ := h
  unfold maxLen at hm
  have HC := Lib.hid hcell
  clear hcell
  go_enter Try.func21, Try.ntmps21
  go_wp2
  go_loop [8] (fun i => ∃ k : Nat, k ≤ len ∧ i = .int .i64 k ∧ Hid (∀ j, j < k → At ss c j = false)) (fun i => len - (intOf i).toNat)
  case atStart => exact ⟨0, by omega, rfl, Lib.hid (fun j h => by omega)⟩
  case round =>
    obtain ⟨k, hk, rfl, HN⟩ := hrel
    by_cases hlt : k < len
    · obtain ⟨b, off, rfl, hc⟩ := HC.out k (by omega)
      cases hp : At ss c k
      · have hq : (c.toList == (ss[k]?.getD ByteArray.empty).toList) = false := hp
        have HP := Lib.hid hp
        clear hp
        go_wp2
        go_round
        case rel => exact ⟨k + 1, by omega, by go_num, Lib.hid (fun j hj => by
          rcases Nat.lt_or_eq_of_le (Nat.le_of_lt_succ hj) with h | h
          · exact HN.out j h
          · rw [h]; exact HP.out)⟩
        case measure => simp [intOf]; omega
      · have hq : (c.toList == (ss[k]?.getD ByteArray.empty).toList) = true := hp
        have HP := Lib.hid hp
        clear hp
        go_wp2
        go_ret
        exact ⟨⟨k, .inr ⟨k, rfl, by omega, hlt, HP.out, fun i _ h => HN.out i h⟩, rfl⟩, rfl⟩
    · have : k = len := by omega
      subst this
      go_wp2
      go_ret
      exact ⟨⟨-1, .inl ⟨rfl, fun i _ h => HN.out i h⟩, rfl⟩, rfl⟩

theorem index_any (a : Option Addr) (len cap : Nat) (ss : List ByteArray) (c : ByteArray) (w : World) (h : IsStrs w a len cap ss) (hlen : len ≤ 100) :
    Calls Try.prog 15 #[.slice a len cap, .string c] w fun e w' => (∃ r : Int, IsFirst (At ss c) 0 len r ∧ e = .returned (.int .i32 r)) ∧ w = w' := by
  have H := Lib.hid h
  clear h
  go_enter Try.func15, Try.ntmps15
  go_wp2_with fail
  refine (sindex_any a len cap ss c _ H.out).mono ?_
  rintro e w' ⟨⟨r, hr, rfl⟩, rfl⟩
  have hb : -1 ≤ r ∧ r ≤ 100 := by
    rcases hr with ⟨rfl, _⟩ | ⟨j, rfl, _, h2, _, _⟩ <;> omega
  obtain ⟨hb1, hb2⟩ := hb
  have HR := Lib.hid hr
  clear hr
  go_wp2
  go_ret
  exact ⟨⟨r, HR.out, rfl⟩, rfl⟩

/-- which numbers are values of a type of kind k, with so many constructors -/
def fitB (k c n : Int) : Bool := if k = 2 then true else if k = 1 then (if n = 0 then true else if n = 1 then true else false) else if k = 3 then (if n < 0 then false else if n < c then true else false) else false

theorem fits_any (k c n : Int) (nm : ByteArray) (w : World) (h1 : 0 ≤ k) (h2 : k ≤ 4) (h3 : 0 ≤ c) (h4 : c ≤ 100) (h5 : -2147483648 ≤ n) (h6 : n ≤ 2147483647) :
    Calls Try.prog 16 #[.agg #[.int .u8 k, .string nm], .int .i64 c, .int .i32 n] w fun e w' => e = .returned (.bool (fitB k c n)) ∧ w.alloc (.cells #[.int .u8 k, .string nm] 32) = w' := by
  have hk : k = 0 ∨ k = 1 ∨ k = 2 ∨ k = 3 ∨ k = 4 := by omega
  by_cases n0 : n = 0
  · subst n0
    by_cases c0 : 0 < c
    all_goals
      rcases hk with rfl | rfl | rfl | rfl | rfl
      all_goals
        go_enter Try.func16, Try.ntmps16
        go_wp2
        go_ret
        exact ⟨by simp [fitB, c0], rfl⟩
  · by_cases n1 : n = 1
    · subst n1
      by_cases c0 : 1 < c
      all_goals
        rcases hk with rfl | rfl | rfl | rfl | rfl
        all_goals
          go_enter Try.func16, Try.ntmps16
          go_wp2
          go_ret
          exact ⟨by simp [fitB, c0], rfl⟩
    · by_cases n2 : n < 0
      · rcases hk with rfl | rfl | rfl | rfl | rfl
        all_goals
          go_enter Try.func16, Try.ntmps16
          go_wp2
          go_ret
          exact ⟨by simp [fitB, n0, n1, n2], rfl⟩
      · by_cases c0 : n < c
        all_goals
          rcases hk with rfl | rfl | rfl | rfl | rfl
          all_goals
            go_enter Try.func16, Try.ntmps16
            go_wp2
            go_ret
            exact ⟨by simp [fitB, n0, n1, n2, c0], rfl⟩
end Go.Proofs.Ytdbieelknploaaa.bins
