/-
  Plain facts on what the operators answer: ranges; quotient and remainder; sums and products in whichever order.
-/
import Derived.Test.YtdbieelknploaaaRefs
namespace Go.Proofs.Ytdbieelknploaaa.bins
open Go.RowKit
set_option linter.unusedVariables false

theorem wrap32_bd (n : Int) : -2147483648 ≤ wrap32 n ∧ wrap32 n ≤ 2147483647 := by unfold wrap32; omega
theorem wrap32_off (n : Int) : ∃ k : Int, wrap32 n = n + 4294967296 * k := ⟨- ((n + 2147483648) / 4294967296), by unfold wrap32; omega⟩
theorem wrap32_id (n : Int) (h1 : -2147483648 ≤ n) (h2 : n ≤ 2147483647) : wrap32 n = n := by unfold wrap32; omega
theorem wrap32_add (x y : Int) : wrap32 (wrap32 x + y) = wrap32 (x + y) := by
  obtain ⟨k, hk⟩ := wrap32_off x
  rw [hk, show x + 4294967296 * k + y = (x + y) + 4294967296 * k from by omega, wrap32_shift]
theorem wrap32_add' (x y : Int) : wrap32 (x + wrap32 y) = wrap32 (x + y) := by rw [Int.add_comm, wrap32_add, Int.add_comm]
theorem wrap32_mul (x y : Int) : wrap32 (wrap32 x * y) = wrap32 (x * y) := by
  obtain ⟨k, hk⟩ := wrap32_off x
  rw [hk, Int.add_mul, Int.mul_assoc, wrap32_shift]
theorem wrap32_sub (x y : Int) : wrap32 (wrap32 x - y) = wrap32 (x - y) := by
  obtain ⟨k, hk⟩ := wrap32_off x
  rw [hk, show x + 4294967296 * k - y = (x - y) + 4294967296 * k from by omega, wrap32_shift]

theorem bn3 (a b : Int) : Bn 3 a b = wrap32 (a + b) := rfl
theorem bn4 (a b : Int) : Bn 4 a b = wrap32 (a - b) := rfl
theorem bn5 (a b : Int) : Bn 5 a b = wrap32 (a * b) := rfl
theorem bn6 (a b : Int) (h : b ≠ 0) : Bn 6 a b = wrap32 (a.tdiv b) := by simp [Bn, h]
theorem bn7 (a b : Int) (h : b ≠ 0) : Bn 7 a b = a.tmod b := by simp [Bn, h]
theorem un2 (a : Int) : Un 2 a = wrap32 (-a) := rfl

/-- quotient, remainder, and what they make again -/
theorem parts (a b : Int) (hb : b ≠ 0) (h1 : -2147483648 ≤ a) (h2 : a ≤ 2147483647) (h3 : -2147483648 ≤ b) (h4 : b ≤ 2147483647) :
    ∃ q m p : Int, Bn 6 a b = q ∧ Bn 7 a b = m ∧ Bn 5 q b = p ∧ Bn 3 p m = a ∧ (-2147483648 ≤ q ∧ q ≤ 2147483647) ∧ (-2147483648 ≤ p ∧ p ≤ 2147483647) ∧ m.natAbs < b.natAbs ∧ (0 ≤ a → 0 ≤ m) ∧ (a < 0 → m ≤ 0) := by
  refine ⟨_, _, _, rfl, rfl, rfl, ?_, ?_, ?_, ?_, ?_, ?_⟩
  · rw [bn6 a b hb, bn7 a b hb, bn5, bn3, wrap32_mul, wrap32_add]
    have h := Int.mul_tdiv_add_tmod a b
    rw [Int.mul_comm, h]
    exact wrap32_id a h1 h2
  · rw [bn6 a b hb]; exact wrap32_bd _
  · rw [bn5]; exact wrap32_bd _
  · rw [bn7 a b hb, Int.natAbs_tmod]; exact Nat.mod_lt _ (by omega)
  · intro h; rw [bn7 a b hb]; exact Int.tmod_nonneg b h
  · intro h
    rw [bn7 a b hb]
    have := Int.tmod_nonneg b (a := -a) (by omega)
    rw [Int.neg_tmod] at this
    omega

theorem ring_add (a b c : Int) : Bn 3 (Bn 3 a b) c = Bn 3 a (Bn 3 c b) := by
  simp only [bn3, wrap32_add, wrap32_add']
  congr 1; omega
theorem ring_mul (a b c : Int) : Bn 5 (Bn 3 a b) c = Bn 3 (Bn 5 c a) (Bn 5 c b) := by
  simp only [bn3, bn5, wrap32_add, wrap32_add', wrap32_mul]
  rw [Int.add_mul, Int.mul_comm c a, Int.mul_comm c b]
theorem ring_sub (a b : Int) (h1 : -2147483648 ≤ a) (h2 : a ≤ 2147483647) : Bn 4 (Bn 3 a b) b = a := by
  simp only [bn3, bn4, wrap32_sub]
  rw [show a + b - b = a from by omega]; exact wrap32_id a h1 h2
theorem ring_neg (a : Int) : Bn 3 a (Un 2 a) = 0 := by
  simp only [bn3, un2, wrap32_add']
  rw [show a + -a = 0 from by omega]; exact wrap32_id 0 (by omega) (by omega)
theorem bn3_bd (a b : Int) : -2147483648 ≤ Bn 3 a b ∧ Bn 3 a b ≤ 2147483647 := wrap32_bd _
theorem bn4_bd (a b : Int) : -2147483648 ≤ Bn 4 a b ∧ Bn 4 a b ≤ 2147483647 := wrap32_bd _
theorem bn5_bd (a b : Int) : -2147483648 ≤ Bn 5 a b ∧ Bn 5 a b ≤ 2147483647 := wrap32_bd _
theorem un2_bd (a : Int) : -2147483648 ≤ Un 2 a ∧ Un 2 a ≤ 2147483647 := wrap32_bd _
end Go.Proofs.Ytdbieelknploaaa.bins
