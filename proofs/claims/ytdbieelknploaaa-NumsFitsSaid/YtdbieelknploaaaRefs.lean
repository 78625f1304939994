/-
  The document's own Bin, Un (with wider numbers) answer what nums.Bin, nums.Un answer; the walk of awake.
-/
import Derived.Test.YtdbieelknploaaaBins
import Derived.WalkKit
import Derived.ProofKit
import Derived.OpenShut
import Derived.LoopTactic
import Derived.Lib.Hide
namespace Go.Proofs.Ytdbieelknploaaa.bins
open Go.ChangeShapes Go.WideShapes Go.ChangeAt Go.RowKit
set_option linter.unusedVariables false

theorem wrap32_shift (n k : Int) : wrap32 (n + 4294967296 * k) = wrap32 n := by unfold wrap32; omega

theorem wrap_any (n : Int) (w : World) (h1 : -4611686018427387904 ≤ n) (h2 : n ≤ 4611686018427387904) :
    Calls Try.prog 19 #[.int .i64 n] w fun e w' => e = .returned (.int .i32 (wrap32 n)) ∧ w = w' := by
  go_enter Try.func19, Try.ntmps19
  go_wp2
  go_loop [0] (fun v => ∃ m k : Int, v = .int .i64 m ∧ m = n + 4294967296 * k ∧ -4611686018427387904 ≤ m ∧ m ≤ 4611686018427387904) (fun v => (intOf v).toNat)
  case atStart => exact ⟨n, 0, rfl, by omega, h1, h2⟩
  case round =>
    obtain ⟨m, k, rfl, hk, g1, g2⟩ := hrel
    have HK := Lib.hid hk
    clear hk
    by_cases c : 2147483648 ≤ m
    · go_wp2
      go_round
      case rel => exact ⟨_, k - ((m - 2147483648) / 4294967296 + 1), rfl, by have := HK.out; omega, by omega, by omega⟩
      case measure => simp [intOf]; omega
    · go_wp2
      go_loop [0] (fun v => ∃ m k : Int, v = .int .i64 m ∧ m = n + 4294967296 * k ∧ -4611686018427387904 ≤ m ∧ m ≤ 4611686018427387904) (fun v => (- intOf v).toNat)
      case atStart => exact ⟨m, k, rfl, HK.out, g1, g2⟩
      case round =>
        clear HK
        obtain ⟨m, k, rfl, hk, g1, g2⟩ := hrel
        have HK := Lib.hid hk
        clear hk
        by_cases c : m < -2147483648
        · go_wp2
          go_round
          case rel => exact ⟨_, k + ((-2147483649 - m) / 4294967296 + 1), rfl, by have := HK.out; omega, by omega, by omega⟩
          case measure => simp [intOf]; omega
        · go_wp2
          go_ret
          exact ⟨ret32 (by rw [HK.out]; exact wrap32_shift _ _), rfl⟩

/- -/
theorem tdiv_bd (a b : Int) (h1 : -2147483648 ≤ a) (h2 : a ≤ 2147483647) : -2147483648 ≤ a.tdiv b ∧ a.tdiv b ≤ 2147483648 := by
  have h := Int.natAbs_tdiv a b
  have h3 : a.natAbs.div b.natAbs ≤ a.natAbs := Nat.div_le_self _ _
  omega
theorem tmod_bd (a b : Int) (h1 : -2147483648 ≤ a) (h2 : a ≤ 2147483647) (hb : b ≠ 0) (h3 : -2147483648 ≤ b) (h4 : b ≤ 2147483647) : -2147483648 ≤ a.tmod b ∧ a.tmod b ≤ 2147483647 := by
  have h := Int.natAbs_tmod a b
  have h5 : a.natAbs % b.natAbs < b.natAbs := Nat.mod_lt _ (by omega)
  omega
theorem mul_bd (a b : Int) (h1 : -2147483648 ≤ a) (h2 : a ≤ 2147483647) (h3 : -2147483648 ≤ b) (h4 : b ≤ 2147483647) : -4611686018427387904 ≤ a * b ∧ a * b ≤ 4611686018427387904 := by
  have h : (a * b).natAbs = a.natAbs * b.natAbs := Int.natAbs_mul a b
  have h5 : a.natAbs * b.natAbs ≤ 2147483648 * 2147483648 := Nat.mul_le_mul (by omega) (by omega)
  omega

theorem ref_ring (op a b : Int) (w : World) (h1 : -2147483648 ≤ a) (h2 : a ≤ 2147483647) (h3 : -2147483648 ≤ b) (h4 : b ≤ 2147483647) (ho : op = 3 ∨ op = 4 ∨ op = 5) :
    Calls Try.prog 12 #[.int .u8 op, .int .i32 a, .int .i32 b] w fun e w' => e = .returned (.int .i32 (Bn op a b)) ∧ w = w' := by
  have ⟨hm1, hm2⟩ := mul_bd a b h1 h2 h3 h4
  rcases ho with rfl | rfl | rfl
  all_goals
    go_enter Try.func12, Try.ntmps12
    go_wp2_with (go_at_call 19; refine (wrap_any _ _ (by omega) (by omega)).mono ?_; rintro e w' ⟨rfl, rfl⟩)
    go_ret
    exact ⟨ret32 (by simp [Bn]), rfl⟩

theorem ref_div (op a b : Int) (w : World) (h1 : -2147483648 ≤ a) (h2 : a ≤ 2147483647) (h3 : -2147483648 ≤ b) (h4 : b ≤ 2147483647) (ho : op = 6 ∨ op = 7) :
    Calls Try.prog 12 #[.int .u8 op, .int .i32 a, .int .i32 b] w fun e w' => e = .returned (.int .i32 (Bn op a b)) ∧ w = w' := by
  by_cases hb : b = 0
  · subst hb
    rcases ho with rfl | rfl
    all_goals
      go_enter Try.func12, Try.ntmps12
      go_wp2
      go_ret
      exact ⟨ret32 (by simp [Bn]), rfl⟩
  · have ⟨hm1, hm2⟩ := tdiv_bd a b h1 h2
    have ⟨hm3, hm4⟩ := tmod_bd a b h1 h2 hb h3 h4
    rcases ho with rfl | rfl
    all_goals
      go_enter Try.func12, Try.ntmps12
      go_wp2_with (go_at_call 19; refine (wrap_any _ _ (by omega) (by omega)).mono ?_; rintro e w' ⟨rfl, rfl⟩)
      go_ret
      exact ⟨ret32 (by first | (simp [Bn, hb]; done) | (simp [Bn, hb]; exact IntWalk.wrap32_in _ ⟨hm3, hm4⟩)), rfl⟩

theorem ref_truth (op a b : Int) (w : World) (h1 : -2147483648 ≤ a) (h2 : a ≤ 2147483647) (h3 : -2147483648 ≤ b) (h4 : b ≤ 2147483647) (ho : op = 8 ∨ op = 9) :
    Calls Try.prog 12 #[.int .u8 op, .int .i32 a, .int .i32 b] w fun e w' => e = .returned (.int .i32 (Bn op a b)) ∧ w = w' := by
  by_cases ha : a = 0
  all_goals by_cases hb : b = 0
  rotate_right
  · have ea : (a != 0) = true := by simp [ha]
    have eb : (b != 0) = true := by simp [hb]
    have hr : Bn 8 a b = 1 ∧ Bn 9 a b = 1 := by simp [Bn, ha, hb]
    have HR := Lib.hid hr
    clear hr
    rcases ho with rfl | rfl
    all_goals
      go_enter Try.func12, Try.ntmps12
      go_wp2
      go_ret
      first | exact ⟨ret32 HR.out.1.symm, rfl⟩ | exact ⟨ret32 HR.out.2.symm, rfl⟩
  all_goals rcases ho with rfl | rfl
  all_goals
    go_enter Try.func12, Try.ntmps12
    go_wp2
    go_ret
    exact ⟨ret32 (by simp [Bn, ha, hb]), rfl⟩

theorem ref_cmp (op a b : Int) (w : World) (h1 : -2147483648 ≤ a) (h2 : a ≤ 2147483647) (h3 : -2147483648 ≤ b) (h4 : b ≤ 2147483647) (ho : op = 10 ∨ op = 11 ∨ op = 12 ∨ op = 13 ∨ op = 14 ∨ op = 15 ∨ op = 16) :
    Calls Try.prog 12 #[.int .u8 op, .int .i32 a, .int .i32 b] w fun e w' => e = .returned (.int .i32 (Bn op a b)) ∧ w = w' := by
  have h3 : a < b ∨ a = b ∨ b < a := by omega
  rcases h3 with h | h | h
  rotate_left
  subst h
  all_goals rcases ho with rfl | rfl | rfl | rfl | rfl | rfl | rfl
  all_goals
    go_enter Try.func12, Try.ntmps12
    go_wp2
    go_ret
    exact ⟨ret32 (by simp [Bn]; try omega), rfl⟩

theorem ref_none (op a b : Int) (w : World) (h1 : -2147483648 ≤ a) (h2 : a ≤ 2147483647) (h3 : -2147483648 ≤ b) (h4 : b ≤ 2147483647) (ho : op = 0 ∨ op = 1 ∨ op = 2 ∨ 17 ≤ op) (ho2 : op ≤ 255) :
    Calls Try.prog 12 #[.int .u8 op, .int .i32 a, .int .i32 b] w fun e w' => e = .returned (.int .i32 (Bn op a b)) ∧ w = w' := by
  rcases ho with rfl | rfl | rfl | ho
  all_goals
    go_enter Try.func12, Try.ntmps12
    go_wp2
    go_ret
    exact ⟨ret32 (by unfold Bn; repeat rw [if_neg (by omega)]), rfl⟩

theorem ref_any (op a b : Int) (w : World) (ho1 : 0 ≤ op) (ho2 : op ≤ 255) (h1 : -2147483648 ≤ a) (h2 : a ≤ 2147483647) (h3 : -2147483648 ≤ b) (h4 : b ≤ 2147483647) :
    Calls Try.prog 12 #[.int .u8 op, .int .i32 a, .int .i32 b] w fun e w' => e = .returned (.int .i32 (Bn op a b)) ∧ w = w' := by
  have := ops op ho1
  by_cases c1 : op = 3 ∨ op = 4 ∨ op = 5
  · exact ref_ring op a b w h1 h2 h3 h4 c1
  by_cases c2 : op = 6 ∨ op = 7
  · exact ref_div op a b w h1 h2 h3 h4 c2
  by_cases c3 : op = 8 ∨ op = 9
  · exact ref_truth op a b w h1 h2 h3 h4 c3
  by_cases c4 : op = 0 ∨ op = 1 ∨ op = 2 ∨ 17 ≤ op
  · exact ref_none op a b w h1 h2 h3 h4 c4 ho2
  exact ref_cmp op a b w h1 h2 h3 h4 (by omega)

/-- what an operator of one answers -/
def Un (op a : Int) : Int := if op = 1 then (if a = 0 then 1 else 0) else if op = 2 then wrap32 (-a) else 0

theorem un_any (op a : Int) (w : World) (ho1 : 0 ≤ op) (ho2 : op ≤ 255) (h1 : -2147483648 ≤ a) (h2 : a ≤ 2147483647) :
    Calls Try.prog 13 #[.int .u8 op, .int .i32 a] w fun e w' => e = .returned (.int .i32 (Un op a)) ∧ w = w' := by
  have h : op = 1 ∨ op = 2 ∨ op = 0 ∨ 3 ≤ op := by omega
  rcases h with rfl | rfl | rfl | h
  · by_cases ha : a = 0
    all_goals
      go_enter Try.func13, Try.ntmps13
      go_wp2
      go_ret
      exact ⟨ret32 (by simp [Un, ha]), rfl⟩
  all_goals
    go_enter Try.func13, Try.ntmps13
    go_wp2
    go_ret
    exact ⟨ret32 (by unfold Un; first | (simp; done) | (repeat rw [if_neg (by omega)])), rfl⟩

theorem refun_any (op a : Int) (w : World) (ho1 : 0 ≤ op) (ho2 : op ≤ 255) (h1 : -2147483648 ≤ a) (h2 : a ≤ 2147483647) :
    Calls Try.prog 14 #[.int .u8 op, .int .i32 a] w fun e w' => e = .returned (.int .i32 (Un op a)) ∧ w = w' := by
  have h : op = 1 ∨ op = 2 ∨ op = 0 ∨ 3 ≤ op := by omega
  rcases h with rfl | rfl | rfl | h
  · by_cases ha : a = 0
    all_goals
      go_enter Try.func14, Try.ntmps14
      go_wp2
      go_ret
      exact ⟨ret32 (by simp [Un, ha]), rfl⟩
  all_goals
    go_enter Try.func14, Try.ntmps14
    go_wp2_with (go_at_call 19; refine (wrap_any _ _ (by omega) (by omega)).mono ?_; rintro e w' ⟨rfl, rfl⟩)
    go_ret
    exact ⟨ret32 (by unfold Un; first | (simp; done) | (repeat rw [if_neg (by omega)])), rfl⟩

theorem awake_any (w : World) : Calls Try.prog 10 #[] w fun e w' => e = .returned (.bool true) ∧ w = w' := by
  have e1 : wrap32 2147483648 = -2147483648 := by unfold wrap32; rfl
  go_enter Try.func10, Try.ntmps10
  go_wp2
  go_ret
  exact ⟨rfl, rfl⟩
end Go.Proofs.Ytdbieelknploaaa.bins
