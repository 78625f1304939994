/-
  What nums.Word, nums.Strength, nums.Types and the document's own answer for each operator; their walks; what the listed table holds.
-/
import Derived.Test.YtdbieelknploaaaDoorRows
import Derived.WalkKit
import Derived.ProofKit
import Derived.OpenShut
import Derived.LaidLaws
import Derived.LaidMore
import Derived.Lib.Hide
import Derived.Stop.Joined
namespace Go.Proofs.YtdbieelknploaaaDoor.words
open Go.ChangeShapes Go.WideShapes Go.ChangeAt Go.RowKit
set_option linter.unusedVariables false

/-- how an operator is written -/
def wd (op : Int) : ByteArray :=
  if op = 1 then ⟨#[110, 111, 116]⟩ else if op = 2 then ⟨#[45]⟩ else if op = 3 then ⟨#[43]⟩ else if op = 4 then ⟨#[45]⟩ else if op = 5 then ⟨#[42]⟩ else if op = 6 then ⟨#[47]⟩ else if op = 7 then ⟨#[109, 111, 100]⟩ else if op = 8 then ⟨#[97, 110, 100]⟩ else if op = 9 then ⟨#[111, 114]⟩ else if op = 10 then ⟨#[120, 111, 114]⟩ else if op = 11 then ⟨#[61]⟩ else if op = 12 then ⟨#[60, 62]⟩ else if op = 13 then ⟨#[60]⟩ else if op = 14 then ⟨#[60, 61]⟩ else if op = 15 then ⟨#[62]⟩ else if op = 16 then ⟨#[62, 61]⟩ else ⟨#[]⟩
/-- how strongly it binds -/
def st (op : Int) : Int := if op = 9 then 1 else if op = 10 then 1 else if op = 8 then 2 else if op = 11 then 3 else if op = 12 then 3 else if op = 13 then 3 else if op = 14 then 3 else if op = 15 then 3 else if op = 16 then 3 else if op = 3 then 4 else if op = 4 then 4 else if op = 5 then 5 else if op = 6 then 5 else if op = 7 then 5 else 0
/-- of what it is -/
def tyA (op : Int) : Int := if op = 0 then 0 else if op = 1 then 1 else if op ≤ 7 then 2 else if op ≤ 10 then 1 else if op ≤ 12 then 0 else if op ≤ 16 then 2 else 0
/-- what it answers -/
def tyB (op : Int) : Int := if op = 0 then 0 else if op = 1 then 1 else if op ≤ 7 then 2 else if op ≤ 16 then 1 else 0

/-- the table's words -/
def table : List (List UInt8) := [[], [110, 111, 116], [45], [43], [45], [42], [47], [109, 111, 100], [97, 110, 100], [111, 114], [120, 111, 114], [61], [60, 62], [60], [60, 61], [62], [62, 61]]

theorem ops (op : Int) (h : 0 ≤ op) : op = 0 ∨ op = 1 ∨ op = 2 ∨ op = 3 ∨ op = 4 ∨ op = 5 ∨ op = 6 ∨ op = 7 ∨ op = 8 ∨ op = 9 ∨ op = 10 ∨ op = 11 ∨ op = 12 ∨ op = 13 ∨ op = 14 ∨ op = 15 ∨ op = 16 ∨ 17 ≤ op := by omega
theorem ret_int {k : IntKind} {a b : Int} (h : a = b) : Ending.returned (.int k a) = .returned (.int k b) := by rw [h]
theorem ret_str {a b : ByteArray} (h : a = b) : Ending.returned (.string a) = .returned (.string b) := by rw [h]

theorem st_any (op : Int) (w : World) (h0 : 0 ≤ op) (h1 : op ≤ 255) : Calls Tryd.prog 9 #[.int .u8 op] w fun e w' => e = .returned (.int .i64 (st op)) ∧ w = w' := by
  have h := ops op h0
  rcases h with rfl | rfl | rfl | rfl | rfl | rfl | rfl | rfl | rfl | rfl | rfl | rfl | rfl | rfl | rfl | rfl | rfl | ho
  rotate_right
  · have hd : st op = 0 := by unfold st; repeat rw [if_neg (by omega)]
    have HD := Lib.hid hd
    clear hd
    have n1 : (op == 1) = false := by simp; omega
    have n2 : (op == 2) = false := by simp; omega
    have n3 : (op == 3) = false := by simp; omega
    have n4 : (op == 4) = false := by simp; omega
    have n5 : (op == 5) = false := by simp; omega
    have n6 : (op == 6) = false := by simp; omega
    have n7 : (op == 7) = false := by simp; omega
    have n8 : (op == 8) = false := by simp; omega
    have n9 : (op == 9) = false := by simp; omega
    have n10 : (op == 10) = false := by simp; omega
    have n11 : (op == 11) = false := by simp; omega
    have n12 : (op == 12) = false := by simp; omega
    have n13 : (op == 13) = false := by simp; omega
    have n14 : (op == 14) = false := by simp; omega
    have n15 : (op == 15) = false := by simp; omega
    have n16 : (op == 16) = false := by simp; omega
    have m7 : ¬ op ≤ 7 := by omega
    have m10 : ¬ op ≤ 10 := by omega
    have m12 : ¬ op ≤ 12 := by omega
    have m16 : ¬ op ≤ 16 := by omega
    go_enter Tryd.func9, Tryd.ntmps9
    go_wp2
    go_ret
    exact ⟨ret_int (by rw [HD.out]), rfl⟩
  all_goals
    go_enter Tryd.func9, Tryd.ntmps9
    go_wp2
    go_ret
    exact ⟨ret_int (by simp [st]), rfl⟩

theorem refst_any (op : Int) (w : World) (h0 : 0 ≤ op) (h1 : op ≤ 255) : Calls Tryd.prog 10 #[.int .u8 op] w fun e w' => e = .returned (.int .i64 (st op)) ∧ w = w' := by
  have h := ops op h0
  rcases h with rfl | rfl | rfl | rfl | rfl | rfl | rfl | rfl | rfl | rfl | rfl | rfl | rfl | rfl | rfl | rfl | rfl | ho
  rotate_right
  · have hd : st op = 0 := by unfold st; repeat rw [if_neg (by omega)]
    have HD := Lib.hid hd
    clear hd
    have n1 : (op == 1) = false := by simp; omega
    have n2 : (op == 2) = false := by simp; omega
    have n3 : (op == 3) = false := by simp; omega
    have n4 : (op == 4) = false := by simp; omega
    have n5 : (op == 5) = false := by simp; omega
    have n6 : (op == 6) = false := by simp; omega
    have n7 : (op == 7) = false := by simp; omega
    have n8 : (op == 8) = false := by simp; omega
    have n9 : (op == 9) = false := by simp; omega
    have n10 : (op == 10) = false := by simp; omega
    have n11 : (op == 11) = false := by simp; omega
    have n12 : (op == 12) = false := by simp; omega
    have n13 : (op == 13) = false := by simp; omega
    have n14 : (op == 14) = false := by simp; omega
    have n15 : (op == 15) = false := by simp; omega
    have n16 : (op == 16) = false := by simp; omega
    have m7 : ¬ op ≤ 7 := by omega
    have m10 : ¬ op ≤ 10 := by omega
    have m12 : ¬ op ≤ 12 := by omega
    have m16 : ¬ op ≤ 16 := by omega
    go_enter Tryd.func10, Tryd.ntmps10
    go_wp2
    go_ret
    exact ⟨ret_int (by rw [HD.out]), rfl⟩
  all_goals
    go_enter Tryd.func10, Tryd.ntmps10
    go_wp2
    go_ret
    exact ⟨ret_int (by simp [st]), rfl⟩

theorem ty_any (op : Int) (w : World) (h0 : 0 ≤ op) (h1 : op ≤ 255) : Calls Tryd.prog 4 #[.int .u8 op] w fun e w' => e = .returned (.tuple #[.int .u8 (tyA op), .int .u8 (tyB op)]) ∧ w = w' := by
  have h := ops op h0
  have ha : 17 ≤ op → tyA op = 0 := by intro h; unfold tyA; repeat rw [if_neg (by omega)]
  have hb : 17 ≤ op → tyB op = 0 := by intro h; unfold tyB; repeat rw [if_neg (by omega)]
  have HA := Lib.hid ha
  have HB := Lib.hid hb
  clear ha hb
  rcases h with rfl | rfl | rfl | rfl | rfl | rfl | rfl | rfl | rfl | rfl | rfl | rfl | rfl | rfl | rfl | rfl | rfl | ho
  rotate_right
  · have HA2 := Lib.hid (HA.out ho)
    have HB2 := Lib.hid (HB.out ho)
    have n1 : (op == 1) = false := by simp; omega
    have n2 : (op == 2) = false := by simp; omega
    have n3 : (op == 3) = false := by simp; omega
    have n4 : (op == 4) = false := by simp; omega
    have n5 : (op == 5) = false := by simp; omega
    have n6 : (op == 6) = false := by simp; omega
    have n7 : (op == 7) = false := by simp; omega
    have n8 : (op == 8) = false := by simp; omega
    have n9 : (op == 9) = false := by simp; omega
    have n10 : (op == 10) = false := by simp; omega
    have n11 : (op == 11) = false := by simp; omega
    have n12 : (op == 12) = false := by simp; omega
    have n13 : (op == 13) = false := by simp; omega
    have n14 : (op == 14) = false := by simp; omega
    have n15 : (op == 15) = false := by simp; omega
    have n16 : (op == 16) = false := by simp; omega
    have m7 : ¬ op ≤ 7 := by omega
    have m10 : ¬ op ≤ 10 := by omega
    have m12 : ¬ op ≤ 12 := by omega
    have m16 : ¬ op ≤ 16 := by omega
    go_enter Tryd.func4, Tryd.ntmps4
    go_wp2
    go_ret2
    exact ⟨by rw [HA2.out, HB2.out]; rfl, rfl⟩
  all_goals
    go_enter Tryd.func4, Tryd.ntmps4
    go_wp2
    go_ret2
    exact ⟨rfl, rfl⟩

theorem refty_any (op : Int) (w : World) (h0 : 0 ≤ op) (h1 : op ≤ 255) : Calls Tryd.prog 5 #[.int .u8 op] w fun e w' => e = .returned (.tuple #[.int .u8 (tyA op), .int .u8 (tyB op)]) ∧ w = w' := by
  have h := ops op h0
  have ha : 17 ≤ op → tyA op = 0 := by intro h; unfold tyA; repeat rw [if_neg (by omega)]
  have hb : 17 ≤ op → tyB op = 0 := by intro h; unfold tyB; repeat rw [if_neg (by omega)]
  have HA := Lib.hid ha
  have HB := Lib.hid hb
  clear ha hb
  rcases h with rfl | rfl | rfl | rfl | rfl | rfl | rfl | rfl | rfl | rfl | rfl | rfl | rfl | rfl | rfl | rfl | rfl | ho
  rotate_right
  · have HA2 := Lib.hid (HA.out ho)
    have HB2 := Lib.hid (HB.out ho)
    have n1 : (op == 1) = false := by simp; omega
    have n2 : (op == 2) = false := by simp; omega
    have n3 : (op == 3) = false := by simp; omega
    have n4 : (op == 4) = false := by simp; omega
    have n5 : (op == 5) = false := by simp; omega
    have n6 : (op == 6) = false := by simp; omega
    have n7 : (op == 7) = false := by simp; omega
    have n8 : (op == 8) = false := by simp; omega
    have n9 : (op == 9) = false := by simp; omega
    have n10 : (op == 10) = false := by simp; omega
    have n11 : (op == 11) = false := by simp; omega
    have n12 : (op == 12) = false := by simp; omega
    have n13 : (op == 13) = false := by simp; omega
    have n14 : (op == 14) = false := by simp; omega
    have n15 : (op == 15) = false := by simp; omega
    have n16 : (op == 16) = false := by simp; omega
    have m7 : ¬ op ≤ 7 := by omega
    have m10 : ¬ op ≤ 10 := by omega
    have m12 : ¬ op ≤ 12 := by omega
    have m16 : ¬ op ≤ 16 := by omega
    go_enter Tryd.func5, Tryd.ntmps5
    go_wp2
    go_ret2
    exact ⟨by rw [HA2.out, HB2.out]; rfl, rfl⟩
  all_goals
    go_enter Tryd.func5, Tryd.ntmps5
    go_wp2
    go_ret2
    exact ⟨rfl, rfl⟩

theorem awake_any (w : World) : Calls Tryd.prog 6 #[] w fun e w' => e = .returned (.bool true) ∧ w = w' := by
  have e1 : wrap32 2147483648 = -2147483648 := by unfold wrap32; rfl
  go_enter Tryd.func6, Tryd.ntmps6
  go_wp2
  go_ret
  exact ⟨rfl, rfl⟩

theorem wd_any (op : Int) (w : World) (h0 : 0 ≤ op) (h1 : op ≤ 255) (hT : ∀ i, i < 17 → w.cell? ⟨0, i, none⟩ = some (.string ⟨(table.getD i []).toArray⟩)) : Calls Tryd.prog 7 #[.int .u8 op] w fun e w' => e = .returned (.string (wd op)) ∧ w = w' := by
  have h := ops op h0
  have H := Lib.hid hT
  clear hT
  rcases h with rfl | rfl | rfl | rfl | rfl | rfl | rfl | rfl | rfl | rfl | rfl | rfl | rfl | rfl | rfl | rfl | rfl | ho
  rotate_right
  · have hd : wd op = ⟨#[]⟩ := by unfold wd; repeat rw [if_neg (by omega)]
    have HD := Lib.hid hd
    clear hd
    have n1 : (op == 1) = false := by simp; omega
    have n2 : (op == 2) = false := by simp; omega
    have n3 : (op == 3) = false := by simp; omega
    have n4 : (op == 4) = false := by simp; omega
    have n5 : (op == 5) = false := by simp; omega
    have n6 : (op == 6) = false := by simp; omega
    have n7 : (op == 7) = false := by simp; omega
    have n8 : (op == 8) = false := by simp; omega
    have n9 : (op == 9) = false := by simp; omega
    have n10 : (op == 10) = false := by simp; omega
    have n11 : (op == 11) = false := by simp; omega
    have n12 : (op == 12) = false := by simp; omega
    have n13 : (op == 13) = false := by simp; omega
    have n14 : (op == 14) = false := by simp; omega
    have n15 : (op == 15) = false := by simp; omega
    have n16 : (op == 16) = false := by simp; omega
    have m7 : ¬ op ≤ 7 := by omega
    have m10 : ¬ op ≤ 10 := by omega
    have m12 : ¬ op ≤ 12 := by omega
    have m16 : ¬ op ≤ 16 := by omega
    go_enter Tryd.func7, Tryd.ntmps7
    go_wp2
    go_ret
    exact ⟨ret_str (by rw [HD.out]), rfl⟩
  · have hc := H.out 0 (by omega)
    go_enter Tryd.func7, Tryd.ntmps7
    go_wp2
    go_ret
    exact ⟨rfl, rfl⟩
  · have hc := H.out 1 (by omega)
    go_enter Tryd.func7, Tryd.ntmps7
    go_wp2
    go_ret
    exact ⟨rfl, rfl⟩
  · have hc := H.out 2 (by omega)
    go_enter Tryd.func7, Tryd.ntmps7
    go_wp2
    go_ret
    exact ⟨rfl, rfl⟩
  · have hc := H.out 3 (by omega)
    go_enter Tryd.func7, Tryd.ntmps7
    go_wp2
    go_ret
    exact ⟨rfl, rfl⟩
  · have hc := H.out 4 (by omega)
    go_enter Tryd.func7, Tryd.ntmps7
    go_wp2
    go_ret
    exact ⟨rfl, rfl⟩
  · have hc := H.out 5 (by omega)
    go_enter Tryd.func7, Tryd.ntmps7
    go_wp2
    go_ret
    exact ⟨rfl, rfl⟩
  · have hc := H.out 6 (by omega)
    go_enter Tryd.func7, Tryd.ntmps7
    go_wp2
    go_ret
    exact ⟨rfl, rfl⟩
  · have hc := H.out 7 (by omega)
    go_enter Tryd.func7, Tryd.ntmps7
    go_wp2
    go_ret
    exact ⟨rfl, rfl⟩
  · have hc := H.out 8 (by omega)
    go_enter Tryd.func7, Tryd.ntmps7
    go_wp2
    go_ret
    exact ⟨rfl, rfl⟩
  · have hc := H.out 9 (by omega)
    go_enter Tryd.func7, Tryd.ntmps7
    go_wp2
    go_ret
    exact ⟨rfl, rfl⟩
  · have hc := H.out 10 (by omega)
    go_enter Tryd.func7, Tryd.ntmps7
    go_wp2
    go_ret
    exact ⟨rfl, rfl⟩
  · have hc := H.out 11 (by omega)
    go_enter Tryd.func7, Tryd.ntmps7
    go_wp2
    go_ret
    exact ⟨rfl, rfl⟩
  · have hc := H.out 12 (by omega)
    go_enter Tryd.func7, Tryd.ntmps7
    go_wp2
    go_ret
    exact ⟨rfl, rfl⟩
  · have hc := H.out 13 (by omega)
    go_enter Tryd.func7, Tryd.ntmps7
    go_wp2
    go_ret
    exact ⟨rfl, rfl⟩
  · have hc := H.out 14 (by omega)
    go_enter Tryd.func7, Tryd.ntmps7
    go_wp2
    go_ret
    exact ⟨rfl, rfl⟩
  · have hc := H.out 15 (by omega)
    go_enter Tryd.func7, Tryd.ntmps7
    go_wp2
    go_ret
    exact ⟨rfl, rfl⟩
  · have hc := H.out 16 (by omega)
    go_enter Tryd.func7, Tryd.ntmps7
    go_wp2
    go_ret
    exact ⟨rfl, rfl⟩

theorem refwd_any (op : Int) (w : World) (h0 : 0 ≤ op) (h1 : op ≤ 255) : Calls Tryd.prog 8 #[.int .u8 op] w fun e w' => e = .returned (.string (wd op)) ∧ w = w' := by
  have h := ops op h0
  rcases h with rfl | rfl | rfl | rfl | rfl | rfl | rfl | rfl | rfl | rfl | rfl | rfl | rfl | rfl | rfl | rfl | rfl | ho
  rotate_right
  · have hd : wd op = ⟨#[]⟩ := by unfold wd; repeat rw [if_neg (by omega)]
    have HD := Lib.hid hd
    clear hd
    have n1 : (op == 1) = false := by simp; omega
    have n2 : (op == 2) = false := by simp; omega
    have n3 : (op == 3) = false := by simp; omega
    have n4 : (op == 4) = false := by simp; omega
    have n5 : (op == 5) = false := by simp; omega
    have n6 : (op == 6) = false := by simp; omega
    have n7 : (op == 7) = false := by simp; omega
    have n8 : (op == 8) = false := by simp; omega
    have n9 : (op == 9) = false := by simp; omega
    have n10 : (op == 10) = false := by simp; omega
    have n11 : (op == 11) = false := by simp; omega
    have n12 : (op == 12) = false := by simp; omega
    have n13 : (op == 13) = false := by simp; omega
    have n14 : (op == 14) = false := by simp; omega
    have n15 : (op == 15) = false := by simp; omega
    have n16 : (op == 16) = false := by simp; omega
    have m7 : ¬ op ≤ 7 := by omega
    have m10 : ¬ op ≤ 10 := by omega
    have m12 : ¬ op ≤ 12 := by omega
    have m16 : ¬ op ≤ 16 := by omega
    go_enter Tryd.func8, Tryd.ntmps8
    go_wp2
    go_ret
    exact ⟨ret_str (by rw [HD.out]), rfl⟩
  all_goals
    go_enter Tryd.func8, Tryd.ntmps8
    go_wp2
    go_ret
    exact ⟨rfl, rfl⟩
end Go.Proofs.YtdbieelknploaaaDoor.words
