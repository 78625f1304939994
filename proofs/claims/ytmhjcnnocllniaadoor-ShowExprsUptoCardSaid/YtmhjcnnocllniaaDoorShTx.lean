/-
  Expressions as texts: what the document says of them, plainly; and how long these texts can be.
-/
import Derived.Test.YtmhjcnnocllniaaDoorTrEx
import Derived.Lib.ItoaNum
import Derived.Lib.ItoaLen
import Derived.Lib.ItoaMem
namespace Go.Proofs.YtmhjcnnocllniaaDoor.sh
open Go.ChangeShapes Go.WideShapes Go.ChangeAt Go.RowKit Go.Proofs.YtmhjcnnocllniaaDoor.tr
set_option linter.unusedVariables false

abbrev bs (s : ByteArray) : List UInt8 := s.data.toList
theorem bs_len (s : ByteArray) : (bs s).length = s.size := by simp [bs]

/-- how an operator is written -/
def wordL (o : Nat) : List UInt8 := match o with
  | 1 => [110, 111, 116] | 2 => [45] | 3 => [43] | 4 => [45] | 5 => [42] | 6 => [47] | 7 => [109, 111, 100] | 8 => [97, 110, 100] | 9 => [111, 114] | 10 => [120, 111, 114]
  | 11 => [61] | 12 => [60, 62] | 13 => [60] | 14 => [60, 61] | 15 => [62] | 16 => [62, 61] | _ => []
theorem wordL_len (o : Nat) : (wordL o).length ≤ 3 := by unfold wordL; split <;> simp

/-- does an expression stand without parentheses behind an operator? -/
def bareB (minus : Bool) : Ex → Bool
  | .mk k _ n _ _ _ _ _ => decide (k = 2 ∨ k = 3 ∨ k = 4 ∨ k = 13) || (decide (k = 1) && (decide (0 ≤ n) && !minus))
def par (b : Bool) (t : List UInt8) : List UInt8 := if b then t else 40 :: (t ++ [41])
def armsT : List ByteArray → List (List UInt8) → List UInt8
  | a :: al, t :: ts => [32, 40] ++ bs a ++ [32, 45, 62, 32] ++ t ++ [41] ++ armsT al ts
  | _, _ => []
def kidT (kids : List Ex) (ts : List (List UInt8)) (minus : Bool) (i : Nat) : List UInt8 := match kids[i]? with
  | some x => par (bareB minus x) (ts.getD i [])
  | none => []
def asm (k o : Nat) (n : Int) (nm : ByteArray) (nms : List ByteArray) (kids : List Ex) (ts : List (List UInt8)) : List UInt8 :=
  match k with
  | 1 => Lib.itoa n
  | 2 => if n = 0 then [102, 97, 108, 115, 101] else [116, 114, 117, 101]
  | 3 => bs nm
  | 4 => bs nm
  | 5 => [108, 97, 115, 116, 32] ++ bs nm
  | 6 => wordL o ++ [32] ++ kidT kids ts (decide (o = 2)) 0
  | 7 => kidT kids ts false 0 ++ [32] ++ wordL o ++ [32] ++ kidT kids ts false 1
  | 8 => [105, 102, 32] ++ ts.getD 0 [] ++ [32, 116, 104, 101, 110, 32] ++ ts.getD 1 [] ++ [32, 101, 108, 115, 101, 32] ++ ts.getD 2 []
  | 9 => kidT kids ts false 0 ++ [32, 102, 98, 121, 32] ++ kidT kids ts false 1
  | 10 => [112, 114, 101, 32] ++ kidT kids ts false 0
  | 11 => kidT kids ts false 0 ++ [32, 45, 62, 32] ++ kidT kids ts false 1
  | 12 => kidT kids ts false 0 ++ [32, 119, 104, 101, 110, 32] ++ bs (nms.getD 0 ByteArray.empty) ++ [40] ++ bs nm ++ [41]
  | 13 => [40, 109, 101, 114, 103, 101, 32] ++ bs nm ++ armsT nms ts ++ [41]
  | _ => []
mutual
/-- an expression's text -/
def txt : Ex → List UInt8
  | .mk k o n nm nms kids _ _ => asm k o n nm nms kids (txtK kids)
def txtK : List Ex → List (List UInt8)
  | [] => []
  | x :: r => txt x :: txtK r
end
theorem txtK_map (l : List Ex) : txtK l = l.map txt := by
  induction l with
  | nil => rfl
  | cons x r ih => rw [txtK, ih, List.map_cons]
theorem txtK_get (l : List Ex) (i : Nat) (hi : i < l.length) : (txtK l).getD i [] = txt l[i] := by
  rw [txtK_map, List.getD_eq_getElem?_getD, List.getElem?_map, List.getElem?_eq_getElem hi]
  rfl
theorem kidT_get (l : List Ex) (m : Bool) (i : Nat) (hi : i < l.length) : kidT l (txtK l) m i = par (bareB m l[i]) (txt l[i]) := by
  unfold kidT
  rw [List.getElem?_eq_getElem hi, txtK_get l i hi]

/-- has an expression's head as many kids, and names, as its kind has? -/
def okH (k o : Nat) (n : Int) (nn kn : Nat) : Prop :=
  1 ≤ k ∧ k ≤ 13 ∧ (k = 2 → n = 0 ∨ n = 1) ∧ (k = 6 → o = 1 ∨ o = 2) ∧ (k = 7 → 3 ≤ o ∧ o ≤ 16) ∧ (k = 13 → nn = kn) ∧ (k ≤ 5 → kn = 0) ∧ (k = 6 ∨ k = 10 ∨ k = 12 → kn = 1) ∧ (k = 7 ∨ k = 9 ∨ k = 11 → kn = 2) ∧ (k = 8 → kn = 3) ∧ (k = 12 → nn = 1)
instance (k o : Nat) (n : Int) (nn kn : Nat) : Decidable (okH k o n nn kn) := by unfold okH; infer_instance
mutual
def okE : Ex → Bool
  | .mk k o n _ nms kids _ _ => decide (okH k o n nms.length kids.length) && okK kids
def okK : List Ex → Bool
  | [] => true
  | x :: r => okE x && okK r
end
theorem okK_get (l : List Ex) (h : okK l = true) (i : Nat) (hi : i < l.length) : okE l[i] = true := by
  induction l generalizing i with
  | nil => simp at hi
  | cons x r ih =>
    rw [okK, Bool.and_eq_true] at h
    cases i with
    | zero => simpa using h.1
    | succ i => simpa using ih h.2 i (by simpa using hi)

/-- how long a text can be -/
def wtN : List ByteArray → Nat
  | [] => 0
  | a :: r => a.size + 8 + wtN r
mutual
def wt : Ex → Nat
  | .mk _ _ _ nm nms kids _ _ => 64 + nm.size + wtN nms + wtK kids
def wtK : List Ex → Nat
  | [] => 0
  | x :: r => wt x + 8 + wtK r
end
theorem wt_kid (l : List Ex) (i : Nat) (hi : i < l.length) : wt l[i] ≤ wtK l := by
  induction l generalizing i with
  | nil => simp at hi
  | cons x r ih =>
    unfold wtK
    cases i with
    | zero => simp; omega
    | succ i =>
      have := ih i (by simpa using hi)
      simp only [List.getElem_cons_succ]
      omega
def sumT : List (List UInt8) → Nat
  | [] => 0
  | t :: r => t.length + 8 + sumT r
theorem get3 (ts : List (List UInt8)) : (ts.getD 0 []).length + (ts.getD 1 []).length + (ts.getD 2 []).length ≤ sumT ts := by
  match ts with
  | [] => simp [sumT]
  | [a] => simp [sumT]
  | [a, b] => simp [sumT]; omega
  | a :: b :: c :: r => simp [sumT]; omega
theorem arms_len (nms : List ByteArray) (ts : List (List UInt8)) : (armsT nms ts).length ≤ wtN nms + sumT ts := by
  induction nms generalizing ts with
  | nil => simp [armsT]
  | cons a al ih =>
    cases ts with
    | nil => simp [armsT]
    | cons t ts =>
      have := ih ts
      simp only [armsT, List.length_append, List.length_cons, List.length_nil, bs_len, wtN, sumT]
      omega
theorem par_len (b : Bool) (t : List UInt8) : (par b t).length ≤ t.length + 2 := by unfold par; split <;> simp
theorem kidT_len (kids : List Ex) (ts : List (List UInt8)) (m : Bool) (i : Nat) : (kidT kids ts m i).length ≤ (ts.getD i []).length + 2 := by
  unfold kidT
  split
  · exact par_len _ _
  · simp
theorem nms0_len (nms : List ByteArray) : (nms.getD 0 ByteArray.empty).size ≤ wtN nms := by
  cases nms with
  | nil => simp [wtN]
  | cons a r => simp [wtN]; omega
theorem asm_len (k o : Nat) (n : Int) (nm : ByteArray) (nms : List ByteArray) (kids : List Ex) (ts : List (List UInt8)) (h0 : -2147483648 ≤ n) (h1 : n ≤ 2147483647) :
    (asm k o n nm nms kids ts).length ≤ 64 + nm.size + wtN nms + sumT ts := by
  have h3 := get3 ts
  have k0 := fun m => kidT_len kids ts m 0
  have k1 := fun m => kidT_len kids ts m 1
  have a0 := arms_len nms ts
  have n0 := nms0_len nms
  have w0 := wordL_len o
  have i0 := Lib.itoa_length_le n (by omega) (by omega)
  have k0f := k0 false
  have k1f := k1 false
  have k0m := k0 (decide (o = 2))
  unfold asm
  split
  · omega
  · split <;> simp <;> omega
  · rw [bs_len]; omega
  · rw [bs_len]; omega
  all_goals (simp only [List.length_append, List.length_cons, List.length_nil, bs_len]; omega)

-- all numbers are within 32 bits
mutual
def fitE : Ex → Prop
  | .mk _ _ n _ _ kids _ _ => -2147483648 ≤ n ∧ n ≤ 2147483647 ∧ fitK kids
def fitK : List Ex → Prop
  | [] => True
  | x :: r => fitE x ∧ fitK r
end
theorem fitK_get (l : List Ex) (h : fitK l) (i : Nat) (hi : i < l.length) : fitE l[i] := by
  induction l generalizing i with
  | nil => simp at hi
  | cons x r ih =>
    rw [fitK] at h
    cases i with
    | zero => simpa using h.1
    | succ i => simpa using ih h.2 i (by simpa using hi)
mutual
theorem txt_len : ∀ x : Ex, fitE x → (txt x).length ≤ wt x
  | .mk k o n nm nms kids _ _, h => by
    rw [fitE] at h
    have h1 := txtK_len kids h.2.2
    have h2 := asm_len k o n nm nms kids (txtK kids) h.1 h.2.1
    rw [txt, wt]
    omega
theorem txtK_len : ∀ l : List Ex, fitK l → sumT (txtK l) ≤ wtK l
  | [], _ => by simp [txtK, sumT, wtK]
  | x :: r, h => by
    rw [fitK] at h
    have h1 := txt_len x h.1
    have h2 := txtK_len r h.2
    rw [txtK, sumT, wtK]
    omega
end
end Go.Proofs.YtmhjcnnocllniaaDoor.sh
