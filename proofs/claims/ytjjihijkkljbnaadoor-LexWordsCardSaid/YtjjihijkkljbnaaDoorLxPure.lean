/-
  The words of a text, told plainly on lists of bytes: no Go, no program.
-/
import Derived.Below
namespace Go.Proofs.YtjjihijkkljbnaaDoor.lx

/-- kinds of bytes -/
def digB (c : UInt8) : Bool := decide (48 ≤ c.toNat) && decide (c.toNat ≤ 57)
def greatB (c : UInt8) : Bool := decide (65 ≤ c.toNat) && decide (c.toNat ≤ 90)
def smallB (c : UInt8) : Bool := decide (97 ≤ c.toNat) && decide (c.toNat ≤ 122)
def letB (c : UInt8) : Bool := smallB c || greatB c || decide (c.toNat = 95)
def nameB (c : UInt8) : Bool := letB c || digB c
def lineB (c : UInt8) : Bool := decide (c.toNat ≠ 10)
def blankB (c : UInt8) : Bool := decide (c.toNat = 32) || decide (c.toNat = 9) || decide (c.toNat = 10)

def run (p : UInt8 → Bool) (l : List UInt8) : Nat := (l.takeWhile p).length

theorem run_le (p : UInt8 → Bool) (l : List UInt8) : run p l ≤ l.length := by
  unfold run; exact (List.takeWhile_sublist p).length_le

/-- bytes ahead of the first word; m: within a remark -/
def gapB : Bool → List UInt8 → Nat
  | _, [] => 0
  | true, c :: r => if c.toNat = 10 then gapB false r + 1 else gapB true r + 1
  | false, c :: r => if blankB c then gapB false r + 1 else if c.toNat = 45 ∧ r.head?.map (·.toNat) = some 45 then gapB true r + 1 else 0

theorem gapB_le (m : Bool) (l : List UInt8) : gapB m l ≤ l.length := by
  induction l generalizing m with
  | nil => cases m <;> simp [gapB]
  | cons c r ih =>
    have h1 := ih true
    have h2 := ih false
    cases m <;> simp only [gapB, List.length_cons] <;> (repeat' split) <;> omega

theorem gapB_true (l : List UInt8) : gapB true l = run lineB l + gapB false (l.drop (run lineB l)) := by
  induction l with
  | nil => simp [gapB, run]
  | cons c r ih =>
    by_cases h : c.toNat = 10
    · have hl : lineB c = false := by simp [lineB, h]
      have hb : blankB c = true := by simp [blankB, h]
      simp [gapB, run, hl, hb, h]
    · have hl : lineB c = true := by simp [lineB, h]
      have e : run lineB (c :: r) = run lineB r + 1 := by simp [run, hl]
      rw [e]
      simp only [gapB, h, if_false, List.drop_succ_cons]
      omega

/-- a place behind some bytes -/
def adv : List UInt8 → Nat × Nat → Nat × Nat
  | [], p => p
  | c :: r, p => adv r (if c.toNat = 10 then (p.1 + 1, 1) else (p.1, p.2 + 1))

theorem adv_app (l m : List UInt8) (p : Nat × Nat) : adv (l ++ m) p = adv m (adv l p) := by
  induction l generalizing p with
  | nil => rfl
  | cons c r ih => simp [adv, ih]

/-- the value of digits, not above 2^31 + 1 -/
def valF (l : List UInt8) : Nat := l.foldl (fun v c => min (10 * v + (c.toNat - 48)) 2147483649) 0

structure Tok where
  kind : Nat
  text : List UInt8
  num : Int
  line : Nat
  col : Nat

/-- a word, or what is wrong: kind (text) number -/
inductive Fst where
  | ok (kind : Nat) (text : List UInt8) (num : Int)
  | bad (k : Nat)

def number (l : List UInt8) : Fst :=
  let n := run digB l
  let v := valF (l.take n)
  if 2147483648 < v then .bad 3 else if ((l.drop n).head?.map letB) = some true then .bad 1 else .ok 1 (l.take n) (if v = 2147483648 then -2147483648 else v)

def keys : List (List UInt8) := [[97, 110, 100], [97, 117, 116, 111, 109, 97, 116, 111, 110], [98, 111, 111, 108], [99, 111, 110, 116, 105, 110, 117, 101], [100, 111], [101, 108, 115, 101], [101, 110, 100], [101, 118, 101, 114, 121], [102, 97, 108, 115, 101], [102, 98, 121], [105, 102], [105, 110, 116], [108, 97, 115, 116], [108, 101, 116], [109, 101, 114, 103, 101], [109, 111, 100], [110, 111, 100, 101], [110, 111, 116], [111, 114], [112, 114, 101], [114, 101, 115, 101, 116], [114, 101, 116, 117, 114, 110, 115], [115, 119, 105, 116, 99, 104], [116, 101, 108], [116, 104, 101, 110], [116, 114, 117, 101], [116, 121, 112, 101], [117, 110, 108, 101, 115, 115], [117, 110, 116, 105, 108], [118, 97, 114], [119, 104, 101, 110], [120, 111, 114]]
def keyB (l : List UInt8) : Bool := keys.contains l

def name (l : List UInt8) : Fst :=
  let t := l.take (run nameB l)
  if 32 < t.length then .bad 3 else if t.head?.map (·.toNat) = some 95 then .bad 1 else if keyB t then .ok 4 t 0 else if (t.head?.map greatB) = some true then .ok 3 t 0 else .ok 2 t 0

def signs : List (List UInt8) := [[60, 62], [60, 61], [62, 61], [45, 62], [40], [41], [61], [43], [45], [42], [47], [60], [62], [59], [58], [44], [124]]

def sign (l : List UInt8) : Fst :=
  match signs.find? (fun t => t.isPrefixOf l) with
  | some t => .ok 5 t 0
  | none => .bad 1

def first (l : List UInt8) : Fst :=
  match l with
  | [] => .ok 0 [] 0
  | c :: _ => if digB c then number l else if letB c then name l else sign l

inductive Res where
  | ok (l : List Tok)
  | bad (k line col : Nat)

def Res.cons (t : Tok) : Res → Res
  | .ok l => .ok (t :: l)
  | .bad k a b => .bad k a b

/-- the words from a place on; n: more than the bytes that are left -/
def lex : Nat → List UInt8 → Nat × Nat → Res
  | 0, _, _ => .ok []
  | n + 1, l, p =>
    let g := gapB false l
    let q := adv (l.take g) p
    match first (l.drop g) with
    | .bad k => .bad k q.1 q.2
    | .ok k t v => if k = 0 then .ok [⟨k, t, v, q.1, q.2⟩] else (lex n (l.drop (g + t.length)) (adv t q)).cons ⟨k, t, v, q.1, q.2⟩

end Go.Proofs.YtjjihijkkljbnaaDoor.lx
