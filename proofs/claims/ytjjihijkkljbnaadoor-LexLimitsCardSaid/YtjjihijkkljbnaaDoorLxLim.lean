/-
  A name of as many letters; plainly.
-/
import Derived.Test.YtjjihijkkljbnaaDoorLxPure
namespace Go.Proofs.YtjjihijkkljbnaaDoor.lx

def limS (g : Bool) : Nat → List UInt8
  | 0 => []
  | k + 1 => limS g k ++ [if g && k == 0 then 81 else 113]

theorem limS_len (g : Bool) (k : Nat) : (limS g k).length = k := by
  induction k with
  | zero => rfl
  | succ k ih => simp [limS, ih]

def tokB (a b : Tok) : Bool := a.kind == b.kind && a.text == b.text && a.num == b.num && a.line == b.line && a.col == b.col
theorem tokB_eq {a b : Tok} (h : tokB a b = true) : a = b := by
  obtain ⟨a1, a2, a3, a4, a5⟩ := a
  obtain ⟨b1, b2, b3, b4, b5⟩ := b
  simp [tokB] at h
  obtain ⟨⟨⟨⟨h1, h2⟩, h3⟩, h4⟩, h5⟩ := h
  subst h1 h2 h3 h4 h5
  rfl
def toksB : List Tok → List Tok → Bool
  | [], [] => true
  | a :: r, b :: s => tokB a b && toksB r s
  | _, _ => false
theorem toksB_eq {l m : List Tok} (h : toksB l m = true) : l = m := by
  induction l generalizing m with
  | nil => cases m with
    | nil => rfl
    | cons b s => cases h
  | cons a r ih => cases m with
    | nil => cases h
    | cons b s =>
      simp only [toksB, Bool.and_eq_true] at h
      rw [tokB_eq h.1, ih h.2]
def resB : Res → Res → Bool
  | .ok l, .ok m => toksB l m
  | .bad k a b, .bad k' a' b' => k == k' && a == a' && b == b'
  | _, _ => false
theorem resB_eq {x y : Res} (h : resB x y = true) : x = y := by
  cases x with
  | ok l => cases y with
    | ok m => rw [toksB_eq h]
    | bad k a b => cases h
  | bad k a b => cases y with
    | ok m => cases h
    | bad k' a' b' =>
      simp [resB] at h
      obtain ⟨⟨h1, h2⟩, h3⟩ := h
      subst h1 h2 h3
      rfl

theorem lim_all : ∀ k, k < 40 → ∀ g : Bool, resB (lex ((32 :: limS g (k + 1)).length + 1) (32 :: limS g (k + 1)) (1, 1)) (if 32 < k + 1 then .bad 3 1 2 else .ok [⟨if g then 3 else 2, limS g (k + 1), 0, 1, 2⟩, ⟨0, [], 0, 1, k + 3⟩]) = true := by
  decide +kernel

theorem lim_lex (k : Nat) (hk : k < 40) (g : Bool) : lex ((32 :: limS g (k + 1)).length + 1) (32 :: limS g (k + 1)) (1, 1) = if 32 < k + 1 then .bad 3 1 2 else .ok [⟨if g then 3 else 2, limS g (k + 1), 0, 1, 2⟩, ⟨0, [], 0, 1, k + 3⟩] :=
  resB_eq (lim_all k hk g)
end Go.Proofs.YtjjihijkkljbnaaDoor.lx
