/-
  The words of a text byte by byte, as the document's answer goes; plainly.
-/
import Derived.Test.YtjjihijkkljbnaaDoorLxNew
import Derived.Test.YtjjihijkkljbnaaDoorLxTok
namespace Go.Proofs.YtjjihijkkljbnaaDoor.lx
open Go.ChangeShapes Go.WideShapes Go.ChangeAt Go.RowKit

theorem lex_blank (n : Nat) (c : UInt8) (r : List UInt8) (p : Nat × Nat) (h : blankB c = true) : lex (n + 1) (c :: r) p = lex (n + 1) r (if c.toNat = 10 then (p.1 + 1, 1) else (p.1, p.2 + 1)) := by
  have hg : gapB false (c :: r) = gapB false r + 1 := by simp [gapB, h]
  rw [lex_at, lex_at, hg]
  rfl

theorem adv_line (l : List UInt8) (p : Nat × Nat) (h : ∀ c ∈ l, lineB c = true) : adv l p = (p.1, p.2 + l.length) := by
  induction l generalizing p with
  | nil => rfl
  | cons c r ih =>
    have hc := h c (by simp)
    simp only [lineB, decide_eq_true_eq] at hc
    simp only [adv, List.length_cons]
    rw [if_neg hc, ih _ (fun x hx => h x (by simp [hx]))]
    simp
    omega

theorem run_take (p : UInt8 → Bool) (l : List UInt8) : ∀ c ∈ l.take (run p l), p c = true := by
  intro c hc
  have : l.take (run p l) = l.takeWhile p := by
    unfold run
    exact (List.prefix_iff_eq_take.1 (List.takeWhile_prefix p)).symm
  rw [this] at hc
  exact (List.all_eq_true.1 (List.all_takeWhile (l := l) (p := p)) c hc)

theorem lex_remark (n : Nat) (c d : UInt8) (r : List UInt8) (p : Nat × Nat) (hc : c.toNat = 45) (hd : d.toNat = 45) :
    lex (n + 1) (c :: d :: r) p = lex (n + 1) ((c :: d :: r).drop (run lineB (c :: d :: r))) (p.1, p.2 + run lineB (c :: d :: r)) := by
  have hb : blankB c = false := by simp only [blankB, Bool.or_eq_false_iff, decide_eq_false_iff_not]; omega
  have hge : gapB false (c :: d :: r) = gapB true (c :: d :: r) := by
    simp only [gapB, hb, Bool.false_eq_true, if_false, List.head?_cons, Option.map_some, hc, hd]
    simp
  have hle := run_le lineB (c :: d :: r)
  rw [lex_at, lex_at, hge, gapB_true]
  generalize c :: d :: r = l at *
  rw [List.take_add, adv_app, adv_line _ _ (run_take lineB l), List.drop_drop]
  have : (l.take (run lineB l)).length = run lineB l := by simp; omega
  rw [this]

theorem lex_word (n : Nat) (c : UInt8) (r : List UInt8) (p : Nat × Nat) (hb : blankB c = false) (hm : ¬ (c.toNat = 45 ∧ r.head?.map (·.toNat) = some 45)) : lex (n + 1) (c :: r) p = lexAt n (c :: r) p := by
  have hg : gapB false (c :: r) = 0 := by
    simp only [gapB, hb, Bool.false_eq_true, if_false]
    rw [if_neg hm]
  rw [lex_at, hg]
  rfl

theorem lex_none (n : Nat) (p : Nat × Nat) : lex (n + 1) [] p = .ok [⟨0, [], 0, p.1, p.2⟩] := rfl

def oneB (c : UInt8) : Bool := [40, 41, 61, 43, 45, 42, 47, 60, 62, 59, 58, 44, 124].contains c
def twoB (c d : UInt8) : Bool := (c == 60 && d == 62) || (c == 60 && d == 61) || (c == 62 && d == 61) || (c == 45 && d == 62)

theorem sign_one (c : UInt8) : sign [c] = if oneB c then .ok 5 [c] 0 else .bad 1 := by
  have h : ∀ n, n < 256 → (match sign [UInt8.ofNat n] with | .ok k t v => k == 5 && t == [UInt8.ofNat n] && v == 0 && oneB (UInt8.ofNat n) | .bad k => k == 1 && !oneB (UInt8.ofNat n)) = true := by decide +kernel
  have := h c.toNat c.toNat_lt
  rw [UInt8.ofNat_toNat] at this
  cases hs : sign [c] with
  | ok k t v =>
    rw [hs] at this
    simp only [Bool.and_eq_true, beq_iff_eq] at this
    obtain ⟨⟨⟨rfl, rfl⟩, rfl⟩, h4⟩ := this
    rw [h4]; rfl
  | bad k =>
    rw [hs] at this
    simp only [Bool.and_eq_true, beq_iff_eq, Bool.not_eq_true'] at this
    obtain ⟨rfl, h2⟩ := this
    rw [h2]; rfl

theorem pre_two (a b c d : UInt8) (r : List UInt8) : [a, b].isPrefixOf (c :: d :: r) = (a == c && b == d) := by simp [List.isPrefixOf]
theorem pre_one (a c d : UInt8) (r : List UInt8) : [a].isPrefixOf (c :: d :: r) = [a].isPrefixOf [c] := by simp [List.isPrefixOf]

theorem sign_more (c d : UInt8) (r : List UInt8) : sign (c :: d :: r) = if twoB c d then .ok 5 [c, d] 0 else sign [c] := by
  by_cases h1 : c = 60 ∧ d = 62
  · obtain ⟨rfl, rfl⟩ := h1; rfl
  by_cases h2 : c = 60 ∧ d = 61
  · obtain ⟨rfl, rfl⟩ := h2; rfl
  by_cases h3 : c = 62 ∧ d = 61
  · obtain ⟨rfl, rfl⟩ := h3; rfl
  by_cases h4 : c = 45 ∧ d = 62
  · obtain ⟨rfl, rfl⟩ := h4; rfl
  have ht : twoB c d = false := by
    simp only [twoB, Bool.or_eq_false_iff, Bool.and_eq_false_iff, beq_eq_false_iff_ne]
    refine ⟨⟨⟨?_, ?_⟩, ?_⟩, ?_⟩
    · by_cases e : c = 60
      · exact .inr fun f => h1 ⟨e, f⟩
      · exact .inl e
    · by_cases e : c = 60
      · exact .inr fun f => h2 ⟨e, f⟩
      · exact .inl e
    · by_cases e : c = 62
      · exact .inr fun f => h3 ⟨e, f⟩
      · exact .inl e
    · by_cases e : c = 45
      · exact .inr fun f => h4 ⟨e, f⟩
      · exact .inl e
  rw [ht]
  simp only [Bool.false_eq_true, if_false]
  have hn : ∀ a b : UInt8, ¬ (c = a ∧ d = b) → (a == c && b == d) = false := by
    intro a b h
    rw [Bool.and_eq_false_iff, beq_eq_false_iff_ne, beq_eq_false_iff_ne]
    by_cases e : a = c
    · exact .inr fun f => h ⟨e.symm, f.symm⟩
    · exact .inl e
  have p2 : ∀ a b : UInt8, [a, b].isPrefixOf [c] = false := by intro a b; simp [List.isPrefixOf]
  unfold sign signs
  simp only [List.find?_cons, List.find?_nil, pre_two, pre_one, hn _ _ h1, hn _ _ h2, hn _ _ h3, hn _ _ h4, p2]

/-- the first word of a text that begins with neither a digit nor a letter -/
theorem first_sign (c : UInt8) (r : List UInt8) (hd : digB c = false) (hl : letB c = false) : first (c :: r) = sign (c :: r) := by
  show (if digB c then _ else if letB c then _ else _) = _
  rw [hd, hl]; rfl
theorem first_name (c : UInt8) (r : List UInt8) (hl : letB c = true) : first (c :: r) = name (c :: r) := by
  have hd : digB c = false := by
    simp only [letB, smallB, greatB, digB, Bool.or_eq_true, Bool.and_eq_true, Bool.and_eq_false_iff, decide_eq_true_eq, decide_eq_false_iff_not] at hl ⊢
    omega
  show (if digB c then _ else if letB c then _ else _) = _
  rw [hd, hl]; rfl
theorem first_number (c : UInt8) (r : List UInt8) (hd : digB c = true) : first (c :: r) = number (c :: r) := by
  show (if digB c then _ else _) = _
  rw [hd]; rfl
end Go.Proofs.YtjjihijkkljbnaaDoor.lx
