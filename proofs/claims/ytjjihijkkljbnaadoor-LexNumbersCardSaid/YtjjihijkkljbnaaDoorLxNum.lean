/-
  A number, written out; plainly.
-/
import Derived.Test.YtjjihijkkljbnaaDoorLxPure
namespace Go.Proofs.YtjjihijkkljbnaaDoor.lx

/-- the value of digits -/
def numV (l : List UInt8) : Nat := l.foldl (fun v c => 10 * v + (c.toNat - 48)) 0
def allD (l : List UInt8) : Prop := ∀ c ∈ l, digB c = true

theorem foldF (l : List UInt8) (v : Nat) : l.foldl (fun v c => min (10 * v + (c.toNat - 48)) 2147483649) (min v 2147483649) = min (l.foldl (fun v c => 10 * v + (c.toNat - 48)) v) 2147483649 := by
  induction l generalizing v with
  | nil => rfl
  | cons c r ih =>
    simp only [List.foldl_cons]
    rw [← ih]
    congr 1
    omega

theorem valF_num (l : List UInt8) : valF l = min (numV l) 2147483649 := foldF l 0

theorem numV_cons (c : UInt8) (l : List UInt8) : numV (c :: l) = (c.toNat - 48) * 10 ^ l.length + numV l := by
  unfold numV
  have h : ∀ (l : List UInt8) (v : Nat), l.foldl (fun v c => 10 * v + (c.toNat - 48)) v = v * 10 ^ l.length + l.foldl (fun v c => 10 * v + (c.toNat - 48)) 0 := by
    intro l
    induction l with
    | nil => intro v; simp
    | cons d r ih =>
      intro v
      simp only [List.foldl_cons, List.length_cons]
      rw [ih, ih (10 * 0 + (d.toNat - 48)), Nat.pow_succ]
      simp only [Nat.mul_zero, Nat.zero_add, Nat.add_mul]
      rw [Nat.mul_comm 10 v, Nat.mul_assoc, Nat.mul_comm 10 (10 ^ r.length)]
      omega
  simp only [List.foldl_cons, Nat.mul_zero, Nat.zero_add]
  rw [h]

theorem numV_zeros (k : Nat) (l : List UInt8) : numV (List.replicate k 48 ++ l) = numV l := by
  induction k with
  | zero => rfl
  | succ k ih =>
    rw [List.replicate_succ, List.cons_append, numV_cons, ih]
    simp

/-- x is what is left of n, d are the digits so far -/
structure Digs (n x : Nat) (d : List UInt8) : Prop where
  val : n = x * 10 ^ d.length + numV d
  all : allD d
  nil : d = [] → x = n
  size : d.length ≤ 10

theorem Digs.start (n : Nat) : Digs n n [] := ⟨by simp [numV], fun c h => by simp at h, fun _ => rfl, by simp⟩

theorem dig_of (x : Nat) : (UInt8.ofNat (48 + x % 10)).toNat = 48 + x % 10 := by
  simp [UInt8.toNat_ofNat']
  omega

theorem Digs.step {n x : Nat} {d : List UInt8} (h : Digs n x d) (hn : n < 4294967296) (hc : 0 < x ∨ d = []) (c : UInt8) (hcv : c.toNat = 48 + x % 10) : Digs n (x / 10) (c :: d) := by
  have hv := h.val
  refine ⟨?_, ?_, ?_, ?_⟩
  · rw [numV_cons, List.length_cons, Nat.pow_succ, hcv]
    have e : x / 10 * (10 ^ d.length * 10) + ((48 + x % 10 - 48) * 10 ^ d.length + numV d) = x * 10 ^ d.length + numV d := by
      have h2 : x = x / 10 * 10 + x % 10 := by omega
      have h3 : 48 + x % 10 - 48 = x % 10 := by omega
      rw [h3]
      calc x / 10 * (10 ^ d.length * 10) + (x % 10 * 10 ^ d.length + numV d) = (x / 10 * 10 + x % 10) * 10 ^ d.length + numV d := by
            rw [Nat.add_mul, Nat.mul_comm (10 ^ d.length) 10, ← Nat.mul_assoc]; omega
        _ = x * 10 ^ d.length + numV d := by rw [← h2]
    rw [e]
    exact hv
  · intro y hy
    rcases List.mem_cons.1 hy with rfl | hy
    · simp only [digB, hcv, Bool.and_eq_true, decide_eq_true_eq]; omega
    · exact h.all y hy
  · intro e; cases e
  · rw [List.length_cons]
    rcases hc with hx | rfl
    · have h1 : 1 * 10 ^ d.length ≤ x * 10 ^ d.length := Nat.mul_le_mul_right _ hx
      have h2 : 10 ^ d.length < 10 ^ 10 := by
        have : (10 : Nat) ^ 10 = 10000000000 := by decide
        omega
      have := (Nat.pow_lt_pow_iff_right (by decide : 1 < 10)).1 h2
      omega
    · simp

theorem run_allD (p : UInt8 → Bool) (l r : List UInt8) (h : ∀ c ∈ l, p c = true) : run p (l ++ r) = l.length + run p r := by
  induction l with
  | nil => simp
  | cons c l ih =>
    have := ih (fun x hx => h x (by simp [hx]))
    have hc := h c (by simp)
    unfold run at this ⊢
    simp [hc, this]
    omega

theorem adv_digits (l : List UInt8) (h : allD l) (p : Nat × Nat) : adv l p = (p.1, p.2 + l.length) := by
  induction l generalizing p with
  | nil => rfl
  | cons c r ih =>
    have hc := h c (by simp)
    simp only [digB, Bool.and_eq_true, decide_eq_true_eq] at hc
    simp only [adv, List.length_cons]
    rw [if_neg (by omega), ih (fun x hx => h x (by simp [hx]))]
    simp
    omega

theorem lex_at2 (n : Nat) (l : List UInt8) (p : Nat × Nat) : lex (n + 1) l p = match first (l.drop (gapB false l)) with
    | .bad k => .bad k (adv (l.take (gapB false l)) p).1 (adv (l.take (gapB false l)) p).2
    | .ok k t v => if k = 0 then .ok [⟨k, t, v, (adv (l.take (gapB false l)) p).1, (adv (l.take (gapB false l)) p).2⟩] else (lex n (l.drop (gapB false l + t.length)) (adv t (adv (l.take (gapB false l)) p))).cons ⟨k, t, v, (adv (l.take (gapB false l)) p).1, (adv (l.take (gapB false l)) p).2⟩ := rfl

/-- of text that begins with a digit -/
theorem lex_digit (n : Nat) (c : UInt8) (r : List UInt8) (hc : digB c = true) (p : Nat × Nat) : lex (n + 1) (c :: r) p = match number (c :: r) with
    | .bad k => .bad k p.1 p.2
    | .ok k t v => if k = 0 then .ok [⟨k, t, v, p.1, p.2⟩] else (lex n ((c :: r).drop t.length) (adv t p)).cons ⟨k, t, v, p.1, p.2⟩ := by
  have hg : gapB false (c :: r) = 0 := by
    simp only [digB, Bool.and_eq_true, decide_eq_true_eq] at hc
    have hb : blankB c = false := by simp only [blankB, Bool.or_eq_false_iff, decide_eq_false_iff_not]; omega
    have h45 : c.toNat ≠ 45 := by omega
    simp [gapB, hb, h45]
  rw [lex_at2, hg]
  simp only [List.drop_zero, List.take_zero, adv, Nat.zero_add]
  have hf : first (c :: r) = number (c :: r) := by show (if digB c then _ else _) = _; rw [if_pos hc]
  rw [hf]

theorem number_all (l : List UInt8) (h : allD l) : number l = if 2147483648 < numV l then .bad 3 else .ok 1 l (if numV l = 2147483648 then -2147483648 else numV l) := by
  have hr := run_allD digB l [] h
  rw [List.append_nil] at hr
  have hr : run digB l = l.length := by simpa [run] using hr
  unfold number
  simp only [hr, List.take_length, List.drop_length, valF_num]
  by_cases hb : 2147483648 < numV l
  · rw [if_pos (by omega), if_pos hb]
  · rw [if_neg (by omega), if_neg hb, if_neg (by simp)]
    rw [show min (numV l) 2147483649 = numV l by omega]

/-- THE NUMBER BY ITSELF -/
theorem lex_number (l : List UInt8) (h : allD l) (hl : l ≠ []) : lex (l.length + 1) l (1, 1) = if 2147483648 < numV l then .bad 3 1 1 else .ok [⟨1, l, if numV l = 2147483648 then -2147483648 else numV l, 1, 1⟩, ⟨0, [], 0, 1, 1 + l.length⟩] := by
  cases l with
  | nil => exact absurd rfl hl
  | cons c r =>
    rw [lex_digit _ c r (h c (by simp)), number_all _ h]
    by_cases hb : 2147483648 < numV (c :: r)
    · rw [if_pos hb, if_pos hb]
    · rw [if_neg hb, if_neg hb]
      have hdl : (c :: r).drop (c :: r).length = ([] : List UInt8) := List.drop_length
      simp only [Nat.one_ne_zero, if_false]
      rw [hdl, adv_digits _ h, show (c :: r).length = r.length + 1 from rfl, lex_at2]
      rfl

/-- A LETTER BEHIND IT -/
theorem lex_letter (l : List UInt8) (h : allD l) (hl : l ≠ []) (c : UInt8) (hc : letB c = true) (hv : numV l ≤ 2147483648) (n : Nat) : lex (n + 1) (l ++ [c]) (1, 1) = .bad 1 1 1 := by
  have hd : digB c = false := by
    simp only [letB, smallB, greatB, digB, Bool.or_eq_true, Bool.and_eq_true, Bool.and_eq_false_iff, decide_eq_true_eq, decide_eq_false_iff_not] at hc ⊢
    omega
  have hr := run_allD digB l [c] h
  have hr : run digB (l ++ [c]) = l.length := by rw [hr]; simp [run, hd]
  cases l with
  | nil => exact absurd rfl hl
  | cons x r =>
    rw [List.cons_append, lex_digit _ x (r ++ [c]) (h x (by simp)), ← List.cons_append]
    have : number (x :: r ++ [c]) = .bad 1 := by
      unfold number
      have ht : (x :: r ++ [c]).take (x :: r).length = x :: r := by simp
      have hdr : (x :: r ++ [c]).drop (x :: r).length = [c] := by simp
      simp only [hr, ht, hdr, valF_num]
      rw [if_neg (by omega), if_pos (by simp [hc])]
    rw [this]

theorem lex_some (n : Nat) (l : List UInt8) (p : Nat × Nat) (ts : List Tok) (h : lex (n + 1) l p = .ok ts) : 1 ≤ ts.length := by
  rw [lex_at2] at h
  split at h
  · cases h
  · split at h
    · cases h; simp
    · generalize lex n _ _ = X at h
      cases X with
      | bad k a b => cases h
      | ok l => simp only [Res.cons, Res.ok.injEq] at h; rw [← h]; simp

/-- ANYTHING BEHIND IT -/
theorem lex_behind (l : List UInt8) (h : allD l) (hl : l ≠ []) (c : UInt8) (n : Nat) (ts : List Tok) (hx : lex (n + 2) (l ++ [c]) (1, 1) = .ok ts) : 2 ≤ ts.length := by
  cases l with
  | nil => exact absurd rfl hl
  | cons x r =>
    rw [List.cons_append, lex_digit _ x (r ++ [c]) (h x (by simp)), ← List.cons_append] at hx
    split at hx
    · cases hx
    · rename_i k t v hn
      have hk : k = 1 := by
        unfold number at hn
        simp only at hn
        (repeat' split at hn) <;> first | (cases hn; done) | (simp only [Fst.ok.injEq] at hn; exact hn.1.symm)
      rw [if_neg (by omega)] at hx
      cases hX : lex (n + 1) ((x :: r ++ [c]).drop t.length) (adv t (1, 1)) with
      | bad k a b => rw [hX] at hx; cases hx
      | ok m =>
        have := lex_some n _ _ m hX
        rw [hX] at hx
        simp only [Res.cons, Res.ok.injEq] at hx
        rw [← hx]
        simp
        omega
end Go.Proofs.YtjjihijkkljbnaaDoor.lx
