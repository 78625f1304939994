/-
  A text that is cut behind a line's end: its words are those of both parts; plainly, on lists of bytes.
-/
import Derived.Test.YtjjihijkkljbnaaDoorLxPure
namespace Go.Proofs.YtjjihijkkljbnaaDoor.lx

theorem lex_at' (n : Nat) (l : List UInt8) (p : Nat × Nat) : lex (n + 1) l p = match first (l.drop (gapB false l)) with
    | .bad k => .bad k (adv (l.take (gapB false l)) p).1 (adv (l.take (gapB false l)) p).2
    | .ok k t v => if k = 0 then .ok [⟨k, t, v, (adv (l.take (gapB false l)) p).1, (adv (l.take (gapB false l)) p).2⟩] else (lex n (l.drop (gapB false l + t.length)) (adv t (adv (l.take (gapB false l)) p))).cons ⟨k, t, v, (adv (l.take (gapB false l)) p).1, (adv (l.take (gapB false l)) p).2⟩ := rfl

theorem gap_cut (m : Bool) (x b : List UInt8) : (gapB m (x ++ [10]) = x.length + 1 ∧ gapB m (x ++ 10 :: b) = x.length + 1 + gapB false b) ∨ (gapB m (x ++ [10]) < x.length ∧ gapB m (x ++ 10 :: b) = gapB m (x ++ [10])) := by
  induction x generalizing m with
  | nil => cases m <;> simp [gapB, blankB] <;> omega
  | cons c r ih =>
    have h1 := ih true
    have h2 := ih false
    have hh : (r ++ (10 : UInt8) :: b).head?.map (fun x : UInt8 => x.toNat) = (r ++ [(10 : UInt8)]).head?.map (fun x : UInt8 => x.toNat) := by cases r <;> simp
    cases m with
    | true =>
      simp only [List.cons_append, gapB, List.length_cons]
      (repeat' split) <;> omega
    | false =>
      simp only [List.cons_append, gapB, List.length_cons, hh]
      generalize gapB true (r ++ 10 :: b) = z1 at *
      generalize gapB false (r ++ 10 :: b) = z2 at *
      generalize gapB true (r ++ [10]) = z3 at *
      generalize gapB false (r ++ [10]) = z4 at *
      (repeat' split) <;> omega

theorem run_cut (p : UInt8 → Bool) (hp : p 10 = false) (x b : List UInt8) : run p (x ++ 10 :: b) = run p x := by
  induction x with
  | nil => simp [run, hp]
  | cons c r ih =>
    unfold run at ih ⊢
    simp only [List.cons_append, List.takeWhile_cons]
    split <;> simp_all

theorem head_cut (n : Nat) (x b : List UInt8) : ((x ++ 10 :: b).drop n).head? = if n ≤ x.length then some (((x.drop n) ++ [10]).headD 10) else (b.drop (n - x.length - 1)).head? := by
  split
  · rw [List.drop_append_of_le_length (by assumption)]
    cases x.drop n <;> simp
  · rw [List.drop_append]
    rw [List.drop_of_length_le (by omega)]
    obtain ⟨k, hk⟩ : ∃ k, n - x.length = k + 1 := ⟨n - x.length - 1, by omega⟩
    rw [hk]
    simp

theorem prefix_cut (t x b : List UInt8) (ht : (10 : UInt8) ∉ t) : t.isPrefixOf (x ++ 10 :: b) = t.isPrefixOf x := by
  induction t generalizing x with
  | nil => simp
  | cons c r ih =>
    have hc : c ≠ 10 := fun e => ht (by simp [e])
    have hr : (10 : UInt8) ∉ r := fun e => ht (by simp [e])
    cases x with
    | nil => simp [List.isPrefixOf, hc]
    | cons d y => simp [List.isPrefixOf, ih y hr]

theorem signs_no10 : ∀ t ∈ signs, (10 : UInt8) ∉ t := by decide

theorem sign_cut (x b : List UInt8) : sign (x ++ 10 :: b) = sign x := by
  unfold sign
  have : ∀ l : List (List UInt8), (∀ t ∈ l, (10 : UInt8) ∉ t) → l.find? (fun t => t.isPrefixOf (x ++ 10 :: b)) = l.find? (fun t => t.isPrefixOf x) := by
    intro l
    induction l with
    | nil => intro _; rfl
    | cons t r ih =>
      intro h
      simp only [List.find?_cons, prefix_cut t x b (h t (by simp)), ih (fun u hu => h u (by simp [hu]))]
  rw [this signs signs_no10]

theorem number_cut (x b : List UInt8) : number (x ++ 10 :: b) = number (x ++ [10]) := by
  have hle := run_le digB x
  have ht : ∀ b : List UInt8, (x ++ 10 :: b).take (run digB x) = x.take (run digB x) := fun b => List.take_append_of_le_length hle
  unfold number
  simp only [run_cut digB (by decide), ht, head_cut _ _ b, head_cut _ _ [], if_pos hle]

theorem name_cut (x b : List UInt8) : name (x ++ 10 :: b) = name x := by
  have hle := run_le nameB x
  have ht : ∀ b : List UInt8, (x ++ 10 :: b).take (run nameB x) = x.take (run nameB x) := fun b => List.take_append_of_le_length hle
  unfold name
  simp only [run_cut nameB (by decide), ht]

theorem first_cut (x b : List UInt8) (hx : x ≠ []) : first (x ++ 10 :: b) = first (x ++ [10]) := by
  cases x with
  | nil => exact absurd rfl hx
  | cons c r =>
    have h1 := number_cut (c :: r) b
    have h2 := (name_cut (c :: r) b).trans (name_cut (c :: r) []).symm
    have h3 := (sign_cut (c :: r) b).trans (sign_cut (c :: r) []).symm
    simp only [List.cons_append] at h1 h2 h3 ⊢
    unfold first
    simp only [h1, h2, h3]

/-- a word ahead of a line's end ends there -/
theorem first_fit (x b : List UInt8) (hx : x ≠ []) (k : Nat) (t : List UInt8) (v : Int) (h : first (x ++ 10 :: b) = .ok k t v) : k ≠ 0 ∧ 1 ≤ t.length ∧ t.length ≤ x.length := by
  cases x with
  | nil => exact absurd rfl hx
  | cons c r =>
    unfold first at h
    simp only [List.cons_append] at h
    by_cases hd : digB c = true
    · rw [if_pos hd] at h
      have hle := run_le digB (c :: r)
      have h1 : 1 ≤ run digB (c :: r) := by simp [run, hd]
      have hn := run_cut digB (by decide) (c :: r) b
      simp only [List.cons_append] at hn
      unfold number at h
      simp only [hn] at h
      (repeat' split at h) <;> first | (cases h; done) | skip
      all_goals
        simp only [Fst.ok.injEq] at h
        obtain ⟨rfl, rfl, _⟩ := h
        simp only [List.length_take, List.length_cons, List.length_append] at hle ⊢
        omega
    · rw [if_neg hd] at h
      by_cases hl : letB c = true
      · rw [if_pos hl] at h
        have hle := run_le nameB (c :: r)
        have h1 : 1 ≤ run nameB (c :: r) := by simp [run, nameB, hl]
        have hn := name_cut (c :: r) b
        simp only [List.cons_append] at hn
        rw [hn] at h
        unfold name at h
        simp only at h
        (repeat' split at h) <;> first | (cases h; done) | skip
        all_goals
          simp only [Fst.ok.injEq] at h
          obtain ⟨rfl, rfl, _⟩ := h
          simp only [List.length_take, List.length_cons] at hle ⊢
          omega
      · rw [if_neg hl] at h
        have hn := sign_cut (c :: r) b
        simp only [List.cons_append] at hn
        rw [hn] at h
        unfold sign at h
        split at h
        · rename_i t' hf
          have hp := List.find?_some hf
          have hm := List.mem_of_find?_eq_some hf
          rw [List.isPrefixOf_iff_prefix] at hp
          have h1 : ∀ u ∈ signs, 1 ≤ u.length := by decide
          have := h1 _ hm
          simp only [Fst.ok.injEq] at h
          obtain ⟨rfl, rfl, _⟩ := h
          exact ⟨by decide, this, hp.length_le⟩
        · cases h

def Res.app' (ts : List Tok) : Res → Res
  | .ok l => .ok (ts ++ l)
  | .bad k a b => .bad k a b

/-- from a place in the first part on -/
theorem lex_cut (n : Nat) : ∀ (x b : List UInt8) (p : Nat × Nat), x.length + 1 < n →
    (∃ k c d, lex n (x ++ [10]) p = .bad k c d ∧ ∀ N, x.length + 1 + b.length < N → lex N (x ++ 10 :: b) p = .bad k c d) ∨
    ∃ ts e q, lex n (x ++ [10]) p = .ok (ts ++ [e]) ∧ ∀ N, x.length + 1 + b.length < N → ∃ m, b.length < m ∧ lex N (x ++ 10 :: b) p = Res.app' ts (lex m b q) := by
  induction n with
  | zero => intro x b p h; omega
  | succ n ih =>
    intro x b p hn
    rcases gap_cut false x b with ⟨h1, h2⟩ | ⟨h1, h2⟩
    · right
      have hd : (x ++ [10]).drop (x.length + 1) = ([] : List UInt8) := List.drop_of_length_le (by simp)
      refine ⟨[], ⟨0, [], 0, (adv ((x ++ [10]).take (x.length + 1)) p).1, (adv ((x ++ [10]).take (x.length + 1)) p).2⟩, adv (x ++ [10]) p, ?_, ?_⟩
      · rw [lex_at', h1, hd]; rfl
      · intro N hN
        obtain ⟨N, rfl⟩ : ∃ M, N = M + 1 := ⟨N - 1, by omega⟩
        refine ⟨N + 1, by omega, ?_⟩
        have e : x ++ 10 :: b = (x ++ [10]) ++ b := by simp
        have hxl : (x ++ [(10 : UInt8)]).length = x.length + 1 := by simp
        have hd2 : ∀ j, (x ++ 10 :: b).drop (x.length + 1 + j) = b.drop j := by
          intro j
          rw [e, List.drop_append, List.drop_of_length_le (by rw [hxl]; omega), List.nil_append, hxl, Nat.add_sub_cancel_left]
        have ht2 : (x ++ 10 :: b).take (x.length + 1 + gapB false b) = (x ++ [10]) ++ b.take (gapB false b) := by
          rw [e, List.take_append, List.take_of_length_le (by rw [hxl]; omega), hxl, Nat.add_sub_cancel_left]
        have adv_app' : ∀ (l m : List UInt8) (p : Nat × Nat), adv (l ++ m) p = adv m (adv l p) := adv_app
        rw [lex_at', h2, hd2, ht2, adv_app', lex_at']
        cases first (b.drop (gapB false b)) with
        | bad k => rfl
        | ok k t v =>
          simp only [Nat.add_assoc]
          split
          · rfl
          · have h3 := hd2 (gapB false b + t.length)
            rw [Nat.add_assoc] at h3
            rw [h3]
            cases lex N (b.drop (gapB false b + t.length)) (adv t (adv (b.take (gapB false b)) (adv (x ++ [10]) p))) <;> rfl
    · have hle : gapB false (x ++ [10]) ≤ x.length := Nat.le_of_lt h1
      obtain ⟨y, hy⟩ : ∃ y, y = x.drop (gapB false (x ++ [10])) := ⟨_, rfl⟩
      have hyn : y ≠ [] := by
        intro e
        have := congrArg List.length hy
        rw [e] at this
        simp at this
        omega
      have hyl : y.length = x.length - gapB false (x ++ [10]) := by rw [hy]; simp
      have hd : ∀ b : List UInt8, (x ++ 10 :: b).drop (gapB false (x ++ [10])) = y ++ 10 :: b := by
        intro b; rw [hy]; exact List.drop_append_of_le_length hle
      have ht : ∀ b : List UInt8, (x ++ 10 :: b).take (gapB false (x ++ [10])) = x.take (gapB false (x ++ [10])) := fun b => List.take_append_of_le_length hle
      have hq : adv (x.take (gapB false (x ++ [10]))) p = adv (x.take (gapB false (x ++ [10]))) p := rfl
      have hfc := first_cut y b hyn
      have e0 : lex (n + 1) (x ++ [10]) p = match first (y ++ [10]) with
          | .bad k => .bad k (adv (x.take (gapB false (x ++ [10]))) p).1 (adv (x.take (gapB false (x ++ [10]))) p).2
          | .ok k t v => if k = 0 then .ok [⟨k, t, v, (adv (x.take (gapB false (x ++ [10]))) p).1, (adv (x.take (gapB false (x ++ [10]))) p).2⟩] else (lex n ((y ++ [10]).drop t.length) (adv t (adv (x.take (gapB false (x ++ [10]))) p))).cons ⟨k, t, v, (adv (x.take (gapB false (x ++ [10]))) p).1, (adv (x.take (gapB false (x ++ [10]))) p).2⟩ := by
        rw [lex_at', hd [], ht []]
        simp only [← List.drop_drop, hd []]
      have e1 : ∀ N, lex (N + 1) (x ++ 10 :: b) p = match first (y ++ [10]) with
          | .bad k => .bad k (adv (x.take (gapB false (x ++ [10]))) p).1 (adv (x.take (gapB false (x ++ [10]))) p).2
          | .ok k t v => if k = 0 then .ok [⟨k, t, v, (adv (x.take (gapB false (x ++ [10]))) p).1, (adv (x.take (gapB false (x ++ [10]))) p).2⟩] else (lex N ((y ++ 10 :: b).drop t.length) (adv t (adv (x.take (gapB false (x ++ [10]))) p))).cons ⟨k, t, v, (adv (x.take (gapB false (x ++ [10]))) p).1, (adv (x.take (gapB false (x ++ [10]))) p).2⟩ := by
        intro N
        rw [lex_at', h2, hd b, ht b, hfc]
        simp only [← List.drop_drop, hd b]
      rw [e0]
      generalize adv (x.take (gapB false (x ++ [10]))) p = q at *
      cases hf : first (y ++ [10]) with
      | bad k =>
        left
        refine ⟨k, q.1, q.2, rfl, ?_⟩
        intro N hN
        obtain ⟨N, rfl⟩ : ∃ M, N = M + 1 := ⟨N - 1, by omega⟩
        rw [e1, hf]
      | ok k t v =>
        obtain ⟨g1, g2, g3⟩ := first_fit y [] hyn k t v hf
        have hdd : ∀ b : List UInt8, (y ++ 10 :: b).drop t.length = y.drop t.length ++ 10 :: b := fun b => List.drop_append_of_le_length g3
        have hzl : (y.drop t.length).length = y.length - t.length := by simp
        have := ih (y.drop t.length) b (adv t q) (by omega)
        simp only
        rw [if_neg g1, hdd []]
        rcases this with ⟨k', c, d, r1, r2⟩ | ⟨ts, e, q', r1, r2⟩
        · left
          refine ⟨k', c, d, by rw [r1]; rfl, ?_⟩
          intro N hN
          obtain ⟨N, rfl⟩ : ∃ M, N = M + 1 := ⟨N - 1, by omega⟩
          rw [e1, hf]
          simp only
          rw [if_neg g1, hdd b, r2 N (by omega)]
          rfl
        · right
          refine ⟨⟨k, t, v, q.1, q.2⟩ :: ts, e, q', by rw [r1]; rfl, ?_⟩
          intro N hN
          obtain ⟨N, rfl⟩ : ∃ M, N = M + 1 := ⟨N - 1, by omega⟩
          obtain ⟨m, hm, r3⟩ := r2 N (by omega)
          refine ⟨m, hm, ?_⟩
          rw [e1, hf]
          simp only
          rw [if_neg g1, hdd b, r3]
          cases lex m b q' <;> rfl

def strip' (t : Tok) : Nat × List UInt8 × Int := (t.kind, t.text, t.num)

/-- a text's words elsewhere -/
theorem lex_shift (n : Nat) : ∀ (m : Nat) (l : List UInt8) (p q : Nat × Nat), l.length < n → l.length < m →
    (∃ k c d c' d', lex n l p = .bad k c d ∧ lex m l q = .bad k c' d') ∨ ∃ ts us, lex n l p = .ok ts ∧ lex m l q = .ok us ∧ ts.map strip' = us.map strip' := by
  induction n with
  | zero => intro m l p q h; omega
  | succ n ih =>
    intro m l p q hn hm
    obtain ⟨m, rfl⟩ : ∃ M, m = M + 1 := ⟨m - 1, by omega⟩
    rw [lex_at', lex_at']
    cases hf : first (l.drop (gapB false l)) with
    | bad k => exact .inl ⟨k, _, _, _, _, rfl, rfl⟩
    | ok k t v =>
      simp only
      by_cases hk : k = 0
      · rw [if_pos hk, if_pos hk]
        exact .inr ⟨_, _, rfl, rfl, by simp [strip']⟩
      · rw [if_neg hk, if_neg hk]
        have hlt : (l.drop (gapB false l + t.length)).length < l.length := by
          rw [List.length_drop]
          by_cases he : l.drop (gapB false l) = []
          · rw [he] at hf
            simp only [first, Fst.ok.injEq] at hf
            omega
          · have h1 : gapB false l < l.length := by
              rcases Nat.lt_or_ge (gapB false l) l.length with h | h
              · exact h
              · exact absurd (List.drop_of_length_le h) he
            have : 1 ≤ t.length := by
              cases hx : l.drop (gapB false l) with
              | nil => exact absurd hx he
              | cons c r =>
                rw [hx] at hf
                unfold first at hf
                simp only at hf
                by_cases hd : digB c = true
                · rw [if_pos hd] at hf
                  have h1 : 1 ≤ run digB (c :: r) := by simp [run, hd]
                  unfold number at hf
                  simp only at hf
                  (repeat' split at hf) <;> first | (cases hf; done) | skip
                  all_goals
                    simp only [Fst.ok.injEq] at hf
                    obtain ⟨rfl, rfl, _⟩ := hf
                    simp only [List.length_take, List.length_cons]
                    omega
                · rw [if_neg hd] at hf
                  by_cases hl : letB c = true
                  · rw [if_pos hl] at hf
                    have h1 : 1 ≤ run nameB (c :: r) := by simp [run, nameB, hl]
                    unfold name at hf
                    simp only at hf
                    (repeat' split at hf) <;> first | (cases hf; done) | skip
                    all_goals
                      simp only [Fst.ok.injEq] at hf
                      obtain ⟨rfl, rfl, _⟩ := hf
                      simp only [List.length_take, List.length_cons]
                      omega
                  · rw [if_neg hl] at hf
                    unfold sign at hf
                    split at hf
                    · rename_i t' hg
                      have hmm := List.mem_of_find?_eq_some hg
                      have h1 : ∀ u ∈ signs, 1 ≤ u.length := by decide
                      have := h1 _ hmm
                      simp only [Fst.ok.injEq] at hf
                      obtain ⟨rfl, rfl, _⟩ := hf
                      exact this
                    · cases hf
            omega
        rcases ih m (l.drop (gapB false l + t.length)) (adv t (adv (l.take (gapB false l)) p)) (adv t (adv (l.take (gapB false l)) q)) (by omega) (by omega) with ⟨k', c, d, c', d', h1, h2⟩ | ⟨ts, us, h1, h2, h3⟩
        · exact .inl ⟨k', c, d, c', d', by rw [h1]; rfl, by rw [h2]; rfl⟩
        · exact .inr ⟨_, _, by rw [h1]; rfl, by rw [h2]; rfl, by simp [strip', h3]⟩

/-- THE CUT -/
theorem cut (a b : List UInt8) :
    (∃ k c d, lex ((a ++ [10]).length + 1) (a ++ [10]) (1, 1) = .bad k c d ∧ lex ((a ++ 10 :: b).length + 1) (a ++ 10 :: b) (1, 1) = .bad k c d) ∨
    (∃ ts e, lex ((a ++ [10]).length + 1) (a ++ [10]) (1, 1) = .ok (ts ++ [e]) ∧
      ((∃ k c d c' d', lex (b.length + 1) b (1, 1) = .bad k c d ∧ lex ((a ++ 10 :: b).length + 1) (a ++ 10 :: b) (1, 1) = .bad k c' d') ∨
       ∃ us vs, lex (b.length + 1) b (1, 1) = .ok us ∧ lex ((a ++ 10 :: b).length + 1) (a ++ 10 :: b) (1, 1) = .ok (ts ++ vs) ∧ us.map strip' = vs.map strip')) := by
  rcases lex_cut ((a ++ [10]).length + 1) a b (1, 1) (by simp) with ⟨k, c, d, h1, h2⟩ | ⟨ts, e, q, h1, h2⟩
  · exact .inl ⟨k, c, d, h1, h2 _ (by simp; omega)⟩
  · right
    obtain ⟨m, hm, h3⟩ := h2 ((a ++ 10 :: b).length + 1) (by simp; omega)
    refine ⟨ts, e, h1, ?_⟩
    rcases lex_shift (b.length + 1) m b (1, 1) q (by omega) hm with ⟨k, c, d, c', d', r1, r2⟩ | ⟨us, vs, r1, r2, r3⟩
    · exact .inl ⟨k, c, d, c', d', r1, by rw [h3, r2]; rfl⟩
    · exact .inr ⟨us, vs, r1, by rw [h3, r2]; rfl, r3⟩
end Go.Proofs.YtjjihijkkljbnaaDoor.lx
