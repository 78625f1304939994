/-
  Words in a row with gaps between them are read as these words: plainly, on lists of bytes.
-/
import Derived.Test.YtbhibfadccghmaaDoorLxWord
namespace Go.Proofs.YtbhibfadccghmaaDoor.lx
set_option linter.unusedVariables false

def GapOk (g : List UInt8) : Prop := ∀ rest, gapB false (g ++ rest) = g.length + gapB false rest
def IsWord (w : List UInt8) (k : Nat) (v : Int) : Prop := k ≠ 0 ∧ ∀ rest, gapB false (w ++ 32 :: rest) = 0 ∧ first (w ++ 32 :: rest) = .ok k w v

theorem run_word (p : UInt8 → Bool) (w rest : List UInt8) (h : ∀ c ∈ w, p c = true) (hs : p 32 = false) : run p (w ++ 32 :: rest) = w.length := by
  induction w with
  | nil => simp [run, hs]
  | cons c r ih =>
    have hc := h c (by simp)
    have := ih (fun x hx => h x (by simp [hx]))
    simp only [List.cons_append, List.length_cons]
    rw [← this]
    simp [run, hc]

theorem name_word (c : UInt8) (r : List UInt8) (hl : letB c = true) (h95 : c.toNat ≠ 95) (hr : ∀ x ∈ r, nameB x = true) (hlen : r.length ≤ 31) : ∃ k, IsWord (c :: r) k 0 := by
  have hd : digB c = false := by
    simp only [letB, smallB, greatB, digB, Bool.or_eq_true, Bool.and_eq_true, Bool.and_eq_false_iff, decide_eq_true_eq, decide_eq_false_iff_not] at hl ⊢
    omega
  have hg : ∀ rest, gapB false (c :: r ++ 32 :: rest) = 0 := by
    intro rest
    have hb : blankB c = false := by
      simp only [letB, smallB, greatB, blankB, Bool.or_eq_true, Bool.and_eq_true, Bool.or_eq_false_iff, decide_eq_true_eq, decide_eq_false_iff_not] at hl ⊢
      omega
    have h45 : c.toNat ≠ 45 := by
      simp only [letB, smallB, greatB, Bool.or_eq_true, Bool.and_eq_true, decide_eq_true_eq] at hl
      omega
    simp [gapB, hb, h45]
  have hall : ∀ x ∈ c :: r, nameB x = true := by
    intro x hx
    rcases List.mem_cons.1 hx with rfl | hx
    · simp [nameB, hl]
    · exact hr x hx
  have hn : ∀ rest, name (c :: r ++ 32 :: rest) = if keyB (c :: r) then .ok 4 (c :: r) 0 else if greatB c then .ok 3 (c :: r) 0 else .ok 2 (c :: r) 0 := by
    intro rest
    have hrun := run_word nameB (c :: r) rest hall (by decide)
    unfold name
    simp only [hrun]
    have ht : (c :: r ++ 32 :: rest).take (c :: r).length = c :: r := by simp
    rw [ht, if_neg (by simp; omega), if_neg (by simpa using h95)]
    simp
  refine ⟨if keyB (c :: r) then 4 else if greatB c then 3 else 2, ?_, fun rest => ⟨hg rest, ?_⟩⟩
  · (repeat' split) <;> decide
  · show (if digB c then _ else if letB c then name (c :: r ++ 32 :: rest) else _) = _
    rw [if_neg (by rw [hd]; simp), if_pos hl, hn]
    (repeat' split) <;> rfl

theorem val_lt (l : List UInt8) (v : Nat) (h : ∀ c ∈ l, digB c = true) : l.foldl (fun v c => min (10 * v + (c.toNat - 48)) 2147483649) v < (v + 1) * 10 ^ l.length := by
  induction l generalizing v with
  | nil => simp
  | cons c r ih =>
    have hc := h c (by simp)
    simp only [digB, Bool.and_eq_true, decide_eq_true_eq] at hc
    have := ih (min (10 * v + (c.toNat - 48)) 2147483649) (fun x hx => h x (by simp [hx]))
    simp only [List.foldl_cons, List.length_cons]
    refine Nat.lt_of_lt_of_le this ?_
    rw [Nat.pow_succ]
    have h1 : min (10 * v + (c.toNat - 48)) 2147483649 + 1 ≤ (v + 1) * 10 := by omega
    calc (min (10 * v + (c.toNat - 48)) 2147483649 + 1) * 10 ^ r.length ≤ ((v + 1) * 10) * 10 ^ r.length := Nat.mul_le_mul_right _ h1
      _ = (v + 1) * (10 ^ r.length * 10) := by rw [Nat.mul_assoc, Nat.mul_comm 10]

theorem number_word (r : List UInt8) (hr : ∀ x ∈ r, digB x = true) (hlen : r.length ≤ 8) : ∃ v, IsWord (55 :: r) 1 v := by
  have hall : ∀ x ∈ (55 : UInt8) :: r, digB x = true := by
    intro x hx
    rcases List.mem_cons.1 hx with rfl | hx
    · decide
    · exact hr x hx
  have hv : valF (55 :: r) < 800000000 := by
    have := val_lt r 7 hr
    have e : valF (55 :: r) = r.foldl (fun v c => min (10 * v + (c.toNat - 48)) 2147483649) 7 := rfl
    rw [e]
    refine Nat.lt_of_lt_of_le this ?_
    calc (7 + 1) * 10 ^ r.length ≤ 8 * 10 ^ 8 := Nat.mul_le_mul_left _ (Nat.pow_le_pow_right (by decide) hlen)
      _ = 800000000 := by decide
  refine ⟨(valF (55 :: r) : Int), by decide, fun rest => ⟨by simp [gapB, blankB], ?_⟩⟩
  have hf : first ((55 : UInt8) :: r ++ 32 :: rest) = number ((55 : UInt8) :: r ++ 32 :: rest) := rfl
  rw [hf]
  have hrun := run_word digB (55 :: r) rest hall (by decide)
  unfold number
  simp only [hrun]
  have ht : ((55 : UInt8) :: r ++ 32 :: rest).take ((55 : UInt8) :: r).length = 55 :: r := by simp
  have hd : ((55 : UInt8) :: r ++ 32 :: rest).drop ((55 : UInt8) :: r).length = 32 :: rest := by simp
  rw [ht, hd, if_neg (by omega), if_neg (by show ¬ (some (letB 32) = some true); decide), if_neg (by omega)]

def nameLike : List UInt8 → Bool
  | [] => false
  | c :: r => letB c && decide (c.toNat ≠ 95) && r.all nameB && decide (r.length ≤ 31)

theorem keys_word : ∀ j, j < 32 → ∃ k v, IsWord (keys.getD j []) k v := by
  intro j hj
  have h : ∀ j, j < 32 → nameLike (keys.getD j []) = true := by decide
  have := h j hj
  cases hk : keys.getD j [] with
  | nil => rw [hk] at this; cases this
  | cons c r =>
    rw [hk] at this
    simp only [nameLike, Bool.and_eq_true, decide_eq_true_eq, List.all_eq_true] at this
    obtain ⟨⟨⟨h1, h2⟩, h3⟩, h4⟩ := this
    obtain ⟨k, hkk⟩ := name_word c r h1 h2 h3 h4
    exact ⟨k, 0, hkk⟩

theorem signs_word (j : Nat) (hj : j < 17) : ∃ k v, IsWord (signsW.getD j []) k v := by
  refine ⟨5, 0, by decide, fun rest => ?_⟩
  match j, hj with
  | 0, _ => exact ⟨rfl, rfl⟩
  | 1, _ => exact ⟨rfl, rfl⟩
  | 2, _ => exact ⟨rfl, rfl⟩
  | 3, _ => exact ⟨rfl, rfl⟩
  | 4, _ => exact ⟨rfl, rfl⟩
  | 5, _ => exact ⟨rfl, rfl⟩
  | 6, _ => exact ⟨rfl, rfl⟩
  | 7, _ => exact ⟨rfl, rfl⟩
  | 8, _ => exact ⟨rfl, rfl⟩
  | 9, _ => exact ⟨rfl, rfl⟩
  | 10, _ => exact ⟨rfl, rfl⟩
  | 11, _ => exact ⟨rfl, rfl⟩
  | 12, _ => exact ⟨rfl, rfl⟩
  | 13, _ => exact ⟨rfl, rfl⟩
  | 14, _ => exact ⟨rfl, rfl⟩
  | 15, _ => exact ⟨rfl, rfl⟩
  | 16, _ => exact ⟨rfl, rfl⟩
  | k + 17, h => exact absurd h (by omega)

theorem letters_name : ∀ x, x < 10 → nameB (letters.getD x 0) = true := by decide
theorem digits_dig : ∀ x, x < 10 → digB (digits.getD x 0) = true := by decide

theorem wordS_word (k : Nat) (ps : List Nat) : ∃ kk v, IsWord (wordS k ps) kk v := by
  have hl8 : ∀ f : Nat → UInt8, ((ps.take 8).map f).length ≤ 8 := fun f => by simp; omega
  have hmem : ∀ x ∈ (ps.take 8).map (fun x => letters.getD (x % 10) 0), nameB x = true := by
    intro x hx
    obtain ⟨y, _, rfl⟩ := List.mem_map.1 hx
    exact letters_name _ (Nat.mod_lt _ (by decide))
  have hmemd : ∀ x ∈ (ps.take 8).map (fun x => digits.getD (x % 10) 0), digB x = true := by
    intro x hx
    obtain ⟨y, _, rfl⟩ := List.mem_map.1 hx
    exact digits_dig _ (Nat.mod_lt _ (by decide))
  unfold wordS
  (repeat' split)
  · obtain ⟨kk, h⟩ := name_word 66 _ (by decide) (by decide) hmem (Nat.le_trans (hl8 _) (by decide))
    exact ⟨kk, 0, h⟩
  · obtain ⟨v, h⟩ := number_word _ hmemd (hl8 _)
    exact ⟨1, v, h⟩
  · exact keys_word _ (Nat.mod_lt _ (by decide))
  · exact signs_word _ (Nat.mod_lt _ (by decide))
  · obtain ⟨kk, h⟩ := name_word 97 _ (by decide) (by decide) hmem (Nat.le_trans (hl8 _) (by decide))
    exact ⟨kk, 0, h⟩

def src : List (List UInt8 × List UInt8) → List UInt8
  | [] => []
  | (w, g) :: r => w ++ (g ++ src r)

theorem src_app (l : List (List UInt8 × List UInt8)) (w g : List UInt8) : src (l ++ [(w, g)]) = src l ++ (w ++ g) := by
  induction l with
  | nil => simp [src]
  | cons x r ih => obtain ⟨a, b⟩ := x; simp [src, ih]

def strip (t : Tok) : Nat × List UInt8 × Int := (t.kind, t.text, t.num)
def info (w : List UInt8) : Nat × List UInt8 × Int := match first (w ++ [32]) with | .ok k t v => (k, t, v) | .bad _ => (0, [], 0)

theorem info_word {w : List UInt8} {k : Nat} {v : Int} (h : IsWord w k v) : info w = (k, w, v) := by
  have := (h.2 []).2
  unfold info
  rw [this]

theorem lex_src (l : List (List UInt8 × List UInt8)) (hl : ∀ x ∈ l, (∃ k v, IsWord x.1 k v) ∧ ∃ g, x.2 = 32 :: g ∧ GapOk x.2) :
    ∀ (g0 : List UInt8) (n : Nat) (p : Nat × Nat), GapOk g0 → (g0 ++ src l).length < n → ∃ ts, lex n (g0 ++ src l) p = .ok ts ∧ ts.map strip = l.map (fun x => info x.1) ++ [(0, [], 0)] := by
  induction l with
  | nil =>
    intro g0 n p hg hn
    obtain ⟨m, rfl⟩ : ∃ m, n = m + 1 := ⟨n - 1, by omega⟩
    have e : gapB false (g0 ++ src []) = g0.length := by rw [hg]; simp [src, gapB]
    rw [lex_at, e]
    have hd : (g0 ++ src []).drop g0.length = [] := by simp [src]
    rw [hd]
    exact ⟨_, rfl, rfl⟩
  | cons x r ih =>
    intro g0 n p hg hn
    obtain ⟨w, g⟩ := x
    obtain ⟨⟨k, v, hw⟩, g', hg', hgo⟩ := hl (w, g) (by simp)
    simp only at hg' hgo hw
    obtain ⟨m, rfl⟩ : ∃ m, n = m + 1 := ⟨n - 1, by omega⟩
    have hs : src ((w, g) :: r) = w ++ 32 :: (g' ++ src r) := by simp [src, hg']
    have hw2 := hw.2 (g' ++ src r)
    have e : gapB false (g0 ++ src ((w, g) :: r)) = g0.length := by rw [hg, hs, hw2.1]; rfl
    rw [lex_at, e]
    have hd : (g0 ++ src ((w, g) :: r)).drop g0.length = w ++ 32 :: (g' ++ src r) := by rw [hs]; simp
    rw [hd]
    unfold lexAt
    rw [hw2.2]
    simp only
    rw [if_neg hw.1]
    have hd2 : (w ++ 32 :: (g' ++ src r)).drop w.length = g ++ src r := by rw [hg']; simp
    rw [hd2]
    have hlen : (g ++ src r).length < m := by
      rw [hs] at hn
      rw [hg']
      have : 1 ≤ w.length := by
        cases w with
        | nil =>
          have := (hw.2 []).1
          simp [gapB, blankB] at this
        | cons c w => simp
      simp at hn ⊢
      omega
    obtain ⟨ts, h1, h2⟩ := ih (fun x hx => hl x (by simp [hx])) g m (adv w (adv ((g0 ++ src ((w, g) :: r)).take g0.length) p)) hgo hlen
    rw [h1]
    refine ⟨_, rfl, ?_⟩
    simp only [List.map_cons, List.cons_append, List.cons.injEq, h2, and_true]
    rw [info_word hw]; rfl

theorem words_src (l : List (List UInt8 × List UInt8)) (hl : ∀ x ∈ l, (∃ k v, IsWord x.1 k v) ∧ ∃ g, x.2 = 32 :: g ∧ GapOk x.2) (hz : (src l).length ≤ 65536) :
    ∃ ts, wordsR (src l) = .ok ts ∧ ts.map strip = l.map (fun x => info x.1) ++ [(0, [], 0)] := by
  obtain ⟨ts, h1, h2⟩ := lex_src l hl [] ((src l).length + 1) (1, 1) (fun rest => by simp) (by simp)
  refine ⟨ts, ?_, h2⟩
  unfold wordsR
  rw [if_neg (by omega)]
  exact h1
end Go.Proofs.YtbhibfadccghmaaDoor.lx
