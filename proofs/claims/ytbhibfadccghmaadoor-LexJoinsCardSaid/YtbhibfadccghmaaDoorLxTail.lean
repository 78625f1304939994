/-
  Words joined with blanks, the last at the text's end: plainly, on lists of bytes.
-/
import Derived.Test.YtbhibfadccghmaaDoorLxJoin
namespace Go.Proofs.YtbhibfadccghmaaDoor.lx
open Go.ChangeShapes Go.WideShapes Go.ChangeAt Go.RowKit
set_option linter.unusedVariables false

def EndSame (w : List UInt8) : Prop := w ≠ [] ∧ gapB false w = 0 ∧ first w = first (w ++ [32])

theorem run_end (p : UInt8 → Bool) (w : List UInt8) (hs : p 32 = false) : run p (w ++ [32]) = run p w := by
  induction w with
  | nil => simp [run, hs]
  | cons c r ih =>
    simp only [run, List.cons_append, List.takeWhile_cons] at ih ⊢
    split
    · simp [ih]
    · rfl
theorem run_le' (p : UInt8 → Bool) (w : List UInt8) : run p w ≤ w.length := (List.takeWhile_sublist p).length_le

theorem number_end (w : List UInt8) : number (w ++ [32]) = number w := by
  unfold number
  have hr := run_end digB w (by decide)
  have hl := run_le' digB w
  simp only [hr]
  have ht : (w ++ [32]).take (run digB w) = w.take (run digB w) := List.take_append_of_le_length hl
  have hd : ((w ++ [32]).drop (run digB w)) = w.drop (run digB w) ++ [32] := List.drop_append_of_le_length hl
  rw [ht, hd]
  cases w.drop (run digB w) with
  | nil => rfl
  | cons c r => rfl

theorem name_end (w : List UInt8) : name (w ++ [32]) = name w := by
  unfold name
  have hr := run_end nameB w (by decide)
  have hl := run_le' nameB w
  simp only [hr]
  have ht : (w ++ [32]).take (run nameB w) = w.take (run nameB w) := List.take_append_of_le_length hl
  rw [ht]

theorem gap_end (c : UInt8) (r : List UInt8) (h : gapB false (c :: r ++ [32]) = 0) : gapB false (c :: r) = 0 := by
  simp only [List.cons_append, gapB] at h ⊢
  cases r with
  | nil =>
    simp only [List.nil_append] at h
    (repeat' split at h)
    · omega
    · omega
    · rename_i h1 h2
      rw [if_neg h1, if_neg (by simp)]
  | cons d r =>
    (repeat' split at h)
    · omega
    · omega
    · rename_i h1 h2
      rw [if_neg h1, if_neg (by simpa using h2)]

theorem end_of (c : UInt8) (r : List UInt8) (h : digB c = true ∨ letB c = true) {k : Nat} {v : Int} (hw : IsWord (c :: r) k v) : EndSame (c :: r) := by
  refine ⟨by simp, gap_end c r (hw.2 []).1, ?_⟩
  show (if digB c then number (c :: r) else if letB c then name (c :: r) else _) = (if digB c then number (c :: r ++ [32]) else if letB c then name (c :: r ++ [32]) else _)
  by_cases hd : digB c = true
  · rw [if_pos hd, if_pos hd, number_end]
  · have hl := h.resolve_left hd
    rw [if_neg hd, if_neg hd, if_pos hl, if_pos hl, name_end]

theorem signs_end (j : Nat) (hj : j < 17) : EndSame (signsW.getD j []) := by
  match j, hj with
  | 0, _ => exact ⟨by decide, rfl, rfl⟩
  | 1, _ => exact ⟨by decide, rfl, rfl⟩
  | 2, _ => exact ⟨by decide, rfl, rfl⟩
  | 3, _ => exact ⟨by decide, rfl, rfl⟩
  | 4, _ => exact ⟨by decide, rfl, rfl⟩
  | 5, _ => exact ⟨by decide, rfl, rfl⟩
  | 6, _ => exact ⟨by decide, rfl, rfl⟩
  | 7, _ => exact ⟨by decide, rfl, rfl⟩
  | 8, _ => exact ⟨by decide, rfl, rfl⟩
  | 9, _ => exact ⟨by decide, rfl, rfl⟩
  | 10, _ => exact ⟨by decide, rfl, rfl⟩
  | 11, _ => exact ⟨by decide, rfl, rfl⟩
  | 12, _ => exact ⟨by decide, rfl, rfl⟩
  | 13, _ => exact ⟨by decide, rfl, rfl⟩
  | 14, _ => exact ⟨by decide, rfl, rfl⟩
  | 15, _ => exact ⟨by decide, rfl, rfl⟩
  | 16, _ => exact ⟨by decide, rfl, rfl⟩
  | k + 17, h => exact absurd h (by omega)

theorem keys_end (j : Nat) (hj : j < 32) : EndSame (keys.getD j []) := by
  have h : ∀ j, j < 32 → nameLike (keys.getD j []) = true := by decide
  have h1 := h j hj
  obtain ⟨k, v, hw⟩ := keys_word j hj
  cases hk : keys.getD j [] with
  | nil => rw [hk] at h1; cases h1
  | cons c r =>
    rw [hk] at h1 hw
    simp only [nameLike, Bool.and_eq_true] at h1
    exact end_of c r (.inr h1.1.1.1) hw

theorem wordS_end (k : Nat) (ps : List Nat) : EndSame (wordS k ps) := by
  obtain ⟨kk, v, hw⟩ := wordS_word k ps
  unfold wordS at hw ⊢
  split
  · rename_i h; rw [if_pos h] at hw; exact end_of _ _ (.inr (by decide)) hw
  · rename_i h; rw [if_neg h] at hw
    split
    · rename_i h; rw [if_pos h] at hw; exact end_of _ _ (.inl (by decide)) hw
    · rename_i h; rw [if_neg h] at hw
      split
      · exact keys_end _ (Nat.mod_lt _ (by decide))
      · rename_i h; rw [if_neg h] at hw
        split
        · exact signs_end _ (Nat.mod_lt _ (by decide))
        · rename_i h; rw [if_neg h] at hw; exact end_of _ _ (.inr (by decide)) hw

theorem lex_nil (m : Nat) (p : Nat × Nat) (hm : 1 ≤ m) : lex m [] p = .ok [⟨0, [], 0, p.1, p.2⟩] := by
  obtain ⟨m, rfl⟩ : ∃ n, m = n + 1 := ⟨m - 1, by omega⟩
  rfl

theorem lex_last (w : List UInt8) (k : Nat) (v : Int) (hw : IsWord w k v) (he : EndSame w) (g0 : List UInt8) (n : Nat) (p : Nat × Nat) (hg : GapOk g0) (hn : (g0 ++ w).length < n) :
    ∃ ts, lex n (g0 ++ w) p = .ok ts ∧ ts.map strip = [info w, (0, [], 0)] := by
  obtain ⟨m, rfl⟩ : ∃ m, n = m + 1 := ⟨n - 1, by omega⟩
  have e : gapB false (g0 ++ w) = g0.length := by rw [hg, he.2.1]; rfl
  rw [lex_at, e]
  have hd : (g0 ++ w).drop g0.length = w := by simp
  rw [hd]
  unfold lexAt
  have hf : first w = .ok k w v := by rw [he.2.2]; exact (hw.2 []).2
  rw [hf]
  simp only
  rw [if_neg hw.1]
  have hd2 : w.drop w.length = [] := by simp
  have hl : 1 ≤ w.length := by
    have := he.1
    cases w with
    | nil => exact absurd rfl this
    | cons c r => simp
  rw [hd2, lex_nil m _ (by simp at hn; omega)]
  refine ⟨_, rfl, ?_⟩
  rw [info_word hw]
  rfl

theorem lex_tail (T : List UInt8) (S : List (Nat × List UInt8 × Int)) (hT : ∀ (g0 : List UInt8) (n : Nat) (p : Nat × Nat), GapOk g0 → (g0 ++ T).length < n → ∃ ts, lex n (g0 ++ T) p = .ok ts ∧ ts.map strip = S)
    (l : List (List UInt8 × List UInt8)) (hl : ∀ x ∈ l, (∃ k v, IsWord x.1 k v) ∧ ∃ g, x.2 = 32 :: g ∧ GapOk x.2) :
    ∀ (g0 : List UInt8) (n : Nat) (p : Nat × Nat), GapOk g0 → (g0 ++ (src l ++ T)).length < n → ∃ ts, lex n (g0 ++ (src l ++ T)) p = .ok ts ∧ ts.map strip = l.map (fun x => info x.1) ++ S := by
  induction l with
  | nil =>
    intro g0 n p hg hn
    simpa [src] using hT g0 n p hg (by simpa [src] using hn)
  | cons x r ih =>
    intro g0 n p hg hn
    obtain ⟨w, g⟩ := x
    obtain ⟨⟨k, v, hw⟩, g', hg', hgo⟩ := hl (w, g) (by simp)
    simp only at hg' hgo hw
    obtain ⟨m, rfl⟩ : ∃ m, n = m + 1 := ⟨n - 1, by omega⟩
    have hs : src ((w, g) :: r) ++ T = w ++ 32 :: (g' ++ (src r ++ T)) := by simp [src, hg']
    have hw2 := hw.2 (g' ++ (src r ++ T))
    have e : gapB false (g0 ++ (src ((w, g) :: r) ++ T)) = g0.length := by rw [hg, hs, hw2.1]; rfl
    rw [lex_at, e]
    have hd : (g0 ++ (src ((w, g) :: r) ++ T)).drop g0.length = w ++ 32 :: (g' ++ (src r ++ T)) := by rw [hs]; simp
    rw [hd]
    unfold lexAt
    rw [hw2.2]
    simp only
    rw [if_neg hw.1]
    have hd2 : (w ++ 32 :: (g' ++ (src r ++ T))).drop w.length = g ++ (src r ++ T) := by rw [hg']; simp
    rw [hd2]
    have hlen : (g ++ (src r ++ T)).length < m := by
      rw [hs] at hn
      rw [hg']
      have : 1 ≤ w.length := by
        cases w with
        | nil =>
          have := (hw.2 []).1
          simp [gapB, blankB] at this
        | cons c w => simp
      simp at hn ⊢
      omega
    obtain ⟨ts, h1, h2⟩ := ih (fun x hx => hl x (by simp [hx])) g m (adv w (adv ((g0 ++ (src ((w, g) :: r) ++ T)).take g0.length) p)) hgo hlen
    rw [h1]
    refine ⟨_, rfl, ?_⟩
    simp only [List.map_cons, List.cons_append, List.cons.injEq, h2, and_true]
    rw [info_word hw]; rfl

theorem joinS_len (l : List Tok) (h : ∀ i (hi : i < l.length), l[i].text.length ≤ 39) : ∀ i, (joinS (l.take i)).length ≤ i * 40 := by
  intro i
  induction i with
  | zero => simp [joinS, joinFrom]
  | succ i ih =>
    by_cases hi : i < l.length
    · rw [joinS_take l i hi, List.length_append]
      have h1 := h i hi
      have : (joinTok i l[i]).length ≤ 40 := by unfold joinTok; split <;> simp <;> omega
      omega
    · rw [List.take_of_length_le (by omega)]
      rw [List.take_of_length_le (by omega)] at ih
      omega

/-- what is known of the tokens of words in a row -/
structure Row (ws : List (List UInt8)) (ts : List Tok) : Prop where
  same : ts.map strip = ws.map info ++ [(0, [], 0)]
  ok : ∀ x ∈ ws, (∃ k v, IsWord x k v) ∧ EndSame x ∧ x.length ≤ 9

theorem Row.len {ws : List (List UInt8)} {ts : List Tok} (h : Row ws ts) : ts.length = ws.length + 1 := by have := congrArg List.length h.same; simpa using this

theorem Row.at {ws : List (List UInt8)} {ts : List Tok} (h : Row ws ts) (i : Nat) (hi : i < ws.length) (hi2 : i < ts.length) : ts[i].text = ws[i] ∧ ts[i].kind ≠ 0 := by
  have h1 : (ts.map strip)[i]? = (ws.map info ++ [(0, [], 0)])[i]? := by rw [h.same]
  rw [List.getElem?_append_left (by simpa using hi), List.getElem?_map, List.getElem?_map, List.getElem?_eq_getElem hi2, List.getElem?_eq_getElem hi] at h1
  obtain ⟨⟨k, v, hw⟩, _⟩ := h.ok ws[i] (List.getElem_mem _)
  simp only [Option.map_some, Option.some.injEq, info_word hw, strip, Prod.mk.injEq] at h1
  exact ⟨h1.2.1, by rw [h1.1]; exact hw.1⟩

theorem Row.last {ws : List (List UInt8)} {ts : List Tok} (h : Row ws ts) (hi2 : ws.length < ts.length) : ts[ws.length].text = [] ∧ ts[ws.length].kind = 0 := by
  have h1 : (ts.map strip)[ws.length]? = (ws.map info ++ [(0, [], 0)])[ws.length]? := by rw [h.same]
  rw [List.getElem?_append_right (by simp), List.getElem?_map, List.getElem?_eq_getElem hi2] at h1
  simp [strip] at h1
  exact ⟨h1.2.1, h1.1⟩

theorem Row.text_le {ws : List (List UInt8)} {ts : List Tok} (h : Row ws ts) (i : Nat) (hi : i < ts.length) : ts[i].text.length ≤ 39 := by
  by_cases hw : i < ws.length
  · rw [(h.at i hw hi).1]
    have := (h.ok ws[i] (List.getElem_mem _)).2.2
    omega
  · have := h.len
    obtain rfl : i = ws.length := by omega
    rw [(h.last hi).1]
    simp

theorem Row.joined {ws : List (List UInt8)} {ts : List Tok} (h : Row ws ts) : joinS ts = joinS (ts.take ws.length) := by
  have hl := h.len
  have h1 := joinS_take ts ws.length (by omega)
  rw [List.take_of_length_le (by omega)] at h1
  rw [h1]
  have h2 := h.last (by omega)
  simp [joinTok, h2.1, h2.2]

theorem Row.step {ws : List (List UInt8)} {ts : List Tok} (h : Row ws ts) (i : Nat) (hi : i < ws.length) : joinS (ts.take (i + 1)) = joinS (ts.take i) ++ ((if 0 < i then [32] else []) ++ ws[i]) := by
  have hl := h.len
  rw [joinS_take ts i (by omega)]
  have h2 := h.at i hi (by omega)
  simp [joinTok, h2.1, h2.2]

theorem Row.srcs {ws : List (List UInt8)} {ts : List Tok} (h : Row ws ts) : ∀ i (hi : i < ws.length), joinS (ts.take (i + 1)) = src ((ws.take i).map fun x => (x, [32])) ++ ws[i] := by
  intro i
  induction i with
  | zero =>
    intro hi
    rw [h.step 0 hi]
    simp [joinS, joinFrom, src]
  | succ i ih =>
    intro hi
    rw [h.step (i + 1) hi, ih (by omega)]
    rw [List.take_add_one, List.getElem?_eq_getElem (by omega)]
    simp only [Option.toList, List.map_append, List.map_cons, List.map_nil]
    rw [src_app]
    simp

theorem Row.back {ws : List (List UInt8)} {ts : List Tok} (h : Row ws ts) (hz : ws.length ≤ 1000) : ∃ us, wordsR (joinS ts) = .ok us ∧ us.map strip = ts.map strip := by
  have hlen : (joinS ts).length ≤ 65536 := by
    have := joinS_len ts h.text_le ts.length
    rw [List.take_length] at this
    have := h.len
    omega
  unfold wordsR
  rw [if_neg (by omega)]
  rw [h.joined] at hlen ⊢
  rw [h.same]
  by_cases h0 : ws = []
  · subst h0
    refine ⟨_, lex_nil _ _ (by omega), rfl⟩
  · have hp : 0 < ws.length := List.length_pos_iff.2 h0
    have hs := h.srcs (ws.length - 1) (by omega)
    rw [show ws.length - 1 + 1 = ws.length by omega] at hs
    rw [hs]
    have hlast := h.ok ws[ws.length - 1] (List.getElem_mem _)
    obtain ⟨⟨k, v, hw⟩, he, _⟩ := hlast
    obtain ⟨us, h1, h2⟩ := lex_tail ws[ws.length - 1] [info ws[ws.length - 1], (0, [], 0)] (fun g0 n p hg hn => lex_last _ k v hw he g0 n p hg hn) ((ws.take (ws.length - 1)).map fun x => (x, [32])) (fun x hx => by
      obtain ⟨y, hy, rfl⟩ := List.mem_map.1 hx
      exact ⟨(h.ok y (List.mem_of_mem_take hy)).1, [], rfl, gap_one⟩) [] ((src ((ws.take (ws.length - 1)).map fun x => (x, [32])) ++ ws[ws.length - 1]).length + 1) (1, 1) (fun rest => by simp) (by simp)
    refine ⟨us, by simpa using h1, ?_⟩
    rw [h2]
    have e : ws = ws.take (ws.length - 1) ++ [ws[ws.length - 1]] := by
      have := List.take_append_drop (ws.length - 1) ws
      rw [List.drop_eq_getElem_cons (by omega)] at this
      rw [show ws.length - 1 + 1 = ws.length by omega, List.drop_length] at this
      exact this.symm
    have e2 := congrArg (List.map info) e
    rw [List.map_append] at e2
    rw [e2, List.map_map]
    simp only [List.append_assoc]
    rfl

theorem owns_below {w w' : World} {B : Nat} {e : TypeId} {k : Nat} {v : Value} {n : Nat} {xs : List Value} (h : w.ownsRow B e k v n xs) (hb : Below w.heap.size w w') : w'.ownsRow B e k v n xs :=
  h.kept (row := none) ⟨hb.os, hb.tape, hb.output, hb.size, fun k hk _ => hb.block k hk⟩ (Classical.em _)

theorem Bytes.tail {w : World} {a : Option Addr} {len : Nat} {ps : List Nat} (h : Bytes w a len ps) (c k : Nat) (hk : k ≤ len) (hc : len ≤ c) : Bytes w (if c = k then a else a.map (·.add k)) (len - k) (ps.drop k) := by
  refine ⟨by simp [h.1], fun i hi => ?_⟩
  obtain ⟨b, off, rfl, hcell, hv⟩ := h.2 (k + i) (by omega)
  have e : (ps.drop k).getD i 0 = ps.getD (k + i) 0 := by simp [List.getD_eq_getElem?_getD]
  rw [e]
  refine ⟨b, off + k, ?_, by rw [show off + k + i = off + (k + i) by omega]; exact hcell, hv⟩
  rw [if_neg (by omega)]
  simp [Addr.add]
end Go.Proofs.YtbhibfadccghmaaDoor.lx
