/-
  faults.New: its walk; what Words of package lex leaves.
-/
import Derived.Test.YtjjihijkkljbnaaDoorLxFst
import Derived.Deep.LoopGhost
namespace Go.Proofs.YtjjihijkkljbnaaDoor.lx
open Go.ChangeShapes Go.WideShapes Go.ChangeAt Go.RowKit
set_option linter.unusedVariables false

/-- the cells of an At that New makes -/
def atCells (k a b : Nat) : Array Value := #[.int .i64 a, .int .i64 b, .string ByteArray.empty, .bool false, .iface 26 (.int .i64 k)]

theorem new_any (k a b : Nat) (w : World) (hk : 1 ≤ k) (hk2 : k ≤ 12) (ha : a ≤ 4000000000) (hb : b ≤ 4000000000) :
    Calls Tryd.prog 18 #[.int .i64 k, .agg #[.int .i64 a, .int .i64 b]] w fun e w' => ∃ g, e = .returned (.iface 35 (.pointer (some ⟨g, 0, none⟩))) ∧ w.heap.size ≤ g ∧ Has w' g 45 (atCells k a b) ∧ Below w.heap.size w w' := by
  have hk0 : ((k : Int) == 0) = false := by rw [beq_eq_false_iff_ne]; omega
  go_enter Tryd.func18, Tryd.ntmps18
  go_wp2
  go_ret
  exact ⟨w.heap.size + 1, rfl, by omega, by have h := Has.new (w.alloc (.cells #[.int .i64 a, .int .i64 b] 30)) 45 (atCells k a b); rw [show (w.alloc (.cells #[.int .i64 a, .int .i64 b] 30)).heap.size = w.heap.size + 1 by simp] at h; exact h, ((Below.refl _ _).alloc (Nat.le_refl _) _).alloc (by simp) _⟩

def tokCells (t : Tok) : List Value := [.int .u8 t.kind, .string ⟨t.text.toArray⟩, .int .i32 t.num, .int .i64 t.line, .int .i64 t.col]

theorem flat_len (l : List Tok) : (l.flatMap tokCells).length = l.length * 5 := by
  induction l with
  | nil => rfl
  | cons t r ih => simp [List.flatMap_cons, ih, tokCells]; omega

/-- what Words leaves -/
def WordsPost (X : Res) (B : Nat) (e : Ending) (w' : World) : Prop :=
  match X with
  | .ok l => ∃ v, e = .returned (.tuple #[v, .nilIface]) ∧ w'.ownsRow B 58 5 v l.length (l.flatMap tokCells)
  | .bad k a b => ∃ g, e = .returned (.tuple #[.slice none 0 0, .iface 35 (.pointer (some ⟨g, 0, none⟩))]) ∧ B ≤ g ∧ Has w' g 45 (atCells k a b)

def wordsR (l : List UInt8) : Res := if 65536 < l.length then .bad 3 1 1 else lex (l.length + 1) l (1, 1)

def Res.app (ts : List Tok) : Res → Res
  | .ok l => .ok (ts ++ l)
  | .bad k a b => .bad k a b

theorem app_cons (ts : List Tok) (t : Tok) (X : Res) : Res.app ts (Res.cons t X) = Res.app (ts ++ [t]) X := by
  cases X <;> simp [Res.app, Res.cons]

theorem adv_col (l : List UInt8) (p : Nat × Nat) (h : 1 ≤ p.2) : (adv l p).1 ≤ p.1 + l.length ∧ (adv l p).2 ≤ p.2 + l.length ∧ 1 ≤ (adv l p).2 := by
  induction l generalizing p with
  | nil => simp [adv]; exact h
  | cons c r ih =>
    simp only [adv, List.length_cons]
    by_cases hc : c.toNat = 10
    · rw [if_pos hc]
      have := ih (p.1 + 1, 1) (Nat.le_refl _)
      simp only at this
      omega
    · rw [if_neg hc]
      have := ih (p.1, p.2 + 1) (by simp)
      simp only at this
      omega

/-- the loop's relation -/
structure RelW (w : World) (s r : ByteArray) (q : Nat × Nat) (ts : List Tok) (v : Value) (wr : World) : Prop where
  has : Has wr w.heap.size 76 #[.string r, .int .i64 q.1, .int .i64 q.2]
  own : wr.ownsRow w.heap.size 58 5 v ts.length (ts.flatMap tokCells)
  below : Below w.heap.size w wr
  next : ∃ n, r.size < n ∧ lex (s.size + 1) s.data.toList (1, 1) = (lex n r.data.toList q).app ts
  line : q.1 + r.size ≤ s.size + 1
  col : q.2 + r.size ≤ s.size + 1
  one : 1 ≤ q.2
  len : ts.length + r.size ≤ s.size

def lexAt (n : Nat) (l : List UInt8) (q : Nat × Nat) : Res :=
  match first l with
  | .bad k => .bad k q.1 q.2
  | .ok k t v => if k = 0 then .ok [⟨k, t, v, q.1, q.2⟩] else (lex n (l.drop t.length) (adv t q)).cons ⟨k, t, v, q.1, q.2⟩

theorem lex_at (n : Nat) (l : List UInt8) (p : Nat × Nat) : lex (n + 1) l p = lexAt n (l.drop (gapB false l)) (adv (l.take (gapB false l)) p) := by
  simp only [lex, lexAt]
  cases first (l.drop (gapB false l)) with
  | bad k => rfl
  | ok k t v => simp only [List.drop_drop]

/-- the relation, the gap behind -/
structure RelX (w : World) (s r : ByteArray) (q : Nat × Nat) (ts : List Tok) (v : Value) (wr : World) : Prop where
  has : Has wr w.heap.size 76 #[.string r, .int .i64 q.1, .int .i64 q.2]
  own : wr.ownsRow w.heap.size 58 5 v ts.length (ts.flatMap tokCells)
  below : Below w.heap.size w wr
  next : ∃ n, r.size ≤ n ∧ lex (s.size + 1) s.data.toList (1, 1) = (lexAt n r.data.toList q).app ts
  line : q.1 + r.size ≤ s.size + 1
  col : q.2 + r.size ≤ s.size + 1
  one : 1 ≤ q.2
  len : ts.length + r.size ≤ s.size

theorem RelW.gap {w : World} {s r : ByteArray} {q : Nat × Nat} {ts : List Tok} {v : Value} {wr w1 : World} (h : RelW w s r q ts v wr)
    (hs1 : Has w1 w.heap.size 76 #[.string (r.extract (gapB false r.data.toList) r.size), .int .i64 (adv (r.data.toList.take (gapB false r.data.toList)) q).1, .int .i64 (adv (r.data.toList.take (gapB false r.data.toList)) q).2])
    (hs2 : wr.grownBy w1 (some w.heap.size)) : RelX w s (r.extract (gapB false r.data.toList) r.size) (adv (r.data.toList.take (gapB false r.data.toList)) q) ts v w1 := by
  have hgl := gapB_le false r.data.toList
  have hrl : r.data.toList.length = r.size := by simp
  have hsz : (r.extract (gapB false r.data.toList) r.size).size = r.size - gapB false r.data.toList := by simp
  have ha := adv_col (r.data.toList.take (gapB false r.data.toList)) q h.one
  have htl : (r.data.toList.take (gapB false r.data.toList)).length = gapB false r.data.toList := by simp; omega
  obtain ⟨h1, h2, h3⟩ := ha
  have l1 := h.line
  have l2 := h.col
  have l3 := h.len
  refine ⟨hs1, h.own.kept hs2 (.inr (h.has.own_ne h.own (by decide))), h.below.grown hs2 h.below.size (fun k hk => by injection hk with hk; omega), ?_, by omega, by omega, h3, by omega⟩
  obtain ⟨n, hn, he⟩ := h.next
  obtain ⟨m, rfl⟩ : ∃ m, n = m + 1 := ⟨n - 1, by omega⟩
  refine ⟨m, by omega, ?_⟩
  rw [he, lex_at, tail_data]

theorem first_bad (l : List UInt8) (k : Nat) (h : first l = .bad k) : 1 ≤ k ∧ k ≤ 12 := by
  have hk : k = 1 ∨ k = 3 := by
    unfold first at h
    cases l with
    | nil => simp at h
    | cons c r =>
      simp only at h
      unfold number name sign at h
      simp only at h
      (repeat' split at h) <;> (simp at h <;> omega)
  omega

theorem take_len (l : List UInt8) (n : Nat) (h : n ≤ l.length) : (l.take n).length = n := by simp; omega

theorem first_ok (l : List UInt8) (k : Nat) (t : List UInt8) (n : Int) (h : first l = .ok k t n) : k ≤ 5 ∧ t.length ≤ l.length ∧ t = l.take t.length ∧ (k ≠ 0 → 1 ≤ t.length) := by
  unfold first at h
  cases l with
  | nil =>
    simp only [Fst.ok.injEq] at h
    obtain ⟨rfl, rfl, rfl⟩ := h
    simp
  | cons c r =>
    simp only at h
    by_cases hd : digB c = true
    · rw [if_pos hd] at h
      have hr : 1 ≤ run digB (c :: r) := by simp [run, hd]
      have hle := run_le digB (c :: r)
      unfold number at h
      simp only at h
      (repeat' split at h) <;> (first | (simp only [Fst.ok.injEq] at h; obtain ⟨rfl, rfl, rfl⟩ := h; rw [take_len _ _ hle]; exact ⟨by omega, hle, rfl, fun _ => hr⟩) | (cases h))
    · rw [if_neg hd] at h
      by_cases hl : letB c = true
      · rw [if_pos hl] at h
        have hn : nameB c = true := by simp [nameB, hl]
        have hr : 1 ≤ run nameB (c :: r) := by simp [run, hn]
        have hle := run_le nameB (c :: r)
        unfold name at h
        simp only at h
        (repeat' split at h) <;> (first | (simp only [Fst.ok.injEq] at h; obtain ⟨rfl, rfl, rfl⟩ := h; rw [take_len _ _ hle]; exact ⟨by omega, hle, rfl, fun _ => hr⟩) | (cases h))
      · rw [if_neg hl] at h
        unfold sign at h
        split at h
        · rename_i t' hf
          simp only [Fst.ok.injEq] at h
          obtain ⟨rfl, rfl, rfl⟩ := h
          have hp := List.find?_some hf
          have hm := List.mem_of_find?_eq_some hf
          rw [List.isPrefixOf_iff_prefix] at hp
          have h1 : 1 ≤ t'.length := by
            have : ∀ x ∈ signs, 1 ≤ x.length := by decide
            exact this _ hm
          exact ⟨by omega, hp.length_le, List.prefix_iff_eq_take.1 hp, fun _ => h1⟩
        · cases h

theorem RelX.step {w : World} {s r : ByteArray} {q : Nat × Nat} {ts : List Tok} {v v' : Value} {w1 w3 w4 : World} {kk : Nat} {tx : List UInt8} {nn : Int} (h : RelX w s r q ts v w1)
    (hf : first r.data.toList = .ok kk tx nn) (hk : kk ≠ 0) (ho : w3.ownsRow w.heap.size 58 5 v' (ts.length + 1) (ts.flatMap tokCells ++ [.int .u8 kk, .string ⟨tx.toArray⟩, .int .i32 nn, .int .i64 q.1, .int .i64 q.2]))
    (hb : Below w.heap.size w w3) (hh : Has w3 w.heap.size 76 #[.string r, .int .i64 q.1, .int .i64 q.2])
    (hs1 : Has w4 w.heap.size 76 #[.string (r.extract tx.length r.size), .int .i64 (adv (r.data.toList.take tx.length) q).1, .int .i64 (adv (r.data.toList.take tx.length) q).2])
    (hs2 : w3.grownBy w4 (some w.heap.size)) : RelW w s (r.extract tx.length r.size) (adv (r.data.toList.take tx.length) q) (ts ++ [⟨kk, tx, nn, q.1, q.2⟩]) v' w4 ∧ (r.extract tx.length r.size).size < r.size := by
  obtain ⟨f1, f2, f3, f4⟩ := first_ok _ _ _ _ hf
  have f5 := f4 hk
  have hrl : r.data.toList.length = r.size := by simp
  rw [hrl] at f2
  have hsz : (r.extract tx.length r.size).size = r.size - tx.length := by simp
  have ha := adv_col (r.data.toList.take tx.length) q h.one
  have htl : (r.data.toList.take tx.length).length = tx.length := by simp; omega
  obtain ⟨h1, h2, h3⟩ := ha
  have l1 := h.line
  have l2 := h.col
  have l3 := h.len
  have hl : (ts ++ [(⟨kk, tx, nn, q.1, q.2⟩ : Tok)]).length = ts.length + 1 := by simp
  have hfl : (ts ++ [(⟨kk, tx, nn, q.1, q.2⟩ : Tok)]).flatMap tokCells = ts.flatMap tokCells ++ [.int .u8 kk, .string ⟨tx.toArray⟩, .int .i32 nn, .int .i64 q.1, .int .i64 q.2] := by
    rw [List.flatMap_append]; rfl
  refine ⟨⟨hs1, ?_, hb.grown hs2 hb.size (fun k hk => by injection hk with hk; omega), ?_, by omega, by omega, h3, by omega⟩, by omega⟩
  · rw [hl, hfl]
    exact ho.kept hs2 (.inr (hh.own_ne ho (by decide)))
  · obtain ⟨n, hn, he⟩ := h.next
    refine ⟨n, by omega, ?_⟩
    rw [he, ← app_cons]
    unfold lexAt
    rw [hf]
    simp only
    rw [if_neg hk, ← f3, tail_data]

theorem tok_info : (Tryd.prog.info? 58).map (fun i => (i.zero, i.size, i.bytes)) = some (some (.agg #[.int .u8 0, .string ByteArray.empty, .int .i32 0, .int .i64 0, .int .i64 0]), 5, 48) := by kernel_rfl

end Go.Proofs.YtjjihijkkljbnaaDoor.lx
