/-
  The document's answer for the words of a text: its walk.
-/
import Derived.Test.YtjjihijkkljbnaaDoorLxRLeaf
import Derived.BigRegion
import Derived.Deep.CutRange
import Derived.Deep.CutBlock
namespace Go.Proofs.YtjjihijkkljbnaaDoor.lx
open Go.ChangeShapes Go.WideShapes Go.ChangeAt Go.RowKit
set_option linter.unusedVariables false

/-- what the document's answer is -/
def RefPost (X : Res) (B : Nat) (e : Ending) (w' : World) : Prop :=
  match X with
  | .ok l => ∃ v, e = .returned (.tuple #[v, .int .i64 0, .agg #[.int .i64 0, .int .i64 0]]) ∧ w'.ownsRow B 81 5 v l.length (l.flatMap tokCells)
  | .bad k a b => e = .returned (.tuple #[.slice none 0 0, .int .i64 k, .agg #[.int .i64 a, .int .i64 b]])

theorem rtok_info : (Tryd.prog.info? 81).map (fun i => (i.zero, i.size, i.bytes)) = some (some (.agg #[.int .u8 0, .string ByteArray.empty, .int .i32 0, .int .i64 0, .int .i64 0]), 5, 48) := by kernel_rfl

structure RelR (w : World) (s : ByteArray) (i : Nat) (q : Nat × Nat) (ts : List Tok) (v : Value) (wr : World) : Prop where
  has : Has wr w.heap.size 30 #[.int .i64 0, .int .i64 0]
  own : wr.ownsRow w.heap.size 81 5 v ts.length (ts.flatMap tokCells)
  below : Below w.heap.size w wr
  next : ∃ n, s.size - i < n ∧ lex (s.size + 1) s.data.toList (1, 1) = (lex n (s.data.toList.drop i) q).app ts
  line : q.1 + (s.size - i) ≤ s.size + 1
  col : q.2 + (s.size - i) ≤ s.size + 1
  len : ts.length + (s.size - i) ≤ s.size

theorem app_nil (X : Res) : Res.app [] X = X := by cases X <;> rfl

/-- a round that makes no word: its world -/
theorem RelR.go {w : World} {s : ByteArray} {i j : Nat} {q q' : Nat × Nat} {ts : List Tok} {v : Value} {wr wr' : World} (h : RelR w s i q ts v wr) (hb : Below wr.heap.size wr wr')
    (hn : ∀ n, lex (n + 1) (s.data.toList.drop i) q = lex (n + 1) (s.data.toList.drop j) q') (hij : i ≤ j) (hj : j ≤ s.size)
    (h1 : q'.1 + (s.size - j) ≤ s.size + 1) (h2 : q'.2 + (s.size - j) ≤ s.size + 1) : RelR w s j q' ts v wr' := by
  obtain ⟨n, hn1, hn2⟩ := h.next
  obtain ⟨m, rfl⟩ : ∃ m, n = m + 1 := ⟨n - 1, by omega⟩
  have hl := h.len
  exact ⟨h.has.below hb h.has.lt, owns_below2 h.own hb, h.below.trans (hb.mono h.below.size), ⟨m + 1, by omega, by rw [hn2, hn]⟩, h1, h2, by omega⟩

theorem word_line (l : List UInt8) (k : Nat) (t : List UInt8) (v : Int) (h : first l = .ok k t v) : ∀ c ∈ t, lineB c = true := by
  have hn : ∀ c : UInt8, nameB c = true → lineB c = true := by
    intro c hc
    simp only [nameB, letB, smallB, greatB, digB, lineB, Bool.or_eq_true, Bool.and_eq_true, decide_eq_true_eq] at hc ⊢
    omega
  have hs : ∀ u ∈ signs, ∀ c ∈ u, lineB c = true := by decide
  unfold first at h
  cases l with
  | nil =>
    simp only [Fst.ok.injEq] at h
    obtain ⟨rfl, rfl, rfl⟩ := h
    simp
  | cons c r =>
    simp only at h
    by_cases hd : digB c = true
    · rw [if_pos hd] at h
      unfold number at h
      simp only at h
      (repeat' split at h) <;> first | (cases h; done) | skip
      all_goals
        simp only [Fst.ok.injEq] at h
        obtain ⟨_, rfl, _⟩ := h
        intro x hx
        exact hn x (by simp [nameB, run_take digB _ x hx])
    · rw [if_neg hd] at h
      by_cases hl : letB c = true
      · rw [if_pos hl] at h
        unfold name at h
        simp only at h
        (repeat' split at h) <;> first | (cases h; done) | skip
        all_goals
          simp only [Fst.ok.injEq] at h
          obtain ⟨_, rfl, _⟩ := h
          intro x hx
          exact hn x (run_take nameB _ x hx)
      · rw [if_neg hl] at h
        unfold sign at h
        split at h
        · rename_i t' hf
          simp only [Fst.ok.injEq] at h
          obtain ⟨_, rfl, _⟩ := h
          exact hs _ (List.mem_of_find?_eq_some hf)
        · cases h

/-- a round that makes a word -/
theorem RelR.word {w : World} {s : ByteArray} {i ln cl : Nat} {ts : List Tok} {v v' : Value} {wr w3 : World} {kk : Nat} {tx : List UInt8} {nn : Int} (h : RelR w s i (ln, cl) ts v wr) (hi : i < s.size)
    (hg : ∀ n, lex (n + 1) (s.data.toList.drop i) (ln, cl) = lexAt n (s.data.toList.drop i) (ln, cl)) (hf : first (s.data.toList.drop i) = .ok kk tx nn) (hk : kk ≠ 0)
    (ho : w3.ownsRow w.heap.size 81 5 v' (ts.length + 1) (ts.flatMap tokCells ++ [.int .u8 kk, .string ⟨tx.toArray⟩, .int .i32 nn, .int .i64 ln, .int .i64 cl]))
    (hb : Below w.heap.size w w3) (hh : Has w3 w.heap.size 30 #[.int .i64 0, .int .i64 0]) :
    RelR w s (i + tx.length) (ln, cl + tx.length) (ts ++ [⟨kk, tx, nn, ln, cl⟩]) v' w3 ∧ 1 ≤ tx.length ∧ i + tx.length ≤ s.size := by
  obtain ⟨f1, f2, f3, f4⟩ := first_ok _ _ _ _ hf
  have f5 := f4 hk
  rw [List.length_drop, show s.data.toList.length = s.size by simp] at f2
  have l1 := h.line
  have l2 := h.col
  have l3 := h.len
  simp only at l1 l2
  have hl : (ts ++ [(⟨kk, tx, nn, ln, cl⟩ : Tok)]).length = ts.length + 1 := by simp
  have hfl : (ts ++ [(⟨kk, tx, nn, ln, cl⟩ : Tok)]).flatMap tokCells = ts.flatMap tokCells ++ [.int .u8 kk, .string ⟨tx.toArray⟩, .int .i32 nn, .int .i64 ln, .int .i64 cl] := by
    rw [List.flatMap_append]; rfl
  refine ⟨⟨hh, by rw [hl, hfl]; exact ho, hb, ?_, by simp only; omega, by simp only; omega, by omega⟩, f5, by omega⟩
  obtain ⟨n, hn, he⟩ := h.next
  obtain ⟨m, rfl⟩ : ∃ m, n = m + 1 := ⟨n - 1, by omega⟩
  refine ⟨m, by omega, ?_⟩
  rw [he, hg, ← app_cons]
  unfold lexAt
  rw [hf]
  simp only
  rw [if_neg hk, List.drop_drop, adv_line tx _ (word_line _ _ _ _ hf)]

theorem RelR.bad {w : World} {s : ByteArray} {i ln cl : Nat} {ts : List Tok} {v : Value} {wr : World} {k : Nat} (h : RelR w s i (ln, cl) ts v wr)
    (hi : i < s.size) (hg : ∀ n, lex (n + 1) (s.data.toList.drop i) (ln, cl) = lexAt n (s.data.toList.drop i) (ln, cl)) (hf : first (s.data.toList.drop i) = .bad k) : lex (s.size + 1) s.data.toList (1, 1) = .bad k ln cl := by
  obtain ⟨n, hn, he⟩ := h.next
  obtain ⟨m, rfl⟩ : ∃ m, n = m + 1 := ⟨n - 1, by omega⟩
  rw [he, hg]
  unfold lexAt
  rw [hf]
  rfl

theorem pos_cells (w : World) (g : Nat) (a b : Int) (h : Has w g 30 #[.int .i64 0, .int .i64 0]) :
    ((w.setCell ⟨g, 0, none⟩ (.int .i64 a)).setCell ⟨g, 1, none⟩ (.int .i64 b)).cell? ⟨g, 0, none⟩ = some (.int .i64 a) ∧ ((w.setCell ⟨g, 0, none⟩ (.int .i64 a)).setCell ⟨g, 1, none⟩ (.int .i64 b)).cell? ⟨g, 1, none⟩ = some (.int .i64 b) := by
  have h4 := (h.put 0 (.int .i64 a)).put 1 (.int .i64 b)
  have e0 := h4.cell 0
  have e1 := h4.cell 1
  simp only [List.setIfInBounds_toArray, List.set_cons_zero, List.set_cons_succ, List.getElem?_toArray, List.getElem?_cons_zero, List.getElem?_cons_succ] at e0 e1
  exact ⟨e0, e1⟩

theorem mid_text (s : ByteArray) (i k : Nat) (h : i + k ≤ s.size) : (⟨((s.data.toList.drop i).take k).toArray⟩ : ByteArray) = s.extract i (i + k) := by
  apply ByteArray.ext
  apply Array.ext'
  show (s.data.toList.drop i).take k = (s.extract i (i + k)).data.toList
  rw [Lib.extract_data, Nat.add_sub_cancel_left]
theorem mid_len (s : ByteArray) (i k : Nat) (h : i + k ≤ s.size) : ((s.data.toList.drop i).take k).length = k := by
  rw [List.length_take, List.length_drop, show s.data.toList.length = s.size by simp]; omega

theorem key_head (t : List UInt8) (h : keyB t = true) : (t.head?.map (·.toNat)) ≠ some 95 := by
  have hk : ∀ u ∈ keys, (u.head?.map (·.toNat)) ≠ some 95 := by decide
  unfold keyB at h
  rw [List.contains_iff_mem] at h
  exact hk t h

theorem rt_news (W : World) (b : Nat) (hb : b = W.heap.size) (k : Int) (tx : ByteArray) (nn l c : Int) : ∀ j u, ([.int .u8 k, .string tx, .int .i32 nn, .int .i64 l, .int .i64 c] : List Value)[j]? = some u → (W.alloc (.cells #[.int .u8 k, .string tx, .int .i32 nn, .int .i64 l, .int .i64 c] 81)).cell? ((⟨b, 0, none⟩ : Addr).add j) = some u := by
  intro j u hj
  subst hb
  have hn := Has.new W 81 #[.int .u8 k, .string tx, .int .i32 nn, .int .i64 l, .int .i64 c]
  have := hn.cell j
  rw [add_plain, Nat.zero_add, this]
  simpa using hj
theorem rt_one (k : Int) (tx : ByteArray) (nn l c : Int) : ∀ u ∈ ([.int .u8 k, .string tx, .int .i32 nn, .int .i64 l, .int .i64 c] : List Value), u.oneCell' = true := by
  intro u hu
  simp only [List.mem_cons, List.not_mem_nil, or_false] at hu
  rcases hu with rfl | rfl | rfl | rfl | rfl <;> rfl

/-- two bytes of a text as a text -/
theorem two_list (s : ByteArray) (i : Nat) (h1 : i + 1 < s.size) : (s.extract i (i + 2)).toList = [s[i], s[i + 1]] := by
  rw [Lib.extract_toList, drop_at s i (by omega), drop_at s (i + 1) h1, show i + 2 - i = 2 by omega]
  rfl
theorem two_facts (s : ByteArray) (i : Nat) (h1 : i + 1 < s.size) (a b : UInt8) : ((s.extract i (i + 2)).toList == [a, b]) = (s[i] == a && s[i + 1] == b) := by
  rw [two_list s i h1, Bool.eq_iff_iff]
  simp
theorem take_two (s : ByteArray) (i : Nat) (h1 : i + 1 < s.size) : (s.data.toList.drop i).take 2 = [s[i], s[i + 1]] := by
  rw [drop_at s i (by omega), drop_at s (i + 1) h1]
  rfl
theorem take_one (s : ByteArray) (i : Nat) (h1 : i < s.size) : (s.data.toList.drop i).take 1 = [s[i]] := by
  rw [drop_at s i h1]
  rfl

theorem below2 (w : World) (o o' : Obj) : Below w.heap.size w ((w.alloc o).alloc o') := ((Below.refl _ _).alloc (Nat.le_refl _) _).alloc (by simp) _

theorem run_step (p : UInt8 → Bool) (s : ByteArray) (i n : Nat) (h : n ≤ run p (s.data.toList.drop i)) (hk : i + n < s.size) : (p s[i + n] = true → n + 1 ≤ run p (s.data.toList.drop i)) ∧ (p s[i + n] = false → n = run p (s.data.toList.drop i)) := by
  have hl : n < (s.data.toList.drop i).length := by simp; omega
  have hs := run_snoc p (s.data.toList.drop i) n hl h
  have he : (s.data.toList.drop i)[n] = s[i + n] := by rw [List.getElem_drop]; rfl
  rw [he] at hs
  exact ⟨hs.1, fun hd => (hs.2 hd).symm⟩

theorem run_stop (p : UInt8 → Bool) (s : ByteArray) (i n : Nat) (h : n ≤ run p (s.data.toList.drop i)) (hk : ¬ i + n < s.size) : n = run p (s.data.toList.drop i) := by
  have := run_le p (s.data.toList.drop i)
  rw [List.length_drop] at this
  have : s.data.toList.length = s.size := by simp
  omega

/-- what the switch leaves where it makes a word -/
structure CutW (w : World) (s : ByteArray) (i ln cl : Nat) (ts : List Tok) (v : Value) (wr : World) (n kk : Nat) (nn : Int) (wx : World) : Prop where
  t : Has wx (wr.heap.size + 1) 81 #[.int .u8 kk, .string ({ data := #[] } : ByteArray), .int .i32 nn, .int .i64 (ln : Int), .int .i64 (cl : Int)]
  res : Has wx w.heap.size 30 #[.int .i64 0, .int .i64 0]
  own : wx.ownsRow w.heap.size 81 5 v ts.length (ts.flatMap tokCells)
  bl : Below w.heap.size w wx
  ne : v.ownBlock ≠ some (wr.heap.size + 1)
  fst : first (s.data.toList.drop i) = .ok kk ((s.data.toList.drop i).take n) nn
  nz : kk ≠ 0
  fit : i + n ≤ s.size
  wz : w.heap.size ≤ wr.heap.size

theorem meet_lit {w : World} {s : ByteArray} {i ln cl : Nat} {ts : List Tok} {v : Value} {wr : World} (h : RelR w s i (ln, cl) ts v wr) (n kk : Nat) (nn : Int) (hf : first (s.data.toList.drop i) = .ok kk ((s.data.toList.drop i).take n) nn) (hk : kk ≠ 0) (hn : i + n ≤ s.size) :
    CutW w s i ln cl ts v wr n kk nn ((wr.alloc (.cells #[.int .i64 (ln : Int), .int .i64 (cl : Int)] 30)).alloc (.cells #[.int .u8 kk, .string ({ data := #[] } : ByteArray), .int .i32 nn, .int .i64 (ln : Int), .int .i64 (cl : Int)] 81)) := by
  have tA := Has.new (wr.alloc (.cells #[.int .i64 (ln : Int), .int .i64 (cl : Int)] 30)) 81 #[.int .u8 kk, .string ({ data := #[] } : ByteArray), .int .i32 nn, .int .i64 (ln : Int), .int .i64 (cl : Int)]
  simp only [World.size_alloc] at tA
  exact ⟨tA, (h.has.alloc _).alloc _, (h.own.alloc _).alloc _, h.below.trans ((below2 wr _ _).mono h.below.size), fun e => by have := (h.own.lt _ e).2; omega, hf, hk, hn, h.below.size⟩

theorem meet_key {w : World} {s : ByteArray} {i ln cl : Nat} {ts : List Tok} {v : Value} {wr w5 : World} (n kk : Nat) (t5 : Has w5 (wr.heap.size + 1) 81 #[.int .u8 0, .string ({ data := #[] } : ByteArray), .int .i32 0, .int .i64 (ln : Int), .int .i64 (cl : Int)]) (res5 : Has w5 w.heap.size 30 #[.int .i64 0, .int .i64 0])
    (own5 : w5.ownsRow w.heap.size 81 5 v ts.length (ts.flatMap tokCells)) (hne : v.ownBlock ≠ some (wr.heap.size + 1)) (bl5 : Below w.heap.size w w5) (hwz : w.heap.size ≤ wr.heap.size) (hf : first (s.data.toList.drop i) = .ok kk ((s.data.toList.drop i).take n) 0) (hk : kk ≠ 0) (hn : i + n ≤ s.size) :
    CutW w s i ln cl ts v wr n kk 0 (w5.setCell ⟨wr.heap.size + 1, 0, none⟩ (.int .u8 kk)) :=
  ⟨t5.put 0 _, res5.put_far 0 _ (by omega), own5.kept (grown_put (grown_refl w5 (some (wr.heap.size + 1))) 0 _) (.inr hne), bl5.setCell (p := ⟨wr.heap.size + 1, 0, none⟩) (by show _ ≤ wr.heap.size + 1; omega) _, hne, hf, hk, hn, hwz⟩


def firstLoop : Code → Option Code
  | .loop c => some c
  | .seq a b => match firstLoop a with
    | some c => some c
    | none => firstLoop b
  | .block _ c => firstLoop c
  | .scope c => firstLoop c
  | .cond _ a b => match firstLoop a with
    | some c => some c
    | none => firstLoop b
  | _ => none
noncomputable def rbody : Code := ((Tryd.f24.body.bind firstLoop).getD .skip)
end Go.Proofs.YtjjihijkkljbnaaDoor.lx
