/-
  same of the law's package, at one list of tokens told twice; faults.Kind and faults.Where of no error.
-/
import Derived.Test.YtjjihijkkljbnaaDoorLxTok
import Derived.Deep.QuietTactic
import Derived.BigQuiet
import Derived.Deep.LoopGhost
namespace Go.Proofs.YtjjihijkkljbnaaDoor.lx
open Go.ChangeShapes Go.WideShapes Go.ChangeAt Go.RowKit
set_option linter.unusedVariables false

theorem rtok_at2 {w : World} {base g n cap : Nat} {l : List Tok} (h : w.ownsRow base 81 5 (.slice (some ⟨g, 0, none⟩) n cap) l.length (l.flatMap tokCells)) (i : Nat) (hi : i < l.length) :
    w.cell? ⟨g, i * 5, none⟩ = some (.int .u8 (l[i].kind : Int)) ∧ w.cell? ⟨g, i * 5 + 1, none⟩ = some (.string ⟨l[i].text.toArray⟩) ∧ w.cell? ⟨g, i * 5 + 2, none⟩ = some (.int .i32 l[i].num) ∧
      w.cell? ⟨g, i * 5 + 3, none⟩ = some (.int .i64 (l[i].line : Int)) ∧ w.cell? ⟨g, i * 5 + 4, none⟩ = some (.int .i64 (l[i].col : Int)) := by
  have hc := World.ownsRow.cells h (g := g) rfl
  have hfl : ∀ (l : List Tok) (i : Nat) (hi : i < l.length) (j : Nat), j < 5 → (l.flatMap tokCells)[i * 5 + j]? = (tokCells l[i])[j]? := by
    intro l
    induction l with
    | nil => intro i hi; simp at hi
    | cons t r ih =>
      intro i hi j hj
      cases i with
      | zero =>
        simp only [List.flatMap_cons, List.getElem_cons_zero]
        rw [List.getElem?_append_left (by simp [tokCells]; omega)]
        congr 1
        omega
      | succ i =>
        simp only [List.flatMap_cons, List.getElem_cons_succ]
        rw [List.getElem?_append_right (by simp [tokCells]; omega)]
        rw [← ih i (by simpa using hi) j hj]
        congr 1
        simp [tokCells]
        omega
  have hx : ∀ j, j < 5 → ∀ u, (tokCells l[i])[j]? = some u → w.cell? ⟨g, i * 5 + j, none⟩ = some u := by
    intro j hj u hu
    have := hc (i * 5 + j) u (by rw [hfl l i hi j hj]; exact hu)
    rw [add_plain] at this
    simpa using this
  exact ⟨hx 0 (by omega) _ rfl, hx 1 (by omega) _ rfl, hx 2 (by omega) _ rfl, hx 3 (by omega) _ rfl, hx 4 (by omega) _ rfl⟩

/-- the cells of the token at a place, in a later world -/
theorem rtok_later {w w' : World} {base g n cap : Nat} {l : List Tok} (h : w.ownsRow base 81 5 (.slice (some ⟨g, 0, none⟩) n cap) l.length (l.flatMap tokCells)) (hb : Below w.heap.size w w') (i : Nat) (hi : i < l.length) :
    g < w.heap.size ∧ w'.cell? ⟨g, i * 5, none⟩ = some (.int .u8 (l[i].kind : Int)) ∧ w'.cell? ⟨g, i * 5 + 1, none⟩ = some (.string ⟨l[i].text.toArray⟩) ∧ w'.cell? ⟨g, i * 5 + 2, none⟩ = some (.int .i32 l[i].num) ∧
      w'.cell? ⟨g, i * 5 + 3, none⟩ = some (.int .i64 (l[i].line : Int)) ∧ w'.cell? ⟨g, i * 5 + 4, none⟩ = some (.int .i64 (l[i].col : Int)) := by
  obtain ⟨c0, c1, c2, c3, c4⟩ := rtok_at2 h i hi
  have hg : g < w.heap.size := World.block_lt_of_cell? w _ c0
  have k : ∀ o, w'.cell? ⟨g, o, none⟩ = w.cell? ⟨g, o, none⟩ := fun o => hb.cell (p := ⟨g, o, none⟩) hg
  exact ⟨hg, (k _).trans c0, (k _).trans c1, (k _).trans c2, (k _).trans c3, (k _).trans c4⟩


theorem below_drewN {B : Nat} {w w' : World} (h : Below B w w') (n : Nat) : Below B w (w'.drewN n) := ⟨h.os, h.tape, h.output, h.size, h.block⟩

theorem kind_nil (w : World) : Calls Tryd.prog 14 #[.nilIface] w fun e w' => e = .returned (.int .i64 0) ∧ w = w' := by
  go_enter Tryd.func14, Tryd.ntmps14
  go_wp2_with fail
  go_ret
  exact ⟨rfl, rfl⟩

theorem where_nil (w : World) : Calls Tryd.prog 15 #[.nilIface] w fun e w' => e = .returned (.agg #[.int .i64 0, .int .i64 0]) ∧ Below w.heap.size w w' := by
  go_enter Tryd.func15, Tryd.ntmps15
  go_wp2_with fail
  refine bodyPost_ret (v := .agg #[.int .i64 0, .int .i64 0]) (by simp [results, Tryd.results15, go_sem]) rfl ⟨rfl, ?_⟩
  exact (Below.refl _ _).alloc (Nat.le_refl _) _

theorem same_none (w : World) : Calls Tryd.prog 25 #[.slice none 0 0, .slice none 0 0] w fun e w' => e = .returned (.bool true) ∧ Below w.heap.size w w' := by
  go_enter Tryd.func25, Tryd.ntmps25
  go_wp2_with fail
  refine wp_loop_rounds 1 ?_
  rw [rounds_succ]
  go_wp2_with fail
  go_ret
  exact ⟨rfl, Below.refl _ _⟩

set_option maxRecDepth 100000 in
set_option maxHeartbeats 4000000 in
theorem same_rows (ts : List Tok) (B1 B2 g1 g2 c1 c2 : Nat) (w : World) (hts : ts.length ≤ 1000000)
    (h1 : w.ownsRow B1 58 5 (.slice (some ⟨g1, 0, none⟩) ts.length c1) ts.length (ts.flatMap tokCells))
    (h2 : w.ownsRow B2 81 5 (.slice (some ⟨g2, 0, none⟩) ts.length c2) ts.length (ts.flatMap tokCells)) :
    Calls Tryd.prog 25 #[.slice (some ⟨g1, 0, none⟩) ts.length c1, .slice (some ⟨g2, 0, none⟩) ts.length c2] w fun e w' => e = .returned (.bool true) ∧ Below w.heap.size w w' := by
  have H1 := Lib.hid h1
  have H2 := Lib.hid h2
  clear h1 h2
  go_enter Tryd.func25, Tryd.ntmps25
  go_wp2_with fail
  go_loopw [5] (fun iv wr => ∃ i : Nat, i ≤ ts.length ∧ iv = .int .i64 i ∧ Hid (Below w.heap.size w wr)) (fun iv _ => ts.length - (intOf iv).toNat)
  case atStart => exact ⟨0, by omega, rfl, Lib.hid (Below.refl _ _)⟩
  case round =>
    obtain ⟨i, hi, rfl, HI⟩ := hrel
    by_cases hlt : i < ts.length
    · obtain ⟨hg1, a0c, a1c, a2c, a3c, a4c⟩ := tok_later H1.out HI.out i hlt
      have hb := rtok_later H2.out HI.out i hlt
      obtain ⟨hg2, b0c, b1c, b2c, b3c, b4c⟩ := hb
      generalize (⟨ts[i].text.toArray⟩ : ByteArray) = tx at *
      generalize (ts[i].kind : Int) = kx at *
      generalize ts[i].num = nx at *
      generalize (ts[i].line : Int) = lx1 at *
      generalize (ts[i].col : Int) = cx1 at *
      have hi0 : (0 : Int) ≤ (i : Int) := Int.natCast_nonneg _
      have hi1 : (i : Int) < (ts.length : Int) := by omega
      clear hg1 hg2
      go_wp2_with fail
      go_quiet (fail)
      have hI7 : Hid (Below w.heap.size w (wr.drewN nq)) := Lib.hid (below_drewN HI.out nq)
      go_wp2_with fail
      go_roundw
      case rel => exact ⟨i + 1, by omega, by go_num, hI7⟩
      case measure => simp [intOf]; omega
    · obtain rfl : i = ts.length := by omega
      go_wp2_with fail
      go_ret
      exact ⟨rfl, HI.out⟩
end Go.Proofs.YtjjihijkkljbnaaDoor.lx
