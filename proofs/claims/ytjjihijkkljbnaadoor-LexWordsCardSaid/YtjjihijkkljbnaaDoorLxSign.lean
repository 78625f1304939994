/-
  name, sign, first of package lex: their walks.
-/
import Derived.Test.YtjjihijkkljbnaaDoorLxName
import Derived.Laws.Rows
namespace Go.Proofs.YtjjihijkkljbnaaDoor.lx
open Go.ChangeShapes Go.WideShapes Go.ChangeAt Go.RowKit
set_option linter.unusedVariables false

/-- what the table holds -/
def tabA : Array Value := #[.string ⟨#[60, 62]⟩, .string ⟨#[60, 61]⟩, .string ⟨#[62, 61]⟩, .string ⟨#[45, 62]⟩, .string ⟨#[40]⟩, .string ⟨#[41]⟩, .string ⟨#[61]⟩, .string ⟨#[43]⟩, .string ⟨#[45]⟩, .string ⟨#[42]⟩, .string ⟨#[47]⟩, .string ⟨#[60]⟩, .string ⟨#[62]⟩, .string ⟨#[59]⟩, .string ⟨#[58]⟩, .string ⟨#[44]⟩, .string ⟨#[124]⟩]

/-- the table's block -/
def Laid (w : World) : Prop := ∃ t fr, w.heap[0]? = some (.cells tabA t fr)

theorem Laid.below {w w' : World} (h : Laid w) (hb : Below w.heap.size w w') : Laid w' := by
  obtain ⟨t, fr, h⟩ := h
  have hlt : 0 < w.heap.size := by
    rcases Nat.lt_or_ge 0 w.heap.size with hlt | hge
    · exact hlt
    · rw [Array.getElem?_eq_none hge] at h; cases h
  exact ⟨t, fr, (hb.block _ hlt).trans h⟩

theorem tab0 (w : World) : (Instr.index 125 (.agg tabA) (.int .i64 0)).run Tryd.prog w = .ok (.string ⟨#[60, 62]⟩) w := by kernel_rfl
theorem tab1 (w : World) : (Instr.index 125 (.agg tabA) (.int .i64 1)).run Tryd.prog w = .ok (.string ⟨#[60, 61]⟩) w := by kernel_rfl
theorem tab2 (w : World) : (Instr.index 125 (.agg tabA) (.int .i64 2)).run Tryd.prog w = .ok (.string ⟨#[62, 61]⟩) w := by kernel_rfl
theorem tab3 (w : World) : (Instr.index 125 (.agg tabA) (.int .i64 3)).run Tryd.prog w = .ok (.string ⟨#[45, 62]⟩) w := by kernel_rfl
theorem tab4 (w : World) : (Instr.index 125 (.agg tabA) (.int .i64 4)).run Tryd.prog w = .ok (.string ⟨#[40]⟩) w := by kernel_rfl
theorem tab5 (w : World) : (Instr.index 125 (.agg tabA) (.int .i64 5)).run Tryd.prog w = .ok (.string ⟨#[41]⟩) w := by kernel_rfl
theorem tab6 (w : World) : (Instr.index 125 (.agg tabA) (.int .i64 6)).run Tryd.prog w = .ok (.string ⟨#[61]⟩) w := by kernel_rfl
theorem tab7 (w : World) : (Instr.index 125 (.agg tabA) (.int .i64 7)).run Tryd.prog w = .ok (.string ⟨#[43]⟩) w := by kernel_rfl
theorem tab8 (w : World) : (Instr.index 125 (.agg tabA) (.int .i64 8)).run Tryd.prog w = .ok (.string ⟨#[45]⟩) w := by kernel_rfl
theorem tab9 (w : World) : (Instr.index 125 (.agg tabA) (.int .i64 9)).run Tryd.prog w = .ok (.string ⟨#[42]⟩) w := by kernel_rfl
theorem tab10 (w : World) : (Instr.index 125 (.agg tabA) (.int .i64 10)).run Tryd.prog w = .ok (.string ⟨#[47]⟩) w := by kernel_rfl
theorem tab11 (w : World) : (Instr.index 125 (.agg tabA) (.int .i64 11)).run Tryd.prog w = .ok (.string ⟨#[60]⟩) w := by kernel_rfl
theorem tab12 (w : World) : (Instr.index 125 (.agg tabA) (.int .i64 12)).run Tryd.prog w = .ok (.string ⟨#[62]⟩) w := by kernel_rfl
theorem tab13 (w : World) : (Instr.index 125 (.agg tabA) (.int .i64 13)).run Tryd.prog w = .ok (.string ⟨#[59]⟩) w := by kernel_rfl
theorem tab14 (w : World) : (Instr.index 125 (.agg tabA) (.int .i64 14)).run Tryd.prog w = .ok (.string ⟨#[58]⟩) w := by kernel_rfl
theorem tab15 (w : World) : (Instr.index 125 (.agg tabA) (.int .i64 15)).run Tryd.prog w = .ok (.string ⟨#[44]⟩) w := by kernel_rfl
theorem tab16 (w : World) : (Instr.index 125 (.agg tabA) (.int .i64 16)).run Tryd.prog w = .ok (.string ⟨#[124]⟩) w := by kernel_rfl

theorem tab_at (k : Nat) (hk : k < 17) (w : World) : (Instr.index 125 (.agg tabA) (.int .i64 (k : Int))).run Tryd.prog w = .ok (.string ⟨(signs.getD k []).toArray⟩) w := by
  match k, hk with
  | 0, _ => exact tab0 w
  | 1, _ => exact tab1 w
  | 2, _ => exact tab2 w
  | 3, _ => exact tab3 w
  | 4, _ => exact tab4 w
  | 5, _ => exact tab5 w
  | 6, _ => exact tab6 w
  | 7, _ => exact tab7 w
  | 8, _ => exact tab8 w
  | 9, _ => exact tab9 w
  | 10, _ => exact tab10 w
  | 11, _ => exact tab11 w
  | 12, _ => exact tab12 w
  | 13, _ => exact tab13 w
  | 14, _ => exact tab14 w
  | 15, _ => exact tab15 w
  | 16, _ => exact tab16 w
  | k + 17, h => exact absurd h (by omega)

theorem sign_hit (l : List UInt8) (k : Nat) (hk : k < 17) (h : ∀ j, j < k → (signs.getD j []).isPrefixOf l = false) (hp : (signs.getD k []).isPrefixOf l = true) : sign l = .ok 5 (signs.getD k []) 0 := by
  have hl : signs.length = 17 := rfl
  have e : signs.find? (fun t => t.isPrefixOf l) = some (signs.getD k []) := by
    rw [List.find?_eq_some_iff_getElem]
    refine ⟨hp, k, by omega, by rw [List.getD_eq_getElem?_getD, List.getElem?_eq_getElem (by omega)]; rfl, fun j hj => ?_⟩
    have := h j hj
    rw [List.getD_eq_getElem?_getD, List.getElem?_eq_getElem (by omega)] at this
    simpa using this
  unfold sign
  rw [e]
theorem sign_miss (l : List UInt8) (h : ∀ j, j < 17 → (signs.getD j []).isPrefixOf l = false) : sign l = .bad 1 := by
  have hl : signs.length = 17 := rfl
  have e : signs.find? (fun t => t.isPrefixOf l) = none := by
    rw [List.find?_eq_none]
    intro t ht
    obtain ⟨j, hj, rfl⟩ := List.getElem_of_mem ht
    have := h j (by omega)
    rw [List.getD_eq_getElem?_getD, List.getElem?_eq_getElem hj] at this
    rw [Bool.not_eq_true]
    exact this
  unfold sign
  rw [e]

theorem signs_len (k : Nat) : (signs.getD k []).length ≤ 2 := by
  by_cases hk : k < 17
  · match k, hk with
    | 0, _ => decide
    | 1, _ => decide
    | 2, _ => decide
    | 3, _ => decide
    | 4, _ => decide
    | 5, _ => decide
    | 6, _ => decide
    | 7, _ => decide
    | 8, _ => decide
    | 9, _ => decide
    | 10, _ => decide
    | 11, _ => decide
    | 12, _ => decide
    | 13, _ => decide
    | 14, _ => decide
    | 15, _ => decide
    | 16, _ => decide
    | k + 17, h => exact absurd h (by omega)
  · have : signs.getD k [] = [] := by rw [List.getD_eq_getElem?_getD, List.getElem?_eq_none (by have hl : signs.length = 17 := rfl; omega)]; rfl
    rw [this]; simp

theorem sign_any (s : ByteArray) (w : World) (h : s.size ≤ 70000) (hT : Laid w) :
    Calls Tryd.prog 62 #[.string s] w fun e w' => e = .returned (fstV (sign s.data.toList)) ∧ Below w.heap.size w w' := by
  obtain ⟨t, fr, hT⟩ := hT
  have hlt : 0 < w.heap.size := by
    rcases Nat.lt_or_ge 0 w.heap.size with hlt | hge
    · exact hlt
    · rw [Array.getElem?_eq_none hge] at hT; cases hT
  have hT2 : ∀ o, (w.alloc o).heap[0]? = some (.cells tabA t fr) := fun o => (Below.heap_alloc w o _ hlt).trans hT
  have HT := Lib.hid hT2
  have hlt1 := hlt
  clear hT hT2
  go_enter Tryd.func62, Tryd.ntmps62
  go_wp2_with (refine wpList_load_row rfl 125 _ rfl 0 rfl t tabA fr _ (HT.out _) Tryd.underlying125 rfl (by kernel_rfl) ?_)
  go_loop [7] (fun i => ∃ k : Nat, k ≤ 17 ∧ i = .int .i64 k ∧ Hid (∀ j, j < k → (signs.getD j []).isPrefixOf s.data.toList = false)) (fun i => 17 - (intOf i).toNat)
  case atStart => exact ⟨0, by omega, rfl, Lib.hid (fun j hj => by omega)⟩
  case round =>
    obtain ⟨k, hk, rfl, HN⟩ := hrel
    by_cases hk17 : k < 17
    · have hi := tab_at k hk17
      have hp := hasPrefix_any s ⟨(signs.getD k []).toArray⟩
      have hsz : (⟨(signs.getD k []).toArray⟩ : ByteArray).size ≤ 70000 := by
        have := signs_len k
        show (signs.getD k []).toArray.size ≤ 70000
        simp only [List.size_toArray]; omega
      have hd : (⟨(signs.getD k []).toArray⟩ : ByteArray).data.toList = signs.getD k [] := by simp
      rw [hd] at hp
      clear hd
      rcases Bool.eq_false_or_eq_true ((signs.getD k []).isPrefixOf s.data.toList) with hb | hb
      · have hs := sign_hit _ k hk17 HN.out hb
        rw [hb] at hp
        generalize signs.getD k [] = tx at *
        have HP := Lib.hid hp
        have HZ := Lib.hid hsz
        have HS := Lib.hid hs
        clear hp hsz hs hb HN
        go_wp2_with (go_at_call 55; refine (HP.out _ h HZ.out).mono ?_; rintro e w' ⟨rfl, rfl⟩)
        refine bodyPost_ret (v := fstV (.ok 5 tx 0)) (by simp [fstV, results, Tryd.results62, go_sem]) rfl ⟨by rw [HS.out], ?_⟩
        exact (Below.refl _ _).alloc (Nat.le_refl _) _
      · have hn : ∀ j, j < k + 1 → (signs.getD j []).isPrefixOf s.data.toList = false := by
          intro j hj
          rcases Nat.lt_or_eq_of_le (Nat.le_of_lt_succ hj) with g | rfl
          · exact HN.out j g
          · exact hb
        rw [hb] at hp
        have HN2 := Lib.hid hn
        generalize signs.getD k [] = tx at *
        have HP := Lib.hid hp
        have HZ := Lib.hid hsz
        clear hp hsz hb HN hn
        go_wp2_with (go_at_call 55; refine (HP.out _ h HZ.out).mono ?_; rintro e w' ⟨rfl, rfl⟩)
        go_round
        case rel => exact ⟨k + 1, by omega, by go_num, HN2⟩
        case measure => simp [intOf]; omega
    · obtain rfl : k = 17 := by omega
      have hs := sign_miss _ HN.out
      have HS := Lib.hid hs
      clear hs HN
      go_wp2
      refine bodyPost_ret (v := fstV (.bad 1)) (by simp [fstV, results, Tryd.results62, go_sem]; rfl) rfl ⟨by rw [HS.out], ?_⟩
      exact (Below.refl _ _).alloc (Nat.le_refl _) _
end Go.Proofs.YtjjihijkkljbnaaDoor.lx
