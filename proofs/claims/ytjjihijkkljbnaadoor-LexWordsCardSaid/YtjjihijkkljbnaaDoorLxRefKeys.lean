/-
  Keys, IsKey of the document's own answer for package lex: their walks.
-/
import Derived.Test.YtjjihijkkljbnaaDoorLxAwake
namespace Go.Proofs.YtjjihijkkljbnaaDoor.lx
open Go.ChangeShapes Go.WideShapes Go.ChangeAt Go.RowKit
set_option linter.unusedVariables false

def keysA : Array Value := #[.string ⟨#[97, 110, 100]⟩, .string ⟨#[97, 117, 116, 111, 109, 97, 116, 111, 110]⟩, .string ⟨#[98, 111, 111, 108]⟩, .string ⟨#[99, 111, 110, 116, 105, 110, 117, 101]⟩, .string ⟨#[100, 111]⟩, .string ⟨#[101, 108, 115, 101]⟩, .string ⟨#[101, 110, 100]⟩, .string ⟨#[101, 118, 101, 114, 121]⟩, .string ⟨#[102, 97, 108, 115, 101]⟩, .string ⟨#[102, 98, 121]⟩, .string ⟨#[105, 102]⟩, .string ⟨#[105, 110, 116]⟩, .string ⟨#[108, 97, 115, 116]⟩, .string ⟨#[108, 101, 116]⟩, .string ⟨#[109, 101, 114, 103, 101]⟩, .string ⟨#[109, 111, 100]⟩, .string ⟨#[110, 111, 100, 101]⟩, .string ⟨#[110, 111, 116]⟩, .string ⟨#[111, 114]⟩, .string ⟨#[112, 114, 101]⟩, .string ⟨#[114, 101, 115, 101, 116]⟩, .string ⟨#[114, 101, 116, 117, 114, 110, 115]⟩, .string ⟨#[115, 119, 105, 116, 99, 104]⟩, .string ⟨#[116, 101, 108]⟩, .string ⟨#[116, 104, 101, 110]⟩, .string ⟨#[116, 114, 117, 101]⟩, .string ⟨#[116, 121, 112, 101]⟩, .string ⟨#[117, 110, 108, 101, 115, 115]⟩, .string ⟨#[117, 110, 116, 105, 108]⟩, .string ⟨#[118, 97, 114]⟩, .string ⟨#[119, 104, 101, 110]⟩, .string ⟨#[120, 111, 114]⟩]

theorem keysA_at (k : Nat) (hk : k < 32) : keysA[k]? = some (.string ⟨(keys.getD k []).toArray⟩) := by
  match k, hk with
  | 0, _ => rfl
  | 1, _ => rfl
  | 2, _ => rfl
  | 3, _ => rfl
  | 4, _ => rfl
  | 5, _ => rfl
  | 6, _ => rfl
  | 7, _ => rfl
  | 8, _ => rfl
  | 9, _ => rfl
  | 10, _ => rfl
  | 11, _ => rfl
  | 12, _ => rfl
  | 13, _ => rfl
  | 14, _ => rfl
  | 15, _ => rfl
  | 16, _ => rfl
  | 17, _ => rfl
  | 18, _ => rfl
  | 19, _ => rfl
  | 20, _ => rfl
  | 21, _ => rfl
  | 22, _ => rfl
  | 23, _ => rfl
  | 24, _ => rfl
  | 25, _ => rfl
  | 26, _ => rfl
  | 27, _ => rfl
  | 28, _ => rfl
  | 29, _ => rfl
  | 30, _ => rfl
  | 31, _ => rfl
  | k + 32, h => exact absurd h (by omega)

set_option maxRecDepth 100000 in
theorem refKeys_any (w : World) :
    Calls Tryd.prog 63 #[] w fun e w' => ∃ g, e = .returned (.slice (some ⟨g, 0, none⟩) 32 32) ∧ w.heap.size ≤ g ∧ Has w' g 9 keysA ∧ Below w.heap.size w w' := by
  go_enter Tryd.func63, Tryd.ntmps63
  go_wp2
  go_ret
  exact ⟨w.heap.size, rfl, Nat.le_refl _, Has.new w 9 keysA, (Below.refl _ _).alloc (Nat.le_refl _) _⟩

theorem keyB_hit (s : ByteArray) (k : Nat) (hk : k < 32) (h : ((⟨(keys.getD k []).toArray⟩ : ByteArray).toList == s.toList) = true) : keyB s.data.toList = true := by
  rw [Lib.toList_data, Lib.toList_data, beq_iff_eq] at h
  have hl : keys.length = 32 := rfl
  simp only at h
  rw [← h]
  rw [List.getD_eq_getElem?_getD, List.getElem?_eq_getElem (by omega)]
  simp [keyB]
theorem keyB_miss (s : ByteArray) (h : ∀ j, j < 32 → ((⟨(keys.getD j []).toArray⟩ : ByteArray).toList == s.toList) = false) : keyB s.data.toList = false := by
  have hl : keys.length = 32 := rfl
  rw [← Bool.not_eq_true]
  intro hb
  have hm : s.data.toList ∈ keys := by simpa [keyB] using hb
  obtain ⟨j, hj, he⟩ := List.getElem_of_mem hm
  have := h j (by omega)
  rw [Lib.toList_data, Lib.toList_data, List.getD_eq_getElem?_getD, List.getElem?_eq_getElem hj] at this
  simp [he] at this

theorem refIsKey_any (s : ByteArray) (w : World) :
    Calls Tryd.prog 42 #[.string s] w fun e w' => e = .returned (.bool (keyB s.data.toList)) ∧ Below w.heap.size w w' := by
  go_enter Tryd.func42, Tryd.ntmps42
  go_wp2_with fail
  refine (refKeys_any _).mono ?_
  rintro e w1 ⟨g, rfl, hg, hh, hb⟩
  have HH := Lib.hid hh
  have HB := Lib.hid hb
  clear hh hb
  go_wp2
  go_loop [4] (fun i => ∃ k : Nat, k ≤ 32 ∧ i = .int .i64 k ∧ Hid (∀ j, j < k → ((⟨(keys.getD j []).toArray⟩ : ByteArray).toList == s.toList) = false)) (fun i => 32 - (intOf i).toNat)
  case atStart => exact ⟨0, by omega, rfl, Lib.hid (fun j hj => by omega)⟩
  case round =>
    obtain ⟨k, hk, rfl, HN⟩ := hrel
    by_cases hk32 : k < 32
    · have hc := (HH.out.cell k).trans (keysA_at k hk32)
      have hit := keyB_hit s k hk32
      have hmiss : ((⟨(keys.getD k []).toArray⟩ : ByteArray).toList == s.toList) = false → ∀ j, j < k + 1 → ((⟨(keys.getD j []).toArray⟩ : ByteArray).toList == s.toList) = false := by
        intro h j hj
        rcases Nat.lt_or_eq_of_le (Nat.le_of_lt_succ hj) with g | rfl
        · exact HN.out j g
        · exact h
      generalize (⟨(keys.getD k []).toArray⟩ : ByteArray) = kx at *
      cases hq : (kx.toList == s.toList)
      · have HM := Lib.hid (hmiss hq)
        clear hit hmiss HN
        go_wp2
        go_round
        case rel => exact ⟨k + 1, by omega, by go_num, HM⟩
        case measure => simp [intOf]; omega
      · have HI := Lib.hid (hit hq)
        clear hit hmiss HN
        go_wp2
        go_ret
        exact ⟨ret_bool (by rw [HI.out]), HB.out⟩
    · obtain rfl : k = 32 := by omega
      have hm := keyB_miss s HN.out
      have HM := Lib.hid hm
      clear hm HN
      go_wp2
      go_ret
      exact ⟨ret_bool (by rw [HM.out]), HB.out⟩
end Go.Proofs.YtjjihijkkljbnaaDoor.lx
