/-
  awake: the document's example.
-/
import Derived.Test.YtkjfodbdkacjfaaDoorTyBoth
namespace Go.Proofs.YtkjfodbdkacjfaaDoor.ty
open Go.ChangeShapes Go.WideShapes Go.ChangeAt Go.RowKit
open Go.Proofs.YtkjfodbdkacjfaaDoor.lx (Has grown_refl grown_put grown_below)
set_option linter.unusedVariables false

theorem ok_awake : okB 3 0 1 = false := by
  unfold okB sameT
  rw [show ((ct 1).tk == (ct 0).tk) = false from rfl]
  rfl

set_option maxRecDepth 100000 in
set_option maxHeartbeats 4000000 in
theorem awake_any (w : World) (hL : Laid w) :
    Calls Tryd.prog 6 #[] w fun e w' => e = .returned (.bool true) ∧ Below w.heap.size w w' := by
  obtain ⟨ks, hks⟩ : ∃ ks : Array Value, ks = #[.int .u8 1, .int .u8 0, .int .i32 1, .string ⟨#[]⟩, .slice none 0 0, .slice none 0 0, .int .i64 0, .int .i64 0, .int .u8 2, .int .u8 0, .int .i32 1, .string ⟨#[]⟩, .slice none 0 0, .slice none 0 0, .int .i64 0, .int .i64 0] := ⟨_, rfl⟩
  have hk := Has.new w 33 ks
  obtain ⟨W1, hW1⟩ : ∃ W1, W1 = (w.alloc (.cells ks 33)).alloc (.cells #[.int .u8 7, .int .u8 3, .int .i32 0, .string ⟨#[]⟩, .slice none 0 0, .slice (some ⟨w.heap.size, 0, none⟩) 2 2, .int .i64 1, .int .i64 1] 33) := ⟨_, rfl⟩
  have hb1 : Below w.heap.size w W1 := by subst hW1; exact ((Below.refl _ w).alloc (Nat.le_refl _) _).alloc (by simp) _
  have hk1 : Has W1 w.heap.size 33 ks := by subst hW1; exact hk.alloc _
  have hl0 : Leaf W1 w.heap.size 0 (ct 0).k (ct 0).s := leaf_at hk1 (by rw [hks]; rfl) (by rw [hks]; rfl) (by rw [hks]; rfl) (by rw [hks]; rfl) (by rw [hks]; rfl)
  have hl1 : Leaf W1 w.heap.size 8 (ct 1).k (ct 1).s := leaf_at hk1 (by rw [hks]; rfl) (by rw [hks]; rfl) (by rw [hks]; rfl) (by rw [hks]; rfl) (by rw [hks]; rfl)
  have hT := tbin W1 w.heap.size (.slice none 0 0) 3 1 1 0 1 (by decide) (by decide) (by decide) (by decide) (hL.1.below hb1) (.inl (by decide)) (.inl (by decide)) hl0 hl1
  rw [ok_awake] at hT
  unfold TPost exC at hT
  subst hks
  have HT := Lib.hid hT
  have HL := Lib.hid hL
  have HB1 := Lib.hid hb1
  have HW1 := Lib.hid hW1
  clear hT hk hL hb1 hk1 hW1 hl0 hl1
  go_enter Tryd.func6, Tryd.ntmps6
  go_wp2_with fail
  rw [← HW1.out]
  refine HT.out.mono ?_
  rintro e w2 ⟨hb2, -, hbad⟩
  obtain ⟨ga, hga, hn, rfl⟩ := hbad (by trivial)
  have hB := HB1.out.trans (hb2.mono HB1.out.size)
  have HB := Lib.hid hB
  have HN := Lib.hid hn
  have HH := Lib.hid (HL.out.2.below hB)
  clear hbad hb2 hB hn hga
  go_wp2_with fail
  refine (ft.kind_at ga 1 1 noT false 7 (by decide) (by decide) _ (HN.out.alloc _)).mono ?_
  rintro e w3 ⟨rfl, hb3⟩
  have hs2 := HB.out.size
  have hB := (HB.out.alloc hs2 (.cells #[.int .u8 0, .string noT] 35)).trans (hb3.mono (by simp; omega))
  have hn := (HN.out.alloc (.cells #[.int .u8 0, .string noT] 35)).below hb3 (by have := HN.out.lt; simp; omega)
  have HB3 := Lib.hid hB
  have HN3 := Lib.hid hn
  have HH3 := Lib.hid (HL.out.2.below hB)
  clear hb3 hB hn hs2
  go_wp2_with fail
  refine (ft.where_at ga 1 1 7 noT _ HH3.out HN3.out).mono ?_
  rintro e w4 ⟨rfl, hb4⟩
  have HB4 := Lib.hid (HB3.out.trans (hb4.mono HB3.out.size))
  clear hb4
  go_wp2_with fail
  go_ret
  exact ⟨rfl, HB4.out⟩
end Go.Proofs.YtkjfodbdkacjfaaDoor.ty
