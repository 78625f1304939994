/-
  A number that is no kind is a Fault, an At over no error is; the place is the At's own. The walk.
-/
import Derived.Test.YtboeobgkepdabaaDoorFcOwnA
import Derived.Test.YtboeobgkepdabaaDoorFcAwake
namespace Go.Proofs.YtboeobgkepdabaaDoor.faultsOdd
open Go.ChangeShapes Go.WideShapes Go.ChangeAt Go.RowKit
open Go.Proofs.YtboeobgkepdabaaDoor.lx (Has)
set_option linter.unusedVariables false

set_option maxRecDepth 100000 in
set_option maxHeartbeats 8000000 in
theorem walk (x y n : Int) (nm : ByteArray) (w : World) (hh : ft.Handle w) :
    Calls Tryd.prog 7 #[.agg #[.int .i64 x, .int .i64 y], .int .i64 n, .string nm] w fun e w' => e = .returned (.bool true) ∧ Below w.heap.size w w' := by
  have HH := Lib.hid hh
  have hb0 := (Below.refl w.heap.size w).alloc (Nat.le_refl _) (.cells #[.int .i64 x, .int .i64 y] 23)
  have hp0 := lx.Has.new w 23 #[.int .i64 x, .int .i64 y]
  have HB0 := Lib.hid hb0
  have HP0 := Lib.hid hp0
  clear hh hb0 hp0
  go_enter Tryd.func7, Tryd.ntmps7
  go_wp2_with fail
  refine (ft.awake_any _ (HH.out.below HB0.out)).mono ?_
  rintro e w1 ⟨rfl, hb1⟩
  have HB1 := Lib.hid (HB0.out.trans (hb1.mono HB0.out.size))
  have hp1 := HP0.out.below hb1 HP0.out.lt
  have HP1 := Lib.hid hp1
  have c0 := hp1.cell 0
  have c1 := hp1.cell 1
  have hl := hp1.lt
  simp only [List.getElem?_toArray, List.getElem?_cons_zero, List.getElem?_cons_succ] at c0 c1
  clear hb1 hp1
  by_cases hz : 200 < nm.size
  · go_wp2_with fail
    refine (ft.awake_any _ (HH.out.below HB1.out)).mono ?_
    rintro e w2 ⟨rfl, hb2⟩
    have HB2 := Lib.hid (HB1.out.trans (hb2.mono HB1.out.size))
    clear hb2
    go_wp2_with fail
    go_ret
    exact ⟨rfl, HB2.out⟩
  · by_cases hn1 : n < 1
    · skip
      go_wp2_with fail
      obtain ⟨W2, hW2⟩ : ∃ W2 : World, W2 = w1.alloc (.cells #[.int .i64 x, .int .i64 y, .string ⟨#[]⟩, .bool false, .iface 29 (.int .i64 n)] 50) := ⟨_, rfl⟩
      have hat : Has W2 w1.heap.size 50 #[.int .i64 x, .int .i64 y, .string ⟨#[]⟩, .bool false, .iface 29 (.int .i64 n)] := by rw [hW2]; exact Has.new w1 _ _
      have hp2 : Has W2 w.heap.size 23 #[.int .i64 x, .int .i64 y] := by rw [hW2]; exact HP1.out.alloc _
      have hb2 : Below w.heap.size w W2 := by rw [hW2]; exact HB1.out.alloc HB1.out.size _
      have HWK := Lib.hid (show ft.wantK n = 12 by unfold ft.wantK; split <;> omega)
      have HK1 : Hid (∀ W, Calls Tryd.prog 15 #[.iface 29 (.int .i64 n)] W fun e w' => e = .returned (.int .i64 12) ∧ Below W.heap.size W w') := Lib.hid (fun W => by have := ft.kind_k n W; rw [HWK.out] at this; exact this)
      have HK2 : Hid (∀ ga W, Has W ga 50 #[.int .i64 0, .int .i64 0, .string nm, .bool true, .iface 41 (.pointer (some ⟨w1.heap.size, 0, none⟩))] → Has W w1.heap.size 50 #[.int .i64 x, .int .i64 y, .string ⟨#[]⟩, .bool false, .iface 29 (.int .i64 n)] → ga ≠ w1.heap.size → Calls Tryd.prog 15 #[.iface 41 (.pointer (some ⟨ga, 0, none⟩))] W fun e w' => e = .returned (.int .i64 12) ∧ Below W.heap.size W w') := Lib.hid (fun ga W h1 h2 h3 => by have := ft.kind_aak ga w1.heap.size 0 0 x y n nm ⟨#[]⟩ true false W h3 h1 h2; rw [HWK.out] at this; exact this)
      have HKA : Hid (∀ W o, Has W w.heap.size 23 #[.int .i64 x, .int .i64 y] → ((W.alloc o).cell? ⟨w.heap.size, 0, none⟩ = some (.int .i64 x) ∧ (W.alloc o).cell? ⟨w.heap.size, 1, none⟩ = some (.int .i64 y))) := Lib.hid (fun W o h => ⟨(h.alloc o).cell 0, (h.alloc o).cell 1⟩)
      have HKW : Hid (∀ W, Has W w.heap.size 23 #[.int .i64 x, .int .i64 y] → (W.cell? ⟨w.heap.size, 0, none⟩ = some (.int .i64 x) ∧ W.cell? ⟨w.heap.size, 1, none⟩ = some (.int .i64 y))) := Lib.hid (fun W h => ⟨h.cell 0, h.cell 1⟩)
      have HP2 := Lib.hid (show Has W2.drew w.heap.size 23 #[.int .i64 x, .int .i64 y] from hp2)
      have HAT2 := Lib.hid (show Has W2.drew w1.heap.size 50 #[.int .i64 x, .int .i64 y, .string ⟨#[]⟩, .bool false, .iface 29 (.int .i64 n)] from hat)
      have HB2 := Lib.hid (show Below w.heap.size w W2.drew from hb2.trans (((Below.refl _ _).drew).mono hb2.size))
      have HS2 := Lib.hid (HKW.out _ HP2.out)
      have HLT : Hid (w1.heap.size < W2.drew.heap.size) := Lib.hid HAT2.out.lt
      have HW2 := Lib.hid hW2
      clear hW2 hat hp2 hb2 c0 c1
      rw [← HW2.out]
      go_region_held3 (fun w' => w'.cell? ⟨w.heap.size, 0, none⟩ = some (.int .i64 x) ∧ w'.cell? ⟨w.heap.size, 1, none⟩ = some (.int .i64 y))
        (first | with_reducible exact HS9.out | with_reducible exact HKA.out _ _ HP9.out | with_reducible exact HS8.out | with_reducible exact HKA.out _ _ HP8.out | with_reducible exact HS7.out | with_reducible exact HS6.out | with_reducible exact HS5.out | with_reducible exact HS2.out | with_reducible exact HS10.out | fail)
        (first
          | (go_at_call_of 15 n; refine (HK1.out _).mono ?_; rintro e w5 ⟨rfl, hb5⟩; have HB5 := Lib.hid (HB2.out.trans (hb5.mono HB2.out.size)); have HP5 := Lib.hid (HP2.out.below hb5 HP2.out.lt); have HAT5 := Lib.hid (HAT2.out.below hb5 HAT2.out.lt); have HS5 := Lib.hid (HKW.out _ HP5.out); have HLE5 := Lib.hid hb5.size; clear hb5)
          | (go_at_call 13; refine (ft.in_any w5 _ _ _).mono ?_; rintro e w6 ⟨ga, hgl, rfl, hga, hb6⟩; have HNE := Lib.hid (show ga ≠ w1.heap.size from (have a := HLT.out; have b := HLE5.out; by omega)); have HGA6 := Lib.hid hga; have HB6 := Lib.hid (HB5.out.trans (hb6.mono HB5.out.size)); have HP6 := Lib.hid (HP5.out.below hb6 HP5.out.lt); have HAT6 := Lib.hid (HAT5.out.below hb6 HAT5.out.lt); have HS6 := Lib.hid (HKW.out _ HP6.out); clear hb6 hga hgl)
          | (go_at_call_of 15 ga; refine (HK2.out ga w6 HGA6.out HAT6.out HNE.out).mono ?_; rintro e w7 ⟨rfl, hb7⟩; have HB7 := Lib.hid (HB6.out.trans (hb7.mono HB6.out.size)); have HP7 := Lib.hid (HP6.out.below hb7 HP6.out.lt); have HAT7 := Lib.hid (HAT6.out.below hb7 HAT6.out.lt); have HS7 := Lib.hid (HKW.out _ HP7.out); clear hb7)
          | (go_at_call_of 16 w1; refine (ft.where_at w1.heap.size x y n ⟨#[]⟩ w7 (HH.out.below HB7.out) HAT7.out).mono ?_; rintro e w8 ⟨rfl, hb8⟩; have HB8 := Lib.hid (HB7.out.trans (hb8.mono HB7.out.size)); have HP8 := Lib.hid (HP7.out.below hb8 HP7.out.lt); have HS8 := Lib.hid (HKW.out _ HP8.out); clear hb8)
          | (go_at_call_of 16 w8; have hbA := HB8.out.alloc HB8.out.size (.cells #[.int .i64 x, .int .i64 y, .string ⟨#[]⟩, .bool false, .nilIface] 50); refine (ft.where_a w8.heap.size x y ⟨#[]⟩ _ (HH.out.below hbA) (Has.new w8 _ _)).mono ?_; rintro e w9 ⟨rfl, hb9⟩; have HB9 := Lib.hid (hbA.trans (hb9.mono hbA.size)); have HP9 := Lib.hid ((HP8.out.alloc _).below hb9 (HP8.out.alloc _).lt); have HS9 := Lib.hid (HKW.out _ HP9.out); clear hb9 hbA)
          | (go_at_call_of 15 w9; have hbA := HB9.out.alloc HB9.out.size (.cells #[.int .i64 x, .int .i64 y, .string ⟨#[]⟩, .bool false, .nilIface] 50); refine (ft.kind_a w9.heap.size x y ⟨#[]⟩ false _ (Has.new w9 _ _)).mono ?_; rintro e w10 ⟨rfl, hb10⟩; have HB10 := Lib.hid (hbA.trans (hb10.mono hbA.size)); have HP10 := Lib.hid ((HP9.out.alloc _).below hb10 (HP9.out.alloc _).lt); have HS10 := Lib.hid (HKW.out _ HP10.out); clear hb10 hbA)
          | fail)
      all_goals
        go_wp2_with fail
        go_ret
        exact ⟨rfl, HB10.out⟩
    · by_cases hn2 : 12 < n
      · skip
        go_wp2_with fail
        obtain ⟨W2, hW2⟩ : ∃ W2 : World, W2 = w1.alloc (.cells #[.int .i64 x, .int .i64 y, .string ⟨#[]⟩, .bool false, .iface 29 (.int .i64 n)] 50) := ⟨_, rfl⟩
        have hat : Has W2 w1.heap.size 50 #[.int .i64 x, .int .i64 y, .string ⟨#[]⟩, .bool false, .iface 29 (.int .i64 n)] := by rw [hW2]; exact Has.new w1 _ _
        have hp2 : Has W2 w.heap.size 23 #[.int .i64 x, .int .i64 y] := by rw [hW2]; exact HP1.out.alloc _
        have hb2 : Below w.heap.size w W2 := by rw [hW2]; exact HB1.out.alloc HB1.out.size _
        have HWK := Lib.hid (show ft.wantK n = 12 by unfold ft.wantK; split <;> omega)
        have HK1 : Hid (∀ W, Calls Tryd.prog 15 #[.iface 29 (.int .i64 n)] W fun e w' => e = .returned (.int .i64 12) ∧ Below W.heap.size W w') := Lib.hid (fun W => by have := ft.kind_k n W; rw [HWK.out] at this; exact this)
        have HK2 : Hid (∀ ga W, Has W ga 50 #[.int .i64 0, .int .i64 0, .string nm, .bool true, .iface 41 (.pointer (some ⟨w1.heap.size, 0, none⟩))] → Has W w1.heap.size 50 #[.int .i64 x, .int .i64 y, .string ⟨#[]⟩, .bool false, .iface 29 (.int .i64 n)] → ga ≠ w1.heap.size → Calls Tryd.prog 15 #[.iface 41 (.pointer (some ⟨ga, 0, none⟩))] W fun e w' => e = .returned (.int .i64 12) ∧ Below W.heap.size W w') := Lib.hid (fun ga W h1 h2 h3 => by have := ft.kind_aak ga w1.heap.size 0 0 x y n nm ⟨#[]⟩ true false W h3 h1 h2; rw [HWK.out] at this; exact this)
        have HKA : Hid (∀ W o, Has W w.heap.size 23 #[.int .i64 x, .int .i64 y] → ((W.alloc o).cell? ⟨w.heap.size, 0, none⟩ = some (.int .i64 x) ∧ (W.alloc o).cell? ⟨w.heap.size, 1, none⟩ = some (.int .i64 y))) := Lib.hid (fun W o h => ⟨(h.alloc o).cell 0, (h.alloc o).cell 1⟩)
        have HKW : Hid (∀ W, Has W w.heap.size 23 #[.int .i64 x, .int .i64 y] → (W.cell? ⟨w.heap.size, 0, none⟩ = some (.int .i64 x) ∧ W.cell? ⟨w.heap.size, 1, none⟩ = some (.int .i64 y))) := Lib.hid (fun W h => ⟨h.cell 0, h.cell 1⟩)
        have HP2 := Lib.hid (show Has W2.drew w.heap.size 23 #[.int .i64 x, .int .i64 y] from hp2)
        have HAT2 := Lib.hid (show Has W2.drew w1.heap.size 50 #[.int .i64 x, .int .i64 y, .string ⟨#[]⟩, .bool false, .iface 29 (.int .i64 n)] from hat)
        have HB2 := Lib.hid (show Below w.heap.size w W2.drew from hb2.trans (((Below.refl _ _).drew).mono hb2.size))
        have HS2 := Lib.hid (HKW.out _ HP2.out)
        have HLT : Hid (w1.heap.size < W2.drew.heap.size) := Lib.hid HAT2.out.lt
        have HW2 := Lib.hid hW2
        clear hW2 hat hp2 hb2 c0 c1
        rw [← HW2.out]
        go_region_held3 (fun w' => w'.cell? ⟨w.heap.size, 0, none⟩ = some (.int .i64 x) ∧ w'.cell? ⟨w.heap.size, 1, none⟩ = some (.int .i64 y))
          (first | with_reducible exact HS9.out | with_reducible exact HKA.out _ _ HP9.out | with_reducible exact HS8.out | with_reducible exact HKA.out _ _ HP8.out | with_reducible exact HS7.out | with_reducible exact HS6.out | with_reducible exact HS5.out | with_reducible exact HS2.out | with_reducible exact HS10.out | fail)
          (first
            | (go_at_call_of 15 n; refine (HK1.out _).mono ?_; rintro e w5 ⟨rfl, hb5⟩; have HB5 := Lib.hid (HB2.out.trans (hb5.mono HB2.out.size)); have HP5 := Lib.hid (HP2.out.below hb5 HP2.out.lt); have HAT5 := Lib.hid (HAT2.out.below hb5 HAT2.out.lt); have HS5 := Lib.hid (HKW.out _ HP5.out); have HLE5 := Lib.hid hb5.size; clear hb5)
            | (go_at_call 13; refine (ft.in_any w5 _ _ _).mono ?_; rintro e w6 ⟨ga, hgl, rfl, hga, hb6⟩; have HNE := Lib.hid (show ga ≠ w1.heap.size from (have a := HLT.out; have b := HLE5.out; by omega)); have HGA6 := Lib.hid hga; have HB6 := Lib.hid (HB5.out.trans (hb6.mono HB5.out.size)); have HP6 := Lib.hid (HP5.out.below hb6 HP5.out.lt); have HAT6 := Lib.hid (HAT5.out.below hb6 HAT5.out.lt); have HS6 := Lib.hid (HKW.out _ HP6.out); clear hb6 hga hgl)
            | (go_at_call_of 15 ga; refine (HK2.out ga w6 HGA6.out HAT6.out HNE.out).mono ?_; rintro e w7 ⟨rfl, hb7⟩; have HB7 := Lib.hid (HB6.out.trans (hb7.mono HB6.out.size)); have HP7 := Lib.hid (HP6.out.below hb7 HP6.out.lt); have HAT7 := Lib.hid (HAT6.out.below hb7 HAT6.out.lt); have HS7 := Lib.hid (HKW.out _ HP7.out); clear hb7)
            | (go_at_call_of 16 w1; refine (ft.where_at w1.heap.size x y n ⟨#[]⟩ w7 (HH.out.below HB7.out) HAT7.out).mono ?_; rintro e w8 ⟨rfl, hb8⟩; have HB8 := Lib.hid (HB7.out.trans (hb8.mono HB7.out.size)); have HP8 := Lib.hid (HP7.out.below hb8 HP7.out.lt); have HS8 := Lib.hid (HKW.out _ HP8.out); clear hb8)
            | (go_at_call_of 16 w8; have hbA := HB8.out.alloc HB8.out.size (.cells #[.int .i64 x, .int .i64 y, .string ⟨#[]⟩, .bool false, .nilIface] 50); refine (ft.where_a w8.heap.size x y ⟨#[]⟩ _ (HH.out.below hbA) (Has.new w8 _ _)).mono ?_; rintro e w9 ⟨rfl, hb9⟩; have HB9 := Lib.hid (hbA.trans (hb9.mono hbA.size)); have HP9 := Lib.hid ((HP8.out.alloc _).below hb9 (HP8.out.alloc _).lt); have HS9 := Lib.hid (HKW.out _ HP9.out); clear hb9 hbA)
            | (go_at_call_of 15 w9; have hbA := HB9.out.alloc HB9.out.size (.cells #[.int .i64 x, .int .i64 y, .string ⟨#[]⟩, .bool false, .nilIface] 50); refine (ft.kind_a w9.heap.size x y ⟨#[]⟩ false _ (Has.new w9 _ _)).mono ?_; rintro e w10 ⟨rfl, hb10⟩; have HB10 := Lib.hid (hbA.trans (hb10.mono hbA.size)); have HP10 := Lib.hid ((HP9.out.alloc _).below hb10 (HP9.out.alloc _).lt); have HS10 := Lib.hid (HKW.out _ HP10.out); clear hb10 hbA)
            | fail)
        all_goals
          go_wp2_with fail
          go_ret
          exact ⟨rfl, HB10.out⟩
      · skip
        go_wp2_with fail
        obtain ⟨W2, hW2⟩ : ∃ W2 : World, W2 = w1.alloc (.cells #[.int .i64 x, .int .i64 y, .string ⟨#[]⟩, .bool false, .iface 29 (.int .i64 n)] 50) := ⟨_, rfl⟩
        have hat : Has W2 w1.heap.size 50 #[.int .i64 x, .int .i64 y, .string ⟨#[]⟩, .bool false, .iface 29 (.int .i64 n)] := by rw [hW2]; exact Has.new w1 _ _
        have hp2 : Has W2 w.heap.size 23 #[.int .i64 x, .int .i64 y] := by rw [hW2]; exact HP1.out.alloc _
        have hb2 : Below w.heap.size w W2 := by rw [hW2]; exact HB1.out.alloc HB1.out.size _
        have HWK := Lib.hid (show ft.wantK n = n by unfold ft.wantK; split <;> omega)
        have HK1 : Hid (∀ W, Calls Tryd.prog 15 #[.iface 29 (.int .i64 n)] W fun e w' => e = .returned (.int .i64 n) ∧ Below W.heap.size W w') := Lib.hid (fun W => by have := ft.kind_k n W; rw [HWK.out] at this; exact this)
        have HK2 : Hid (∀ ga W, Has W ga 50 #[.int .i64 0, .int .i64 0, .string nm, .bool true, .iface 41 (.pointer (some ⟨w1.heap.size, 0, none⟩))] → Has W w1.heap.size 50 #[.int .i64 x, .int .i64 y, .string ⟨#[]⟩, .bool false, .iface 29 (.int .i64 n)] → ga ≠ w1.heap.size → Calls Tryd.prog 15 #[.iface 41 (.pointer (some ⟨ga, 0, none⟩))] W fun e w' => e = .returned (.int .i64 n) ∧ Below W.heap.size W w') := Lib.hid (fun ga W h1 h2 h3 => by have := ft.kind_aak ga w1.heap.size 0 0 x y n nm ⟨#[]⟩ true false W h3 h1 h2; rw [HWK.out] at this; exact this)
        have HKA : Hid (∀ W o, Has W w.heap.size 23 #[.int .i64 x, .int .i64 y] → ((W.alloc o).cell? ⟨w.heap.size, 0, none⟩ = some (.int .i64 x) ∧ (W.alloc o).cell? ⟨w.heap.size, 1, none⟩ = some (.int .i64 y))) := Lib.hid (fun W o h => ⟨(h.alloc o).cell 0, (h.alloc o).cell 1⟩)
        have HKW : Hid (∀ W, Has W w.heap.size 23 #[.int .i64 x, .int .i64 y] → (W.cell? ⟨w.heap.size, 0, none⟩ = some (.int .i64 x) ∧ W.cell? ⟨w.heap.size, 1, none⟩ = some (.int .i64 y))) := Lib.hid (fun W h => ⟨h.cell 0, h.cell 1⟩)
        have HP2 := Lib.hid (show Has W2.drew w.heap.size 23 #[.int .i64 x, .int .i64 y] from hp2)
        have HAT2 := Lib.hid (show Has W2.drew w1.heap.size 50 #[.int .i64 x, .int .i64 y, .string ⟨#[]⟩, .bool false, .iface 29 (.int .i64 n)] from hat)
        have HB2 := Lib.hid (show Below w.heap.size w W2.drew from hb2.trans (((Below.refl _ _).drew).mono hb2.size))
        have HS2 := Lib.hid (HKW.out _ HP2.out)
        have HLT : Hid (w1.heap.size < W2.drew.heap.size) := Lib.hid HAT2.out.lt
        have HW2 := Lib.hid hW2
        clear hW2 hat hp2 hb2 c0 c1
        rw [← HW2.out]
        go_region_held3 (fun w' => w'.cell? ⟨w.heap.size, 0, none⟩ = some (.int .i64 x) ∧ w'.cell? ⟨w.heap.size, 1, none⟩ = some (.int .i64 y))
          (first | with_reducible exact HS9.out | with_reducible exact HKA.out _ _ HP9.out | with_reducible exact HS8.out | with_reducible exact HKA.out _ _ HP8.out | with_reducible exact HS7.out | with_reducible exact HS6.out | with_reducible exact HS5.out | with_reducible exact HS2.out | with_reducible exact HS10.out | fail)
          (first
            | (go_at_call_of 15 n; refine (HK1.out _).mono ?_; rintro e w5 ⟨rfl, hb5⟩; have HB5 := Lib.hid (HB2.out.trans (hb5.mono HB2.out.size)); have HP5 := Lib.hid (HP2.out.below hb5 HP2.out.lt); have HAT5 := Lib.hid (HAT2.out.below hb5 HAT2.out.lt); have HS5 := Lib.hid (HKW.out _ HP5.out); have HLE5 := Lib.hid hb5.size; clear hb5)
            | (go_at_call 13; refine (ft.in_any w5 _ _ _).mono ?_; rintro e w6 ⟨ga, hgl, rfl, hga, hb6⟩; have HNE := Lib.hid (show ga ≠ w1.heap.size from (have a := HLT.out; have b := HLE5.out; by omega)); have HGA6 := Lib.hid hga; have HB6 := Lib.hid (HB5.out.trans (hb6.mono HB5.out.size)); have HP6 := Lib.hid (HP5.out.below hb6 HP5.out.lt); have HAT6 := Lib.hid (HAT5.out.below hb6 HAT5.out.lt); have HS6 := Lib.hid (HKW.out _ HP6.out); clear hb6 hga hgl)
            | (go_at_call_of 15 ga; refine (HK2.out ga w6 HGA6.out HAT6.out HNE.out).mono ?_; rintro e w7 ⟨rfl, hb7⟩; have HB7 := Lib.hid (HB6.out.trans (hb7.mono HB6.out.size)); have HP7 := Lib.hid (HP6.out.below hb7 HP6.out.lt); have HAT7 := Lib.hid (HAT6.out.below hb7 HAT6.out.lt); have HS7 := Lib.hid (HKW.out _ HP7.out); clear hb7)
            | (go_at_call_of 16 w1; refine (ft.where_at w1.heap.size x y n ⟨#[]⟩ w7 (HH.out.below HB7.out) HAT7.out).mono ?_; rintro e w8 ⟨rfl, hb8⟩; have HB8 := Lib.hid (HB7.out.trans (hb8.mono HB7.out.size)); have HP8 := Lib.hid (HP7.out.below hb8 HP7.out.lt); have HS8 := Lib.hid (HKW.out _ HP8.out); clear hb8)
            | (go_at_call_of 16 w8; have hbA := HB8.out.alloc HB8.out.size (.cells #[.int .i64 x, .int .i64 y, .string ⟨#[]⟩, .bool false, .nilIface] 50); refine (ft.where_a w8.heap.size x y ⟨#[]⟩ _ (HH.out.below hbA) (Has.new w8 _ _)).mono ?_; rintro e w9 ⟨rfl, hb9⟩; have HB9 := Lib.hid (hbA.trans (hb9.mono hbA.size)); have HP9 := Lib.hid ((HP8.out.alloc _).below hb9 (HP8.out.alloc _).lt); have HS9 := Lib.hid (HKW.out _ HP9.out); clear hb9 hbA)
            | (go_at_call_of 15 w9; have hbA := HB9.out.alloc HB9.out.size (.cells #[.int .i64 x, .int .i64 y, .string ⟨#[]⟩, .bool false, .nilIface] 50); refine (ft.kind_a w9.heap.size x y ⟨#[]⟩ false _ (Has.new w9 _ _)).mono ?_; rintro e w10 ⟨rfl, hb10⟩; have HB10 := Lib.hid (hbA.trans (hb10.mono hbA.size)); have HP10 := Lib.hid ((HP9.out.alloc _).below hb10 (HP9.out.alloc _).lt); have HS10 := Lib.hid (HKW.out _ HP10.out); clear hb10 hbA)
            | fail)
        all_goals
          go_wp2_with fail
          go_ret
          exact ⟨rfl, HB10.out⟩
end Go.Proofs.YtboeobgkepdabaaDoor.faultsOdd
