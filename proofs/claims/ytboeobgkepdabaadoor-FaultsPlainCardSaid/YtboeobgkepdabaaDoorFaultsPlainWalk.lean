/-
  A kind that stands for itself has no place; wrapped or not it is told. The walk.
-/
import Derived.Test.YtboeobgkepdabaaDoorFcTextA
import Derived.Test.YtboeobgkepdabaaDoorFcAwake
namespace Go.Proofs.YtboeobgkepdabaaDoor.faultsPlain
open Go.ChangeShapes Go.WideShapes Go.ChangeAt Go.RowKit
set_option linter.unusedVariables false

theorem of_list (s : ByteArray) (l : List UInt8) (h : l = s.data.toList) : (⟨l.toArray⟩ : ByteArray) = s := by
  subst h
  cases s
  simp
theorem txtA_eq (nm : ByteArray) (k : Int) : ft.txtA nm k = ((⟨#[105, 110, 32]⟩ ++ nm) ++ ⟨#[58, 32]⟩) ++ ft.kwS k := by
  refine of_list _ _ ?_
  simp [ft.inS, ft.colS]

theorem kind_any (k : Nat) (hk : k ≤ 255) (w : World) : Calls Tryd.prog 10 #[.int .u8 (k : Int)] w fun e w' => e = .returned (.int .i64 (1 + ((k % 12 : Nat) : Int))) ∧ w' = w := by
  go_enter Tryd.func10, Tryd.ntmps10
  go_wp2_with fail
  go_ret
  exact ⟨rfl, rfl⟩

set_option maxRecDepth 100000 in
set_option maxHeartbeats 8000000 in
theorem walk (z : Int) (wz : (Lit.int .u8 z).wf = true) (nm : ByteArray) (w : World) (hh : ft.Handle w) :
    Calls Tryd.prog 4 #[.int .u8 z, .string nm] w fun e w' => e = .returned (.bool true) ∧ Below w.heap.size w w' := by
  have ⟨p1, p2⟩ := bounds_u8 wz
  clear wz
  obtain ⟨n, rfl⟩ := Int.eq_ofNat_of_zero_le p1
  have hn : n ≤ 255 := by omega
  obtain ⟨K, hK⟩ : ∃ K : Int, K = 1 + ((n % 12 : Nat) : Int) := ⟨_, rfl⟩
  have hKl : 1 ≤ K ∧ K ≤ 12 := by have := Nat.mod_lt n (show 0 < 12 by decide); omega
  have hKF := kind_any n hn
  rw [← hK] at hKF
  have HKF := Lib.hid hKF
  have hwK : ft.wantK K = K := by
    unfold ft.wantK
    by_cases h : 1 ≤ K ∧ K < 12
    · rw [if_pos h]
    · rw [if_neg h]; omega
  have HWK := Lib.hid hwK
  have HH := Lib.hid hh
  clear hh hK hKF hwK p1 p2
  go_enter Tryd.func4, Tryd.ntmps4
  go_wp2_with fail
  refine (ft.awake_any _ HH.out).mono ?_
  rintro e w1 ⟨rfl, hb1⟩
  have HB1 := Lib.hid hb1
  clear hb1
  by_cases hz : 200 < nm.size
  · go_wp2_with fail
    refine (ft.awake_any _ (HH.out.below HB1.out)).mono ?_
    rintro e w2 ⟨rfl, hb2⟩
    have HB2 := Lib.hid (HB1.out.trans (hb2.mono HB1.out.size))
    clear hb2
    go_wp2_with fail
    go_ret
    exact ⟨rfl, HB2.out⟩
  · have hz2 : nm.size ≤ 300 := by omega
    go_wp2_with fail
    refine (HKF.out _).mono ?_
    rintro e w2 ⟨rfl, rfl⟩
    go_wp2_with fail
    refine (ft.in_any _ _ _ _).mono ?_
    rintro e w3 ⟨g, hgl, rfl, hg, hb3⟩
    have HG := Lib.hid hg
    have HB3 := Lib.hid (HB1.out.trans (hb3.mono HB1.out.size))
    clear hg hb3 HB1
    go_wp2_with fail
    refine (ft.kind_ak g 0 0 K nm true _ HG.out).mono ?_
    rintro e w4 ⟨rfl, hb4⟩
    rw [HWK.out]
    have HG4 := Lib.hid (HG.out.below hb4 HG.out.lt)
    have HB4 := Lib.hid (HB3.out.trans (hb4.mono HB3.out.size))
    clear hb4 HB3 HG
    go_wp2_with fail
    refine (HKF.out _).mono ?_
    rintro e w5 ⟨rfl, rfl⟩
    go_wp2_with fail
    refine (ft.where_ak g 0 0 K nm _ (HH.out.below HB4.out) HG4.out).mono ?_
    rintro e w6 ⟨rfl, hb6⟩
    have HG6 := Lib.hid (HG4.out.below hb6 HG4.out.lt)
    have HB6 := Lib.hid (HB4.out.trans (hb6.mono HB4.out.size))
    clear hb6 HB4 HG4
    go_wp2_with fail
    have ht := ft.text_a g (ft.txtA nm K) w6 (fun W hb => ft.error_ak g 0 0 K nm W hz2 hKl.1 hKl.2 (HG6.out.below hb HG6.out.lt))
    rw [txtA_eq] at ht
    refine ht.mono ?_
    rintro e w7 ⟨rfl, hb7⟩
    have HB7 := Lib.hid (HB6.out.trans (hb7.mono HB6.out.size))
    have hkz := ft.kwS_size K
    clear hb7 ht HB6 HG6
    go_wp2_with fail
    refine (HKF.out _).mono ?_
    rintro e w8 ⟨rfl, rfl⟩
    go_wp2_with fail
    refine (ft.word_k K hKl.1 hKl.2 _).mono ?_
    rintro e w9 ⟨rfl, hb9⟩
    have HB9 := Lib.hid (HB7.out.trans (hb9.mono HB7.out.size))
    clear hb9 HB7
    go_wp2_with fail
    refine (HKF.out _).mono ?_
    rintro e w10 ⟨rfl, rfl⟩
    go_wp2_with fail
    refine (ft.kind_k K _).mono ?_
    rintro e w11 ⟨rfl, hb11⟩
    rw [HWK.out]
    have HB11 := Lib.hid (HB9.out.trans (hb11.mono HB9.out.size))
    clear hb11 HB9
    go_wp2_with fail
    refine (HKF.out _).mono ?_
    rintro e w12 ⟨rfl, rfl⟩
    go_wp2_with fail
    go_ret
    exact ⟨rfl, HB11.out⟩
end Go.Proofs.YtboeobgkepdabaaDoor.faultsPlain
