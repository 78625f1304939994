/-
  IsKey of package lex: its walk.
-/
import Derived.Test.YtjjihijkkljbnaaDoorLxVal
namespace Go.Proofs.YtjjihijkkljbnaaDoor.lx
open Go.ChangeShapes Go.WideShapes Go.ChangeAt Go.RowKit
set_option linter.unusedVariables false

theorem of_list (s : ByteArray) (l : List UInt8) (h : s.data.toList = l) : s = ⟨⟨l⟩⟩ := by subst h; rfl
theorem key_no {s : ByteArray} {l : List UInt8} (h : keyB s.data.toList = false) (hl : l ∈ keys) : (s.toList == l) = false := by
  rw [Lib.toList_data, beq_eq_false_iff_ne]
  intro e
  rw [e] at h
  simp only [keyB, List.contains_eq_mem] at h
  simp [hl] at h
theorem key_yes (s : ByteArray) (l : List UInt8) (h : s.data.toList = l) : (s.toList == l) = true := by
  rw [Lib.toList_data, h]; simp
theorem key_other (s : ByteArray) (l m : List UInt8) (h : s.data.toList = l) (hn : l ≠ m) : (s.toList == m) = false := by
  rw [Lib.toList_data, h]; simpa using hn

set_option maxHeartbeats 1000000 in
theorem isKey_no (s : ByteArray) (w : World) (h : keyB s.data.toList = false) :
    Calls Tryd.prog 81 #[.string s] w fun e w' => e = .returned (.bool false) ∧ w = w' := by
  have k0 : (s.toList == [97, 110, 100]) = false := key_no h (by decide)
  have k1 : (s.toList == [97, 117, 116, 111, 109, 97, 116, 111, 110]) = false := key_no h (by decide)
  have k2 : (s.toList == [98, 111, 111, 108]) = false := key_no h (by decide)
  have k3 : (s.toList == [99, 111, 110, 116, 105, 110, 117, 101]) = false := key_no h (by decide)
  have k4 : (s.toList == [100, 111]) = false := key_no h (by decide)
  have k5 : (s.toList == [101, 108, 115, 101]) = false := key_no h (by decide)
  have k6 : (s.toList == [101, 110, 100]) = false := key_no h (by decide)
  have k7 : (s.toList == [101, 118, 101, 114, 121]) = false := key_no h (by decide)
  have k8 : (s.toList == [102, 97, 108, 115, 101]) = false := key_no h (by decide)
  have k9 : (s.toList == [102, 98, 121]) = false := key_no h (by decide)
  have k10 : (s.toList == [105, 102]) = false := key_no h (by decide)
  have k11 : (s.toList == [105, 110, 116]) = false := key_no h (by decide)
  have k12 : (s.toList == [108, 97, 115, 116]) = false := key_no h (by decide)
  have k13 : (s.toList == [108, 101, 116]) = false := key_no h (by decide)
  have k14 : (s.toList == [109, 101, 114, 103, 101]) = false := key_no h (by decide)
  have k15 : (s.toList == [109, 111, 100]) = false := key_no h (by decide)
  have k16 : (s.toList == [110, 111, 100, 101]) = false := key_no h (by decide)
  have k17 : (s.toList == [110, 111, 116]) = false := key_no h (by decide)
  have k18 : (s.toList == [111, 114]) = false := key_no h (by decide)
  have k19 : (s.toList == [112, 114, 101]) = false := key_no h (by decide)
  have k20 : (s.toList == [114, 101, 115, 101, 116]) = false := key_no h (by decide)
  have k21 : (s.toList == [114, 101, 116, 117, 114, 110, 115]) = false := key_no h (by decide)
  have k22 : (s.toList == [115, 119, 105, 116, 99, 104]) = false := key_no h (by decide)
  have k23 : (s.toList == [116, 101, 108]) = false := key_no h (by decide)
  have k24 : (s.toList == [116, 104, 101, 110]) = false := key_no h (by decide)
  have k25 : (s.toList == [116, 114, 117, 101]) = false := key_no h (by decide)
  have k26 : (s.toList == [116, 121, 112, 101]) = false := key_no h (by decide)
  have k27 : (s.toList == [117, 110, 108, 101, 115, 115]) = false := key_no h (by decide)
  have k28 : (s.toList == [117, 110, 116, 105, 108]) = false := key_no h (by decide)
  have k29 : (s.toList == [118, 97, 114]) = false := key_no h (by decide)
  have k30 : (s.toList == [119, 104, 101, 110]) = false := key_no h (by decide)
  have k31 : (s.toList == [120, 111, 114]) = false := key_no h (by decide)
  clear h
  go_enter Tryd.func81, Tryd.ntmps81
  go_wp2
  go_ret
  exact ⟨rfl, rfl⟩

theorem isKey_y0 (s : ByteArray) (w : World) (h : s.data.toList = [97, 110, 100]) :
    Calls Tryd.prog 81 #[.string s] w fun e w' => e = .returned (.bool true) ∧ w = w' := by
  have k0 : (s.toList == [97, 110, 100]) = true := key_yes _ _ h
  clear h
  go_enter Tryd.func81, Tryd.ntmps81
  go_wp2
  go_ret
  exact ⟨rfl, rfl⟩
theorem isKey_y1 (s : ByteArray) (w : World) (h : s.data.toList = [97, 117, 116, 111, 109, 97, 116, 111, 110]) :
    Calls Tryd.prog 81 #[.string s] w fun e w' => e = .returned (.bool true) ∧ w = w' := by
  have k0 : (s.toList == [97, 110, 100]) = false := key_other _ _ _ h (by decide)
  have k1 : (s.toList == [97, 117, 116, 111, 109, 97, 116, 111, 110]) = true := key_yes _ _ h
  clear h
  go_enter Tryd.func81, Tryd.ntmps81
  go_wp2
  go_ret
  exact ⟨rfl, rfl⟩
theorem isKey_y2 (s : ByteArray) (w : World) (h : s.data.toList = [98, 111, 111, 108]) :
    Calls Tryd.prog 81 #[.string s] w fun e w' => e = .returned (.bool true) ∧ w = w' := by
  have k0 : (s.toList == [97, 110, 100]) = false := key_other _ _ _ h (by decide)
  have k1 : (s.toList == [97, 117, 116, 111, 109, 97, 116, 111, 110]) = false := key_other _ _ _ h (by decide)
  have k2 : (s.toList == [98, 111, 111, 108]) = true := key_yes _ _ h
  clear h
  go_enter Tryd.func81, Tryd.ntmps81
  go_wp2
  go_ret
  exact ⟨rfl, rfl⟩
theorem isKey_y3 (s : ByteArray) (w : World) (h : s.data.toList = [99, 111, 110, 116, 105, 110, 117, 101]) :
    Calls Tryd.prog 81 #[.string s] w fun e w' => e = .returned (.bool true) ∧ w = w' := by
  have k0 : (s.toList == [97, 110, 100]) = false := key_other _ _ _ h (by decide)
  have k1 : (s.toList == [97, 117, 116, 111, 109, 97, 116, 111, 110]) = false := key_other _ _ _ h (by decide)
  have k2 : (s.toList == [98, 111, 111, 108]) = false := key_other _ _ _ h (by decide)
  have k3 : (s.toList == [99, 111, 110, 116, 105, 110, 117, 101]) = true := key_yes _ _ h
  clear h
  go_enter Tryd.func81, Tryd.ntmps81
  go_wp2
  go_ret
  exact ⟨rfl, rfl⟩
theorem isKey_y4 (s : ByteArray) (w : World) (h : s.data.toList = [100, 111]) :
    Calls Tryd.prog 81 #[.string s] w fun e w' => e = .returned (.bool true) ∧ w = w' := by
  have k0 : (s.toList == [97, 110, 100]) = false := key_other _ _ _ h (by decide)
  have k1 : (s.toList == [97, 117, 116, 111, 109, 97, 116, 111, 110]) = false := key_other _ _ _ h (by decide)
  have k2 : (s.toList == [98, 111, 111, 108]) = false := key_other _ _ _ h (by decide)
  have k3 : (s.toList == [99, 111, 110, 116, 105, 110, 117, 101]) = false := key_other _ _ _ h (by decide)
  have k4 : (s.toList == [100, 111]) = true := key_yes _ _ h
  clear h
  go_enter Tryd.func81, Tryd.ntmps81
  go_wp2
  go_ret
  exact ⟨rfl, rfl⟩
theorem isKey_y5 (s : ByteArray) (w : World) (h : s.data.toList = [101, 108, 115, 101]) :
    Calls Tryd.prog 81 #[.string s] w fun e w' => e = .returned (.bool true) ∧ w = w' := by
  have k0 : (s.toList == [97, 110, 100]) = false := key_other _ _ _ h (by decide)
  have k1 : (s.toList == [97, 117, 116, 111, 109, 97, 116, 111, 110]) = false := key_other _ _ _ h (by decide)
  have k2 : (s.toList == [98, 111, 111, 108]) = false := key_other _ _ _ h (by decide)
  have k3 : (s.toList == [99, 111, 110, 116, 105, 110, 117, 101]) = false := key_other _ _ _ h (by decide)
  have k4 : (s.toList == [100, 111]) = false := key_other _ _ _ h (by decide)
  have k5 : (s.toList == [101, 108, 115, 101]) = true := key_yes _ _ h
  clear h
  go_enter Tryd.func81, Tryd.ntmps81
  go_wp2
  go_ret
  exact ⟨rfl, rfl⟩
theorem isKey_y6 (s : ByteArray) (w : World) (h : s.data.toList = [101, 110, 100]) :
    Calls Tryd.prog 81 #[.string s] w fun e w' => e = .returned (.bool true) ∧ w = w' := by
  have k0 : (s.toList == [97, 110, 100]) = false := key_other _ _ _ h (by decide)
  have k1 : (s.toList == [97, 117, 116, 111, 109, 97, 116, 111, 110]) = false := key_other _ _ _ h (by decide)
  have k2 : (s.toList == [98, 111, 111, 108]) = false := key_other _ _ _ h (by decide)
  have k3 : (s.toList == [99, 111, 110, 116, 105, 110, 117, 101]) = false := key_other _ _ _ h (by decide)
  have k4 : (s.toList == [100, 111]) = false := key_other _ _ _ h (by decide)
  have k5 : (s.toList == [101, 108, 115, 101]) = false := key_other _ _ _ h (by decide)
  have k6 : (s.toList == [101, 110, 100]) = true := key_yes _ _ h
  clear h
  go_enter Tryd.func81, Tryd.ntmps81
  go_wp2
  go_ret
  exact ⟨rfl, rfl⟩
theorem isKey_y7 (s : ByteArray) (w : World) (h : s.data.toList = [101, 118, 101, 114, 121]) :
    Calls Tryd.prog 81 #[.string s] w fun e w' => e = .returned (.bool true) ∧ w = w' := by
  have k0 : (s.toList == [97, 110, 100]) = false := key_other _ _ _ h (by decide)
  have k1 : (s.toList == [97, 117, 116, 111, 109, 97, 116, 111, 110]) = false := key_other _ _ _ h (by decide)
  have k2 : (s.toList == [98, 111, 111, 108]) = false := key_other _ _ _ h (by decide)
  have k3 : (s.toList == [99, 111, 110, 116, 105, 110, 117, 101]) = false := key_other _ _ _ h (by decide)
  have k4 : (s.toList == [100, 111]) = false := key_other _ _ _ h (by decide)
  have k5 : (s.toList == [101, 108, 115, 101]) = false := key_other _ _ _ h (by decide)
  have k6 : (s.toList == [101, 110, 100]) = false := key_other _ _ _ h (by decide)
  have k7 : (s.toList == [101, 118, 101, 114, 121]) = true := key_yes _ _ h
  clear h
  go_enter Tryd.func81, Tryd.ntmps81
  go_wp2
  go_ret
  exact ⟨rfl, rfl⟩
theorem isKey_y8 (s : ByteArray) (w : World) (h : s.data.toList = [102, 97, 108, 115, 101]) :
    Calls Tryd.prog 81 #[.string s] w fun e w' => e = .returned (.bool true) ∧ w = w' := by
  have k0 : (s.toList == [97, 110, 100]) = false := key_other _ _ _ h (by decide)
  have k1 : (s.toList == [97, 117, 116, 111, 109, 97, 116, 111, 110]) = false := key_other _ _ _ h (by decide)
  have k2 : (s.toList == [98, 111, 111, 108]) = false := key_other _ _ _ h (by decide)
  have k3 : (s.toList == [99, 111, 110, 116, 105, 110, 117, 101]) = false := key_other _ _ _ h (by decide)
  have k4 : (s.toList == [100, 111]) = false := key_other _ _ _ h (by decide)
  have k5 : (s.toList == [101, 108, 115, 101]) = false := key_other _ _ _ h (by decide)
  have k6 : (s.toList == [101, 110, 100]) = false := key_other _ _ _ h (by decide)
  have k7 : (s.toList == [101, 118, 101, 114, 121]) = false := key_other _ _ _ h (by decide)
  have k8 : (s.toList == [102, 97, 108, 115, 101]) = true := key_yes _ _ h
  clear h
  go_enter Tryd.func81, Tryd.ntmps81
  go_wp2
  go_ret
  exact ⟨rfl, rfl⟩
theorem isKey_y9 (s : ByteArray) (w : World) (h : s.data.toList = [102, 98, 121]) :
    Calls Tryd.prog 81 #[.string s] w fun e w' => e = .returned (.bool true) ∧ w = w' := by
  have k0 : (s.toList == [97, 110, 100]) = false := key_other _ _ _ h (by decide)
  have k1 : (s.toList == [97, 117, 116, 111, 109, 97, 116, 111, 110]) = false := key_other _ _ _ h (by decide)
  have k2 : (s.toList == [98, 111, 111, 108]) = false := key_other _ _ _ h (by decide)
  have k3 : (s.toList == [99, 111, 110, 116, 105, 110, 117, 101]) = false := key_other _ _ _ h (by decide)
  have k4 : (s.toList == [100, 111]) = false := key_other _ _ _ h (by decide)
  have k5 : (s.toList == [101, 108, 115, 101]) = false := key_other _ _ _ h (by decide)
  have k6 : (s.toList == [101, 110, 100]) = false := key_other _ _ _ h (by decide)
  have k7 : (s.toList == [101, 118, 101, 114, 121]) = false := key_other _ _ _ h (by decide)
  have k8 : (s.toList == [102, 97, 108, 115, 101]) = false := key_other _ _ _ h (by decide)
  have k9 : (s.toList == [102, 98, 121]) = true := key_yes _ _ h
  clear h
  go_enter Tryd.func81, Tryd.ntmps81
  go_wp2
  go_ret
  exact ⟨rfl, rfl⟩
theorem isKey_y10 (s : ByteArray) (w : World) (h : s.data.toList = [105, 102]) :
    Calls Tryd.prog 81 #[.string s] w fun e w' => e = .returned (.bool true) ∧ w = w' := by
  have k0 : (s.toList == [97, 110, 100]) = false := key_other _ _ _ h (by decide)
  have k1 : (s.toList == [97, 117, 116, 111, 109, 97, 116, 111, 110]) = false := key_other _ _ _ h (by decide)
  have k2 : (s.toList == [98, 111, 111, 108]) = false := key_other _ _ _ h (by decide)
  have k3 : (s.toList == [99, 111, 110, 116, 105, 110, 117, 101]) = false := key_other _ _ _ h (by decide)
  have k4 : (s.toList == [100, 111]) = false := key_other _ _ _ h (by decide)
  have k5 : (s.toList == [101, 108, 115, 101]) = false := key_other _ _ _ h (by decide)
  have k6 : (s.toList == [101, 110, 100]) = false := key_other _ _ _ h (by decide)
  have k7 : (s.toList == [101, 118, 101, 114, 121]) = false := key_other _ _ _ h (by decide)
  have k8 : (s.toList == [102, 97, 108, 115, 101]) = false := key_other _ _ _ h (by decide)
  have k9 : (s.toList == [102, 98, 121]) = false := key_other _ _ _ h (by decide)
  have k10 : (s.toList == [105, 102]) = true := key_yes _ _ h
  clear h
  go_enter Tryd.func81, Tryd.ntmps81
  go_wp2
  go_ret
  exact ⟨rfl, rfl⟩
theorem isKey_y11 (s : ByteArray) (w : World) (h : s.data.toList = [105, 110, 116]) :
    Calls Tryd.prog 81 #[.string s] w fun e w' => e = .returned (.bool true) ∧ w = w' := by
  have k0 : (s.toList == [97, 110, 100]) = false := key_other _ _ _ h (by decide)
  have k1 : (s.toList == [97, 117, 116, 111, 109, 97, 116, 111, 110]) = false := key_other _ _ _ h (by decide)
  have k2 : (s.toList == [98, 111, 111, 108]) = false := key_other _ _ _ h (by decide)
  have k3 : (s.toList == [99, 111, 110, 116, 105, 110, 117, 101]) = false := key_other _ _ _ h (by decide)
  have k4 : (s.toList == [100, 111]) = false := key_other _ _ _ h (by decide)
  have k5 : (s.toList == [101, 108, 115, 101]) = false := key_other _ _ _ h (by decide)
  have k6 : (s.toList == [101, 110, 100]) = false := key_other _ _ _ h (by decide)
  have k7 : (s.toList == [101, 118, 101, 114, 121]) = false := key_other _ _ _ h (by decide)
  have k8 : (s.toList == [102, 97, 108, 115, 101]) = false := key_other _ _ _ h (by decide)
  have k9 : (s.toList == [102, 98, 121]) = false := key_other _ _ _ h (by decide)
  have k10 : (s.toList == [105, 102]) = false := key_other _ _ _ h (by decide)
  have k11 : (s.toList == [105, 110, 116]) = true := key_yes _ _ h
  clear h
  go_enter Tryd.func81, Tryd.ntmps81
  go_wp2
  go_ret
  exact ⟨rfl, rfl⟩
theorem isKey_y12 (s : ByteArray) (w : World) (h : s.data.toList = [108, 97, 115, 116]) :
    Calls Tryd.prog 81 #[.string s] w fun e w' => e = .returned (.bool true) ∧ w = w' := by
  have k0 : (s.toList == [97, 110, 100]) = false := key_other _ _ _ h (by decide)
  have k1 : (s.toList == [97, 117, 116, 111, 109, 97, 116, 111, 110]) = false := key_other _ _ _ h (by decide)
  have k2 : (s.toList == [98, 111, 111, 108]) = false := key_other _ _ _ h (by decide)
  have k3 : (s.toList == [99, 111, 110, 116, 105, 110, 117, 101]) = false := key_other _ _ _ h (by decide)
  have k4 : (s.toList == [100, 111]) = false := key_other _ _ _ h (by decide)
  have k5 : (s.toList == [101, 108, 115, 101]) = false := key_other _ _ _ h (by decide)
  have k6 : (s.toList == [101, 110, 100]) = false := key_other _ _ _ h (by decide)
  have k7 : (s.toList == [101, 118, 101, 114, 121]) = false := key_other _ _ _ h (by decide)
  have k8 : (s.toList == [102, 97, 108, 115, 101]) = false := key_other _ _ _ h (by decide)
  have k9 : (s.toList == [102, 98, 121]) = false := key_other _ _ _ h (by decide)
  have k10 : (s.toList == [105, 102]) = false := key_other _ _ _ h (by decide)
  have k11 : (s.toList == [105, 110, 116]) = false := key_other _ _ _ h (by decide)
  have k12 : (s.toList == [108, 97, 115, 116]) = true := key_yes _ _ h
  clear h
  go_enter Tryd.func81, Tryd.ntmps81
  go_wp2
  go_ret
  exact ⟨rfl, rfl⟩
theorem isKey_y13 (s : ByteArray) (w : World) (h : s.data.toList = [108, 101, 116]) :
    Calls Tryd.prog 81 #[.string s] w fun e w' => e = .returned (.bool true) ∧ w = w' := by
  have k0 : (s.toList == [97, 110, 100]) = false := key_other _ _ _ h (by decide)
  have k1 : (s.toList == [97, 117, 116, 111, 109, 97, 116, 111, 110]) = false := key_other _ _ _ h (by decide)
  have k2 : (s.toList == [98, 111, 111, 108]) = false := key_other _ _ _ h (by decide)
  have k3 : (s.toList == [99, 111, 110, 116, 105, 110, 117, 101]) = false := key_other _ _ _ h (by decide)
  have k4 : (s.toList == [100, 111]) = false := key_other _ _ _ h (by decide)
  have k5 : (s.toList == [101, 108, 115, 101]) = false := key_other _ _ _ h (by decide)
  have k6 : (s.toList == [101, 110, 100]) = false := key_other _ _ _ h (by decide)
  have k7 : (s.toList == [101, 118, 101, 114, 121]) = false := key_other _ _ _ h (by decide)
  have k8 : (s.toList == [102, 97, 108, 115, 101]) = false := key_other _ _ _ h (by decide)
  have k9 : (s.toList == [102, 98, 121]) = false := key_other _ _ _ h (by decide)
  have k10 : (s.toList == [105, 102]) = false := key_other _ _ _ h (by decide)
  have k11 : (s.toList == [105, 110, 116]) = false := key_other _ _ _ h (by decide)
  have k12 : (s.toList == [108, 97, 115, 116]) = false := key_other _ _ _ h (by decide)
  have k13 : (s.toList == [108, 101, 116]) = true := key_yes _ _ h
  clear h
  go_enter Tryd.func81, Tryd.ntmps81
  go_wp2
  go_ret
  exact ⟨rfl, rfl⟩
theorem isKey_y14 (s : ByteArray) (w : World) (h : s.data.toList = [109, 101, 114, 103, 101]) :
    Calls Tryd.prog 81 #[.string s] w fun e w' => e = .returned (.bool true) ∧ w = w' := by
  have k0 : (s.toList == [97, 110, 100]) = false := key_other _ _ _ h (by decide)
  have k1 : (s.toList == [97, 117, 116, 111, 109, 97, 116, 111, 110]) = false := key_other _ _ _ h (by decide)
  have k2 : (s.toList == [98, 111, 111, 108]) = false := key_other _ _ _ h (by decide)
  have k3 : (s.toList == [99, 111, 110, 116, 105, 110, 117, 101]) = false := key_other _ _ _ h (by decide)
  have k4 : (s.toList == [100, 111]) = false := key_other _ _ _ h (by decide)
  have k5 : (s.toList == [101, 108, 115, 101]) = false := key_other _ _ _ h (by decide)
  have k6 : (s.toList == [101, 110, 100]) = false := key_other _ _ _ h (by decide)
  have k7 : (s.toList == [101, 118, 101, 114, 121]) = false := key_other _ _ _ h (by decide)
  have k8 : (s.toList == [102, 97, 108, 115, 101]) = false := key_other _ _ _ h (by decide)
  have k9 : (s.toList == [102, 98, 121]) = false := key_other _ _ _ h (by decide)
  have k10 : (s.toList == [105, 102]) = false := key_other _ _ _ h (by decide)
  have k11 : (s.toList == [105, 110, 116]) = false := key_other _ _ _ h (by decide)
  have k12 : (s.toList == [108, 97, 115, 116]) = false := key_other _ _ _ h (by decide)
  have k13 : (s.toList == [108, 101, 116]) = false := key_other _ _ _ h (by decide)
  have k14 : (s.toList == [109, 101, 114, 103, 101]) = true := key_yes _ _ h
  clear h
  go_enter Tryd.func81, Tryd.ntmps81
  go_wp2
  go_ret
  exact ⟨rfl, rfl⟩
theorem isKey_y15 (s : ByteArray) (w : World) (h : s.data.toList = [109, 111, 100]) :
    Calls Tryd.prog 81 #[.string s] w fun e w' => e = .returned (.bool true) ∧ w = w' := by
  have k0 : (s.toList == [97, 110, 100]) = false := key_other _ _ _ h (by decide)
  have k1 : (s.toList == [97, 117, 116, 111, 109, 97, 116, 111, 110]) = false := key_other _ _ _ h (by decide)
  have k2 : (s.toList == [98, 111, 111, 108]) = false := key_other _ _ _ h (by decide)
  have k3 : (s.toList == [99, 111, 110, 116, 105, 110, 117, 101]) = false := key_other _ _ _ h (by decide)
  have k4 : (s.toList == [100, 111]) = false := key_other _ _ _ h (by decide)
  have k5 : (s.toList == [101, 108, 115, 101]) = false := key_other _ _ _ h (by decide)
  have k6 : (s.toList == [101, 110, 100]) = false := key_other _ _ _ h (by decide)
  have k7 : (s.toList == [101, 118, 101, 114, 121]) = false := key_other _ _ _ h (by decide)
  have k8 : (s.toList == [102, 97, 108, 115, 101]) = false := key_other _ _ _ h (by decide)
  have k9 : (s.toList == [102, 98, 121]) = false := key_other _ _ _ h (by decide)
  have k10 : (s.toList == [105, 102]) = false := key_other _ _ _ h (by decide)
  have k11 : (s.toList == [105, 110, 116]) = false := key_other _ _ _ h (by decide)
  have k12 : (s.toList == [108, 97, 115, 116]) = false := key_other _ _ _ h (by decide)
  have k13 : (s.toList == [108, 101, 116]) = false := key_other _ _ _ h (by decide)
  have k14 : (s.toList == [109, 101, 114, 103, 101]) = false := key_other _ _ _ h (by decide)
  have k15 : (s.toList == [109, 111, 100]) = true := key_yes _ _ h
  clear h
  go_enter Tryd.func81, Tryd.ntmps81
  go_wp2
  go_ret
  exact ⟨rfl, rfl⟩
theorem isKey_y16 (s : ByteArray) (w : World) (h : s.data.toList = [110, 111, 100, 101]) :
    Calls Tryd.prog 81 #[.string s] w fun e w' => e = .returned (.bool true) ∧ w = w' := by
  have k0 : (s.toList == [97, 110, 100]) = false := key_other _ _ _ h (by decide)
  have k1 : (s.toList == [97, 117, 116, 111, 109, 97, 116, 111, 110]) = false := key_other _ _ _ h (by decide)
  have k2 : (s.toList == [98, 111, 111, 108]) = false := key_other _ _ _ h (by decide)
  have k3 : (s.toList == [99, 111, 110, 116, 105, 110, 117, 101]) = false := key_other _ _ _ h (by decide)
  have k4 : (s.toList == [100, 111]) = false := key_other _ _ _ h (by decide)
  have k5 : (s.toList == [101, 108, 115, 101]) = false := key_other _ _ _ h (by decide)
  have k6 : (s.toList == [101, 110, 100]) = false := key_other _ _ _ h (by decide)
  have k7 : (s.toList == [101, 118, 101, 114, 121]) = false := key_other _ _ _ h (by decide)
  have k8 : (s.toList == [102, 97, 108, 115, 101]) = false := key_other _ _ _ h (by decide)
  have k9 : (s.toList == [102, 98, 121]) = false := key_other _ _ _ h (by decide)
  have k10 : (s.toList == [105, 102]) = false := key_other _ _ _ h (by decide)
  have k11 : (s.toList == [105, 110, 116]) = false := key_other _ _ _ h (by decide)
  have k12 : (s.toList == [108, 97, 115, 116]) = false := key_other _ _ _ h (by decide)
  have k13 : (s.toList == [108, 101, 116]) = false := key_other _ _ _ h (by decide)
  have k14 : (s.toList == [109, 101, 114, 103, 101]) = false := key_other _ _ _ h (by decide)
  have k15 : (s.toList == [109, 111, 100]) = false := key_other _ _ _ h (by decide)
  have k16 : (s.toList == [110, 111, 100, 101]) = true := key_yes _ _ h
  clear h
  go_enter Tryd.func81, Tryd.ntmps81
  go_wp2
  go_ret
  exact ⟨rfl, rfl⟩
theorem isKey_y17 (s : ByteArray) (w : World) (h : s.data.toList = [110, 111, 116]) :
    Calls Tryd.prog 81 #[.string s] w fun e w' => e = .returned (.bool true) ∧ w = w' := by
  have k0 : (s.toList == [97, 110, 100]) = false := key_other _ _ _ h (by decide)
  have k1 : (s.toList == [97, 117, 116, 111, 109, 97, 116, 111, 110]) = false := key_other _ _ _ h (by decide)
  have k2 : (s.toList == [98, 111, 111, 108]) = false := key_other _ _ _ h (by decide)
  have k3 : (s.toList == [99, 111, 110, 116, 105, 110, 117, 101]) = false := key_other _ _ _ h (by decide)
  have k4 : (s.toList == [100, 111]) = false := key_other _ _ _ h (by decide)
  have k5 : (s.toList == [101, 108, 115, 101]) = false := key_other _ _ _ h (by decide)
  have k6 : (s.toList == [101, 110, 100]) = false := key_other _ _ _ h (by decide)
  have k7 : (s.toList == [101, 118, 101, 114, 121]) = false := key_other _ _ _ h (by decide)
  have k8 : (s.toList == [102, 97, 108, 115, 101]) = false := key_other _ _ _ h (by decide)
  have k9 : (s.toList == [102, 98, 121]) = false := key_other _ _ _ h (by decide)
  have k10 : (s.toList == [105, 102]) = false := key_other _ _ _ h (by decide)
  have k11 : (s.toList == [105, 110, 116]) = false := key_other _ _ _ h (by decide)
  have k12 : (s.toList == [108, 97, 115, 116]) = false := key_other _ _ _ h (by decide)
  have k13 : (s.toList == [108, 101, 116]) = false := key_other _ _ _ h (by decide)
  have k14 : (s.toList == [109, 101, 114, 103, 101]) = false := key_other _ _ _ h (by decide)
  have k15 : (s.toList == [109, 111, 100]) = false := key_other _ _ _ h (by decide)
  have k16 : (s.toList == [110, 111, 100, 101]) = false := key_other _ _ _ h (by decide)
  have k17 : (s.toList == [110, 111, 116]) = true := key_yes _ _ h
  clear h
  go_enter Tryd.func81, Tryd.ntmps81
  go_wp2
  go_ret
  exact ⟨rfl, rfl⟩
theorem isKey_y18 (s : ByteArray) (w : World) (h : s.data.toList = [111, 114]) :
    Calls Tryd.prog 81 #[.string s] w fun e w' => e = .returned (.bool true) ∧ w = w' := by
  have k0 : (s.toList == [97, 110, 100]) = false := key_other _ _ _ h (by decide)
  have k1 : (s.toList == [97, 117, 116, 111, 109, 97, 116, 111, 110]) = false := key_other _ _ _ h (by decide)
  have k2 : (s.toList == [98, 111, 111, 108]) = false := key_other _ _ _ h (by decide)
  have k3 : (s.toList == [99, 111, 110, 116, 105, 110, 117, 101]) = false := key_other _ _ _ h (by decide)
  have k4 : (s.toList == [100, 111]) = false := key_other _ _ _ h (by decide)
  have k5 : (s.toList == [101, 108, 115, 101]) = false := key_other _ _ _ h (by decide)
  have k6 : (s.toList == [101, 110, 100]) = false := key_other _ _ _ h (by decide)
  have k7 : (s.toList == [101, 118, 101, 114, 121]) = false := key_other _ _ _ h (by decide)
  have k8 : (s.toList == [102, 97, 108, 115, 101]) = false := key_other _ _ _ h (by decide)
  have k9 : (s.toList == [102, 98, 121]) = false := key_other _ _ _ h (by decide)
  have k10 : (s.toList == [105, 102]) = false := key_other _ _ _ h (by decide)
  have k11 : (s.toList == [105, 110, 116]) = false := key_other _ _ _ h (by decide)
  have k12 : (s.toList == [108, 97, 115, 116]) = false := key_other _ _ _ h (by decide)
  have k13 : (s.toList == [108, 101, 116]) = false := key_other _ _ _ h (by decide)
  have k14 : (s.toList == [109, 101, 114, 103, 101]) = false := key_other _ _ _ h (by decide)
  have k15 : (s.toList == [109, 111, 100]) = false := key_other _ _ _ h (by decide)
  have k16 : (s.toList == [110, 111, 100, 101]) = false := key_other _ _ _ h (by decide)
  have k17 : (s.toList == [110, 111, 116]) = false := key_other _ _ _ h (by decide)
  have k18 : (s.toList == [111, 114]) = true := key_yes _ _ h
  clear h
  go_enter Tryd.func81, Tryd.ntmps81
  go_wp2
  go_ret
  exact ⟨rfl, rfl⟩
theorem isKey_y19 (s : ByteArray) (w : World) (h : s.data.toList = [112, 114, 101]) :
    Calls Tryd.prog 81 #[.string s] w fun e w' => e = .returned (.bool true) ∧ w = w' := by
  have k0 : (s.toList == [97, 110, 100]) = false := key_other _ _ _ h (by decide)
  have k1 : (s.toList == [97, 117, 116, 111, 109, 97, 116, 111, 110]) = false := key_other _ _ _ h (by decide)
  have k2 : (s.toList == [98, 111, 111, 108]) = false := key_other _ _ _ h (by decide)
  have k3 : (s.toList == [99, 111, 110, 116, 105, 110, 117, 101]) = false := key_other _ _ _ h (by decide)
  have k4 : (s.toList == [100, 111]) = false := key_other _ _ _ h (by decide)
  have k5 : (s.toList == [101, 108, 115, 101]) = false := key_other _ _ _ h (by decide)
  have k6 : (s.toList == [101, 110, 100]) = false := key_other _ _ _ h (by decide)
  have k7 : (s.toList == [101, 118, 101, 114, 121]) = false := key_other _ _ _ h (by decide)
  have k8 : (s.toList == [102, 97, 108, 115, 101]) = false := key_other _ _ _ h (by decide)
  have k9 : (s.toList == [102, 98, 121]) = false := key_other _ _ _ h (by decide)
  have k10 : (s.toList == [105, 102]) = false := key_other _ _ _ h (by decide)
  have k11 : (s.toList == [105, 110, 116]) = false := key_other _ _ _ h (by decide)
  have k12 : (s.toList == [108, 97, 115, 116]) = false := key_other _ _ _ h (by decide)
  have k13 : (s.toList == [108, 101, 116]) = false := key_other _ _ _ h (by decide)
  have k14 : (s.toList == [109, 101, 114, 103, 101]) = false := key_other _ _ _ h (by decide)
  have k15 : (s.toList == [109, 111, 100]) = false := key_other _ _ _ h (by decide)
  have k16 : (s.toList == [110, 111, 100, 101]) = false := key_other _ _ _ h (by decide)
  have k17 : (s.toList == [110, 111, 116]) = false := key_other _ _ _ h (by decide)
  have k18 : (s.toList == [111, 114]) = false := key_other _ _ _ h (by decide)
  have k19 : (s.toList == [112, 114, 101]) = true := key_yes _ _ h
  clear h
  go_enter Tryd.func81, Tryd.ntmps81
  go_wp2
  go_ret
  exact ⟨rfl, rfl⟩
theorem isKey_y20 (s : ByteArray) (w : World) (h : s.data.toList = [114, 101, 115, 101, 116]) :
    Calls Tryd.prog 81 #[.string s] w fun e w' => e = .returned (.bool true) ∧ w = w' := by
  have k0 : (s.toList == [97, 110, 100]) = false := key_other _ _ _ h (by decide)
  have k1 : (s.toList == [97, 117, 116, 111, 109, 97, 116, 111, 110]) = false := key_other _ _ _ h (by decide)
  have k2 : (s.toList == [98, 111, 111, 108]) = false := key_other _ _ _ h (by decide)
  have k3 : (s.toList == [99, 111, 110, 116, 105, 110, 117, 101]) = false := key_other _ _ _ h (by decide)
  have k4 : (s.toList == [100, 111]) = false := key_other _ _ _ h (by decide)
  have k5 : (s.toList == [101, 108, 115, 101]) = false := key_other _ _ _ h (by decide)
  have k6 : (s.toList == [101, 110, 100]) = false := key_other _ _ _ h (by decide)
  have k7 : (s.toList == [101, 118, 101, 114, 121]) = false := key_other _ _ _ h (by decide)
  have k8 : (s.toList == [102, 97, 108, 115, 101]) = false := key_other _ _ _ h (by decide)
  have k9 : (s.toList == [102, 98, 121]) = false := key_other _ _ _ h (by decide)
  have k10 : (s.toList == [105, 102]) = false := key_other _ _ _ h (by decide)
  have k11 : (s.toList == [105, 110, 116]) = false := key_other _ _ _ h (by decide)
  have k12 : (s.toList == [108, 97, 115, 116]) = false := key_other _ _ _ h (by decide)
  have k13 : (s.toList == [108, 101, 116]) = false := key_other _ _ _ h (by decide)
  have k14 : (s.toList == [109, 101, 114, 103, 101]) = false := key_other _ _ _ h (by decide)
  have k15 : (s.toList == [109, 111, 100]) = false := key_other _ _ _ h (by decide)
  have k16 : (s.toList == [110, 111, 100, 101]) = false := key_other _ _ _ h (by decide)
  have k17 : (s.toList == [110, 111, 116]) = false := key_other _ _ _ h (by decide)
  have k18 : (s.toList == [111, 114]) = false := key_other _ _ _ h (by decide)
  have k19 : (s.toList == [112, 114, 101]) = false := key_other _ _ _ h (by decide)
  have k20 : (s.toList == [114, 101, 115, 101, 116]) = true := key_yes _ _ h
  clear h
  go_enter Tryd.func81, Tryd.ntmps81
  go_wp2
  go_ret
  exact ⟨rfl, rfl⟩
theorem isKey_y21 (s : ByteArray) (w : World) (h : s.data.toList = [114, 101, 116, 117, 114, 110, 115]) :
    Calls Tryd.prog 81 #[.string s] w fun e w' => e = .returned (.bool true) ∧ w = w' := by
  have k0 : (s.toList == [97, 110, 100]) = false := key_other _ _ _ h (by decide)
  have k1 : (s.toList == [97, 117, 116, 111, 109, 97, 116, 111, 110]) = false := key_other _ _ _ h (by decide)
  have k2 : (s.toList == [98, 111, 111, 108]) = false := key_other _ _ _ h (by decide)
  have k3 : (s.toList == [99, 111, 110, 116, 105, 110, 117, 101]) = false := key_other _ _ _ h (by decide)
  have k4 : (s.toList == [100, 111]) = false := key_other _ _ _ h (by decide)
  have k5 : (s.toList == [101, 108, 115, 101]) = false := key_other _ _ _ h (by decide)
  have k6 : (s.toList == [101, 110, 100]) = false := key_other _ _ _ h (by decide)
  have k7 : (s.toList == [101, 118, 101, 114, 121]) = false := key_other _ _ _ h (by decide)
  have k8 : (s.toList == [102, 97, 108, 115, 101]) = false := key_other _ _ _ h (by decide)
  have k9 : (s.toList == [102, 98, 121]) = false := key_other _ _ _ h (by decide)
  have k10 : (s.toList == [105, 102]) = false := key_other _ _ _ h (by decide)
  have k11 : (s.toList == [105, 110, 116]) = false := key_other _ _ _ h (by decide)
  have k12 : (s.toList == [108, 97, 115, 116]) = false := key_other _ _ _ h (by decide)
  have k13 : (s.toList == [108, 101, 116]) = false := key_other _ _ _ h (by decide)
  have k14 : (s.toList == [109, 101, 114, 103, 101]) = false := key_other _ _ _ h (by decide)
  have k15 : (s.toList == [109, 111, 100]) = false := key_other _ _ _ h (by decide)
  have k16 : (s.toList == [110, 111, 100, 101]) = false := key_other _ _ _ h (by decide)
  have k17 : (s.toList == [110, 111, 116]) = false := key_other _ _ _ h (by decide)
  have k18 : (s.toList == [111, 114]) = false := key_other _ _ _ h (by decide)
  have k19 : (s.toList == [112, 114, 101]) = false := key_other _ _ _ h (by decide)
  have k20 : (s.toList == [114, 101, 115, 101, 116]) = false := key_other _ _ _ h (by decide)
  have k21 : (s.toList == [114, 101, 116, 117, 114, 110, 115]) = true := key_yes _ _ h
  clear h
  go_enter Tryd.func81, Tryd.ntmps81
  go_wp2
  go_ret
  exact ⟨rfl, rfl⟩
theorem isKey_y22 (s : ByteArray) (w : World) (h : s.data.toList = [115, 119, 105, 116, 99, 104]) :
    Calls Tryd.prog 81 #[.string s] w fun e w' => e = .returned (.bool true) ∧ w = w' := by
  have k0 : (s.toList == [97, 110, 100]) = false := key_other _ _ _ h (by decide)
  have k1 : (s.toList == [97, 117, 116, 111, 109, 97, 116, 111, 110]) = false := key_other _ _ _ h (by decide)
  have k2 : (s.toList == [98, 111, 111, 108]) = false := key_other _ _ _ h (by decide)
  have k3 : (s.toList == [99, 111, 110, 116, 105, 110, 117, 101]) = false := key_other _ _ _ h (by decide)
  have k4 : (s.toList == [100, 111]) = false := key_other _ _ _ h (by decide)
  have k5 : (s.toList == [101, 108, 115, 101]) = false := key_other _ _ _ h (by decide)
  have k6 : (s.toList == [101, 110, 100]) = false := key_other _ _ _ h (by decide)
  have k7 : (s.toList == [101, 118, 101, 114, 121]) = false := key_other _ _ _ h (by decide)
  have k8 : (s.toList == [102, 97, 108, 115, 101]) = false := key_other _ _ _ h (by decide)
  have k9 : (s.toList == [102, 98, 121]) = false := key_other _ _ _ h (by decide)
  have k10 : (s.toList == [105, 102]) = false := key_other _ _ _ h (by decide)
  have k11 : (s.toList == [105, 110, 116]) = false := key_other _ _ _ h (by decide)
  have k12 : (s.toList == [108, 97, 115, 116]) = false := key_other _ _ _ h (by decide)
  have k13 : (s.toList == [108, 101, 116]) = false := key_other _ _ _ h (by decide)
  have k14 : (s.toList == [109, 101, 114, 103, 101]) = false := key_other _ _ _ h (by decide)
  have k15 : (s.toList == [109, 111, 100]) = false := key_other _ _ _ h (by decide)
  have k16 : (s.toList == [110, 111, 100, 101]) = false := key_other _ _ _ h (by decide)
  have k17 : (s.toList == [110, 111, 116]) = false := key_other _ _ _ h (by decide)
  have k18 : (s.toList == [111, 114]) = false := key_other _ _ _ h (by decide)
  have k19 : (s.toList == [112, 114, 101]) = false := key_other _ _ _ h (by decide)
  have k20 : (s.toList == [114, 101, 115, 101, 116]) = false := key_other _ _ _ h (by decide)
  have k21 : (s.toList == [114, 101, 116, 117, 114, 110, 115]) = false := key_other _ _ _ h (by decide)
  have k22 : (s.toList == [115, 119, 105, 116, 99, 104]) = true := key_yes _ _ h
  clear h
  go_enter Tryd.func81, Tryd.ntmps81
  go_wp2
  go_ret
  exact ⟨rfl, rfl⟩
theorem isKey_y23 (s : ByteArray) (w : World) (h : s.data.toList = [116, 101, 108]) :
    Calls Tryd.prog 81 #[.string s] w fun e w' => e = .returned (.bool true) ∧ w = w' := by
  have k0 : (s.toList == [97, 110, 100]) = false := key_other _ _ _ h (by decide)
  have k1 : (s.toList == [97, 117, 116, 111, 109, 97, 116, 111, 110]) = false := key_other _ _ _ h (by decide)
  have k2 : (s.toList == [98, 111, 111, 108]) = false := key_other _ _ _ h (by decide)
  have k3 : (s.toList == [99, 111, 110, 116, 105, 110, 117, 101]) = false := key_other _ _ _ h (by decide)
  have k4 : (s.toList == [100, 111]) = false := key_other _ _ _ h (by decide)
  have k5 : (s.toList == [101, 108, 115, 101]) = false := key_other _ _ _ h (by decide)
  have k6 : (s.toList == [101, 110, 100]) = false := key_other _ _ _ h (by decide)
  have k7 : (s.toList == [101, 118, 101, 114, 121]) = false := key_other _ _ _ h (by decide)
  have k8 : (s.toList == [102, 97, 108, 115, 101]) = false := key_other _ _ _ h (by decide)
  have k9 : (s.toList == [102, 98, 121]) = false := key_other _ _ _ h (by decide)
  have k10 : (s.toList == [105, 102]) = false := key_other _ _ _ h (by decide)
  have k11 : (s.toList == [105, 110, 116]) = false := key_other _ _ _ h (by decide)
  have k12 : (s.toList == [108, 97, 115, 116]) = false := key_other _ _ _ h (by decide)
  have k13 : (s.toList == [108, 101, 116]) = false := key_other _ _ _ h (by decide)
  have k14 : (s.toList == [109, 101, 114, 103, 101]) = false := key_other _ _ _ h (by decide)
  have k15 : (s.toList == [109, 111, 100]) = false := key_other _ _ _ h (by decide)
  have k16 : (s.toList == [110, 111, 100, 101]) = false := key_other _ _ _ h (by decide)
  have k17 : (s.toList == [110, 111, 116]) = false := key_other _ _ _ h (by decide)
  have k18 : (s.toList == [111, 114]) = false := key_other _ _ _ h (by decide)
  have k19 : (s.toList == [112, 114, 101]) = false := key_other _ _ _ h (by decide)
  have k20 : (s.toList == [114, 101, 115, 101, 116]) = false := key_other _ _ _ h (by decide)
  have k21 : (s.toList == [114, 101, 116, 117, 114, 110, 115]) = false := key_other _ _ _ h (by decide)
  have k22 : (s.toList == [115, 119, 105, 116, 99, 104]) = false := key_other _ _ _ h (by decide)
  have k23 : (s.toList == [116, 101, 108]) = true := key_yes _ _ h
  clear h
  go_enter Tryd.func81, Tryd.ntmps81
  go_wp2
  go_ret
  exact ⟨rfl, rfl⟩
theorem isKey_y24 (s : ByteArray) (w : World) (h : s.data.toList = [116, 104, 101, 110]) :
    Calls Tryd.prog 81 #[.string s] w fun e w' => e = .returned (.bool true) ∧ w = w' := by
  have k0 : (s.toList == [97, 110, 100]) = false := key_other _ _ _ h (by decide)
  have k1 : (s.toList == [97, 117, 116, 111, 109, 97, 116, 111, 110]) = false := key_other _ _ _ h (by decide)
  have k2 : (s.toList == [98, 111, 111, 108]) = false := key_other _ _ _ h (by decide)
  have k3 : (s.toList == [99, 111, 110, 116, 105, 110, 117, 101]) = false := key_other _ _ _ h (by decide)
  have k4 : (s.toList == [100, 111]) = false := key_other _ _ _ h (by decide)
  have k5 : (s.toList == [101, 108, 115, 101]) = false := key_other _ _ _ h (by decide)
  have k6 : (s.toList == [101, 110, 100]) = false := key_other _ _ _ h (by decide)
  have k7 : (s.toList == [101, 118, 101, 114, 121]) = false := key_other _ _ _ h (by decide)
  have k8 : (s.toList == [102, 97, 108, 115, 101]) = false := key_other _ _ _ h (by decide)
  have k9 : (s.toList == [102, 98, 121]) = false := key_other _ _ _ h (by decide)
  have k10 : (s.toList == [105, 102]) = false := key_other _ _ _ h (by decide)
  have k11 : (s.toList == [105, 110, 116]) = false := key_other _ _ _ h (by decide)
  have k12 : (s.toList == [108, 97, 115, 116]) = false := key_other _ _ _ h (by decide)
  have k13 : (s.toList == [108, 101, 116]) = false := key_other _ _ _ h (by decide)
  have k14 : (s.toList == [109, 101, 114, 103, 101]) = false := key_other _ _ _ h (by decide)
  have k15 : (s.toList == [109, 111, 100]) = false := key_other _ _ _ h (by decide)
  have k16 : (s.toList == [110, 111, 100, 101]) = false := key_other _ _ _ h (by decide)
  have k17 : (s.toList == [110, 111, 116]) = false := key_other _ _ _ h (by decide)
  have k18 : (s.toList == [111, 114]) = false := key_other _ _ _ h (by decide)
  have k19 : (s.toList == [112, 114, 101]) = false := key_other _ _ _ h (by decide)
  have k20 : (s.toList == [114, 101, 115, 101, 116]) = false := key_other _ _ _ h (by decide)
  have k21 : (s.toList == [114, 101, 116, 117, 114, 110, 115]) = false := key_other _ _ _ h (by decide)
  have k22 : (s.toList == [115, 119, 105, 116, 99, 104]) = false := key_other _ _ _ h (by decide)
  have k23 : (s.toList == [116, 101, 108]) = false := key_other _ _ _ h (by decide)
  have k24 : (s.toList == [116, 104, 101, 110]) = true := key_yes _ _ h
  clear h
  go_enter Tryd.func81, Tryd.ntmps81
  go_wp2
  go_ret
  exact ⟨rfl, rfl⟩
theorem isKey_y25 (s : ByteArray) (w : World) (h : s.data.toList = [116, 114, 117, 101]) :
    Calls Tryd.prog 81 #[.string s] w fun e w' => e = .returned (.bool true) ∧ w = w' := by
  have k0 : (s.toList == [97, 110, 100]) = false := key_other _ _ _ h (by decide)
  have k1 : (s.toList == [97, 117, 116, 111, 109, 97, 116, 111, 110]) = false := key_other _ _ _ h (by decide)
  have k2 : (s.toList == [98, 111, 111, 108]) = false := key_other _ _ _ h (by decide)
  have k3 : (s.toList == [99, 111, 110, 116, 105, 110, 117, 101]) = false := key_other _ _ _ h (by decide)
  have k4 : (s.toList == [100, 111]) = false := key_other _ _ _ h (by decide)
  have k5 : (s.toList == [101, 108, 115, 101]) = false := key_other _ _ _ h (by decide)
  have k6 : (s.toList == [101, 110, 100]) = false := key_other _ _ _ h (by decide)
  have k7 : (s.toList == [101, 118, 101, 114, 121]) = false := key_other _ _ _ h (by decide)
  have k8 : (s.toList == [102, 97, 108, 115, 101]) = false := key_other _ _ _ h (by decide)
  have k9 : (s.toList == [102, 98, 121]) = false := key_other _ _ _ h (by decide)
  have k10 : (s.toList == [105, 102]) = false := key_other _ _ _ h (by decide)
  have k11 : (s.toList == [105, 110, 116]) = false := key_other _ _ _ h (by decide)
  have k12 : (s.toList == [108, 97, 115, 116]) = false := key_other _ _ _ h (by decide)
  have k13 : (s.toList == [108, 101, 116]) = false := key_other _ _ _ h (by decide)
  have k14 : (s.toList == [109, 101, 114, 103, 101]) = false := key_other _ _ _ h (by decide)
  have k15 : (s.toList == [109, 111, 100]) = false := key_other _ _ _ h (by decide)
  have k16 : (s.toList == [110, 111, 100, 101]) = false := key_other _ _ _ h (by decide)
  have k17 : (s.toList == [110, 111, 116]) = false := key_other _ _ _ h (by decide)
  have k18 : (s.toList == [111, 114]) = false := key_other _ _ _ h (by decide)
  have k19 : (s.toList == [112, 114, 101]) = false := key_other _ _ _ h (by decide)
  have k20 : (s.toList == [114, 101, 115, 101, 116]) = false := key_other _ _ _ h (by decide)
  have k21 : (s.toList == [114, 101, 116, 117, 114, 110, 115]) = false := key_other _ _ _ h (by decide)
  have k22 : (s.toList == [115, 119, 105, 116, 99, 104]) = false := key_other _ _ _ h (by decide)
  have k23 : (s.toList == [116, 101, 108]) = false := key_other _ _ _ h (by decide)
  have k24 : (s.toList == [116, 104, 101, 110]) = false := key_other _ _ _ h (by decide)
  have k25 : (s.toList == [116, 114, 117, 101]) = true := key_yes _ _ h
  clear h
  go_enter Tryd.func81, Tryd.ntmps81
  go_wp2
  go_ret
  exact ⟨rfl, rfl⟩
theorem isKey_y26 (s : ByteArray) (w : World) (h : s.data.toList = [116, 121, 112, 101]) :
    Calls Tryd.prog 81 #[.string s] w fun e w' => e = .returned (.bool true) ∧ w = w' := by
  have k0 : (s.toList == [97, 110, 100]) = false := key_other _ _ _ h (by decide)
  have k1 : (s.toList == [97, 117, 116, 111, 109, 97, 116, 111, 110]) = false := key_other _ _ _ h (by decide)
  have k2 : (s.toList == [98, 111, 111, 108]) = false := key_other _ _ _ h (by decide)
  have k3 : (s.toList == [99, 111, 110, 116, 105, 110, 117, 101]) = false := key_other _ _ _ h (by decide)
  have k4 : (s.toList == [100, 111]) = false := key_other _ _ _ h (by decide)
  have k5 : (s.toList == [101, 108, 115, 101]) = false := key_other _ _ _ h (by decide)
  have k6 : (s.toList == [101, 110, 100]) = false := key_other _ _ _ h (by decide)
  have k7 : (s.toList == [101, 118, 101, 114, 121]) = false := key_other _ _ _ h (by decide)
  have k8 : (s.toList == [102, 97, 108, 115, 101]) = false := key_other _ _ _ h (by decide)
  have k9 : (s.toList == [102, 98, 121]) = false := key_other _ _ _ h (by decide)
  have k10 : (s.toList == [105, 102]) = false := key_other _ _ _ h (by decide)
  have k11 : (s.toList == [105, 110, 116]) = false := key_other _ _ _ h (by decide)
  have k12 : (s.toList == [108, 97, 115, 116]) = false := key_other _ _ _ h (by decide)
  have k13 : (s.toList == [108, 101, 116]) = false := key_other _ _ _ h (by decide)
  have k14 : (s.toList == [109, 101, 114, 103, 101]) = false := key_other _ _ _ h (by decide)
  have k15 : (s.toList == [109, 111, 100]) = false := key_other _ _ _ h (by decide)
  have k16 : (s.toList == [110, 111, 100, 101]) = false := key_other _ _ _ h (by decide)
  have k17 : (s.toList == [110, 111, 116]) = false := key_other _ _ _ h (by decide)
  have k18 : (s.toList == [111, 114]) = false := key_other _ _ _ h (by decide)
  have k19 : (s.toList == [112, 114, 101]) = false := key_other _ _ _ h (by decide)
  have k20 : (s.toList == [114, 101, 115, 101, 116]) = false := key_other _ _ _ h (by decide)
  have k21 : (s.toList == [114, 101, 116, 117, 114, 110, 115]) = false := key_other _ _ _ h (by decide)
  have k22 : (s.toList == [115, 119, 105, 116, 99, 104]) = false := key_other _ _ _ h (by decide)
  have k23 : (s.toList == [116, 101, 108]) = false := key_other _ _ _ h (by decide)
  have k24 : (s.toList == [116, 104, 101, 110]) = false := key_other _ _ _ h (by decide)
  have k25 : (s.toList == [116, 114, 117, 101]) = false := key_other _ _ _ h (by decide)
  have k26 : (s.toList == [116, 121, 112, 101]) = true := key_yes _ _ h
  clear h
  go_enter Tryd.func81, Tryd.ntmps81
  go_wp2
  go_ret
  exact ⟨rfl, rfl⟩
theorem isKey_y27 (s : ByteArray) (w : World) (h : s.data.toList = [117, 110, 108, 101, 115, 115]) :
    Calls Tryd.prog 81 #[.string s] w fun e w' => e = .returned (.bool true) ∧ w = w' := by
  have k0 : (s.toList == [97, 110, 100]) = false := key_other _ _ _ h (by decide)
  have k1 : (s.toList == [97, 117, 116, 111, 109, 97, 116, 111, 110]) = false := key_other _ _ _ h (by decide)
  have k2 : (s.toList == [98, 111, 111, 108]) = false := key_other _ _ _ h (by decide)
  have k3 : (s.toList == [99, 111, 110, 116, 105, 110, 117, 101]) = false := key_other _ _ _ h (by decide)
  have k4 : (s.toList == [100, 111]) = false := key_other _ _ _ h (by decide)
  have k5 : (s.toList == [101, 108, 115, 101]) = false := key_other _ _ _ h (by decide)
  have k6 : (s.toList == [101, 110, 100]) = false := key_other _ _ _ h (by decide)
  have k7 : (s.toList == [101, 118, 101, 114, 121]) = false := key_other _ _ _ h (by decide)
  have k8 : (s.toList == [102, 97, 108, 115, 101]) = false := key_other _ _ _ h (by decide)
  have k9 : (s.toList == [102, 98, 121]) = false := key_other _ _ _ h (by decide)
  have k10 : (s.toList == [105, 102]) = false := key_other _ _ _ h (by decide)
  have k11 : (s.toList == [105, 110, 116]) = false := key_other _ _ _ h (by decide)
  have k12 : (s.toList == [108, 97, 115, 116]) = false := key_other _ _ _ h (by decide)
  have k13 : (s.toList == [108, 101, 116]) = false := key_other _ _ _ h (by decide)
  have k14 : (s.toList == [109, 101, 114, 103, 101]) = false := key_other _ _ _ h (by decide)
  have k15 : (s.toList == [109, 111, 100]) = false := key_other _ _ _ h (by decide)
  have k16 : (s.toList == [110, 111, 100, 101]) = false := key_other _ _ _ h (by decide)
  have k17 : (s.toList == [110, 111, 116]) = false := key_other _ _ _ h (by decide)
  have k18 : (s.toList == [111, 114]) = false := key_other _ _ _ h (by decide)
  have k19 : (s.toList == [112, 114, 101]) = false := key_other _ _ _ h (by decide)
  have k20 : (s.toList == [114, 101, 115, 101, 116]) = false := key_other _ _ _ h (by decide)
  have k21 : (s.toList == [114, 101, 116, 117, 114, 110, 115]) = false := key_other _ _ _ h (by decide)
  have k22 : (s.toList == [115, 119, 105, 116, 99, 104]) = false := key_other _ _ _ h (by decide)
  have k23 : (s.toList == [116, 101, 108]) = false := key_other _ _ _ h (by decide)
  have k24 : (s.toList == [116, 104, 101, 110]) = false := key_other _ _ _ h (by decide)
  have k25 : (s.toList == [116, 114, 117, 101]) = false := key_other _ _ _ h (by decide)
  have k26 : (s.toList == [116, 121, 112, 101]) = false := key_other _ _ _ h (by decide)
  have k27 : (s.toList == [117, 110, 108, 101, 115, 115]) = true := key_yes _ _ h
  clear h
  go_enter Tryd.func81, Tryd.ntmps81
  go_wp2
  go_ret
  exact ⟨rfl, rfl⟩
theorem isKey_y28 (s : ByteArray) (w : World) (h : s.data.toList = [117, 110, 116, 105, 108]) :
    Calls Tryd.prog 81 #[.string s] w fun e w' => e = .returned (.bool true) ∧ w = w' := by
  have k0 : (s.toList == [97, 110, 100]) = false := key_other _ _ _ h (by decide)
  have k1 : (s.toList == [97, 117, 116, 111, 109, 97, 116, 111, 110]) = false := key_other _ _ _ h (by decide)
  have k2 : (s.toList == [98, 111, 111, 108]) = false := key_other _ _ _ h (by decide)
  have k3 : (s.toList == [99, 111, 110, 116, 105, 110, 117, 101]) = false := key_other _ _ _ h (by decide)
  have k4 : (s.toList == [100, 111]) = false := key_other _ _ _ h (by decide)
  have k5 : (s.toList == [101, 108, 115, 101]) = false := key_other _ _ _ h (by decide)
  have k6 : (s.toList == [101, 110, 100]) = false := key_other _ _ _ h (by decide)
  have k7 : (s.toList == [101, 118, 101, 114, 121]) = false := key_other _ _ _ h (by decide)
  have k8 : (s.toList == [102, 97, 108, 115, 101]) = false := key_other _ _ _ h (by decide)
  have k9 : (s.toList == [102, 98, 121]) = false := key_other _ _ _ h (by decide)
  have k10 : (s.toList == [105, 102]) = false := key_other _ _ _ h (by decide)
  have k11 : (s.toList == [105, 110, 116]) = false := key_other _ _ _ h (by decide)
  have k12 : (s.toList == [108, 97, 115, 116]) = false := key_other _ _ _ h (by decide)
  have k13 : (s.toList == [108, 101, 116]) = false := key_other _ _ _ h (by decide)
  have k14 : (s.toList == [109, 101, 114, 103, 101]) = false := key_other _ _ _ h (by decide)
  have k15 : (s.toList == [109, 111, 100]) = false := key_other _ _ _ h (by decide)
  have k16 : (s.toList == [110, 111, 100, 101]) = false := key_other _ _ _ h (by decide)
  have k17 : (s.toList == [110, 111, 116]) = false := key_other _ _ _ h (by decide)
  have k18 : (s.toList == [111, 114]) = false := key_other _ _ _ h (by decide)
  have k19 : (s.toList == [112, 114, 101]) = false := key_other _ _ _ h (by decide)
  have k20 : (s.toList == [114, 101, 115, 101, 116]) = false := key_other _ _ _ h (by decide)
  have k21 : (s.toList == [114, 101, 116, 117, 114, 110, 115]) = false := key_other _ _ _ h (by decide)
  have k22 : (s.toList == [115, 119, 105, 116, 99, 104]) = false := key_other _ _ _ h (by decide)
  have k23 : (s.toList == [116, 101, 108]) = false := key_other _ _ _ h (by decide)
  have k24 : (s.toList == [116, 104, 101, 110]) = false := key_other _ _ _ h (by decide)
  have k25 : (s.toList == [116, 114, 117, 101]) = false := key_other _ _ _ h (by decide)
  have k26 : (s.toList == [116, 121, 112, 101]) = false := key_other _ _ _ h (by decide)
  have k27 : (s.toList == [117, 110, 108, 101, 115, 115]) = false := key_other _ _ _ h (by decide)
  have k28 : (s.toList == [117, 110, 116, 105, 108]) = true := key_yes _ _ h
  clear h
  go_enter Tryd.func81, Tryd.ntmps81
  go_wp2
  go_ret
  exact ⟨rfl, rfl⟩
theorem isKey_y29 (s : ByteArray) (w : World) (h : s.data.toList = [118, 97, 114]) :
    Calls Tryd.prog 81 #[.string s] w fun e w' => e = .returned (.bool true) ∧ w = w' := by
  have k0 : (s.toList == [97, 110, 100]) = false := key_other _ _ _ h (by decide)
  have k1 : (s.toList == [97, 117, 116, 111, 109, 97, 116, 111, 110]) = false := key_other _ _ _ h (by decide)
  have k2 : (s.toList == [98, 111, 111, 108]) = false := key_other _ _ _ h (by decide)
  have k3 : (s.toList == [99, 111, 110, 116, 105, 110, 117, 101]) = false := key_other _ _ _ h (by decide)
  have k4 : (s.toList == [100, 111]) = false := key_other _ _ _ h (by decide)
  have k5 : (s.toList == [101, 108, 115, 101]) = false := key_other _ _ _ h (by decide)
  have k6 : (s.toList == [101, 110, 100]) = false := key_other _ _ _ h (by decide)
  have k7 : (s.toList == [101, 118, 101, 114, 121]) = false := key_other _ _ _ h (by decide)
  have k8 : (s.toList == [102, 97, 108, 115, 101]) = false := key_other _ _ _ h (by decide)
  have k9 : (s.toList == [102, 98, 121]) = false := key_other _ _ _ h (by decide)
  have k10 : (s.toList == [105, 102]) = false := key_other _ _ _ h (by decide)
  have k11 : (s.toList == [105, 110, 116]) = false := key_other _ _ _ h (by decide)
  have k12 : (s.toList == [108, 97, 115, 116]) = false := key_other _ _ _ h (by decide)
  have k13 : (s.toList == [108, 101, 116]) = false := key_other _ _ _ h (by decide)
  have k14 : (s.toList == [109, 101, 114, 103, 101]) = false := key_other _ _ _ h (by decide)
  have k15 : (s.toList == [109, 111, 100]) = false := key_other _ _ _ h (by decide)
  have k16 : (s.toList == [110, 111, 100, 101]) = false := key_other _ _ _ h (by decide)
  have k17 : (s.toList == [110, 111, 116]) = false := key_other _ _ _ h (by decide)
  have k18 : (s.toList == [111, 114]) = false := key_other _ _ _ h (by decide)
  have k19 : (s.toList == [112, 114, 101]) = false := key_other _ _ _ h (by decide)
  have k20 : (s.toList == [114, 101, 115, 101, 116]) = false := key_other _ _ _ h (by decide)
  have k21 : (s.toList == [114, 101, 116, 117, 114, 110, 115]) = false := key_other _ _ _ h (by decide)
  have k22 : (s.toList == [115, 119, 105, 116, 99, 104]) = false := key_other _ _ _ h (by decide)
  have k23 : (s.toList == [116, 101, 108]) = false := key_other _ _ _ h (by decide)
  have k24 : (s.toList == [116, 104, 101, 110]) = false := key_other _ _ _ h (by decide)
  have k25 : (s.toList == [116, 114, 117, 101]) = false := key_other _ _ _ h (by decide)
  have k26 : (s.toList == [116, 121, 112, 101]) = false := key_other _ _ _ h (by decide)
  have k27 : (s.toList == [117, 110, 108, 101, 115, 115]) = false := key_other _ _ _ h (by decide)
  have k28 : (s.toList == [117, 110, 116, 105, 108]) = false := key_other _ _ _ h (by decide)
  have k29 : (s.toList == [118, 97, 114]) = true := key_yes _ _ h
  clear h
  go_enter Tryd.func81, Tryd.ntmps81
  go_wp2
  go_ret
  exact ⟨rfl, rfl⟩
theorem isKey_y30 (s : ByteArray) (w : World) (h : s.data.toList = [119, 104, 101, 110]) :
    Calls Tryd.prog 81 #[.string s] w fun e w' => e = .returned (.bool true) ∧ w = w' := by
  have k0 : (s.toList == [97, 110, 100]) = false := key_other _ _ _ h (by decide)
  have k1 : (s.toList == [97, 117, 116, 111, 109, 97, 116, 111, 110]) = false := key_other _ _ _ h (by decide)
  have k2 : (s.toList == [98, 111, 111, 108]) = false := key_other _ _ _ h (by decide)
  have k3 : (s.toList == [99, 111, 110, 116, 105, 110, 117, 101]) = false := key_other _ _ _ h (by decide)
  have k4 : (s.toList == [100, 111]) = false := key_other _ _ _ h (by decide)
  have k5 : (s.toList == [101, 108, 115, 101]) = false := key_other _ _ _ h (by decide)
  have k6 : (s.toList == [101, 110, 100]) = false := key_other _ _ _ h (by decide)
  have k7 : (s.toList == [101, 118, 101, 114, 121]) = false := key_other _ _ _ h (by decide)
  have k8 : (s.toList == [102, 97, 108, 115, 101]) = false := key_other _ _ _ h (by decide)
  have k9 : (s.toList == [102, 98, 121]) = false := key_other _ _ _ h (by decide)
  have k10 : (s.toList == [105, 102]) = false := key_other _ _ _ h (by decide)
  have k11 : (s.toList == [105, 110, 116]) = false := key_other _ _ _ h (by decide)
  have k12 : (s.toList == [108, 97, 115, 116]) = false := key_other _ _ _ h (by decide)
  have k13 : (s.toList == [108, 101, 116]) = false := key_other _ _ _ h (by decide)
  have k14 : (s.toList == [109, 101, 114, 103, 101]) = false := key_other _ _ _ h (by decide)
  have k15 : (s.toList == [109, 111, 100]) = false := key_other _ _ _ h (by decide)
  have k16 : (s.toList == [110, 111, 100, 101]) = false := key_other _ _ _ h (by decide)
  have k17 : (s.toList == [110, 111, 116]) = false := key_other _ _ _ h (by decide)
  have k18 : (s.toList == [111, 114]) = false := key_other _ _ _ h (by decide)
  have k19 : (s.toList == [112, 114, 101]) = false := key_other _ _ _ h (by decide)
  have k20 : (s.toList == [114, 101, 115, 101, 116]) = false := key_other _ _ _ h (by decide)
  have k21 : (s.toList == [114, 101, 116, 117, 114, 110, 115]) = false := key_other _ _ _ h (by decide)
  have k22 : (s.toList == [115, 119, 105, 116, 99, 104]) = false := key_other _ _ _ h (by decide)
  have k23 : (s.toList == [116, 101, 108]) = false := key_other _ _ _ h (by decide)
  have k24 : (s.toList == [116, 104, 101, 110]) = false := key_other _ _ _ h (by decide)
  have k25 : (s.toList == [116, 114, 117, 101]) = false := key_other _ _ _ h (by decide)
  have k26 : (s.toList == [116, 121, 112, 101]) = false := key_other _ _ _ h (by decide)
  have k27 : (s.toList == [117, 110, 108, 101, 115, 115]) = false := key_other _ _ _ h (by decide)
  have k28 : (s.toList == [117, 110, 116, 105, 108]) = false := key_other _ _ _ h (by decide)
  have k29 : (s.toList == [118, 97, 114]) = false := key_other _ _ _ h (by decide)
  have k30 : (s.toList == [119, 104, 101, 110]) = true := key_yes _ _ h
  clear h
  go_enter Tryd.func81, Tryd.ntmps81
  go_wp2
  go_ret
  exact ⟨rfl, rfl⟩
theorem isKey_y31 (s : ByteArray) (w : World) (h : s.data.toList = [120, 111, 114]) :
    Calls Tryd.prog 81 #[.string s] w fun e w' => e = .returned (.bool true) ∧ w = w' := by
  have k0 : (s.toList == [97, 110, 100]) = false := key_other _ _ _ h (by decide)
  have k1 : (s.toList == [97, 117, 116, 111, 109, 97, 116, 111, 110]) = false := key_other _ _ _ h (by decide)
  have k2 : (s.toList == [98, 111, 111, 108]) = false := key_other _ _ _ h (by decide)
  have k3 : (s.toList == [99, 111, 110, 116, 105, 110, 117, 101]) = false := key_other _ _ _ h (by decide)
  have k4 : (s.toList == [100, 111]) = false := key_other _ _ _ h (by decide)
  have k5 : (s.toList == [101, 108, 115, 101]) = false := key_other _ _ _ h (by decide)
  have k6 : (s.toList == [101, 110, 100]) = false := key_other _ _ _ h (by decide)
  have k7 : (s.toList == [101, 118, 101, 114, 121]) = false := key_other _ _ _ h (by decide)
  have k8 : (s.toList == [102, 97, 108, 115, 101]) = false := key_other _ _ _ h (by decide)
  have k9 : (s.toList == [102, 98, 121]) = false := key_other _ _ _ h (by decide)
  have k10 : (s.toList == [105, 102]) = false := key_other _ _ _ h (by decide)
  have k11 : (s.toList == [105, 110, 116]) = false := key_other _ _ _ h (by decide)
  have k12 : (s.toList == [108, 97, 115, 116]) = false := key_other _ _ _ h (by decide)
  have k13 : (s.toList == [108, 101, 116]) = false := key_other _ _ _ h (by decide)
  have k14 : (s.toList == [109, 101, 114, 103, 101]) = false := key_other _ _ _ h (by decide)
  have k15 : (s.toList == [109, 111, 100]) = false := key_other _ _ _ h (by decide)
  have k16 : (s.toList == [110, 111, 100, 101]) = false := key_other _ _ _ h (by decide)
  have k17 : (s.toList == [110, 111, 116]) = false := key_other _ _ _ h (by decide)
  have k18 : (s.toList == [111, 114]) = false := key_other _ _ _ h (by decide)
  have k19 : (s.toList == [112, 114, 101]) = false := key_other _ _ _ h (by decide)
  have k20 : (s.toList == [114, 101, 115, 101, 116]) = false := key_other _ _ _ h (by decide)
  have k21 : (s.toList == [114, 101, 116, 117, 114, 110, 115]) = false := key_other _ _ _ h (by decide)
  have k22 : (s.toList == [115, 119, 105, 116, 99, 104]) = false := key_other _ _ _ h (by decide)
  have k23 : (s.toList == [116, 101, 108]) = false := key_other _ _ _ h (by decide)
  have k24 : (s.toList == [116, 104, 101, 110]) = false := key_other _ _ _ h (by decide)
  have k25 : (s.toList == [116, 114, 117, 101]) = false := key_other _ _ _ h (by decide)
  have k26 : (s.toList == [116, 121, 112, 101]) = false := key_other _ _ _ h (by decide)
  have k27 : (s.toList == [117, 110, 108, 101, 115, 115]) = false := key_other _ _ _ h (by decide)
  have k28 : (s.toList == [117, 110, 116, 105, 108]) = false := key_other _ _ _ h (by decide)
  have k29 : (s.toList == [118, 97, 114]) = false := key_other _ _ _ h (by decide)
  have k30 : (s.toList == [119, 104, 101, 110]) = false := key_other _ _ _ h (by decide)
  have k31 : (s.toList == [120, 111, 114]) = true := key_yes _ _ h
  clear h
  go_enter Tryd.func81, Tryd.ntmps81
  go_wp2
  go_ret
  exact ⟨rfl, rfl⟩

theorem isKey_any (s : ByteArray) (w : World) :
    Calls Tryd.prog 81 #[.string s] w fun e w' => e = .returned (.bool (keyB s.data.toList)) ∧ w = w' := by
  cases hk : keyB s.data.toList
  · exact isKey_no s w hk
  · have hm : s.data.toList ∈ keys := by simpa [keyB] using hk
    simp only [keys, List.mem_cons, List.not_mem_nil, or_false] at hm
    rcases hm with h | h | h | h | h | h | h | h | h | h | h | h | h | h | h | h | h | h | h | h | h | h | h | h | h | h | h | h | h | h | h | h
    · exact isKey_y0 s w h
    · exact isKey_y1 s w h
    · exact isKey_y2 s w h
    · exact isKey_y3 s w h
    · exact isKey_y4 s w h
    · exact isKey_y5 s w h
    · exact isKey_y6 s w h
    · exact isKey_y7 s w h
    · exact isKey_y8 s w h
    · exact isKey_y9 s w h
    · exact isKey_y10 s w h
    · exact isKey_y11 s w h
    · exact isKey_y12 s w h
    · exact isKey_y13 s w h
    · exact isKey_y14 s w h
    · exact isKey_y15 s w h
    · exact isKey_y16 s w h
    · exact isKey_y17 s w h
    · exact isKey_y18 s w h
    · exact isKey_y19 s w h
    · exact isKey_y20 s w h
    · exact isKey_y21 s w h
    · exact isKey_y22 s w h
    · exact isKey_y23 s w h
    · exact isKey_y24 s w h
    · exact isKey_y25 s w h
    · exact isKey_y26 s w h
    · exact isKey_y27 s w h
    · exact isKey_y28 s w h
    · exact isKey_y29 s w h
    · exact isKey_y30 s w h
    · exact isKey_y31 s w h
end Go.Proofs.YtjjihijkkljbnaaDoor.lx
