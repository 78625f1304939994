/-
  quietly of package faults, at a function literal that does not panic: each literal's own line.
-/
import Derived.Test.YtboeobgkepdabaaDoorFtUnwrap
import Derived.Defers
import Derived.Recover
namespace Go.Proofs.YtboeobgkepdabaaDoor.ft
open Go.ChangeShapes Go.WideShapes Go.ChangeAt Go.RowKit Go.Extern.Stop Go.Stop Go.Extern
open Go.Proofs.YtboeobgkepdabaaDoor.lx (Has)
set_option linter.unusedVariables false

theorem catch_idle (w : World) :
    CallsD Tryd.prog 45 #[] .returning w fun e u' w' => e = .returned (.tuple #[]) ∧ u' = .returning ∧ w' = w := by
  refine callsD_of_wpS Tryd.func45 rfl fun c₀ cs hu => ?_
  apply wpS_region
  simp [wpOpsS, go_sem, recoverD, hu, Tryd.ntmps45, bodyPostS, results, Tryd.results45]
  cases c₀
  simp_all

theorem quiet_wrapped (args : Array Value) (w : World) (P : World → Prop) (h : Calls Tryd.prog 51 args w fun e w' => e = .returned (.tuple #[]) ∧ P w') :
    Calls Tryd.prog 33 #[.func (.func 51) #[] args] w fun e w' => e = .returned (.tuple #[]) ∧ P w' := by
  have H := Lib.hid h
  clear h
  go_enter_defers Tryd.func33, Tryd.ntmps33
  go_wp2_with fail
  refine H.out.mono ?_
  rintro e w' ⟨rfl, hp⟩
  have HP := Lib.hid hp
  clear hp
  go_wp2_with fail
  refine leaves_cons (f := 45) (args := #[]) (by simp) (by simp [go_sem]) ?_
  refine (catch_idle _).mono ?_
  rintro e u' w'' ⟨rfl, rfl, rfl⟩
  simp [Leaves, settle, results, Tryd.results33, go_sem]
  exact HP.out

theorem quiet_enters (args : Array Value) (w : World) (P : World → Prop) (h : Calls Tryd.prog 55 args w fun e w' => e = .returned (.tuple #[]) ∧ P w') :
    Calls Tryd.prog 33 #[.func (.func 55) #[] args] w fun e w' => e = .returned (.tuple #[]) ∧ P w' := by
  have H := Lib.hid h
  clear h
  go_enter_defers Tryd.func33, Tryd.ntmps33
  go_wp2_with fail
  refine H.out.mono ?_
  rintro e w' ⟨rfl, hp⟩
  have HP := Lib.hid hp
  clear hp
  go_wp2_with fail
  refine leaves_cons (f := 45) (args := #[]) (by simp) (by simp [go_sem]) ?_
  refine (catch_idle _).mono ?_
  rintro e u' w'' ⟨rfl, rfl, rfl⟩
  simp [Leaves, settle, results, Tryd.results33, go_sem]
  exact HP.out

theorem quiet_survey (args : Array Value) (w : World) (P : World → Prop) (h : Calls Tryd.prog 42 args w fun e w' => e = .returned (.tuple #[]) ∧ P w') :
    Calls Tryd.prog 33 #[.func (.func 42) #[] args] w fun e w' => e = .returned (.tuple #[]) ∧ P w' := by
  have H := Lib.hid h
  clear h
  go_enter_defers Tryd.func33, Tryd.ntmps33
  go_wp2_with fail
  refine H.out.mono ?_
  rintro e w' ⟨rfl, hp⟩
  have HP := Lib.hid hp
  clear hp
  go_wp2_with fail
  refine leaves_cons (f := 45) (args := #[]) (by simp) (by simp [go_sem]) ?_
  refine (catch_idle _).mono ?_
  rintro e u' w'' ⟨rfl, rfl, rfl⟩
  simp [Leaves, settle, results, Tryd.results33, go_sem]
  exact HP.out

theorem quiet_is (args : Array Value) (w : World) (P : World → Prop) (h : Calls Tryd.prog 34 args w fun e w' => e = .returned (.tuple #[]) ∧ P w') :
    Calls Tryd.prog 33 #[.func (.func 34) #[] args] w fun e w' => e = .returned (.tuple #[]) ∧ P w' := by
  have H := Lib.hid h
  clear h
  go_enter_defers Tryd.func33, Tryd.ntmps33
  go_wp2_with fail
  refine H.out.mono ?_
  rintro e w' ⟨rfl, hp⟩
  have HP := Lib.hid hp
  clear hp
  go_wp2_with fail
  refine leaves_cons (f := 45) (args := #[]) (by simp) (by simp [go_sem]) ?_
  refine (catch_idle _).mono ?_
  rintro e u' w'' ⟨rfl, rfl, rfl⟩
  simp [Leaves, settle, results, Tryd.results33, go_sem]
  exact HP.out

theorem quiet_at (args : Array Value) (w : World) (P : World → Prop) (h : Calls Tryd.prog 48 args w fun e w' => e = .returned (.tuple #[]) ∧ P w') :
    Calls Tryd.prog 33 #[.func (.func 48) #[] args] w fun e w' => e = .returned (.tuple #[]) ∧ P w' := by
  have H := Lib.hid h
  clear h
  go_enter_defers Tryd.func33, Tryd.ntmps33
  go_wp2_with fail
  refine H.out.mono ?_
  rintro e w' ⟨rfl, hp⟩
  have HP := Lib.hid hp
  clear hp
  go_wp2_with fail
  refine leaves_cons (f := 45) (args := #[]) (by simp) (by simp [go_sem]) ?_
  refine (catch_idle _).mono ?_
  rintro e u' w'' ⟨rfl, rfl, rfl⟩
  simp [Leaves, settle, results, Tryd.results33, go_sem]
  exact HP.out

end Go.Proofs.YtboeobgkepdabaaDoor.ft
