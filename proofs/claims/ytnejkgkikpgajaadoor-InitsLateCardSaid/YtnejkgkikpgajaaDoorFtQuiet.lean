/-
  quietly of package faults, at a function literal that does not panic: each literal's own line.
-/
import Derived.Test.YtnejkgkikpgajaaDoorFtUnwrap
import Derived.Defers
import Derived.Recover
namespace Go.Proofs.YtnejkgkikpgajaaDoor.ft
open Go.ChangeShapes Go.WideShapes Go.ChangeAt Go.RowKit Go.Extern.Stop Go.Stop Go.Extern
open Go.Proofs.YtnejkgkikpgajaaDoor.lx (Has)
set_option linter.unusedVariables false

theorem catch_idle (w : World) :
    CallsD Tryd.prog 63 #[] .returning w fun e u' w' => e = .returned (.tuple #[]) ∧ u' = .returning ∧ w' = w := by
  refine callsD_of_wpS Tryd.func63 rfl fun c₀ cs hu => ?_
  apply wpS_region
  simp [wpOpsS, go_sem, recoverD, hu, Tryd.ntmps63, bodyPostS, results, Tryd.results63]
  cases c₀
  simp_all

theorem quiet_wrapped (args : Array Value) (w : World) (P : World → Prop) (h : Calls Tryd.prog 92 args w fun e w' => e = .returned (.tuple #[]) ∧ P w') :
    Calls Tryd.prog 41 #[.func (.func 92) #[] args] w fun e w' => e = .returned (.tuple #[]) ∧ P w' := by
  have H := Lib.hid h
  clear h
  go_enter_defers Tryd.func41, Tryd.ntmps41
  go_wp2_with fail
  refine H.out.mono ?_
  rintro e w' ⟨rfl, hp⟩
  have HP := Lib.hid hp
  clear hp
  go_wp2_with fail
  refine leaves_cons (f := 63) (args := #[]) (by simp) (by simp [go_sem]) ?_
  refine (catch_idle _).mono ?_
  rintro e u' w'' ⟨rfl, rfl, rfl⟩
  simp [Leaves, settle, results, Tryd.results41, go_sem]
  exact HP.out

theorem quiet_enters (args : Array Value) (w : World) (P : World → Prop) (h : Calls Tryd.prog 82 args w fun e w' => e = .returned (.tuple #[]) ∧ P w') :
    Calls Tryd.prog 41 #[.func (.func 82) #[] args] w fun e w' => e = .returned (.tuple #[]) ∧ P w' := by
  have H := Lib.hid h
  clear h
  go_enter_defers Tryd.func41, Tryd.ntmps41
  go_wp2_with fail
  refine H.out.mono ?_
  rintro e w' ⟨rfl, hp⟩
  have HP := Lib.hid hp
  clear hp
  go_wp2_with fail
  refine leaves_cons (f := 63) (args := #[]) (by simp) (by simp [go_sem]) ?_
  refine (catch_idle _).mono ?_
  rintro e u' w'' ⟨rfl, rfl, rfl⟩
  simp [Leaves, settle, results, Tryd.results41, go_sem]
  exact HP.out

theorem quiet_survey (args : Array Value) (w : World) (P : World → Prop) (h : Calls Tryd.prog 59 args w fun e w' => e = .returned (.tuple #[]) ∧ P w') :
    Calls Tryd.prog 41 #[.func (.func 59) #[] args] w fun e w' => e = .returned (.tuple #[]) ∧ P w' := by
  have H := Lib.hid h
  clear h
  go_enter_defers Tryd.func41, Tryd.ntmps41
  go_wp2_with fail
  refine H.out.mono ?_
  rintro e w' ⟨rfl, hp⟩
  have HP := Lib.hid hp
  clear hp
  go_wp2_with fail
  refine leaves_cons (f := 63) (args := #[]) (by simp) (by simp [go_sem]) ?_
  refine (catch_idle _).mono ?_
  rintro e u' w'' ⟨rfl, rfl, rfl⟩
  simp [Leaves, settle, results, Tryd.results41, go_sem]
  exact HP.out

theorem quiet_is (args : Array Value) (w : World) (P : World → Prop) (h : Calls Tryd.prog 42 args w fun e w' => e = .returned (.tuple #[]) ∧ P w') :
    Calls Tryd.prog 41 #[.func (.func 42) #[] args] w fun e w' => e = .returned (.tuple #[]) ∧ P w' := by
  have H := Lib.hid h
  clear h
  go_enter_defers Tryd.func41, Tryd.ntmps41
  go_wp2_with fail
  refine H.out.mono ?_
  rintro e w' ⟨rfl, hp⟩
  have HP := Lib.hid hp
  clear hp
  go_wp2_with fail
  refine leaves_cons (f := 63) (args := #[]) (by simp) (by simp [go_sem]) ?_
  refine (catch_idle _).mono ?_
  rintro e u' w'' ⟨rfl, rfl, rfl⟩
  simp [Leaves, settle, results, Tryd.results41, go_sem]
  exact HP.out

end Go.Proofs.YtnejkgkikpgajaaDoor.ft
