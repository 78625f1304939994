/-
  An At over no error: its own finite; Kind's answer Fault; Where's its own place.
-/
import Derived.Test.YtboeobgkepdabaaDoorFcSurA
import Derived.Test.YtboeobgkepdabaaDoorFcPlace
namespace Go.Proofs.YtboeobgkepdabaaDoor.ft
open Go.ChangeShapes Go.WideShapes Go.ChangeAt Go.RowKit Go.Extern.Stop Go.Stop Go.Extern
open Go.Proofs.YtboeobgkepdabaaDoor.lx (Has)
set_option linter.unusedVariables false

set_option maxRecDepth 10000 in
set_option maxHeartbeats 4000000 in
theorem kind_none (t : TypeId) (v : Value) (w : World) (hF : OwnFinite w (.iface t v))
    (hI : ∀ (j : Int) W, Below w.heap.size w W → Calls Tryd.prog 35 #[.iface t v, .iface 29 (.int .i64 j)] W fun e w' => e = .returned (.bool false) ∧ w' = W) :
    Calls Tryd.prog 15 #[.iface t v] w fun ev w' => ev = .returned (.int .i64 12) ∧ Below w.heap.size w w' := by
  have HF := Lib.hid (hF w (Below.refl _ _))
  have HI := Lib.hid hI
  clear hF hI
  go_enter Tryd.func15, Tryd.ntmps15
  go_wp2_with fail
  refine HF.out.mono ?_
  rintro ev w1 ⟨rfl, hb1⟩
  have HL1 := Lib.hid hb1
  clear hb1
  go_wp2_with fail
  go_loopw [3] (fun kv wr => ∃ n : Nat, 1 ≤ n ∧ n ≤ 12 ∧ kv = .int .i64 n ∧ Hid (Below w.heap.size w wr)) (fun kv _ => 13 - (intOf kv).toNat)
  case atStart => exact ⟨1, by omega, by omega, rfl, HL1⟩
  case round =>
    obtain ⟨n, hn1, hn2, rfl, HW⟩ := hrel
    by_cases hn : n = 12
    · subst hn
      go_wp2_with fail
      go_ret
      exact ⟨rfl, HW.out⟩
    · have hn12 : (n : Int) < 12 := by omega
      have HJ := Lib.hid (is_any t v (n : Int) false wr (fun W hb => HI.out n W (HW.out.trans (hb.mono HW.out.size))))
      go_wp2_with fail
      refine HJ.out.mono ?_
      rintro ev w2 ⟨rfl, hb2⟩
      have HL2 := Lib.hid (HW.out.trans (hb2.mono HW.out.size))
      clear hb2
      go_wp2
      go_roundw
      case rel => exact ⟨n + 1, by omega, by omega, by go_num, HL2⟩
      case measure => simp [intOf]; omega

theorem own_a (g : Nat) (x y : Int) (nm : ByteArray) (nd : Bool) (w : World) (hg : Has w g 50 #[.int .i64 x, .int .i64 y, .string nm, .bool nd, .nilIface]) : OwnFinite w (.iface 41 (.pointer (some ⟨g, 0, none⟩))) :=
  fun W hb => finite_g _ W (surveyA g x y nm nd W (hg.below hb hg.lt))
theorem kind_a (g : Nat) (x y : Int) (nm : ByteArray) (nd : Bool) (w : World) (hg : Has w g 50 #[.int .i64 x, .int .i64 y, .string nm, .bool nd, .nilIface]) :
    Calls Tryd.prog 15 #[.iface 41 (.pointer (some ⟨g, 0, none⟩))] w fun ev w' => ev = .returned (.int .i64 12) ∧ Below w.heap.size w w' :=
  kind_none _ _ w (own_a g x y nm nd w hg) (fun j W hb => is_an g x y nm nd j W (hg.below hb hg.lt))
theorem where_a (g : Nat) (x y : Int) (nm : ByteArray) (w : World) (hh : Handle w) (hg : Has w g 50 #[.int .i64 x, .int .i64 y, .string nm, .bool false, .nilIface]) :
    Calls Tryd.prog 16 #[.iface 41 (.pointer (some ⟨g, 0, none⟩))] w fun ev w' => ev = .returned (.agg #[.int .i64 x, .int .i64 y]) ∧ Below w.heap.size w w' :=
  where_g _ _ x y w (own_a g x y nm false w hg) (fun W hb => place_at g x y nm _ W (hh.below hb) (hg.below hb hg.lt))
end Go.Proofs.YtboeobgkepdabaaDoor.ft
