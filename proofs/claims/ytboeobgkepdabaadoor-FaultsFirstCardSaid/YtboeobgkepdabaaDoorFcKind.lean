/-
  errors.Is at a chain of two Ats over a Kind; finite and Kind of whatever error, given what the survey and errors.Is answer; so of such a chain, and of a bare Kind.
-/
import Derived.Test.YtboeobgkepdabaaDoorFcSurAAK
import Derived.Test.YtboeobgkepdabaaDoorFcSurK
import Derived.Test.YtboeobgkepdabaaDoorFtFinite
namespace Go.Proofs.YtboeobgkepdabaaDoor.ft
open Go.ChangeShapes Go.WideShapes Go.ChangeAt Go.RowKit Go.Extern.Stop Go.Stop Go.Extern
open Go.Proofs.YtboeobgkepdabaaDoor.lx (Has)
set_option linter.unusedVariables false

set_option maxRecDepth 10000 in
set_option maxHeartbeats 4000000 in
theorem is_aak (g0 g1 : Nat) (x0 y0 x1 y1 : Int) (nm0 nm1 : ByteArray) (nd0 nd1 : Bool) (k j : Int) (b : Bool) (w : World) (hk : (k == j) = b)
    (hg0 : Has w g0 50 #[.int .i64 x0, .int .i64 y0, .string nm0, .bool nd0, .iface 41 (.pointer (some ⟨g1, 0, none⟩))])
    (hg1 : Has w g1 50 #[.int .i64 x1, .int .i64 y1, .string nm1, .bool nd1, .iface 29 (.int .i64 k)]) :
    Calls Tryd.prog 35 #[.iface 41 (.pointer (some ⟨g0, 0, none⟩)), .iface 29 (.int .i64 j)] w fun e w' => e = .returned (.bool b) ∧ w' = w := by
  have h8 := @run_callFunc_extern Tryd.prog 46 _ ReflectliteType.typeOf Tryd.func46 (by kernel_rfl) (by kernel_rfl) (by kernel_rfl) (by kernel_rfl)
  have h32 := @run_callFunc_extern Tryd.prog 96 _ compF Tryd.func96 (by kernel_rfl) (by kernel_rfl) (by kernel_rfl) (by kernel_rfl)
  have tT := typeOfK
  have cT := compK
  have mR := methodComparable
  have nI := noIsK
  have nU := assertKind
  have nM := assertKindMany
  have nA := noIsA
  have hA := assertAt
  have hM := methodUnwrap
  have b0 := binAK
  have b1 : ∀ w, (binOp .eql 27 (.iface 29 (.int .i64 k)) (.iface 29 (.int .i64 j))).run Tryd.prog w = .ok (.bool b) w := fun w => by rw [binKK, hk]
  clear hk
  have HL0 := Lib.hid (atUnwrap_any g0 x0 y0 nm0 nd0 _ w hg0)
  have HL1 := Lib.hid (atUnwrap_any g1 x1 y1 nm1 nd1 _ w hg1)
  clear hg0 hg1
  cases b
  all_goals
    go_enter Tryd.func35, Tryd.ntmps35
    go_wp2
    refine wp_loop_rounds 3 ?_
    rw [rounds_succ]
    go_wp2_with (go_at_call 20; refine HL0.out.mono ?_; rintro e w' ⟨rfl, rfl⟩)
    rw [rounds_succ]
    go_wp2_with (go_at_call 20; refine HL1.out.mono ?_; rintro e w' ⟨rfl, rfl⟩)
    rw [rounds_succ]
    go_wp2
    go_ret
    exact ⟨rfl, rfl⟩

set_option maxRecDepth 10000 in
set_option maxHeartbeats 4000000 in
/-- an error that doesn't wrap itself is its own finite -/
theorem finite_g (V : Value) (w : World)
    (HN : Calls Tryd.prog 31 #[V] w fun e w' => ∃ S m parts, e = .returned (.pointer (some ⟨S, 0, none⟩)) ∧ Has w' S 70 #[.map (some m), .int .i64 0, parts, .bool false] ∧ Below w.heap.size w w') :
    Calls Tryd.prog 22 #[V] w fun e w' => e = .returned V ∧ Below w.heap.size w w' := by
  have HL := Lib.hid HN
  clear HN
  go_enter Tryd.func22, Tryd.ntmps22
  go_wp2_with fail
  refine HL.out.mono ?_
  rintro e w1 ⟨S, m, parts, rfl, hS, hb⟩
  have c3 := hS.cell 3
  simp only [List.getElem?_toArray, List.getElem?_cons_zero, List.getElem?_cons_succ] at c3
  have HB := Lib.hid hb
  clear hS hb
  go_wp2_with fail
  go_ret
  exact ⟨rfl, HB.out⟩

/-- what Kind answers: Fault, if it is none of these -/
def wantK (k : Int) : Int := if 1 ≤ k ∧ k < 12 then k else 12

set_option maxRecDepth 10000 in
set_option maxHeartbeats 4000000 in
theorem kind_g (t : TypeId) (v : Value) (k : Int) (w : World) (hF : OwnFinite w (.iface t v))
    (hI : ∀ (j : Int) W, Below w.heap.size w W → Calls Tryd.prog 35 #[.iface t v, .iface 29 (.int .i64 j)] W fun e w' => e = .returned (.bool (k == j)) ∧ w' = W) :
    Calls Tryd.prog 15 #[.iface t v] w fun ev w' => ev = .returned (.int .i64 (wantK k)) ∧ Below w.heap.size w w' := by
  have HF := Lib.hid (hF w (Below.refl _ _))
  have HI := Lib.hid hI
  clear hF hI
  go_enter Tryd.func15, Tryd.ntmps15
  go_wp2_with fail
  refine HF.out.mono ?_
  rintro ev w1 ⟨rfl, hb1⟩
  have HL1 := Lib.hid hb1
  clear hb1
  go_wp2_with fail
  go_loopw [3] (fun kv wr => ∃ n : Nat, 1 ≤ n ∧ n ≤ 12 ∧ (∀ i : Nat, 1 ≤ i → i < n → k ≠ (i : Int)) ∧ kv = .int .i64 n ∧ Hid (Below w.heap.size w wr)) (fun kv _ => 13 - (intOf kv).toNat)
  case atStart => exact ⟨1, by omega, by omega, fun i h1 h2 => by omega, rfl, HL1⟩
  case round =>
    obtain ⟨n, hn1, hn2, hno, rfl, HW⟩ := hrel
    by_cases hn : n = 12
    · subst hn
      have hw : wantK k = 12 := by
        unfold wantK
        by_cases h : 1 ≤ k ∧ k < 12
        · exact absurd (by omega) (hno k.toNat (by omega) (by omega))
        · rw [if_neg h]
      have HWK := Lib.hid hw
      clear hno hw
      go_wp2_with fail
      go_ret
      exact ⟨by rw [HWK.out]; rfl, HW.out⟩
    · have hn12 : (n : Int) < 12 := by omega
      have HJ := Lib.hid (is_any t v (n : Int) (k == (n : Int)) wr (fun W hb => HI.out n W (HW.out.trans (hb.mono HW.out.size))))
      have HNO := Lib.hid hno
      clear hno
      by_cases hnk : k = n
      · have hw : wantK k = n := by unfold wantK; rw [if_pos ⟨by omega, by omega⟩]; exact hnk
        have HWK := Lib.hid hw
        have hbk : (k == (n : Int)) = true := by rw [hnk]; exact beq_self_eq_true _
        rw [hbk] at HJ
        clear hw hbk hnk
        go_wp2_with fail
        refine HJ.out.mono ?_
        rintro ev w2 ⟨rfl, hb2⟩
        have HL2 := Lib.hid (HW.out.trans (hb2.mono HW.out.size))
        clear hb2
        go_wp2
        go_ret
        exact ⟨by rw [HWK.out]; rfl, HL2.out⟩
      · have hbk : (k == (n : Int)) = false := beq_eq_false_iff_ne.2 hnk
        rw [hbk] at HJ
        have HNK := Lib.hid hnk
        clear hbk hnk
        go_wp2_with fail
        refine HJ.out.mono ?_
        rintro ev w2 ⟨rfl, hb2⟩
        have HL2 := Lib.hid (HW.out.trans (hb2.mono HW.out.size))
        clear hb2
        go_wp2
        go_roundw
        case rel => exact ⟨n + 1, by omega, by omega, fun i h1 h2 => by
          by_cases h : i = n
          · rw [h]; exact HNK.out
          · exact HNO.out i h1 (by omega), by go_num, HL2⟩
        case measure => simp [intOf]; omega

/-- a bare Kind -/
theorem kind_k (k : Int) (w : World) :
    Calls Tryd.prog 15 #[.iface 29 (.int .i64 k)] w fun ev w' => ev = .returned (.int .i64 (wantK k)) ∧ Below w.heap.size w w' :=
  kind_g _ _ k w (fun W hb => finite_g _ W (surveyK k W)) (fun j W hb => by
    by_cases h : k = j
    · rw [show (k == j) = true by rw [h]; exact beq_self_eq_true _]
      exact is_kind_true k j W h
    · rw [beq_eq_false_iff_ne.2 h]
      exact is_kind_false k j W h)

/-- an At over a Kind -/
theorem kind_ak (g : Nat) (x y k : Int) (nm : ByteArray) (nd : Bool) (w : World) (hg : Has w g 50 #[.int .i64 x, .int .i64 y, .string nm, .bool nd, .iface 29 (.int .i64 k)]) :
    Calls Tryd.prog 15 #[.iface 41 (.pointer (some ⟨g, 0, none⟩))] w fun ev w' => ev = .returned (.int .i64 (wantK k)) ∧ Below w.heap.size w w' :=
  kind_g _ _ k w (own_finite g x y k nm nd w hg) (fun j W hb => by
    by_cases h : k = j
    · rw [show (k == j) = true by rw [h]; exact beq_self_eq_true _]
      exact is_at_true g x y nm nd k j W h (hg.below hb hg.lt)
    · rw [beq_eq_false_iff_ne.2 h]
      exact is_at_false g x y nm nd k j W h (hg.below hb hg.lt))

/-- an At over an At over a Kind -/
theorem own_aak (g0 g1 : Nat) (x0 y0 x1 y1 k : Int) (nm0 nm1 : ByteArray) (nd0 nd1 : Bool) (w : World) (hne : g0 ≠ g1)
    (hg0 : Has w g0 50 #[.int .i64 x0, .int .i64 y0, .string nm0, .bool nd0, .iface 41 (.pointer (some ⟨g1, 0, none⟩))])
    (hg1 : Has w g1 50 #[.int .i64 x1, .int .i64 y1, .string nm1, .bool nd1, .iface 29 (.int .i64 k)]) : OwnFinite w (.iface 41 (.pointer (some ⟨g0, 0, none⟩))) :=
  fun W hb => finite_g _ W (surveyAAK g0 x0 y0 nm0 nd0 g1 x1 y1 nm1 nd1 k W (hg0.below hb hg0.lt) (hg1.below hb hg1.lt) hne)
theorem kind_aak (g0 g1 : Nat) (x0 y0 x1 y1 k : Int) (nm0 nm1 : ByteArray) (nd0 nd1 : Bool) (w : World) (hne : g0 ≠ g1)
    (hg0 : Has w g0 50 #[.int .i64 x0, .int .i64 y0, .string nm0, .bool nd0, .iface 41 (.pointer (some ⟨g1, 0, none⟩))])
    (hg1 : Has w g1 50 #[.int .i64 x1, .int .i64 y1, .string nm1, .bool nd1, .iface 29 (.int .i64 k)]) :
    Calls Tryd.prog 15 #[.iface 41 (.pointer (some ⟨g0, 0, none⟩))] w fun ev w' => ev = .returned (.int .i64 (wantK k)) ∧ Below w.heap.size w w' :=
  kind_g _ _ k w (own_aak g0 g1 x0 y0 x1 y1 k nm0 nm1 nd0 nd1 w hne hg0 hg1) (fun j W hb => is_aak g0 g1 x0 y0 x1 y1 nm0 nm1 nd0 nd1 k j _ W rfl (hg0.below hb hg0.lt) (hg1.below hb hg1.lt))
end Go.Proofs.YtboeobgkepdabaaDoor.ft
