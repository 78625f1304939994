/-
  The number of a constant is told, and what is none has none; the expressions that Int, Bool, Ctor, Name, Pick and When make are as the document says (of an expression of more than 1,000 parts, or deeper than 200, the law says nothing). No condition. The walk.
-/
import Derived.Test.YtjkkalhgbfbcbaaTrPick
import Derived.Outline
import Derived.Deep.LoopGhost
namespace Go.Proofs.Ytjkkalhgbfbcbaa.treeValues
open Go.ChangeShapes Go.WideShapes Go.ChangeAt Go.RowKit
set_option linter.unusedVariables false
open tr
theorem one_int (w : World) (n : Int) : Calls Try.prog 25 #[.slice none 0 0, .agg #[.int .u8 2, .int .u8 0, .int .i32 n, .string ⟨#[]⟩, .slice none 0 0, .slice none 0 0, .int .i64 0, .int .i64 0]] w fun e w' => e = .returned (.tuple #[.int .i32 n, .bool true]) ∧ Below w.heap.size w w' :=
  value_nil w 2 n ⟨#[]⟩ _ _ _ _ _ (by omega)
def pickN (s : ByteArray) : Int := if (s.toList == [116, 114, 117, 101]) = true then 1 else 0
theorem pickN_eq (s : ByteArray) : (pickN s == 1) = (s.toList == [116, 114, 117, 101]) := by
  unfold pickN
  cases (s.toList == [116, 114, 117, 101]) <;> rfl
theorem pick_n (w : World) (s : ByteArray) : Calls Try.prog 30 #[.agg #[.int .u8 1, .string ⟨#[]⟩], .string s] w fun e w' => e = .returned (.agg #[.int .u8 2, .int .u8 0, .int .i32 (pickN s), .string ⟨#[]⟩, .slice none 0 0, .slice none 0 0, .int .i64 0, .int .i64 0]) ∧ Below w.heap.size w w' := pick_bool w s
set_option maxRecDepth 100000 in
set_option maxHeartbeats 40000000 in
theorem walk (w : World) (cs0 : Array Value) (x0 : tr.Ex) (hx0 : tr.LaidC w x0 cs0.toList) (n1 : Int) (wn1 : (Lit.int .i32 n1).wf = true) (b2 : Bool) (s3 : ByteArray) (ws3 : s3.size ≤ maxLen) :
    Calls Try.prog 6 #[.agg cs0, .int .i32 n1, .bool b2, .string s3] w fun e w' => e = .returned (.bool true) ∧ Below w.heap.size w w' := by
  obtain ⟨c0, c1, c2, c3, c4, c5, c6, c7, rfl⟩ := hx0.form
  have hb := (Below.refl w.heap.size w).alloc (Nat.le_refl _) (.cells #[c0, c1, c2, c3, c4, c5, c6, c7] 44)
  have hgr := great_any (w.alloc (.cells #[c0, c1, c2, c3, c4, c5, c6, c7] 44)) x0 #[c0, c1, c2, c3, c4, c5, c6, c7] 1000 (LaidC.below hb _ _ hx0) (by omega) (by omega)
  by_cases hg : countD 200 1000 x0 < 0
  · rw [decide_eq_true hg] at hgr
    have HG := Lib.hid hgr
    have HB := Lib.hid hb
    clear hgr hb hx0 hg
    go_enter Try.func6, Try.ntmps6
    go_wp2_with fail
    refine HG.out.mono ?_
    rintro e w1 ⟨rfl, hb1⟩
    have HB1 := Lib.hid (HB.out.trans (hb1.mono HB.out.size))
    clear hb1
    go_wp2_with fail
    refine (awake_any _).mono ?_
    rintro e w2 ⟨rfl, hb2⟩
    have HB2 := Lib.hid (HB1.out.trans (hb2.mono HB1.out.size))
    clear hb2
    go_wp2_with fail
    go_ret
    exact ⟨rfl, HB2.out⟩
  rw [decide_eq_false hg] at hgr
  have HG := Lib.hid hgr
  have HB := Lib.hid hb
  clear hgr hb hg
  obtain ⟨k, o, num, nm, nms, kids, ln, cl⟩ := x0
  unfold LaidC at hx0
  obtain ⟨hk, _, hnm, _, _, na, nc, ka, kc, _, _, hcs, _, _⟩ := hx0
  simp only [List.cons.injEq, and_true] at hcs
  obtain ⟨rfl, rfl, rfl, rfl, rfl, rfl, rfl, rfl⟩ := hcs
  have hcase : ((k = 1 ∨ k = 2) ∧ (((k : Int) == 1) = true ∨ (((k : Int) == 1) = false ∧ ((k : Int) == 2) = true)) ∧ valueOf k num = .tuple #[.int .i32 num, .bool true]) ∨ (((k : Int) == 1) = false ∧ ((k : Int) == 2) = false ∧ valueOf k num = .tuple #[.int .i32 0, .bool false]) := by
    by_cases h12 : k = 1 ∨ k = 2
    · left
      refine ⟨h12, ?_, if_pos h12⟩
      rcases h12 with rfl | rfl
      · exact .inl rfl
      · exact .inr ⟨rfl, rfl⟩
    · right
      exact ⟨by rw [beq_eq_false_iff_ne]; omega, by rw [beq_eq_false_iff_ne]; omega, if_neg h12⟩
  have hpk := fun w => pick_n w s3
  have hval := fun w => value_nil w k num nm (.int .u8 o) (.slice na nms.length nc) (.slice ka kids.length kc) (.int .i64 ln) (.int .i64 cl) hk
  have hb2 := fun w => bool_any w b2
  have h2v := fun w => one_int w (if b2 = true then 1 else 0)
  have hf1 : ∀ w : World, (Instr.field 44 (.agg #[.int .u8 3, .int .u8 0, .int .i32 0, .string s3, .slice none 0 0, .slice none 0 0, .int .i64 0, .int .i64 0]) 3).run Try.prog w = .ok (.string s3) w := fun _ => by kernel_rfl
  have hf2 : ∀ w : World, (Instr.field 44 (.agg #[.int .u8 4, .int .u8 0, .int .i32 0, .string s3, .slice none 0 0, .slice none 0 0, .int .i64 0, .int .i64 0]) 0).run Try.prog w = .ok (.int .u8 4) w := fun _ => by kernel_rfl
  have hsp : (s3.toList == s3.toList) = true := beq_self_eq_true _
  have hnn : (n1 == n1) = true := beq_self_eq_true _
  have hmm : (num == num) = true := beq_self_eq_true _
  rcases hcase with ⟨_, hkk | ⟨hk1, hk2⟩, hvo⟩ | ⟨hk1, hk2, hvo⟩ <;> cases b2
  all_goals
    rw [hvo] at hval
    simp only [if_true, if_false, Bool.false_eq_true] at hb2 h2v
    have HV := Lib.hid hval
    have HB2 := Lib.hid hb2
    have H2V := Lib.hid h2v
    have HPK := Lib.hid hpk
    clear hval hvo hb2 h2v hpk
    go_enter Try.func6, Try.ntmps6
    go_wp2_with fail
    refine HG.out.mono ?_
    rintro e w1 ⟨rfl, hb1⟩
    have HB1 := Lib.hid (HB.out.trans (hb1.mono HB.out.size))
    have h1 := (Has.new w 44 #[.int .u8 (k : Int), .int .u8 (o : Int), .int .i32 num, .string nm, .slice na nms.length nc, .slice ka kids.length kc, .int .i64 ln, .int .i64 cl]).below hb1 (by simp)
    clear hb1
    have HE := Lib.hid h1
    obtain ⟨q0, q1, q2, q3, q4, q5, q6, q7⟩ := has8 h1
    clear h1
    go_wp2_with fail
    refine (HV.out _).mono ?_
    rintro e w2 ⟨rfl, hb2⟩
    clear q0 q1 q2 q3 q4 q5 q6 q7
    have HB2' := Lib.hid (HB1.out.trans (hb2.mono HB1.out.size))
    have HE2 := Lib.hid (HE.out.below hb2 HE.out.lt)
    clear hb2 HE
    go_wp2_with fail
    refine (int_any _ _).mono ?_
    rintro e w3 ⟨rfl, hb3⟩
    have HB3 := Lib.hid (HB2'.out.trans (hb3.mono HB2'.out.size))
    have HE3 := Lib.hid (HE2.out.below hb3 HE2.out.lt)
    clear hb3 HE2
    go_wp2_with fail
    refine (HB2.out _).mono ?_
    rintro e w4 ⟨rfl, hb4⟩
    have HX4 := Lib.hid ((Has.new w3 44 #[.int .u8 1, .int .u8 0, .int .i32 n1, .string ⟨#[]⟩, .slice none 0 0, .slice none 0 0, .int .i64 0, .int .i64 0]).below hb4 (by simp))
    have HB4 := Lib.hid ((HB3.out.alloc HB3.out.size _).trans (hb4.mono (by have := HB3.out.size; simp; omega)))
    have HE4 := Lib.hid ((HE3.out.alloc _).below hb4 (by have := HE3.out.lt; simp; omega))
    clear hb4 HE3
    go_wp2_with fail
    refine (H2V.out _).mono ?_
    rintro e w5 ⟨rfl, hb5⟩
    have HB5 := Lib.hid ((HB4.out.alloc HB4.out.size (.cells #[.int .u8 2, .int .u8 0, .int .i32 _, .string ⟨#[]⟩, .slice none 0 0, .slice none 0 0, .int .i64 0, .int .i64 0] 44)).trans (hb5.mono (by have := HB4.out.size; simp; omega)))
    have HE5 := Lib.hid ((HE4.out.alloc (.cells #[.int .u8 2, .int .u8 0, .int .i32 _, .string ⟨#[]⟩, .slice none 0 0, .slice none 0 0, .int .i64 0, .int .i64 0] 44)).below hb5 (by have := HE4.out.lt; simp; omega))
    have HX5 := Lib.hid ((HX4.out.alloc (.cells #[.int .u8 2, .int .u8 0, .int .i32 _, .string ⟨#[]⟩, .slice none 0 0, .slice none 0 0, .int .i64 0, .int .i64 0] 44)).below hb5 (by have := HX4.out.lt; simp; omega))
    clear hb5 HE4 HX4
    go_wp2_with fail
    refine (HPK.out _).mono ?_
    rintro e w6 ⟨rfl, hb6⟩
    have HB6 := Lib.hid (HB5.out.trans (hb6.mono HB5.out.size))
    have HE6 := Lib.hid (HE5.out.below hb6 HE5.out.lt)
    have HX6 := Lib.hid (HX5.out.below hb6 HX5.out.lt)
    clear hb6 HE5 HX5
    have hp6 := Has.new w6 44 #[.int .u8 2, .int .u8 0, .int .i32 (pickN s3), .string ⟨#[]⟩, .slice none 0 0, .slice none 0 0, .int .i64 0, .int .i64 0]
    have hx6 := HX6.out.alloc (.cells #[.int .u8 2, .int .u8 0, .int .i32 (pickN s3), .string ⟨#[]⟩, .slice none 0 0, .slice none 0 0, .int .i64 0, .int .i64 0] 44)
    obtain ⟨q0, q1, q2, q3, q4, q5, q6, q7⟩ := has8 hx6
    clear hx6
    have HP6 := Lib.hid hp6
    clear hp6
    go_wp2_with fail
    refine (when_any _ _ _ _ _ _ _ _ _ _ _).mono ?_
    rintro e w7 ⟨g1, g2, rfl, hb7, hg1, hw7⟩
    clear q0 q1 q2 q3 q4 q5 q6 q7
    have HB7 := Lib.hid ((HB6.out.alloc HB6.out.size (.cells #[.int .u8 2, .int .u8 0, .int .i32 (pickN s3), .string ⟨#[]⟩, .slice none 0 0, .slice none 0 0, .int .i64 0, .int .i64 0] 44)).trans (hb7.mono (by have := HB6.out.size; simp; omega)))
    have HE7 := Lib.hid (((HE6.out.alloc (.cells #[.int .u8 2, .int .u8 0, .int .i32 (pickN s3), .string ⟨#[]⟩, .slice none 0 0, .slice none 0 0, .int .i64 0, .int .i64 0] 44)).below hb7 (by have := HE6.out.lt; simp; omega)).alloc (.cells #[.int .u8 12, .int .u8 0, .int .i32 0, .string ⟨#[118]⟩, .slice (some ⟨g1, 0, none⟩) 1 1, .slice (some ⟨g2, 0, none⟩) 1 1, .int .i64 0, .int .i64 0] 44))
    have HX7 := Lib.hid (((HX6.out.alloc (.cells #[.int .u8 2, .int .u8 0, .int .i32 (pickN s3), .string ⟨#[]⟩, .slice none 0 0, .slice none 0 0, .int .i64 0, .int .i64 0] 44)).below hb7 (by have := HX6.out.lt; simp; omega)).alloc (.cells #[.int .u8 12, .int .u8 0, .int .i32 0, .string ⟨#[118]⟩, .slice (some ⟨g1, 0, none⟩) 1 1, .slice (some ⟨g2, 0, none⟩) 1 1, .int .i64 0, .int .i64 0] 44))
    have HP7 := Lib.hid ((HP6.out.below hb7 (by simp)).alloc (.cells #[.int .u8 12, .int .u8 0, .int .i32 0, .string ⟨#[118]⟩, .slice (some ⟨g1, 0, none⟩) 1 1, .slice (some ⟨g2, 0, none⟩) 1 1, .int .i64 0, .int .i64 0] 44))
    have HW7 := Lib.hid (hw7.alloc (.cells #[.int .u8 12, .int .u8 0, .int .i32 0, .string ⟨#[118]⟩, .slice (some ⟨g1, 0, none⟩) 1 1, .slice (some ⟨g2, 0, none⟩) 1 1, .int .i64 0, .int .i64 0] 44))
    have HN7 := Lib.hid (Has.new w7 44 #[.int .u8 12, .int .u8 0, .int .i32 0, .string ⟨#[118]⟩, .slice (some ⟨g1, 0, none⟩) 1 1, .slice (some ⟨g2, 0, none⟩) 1 1, .int .i64 0, .int .i64 0])
    clear hb7 HE6 HX6 HP6 hw7 hg1
    obtain ⟨q0, q1, q2, q3, q4, q5, q6, q7⟩ := has8 HE7.out
    go_wp2_with fail
    refine (awake_any _).mono ?_
    rintro e w8 ⟨rfl, hb8⟩
    clear q0 q1 q2 q3 q4 q5 q6 q7
    have HB8 := Lib.hid ((HB7.out.alloc HB7.out.size (.cells #[.int .u8 12, .int .u8 0, .int .i32 0, .string ⟨#[118]⟩, .slice (some ⟨g1, 0, none⟩) 1 1, .slice (some ⟨g2, 0, none⟩) 1 1, .int .i64 0, .int .i64 0] 44)).trans (hb8.mono (by have := HB7.out.size; simp; omega)))
    have HE8 := Lib.hid (HE7.out.below hb8 HE7.out.lt)
    have HX8 := Lib.hid (HX7.out.below hb8 HX7.out.lt)
    have HP8 := Lib.hid (HP7.out.below hb8 HP7.out.lt)
    have HN8 := Lib.hid (HN7.out.below hb8 HN7.out.lt)
    have HW8 := Lib.hid (HW7.out.below hb8 HW7.out.lt)
    clear hb8 HE7 HX7 HP7 HN7 HW7
    obtain ⟨q0, q1, q2, q3, q4, q5, q6, q7⟩ := has8 HE8.out
    obtain ⟨r0, r1, r2, r3, r4, r5, r6, r7⟩ := has8 HX8.out
    go_wp2_with fail
    clear r0 r1 r2 r3 r4 r5 r6 r7
    refine (ctor_any _ _).mono ?_
    rintro e w9 ⟨rfl, hb9⟩
    clear q0 q1 q2 q3 q4 q5 q6 q7
    have HB9 := Lib.hid ((HB8.out).trans (hb9.mono (HB8.out.size)))
    have HE9 := Lib.hid (HE8.out.below hb9 HE8.out.lt)
    have HX9 := Lib.hid (HX8.out.below hb9 HX8.out.lt)
    have HP9 := Lib.hid (HP8.out.below hb9 HP8.out.lt)
    have HN9 := Lib.hid (HN8.out.below hb9 HN8.out.lt)
    have HW9 := Lib.hid (HW8.out.below hb9 HW8.out.lt)
    clear hb9 HE8 HX8 HP8 HN8 HW8
    have q0 := hsp
    go_wp2_with fail
    refine (name_any _ _).mono ?_
    rintro e w10 ⟨rfl, hb10⟩
    have q1 := hsp
    have q2 := hsp
    have q3 := hsp
    have q4 := hsp
    have q5 := hsp
    have q6 := hsp
    have q7 := hsp
    clear q0 q1 q2 q3 q4 q5 q6 q7
    have HB10 := Lib.hid ((HB9.out).trans (hb10.mono (HB9.out.size)))
    have HE10 := Lib.hid (HE9.out.below hb10 HE9.out.lt)
    have HX10 := Lib.hid (HX9.out.below hb10 HX9.out.lt)
    have HP10 := Lib.hid (HP9.out.below hb10 HP9.out.lt)
    have HN10 := Lib.hid (HN9.out.below hb10 HN9.out.lt)
    have HW10 := Lib.hid (HW9.out.below hb10 HW9.out.lt)
    clear hb10 HE9 HX9 HP9 HN9 HW9
    obtain ⟨q0, q1, q2, q3, q4, q5, q6, q7⟩ := has8 HP10.out
    have hpn := pickN_eq s3
    cases hs : (s3.toList == [116, 114, 117, 101])
    all_goals
      rw [hs] at hpn
      go_wp2_with fail
      refine (pick_int _ _).mono ?_
      rintro e w11 ⟨rfl, hb11⟩
      clear q0 q1 q2 q3 q4 q5 q6 q7
      have HB11 := Lib.hid (HB10.out.trans (hb11.mono HB10.out.size))
      have HN11 := Lib.hid (HN10.out.below hb11 HN10.out.lt)
      have HW11 := Lib.hid (HW10.out.below hb11 HW10.out.lt)
      clear hb11 HN10 HW10
      obtain ⟨q0, q1, q2, q3, q4, q5, q6, q7⟩ := has8 HN11.out
      have qn := HW11.out.cell 0
      simp only [List.getElem?_toArray, List.getElem?_cons_zero] at qn
      go_wp2_with fail
      go_ret
      exact ⟨rfl, HB11.out⟩
end Go.Proofs.Ytjkkalhgbfbcbaa.treeValues
