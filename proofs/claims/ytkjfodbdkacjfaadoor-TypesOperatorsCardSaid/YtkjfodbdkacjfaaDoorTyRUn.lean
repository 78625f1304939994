/-
  The reference's expr at an operator of one.
-/
import Derived.Test.YtkjfodbdkacjfaaDoorTyRBin
namespace Go.Proofs.YtkjfodbdkacjfaaDoor.ty
open Go.ChangeShapes Go.WideShapes Go.ChangeAt Go.RowKit
open Go.Proofs.YtkjfodbdkacjfaaDoor.lx (Has grown_refl grown_put grown_below)
set_option linter.unusedVariables false

set_option maxRecDepth 100000 in
set_option maxHeartbeats 8000000 in
theorem rexpr_un (w : World) (g kb kc : Nat) (en : Value) (op k1 x y a1 m1 : Int) (n1 s1 : ByteArray) (b0 bk1 : Bool) (h : Lk w g en false 0 0) (ho : 1 ≤ op) (ho2 : op ≤ 16)
    (hK : Has w kb 33 #[.int .u8 a1, .int .u8 0, .int .i32 m1, .string s1, .slice none 0 0, .slice none 0 0, .int .i64 0, .int .i64 0]) (hkc : 1 ≤ kc)
    (H0 : ∀ W, Below w.heap.size w W → Calls Tryd.prog 9 #[.pointer (some ⟨g, 0, none⟩), .slice none 0 0, lfV a1 m1 s1] W fun e w' => e = .returned (ty k1 n1) ∧ Below W.heap.size W w')
    (h0 : (inI op == 0) = b0) (hk1 : (k1 == inI op) = bk1) :
    Calls Tryd.prog 9 #[.pointer (some ⟨g, 0, none⟩), .slice none 0 0, .agg #[.int .u8 6, .int .u8 op, .int .i32 0, .string noT, .slice none 0 0, .slice (some ⟨kb, 0, none⟩) 1 kc, .int .i64 x, .int .i64 y]] w (RPost w g en x y (outI op) (!(!b0 && !bk1))) := by
  unfold RPost
  unfold lfV at H0
  have hgl := h.lt
  have hkl := hK.lt
  have HTY := Lib.hid fun W => typesR_any op ho ho2 W
  obtain ⟨i0, hi0, hz0, hz1, hz2⟩ := info_parts ty_info
  have HI0 := Lib.hid hi0
  have HZ0 := Lib.hid hz0
  have HZ1 := Lib.hid hz1
  have HZ2 := Lib.hid hz2
  have H0W := Lib.hid H0
  have HL := Lib.hid h
  have HKW := Lib.hid hK
  have HM : Hid (0 + 1 ≤ maxLen) := Lib.hid (by unfold maxLen; omega)
  have z0 := hK.cell 0
  have z1 := hK.cell 1
  have z2 := hK.cell 2
  have z3 := hK.cell 3
  have z4 := hK.cell 4
  have z5 := hK.cell 5
  have z6 := hK.cell 6
  have z7 := hK.cell 7
  simp only [List.getElem?_toArray, List.getElem?_cons_zero, List.getElem?_cons_succ] at z0 z1 z2 z3 z4 z5 z6 z7
  clear h hK H0 hi0 hz0 hz1 hz2
  go_enter Tryd.func9, Tryd.ntmps9
  go_wp2_with fail
  refine wp_loop_rounds 2 ?_
  rw [rounds_succ]
  go_wp2_with fail
  refine (H0W.out _ (by go_grown)).mono ?_
  rintro e w1 ⟨rfl, hb1⟩
  have hB := (((Below.refl _ w).alloc (Nat.le_refl _) (.cells #[.int .u8 6, .int .u8 op, .int .i32 0, .string noT, .slice none 0 0, .slice (some ⟨kb, 0, none⟩) 1 kc, .int .i64 x, .int .i64 y] 33)).alloc (by simp) (.cells #[.int .u8 0, .string ⟨#[]⟩] 35)).trans (hb1.mono (by simp; omega))
  have hx := ((Has.new w 33 #[.int .u8 6, .int .u8 op, .int .i32 0, .string noT, .slice none 0 0, .slice (some ⟨kb, 0, none⟩) 1 kc, .int .i64 x, .int .i64 y]).alloc (.cells #[.int .u8 0, .string ⟨#[]⟩] 35)).below hb1 (by simp; omega)
  have hr := (Has.new (w.alloc (.cells #[.int .u8 6, .int .u8 op, .int .i32 0, .string noT, .slice none 0 0, .slice (some ⟨kb, 0, none⟩) 1 kc, .int .i64 x, .int .i64 y] 33)) 35 #[.int .u8 0, .string ⟨#[]⟩]).below hb1 (by simp)
  have hs := hb1.size
  simp only [World.size_alloc] at hs hr
  have HB1 := Lib.hid hB
  have HX1 := Lib.hid hx
  have HR1 := Lib.hid hr
  have wl1 : w.heap.size + 1 < w1.heap.size := by omega
  have HBS : Hid (w.heap.size ≤ (w1.alloc (.cells #[.int .u8 k1, .string n1] 35)).heap.size) := Lib.hid (by simp only [World.size_alloc]; omega)
  have HBA := Lib.hid (hB.alloc (by omega) (.cells #[.int .u8 k1, .string n1] 35))
  have HXA := Lib.hid (hx.alloc (.cells #[.int .u8 k1, .string n1] 35))
  have HRA := Lib.hid (hr.alloc (.cells #[.int .u8 k1, .string n1] 35))
  clear hb1 hB hx hr H0W z0 z1 z2 z3 z4 z5 z6 z7
  go_wp2_with (at_builtin; refine wpList_append_lies _ rfl _ _ 64 rfl w.heap.size 35 i0 _ 2 24 Tryd.underlying64 HI0.out HZ0.out HZ1.out HZ2.out rfl (by decide) (.slice none 0 0) 0 [] rfl (World.ownsRow_nil _ _ _ _) ⟨w1.heap.size, 0, none⟩ 1 1 [.int .u8 k1, .string n1] rfl rfl (news_of w1 [.int .u8 k1, .string n1] 35 _ rfl) (one_ty k1 n1) (by decide) HM.out (by decide) HBS.out _ rfl ?_; intro q1 cap1 w2 hown2 hgr2 hat2 hlt2; have hown2 : w2.ownsRow w.heap.size 35 2 (.slice (some ⟨q1, 0, none⟩) 1 cap1) 1 [.int .u8 k1, .string n1] := hown2; have HO2 := Lib.hid hown2; have HG2 := Lib.hid hgr2; have HQ1 := Lib.hid (hat2.resolve_left (by simp [Value.ownBlock])); clear hown2 hgr2 hat2 hlt2)
  have hB := HBA.out.grown HG2.out HBS.out (fun k hk => by cases hk)
  have hx := HXA.out.grown HG2.out (by simp [Value.ownBlock])
  have hr := HRA.out.grown HG2.out (by simp [Value.ownBlock])
  have hs2 := HG2.out.size
  have hq1 := HQ1.out
  simp only [World.size_alloc] at hs2 hq1
  have hq1' : w.heap.size + 1 < q1 := by omega
  clear hq1 HQ1
  have hL := HL.out.below hB hgl
  have z1 := hx.cell 1
  have z0 := hx.cell 0
  have z5 := hx.cell 5
  have l2 := hL.cell 2
  simp only [List.getElem?_toArray, List.getElem?_cons_zero, List.getElem?_cons_succ] at z0 z1 z5 l2
  have HB2 := Lib.hid hB
  have HX2 := Lib.hid hx
  have HR2 := Lib.hid hr
  have wl2 : w.heap.size + 1 < w2.heap.size := by omega
  have gl2 : g < w2.heap.size := by omega
  have wl20 : w.heap.size < w2.heap.size := by omega
  clear hB hx hr hL HBS HBA HXA HRA HG2 HB1 HX1 HR1
  rw [rounds_succ]
  go_wp2_with fail
  refine (HTY.out _).mono ?_
  rintro e w5 ⟨rfl, rfl⟩
  go_wp2_with fail
  have hS : RSt w g en #[.int .u8 6, .int .u8 op, .int .i32 0, .string noT, .slice none 0 0, .slice (some ⟨kb, 0, none⟩) 1 kc, .int .i64 x, .int .i64 y] (.slice (some ⟨q1, 0, none⟩) 1 cap1) 1 [.int .u8 k1, .string n1] x y false (w2.alloc (.cells #[.int .u8 1, .string ⟨#[]⟩] 35)) :=
    ⟨grown_below _ (HB2.out.alloc (by omega) _), (HL.out.below HB2.out hgl).alloc _, HX2.out.alloc _, HR2.out.alloc _, HO2.out.alloc _⟩
  have HS := Lib.hid hS
  clear hS HB2 HX2 HR2 HO2 HL HTY z0 z1 z5 l2
  go_loopw [15] (fun iv wr => ∃ (i : Nat) (f : Bool), i ≤ 1 ∧ iv = .int .i64 i ∧ Hid (RSt w g en #[.int .u8 6, .int .u8 op, .int .i32 0, .string noT, .slice none 0 0, .slice (some ⟨kb, 0, none⟩) 1 kc, .int .i64 x, .int .i64 y] (.slice (some ⟨q1, 0, none⟩) 1 cap1) 1 [.int .u8 k1, .string n1] x y f wr) ∧ (f = if i = 0 then false else (!b0 && !bk1))) (fun iv _ => 1 - (intOf iv).toNat)
  case atStart => exact ⟨0, false, by omega, rfl, HS, rfl⟩
  case round =>
    clear HS
    obtain ⟨i, f, hi, rfl, HW, hf⟩ := hrel
    have hl := HW.out.1.size
    have hx := HW.out.2.2.1
    have c6 := hx.cell 6
    have c7 := hx.cell 7
    have ho := HW.out.2.2.2.2.cells (g := q1) rfl
    have t0 := ho 0 _ rfl
    have t1 := ho 1 _ rfl
    simp only [List.getElem?_toArray, List.getElem?_cons_zero, List.getElem?_cons_succ] at c6 c7
    simp [Addr.add] at t0 t1
    clear hx ho
    rcases (show i = 0 ∨ i = 1 by omega) with rfl | rfl
    · cases b0
      · have n0 : (inI op != 0) = true := by rw [bne, h0]; rfl
        cases bk1
        · have n1' : (k1 != inI op) = true := by rw [bne, hk1]; rfl
          go_wp2_with fail
          go_quiet (fail)
          go_wp2_with fail
          refine ((HW.out.drewN _).fail hgl).mono ?_
          rintro e w6 ⟨rfl, hw6⟩
          have HW6 := Lib.hid hw6
          clear hw6
          go_wp2_with fail
          go_roundw
          case rel => exact ⟨1, true, by omega, rfl, HW6, rfl⟩
          case measure => simp [intOf]
        · have n1' : (k1 != inI op) = false := by rw [bne, hk1]; rfl
          go_wp2_with fail
          go_quiet (fail)
          go_wp2_with fail
          go_roundw
          case rel => exact ⟨1, false, by omega, rfl, Lib.hid (by subst hf; exact HW.out.drewN _), rfl⟩
          case measure => simp [intOf]
      · have n0 : (inI op != 0) = false := by rw [bne, h0]; rfl
        go_wp2_with fail
        go_quiet (fail)
        go_wp2_with fail
        go_roundw
        case rel => exact ⟨1, false, by omega, rfl, Lib.hid (by subst hf; exact HW.out.drewN _), rfl⟩
        case measure => simp [intOf]
    · have hr := HW.out.2.2.2.1
      have R := Lib.hid (fun v0 v1 => selfs2 hr v0 v1)
      have rc0 := hr.cell 0
      have rc1 := hr.cell 1
      have rf := fun i => hr.free i
      simp only [List.getElem?_toArray, List.getElem?_cons_zero, List.getElem?_cons_succ] at rc0 rc1
      clear hr t0 t1 c6 c7
      go_wp2_with fail
      (try simp only [Exit.inBlock, Exit.then])
      refine bodyPost_ret (by simp [results, Tryd.results9, go_sem, R.out]; try rfl) rfl ?_
      have hf2 := hf.trans (show _ = (!b0 && !bk1) by rw [if_neg (by decide)])
      have hlk := (HW.out.2.1.put_far 0 (.int .u8 (outI op)) (g' := w.heap.size + 1) (by omega)).put_far 1 (.string noT) (g' := w.heap.size + 1) (by omega)
      have hgw := grown_farR (grown_farR HW.out.1 (p := ⟨w.heap.size + 1, 0, none⟩) (by simp) (.int .u8 (outI op))) (p := ⟨w.heap.size + 1, 1, none⟩) (by simp) (.string noT)
      refine ⟨rfl, hgw, fun h => ?_, fun h => ?_⟩
      · rw [← hf2] at h
        cases f
        · exact hlk
        · cases h
      · rw [← hf2] at h
        cases f
        · cases h
        · exact hlk
end Go.Proofs.YtkjfodbdkacjfaaDoor.ty
