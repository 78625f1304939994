/-
  The reference's expr at an operator of two.
-/
import Derived.Test.YtkjfodbdkacjfaaDoorTyRLeaf
import Derived.Deep.AppendLies
import Derived.OwnWalk
namespace Go.Proofs.YtkjfodbdkacjfaaDoor.ty
open Go.ChangeShapes Go.WideShapes Go.ChangeAt Go.RowKit
open Go.Proofs.YtkjfodbdkacjfaaDoor.lx (Has grown_refl grown_put grown_below)
set_option linter.unusedVariables false

theorem ty_info : (Tryd.prog.info? 35).map (fun i => (i.zero, i.size, i.bytes)) = some (some (.agg #[.int .u8 0, .string ⟨#[]⟩]), 2, 24) := by kernel_rfl
theorem news_of (W : World) (cs : List Value) (t : TypeId) (b : Nat) (hb : b = W.heap.size) : ∀ j u, cs[j]? = some u → (W.alloc (.cells cs.toArray t)).cell? ((⟨b, 0, none⟩ : Addr).add j) = some u := by
  intro j u hj
  subst hb
  have := (Has.new W t cs.toArray).cell j
  rw [add_plain, Nat.zero_add, this]
  simpa using hj
theorem one_ty (k : Int) (n : ByteArray) : ∀ u ∈ ([.int .u8 k, .string n] : List Value), u.oneCell' = true := by
  intro u hu
  simp only [List.mem_cons, List.not_mem_nil, or_false] at hu
  rcases hu with rfl | rfl <;> rfl

/-- what the look's expr leaves at an operator -/
def RPost (w : World) (g : Nat) (en : Value) (x y t : Int) (ok : Bool) (e : Ending) (w' : World) : Prop :=
  e = .returned (ty t noT) ∧ w.grownBy w' (some g) ∧ (ok = true → Lk w' g en false 0 0) ∧ (ok = false → Lk w' g en true x y)

theorem grown_farR {w w' : World} {row : Option Nat} (h : w.grownBy w' row) {p : Addr} (hp : w.heap.size ≤ p.block) (v : Value) : w.grownBy (w'.setCell p v) row :=
  ⟨h.os, h.tape, h.output, by simp [World.setCell]; exact h.size, fun k hk hne => (Below.heap_setCell w' p v k (by omega)).trans (h.block k hk hne)⟩

/-- what lies while the types are looked at: the look, the expression, the result, the row of types -/
def RSt (w : World) (g : Nat) (en : Value) (ex : Array Value) (row : Value) (n : Nat) (ts : List Value) (x y : Int) (f : Bool) (wr : World) : Prop :=
  w.grownBy wr (some g) ∧ Lk wr g en f (if f = true then x else 0) (if f = true then y else 0) ∧ Has wr w.heap.size 33 ex ∧ Has wr (w.heap.size + 1) 35 #[.int .u8 0, .string ⟨#[]⟩] ∧ wr.ownsRow w.heap.size 35 2 row n ts
theorem RSt.drewN {w : World} {g : Nat} {en : Value} {ex : Array Value} {row : Value} {n : Nat} {ts : List Value} {x y : Int} {f : Bool} {wr : World} (h : RSt w g en ex row n ts x y f wr) (k : Nat) : RSt w g en ex row n ts x y f (wr.drewN k) :=
  ⟨⟨h.1.os, h.1.tape, h.1.output, h.1.size, h.1.block⟩, h.2.1, h.2.2.1, h.2.2.2.1, h.2.2.2.2⟩
theorem RSt.fail {w : World} {g : Nat} {en : Value} {ex : Array Value} {row : Value} {n : Nat} {ts : List Value} {x y : Int} {f : Bool} {wr : World} (h : RSt w g en ex row n ts x y f wr) (hg : g < w.heap.size) :
    Calls Tryd.prog 16 #[.pointer (some ⟨g, 0, none⟩), .agg #[.int .i64 x, .int .i64 y]] wr fun e w' => e = .returned (.tuple #[]) ∧ RSt w g en ex row n ts x y true w' := by
  obtain ⟨h1, h2, h3, h4, h5⟩ := h
  have key : Calls Tryd.prog 16 #[.pointer (some ⟨g, 0, none⟩), .agg #[.int .i64 x, .int .i64 y]] wr fun e w' => e = .returned (.tuple #[]) ∧ Lk w' g en true x y ∧ wr.grownBy w' (some g) := by
    cases f
    · exact fail_new wr g en x y _ _ h2
    · exact fail_old wr g en x y x y h2
  refine key.mono ?_
  rintro e w' ⟨rfl, k1, k2⟩
  refine ⟨rfl, ⟨k2.os.trans h1.os, k2.tape.trans h1.tape, k2.output.trans h1.output, Nat.le_trans h1.size k2.size, fun k hk hne => (k2.block k (Nat.lt_of_lt_of_le hk h1.size) hne).trans (h1.block k hk hne)⟩, k1, h3.grown k2 (by simp; omega), h4.grown k2 (by simp; omega), h5.kept k2 ?_⟩
  rcases ho : row.ownBlock with _ | b
  · exact .inl rfl
  · right
    have := (h5.lt b ho).1
    simp; omega

set_option maxRecDepth 100000 in
set_option maxHeartbeats 8000000 in
theorem rexpr_bin (w : World) (g kb kc : Nat) (en : Value) (op k1 k2 x y a1 a2 m1 m2 : Int) (n1 n2 s1 s2 : ByteArray) (b0 bk1 bk2 c1 c2 : Bool) (h : Lk w g en false 0 0) (ho : 1 ≤ op) (ho2 : op ≤ 16)
    (hK : Has w kb 33 #[.int .u8 a1, .int .u8 0, .int .i32 m1, .string s1, .slice none 0 0, .slice none 0 0, .int .i64 0, .int .i64 0, .int .u8 a2, .int .u8 0, .int .i32 m2, .string s2, .slice none 0 0, .slice none 0 0, .int .i64 0, .int .i64 0]) (hkc : 2 ≤ kc)
    (H0 : ∀ W, Below w.heap.size w W → Calls Tryd.prog 9 #[.pointer (some ⟨g, 0, none⟩), .slice none 0 0, lfV a1 m1 s1] W fun e w' => e = .returned (ty k1 n1) ∧ Below W.heap.size W w')
    (H1 : ∀ W, Below w.heap.size w W → Calls Tryd.prog 9 #[.pointer (some ⟨g, 0, none⟩), .slice none 0 0, lfV a2 m2 s2] W fun e w' => e = .returned (ty k2 n2) ∧ Below W.heap.size W w')
    (h0 : (inI op == 0) = b0) (hk1 : (k1 == inI op) = bk1) (hk2 : (k2 == inI op) = bk2) (hc1 : (k2 == k1) = c1) (hc2 : (n2.toList == n1.toList) = c2) :
    Calls Tryd.prog 9 #[.pointer (some ⟨g, 0, none⟩), .slice none 0 0, .agg #[.int .u8 7, .int .u8 op, .int .i32 0, .string noT, .slice none 0 0, .slice (some ⟨kb, 0, none⟩) 2 kc, .int .i64 x, .int .i64 y]] w (RPost w g en x y (outI op) (!((!b0 && !bk1) || ((!b0 && !bk2) || !(c1 && c2))))) := by
  unfold RPost
  unfold lfV at H0 H1
  have hgl := h.lt
  have hkl := hK.lt
  have HTY := Lib.hid fun W => typesR_any op ho ho2 W
  obtain ⟨i0, hi0, hz0, hz1, hz2⟩ := info_parts ty_info
  have HI0 := Lib.hid hi0
  have HZ0 := Lib.hid hz0
  have HZ1 := Lib.hid hz1
  have HZ2 := Lib.hid hz2
  have H0W := Lib.hid H0
  have H1W := Lib.hid H1
  have HL := Lib.hid h
  have HKW := Lib.hid hK
  have HM : Hid (0 + 1 ≤ maxLen) := Lib.hid (by unfold maxLen; omega)
  have HM2 : Hid (1 + 1 ≤ maxLen) := Lib.hid (by unfold maxLen; omega)
  have z0 := hK.cell 0
  have z1 := hK.cell 1
  have z2 := hK.cell 2
  have z3 := hK.cell 3
  have z4 := hK.cell 4
  have z5 := hK.cell 5
  have z6 := hK.cell 6
  have z7 := hK.cell 7
  simp only [List.getElem?_toArray, List.getElem?_cons_zero, List.getElem?_cons_succ] at z0 z1 z2 z3 z4 z5 z6 z7
  clear h hK H0 H1 hi0 hz0 hz1 hz2
  go_enter Tryd.func9, Tryd.ntmps9
  go_wp2_with fail
  refine wp_loop_rounds 3 ?_
  rw [rounds_succ]
  go_wp2_with fail
  refine (H0W.out _ (by go_grown)).mono ?_
  rintro e w1 ⟨rfl, hb1⟩
  have hB := (((Below.refl _ w).alloc (Nat.le_refl _) (.cells #[.int .u8 7, .int .u8 op, .int .i32 0, .string noT, .slice none 0 0, .slice (some ⟨kb, 0, none⟩) 2 kc, .int .i64 x, .int .i64 y] 33)).alloc (by simp) (.cells #[.int .u8 0, .string ⟨#[]⟩] 35)).trans (hb1.mono (by simp; omega))
  have hx := ((Has.new w 33 #[.int .u8 7, .int .u8 op, .int .i32 0, .string noT, .slice none 0 0, .slice (some ⟨kb, 0, none⟩) 2 kc, .int .i64 x, .int .i64 y]).alloc (.cells #[.int .u8 0, .string ⟨#[]⟩] 35)).below hb1 (by simp; omega)
  have hr := (Has.new (w.alloc (.cells #[.int .u8 7, .int .u8 op, .int .i32 0, .string noT, .slice none 0 0, .slice (some ⟨kb, 0, none⟩) 2 kc, .int .i64 x, .int .i64 y] 33)) 35 #[.int .u8 0, .string ⟨#[]⟩]).below hb1 (by simp)
  have hs := hb1.size
  simp only [World.size_alloc] at hs hr
  have HB1 := Lib.hid hB
  have HX1 := Lib.hid hx
  have HR1 := Lib.hid hr
  have wl1 : w.heap.size + 1 < w1.heap.size := by omega
  have HBS : Hid (w.heap.size ≤ (w1.alloc (.cells #[.int .u8 k1, .string n1] 35)).heap.size) := Lib.hid (by simp only [World.size_alloc]; omega)
  have HBA := Lib.hid (hB.alloc (by omega) (.cells #[.int .u8 k1, .string n1] 35))
  have HXA := Lib.hid (hx.alloc (.cells #[.int .u8 k1, .string n1] 35))
  have HRA := Lib.hid (hr.alloc (.cells #[.int .u8 k1, .string n1] 35))
  clear hb1 hB hx hr H0W z0 z1 z2 z3 z4 z5 z6 z7
  go_wp2_with (at_builtin; refine wpList_append_lies _ rfl _ _ 64 rfl w.heap.size 35 i0 _ 2 24 Tryd.underlying64 HI0.out HZ0.out HZ1.out HZ2.out rfl (by decide) (.slice none 0 0) 0 [] rfl (World.ownsRow_nil _ _ _ _) ⟨w1.heap.size, 0, none⟩ 1 1 [.int .u8 k1, .string n1] rfl rfl (news_of w1 [.int .u8 k1, .string n1] 35 _ rfl) (one_ty k1 n1) (by decide) HM.out (by decide) HBS.out _ rfl ?_; intro q1 cap1 w2 hown2 hgr2 hat2 hlt2; have hown2 : w2.ownsRow w.heap.size 35 2 (.slice (some ⟨q1, 0, none⟩) 1 cap1) 1 [.int .u8 k1, .string n1] := hown2; have HO2 := Lib.hid hown2; have HG2 := Lib.hid hgr2; have HQ1 := Lib.hid (hat2.resolve_left (by simp [Value.ownBlock])); clear hown2 hgr2 hat2 hlt2)
  have hB := HBA.out.grown HG2.out HBS.out (fun k hk => by cases hk)
  have hx := HXA.out.grown HG2.out (by simp [Value.ownBlock])
  have hr := HRA.out.grown HG2.out (by simp [Value.ownBlock])
  have hs2 := HG2.out.size
  have hq1 := HQ1.out
  simp only [World.size_alloc] at hs2 hq1
  have hq1' : w.heap.size + 1 < q1 := by omega
  clear hq1 HQ1
  have hk2' := HKW.out.below hB hkl
  have z5 := hx.cell 5
  have y0 := hk2'.cell 8
  have y1 := hk2'.cell 9
  have y2 := hk2'.cell 10
  have y3 := hk2'.cell 11
  have y4 := hk2'.cell 12
  have y5 := hk2'.cell 13
  have y6 := hk2'.cell 14
  have y7 := hk2'.cell 15
  simp only [List.getElem?_toArray, List.getElem?_cons_zero, List.getElem?_cons_succ] at z5 y0 y1 y2 y3 y4 y5 y6 y7
  have HB2 := Lib.hid hB
  have HX2 := Lib.hid hx
  have HR2 := Lib.hid hr
  have wl2 : w.heap.size + 1 < w2.heap.size := by omega
  clear hB hx hr hk2' HB1 HX1 HR1 HBS HBA HXA HRA HG2
  rw [rounds_succ]
  go_wp2_with fail
  refine (H1W.out _ HB2.out).mono ?_
  rintro e w3 ⟨rfl, hb3⟩
  have hB := HB2.out.trans (hb3.mono HB2.out.size)
  have hx := HX2.out.below hb3 (by omega)
  have hr := HR2.out.below hb3 (by omega)
  have hs3 := hb3.size
  have ho3 := HO2.out.kept (grown_below none hb3) (Classical.em _)
  have HO3 := Lib.hid ho3
  have wl3 : w.heap.size + 1 < w3.heap.size := by omega
  have HBS : Hid (w.heap.size ≤ (w3.alloc (.cells #[.int .u8 k2, .string n2] 35)).heap.size) := Lib.hid (by simp only [World.size_alloc]; omega)
  have HBA := Lib.hid (hB.alloc (by omega) (.cells #[.int .u8 k2, .string n2] 35))
  have HXA := Lib.hid (hx.alloc (.cells #[.int .u8 k2, .string n2] 35))
  have HRA := Lib.hid (hr.alloc (.cells #[.int .u8 k2, .string n2] 35))
  clear hb3 hB hx hr ho3 H1W HB2 HX2 HR2 HO2 z5 y0 y1 y2 y3 y4 y5 y6 y7
  go_wp2_with (at_builtin; refine wpList_append_lies _ rfl _ _ 64 rfl w.heap.size 35 i0 _ 2 24 Tryd.underlying64 HI0.out HZ0.out HZ1.out HZ2.out rfl (by decide) _ _ _ rfl (HO3.out.alloc _) ⟨w3.heap.size, 0, none⟩ 1 1 [.int .u8 k2, .string n2] rfl rfl (news_of w3 [.int .u8 k2, .string n2] 35 _ rfl) (one_ty k2 n2) (by decide) HM2.out (by decide) HBS.out _ rfl ?_; intro q2 cap2 w4 hown4 hgr4 hat4 hlt4; have hown4 : w4.ownsRow w.heap.size 35 2 (.slice (some ⟨q2, 0, none⟩) 2 cap2) 2 [.int .u8 k1, .string n1, .int .u8 k2, .string n2] := hown4; have HO4 := Lib.hid hown4; have HG4 := Lib.hid hgr4; have HAT4 := Lib.hid hat4; clear hown4 hgr4 hat4 hlt4)
  have hB := HBA.out.grown HG4.out HBS.out (fun k hk => by have hk : some q1 = some k := hk; injection hk; omega)
  have hx := HXA.out.grown HG4.out (by show some w.heap.size ≠ some q1; simp; omega)
  have hr := HRA.out.grown HG4.out (by show some (w.heap.size + 1) ≠ some q1; simp; omega)
  have hs4 := HG4.out.size
  have hq2 : w.heap.size + 1 < q2 := by
    rcases HAT4.out with h | h
    · have h : some q1 = some q2 := h
      injection h; omega
    · simp only [World.size_alloc] at h; omega
  simp only [World.size_alloc] at hs4
  have hL := HL.out.below hB hgl
  have z1 := hx.cell 1
  have z0 := hx.cell 0
  have z5 := hx.cell 5
  have l2 := hL.cell 2
  simp only [List.getElem?_toArray, List.getElem?_cons_zero, List.getElem?_cons_succ] at z0 z1 z5 l2
  have HB4 := Lib.hid hB
  have HX4 := Lib.hid hx
  have HR4 := Lib.hid hr
  have wl4 : w.heap.size + 1 < w4.heap.size := by omega
  have gl4 : g < w4.heap.size := by omega
  have wl40 : w.heap.size < w4.heap.size := by omega
  clear hB hx hr hL HBS HBA HXA HRA HG4 HO3 HAT4
  rw [rounds_succ]
  go_wp2_with fail
  refine (HTY.out _).mono ?_
  rintro e w5 ⟨rfl, rfl⟩
  go_wp2_with fail
  have hS : RSt w g en #[.int .u8 7, .int .u8 op, .int .i32 0, .string noT, .slice none 0 0, .slice (some ⟨kb, 0, none⟩) 2 kc, .int .i64 x, .int .i64 y] (.slice (some ⟨q2, 0, none⟩) 2 cap2) 2 [.int .u8 k1, .string n1, .int .u8 k2, .string n2] x y false (w4.alloc (.cells #[.int .u8 1, .string ⟨#[]⟩] 35)) :=
    ⟨grown_below _ (HB4.out.alloc (by omega) _), (HL.out.below HB4.out hgl).alloc _, HX4.out.alloc _, HR4.out.alloc _, HO4.out.alloc _⟩
  have HS := Lib.hid hS
  clear hS HB4 HX4 HR4 HO4 HL HTY z0 z1 z5 l2
  go_loopw [15] (fun iv wr => ∃ (i : Nat) (f : Bool), i ≤ 2 ∧ iv = .int .i64 i ∧ Hid (RSt w g en #[.int .u8 7, .int .u8 op, .int .i32 0, .string noT, .slice none 0 0, .slice (some ⟨kb, 0, none⟩) 2 kc, .int .i64 x, .int .i64 y] (.slice (some ⟨q2, 0, none⟩) 2 cap2) 2 [.int .u8 k1, .string n1, .int .u8 k2, .string n2] x y f wr) ∧ (f = if i = 0 then false else if i = 1 then (!b0 && !bk1) else ((!b0 && !bk1) || ((!b0 && !bk2) || !(c1 && c2))))) (fun iv _ => 2 - (intOf iv).toNat)
  case atStart => exact ⟨0, false, by omega, rfl, HS, rfl⟩
  case round =>
    clear HS
    obtain ⟨i, f, hi, rfl, HW, hf⟩ := hrel
    have hl := HW.out.1.size
    have hx := HW.out.2.2.1
    have c6 := hx.cell 6
    have c7 := hx.cell 7
    have ho := HW.out.2.2.2.2.cells (g := q2) rfl
    have t0 := ho 0 _ rfl
    have t1 := ho 1 _ rfl
    have t2 := ho 2 _ rfl
    have t3 := ho 3 _ rfl
    simp only [List.getElem?_toArray, List.getElem?_cons_zero, List.getElem?_cons_succ] at c6 c7
    simp [Addr.add] at t0 t1 t2 t3
    clear hx ho
    rcases (show i = 0 ∨ i = 1 ∨ i = 2 by omega) with rfl | rfl | rfl
    · clear t2 t3 hk2 hc1 hc2
      cases b0
      · have n0 : (inI op != 0) = true := by rw [bne, h0]; rfl
        cases bk1
        · have n1' : (k1 != inI op) = true := by rw [bne, hk1]; rfl
          go_wp2_with fail
          go_quiet (fail)
          go_wp2_with fail
          refine ((HW.out.drewN _).fail hgl).mono ?_
          rintro e w6 ⟨rfl, hw6⟩
          have HW6 := Lib.hid hw6
          clear hw6
          go_wp2_with fail
          go_roundw
          case rel => exact ⟨1, true, by omega, rfl, HW6, rfl⟩
          case measure => simp [intOf]
        · have n1' : (k1 != inI op) = false := by rw [bne, hk1]; rfl
          go_wp2_with fail
          go_quiet (fail)
          go_wp2_with fail
          go_roundw
          case rel => exact ⟨1, false, by omega, rfl, Lib.hid (by subst hf; exact HW.out.drewN _), rfl⟩
          case measure => simp [intOf]
      · have n0 : (inI op != 0) = false := by rw [bne, h0]; rfl
        go_wp2_with fail
        go_quiet (fail)
        go_wp2_with fail
        go_roundw
        case rel => exact ⟨1, false, by omega, rfl, Lib.hid (by subst hf; exact HW.out.drewN _), rfl⟩
        case measure => simp [intOf]
    · clear hk1
      cases b0
      · have n0 : (inI op != 0) = true := by rw [bne, h0]; rfl
        cases bk2
        · have n1' : (k2 != inI op) = true := by rw [bne, hk2]; rfl
          go_wp2_with fail
          go_quiet (fail)
          go_wp2_with fail
          refine ((HW.out.drewN _).fail hgl).mono ?_
          rintro e w6 ⟨rfl, hw6⟩
          have HW6 := Lib.hid hw6
          clear hw6
          go_wp2_with fail
          go_roundw
          case rel => exact ⟨2, true, by omega, rfl, HW6, by simp⟩
          case measure => simp [intOf]
        · have n1' : (k2 != inI op) = false := by rw [bne, hk2]; rfl
          cases c1 <;> cases c2
          case true.true =>
            go_wp2_with fail
            go_quiet (fail)
            go_wp2_with fail
            go_roundw
            case rel => exact ⟨2, f, by omega, rfl, Lib.hid (HW.out.drewN _), by rw [hf]; simp⟩
            case measure => simp [intOf]
          all_goals
            go_wp2_with fail
            go_quiet (fail)
            go_wp2_with fail
            refine ((HW.out.drewN _).fail hgl).mono ?_
            rintro e w6 ⟨rfl, hw6⟩
            have HW6 := Lib.hid hw6
            clear hw6
            go_wp2_with fail
            go_roundw
            case rel => exact ⟨2, true, by omega, rfl, HW6, by simp⟩
            case measure => simp [intOf]
      · have n0 : (inI op != 0) = false := by rw [bne, h0]; rfl
        cases c1 <;> cases c2
        case true.true =>
          go_wp2_with fail
          go_quiet (fail)
          go_wp2_with fail
          go_roundw
          case rel => exact ⟨2, f, by omega, rfl, Lib.hid (HW.out.drewN _), by rw [hf]; simp⟩
          case measure => simp [intOf]
        all_goals
          go_wp2_with fail
          go_quiet (fail)
          go_wp2_with fail
          refine ((HW.out.drewN _).fail hgl).mono ?_
          rintro e w6 ⟨rfl, hw6⟩
          have HW6 := Lib.hid hw6
          clear hw6
          go_wp2_with fail
          go_roundw
          case rel => exact ⟨2, true, by omega, rfl, HW6, by simp⟩
          case measure => simp [intOf]
    · have hr := HW.out.2.2.2.1
      have R := Lib.hid (fun v0 v1 => selfs2 hr v0 v1)
      have rc0 := hr.cell 0
      have rc1 := hr.cell 1
      have rf := fun i => hr.free i
      simp only [List.getElem?_toArray, List.getElem?_cons_zero, List.getElem?_cons_succ] at rc0 rc1
      clear hr t0 t1 t2 t3 c6 c7
      go_wp2_with fail
      (try simp only [Exit.inBlock, Exit.then])
      refine bodyPost_ret (by simp [results, Tryd.results9, go_sem, R.out]; try rfl) rfl ?_
      have hf2 := hf.trans (show _ = ((!b0 && !bk1) || ((!b0 && !bk2) || !(c1 && c2))) by rw [if_neg (by decide), if_neg (by decide)])
      have hlk := (HW.out.2.1.put_far 0 (.int .u8 (outI op)) (g' := w.heap.size + 1) (by omega)).put_far 1 (.string noT) (g' := w.heap.size + 1) (by omega)
      have hgw := grown_farR (grown_farR HW.out.1 (p := ⟨w.heap.size + 1, 0, none⟩) (by simp) (.int .u8 (outI op))) (p := ⟨w.heap.size + 1, 1, none⟩) (by simp) (.string noT)
      refine ⟨rfl, hgw, fun h => ?_, fun h => ?_⟩
      · rw [← hf2] at h
        cases f
        · exact hlk
        · cases h
      · rw [← hf2] at h
        cases f
        · cases h
        · exact hlk
end Go.Proofs.YtkjfodbdkacjfaaDoor.ty
