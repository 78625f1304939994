/-
  For every operator of one or two and any of four constants (a number, a truth, a constructor of each of two types), types.Expr and the document's own answer agree: the type, or an error of the kind 'typed'. Condition: errors.errorType and the package's two types, types.boolean and types.integer, hold at the call's begin what the program's text lays; the card ties the three to the text. The walk.
-/
import Derived.Test.YtkjfodbdkacjfaaDoorRows
import Derived.Test.YtkjfodbdkacjfaaDoorTyFour
import Derived.WalkKit
import Derived.ProofKit
import Derived.OpenShut
import Derived.Below
import Derived.Lib.Hide
import Derived.Outline
import Derived.Deep.LoopGhost
namespace Go.Proofs.YtkjfodbdkacjfaaDoor.typesOperators
open Go.ChangeShapes Go.WideShapes Go.ChangeAt Go.RowKit
set_option linter.unusedVariables false

open Go.Proofs.YtkjfodbdkacjfaaDoor.lx (Has)
theorem ctC_at (i k : Nat) (hi : i < 4) (hk : k < 8) : ((ty.ctC 0 ++ ty.ctC 1 ++ ty.ctC 2 ++ ty.ctC 3).toArray)[i * 8 + k]? = (ty.ctC i)[k]? := by
  rcases (show i = 0 ∨ i = 1 ∨ i = 2 ∨ i = 3 by omega) with rfl | rfl | rfl | rfl <;> rcases (show k = 0 ∨ k = 1 ∨ k = 2 ∨ k = 3 ∨ k = 4 ∨ k = 5 ∨ k = 6 ∨ k = 7 by omega) with rfl | rfl | rfl | rfl | rfl | rfl | rfl | rfl <;> rfl
set_option maxRecDepth 100000 in
set_option maxHeartbeats 8000000 in

theorem walk (a0 : Int) (a1 : Int) (a2 : Int) (w0 : (Lit.int .u8 a0).wf = true) (w1 : (Lit.int .u8 a1).wf = true) (w2 : (Lit.int .u8 a2).wf = true) (w : World) (hT : ty.Laid w) :
    Calls Tryd.prog 3 #[.int .u8 a0, .int .u8 a1, .int .u8 a2] w fun e w' => e = .returned (.bool true) ∧ Below w.heap.size w w' := by
  have ⟨p1, p2⟩ := bounds_u8 w0
  have ⟨p3, p4⟩ := bounds_u8 w1
  have ⟨p5, p6⟩ := bounds_u8 w2
  clear w0 w1 w2
  obtain ⟨n0, rfl⟩ := Int.eq_ofNat_of_zero_le p1
  obtain ⟨n1, rfl⟩ := Int.eq_ofNat_of_zero_le p3
  obtain ⟨n2, rfl⟩ := Int.eq_ofNat_of_zero_le p5
  have ho : n0 % 14 < 14 := Nat.mod_lt _ (by decide)
  have hu : n0 % 2 < 2 := Nat.mod_lt _ (by decide)
  have hi : n1 % 4 < 4 := Nat.mod_lt _ (by decide)
  have hj : n2 % 4 < 4 := Nat.mod_lt _ (by decide)
  have HT := Lib.hid hT
  clear hT
  obtain ⟨lc, hlc⟩ : ∃ lc : Array Value, lc = (ty.ctC 0 ++ ty.ctC 1 ++ ty.ctC 2 ++ ty.ctC 3).toArray := ⟨_, rfl⟩
  obtain ⟨W2, hW2⟩ : ∃ W2, W2 = ((((w.alloc (.cells #[.string ⟨#[65]⟩] 9)).alloc (.cells #[.string ⟨#[66]⟩] 9)).alloc (.cells #[.string ⟨#[116]⟩, .slice (some ⟨w.heap.size, 0, none⟩) 1 1, .int .i64 0, .int .i64 0, .string ⟨#[117]⟩, .slice (some ⟨w.heap.size + 1, 0, none⟩) 1 1, .int .i64 0, .int .i64 0] 26)).alloc (.cells #[.slice (some ⟨w.heap.size + 1 + 1, 0, none⟩) 2 2, .slice none 0 0] 30)).alloc (.cells lc 33) := ⟨_, rfl⟩
  have hB2 : Below w.heap.size w W2 := by subst hW2; go_grown
  have hs2 : W2.heap.size = w.heap.size + 1 + 1 + 1 + 1 + 1 := by subst hW2; simp
  have hA := Has.new w 9 #[.string ⟨#[65]⟩]
  have hBB := Has.new (w.alloc (.cells #[.string ⟨#[65]⟩] 9)) 9 #[.string ⟨#[66]⟩]
  have hEn := Has.new ((w.alloc (.cells #[.string ⟨#[65]⟩] 9)).alloc (.cells #[.string ⟨#[66]⟩] 9)) 26 #[.string ⟨#[116]⟩, .slice (some ⟨w.heap.size, 0, none⟩) 1 1, .int .i64 0, .int .i64 0, .string ⟨#[117]⟩, .slice (some ⟨w.heap.size + 1, 0, none⟩) 1 1, .int .i64 0, .int .i64 0]
  have hP := Has.new (((w.alloc (.cells #[.string ⟨#[65]⟩] 9)).alloc (.cells #[.string ⟨#[66]⟩] 9)).alloc (.cells #[.string ⟨#[116]⟩, .slice (some ⟨w.heap.size, 0, none⟩) 1 1, .int .i64 0, .int .i64 0, .string ⟨#[117]⟩, .slice (some ⟨w.heap.size + 1, 0, none⟩) 1 1, .int .i64 0, .int .i64 0] 26)) 30 #[.slice (some ⟨w.heap.size + 1 + 1, 0, none⟩) 2 2, .slice none 0 0]
  have hLc := Has.new ((((w.alloc (.cells #[.string ⟨#[65]⟩] 9)).alloc (.cells #[.string ⟨#[66]⟩] 9)).alloc (.cells #[.string ⟨#[116]⟩, .slice (some ⟨w.heap.size, 0, none⟩) 1 1, .int .i64 0, .int .i64 0, .string ⟨#[117]⟩, .slice (some ⟨w.heap.size + 1, 0, none⟩) 1 1, .int .i64 0, .int .i64 0] 26)).alloc (.cells #[.slice (some ⟨w.heap.size + 1 + 1, 0, none⟩) 2 2, .slice none 0 0] 30)) 33 lc
  simp only [World.size_alloc] at hA hBB hEn hP hLc
  have hE2 : ty.Env W2 (w.heap.size + 1 + 1) := by
    subst hW2
    exact ⟨_, _, (hEn.alloc _).alloc _, (((hA.alloc _).alloc _).alloc _).alloc _, ((hBB.alloc _).alloc _).alloc _⟩
  have hP2 : Has W2 (w.heap.size + 1 + 1 + 1) 30 #[.slice (some ⟨w.heap.size + 1 + 1, 0, none⟩) 2 2, .slice none 0 0] := by subst hW2; exact hP.alloc _
  have hL2 : Has W2 (w.heap.size + 1 + 1 + 1 + 1) 33 lc := by subst hW2; exact hLc
  clear hA hBB hEn hP hLc
  have hx : ∀ m k, m < 4 → k < 8 → W2.cell? ⟨w.heap.size + 1 + 1 + 1 + 1, m * 8 + k, none⟩ = (ty.ctC m)[k]? := fun m k hm hk => (hL2.cell _).trans (by rw [hlc]; exact ctC_at m k hm hk)
  have i0 := hx (n1 % 4) 0 hi (by decide)
  have i1 := hx (n1 % 4) 1 hi (by decide)
  have i2 := hx (n1 % 4) 2 hi (by decide)
  have i3 := hx (n1 % 4) 3 hi (by decide)
  have i4 := hx (n1 % 4) 4 hi (by decide)
  have i5 := hx (n1 % 4) 5 hi (by decide)
  have i6 := hx (n1 % 4) 6 hi (by decide)
  have i7 := hx (n1 % 4) 7 hi (by decide)
  have j0 := hx (n2 % 4) 0 hj (by decide)
  have j1 := hx (n2 % 4) 1 hj (by decide)
  have j2 := hx (n2 % 4) 2 hj (by decide)
  have j3 := hx (n2 % 4) 3 hj (by decide)
  have j4 := hx (n2 % 4) 4 hj (by decide)
  have j5 := hx (n2 % 4) 5 hj (by decide)
  have j6 := hx (n2 % 4) 6 hj (by decide)
  have j7 := hx (n2 % 4) 7 hj (by decide)
  simp only [ty.ctC, List.getElem?_cons_zero, List.getElem?_cons_succ, Nat.add_zero] at i0 i1 i2 i3 i4 i5 i6 i7 j0 j1 j2 j3 j4 j5 j6 j7
  have pc0 := hP2.cell 0
  have pc1 := hP2.cell 1
  simp only [List.getElem?_toArray, List.getElem?_cons_zero, List.getElem?_cons_succ] at pc0 pc1
  have wl3 : w.heap.size + 1 + 1 + 1 < W2.heap.size := by omega
  have wl4 : w.heap.size + 1 + 1 + 1 + 1 < W2.heap.size := by omega
  obtain ⟨c1, hc1⟩ : ∃ c, c = ty.ct (n1 % 4) := ⟨_, rfl⟩
  obtain ⟨c2, hc2⟩ : ∃ c, c = ty.ct (n2 % 4) := ⟨_, rfl⟩
  rw [← hc1] at i0 i2 i3
  rw [← hc2] at j0 j2 j3
  have HC1 := Lib.hid hc1
  have HC2 := Lib.hid hc2
  subst hlc
  have HW2 := Lib.hid hW2
  have HB2 := Lib.hid hB2
  have HE2 := Lib.hid hE2
  have HP2 := Lib.hid hP2
  clear hW2 hB2 hE2 hP2 hL2 hx hc1 hc2
  go_enter Tryd.func3, Tryd.ntmps3
  go_wp2_with fail
  rw [show ((((w.alloc (.cells #[.string ⟨#[65]⟩] 9)).alloc (.cells #[.string ⟨#[66]⟩] 9)).alloc (.cells #[.string ⟨#[116]⟩, .slice (some ⟨w.heap.size, 0, none⟩) 1 1, .int .i64 0, .int .i64 0, .string ⟨#[117]⟩, .slice (some ⟨w.heap.size + 1, 0, none⟩) 1 1, .int .i64 0, .int .i64 0] 26)).alloc (.cells #[.slice (some ⟨w.heap.size + 1 + 1, 0, none⟩) 2 2, .slice none 0 0] 30)).alloc (.cells #[.int .u8 1, .int .u8 0, .int .i32 3, .string ⟨#[]⟩, .slice none 0 0, .slice none 0 0, .int .i64 0, .int .i64 0, .int .u8 2, .int .u8 0, .int .i32 1, .string ⟨#[]⟩, .slice none 0 0, .slice none 0 0, .int .i64 0, .int .i64 0, .int .u8 3, .int .u8 0, .int .i32 0, .string ⟨#[65]⟩, .slice none 0 0, .slice none 0 0, .int .i64 0, .int .i64 0, .int .u8 3, .int .u8 0, .int .i32 0, .string ⟨#[66]⟩, .slice none 0 0, .slice none 0 0, .int .i64 0, .int .i64 0] 33) = W2 from HW2.out.symm]
  go_region
  go_wp2_with fail
  · generalize hW3 : ((((W2.alloc (.cells #[.int .u8 c1.k, .int .u8 0, .int .i32 c1.n, .string c1.s, .slice none 0 0, .slice none 0 0, .int .i64 0, .int .i64 0, .int .u8 c2.k, .int .u8 0, .int .i32 c2.n, .string c2.s, .slice none 0 0, .slice none 0 0, .int .i64 0, .int .i64 0] 33)).alloc (.cells #[.int .u8 7, .int .u8 (3 + (n0 : Int) % 14), .int .i32 0, .string ⟨#[]⟩, .slice none 0 0, .slice (some ⟨w.heap.size + 1 + 1 + 1 + 1 + 1, 0, none⟩) 2 2, .int .i64 0, .int .i64 0] 33)).alloc (.cells #[.int .u8 c1.k, .int .u8 0, .int .i32 c1.n, .string c1.s, .slice none 0 0, .slice none 0 0, .int .i64 0, .int .i64 0] 33)).alloc (.cells #[.int .u8 6, .int .u8 (1 + (n0 : Int) % 2), .int .i32 0, .string ⟨#[]⟩, .slice none 0 0, .slice (some ⟨w.heap.size + 1 + 1 + 1 + 1 + 1 + 1 + 1, 0, none⟩) 1 1, .int .i64 0, .int .i64 0] 33)).drew = W3
    have hB3 : Below W2.heap.size W2 W3 := by subst hW3; exact (((((Below.refl _ W2).alloc (Nat.le_refl _) _).alloc (by simp) _).alloc (by simp; omega) _).alloc (by simp; omega) _).drew
    have hs3 : W3.heap.size = W2.heap.size + 1 + 1 + 1 + 1 := by subst hW3; simp
    have ha := Has.new W2 33 #[.int .u8 c1.k, .int .u8 0, .int .i32 c1.n, .string c1.s, .slice none 0 0, .slice none 0 0, .int .i64 0, .int .i64 0, .int .u8 c2.k, .int .u8 0, .int .i32 c2.n, .string c2.s, .slice none 0 0, .slice none 0 0, .int .i64 0, .int .i64 0]
    have hb := Has.new (W2.alloc (.cells #[.int .u8 c1.k, .int .u8 0, .int .i32 c1.n, .string c1.s, .slice none 0 0, .slice none 0 0, .int .i64 0, .int .i64 0, .int .u8 c2.k, .int .u8 0, .int .i32 c2.n, .string c2.s, .slice none 0 0, .slice none 0 0, .int .i64 0, .int .i64 0] 33)) 33 #[.int .u8 7, .int .u8 (3 + (n0 : Int) % 14), .int .i32 0, .string ⟨#[]⟩, .slice none 0 0, .slice (some ⟨w.heap.size + 1 + 1 + 1 + 1 + 1, 0, none⟩) 2 2, .int .i64 0, .int .i64 0]
    have hc := Has.new ((W2.alloc (.cells #[.int .u8 c1.k, .int .u8 0, .int .i32 c1.n, .string c1.s, .slice none 0 0, .slice none 0 0, .int .i64 0, .int .i64 0, .int .u8 c2.k, .int .u8 0, .int .i32 c2.n, .string c2.s, .slice none 0 0, .slice none 0 0, .int .i64 0, .int .i64 0] 33)).alloc (.cells #[.int .u8 7, .int .u8 (3 + (n0 : Int) % 14), .int .i32 0, .string ⟨#[]⟩, .slice none 0 0, .slice (some ⟨w.heap.size + 1 + 1 + 1 + 1 + 1, 0, none⟩) 2 2, .int .i64 0, .int .i64 0] 33)) 33 #[.int .u8 c1.k, .int .u8 0, .int .i32 c1.n, .string c1.s, .slice none 0 0, .slice none 0 0, .int .i64 0, .int .i64 0]
    have hd := Has.new (((W2.alloc (.cells #[.int .u8 c1.k, .int .u8 0, .int .i32 c1.n, .string c1.s, .slice none 0 0, .slice none 0 0, .int .i64 0, .int .i64 0, .int .u8 c2.k, .int .u8 0, .int .i32 c2.n, .string c2.s, .slice none 0 0, .slice none 0 0, .int .i64 0, .int .i64 0] 33)).alloc (.cells #[.int .u8 7, .int .u8 (3 + (n0 : Int) % 14), .int .i32 0, .string ⟨#[]⟩, .slice none 0 0, .slice (some ⟨w.heap.size + 1 + 1 + 1 + 1 + 1, 0, none⟩) 2 2, .int .i64 0, .int .i64 0] 33)).alloc (.cells #[.int .u8 c1.k, .int .u8 0, .int .i32 c1.n, .string c1.s, .slice none 0 0, .slice none 0 0, .int .i64 0, .int .i64 0] 33)) 33 #[.int .u8 6, .int .u8 (1 + (n0 : Int) % 2), .int .i32 0, .string ⟨#[]⟩, .slice none 0 0, .slice (some ⟨w.heap.size + 1 + 1 + 1 + 1 + 1 + 1 + 1, 0, none⟩) 1 1, .int .i64 0, .int .i64 0]
    simp only [World.size_alloc, hs2] at ha hb hc hd
    have h1 : Has W3 (w.heap.size + 1 + 1 + 1 + 1 + 1) 33 #[.int .u8 c1.k, .int .u8 0, .int .i32 c1.n, .string c1.s, .slice none 0 0, .slice none 0 0, .int .i64 0, .int .i64 0, .int .u8 c2.k, .int .u8 0, .int .i32 c2.n, .string c2.s, .slice none 0 0, .slice none 0 0, .int .i64 0, .int .i64 0] := by subst hW3; exact ((ha.alloc _).alloc _).alloc _
    have h2 : Has W3 (w.heap.size + 1 + 1 + 1 + 1 + 1 + 1) 33 #[.int .u8 7, .int .u8 (3 + (n0 : Int) % 14), .int .i32 0, .string ⟨#[]⟩, .slice none 0 0, .slice (some ⟨w.heap.size + 1 + 1 + 1 + 1 + 1, 0, none⟩) 2 2, .int .i64 0, .int .i64 0] := by subst hW3; exact (hb.alloc _).alloc _
    have h3 : Has W3 (w.heap.size + 1 + 1 + 1 + 1 + 1 + 1 + 1) 33 #[.int .u8 c1.k, .int .u8 0, .int .i32 c1.n, .string c1.s, .slice none 0 0, .slice none 0 0, .int .i64 0, .int .i64 0] := by subst hW3; exact hc.alloc _
    have h4 : Has W3 (w.heap.size + 1 + 1 + 1 + 1 + 1 + 1 + 1 + 1) 33 #[.int .u8 6, .int .u8 (1 + (n0 : Int) % 2), .int .i32 0, .string ⟨#[]⟩, .slice none 0 0, .slice (some ⟨w.heap.size + 1 + 1 + 1 + 1 + 1 + 1 + 1, 0, none⟩) 1 1, .int .i64 0, .int .i64 0] := by subst hW3; exact hd
    clear ha hb hc hd hW3
    have hM : ty.Made W3 (w.heap.size + 1 + 1) (w.heap.size + 1 + 1 + 1 + 1 + 1) (w.heap.size + 1 + 1 + 1 + 1 + 1 + 1 + 1) (n1 % 4) (n2 % 4) := by
      refine ⟨hi, hj, (HT.out.1.below HB2.out).below hB3, HE2.out.below hB3, ?_, ?_⟩
      · have := h1; rw [HC1.out, HC2.out] at this; exact this
      · have := h3; rw [HC1.out] at this; exact this
    have hp3 := HP2.out.below hB3 (by omega)
    obtain ⟨oe, hoe⟩ : ∃ o, o = ty.okB (3 + (n0 : Int) % 14) (n1 % 4) (n2 % 4) := ⟨_, rfl⟩
    obtain ⟨ou, hou⟩ : ∃ o, o = ty.okU (1 + (n0 : Int) % 2) (n1 % 4) := ⟨_, rfl⟩
    have k1 := ty.call1 hM (3 + (n0 : Int) % 14) (by omega) (by omega)
    have k2 := ty.call2 hM (1 + (n0 : Int) % 2) (by omega) (by omega)
    have k3 := ty.call3 hM (3 + (n0 : Int) % 14) (by omega) (by omega)
    have k4 := ty.call4 hM (1 + (n0 : Int) % 2) (by omega) (by omega)
    rw [← hoe] at k1 k3
    rw [← hou] at k2 k4
    generalize (if oe = true then ty.outI (3 + (n0 : Int) % 14) else 0) = te at k1 k3
    generalize (if ou = true then ty.outI (1 + (n0 : Int) % 2) else 0) = tu at k2 k4
    unfold ty.exC at k1 k2 k3 k4
    have HB3 := Lib.hid ((HB2.out.trans (hB3.mono HB2.out.size)))
    have K1 := Lib.hid k1
    have K2 := Lib.hid k2
    have K3 := Lib.hid k3
    have K4 := Lib.hid k4
    have HE := Lib.hid h2
    have HU := Lib.hid h4
    have HP := Lib.hid hp3
    have hz3 := HB3.out.size
    clear hM k1 k2 k3 k4 h1 h2 h3 h4 hp3 hoe hou hB3 HB2 HE2 HP2 HW2 HC1 HC2 i0 i1 i2 i3 i4 i5 i6 i7 j0 j1 j2 j3 j4 j5 j6 j7 pc0 pc1
    refine (K1.out _ (Below.refl _ _)).mono ?_
    rintro e w5 ⟨⟨er1, her1, rfl⟩, hb5⟩
    have HR1 := Lib.hid her1
    have hs5 := hb5.size
    have u := HU.out.below hb5 (by omega)
    have p := HP.out.below hb5 (by omega)
    have x0 := u.cell 0
    have x1 := u.cell 1
    have x2 := u.cell 2
    have x3 := u.cell 3
    have x4 := u.cell 4
    have x5 := u.cell 5
    have x6 := u.cell 6
    have x7 := u.cell 7
    have y0 := p.cell 0
    have y1 := p.cell 1
    simp only [List.getElem?_toArray, List.getElem?_cons_zero, List.getElem?_cons_succ] at x0 x1 x2 x3 x4 x5 x6 x7 y0 y1
    have q3 : w.heap.size + 1 + 1 + 1 < w5.heap.size := by omega
    have q8 : w.heap.size + 1 + 1 + 1 + 1 + 1 + 1 + 1 + 1 < w5.heap.size := by omega
    have HB5 := Lib.hid hb5
    clear u p her1 hb5
    go_wp2_with fail
    refine (K2.out _ (HB5.out.alloc (by omega) _)).mono ?_
    rintro e w6 ⟨⟨er2, her2, rfl⟩, hb6⟩
    have HR2 := Lib.hid her2
    have hs6 := hb6.size
    have t1 := (Has.new w5 35 #[.int .u8 te, .string ty.noT]).below hb6 (by simp)
    have hb6' := (HB5.out.alloc (by omega) (.cells #[.int .u8 te, .string ty.noT] 35)).trans (hb6.mono (by simp; omega))
    simp only [World.size_alloc] at hs6
    clear x0 x1 x2 x3 x4 x5 x6 x7 y0 y1 q3 q8 HB5 K1 K2 hb6
    have u := HE.out.below hb6' (by omega)
    have p := HP.out.below hb6' (by omega)
    have x0 := u.cell 0
    have x1 := u.cell 1
    have x2 := u.cell 2
    have x3 := u.cell 3
    have x4 := u.cell 4
    have x5 := u.cell 5
    have x6 := u.cell 6
    have x7 := u.cell 7
    have y0 := p.cell 0
    have y1 := p.cell 1
    simp only [List.getElem?_toArray, List.getElem?_cons_zero, List.getElem?_cons_succ] at x0 x1 x2 x3 x4 x5 x6 x7 y0 y1
    have q3 : w.heap.size + 1 + 1 + 1 < w6.heap.size := by omega
    have q8 : w.heap.size + 1 + 1 + 1 + 1 + 1 + 1 < w6.heap.size := by omega
    have HB6 := Lib.hid hb6'
    have HT1 := Lib.hid t1
    clear u p her2 hb6' t1
    go_wp2_with fail
    refine (K3.out _ (HB6.out.alloc (by omega) _)).mono ?_
    rintro e w7 ⟨rfl, hb7⟩
    have hs7 := hb7.size
    have t1 := (HT1.out.alloc (.cells #[.int .u8 tu, .string ty.noT] 35)).below hb7 (by simp; omega)
    have t2 := (Has.new w6 35 #[.int .u8 tu, .string ty.noT]).below hb7 (by simp)
    have hb7' := (HB6.out.alloc (by omega) (.cells #[.int .u8 tu, .string ty.noT] 35)).trans (hb7.mono (by simp; omega))
    simp only [World.size_alloc] at hs7
    clear x0 x1 x2 x3 x4 x5 x6 x7 y0 y1 q3 q8 HB6 K3 hb7 HE HT1
    have u := HU.out.below hb7' (by omega)
    have p := HP.out.below hb7' (by omega)
    have x0 := u.cell 0
    have x1 := u.cell 1
    have x2 := u.cell 2
    have x3 := u.cell 3
    have x4 := u.cell 4
    have x5 := u.cell 5
    have x6 := u.cell 6
    have x7 := u.cell 7
    have y0 := p.cell 0
    have y1 := p.cell 1
    simp only [List.getElem?_toArray, List.getElem?_cons_zero, List.getElem?_cons_succ] at x0 x1 x2 x3 x4 x5 x6 x7 y0 y1
    have q3 : w.heap.size + 1 + 1 + 1 < w7.heap.size := by omega
    have q8 : w.heap.size + 1 + 1 + 1 + 1 + 1 + 1 + 1 + 1 < w7.heap.size := by omega
    have q3' : w.heap.size + 1 + 1 + 1 < w7.heap.size + 1 := by omega
    have q8' : w.heap.size + 1 + 1 + 1 + 1 + 1 + 1 + 1 + 1 < w7.heap.size + 1 := by omega
    have HB7 := Lib.hid hb7'
    have HT1 := Lib.hid t1
    have HT2 := Lib.hid t2
    clear u p hb7' t1 t2
    go_wp2_with fail
    refine (K4.out _ ((HB7.out.alloc (by omega) _).alloc (by simp; omega) _)).mono ?_
    rintro e w8 ⟨rfl, hb8⟩
    have hs8 := hb8.size
    have t1 := ((HT1.out.alloc (.cells #[.int .u8 te, .string ty.noT] 35)).alloc (.cells #[.int .i64 0, .int .i64 0] 24)).below hb8 (by simp; omega)
    have t2 := ((HT2.out.alloc (.cells #[.int .u8 te, .string ty.noT] 35)).alloc (.cells #[.int .i64 0, .int .i64 0] 24)).below hb8 (by simp; omega)
    have t3 := ((Has.new w7 35 #[.int .u8 te, .string ty.noT]).alloc (.cells #[.int .i64 0, .int .i64 0] 24)).below hb8 (by simp; omega)
    have hb8' := ((HB7.out.alloc (by omega) (.cells #[.int .u8 te, .string ty.noT] 35)).alloc (by simp; omega) (.cells #[.int .i64 0, .int .i64 0] 24)).trans (hb8.mono (by simp; omega))
    simp only [World.size_alloc] at hs8
    clear x0 x1 x2 x3 x4 x5 x6 x7 y0 y1 q3 q8 q3' q8' HB7 K4 hb8 HU HP HT1 HT2
    have HB8 := Lib.hid (HB3.out.trans (hb8'.mono HB3.out.size))
    have HT1 := Lib.hid t1
    have HT2 := Lib.hid t2
    have HT3 := Lib.hid t3
    clear hb8' t1 t2 t3
    go_wp2_with fail
    have hb8 := (HB8.out.alloc (by omega) (.cells #[.int .u8 tu, .string ty.noT] 35)).alloc (by simp; omega) (.cells #[.int .i64 0, .int .i64 0] 24)
    refine (ty.awake_any _ ⟨HT.out.1.below hb8, HT.out.2.below hb8⟩).mono ?_
    rintro e w9 ⟨rfl, hb9⟩
    have hs9 := hb9.size
    have t1 := ((HT1.out.alloc (.cells #[.int .u8 tu, .string ty.noT] 35)).alloc (.cells #[.int .i64 0, .int .i64 0] 24)).below hb9 (by simp; omega)
    have t2 := ((HT2.out.alloc (.cells #[.int .u8 tu, .string ty.noT] 35)).alloc (.cells #[.int .i64 0, .int .i64 0] 24)).below hb9 (by simp; omega)
    have t3 := ((HT3.out.alloc (.cells #[.int .u8 tu, .string ty.noT] 35)).alloc (.cells #[.int .i64 0, .int .i64 0] 24)).below hb9 (by simp; omega)
    have t4 := ((Has.new w8 35 #[.int .u8 tu, .string ty.noT]).alloc (.cells #[.int .i64 0, .int .i64 0] 24)).below hb9 (by simp; omega)
    have a0 := t1.cell 0
    have a1 := t1.cell 1
    have b0 := t2.cell 0
    have b1 := t2.cell 1
    have c0 := t3.cell 0
    have c1' := t3.cell 1
    have d0 := t4.cell 0
    have d1 := t4.cell 1
    simp only [List.getElem?_toArray, List.getElem?_cons_zero, List.getElem?_cons_succ] at a0 a1 b0 b1 c0 c1' d0 d1
    have HB9 := Lib.hid (hb8.trans (hb9.mono (by simp; omega)))
    clear hb8 hb9 t1 t2 t3 t4 HT1 HT2 HT3 HB8 hs9
    obtain ⟨f1, f2⟩ := HR1.out
    obtain ⟨f3, f4⟩ := HR2.out
    clear HR1 HR2
    cases oe <;> cases ou
    · obtain ⟨g1, rfl⟩ := f2 rfl
      obtain ⟨g2, rfl⟩ := f4 rfl
      clear f1 f2 f3 f4
      go_wp2_with fail
      go_ret
      exact ⟨rfl, HB9.out⟩
    · obtain ⟨g1, rfl⟩ := f2 rfl
      obtain rfl := f3 rfl
      clear f1 f2 f3 f4
      go_wp2_with fail
      go_ret
      exact ⟨rfl, HB9.out⟩
    · obtain rfl := f1 rfl
      obtain ⟨g2, rfl⟩ := f4 rfl
      clear f1 f2 f3 f4
      go_wp2_with fail
      go_ret
      exact ⟨rfl, HB9.out⟩
    · obtain rfl := f1 rfl
      obtain rfl := f3 rfl
      clear f1 f2 f3 f4
      go_wp2_with fail
      go_ret
      exact ⟨rfl, HB9.out⟩
  · generalize hW3 : ((((W2.alloc (.cells #[.int .u8 7, .int .u8 (3 + (n0 : Int) % 14), .int .i32 0, .string ⟨#[]⟩, .slice none 0 0, .slice (some ⟨w.heap.size + 1 + 1 + 1 + 1 + 1 + 1, 0, none⟩) 2 2, .int .i64 0, .int .i64 0] 33)).alloc (.cells #[.int .u8 c1.k, .int .u8 0, .int .i32 c1.n, .string c1.s, .slice none 0 0, .slice none 0 0, .int .i64 0, .int .i64 0, .int .u8 c2.k, .int .u8 0, .int .i32 c2.n, .string c2.s, .slice none 0 0, .slice none 0 0, .int .i64 0, .int .i64 0] 33)).alloc (.cells #[.int .u8 c1.k, .int .u8 0, .int .i32 c1.n, .string c1.s, .slice none 0 0, .slice none 0 0, .int .i64 0, .int .i64 0] 33)).alloc (.cells #[.int .u8 6, .int .u8 (1 + (n0 : Int) % 2), .int .i32 0, .string ⟨#[]⟩, .slice none 0 0, .slice (some ⟨w.heap.size + 1 + 1 + 1 + 1 + 1 + 1 + 1, 0, none⟩) 1 1, .int .i64 0, .int .i64 0] 33)).drew = W3
    have hB3 : Below W2.heap.size W2 W3 := by subst hW3; exact (((((Below.refl _ W2).alloc (Nat.le_refl _) _).alloc (by simp) _).alloc (by simp; omega) _).alloc (by simp; omega) _).drew
    have hs3 : W3.heap.size = W2.heap.size + 1 + 1 + 1 + 1 := by subst hW3; simp
    have ha := Has.new W2 33 #[.int .u8 7, .int .u8 (3 + (n0 : Int) % 14), .int .i32 0, .string ⟨#[]⟩, .slice none 0 0, .slice (some ⟨w.heap.size + 1 + 1 + 1 + 1 + 1 + 1, 0, none⟩) 2 2, .int .i64 0, .int .i64 0]
    have hb := Has.new (W2.alloc (.cells #[.int .u8 7, .int .u8 (3 + (n0 : Int) % 14), .int .i32 0, .string ⟨#[]⟩, .slice none 0 0, .slice (some ⟨w.heap.size + 1 + 1 + 1 + 1 + 1 + 1, 0, none⟩) 2 2, .int .i64 0, .int .i64 0] 33)) 33 #[.int .u8 c1.k, .int .u8 0, .int .i32 c1.n, .string c1.s, .slice none 0 0, .slice none 0 0, .int .i64 0, .int .i64 0, .int .u8 c2.k, .int .u8 0, .int .i32 c2.n, .string c2.s, .slice none 0 0, .slice none 0 0, .int .i64 0, .int .i64 0]
    have hc := Has.new ((W2.alloc (.cells #[.int .u8 7, .int .u8 (3 + (n0 : Int) % 14), .int .i32 0, .string ⟨#[]⟩, .slice none 0 0, .slice (some ⟨w.heap.size + 1 + 1 + 1 + 1 + 1 + 1, 0, none⟩) 2 2, .int .i64 0, .int .i64 0] 33)).alloc (.cells #[.int .u8 c1.k, .int .u8 0, .int .i32 c1.n, .string c1.s, .slice none 0 0, .slice none 0 0, .int .i64 0, .int .i64 0, .int .u8 c2.k, .int .u8 0, .int .i32 c2.n, .string c2.s, .slice none 0 0, .slice none 0 0, .int .i64 0, .int .i64 0] 33)) 33 #[.int .u8 c1.k, .int .u8 0, .int .i32 c1.n, .string c1.s, .slice none 0 0, .slice none 0 0, .int .i64 0, .int .i64 0]
    have hd := Has.new (((W2.alloc (.cells #[.int .u8 7, .int .u8 (3 + (n0 : Int) % 14), .int .i32 0, .string ⟨#[]⟩, .slice none 0 0, .slice (some ⟨w.heap.size + 1 + 1 + 1 + 1 + 1 + 1, 0, none⟩) 2 2, .int .i64 0, .int .i64 0] 33)).alloc (.cells #[.int .u8 c1.k, .int .u8 0, .int .i32 c1.n, .string c1.s, .slice none 0 0, .slice none 0 0, .int .i64 0, .int .i64 0, .int .u8 c2.k, .int .u8 0, .int .i32 c2.n, .string c2.s, .slice none 0 0, .slice none 0 0, .int .i64 0, .int .i64 0] 33)).alloc (.cells #[.int .u8 c1.k, .int .u8 0, .int .i32 c1.n, .string c1.s, .slice none 0 0, .slice none 0 0, .int .i64 0, .int .i64 0] 33)) 33 #[.int .u8 6, .int .u8 (1 + (n0 : Int) % 2), .int .i32 0, .string ⟨#[]⟩, .slice none 0 0, .slice (some ⟨w.heap.size + 1 + 1 + 1 + 1 + 1 + 1 + 1, 0, none⟩) 1 1, .int .i64 0, .int .i64 0]
    simp only [World.size_alloc, hs2] at ha hb hc hd
    have h1 : Has W3 (w.heap.size + 1 + 1 + 1 + 1 + 1) 33 #[.int .u8 7, .int .u8 (3 + (n0 : Int) % 14), .int .i32 0, .string ⟨#[]⟩, .slice none 0 0, .slice (some ⟨w.heap.size + 1 + 1 + 1 + 1 + 1 + 1, 0, none⟩) 2 2, .int .i64 0, .int .i64 0] := by subst hW3; exact ((ha.alloc _).alloc _).alloc _
    have h2 : Has W3 (w.heap.size + 1 + 1 + 1 + 1 + 1 + 1) 33 #[.int .u8 c1.k, .int .u8 0, .int .i32 c1.n, .string c1.s, .slice none 0 0, .slice none 0 0, .int .i64 0, .int .i64 0, .int .u8 c2.k, .int .u8 0, .int .i32 c2.n, .string c2.s, .slice none 0 0, .slice none 0 0, .int .i64 0, .int .i64 0] := by subst hW3; exact (hb.alloc _).alloc _
    have h3 : Has W3 (w.heap.size + 1 + 1 + 1 + 1 + 1 + 1 + 1) 33 #[.int .u8 c1.k, .int .u8 0, .int .i32 c1.n, .string c1.s, .slice none 0 0, .slice none 0 0, .int .i64 0, .int .i64 0] := by subst hW3; exact hc.alloc _
    have h4 : Has W3 (w.heap.size + 1 + 1 + 1 + 1 + 1 + 1 + 1 + 1) 33 #[.int .u8 6, .int .u8 (1 + (n0 : Int) % 2), .int .i32 0, .string ⟨#[]⟩, .slice none 0 0, .slice (some ⟨w.heap.size + 1 + 1 + 1 + 1 + 1 + 1 + 1, 0, none⟩) 1 1, .int .i64 0, .int .i64 0] := by subst hW3; exact hd
    clear ha hb hc hd hW3
    have hM : ty.Made W3 (w.heap.size + 1 + 1) (w.heap.size + 1 + 1 + 1 + 1 + 1 + 1) (w.heap.size + 1 + 1 + 1 + 1 + 1 + 1 + 1) (n1 % 4) (n2 % 4) := by
      refine ⟨hi, hj, (HT.out.1.below HB2.out).below hB3, HE2.out.below hB3, ?_, ?_⟩
      · have := h2; rw [HC1.out, HC2.out] at this; exact this
      · have := h3; rw [HC1.out] at this; exact this
    have hp3 := HP2.out.below hB3 (by omega)
    obtain ⟨oe, hoe⟩ : ∃ o, o = ty.okB (3 + (n0 : Int) % 14) (n1 % 4) (n2 % 4) := ⟨_, rfl⟩
    obtain ⟨ou, hou⟩ : ∃ o, o = ty.okU (1 + (n0 : Int) % 2) (n1 % 4) := ⟨_, rfl⟩
    have k1 := ty.call1 hM (3 + (n0 : Int) % 14) (by omega) (by omega)
    have k2 := ty.call2 hM (1 + (n0 : Int) % 2) (by omega) (by omega)
    have k3 := ty.call3 hM (3 + (n0 : Int) % 14) (by omega) (by omega)
    have k4 := ty.call4 hM (1 + (n0 : Int) % 2) (by omega) (by omega)
    rw [← hoe] at k1 k3
    rw [← hou] at k2 k4
    generalize (if oe = true then ty.outI (3 + (n0 : Int) % 14) else 0) = te at k1 k3
    generalize (if ou = true then ty.outI (1 + (n0 : Int) % 2) else 0) = tu at k2 k4
    unfold ty.exC at k1 k2 k3 k4
    have HB3 := Lib.hid ((HB2.out.trans (hB3.mono HB2.out.size)))
    have K1 := Lib.hid k1
    have K2 := Lib.hid k2
    have K3 := Lib.hid k3
    have K4 := Lib.hid k4
    have HE := Lib.hid h1
    have HU := Lib.hid h4
    have HP := Lib.hid hp3
    have hz3 := HB3.out.size
    clear hM k1 k2 k3 k4 h1 h2 h3 h4 hp3 hoe hou hB3 HB2 HE2 HP2 HW2 HC1 HC2 i0 i1 i2 i3 i4 i5 i6 i7 j0 j1 j2 j3 j4 j5 j6 j7 pc0 pc1
    refine (K1.out _ (Below.refl _ _)).mono ?_
    rintro e w5 ⟨⟨er1, her1, rfl⟩, hb5⟩
    have HR1 := Lib.hid her1
    have hs5 := hb5.size
    have u := HU.out.below hb5 (by omega)
    have p := HP.out.below hb5 (by omega)
    have x0 := u.cell 0
    have x1 := u.cell 1
    have x2 := u.cell 2
    have x3 := u.cell 3
    have x4 := u.cell 4
    have x5 := u.cell 5
    have x6 := u.cell 6
    have x7 := u.cell 7
    have y0 := p.cell 0
    have y1 := p.cell 1
    simp only [List.getElem?_toArray, List.getElem?_cons_zero, List.getElem?_cons_succ] at x0 x1 x2 x3 x4 x5 x6 x7 y0 y1
    have q3 : w.heap.size + 1 + 1 + 1 < w5.heap.size := by omega
    have q8 : w.heap.size + 1 + 1 + 1 + 1 + 1 + 1 + 1 + 1 < w5.heap.size := by omega
    have HB5 := Lib.hid hb5
    clear u p her1 hb5
    go_wp2_with fail
    refine (K2.out _ (HB5.out.alloc (by omega) _)).mono ?_
    rintro e w6 ⟨⟨er2, her2, rfl⟩, hb6⟩
    have HR2 := Lib.hid her2
    have hs6 := hb6.size
    have t1 := (Has.new w5 35 #[.int .u8 te, .string ty.noT]).below hb6 (by simp)
    have hb6' := (HB5.out.alloc (by omega) (.cells #[.int .u8 te, .string ty.noT] 35)).trans (hb6.mono (by simp; omega))
    simp only [World.size_alloc] at hs6
    clear x0 x1 x2 x3 x4 x5 x6 x7 y0 y1 q3 q8 HB5 K1 K2 hb6
    have u := HE.out.below hb6' (by omega)
    have p := HP.out.below hb6' (by omega)
    have x0 := u.cell 0
    have x1 := u.cell 1
    have x2 := u.cell 2
    have x3 := u.cell 3
    have x4 := u.cell 4
    have x5 := u.cell 5
    have x6 := u.cell 6
    have x7 := u.cell 7
    have y0 := p.cell 0
    have y1 := p.cell 1
    simp only [List.getElem?_toArray, List.getElem?_cons_zero, List.getElem?_cons_succ] at x0 x1 x2 x3 x4 x5 x6 x7 y0 y1
    have q3 : w.heap.size + 1 + 1 + 1 < w6.heap.size := by omega
    have q8 : w.heap.size + 1 + 1 + 1 + 1 + 1 < w6.heap.size := by omega
    have HB6 := Lib.hid hb6'
    have HT1 := Lib.hid t1
    clear u p her2 hb6' t1
    go_wp2_with fail
    refine (K3.out _ (HB6.out.alloc (by omega) _)).mono ?_
    rintro e w7 ⟨rfl, hb7⟩
    have hs7 := hb7.size
    have t1 := (HT1.out.alloc (.cells #[.int .u8 tu, .string ty.noT] 35)).below hb7 (by simp; omega)
    have t2 := (Has.new w6 35 #[.int .u8 tu, .string ty.noT]).below hb7 (by simp)
    have hb7' := (HB6.out.alloc (by omega) (.cells #[.int .u8 tu, .string ty.noT] 35)).trans (hb7.mono (by simp; omega))
    simp only [World.size_alloc] at hs7
    clear x0 x1 x2 x3 x4 x5 x6 x7 y0 y1 q3 q8 HB6 K3 hb7 HE HT1
    have u := HU.out.below hb7' (by omega)
    have p := HP.out.below hb7' (by omega)
    have x0 := u.cell 0
    have x1 := u.cell 1
    have x2 := u.cell 2
    have x3 := u.cell 3
    have x4 := u.cell 4
    have x5 := u.cell 5
    have x6 := u.cell 6
    have x7 := u.cell 7
    have y0 := p.cell 0
    have y1 := p.cell 1
    simp only [List.getElem?_toArray, List.getElem?_cons_zero, List.getElem?_cons_succ] at x0 x1 x2 x3 x4 x5 x6 x7 y0 y1
    have q3 : w.heap.size + 1 + 1 + 1 < w7.heap.size := by omega
    have q8 : w.heap.size + 1 + 1 + 1 + 1 + 1 + 1 + 1 + 1 < w7.heap.size := by omega
    have q3' : w.heap.size + 1 + 1 + 1 < w7.heap.size + 1 := by omega
    have q8' : w.heap.size + 1 + 1 + 1 + 1 + 1 + 1 + 1 + 1 < w7.heap.size + 1 := by omega
    have HB7 := Lib.hid hb7'
    have HT1 := Lib.hid t1
    have HT2 := Lib.hid t2
    clear u p hb7' t1 t2
    go_wp2_with fail
    refine (K4.out _ ((HB7.out.alloc (by omega) _).alloc (by simp; omega) _)).mono ?_
    rintro e w8 ⟨rfl, hb8⟩
    have hs8 := hb8.size
    have t1 := ((HT1.out.alloc (.cells #[.int .u8 te, .string ty.noT] 35)).alloc (.cells #[.int .i64 0, .int .i64 0] 24)).below hb8 (by simp; omega)
    have t2 := ((HT2.out.alloc (.cells #[.int .u8 te, .string ty.noT] 35)).alloc (.cells #[.int .i64 0, .int .i64 0] 24)).below hb8 (by simp; omega)
    have t3 := ((Has.new w7 35 #[.int .u8 te, .string ty.noT]).alloc (.cells #[.int .i64 0, .int .i64 0] 24)).below hb8 (by simp; omega)
    have hb8' := ((HB7.out.alloc (by omega) (.cells #[.int .u8 te, .string ty.noT] 35)).alloc (by simp; omega) (.cells #[.int .i64 0, .int .i64 0] 24)).trans (hb8.mono (by simp; omega))
    simp only [World.size_alloc] at hs8
    clear x0 x1 x2 x3 x4 x5 x6 x7 y0 y1 q3 q8 q3' q8' HB7 K4 hb8 HU HP HT1 HT2
    have HB8 := Lib.hid (HB3.out.trans (hb8'.mono HB3.out.size))
    have HT1 := Lib.hid t1
    have HT2 := Lib.hid t2
    have HT3 := Lib.hid t3
    clear hb8' t1 t2 t3
    go_wp2_with fail
    have hb8 := (HB8.out.alloc (by omega) (.cells #[.int .u8 tu, .string ty.noT] 35)).alloc (by simp; omega) (.cells #[.int .i64 0, .int .i64 0] 24)
    refine (ty.awake_any _ ⟨HT.out.1.below hb8, HT.out.2.below hb8⟩).mono ?_
    rintro e w9 ⟨rfl, hb9⟩
    have hs9 := hb9.size
    have t1 := ((HT1.out.alloc (.cells #[.int .u8 tu, .string ty.noT] 35)).alloc (.cells #[.int .i64 0, .int .i64 0] 24)).below hb9 (by simp; omega)
    have t2 := ((HT2.out.alloc (.cells #[.int .u8 tu, .string ty.noT] 35)).alloc (.cells #[.int .i64 0, .int .i64 0] 24)).below hb9 (by simp; omega)
    have t3 := ((HT3.out.alloc (.cells #[.int .u8 tu, .string ty.noT] 35)).alloc (.cells #[.int .i64 0, .int .i64 0] 24)).below hb9 (by simp; omega)
    have t4 := ((Has.new w8 35 #[.int .u8 tu, .string ty.noT]).alloc (.cells #[.int .i64 0, .int .i64 0] 24)).below hb9 (by simp; omega)
    have a0 := t1.cell 0
    have a1 := t1.cell 1
    have b0 := t2.cell 0
    have b1 := t2.cell 1
    have c0 := t3.cell 0
    have c1' := t3.cell 1
    have d0 := t4.cell 0
    have d1 := t4.cell 1
    simp only [List.getElem?_toArray, List.getElem?_cons_zero, List.getElem?_cons_succ] at a0 a1 b0 b1 c0 c1' d0 d1
    have HB9 := Lib.hid (hb8.trans (hb9.mono (by simp; omega)))
    clear hb8 hb9 t1 t2 t3 t4 HT1 HT2 HT3 HB8 hs9
    obtain ⟨f1, f2⟩ := HR1.out
    obtain ⟨f3, f4⟩ := HR2.out
    clear HR1 HR2
    cases oe <;> cases ou
    · obtain ⟨g1, rfl⟩ := f2 rfl
      obtain ⟨g2, rfl⟩ := f4 rfl
      clear f1 f2 f3 f4
      go_wp2_with fail
      go_ret
      exact ⟨rfl, HB9.out⟩
    · obtain ⟨g1, rfl⟩ := f2 rfl
      obtain rfl := f3 rfl
      clear f1 f2 f3 f4
      go_wp2_with fail
      go_ret
      exact ⟨rfl, HB9.out⟩
    · obtain rfl := f1 rfl
      obtain ⟨g2, rfl⟩ := f4 rfl
      clear f1 f2 f3 f4
      go_wp2_with fail
      go_ret
      exact ⟨rfl, HB9.out⟩
    · obtain rfl := f1 rfl
      obtain rfl := f3 rfl
      clear f1 f2 f3 f4
      go_wp2_with fail
      go_ret
      exact ⟨rfl, HB9.out⟩
end Go.Proofs.YtkjfodbdkacjfaaDoor.typesOperators
