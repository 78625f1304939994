/-
  For every list of at most 100 constructors nums.Index answers the first place of the name, or -1; and nums.Fits tells which numbers are values of a type. (Of a longer list the law says nothing.) No condition.
-/
import Derived.Test.YtdbieelknploaaaRows
import Derived.WalkKit
import Derived.ProofKit
import Derived.OpenShut
import Derived.ShutString
import Derived.WalkSpells
import Derived.ChangeOld
import Derived.Below
import Derived.Outline
import Derived.Lib.Hide
import Derived.Test.YtdbieelknploaaaIndexes
namespace Go.Proofs.Ytdbieelknploaaa.numsFits
open Go.ChangeShapes Go.WideShapes Go.ChangeAt Go.RowKit
open Go.ChangeMaps (open_string shut_string)
set_option linter.unusedVariables false

theorem own : ownKnob Try.prog.godebug = none := by kernel_rfl
theorem laidOut : laidOutB Try.prog = true := by kernel_rfl

/-- the law's loop goes down: what it knows ahead of place k -/
theorem first_down {p : Nat → Bool} {k n : Nat} {r : Int} (h : bins.IsFirst p (k + 1) n r) (hk : k < n) : (p k = true → bins.IsFirst p k n k) ∧ (p k = false → bins.IsFirst p k n r) := by
  constructor
  · intro hp
    exact .inr ⟨k, rfl, Nat.le_refl _, hk, hp, fun i h1 h2 => by omega⟩
  · intro hp
    rcases h with ⟨rfl, h⟩ | ⟨j, rfl, h1, h2, h3, h4⟩
    · refine .inl ⟨rfl, fun i h1 h2 => ?_⟩
      rcases Nat.lt_or_eq_of_le h1 with g | g
      · exact h i g h2
      · rw [← g]; exact hp
    · refine .inr ⟨j, rfl, by omega, h2, h3, fun i g1 g2 => ?_⟩
      rcases Nat.lt_or_eq_of_le g1 with g | g
      · exact h4 i g g2
      · rw [← g]; exact hp

theorem later {w wx : World} {a : Option Addr} {len cap : Nat} {ss : List ByteArray} (h : bins.IsStrs w a len cap ss) (hb : Below w.heap.size w wx) : bins.IsStrs wx a len cap ss := by
  obtain ⟨h1, h2, h3, h4⟩ := h
  refine ⟨h1, h2, h3, fun i hi => ?_⟩
  obtain ⟨b, off, e, hc⟩ := h4 i hi
  exact ⟨b, off, e, cell_later hb hc⟩

set_option maxHeartbeats 4000000 in
theorem walk (a0 : Option Addr) (len cap : Nat) (ss : List ByteArray) (c : ByteArray) (k : Int) (nm : ByteArray) (n : Int) (w : World) (h : bins.IsStrs w a0 len cap ss) (w2 : (Lit.int .u8 k).wf = true) (w4 : (Lit.int .i32 n).wf = true) :
    Calls Try.prog 9 #[.slice a0 len cap, .string c, .int .u8 k, .string nm, .int .i32 n] w fun e w' => e = .returned (.bool true) ∧ Below w.heap.size w w' := by
  have ⟨p1, p2⟩ := bounds_u8 w2
  have ⟨p3, p4⟩ := bounds_i32 w4
  clear w2 w4
  have ⟨hlc, hm, _, hcell⟩ := h
  unfold maxLen at hm
  have HS := Lib.hid h
  by_cases hl : 100 < len
  · clear hcell h
    go_enter Try.func9, Try.ntmps9
    go_wp2_with (go_at_call 10; refine (bins.awake_any _).mono ?_; rintro e w' ⟨rfl, rfl⟩)
    go_ret
    exact ⟨rfl, Below.refl _ _⟩
  · have HC : Hid (∀ i : Nat, i < len → ∃ b off, a0 = some ⟨b, off, none⟩ ∧ w.cell? ⟨b, off + i, none⟩ = some (.string (ss.getD i ByteArray.empty))) := Lib.hid (fun i hi => hcell i (by omega))
    clear hcell h
    go_enter Try.func9, Try.ntmps9
    go_wp2_with (go_at_call 10; refine (bins.awake_any _).mono ?_; rintro e w' ⟨rfl, rfl⟩)
    go_loop [11, 12] (fun at_ i => ∃ (k : Nat) (r m : Int), k ≤ len ∧ m + 1 = k ∧ i = .int .i64 m ∧ at_ = .int .i32 r ∧ Hid (bins.IsFirst (bins.At ss c) k len r)) (fun _ i => (intOf i + 1).toNat)
    case atStart => exact ⟨len, -1, _, Nat.le_refl _, by omega, rfl, rfl, Lib.hid (.inl ⟨rfl, fun i h1 h2 => by omega⟩)⟩
    case round =>
      obtain ⟨k1, r, m, hk1, hm1, rfl, rfl, HR⟩ := hrel
      by_cases hz : k1 = 0
      · subst hz
        obtain rfl : m = -1 := by omega
        clear hm1
        have hr : r = -1 ∨ (0 ≤ r ∧ r < len) := by
          rcases HR.out with ⟨rfl, _⟩ | ⟨j, rfl, _, h2, _, _⟩
          · exact .inl rfl
          · exact .inr ⟨by omega, by omega⟩
        have hrb : -1 ≤ r ∧ r ≤ 100 := by omega
        obtain ⟨hr1, hr2⟩ := hrb
        have hE : 0 ≤ r → bins.fitB 3 len r = true := by intro h; unfold bins.fitB; rw [if_neg (by omega), if_neg (by omega), if_pos rfl, if_neg (by omega), if_pos (by omega)]
        have HE := Lib.hid hE
        clear hE
        have cases_k : (k % 5 = 2) ∨ (k % 5 = 0 ∨ k % 5 = 4) ∨ (k % 5 = 1 ∧ (n = 0 ∨ n = 1 ∨ (n ≠ 0 ∧ n ≠ 1))) ∨ (k % 5 = 3 ∧ (n < 0 ∨ (0 ≤ n ∧ n < len) ∨ (0 ≤ n ∧ ¬ n < len))) := by omega
        have hF : bins.fitB (k % 5) len n = bins.fitB (k % 5) len n := rfl
        have cases_r : r < 0 ∨ (0 ≤ r ∧ bins.fitB 3 len r = true) := by
          by_cases h : r < 0
          · exact .inl h
          · exact .inr ⟨by omega, HE.out (by omega)⟩
        clear hr HE hF
        have HS2 : Hid (∀ o, bins.IsStrs (w.alloc o) a0 len cap ss) := Lib.hid (fun o => later HS.out ((Below.refl _ _).alloc (Nat.le_refl _) _))
        rcases cases_k with hk | (hk | hk) | ⟨hk, rfl | rfl | ⟨hn1, hn2⟩⟩ | ⟨hk, hn | ⟨hn1, hn2⟩ | ⟨hn1, hn2⟩⟩
        · have hF : bins.fitB 2 len n = true := rfl
          rcases cases_r with h | ⟨h, hE⟩
          all_goals
            go_wp2_with (first | (go_at_call 15; refine (bins.index_any _ _ _ _ _ _ (HS2.out _) (by omega)).mono ?_; rintro e w' ⟨⟨r', hr', rfl⟩, rfl⟩; obtain rfl := bins.IsFirst.same HR.out hr'; clear hr') | (go_at_call 16; refine (bins.fits_any _ _ _ _ _ (by omega) (by omega) (by omega) (by omega) (by omega) (by omega)).mono ?_; rintro e w' ⟨rfl, rfl⟩))
            go_ret
            refine ⟨rfl, ?_⟩
            first | exact (Below.refl _ _).alloc (Nat.le_refl _) _ | exact ((Below.refl _ _).alloc (Nat.le_refl _) _).alloc (by simp) _ | exact (((Below.refl _ _).alloc (Nat.le_refl _) _).alloc (by simp) _).alloc (by simp; omega) _
        · have hF : bins.fitB 0 len n = false := rfl
          rcases cases_r with h | ⟨h, hE⟩
          all_goals
            go_wp2_with (first | (go_at_call 15; refine (bins.index_any _ _ _ _ _ _ (HS2.out _) (by omega)).mono ?_; rintro e w' ⟨⟨r', hr', rfl⟩, rfl⟩; obtain rfl := bins.IsFirst.same HR.out hr'; clear hr') | (go_at_call 16; refine (bins.fits_any _ _ _ _ _ (by omega) (by omega) (by omega) (by omega) (by omega) (by omega)).mono ?_; rintro e w' ⟨rfl, rfl⟩))
            go_ret
            refine ⟨rfl, ?_⟩
            first | exact (Below.refl _ _).alloc (Nat.le_refl _) _ | exact ((Below.refl _ _).alloc (Nat.le_refl _) _).alloc (by simp) _ | exact (((Below.refl _ _).alloc (Nat.le_refl _) _).alloc (by simp) _).alloc (by simp; omega) _
        · have hF : bins.fitB 4 len n = false := rfl
          rcases cases_r with h | ⟨h, hE⟩
          all_goals
            go_wp2_with (first | (go_at_call 15; refine (bins.index_any _ _ _ _ _ _ (HS2.out _) (by omega)).mono ?_; rintro e w' ⟨⟨r', hr', rfl⟩, rfl⟩; obtain rfl := bins.IsFirst.same HR.out hr'; clear hr') | (go_at_call 16; refine (bins.fits_any _ _ _ _ _ (by omega) (by omega) (by omega) (by omega) (by omega) (by omega)).mono ?_; rintro e w' ⟨rfl, rfl⟩))
            go_ret
            refine ⟨rfl, ?_⟩
            first | exact (Below.refl _ _).alloc (Nat.le_refl _) _ | exact ((Below.refl _ _).alloc (Nat.le_refl _) _).alloc (by simp) _ | exact (((Below.refl _ _).alloc (Nat.le_refl _) _).alloc (by simp) _).alloc (by simp; omega) _
        · have hF : bins.fitB 1 len 0 = true := rfl
          rcases cases_r with h | ⟨h, hE⟩
          all_goals
            go_wp2_with (first | (go_at_call 15; refine (bins.index_any _ _ _ _ _ _ (HS2.out _) (by omega)).mono ?_; rintro e w' ⟨⟨r', hr', rfl⟩, rfl⟩; obtain rfl := bins.IsFirst.same HR.out hr'; clear hr') | (go_at_call 16; refine (bins.fits_any _ _ _ _ _ (by omega) (by omega) (by omega) (by omega) (by omega) (by omega)).mono ?_; rintro e w' ⟨rfl, rfl⟩))
            go_ret
            refine ⟨rfl, ?_⟩
            first | exact (Below.refl _ _).alloc (Nat.le_refl _) _ | exact ((Below.refl _ _).alloc (Nat.le_refl _) _).alloc (by simp) _ | exact (((Below.refl _ _).alloc (Nat.le_refl _) _).alloc (by simp) _).alloc (by simp; omega) _
        · have hF : bins.fitB 1 len 1 = true := rfl
          rcases cases_r with h | ⟨h, hE⟩
          all_goals
            go_wp2_with (first | (go_at_call 15; refine (bins.index_any _ _ _ _ _ _ (HS2.out _) (by omega)).mono ?_; rintro e w' ⟨⟨r', hr', rfl⟩, rfl⟩; obtain rfl := bins.IsFirst.same HR.out hr'; clear hr') | (go_at_call 16; refine (bins.fits_any _ _ _ _ _ (by omega) (by omega) (by omega) (by omega) (by omega) (by omega)).mono ?_; rintro e w' ⟨rfl, rfl⟩))
            go_ret
            refine ⟨rfl, ?_⟩
            first | exact (Below.refl _ _).alloc (Nat.le_refl _) _ | exact ((Below.refl _ _).alloc (Nat.le_refl _) _).alloc (by simp) _ | exact (((Below.refl _ _).alloc (Nat.le_refl _) _).alloc (by simp) _).alloc (by simp; omega) _
        · have hF : bins.fitB 1 len n = false := by unfold bins.fitB; rw [if_neg (by omega), if_pos rfl, if_neg hn1, if_neg hn2]
          have hb0 : (n == 0) = false := by simp [hn1]
          have hb1 : (n == 1) = false := by simp [hn2]
          clear hn1 hn2
          rcases cases_r with h | ⟨h, hE⟩
          all_goals
            go_wp2_with (first | (go_at_call 15; refine (bins.index_any _ _ _ _ _ _ (HS2.out _) (by omega)).mono ?_; rintro e w' ⟨⟨r', hr', rfl⟩, rfl⟩; obtain rfl := bins.IsFirst.same HR.out hr'; clear hr') | (go_at_call 16; refine (bins.fits_any _ _ _ _ _ (by omega) (by omega) (by omega) (by omega) (by omega) (by omega)).mono ?_; rintro e w' ⟨rfl, rfl⟩))
            go_ret
            refine ⟨rfl, ?_⟩
            first | exact (Below.refl _ _).alloc (Nat.le_refl _) _ | exact ((Below.refl _ _).alloc (Nat.le_refl _) _).alloc (by simp) _ | exact (((Below.refl _ _).alloc (Nat.le_refl _) _).alloc (by simp) _).alloc (by simp; omega) _
        · have hF : bins.fitB 3 len n = false := by unfold bins.fitB; rw [if_neg (by omega), if_neg (by omega), if_pos rfl, if_pos hn]
          rcases cases_r with h | ⟨h, hE⟩
          all_goals
            go_wp2_with (first | (go_at_call 15; refine (bins.index_any _ _ _ _ _ _ (HS2.out _) (by omega)).mono ?_; rintro e w' ⟨⟨r', hr', rfl⟩, rfl⟩; obtain rfl := bins.IsFirst.same HR.out hr'; clear hr') | (go_at_call 16; refine (bins.fits_any _ _ _ _ _ (by omega) (by omega) (by omega) (by omega) (by omega) (by omega)).mono ?_; rintro e w' ⟨rfl, rfl⟩))
            go_ret
            refine ⟨rfl, ?_⟩
            first | exact (Below.refl _ _).alloc (Nat.le_refl _) _ | exact ((Below.refl _ _).alloc (Nat.le_refl _) _).alloc (by simp) _ | exact (((Below.refl _ _).alloc (Nat.le_refl _) _).alloc (by simp) _).alloc (by simp; omega) _
        · have hF : bins.fitB 3 len n = true := by unfold bins.fitB; rw [if_neg (by omega), if_neg (by omega), if_pos rfl, if_neg (by omega), if_pos hn2]
          rcases cases_r with h | ⟨h, hE⟩
          all_goals
            go_wp2_with (first | (go_at_call 15; refine (bins.index_any _ _ _ _ _ _ (HS2.out _) (by omega)).mono ?_; rintro e w' ⟨⟨r', hr', rfl⟩, rfl⟩; obtain rfl := bins.IsFirst.same HR.out hr'; clear hr') | (go_at_call 16; refine (bins.fits_any _ _ _ _ _ (by omega) (by omega) (by omega) (by omega) (by omega) (by omega)).mono ?_; rintro e w' ⟨rfl, rfl⟩))
            go_ret
            refine ⟨rfl, ?_⟩
            first | exact (Below.refl _ _).alloc (Nat.le_refl _) _ | exact ((Below.refl _ _).alloc (Nat.le_refl _) _).alloc (by simp) _ | exact (((Below.refl _ _).alloc (Nat.le_refl _) _).alloc (by simp) _).alloc (by simp; omega) _
        · have hF : bins.fitB 3 len n = false := by unfold bins.fitB; rw [if_neg (by omega), if_neg (by omega), if_pos rfl, if_neg (by omega), if_neg hn2]
          rcases cases_r with h | ⟨h, hE⟩
          all_goals
            go_wp2_with (first | (go_at_call 15; refine (bins.index_any _ _ _ _ _ _ (HS2.out _) (by omega)).mono ?_; rintro e w' ⟨⟨r', hr', rfl⟩, rfl⟩; obtain rfl := bins.IsFirst.same HR.out hr'; clear hr') | (go_at_call 16; refine (bins.fits_any _ _ _ _ _ (by omega) (by omega) (by omega) (by omega) (by omega) (by omega)).mono ?_; rintro e w' ⟨rfl, rfl⟩))
            go_ret
            refine ⟨rfl, ?_⟩
            first | exact (Below.refl _ _).alloc (Nat.le_refl _) _ | exact ((Below.refl _ _).alloc (Nat.le_refl _) _).alloc (by simp) _ | exact (((Below.refl _ _).alloc (Nat.le_refl _) _).alloc (by simp) _).alloc (by simp; omega) _
      · obtain ⟨k2, rfl⟩ : ∃ k2, k1 = k2 + 1 := ⟨k1 - 1, by omega⟩
        obtain rfl : m = (k2 : Int) := by omega
        clear hm1 hz
        obtain ⟨b, off, rfl, hc⟩ := HC.out k2 (by omega)
        have hd := first_down HR.out (show k2 < len by omega)
        have HD := Lib.hid hd
        clear hd HR
        cases hp : bins.At ss c k2
        · have hq : ((ss[k2]?.getD ByteArray.empty).toList == c.toList) = false := by
            simp only [bins.At, beq_eq_false_iff_ne, ne_eq] at hp ⊢
            exact fun h => hp h.symm
          have HP := Lib.hid hp
          clear hp
          go_wp2
          go_round
          case rel => exact ⟨k2, r, _, by omega, by omega, rfl, rfl, Lib.hid (HD.out.2 HP.out)⟩
          case measure => simp [intOf]
        · have hq : ((ss[k2]?.getD ByteArray.empty).toList == c.toList) = true := by
            simp only [bins.At, beq_iff_eq] at hp ⊢
            exact hp.symm
          have HP := Lib.hid hp
          clear hp
          go_wp2
          go_round
          case rel => exact ⟨k2, k2, _, by omega, by omega, rfl, rfl, Lib.hid (HD.out.1 HP.out)⟩
          case measure => simp [intOf]

/-! THE ROW's STEP -/
set_option maxRecDepth 100000 in
theorem lifted (os : Os) (started : os.Started) (H : Type) (enc : TypeId × Value → H) :
    ReturnsInHanded {} Try.checked os 9 .any (Rows.numsFitsSpec.pre6 enc Try.prog Try.f9 Rows.numsFitsRow.domain false) (Rows.numsFitsSpec.post enc Try.prog Try.f9 false true false false) := by
  refine returnsInHanded_of_change (C := Try.checked) own started (by kernel_rfl) Try.func9
    (ChangeSpec.witness6 (enc := enc) (C := Try.checked) false ⟨#[], #[.slice none 0 0, .string ByteArray.empty, .int .u8 0, .string ByteArray.empty, .int .i32 0], []⟩ 8 (by kernel_rfl) (by kernel_rfl) (by kernel_rfl) (by kernel_rfl)) ?_
  intro W base args ds gs before hval0 hW hcnd _
  have hval : ∀ (j : Nat) t v, Try.f9.params[j]? = some t → args[j]? = some v → Value.okWide Try.prog W .any base t v := hval0
  have hW' := hW
  obtain ⟨p, q, hA0, hV, rfl, hfz, hnd⟩ := hW
  have hA : DataW.TrodAll enc Try.prog W 0 (fun _ => true) true Try.f9.params.toList args.toList ds p := hA0
  rw [Try.params9] at hA hval
  obtain ⟨v0, vs0, d0, ds0, p0, q0, hargs, rfl, rfl, h0, r0⟩ := trodAll_cons hA
  obtain ⟨v1, vs1, d1, ds1, p1, q1, rfl, rfl, rfl, h1, r1⟩ := trodAll_cons r0
  obtain ⟨v2, vs2, d2, ds2, p2, q2, rfl, rfl, rfl, h2, r2⟩ := trodAll_cons r1
  obtain ⟨v3, vs3, d3, ds3, p3, q3, rfl, rfl, rfl, h3, r3⟩ := trodAll_cons r2
  obtain ⟨v4, vs4, d4, ds4, p4, q4, rfl, rfl, rfl, h4, r4⟩ := trodAll_cons r3
  obtain ⟨rfl, rfl, rfl⟩ := trodAll_nil r4
  obtain rfl : args = #[v0, v1, v2, v3, v4] := by cases args; simp_all
  obtain ⟨rfl, rfl⟩ := trodVars_none hV
  obtain ⟨a0, len0, cap0, rfl⟩ := okWide_slice Try.underlying30 (hval 0 30 v0 rfl rfl)
  have k0 := h0
  have lt0 : ∀ x ∈ p0, x.block < W.heap.size := by obtain ⟨m, hm⟩ := k0; exact DataW.trod_lt m _ _ _ hm
  obtain ⟨ss, w0⟩ : ∃ ss, bins.IsStrs W a0 len0 cap0 ss := by
    obtain ⟨fuel, hf⟩ := h0
    rcases open_strings Try.underlying30 Try.underlying9 (by kernel_rfl) hf with ⟨hcs, _⟩ | ⟨x, l, c, ss, hcs, _, hl, hm, hz, _, hcell, hwz⟩
    · simp [Value.cells] at hcs
      obtain ⟨rfl, rfl, rfl⟩ := hcs
      exact ⟨[], Nat.le_refl _, Nat.zero_le _, rfl, fun i hi => by omega⟩
    · simp [Value.cells] at hcs
      obtain ⟨rfl, rfl, rfl⟩ := hcs
      simp only [if_true] at hz
      refine ⟨ss, hl, hm, hz, fun i hi => ?_⟩
      obtain ⟨b, off, spot⟩ := x
      have hspot : spot = none := by simpa [Addr.add] using World.cell?_spot (hcell 0 (by omega))
      subst hspot
      exact ⟨b, off, rfl, by rw [← add_plain]; exact hcell i (by omega)⟩
  obtain ⟨s1, rfl, rfl, rfl, ws1⟩ := open_string Try.underlying9 (hval 1 9 v1 rfl rfl) h1
  obtain ⟨a2, rfl, rfl, rfl, w2⟩ := open_int Try.underlying5 (hval 2 5 v2 rfl rfl) h2
  obtain ⟨s3, rfl, rfl, rfl, ws3⟩ := open_string Try.underlying9 (hval 3 9 v3 rfl rfl) h3
  obtain ⟨a4, rfl, rfl, rfl, w4⟩ := open_int Try.underlying21 (hval 4 21 v4 rfl rfl) h4
  clear hA0 hval0
  refine (walk a0 len0 cap0 ss s1 a2 s3 a4 W w0 w2 w4).mono fun e W' ⟨he, bel⟩ => ?_
  subst he
  exact ⟨_, rfl, _, _, _, [], _, [], hW', trodAll_mk1 (shut_bool Try.underlying4 _), (trodAll_cons_mk (Below.trod laidOut (by kernel_rfl) (of_decide_eq_true (by kernel_rfl)) k0 bel lt0) (trodAll_cons_mk (shut_string Try.underlying9 ws1) (trodAll_cons_mk (shut_int Try.underlying5 w2) (trodAll_cons_mk (shut_string Try.underlying9 ws3) (trodAll_cons_mk (shut_int Try.underlying21 w4) trodAll_mk0))))), rfl, bel.frame _, fun h => by cases h⟩

theorem over : Rows.numsFitsRow.holds Try.pinned (OpenSpec.ofChange Rows.numsFitsSpec) :=
  OpenClaim.holds_of_wide 9 Try.f9 rfl rfl rfl rfl rfl rfl rfl ⟨rfl, rfl, rfl, rfl, rfl⟩ rfl rfl rfl rfl rfl (by kernel_rfl) Try.func9 (by kernel_rfl)
    (of_decide_eq_true (by kernel_rfl)) (by unfold Func.isWrapper; first | (rw [if_pos (by decide +kernel)]; kernel_rfl) | (rw [if_neg (by decide +kernel)]; exact ⟨rfl, rfl⟩))
    (fun os started H enc _ => lifted os started H enc)

theorem proved : Rows.NumsFitsSaid :=
  over
#print axioms proved
end Go.Proofs.Ytdbieelknploaaa.numsFits
