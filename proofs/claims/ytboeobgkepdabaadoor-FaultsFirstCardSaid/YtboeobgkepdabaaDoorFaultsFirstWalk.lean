/-
  Of some errors First is that of the least place, of several the first: of up to twenty lines, columns and kinds the law's own choice and faults.First agree, in kind and place; where every kind is OK it is none. Condition: errors.errorType holds at the call's begin what the program's text lays; the card ties it. The walk.
-/
import Derived.Test.YtboeobgkepdabaaDoorRows
import Derived.StillTailTactics
import Derived.Test.YtboeobgkepdabaaDoorFcLaw
import Derived.Test.YtboeobgkepdabaaDoorFcAtK
import Derived.Test.YtboeobgkepdabaaDoorFtAtQ
import Derived.WalkKit
import Derived.ProofKit
import Derived.OpenShut
import Derived.Below
import Derived.Lib.Hide
import Derived.Outline
import Derived.Deep.LoopGhost
namespace Go.Proofs.YtboeobgkepdabaaDoor.faultsFirst
open Go.ChangeShapes Go.WideShapes Go.ChangeAt Go.RowKit
set_option linter.unusedVariables false
/-- WHAT THE WALK IS TOLD OF A SLICE OF INTEGERS THAT CAME IN: it is nil; or it leads to a row of 'cap' cells, the numbers 'zs' (the first 'len' are its elements, the rest its spare room), each fitting its kind. -/
def IsRow (k : IntKind) (w : World) (a : Option Addr) (len cap : Nat) (zs : List Int) : Prop :=
  (a = none ∧ len = 0 ∧ cap = 0 ∧ zs = []) ∨
  ∃ x, a = some x ∧ len ≤ cap ∧ cap ≤ maxLen ∧ zs.length = cap ∧ (∀ i, i < zs.length → w.cell? (x.add i) = some (.int k (zs.getD i 0))) ∧ ∀ n ∈ zs, (Lit.int k n).wf = true

open Go.Proofs.YtboeobgkepdabaaDoor.lx (Has)
theorem lat_below {w W W' : World} {X Y Z : Nat → Int} {es : List (Option ft.Er)} {u : Value} (h : ft.LAt w X Y Z es u W) (hb : Below W.heap.size W W') : ft.LAt w X Y Z es u W' :=
  ⟨ft.owns_below h.own hb, fun j e hj => (h.laid j e hj).below hb, h.src, h.low.trans (hb.mono h.low.size)⟩
theorem kind_any (k : Nat) (hk : k ≤ 255) (w : World) : Calls Tryd.prog 10 #[.int .u8 (k : Int)] w fun e w' => e = .returned (.int .i64 (1 + ((k % 12 : Nat) : Int))) ∧ w' = w := by
  go_enter Tryd.func10, Tryd.ntmps10
  go_wp2_with fail
  go_ret
  exact ⟨rfl, rfl⟩
set_option maxRecDepth 100000 in
set_option maxHeartbeats 8000000 in

theorem walk (a0 : Option Addr) (len0 cap0 : Nat) (z0 : List Int) (a1 : Option Addr) (len1 cap1 : Nat) (z1 : List Int) (a2 : Option Addr) (len2 cap2 : Nat) (z2 : List Int) (w : World) (w0 : IsRow .i64 w a0 len0 cap0 z0) (w1 : IsRow .i64 w a1 len1 cap1 z1) (w2 : IsRow .u8 w a2 len2 cap2 z2) (hT : ft.Handle w) :
    Calls Tryd.prog 6 #[.slice a0 len0 cap0, .slice a1 len1 cap1, .slice a2 len2 cap2] w fun e w' => e = .returned (.bool true) ∧ Below w.heap.size w w' := by
  obtain ⟨i0, hi0', hz0', hz1', hz2'⟩ := info_parts ft.err_info
  have ⟨q0, m0⟩ := ft.ints_of w0
  have ⟨q1, m1⟩ := ft.ints_of w1
  have ⟨q2, m2⟩ := ft.ints_of w2
  clear w0 w1 w2
  generalize hX : (fun i => z0.getD i 0) = X at q0
  generalize hY : (fun i => z1.getD i 0) = Y at q1
  generalize hZ : (fun i => z2.getD i 0) = Z at q2
  have HX := Lib.hid q0
  have HY := Lib.hid q1
  have HZ := Lib.hid q2
  have HH := Lib.hid hT
  unfold maxLen at m0 m1 m2
  clear q0 q1 q2 hX hY hZ hT
  go_enter Tryd.func6, Tryd.ntmps6
  go_wp2_with fail
  refine (ft.awake_any _ HH.out).mono ?_
  rintro e wa ⟨rfl, hba⟩
  have HBA := Lib.hid hba
  clear hba
  by_cases hl20 : 20 < len0
  · go_wp2_with fail
    refine (ft.awake_any _ (HH.out.below HBA.out)).mono ?_
    rintro e wb ⟨rfl, hbb⟩
    have HBB := Lib.hid (HBA.out.trans (hbb.mono HBA.out.size))
    clear hbb
    go_wp2_with fail
    go_ret
    exact ⟨rfl, HBB.out⟩
  have HL0 := Lib.hid (ft.LAt.start w wa X Y Z HBA.out)
  go_wp2_with fail
  go_loopw [7, 8, 9] (fun lv bv iv wr => ∃ (i : Nat) (es : List (Option ft.Er)) (u : Value) (bi : Int), es.length = i ∧ (i ≤ len0 ∧ i ≤ len1 ∧ i ≤ len2) ∧ iv = .int .i64 i ∧ u = lv ∧ bv = .int .i64 bi ∧ Hid (ft.BestAt es bi) ∧ Hid (ft.LAt w X Y Z es u wr)) (fun _ _ iv _ => len0 - (intOf iv).toNat)
  case atStart => exact ⟨0, [], _, -1, rfl, by omega, rfl, rfl, rfl, Lib.hid (.inl ⟨rfl, rfl⟩), HL0⟩
  case round =>
    obtain ⟨i, es, u, bi, hes, hil, rfl, hu, rfl, HBI, HL⟩ := hrel
    subst hu
    have j0 : (0 : Int) ≤ (i : Int) := Int.natCast_nonneg _
    by_cases hin : i < len0 ∧ i < len1 ∧ i < len2
    · obtain ⟨hi0, hi1, hi2⟩ := hin
      have J0 : (i : Int) < (len0 : Int) := by omega
      have J1 : (i : Int) < (len1 : Int) := by omega
      have J2 : (i : Int) < (len2 : Int) := by omega
      obtain ⟨b0, o0, rfl, x0, wf0⟩ := HX.out i hi0
      obtain ⟨b1, o1, rfl, x1, wf1⟩ := HY.out i hi1
      obtain ⟨b2, o2, rfl, x2, wf2⟩ := HZ.out i hi2
      have hz := bounds_u8 wf2
      obtain ⟨n, hn⟩ := Int.eq_ofNat_of_zero_le hz.1
      have hn255 : n ≤ 255 := by omega
      have HSRC := Lib.hid hn
      rw [hn] at x2
      clear hz wf0 wf1 wf2 hn
      obtain ⟨x, hx⟩ : ∃ x, x = X i := ⟨_, rfl⟩
      obtain ⟨y, hy⟩ : ∃ y, y = Y i := ⟨_, rfl⟩
      rw [← hx] at x0
      rw [← hy] at x1
      have HXX := Lib.hid hx
      have HYY := Lib.hid hy
      clear hx hy
      have X0 := Lib.hid x0
      have X1 := Lib.hid x1
      have l0 := World.block_lt_of_cell? w _ x0
      have l1 := World.block_lt_of_cell? w _ x1
      have l2 := World.block_lt_of_cell? w _ x2
      have z0 := (HL.out.low.cell (p := ⟨b0, o0 + i, none⟩) l0).trans x0
      have z1 := (HL.out.low.cell (p := ⟨b1, o1 + i, none⟩) l1).trans x1
      have z2 := (HL.out.low.cell (p := ⟨b2, o2 + i, none⟩) l2).trans x2
      have HK := Lib.hid (kind_any n hn255 wr)
      clear x0 x1 x2
      obtain ⟨K, hK⟩ : ∃ K : Int, K = if n % 5 = 0 then 0 else 1 + ((n % 12 : Nat) : Int) := ⟨_, rfl⟩
      have HKD := Lib.hid hK
      have HON : Hid (∀ (W4 : World) o, Below wr.heap.size wr W4 → (W4.alloc o).ownsRow w.heap.size 27 1 u es.length (es.map ft.valE)) := Lib.hid (fun W4 o hb => (ft.owns_below HL.out.own hb).alloc o)
      have HC3 : Hid (es.length + 1 ≤ maxLen) := Lib.hid (by unfold maxLen; omega)
      have HC4 : Hid ((es.length + 1) * 16 ≤ 140737488355328) := Lib.hid (by omega)
      have HLOW := Lib.hid HL.out.low
      have HSL : Hid (∀ W, Below w.heap.size w W → (W.cell? ⟨b0, o0 + i, none⟩ = some (.int .i64 x) ∧ W.cell? ⟨b1, o1 + i, none⟩ = some (.int .i64 y))) := Lib.hid (fun W hb => ⟨(hb.cell (p := ⟨b0, o0 + i, none⟩) l0).trans X0.out, (hb.cell (p := ⟨b1, o1 + i, none⟩) l1).trans X1.out⟩)
      have HSK : Hid (∀ W, Below wr.heap.size wr W → (W.cell? ⟨b0, o0 + i, none⟩ = some (.int .i64 x) ∧ W.cell? ⟨b1, o1 + i, none⟩ = some (.int .i64 y))) := Lib.hid (fun W hb => HSL.out W (HLOW.out.trans (hb.mono HLOW.out.size)))
      have HSD := Lib.hid (HSK.out _ ((Below.refl _ wr).drew))
      have HSE : Hid (∀ g4 e, ft.mkE g4 x y K = some e → e.x = X es.length ∧ e.y = Y es.length ∧ ∃ n : Nat, Z es.length = n ∧ n ≤ 255 ∧ e.k = 1 + ((n % 12 : Nat) : Int)) := Lib.hid (fun g4 e he => by
        rw [hes, HSRC.out, ← HXX.out, ← HYY.out]
        unfold ft.mkE at he
        by_cases h : n % 5 = 0
        · rw [HKD.out, if_pos h] at he; simp at he
        · rw [HKD.out, if_neg h, if_neg (by omega)] at he
          obtain rfl := Option.some.inj he
          exact ⟨rfl, rfl, n, rfl, by omega, rfl⟩)
      by_cases h5 : n % 5 = 0
      · have hK0 : K = 0 := by rw [hK, if_pos h5]
        have hKn : K = 0 := hK0
        clear hK hK0
        go_wp2_with fail
        refine HK.out.mono ?_
        rintro e w3 ⟨rfl, h3⟩
        rw [h3]
        clear h3
        go_wp2_with fail
        subst hKn
        go_region_held3 (fun w' => w'.cell? ⟨b0, o0 + i, none⟩ = some (.int .i64 x) ∧ w'.cell? ⟨b1, o1 + i, none⟩ = some (.int .i64 y)) (first | with_reducible exact HS5.out | with_reducible exact HSA.out | with_reducible exact HS4.out | with_reducible exact HSD.out | fail) (first | (go_at_call 9; refine (ft.new_0 _ x y).mono ?_; rintro e w4 ⟨rfl, hb4⟩; have HB4 : Hid (Below wr.heap.size wr w4) := Lib.hid (((Below.refl _ wr).drew).trans hb4); have HSZ4 : Hid (w.heap.size ≤ (w4.alloc (.cells #[.nilIface] 27)).heap.size) := Lib.hid (by have a := HLOW.out.size; have b := HB4.out.size; simp only [World.size_alloc]; omega); have HS4 := Lib.hid (HSK.out w4 HB4.out); have HSA := Lib.hid (HSK.out _ (HB4.out.alloc HB4.out.size (.cells #[.nilIface] 27))); clear hb4) | (refine step_append_lies _ (by rfl) _ _ _ (by rfl) w.heap.size 27 i0 _ 1 16 Tryd.underlying47 hi0' hz0' hz1' hz2' rfl (by decide) u _ _ (by rfl) (HON.out w4 _ HB4.out) ⟨w4.heap.size, 0, none⟩ 1 1 [.nilIface] (by rfl) (by rfl) (World.news_of_block (cs := #[.nilIface]) (t := 27) (fr := (0, 0)) (heap_alloc_new w4 _)) (by simp [Value.oneCell']) (by decide) HC3.out HC4.out HSZ4.out _ rfl ?_; intro pg cap w5 hown5 hgrow5 hat5 hlt5; have HM5 := Lib.hid (HL.out.snoc HB4.out none trivial (fun e he => by cases he) _ hown5 hgrow5); have HS5 := Lib.hid (HSL.out w5 HM5.out.low); clear hown5 hgrow5 hat5 hlt5) | fail)
        all_goals
          rw [hes] at HM5
          have HM6 := HM5
          clear HM5
          go_wp2_with fail
          go_quiet (fail)
          go_wp2_with fail
          go_roundw
          case rel => exact ⟨i + 1, es ++ [none], _, bi, by simp [hes], by omega, by go_num, rfl, rfl, Lib.hid (HBI.out.keep none (by cases ft.bst es <;> rfl)), Lib.hid (lat_below HM6.out ⟨rfl, rfl, rfl, Nat.le_refl _, fun _ _ => rfl⟩)⟩
          case measure => simp [intOf]; omega
      · have hK1 : K = 1 + ((n % 12 : Nat) : Int) := by rw [hK, if_neg h5]
        have hKn : K ≠ 0 := by omega
        have HKK := Lib.hid hK1
        clear hK
        go_wp2_with fail
        refine HK.out.mono ?_
        rintro e w3 ⟨rfl, h3⟩
        rw [h3]
        clear h3
        rw [← HKK.out]
        clear hK1
        have hk0 : (K == 0) = false := beq_eq_false_iff_ne.2 hKn
        go_wp2_with fail
        go_region_held3 (fun w' => w'.cell? ⟨b0, o0 + i, none⟩ = some (.int .i64 x) ∧ w'.cell? ⟨b1, o1 + i, none⟩ = some (.int .i64 y)) (first | with_reducible exact HS5.out | with_reducible exact HSA.out | with_reducible exact HS4.out | with_reducible exact HSD.out | fail) (first | (go_at_call 9; refine (ft.new_k _ K x y hKn).mono ?_; rintro e w4 ⟨g4, hgl4, rfl, hE4, hb4⟩; have HE4 := Lib.hid hE4; clear hE4 hgl4; have HB4 : Hid (Below wr.heap.size wr w4) := Lib.hid (((Below.refl _ wr).drew).trans hb4); have HSZ4 : Hid (w.heap.size ≤ (w4.alloc (.cells #[.iface 41 (.pointer (some ⟨g4, 0, none⟩))] 27)).heap.size) := Lib.hid (by have a := HLOW.out.size; have b := HB4.out.size; simp only [World.size_alloc]; omega); have HS4 := Lib.hid (HSK.out w4 HB4.out); have HSA := Lib.hid (HSK.out _ (HB4.out.alloc HB4.out.size (.cells #[.iface 41 (.pointer (some ⟨g4, 0, none⟩))] 27))); clear hb4) | (refine step_append_lies _ (by rfl) _ _ _ (by rfl) w.heap.size 27 i0 _ 1 16 Tryd.underlying47 hi0' hz0' hz1' hz2' rfl (by decide) u _ _ (by rfl) (HON.out w4 _ HB4.out) ⟨w4.heap.size, 0, none⟩ 1 1 [.iface 41 (.pointer (some ⟨g4, 0, none⟩))] (by rfl) (by rfl) (World.news_of_block (cs := #[.iface 41 (.pointer (some ⟨g4, 0, none⟩))]) (t := 27) (fr := (0, 0)) (heap_alloc_new w4 _)) (by simp [Value.oneCell']) (by decide) HC3.out HC4.out HSZ4.out _ rfl ?_; intro pg cap w5 hown5 hgrow5 hat5 hlt5; have HM5 := Lib.hid (HL.out.snoc HB4.out (some ⟨g4, x, y, K⟩) HE4.out (fun e he => HSE.out g4 e (by rw [ft.mkE, if_neg hKn]; exact he)) _ hown5 hgrow5); have HS5 := Lib.hid (HSL.out w5 HM5.out.low); clear hown5 hgrow5 hat5 hlt5) | fail)
        all_goals
          rw [hes] at HM5
          rcases HBI.out with ⟨hb1, hb2⟩ | ⟨j, d, hb1, hb2, hb3⟩
          · have HBN := Lib.hid (ft.BestAt.turn (es := es) ⟨g4, x, y, K⟩ (by rw [hb1]; rfl))
            rw [hes] at HBN
            clear hb1
            subst hb2
            have hkn : (K != 0) = true := by rw [bne, hk0]; rfl
            go_wp2_with fail
            go_quiet (fail)
            go_wp2_with fail
            go_roundw
            case rel => exact ⟨i + 1, es ++ [some ⟨g4, x, y, K⟩], _, _, by simp [hes], by omega, by go_num, rfl, rfl, HBN, Lib.hid (lat_below (W := w5) HM5.out ⟨rfl, rfl, rfl, Nat.le_refl _, fun _ _ => rfl⟩)⟩
            case measure => simp [intOf]; omega
          · subst hb1
            have hkn : (K != 0) = true := by rw [bne, hk0]; rfl
            have HDS := Lib.hid (HL.out.src j d hb2)
            have hjl : j < es.length := (List.getElem?_eq_some_iff.1 hb2).1
            obtain ⟨c0, p0, ea0, y0, _⟩ := HX.out j (by omega)
            obtain ⟨c1, p1, ea1, y1, _⟩ := HY.out j (by omega)
            simp only [Option.some.injEq, Addr.mk.injEq, and_true] at ea0 ea1
            obtain ⟨rfl, rfl⟩ := ea0
            obtain ⟨rfl, rfl⟩ := ea1
            rw [← HDS.out.1] at y0
            rw [← HDS.out.2.1] at y1
            have v0 := (HM5.out.low.cell (p := ⟨b0, o0 + i, none⟩) l0).trans X0.out
            have v1 := (HM5.out.low.cell (p := ⟨b1, o1 + i, none⟩) l1).trans X1.out
            have u0 := (HM5.out.low.cell (p := ⟨b0, o0 + j, none⟩) l0).trans y0
            have u1 := (HM5.out.low.cell (p := ⟨b1, o1 + j, none⟩) l1).trans y1
            have j2 : (0 : Int) ≤ (j : Int) := Int.natCast_nonneg _
            have J3 : (j : Int) < (len0 : Int) := by omega
            have J4 : (j : Int) < (len1 : Int) := by omega
            obtain ⟨dx, hdx⟩ : ∃ dx, dx = d.x := ⟨_, rfl⟩
            obtain ⟨dy, hdy⟩ : ∃ dy, dy = d.y := ⟨_, rfl⟩
            rw [← hdx] at u0
            rw [← hdy] at u1
            have HE : Hid (∀ b : Bool, decide (x < dx ∨ x = dx ∧ y < dy) = b → ft.pick (ft.bst es) (some ⟨g4, x, y, K⟩) = if b = true then some ⟨g4, x, y, K⟩ else some d) := Lib.hid (fun b hb => by rw [hb3]; show (if ft.earlier ⟨g4, x, y, K⟩ d = true then _ else _) = _; rw [show ft.earlier ⟨g4, x, y, K⟩ d = b from (by unfold ft.earlier; rw [← hdx, ← hdy]; exact hb)])
            have HB3 := Lib.hid hb3
            clear y0 y1 z0 z1 z2 hb2 hb3 hdx hdy
            have hn1 : decide ((j : Int) < 0) = false := decide_eq_false (by omega)
            by_cases h1 : x < dx
            · have f1 : decide (x < dx) = true := decide_eq_true h1
              have HBN := Lib.hid (ft.BestAt.turn (es := es) ⟨g4, x, y, K⟩ (by have := HE.out true (decide_eq_true (by omega)); simpa using this))
              rw [hes] at HBN
              go_wp2_with fail
              go_quiet (fail)
              all_goals
                go_wp2_with fail
                go_roundw
                case rel => exact ⟨i + 1, es ++ [some ⟨g4, x, y, K⟩], _, _, by simp [hes], by omega, by go_num, rfl, rfl, HBN, Lib.hid (lat_below (W := w5) HM5.out ⟨rfl, rfl, rfl, Nat.le_refl _, fun _ _ => rfl⟩)⟩
                case measure => simp [intOf]; omega
            · by_cases h2 : x = dx
              · by_cases h3 : y < dy
                · have e2 : (x == dx) = true := by rw [h2]; exact beq_self_eq_true _
                  have f1 : decide (x < dx) = false := decide_eq_false h1
                  have f3 : decide (y < dy) = true := decide_eq_true h3
                  have HBN := Lib.hid (ft.BestAt.turn (es := es) ⟨g4, x, y, K⟩ (by have := HE.out true (decide_eq_true (by omega)); simpa using this))
                  rw [hes] at HBN
                  go_wp2_with fail
                  go_quiet (fail)
                  all_goals
                    go_wp2_with fail
                    go_roundw
                    case rel => exact ⟨i + 1, es ++ [some ⟨g4, x, y, K⟩], _, _, by simp [hes], by omega, by go_num, rfl, rfl, HBN, Lib.hid (lat_below (W := w5) HM5.out ⟨rfl, rfl, rfl, Nat.le_refl _, fun _ _ => rfl⟩)⟩
                    case measure => simp [intOf]; omega
                · have e2 : (x == dx) = true := by rw [h2]; exact beq_self_eq_true _
                  have f1 : decide (x < dx) = false := decide_eq_false h1
                  have f3 : decide (y < dy) = false := decide_eq_false h3
                  have HBN := Lib.hid (HBI.out.keep (some ⟨g4, x, y, K⟩) (by have := HE.out false (decide_eq_false (by omega)); rw [this, HB3.out]; rfl))
                  go_wp2_with fail
                  go_quiet (fail)
                  all_goals
                    go_wp2_with fail
                    go_roundw
                    case rel => exact ⟨i + 1, es ++ [some ⟨g4, x, y, K⟩], _, _, by simp [hes], by omega, by go_num, rfl, rfl, HBN, Lib.hid (lat_below (W := w5) HM5.out ⟨rfl, rfl, rfl, Nat.le_refl _, fun _ _ => rfl⟩)⟩
                    case measure => simp [intOf]; omega
              · have e2 : (x == dx) = false := beq_eq_false_iff_ne.2 h2
                have f1 : decide (x < dx) = false := decide_eq_false h1
                have HBN := Lib.hid (HBI.out.keep (some ⟨g4, x, y, K⟩) (by have := HE.out false (decide_eq_false (by omega)); rw [this, HB3.out]; rfl))
                go_wp2_with fail
                go_quiet (fail)
                all_goals
                  go_wp2_with fail
                  go_roundw
                  case rel => exact ⟨i + 1, es ++ [some ⟨g4, x, y, K⟩], _, _, by simp [hes], by omega, by go_num, rfl, rfl, HBN, Lib.hid (lat_below (W := w5) HM5.out ⟨rfl, rfl, rfl, Nat.le_refl _, fun _ _ => rfl⟩)⟩
                  case measure => simp [intOf]; omega
    · have hlr := HL.out.row
      obtain ⟨ab, cb, hub, hrow⟩ := hlr
      have HF := Lib.hid (ft.first_any es ab cb wr (HH.out.below HL.out.low) hrow (by omega))
      rw [hes] at hub HF
      subst hub
      have hlow := HL.out.low
      have HLOW := Lib.hid hlow
      have hlaid := HL.out.laid
      have hsrc := HL.out.src
      rcases HBI.out with ⟨hb1, rfl⟩ | ⟨j, d, rfl, hb2, hb3⟩
      · rw [hb1] at HF
        clear hb1 hrow hlow hlaid hsrc hes
        rcases (show ¬ i < len0 ∨ (i < len0 ∧ ¬ i < len1) ∨ (i < len0 ∧ i < len1 ∧ ¬ i < len2) by omega) with hc | ⟨hc0, hc⟩ | ⟨hc0, hc1, hc⟩
        all_goals
          clear hin
          go_wp2_with fail
          refine HF.out.mono ?_
          rintro e w6 ⟨rfl, hb6⟩
          have HB6 := Lib.hid (HLOW.out.trans (hb6.mono HLOW.out.size))
          clear hb6
          simp only [ft.valE]
          go_wp2_with fail
          go_ret
          exact ⟨rfl, HB6.out⟩
      · rw [hb3] at HF
        have hjl : j < es.length := (List.getElem?_eq_some_iff.1 hb2).1
        obtain ⟨sx, sy, n, sz, hn255, sk⟩ := hsrc j d hb2
        have HD := Lib.hid (show Has wr d.g 50 #[.int .i64 d.x, .int .i64 d.y, .string ⟨#[]⟩, .bool false, .iface 29 (.int .i64 d.k)] from hlaid j (some d) hb2)
        obtain ⟨b0, o0, rfl, x0, _⟩ := HX.out j (by omega)
        obtain ⟨b1, o1, rfl, x1, _⟩ := HY.out j (by omega)
        obtain ⟨b2, o2, rfl, x2, _⟩ := HZ.out j (by omega)
        rw [← sx] at x0
        rw [← sy] at x1
        rw [sz] at x2
        have l0 := World.block_lt_of_cell? w _ x0
        have l1 := World.block_lt_of_cell? w _ x1
        have l2 := World.block_lt_of_cell? w _ x2
        have hwk : ft.wantK d.k = d.k := by
          unfold ft.wantK
          have := Nat.mod_lt n (show 0 < 12 by decide)
          split <;> omega
        have HSS : Hid (∀ W, Below w.heap.size w W → (W.cell? ⟨b0, o0 + j, none⟩ = some (.int .i64 d.x) ∧ W.cell? ⟨b1, o1 + j, none⟩ = some (.int .i64 d.y) ∧ W.cell? ⟨b2, o2 + j, none⟩ = some (.int .u8 (n : Int)))) := Lib.hid (fun W hb => ⟨(hb.cell (p := ⟨b0, o0 + j, none⟩) l0).trans x0, (hb.cell (p := ⟨b1, o1 + j, none⟩) l1).trans x1, (hb.cell (p := ⟨b2, o2 + j, none⟩) l2).trans x2⟩)
        have HKK : Hid (∀ W, Calls Tryd.prog 10 #[.int .u8 (n : Int)] W fun e w' => e = .returned (.int .i64 d.k) ∧ w' = W) := Lib.hid (fun W => by rw [sk]; exact kind_any n hn255 W)
        have HKD : Hid (∀ W, Below wr.heap.size wr W → Calls Tryd.prog 15 #[.iface 41 (.pointer (some ⟨d.g, 0, none⟩))] W fun e w' => e = .returned (.int .i64 d.k) ∧ Below W.heap.size W w') := Lib.hid (fun W hb => by
          have := ft.kind_ak d.g d.x d.y d.k ⟨#[]⟩ false W (HD.out.below hb HD.out.lt)
          rw [hwk] at this
          exact this)
        have HWD : Hid (∀ W, Below wr.heap.size wr W → Calls Tryd.prog 16 #[.iface 41 (.pointer (some ⟨d.g, 0, none⟩))] W fun e w' => e = .returned (.agg #[.int .i64 d.x, .int .i64 d.y]) ∧ Below W.heap.size W w') := Lib.hid (fun W hb => ft.where_at d.g d.x d.y d.k ⟨#[]⟩ W (HH.out.below (HLOW.out.trans (hb.mono HLOW.out.size))) (HD.out.below hb HD.out.lt))
        have J0 : (0 : Int) ≤ (j : Int) := Int.natCast_nonneg _
        have J1 : (j : Int) < (len0 : Int) := by omega
        have J2 : (j : Int) < (len1 : Int) := by omega
        have J3 : (j : Int) < (len2 : Int) := by omega
        have HCS := Lib.hid (show ¬ i < len0 ∨ (i < len0 ∧ ¬ i < len1) ∨ (i < len0 ∧ i < len1 ∧ ¬ i < len2) by omega)
        clear hrow hlow hlaid hsrc hes sx sy sz sk x0 x1 x2 hwk hb2 hb3 hin hn255
        rcases HCS.out with hc | ⟨hc0, hc⟩ | ⟨hc0, hc1, hc⟩
        all_goals
          go_wp2_with fail
          refine HF.out.mono ?_
          rintro e w6 ⟨rfl, hb6⟩
          have HB6 := Lib.hid hb6
          have HS6 := Lib.hid (HSS.out _ ((HLOW.out.trans (hb6.mono HLOW.out.size)).drew))
          clear hb6
          simp only [ft.valE]
          go_wp2_with fail
          go_region_held3 (fun w' => w'.cell? ⟨b0, o0 + j, none⟩ = some (.int .i64 d.x) ∧ w'.cell? ⟨b1, o1 + j, none⟩ = some (.int .i64 d.y) ∧ w'.cell? ⟨b2, o2 + j, none⟩ = some (.int .u8 (n : Int))) (first | with_reducible exact HS9.out | with_reducible exact HS7.out | with_reducible exact HS6.out | fail) (first | (go_at_call 15; refine (HKD.out _ HB6.out.drew).mono ?_; rintro e w7 ⟨rfl, hb7⟩; have HB7 : Hid (Below wr.heap.size wr w7) := Lib.hid (HB6.out.drew.trans (hb7.mono HB6.out.drew.size)); have HS7 := Lib.hid (HSS.out w7 (HLOW.out.trans (HB7.out.mono HLOW.out.size))); clear hb7) | (go_at_call 10; refine (HKK.out _).mono ?_; rintro e w8 ⟨rfl, h8⟩; rw [h8]; clear h8) | (go_at_call 16; refine (HWD.out w7 HB7.out).mono ?_; rintro e w9 ⟨rfl, hb9⟩; have HB9 : Hid (Below wr.heap.size wr w9) := Lib.hid (HB7.out.trans (hb9.mono HB7.out.size)); have HS9 := Lib.hid (HSS.out w9 (HLOW.out.trans (HB9.out.mono HLOW.out.size))); clear hb9) | fail)
          all_goals
            go_wp2_with fail
            go_ret
            exact ⟨rfl, HLOW.out.trans (HB9.out.mono HLOW.out.size)⟩
end Go.Proofs.YtboeobgkepdabaaDoor.faultsFirst
