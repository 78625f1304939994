/-
  Find, FindNode, FindEnum, CtorEnum, Ctors and Value find variables, nodes, types and constructors by their names, as the document says, among variables, nodes and types that are made of any names (of more than 40 names, more than 20 types, or types of more than 40 constructors the law says nothing). No condition. The walk.
-/
import Derived.Test.YtjkkalhgbfbcbaaTrState
import Derived.Deep.RegionLaw
import Derived.Deep.RegionHeld3
import Derived.Deep.AppendLies
import Derived.IntWalk
import Derived.Test.YtjkkalhgbfbcbaaTrAwake
import Derived.Outline
import Derived.Deep.LoopGhost
namespace Go.Proofs.Ytjkkalhgbfbcbaa.treeFinds
open Go.ChangeShapes Go.WideShapes Go.ChangeAt Go.RowKit
set_option linter.unusedVariables false
open tr
set_option maxRecDepth 100000 in
set_option maxHeartbeats 40000000 in
theorem walk (w : World) (a0 : Option Addr) (ss0 : List ByteArray) (c0 : Nat) (hc0 : ss0.length ≤ c0) (hm0 : c0 ≤ maxLen) (hs0 : tr.Strs w a0 ss0) (a1 : Option Addr) (rs1 : List tr.Rw) (c1 : Nat) (hc1 : rs1.length ≤ c1) (hm1 : c1 ≤ maxLen) (hs1 : tr.Rowss w a1 rs1) (s2 : ByteArray) (ws2 : s2.size ≤ maxLen) (n3 : Int) (wn3 : (Lit.int .u8 n3).wf = true) :
    Calls Try.prog 5 #[.slice a0 ss0.length c0, .slice a1 rs1.length c1, .string s2, .int .u8 n3] w fun e w' => e = .returned (.bool true) ∧ Below w.heap.size w w' := by
  unfold maxLen at hm0 hm1
  by_cases g0 : 40 < ss0.length
  · go_enter Try.func5, Try.ntmps5
    go_wp2_with fail
    refine (awake_any _).mono ?_
    rintro e w2 ⟨rfl, hb2⟩
    have HB2 := Lib.hid hb2
    clear hb2
    go_wp2_with fail
    refine (awake_any _).mono ?_
    rintro e w3 ⟨rfl, hb3⟩
    have HB3 := Lib.hid (HB2.out.trans (hb3.mono HB2.out.size))
    clear hb3
    go_wp2_with fail
    go_ret
    exact ⟨rfl, HB3.out⟩
  by_cases g1 : 20 < rs1.length
  · go_enter Try.func5, Try.ntmps5
    go_wp2_with fail
    refine (awake_any _).mono ?_
    rintro e w2 ⟨rfl, hb2⟩
    have HB2 := Lib.hid hb2
    clear hb2
    go_wp2_with fail
    refine (awake_any _).mono ?_
    rintro e w3 ⟨rfl, hb3⟩
    have HB3 := Lib.hid (HB2.out.trans (hb3.mono HB2.out.size))
    clear hb3
    go_wp2_with fail
    go_ret
    exact ⟨rfl, HB3.out⟩
  have hS := hs0
  have HS := Lib.hid hs0
  have HR := Lib.hid hs1
  clear hs0 hs1 hS
  go_enter Try.func5, Try.ntmps5
  go_wp2_with fail
  refine (awake_any _).mono ?_
  rintro e w2 ⟨rfl, hb2⟩
  have HB2 := Lib.hid hb2
  clear hb2
  go_wp2_with fail
  obtain ⟨iv0, hvi, hvz, hvs, hvb⟩ := info_parts var_info
  obtain ⟨in0, hni, hnz, hns, hnb⟩ := info_parts node_info
  obtain ⟨ie0, hei, hez, hes, heb⟩ := info_parts enum_info
  have HM0 := Lib.hid (Made.start w w2 s2 HB2.out)
  go_loopw [9, 11, 12] (fun vv wv iv wr => ∃ (i : Nat) (u : Value), i ≤ ss0.length ∧ iv = .int .i64 i ∧ wv = .int .i64 (fstN (hitsL s2 (ss0.take i)) 0) ∧ Hid (Made w w2.heap.size s2 (ss0.take i) (ss0.take i) [] vv (.slice none 0 0) u wr)) (fun _ _ iv _ => ss0.length - (intOf iv).toNat)
  case atStart => exact ⟨0, _, by omega, rfl, by rw [List.take_zero]; rfl, Lib.hid (by rw [List.take_zero]; exact HM0.out)⟩
  case round =>
    obtain ⟨i, u, hi, rfl, rfl, HM⟩ := hrel
    by_cases hlt : i < ss0.length
    · obtain ⟨xb, xo, rfl, hc1, _⟩ := HS.out i ss0[i] (List.getElem?_eq_getElem hlt)
      obtain ⟨x, hx⟩ : ∃ x, x = ss0[i] := ⟨_, rfl⟩
      rw [← hx] at hc1
      have htk : ss0.take (i + 1) = ss0.take i ++ [x] := by rw [hx, List.take_succ_eq_append_getElem hlt]
      have htl : (ss0.take i).length = i := by rw [List.length_take]; omega
      have q1 : wr.cell? ⟨xb, xo + i, none⟩ = some (.string x) := (HM.out.below.cell (p := ⟨xb, xo + i, none⟩) (World.block_lt_of_cell? w _ hc1)).trans hc1
      have i0 : (0 : Int) ≤ (i : Int) := Int.natCast_nonneg _
      have i1 : (i : Int) < (ss0.length : Int) := by omega
      have hvars := HM.out.vars
      have hwant : fstN (hitsL s2 (ss0.take (i + 1))) 0 = if 0 ≤ fstN (hitsL s2 (ss0.take i)) 0 then fstN (hitsL s2 (ss0.take i)) 0 else if eqS x s2 = true then (i : Int) else -1 := by
        rw [htk, hitsL, List.map_append]
        rw [show List.map (fun x => eqS x s2) [x] = [eqS x s2] from rfl, fstN_snoc]
        simp only [hitsL, List.length_map, htl, Nat.zero_add]
        rfl
      have HTK := Lib.hid htk
      have HTL := Lib.hid htl
      have HOV := Lib.hid hvars
      have HX1 := Lib.hid hc1
      have HWANT := Lib.hid hwant
      have HC3 : Hid ((ss0.take i).length + 1 ≤ maxLen) := Lib.hid (by rw [htl]; unfold maxLen; omega)
      have HC4 : Hid (((ss0.take i).length + 1) * 176 ≤ 140737488355328) := Lib.hid (by rw [htl]; omega)
      have HC5 : Hid (((ss0.take i).length + 1) * 128 ≤ 140737488355328) := Lib.hid (by rw [htl]; omega)
      have HC6 : Hid (w.heap.size ≤ (wr.alloc (.cells (varC x).toArray 52)).heap.size) := Lib.hid (by have := HM.out.below.size; simp only [World.size_alloc]; omega)
      obtain ⟨wn, hwn⟩ : ∃ wn, wn = fstN (hitsL s2 (ss0.take i)) 0 := ⟨_, rfl⟩
      have hrw : wn = -1 ∨ 0 ≤ wn := by have := fstN_range (hitsL s2 (ss0.take i)) 0; rw [← hwn] at this; omega
      rw [← hwn] at HWANT
      rw [← hwn]
      clear hx hc1 htk htl hvars hwant hwn
      go_wp2_with (at_builtin; refine wpList_append_lies _ rfl _ _ 32 rfl w.heap.size 52 iv0 _ 15 176 Try.underlying32 hvi hvz hvs hvb rfl (by decide) _ _ _ rfl (HOV.out.alloc _) ⟨wr.heap.size, 0, none⟩ 1 1 (varC x) rfl rfl (news_of wr (varC x) 52 _ rfl) (oneV x) (by decide) HC3.out HC4.out HC6.out _ rfl ?_; intro g3 cap3 w3 hown3 hgr3 hg3 hlt3)
      have HM3 := Lib.hid (HM.out.var hown3 hgr3)
      clear hown3 hgr3 hg3 hlt3
      have q3 : w3.cell? ⟨xb, xo + i, none⟩ = some (.string x) := (HM3.out.below.cell (p := ⟨xb, xo + i, none⟩) (World.block_lt_of_cell? w _ HX1.out)).trans HX1.out
      have b1 := HM3.out.box.cell 1
      simp only [List.getElem?_toArray, List.getElem?_cons_zero, List.getElem?_cons_succ] at b1
      have hGl := HM3.out.box.lt
      have HC7 : Hid (w.heap.size ≤ (w3.alloc (.cells (nodeC x).toArray 39)).drew.heap.size) := Lib.hid (by have := HM3.out.below.size; simp; omega)
      have HON : Hid (((w3.alloc (.cells (nodeC x).toArray 39)).drew).ownsRow w.heap.size 39 7 u (ss0.take i).length ((ss0.take i).flatMap nodeC)) := Lib.hid (HM3.out.alloc _).nodes
      have HNW : Hid (∀ j z, (nodeC x)[j]? = some z → ((w3.alloc (.cells (nodeC x).toArray 39)).drew).cell? ((⟨w3.heap.size, 0, none⟩ : Addr).add j) = some z) := Lib.hid (news_of w3 (nodeC x) 39 _ rfl)
      have FB : Hid (∀ w5 : World, ((w3.alloc (.cells (nodeC x).toArray 39)).drew).grownBy w5 u.ownBlock → w5.cell? ⟨w2.heap.size, 1, none⟩ = some u ∧ w5.frozen? ⟨w2.heap.size, 1, none⟩ = false ∧ w2.heap.size < w5.heap.size) := Lib.hid (fun w5 hg => by
        have hb := HM3.out.boxN (o := .cells (nodeC x).toArray 39) (w3 := w5) ⟨hg.os, hg.tape, hg.output, hg.size, hg.block⟩
        exact ⟨by simpa using hb.cell 1, hb.free 1, hb.lt⟩)
      go_wp2_with fail
      go_region_law ((refine step_append_lies _ (by rfl) _ _ 26 (by rfl) w.heap.size 39 in0 _ 7 128 Try.underlying26 hni hnz hns hnb rfl (by decide) u _ _ (by rfl) HON.out ⟨w3.heap.size, 0, none⟩ 1 1 (nodeC x) (by rfl) (by rfl) HNW.out (oneN x) (by decide) HC3.out HC5.out HC7.out _ rfl ?_; intro g5 cap5 w5 hown5 hgr5 hg5 hlt5; obtain ⟨fb1, fb2, fb3⟩ := FB.out w5 hgr5))
      all_goals
        have hM5 := HM3.out.node hown5 ⟨hgr5.os, hgr5.tape, hgr5.output, hgr5.size, hgr5.block⟩
        rw [HTL.out] at hM5
        have HM5 := Lib.hid hM5
        clear hM5
        clear hown5 hgr5 hg5 hlt5
        have q5 := (HM5.out.below.cell (p := ⟨xb, xo + i, none⟩) (World.block_lt_of_cell? w _ HX1.out)).trans HX1.out
        clear q1 q3 b1 hGl fb1 fb2 fb3
        cases he : eqS x s2
        · have hw : fstN (hitsL s2 (ss0.take (i + 1))) 0 = wn := by rw [HWANT.out, he]; rcases hrw with rfl | h <;> simp [*]
          have HW := Lib.hid hw
          have e1 : (x.toList == s2.toList) = false := he
          clear hw he hrw
          go_wp2_with fail
          go_roundw
          case rel => exact ⟨i + 1, _, by omega, by go_num, by rw [HW.out], Lib.hid (by rw [HTK.out]; exact HM5.out)⟩
          case measure => simp [intOf]; omega
        · have e1 : (x.toList == s2.toList) = true := he
          rcases hrw with rfl | h
          · have hw : fstN (hitsL s2 (ss0.take (i + 1))) 0 = i := by rw [HWANT.out, he]; simp
            have HW := Lib.hid hw
            clear hw he
            go_wp2_with fail
            go_roundw
            case rel => exact ⟨i + 1, _, by omega, by go_num, by rw [HW.out], Lib.hid (by rw [HTK.out]; exact HM5.out)⟩
            case measure => simp [intOf]; omega
          · have hw : fstN (hitsL s2 (ss0.take (i + 1))) 0 = wn := by rw [HWANT.out, he, if_pos h]
            have HW := Lib.hid hw
            have hd : decide (wn < 0) = false := by rw [decide_eq_false_iff_not]; omega
            clear hw he
            go_wp2_with fail
            go_roundw
            case rel => exact ⟨i + 1, _, by omega, by go_num, by rw [HW.out], Lib.hid (by rw [HTK.out]; exact HM5.out)⟩
            case measure => simp [intOf]; omega
    · obtain rfl : i = ss0.length := by omega
      rw [List.take_length] at HM
      obtain ⟨wn, hwn⟩ : ∃ wn, wn = fstN (hitsL s2 (ss0.take ss0.length)) 0 := ⟨_, rfl⟩
      rw [← hwn]
      rw [List.take_length] at hwn
      have HWN := Lib.hid hwn
      clear hwn
      go_wp2_with fail
      go_loopw [13] (fun jv wr2 => ∃ (j : Nat) (ev : Value), j ≤ rs1.length ∧ jv = .int .i64 j ∧ Hid (∀ r ∈ rs1.take j, r.names.length ≤ 40) ∧ Hid (Made w w2.heap.size s2 ss0 ss0 (rs1.take j) u9 ev u wr2)) (fun jv _ => rs1.length - (intOf jv).toNat)
      case atStart => exact ⟨0, _, by omega, rfl, Lib.hid (by intro r hr; simp at hr), HM⟩
      case round =>
        obtain ⟨j, ev, hj, rfl, HL40, HN⟩ := hrel
        by_cases hjt : j < rs1.length
        · obtain ⟨rb, ro, rfl, hc2, hst, _⟩ := HR.out j rs1[j] (List.getElem?_eq_getElem hjt)
          obtain ⟨r, hr⟩ : ∃ r, r = rs1[j] := ⟨_, rfl⟩
          rw [← hr] at hc2 hst
          have htk : rs1.take (j + 1) = rs1.take j ++ [r] := by rw [hr, List.take_succ_eq_append_getElem hjt]
          have htl : (rs1.take j).length = j := by rw [List.length_take]; omega
          have j0 : (0 : Int) ≤ (j : Int) := Int.natCast_nonneg _
          have j1 : (j : Int) < (rs1.length : Int) := by omega
          have q1 : wr.cell? ⟨rb, ro + j, none⟩ = some (.slice r.at_ r.names.length r.cap) := (HN.out.below.cell (p := ⟨rb, ro + j, none⟩) (World.block_lt_of_cell? w _ hc2)).trans hc2
          have HTK := Lib.hid htk
          have HTL := Lib.hid htl
          clear hr htk htl hc2 hst
          by_cases h40 : 40 < r.names.length
          · go_wp2_with fail
            go_ret
            exact ⟨rfl, HN.out.below⟩
          have hGl := HN.out.box.lt
          have b0 := HN.out.box.cell 0
          simp only [List.getElem?_toArray, List.getElem?_cons_zero] at b0
          have HC3 : Hid ((rs1.take j).length + 1 ≤ maxLen) := Lib.hid (by rw [HTL.out]; unfold maxLen; omega)
          have HC4 : Hid (((rs1.take j).length + 1) * 56 ≤ 140737488355328) := Lib.hid (by rw [HTL.out]; omega)
          have HC7 : Hid (w.heap.size ≤ (wr.alloc (.cells (enumC s2 r).toArray 58)).drew.heap.size) := Lib.hid (by have := HN.out.below.size; simp; omega)
          have HON : Hid (((wr.alloc (.cells (enumC s2 r).toArray 58)).drew).ownsRow w.heap.size 58 4 ev (rs1.take j).length ((rs1.take j).flatMap (enumC s2))) := Lib.hid (HN.out.alloc _).enums
          have HNW : Hid (∀ i z, (enumC s2 r)[i]? = some z → ((wr.alloc (.cells (enumC s2 r).toArray 58)).drew).cell? ((⟨wr.heap.size, 0, none⟩ : Addr).add i) = some z) := Lib.hid (news_of wr (enumC s2 r) 58 _ rfl)
          have FB : Hid (∀ w5 : World, ((wr.alloc (.cells (enumC s2 r).toArray 58)).drew).grownBy w5 ev.ownBlock → w5.cell? ⟨w2.heap.size, 0, none⟩ = some ev ∧ w5.frozen? ⟨w2.heap.size, 0, none⟩ = false ∧ w2.heap.size < w5.heap.size) := Lib.hid (fun w5 hg => by
            have hb := HN.out.boxE (o := .cells (enumC s2 r).toArray 58) (w3 := w5) ⟨hg.os, hg.tape, hg.output, hg.size, hg.block⟩
            exact ⟨by simpa using hb.cell 0, hb.free 0, hb.lt⟩)
          have HL41 : Hid (∀ r' ∈ rs1.take (j + 1), r'.names.length ≤ 40) := Lib.hid (by
            intro r' hr'
            rw [HTK.out] at hr'
            rcases List.mem_append.1 hr' with h | h
            · exact HL40.out r' h
            · rw [List.mem_singleton.1 h]; exact Nat.le_of_not_lt h40)
          have H40 := Lib.hid h40
          go_wp2_with fail
          go_region_law ((refine step_append_lies _ (by rfl) _ _ 25 (by rfl) w.heap.size 58 ie0 _ 4 56 Try.underlying25 hei hez hes heb rfl (by decide) ev _ _ (by rfl) HON.out ⟨wr.heap.size, 0, none⟩ 1 1 (enumC s2 r) (by rfl) (by rfl) HNW.out (oneE s2 r) (by decide) HC3.out HC4.out HC7.out _ rfl ?_; intro g5 cap5 w5 hown5 hgr5 hg5 hlt5; obtain ⟨fb1, fb2, fb3⟩ := FB.out w5 hgr5))
          all_goals
            have hM5 := HN.out.enum hown5 ⟨hgr5.os, hgr5.tape, hgr5.output, hgr5.size, hgr5.block⟩
            rw [HTL.out] at hM5
            have HM5 := Lib.hid hM5
            clear hM5 hown5 hgr5 hg5 hlt5 q1 b0 fb1 fb2 fb3 hGl
            go_wp2_with fail
            go_roundw
            case rel => exact ⟨j + 1, _, by omega, by go_num, HL41, Lib.hid (by rw [HTK.out]; exact HM5.out)⟩
            case measure => simp [intOf]; omega
        · obtain rfl : j = rs1.length := by omega
          rw [List.take_length] at HN HL40
          obtain ⟨av, cv, hv, hvn⟩ := names_owned varC (fun _ => rfl) (fun _ => rfl) (by decide) HN.out.vars
          obtain ⟨an, cn, hu, hnn⟩ := names_owned nodeC (fun _ => rfl) (fun _ => rfl) (by decide) HN.out.nodes
          have hrow : ∀ r ∈ rs1, Strs w r.at_ r.names := by
            intro r hr
            obtain ⟨k, hk⟩ := List.mem_iff_getElem?.1 hr
            obtain ⟨_, _, _, _, hst, _⟩ := HR.out k r hk
            exact hst
          obtain ⟨ae, ce, hev, hen⟩ := enums_owned (nm := s2) (fun r hr => ⟨HL40.out r hr, (hrow r hr).below HN.out.below⟩) HN.out.enums
          subst hv hu hev
          have hbox := HN.out.box
          have hbel := HN.out.below
          obtain ⟨L, hL⟩ : ∃ L, L = rs1.map (·.names) := ⟨_, rfl⟩
          have hLl : L.length = rs1.length := by rw [hL]; simp
          have hz : ∀ cs ∈ L, ∀ s ∈ cs, s.size ≤ maxLen := by
            intro cs hcs s hs
            rw [hL] at hcs
            obtain ⟨r, hr, rfl⟩ := List.mem_map.1 hcs
            obtain ⟨k, hk⟩ := List.mem_iff_getElem?.1 hs
            obtain ⟨_, _, _, _, hsz⟩ := hrow r hr k s hk
            exact hsz
          rw [← hL] at hen
          have hLm : L.length ≤ maxLen := by rw [hLl]; unfold maxLen; omega
          have hSm : ss0.length ≤ maxLen := by unfold maxLen; omega
          have ⟨n3a, n3b⟩ := bounds_u8 wn3
          obtain ⟨k, hk⟩ := Int.eq_ofNat_of_zero_le (show 0 ≤ n3 % 5 by omega)
          have hk255 : k ≤ 255 := by omega
          have hAt := fun wx (hb : Below wr.heap.size wr wx) => ctorAt_any wx ae s2 L ce s2 (hen.below hb) hLm
          have hFi := fun wx (hb : Below wr.heap.size wr wx) => find_any wx av ss0 cv s2 (hvn.below hb) hSm
          have hNo := fun wx (hb : Below wr.heap.size wr wx) => findNode_any wx an ss0 cn (.slice ae rs1.length ce) s2 (hnn.below hb) hSm
          have hCE := fun wx (hb : Below wr.heap.size wr wx) => ctorEnum_any wx ae L ce s2 s2 (hen.below hb) hLm
          have hCT := fun wx (hb : Below wr.heap.size wr wx) => ctorsT_any wx ae L ce k s2 hk255 (hen.below hb) hz hLm
          have hCR := fun wx (hb : Below wr.heap.size wr wx) => ctorsR_any wx ae L ce k s2 hk255 (hen.below hb) hLm
          have hFE := fun wx (hb : Below wr.heap.size wr wx) => findEnum_any wx ae L ce s2 s2 (hen.below hb) hLm
          have hVC := fun wx (hb : Below wr.heap.size wr wx) => value_ctor wx ae s2 L ce s2 (hen.below hb) hLm
          rw [hLl] at hAt hCE hCT hCR hFE hVC
          rw [← HWN.out] at hFi hNo
          rw [← ctorAt_fst] at hCE
          rw [show ((k : Nat) : Int) = n3 % 5 from hk.symm] at hCT hCR
          obtain ⟨p, hp⟩ : ∃ p, p = ctorAt s2 L 0 := ⟨_, rfl⟩
          rw [← hp] at hAt hCE hVC
          obtain ⟨C, hC⟩ : ∃ C, C = ctorsOf k L := ⟨_, rfl⟩
          rw [← hC] at hCT hCR
          have hCl : C.length ≤ maxLen := by
            rw [hC]
            unfold ctorsOf
            split
            · decide
            · split
              · cases hLc : L with
                | nil => decide
                | cons x r =>
                  obtain ⟨h40, _⟩ := hen 0 x (by rw [hLc]; rfl)
                  unfold maxLen
                  simp only [List.headD_cons]
                  omega
              · decide
          have hfirst : fstN (L.map fun _ => eqS s2 s2) 0 = if rs1.length = 0 then -1 else 0 := by
            cases hLc : L with
            | nil => rw [if_pos (by rw [← hLl, hLc]; rfl)]; rfl
            | cons x r => rw [if_neg (by rw [← hLl, hLc]; simp), List.map_cons, fstN, eqS_refl, if_pos rfl]; rfl
          rw [hfirst] at hFE
          have hp2 : 0 ≤ p.1 → 0 ≤ p.2 ∧ p.2 ≤ 40 := by
            intro h0
            rw [hp] at h0 ⊢
            obtain ⟨n, x, hn, he, hx⟩ := ctorAt_found s2 L 0 h0
            obtain ⟨h40, _⟩ := hen n x hn
            have hr := fstN_range (hits s2 x) 0
            have hlen : (hits s2 x).length = x.length := by simp [hits]
            have h0' : 0 ≤ fstN (hits s2 x) 0 := by unfold hasB at hx; exact of_decide_eq_true hx
            rw [he]
            simp only
            omega
          have HP2 := Lib.hid hp2
          clear hp2
          have HAt := Lib.hid hAt
          have HFi := Lib.hid hFi
          have HNo := Lib.hid hNo
          have HCE := Lib.hid hCE
          have HCT := Lib.hid hCT
          have HCR := Lib.hid hCR
          have HFE := Lib.hid hFE
          have HVC := Lib.hid hVC
          have HBX := Lib.hid hbox
          have HBW := Lib.hid hbel
          have HCL := Lib.hid hCl
          clear hAt hFi hNo hCE hCT hCR hFE hVC hL hLl hz hen hvn hnn hrow hLm hSm hp hC hbox hbel hCl hfirst hk HN HM HS HR HL40 HM0
          have b0 := HBX.out.cell 0
          have b1 := HBX.out.cell 1
          simp only [List.getElem?_toArray, List.getElem?_cons_zero, List.getElem?_cons_succ] at b0 b1
          go_wp2_with fail
          refine (HAt.out _ (Below.refl _ _)).mono ?_
          rintro e w4 ⟨rfl, rfl⟩
          go_wp2_with fail
          have hb4 := (Below.refl w4.heap.size w4).alloc (Nat.le_refl _) (.cells #[.int .u8 (n3 % 5), .string s2] 49)
          have hT := Has.new w4 49 #[.int .u8 (n3 % 5), .string s2]
          have hG := HBX.out.alloc (.cells #[.int .u8 (n3 % 5), .string s2] 49)
          have hbw : ∀ wx, Below (w4.alloc (.cells #[.int .u8 (n3 % 5), .string s2] 49)).heap.size (w4.alloc (.cells #[.int .u8 (n3 % 5), .string s2] 49)) wx → Below w4.heap.size w4 wx := fun wx h => hb4.trans (h.mono hb4.size)
          generalize hWW : w4.alloc (.cells #[.int .u8 (n3 % 5), .string s2] 49) = W4 at *
          have hBWs : w.heap.size ≤ w4.heap.size := HBW.out.size
          generalize hgT : w4.heap.size = gT at *
          have hS : ∀ w', Below W4.heap.size W4 w' → (Below W4.heap.size W4 w' ∧ w'.cell? ⟨w2.heap.size, 0, none⟩ = some (.slice ae rs1.length ce) ∧ w'.cell? ⟨w2.heap.size, 1, none⟩ = some (.slice an ss0.length cn) ∧ w'.cell? ⟨gT, 0, none⟩ = some (.int .u8 (n3 % 5)) ∧ w'.cell? ⟨gT, 1, none⟩ = some (.string s2)) := fun w' hb => by
            have h1 := hG.below hb hG.lt
            have h2 := hT.below hb hT.lt
            have c0 := h1.cell 0
            have c1 := h1.cell 1
            have d0 := h2.cell 0
            have d1 := h2.cell 1
            simp only [List.getElem?_toArray, List.getElem?_cons_zero, List.getElem?_cons_succ] at c0 c1 d0 d1
            exact ⟨hb, c0, c1, d0, d1⟩
          have HK4 : Hid (∀ (w1 w' : World) (R : Prop), (Below W4.heap.size W4 w1 ∧ R) → Below w1.heap.size w1 w' → (Below W4.heap.size W4 w' ∧ w'.cell? ⟨w2.heap.size, 0, none⟩ = some (.slice ae rs1.length ce) ∧ w'.cell? ⟨w2.heap.size, 1, none⟩ = some (.slice an ss0.length cn) ∧ w'.cell? ⟨gT, 0, none⟩ = some (.int .u8 (n3 % 5)) ∧ w'.cell? ⟨gT, 1, none⟩ = some (.string s2))) := Lib.hid (fun w1 w' R h hb => hS w' (h.1.trans (hb.mono h.1.size)))
          have HS4 := Lib.hid hS
          have HBW4 := Lib.hid hbw
          have HB0 := Lib.hid (hS W4.drew (Below.refl _ _).drew)
          have hww : (wn != wn) = false := bne_self_eq_false _
          have hpp : (p.1 != p.1) = false := bne_self_eq_false _
          have hCC := namesB_refl C
          have HCC := Lib.hid hCC
          clear hCC hS hbw hb4 hT hG b0 b1 hWW hgT
          go_wp2_with fail
          go_region_held3 (fun w' => Below W4.heap.size W4 w' ∧ w'.cell? ⟨w2.heap.size, 0, none⟩ = some (.slice ae rs1.length ce) ∧ w'.cell? ⟨w2.heap.size, 1, none⟩ = some (.slice an ss0.length cn) ∧ w'.cell? ⟨gT, 0, none⟩ = some (.int .u8 (n3 % 5)) ∧ w'.cell? ⟨gT, 1, none⟩ = some (.string s2))
            (first | exact HB0.out | exact HK4.out _ _ _ (by assumption) hb7 | exact HK4.out _ _ _ (by assumption) (below_drewN (Below.refl _ _) _))
            (first
              | (go_at_call 20; refine (HFi.out _ (HBW4.out _ (And.left (by assumption)))).mono ?_; rintro e w7 ⟨rfl, hb7⟩)
              | (go_at_call 21; refine (HNo.out _ (HBW4.out _ (And.left (by assumption)))).mono ?_; rintro e w7 ⟨rfl, hb7⟩)
              | (go_at_call 22; refine (HCE.out _ (HBW4.out _ (And.left (by assumption)))).mono ?_; rintro e w7 ⟨rfl, hb7⟩)
              | (go_at_call 23; refine (HCT.out _ (HBW4.out _ (And.left (by assumption)))).mono ?_; rintro e w7 ⟨⟨a3, c3, rfl, hs3⟩, hb7⟩)
              | (go_at_call 24; refine (HCR.out _ (HBW4.out _ (And.left (by assumption)))).mono ?_; rintro e w7 ⟨⟨a4, c4, rfl, hs4⟩, hb7⟩)
              | (go_at_call 10; refine (samenames_any _ _ _ _ _ _ _ (hs3.below hb7) hs4 HCL.out HCL.out).mono ?_; rw [HCC.out]; rintro e w8 ⟨rfl, n8, rfl⟩))
          have hb8 : Below W4.heap.size W4 (w7.drewN n8) := And.left (by assumption)
          have hv8 := HS4.out _ hb8
          obtain ⟨_, c80, c81, d80, d81⟩ := hv8
          have HB1 := Lib.hid (HS4.out _ hb8.drew)
          have HB8 := Lib.hid hb8
          clear hb8 hs3 hs4 hb7
          generalize w7.drewN n8 = w8 at *
          have hff : ((if rs1.length = 0 then (-1 : Int) else 0) == (if rs1.length = 0 then (-1 : Int) else 0)) = true := beq_self_eq_true _
          by_cases hp0 : 0 ≤ p.1
          · have hvc : valueC p = .tuple #[.int .i32 p.2, .bool true] := if_pos hp0
            have ⟨hq1, hq2⟩ := HP2.out hp0
            have hwr : IntKind.i64.wrap p.2 = p.2 := IntWalk.i64_in _ (by omega)
            have hpe : (p.2 == p.2) = true := beq_self_eq_true _
            have hd : decide (0 ≤ p.1) = true := decide_eq_true hp0
            rw [hvc] at HVC
            clear hvc
            by_cases hr0 : rs1.length = 0
            all_goals
              first | (have hz0 : ((rs1.length : Int) == 0) = true := by rw [hr0]; rfl) | (have hz0 : ((rs1.length : Int) == 0) = false := by rw [beq_eq_false_iff_ne]; omega)
              first | rw [if_pos hr0] at HFE | rw [if_neg hr0] at HFE
              clear hr0 hff
              go_wp2_with fail
              clear c80 c81 d80 d81
              go_region_held3 (fun w' => Below W4.heap.size W4 w' ∧ w'.cell? ⟨w2.heap.size, 0, none⟩ = some (.slice ae rs1.length ce) ∧ w'.cell? ⟨w2.heap.size, 1, none⟩ = some (.slice an ss0.length cn) ∧ w'.cell? ⟨gT, 0, none⟩ = some (.int .u8 (n3 % 5)) ∧ w'.cell? ⟨gT, 1, none⟩ = some (.string s2))
                (first | exact HB1.out | exact HK4.out _ _ _ (by assumption) hb7)
                (first | (go_at_call 26; refine (ctor_any _ _).mono ?_; rintro e w7 ⟨rfl, hb7⟩) | (go_at_call 25; refine (HVC.out _ (HBW4.out _ (And.left (by assumption)))).mono ?_; rintro e w7 ⟨rfl, hb7⟩))
              have hb9 : Below W4.heap.size W4 w7 := And.left (by assumption)
              have hv9 := HS4.out _ hb9
              obtain ⟨_, c90, c91, d90, d91⟩ := hv9
              have HB9 := Lib.hid hb9
              clear hb9 hb7
              go_wp2_with fail
              refine (HFE.out _ (HBW4.out _ HB9.out)).mono ?_
              rintro e w10 ⟨rfl, hb10⟩
              have HB10 := Lib.hid (HB9.out.trans (hb10.mono HB9.out.size))
              clear hb10 c90 c91 d90 d91
              go_wp2_with fail
              go_ret
              exact ⟨rfl, HBW.out.trans ((HBW4.out _ HB10.out).mono hBWs)⟩
          · have hvc : valueC p = .tuple #[.int .i32 0, .bool false] := if_neg hp0
            have hd : decide (0 ≤ p.1) = false := decide_eq_false hp0
            rw [hvc] at HVC
            clear hvc
            by_cases hr0 : rs1.length = 0
            all_goals
              first | (have hz0 : ((rs1.length : Int) == 0) = true := by rw [hr0]; rfl) | (have hz0 : ((rs1.length : Int) == 0) = false := by rw [beq_eq_false_iff_ne]; omega)
              first | rw [if_pos hr0] at HFE | rw [if_neg hr0] at HFE
              clear hr0 hff
              go_wp2_with fail
              clear c80 c81 d80 d81
              go_region_held3 (fun w' => Below W4.heap.size W4 w' ∧ w'.cell? ⟨w2.heap.size, 0, none⟩ = some (.slice ae rs1.length ce) ∧ w'.cell? ⟨w2.heap.size, 1, none⟩ = some (.slice an ss0.length cn) ∧ w'.cell? ⟨gT, 0, none⟩ = some (.int .u8 (n3 % 5)) ∧ w'.cell? ⟨gT, 1, none⟩ = some (.string s2))
                (first | exact HB1.out | exact HK4.out _ _ _ (by assumption) hb7)
                (first | (go_at_call 26; refine (ctor_any _ _).mono ?_; rintro e w7 ⟨rfl, hb7⟩) | (go_at_call 25; refine (HVC.out _ (HBW4.out _ (And.left (by assumption)))).mono ?_; rintro e w7 ⟨rfl, hb7⟩))
              have hb9 : Below W4.heap.size W4 w7 := And.left (by assumption)
              have hv9 := HS4.out _ hb9
              obtain ⟨_, c90, c91, d90, d91⟩ := hv9
              have HB9 := Lib.hid hb9
              clear hb9 hb7
              go_wp2_with fail
              refine (HFE.out _ (HBW4.out _ HB9.out)).mono ?_
              rintro e w10 ⟨rfl, hb10⟩
              have HB10 := Lib.hid (HB9.out.trans (hb10.mono HB9.out.size))
              clear hb10 c90 c91 d90 d91
              go_wp2_with fail
              go_ret
              exact ⟨rfl, HBW.out.trans ((HBW4.out _ HB10.out).mono hBWs)⟩
end Go.Proofs.Ytjkkalhgbfbcbaa.treeFinds
