/-
  The law's block: chain.
-/
import Derived.Test.YtnejkgkikpgajaaDoorInCh4
import Derived.Test.YtnejkgkikpgajaaDoorPlBlock0
import Derived.Deep.CutBlock
import Derived.Deep.CutRange
namespace Go.Proofs.YtnejkgkikpgajaaDoor.ini
open Go.ChangeShapes Go.WideShapes Go.ChangeAt Go.RowKit
open tr ck Go.Sort
set_option linter.unusedVariables false
set_option linter.unusedSimpArgs false


set_option maxRecDepth 100000 in
set_option maxHeartbeats 16000000 in
theorem chain_le (w : World) (la : Option Addr) (lc : Nat) (L : List Nat) (hL : Lks w la L) (hm : L.length ≤ maxLen) (h12 : ¬ 12 < L.length) :
    Calls Tryd.prog 10 #[.slice la L.length lc] w (ChPost w) := by
  obtain ⟨iv0, hvi, hv3⟩ := Option.map_eq_some_iff.1 var_info
  simp only [Prod.mk.injEq] at hv3
  obtain ⟨hvz, hvs, hvb⟩ := hv3
  have HVI := Lib.hid hvi
  have HVZ := Lib.hid hvz
  have HVS := Lib.hid hvs
  have HVB := Lib.hid hvb
  obtain ⟨n, hn⟩ : ∃ n, n = min L.length 12 := ⟨_, rfl⟩
  have hn12 : n ≤ 12 := by omega
  have hnL : n ≤ L.length := by omega
  have HLK := Lib.hid hL
  obtain ⟨W0, hW0⟩ : ∃ W0, W0 = (w.alloc (.cells #[.slice none 0 0, .slice none 0 0] 45)).alloc (.cells #[.slice none 0 0, .slice none 0 0] 45) := ⟨_, rfl⟩
  have H0 : Hid (VI w none 0 0 W0) := Lib.hid (by
    rw [hW0]
    refine ⟨((Below.refl _ w).alloc (Nat.le_refl _) _).alloc (by simp) _, (Has.new w _ _).alloc _, ?_, World.ownsRow_nil _ _ _ _⟩
    have := Has.new (w.alloc (.cells #[.slice none 0 0, .slice none 0 0] 45)) 45 #[.slice none 0 0, .slice none 0 0]
    simpa using this)
  have HW0 := Lib.hid hW0
  unfold maxLen at hm
  obtain ⟨ie0, hei, he3⟩ := Option.map_eq_some_iff.1 eq_info
  simp only [Prod.mk.injEq] at he3
  obtain ⟨hez, hes, heb⟩ := he3
  have HEI := Lib.hid hei
  have HEZ := Lib.hid hez
  have HES := Lib.hid hes
  have HEB := Lib.hid heb
  clear hei hez hes heb
  clear hvi hvz hvs hvb hL hW0
  go_enter Tryd.func10, Tryd.ntmps10
  have HNI : Hid ((L.length : Int) = n) := Lib.hid (by omega)
  have hd : decide ((L.length : Int) > 12) = false := decide_eq_false (by omega)
  have hd2 : decide ((12 : Int) < (L.length : Int)) = false := decide_eq_false (by omega)
  clear hn h12
  go_wp2_with fail
  rw [← HW0.out]
  clear hd hd2
  rw [HNI.out]
  go_loopw [5] (fun iv wr => ∃ (j : Nat) (va : Option Addr) (vc : Nat), j ≤ n ∧ iv = .int .i64 j ∧ Hid (VI w va vc j wr)) (fun iv _ => n - (intOf iv).toNat)
  case atStart => exact ⟨0, none, 0, by omega, rfl, H0⟩
  case round =>
    obtain ⟨j, va, vc, hj, rfl, HR⟩ := hrel
    clear H0 HW0 HNI
    by_cases hlt : j < n
    · have i0 : (0 : Int) ≤ (j : Int) := Int.natCast_nonneg _
      have i1 : (j : Int) < (n : Int) := by omega
      have hsz := HR.out.below.size
      have x0 := HR.out.box.cell 0
      simp only [List.getElem?_toArray, List.getElem?_cons_zero, List.getElem?_cons_succ] at x0
      have hw2 : IntKind.i64.wrap (97 + (j : Int)) = 97 + (j : Int) := IntWalk.i64_in _ (by omega)
      have hw3 : IntKind.u8.wrap (97 + (j : Int)) = 97 + (j : Int) := by first | exact IntWalk.u8_in _ (by omega) | (unfold IntKind.wrap; simp; omega)
      obtain ⟨sj, hsj⟩ : ∃ sj : ByteArray, sj = ⟨#[UInt8.ofNat ((97 + (j : Int)).toNat)]⟩ := ⟨_, rfl⟩
      have HSJ : Hid ((⟨#[118]⟩ : ByteArray) ++ sj = nmv j) := Lib.hid (by rw [hsj]; exact nmv_sum j)
      have hcv := conv1 (wr.alloc (.cells #[.int .u8 (97 + (j : Int))] 5)) wr.heap.size 1 (97 + (j : Int)) (by omega) (by omega) (by simp)
      rw [← hsj] at hcv
      have HNW : Hid (∀ i z, ([.string ((⟨#[118]⟩ : ByteArray) ++ sj), .int .u8 2, .string ⟨#[]⟩, .slice none 0 0, .bool false, .int .u8 0, .int .u8 0, .int .i32 0, .string ⟨#[]⟩, .slice none 0 0, .slice none 0 0, .int .i64 0, .int .i64 0, .int .i64 0, .int .i64 0] : List Value)[i]? = some z → ((wr.alloc (.cells #[.int .u8 (97 + (j : Int))] 5)).alloc (.cells #[.string ((⟨#[118]⟩ : ByteArray) ++ sj), .int .u8 2, .string ⟨#[]⟩, .slice none 0 0, .bool false, .int .u8 0, .int .u8 0, .int .i32 0, .string ⟨#[]⟩, .slice none 0 0, .slice none 0 0, .int .i64 0, .int .i64 0, .int .i64 0, .int .i64 0] 54)).cell? ((⟨wr.heap.size + 1, 0, none⟩ : Addr).add i) = some z) := Lib.hid (news_of (wr.alloc (.cells #[.int .u8 (97 + (j : Int))] 5)) [.string ((⟨#[118]⟩ : ByteArray) ++ sj), .int .u8 2, .string ⟨#[]⟩, .slice none 0 0, .bool false, .int .u8 0, .int .u8 0, .int .i32 0, .string ⟨#[]⟩, .slice none 0 0, .slice none 0 0, .int .i64 0, .int .i64 0, .int .i64 0, .int .i64 0] 54 _ (by simp))
      have HON : Hid (((wr.alloc (.cells #[.int .u8 (97 + (j : Int))] 5)).alloc (.cells #[.string ((⟨#[118]⟩ : ByteArray) ++ sj), .int .u8 2, .string ⟨#[]⟩, .slice none 0 0, .bool false, .int .u8 0, .int .u8 0, .int .i32 0, .string ⟨#[]⟩, .slice none 0 0, .slice none 0 0, .int .i64 0, .int .i64 0, .int .i64 0, .int .i64 0] 54)).ownsRow (w.heap.size + 2) 54 15 (.slice va j vc) j (rowV j)) := Lib.hid (row_alloc (row_alloc HR.out.row _) _)
      have HBS : Hid (w.heap.size + 2 ≤ ((wr.alloc (.cells #[.int .u8 (97 + (j : Int))] 5)).alloc (.cells #[.string ((⟨#[118]⟩ : ByteArray) ++ sj), .int .u8 2, .string ⟨#[]⟩, .slice none 0 0, .bool false, .int .u8 0, .int .u8 0, .int .i32 0, .string ⟨#[]⟩, .slice none 0 0, .slice none 0 0, .int .i64 0, .int .i64 0, .int .i64 0, .int .i64 0] 54)).heap.size) := Lib.hid (by have := HR.out.box.lt; simp only [World.size_alloc]; omega)
      have HC3 : Hid (j + 1 ≤ maxLen) := Lib.hid (by unfold maxLen; omega)
      have HC4 : Hid ((j + 1) * 176 ≤ 140737488355328) := Lib.hid (by omega)
      have HONE : Hid (∀ u ∈ ([.string ((⟨#[118]⟩ : ByteArray) ++ sj), .int .u8 2, .string ⟨#[]⟩, .slice none 0 0, .bool false, .int .u8 0, .int .u8 0, .int .i32 0, .string ⟨#[]⟩, .slice none 0 0, .slice none 0 0, .int .i64 0, .int .i64 0, .int .i64 0, .int .i64 0] : List Value), u.oneCell' = true) := Lib.hid (by intro u hu; simp only [List.mem_cons, List.not_mem_nil, or_false] at hu; rcases hu with rfl | rfl | rfl | rfl | rfl | rfl | rfl | rfl | rfl | rfl | rfl | rfl | rfl | rfl | rfl <;> rfl)
      have HST : Hid (∀ (w5 : World) (g5 cap5 : Nat), w5.ownsRow (w.heap.size + 2) 54 15 (.slice (some ⟨g5, 0, none⟩) (j + 1) cap5) (j + 1) (rowV j ++ [.string ((⟨#[118]⟩ : ByteArray) ++ sj), .int .u8 2, .string ⟨#[]⟩, .slice none 0 0, .bool false, .int .u8 0, .int .u8 0, .int .i32 0, .string ⟨#[]⟩, .slice none 0 0, .slice none 0 0, .int .i64 0, .int .i64 0, .int .i64 0, .int .i64 0]) → ((wr.alloc (.cells #[.int .u8 (97 + (j : Int))] 5)).alloc (.cells #[.string ((⟨#[118]⟩ : ByteArray) ++ sj), .int .u8 2, .string ⟨#[]⟩, .slice none 0 0, .bool false, .int .u8 0, .int .u8 0, .int .i32 0, .string ⟨#[]⟩, .slice none 0 0, .slice none 0 0, .int .i64 0, .int .i64 0, .int .i64 0, .int .i64 0] 54)).grownBy w5 (Value.slice va j vc).ownBlock → Has w5 (w.heap.size + 1) 45 #[.slice va j vc, .slice none 0 0] ∧ VI w (some ⟨g5, 0, none⟩) cap5 (j + 1) (w5.setCell ⟨w.heap.size + 1, 0, none⟩ (.slice (some ⟨g5, 0, none⟩) (j + 1) cap5))) := Lib.hid (fun w5 g5 cap5 h1 h2 => by
        rw [HSJ.out] at h1
        exact HR.out.step h1 h2)
      have hss : ¬ 9223372036854775807 < 1 + sj.size := by rw [hsj]; show ¬ 9223372036854775807 < 1 + 1; omega
      clear hsj
      go_wp2_with (at_builtin; refine wpList_append_lies _ rfl _ _ 42 rfl (w.heap.size + 2) 54 iv0 _ 15 176 Tryd.underlying42 HVI.out HVZ.out HVS.out HVB.out rfl (by decide) (.slice va j vc) j _ rfl HON.out ⟨wr.heap.size + 1, 0, none⟩ 1 1 [.string ((⟨#[118]⟩ : ByteArray) ++ sj), .int .u8 2, .string ⟨#[]⟩, .slice none 0 0, .bool false, .int .u8 0, .int .u8 0, .int .i32 0, .string ⟨#[]⟩, .slice none 0 0, .slice none 0 0, .int .i64 0, .int .i64 0, .int .i64 0, .int .i64 0] rfl rfl HNW.out HONE.out (by decide) HC3.out HC4.out HBS.out _ rfl ?_; intro g5 cap5 w5 hown5 hgr5 hg5 hlt5; obtain ⟨hb5, hv5⟩ := HST.out w5 g5 cap5 hown5 hgr5; have z0 := hb5.cell 0; have fr := fun i => hb5.free i; simp only [List.getElem?_toArray, List.getElem?_cons_zero, List.getElem?_cons_succ] at z0; have HV5 := Lib.hid hv5; clear hown5 hgr5 hg5 hlt5 hb5 hv5 x0)
      go_roundw
      case rel => exact ⟨j + 1, _, _, by omega, by go_num, HV5⟩
      case measure => simp [intOf]; omega
    · obtain rfl : n = j := by omega
      have H0 : Hid (CI w n va vc none 0 [] [] wr) := Lib.hid (CI.first HR.out)
      clear HR HVI HVZ HVS HVB
      go_wp2_with fail
      go_loopw [6] (fun iv wr => ∃ (j : Nat) (qa : Option Addr) (qc : Nat) (All : List Eqn) (xs : List Value), j ≤ n ∧ iv = .int .i64 j ∧ Hid (CI w n va vc qa qc All xs wr) ∧ Hid (All.length = j)) (fun iv _ => n - (intOf iv).toNat)
      case atStart => exact ⟨0, none, 0, [], [], by omega, rfl, H0, Lib.hid rfl⟩
      case round =>
        obtain ⟨j, qa, qc, All, xs, hj, rfl, HR, HJ⟩ := hrel
        clear H0
        by_cases hlt : j < n
        · have i0 : (0 : Int) ≤ (j : Int) := Int.natCast_nonneg _
          have i1 : (j : Int) < (n : Int) := by omega
          have x0 := HR.out.box.cell 0
          have x1 := HR.out.box.cell 1
          simp only [List.getElem?_toArray, List.getElem?_cons_zero, List.getElem?_cons_succ] at x0 x1
          obtain ⟨lg, lo, rfl, hlk, hx255⟩ := HLK.out j (by omega)
          obtain ⟨x, hx⟩ : ∃ x : Nat, x = L[j] := ⟨_, rfl⟩
          rw [← hx] at hlk hx255
          have y0 := cell_below HR.out.below _ _ _ hlk
          have hly := World.block_lt_of_cell? _ _ y0
          obtain ⟨s, hs⟩ : ∃ s, s = (x / 4) % n := ⟨_, rfl⟩
          have hsn : s < n := by rw [hs]; exact Nat.mod_lt _ (by omega)
          obtain ⟨vb, rfl, hvl, c0⟩ := names_row HR.out.row s hsn
          obtain ⟨vb2, e2, _, c1⟩ := names_row HR.out.row j hlt
          simp only [Option.some.injEq, Addr.mk.injEq, and_true] at e2
          subst e2
          have hbx := HR.out.box.lt
          have i2 : (0 : Int) ≤ (s : Int) := Int.natCast_nonneg _
          have i3 : (s : Int) < (n : Int) := by omega
          have i4 : ((n : Int) == 0) = false := by simp; omega
          have i5 : (n : Int) ≠ 0 := by omega
          have e1 : (x : Int).tdiv 4 = ((x / 4 : Nat) : Int) := by rw [Int.tdiv_eq_ediv_of_nonneg (Int.natCast_nonneg _)]; push_cast; rfl
          obtain ⟨q, hq⟩ : ∃ q, q = x / 4 := ⟨_, rfl⟩
          rw [← hq] at e1 hs
          have hq63 : q ≤ 63 := by omega
          have e2 : IntKind.u8.wrap (q : Int) = (q : Int) := by first | exact IntWalk.u8_in _ (by omega) | (unfold IntKind.wrap; simp; omega)
          have e3 : IntKind.i64.wrap (q : Int) = (q : Int) := IntWalk.i64_in _ (by omega)
          have e4 : (q : Int).tmod (n : Int) = (s : Int) := by rw [Int.tmod_eq_emod_of_nonneg (Int.natCast_nonneg _), hs]; push_cast; rfl
          have e5 : IntKind.i64.wrap (s : Int) = (s : Int) := IntWalk.i64_in _ (by omega)
          obtain ⟨ns, hns⟩ : ∃ ns, ns = nmv s := ⟨_, rfl⟩
          obtain ⟨nj, hnj⟩ : ∃ nj, nj = nmv j := ⟨_, rfl⟩
          rw [← hns] at c0
          rw [← hnj] at c1
          have HNS : Hid (ns.size ≤ maxLen ∧ nj.size ≤ maxLen) := Lib.hid ⟨by rw [hns]; show 2 ≤ maxLen; decide, by rw [hnj]; show 2 ≤ maxLen; decide⟩
          have HNJ := Lib.hid hnj
          have C1 := Lib.hid c1
          clear hlk hs hns hnj hx hq
          go_wp2_with fail
          go_region
          all_goals
            go_upto_block 4 with fail
            go_cut [7] from 30 to 90 (fun pv wx => pv = .pointer (some ⟨wr.heap.size, 0, none⟩) ∧ Hid (∃ (x : Ex) (ek eo : Nat) (en : Int) (enm : ByteArray) (ena : Option Addr) (enl enc : Nat) (eka : Option Addr) (ekl ekc : Nat) (el ecl : Int), (Below wr.heap.size wr wx ∧ Has wx wr.heap.size 29 #[.int .u8 ek, .int .u8 eo, .int .i32 en, .string enm, .slice ena enl enc, .slice eka ekl ekc, .int .i64 el, .int .i64 ecl] ∧ LaidP wx (fun b => wr.heap.size ≤ b) x (#[.int .u8 ek, .int .u8 eo, .int .i32 en, .string enm, .slice ena enl enc, .slice eka ekl ekc, .int .i64 el, .int .i64 ecl] : Array Value).toList) ∧ (wfE x = true ∧ sz x ≤ 10)))
            case first =>
              go_wp2_with fail
              · go_meet
                case rel => exact ⟨rfl, Lib.hid ⟨(.mk 10 0 0 ⟨#[]⟩ [] [(.mk 4 0 0 ns [] [] 0 0)] 0 0), _, _, _, _, _, _, _, _, _, _, _, _, drewW (nodeW1 wr (by decide) HNS.out.1 rfl), rfl, by simp [sz, szK]⟩⟩
              · go_meet
                case rel => exact ⟨rfl, Lib.hid ⟨(.mk 11 0 0 ⟨#[]⟩ [] [(.mk 1 0 4 ⟨#[]⟩ [] [] 0 0), (.mk 4 0 0 ns [] [] 0 0)] 0 0), _, _, _, _, _, _, _, _, _, _, _, _, drewW (nodeW2 wr (by decide) (by decide) HNS.out.1 rfl), rfl, by simp [sz, szK]⟩⟩
              · go_region
                go_wp2_with fail
                go_meet
                case rel => exact ⟨rfl, Lib.hid ⟨(.mk 7 3 0 ⟨#[]⟩ [] [(.mk 4 0 0 ns [] [] 0 0), (.mk 4 0 0 nj [] [] 0 0)] 0 0), _, _, _, _, _, _, _, _, _, _, _, _, drewW (drewW (nodeW2 wr (by decide) HNS.out.1 HNS.out.2 rfl)), rfl, by simp [sz, szK]⟩⟩
              · go_meet
                case rel => exact ⟨rfl, Lib.hid ⟨(.mk 4 0 0 ns [] [] 0 0), _, _, _, _, _, _, _, _, _, _, _, _, leafW wr HNS.out.1, rfl, by simp [sz, szK]⟩⟩
            case rest =>
              obtain ⟨rfl, HM⟩ := hcut
              obtain ⟨x, ek, eo, en, enm, ena, enl, enc, eka, ekl, ekc, el, ecl, m1, m2⟩ := HM.out
              have H7 := Lib.hid m1
              have HSH := Lib.hid m2
              clear m1 m2 HM c1 x0 x1
              obtain ⟨W7, hW7⟩ : ∃ W7, W7 = wc := ⟨_, rfl⟩
              subst hW7
              go_wp2_with fail
              have hci := HR.out.belowW H7.out.1
              have hs7 := H7.out.1.size
              have x1 := hci.box.cell 1
              simp only [List.getElem?_toArray, List.getElem?_cons_zero, List.getElem?_cons_succ] at x1
              have HAA : Hid (∀ W, Below W7.heap.size W7 W → (fun w' : World => w'.cell? ⟨w.heap.size + 1, 0, none⟩ = some (.slice (some ⟨vb, 0, none⟩) n vc) ∧ w'.cell? ⟨vb, j * 15, none⟩ = some (.string nj) ∧ w'.cell? ⟨wr.heap.size, 0, none⟩ = some (.int .u8 ek) ∧ w'.cell? ⟨wr.heap.size, 1, none⟩ = some (.int .u8 eo) ∧ w'.cell? ⟨wr.heap.size, 2, none⟩ = some (.int .i32 en) ∧ w'.cell? ⟨wr.heap.size, 3, none⟩ = some (.string enm) ∧ w'.cell? ⟨wr.heap.size, 4, none⟩ = some (.slice ena enl enc) ∧ w'.cell? ⟨wr.heap.size, 5, none⟩ = some (.slice eka ekl ekc) ∧ w'.cell? ⟨wr.heap.size, 6, none⟩ = some (.int .i64 el) ∧ w'.cell? ⟨wr.heap.size, 7, none⟩ = some (.int .i64 ecl)) W) := Lib.hid (fun W hW => by
                have hE := H7.out.2.1.below hW H7.out.2.1.lt
                have hB := hci.box.below hW hci.box.lt
                exact ⟨hB.cell 0, cell_below hW _ _ _ (cell_below H7.out.1 _ _ _ C1.out), hE.cell 0, hE.cell 1, hE.cell 2, hE.cell 3, hE.cell 4, hE.cell 5, hE.cell 6, hE.cell 7⟩)
              have HSA := Lib.hid (HAA.out W7.drew ((Below.refl _ _).drew))
              have HSB := Lib.hid (HAA.out ((W7.alloc (.cells #[.string nj] 9)).drew) (((Below.refl _ W7).alloc (Nat.le_refl _) _).drew))
              have HSC := Lib.hid (HAA.out (((W7.alloc (.cells #[.string nj] 9)).alloc (.cells #[.int .u8 1, .slice (some ⟨W7.heap.size, 0, none⟩) 1 1, .string ⟨#[]⟩, .slice none 0 0, .bool false, .int .u8 ek, .int .u8 eo, .int .i32 en, .string enm, .slice ena enl enc, .slice eka ekl ekc, .int .i64 el, .int .i64 ecl, .slice none 0 0, .int .i64 0, .int .i64 0] 64)).drew) ((((Below.refl _ W7).alloc (Nat.le_refl _) _).alloc (by simp) _).drew))
              have HON : Hid ((((W7.alloc (.cells #[.string nj] 9)).alloc (.cells #[.int .u8 1, .slice (some ⟨W7.heap.size, 0, none⟩) 1 1, .string ⟨#[]⟩, .slice none 0 0, .bool false, .int .u8 ek, .int .u8 eo, .int .i32 en, .string enm, .slice ena enl enc, .slice eka ekl ekc, .int .i64 el, .int .i64 ecl, .slice none 0 0, .int .i64 0, .int .i64 0] 64)).drew).ownsRow (w.heap.size + 2) 64 16 (.slice qa All.length qc) All.length xs) := Lib.hid (row_alloc (row_alloc hci.eqs _) _)
              have HNW : Hid (∀ i z, ([.int .u8 1, .slice (some ⟨W7.heap.size, 0, none⟩) 1 1, .string ⟨#[]⟩, .slice none 0 0, .bool false, .int .u8 ek, .int .u8 eo, .int .i32 en, .string enm, .slice ena enl enc, .slice eka ekl ekc, .int .i64 el, .int .i64 ecl, .slice none 0 0, .int .i64 0, .int .i64 0] : List Value)[i]? = some z → (((W7.alloc (.cells #[.string nj] 9)).alloc (.cells #[.int .u8 1, .slice (some ⟨W7.heap.size, 0, none⟩) 1 1, .string ⟨#[]⟩, .slice none 0 0, .bool false, .int .u8 ek, .int .u8 eo, .int .i32 en, .string enm, .slice ena enl enc, .slice eka ekl ekc, .int .i64 el, .int .i64 ecl, .slice none 0 0, .int .i64 0, .int .i64 0] 64)).drew).cell? ((⟨W7.heap.size + 1, 0, none⟩ : Addr).add i) = some z) := Lib.hid (news_of (W7.alloc (.cells #[.string nj] 9)) [.int .u8 1, .slice (some ⟨W7.heap.size, 0, none⟩) 1 1, .string ⟨#[]⟩, .slice none 0 0, .bool false, .int .u8 ek, .int .u8 eo, .int .i32 en, .string enm, .slice ena enl enc, .slice eka ekl ekc, .int .i64 el, .int .i64 ecl, .slice none 0 0, .int .i64 0, .int .i64 0] 64 _ (by simp))
              have HONE : Hid (∀ u ∈ ([.int .u8 1, .slice (some ⟨W7.heap.size, 0, none⟩) 1 1, .string ⟨#[]⟩, .slice none 0 0, .bool false, .int .u8 ek, .int .u8 eo, .int .i32 en, .string enm, .slice ena enl enc, .slice eka ekl ekc, .int .i64 el, .int .i64 ecl, .slice none 0 0, .int .i64 0, .int .i64 0] : List Value), u.oneCell' = true) := Lib.hid (by intro u hu; simp only [List.mem_cons, List.not_mem_nil, or_false] at hu; rcases hu with rfl | rfl | rfl | rfl | rfl | rfl | rfl | rfl | rfl | rfl | rfl | rfl | rfl | rfl | rfl | rfl <;> rfl)
              have HC3 : Hid (All.length + 1 ≤ maxLen) := Lib.hid (by have := HJ.out; unfold maxLen; omega)
              have HC4 : Hid ((All.length + 1) * 208 ≤ 140737488355328) := Lib.hid (by have := HJ.out; omega)
              have HBS : Hid (w.heap.size + 2 ≤ (((W7.alloc (.cells #[.string nj] 9)).alloc (.cells #[.int .u8 1, .slice (some ⟨W7.heap.size, 0, none⟩) 1 1, .string ⟨#[]⟩, .slice none 0 0, .bool false, .int .u8 ek, .int .u8 eo, .int .i32 en, .string enm, .slice ena enl enc, .slice eka ekl ekc, .int .i64 el, .int .i64 ecl, .slice none 0 0, .int .i64 0, .int .i64 0] 64)).drew).heap.size) := Lib.hid (by have := hci.box.lt; simp only [World.size_drew, World.size_alloc]; omega)
              have HST : Hid (∀ (w5 : World) (g5 cap5 : Nat), w5.ownsRow (w.heap.size + 2) 64 16 (.slice (some ⟨g5, 0, none⟩) (All.length + 1) cap5) (All.length + 1) (xs ++ [.int .u8 1, .slice (some ⟨W7.heap.size, 0, none⟩) 1 1, .string ⟨#[]⟩, .slice none 0 0, .bool false, .int .u8 ek, .int .u8 eo, .int .i32 en, .string enm, .slice ena enl enc, .slice eka ekl ekc, .int .i64 el, .int .i64 ecl, .slice none 0 0, .int .i64 0, .int .i64 0]) → (((W7.alloc (.cells #[.string nj] 9)).alloc (.cells #[.int .u8 1, .slice (some ⟨W7.heap.size, 0, none⟩) 1 1, .string ⟨#[]⟩, .slice none 0 0, .bool false, .int .u8 ek, .int .u8 eo, .int .i32 en, .string enm, .slice ena enl enc, .slice eka ekl ekc, .int .i64 el, .int .i64 ecl, .slice none 0 0, .int .i64 0, .int .i64 0] 64)).drew).grownBy w5 (Value.slice qa All.length qc).ownBlock → ((Value.slice qa All.length qc).ownBlock = some g5 ∨ g5 = (((W7.alloc (.cells #[.string nj] 9)).alloc (.cells #[.int .u8 1, .slice (some ⟨W7.heap.size, 0, none⟩) 1 1, .string ⟨#[]⟩, .slice none 0 0, .bool false, .int .u8 ek, .int .u8 eo, .int .i32 en, .string enm, .slice ena enl enc, .slice eka ekl ekc, .int .i64 el, .int .i64 ecl, .slice none 0 0, .int .i64 0, .int .i64 0] 64)).drew).heap.size) → Has w5 (w.heap.size + 1) 45 #[.slice (some ⟨vb, 0, none⟩) n vc, .slice qa All.length qc] ∧ CI w n (some ⟨vb, 0, none⟩) vc (some ⟨g5, 0, none⟩) cap5 (All ++ [(nj, x)]) (xs ++ [.int .u8 1, .slice (some ⟨W7.heap.size, 0, none⟩) 1 1, .string ⟨#[]⟩, .slice none 0 0, .bool false, .int .u8 ek, .int .u8 eo, .int .i32 en, .string enm, .slice ena enl enc, .slice eka ekl ekc, .int .i64 el, .int .i64 ecl, .slice none 0 0, .int .i64 0, .int .i64 0]) (w5.setCell ⟨w.heap.size + 1, 1, none⟩ (.slice (some ⟨g5, 0, none⟩) (All.length + 1) cap5))) := Lib.hid (fun w5 g5 cap5 h1 h2 h3 =>
                hci.step (N0 := wr.heap.size) (nm := nj) (ecs := #[.int .u8 ek, .int .u8 eo, .int .i32 en, .string enm, .slice ena enl enc, .slice eka ekl ekc, .int .i64 el, .int .i64 ecl]) hs7 (fun b hb => (HR.out.eqs.lt b hb).2) (by have := HR.out.box.lt; omega) H7.out.2.2 HSH.out h1 ⟨h2.os, h2.tape, h2.output, h2.size, h2.block⟩ h3)
              have HFB : Hid (∀ (w5 : World), (((W7.alloc (.cells #[.string nj] 9)).alloc (.cells #[.int .u8 1, .slice (some ⟨W7.heap.size, 0, none⟩) 1 1, .string ⟨#[]⟩, .slice none 0 0, .bool false, .int .u8 ek, .int .u8 eo, .int .i32 en, .string enm, .slice ena enl enc, .slice eka ekl ekc, .int .i64 el, .int .i64 ecl, .slice none 0 0, .int .i64 0, .int .i64 0] 64)).drew).grownBy w5 (Value.slice qa All.length qc).ownBlock → ∀ z, (fun w' : World => w'.cell? ⟨w.heap.size + 1, 0, none⟩ = some (.slice (some ⟨vb, 0, none⟩) n vc) ∧ w'.cell? ⟨vb, j * 15, none⟩ = some (.string nj) ∧ w'.cell? ⟨wr.heap.size, 0, none⟩ = some (.int .u8 ek) ∧ w'.cell? ⟨wr.heap.size, 1, none⟩ = some (.int .u8 eo) ∧ w'.cell? ⟨wr.heap.size, 2, none⟩ = some (.int .i32 en) ∧ w'.cell? ⟨wr.heap.size, 3, none⟩ = some (.string enm) ∧ w'.cell? ⟨wr.heap.size, 4, none⟩ = some (.slice ena enl enc) ∧ w'.cell? ⟨wr.heap.size, 5, none⟩ = some (.slice eka ekl ekc) ∧ w'.cell? ⟨wr.heap.size, 6, none⟩ = some (.int .i64 el) ∧ w'.cell? ⟨wr.heap.size, 7, none⟩ = some (.int .i64 ecl)) w5 ∧ (fun w' : World => w'.cell? ⟨w.heap.size + 1, 0, none⟩ = some (.slice (some ⟨vb, 0, none⟩) n vc) ∧ w'.cell? ⟨vb, j * 15, none⟩ = some (.string nj) ∧ w'.cell? ⟨wr.heap.size, 0, none⟩ = some (.int .u8 ek) ∧ w'.cell? ⟨wr.heap.size, 1, none⟩ = some (.int .u8 eo) ∧ w'.cell? ⟨wr.heap.size, 2, none⟩ = some (.int .i32 en) ∧ w'.cell? ⟨wr.heap.size, 3, none⟩ = some (.string enm) ∧ w'.cell? ⟨wr.heap.size, 4, none⟩ = some (.slice ena enl enc) ∧ w'.cell? ⟨wr.heap.size, 5, none⟩ = some (.slice eka ekl ekc) ∧ w'.cell? ⟨wr.heap.size, 6, none⟩ = some (.int .i64 el) ∧ w'.cell? ⟨wr.heap.size, 7, none⟩ = some (.int .i64 ecl)) (w5.setCell ⟨w.heap.size + 1, 1, none⟩ z)) := Lib.hid (fun w5 hg z => by
                have hg' : ((W7.alloc (.cells #[.string nj] 9)).alloc (.cells #[.int .u8 1, .slice (some ⟨W7.heap.size, 0, none⟩) 1 1, .string ⟨#[]⟩, .slice none 0 0, .bool false, .int .u8 ek, .int .u8 eo, .int .i32 en, .string enm, .slice ena enl enc, .slice eka ekl ekc, .int .i64 el, .int .i64 ecl, .slice none 0 0, .int .i64 0, .int .i64 0] 64)).grownBy w5 (Value.slice qa All.length qc).ownBlock := ⟨hg.os, hg.tape, hg.output, hg.size, hg.block⟩
                have hE := ((H7.out.2.1.alloc (.cells #[.string nj] 9)).alloc (.cells #[.int .u8 1, .slice (some ⟨W7.heap.size, 0, none⟩) 1 1, .string ⟨#[]⟩, .slice none 0 0, .bool false, .int .u8 ek, .int .u8 eo, .int .i32 en, .string enm, .slice ena enl enc, .slice eka ekl ekc, .int .i64 el, .int .i64 ecl, .slice none 0 0, .int .i64 0, .int .i64 0] 64)).grown hg' (fun e => Has.own_ne H7.out.2.1 hci.eqs (by decide) e.symm)
                have hB := ((hci.box.alloc (.cells #[.string nj] 9)).alloc (.cells #[.int .u8 1, .slice (some ⟨W7.heap.size, 0, none⟩) 1 1, .string ⟨#[]⟩, .slice none 0 0, .bool false, .int .u8 ek, .int .u8 eo, .int .i32 en, .string enm, .slice ena enl enc, .slice eka ekl ekc, .int .i64 el, .int .i64 ecl, .slice none 0 0, .int .i64 0, .int .i64 0] 64)).grown hg' (fun e => own_ge hci.eqs (b := w.heap.size + 1) (by omega) e.symm)
                have hrow := ((row_alloc (row_alloc hci.row (.cells #[.string nj] 9)) (.cells #[.int .u8 1, .slice (some ⟨W7.heap.size, 0, none⟩) 1 1, .string ⟨#[]⟩, .slice none 0 0, .bool false, .int .u8 ek, .int .u8 eo, .int .i32 en, .string enm, .slice ena enl enc, .slice eka ekl ekc, .int .i64 el, .int .i64 ecl, .slice none 0 0, .int .i64 0, .int .i64 0] 64))).kept hg' (rows_ne hci.row hci.eqs (by decide))
                obtain ⟨vb3, e3, _, hc3⟩ := names_row hrow j hlt
                simp only [Option.some.injEq, Addr.mk.injEq, and_true] at e3
                subst e3
                rw [← HNJ.out] at hc3
                have hge := (hrow.lt vb rfl).1
                have hbu : But w5 (w5.setCell ⟨w.heap.size + 1, 1, none⟩ z) (w.heap.size + 1) := (But.refl _ _).put 1 _
                have hB2 := hB.put 1 z
                simp only [List.setIfInBounds_toArray, List.set_cons_zero, List.set_cons_succ] at hB2
                have hltB := hci.box.lt
                have hE2 := hE.put_far (g' := w.heap.size + 1) 1 z (by have := HR.out.box.lt; omega)
                exact ⟨⟨hB.cell 0, hc3, hE.cell 0, hE.cell 1, hE.cell 2, hE.cell 3, hE.cell 4, hE.cell 5, hE.cell 6, hE.cell 7⟩, ⟨hB2.cell 0, hbu.cell (by omega) hc3, hE2.cell 0, hE2.cell 1, hE2.cell 2, hE2.cell 3, hE2.cell 4, hE2.cell 5, hE2.cell 6, hE2.cell 7⟩⟩)
              obtain ⟨c1, x0⟩ : W7.cell? ⟨vb, j * 15, none⟩ = some (.string nj) ∧ W7.cell? ⟨w.heap.size + 1, 0, none⟩ = some (.slice (some ⟨vb, 0, none⟩) n vc) := by
                have := HAA.out W7 (Below.refl _ _)
                exact ⟨this.2.1, this.1⟩
              have hbx7 := hci.box.lt
              have x1b := cell_below ((Below.refl _ W7).alloc (Nat.le_refl _) (.cells #[.string nj] 9)) _ _ _ x1
              have x1c := cell_below (((Below.refl _ W7).alloc (Nat.le_refl _) (.cells #[.string nj] 9)).alloc (by simp) (.cells #[.int .u8 1, .slice (some ⟨W7.heap.size, 0, none⟩) 1 1, .string ⟨#[]⟩, .slice none 0 0, .bool false, .int .u8 ek, .int .u8 eo, .int .i32 en, .string enm, .slice ena enl enc, .slice eka ekl ekc, .int .i64 el, .int .i64 ecl, .slice none 0 0, .int .i64 0, .int .i64 0] 64)) _ _ _ x1
              clear hci hs7 HAA c1 x0
              refine wp_region_held_drew (S := fun w' => w'.cell? ⟨w.heap.size + 1, 0, none⟩ = some (.slice (some ⟨vb, 0, none⟩) n vc) ∧ w'.cell? ⟨vb, j * 15, none⟩ = some (.string nj) ∧ w'.cell? ⟨wr.heap.size, 0, none⟩ = some (.int .u8 ek) ∧ w'.cell? ⟨wr.heap.size, 1, none⟩ = some (.int .u8 eo) ∧ w'.cell? ⟨wr.heap.size, 2, none⟩ = some (.int .i32 en) ∧ w'.cell? ⟨wr.heap.size, 3, none⟩ = some (.string enm) ∧ w'.cell? ⟨wr.heap.size, 4, none⟩ = some (.slice ena enl enc) ∧ w'.cell? ⟨wr.heap.size, 5, none⟩ = some (.slice eka ekl ekc) ∧ w'.cell? ⟨wr.heap.size, 6, none⟩ = some (.int .i64 el) ∧ w'.cell? ⟨wr.heap.size, 7, none⟩ = some (.int .i64 ecl)) (by kernel_rfl) HSA.out (fun hHeld => ?_)
              refine wpAnyH_take (i := 0) (oi := _) (v := ?_) rfl (by kernel_rfl) (by decide +kernel) (by decide +kernel) (fun _ _ _ h => h) (Or.inl ⟨by rfl, ?_⟩) (by assumption) ?_
              rotate_left
              · intro w hSw
                (try dsimp only at hSw)
                go_simp
                try with_reducible rfl
              try simp only [Act.put, List.setIfInBounds_toArray, List.set_cons_zero, List.set_cons_succ]
              refine wpAnyH_take (i := 2) (oi := _) (v := ?_) rfl (by kernel_rfl) (by decide +kernel) (by decide +kernel) (fun _ _ _ h => h) (Or.inl ⟨by rfl, ?_⟩) (by assumption) ?_
              rotate_left
              · intro w hSw
                (try dsimp only at hSw)
                go_simp
                try with_reducible rfl
              try simp only [Act.put, List.setIfInBounds_toArray, List.set_cons_zero, List.set_cons_succ]
              refine wpAnyH_take (i := 3) (oi := _) (v := ?_) rfl (by kernel_rfl) (by decide +kernel) (by decide +kernel) (fun _ _ _ h => h) (Or.inl ⟨by rfl, ?_⟩) (by assumption) ?_
              rotate_left
              · intro w hSw
                (try dsimp only at hSw)
                go_simp
                try with_reducible rfl
              try simp only [Act.put, List.setIfInBounds_toArray, List.set_cons_zero, List.set_cons_succ]
              refine wpAnyH_take (i := 4) (oi := _) (v := ?_) rfl (by kernel_rfl) (by decide +kernel) (by decide +kernel) (fun _ _ _ h => h) (Or.inl ⟨by rfl, ?_⟩) (by assumption) ?_
              rotate_left
              · intro w hSw
                (try dsimp only at hSw)
                go_simp
                try with_reducible rfl
              try simp only [Act.put, List.setIfInBounds_toArray, List.set_cons_zero, List.set_cons_succ]
              refine wpAnyH_take (i := 5) (oi := _) (v := ?_) rfl (by kernel_rfl) (by decide +kernel) (by decide +kernel) (fun _ _ _ h => h) (Or.inl ⟨by rfl, ?_⟩) (by assumption) ?_
              rotate_left
              · intro w hSw
                (try dsimp only at hSw)
                go_simp
                try with_reducible rfl
              try simp only [Act.put, List.setIfInBounds_toArray, List.set_cons_zero, List.set_cons_succ]
              refine wpAnyH_take (i := 6) (oi := _) (v := ?_) rfl (by kernel_rfl) (by decide +kernel) (by decide +kernel) (fun _ _ _ h => h) (Or.inl ⟨by rfl, ?_⟩) (by assumption) ?_
              rotate_left
              · intro w hSw
                (try dsimp only at hSw)
                go_simp
                try with_reducible rfl
              try simp only [Act.put, List.setIfInBounds_toArray, List.set_cons_zero, List.set_cons_succ]
              refine wpAnyH_take (i := 7) (oi := _) (v := ?_) rfl (by kernel_rfl) (by decide +kernel) (by decide +kernel) (fun _ _ _ h => h) (Or.inl ⟨by rfl, ?_⟩) (by assumption) ?_
              rotate_left
              · intro w hSw
                (try dsimp only at hSw)
                go_simp
                try with_reducible rfl
              try simp only [Act.put, List.setIfInBounds_toArray, List.set_cons_zero, List.set_cons_succ]
              refine wpAnyH_take (i := 9) (oi := _) (v := ?_) rfl (by kernel_rfl) (by decide +kernel) (by decide +kernel) (fun _ _ _ h => h) (Or.inl ⟨by rfl, ?_⟩) (by assumption) ?_
              rotate_left
              · intro w hSw
                (try dsimp only at hSw)
                go_simp
                try with_reducible rfl
              try simp only [Act.put, List.setIfInBounds_toArray, List.set_cons_zero, List.set_cons_succ]
              refine wpAnyH_ready (rs := [1, 8]) (by kernel_rfl) (by simp) ?_
              refine (AllReadyH.cons (o := _) rfl (fun K hK => ?_) (AllReadyH.cons (o := _) rfl (fun K hK => ?_) AllReadyH.nil))
              · go_simp
                refine hK.out _ _ HSA.out (fun hHeld => ?_)
                clear hK K
                try simp only [Act.put, List.setIfInBounds_toArray, List.set_cons_zero, List.set_cons_succ]
                refine wpAnyH_ready (rs := [8]) (by kernel_rfl) (by simp) ?_
                refine (AllReadyH.cons (o := _) rfl (fun K hK => ?_) AllReadyH.nil)
                go_simp
                refine hK.out _ _ HSB.out (fun hHeld => ?_)
                clear hK K
                try simp only [Act.put, List.setIfInBounds_toArray, List.set_cons_zero, List.set_cons_succ]
                refine wpAnyH_take (i := 10) (oi := _) (v := ?_) rfl (by kernel_rfl) (by decide +kernel) (by decide +kernel) (fun _ _ _ h => h) (Or.inl ⟨by rfl, ?_⟩) (by assumption) ?_
                rotate_left
                · intro w hSw
                  (try dsimp only at hSw)
                  go_simp
                  try with_reducible rfl
                try simp only [Act.put, List.setIfInBounds_toArray, List.set_cons_zero, List.set_cons_succ]
                refine wpAnyH_ready (rs := [11]) (by kernel_rfl) (by simp) ?_
                refine (AllReadyH.cons (o := _) rfl (fun K hK => ?_) AllReadyH.nil)
                go_simp
                refine hK.out _ _ HSC.out (fun hHeld => ?_)
                clear hK K
                try simp only [Act.put, List.setIfInBounds_toArray, List.set_cons_zero, List.set_cons_succ]
                refine wpAnyH_ready (rs := [12]) (by kernel_rfl) (by simp) ?_
                refine AllReadyH.cons (o := _) rfl (fun K hK => ?_) AllReadyH.nil
                refine step_append_lies _ (by rfl) _ _ 43 (by rfl) (w.heap.size + 2) 64 ie0 _ 16 208 Tryd.underlying43 HEI.out HEZ.out HES.out HEB.out rfl (by decide) (.slice qa All.length qc) All.length xs (by rfl) HON.out ⟨W7.heap.size + 1, 0, none⟩ 1 1 [.int .u8 1, .slice (some ⟨W7.heap.size, 0, none⟩) 1 1, .string ⟨#[]⟩, .slice none 0 0, .bool false, .int .u8 ek, .int .u8 eo, .int .i32 en, .string enm, .slice ena enl enc, .slice eka ekl ekc, .int .i64 el, .int .i64 ecl, .slice none 0 0, .int .i64 0, .int .i64 0] (by rfl) (by rfl) HNW.out HONE.out (by decide) HC3.out HC4.out HBS.out _ rfl ?_
                intro g5 cap5 w5 hown5 hgr5 hg5 hlt5
                obtain ⟨hb5, hq5⟩ := HST.out w5 g5 cap5 hown5 hgr5 hg5
                have HS5 := Lib.hid (HFB.out w5 hgr5 (.slice (some ⟨g5, 0, none⟩) (All.length + 1) cap5)).1
                have HS6 := Lib.hid (HFB.out w5 hgr5 (.slice (some ⟨g5, 0, none⟩) (All.length + 1) cap5)).2
                have z1 := hb5.cell 1
                have fr := fun i => hb5.free i
                simp only [List.getElem?_toArray, List.getElem?_cons_zero, List.getElem?_cons_succ] at z1
                have HQ5 := Lib.hid hq5
                clear hown5 hgr5 hg5 hlt5 hb5 hq5
                refine hK.out _ _ HS5.out (fun hHeld => ?_)
                clear hK K
                try simp only [Act.put, List.setIfInBounds_toArray, List.set_cons_zero, List.set_cons_succ]
                refine wpAnyH_take (i := 13) (oi := _) (v := ?_) rfl (by kernel_rfl) (by decide +kernel) (by decide +kernel) (fun _ _ _ h => h) (Or.inl ⟨by rfl, ?_⟩) (by assumption) ?_
                rotate_left
                · intro w hSw
                  (try dsimp only at hSw)
                  go_simp
                  try with_reducible rfl
                try simp only [Act.put, List.setIfInBounds_toArray, List.set_cons_zero, List.set_cons_succ]
                refine wpAnyH_ready (rs := [14]) (by kernel_rfl) (by simp) ?_
                refine (AllReadyH.cons (o := _) rfl (fun K hK => ?_) AllReadyH.nil)
                go_simp
                refine hK.out _ _ HS6.out (fun hHeld => ?_)
                clear hK K
                try simp only [Act.put, List.setIfInBounds_toArray, List.set_cons_zero, List.set_cons_succ]
                refine wpAnyH_done (by kernel_rfl) ?_ _
                go_wp2_with fail
                go_roundw
                case rel => exact ⟨j + 1, _, _, _, _, by omega, by go_num, HQ5, Lib.hid (by rw [List.length_append, HJ.out]; rfl)⟩
                case measure => simp [intOf]; omega
              · go_simp
                refine hK.out _ _ HSB.out (fun hHeld => ?_)
                clear hK K
                try simp only [Act.put, List.setIfInBounds_toArray, List.set_cons_zero, List.set_cons_succ]
                refine wpAnyH_take (i := 10) (oi := _) (v := ?_) rfl (by kernel_rfl) (by decide +kernel) (by decide +kernel) (fun _ _ _ h => h) (Or.inl ⟨by rfl, ?_⟩) (by assumption) ?_
                rotate_left
                · intro w hSw
                  (try dsimp only at hSw)
                  go_simp
                  try with_reducible rfl
                try simp only [Act.put, List.setIfInBounds_toArray, List.set_cons_zero, List.set_cons_succ]
                refine wpAnyH_ready (rs := [1, 11]) (by kernel_rfl) (by simp) ?_
                refine (AllReadyH.cons (o := _) rfl (fun K hK => ?_) (AllReadyH.cons (o := _) rfl (fun K hK => ?_) AllReadyH.nil))
                · go_simp
                  refine hK.out _ _ HSB.out (fun hHeld => ?_)
                  clear hK K
                  try simp only [Act.put, List.setIfInBounds_toArray, List.set_cons_zero, List.set_cons_succ]
                  refine wpAnyH_ready (rs := [11]) (by kernel_rfl) (by simp) ?_
                  refine (AllReadyH.cons (o := _) rfl (fun K hK => ?_) AllReadyH.nil)
                  go_simp
                  refine hK.out _ _ HSC.out (fun hHeld => ?_)
                  clear hK K
                  try simp only [Act.put, List.setIfInBounds_toArray, List.set_cons_zero, List.set_cons_succ]
                  refine wpAnyH_ready (rs := [12]) (by kernel_rfl) (by simp) ?_
                  refine AllReadyH.cons (o := _) rfl (fun K hK => ?_) AllReadyH.nil
                  refine step_append_lies _ (by rfl) _ _ 43 (by rfl) (w.heap.size + 2) 64 ie0 _ 16 208 Tryd.underlying43 HEI.out HEZ.out HES.out HEB.out rfl (by decide) (.slice qa All.length qc) All.length xs (by rfl) HON.out ⟨W7.heap.size + 1, 0, none⟩ 1 1 [.int .u8 1, .slice (some ⟨W7.heap.size, 0, none⟩) 1 1, .string ⟨#[]⟩, .slice none 0 0, .bool false, .int .u8 ek, .int .u8 eo, .int .i32 en, .string enm, .slice ena enl enc, .slice eka ekl ekc, .int .i64 el, .int .i64 ecl, .slice none 0 0, .int .i64 0, .int .i64 0] (by rfl) (by rfl) HNW.out HONE.out (by decide) HC3.out HC4.out HBS.out _ rfl ?_
                  intro g5 cap5 w5 hown5 hgr5 hg5 hlt5
                  obtain ⟨hb5, hq5⟩ := HST.out w5 g5 cap5 hown5 hgr5 hg5
                  have HS5 := Lib.hid (HFB.out w5 hgr5 (.slice (some ⟨g5, 0, none⟩) (All.length + 1) cap5)).1
                  have HS6 := Lib.hid (HFB.out w5 hgr5 (.slice (some ⟨g5, 0, none⟩) (All.length + 1) cap5)).2
                  have z1 := hb5.cell 1
                  have fr := fun i => hb5.free i
                  simp only [List.getElem?_toArray, List.getElem?_cons_zero, List.getElem?_cons_succ] at z1
                  have HQ5 := Lib.hid hq5
                  clear hown5 hgr5 hg5 hlt5 hb5 hq5
                  refine hK.out _ _ HS5.out (fun hHeld => ?_)
                  clear hK K
                  try simp only [Act.put, List.setIfInBounds_toArray, List.set_cons_zero, List.set_cons_succ]
                  refine wpAnyH_take (i := 13) (oi := _) (v := ?_) rfl (by kernel_rfl) (by decide +kernel) (by decide +kernel) (fun _ _ _ h => h) (Or.inl ⟨by rfl, ?_⟩) (by assumption) ?_
                  rotate_left
                  · intro w hSw
                    (try dsimp only at hSw)
                    go_simp
                    try with_reducible rfl
                  try simp only [Act.put, List.setIfInBounds_toArray, List.set_cons_zero, List.set_cons_succ]
                  refine wpAnyH_ready (rs := [14]) (by kernel_rfl) (by simp) ?_
                  refine (AllReadyH.cons (o := _) rfl (fun K hK => ?_) AllReadyH.nil)
                  go_simp
                  refine hK.out _ _ HS6.out (fun hHeld => ?_)
                  clear hK K
                  try simp only [Act.put, List.setIfInBounds_toArray, List.set_cons_zero, List.set_cons_succ]
                  refine wpAnyH_done (by kernel_rfl) ?_ _
                  go_wp2_with fail
                  go_roundw
                  case rel => exact ⟨j + 1, _, _, _, _, by omega, by go_num, HQ5, Lib.hid (by rw [List.length_append, HJ.out]; rfl)⟩
                  case measure => simp [intOf]; omega
                · go_simp
                  refine hK.out _ _ HSC.out (fun hHeld => ?_)
                  clear hK K
                  try simp only [Act.put, List.setIfInBounds_toArray, List.set_cons_zero, List.set_cons_succ]
                  refine wpAnyH_ready (rs := [1]) (by kernel_rfl) (by simp) ?_
                  refine (AllReadyH.cons (o := _) rfl (fun K hK => ?_) AllReadyH.nil)
                  go_simp
                  refine hK.out _ _ HSC.out (fun hHeld => ?_)
                  clear hK K
                  try simp only [Act.put, List.setIfInBounds_toArray, List.set_cons_zero, List.set_cons_succ]
                  refine wpAnyH_ready (rs := [12]) (by kernel_rfl) (by simp) ?_
                  refine AllReadyH.cons (o := _) rfl (fun K hK => ?_) AllReadyH.nil
                  refine step_append_lies _ (by rfl) _ _ 43 (by rfl) (w.heap.size + 2) 64 ie0 _ 16 208 Tryd.underlying43 HEI.out HEZ.out HES.out HEB.out rfl (by decide) (.slice qa All.length qc) All.length xs (by rfl) HON.out ⟨W7.heap.size + 1, 0, none⟩ 1 1 [.int .u8 1, .slice (some ⟨W7.heap.size, 0, none⟩) 1 1, .string ⟨#[]⟩, .slice none 0 0, .bool false, .int .u8 ek, .int .u8 eo, .int .i32 en, .string enm, .slice ena enl enc, .slice eka ekl ekc, .int .i64 el, .int .i64 ecl, .slice none 0 0, .int .i64 0, .int .i64 0] (by rfl) (by rfl) HNW.out HONE.out (by decide) HC3.out HC4.out HBS.out _ rfl ?_
                  intro g5 cap5 w5 hown5 hgr5 hg5 hlt5
                  obtain ⟨hb5, hq5⟩ := HST.out w5 g5 cap5 hown5 hgr5 hg5
                  have HS5 := Lib.hid (HFB.out w5 hgr5 (.slice (some ⟨g5, 0, none⟩) (All.length + 1) cap5)).1
                  have HS6 := Lib.hid (HFB.out w5 hgr5 (.slice (some ⟨g5, 0, none⟩) (All.length + 1) cap5)).2
                  have z1 := hb5.cell 1
                  have fr := fun i => hb5.free i
                  simp only [List.getElem?_toArray, List.getElem?_cons_zero, List.getElem?_cons_succ] at z1
                  have HQ5 := Lib.hid hq5
                  clear hown5 hgr5 hg5 hlt5 hb5 hq5
                  refine hK.out _ _ HS5.out (fun hHeld => ?_)
                  clear hK K
                  try simp only [Act.put, List.setIfInBounds_toArray, List.set_cons_zero, List.set_cons_succ]
                  refine wpAnyH_take (i := 13) (oi := _) (v := ?_) rfl (by kernel_rfl) (by decide +kernel) (by decide +kernel) (fun _ _ _ h => h) (Or.inl ⟨by rfl, ?_⟩) (by assumption) ?_
                  rotate_left
                  · intro w hSw
                    (try dsimp only at hSw)
                    go_simp
                    try with_reducible rfl
                  try simp only [Act.put, List.setIfInBounds_toArray, List.set_cons_zero, List.set_cons_succ]
                  refine wpAnyH_ready (rs := [14]) (by kernel_rfl) (by simp) ?_
                  refine (AllReadyH.cons (o := _) rfl (fun K hK => ?_) AllReadyH.nil)
                  go_simp
                  refine hK.out _ _ HS6.out (fun hHeld => ?_)
                  clear hK K
                  try simp only [Act.put, List.setIfInBounds_toArray, List.set_cons_zero, List.set_cons_succ]
                  refine wpAnyH_done (by kernel_rfl) ?_ _
                  go_wp2_with fail
                  go_roundw
                  case rel => exact ⟨j + 1, _, _, _, _, by omega, by go_num, HQ5, Lib.hid (by rw [List.length_append, HJ.out]; rfl)⟩
                  case measure => simp [intOf]; omega
        · have hjn : j = n := by omega
          have hr := HR.out.res
          have x0 := HR.out.box.cell 0
          have x1 := HR.out.box.cell 1
          have z0 := hr.cell 0
          have z1 := hr.cell 1
          have fr := fun i => hr.free i
          simp only [List.getElem?_toArray, List.getElem?_cons_zero, List.getElem?_cons_succ] at x0 x1 z0 z1
          rw [HJ.out, hjn] at x1
          have HP : Hid (∀ v0 v1, ChPost w (.returned (.agg #[.slice va n vc, .slice qa n qc])) ((wr.setCell ⟨w.heap.size, 0, none⟩ v0).setCell ⟨w.heap.size, 1, none⟩ v1)) := Lib.hid (fun v0 v1 => HR.out.post hn12 (by rw [HJ.out, hjn]))
          have hlb := HR.out.box.lt
          have HSELF := Lib.hid (self2 hr (.slice va n vc) (.slice qa n qc))
          clear hr HR
          go_wp2_with fail
          (try simp only [Exit.inBlock, Exit.then])
          have x0 := HSELF.out.cell 0
          have x1 := HSELF.out.cell 1
          simp only [List.getElem?_toArray, List.getElem?_cons_zero, List.getElem?_cons_succ] at x0 x1
          refine bodyPost_ret (v := .agg #[.slice va n vc, .slice qa n qc]) (by simp [results, Tryd.results10, go_sem, x0, x1]) rfl ?_
          exact HP.out _ _
end Go.Proofs.YtnejkgkikpgajaaDoor.ini
