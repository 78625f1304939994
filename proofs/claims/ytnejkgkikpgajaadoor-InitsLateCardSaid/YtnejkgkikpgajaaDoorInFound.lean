/-
  The search: one that is late, and all that have waited for it.
-/
import Derived.Test.YtnejkgkikpgajaaDoorInInv
import Derived.Test.YtnejkgkikpgajaaDoorPlKept
import Derived.Deep.LoopGhost
import Derived.Laws.AppendOwnNone
import Derived.WalkSmall
namespace Go.Proofs.YtnejkgkikpgajaaDoor.ini
open Go.ChangeShapes Go.WideShapes Go.ChangeAt Go.RowKit
open tr ck
set_option linter.unusedVariables false
set_option linter.unusedSimpArgs false

theorem row_low {W W' : World} {base n size : Nat} {e : TypeId} {v : Value} {xs : List Value} (h : W.ownsRow base e size v n xs) (hk : ∀ k, v.ownBlock = some k → W'.heap[k]? = W.heap[k]?) : W'.ownsRow base e size v n xs := by
  obtain ⟨h1, h2⟩ := h
  refine ⟨h1, ?_⟩
  rcases h2 with h2 | ⟨g, cap, cur, rfl, hb, hh, r⟩
  · exact .inl h2
  · exact .inr ⟨g, cap, cur, rfl, hb, (hk g rfl).trans hh, r⟩
/-- all of a search lies below -/
structure Lo (x : Cx) (R : Nat → Value) (B : Nat) : Prop where
  w : x.w.heap.size ≤ B
  sb : x.sb < B
  wb : x.wb < B
  m : x.m < B
  om : x.om < B
  row : ∀ u, u < x.own.length → ∀ k, (R u).ownBlock = some k → k < B
theorem Se.lo {x : Cx} {W : World} {S : List ByteArray} {R : Nat → Value} {Ws : List (List Nat)} (h : Se x W S R Ws) : Lo x R W.heap.size :=
  ⟨h.size, h.sbl.lt, (by obtain ⟨cs, hw, _⟩ := h.wt.has; exact hw.lt), h.late.lt, h.nums.lt, fun u hu k e => ((h.wt.row u hu).lt k e).2⟩
theorem Se.low {x : Cx} {W W' : World} {S : List ByteArray} {R : Nat → Value} {Ws : List (List Nat)} {B : Nat} (h : Se x W S R Ws) (hl : Lo x R B) (hs : W.heap.size ≤ W'.heap.size) (hk : ∀ k, k < B → W'.heap[k]? = W.heap[k]?) : Se x W' S R Ws := by
  obtain ⟨cs, hw, hcs⟩ := h.wt.has
  refine ⟨Nat.le_trans h.size hs, fun b o v hv => ?_, (hk _ hl.sb).trans h.sbl, h.late.keep (hk _ hl.m), h.nums.keep (hk _ hl.om), ⟨h.wt.len, ⟨cs, (hk _ hl.wb).trans hw, hcs⟩, fun u hu => row_low (h.wt.row u hu) (fun k e => hk k (hl.row u hu k e)), h.wt.nil, h.wt.sep⟩, h.hsb, h.hwb, h.hmo⟩
  have k1 := h.keep b o v hv
  have hb : b < x.w.heap.size := World.block_lt_of_cell? _ _ hv
  unfold World.cell? at k1 ⊢
  rw [hk b (Nat.lt_of_lt_of_le hb hl.w)]; exact k1
theorem Se.addS {x : Cx} {W W' : World} {S S' : List ByteArray} {R : Nat → Value} {Ws : List (List Nat)} (h : Se x W S R Ws) (hg : W.grownBy W' (some x.m)) (hm : MAt W' x.m (ltL S')) : Se x W' S' R Ws := by
  obtain ⟨cs, hw, hcs⟩ := h.wt.has
  refine ⟨Nat.le_trans h.size hg.size, fun b o v hv => ?_, h.sbl.grown hg (fun e => h.late.notHas h.sbl (by injection e)), hm, h.nums.grown hg (fun e => h.hmo (by injection e)), ⟨h.wt.len, ⟨cs, hw.grown hg (fun e => h.late.notHas hw (by injection e)), hcs⟩, fun u hu => row_low (h.wt.row u hu) (fun k e => hg.block k ((h.wt.row u hu).lt k e).2 (fun e' => row_not_map (h.wt.row u hu) h.late (by rw [e]; exact e'))), h.wt.nil, h.wt.sep⟩, h.hsb, h.hwb, h.hmo⟩
  have k1 := h.keep b o v hv
  have hne := h.late.not k1
  have hb := hg.block b (World.block_lt_of_cell? _ _ k1) (fun e => hne (by injection e))
  unfold World.cell? at k1 ⊢
  rw [hb]; exact k1

/-- what the loop of found keeps -/
structure Fs (x : Cx) (All P : List Eqn) (W : World) (R : Nat → Value) (Ws : List (List Nat)) (S : List ByteArray) (T : List Nat) (tv : Value) (W' : World) : Prop where
  se : Se x W' S R Ws
  inv : Inv x.own All P S Ws T
  row : W'.ownsRow W.heap.size 3 1 tv T.length (rowI T)
  kp : Kp [x.m] W W'
def FoundPost (x : Cx) (All P : List Eqn) (W : World) (R : Nat → Value) (Ws : List (List Nat)) (e : Ending) (W' : World) : Prop := ∃ S', e = .returned (.tuple #[]) ∧ Se x W' S' R Ws ∧ Inv x.own All P S' Ws [] ∧ Kp [x.m] W W'
theorem Fs.drew {x : Cx} {All P : List Eqn} {W W' : World} {R : Nat → Value} {Ws : List (List Nat)} {S : List ByteArray} {T : List Nat} {tv : Value} (h : Fs x All P W R Ws S T tv W') : Fs x All P W R Ws S T tv W'.drew :=
  ⟨h.se.below (Below.refl _ _).drew, h.inv, h.row.drew, h.kp.below (Below.refl _ _).drew⟩

set_option maxRecDepth 100000 in
set_option maxHeartbeats 8000000 in
theorem found_any (x : Cx) (All P : List Eqn) (W : World) (S : List ByteArray) (R : Nat → Value) (Ws : List (List Nat)) (v : Nat) (hn : x.own.Nodup) (hS : Se x W S R Ws) (hV : NamesV x.w x.va x.own) (hI : Inv x.own All P S Ws [v]) (ht : tot Ws ≤ 1000000) :
    Calls Tryd.prog 58 #[.pointer (some ⟨x.sb, 0, none⟩), .int .i64 (v : Int)] W (FoundPost x All P W R Ws) := by
  obtain ⟨iv0, hvi, hv3⟩ := Option.map_eq_some_iff.1 int_info
  simp only [Prod.mk.injEq] at hv3
  obtain ⟨hvz, hvs, hvb⟩ := hv3
  have HVI := Lib.hid hvi
  have HVZ := Lib.hid hvz
  have HVS := Lib.hid hvs
  have HVB := Lib.hid hvb
  have HN := Lib.hid hn
  have HV := Lib.hid hV
  have HLO := Lib.hid hS.lo
  have hWL := hS.wt.len
  have H0 : Hid (Fs x All P W R Ws S [v] (.slice (some ⟨W.heap.size, 0, none⟩) 1 1) (W.alloc (.cells #[.int .i64 (v : Int)] 3))) := Lib.hid ⟨hS.below ((Below.refl _ _).alloc (Nat.le_refl _) _), hI, (by
    have := World.ownsRow_lit (base := W.heap.size) (e := 3) (size := 1) W #[.int .i64 (v : Int)] 1 (Nat.le_refl _) (by decide) rfl
    exact this), (Kp.refl _ _).alloc _⟩
  have HR0 : Hid ([v].length + rest S x.own Ws ≤ 1 + tot Ws) := Lib.hid (by have := rest_le S x.own Ws; simp only [List.length_cons, List.length_nil]; omega)
  have HWL := Lib.hid hWL
  clear hvi hvz hvs hvb hn hV hS hI hWL
  unfold FoundPost
  go_enter Tryd.func58, Tryd.ntmps58
  go_wp2_with fail
  go_loopg [4] (1 + tot Ws) (fun k tv wr => ∃ (S' : List ByteArray) (T : List Nat) (ta : Option Addr) (tc : Nat), T.length + rest S' x.own Ws ≤ k ∧ k ≤ 1 + tot Ws ∧ tv = .slice ta T.length tc ∧ Hid (Fs x All P W R Ws S' T (.slice ta T.length tc) wr))
  case atStart => exact ⟨S, [v], _, _, HR0.out, Nat.le_refl _, rfl, H0⟩
  case round =>
    obtain ⟨S', T, ta, tc, hk, hkt, rfl, HR⟩ := hrel
    clear H0 HR0
    rcases List.eq_nil_or_concat T with rfl | ⟨T', t, rfl⟩
    · have H : Hid (Se x wr S' R Ws ∧ Inv x.own All P S' Ws [] ∧ Kp [x.m] W wr) := Lib.hid ⟨HR.out.se, HR.out.inv, HR.out.kp⟩
      clear HR
      go_wp2_with fail
      go_returns
      exact ⟨S', rfl, H.out⟩
    · rw [List.concat_eq_append] at hk HR ⊢
      have hr := HR.out.row
      obtain ⟨g, cap, hform, hgb, hgl⟩ := hr.form (by simp)
      simp only [Value.slice.injEq] at hform
      obtain ⟨rfl, -, rfl⟩ := hform
      obtain ⟨m, hm⟩ : ∃ m, m = T'.length := ⟨_, rfl⟩
      have hlen : (T' ++ [t]).length = m + 1 := by rw [List.length_append, hm]; rfl
      have hrI : rowI (T' ++ [t]) = rowI T' ++ [.int .i64 (t : Int)] := by simp
      have ht0 := HR.out.inv.c t (by simp)
      rw [hlen] at hk hr ⊢
      rw [hrI] at hr
      have hcell := hr.cellAt m (by omega)
      rw [List.getElem?_append_right (by simp [hm]), show m - (rowI T').length = 0 by simp [hm]] at hcell
      have hcell' : wr.cell? ⟨g, m, none⟩ = some (.int .i64 (t : Int)) := hcell
      have hcap : m + 1 ≤ tc := by
        rcases hr.2 with ⟨h, _⟩ | ⟨g', cap', cur, h, _, _, h2, _⟩
        · cases h
        · simp only [Value.slice.injEq] at h; omega
      have hpop : wr.ownsRow W.heap.size 3 1 (.slice (some ⟨g, 0, none⟩) m tc) m (rowI T') := Go.ownsRow_pop (by simp [hm]) hr
      have HPOP := Lib.hid hpop
      have HM := Lib.hid hm
      have HT0 := Lib.hid ht0
      have g0 : decide (((m + 1 : Nat) : Int) > 0) = true := decide_eq_true (by omega)
      have g1 : (0 : Int) ≤ (m : Int) := Int.natCast_nonneg _
      have g2 : ((m + 1 : Nat) : Int) - 1 = (m : Int) := by omega
      have g3 : (m : Int) < ((m + 1 : Nat) : Int) := by omega
      have g4 : (m : Int) ≤ (tc : Int) := by omega
      clear hr hcell hpop hm hrI hlen ht0
      have hse := HR.out.se
      have b0 := hse.sbl.cell 0
      have b1 := hse.sbl.cell 1
      have b3 := hse.sbl.cell 3
      obtain ⟨vb, hva, hnc⟩ := HV.out t (nmA x.own t) (by rw [nmA_lt HT0.out.1]; exact List.getElem?_eq_getElem HT0.out.1)
      rw [hva] at b1
      have n0 := hse.keep _ _ _ hnc
      simp only [List.getElem?_toArray, List.getElem?_cons_zero, List.getElem?_cons_succ] at b0 b1 b3
      have t0 : (0 : Int) ≤ (t : Int) := Int.natCast_nonneg _
      have t1 : (t : Int) < (x.own.length : Int) := by have := HT0.out.1; omega
      have HADD := Lib.hid (add_any wr.drew x.m S' (nmA x.own t) (hse.late.below ((Below.refl _ wr).drew) hse.late.lt))
      obtain ⟨cs, hw, hcs⟩ := hse.wt.has
      have w0 := (hw.cell t).trans (hcs t HT0.out.1)
      have HW := Lib.hid (And.intro hw hcs)
      clear hse hw hcs hnc b3 w0
      unfold AddPost at HADD
      go_wp2_with fail
      go_still_tail 12, (by kernel_rfl)
      change wpList _ _ _ _ _ wr.drew
      go_wp2_with fail
      refine HADD.out.mono ?_
      rintro e w1 ⟨rfl, hm1, hg1⟩
      have hse1 := HR.out.drew.se.addS hg1 hm1
      have hkp1 : Kp [x.m] W w1 := HR.out.drew.kp.grown hg1 (.inl (by simp))
      have hr1 : w1.ownsRow W.heap.size 3 1 (.slice (some ⟨g, 0, none⟩) m tc) m (rowI T') := row_low HPOP.out (fun k e => hg1.block k ((HPOP.out.lt k e).2) (fun e' => by
        have h1 := (HPOP.out.lt k e).1
        have h2 := HLO.out.m
        injection e' with e'
        omega))
      have H1 := Lib.hid (And.intro hse1 (And.intro hkp1 hr1))
      clear hse1 hkp1 hr1 hm1 hg1 HADD n0 b0 b1 hcell'
      cases hmem : memB (nmA x.own t) S'
      · have HMEM := Lib.hid hmem
        have hS2 : nmA x.own t ∉ S' := memB_false.1 hmem
        rw [hmem] at H1
        simp only [Bool.false_eq_true, if_false] at H1
        clear hmem
        have hse1 := H1.out.1
        have b3 := hse1.sbl.cell 3
        obtain ⟨cs1, hw1, hcs1⟩ := hse1.wt.has
        have w0 := (hw1.cell t).trans (hcs1 t HT0.out.1)
        simp only [List.getElem?_toArray, List.getElem?_cons_zero, List.getElem?_cons_succ] at b3
        have hrow := hse1.wt.row t HT0.out.1
        have hadd := rest_add (S := S') x.own Ws t HN.out HWL.out HT0.out.1 hS2
        have HINV : Hid (Inv x.own All P (S' ++ [nmA x.own t]) Ws (T' ++ gt Ws t)) := Lib.hid (HR.out.inv.add HN.out hS2)
        by_cases hz : gt Ws t = []
        · have hnone := hse1.wt.nil t HT0.out.1 hz
          rw [hnone] at w0
          have H2 : Hid (Fs x All P W R Ws (S' ++ [nmA x.own t]) T' (.slice (some ⟨g, 0, none⟩) T'.length tc) w1) := Lib.hid ⟨H1.out.1, by have := HINV.out; rwa [hz, List.append_nil] at this, by rw [← HM.out]; exact H1.out.2.2, H1.out.2.1⟩
          have HME : Hid (T'.length + rest (S' ++ [nmA x.own t]) x.own Ws < gk) := Lib.hid (by rw [hz] at hadd; simp at hadd; rw [← HM.out]; omega)
          clear hse1 hw1 hcs1 hrow hadd hS2 hnone hz
          go_wp2_with (at_builtin; refine wpList_append_own_none rfl _ _ 173 rfl W.heap.size 3 iv0 1 Tryd.underlying173 HVI.out (.slice (some ⟨g, 0, none⟩) m tc) m (rowI T') rfl H1.out.2.2 rfl ?_)
          go_roundg (T'.length + rest (S' ++ [nmA x.own t]) x.own Ws)
          case rel => exact ⟨S' ++ [nmA x.own t], T', some ⟨g, 0, none⟩, tc, Nat.le_refl _, by have := HME.out; omega, by rw [HM.out], H2⟩
          case measure => exact HME.out
        · obtain ⟨gr, cr, hrf, hgrb, hgrl⟩ := hrow.form (by cases hq : gt Ws t with | nil => exact absurd hq hz | cons y r => simp)
          rw [hrf] at w0 hrow
          have hlp : 0 < (gt Ws t).length := by cases hq : gt Ws t with | nil => exact absurd hq hz | cons y r => simp
          have HNW : Hid (∀ j z, (rowI (gt Ws t))[j]? = some z → w1.cell? ((⟨gr, 0, none⟩ : Addr).add j) = some z) := Lib.hid (fun j z hj => hrow.cells rfl j z hj)
          have HONE : Hid (∀ u ∈ rowI (gt Ws t), u.oneCell' = true) := Lib.hid (fun u hu => by
            obtain ⟨y, _, rfl⟩ := List.mem_map.1 hu
            rfl)
          have HLP := Lib.hid hlp
          have HC3 : Hid (m + (gt Ws t).length ≤ maxLen) := Lib.hid (by unfold maxLen; omega)
          have HC4 : Hid ((m + (gt Ws t).length) * 8 ≤ 140737488355328) := Lib.hid (by omega)
          have HBS : Hid (W.heap.size ≤ w1.heap.size) := Lib.hid H1.out.2.1.size
          have HLN : Hid ((rowI (gt Ws t)).length = (gt Ws t).length * 1) := Lib.hid (by simp)
          have HME : Hid ((T' ++ gt Ws t).length + rest (S' ++ [nmA x.own t]) x.own Ws < gk) := Lib.hid (by rw [List.length_append, ← HM.out]; omega)
          have HLL : Hid ((T' ++ gt Ws t).length = m + (gt Ws t).length) := Lib.hid (by rw [List.length_append, HM.out])
          have HGB := Lib.hid hgb
          have HST : Hid (∀ (w3 : World) (g3 cap3 : Nat), w3.ownsRow W.heap.size 3 1 (.slice (some ⟨g3, 0, none⟩) (m + (gt Ws t).length) cap3) (m + (gt Ws t).length) (rowI T' ++ rowI (gt Ws t)) → w1.grownBy w3 (Value.slice (some ⟨g, 0, none⟩) m tc).ownBlock → Fs x All P W R Ws (S' ++ [nmA x.own t]) (T' ++ gt Ws t) (.slice (some ⟨g3, 0, none⟩) (T' ++ gt Ws t).length cap3) w3) := Lib.hid (fun w3 g3 cap3 h1 h2 => by
            refine ⟨H1.out.1.low HLO.out h2.size (fun k hk => h2.block k (by have := HBS.out; omega) (fun e => ?_)), HINV.out, ?_, H1.out.2.1.grown h2 (.inr HGB.out)⟩
            · have h3 := HGB.out
              simp only [Value.ownBlock, Option.some.injEq] at e
              omega
            · rw [HLL.out, show rowI (T' ++ gt Ws t) = rowI T' ++ rowI (gt Ws t) from List.map_append]
              exact h1)
          clear hse1 hw1 hcs1 hrow hadd hS2 hrf hgrb hgrl hlp hz
          go_wp2_with (at_builtin; refine wpList_append_lies _ rfl _ _ 173 rfl W.heap.size 3 iv0 _ 1 8 Tryd.underlying173 HVI.out HVZ.out HVS.out HVB.out rfl (by decide) (.slice (some ⟨g, 0, none⟩) m tc) m (rowI T') rfl H1.out.2.2 ⟨gr, 0, none⟩ (gt Ws t).length cr (rowI (gt Ws t)) rfl HLN.out HNW.out HONE.out HLP.out HC3.out HC4.out HBS.out _ rfl ?_; intro g3 cap3 w3 hown3 hgr3 hg3 hlt3; have H3 := Lib.hid (HST.out w3 g3 cap3 hown3 hgr3); clear hown3 hgr3 hg3 hlt3)
          go_roundg ((T' ++ gt Ws t).length + rest (S' ++ [nmA x.own t]) x.own Ws)
          case rel => exact ⟨S' ++ [nmA x.own t], T' ++ gt Ws t, some ⟨g3, 0, none⟩, cap3, Nat.le_refl _, by have := HME.out; omega, by rw [HLL.out], H3⟩
          case measure => exact HME.out
      · have hS2 : nmA x.own t ∈ S' := memB_iff.1 hmem
        rw [hmem] at H1
        simp only [if_true] at H1
        have H2 : Hid (Fs x All P W R Ws S' T' (.slice (some ⟨g, 0, none⟩) T'.length tc) w1) := Lib.hid ⟨H1.out.1, HR.out.inv.drop hS2, by rw [← HM.out]; exact H1.out.2.2, H1.out.2.1⟩
        have HME : Hid (T'.length + rest S' x.own Ws < gk) := Lib.hid (by rw [← HM.out]; omega)
        clear hmem hS2
        go_wp2_with fail
        go_roundg (T'.length + rest S' x.own Ws)
        case rel => exact ⟨S', T', some ⟨g, 0, none⟩, tc, Nat.le_refl _, by have := HME.out; omega, by rw [HM.out], H2⟩
        case measure => exact HME.out
end Go.Proofs.YtnejkgkikpgajaaDoor.ini
