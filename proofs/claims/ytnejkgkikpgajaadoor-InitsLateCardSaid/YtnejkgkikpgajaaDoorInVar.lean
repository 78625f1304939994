/-
  The search: a variable that an expression hangs on.
-/
import Derived.Test.YtnejkgkikpgajaaDoorInSe
import Derived.Deep.RegionLaw
import Derived.Deep.RegionHeld3
import Derived.Deep.QuietTactic
import Derived.BigQuiet
namespace Go.Proofs.YtnejkgkikpgajaaDoor.ini
open Go.ChangeShapes Go.WideShapes Go.ChangeAt Go.RowKit
open tr ck
set_option linter.unusedVariables false
set_option linter.unusedSimpArgs false

theorem int_info : (Tryd.prog.info? 3).map (fun i => (i.zero, i.size, i.bytes)) = some (some (.int .i64 0), 1, 8) := by kernel_rfl
set_option maxRecDepth 100000 in
set_option maxHeartbeats 8000000 in
theorem var_any (x : Cx) (W : World) (S : List ByteArray) (R : Nat → Value) (Ws : List (List Nat)) (nm : ByteArray) (v ps pv : Nat) (hS : Se x W S R Ws) (hps : Has W ps 111 #[.pointer (some ⟨x.sb, 0, none⟩)]) (hpv : Has W pv 3 #[.int .i64 (v : Int)])
    (hnv : ∀ u, u < x.own.length → (R u).ownBlock ≠ some pv) (ht : tot Ws ≤ 1000000) :
    Calls Tryd.prog 78 #[.string nm, .pointer (some ⟨ps, 0, none⟩), .pointer (some ⟨pv, 0, none⟩)] W (ExPost x W S R Ws v [nm] (memB nm S) 1) := by
  have HH := Lib.hid (has_any W x.m S nm hS.late)
  have HS := Lib.hid hS
  have HNV := Lib.hid hnv
  have HPS := Lib.hid hps
  have HPV := Lib.hid hpv
  have c0 := hps.cell 0
  have b0 := hS.sbl.cell 0
  simp only [List.getElem?_toArray, List.getElem?_cons_zero] at c0 b0
  clear hS hnv hps hpv
  unfold ExPost
  cases hb : memB nm S
  · rw [hb] at HH
    have HB := Lib.hid hb
    clear hb
    rcases hx : idx nm x.own with _ | u
    · have HX := Lib.hid hx
      clear hx
      go_enter Tryd.func78, Tryd.ntmps78
      go_wp2_with fail
      refine HH.out.mono ?_
      rintro e w1 ⟨rfl, hb1⟩
      have hS1 := HS.out.below hb1
      have d0 := (HPS.out.below hb1 (Has.lt HPS.out)).cell 0
      have e2 := hS1.sbl.cell 2
      have hg := get_numbers nm hS1.nums
      rw [mlk_nb, HX.out] at hg
      simp only [List.getElem?_toArray, List.getElem?_cons_zero, List.getElem?_cons_succ, Option.map_none, Option.getD_none, Option.isSome_none] at d0 e2 hg
      have H1 := Lib.hid (And.intro hS1 hb1)
      clear hS1 hb1 HH c0 b0
      go_wp2_with fail
      go_ret
      exact ⟨R, Ws, rfl, H1.out.1, Mv.below H1.out.2, ExR.refl (fun _ n hn => by rw [List.mem_singleton] at hn; rw [hn]; exact HX.out)⟩
    · have HX := Lib.hid hx
      obtain ⟨hu, hun⟩ := idx_some hx
      clear hx hun
      obtain ⟨iv0, hvi, hv3⟩ := Option.map_eq_some_iff.1 int_info
      simp only [Prod.mk.injEq] at hv3
      obtain ⟨hvz, hvs, hvb⟩ := hv3
      have HVI := Lib.hid hvi
      have HVZ := Lib.hid hvz
      have HVS := Lib.hid hvs
      have HVB := Lib.hid hvb
      clear hvi hvz hvs hvb
      go_enter Tryd.func78, Tryd.ntmps78
      go_wp2_with fail
      refine HH.out.mono ?_
      rintro e w1 ⟨rfl, hb1⟩
      have hS1 := HS.out.below hb1
      have hps1 := HPS.out.below hb1 (Has.lt HPS.out)
      have hpv1 := HPV.out.below hb1 (Has.lt HPV.out)
      have d0 := hps1.cell 0
      have v0 := hpv1.cell 0
      have e2 := hS1.sbl.cell 2
      have e3 := hS1.sbl.cell 3
      have hg := get_numbers nm hS1.nums
      rw [mlk_nb, HX.out] at hg
      obtain ⟨cs, hw, hcs⟩ := hS1.wt.has
      have w0 := (hw.cell u).trans (hcs u hu)
      have wf := hw.free u
      simp only [List.getElem?_toArray, List.getElem?_cons_zero, List.getElem?_cons_succ, Option.map_some, Option.getD_some, Option.isSome_some, Nat.zero_add] at d0 e2 e3 hg v0
      have i0 : (0 : Int) ≤ (u : Int) := Int.natCast_nonneg _
      have i1 : (u : Int) < (x.own.length : Int) := by omega
      have hgl := len_le_tot Ws u
      have hrow := hS1.wt.row u hu
      have HON : Hid (((w1.alloc (.cells #[.int .i64 (v : Int)] 3)).drew).ownsRow x.w.heap.size 3 1 (R u) (gt Ws u).length (rowI (gt Ws u))) := Lib.hid (hrow.alloc _)
      have HNW : Hid (∀ j z, ([.int .i64 (v : Int)] : List Value)[j]? = some z → ((w1.alloc (.cells #[.int .i64 (v : Int)] 3)).drew).cell? ((⟨w1.heap.size, 0, none⟩ : Addr).add j) = some z) := Lib.hid (news_of w1 [.int .i64 (v : Int)] 3 _ rfl)
      have HBS : Hid (x.w.heap.size ≤ ((w1.alloc (.cells #[.int .i64 (v : Int)] 3)).drew).heap.size) := Lib.hid (by have := hS1.size; simp; omega)
      have HC3 : Hid ((gt Ws u).length + 1 ≤ maxLen) := Lib.hid (by unfold maxLen; omega)
      have HC4 : Hid (((gt Ws u).length + 1) * 8 ≤ 140737488355328) := Lib.hid (by omega)
      have FB : Hid (∀ w5 : World, ((w1.alloc (.cells #[.int .i64 (v : Int)] 3)).drew).grownBy w5 (R u).ownBlock → w5.cell? ⟨x.wb, u, none⟩ = some (R u) ∧ w5.frozen? ⟨x.wb, u, none⟩ = false ∧ x.wb < w5.heap.size ∧ w5.cell? ⟨x.sb, 3, none⟩ = some (.slice (some ⟨x.wb, 0, none⟩) x.own.length x.wc) ∧ w5.cell? ⟨ps, 0, none⟩ = some (.pointer (some ⟨x.sb, 0, none⟩)) ∧ w5.cell? ⟨pv, 0, none⟩ = some (.int .i64 (v : Int)) ∧ x.sb ≠ x.wb ∧ ps ≠ x.wb ∧ pv ≠ x.wb) := Lib.hid (fun w5 hgr => by
        have hgr' : (w1.alloc (.cells #[.int .i64 (v : Int)] 3)).grownBy w5 (R u).ownBlock := ⟨hgr.os, hgr.tape, hgr.output, hgr.size, hgr.block⟩
        have hh := (hw.alloc (.cells #[.int .i64 (v : Int)] 3)).grown hgr' (fun e => hS1.wt.notRow hw (by decide) u hu e.symm)
        have h3 := (hS1.sbl.alloc (.cells #[.int .i64 (v : Int)] 3)).grown hgr' (fun e => hS1.wt.notRow hS1.sbl (by decide) u hu e.symm)
        have h4 := (hps1.alloc (.cells #[.int .i64 (v : Int)] 3)).grown hgr' (fun e => hS1.wt.notRow hps1 (by decide) u hu e.symm)
        have h5 := (hpv1.alloc (.cells #[.int .i64 (v : Int)] 3)).grown hgr' (fun e => HNV.out u hu e.symm)
        exact ⟨(hh.cell u).trans (hcs u hu), hh.free u, hh.lt, h3.cell 3, h4.cell 0, h5.cell 0, fun e => absurd (Has.same (e ▸ h3) hh) (by decide), fun e => absurd (Has.same (e ▸ h4) hh) (by decide), fun e => absurd (Has.same (e ▸ h5) hh) (by decide)⟩)
      have HPU : Hid (∀ (w5 : World) (g5 cap5 : Nat), w5.ownsRow x.w.heap.size 3 1 (.slice (some ⟨g5, 0, none⟩) ((gt Ws u).length + 1) cap5) ((gt Ws u).length + 1) (rowI (gt Ws u) ++ [.int .i64 (v : Int)]) → ((w1.alloc (.cells #[.int .i64 (v : Int)] 3)).drew).grownBy w5 (R u).ownBlock → ((R u).ownBlock = some g5 ∨ g5 = ((w1.alloc (.cells #[.int .i64 (v : Int)] 3)).drew).heap.size) →
          Se x (w5.setCell ⟨x.wb, u, none⟩ (.slice (some ⟨g5, 0, none⟩) ((gt Ws u).length + 1) cap5)) S (setR R u (.slice (some ⟨g5, 0, none⟩) ((gt Ws u).length + 1) cap5)) (Ws.set u (gt Ws u ++ [v])) ∧ Mv W (w5.setCell ⟨x.wb, u, none⟩ (.slice (some ⟨g5, 0, none⟩) ((gt Ws u).length + 1) cap5)) x.wb x.own.length R (setR R u (.slice (some ⟨g5, 0, none⟩) ((gt Ws u).length + 1) cap5))) := Lib.hid (fun w5 g5 cap5 h1 h2 h3 => by
        obtain ⟨q1, q2⟩ := hS1.push (o := .cells #[.int .i64 (v : Int)] 3) hu h1 ⟨h2.os, h2.tape, h2.output, h2.size, h2.block⟩ (by rcases h3 with h3 | h3; exact .inl h3; exact .inr (by rw [h3]; simp))
        exact ⟨q1, (Mv.below hb1).trans q2⟩)
      have HEX : Hid (ExR x.own v [nm] false 1 Ws (Ws.set u (gt Ws u ++ [v]))) := Lib.hid (by
        have hul : u < Ws.length := by rw [hS1.wt.len]; exact hu
        refine ⟨by rw [List.length_set], fun _ n hn k hk => ?_, fun k t h => ?_, fun k t h => ?_, ?_⟩
        · rw [List.mem_singleton] at hn
          rw [hn, HX.out] at hk
          injection hk with hk
          subst hk
          rw [gt_set hul, if_pos rfl]; simp
        · rw [gt_set hul]
          by_cases e : k = u
          · rw [if_pos e]; rw [e] at h; exact List.mem_append_left _ h
          · rw [if_neg e]; exact h
        · rw [gt_set hul] at h
          by_cases e : k = u
          · rw [if_pos e] at h
            rcases List.mem_append.1 h with h | h
            · rw [e]; exact .inl h
            · rw [List.mem_singleton] at h
              exact .inr ⟨h, nm, by simp, by rw [e]; exact HX.out⟩
          · rw [if_neg e] at h; exact .inl h
        · have := tot_set hul (gt Ws u ++ [v])
          rw [List.length_append] at this
          simp at this
          omega)
      have hlp : ps < w1.heap.size := hps1.lt
      have hlv : pv < w1.heap.size := hpv1.lt
      have hls : x.sb < w1.heap.size := hS1.sbl.lt
      have hlw : x.wb < w1.heap.size := hw.lt
      have HKS : Hid (∀ (w5 : World) (z : Value), x.sb ≠ x.wb → ps ≠ x.wb → pv ≠ x.wb → (w5.cell? ⟨ps, 0, none⟩ = some (.pointer (some ⟨x.sb, 0, none⟩)) ∧ w5.cell? ⟨x.sb, 3, none⟩ = some (.slice (some ⟨x.wb, 0, none⟩) x.own.length x.wc) ∧ w5.cell? ⟨pv, 0, none⟩ = some (.int .i64 (v : Int))) → ((w5.setCell ⟨x.wb, u, none⟩ z).cell? ⟨ps, 0, none⟩ = some (.pointer (some ⟨x.sb, 0, none⟩)) ∧ (w5.setCell ⟨x.wb, u, none⟩ z).cell? ⟨x.sb, 3, none⟩ = some (.slice (some ⟨x.wb, 0, none⟩) x.own.length x.wc) ∧ (w5.setCell ⟨x.wb, u, none⟩ z).cell? ⟨pv, 0, none⟩ = some (.int .i64 (v : Int)))) := Lib.hid (fun w5 z h1 h2 h3 h => by
        have hb : But w5 (w5.setCell ⟨x.wb, u, none⟩ z) x.wb := (But.refl _ _).put u _
        exact ⟨hb.cell h2 h.1, hb.cell h1 h.2.1, hb.cell h3 h.2.2⟩)
      have HSA : Hid (w1.drew.cell? ⟨ps, 0, none⟩ = some (.pointer (some ⟨x.sb, 0, none⟩)) ∧ w1.drew.cell? ⟨x.sb, 3, none⟩ = some (.slice (some ⟨x.wb, 0, none⟩) x.own.length x.wc) ∧ w1.drew.cell? ⟨pv, 0, none⟩ = some (.int .i64 (v : Int))) := Lib.hid ⟨d0, e3, v0⟩
      have HSB : Hid (((w1.alloc (.cells #[.int .i64 (v : Int)] 3)).drew).cell? ⟨ps, 0, none⟩ = some (.pointer (some ⟨x.sb, 0, none⟩)) ∧ ((w1.alloc (.cells #[.int .i64 (v : Int)] 3)).drew).cell? ⟨x.sb, 3, none⟩ = some (.slice (some ⟨x.wb, 0, none⟩) x.own.length x.wc) ∧ ((w1.alloc (.cells #[.int .i64 (v : Int)] 3)).drew).cell? ⟨pv, 0, none⟩ = some (.int .i64 (v : Int))) := Lib.hid (by
        have hb : Below w1.heap.size w1 ((w1.alloc (.cells #[.int .i64 (v : Int)] 3)).drew) := ((Below.refl _ w1).alloc (Nat.le_refl _) _).drew
        exact ⟨cell_below hb _ _ _ d0, cell_below hb _ _ _ e3, cell_below hb _ _ _ v0⟩)
      clear hS1 hps1 hpv1 hb1 HH c0 b0 hw hcs hrow hgl hu
      go_wp2_with fail
      refine wp_region_held_drew (S := fun w' => w'.cell? ⟨ps, 0, none⟩ = some (.pointer (some ⟨x.sb, 0, none⟩)) ∧ w'.cell? ⟨x.sb, 3, none⟩ = some (.slice (some ⟨x.wb, 0, none⟩) x.own.length x.wc) ∧ w'.cell? ⟨pv, 0, none⟩ = some (.int .i64 (v : Int))) (by kernel_rfl) HSA.out (fun hHeld => ?_)
      refine wpAnyH_take (i := 0) (oi := _) (v := ?_) rfl (by kernel_rfl) (by kernel_rfl) (by kernel_rfl) (fun _ _ _ h => h) (Or.inl ⟨by rfl, ?_⟩) (by assumption) ?_
      rotate_left
      · intro w hSw
        (try dsimp only at hSw)
        go_simp
        try with_reducible rfl
      try simp only [Act.put, List.setIfInBounds_toArray, List.set_cons_zero, List.set_cons_succ]
      refine wpAnyH_take (i := 1) (oi := _) (v := ?_) rfl (by kernel_rfl) (by kernel_rfl) (by kernel_rfl) (fun _ _ _ h => h) (Or.inl ⟨by rfl, ?_⟩) (by assumption) ?_
      rotate_left
      · intro w hSw
        (try dsimp only at hSw)
        go_simp
        try with_reducible rfl
      try simp only [Act.put, List.setIfInBounds_toArray, List.set_cons_zero, List.set_cons_succ]
      refine wpAnyH_take (i := 2) (oi := _) (v := ?_) rfl (by kernel_rfl) (by kernel_rfl) (by kernel_rfl) (fun _ _ _ h => h) (Or.inl ⟨by rfl, ?_⟩) (by assumption) ?_
      rotate_left
      · intro w hSw
        (try dsimp only at hSw)
        go_simp
        try with_reducible rfl
      try simp only [Act.put, List.setIfInBounds_toArray, List.set_cons_zero, List.set_cons_succ]
      refine wpAnyH_take (i := 3) (oi := _) (v := ?_) rfl (by kernel_rfl) (by kernel_rfl) (by kernel_rfl) (fun _ _ _ h => h) (Or.inl ⟨by rfl, ?_⟩) (by assumption) ?_
      rotate_left
      · intro w hSw
        (try dsimp only at hSw)
        go_simp
        try with_reducible rfl
      try simp only [Act.put, List.setIfInBounds_toArray, List.set_cons_zero, List.set_cons_succ]
      refine wpAnyH_take (i := 4) (oi := _) (v := ?_) rfl (by kernel_rfl) (by kernel_rfl) (by kernel_rfl) (fun _ _ _ h => h) (Or.inl ⟨by rfl, ?_⟩) (by assumption) ?_
      rotate_left
      · intro w hSw
        (try dsimp only at hSw)
        go_simp
        try with_reducible rfl
      try simp only [Act.put, List.setIfInBounds_toArray, List.set_cons_zero, List.set_cons_succ]
      refine wpAnyH_take (i := 5) (oi := _) (v := ?_) rfl (by kernel_rfl) (by kernel_rfl) (by kernel_rfl) (fun _ _ _ h => h) (Or.inl ⟨by rfl, ?_⟩) (by assumption) ?_
      rotate_left
      · intro w hSw
        (try dsimp only at hSw)
        go_simp
        try with_reducible rfl
      try simp only [Act.put, List.setIfInBounds_toArray, List.set_cons_zero, List.set_cons_succ]
      refine wpAnyH_take (i := 6) (oi := _) (v := ?_) rfl (by kernel_rfl) (by kernel_rfl) (by kernel_rfl) (fun _ _ _ h => h) (Or.inl ⟨by rfl, ?_⟩) (by assumption) ?_
      rotate_left
      · intro w hSw
        (try dsimp only at hSw)
        go_simp
        try with_reducible rfl
      try simp only [Act.put, List.setIfInBounds_toArray, List.set_cons_zero, List.set_cons_succ]
      refine wpAnyH_take (i := 7) (oi := _) (v := ?_) rfl (by kernel_rfl) (by kernel_rfl) (by kernel_rfl) (fun _ _ _ h => h) (Or.inl ⟨by rfl, ?_⟩) (by assumption) ?_
      rotate_left
      · intro w hSw
        (try dsimp only at hSw)
        go_simp
        try with_reducible rfl
      try simp only [Act.put, List.setIfInBounds_toArray, List.set_cons_zero, List.set_cons_succ]
      refine wpAnyH_take (i := 8) (oi := _) (v := ?_) rfl (by kernel_rfl) (by kernel_rfl) (by kernel_rfl) (fun _ _ _ h => h) (Or.inl ⟨by rfl, ?_⟩) (by assumption) ?_
      rotate_left
      · intro w hSw
        (try dsimp only at hSw)
        go_simp
        try with_reducible rfl
      try simp only [Act.put, List.setIfInBounds_toArray, List.set_cons_zero, List.set_cons_succ]
      refine wpAnyH_take (i := 9) (oi := _) (v := ?_) rfl (by kernel_rfl) (by kernel_rfl) (by kernel_rfl) (fun _ _ _ h => h) (Or.inl ⟨by rfl, ?_⟩) (by assumption) ?_
      rotate_left
      · intro w hSw
        (try dsimp only at hSw)
        go_simp
        try with_reducible rfl
      try simp only [Act.put, List.setIfInBounds_toArray, List.set_cons_zero, List.set_cons_succ]
      refine wpAnyH_take (i := 10) (oi := _) (v := ?_) rfl (by kernel_rfl) (by kernel_rfl) (by kernel_rfl) (fun _ _ _ h => h) (Or.inl ⟨by rfl, ?_⟩) (by assumption) ?_
      rotate_left
      · intro w hSw
        (try dsimp only at hSw)
        go_simp
        try with_reducible rfl
      try simp only [Act.put, List.setIfInBounds_toArray, List.set_cons_zero, List.set_cons_succ]
      refine wpAnyH_take (i := 12) (oi := _) (v := ?_) rfl (by kernel_rfl) (by kernel_rfl) (by kernel_rfl) (fun _ _ _ h => h) (Or.inl ⟨by rfl, ?_⟩) (by assumption) ?_
      rotate_left
      · intro w hSw
        (try dsimp only at hSw)
        go_simp
        try with_reducible rfl
      try simp only [Act.put, List.setIfInBounds_toArray, List.set_cons_zero, List.set_cons_succ]
      refine wpAnyH_ready (rs := [11, 13]) (by kernel_rfl) (by simp) ?_
      refine AllReadyH.cons (o := _) rfl (fun K hK => ?_) (AllReadyH.cons (o := _) rfl (fun K hK => ?_) AllReadyH.nil)
      · go_simp
        refine hK.out _ _ HSA.out (fun hHeld => ?_)
        clear hK K
        try simp only [Act.put, List.setIfInBounds_toArray, List.set_cons_zero, List.set_cons_succ]
        refine wpAnyH_ready (rs := [13]) (by kernel_rfl) (by simp) ?_
        refine AllReadyH.cons (o := _) rfl (fun K hK => ?_) AllReadyH.nil
        go_simp
        refine hK.out _ _ HSB.out (fun hHeld => ?_)
        clear hK K
        try simp only [Act.put, List.setIfInBounds_toArray, List.set_cons_zero, List.set_cons_succ]
        refine wpAnyH_ready (rs := [14]) (by kernel_rfl) (by simp) ?_
        refine AllReadyH.cons (o := _) rfl (fun K hK => ?_) AllReadyH.nil
        refine step_append_lies _ (by rfl) _ _ 173 (by rfl) x.w.heap.size 3 iv0 _ 1 8 Tryd.underlying173 HVI.out HVZ.out HVS.out HVB.out rfl (by decide) (R u) _ _ (by rfl) HON.out ⟨w1.heap.size, 0, none⟩ 1 1 [.int .i64 (v : Int)] (by rfl) (by rfl) HNW.out (by intro u hu; simp only [List.mem_cons, List.not_mem_nil, or_false] at hu; rw [hu]; rfl) (by decide) HC3.out HC4.out HBS.out _ rfl ?_
        intro g5 cap5 w5 hown5 hgr5 hg5 hlt5
        obtain ⟨fb1, fb2, fb3, fb4, fb5, fb6, fb7, fb8, fb9⟩ := FB.out w5 hgr5
        have HS5 := Lib.hid (And.intro fb5 (And.intro fb4 fb6))
        have HS6 := Lib.hid (HKS.out w5 (.slice (some ⟨g5, 0, none⟩) ((gt Ws u).length + 1) cap5) fb7 fb8 fb9 HS5.out)
        have HQ := Lib.hid (HPU.out w5 g5 cap5 hown5 hgr5 hg5)
        clear hown5 hgr5 hg5 hlt5 fb4 fb5 fb6 fb7 fb8 fb9
        refine hK.out _ _ HS5.out (fun hHeld => ?_)
        clear hK K
        try simp only [Act.put, List.setIfInBounds_toArray, List.set_cons_zero, List.set_cons_succ]
        refine wpAnyH_take (i := 15) (oi := _) (v := ?_) rfl (by kernel_rfl) (by kernel_rfl) (by kernel_rfl) (fun _ _ _ h => h) (Or.inl ⟨by rfl, ?_⟩) (by assumption) ?_
        rotate_left
        · intro w hSw
          (try dsimp only at hSw)
          go_simp
          try with_reducible rfl
        try simp only [Act.put, List.setIfInBounds_toArray, List.set_cons_zero, List.set_cons_succ]
        refine wpAnyH_ready (rs := [16]) (by kernel_rfl) (by simp) ?_
        refine AllReadyH.cons (o := _) rfl (fun K hK => ?_) AllReadyH.nil
        go_simp
        refine hK.out _ _ HS6.out (fun hHeld => ?_)
        clear hK K
        try simp only [Act.put, List.setIfInBounds_toArray, List.set_cons_zero, List.set_cons_succ]
        refine wpAnyH_done (by kernel_rfl) ?_ _
        go_wp2_with fail
        go_ret
        exact ⟨_, _, rfl, HQ.out.1, HQ.out.2, HEX.out⟩
      · go_simp
        refine hK.out _ _ HSB.out (fun hHeld => ?_)
        clear hK K
        try simp only [Act.put, List.setIfInBounds_toArray, List.set_cons_zero, List.set_cons_succ]
        refine wpAnyH_ready (rs := [11]) (by kernel_rfl) (by simp) ?_
        refine AllReadyH.cons (o := _) rfl (fun K hK => ?_) AllReadyH.nil
        go_simp
        refine hK.out _ _ HSB.out (fun hHeld => ?_)
        clear hK K
        try simp only [Act.put, List.setIfInBounds_toArray, List.set_cons_zero, List.set_cons_succ]
        refine wpAnyH_ready (rs := [14]) (by kernel_rfl) (by simp) ?_
        refine AllReadyH.cons (o := _) rfl (fun K hK => ?_) AllReadyH.nil
        refine step_append_lies _ (by rfl) _ _ 173 (by rfl) x.w.heap.size 3 iv0 _ 1 8 Tryd.underlying173 HVI.out HVZ.out HVS.out HVB.out rfl (by decide) (R u) _ _ (by rfl) HON.out ⟨w1.heap.size, 0, none⟩ 1 1 [.int .i64 (v : Int)] (by rfl) (by rfl) HNW.out (by intro u hu; simp only [List.mem_cons, List.not_mem_nil, or_false] at hu; rw [hu]; rfl) (by decide) HC3.out HC4.out HBS.out _ rfl ?_
        intro g5 cap5 w5 hown5 hgr5 hg5 hlt5
        obtain ⟨fb1, fb2, fb3, fb4, fb5, fb6, fb7, fb8, fb9⟩ := FB.out w5 hgr5
        have HS5 := Lib.hid (And.intro fb5 (And.intro fb4 fb6))
        have HS6 := Lib.hid (HKS.out w5 (.slice (some ⟨g5, 0, none⟩) ((gt Ws u).length + 1) cap5) fb7 fb8 fb9 HS5.out)
        have HQ := Lib.hid (HPU.out w5 g5 cap5 hown5 hgr5 hg5)
        clear hown5 hgr5 hg5 hlt5 fb4 fb5 fb6 fb7 fb8 fb9
        refine hK.out _ _ HS5.out (fun hHeld => ?_)
        clear hK K
        try simp only [Act.put, List.setIfInBounds_toArray, List.set_cons_zero, List.set_cons_succ]
        refine wpAnyH_take (i := 15) (oi := _) (v := ?_) rfl (by kernel_rfl) (by kernel_rfl) (by kernel_rfl) (fun _ _ _ h => h) (Or.inl ⟨by rfl, ?_⟩) (by assumption) ?_
        rotate_left
        · intro w hSw
          (try dsimp only at hSw)
          go_simp
          try with_reducible rfl
        try simp only [Act.put, List.setIfInBounds_toArray, List.set_cons_zero, List.set_cons_succ]
        refine wpAnyH_ready (rs := [16]) (by kernel_rfl) (by simp) ?_
        refine AllReadyH.cons (o := _) rfl (fun K hK => ?_) AllReadyH.nil
        go_simp
        refine hK.out _ _ HS6.out (fun hHeld => ?_)
        clear hK K
        try simp only [Act.put, List.setIfInBounds_toArray, List.set_cons_zero, List.set_cons_succ]
        refine wpAnyH_done (by kernel_rfl) ?_ _
        go_wp2_with fail
        go_ret
        exact ⟨_, _, rfl, HQ.out.1, HQ.out.2, HEX.out⟩
  · rw [hb] at HH
    clear hb
    go_enter Tryd.func78, Tryd.ntmps78
    go_wp2_with fail
    refine HH.out.mono ?_
    rintro e w1 ⟨rfl, hb1⟩
    have HB1 := Lib.hid hb1
    clear hb1 HH c0 b0
    go_wp2_with fail
    go_ret
    exact ⟨R, Ws, rfl, HS.out.below HB1.out, Mv.below HB1.out, ExR.refl (fun h => by cases h)⟩
end Go.Proofs.YtnejkgkikpgajaaDoor.ini
