/-
  The search: the definition of a variable; all definitions of a block.
-/
import Derived.Test.YtnejkgkikpgajaaDoorInFound
import Derived.Deep.RegionHeld3
namespace Go.Proofs.YtnejkgkikpgajaaDoor.ini
open Go.ChangeShapes Go.WideShapes Go.ChangeAt Go.RowKit
open tr ck
set_option linter.unusedVariables false
set_option linter.unusedSimpArgs false

/-- a definition of one variable, at block qb, offset qo -/
structure EqIn (w : World) (qb qo : Nat) (q : Eqn) : Prop where
  kind : w.cell? ⟨qb, qo, none⟩ = some (.int .u8 1)
  lhs : ∃ lb lo lc, w.cell? ⟨qb, qo + 1, none⟩ = some (.slice (some ⟨lb, lo, none⟩) 1 lc) ∧ w.cell? ⟨lb, lo, none⟩ = some (.string q.1)
  e : LaidAt w qb (qo + 5) q.2
theorem Mv.kp {x : Cx} {W W' : World} {S : List ByteArray} {R R' : Nat → Value} {Ws : List (List Nat)} (hS : Se x W S R Ws) (hm : Mv W W' x.wb x.own.length R R') (hk : Kp [x.m] x.w W) : Kp [x.m] x.w W' :=
  ⟨hm.os.trans hk.os, hm.tape.trans hk.tape, hm.output.trans hk.output, Nat.le_trans hk.size hm.size, fun k hkl hn => (hm.block k (Nat.lt_of_lt_of_le hkl hk.size) (by have := hS.hwb; omega) (fun u hu e => by have := ((hS.wt.row u hu).lt k e).1; omega)).trans (hk.block k hkl hn)⟩
def DefPost (x : Cx) (All P : List Eqn) (q : Eqn) (Ws : List (List Nat)) (e : Ending) (W' : World) : Prop :=
  ∃ S' R' Ws', e = .returned (.tuple #[]) ∧ Se x W' S' R' Ws' ∧ Inv x.own All (P ++ [q]) S' Ws' [] ∧ Kp [x.m] x.w W' ∧ tot Ws' ≤ tot Ws + sz q.2
set_option maxRecDepth 100000 in
set_option maxHeartbeats 8000000 in
theorem define_any (x : Cx) (All P : List Eqn) (W : World) (S : List ByteArray) (R : Nat → Value) (Ws : List (List Nat)) (q : Eqn) (qb qo : Nat) (hn : x.own.Nodup) (hS : Se x W S R Ws) (hV : NamesV x.w x.va x.own) (hI : Inv x.own All P S Ws []) (hK : Kp [x.m] x.w W) (hq : q ∈ All) (hE : EqIn x.w qb qo q) (ht : tot Ws + sz q.2 ≤ 1000000) :
    Calls Tryd.prog 38 #[.pointer (some ⟨x.sb, 0, none⟩), .pointer (some ⟨qb, qo, none⟩)] W (DefPost x All P q Ws) := by
  obtain ⟨lb, lo, lc, h1, h2⟩ := hE.lhs
  have k1 := hS.keep _ _ _ h1
  have k2 := hS.keep _ _ _ h2
  have s2 := hS.sbl.cell 2
  simp only [List.getElem?_toArray, List.getElem?_cons_zero, List.getElem?_cons_succ] at s2
  have hg := get_numbers q.1 hS.nums
  rw [mlk_nb] at hg
  have HS := Lib.hid hS
  have HI := Lib.hid hI
  have HK := Lib.hid hK
  have HV := Lib.hid hV
  have HN := Lib.hid hn
  unfold DefPost
  rcases hx : idx q.1 x.own with _ | v
  · rw [hx] at hg
    simp only [Option.map_none, Option.getD_none, Option.isSome_none] at hg
    have H : Hid (Inv x.own All (P ++ [q]) S Ws []) := Lib.hid (hI.skip hx)
    clear hS hI hK hV hn hE h1 h2 hx
    go_enter Tryd.func38, Tryd.ntmps38
    go_wp2_with fail
    refine wp_loop_rounds 2 ?_
    rw [rounds_succ]
    go_wp2_with fail
    rw [rounds_succ]
    go_wp2_with fail
    go_returns
    exact ⟨S, R, Ws, rfl, HS.out, H.out, HK.out, Nat.le_add_right _ _⟩
  · rw [hx] at hg
    simp only [Option.map_some, Option.getD_some, Option.isSome_some, Nat.zero_add] at hg
    have HEX := Lib.hid (expr_any x S (sz q.2) q.2 (Nat.le_refl _) W R Ws qb (qo + 5) v hS hE.e ht)
    have HQ := Lib.hid hq
    have HX := Lib.hid hx
    have HT := Lib.hid ht
    clear hS hI hK hV hn hE h1 h2 hx hq ht
    unfold ExPost at HEX
    cases hb : lateB S q.2
    · rw [hb] at HEX
      have HB := Lib.hid hb
      clear hb
      go_enter Tryd.func38, Tryd.ntmps38
      go_wp2_with fail
      refine wp_loop_rounds 2 ?_
      rw [rounds_succ]
      go_wp2_with fail
      refine HEX.out.mono ?_
      rintro e w1 ⟨R', Ws', rfl, h1, h2, h3⟩
      have H := Lib.hid (show Se x w1 S R' Ws' ∧ Inv x.own All (P ++ [q]) S Ws' [] ∧ Kp [x.m] x.w w1 ∧ tot Ws' ≤ tot Ws + sz q.2 from ⟨h1, (by have := HI.out.read HQ.out HX.out (by rw [HB.out]; exact h3); rwa [HB.out] at this), h2.kp HS.out HK.out, h3.tot⟩)
      clear h1 h2 h3 HEX
      go_wp2_with fail
      rw [rounds_succ]
      go_wp2_with fail
      go_returns
      exact ⟨S, R', Ws', rfl, H.out⟩
    · rw [hb] at HEX
      have HB := Lib.hid hb
      clear hb
      go_enter Tryd.func38, Tryd.ntmps38
      go_wp2_with fail
      refine wp_loop_rounds 2 ?_
      rw [rounds_succ]
      go_wp2_with fail
      refine HEX.out.mono ?_
      rintro e w1 ⟨R', Ws', rfl, h1, h2, h3⟩
      have htt := h3.tot
      have HF := Lib.hid (found_any x All (P ++ [q]) w1 S R' Ws' v HN.out h1 HV.out (by have := HI.out.read HQ.out HX.out (by rw [HB.out]; exact h3); rwa [HB.out] at this) (by have := HT.out; omega))
      have H1 := Lib.hid (And.intro (h2.kp HS.out HK.out) h3.tot)
      clear h1 h2 h3 HEX htt
      unfold FoundPost at HF
      go_wp2_with fail
      refine HF.out.mono ?_
      rintro e w2 ⟨S', rfl, h1, h2, h3⟩
      have H := Lib.hid (show Se x w2 S' R' Ws' ∧ Inv x.own All (P ++ [q]) S' Ws' [] ∧ Kp [x.m] x.w w2 ∧ tot Ws' ≤ tot Ws + sz q.2 from ⟨h1, h2, H1.out.1.trans ⟨h3.os, h3.tape, h3.output, h3.size, fun k hk hn => h3.block k hk hn⟩, H1.out.2⟩)
      clear h1 h2 h3 HF
      go_wp2_with fail
      rw [rounds_succ]
      go_wp2_with fail
      go_returns
      exact ⟨S', R', Ws', rfl, H.out⟩
end Go.Proofs.YtnejkgkikpgajaaDoor.ini
