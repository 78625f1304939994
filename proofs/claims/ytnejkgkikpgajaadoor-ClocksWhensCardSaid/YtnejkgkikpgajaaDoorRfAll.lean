/-
  The document's own clock checker: the clock of a variable; is it on a clock; a fault.
  The document's own clock checker: expressions under samplings.
  The document's own clock checker: a leaf under samplings, by induction.
  The document's own clock checker: a merge on no clock.
  The document's own clock checker: a definition of one variable.
-/
import Derived.Test.YtnejkgkikpgajaaDoorLwAwake
import Derived.Deep.RegionHeld3
import Derived.Lib.QuietBelow
import Derived.Outline
import Derived.Deep.RegionLaw
import Derived.LoopN
namespace Go.Proofs.YtnejkgkikpgajaaDoor.ck
open Go.ChangeShapes Go.WideShapes Go.ChangeAt Go.RowKit
open tr Go.Sort
set_option linter.unusedVariables false
set_option linter.unusedSimpArgs false

/-- a row of what is seen; each clock its outermost sampling first -/
def Sn (w : World) (a : Option Addr) (L : List En) : Prop :=
  ∀ (i : Nat) (x : En), L[i]? = some x → ∃ b ka kc, a = some ⟨b, 0, none⟩ ∧ w.cell? ⟨b, i * 3, none⟩ = some (.string x.name) ∧ w.cell? ⟨b, i * 3 + 1, none⟩ = some (.int .i64 x.dep) ∧ w.cell? ⟨b, i * 3 + 2, none⟩ = some (.slice ka x.clk.length kc) ∧ Ons w ka x.clk ∧ x.clk.length ≤ 1000 ∧ (x.clk = [] → ka = none ∧ kc = 0) ∧ x.clk.length ≤ kc
theorem Sn.below {w w' : World} {a : Option Addr} {L : List En} (h : Sn w a L) (hb : Below w.heap.size w w') : Sn w' a L := fun i x hi => by
  obtain ⟨b, ka, kc, e, h1, h2, h3, h4, h5⟩ := h i x hi
  exact ⟨b, ka, kc, e, (hb.cell (p := ⟨b, i * 3, none⟩) (World.block_lt_of_cell? w _ h1)).trans h1, (hb.cell (p := ⟨b, i * 3 + 1, none⟩) (World.block_lt_of_cell? w _ h2)).trans h2, (hb.cell (p := ⟨b, i * 3 + 2, none⟩) (World.block_lt_of_cell? w _ h3)).trans h3, h4.below hb, h5⟩
def RClockPost (w : World) (L : List En) (d : Int) (n : ByteArray) (e : Ending) (w' : World) : Prop :=
  ∃ ka kc l ok, e = .returned (.tuple #[.slice ka l kc, .bool ok]) ∧ (∃ k, w' = w.drewN k) ∧ (lk n L = none → ok = false) ∧ (∀ x, lk n L = some x → l = x.clk.length ∧ Ons w ka x.clk ∧ x.clk.length ≤ 1000 ∧ ok = rd d x ∧ (x.clk = [] → ka = none ∧ kc = 0) ∧ x.clk.length ≤ kc)
theorem eqS_comm (a b : ByteArray) : eqS a b = eqS b a := by unfold eqS; exact Bool.beq_comm
theorem lk_cons_ne {n : ByteArray} {x : En} {r : List En} (h : eqS x.name n = false) : lk n (x :: r) = lk n r := by
  show (if eqS n x.name then some x else lk n r) = _
  rw [eqS_comm, h]; rfl
theorem lk_cons_eq {n : ByteArray} {x : En} {r : List En} (h : eqS x.name n = true) : lk n (x :: r) = some x := by
  show (if eqS n x.name then some x else lk n r) = _
  rw [eqS_comm, h]; rfl

set_option maxRecDepth 100000 in
set_option maxHeartbeats 4000000 in
theorem rclock_any (w : World) (a : Option Addr) (c : Nat) (L : List En) (d : Int) (n : ByteArray) (hS : Sn w a L) (hl : L.length ≤ 1000) :
    Calls Tryd.prog 51 #[.slice a L.length c, .int .i64 d, .string n] w (RClockPost w L d n) := by
  have HS := Lib.hid hS
  clear hS
  go_enter Tryd.func51, Tryd.ntmps51
  go_wp2_with fail
  go_loopw [8] (fun iv wr => ∃ j : Nat, j ≤ L.length ∧ iv = .int .i64 j ∧ Hid (wr = w) ∧ Hid (lk n L = lk n (L.drop j))) (fun iv _ => L.length - (intOf iv).toNat)
  case atStart => exact ⟨0, by omega, rfl, Lib.hid rfl, Lib.hid (by rw [List.drop_zero])⟩
  case round =>
    obtain ⟨j, hj, rfl, HW, HF⟩ := hrel
    by_cases hlt : j < L.length
    · obtain ⟨x, hx⟩ : ∃ x, x = L[j] := ⟨_, rfl⟩
      obtain ⟨b, ka, kc, rfl, h1, h2, h3, h4, h5, h6⟩ := HS.out j L[j] (List.getElem?_eq_getElem hlt)
      rw [← hx] at h1 h2 h3 h4 h5 h6
      have hF := HF.out
      rw [List.drop_eq_getElem_cons hlt, ← hx] at hF
      have hw := HW.out
      subst hw
      have H4 := Lib.hid h4
      have H5 := Lib.hid h5
      have H6 := Lib.hid h6
      have i0 : (0 : Int) ≤ (j : Int) := Int.natCast_nonneg _
      have i1 : (j : Int) < (L.length : Int) := by omega
      obtain ⟨xn, xc, xd⟩ := x
      dsimp only at h1 h2 h3
      clear h4 h5 h6 hx HF
      cases he : eqS xn n
      · rw [lk_cons_ne he] at hF
        have HF2 := Lib.hid hF
        have e1 : (xn.toList == n.toList) = false := he
        clear hF he
        go_wp2_with fail
        go_roundw
        case rel => exact ⟨j + 1, by omega, by go_num, (by first | exact Lib.hid rfl | exact Lib.hid trivial), HF2⟩
        case measure => simp [intOf]; omega
      · rw [lk_cons_eq he] at hF
        have HF2 := Lib.hid hF
        have e1 : (xn.toList == n.toList) = true := he
        clear hF he
        by_cases hd : xd = d
        · have HR : Hid (rd d ⟨xn, xc, xd⟩ = true) := Lib.hid (by unfold rd; simp [hd])
          have e2 : (xd == d) = true := by simpa using hd
          clear hd
          go_wp2_with fail
          go_quiet (fail)
          go_wp2_with fail
          go_ret2
          show RClockPost _ _ _ _ _ _
          refine ⟨ka, kc, xc.length, true, rfl, ⟨_, rfl⟩, fun h => (by rw [HF2.out] at h; cases h), fun x hx => ?_⟩
          rw [HF2.out] at hx
          cases hx
          exact ⟨rfl, H4.out, H5.out, HR.out.symm, H6.out⟩
        · have e2 : (xd == d) = false := by simpa using hd
          have HR : Hid (rd d ⟨xn, xc, xd⟩ = decide (xc.length = 0)) := Lib.hid (by (unfold rd; rw [show (En.mk xn xc xd).dep = xd from rfl, e2, Bool.false_or]; cases xc <;> rfl))
          have e3 : ((xc.length : Int) == 0) = decide (xc.length = 0) := by cases xc <;> simp <;> omega
          clear hd
          by_cases h0 : xc.length = 0
          · rw [decide_eq_true h0] at e3 HR
            clear h0
            go_wp2_with fail
            go_quiet (fail)
            go_wp2_with fail
            go_ret2
            show RClockPost _ _ _ _ _ _
            refine ⟨ka, kc, xc.length, true, rfl, ⟨_, rfl⟩, fun h => (by rw [HF2.out] at h; cases h), fun x hx => ?_⟩
            rw [HF2.out] at hx
            cases hx
            exact ⟨rfl, H4.out, H5.out, HR.out.symm, H6.out⟩
          · rw [decide_eq_false h0] at e3 HR
            clear h0
            go_wp2_with fail
            go_quiet (fail)
            go_wp2_with fail
            go_ret2
            show RClockPost _ _ _ _ _ _
            refine ⟨ka, kc, xc.length, false, rfl, ⟨_, rfl⟩, fun _ => rfl, fun x hx => ?_⟩
            rw [HF2.out] at hx
            cases hx
            exact ⟨rfl, H4.out, H5.out, HR.out.symm, H6.out⟩
    · obtain rfl : j = L.length := by omega
      have HF2 : Hid (lk n L = none) := Lib.hid (HF.out.trans (by rw [List.drop_length]; rfl))
      have hw := HW.out
      subst hw
      clear HF
      go_wp2_with fail
      go_ret2
      show RClockPost _ _ _ _ _ _
      exact ⟨none, 0, 0, false, rfl, ⟨0, rfl⟩, fun _ => rfl, fun x hx => by rw [HF2.out] at hx; cases hx⟩

def ROnPost (w : World) (b : Bool) (e : Ending) (w' : World) : Prop := e = .returned (.bool b) ∧ ∃ k, w' = w.drewN k
set_option maxRecDepth 100000 in
set_option maxHeartbeats 4000000 in
theorem ron_any (w : World) (a ca : Option Addr) (c cc : Nat) (L : List En) (d : Int) (n : ByteArray) (ck : List Smp) (hS : Sn w a L) (hl : L.length ≤ 1000) (hc : Ons w ca ck) (hcl : ck.length ≤ 1000) :
    Calls Tryd.prog 34 #[.slice a L.length c, .int .i64 d, .string n, .slice ca ck.length cc] w (ROnPost w (onB L d n ck)) := by
  have HC := Lib.hid (rclock_any w a c L d n hS hl)
  have HO := Lib.hid hc
  unfold ROnPost
  clear hS hc
  go_enter Tryd.func34, Tryd.ntmps34
  go_wp2_with fail
  refine HC.out.mono ?_
  rintro e w1 ⟨ka, kc, l, ok, rfl, ⟨k, rfl⟩, h0, h1⟩
  cases ok
  · have HF : Hid (onB L d n ck = false) := Lib.hid (by
      unfold onB
      rcases hk : lk n L with _ | x
      · rfl
      · have := (h1 x hk).2.2.2.1
        dsimp only
        rw [← this]; rfl)
    clear h0 h1 HC
    go_wp2_with fail
    go_ret
    exact ⟨ret_bool' HF.out.symm, k, rfl⟩
  · have hx : ∃ x, lk n L = some x := by
      rcases hk : lk n L with _ | x
      · have := h0 hk; cases this
      · exact ⟨x, rfl⟩
    obtain ⟨x, hk⟩ := hx
    obtain ⟨hl1, ho, hl2, hr, -⟩ := h1 x hk
    subst hl1
    have HS : Hid (Calls Tryd.prog 52 #[.slice ka x.clk.length kc, .slice ca ck.length cc] (w.drewN k) fun e w' => e = .returned (.bool (onsB x.clk ck)) ∧ ∃ n, w' = (w.drewN k).drewN n) := Lib.hid (sameclock_any (w.drewN k) ka ca x.clk ck kc cc ho HO.out (by unfold maxLen; omega) (by unfold maxLen; omega))
    have HF : Hid (onB L d n ck = onsB x.clk ck) := Lib.hid (by unfold onB; rw [hk]; dsimp only; rw [← hr, Bool.true_and])
    clear h0 h1 hk ho hl2 hr HC
    go_wp2_with fail
    refine HS.out.mono ?_
    rintro e w2 ⟨rfl, m, rfl⟩
    clear HS
    go_wp2_with fail
    go_ret
    exact ⟨ret_bool' HF.out.symm, k + m, by first | rfl | exact World.drewN_drewN _ _ _⟩

/-- the look: has it found a fault -/
def Lk (w : World) (g : Nat) (b : Bool) : Prop := ∃ x y : Int, Has w g 74 #[.bool b, .int .i64 x, .int .i64 y]
theorem Lk.lt {w : World} {g : Nat} {b : Bool} (h : Lk w g b) : g < w.heap.size := by obtain ⟨x, y, h⟩ := h; exact Has.lt h
theorem Lk.below {w w' : World} {g : Nat} {b : Bool} (h : Lk w g b) (hb : Below w.heap.size w w') : Lk w' g b := by
  have hl := h.lt
  obtain ⟨x, y, h⟩ := h
  exact ⟨x, y, h.below hb hl⟩
def RPost (w : World) (g : Nat) (b : Bool) (e : Ending) (w' : World) : Prop := e = .returned (.tuple #[]) ∧ Lk w' g b ∧ w.grownBy w' (some g)
set_option maxRecDepth 100000 in
set_option maxHeartbeats 4000000 in
theorem fail_any (w : World) (g : Nat) (b : Bool) (x y : Int) (h : Lk w g b) :
    Calls Tryd.prog 17 #[.pointer (some ⟨g, 0, none⟩), .agg #[.int .i64 x, .int .i64 y]] w (RPost w g true) := by
  have hg := h.lt
  obtain ⟨x0, y0, h⟩ := h
  have c0 := h.cell 0
  have c1 := h.cell 1
  have c2 := h.cell 2
  have fr := fun i => h.free i
  simp only [List.getElem?_toArray, List.getElem?_cons_zero, List.getElem?_cons_succ] at c0 c1 c2
  have H := Lib.hid h
  clear h
  unfold RPost
  cases b
  · go_enter Tryd.func17, Tryd.ntmps17
    go_wp2_with fail
    go_returns
    refine ⟨rfl, ⟨x, y, ?_⟩, ?_⟩
    · have := (((H.out.put 0 (.bool true)).put 1 (.int .i64 x)).put 2 (.int .i64 y))
      first | (have := this.alloc (.cells #[.int .i64 x, .int .i64 y] 27); simpa using this) | (have := (((((H.out.alloc (.cells #[.int .i64 x, .int .i64 y] 27))).put 0 (.bool true)).put 1 (.int .i64 x)).put 2 (.int .i64 y)); simpa using this)
    · first | exact grown_alloc (grown_put (grown_put (grown_put (grown_refl w _) 0 _) 1 _) 2 _) _ | exact grown_put (grown_put (grown_put (grown_alloc (grown_refl w _) _) 0 _) 1 _) 2 _
  · go_enter Tryd.func17, Tryd.ntmps17
    go_wp2_with fail
    go_returns
    exact ⟨rfl, ⟨x0, y0, H.out.alloc _⟩, grown_alloc (grown_refl w _) _⟩
end Go.Proofs.YtnejkgkikpgajaaDoor.ck

namespace Go.Proofs.YtnejkgkikpgajaaDoor.ck
open Go.ChangeShapes Go.WideShapes Go.ChangeAt Go.RowKit
open tr Go.Sort
set_option linter.unusedVariables false
set_option linter.unusedSimpArgs false

/-- a leaf under samplings -/
inductive Gd : Ex → Prop where
  | leaf (k o : Nat) (n : Int) (nm : ByteArray) (nms : List ByteArray) (l c : Int) : k ≠ 12 → k ≠ 13 → k ≠ 5 → Gd (.mk k o n nm nms [] l c)
  | when (o : Nat) (n : Int) (nm : ByteArray) (nms : List ByteArray) (x : Ex) (l c : Int) : 0 < nms.length → Gd x → Gd (.mk 12 o n nm nms [x] l c)
/-- a clock of one sampling or none -/
def Ck1 (w : World) (a : Option Addr) (ck : List Smp) : Prop := Ons w a ck ∧ ck.length ≤ 1
theorem Ck1.below {w w' : World} {a : Option Addr} {ck : List Smp} (h : Ck1 w a ck) (hb : Below w.heap.size w w') : Ck1 w' a ck := ⟨h.1.below hb, h.2⟩
theorem drewN_below (w : World) (k : Nat) : Below w.heap.size w (w.drewN k) := below_drewN (Below.refl _ _) k

set_option maxRecDepth 100000 in
set_option maxHeartbeats 8000000 in
theorem rexpr_leaf (w : World) (g : Nat) (sa : Option Addr) (sc : Nat) (L : List En) (ca : Option Addr) (cc : Nat) (ck : List Smp) (er : Bool) (k o : Nat) (n : Int) (nm : ByteArray) (nms : List ByteArray) (l c : Int) (cs : Array Value)
    (h12 : k ≠ 12) (h13 : k ≠ 13) (h5 : k ≠ 5) (hx : LaidC w (.mk k o n nm nms [] l c) cs.toList) (hS : Sn w sa L) (hL : L.length ≤ 1000) (hC : Ck1 w ca ck) (hK : Lk w g er) :
    Calls Tryd.prog 36 #[.pointer (some ⟨g, 0, none⟩), .slice sa L.length sc, .int .i64 0, .agg cs, .slice ca ck.length cc] w (RPost w g (er || !okE L 0 ck (.mk k o n nm nms [] l c))) := by
  unfold LaidC at hx
  obtain ⟨hk, _, _, hnl, _, na, nc, ka, kc, _, _, e, _, _⟩ := hx
  obtain rfl : cs = #[.int .u8 k, .int .u8 o, .int .i32 n, .string nm, .slice na nms.length nc, .slice ka 0 kc, .int .i64 l, .int .i64 c] := by apply Array.toList_inj.1; rw [e]; rfl
  clear e
  obtain ⟨W1, hW1⟩ : ∃ W1, W1 = w.alloc (.cells #[.int .u8 k, .int .u8 o, .int .i32 n, .string nm, .slice na nms.length nc, .slice ka 0 kc, .int .i64 l, .int .i64 c] 29) := ⟨_, rfl⟩
  have hb1 : Below w.heap.size w W1 := by rw [hW1]; exact (Below.refl _ w).alloc (Nat.le_refl _) _
  have e4 : ((k : Int) == 4) = decide (k = 4) := by rw [Bool.eq_iff_iff, beq_iff_eq, decide_eq_true_iff]; omega
  have e5 : ((k : Int) == 5) = false := by rw [beq_eq_false_iff_ne]; omega
  have e12 : ((k : Int) == 12) = false := by rw [beq_eq_false_iff_ne]; omega
  have e13 : ((k : Int) == 13) = false := by rw [beq_eq_false_iff_ne]; omega
  have HB1 := Lib.hid hb1
  have HW1 := Lib.hid hW1
  by_cases h4 : k = 4
  · rw [decide_eq_true h4] at e4
    have HON := Lib.hid (ron_any W1 sa ca sc cc L 0 nm ck (hS.below hb1) hL (hC.1.below hb1) (by have := hC.2; omega))
    have hok : okE L 0 ck (.mk k o n nm nms [] l c) = onB L 0 nm ck := by cases ck <;> rw [okE, if_pos (.inl h4)]
    rw [hok]
    have HK := Lib.hid (hK.below hb1)
    have hex : Has W1 w.heap.size 29 #[.int .u8 k, .int .u8 o, .int .i32 n, .string nm, .slice na nms.length nc, .slice ka 0 kc, .int .i64 l, .int .i64 c] := by rw [hW1]; exact Has.new w _ _
    have x6 := hex.cell 6
    have x7 := hex.cell 7
    simp only [List.getElem?_toArray, List.getElem?_cons_zero, List.getElem?_cons_succ] at x6 x7
    clear hS hC hK hok hW1 hb1 h12 h13 h5 hk h4 hex
    unfold ROnPost at *
    rcases Bool.eq_false_or_eq_true (onB L 0 nm ck) with ho | ho <;> rw [ho] at HON ⊢ <;> clear ho
    · rw [Bool.not_true, Bool.or_false]
      unfold RPost
      go_enter Tryd.func36, Tryd.ntmps36
      go_wp2_with fail
      rw [← HW1.out]
      refine HON.out.mono ?_
      rintro e w2 ⟨rfl, m, rfl⟩
      go_wp2_with fail
      go_returns
      exact ⟨rfl, HK.out.below (drewN_below _ _), grown_below _ (HB1.out.trans ((drewN_below W1 m).mono HB1.out.size))⟩
    · rw [Bool.not_false, Bool.or_true]
      have HFL := Lib.hid (fun m => fail_any (W1.drewN m) g er l c (HK.out.below (drewN_below _ m)))
      unfold RPost at *
      go_enter Tryd.func36, Tryd.ntmps36
      go_wp2_with fail
      rw [← HW1.out]
      refine HON.out.mono ?_
      rintro e w2 ⟨rfl, m, rfl⟩
      have HF2 := Lib.hid (HFL.out m)
      clear HFL
      go_wp2_with fail
      refine HF2.out.mono ?_
      rintro e w3 ⟨rfl, h1, h2⟩
      have H1 := Lib.hid h1
      have H2 := Lib.hid (grown_trans (grown_below (some g) (HB1.out.trans ((drewN_below W1 m).mono HB1.out.size))) h2)
      clear h1 h2 x6 x7
      go_wp2_with fail
      go_returns
      exact ⟨rfl, H1.out, H2.out⟩
  · rw [decide_eq_false h4] at e4
    have hok : okE L 0 ck (.mk k o n nm nms [] l c) = true := by cases ck <;> rw [okE, if_neg (by omega), if_neg h12, if_neg h13, okK]
    rw [hok, Bool.not_true, Bool.or_false]
    have HK := Lib.hid (hK.below hb1)
    rw [hW1] at HK
    clear hS hC hK hok hW1 hb1 h12 h13 h5 hk h4
    unfold RPost
    go_enter Tryd.func36, Tryd.ntmps36
    go_wp2_with fail
    refine wp_loop_rounds 1 ?_
    rw [rounds_succ]
    go_wp2_with fail
    go_returns
    exact ⟨rfl, HK.out, by have := HB1.out; rw [HW1.out] at this; exact grown_below _ this⟩
end Go.Proofs.YtnejkgkikpgajaaDoor.ck

namespace Go.Proofs.YtnejkgkikpgajaaDoor.ck
open Go.ChangeShapes Go.WideShapes Go.ChangeAt Go.RowKit
open tr Go.Sort
set_option linter.unusedVariables false
set_option linter.unusedSimpArgs false

/-- what the document's expr does -/
def RDoes (x : Ex) : Prop := ∀ (w : World) (g : Nat) (sa : Option Addr) (sc : Nat) (L : List En) (ca : Option Addr) (cc : Nat) (ck : List Smp) (er : Bool) (cs : Array Value), ck.length ≤ cc → LaidC w x cs.toList → Sn w sa L → L.length ≤ 1000 → Ck1 w ca ck → Lk w g er →
  Calls Tryd.prog 36 #[.pointer (some ⟨g, 0, none⟩), .slice sa L.length sc, .int .i64 0, .agg cs, .slice ca ck.length cc] w (RPost w g (er || !okE L 0 ck x))

set_option maxRecDepth 100000 in
set_option maxHeartbeats 8000000 in
theorem rexpr_when (o : Nat) (n : Int) (nm : ByteArray) (nms : List ByteArray) (x : Ex) (l c : Int) (hn : 0 < nms.length) (hD : RDoes x) : RDoes (.mk 12 o n nm nms [x] l c) := by
  intro w g sa sc L ca cc ck er cs hcc hx hS hL hC hK
  unfold LaidC at hx
  obtain ⟨_, _, _, hnl, _, na, nc, ka, kc, _, _, e, hst, hkk⟩ := hx
  obtain rfl : cs = #[.int .u8 12, .int .u8 o, .int .i32 n, .string nm, .slice na nms.length nc, .slice ka 1 kc, .int .i64 l, .int .i64 c] := by apply Array.toList_inj.1; rw [e]; rfl
  clear e
  unfold LaidK LaidK at hkk
  obtain ⟨kb, ko, kcs, rfl, hkc, hkx, _⟩ := hkk
  obtain ⟨nb, no, rfl, hn0, _⟩ := hst 0 nms[0] (List.getElem?_eq_getElem hn)
  rw [Nat.add_zero] at hn0
  obtain ⟨a0, a1, a2, a3, a4, a5, a6, a7, hkcs⟩ : ∃ a0 a1 a2 a3 a4 a5 a6 a7, kcs = [a0, a1, a2, a3, a4, a5, a6, a7] := by
    have h := hkx
    cases x
    unfold LaidC at h
    obtain ⟨_, _, _, _, _, na, nc, ka, kc, _, _, e, _, _⟩ := h
    exact ⟨_, _, _, _, _, _, _, _, e⟩
  subst hkcs
  obtain ⟨W1, hW1⟩ : ∃ W1, W1 = w.alloc (.cells #[.int .u8 12, .int .u8 o, .int .i32 n, .string nm, .slice (some ⟨nb, no, none⟩) nms.length nc, .slice (some ⟨kb, ko, none⟩) 1 kc, .int .i64 l, .int .i64 c] 29) := ⟨_, rfl⟩
  have hb1 : Below w.heap.size w W1 := by rw [hW1]; exact (Below.refl _ w).alloc (Nat.le_refl _) _
  have hex : Has W1 w.heap.size 29 #[.int .u8 12, .int .u8 o, .int .i32 n, .string nm, .slice (some ⟨nb, no, none⟩) nms.length nc, .slice (some ⟨kb, ko, none⟩) 1 kc, .int .i64 l, .int .i64 c] := by rw [hW1]; exact Has.new w _ _
  have x3 := hex.cell 3
  have x4 := hex.cell 4
  have x5 := hex.cell 5
  have x6 := hex.cell 6
  have x7 := hex.cell 7
  simp only [List.getElem?_toArray, List.getElem?_cons_zero, List.getElem?_cons_succ] at x3 x4 x5 x6 x7
  have up : ∀ (b i : Nat) (v : Value), w.cell? ⟨b, i, none⟩ = some v → W1.cell? ⟨b, i, none⟩ = some v := fun b i v hv => (hb1.cell (p := ⟨b, i, none⟩) (World.block_lt_of_cell? w _ hv)).trans hv
  have u0 := up _ _ _ hn0
  obtain ⟨n0, hn0e⟩ : ∃ n0, n0 = nms[0] := ⟨_, rfl⟩
  have hsm : smp nms nm 0 = (n0, nm) := by rw [smp_lt hn, hn0e]
  rw [← hn0e] at u0 hn0
  have nl1 : (0 : Int) < (nms.length : Int) := by omega
  have e12 : (((12 : Nat) : Int) == 4) = false := by decide
  have HB1 := Lib.hid hb1
  have HW1 := Lib.hid hW1
  have HK := Lib.hid (hK.below hb1)
  have HFL := Lib.hid (fun m => fail_any (W1.drewN m) g er l c ((hK.below hb1).below (drewN_below _ m)))
  have HON : Hid (∀ a' c' m, Calls Tryd.prog 34 #[.slice sa L.length sc, .int .i64 0, .string nm, .slice a' 0 c'] (W1.drewN m) fun e w' => e = .returned (.bool (onB L 0 nm [])) ∧ ∃ k, w' = (W1.drewN m).drewN k) := Lib.hid (fun a' c' m => ron_any (W1.drewN m) sa a' sc c' L 0 nm [] ((hS.below hb1).below (drewN_below _ m)) hL (fun i p hp => by simp at hp) (by simp))
  rcases ck with _ | ⟨⟨p1, p2⟩, rest⟩
  · have hok : okE L 0 [] (.mk 12 o n nm nms [x] l c) = false := by rw [okE, if_neg (by decide), if_pos rfl]
    rw [hok, Bool.not_false, Bool.or_true]
    clear hS hC hK hok hW1 hb1 hex up hn0 hn0e hsm hst hkc hkx hD hnl HON
    unfold RPost at *
    go_enter Tryd.func36, Tryd.ntmps36
    go_wp2_with fail
    rw [← HW1.out]
    go_quiet (fail)
    go_wp2_with fail
    refine (HFL.out _).mono ?_
    rintro e w3 ⟨rfl, h1, h2⟩
    have H1 := Lib.hid h1
    have H2 := Lib.hid (grown_trans (grown_below (some g) (HB1.out.trans ((drewN_below W1 nq).mono HB1.out.size))) h2)
    clear h1 h2
    go_wp2_with fail
    go_returns
    exact ⟨rfl, H1.out, H2.out⟩
  · have hr : rest = [] := by have := hC.2; cases rest with | nil => rfl | cons _ _ => simp at this
    subst hr
    obtain ⟨cb, co, rfl, hc1, hc2⟩ := hC.1 0 (p1, p2) rfl
    rw [Nat.zero_mul, Nat.add_zero] at hc1 hc2
    have v1 := up _ _ _ hc1
    have v2 := up _ _ _ hc2
    have hok : okE L 0 [(p1, p2)] (.mk 12 o n nm nms [x] l c) = (eqS p1 n0 && eqS p2 nm && onB L 0 nm [] && okE L 0 [] x) := by rw [okE, if_neg (by decide), if_pos rfl, hsm, okK, okK, Bool.and_true]; rfl
    rw [hok]
    have hcc1 : 1 ≤ cc := by simpa using hcc
    clear hsm hcc hC
    have HSS : Hid (∀ W, Below W1.heap.size W1 W → W.cell? ⟨cb, co, none⟩ = some (.string p1) ∧ W.cell? ⟨cb, co + 1, none⟩ = some (.string p2) ∧ W.cell? ⟨nb, no, none⟩ = some (.string n0) ∧ W.cell? ⟨w.heap.size, 3, none⟩ = some (.string nm) ∧ W.cell? ⟨w.heap.size, 4, none⟩ = some (.slice (some ⟨nb, no, none⟩) nms.length nc)) := Lib.hid (fun W hW => ⟨(hW.cell (p := ⟨cb, co, none⟩) (World.block_lt_of_cell? W1 _ v1)).trans v1, (hW.cell (p := ⟨cb, co + 1, none⟩) (World.block_lt_of_cell? W1 _ v2)).trans v2, (hW.cell (p := ⟨nb, no, none⟩) (World.block_lt_of_cell? W1 _ u0)).trans u0, (hW.cell (p := ⟨w.heap.size, 3, none⟩) (World.block_lt_of_cell? W1 _ x3)).trans x3, (hW.cell (p := ⟨w.heap.size, 4, none⟩) (World.block_lt_of_cell? W1 _ x4)).trans x4⟩)
    have HUU : Hid (∀ W, Below W1.heap.size W1 W → W.cell? ⟨w.heap.size, 6, none⟩ = some (.int .i64 l) ∧ W.cell? ⟨w.heap.size, 7, none⟩ = some (.int .i64 c)) := Lib.hid (fun W hW => ⟨(hW.cell (p := ⟨w.heap.size, 6, none⟩) (World.block_lt_of_cell? W1 _ x6)).trans x6, (hW.cell (p := ⟨w.heap.size, 7, none⟩) (World.block_lt_of_cell? W1 _ x7)).trans x7⟩)
    have HTT : Hid (∀ W, Below W1.heap.size W1 W → W.cell? ⟨w.heap.size, 5, none⟩ = some (.slice (some ⟨kb, ko, none⟩) 1 kc) ∧ ∀ i v, w.cell? ⟨kb, i, none⟩ = some v → W.cell? ⟨kb, i, none⟩ = some v) := Lib.hid (fun W hW => ⟨(hW.cell (p := ⟨w.heap.size, 5, none⟩) (World.block_lt_of_cell? W1 _ x5)).trans x5, fun i v hv => (hW.cell (p := ⟨kb, i, none⟩) (World.block_lt_of_cell? W1 _ (up _ _ _ hv))).trans (up _ _ _ hv)⟩)
    clear HON HFL
    have HON : Hid (∀ a' c' W, Below W1.heap.size W1 W → Calls Tryd.prog 34 #[.slice sa L.length sc, .int .i64 0, .string nm, .slice a' 0 c'] W (fun e w' => e = .returned (.bool (onB L 0 nm [])) ∧ Below W.heap.size W w')) := Lib.hid (fun a' c' W hW => (ron_any W sa a' sc c' L 0 nm [] ((hS.below hb1).below hW) hL (fun i p hp => by simp at hp) (by simp)).mono (fun e w' h => ⟨h.1, by obtain ⟨-, k, rfl⟩ := h; exact drewN_below _ _⟩))
    have HFL : Hid (∀ W, Below W1.heap.size W1 W → Calls Tryd.prog 17 #[.pointer (some ⟨g, 0, none⟩), .agg #[.int .i64 l, .int .i64 c]] W (RPost W g true)) := Lib.hid (fun W hW => fail_any W g er l c (HK.out.below hW))
    have HKID : Hid (∀ W a' c', Below W1.heap.size W1 W → Calls Tryd.prog 36 #[.pointer (some ⟨g, 0, none⟩), .slice sa L.length sc, .int .i64 0, .agg #[a0, a1, a2, a3, a4, a5, a6, a7], .slice a' 0 c'] W (RPost W g (er || !okE L 0 [] x))) := Lib.hid (fun W a' c' hW => hD W g sa sc L a' c' [] er #[a0, a1, a2, a3, a4, a5, a6, a7] (Nat.zero_le _) (LaidC.below (hb1.trans (hW.mono hb1.size)) x _ hkx) ((hS.below hb1).below hW) hL ⟨fun i p hp => by simp at hp, by simp⟩ (HK.out.below hW))
    have k0 := fun d os => (HSS.out (grow (redrawn W1 d) os) (below_regrown _ _ _)).1
    have k1 := fun d os => (HSS.out (grow (redrawn W1 d) os) (below_regrown _ _ _)).2.1
    have k2 := fun d os => (HSS.out (grow (redrawn W1 d) os) (below_regrown _ _ _)).2.2.1
    have k3 := fun d os => (HSS.out (grow (redrawn W1 d) os) (below_regrown _ _ _)).2.2.2.1
    have k4 := fun d os => (HSS.out (grow (redrawn W1 d) os) (below_regrown _ _ _)).2.2.2.2
    have HKC := Lib.hid hkc
    clear hok hS hK hkc hkx hD hW1 hb1 hex up hn0 hst hnl x3 x4 x5 x6 x7 u0 v1 v2 hc1 hc2 hn0e
    have c1 : (0 : Int) ≤ (cc : Int) := by omega
    have e1 : (p1.toList == n0.toList) = eqS p1 n0 := rfl
    have e2 : (p2.toList == nm.toList) = eqS p2 nm := rfl
    obtain ⟨V, HV⟩ : ∃ V, Hid (V = (er || !(eqS p1 n0 && eqS p2 nm && onB L 0 nm [] && okE L 0 [] x))) := ⟨_, Lib.hid rfl⟩
    rw [← HV.out]
    unfold RPost at *
    by_cases h1 : eqS p1 n0 = true
    case neg =>
      rw [Bool.not_eq_true] at h1
      rw [h1] at e1 HV
      clear h1
      obtain rfl : V = true := by have := HV.out; simpa using this
      clear HKID HTT HKC HV
      go_enter Tryd.func36, Tryd.ntmps36
      go_wp2_with fail
      rw [← HW1.out]
      refine wp_region_quiet_below (by kernel_rfl) (by kernel_rfl) ?_
      repeat (go_big_quiet_step (first | (go_at_call 34; exact Calls.regrown_of (HON.out _ _ _ (below_regrown _ _ _))) | fail))
      refine wpQuiet_nil ?_
      intro w2 hw2
      have HB2 : Hid (Below W1.heap.size W1 w2) := Lib.hid (by obtain ⟨p, rfl⟩ := hw2; exact below_regrown _ _ _)
      clear hw2
      obtain ⟨u6, u7⟩ := HUU.out w2 HB2.out
      have HM2 := Lib.hid (HFL.out w2 HB2.out)
      clear HSS HUU HON HFL k0 k1 k2 k3 k4
      go_wp2_with fail
      refine HM2.out.mono ?_
      rintro e w3 ⟨rfl, h1, h2⟩
      have H1 := Lib.hid h1
      have H2 := Lib.hid (grown_trans (grown_below (some g) (HB1.out.trans (HB2.out.mono HB1.out.size))) h2)
      clear h1 h2
      go_wp2_with fail
      go_returns
      exact ⟨rfl, H1.out, H2.out⟩
    rw [h1] at e1 HV
    clear h1
    by_cases h2 : eqS p2 nm = true
    case neg =>
      rw [Bool.not_eq_true] at h2
      rw [h2] at e2 HV
      clear h2
      obtain rfl : V = true := by have := HV.out; simpa using this
      clear HKID HTT HKC HV
      go_enter Tryd.func36, Tryd.ntmps36
      go_wp2_with fail
      rw [← HW1.out]
      refine wp_region_quiet_below (by kernel_rfl) (by kernel_rfl) ?_
      repeat (go_big_quiet_step (first | (go_at_call 34; exact Calls.regrown_of (HON.out _ _ _ (below_regrown _ _ _))) | fail))
      refine wpQuiet_nil ?_
      intro w2 hw2
      have HB2 : Hid (Below W1.heap.size W1 w2) := Lib.hid (by obtain ⟨p, rfl⟩ := hw2; exact below_regrown _ _ _)
      clear hw2
      obtain ⟨u6, u7⟩ := HUU.out w2 HB2.out
      have HM2 := Lib.hid (HFL.out w2 HB2.out)
      clear HSS HUU HON HFL k0 k1 k2 k3 k4
      go_wp2_with fail
      refine HM2.out.mono ?_
      rintro e w3 ⟨rfl, h1, h2⟩
      have H1 := Lib.hid h1
      have H2 := Lib.hid (grown_trans (grown_below (some g) (HB1.out.trans (HB2.out.mono HB1.out.size))) h2)
      clear h1 h2
      go_wp2_with fail
      go_returns
      exact ⟨rfl, H1.out, H2.out⟩
    rw [h2] at e2 HV
    clear h2
    by_cases h3 : onB L 0 nm [] = true
    case neg =>
      rw [Bool.not_eq_true] at h3
      rw [h3] at HON HV
      clear h3
      obtain rfl : V = true := by have := HV.out; simpa using this
      clear HKID HTT HKC HV
      go_enter Tryd.func36, Tryd.ntmps36
      go_wp2_with fail
      rw [← HW1.out]
      refine wp_region_quiet_below (by kernel_rfl) (by kernel_rfl) ?_
      repeat (go_big_quiet_step (first | (go_at_call 34; exact Calls.regrown_of (HON.out _ _ _ (below_regrown _ _ _))) | fail))
      refine wpQuiet_nil ?_
      intro w2 hw2
      have HB2 : Hid (Below W1.heap.size W1 w2) := Lib.hid (by obtain ⟨p, rfl⟩ := hw2; exact below_regrown _ _ _)
      clear hw2
      obtain ⟨u6, u7⟩ := HUU.out w2 HB2.out
      have HM2 := Lib.hid (HFL.out w2 HB2.out)
      clear HSS HUU HON HFL k0 k1 k2 k3 k4
      go_wp2_with fail
      refine HM2.out.mono ?_
      rintro e w3 ⟨rfl, h1, h2⟩
      have H1 := Lib.hid h1
      have H2 := Lib.hid (grown_trans (grown_below (some g) (HB1.out.trans (HB2.out.mono HB1.out.size))) h2)
      clear h1 h2
      go_wp2_with fail
      go_returns
      exact ⟨rfl, H1.out, H2.out⟩
    rw [h3] at HON HV
    clear h3
    obtain rfl : V = (er || !okE L 0 [] x) := by have := HV.out; simpa using this
    clear HFL HV HUU
    go_enter Tryd.func36, Tryd.ntmps36
    go_wp2_with fail
    rw [← HW1.out]
    refine wp_region_quiet_below (by kernel_rfl) (by kernel_rfl) ?_
    repeat (go_big_quiet_step (first | (go_at_call 34; exact Calls.regrown_of (HON.out _ _ _ (below_regrown _ _ _))) | fail))
    refine wpQuiet_nil ?_
    intro w2 hw2
    have HB2 : Hid (Below W1.heap.size W1 w2) := Lib.hid (by obtain ⟨p, rfl⟩ := hw2; exact below_regrown _ _ _)
    have HBD : Hid (Below W1.heap.size W1 w2.drew) := Lib.hid (HB2.out.trans ((Below.refl _ _).drew.mono HB2.out.size))
    clear hw2
    obtain ⟨u5, uu⟩ := HTT.out w2 HB2.out
    have y0 := uu _ _ (HKC.out 0 _ rfl)
    have y1 := uu _ _ (HKC.out 1 _ rfl)
    have y2 := uu _ _ (HKC.out 2 _ rfl)
    have y3 := uu _ _ (HKC.out 3 _ rfl)
    have y4 := uu _ _ (HKC.out 4 _ rfl)
    have y5 := uu _ _ (HKC.out 5 _ rfl)
    have y6 := uu _ _ (HKC.out 6 _ rfl)
    have y7 := uu _ _ (HKC.out 7 _ rfl)
    simp only [Nat.add_zero, Nat.zero_mul] at y0 y1 y2 y3 y4 y5 y6 y7
    have HX2 := Lib.hid (HKID.out w2.drew (some ⟨cb, co, none⟩) cc HBD.out)
    have HGD : Hid (w.grownBy w2.drew (some g)) := Lib.hid (grown_below _ (HB1.out.trans (HBD.out.mono HB1.out.size)))
    clear HSS HTT HKID HON HKC uu k0 k1 k2 k3 k4
    go_wp2_with fail
    go_still_tail 11, (by kernel_rfl)
    refine wpStill_step (fun K hK => ?_)
    go_simp
    rw [show IntKind.i64.wrap 0 = 0 from by decide, if_pos ⟨Int.le_refl 0, c1⟩]
    refine ⟨rfl, hK _ ?_⟩
    clear hK K
    refine wpStill_nil ?_
    change wpList _ _ _ _ _ w2.drew
    generalize w2.drew = w3 at *
    go_wp2_with fail
    refine HX2.out.mono ?_
    rintro e w4 ⟨rfl, h1, h2⟩
    have H1 := Lib.hid h1
    have H2 := Lib.hid (grown_trans HGD.out h2)
    clear h1 h2
    go_wp2_with fail
    go_returns
    exact ⟨rfl, H1.out, H2.out⟩

/-- the document's expr at every leaf under samplings -/
theorem rexpr_gd (x : Ex) (h : Gd x) : RDoes x := by
  induction h with
  | leaf k o n nm nms l c h12 h13 h5 => exact fun w g sa sc L ca cc ck er cs hcc hx hS hL hC hK => rexpr_leaf w g sa sc L ca cc ck er k o n nm nms l c cs h12 h13 h5 hx hS hL hC hK
  | when o n nm nms x l c hn _ ih => exact rexpr_when o n nm nms x l c hn ih
end Go.Proofs.YtnejkgkikpgajaaDoor.ck

namespace Go.Proofs.YtnejkgkikpgajaaDoor.ck
open Go.ChangeShapes Go.WideShapes Go.ChangeAt Go.RowKit
open tr Go.Sort
set_option linter.unusedVariables false
set_option linter.unusedSimpArgs false

theorem Lk.str {w : World} {g : Nat} {er : Bool} (h : Lk w g er) {b o : Nat} {s : ByteArray} (hs : w.cell? ⟨b, o, none⟩ = some (.string s)) : b ≠ g := by
  rintro rfl
  obtain ⟨x, y, hh⟩ := h
  have := hh.cell o
  rw [this] at hs
  rcases o with _ | _ | _ | o <;> simp at hs
theorem Lk.kept {w W : World} {g : Nat} {er : Bool} (h : Lk w g er) (hg : w.grownBy W (some g)) {b o : Nat} {s : ByteArray} (hs : w.cell? ⟨b, o, none⟩ = some (.string s)) (j : Nat) (v : Value) (hv : w.cell? ⟨b, j, none⟩ = some v) : W.cell? ⟨b, j, none⟩ = some v :=
  cell_grown hg (h.str hs) hv
theorem laid_str3 {w : World} {x : Ex} {cs : List Value} (h : LaidC w x cs) : ∃ s, cs[3]? = some (.string s) := by
  cases x
  unfold LaidC at h
  obtain ⟨_, _, _, _, _, na, nc, ka, kc, _, _, e, _, _⟩ := h
  subst e
  exact ⟨_, rfl⟩
theorem Strs.look {w W : World} {g : Nat} {er : Bool} (h : Lk w g er) (hg : w.grownBy W (some g)) {a : Option Addr} {l : List ByteArray} (hs : Strs w a l) : Strs W a l := fun i s hi => by
  obtain ⟨b, off, e, hc, hz⟩ := hs i s hi
  exact ⟨b, off, e, h.kept hg hc _ _ hc, hz⟩
mutual
theorem LaidC.look {w W : World} {g : Nat} {er : Bool} (h : Lk w g er) (hg : w.grownBy W (some g)) : ∀ (x : Ex) (cs : List Value), LaidC w x cs → LaidC W x cs
  | .mk k o n nm nms kids l c, cs, hx => by
    unfold LaidC at hx ⊢
    obtain ⟨h1, h2, h3, h4, h5, na, nc, ka, kc, g1, g2, e, hs, hk⟩ := hx
    exact ⟨h1, h2, h3, h4, h5, na, nc, ka, kc, g1, g2, e, Strs.look h hg hs, LaidK.look h hg ka kids hk⟩
theorem LaidK.look {w W : World} {g : Nat} {er : Bool} (h : Lk w g er) (hg : w.grownBy W (some g)) : ∀ (a : Option Addr) (l : List Ex), LaidK w a l → LaidK W a l
  | _, [], _ => by unfold LaidK; trivial
  | _, x :: r, hx => by
    unfold LaidK at hx ⊢
    obtain ⟨b, off, cs, e, hc, hl, hr⟩ := hx
    obtain ⟨s, hs⟩ := laid_str3 hl
    exact ⟨b, off, cs, e, fun j v hj => h.kept hg (hc 3 _ hs) _ _ (hc j v hj), LaidC.look h hg x cs hl, LaidK.look h hg _ r hr⟩
end
theorem Ons.look {w W : World} {g : Nat} {er : Bool} (h : Lk w g er) (hg : w.grownBy W (some g)) {a : Option Addr} {l : List Smp} (hs : Ons w a l) : Ons W a l := fun i p hi => by
  obtain ⟨b, off, e, h0, h1⟩ := hs i p hi
  exact ⟨b, off, e, h.kept hg h0 _ _ h0, h.kept hg h1 _ _ h1⟩
theorem Sn.look {w W : World} {g : Nat} {er : Bool} (h : Lk w g er) (hg : w.grownBy W (some g)) {a : Option Addr} {L : List En} (hs : Sn w a L) : Sn W a L := fun i x hi => by
  obtain ⟨b, ka, kc, e, h1, h2, h3, h4, h5⟩ := hs i x hi
  exact ⟨b, ka, kc, e, h.kept hg h1 _ _ h1, h.kept hg h1 _ _ h2, h.kept hg h1 _ _ h3, Ons.look h hg h4, h5⟩
theorem at8 {w : World} {b off : Nat} {x : Ex} (h : LaidAt w b off x) : ∃ c0 c1 c2 c3 c4 c5 c6 c7, LaidC w x [c0, c1, c2, c3, c4, c5, c6, c7] ∧
    w.cell? ⟨b, off, none⟩ = some c0 ∧ w.cell? ⟨b, off + 1, none⟩ = some c1 ∧ w.cell? ⟨b, off + 2, none⟩ = some c2 ∧ w.cell? ⟨b, off + 3, none⟩ = some c3 ∧ w.cell? ⟨b, off + 4, none⟩ = some c4 ∧ w.cell? ⟨b, off + 5, none⟩ = some c5 ∧ w.cell? ⟨b, off + 6, none⟩ = some c6 ∧ w.cell? ⟨b, off + 7, none⟩ = some c7 := by
  obtain ⟨cs, hc, hx⟩ := h
  obtain ⟨c0, c1, c2, c3, c4, c5, c6, c7, e⟩ : ∃ c0 c1 c2 c3 c4 c5 c6 c7, cs = [c0, c1, c2, c3, c4, c5, c6, c7] := by
    cases x
    unfold LaidC at hx
    obtain ⟨_, _, _, _, _, na, nc, ka, kc, _, _, e, _, _⟩ := hx
    exact ⟨_, _, _, _, _, _, _, _, e⟩
  subst e
  exact ⟨c0, c1, c2, c3, c4, c5, c6, c7, hx, hc 0 _ rfl, hc 1 _ rfl, hc 2 _ rfl, hc 3 _ rfl, hc 4 _ rfl, hc 5 _ rfl, hc 6 _ rfl, hc 7 _ rfl⟩
theorem merge_row {w w3 : World} {g cap : Nat} {s1 s2 : ByteArray} {t : TypeId} (h : w3.ownsRow 0 61 2 (.slice (some ⟨g, 0, none⟩) (0 + 1) cap) (0 + 1) ([] ++ [.string s1, .string s2])) (hg : ((w.alloc (.cells #[.string s1, .string s2] t)).drew).grownBy w3 (Value.slice none 0 0).ownBlock) :
    Below w.heap.size w w3 ∧ Ons w3 (some ⟨g, 0, none⟩) [(s1, s2)] ∧ 1 ≤ cap := by
  refine ⟨⟨hg.os, hg.tape, hg.output, ?_, fun k hk => ?_⟩, fun i p hp => ?_, ?_⟩
  · have := hg.size; simp at this; omega
  · rw [hg.block k (by simp; omega) (by simp [Value.ownBlock])]
    have hb := ((Below.refl w.heap.size w).alloc (Nat.le_refl _) (.cells #[.string s1, .string s2] t)).drew
    exact hb.block k hk
  · have hi : i = 0 := by have := (List.getElem?_eq_some_iff.1 hp).1; simp at this; exact this
    subst hi
    simp only [List.getElem?_cons_zero, Option.some.injEq] at hp
    subst hp
    obtain ⟨a, c, e, _, _, hcell⟩ := owned_cells h
    simp only [Value.slice.injEq] at e
    obtain ⟨rfl, -, rfl⟩ := e
    obtain ⟨g', e0, _, h0⟩ := hcell 0 _ rfl
    obtain ⟨g'', e1, _, h1⟩ := hcell 1 _ rfl
    simp only [Option.some.injEq, Addr.mk.injEq, and_true] at e0 e1
    subst e0
    subst e1
    exact ⟨_, 0, rfl, by simpa using h0, by simpa using h1⟩
  · obtain ⟨a, c, e, hn, _, _⟩ := owned_cells h
    simp only [Value.slice.injEq] at e
    obtain ⟨-, -, rfl⟩ := e
    omega
theorem on_info : (Tryd.prog.info? 61).map (fun i => (i.zero, i.size, i.bytes)) = some (some (.agg #[.string ⟨#[]⟩, .string ⟨#[]⟩]), 2, 32) := by kernel_rfl

set_option maxRecDepth 100000 in
set_option maxHeartbeats 8000000 in
theorem rexpr_merge (w : World) (g : Nat) (sa : Option Addr) (sc : Nat) (L : List En) (er : Bool) (o : Nat) (n : Int) (nm : ByteArray) (nms : List ByteArray) (kids : List Ex) (l c : Int) (cs : Array Value)
    (hkn : kids.length ≤ nms.length) (hD : ∀ i (hi : i < kids.length), RDoes kids[i]) (hon : onB L 0 nm [] = true) (hx : LaidC w (.mk 13 o n nm nms kids l c) cs.toList) (hS : Sn w sa L) (hL : L.length ≤ 1000) (hK : Lk w g er) :
    Calls Tryd.prog 36 #[.pointer (some ⟨g, 0, none⟩), .slice sa L.length sc, .int .i64 0, .agg cs, .slice none 0 0] w (RPost w g (er || !okE L 0 [] (.mk 13 o n nm nms kids l c))) := by
  obtain ⟨iv0, hvi, hv3⟩ := Option.map_eq_some_iff.1 on_info
  simp only [Prod.mk.injEq] at hv3
  obtain ⟨hvz, hvs, hvb⟩ := hv3
  have HVI := Lib.hid hvi
  have HVZ := Lib.hid hvz
  have HVS := Lib.hid hvs
  have HVB := Lib.hid hvb
  unfold LaidC at hx
  obtain ⟨_, _, _, hnl, hkl, na, nc, ka, kc, _, _, e, hst, hkk⟩ := hx
  obtain rfl : cs = #[.int .u8 13, .int .u8 o, .int .i32 n, .string nm, .slice na nms.length nc, .slice ka kids.length kc, .int .i64 l, .int .i64 c] := by apply Array.toList_inj.1; rw [e]; rfl
  clear e
  obtain ⟨W1, hW1⟩ : ∃ W1, W1 = w.alloc (.cells #[.int .u8 13, .int .u8 o, .int .i32 n, .string nm, .slice na nms.length nc, .slice ka kids.length kc, .int .i64 l, .int .i64 c] 29) := ⟨_, rfl⟩
  have hb1 : Below w.heap.size w W1 := by rw [hW1]; exact (Below.refl _ w).alloc (Nat.le_refl _) _
  have hex : Has W1 w.heap.size 29 #[.int .u8 13, .int .u8 o, .int .i32 n, .string nm, .slice na nms.length nc, .slice ka kids.length kc, .int .i64 l, .int .i64 c] := by rw [hW1]; exact Has.new w _ _
  have hgl := hK.lt
  have hne : w.heap.size ≠ g := by omega
  have x3 := hex.cell 3
  have x4 := hex.cell 4
  have x5 := hex.cell 5
  simp only [List.getElem?_toArray, List.getElem?_cons_zero, List.getElem?_cons_succ] at x3 x4 x5
  have hK1 := hK.below hb1
  have hS1 := hS.below hb1
  have hst1 : Strs W1 na nms := fun i s hi => by
    obtain ⟨b, off, e, hc, hz⟩ := hst i s hi
    exact ⟨b, off, e, (hb1.cell (p := ⟨b, off + i, none⟩) (World.block_lt_of_cell? w _ hc)).trans hc, hz⟩
  have hkk1 : LaidK W1 ka kids := LaidK.below hb1 ka kids hkk
  have HCE : Hid (∀ W, W1.grownBy W (some g) → W.cell? ⟨w.heap.size, 3, none⟩ = some (.string nm) ∧ W.cell? ⟨w.heap.size, 4, none⟩ = some (.slice na nms.length nc) ∧ W.cell? ⟨w.heap.size, 5, none⟩ = some (.slice ka kids.length kc)) := Lib.hid (fun W hW => ⟨cell_grown hW hne x3, cell_grown hW hne x4, cell_grown hW hne x5⟩)
  have HLD : Hid (∀ W, W1.grownBy W (some g) → Strs W na nms ∧ LaidK W ka kids ∧ Sn W sa L) := Lib.hid (fun W hW => ⟨Strs.look hK1 hW hst1, LaidK.look hK1 hW ka kids hkk1, Sn.look hK1 hW hS1⟩)
  have HON := Lib.hid (ron_any W1 sa none sc 0 L 0 nm [] hS1 hL (fun i p hp => by simp at hp) (by simp))
  have HOK : Hid (okE L 0 [] (.mk 13 o n nm nms kids l c) = okM L 0 [] nms nm 0 kids) := Lib.hid (by rw [okE, if_neg (by decide), if_neg (by decide), if_pos rfl, hon, Bool.true_and])
  have HK1 := Lib.hid hK1
  have HW1 := Lib.hid hW1
  have HB1 := Lib.hid hb1
  have HD := Lib.hid hD
  have HKN := Lib.hid hkn
  have HL := Lib.hid hL
  rw [hon] at HON
  unfold maxLen at hkl hnl
  have n1 : ((13 : Int) == 4) = false := by decide
  clear hK hS hst hkk hex hK1 hS1 hst1 hkk1 hb1 hW1 hD hkn hon hL hvi hvz hvs hvb x4
  unfold RPost ROnPost at *
  go_enter Tryd.func36, Tryd.ntmps36
  go_wp2_with fail
  rw [← HW1.out]
  refine HON.out.mono ?_
  rintro e w2 ⟨rfl, m, rfl⟩
  have HG2 : Hid (W1.grownBy (W1.drewN m) (some g)) := Lib.hid (grown_below _ (drewN_below _ _))
  clear HON
  go_wp2_with fail
  go_loopw [11] (fun iv wr => ∃ j : Nat, j ≤ kids.length ∧ iv = .int .i64 j ∧ Hid (W1.grownBy wr (some g)) ∧ Hid (Lk wr g (er || !okM L 0 [] nms nm 0 (kids.take j)))) (fun iv _ => kids.length - (intOf iv).toNat)
  case atStart => exact ⟨0, by omega, rfl, HG2, Lib.hid (by rw [List.take_zero, okM, Bool.not_true, Bool.or_false]; exact HK1.out.below (drewN_below _ _))⟩
  case round =>
    obtain ⟨j, hj, rfl, HG, HR⟩ := hrel
    clear HG2
    obtain ⟨z3, z4, z5⟩ := HCE.out wr HG.out
    by_cases hlt : j < kids.length
    · have hltn : j < nms.length := Nat.lt_of_lt_of_le hlt HKN.out
      obtain ⟨hstj, hkkj, hSj⟩ := HLD.out wr HG.out
      obtain ⟨kb, ko, rfl, hat⟩ := hkkj.get j hlt
      obtain ⟨k0, k1, k2, k3, k4, k5, k6, k7, hx', r0, r1, r2, r3, r4, r5, r6, r7⟩ := at8 hat
      obtain ⟨nj, hnj⟩ : ∃ nj, nj = nms[j] := ⟨_, rfl⟩
      obtain ⟨nb, no, rfl, hn0, _⟩ := hstj j nms[j] (List.getElem?_eq_getElem hltn)
      rw [← hnj] at hn0
      have hsm : smp nms nm j = (nj, nm) := by rw [smp_lt hltn, hnj]
      have HFX : Hid (∀ w3, Below wr.heap.size wr w3 → w3.cell? ⟨w.heap.size, 5, none⟩ = some (.slice (some ⟨kb, ko, none⟩) kids.length kc) ∧ w3.cell? ⟨kb, ko + j * 8, none⟩ = some k0 ∧ w3.cell? ⟨kb, ko + j * 8 + 1, none⟩ = some k1 ∧ w3.cell? ⟨kb, ko + j * 8 + 2, none⟩ = some k2 ∧ w3.cell? ⟨kb, ko + j * 8 + 3, none⟩ = some k3 ∧ w3.cell? ⟨kb, ko + j * 8 + 4, none⟩ = some k4 ∧ w3.cell? ⟨kb, ko + j * 8 + 5, none⟩ = some k5 ∧ w3.cell? ⟨kb, ko + j * 8 + 6, none⟩ = some k6 ∧ w3.cell? ⟨kb, ko + j * 8 + 7, none⟩ = some k7) := Lib.hid (fun w3 h3 => by
        have up : ∀ (b i : Nat) (v : Value), wr.cell? ⟨b, i, none⟩ = some v → w3.cell? ⟨b, i, none⟩ = some v := fun b i v hv => (h3.cell (p := ⟨b, i, none⟩) (World.block_lt_of_cell? wr _ hv)).trans hv
        exact ⟨up _ _ _ z5, up _ _ _ r0, up _ _ _ r1, up _ _ _ r2, up _ _ _ r3, up _ _ _ r4, up _ _ _ r5, up _ _ _ r6, up _ _ _ r7⟩)
      have HX : Hid (∀ w3 ca cap, Below wr.heap.size wr w3 → Ons w3 ca [(nj, nm)] → 1 ≤ cap → Calls Tryd.prog 36 #[.pointer (some ⟨g, 0, none⟩), .slice sa L.length sc, .int .i64 0, .agg #[k0, k1, k2, k3, k4, k5, k6, k7], .slice ca 1 cap] w3 (fun e w' => e = .returned (.tuple #[]) ∧ Lk w' g (er || !okM L 0 [] nms nm 0 (kids.take (j + 1))) ∧ W1.grownBy w' (some g))) := Lib.hid (fun w3 ca cap h3 ho hc => by
        refine (HD.out j hlt w3 g sa sc L ca cap [(nj, nm)] _ #[k0, k1, k2, k3, k4, k5, k6, k7] hc (LaidC.below h3 _ _ hx') (hSj.below h3) HL.out ⟨ho, Nat.le_refl _⟩ (HR.out.below h3)).mono ?_
        rintro e w' ⟨he, h1, h2⟩
        refine ⟨he, ?_, grown_trans HG.out (grown_trans (grown_below (some g) h3) h2)⟩
        rw [take_snoc kids j hlt, okM_snoc, List.length_take, Nat.min_eq_left (by omega), Nat.zero_add, hsm]
        have eb2 : (er || !(okM L 0 [] nms nm 0 (kids.take j) && okE L 0 [(nj, nm)] kids[j])) = ((er || !okM L 0 [] nms nm 0 (kids.take j)) || !okE L 0 [(nj, nm)] kids[j]) := by
          cases er <;> cases okM L 0 [] nms nm 0 (kids.take j) <;> cases okE L 0 [(nj, nm)] kids[j] <;> rfl
        rw [eb2]; exact h1)
      have i0 : (0 : Int) ≤ (j : Int) := Int.natCast_nonneg _
      have i1 : (j : Int) < (kids.length : Int) := by omega
      have i2 : (j : Int) < (nms.length : Int) := by omega
      have HNW : Hid (∀ j z, ([.string nj, .string nm] : List Value)[j]? = some z → ((wr.alloc (.cells #[.string nj, .string nm] 61)).drew).cell? ((⟨wr.heap.size, 0, none⟩ : Addr).add j) = some z) := Lib.hid (news_of wr [.string nj, .string nm] 61 _ rfl)
      have HONE : Hid (∀ u ∈ ([.string nj, .string nm] : List Value), u.oneCell' = true) := Lib.hid (by intro v hv; simp only [List.mem_cons, List.not_mem_nil, or_false] at hv; rcases hv with rfl | rfl <;> rfl)
      clear hstj hkkj hSj hat hx' hsm hnj r0 r1 r2 r3 r4 r5 r6 r7
      go_wp2_with (at_builtin; refine wpList_append_own_none rfl _ _ 52 rfl 0 61 iv0 2 Tryd.underlying52 HVI.out (.slice none 0 0) 0 [] rfl (World.ownsRow_nil _ _ _ _) rfl ?_)
      go_region_law ((refine step_append_lies _ (by rfl) _ _ 52 (by rfl) 0 61 iv0 _ 2 32 Tryd.underlying52 HVI.out HVZ.out HVS.out HVB.out rfl (by decide) (.slice none 0 0) 0 [] (by rfl) (World.ownsRow_nil _ _ _ _) ⟨wr.heap.size, 0, none⟩ 1 1 [.string nj, .string nm] (by rfl) (by rfl) HNW.out HONE.out (by decide) (by decide) (by decide) (Nat.zero_le _) _ rfl ?_; intro g3 cap3 w3 hown3 hgr3 hg3 hlt3; obtain ⟨hb3, ho3, hc3⟩ := merge_row hown3 hgr3; obtain ⟨f5, f0, f1, f2, f3, f4, fa5, f6, f7⟩ := HFX.out w3 hb3; have HX3 := Lib.hid (HX.out w3 _ _ hb3 ho3 hc3); clear hown3 hgr3 hg3 hlt3 hb3 ho3 hc3 HFX HX z3 z4 z5))
      all_goals
        go_wp2_with fail
        refine HX3.out.mono ?_
        rintro e w4 ⟨rfl, h1, h2⟩
        have H1 := Lib.hid h1
        have H2 := Lib.hid h2
        clear h1 h2 f5 f0 f1 f2 f3 f4 fa5 f6 f7
        go_wp2_with fail
        go_roundw
        case rel => exact ⟨j + 1, by omega, by go_num, H2, H1⟩
        case measure => simp [intOf]; omega
    · obtain rfl : j = kids.length := by omega
      have HR2 : Hid (Lk wr g (er || !okE L 0 [] (.mk 13 o n nm nms kids l c))) := Lib.hid (by have := HR.out; rw [List.take_length] at this; rw [HOK.out]; exact this)
      have HG3 := Lib.hid (grown_trans (grown_below (some g) HB1.out) HG.out)
      clear HR
      go_wp2_with fail
      go_returns
      exact ⟨rfl, HR2.out, HG3.out⟩
end Go.Proofs.YtnejkgkikpgajaaDoor.ck

namespace Go.Proofs.YtnejkgkikpgajaaDoor.ck
open Go.ChangeShapes Go.WideShapes Go.ChangeAt Go.RowKit
open tr Go.Sort
set_option linter.unusedVariables false
set_option linter.unusedSimpArgs false

theorem onsB_refl : ∀ l : List Smp, onsB l l = true
  | [] => rfl
  | (a, b) :: r => by
    have : eqO (a, b) (a, b) = true := by unfold eqO eqS; simp
    rw [onsB, this, onsB_refl r]; rfl

set_option maxRecDepth 100000 in
set_option maxHeartbeats 8000000 in
theorem req_def (w : World) (g : Nat) (sa : Option Addr) (sc : Nat) (L : List En) (er R : Bool) (lb lo lc : Nat) (nm st : ByteArray) (X : En) (hb : Bool) (e0 e1 e2 e3 e4 e5 e6 e7 : Value) (x y : Int)
    (hlk : lk nm L = some X) (hd : X.dep = 0) (hl : w.cell? ⟨lb, lo, none⟩ = some (.string nm)) (hS : Sn w sa L) (hL : L.length ≤ 1000) (hK : Lk w g er)
    (hX : ∀ W ka kc, Below w.heap.size w W → Ons W ka X.clk → (X.clk = [] → ka = none ∧ kc = 0) → X.clk.length ≤ kc → Calls Tryd.prog 36 #[.pointer (some ⟨g, 0, none⟩), .slice sa L.length sc, .int .i64 0, .agg #[e0, e1, e2, e3, e4, e5, e6, e7], .slice ka X.clk.length kc] W (RPost W g R)) :
    Calls Tryd.prog 35 #[.pointer (some ⟨g, 0, none⟩), .slice sa L.length sc, .int .i64 0, .agg #[.int .u8 1, .slice (some ⟨lb, lo, none⟩) 1 lc, .string st, .slice none 0 0, .bool hb, e0, e1, e2, e3, e4, e5, e6, e7, .slice none 0 0, .int .i64 x, .int .i64 y]] w (RPost w g R) := by
  obtain ⟨W1, hW1⟩ : ∃ W1, W1 = w.alloc (.cells #[.int .u8 1, .slice (some ⟨lb, lo, none⟩) 1 lc, .string st, .slice none 0 0, .bool hb, e0, e1, e2, e3, e4, e5, e6, e7, .slice none 0 0, .int .i64 x, .int .i64 y] 64) := ⟨_, rfl⟩
  have hb1 : Below w.heap.size w W1 := by rw [hW1]; exact (Below.refl _ w).alloc (Nat.le_refl _) _
  have hex : Has W1 w.heap.size 64 #[.int .u8 1, .slice (some ⟨lb, lo, none⟩) 1 lc, .string st, .slice none 0 0, .bool hb, e0, e1, e2, e3, e4, e5, e6, e7, .slice none 0 0, .int .i64 x, .int .i64 y] := by rw [hW1]; exact Has.new w _ _
  have hl1 := (hb1.cell (p := ⟨lb, lo, none⟩) (World.block_lt_of_cell? w _ hl)).trans hl
  have HCL := Lib.hid (rclock_any W1 sa sc L 0 nm (hS.below hb1) hL)
  have HW1 := Lib.hid hW1
  have HB1 := Lib.hid hb1
  have HX := Lib.hid hX
  have HXX := Lib.hid (And.intro hlk hd)
  have a0 := hex.cell 0
  have a1 := hex.cell 1
  have a3 := hex.cell 3
  have a5 := hex.cell 5
  have a6 := hex.cell 6
  have a7 := hex.cell 7
  have a8 := hex.cell 8
  have a9 := hex.cell 9
  have a10 := hex.cell 10
  have a11 := hex.cell 11
  have a12 := hex.cell 12
  simp only [List.getElem?_toArray, List.getElem?_cons_zero, List.getElem?_cons_succ] at a0 a1 a3 a5 a6 a7 a8 a9 a10 a11 a12
  have HA := Lib.hid hl1
  clear hW1 hb1 hX hlk hd hl hS hL hK hex hl1
  have l1 := HA.out
  unfold RPost RClockPost at *
  go_enter Tryd.func35, Tryd.ntmps35
  go_wp2_with fail
  rw [← HW1.out]
  refine wp_loop_rounds 2 ?_
  rw [rounds_succ]
  go_wp2_with fail
  refine HCL.out.mono ?_
  rintro e w2 ⟨ka, kc, ln, ok, rfl, ⟨m, rfl⟩, -, hx⟩
  obtain ⟨rfl, ho, h1000, rfl, hnil, hcap⟩ := hx X HXX.out.1
  have hrd : rd 0 X = true := by unfold rd; simp [HXX.out.2]
  rw [hrd]
  have HSC := Lib.hid (sameclock_any (W1.drewN m) ka ka X.clk X.clk kc kc (ho.below (drewN_below W1 m)) (ho.below (drewN_below W1 m)) (by unfold maxLen; omega) (by unfold maxLen; omega))
  rw [onsB_refl] at HSC
  have HXW := Lib.hid (fun k => HX.out ((W1.drewN m).drewN k) ka kc (HB1.out.trans (((drewN_below W1 m).trans ((drewN_below (W1.drewN m) k).mono (drewN_below W1 m).size)).mono HB1.out.size)) (ho.below ((drewN_below W1 m).trans ((drewN_below (W1.drewN m) k).mono (drewN_below W1 m).size))) hnil hcap)
  clear hrd ho h1000 hnil hcap HX HCL hx
  go_wp2_with fail
  refine HSC.out.mono ?_
  rintro e w3 ⟨rfl, k, rfl⟩
  have HX3 := Lib.hid (HXW.out k)
  have HG3 : Hid (w.grownBy ((W1.drewN m).drewN k) (some g)) := Lib.hid (grown_below _ (HB1.out.trans (((drewN_below W1 m).trans ((drewN_below (W1.drewN m) k).mono (drewN_below W1 m).size)).mono HB1.out.size)))
  rw [World.drewN_drewN] at HX3 HG3
  clear HSC HXW
  go_wp2_with fail
  rw [rounds_succ]
  go_wp2_with fail
  refine wp_loop_rounds 1 ?_
  rw [rounds_succ]
  go_wp2_with fail
  refine HX3.out.mono ?_
  rintro e w4 ⟨rfl, h1, h2⟩
  have H1 := Lib.hid h1
  have H2 := Lib.hid (grown_trans HG3.out h2)
  clear h1 h2
  go_wp2_with fail
  go_returns
  exact ⟨rfl, H1.out, H2.out⟩
end Go.Proofs.YtnejkgkikpgajaaDoor.ck
