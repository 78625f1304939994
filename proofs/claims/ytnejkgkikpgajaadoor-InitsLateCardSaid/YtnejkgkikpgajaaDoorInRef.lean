/-
  The indices of a block's own variables; the document's own leaves: is a name among others, the place of a variable, may an expression have no value at first.
-/
import Derived.Test.YtnejkgkikpgajaaDoorInMap
import Derived.LoopN
import Derived.Lib.QuietBelow
namespace Go.Proofs.YtnejkgkikpgajaaDoor.ini
open Go.ChangeShapes Go.WideShapes Go.ChangeAt Go.RowKit
open tr
set_option linter.unusedVariables false
set_option linter.unusedSimpArgs false

/-- the names of a row of variables -/
def NamesV (w : World) (va : Option Addr) (L : List ByteArray) : Prop := ∀ (i : Nat) (n : ByteArray), L[i]? = some n → ∃ vb, va = some ⟨vb, 0, none⟩ ∧ w.cell? ⟨vb, i * 15, none⟩ = some (.string n)
theorem NamesV.keep {w w' : World} {va : Option Addr} {L : List ByteArray} (h : NamesV w va L) (hk : ∀ b o v, w.cell? ⟨b, o, none⟩ = some v → w'.cell? ⟨b, o, none⟩ = some v) : NamesV w' va L := fun i n hi => by
  obtain ⟨vb, e, hc⟩ := h i n hi
  exact ⟨vb, e, hk _ _ _ hc⟩
theorem cell_below {w w' : World} (hb : Below w.heap.size w w') : ∀ (b o : Nat) (v : Value), w.cell? ⟨b, o, none⟩ = some v → w'.cell? ⟨b, o, none⟩ = some v := fun b o v h => (hb.cell (p := ⟨b, o, none⟩) (World.block_lt_of_cell? w _ h)).trans h
def NumPost (w : World) (L : List ByteArray) (e : Ending) (w' : World) : Prop := ∃ m, w.heap.size ≤ m ∧ e = .returned (.map (some m)) ∧ MAt w' m (nbL 0 L) ∧ Below w.heap.size w w'
theorem drop_not {L : List ByteArray} (hn : L.Nodup) (j : Nat) (hj : j < L.length) : L[j] ∉ L.take j := fun h => by
  obtain ⟨i, hi, he⟩ := List.getElem_of_mem h
  have hi' : i < j := by have := hi; simp at this; omega
  rw [List.getElem_take] at he
  have h1 := idx_at hn (i := i) (by omega)
  have h2 := idx_at hn hj
  rw [he, h2] at h1
  injection h1 with h1
  omega

set_option maxRecDepth 100000 in
set_option maxHeartbeats 4000000 in
theorem numbered_any (w : World) (va : Option Addr) (c : Nat) (L : List ByteArray) (hL : NamesV w va L) (hn : L.Nodup) (hl : L.length ≤ 1000) :
    Calls Tryd.prog 22 #[.slice va L.length c] w (NumPost w L) := by
  unfold NumPost
  have HL := Lib.hid hL
  have HN := Lib.hid hn
  have H0 : Hid (MAt (w.alloc (.map #[] 0)) w.heap.size (nbL 0 (L.take 0)) ∧ Below w.heap.size w (w.alloc (.map #[] 0))) := Lib.hid ⟨MAt.new w, (Below.refl _ _).alloc (Nat.le_refl _) _⟩
  have hmk : ∀ (t : TypeId) (w : World), (Instr.makeMap t none).run Tryd.prog w = .ok (.map (some w.heap.size)) (w.alloc (.map #[] 0)) := fun _ _ => rfl
  clear hL hn
  go_enter Tryd.func22, Tryd.ntmps22
  go_wp2_with fail
  go_loopw [8] (fun iv wr => ∃ j : Nat, j ≤ L.length ∧ iv = .int .i64 j ∧ Hid (MAt wr w.heap.size (nbL 0 (L.take j)) ∧ Below w.heap.size w wr)) (fun iv _ => L.length - (intOf iv).toNat)
  case atStart => exact ⟨0, by omega, rfl, H0⟩
  case round =>
    obtain ⟨j, hj, rfl, HR⟩ := hrel
    clear H0
    by_cases hlt : j < L.length
    · obtain ⟨hM, hB⟩ := HR.out
      obtain ⟨n, hnj⟩ : ∃ n, n = L[j] := ⟨_, rfl⟩
      obtain ⟨vb, rfl, hc⟩ := HL.out j L[j] (List.getElem?_eq_getElem hlt)
      rw [← hnj] at hc
      have hcell := cell_below hB _ _ _ hc
      have i0 : (0 : Int) ≤ (j : Int) := Int.natCast_nonneg _
      have i1 : (j : Int) < (L.length : Int) := by omega
      obtain ⟨W, hr, hm, hg⟩ := put_numbers n (.int .i64 j) hM (by
        rw [mlk_nb, Option.map_eq_none_iff]
        exact idx_none.2 (hnj ▸ drop_not HN.out j hlt))
      have HS : Hid (MAt W w.heap.size (nbL 0 (L.take (j + 1))) ∧ Below w.heap.size w W) := Lib.hid (by
        refine ⟨?_, hB.grown hg hB.size (fun k hk => by injection hk with hk; omega)⟩
        rw [show L.take (j + 1) = L.take j ++ [L[j]] from List.take_succ_eq_append_getElem hlt, nbL_app, ← hnj]
        have : (List.take j L).length = j := by rw [List.length_take]; omega
        rw [this, Nat.zero_add]; exact hm)
      clear hM hB hm hg hnj hc HR
      go_wp2_with fail
      go_roundw
      case rel => exact ⟨j + 1, by omega, by go_num, HS⟩
      case measure => simp [intOf]; omega
    · obtain rfl : j = L.length := by omega
      have HS : Hid (MAt wr w.heap.size (nbL 0 L) ∧ Below w.heap.size w wr) := Lib.hid (by have := HR.out; rwa [List.take_length] at this)
      clear HR
      go_wp2_with fail
      go_ret
      exact ⟨w.heap.size, Nat.le_refl _, rfl, HS.out.1, HS.out.2⟩

theorem memB_drop (n : ByteArray) (L : List ByteArray) (j : Nat) (h : j < L.length) : memB n (L.drop j) = (eqS n L[j] || memB n (L.drop (j + 1))) := by
  rw [List.drop_eq_getElem_cons h]; rfl
set_option maxRecDepth 100000 in
theorem rhas_any (w : World) (a : Option Addr) (c : Nat) (S : List ByteArray) (n : ByteArray) (hS : Strs w a S) (hl : S.length ≤ 100000) :
    Calls Tryd.prog 13 #[.slice a S.length c, .string n] w fun e w' => e = .returned (.bool (memB n S)) ∧ w = w' := by
  have HS := Lib.hid hS
  clear hS
  go_enter Tryd.func13, Tryd.ntmps13
  go_wp2_with fail
  go_loop [5] (fun iv => ∃ j : Nat, j ≤ S.length ∧ iv = .int .i64 j ∧ Hid (memB n S = memB n (S.drop j))) (fun iv => S.length - (intOf iv).toNat)
  case atStart => exact ⟨0, by omega, rfl, Lib.hid (by rw [List.drop_zero])⟩
  case round =>
    obtain ⟨j, hj, rfl, HF⟩ := hrel
    by_cases hlt : j < S.length
    · obtain ⟨b, off, rfl, hc, _⟩ := HS.out j S[j] (List.getElem?_eq_getElem hlt)
      obtain ⟨x, hx⟩ : ∃ x, x = S[j] := ⟨_, rfl⟩
      have hF := HF.out
      rw [memB_drop n S j hlt, ← hx] at hF
      rw [← hx] at hc
      have i0 : (0 : Int) ≤ (j : Int) := Int.natCast_nonneg _
      have i1 : (j : Int) < (S.length : Int) := by omega
      clear hx HF
      cases he : eqS n x
      · rw [he, Bool.false_or] at hF
        have HF2 := Lib.hid hF
        have e1 : (x.toList == n.toList) = false := by have : eqS x n = eqS n x := by unfold eqS; exact Bool.beq_comm
                                                       rw [he] at this; exact this
        clear hF he
        go_wp2_with fail
        go_round
        case rel => exact ⟨j + 1, by omega, by go_num, HF2⟩
        case measure => simp [intOf]; omega
      · rw [he, Bool.true_or] at hF
        have HF2 := Lib.hid hF
        have e1 : (x.toList == n.toList) = true := by have : eqS x n = eqS n x := by unfold eqS; exact Bool.beq_comm
                                                      rw [he] at this; exact this
        clear hF he
        go_wp2_with fail
        go_ret
        exact ⟨ret_bool' HF2.out.symm, rfl⟩
    · obtain rfl : j = S.length := by omega
      have HF2 : Hid (memB n S = false) := Lib.hid (by have := HF.out; rw [List.drop_length] at this; exact this)
      clear HF
      go_wp2_with fail
      go_ret
      exact ⟨ret_bool' HF2.out.symm, rfl⟩

/-- the place of a name, or -1 -/
def fnd (n : ByteArray) (L : List ByteArray) : Int := match idx n L with | some i => i | none => -1
theorem idx_drop {n : ByteArray} : ∀ (L : List ByteArray) (j : Nat), n ∉ L.take j → idx n L = (idx n (L.drop j)).map (· + j)
  | L, 0, _ => by rw [List.drop_zero]; cases idx n L <;> rfl
  | [], j + 1, _ => rfl
  | x :: r, j + 1, h => by
    rw [List.take_succ_cons, List.mem_cons, not_or] at h
    rw [List.drop_succ_cons, show idx n (x :: r) = (if eqS n x then some 0 else (idx n r).map (· + 1)) from rfl]
    have : eqS n x = false := by
      cases e : eqS n x
      · rfl
      · exact absurd ((eqS_iff _ _).1 e) h.1
    rw [this]
    simp only [Bool.false_eq_true, if_false]
    rw [idx_drop r j h.2]
    cases idx n (r.drop j) <;> simp [Nat.add_assoc]
theorem ret_int' {a b : Int} (h : a = b) : Ending.returned (.int .i64 a) = .returned (.int .i64 b) := by rw [h]
set_option maxRecDepth 100000 in
theorem rfind_any (w : World) (va : Option Addr) (c : Nat) (L : List ByteArray) (n : ByteArray) (hL : NamesV w va L) (hl : L.length ≤ 100000) :
    Calls Tryd.prog 24 #[.slice va L.length c, .string n] w fun e w' => e = .returned (.int .i64 (fnd n L)) ∧ w = w' := by
  have HL := Lib.hid hL
  clear hL
  go_enter Tryd.func24, Tryd.ntmps24
  go_wp2_with fail
  go_loop [5] (fun iv => ∃ j : Nat, j ≤ L.length ∧ iv = .int .i64 j ∧ Hid (n ∉ L.take j)) (fun iv => L.length - (intOf iv).toNat)
  case atStart => exact ⟨0, by omega, rfl, Lib.hid (by simp)⟩
  case round =>
    obtain ⟨j, hj, rfl, HF⟩ := hrel
    by_cases hlt : j < L.length
    · obtain ⟨vb, rfl, hc⟩ := HL.out j L[j] (List.getElem?_eq_getElem hlt)
      obtain ⟨x, hx⟩ : ∃ x, x = L[j] := ⟨_, rfl⟩
      rw [← hx] at hc
      have i0 : (0 : Int) ≤ (j : Int) := Int.natCast_nonneg _
      have i1 : (j : Int) < (L.length : Int) := by omega
      cases he : eqS x n
      · have HF2 : Hid (n ∉ L.take (j + 1)) := Lib.hid (by
          rw [List.take_succ_eq_append_getElem hlt, List.mem_append, List.mem_singleton, not_or, ← hx]
          exact ⟨HF.out, fun h => by rw [(eqS_iff _ _).2 h.symm] at he; cases he⟩)
        have e1 : (x.toList == n.toList) = false := he
        clear he hx HF
        go_wp2_with fail
        go_round
        case rel => exact ⟨j + 1, by omega, by go_num, HF2⟩
        case measure => simp [intOf]; omega
      · have HF2 : Hid (fnd n L = j) := Lib.hid (by
          unfold fnd
          rw [idx_drop L j HF.out, List.drop_eq_getElem_cons hlt, ← hx, show idx n (x :: L.drop (j + 1)) = (if eqS n x then some 0 else (idx n (L.drop (j + 1))).map (· + 1)) from rfl]
          rw [(eqS_iff n x).2 ((eqS_iff _ _).1 he).symm]
          simp)
        have e1 : (x.toList == n.toList) = true := he
        clear he hx HF
        go_wp2_with fail
        go_ret
        exact ⟨ret_int' HF2.out.symm, rfl⟩
    · obtain rfl : j = L.length := by omega
      have HF2 : Hid (fnd n L = -1) := Lib.hid (by
        have := HF.out
        rw [List.take_length] at this
        unfold fnd
        rw [idx_none.2 this])
      clear HF
      go_wp2_with fail
      go_ret
      exact ⟨ret_int' HF2.out.symm, rfl⟩

mutual
/-- where the first kid is asked for there is one -/
def wfE : Ex → Bool
  | .mk k _ _ _ _ kids _ _ => (decide (k ≠ 9 ∧ k ≠ 11) || !kids.isEmpty) && wfK kids
def wfK : List Ex → Bool
  | [] => true
  | x :: r => wfE x && wfK r
end
theorem wfK_get : ∀ (l : List Ex), wfK l = true → ∀ i (hi : i < l.length), wfE l[i] = true
  | [], _, i, hi => by simp at hi
  | x :: r, h, i, hi => by
    unfold wfK at h
    rw [Bool.and_eq_true] at h
    cases i with
    | zero => exact h.1
    | succ i => exact wfK_get r h.2 i (by simpa using hi)
theorem lateK_drop (S : List ByteArray) (l : List Ex) (j : Nat) (h : j < l.length) : lateK S (l.drop j) = (lateB S l[j] || lateK S (l.drop (j + 1))) := by
  rw [List.drop_eq_getElem_cons h, lateK]
theorem LaidAt.eight {w : World} {b off : Nat} {x : Ex} (h : LaidAt w b off x) : ∃ cs : Array Value, LaidC w x cs.toList ∧ ∃ c0 c1 c2 c3 c4 c5 c6 c7, cs = #[c0, c1, c2, c3, c4, c5, c6, c7] ∧ w.cell? ⟨b, off, none⟩ = some c0 ∧ w.cell? ⟨b, off + 1, none⟩ = some c1 ∧ w.cell? ⟨b, off + 2, none⟩ = some c2 ∧ w.cell? ⟨b, off + 3, none⟩ = some c3 ∧ w.cell? ⟨b, off + 4, none⟩ = some c4 ∧ w.cell? ⟨b, off + 5, none⟩ = some c5 ∧ w.cell? ⟨b, off + 6, none⟩ = some c6 ∧ w.cell? ⟨b, off + 7, none⟩ = some c7 := by
  obtain ⟨cs, hc, hl⟩ := h
  obtain ⟨c0, c1, c2, c3, c4, c5, c6, c7, e⟩ : ∃ c0 c1 c2 c3 c4 c5 c6 c7, cs = [c0, c1, c2, c3, c4, c5, c6, c7] := by
    have h := hl
    cases x
    unfold LaidC at h
    obtain ⟨_, _, _, _, _, na, nc, ka, kc, _, _, e, _, _⟩ := h
    exact ⟨_, _, _, _, _, _, _, _, e⟩
  subst e
  exact ⟨#[c0, c1, c2, c3, c4, c5, c6, c7], hl, c0, c1, c2, c3, c4, c5, c6, c7, rfl, hc 0 _ rfl, hc 1 _ rfl, hc 2 _ rfl, hc 3 _ rfl, hc 4 _ rfl, hc 5 _ rfl, hc 6 _ rfl, hc 7 _ rfl⟩
def MayPost (w : World) (b : Bool) (e : Ending) (w' : World) : Prop := e = .returned (.bool b) ∧ Below w.heap.size w w'
set_option maxRecDepth 100000 in
set_option maxHeartbeats 8000000 in
theorem may_any (a : Option Addr) (c : Nat) (S : List ByteArray) (hl : S.length ≤ 100000) : ∀ (N : Nat) (x : Ex), sz x ≤ N → wfE x = true → ∀ (w : World) (cs : Array Value), LaidC w x cs.toList → Strs w a S →
    Calls Tryd.prog 25 #[.slice a S.length c, .agg cs] w (MayPost w (lateB S x)) := by
  intro N
  induction N with
  | zero => intro x hN; have := sz_pos x; omega
  | succ N ih =>
    intro x hN hwf w cs hx hS
    obtain ⟨k, o, n, nm, nms, kids, l, cc⟩ := x
    unfold wfE at hwf
    rw [Bool.and_eq_true] at hwf
    unfold sz at hN
    have hx0 := hx
    unfold LaidC at hx0
    obtain ⟨hk, _, _, hnl, hkl, na, nc, ka, kc, _, _, e, _, hkids⟩ := hx0
    obtain rfl : cs = #[.int .u8 k, .int .u8 o, .int .i32 n, .string nm, .slice na nms.length nc, .slice ka kids.length kc, .int .i64 l, .int .i64 cc] := by apply Array.toList_inj.1; rw [e]
    clear e
    obtain ⟨W1, hW1⟩ : ∃ W1, W1 = w.alloc (.cells #[.int .u8 k, .int .u8 o, .int .i32 n, .string nm, .slice na nms.length nc, .slice ka kids.length kc, .int .i64 l, .int .i64 cc] 29) := ⟨_, rfl⟩
    have hb1 : Below w.heap.size w W1 := by rw [hW1]; exact (Below.refl _ w).alloc (Nat.le_refl _) _
    have e4 : ((k : Int) == 4) = decide (k = 4) := by rw [Bool.eq_iff_iff, beq_iff_eq, decide_eq_true_iff]; omega
    have e9 : ((k : Int) == 9) = decide (k = 9) := by rw [Bool.eq_iff_iff, beq_iff_eq, decide_eq_true_iff]; omega
    have e10 : ((k : Int) == 10) = decide (k = 10) := by rw [Bool.eq_iff_iff, beq_iff_eq, decide_eq_true_iff]; omega
    have e11 : ((k : Int) == 11) = decide (k = 11) := by rw [Bool.eq_iff_iff, beq_iff_eq, decide_eq_true_iff]; omega
    have HB1 := Lib.hid hb1
    have HW1 := Lib.hid hW1
    have hS1 : Strs W1 a S := hS.below hb1
    have HKID : Hid (∀ i (hi : i < kids.length), ∃ b off, ka = some ⟨b, off, none⟩ ∧ LaidAt W1 b (off + i * 8) kids[i]) := Lib.hid (fun i hi => LaidK.get (LaidK.below hb1 ka kids hkids) i hi)
    have hex : Has W1 w.heap.size 29 #[.int .u8 k, .int .u8 o, .int .i32 n, .string nm, .slice na nms.length nc, .slice ka kids.length kc, .int .i64 l, .int .i64 cc] := by rw [hW1]; exact Has.new w _ _
    have HEX := Lib.hid hex
    have HS1 := Lib.hid hS1
    have HIH : Hid (∀ i (hi : i < kids.length) (W : World) (cs : Array Value), LaidC W kids[i] cs.toList → Strs W a S → Calls Tryd.prog 25 #[.slice a S.length c, .agg cs] W (MayPost W (lateB S kids[i]))) := Lib.hid (fun i hi W cs h1 h2 => ih kids[i] (by have := sz_kid kids i hi; omega) (wfK_get kids hwf.2 i hi) W cs h1 h2)
    have hwf1 := hwf.1
    clear hx hkids hS hS1 hb1 hW1 hex ih hwf hnl
    unfold MayPost at *
    by_cases h10 : k = 10
    · rw [decide_eq_true h10] at e10
      rw [decide_eq_false (show ¬ k = 4 by omega)] at e4
      have HF : Hid (lateB S (.mk k o n nm nms kids l cc) = true) := Lib.hid (by rw [lateB, if_pos h10])
      clear h10 hwf1
      go_enter Tryd.func25, Tryd.ntmps25
      go_wp2_with fail
      go_ret
      exact ⟨ret_bool' HF.out.symm, by have := HB1.out; rw [HW1.out] at this; exact this⟩
    · rw [decide_eq_false h10] at e10
      by_cases h4 : k = 4
      · rw [decide_eq_true h4] at e4
        have HF : Hid (lateB S (.mk k o n nm nms kids l cc) = memB nm S) := Lib.hid (by rw [lateB, if_neg h10, if_pos h4])
        have HH := Lib.hid (rhas_any W1 a c S nm HS1.out hl)
        clear h10 h4 hwf1
        go_enter Tryd.func25, Tryd.ntmps25
        go_wp2_with fail
        rw [← HW1.out]
        refine HH.out.mono ?_
        rintro e w2 ⟨rfl, rfl⟩
        clear HH
        go_wp2_with fail
        go_ret
        exact ⟨ret_bool' HF.out.symm, HB1.out⟩
      · rw [decide_eq_false h4] at e4
        by_cases h911 : k = 9 ∨ k = 11
        · have hne : 0 < kids.length := by
            rw [decide_eq_false (by omega), Bool.false_or] at hwf1
            cases kids with
            | nil => cases hwf1
            | cons x r => simp
          obtain ⟨b, off, rfl, hat⟩ := HKID.out 0 hne
          rw [Nat.zero_mul, Nat.add_zero] at hat
          obtain ⟨cs0, hl0, c0, c1, c2, c3, c4, c5, c6, c7, rfl, k0, k1, k2, k3, k4, k5, k6, k7⟩ := LaidAt.eight hat
          have HC := Lib.hid (HIH.out 0 hne W1 _ hl0 HS1.out)
          have HF : Hid (lateB S (.mk k o n nm nms kids l cc) = lateB S kids[0]) := Lib.hid (by
            rw [lateB, if_neg h10, if_neg h4, if_pos h911]
            cases kids with
            | nil => simp at hne
            | cons x r => rfl)
          have j1 : (0 : Int) < (kids.length : Int) := by omega
          rw [HW1.out] at k0 k1 k2 k3 k4 k5 k6 k7
          have hbl : b < w.heap.size + 1 := by have := World.block_lt_of_cell? _ _ k0; simpa using this
          have h9 : (((k : Int) == 9) = true) ∨ (((k : Int) == 9) = false ∧ ((k : Int) == 11) = true) := by
            rcases h911 with h | h
            · exact .inl (by rw [e9, decide_eq_true h])
            · exact .inr ⟨by rw [e9]; exact decide_eq_false (by omega), by rw [e11, decide_eq_true h]⟩
          clear h10 h4 hwf1 h911 hat hl0 HIH HKID e9 e11
          rcases h9 with h9 | ⟨h9, h11⟩
          all_goals
            go_enter Tryd.func25, Tryd.ntmps25
            go_wp2_with fail
            rw [← HW1.out]
            refine HC.out.mono ?_
            rintro e w2 ⟨rfl, hb2⟩
            have HB2 := Lib.hid (HB1.out.trans (hb2.mono HB1.out.size))
            clear HC hb2 k0 k1 k2 k3 k4 k5 k6 k7
            go_wp2_with fail
            go_ret
            exact ⟨ret_bool' HF.out.symm, HB2.out⟩
        · rw [decide_eq_false (by omega)] at e9
          rw [decide_eq_false (by omega)] at e11
          have HF : Hid (lateB S (.mk k o n nm nms kids l cc) = lateK S kids) := Lib.hid (by rw [lateB, if_neg h10, if_neg h4, if_neg h911])
          have hkl2 : kids.length ≤ maxLen := hkl
          unfold maxLen at hkl2
          clear h10 h4 hwf1 h911 hkl
          go_enter Tryd.func25, Tryd.ntmps25
          go_wp2_with fail
          rw [← HW1.out]
          go_loopw [5] (fun iv wr => ∃ j : Nat, j ≤ kids.length ∧ iv = .int .i64 j ∧ Hid (lateK S kids = lateK S (kids.drop j)) ∧ Hid (Below W1.heap.size W1 wr)) (fun iv _ => kids.length - (intOf iv).toNat)
          case atStart => exact ⟨0, by omega, rfl, Lib.hid (by rw [List.drop_zero]), Lib.hid (Below.refl _ _)⟩
          case round =>
            obtain ⟨j, hj, rfl, HJ, HB⟩ := hrel
            have hexr := HEX.out.below HB.out (Has.lt HEX.out)
            have x5 := hexr.cell 5
            simp only [List.getElem?_toArray, List.getElem?_cons_zero, List.getElem?_cons_succ] at x5
            clear hexr
            by_cases hlt : j < kids.length
            · obtain ⟨b, off, rfl, hat⟩ := HKID.out j hlt
              obtain ⟨cs0, hl0, c0, c1, c2, c3, c4, c5, c6, c7, rfl, k0, k1, k2, k3, k4, k5, k6, k7⟩ := LaidAt.eight (hat.below HB.out)
              have HC := Lib.hid (HIH.out j hlt wr _ hl0 (HS1.out.below HB.out))
              have hF := HJ.out
              rw [lateK_drop S kids j hlt] at hF
              have i0 : (0 : Int) ≤ (j : Int) := Int.natCast_nonneg _
              have i1 : (j : Int) < (kids.length : Int) := by omega
              clear hat hl0 HJ
              cases hb : lateB S kids[j]
              · rw [hb, Bool.false_or] at hF
                rw [hb] at HC
                have HF2 := Lib.hid hF
                clear hF hb
                go_wp2_with fail
                refine HC.out.mono ?_
                rintro e w2 ⟨rfl, hb2⟩
                have HB2 := Lib.hid (HB.out.trans (hb2.mono HB.out.size))
                clear HC hb2 k0 k1 k2 k3 k4 k5 k6 k7 x5
                go_wp2_with fail
                go_roundw
                case rel => exact ⟨j + 1, by omega, by go_num, HF2, HB2⟩
                case measure => simp [intOf]; omega
              · rw [hb, Bool.true_or] at hF
                rw [hb] at HC
                have HF2 := Lib.hid hF
                clear hF hb
                go_wp2_with fail
                refine HC.out.mono ?_
                rintro e w2 ⟨rfl, hb2⟩
                have HB2 := Lib.hid (HB.out.trans (hb2.mono HB.out.size))
                clear HC hb2 k0 k1 k2 k3 k4 k5 k6 k7 x5
                go_wp2_with fail
                go_ret
                exact ⟨ret_bool' (HF.out.trans HF2.out).symm, HB1.out.trans (HB2.out.mono HB1.out.size)⟩
            · obtain rfl : j = kids.length := by omega
              have HF2 : Hid (lateK S kids = false) := Lib.hid (by have := HJ.out; rw [List.drop_length] at this; exact this)
              clear HJ
              go_wp2_with fail
              go_ret
              exact ⟨ret_bool' (HF.out.trans HF2.out).symm, HB1.out.trans (HB.out.mono HB1.out.size)⟩
end Go.Proofs.YtnejkgkikpgajaaDoor.ini
