/-
  Rows of bytes that come in.
  The law's block: chain.
  The law of late variables: its own walk.
-/
import Derived.Test.YtnejkgkikpgajaaDoorInCh2
import Derived.Deep.Strs
import Derived.OpenShut
import Derived.ChangeSlices
import Derived.Test.YtnejkgkikpgajaaDoorInCh5b
import Derived.Test.YtnejkgkikpgajaaDoorInCh6b
import Derived.Test.YtnejkgkikpgajaaDoorPlBlock0
import Derived.Deep.CutBlock
import Derived.Deep.CutRange
import Derived.Test.YtnejkgkikpgajaaDoorInAwk
import Derived.Test.YtnejkgkikpgajaaDoorInRLate
namespace Go.Proofs.YtnejkgkikpgajaaDoor.ini
open Go.ChangeShapes Go.WideShapes Go.ChangeAt Go.RowKit
set_option linter.unusedVariables false

section
variable {H : Type} {enc : TypeId × Value → H} {w : World} {base : Nat} {sp : Nat → Bool} {hd : Bool}

set_option maxRecDepth 100000 in
theorem open_u8s {fuel : Nat} {v : List Value} {x : DataW H × List MemPlace} (h : DataW.trod enc Tryd.prog w base sp hd fuel 41 v = some x) :
    ∃ (a : Option Addr) (l : List Nat) (c : Nat), v = [.slice a l.length c] ∧ l.length ≤ c ∧ c ≤ maxLen ∧ Lks w a l := by
  rcases DataW.trod_slice Tryd.underlying41 h with ⟨h', _⟩ | ⟨a, len, cap, elems, rest, m, hm, h', _, hb, hl, hcm, hlen, hel, _, _⟩
  · exact ⟨none, [], 0, h', Nat.le_refl _, by decide, fun i hi => by simp at hi⟩
  · have zs : Tryd.prog.cellsOf 5 = 1 := by kernel_rfl
    have each : ∀ i, i < len → ∃ p : Nat, (a.add (i * 1)).spot = none ∧ w.cell? (a.add (i * 1)) = some (.int .u8 (p : Int)) ∧ p ≤ 255 := fun i hi => by
      have hk := hel i hi
      rw [zs, List.getElem?_eq_getElem (by omega)] at hk
      obtain ⟨cs', g1, g2⟩ := Option.bind_eq_some_iff.1 hk
      obtain ⟨_, hl2, hcell⟩ := World.cells?_some g1
      obtain ⟨z, e, _, hz⟩ := DataW.trod_int Tryd.underlying5 g2
      match cs', hl2 with
      | [c0], _ =>
        replace e : c0 = .int .u8 z := by simpa using e
        subst e
        have k0 := hcell 0 (by omega)
        have k1 : w.cell? (a.add (i * 1)) = some (.int .u8 z) := by simpa [Addr.add] using k0
        have hz2 : 0 ≤ z ∧ z ≤ 255 := by
          have h2 : IntKind.u8.min ≤ z ∧ z ≤ IntKind.u8.max := by simpa [Lit.wf] using hz
          have e1 : IntKind.u8.min = 0 := rfl
          have e2 : IntKind.u8.max = 255 := rfl
          rw [e1, e2] at h2
          exact h2
        refine ⟨z.toNat, World.cell?_spot k1, ?_, by omega⟩
        rw [k1]
        congr 2
        omega
    obtain ⟨f, hf⟩ := Go.Deep.choose_lt (α := Nat) each
    obtain ⟨b, off, spot⟩ := a
    refine ⟨some ⟨b, off, spot⟩, (List.range len).map f, cap, by rw [h']; simp, by simpa using hl, hcm, fun i hi => ?_⟩
    have hil : i < len := by simpa using hi
    have hspot : spot = none := by
      have h0 := (hf 0 (by omega)).1
      simpa [Addr.add] using h0
    subst hspot
    obtain ⟨_, h0, h255⟩ := hf i hil
    rw [Go.WideShapes.add_plain, Nat.mul_one] at h0
    have e : ((List.range len).map f)[i] = f i := by simp
    rw [e]
    exact ⟨b, off, rfl, h0, h255⟩
end
end Go.Proofs.YtnejkgkikpgajaaDoor.ini

namespace Go.Proofs.YtnejkgkikpgajaaDoor.ini
open Go.ChangeShapes Go.WideShapes Go.ChangeAt Go.RowKit
open tr ck Go.Sort
set_option linter.unusedVariables false
set_option linter.unusedSimpArgs false


theorem chain_any (w : World) (la : Option Addr) (lc : Nat) (L : List Nat) (hL : Lks w la L) (hm : L.length ≤ maxLen) :
    Calls Tryd.prog 10 #[.slice la L.length lc] w (ChPost w) := by
  by_cases h12 : 12 < L.length
  · exact chain_12 w la lc L hL hm h12
  · exact chain_le w la lc L hL hm h12
end Go.Proofs.YtnejkgkikpgajaaDoor.ini

namespace Go.Proofs.YtnejkgkikpgajaaDoor.initsLate
open Go.ChangeShapes Go.WideShapes Go.ChangeAt Go.RowKit
open tr ck ini Go.Sort
set_option linter.unusedVariables false
set_option linter.unusedSimpArgs false

theorem nms_size (n : Nat) : ∀ m ∈ nms n, m.size ≤ maxLen := fun m hm => by
  unfold nms at hm
  obtain ⟨i, _, rfl⟩ := List.mem_map.1 hm
  show 2 ≤ maxLen
  decide
theorem memB_same {x : ByteArray} {S T : List ByteArray} (h : ∀ n, n ∈ S ↔ n ∈ T) : memB x S = memB x T := by
  cases e : memB x T
  · rw [memB_false] at e ⊢; exact fun hx => e ((h x).1 hx)
  · rw [memB_iff] at e ⊢; exact (h x).2 e
theorem filter_get {own : List ByteArray} {p : ByteArray → Bool} {j : Nat} (h : j < own.length) (hp : p own[j] = true) : (own.filter p)[((own.take j).filter p).length]? = some own[j] := by
  have e : own.filter p = (own.take (j + 1)).filter p ++ (own.drop (j + 1)).filter p := by rw [← List.filter_append, List.take_append_drop]
  rw [e, filter_take own p j h, hp, if_pos rfl]
  simp
set_option maxRecDepth 100000 in
set_option maxHeartbeats 16000000 in
theorem walk (a0 : Option Addr) (l0 : List Nat) (c0 : Nat) (hc : l0.length ≤ c0) (hm : c0 ≤ maxLen) (w : World) (hs : Lks w a0 l0) :
    Calls Tryd.prog 4 #[.slice a0 l0.length c0] w (fun e w' => e = .returned (.bool true) ∧ Below w.heap.size w w') := by
  have HA := Lib.hid (iawake_any w)
  have HC := Lib.hid (fun (w1 : World) (hb : Below w.heap.size w w1) => chain_any w1 a0 c0 l0 (fun i hi => by
    obtain ⟨g, o, e, h1, h2⟩ := hs i hi
    exact ⟨g, o, e, cell_below hb _ _ _ h1, h2⟩) (by omega))
  clear hs
  go_enter Tryd.func4, Tryd.ntmps4
  go_wp2_with fail
  refine HA.out.mono ?_
  rintro e w1 ⟨rfl, hb1⟩
  have HCW := Lib.hid (HC.out w1 hb1)
  have HB1 := Lib.hid hb1
  clear hb1 HA HC
  go_wp2_with fail
  refine HCW.out.mono ?_
  rintro e w2 ⟨n, va, vc, qa, qc, All, hn, ha, rfl, hV, hQ, hWF, hz, hb2⟩
  obtain ⟨W2, hW2⟩ : ∃ W2, W2 = w2.alloc (.cells #[.slice va n vc, .slice qa n qc] 45) := ⟨_, rfl⟩
  have hbW : Below w2.heap.size w2 W2 := by rw [hW2]; exact (Below.refl _ _).alloc (Nat.le_refl _) _
  have hbox : Has W2 w2.heap.size 45 #[.slice va n vc, .slice qa n qc] := by rw [hW2]; exact Has.new w2 _ _
  have HBW : Hid (Below w.heap.size w W2) := Lib.hid (HB1.out.trans ((hb2.mono HB1.out.size).trans (hbW.mono (Nat.le_trans HB1.out.size hb2.size))))
  have HV := Lib.hid (hV.keep (cell_below hbW))
  have HQ : Hid (∀ W, Below W2.heap.size W2 W → ∀ j (hj : j < All.length), ∃ qb, qa = some ⟨qb, 0, none⟩ ∧ EqF W qb (j * 16) All[j]) := Lib.hid (fun W hW j hj => by
    have hb := hbW.trans (hW.mono hbW.size)
    obtain ⟨qb, e, lb, lc, ek, eo, en, enm, ena, enl, enc, eka, ekl, ekc, el, ecl, x, y, h1, h2, h3⟩ := hQ j hj
    exact ⟨qb, e, lb, lc, ek, eo, en, enm, ena, enl, enc, eka, ekl, ekc, el, ecl, x, y, LaidC.below hb _ _ h1, cell_below hb _ _ _ h2, fun k u hk => cell_below hb _ _ _ (h3 k u hk)⟩)
  have HL : Hid (Calls Tryd.prog 11 #[.agg #[.slice va n vc, .slice qa n qc]] W2 (LatePost W2 (nms n) All)) := Lib.hid (by
    have := late_fn W2 va vc (nms n) qa qc All HV.out (fun j hj => by obtain ⟨qb, e, h⟩ := HQ.out W2 (Below.refl _ _) j hj; exact ⟨qb, e, h.in_⟩) (nms_nodup n hn) (by rw [nms_len]; omega) (by omega) hz
    rw [nms_len, ha] at this
    exact this)
  have HR : Hid (∀ W, Below W2.heap.size W2 W → Calls Tryd.prog 12 #[.slice none 0 0, .agg #[.slice va n vc, .slice qa n qc]] W (RLatePost W (nms n) All)) := Lib.hid (fun W hW => by
    have := rlate_any W va vc (nms n) qa qc All (HV.out.keep (cell_below hW)) (HQ.out W hW) hWF (by rw [nms_len]; omega) (by omega) (nms_size n)
    rw [nms_len, ha] at this
    exact this)
  have HBX := Lib.hid hbox
  have HW2 := Lib.hid hW2
  have x0 := hbox.cell 0
  have x1 := hbox.cell 1
  simp only [List.getElem?_toArray, List.getElem?_cons_zero, List.getElem?_cons_succ] at x0 x1
  have HVS := Lib.hid (fun (W : World) (hW : Below W2.heap.size W2 W) => HV.out.keep (cell_below hW))
  clear hV hQ hWF hz hb2 hbW hbox HB1 HCW ha hW2 HV HQ
  unfold LatePost at HL
  go_wp2_with fail
  rw [← HW2.out]
  refine HL.out.mono ?_
  rintro e w3 ⟨S, la, lc, rfl, hL, hrow, hb3⟩
  have hr3 := HR.out w3 hb3
  have hbx3 := HBX.out.below hb3 HBX.out.lt
  clear x0 x1
  have x0 := hbx3.cell 0
  have x1 := hbx3.cell 1
  simp only [List.getElem?_toArray, List.getElem?_cons_zero, List.getElem?_cons_succ] at x0 x1
  have HR3 := Lib.hid hr3
  have H3 := Lib.hid (And.intro hL (And.intro hrow hb3))
  unfold RLatePost at HR3
  clear hr3 hbx3 hL hrow hb3 HL HR
  go_wp2_with fail
  refine HR3.out.mono ?_
  rintro e w4 ⟨S2, la2, lc2, rfl, hL2, hrow2, hb4⟩
  have hsame : ∀ m, m ∈ S ↔ m ∈ S2 := fun m => H3.out.1.same hL2 m
  have hlen : ((nms n).filter (fun m => memB m S)).length = S2.length := same_len ((nms_nodup n hn).filter _) hL2.nodup (fun m => by
    rw [List.mem_filter, memB_iff, ← hsame]
    exact ⟨fun h => h.2, fun h => ⟨H3.out.1.own m h, h⟩⟩)
  obtain ⟨k, hk⟩ : ∃ k, k = ((nms n).filter (fun m => memB m S)).length := ⟨_, rfl⟩
  have hk2 : S2.length = k := by rw [hk, hlen]
  have hk12 : k ≤ 12 := by
    rw [hk]
    exact Nat.le_trans (List.length_filter_le _ _) (by rw [nms_len]; exact hn)
  have HK := Lib.hid hk
  have HK2 := Lib.hid hk2
  rw [hk2, ← hk]
  have H4 := Lib.hid (And.intro hsame (And.intro hL2 (And.intro hrow2 hb4)))
  have HB4 : Hid (Below W2.heap.size W2 w4) := Lib.hid (H3.out.2.2.trans (hb4.mono H3.out.2.2.size))
  have ROW : Hid (∀ W, Below w4.heap.size w4 W → RowS W W2.heap.size la lc ((nms n).filter (fun m => memB m S)) ∧ Strs W la2 S2) := Lib.hid (fun W hW => by
    have hr := H3.out.2.1.row.kept (grown_below none (hb4.trans (hW.mono hb4.size))) (by by_cases e : (Value.slice la ((nms n).filter (fun m => memB m S)).length lc).ownBlock = none; exact .inl e; exact .inr e)
    refine ⟨⟨hr⟩, fun i s hi => ?_⟩
    have hr2 : RowS W (w3.heap.size + 1) la2 lc2 S2 := ⟨hrow2.row.kept (grown_below none hW) (by by_cases e : (Value.slice la2 S2.length lc2).ownBlock = none; exact .inl e; exact .inr e)⟩
    obtain ⟨g, e, hc⟩ := hr2.cells i s hi
    exact ⟨g, 0, e, by rw [Nat.zero_add]; exact hc, nms_size n s (hL2.own s (List.mem_of_getElem? hi))⟩)
  clear hsame hlen hk hk2 hL2 hrow2 hb4 x0 x1 HR3
  go_wp2_with fail
  go_loopw [6, 7] (fun tv iv wr => ∃ j t : Nat, j ≤ n ∧ tv = .int .i64 t ∧ iv = .int .i64 j ∧ Hid (t = (((nms n).take j).filter (fun m => memB m S)).length) ∧ Hid (Below w4.heap.size w4 wr)) (fun _ iv _ => n - (intOf iv).toNat)
  case atStart => exact ⟨0, 0, by omega, rfl, rfl, Lib.hid (by simp), Lib.hid (Below.refl _ _)⟩
  case round =>
    obtain ⟨j, t, hj, rfl, rfl, HT, HW⟩ := hrel
    have hb4r := HB4.out.trans (HW.out.mono HB4.out.size)
    have hbxr := HBX.out.below hb4r HBX.out.lt
    have x0 := hbxr.cell 0
    simp only [List.getElem?_toArray, List.getElem?_cons_zero, List.getElem?_cons_succ] at x0
    by_cases hlt : j < n
    · have i0 : (0 : Int) ≤ (j : Int) := Int.natCast_nonneg _
      have i1 : (j : Int) < (n : Int) := by omega
      obtain ⟨vb, rfl, hv0⟩ := (HVS.out wr hb4r) j (nmv j) (nms_get n j hlt)
      obtain ⟨nj, hnj⟩ : ∃ nj, nj = nmv j := ⟨_, rfl⟩
      rw [← hnj] at hv0
      have hgj : (nms n)[j]'(by rw [nms_len]; exact hlt) = nj := by
        have := nms_get n j hlt
        rw [hnj]
        exact (List.getElem?_eq_some_iff.1 this).2
      have hft := filter_take (nms n) (fun m => memB m S) j (by rw [nms_len]; exact hlt)
      have hfg : memB nj S = true → ((nms n).filter (fun m => memB m S))[t]? = some nj := fun h => by
        have := filter_get (own := nms n) (p := fun m => memB m S) (j := j) (by rw [nms_len]; exact hlt) (by rw [hgj]; exact h)
        rw [← HT.out, hgj] at this
        exact this
      rw [hgj] at hft
      have HHA : Hid (Calls Tryd.prog 13 #[.slice la2 k lc2, .string nj] wr (fun e w' => e = .returned (.bool (memB nj S)) ∧ wr = w')) := Lib.hid (by
        have := rhas_any wr la2 lc2 S2 nj (ROW.out wr HW.out).2 (by rw [HK2.out]; omega)
        rw [HK2.out, ← memB_same H4.out.1] at this
        exact this)
      cases hmem : memB nj S
      · rw [hmem] at HHA hft
        have HT2 : Hid (t = (((nms n).take (j + 1)).filter (fun m => memB m S)).length) := Lib.hid (by rw [hft, HT.out]; simp)
        clear hmem hfg hft hgj hnj hb4r hbxr
        go_wp2_with fail
        refine HHA.out.mono ?_
        rintro e w5 ⟨rfl, rfl⟩
        go_wp2_with fail
        go_roundw
        case rel => exact ⟨j + 1, t, by omega, rfl, by go_num, HT2, HW⟩
        case measure => simp [intOf]; omega
      · rw [hmem] at HHA hft
        have HT2 : Hid (t + 1 = (((nms n).take (j + 1)).filter (fun m => memB m S)).length) := Lib.hid (by rw [hft, HT.out]; simp)
        have hgt := hfg hmem
        have htk : t < k := by
          have := (List.getElem?_eq_some_iff.1 hgt).1
          rw [HK.out]; exact this
        obtain ⟨gl, rfl, hcl⟩ := (ROW.out wr HW.out).1.cells t nj hgt
        have t0 : (0 : Int) ≤ (t : Int) := Int.natCast_nonneg _
        have t1 : (t : Int) < (k : Int) := by omega
        have t2 : decide ((t : Int) ≥ (k : Int)) = false := decide_eq_false (by omega)
        have t3 : decide ((k : Int) ≤ (t : Int)) = false := decide_eq_false (by omega)
        clear hmem hfg hft hgj hnj hb4r hbxr hgt
        go_wp2_with fail
        refine HHA.out.mono ?_
        rintro e w5 ⟨rfl, rfl⟩
        go_wp2_with fail
        go_quiet (fail)
        go_wp2_with fail
        go_roundw
        case rel => exact ⟨j + 1, t + 1, by omega, by go_num, by go_num, HT2, Lib.hid ⟨HW.out.os, HW.out.tape, HW.out.output, HW.out.size, HW.out.block⟩⟩
        case measure => simp [intOf]; omega
    · have hjn : j = n := by omega
      have htk : t = k := by
        rw [HT.out, HK.out, hjn]
        congr 2
        rw [List.take_of_length_le (by rw [nms_len]; omega)]
      subst htk
      have HE : Hid (Below w.heap.size w wr) := Lib.hid (HBW.out.trans (hb4r.mono HBW.out.size))
      have i2 : decide ((j : Int) < (n : Int)) = false := decide_eq_false (by omega)
      clear hb4r hbxr
      go_wp2_with fail
      go_ret
      exact ⟨rfl, HE.out⟩
end Go.Proofs.YtnejkgkikpgajaaDoor.initsLate
