/-
  The text of an At that bears a name over an At at 3:7 over a Kind: Error, told, Text.
-/
import Derived.Test.YtboeobgkepdabaaDoorFcUnroll
import Derived.Test.YtboeobgkepdabaaDoorFcBuild
namespace Go.Proofs.YtboeobgkepdabaaDoor.ft
open Go.ChangeShapes Go.WideShapes Go.ChangeAt Go.RowKit Go.Extern.Stop Go.Stop Go.Extern
open Go.Proofs.YtboeobgkepdabaaDoor.lx (Has grown_refl grown_put grown_below)
set_option linter.unusedVariables false

theorem bat_below {T e : TypeId} {B b : Nat} {p : Value} {bs : List Value} {w w' : World} (h : Lib.BuilderAt T e B b p bs w) (hb : Below w.heap.size w w') : Lib.BuilderAt T e B b p bs w' := by
  have hl := h.lt
  obtain ⟨h0, v, h1, h2, h3⟩ := h
  exact ⟨h0, v, (hb.block b hl).trans h1, owns_below h2 hb, h3⟩
theorem isb_below {T e : TypeId} {B b : Nat} {bs : List Value} {w w' : World} (h : Lib.IsBuilder T e B b bs w) (hb : Below w.heap.size w w') : Lib.IsBuilder T e B b bs w' := by
  rcases h with h | h
  · exact .inl (bat_below h hb)
  · exact .inr (bat_below h hb)

def colS : ByteArray := ⟨#[58, 32]⟩
def s37 : ByteArray := ⟨#[51, 58, 55]⟩
/-- the text -/
def txt (nm : ByteArray) (k : Int) : ByteArray := ⟨(inS.data.toList ++ (nm.data.toList ++ (colS.data.toList ++ (s37.data.toList ++ (colS.data.toList ++ (kwS k).data.toList))))).toArray⟩

theorem below_drewN' {B : Nat} {w w' : World} (h : Below B w w') (n : Nat) : Below B w (w'.drewN n) := ⟨h.os, h.tape, h.output, h.size, h.block⟩
theorem byteCells_append (a b : List UInt8) : Lib.byteCells (a ++ b) = Lib.byteCells a ++ Lib.byteCells b := by simp [Lib.byteCells]
/-- a builder that holds these bytes, made behind w1 -/
def WB (w1 : World) (l : List UInt8) (W : World) : Prop := Lib.IsBuilder 63 5 w1.heap.size w1.heap.size (Lib.byteCells l) W ∧ Below w1.heap.size w1 W
theorem WB.below {w1 : World} {l : List UInt8} {W W' : World} (h : WB w1 l W) (hb : Below W.heap.size W W') : WB w1 l W' := ⟨isb_below h.1 hb, h.2.trans (hb.mono h.2.size)⟩
theorem WB.write {w1 : World} {l : List UInt8} {W : World} (h : WB w1 l W) (s : ByteArray) (hl : l.length + s.size ≤ 100000) :
    Calls Tryd.prog 28 #[.pointer (some ⟨w1.heap.size, 0, none⟩), .string s] W fun e w' => e = .returned (.tuple #[.int .i64 s.size, .nilIface]) ∧ WB w1 (l ++ s.data.toList) w' := by
  refine (fb.writeString_any w1.heap.size w1.heap.size _ s W h.1 (by simp [Lib.byteCells]; omega) h.2.size).mono ?_
  rintro e w' ⟨he, hb, hl', _⟩
  refine ⟨he, .inr ?_, h.2.trans hl'⟩
  rw [byteCells_append]
  exact hb
theorem WB.string {w1 : World} {l : List UInt8} {W : World} (h : WB w1 l W) :
    Calls Tryd.prog 30 #[.pointer (some ⟨w1.heap.size, 0, none⟩)] W fun e w' => e = .returned (.string ⟨l.toArray⟩) ∧ Below w1.heap.size w1 w' := by
  refine (fb.string_any w1.heap.size w1.heap.size l W h.1 h.2.size).mono ?_
  rintro e w' ⟨he, hb⟩
  exact ⟨he, h.2.trans hb⟩
theorem kwS_size (k : Int) : (kwS k).size ≤ 20 := by
  unfold kwS
  by_cases h1 : k = 1
  · rw [if_pos h1]; decide
  rw [if_neg h1]
  by_cases h2 : k = 2
  · rw [if_pos h2]; decide
  rw [if_neg h2]
  by_cases h3 : k = 3
  · rw [if_pos h3]; decide
  rw [if_neg h3]
  by_cases h4 : k = 4
  · rw [if_pos h4]; decide
  rw [if_neg h4]
  by_cases h5 : k = 5
  · rw [if_pos h5]; decide
  rw [if_neg h5]
  by_cases h6 : k = 6
  · rw [if_pos h6]; decide
  rw [if_neg h6]
  by_cases h7 : k = 7
  · rw [if_pos h7]; decide
  rw [if_neg h7]
  by_cases h8 : k = 8
  · rw [if_pos h8]; decide
  rw [if_neg h8]
  by_cases h9 : k = 9
  · rw [if_pos h9]; decide
  rw [if_neg h9]
  by_cases h10 : k = 10
  · rw [if_pos h10]; decide
  rw [if_neg h10]
  by_cases h11 : k = 11
  · rw [if_pos h11]; decide
  rw [if_neg h11]
  decide
theorem blen (s : ByteArray) : s.data.toList.length = s.size := by rw [Array.length_toList]; rfl

set_option maxRecDepth 100000 in
set_option maxHeartbeats 4000000 in
theorem error_aak (g0 g1 : Nat) (x0 y0 k : Int) (nm0 nm1 : ByteArray) (w : World) (hne : g0 ≠ g1) (hz : nm0.size ≤ 300) (h1 : 1 ≤ k) (h2 : k ≤ 12)
    (hg0 : Has w g0 50 #[.int .i64 x0, .int .i64 y0, .string nm0, .bool true, .iface 41 (.pointer (some ⟨g1, 0, none⟩))])
    (hg1 : Has w g1 50 #[.int .i64 3, .int .i64 7, .string nm1, .bool false, .iface 29 (.int .i64 k)]) :
    Calls Tryd.prog 19 #[.pointer (some ⟨g0, 0, none⟩)] w fun e w' => e = .returned (.string (txt nm0 k)) ∧ Below w.heap.size w w' := by
  have HU := Lib.hid (unroll_aak g0 g1 x0 y0 3 7 k nm0 nm1 true false w hne hg0 hg1)
  have HG0 := Lib.hid hg0
  have HG1 := Lib.hid hg1
  have hgl0 := hg0.lt
  have hgl1 := hg1.lt
  clear hg0 hg1
  go_enter Tryd.func19, Tryd.ntmps19
  go_wp2_with fail
  refine HU.out.mono ?_
  rintro e w1 ⟨⟨q, cap, rfl, v0, v1⟩, hb1⟩
  have hs1 := hb1.size
  have hq := World.block_lt_of_cell? w1 _ v0
  have hq : q < w1.heap.size := hq
  have HB1 := Lib.hid hb1
  have V0 := Lib.hid v0
  have V1 := Lib.hid v1
  have S0 := Lib.hid (show WB w1 [] (w1.alloc (.cells #[.pointer none, .slice none 0 0] 63)) from ⟨Lib.fresh_isBuilder _ _ w1, (Below.refl _ w1).alloc (Nat.le_refl _) _⟩)
  have HC : Hid (∀ l W, WB w1 l W → W.cell? ⟨q, 0, none⟩ = some (pK g0) ∧ W.cell? ⟨q, 1, none⟩ = some (pK g1) ∧ q < W.heap.size) := Lib.hid (fun l W h => ⟨(h.2.cell (p := ⟨q, 0, none⟩) hq).trans V0.out, (h.2.cell (p := ⟨q, 1, none⟩) hq).trans V1.out, Nat.lt_of_lt_of_le hq h.2.size⟩)
  have HA0 : Hid (∀ l W, WB w1 l W → Has W g0 50 #[.int .i64 x0, .int .i64 y0, .string nm0, .bool true, .iface 41 (.pointer (some ⟨g1, 0, none⟩))]) := Lib.hid (fun l W h => (HG0.out.below HB1.out hgl0).below h.2 (Nat.lt_of_lt_of_le hgl0 hs1))
  have HA1 : Hid (∀ l W, WB w1 l W → Has W g1 50 #[.int .i64 3, .int .i64 7, .string nm1, .bool false, .iface 29 (.int .i64 k)]) := Lib.hid (fun l W h => (HG1.out.below HB1.out hgl1).below h.2 (Nat.lt_of_lt_of_le hgl1 hs1))
  have hkz := kwS_size k
  have hcz : colS.size = 2 := rfl
  have hsz : s37.size = 3 := rfl
  have hls : (inS ++ nm0).size ≤ 303 := by rw [ByteArray.size_append]; show 3 + nm0.size ≤ 303; omega
  obtain ⟨c0, c1, c2⟩ := HC.out _ _ S0.out
  clear hb1 v0 v1 HU V0 V1 HG0 HG1
  go_wp2_with fail
  refine wp_loop_rounds 3 ?_
  rw [rounds_succ]
  go_wp2_with fail
  refine (head_named g0 x0 y0 nm0 _ _ hz (HA0.out _ _ S0.out)).mono ?_
  rintro e w2 ⟨rfl, rfl⟩
  clear c0 c1 c2
  go_wp2_with fail
  refine (S0.out.write (inS ++ nm0) (by simp only [List.length_nil]; omega)).mono ?_
  rintro e w3 ⟨rfl, hw3⟩
  rw [List.nil_append] at hw3
  obtain ⟨c0, c1, c2⟩ := HC.out _ _ hw3
  have S3 := Lib.hid hw3
  clear hw3 S0 c0
  go_wp2_with fail
  rw [rounds_succ]
  go_wp2_with fail
  refine (S3.out.write colS (by simp only [blen]; omega)).mono ?_
  rintro e w4 ⟨rfl, hw4⟩
  have S4 := Lib.hid hw4
  clear hw4 S3 c1 c2
  go_wp2_with fail
  refine (head_37 g1 nm1 _ _ (HA1.out _ _ S4.out)).mono ?_
  rintro e w5 ⟨rfl, n5, rfl⟩
  have S5 := Lib.hid (S4.out.below (below_drewN' (Below.refl _ w4) n5))
  clear S4
  go_wp2_with fail
  refine (S5.out.write s37 (by simp only [List.length_append, blen]; omega)).mono ?_
  rintro e w6 ⟨rfl, hw6⟩
  have S6 := Lib.hid hw6
  clear hw6 S5
  go_wp2_with fail
  rw [rounds_succ]
  go_wp2_with fail
  refine (S6.out.write colS (by simp only [List.length_append, blen]; omega)).mono ?_
  rintro e w7 ⟨rfl, hw7⟩
  have S7 := Lib.hid hw7
  clear hw7 S6
  go_wp2_with fail
  refine (told_k k (kwS k) w7 (fun W _ => word_k k h1 h2 W)).mono ?_
  rintro e w8 ⟨rfl, hb8⟩
  have S8 := Lib.hid (S7.out.below hb8)
  clear hb8 S7
  go_wp2_with fail
  refine (S8.out.write (kwS k) (by simp only [List.length_append, blen]; omega)).mono ?_
  rintro e w9 ⟨rfl, hw9⟩
  have S9 := Lib.hid hw9
  clear hw9 S8
  go_wp2_with fail
  refine S9.out.string.mono ?_
  rintro e w10 ⟨rfl, hb10⟩
  have HB10 := Lib.hid (HB1.out.trans (hb10.mono hs1))
  clear hb10 S9
  go_wp2_with fail
  go_ret
  exact ⟨rfl, HB10.out⟩

set_option maxRecDepth 100000 in
set_option maxHeartbeats 4000000 in
/-- told at an At whose Error doesn't panic -/
theorem told_a (g : Nat) (s : ByteArray) (w : World) (H : ∀ W, Below w.heap.size w W → Calls Tryd.prog 19 #[.pointer (some ⟨g, 0, none⟩)] W fun e w' => e = .returned (.string s) ∧ Below W.heap.size W w') :
    Calls Tryd.prog 25 #[.iface 41 (.pointer (some ⟨g, 0, none⟩))] w fun e w' => e = .returned (.string s) ∧ Below w.heap.size w w' := by
  have hmf : ∀ (fn : Fn) (first cap : Array Value) (w : World), (Instr.makeFunc fn first cap).run Tryd.prog w = .ok (.func fn first cap) w := fun _ _ _ _ => rfl
  have hme := methErrA
  obtain ⟨W, hW⟩ : ∃ W, W = (w.alloc (.cells #[.iface 41 (.pointer (some ⟨g, 0, none⟩))] 27)).alloc (.cells #[.string ⟨#[]⟩] 9) := ⟨_, rfl⟩
  have hb : Below w.heap.size w W := by rw [hW]; exact ((Below.refl _ _).alloc (Nat.le_refl _) _).alloc (by simp) _
  have h1 : Has W w.heap.size 27 #[.iface 41 (.pointer (some ⟨g, 0, none⟩))] := by rw [hW]; exact (Has.new w 27 #[.iface 41 (.pointer (some ⟨g, 0, none⟩))]).alloc _
  have h2 : Has W (w.heap.size + 1) 9 #[.string ⟨#[]⟩] := by
    rw [hW]
    have := Has.new (w.alloc (.cells #[.iface 41 (.pointer (some ⟨g, 0, none⟩))] 27)) 9 #[.string ⟨#[]⟩]
    simp only [World.size_alloc] at this
    exact this
  have hlit : Calls Tryd.prog 39 #[.pointer (some ⟨w.heap.size, 0, none⟩), .pointer (some ⟨w.heap.size + 1, 0, none⟩)] W fun e w' => e = .returned (.tuple #[]) ∧ Has w' (w.heap.size + 1) 9 #[.string s] ∧ Below w.heap.size w w' := by
    have a0 := h1.cell 0
    simp only [List.getElem?_toArray, List.getElem?_cons_zero] at a0
    have HH := Lib.hid (H W hb)
    have H2 := Lib.hid h2
    have HB := Lib.hid hb
    clear H h1 h2 hW
    go_enter Tryd.func39, Tryd.ntmps39
    go_wp2_with fail
    refine HH.out.mono ?_
    rintro e w1 ⟨rfl, hb1⟩
    have h2 := H2.out.below hb1 H2.out.lt
    have c := h2.cell 0
    have f := h2.free 0
    have hl := h2.lt
    simp only [List.getElem?_toArray, List.getElem?_cons_zero] at c
    have HE := Lib.hid (And.intro (h2.put 0 (.string s)) ((HB.out.trans (hb1.mono HB.out.size)).setCell (p := ⟨w.heap.size + 1, 0, none⟩) (by show _ ≤ w.heap.size + 1; omega) (.string s)))
    clear h2 hb1
    go_wp2_with fail
    go_end0
    exact ⟨rfl, by simpa using HE.out.1, HE.out.2⟩
  have HL := Lib.hid (quiet_told _ _ _ hlit)
  clear hlit h1 h2 hb H
  go_enter Tryd.func25, Tryd.ntmps25
  go_wp2_with fail
  rw [← hW]
  clear hW
  refine HL.out.mono ?_
  rintro e w1 ⟨rfl, h2, hb1⟩
  have c := h2.cell 0
  have f := h2.free 0
  have hl := h2.lt
  simp only [List.getElem?_toArray, List.getElem?_cons_zero] at c
  have HE := Lib.hid (h2.put 0 (.string s))
  have HB := Lib.hid (hb1.setCell (p := ⟨w.heap.size + 1, 0, none⟩) (by show _ ≤ w.heap.size + 1; omega) (.string s))
  clear h2 hb1
  go_wp2_with fail
  have e0 := HE.out.cell 0
  simp only [List.setIfInBounds_toArray, List.set_cons_zero, List.getElem?_toArray, List.getElem?_cons_zero] at e0
  exact bodyPost_ret (v := .string s) (by simp [results, Tryd.results25, go_sem, e0]) rfl ⟨rfl, HB.out⟩

set_option maxRecDepth 100000 in
theorem text_a (g : Nat) (s : ByteArray) (w : World) (H : ∀ W, Below w.heap.size w W → Calls Tryd.prog 19 #[.pointer (some ⟨g, 0, none⟩)] W fun e w' => e = .returned (.string s) ∧ Below W.heap.size W w') :
    Calls Tryd.prog 17 #[.iface 41 (.pointer (some ⟨g, 0, none⟩))] w fun e w' => e = .returned (.string s) ∧ Below w.heap.size w w' := by
  have HT := Lib.hid (told_a g s w H)
  clear H
  go_enter Tryd.func17, Tryd.ntmps17
  go_wp2_with fail
  refine HT.out.mono ?_
  rintro e w1 ⟨rfl, hb⟩
  have HB := Lib.hid hb
  clear hb
  go_wp2_with fail
  go_ret
  exact ⟨rfl, HB.out⟩
end Go.Proofs.YtboeobgkepdabaaDoor.ft
