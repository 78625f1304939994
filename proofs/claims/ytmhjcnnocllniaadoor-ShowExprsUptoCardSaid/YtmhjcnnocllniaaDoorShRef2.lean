/-
  The document's Expr, by induction on the expression.
-/
import Derived.Test.YtmhjcnnocllniaaDoorShRef
namespace Go.Proofs.YtmhjcnnocllniaaDoor.sh
open Go.ChangeShapes Go.WideShapes Go.ChangeAt Go.RowKit Go.Proofs.YtmhjcnnocllniaaDoor.tr
set_option linter.unusedVariables false
set_option linter.unusedSimpArgs false

theorem kid_cells {w : World} {cs : Array Value} {ka : Option Addr} {kids : List Ex} (h : LaidK w ka kids) (i : Nat) (hi : i < kids.length) : ∃ b off c0 c1 c2 c3 c4 c5 c6 c7, ka = some ⟨b, off, none⟩ ∧ LaidC w kids[i] [c0, c1, c2, c3, c4, c5, c6, c7] ∧ ∀ w', Over w cs w' →
    w'.cell? ⟨b, off + i * 8, none⟩ = some c0 ∧ w'.cell? ⟨b, off + i * 8 + 1, none⟩ = some c1 ∧ w'.cell? ⟨b, off + i * 8 + 2, none⟩ = some c2 ∧ w'.cell? ⟨b, off + i * 8 + 3, none⟩ = some c3 ∧ w'.cell? ⟨b, off + i * 8 + 4, none⟩ = some c4 ∧ w'.cell? ⟨b, off + i * 8 + 5, none⟩ = some c5 ∧ w'.cell? ⟨b, off + i * 8 + 6, none⟩ = some c6 ∧ w'.cell? ⟨b, off + i * 8 + 7, none⟩ = some c7 := by
  obtain ⟨b, off, e, hat⟩ := h.get i hi
  obtain ⟨c0, c1, c2, c3, c4, c5, c6, c7, hl, h0, h1, h2, h3, h4, h5, h6, h7⟩ := hat.form
  refine ⟨b, off, c0, c1, c2, c3, c4, c5, c6, c7, e, hl, fun w' hw => ?_⟩
  have key : ∀ j v, w.cell? ⟨b, j, none⟩ = some v → w'.cell? ⟨b, j, none⟩ = some v := fun j v hv => (hw.below.cell (p := ⟨b, j, none⟩) (World.block_lt_of_cell? w _ hv)).trans hv
  exact ⟨key _ _ h0, key _ _ h1, key _ _ h2, key _ _ h3, key _ _ h4, key _ _ h5, key _ _ h6, key _ _ h7⟩
set_option maxRecDepth 100000 in
set_option maxHeartbeats 8000000 in
theorem rexpr_case1 (o : Nat) (n : Int) (nm : ByteArray) (nms : List ByteArray) (kids : List Ex) (ln cl : Int) (hH : okH 1 o n nms.length kids.length) (hn0 : -2147483648 ≤ n) (hn9 : n ≤ 2147483647) (hfk : fitK kids) (hlen : wt (.mk 1 o n nm nms kids ln cl) ≤ 1000000000000)
    (hE : ∀ i (hi : i < kids.length), RefDoes kids[i]) (hI : ∀ i (hi : i < kids.length), InDoes kids[i]) : RefDoes (.mk 1 o n nm nms kids ln cl) := by
  intro w cs hl
  unfold okH at hH
  obtain ⟨hk1, hk13, hbool, hun, hbin, hmn, hl5, hl1, hl2, hl3, hn1⟩ := hH
  have hl' := hl
  unfold LaidC at hl'
  obtain ⟨hk, ho, _, hnl, hkl, na, nc, ka, kc, _, _, hcs, hns, hks⟩ := hl'
  obtain rfl : cs = #[.int .u8 1, .int .u8 o, .int .i32 n, .string nm, .slice na nms.length nc, .slice ka kids.length kc, .int .i64 ln, .int .i64 cl] := by apply Array.toList_inj.1; rw [hcs]; rfl
  obtain ⟨xs, hxs⟩ : ∃ xs : Array Value, xs = #[.int .u8 1, .int .u8 o, .int .i32 n, .string nm, .slice na nms.length nc, .slice ka kids.length kc, .int .i64 ln, .int .i64 cl] := ⟨_, rfl⟩
  have hs0 := Over.start w xs
  have hV : ∀ w', Over w xs w' → w'.cell? ⟨w.heap.size, 0, none⟩ = some (.int .u8 1) ∧ w'.cell? ⟨w.heap.size, 1, none⟩ = some (.int .u8 o) ∧ w'.cell? ⟨w.heap.size, 2, none⟩ = some (.int .i32 n) ∧ w'.cell? ⟨w.heap.size, 3, none⟩ = some (.string nm) ∧ w'.cell? ⟨w.heap.size, 4, none⟩ = some (.slice na nms.length nc) ∧ w'.cell? ⟨w.heap.size, 5, none⟩ = some (.slice ka kids.length kc) := fun w' h => by
    have h8 := h.has
    rw [hxs] at h8
    obtain ⟨g0, g1, g2, g3, g4, g5, _, _⟩ := has8 h8
    exact ⟨g0, g1, g2, g3, g4, g5⟩
  have HO : Hid (∀ wx, Over w xs wx → Below w.heap.size w wx) := Lib.hid (fun wx h => h.below)
  have HLT : Hid (∀ w1 wx, Over w xs w1 → Below w1.heap.size w1 wx → Over w xs wx) := Lib.hid (fun w1 wx h hb => h.later hb)
  have HV := Lib.hid hV
  have hv0 := hV _ hs0
  rw [hxs] at hv0
  obtain ⟨x0, x1, x2, x3, x4, x5⟩ := hv0
  have HS0 : Hid (Over w xs (w.alloc (.cells #[.int .u8 1, .int .u8 o, .int .i32 n, .string nm, .slice na nms.length nc, .slice ka kids.length kc, .int .i64 ln, .int .i64 cl] 27))) := Lib.hid (by have h := hs0; rw [hxs] at h ⊢; exact h)
  rw [wt] at hlen
  clear hs0 hV hl hk ho hk1 hk13 hcs
  unfold TextPost
  have hil := Lib.itoa_length_le n (by omega) (by omega)
  have HN := Lib.hid (fun wx => num_any n hn0 hn9 wx)
  have HT : Hid (txt (.mk 1 o n nm nms kids ln cl) = Lib.itoa n) := Lib.hid (by rw [txt]; rfl)
  clear hbool hun hbin hmn hl5 hl1 hl2 hl3 hn1
  go_enter Tryd.func9, Tryd.ntmps9
  go_wp2_with fail
  refine (HN.out _).mono ?_
  rintro e w1 ⟨⟨s1, rfl, hs1⟩, hb1⟩
  have hz := size_of hs1
  have HS1 := Lib.hid hs1
  have HB1 := Lib.hid (HO.out _ (HLT.out _ _ HS0.out hb1))
  clear hs1 hb1
  go_wp2_with fail
  go_ret
  exact ⟨⟨_, rfl, by rw [HT.out, HS1.out], by omega⟩, HB1.out⟩

set_option maxRecDepth 100000 in
set_option maxHeartbeats 8000000 in
theorem rexpr_case2 (o : Nat) (n : Int) (nm : ByteArray) (nms : List ByteArray) (kids : List Ex) (ln cl : Int) (hH : okH 2 o n nms.length kids.length) (hn0 : -2147483648 ≤ n) (hn9 : n ≤ 2147483647) (hfk : fitK kids) (hlen : wt (.mk 2 o n nm nms kids ln cl) ≤ 1000000000000)
    (hE : ∀ i (hi : i < kids.length), RefDoes kids[i]) (hI : ∀ i (hi : i < kids.length), InDoes kids[i]) : RefDoes (.mk 2 o n nm nms kids ln cl) := by
  intro w cs hl
  unfold okH at hH
  obtain ⟨hk1, hk13, hbool, hun, hbin, hmn, hl5, hl1, hl2, hl3, hn1⟩ := hH
  have hl' := hl
  unfold LaidC at hl'
  obtain ⟨hk, ho, _, hnl, hkl, na, nc, ka, kc, _, _, hcs, hns, hks⟩ := hl'
  obtain rfl : cs = #[.int .u8 2, .int .u8 o, .int .i32 n, .string nm, .slice na nms.length nc, .slice ka kids.length kc, .int .i64 ln, .int .i64 cl] := by apply Array.toList_inj.1; rw [hcs]; rfl
  obtain ⟨xs, hxs⟩ : ∃ xs : Array Value, xs = #[.int .u8 2, .int .u8 o, .int .i32 n, .string nm, .slice na nms.length nc, .slice ka kids.length kc, .int .i64 ln, .int .i64 cl] := ⟨_, rfl⟩
  have hs0 := Over.start w xs
  have hV : ∀ w', Over w xs w' → w'.cell? ⟨w.heap.size, 0, none⟩ = some (.int .u8 2) ∧ w'.cell? ⟨w.heap.size, 1, none⟩ = some (.int .u8 o) ∧ w'.cell? ⟨w.heap.size, 2, none⟩ = some (.int .i32 n) ∧ w'.cell? ⟨w.heap.size, 3, none⟩ = some (.string nm) ∧ w'.cell? ⟨w.heap.size, 4, none⟩ = some (.slice na nms.length nc) ∧ w'.cell? ⟨w.heap.size, 5, none⟩ = some (.slice ka kids.length kc) := fun w' h => by
    have h8 := h.has
    rw [hxs] at h8
    obtain ⟨g0, g1, g2, g3, g4, g5, _, _⟩ := has8 h8
    exact ⟨g0, g1, g2, g3, g4, g5⟩
  have HO : Hid (∀ wx, Over w xs wx → Below w.heap.size w wx) := Lib.hid (fun wx h => h.below)
  have HLT : Hid (∀ w1 wx, Over w xs w1 → Below w1.heap.size w1 wx → Over w xs wx) := Lib.hid (fun w1 wx h hb => h.later hb)
  have HV := Lib.hid hV
  have hv0 := hV _ hs0
  rw [hxs] at hv0
  obtain ⟨x0, x1, x2, x3, x4, x5⟩ := hv0
  have HS0 : Hid (Over w xs (w.alloc (.cells #[.int .u8 2, .int .u8 o, .int .i32 n, .string nm, .slice na nms.length nc, .slice ka kids.length kc, .int .i64 ln, .int .i64 cl] 27))) := Lib.hid (by have h := hs0; rw [hxs] at h ⊢; exact h)
  rw [wt] at hlen
  clear hs0 hV hl hk ho hk1 hk13 hcs
  unfold TextPost
  have hb := hbool rfl
  have HT : Hid (txt (.mk 2 o n nm nms kids ln cl) = if n = 0 then ([102, 97, 108, 115, 101] : List UInt8) else ([116, 114, 117, 101] : List UInt8)) := Lib.hid (by rw [txt]; rfl)
  clear hbool hun hbin hmn hl5 hl1 hl2 hl3 hn1
  rcases hb with rfl | rfl
  all_goals
    go_enter Tryd.func9, Tryd.ntmps9
    go_wp2_with fail
    go_ret
    exact ⟨⟨_, rfl, by rw [HT.out]; rfl, by show _ ≤ _; decide⟩, HO.out _ HS0.out⟩

set_option maxRecDepth 100000 in
set_option maxHeartbeats 8000000 in
theorem rexpr_case3 (o : Nat) (n : Int) (nm : ByteArray) (nms : List ByteArray) (kids : List Ex) (ln cl : Int) (hH : okH 3 o n nms.length kids.length) (hn0 : -2147483648 ≤ n) (hn9 : n ≤ 2147483647) (hfk : fitK kids) (hlen : wt (.mk 3 o n nm nms kids ln cl) ≤ 1000000000000)
    (hE : ∀ i (hi : i < kids.length), RefDoes kids[i]) (hI : ∀ i (hi : i < kids.length), InDoes kids[i]) : RefDoes (.mk 3 o n nm nms kids ln cl) := by
  intro w cs hl
  unfold okH at hH
  obtain ⟨hk1, hk13, hbool, hun, hbin, hmn, hl5, hl1, hl2, hl3, hn1⟩ := hH
  have hl' := hl
  unfold LaidC at hl'
  obtain ⟨hk, ho, _, hnl, hkl, na, nc, ka, kc, _, _, hcs, hns, hks⟩ := hl'
  obtain rfl : cs = #[.int .u8 3, .int .u8 o, .int .i32 n, .string nm, .slice na nms.length nc, .slice ka kids.length kc, .int .i64 ln, .int .i64 cl] := by apply Array.toList_inj.1; rw [hcs]; rfl
  obtain ⟨xs, hxs⟩ : ∃ xs : Array Value, xs = #[.int .u8 3, .int .u8 o, .int .i32 n, .string nm, .slice na nms.length nc, .slice ka kids.length kc, .int .i64 ln, .int .i64 cl] := ⟨_, rfl⟩
  have hs0 := Over.start w xs
  have hV : ∀ w', Over w xs w' → w'.cell? ⟨w.heap.size, 0, none⟩ = some (.int .u8 3) ∧ w'.cell? ⟨w.heap.size, 1, none⟩ = some (.int .u8 o) ∧ w'.cell? ⟨w.heap.size, 2, none⟩ = some (.int .i32 n) ∧ w'.cell? ⟨w.heap.size, 3, none⟩ = some (.string nm) ∧ w'.cell? ⟨w.heap.size, 4, none⟩ = some (.slice na nms.length nc) ∧ w'.cell? ⟨w.heap.size, 5, none⟩ = some (.slice ka kids.length kc) := fun w' h => by
    have h8 := h.has
    rw [hxs] at h8
    obtain ⟨g0, g1, g2, g3, g4, g5, _, _⟩ := has8 h8
    exact ⟨g0, g1, g2, g3, g4, g5⟩
  have HO : Hid (∀ wx, Over w xs wx → Below w.heap.size w wx) := Lib.hid (fun wx h => h.below)
  have HLT : Hid (∀ w1 wx, Over w xs w1 → Below w1.heap.size w1 wx → Over w xs wx) := Lib.hid (fun w1 wx h hb => h.later hb)
  have HV := Lib.hid hV
  have hv0 := hV _ hs0
  rw [hxs] at hv0
  obtain ⟨x0, x1, x2, x3, x4, x5⟩ := hv0
  have HS0 : Hid (Over w xs (w.alloc (.cells #[.int .u8 3, .int .u8 o, .int .i32 n, .string nm, .slice na nms.length nc, .slice ka kids.length kc, .int .i64 ln, .int .i64 cl] 27))) := Lib.hid (by have h := hs0; rw [hxs] at h ⊢; exact h)
  rw [wt] at hlen
  clear hs0 hV hl hk ho hk1 hk13 hcs
  unfold TextPost
  have HT : Hid (txt (.mk 3 o n nm nms kids ln cl) = bs nm) := Lib.hid (by rw [txt]; rfl)
  clear hbool hun hbin hmn hl5 hl1 hl2 hl3 hn1
  go_enter Tryd.func9, Tryd.ntmps9
  go_wp2_with fail
  go_ret
  exact ⟨⟨_, rfl, by rw [HT.out], by omega⟩, HO.out _ HS0.out⟩

set_option maxRecDepth 100000 in
set_option maxHeartbeats 8000000 in
theorem rexpr_case4 (o : Nat) (n : Int) (nm : ByteArray) (nms : List ByteArray) (kids : List Ex) (ln cl : Int) (hH : okH 4 o n nms.length kids.length) (hn0 : -2147483648 ≤ n) (hn9 : n ≤ 2147483647) (hfk : fitK kids) (hlen : wt (.mk 4 o n nm nms kids ln cl) ≤ 1000000000000)
    (hE : ∀ i (hi : i < kids.length), RefDoes kids[i]) (hI : ∀ i (hi : i < kids.length), InDoes kids[i]) : RefDoes (.mk 4 o n nm nms kids ln cl) := by
  intro w cs hl
  unfold okH at hH
  obtain ⟨hk1, hk13, hbool, hun, hbin, hmn, hl5, hl1, hl2, hl3, hn1⟩ := hH
  have hl' := hl
  unfold LaidC at hl'
  obtain ⟨hk, ho, _, hnl, hkl, na, nc, ka, kc, _, _, hcs, hns, hks⟩ := hl'
  obtain rfl : cs = #[.int .u8 4, .int .u8 o, .int .i32 n, .string nm, .slice na nms.length nc, .slice ka kids.length kc, .int .i64 ln, .int .i64 cl] := by apply Array.toList_inj.1; rw [hcs]; rfl
  obtain ⟨xs, hxs⟩ : ∃ xs : Array Value, xs = #[.int .u8 4, .int .u8 o, .int .i32 n, .string nm, .slice na nms.length nc, .slice ka kids.length kc, .int .i64 ln, .int .i64 cl] := ⟨_, rfl⟩
  have hs0 := Over.start w xs
  have hV : ∀ w', Over w xs w' → w'.cell? ⟨w.heap.size, 0, none⟩ = some (.int .u8 4) ∧ w'.cell? ⟨w.heap.size, 1, none⟩ = some (.int .u8 o) ∧ w'.cell? ⟨w.heap.size, 2, none⟩ = some (.int .i32 n) ∧ w'.cell? ⟨w.heap.size, 3, none⟩ = some (.string nm) ∧ w'.cell? ⟨w.heap.size, 4, none⟩ = some (.slice na nms.length nc) ∧ w'.cell? ⟨w.heap.size, 5, none⟩ = some (.slice ka kids.length kc) := fun w' h => by
    have h8 := h.has
    rw [hxs] at h8
    obtain ⟨g0, g1, g2, g3, g4, g5, _, _⟩ := has8 h8
    exact ⟨g0, g1, g2, g3, g4, g5⟩
  have HO : Hid (∀ wx, Over w xs wx → Below w.heap.size w wx) := Lib.hid (fun wx h => h.below)
  have HLT : Hid (∀ w1 wx, Over w xs w1 → Below w1.heap.size w1 wx → Over w xs wx) := Lib.hid (fun w1 wx h hb => h.later hb)
  have HV := Lib.hid hV
  have hv0 := hV _ hs0
  rw [hxs] at hv0
  obtain ⟨x0, x1, x2, x3, x4, x5⟩ := hv0
  have HS0 : Hid (Over w xs (w.alloc (.cells #[.int .u8 4, .int .u8 o, .int .i32 n, .string nm, .slice na nms.length nc, .slice ka kids.length kc, .int .i64 ln, .int .i64 cl] 27))) := Lib.hid (by have h := hs0; rw [hxs] at h ⊢; exact h)
  rw [wt] at hlen
  clear hs0 hV hl hk ho hk1 hk13 hcs
  unfold TextPost
  have HT : Hid (txt (.mk 4 o n nm nms kids ln cl) = bs nm) := Lib.hid (by rw [txt]; rfl)
  clear hbool hun hbin hmn hl5 hl1 hl2 hl3 hn1
  go_enter Tryd.func9, Tryd.ntmps9
  go_wp2_with fail
  go_ret
  exact ⟨⟨_, rfl, by rw [HT.out], by omega⟩, HO.out _ HS0.out⟩

set_option maxRecDepth 100000 in
set_option maxHeartbeats 8000000 in
theorem rexpr_case5 (o : Nat) (n : Int) (nm : ByteArray) (nms : List ByteArray) (kids : List Ex) (ln cl : Int) (hH : okH 5 o n nms.length kids.length) (hn0 : -2147483648 ≤ n) (hn9 : n ≤ 2147483647) (hfk : fitK kids) (hlen : wt (.mk 5 o n nm nms kids ln cl) ≤ 1000000000000)
    (hE : ∀ i (hi : i < kids.length), RefDoes kids[i]) (hI : ∀ i (hi : i < kids.length), InDoes kids[i]) : RefDoes (.mk 5 o n nm nms kids ln cl) := by
  intro w cs hl
  unfold okH at hH
  obtain ⟨hk1, hk13, hbool, hun, hbin, hmn, hl5, hl1, hl2, hl3, hn1⟩ := hH
  have hl' := hl
  unfold LaidC at hl'
  obtain ⟨hk, ho, _, hnl, hkl, na, nc, ka, kc, _, _, hcs, hns, hks⟩ := hl'
  obtain rfl : cs = #[.int .u8 5, .int .u8 o, .int .i32 n, .string nm, .slice na nms.length nc, .slice ka kids.length kc, .int .i64 ln, .int .i64 cl] := by apply Array.toList_inj.1; rw [hcs]; rfl
  obtain ⟨xs, hxs⟩ : ∃ xs : Array Value, xs = #[.int .u8 5, .int .u8 o, .int .i32 n, .string nm, .slice na nms.length nc, .slice ka kids.length kc, .int .i64 ln, .int .i64 cl] := ⟨_, rfl⟩
  have hs0 := Over.start w xs
  have hV : ∀ w', Over w xs w' → w'.cell? ⟨w.heap.size, 0, none⟩ = some (.int .u8 5) ∧ w'.cell? ⟨w.heap.size, 1, none⟩ = some (.int .u8 o) ∧ w'.cell? ⟨w.heap.size, 2, none⟩ = some (.int .i32 n) ∧ w'.cell? ⟨w.heap.size, 3, none⟩ = some (.string nm) ∧ w'.cell? ⟨w.heap.size, 4, none⟩ = some (.slice na nms.length nc) ∧ w'.cell? ⟨w.heap.size, 5, none⟩ = some (.slice ka kids.length kc) := fun w' h => by
    have h8 := h.has
    rw [hxs] at h8
    obtain ⟨g0, g1, g2, g3, g4, g5, _, _⟩ := has8 h8
    exact ⟨g0, g1, g2, g3, g4, g5⟩
  have HO : Hid (∀ wx, Over w xs wx → Below w.heap.size w wx) := Lib.hid (fun wx h => h.below)
  have HLT : Hid (∀ w1 wx, Over w xs w1 → Below w1.heap.size w1 wx → Over w xs wx) := Lib.hid (fun w1 wx h hb => h.later hb)
  have HV := Lib.hid hV
  have hv0 := hV _ hs0
  rw [hxs] at hv0
  obtain ⟨x0, x1, x2, x3, x4, x5⟩ := hv0
  have HS0 : Hid (Over w xs (w.alloc (.cells #[.int .u8 5, .int .u8 o, .int .i32 n, .string nm, .slice na nms.length nc, .slice ka kids.length kc, .int .i64 ln, .int .i64 cl] 27))) := Lib.hid (by have h := hs0; rw [hxs] at h ⊢; exact h)
  rw [wt] at hlen
  clear hs0 hV hl hk ho hk1 hk13 hcs
  unfold TextPost
  have HT : Hid (txt (.mk 5 o n nm nms kids ln cl) = ([108, 97, 115, 116, 32] : List UInt8) ++ bs nm) := Lib.hid (by rw [txt]; rfl)
  clear hbool hun hbin hmn hl5 hl1 hl2 hl3 hn1
  go_enter Tryd.func9, Tryd.ntmps9
  go_wp2_with fail
  go_ret
  exact ⟨⟨_, rfl, by rw [HT.out, bs_app] <;> rfl, by rw [ByteArray.size_append]; show 5 + nm.size ≤ _; omega⟩, HO.out _ HS0.out⟩

set_option maxRecDepth 100000 in
set_option maxHeartbeats 8000000 in
theorem rexpr_case6 (o : Nat) (n : Int) (nm : ByteArray) (nms : List ByteArray) (kids : List Ex) (ln cl : Int) (hH : okH 6 o n nms.length kids.length) (hn0 : -2147483648 ≤ n) (hn9 : n ≤ 2147483647) (hfk : fitK kids) (hlen : wt (.mk 6 o n nm nms kids ln cl) ≤ 1000000000000)
    (hE : ∀ i (hi : i < kids.length), RefDoes kids[i]) (hI : ∀ i (hi : i < kids.length), InDoes kids[i]) : RefDoes (.mk 6 o n nm nms kids ln cl) := by
  intro w cs hl
  unfold okH at hH
  obtain ⟨hk1, hk13, hbool, hun, hbin, hmn, hl5, hl1, hl2, hl3, hn1⟩ := hH
  have hl' := hl
  unfold LaidC at hl'
  obtain ⟨hk, ho, _, hnl, hkl, na, nc, ka, kc, _, _, hcs, hns, hks⟩ := hl'
  obtain rfl : cs = #[.int .u8 6, .int .u8 o, .int .i32 n, .string nm, .slice na nms.length nc, .slice ka kids.length kc, .int .i64 ln, .int .i64 cl] := by apply Array.toList_inj.1; rw [hcs]; rfl
  obtain ⟨xs, hxs⟩ : ∃ xs : Array Value, xs = #[.int .u8 6, .int .u8 o, .int .i32 n, .string nm, .slice na nms.length nc, .slice ka kids.length kc, .int .i64 ln, .int .i64 cl] := ⟨_, rfl⟩
  have hs0 := Over.start w xs
  have hV : ∀ w', Over w xs w' → w'.cell? ⟨w.heap.size, 0, none⟩ = some (.int .u8 6) ∧ w'.cell? ⟨w.heap.size, 1, none⟩ = some (.int .u8 o) ∧ w'.cell? ⟨w.heap.size, 2, none⟩ = some (.int .i32 n) ∧ w'.cell? ⟨w.heap.size, 3, none⟩ = some (.string nm) ∧ w'.cell? ⟨w.heap.size, 4, none⟩ = some (.slice na nms.length nc) ∧ w'.cell? ⟨w.heap.size, 5, none⟩ = some (.slice ka kids.length kc) := fun w' h => by
    have h8 := h.has
    rw [hxs] at h8
    obtain ⟨g0, g1, g2, g3, g4, g5, _, _⟩ := has8 h8
    exact ⟨g0, g1, g2, g3, g4, g5⟩
  have HO : Hid (∀ wx, Over w xs wx → Below w.heap.size w wx) := Lib.hid (fun wx h => h.below)
  have HLT : Hid (∀ w1 wx, Over w xs w1 → Below w1.heap.size w1 wx → Over w xs wx) := Lib.hid (fun w1 wx h hb => h.later hb)
  have HV := Lib.hid hV
  have hv0 := hV _ hs0
  rw [hxs] at hv0
  obtain ⟨x0, x1, x2, x3, x4, x5⟩ := hv0
  have HS0 : Hid (Over w xs (w.alloc (.cells #[.int .u8 6, .int .u8 o, .int .i32 n, .string nm, .slice na nms.length nc, .slice ka kids.length kc, .int .i64 ln, .int .i64 cl] 27))) := Lib.hid (by have h := hs0; rw [hxs] at h ⊢; exact h)
  rw [wt] at hlen
  clear hs0 hV hl hk ho hk1 hk13 hcs
  unfold TextPost
  have ho2 := hun rfl
  have hkn := hl1 (by omega)
  rcases ho2 with ho1 | ho1
  · have f2 : ((o : Int) == 2) = false := by rw [ho1]; rfl
    have h0 : 0 < kids.length := by omega
    have hk0 := kid_cells (cs := xs) hks 0 h0
    obtain ⟨kb, ko, a0, a1, a2, a3, a4, a5, a6, a7, rfl, hlc0, hkc0⟩ := hk0
    have hw0 := wt_kid kids 0 h0
    have hf0 := txt_len _ (fitK_get kids hfk 0 h0)
    have hp0 := par_len (bareB false kids[0]) (txt kids[0])
    have HIN : Hid (∀ wx, Over w xs wx → Calls Tryd.prog 18 #[.agg #[a0, a1, a2, a3, a4, a5, a6, a7], .bool false] wx (TextPost wx (par (bareB false kids[0]) (txt kids[0])))) := Lib.hid (fun wx h => hI 0 h0 wx _ _ (LaidC.below h.below _ _ hlc0))
    have hz0 := hkc0 _ HS0.out
    simp only [Nat.zero_mul, Nat.add_zero] at hz0
    obtain ⟨y0, y1, y2, y3, y4, y5, y6, y7⟩ := hz0
    have HT : Hid (txt (.mk 6 o n nm nms kids ln cl) = ([110, 111, 116, 32] : List UInt8) ++ par (bareB false kids[0]) (txt kids[0])) := Lib.hid (by rw [txt]; show wordL o ++ ([32] : List UInt8) ++ kidT kids (txtK kids) (decide (o = 2)) 0 = _; rw [kidT_get _ _ _ h0] <;> (rw [ho1] <;> rfl))
    clear hkc0 hlc0
    unfold TextPost at HIN
    clear hkn ho1
    have hi0 : (0 : Int) < (kids.length : Int) := by omega
    clear hbool hun hbin hmn hl5 hl1 hl2 hl3 hn1
    go_enter Tryd.func9, Tryd.ntmps9
    go_wp2_with fail
    refine (HIN.out _ HS0.out).mono ?_
    rintro e w1 ⟨⟨s1, rfl, hs1, hz1⟩, hb1⟩
    have hz := size_of hs1
    have HS1 := Lib.hid hs1
    have HB1 := Lib.hid (HO.out _ (HLT.out _ _ HS0.out hb1))
    clear hs1 hb1
    go_wp2_with fail
    go_ret
    exact ⟨⟨_, rfl, by rw [HT.out, bs_app, HS1.out] <;> rfl, by rw [ByteArray.size_append]; show 4 + s1.size ≤ _; omega⟩, HB1.out⟩
  · have f2 : ((o : Int) == 2) = true := by rw [ho1]; rfl
    have h0 : 0 < kids.length := by omega
    have hk0 := kid_cells (cs := xs) hks 0 h0
    obtain ⟨kb, ko, a0, a1, a2, a3, a4, a5, a6, a7, rfl, hlc0, hkc0⟩ := hk0
    have hw0 := wt_kid kids 0 h0
    have hf0 := txt_len _ (fitK_get kids hfk 0 h0)
    have hp0 := par_len (bareB true kids[0]) (txt kids[0])
    have HIN : Hid (∀ wx, Over w xs wx → Calls Tryd.prog 18 #[.agg #[a0, a1, a2, a3, a4, a5, a6, a7], .bool true] wx (TextPost wx (par (bareB true kids[0]) (txt kids[0])))) := Lib.hid (fun wx h => hI 0 h0 wx _ _ (LaidC.below h.below _ _ hlc0))
    have hz0 := hkc0 _ HS0.out
    simp only [Nat.zero_mul, Nat.add_zero] at hz0
    obtain ⟨y0, y1, y2, y3, y4, y5, y6, y7⟩ := hz0
    have HT : Hid (txt (.mk 6 o n nm nms kids ln cl) = ([45, 32] : List UInt8) ++ par (bareB true kids[0]) (txt kids[0])) := Lib.hid (by rw [txt]; show wordL o ++ ([32] : List UInt8) ++ kidT kids (txtK kids) (decide (o = 2)) 0 = _; rw [kidT_get _ _ _ h0] <;> (rw [ho1] <;> rfl))
    clear hkc0 hlc0
    unfold TextPost at HIN
    clear hkn ho1
    have hi0 : (0 : Int) < (kids.length : Int) := by omega
    clear hbool hun hbin hmn hl5 hl1 hl2 hl3 hn1
    go_enter Tryd.func9, Tryd.ntmps9
    go_wp2_with fail
    refine (HIN.out _ HS0.out).mono ?_
    rintro e w1 ⟨⟨s1, rfl, hs1, hz1⟩, hb1⟩
    have hz := size_of hs1
    have HS1 := Lib.hid hs1
    have HB1 := Lib.hid (HO.out _ (HLT.out _ _ HS0.out hb1))
    clear hs1 hb1
    go_wp2_with fail
    go_ret
    exact ⟨⟨_, rfl, by rw [HT.out, bs_app, HS1.out] <;> rfl, by rw [ByteArray.size_append]; show 2 + s1.size ≤ _; omega⟩, HB1.out⟩

set_option maxRecDepth 100000 in
set_option maxHeartbeats 8000000 in
theorem rexpr_case7 (o : Nat) (n : Int) (nm : ByteArray) (nms : List ByteArray) (kids : List Ex) (ln cl : Int) (hH : okH 7 o n nms.length kids.length) (hn0 : -2147483648 ≤ n) (hn9 : n ≤ 2147483647) (hfk : fitK kids) (hlen : wt (.mk 7 o n nm nms kids ln cl) ≤ 1000000000000)
    (hE : ∀ i (hi : i < kids.length), RefDoes kids[i]) (hI : ∀ i (hi : i < kids.length), InDoes kids[i]) : RefDoes (.mk 7 o n nm nms kids ln cl) := by
  intro w cs hl
  unfold okH at hH
  obtain ⟨hk1, hk13, hbool, hun, hbin, hmn, hl5, hl1, hl2, hl3, hn1⟩ := hH
  have hl' := hl
  unfold LaidC at hl'
  obtain ⟨hk, ho, _, hnl, hkl, na, nc, ka, kc, _, _, hcs, hns, hks⟩ := hl'
  obtain rfl : cs = #[.int .u8 7, .int .u8 o, .int .i32 n, .string nm, .slice na nms.length nc, .slice ka kids.length kc, .int .i64 ln, .int .i64 cl] := by apply Array.toList_inj.1; rw [hcs]; rfl
  obtain ⟨xs, hxs⟩ : ∃ xs : Array Value, xs = #[.int .u8 7, .int .u8 o, .int .i32 n, .string nm, .slice na nms.length nc, .slice ka kids.length kc, .int .i64 ln, .int .i64 cl] := ⟨_, rfl⟩
  have hs0 := Over.start w xs
  have hV : ∀ w', Over w xs w' → w'.cell? ⟨w.heap.size, 0, none⟩ = some (.int .u8 7) ∧ w'.cell? ⟨w.heap.size, 1, none⟩ = some (.int .u8 o) ∧ w'.cell? ⟨w.heap.size, 2, none⟩ = some (.int .i32 n) ∧ w'.cell? ⟨w.heap.size, 3, none⟩ = some (.string nm) ∧ w'.cell? ⟨w.heap.size, 4, none⟩ = some (.slice na nms.length nc) ∧ w'.cell? ⟨w.heap.size, 5, none⟩ = some (.slice ka kids.length kc) := fun w' h => by
    have h8 := h.has
    rw [hxs] at h8
    obtain ⟨g0, g1, g2, g3, g4, g5, _, _⟩ := has8 h8
    exact ⟨g0, g1, g2, g3, g4, g5⟩
  have HO : Hid (∀ wx, Over w xs wx → Below w.heap.size w wx) := Lib.hid (fun wx h => h.below)
  have HLT : Hid (∀ w1 wx, Over w xs w1 → Below w1.heap.size w1 wx → Over w xs wx) := Lib.hid (fun w1 wx h hb => h.later hb)
  have HV := Lib.hid hV
  have hv0 := hV _ hs0
  rw [hxs] at hv0
  obtain ⟨x0, x1, x2, x3, x4, x5⟩ := hv0
  have HS0 : Hid (Over w xs (w.alloc (.cells #[.int .u8 7, .int .u8 o, .int .i32 n, .string nm, .slice na nms.length nc, .slice ka kids.length kc, .int .i64 ln, .int .i64 cl] 27))) := Lib.hid (by have h := hs0; rw [hxs] at h ⊢; exact h)
  rw [wt] at hlen
  clear hs0 hV hl hk ho hk1 hk13 hcs
  unfold TextPost
  have hkn := hl2 (by omega)
  have hoo := hbin rfl
  have hwl := wordL_len o
  obtain ⟨sw, hsw⟩ : ∃ sw : ByteArray, sw = ⟨(wordL o).toArray⟩ := ⟨_, rfl⟩
  have hswb : bs sw = wordL o := by rw [hsw]
  have hsz : sw.size ≤ 3 := by rw [← bs_len, hswb]; exact hwl
  have HW : Hid (∀ wx, Calls Tryd.prog 19 #[.int .u8 o] wx fun e w' => e = .returned (.string sw) ∧ w' = wx) := Lib.hid (fun wx => by rw [hsw]; exact rword_any o (by omega) (by omega) wx)
  clear hoo hwl
  have h0 : 0 < kids.length := by omega
  have hk0 := kid_cells (cs := xs) hks 0 h0
  obtain ⟨kb, ko, a0, a1, a2, a3, a4, a5, a6, a7, rfl, hlc0, hkc0⟩ := hk0
  have h1 : 1 < kids.length := by omega
  have hk1 := kid_cells (cs := xs) hks 1 h1
  obtain ⟨kb1, ko1, b0, b1, b2, b3, b4, b5, b6, b7, hka1, hlc1, hkc1⟩ := hk1
  simp only [Option.some.injEq, Addr.mk.injEq, and_true] at hka1
  obtain ⟨rfl, rfl⟩ := hka1
  have HC0 : Hid (∀ wx, Over w xs wx → Calls Tryd.prog 18 #[.agg #[a0, a1, a2, a3, a4, a5, a6, a7], .bool false] wx (TextPost wx (par (bareB false kids[0]) (txt kids[0])))) := Lib.hid (fun wx h => hI 0 h0 wx _ _ (LaidC.below h.below _ _ hlc0))
  have HC1 : Hid (∀ wx, Over w xs wx → Calls Tryd.prog 18 #[.agg #[b0, b1, b2, b3, b4, b5, b6, b7], .bool false] wx (TextPost wx (par (bareB false kids[1]) (txt kids[1])))) := Lib.hid (fun wx h => hI 1 h1 wx _ _ (LaidC.below h.below _ _ hlc1))
  have hS : ∀ w', Over w xs w' → (Over w xs w' ∧ w'.cell? ⟨w.heap.size, 1, none⟩ = some (.int .u8 o) ∧ w'.cell? ⟨w.heap.size, 5, none⟩ = some (.slice (some ⟨kb, ko, none⟩) kids.length kc) ∧ w'.cell? ⟨kb, ko, none⟩ = some a0 ∧ w'.cell? ⟨kb, ko + 1, none⟩ = some a1 ∧ w'.cell? ⟨kb, ko + 2, none⟩ = some a2 ∧ w'.cell? ⟨kb, ko + 3, none⟩ = some a3 ∧ w'.cell? ⟨kb, ko + 4, none⟩ = some a4 ∧ w'.cell? ⟨kb, ko + 5, none⟩ = some a5 ∧ w'.cell? ⟨kb, ko + 6, none⟩ = some a6 ∧ w'.cell? ⟨kb, ko + 7, none⟩ = some a7 ∧ w'.cell? ⟨kb, ko + 8, none⟩ = some b0 ∧ w'.cell? ⟨kb, ko + 8 + 1, none⟩ = some b1 ∧ w'.cell? ⟨kb, ko + 8 + 2, none⟩ = some b2 ∧ w'.cell? ⟨kb, ko + 8 + 3, none⟩ = some b3 ∧ w'.cell? ⟨kb, ko + 8 + 4, none⟩ = some b4 ∧ w'.cell? ⟨kb, ko + 8 + 5, none⟩ = some b5 ∧ w'.cell? ⟨kb, ko + 8 + 6, none⟩ = some b6 ∧ w'.cell? ⟨kb, ko + 8 + 7, none⟩ = some b7) := fun w' h => by
    obtain ⟨_, g1, _, _, _, g5⟩ := HV.out w' h
    have z0 := hkc0 w' h
    simp only [Nat.zero_mul, Nat.one_mul, Nat.add_zero, Nat.reduceMul] at z0
    obtain ⟨u00, u01, u02, u03, u04, u05, u06, u07⟩ := z0
    have z1 := hkc1 w' h
    simp only [Nat.zero_mul, Nat.one_mul, Nat.add_zero, Nat.reduceMul] at z1
    obtain ⟨u10, u11, u12, u13, u14, u15, u16, u17⟩ := z1
    exact ⟨h, g1, g5, u00, u01, u02, u03, u04, u05, u06, u07, u10, u11, u12, u13, u14, u15, u16, u17⟩
  have HK : Hid (∀ (w1 w' : World) (R : Prop), (Over w xs w1 ∧ R) → Below w1.heap.size w1 w' → (Over w xs w' ∧ w'.cell? ⟨w.heap.size, 1, none⟩ = some (.int .u8 o) ∧ w'.cell? ⟨w.heap.size, 5, none⟩ = some (.slice (some ⟨kb, ko, none⟩) kids.length kc) ∧ w'.cell? ⟨kb, ko, none⟩ = some a0 ∧ w'.cell? ⟨kb, ko + 1, none⟩ = some a1 ∧ w'.cell? ⟨kb, ko + 2, none⟩ = some a2 ∧ w'.cell? ⟨kb, ko + 3, none⟩ = some a3 ∧ w'.cell? ⟨kb, ko + 4, none⟩ = some a4 ∧ w'.cell? ⟨kb, ko + 5, none⟩ = some a5 ∧ w'.cell? ⟨kb, ko + 6, none⟩ = some a6 ∧ w'.cell? ⟨kb, ko + 7, none⟩ = some a7 ∧ w'.cell? ⟨kb, ko + 8, none⟩ = some b0 ∧ w'.cell? ⟨kb, ko + 8 + 1, none⟩ = some b1 ∧ w'.cell? ⟨kb, ko + 8 + 2, none⟩ = some b2 ∧ w'.cell? ⟨kb, ko + 8 + 3, none⟩ = some b3 ∧ w'.cell? ⟨kb, ko + 8 + 4, none⟩ = some b4 ∧ w'.cell? ⟨kb, ko + 8 + 5, none⟩ = some b5 ∧ w'.cell? ⟨kb, ko + 8 + 6, none⟩ = some b6 ∧ w'.cell? ⟨kb, ko + 8 + 7, none⟩ = some b7)) := Lib.hid (fun w1 w' R h hb => hS w' (h.1.later hb))
  obtain ⟨W0, hW0⟩ : ∃ W0 : World, W0 = w.alloc (.cells #[.int .u8 7, .int .u8 o, .int .i32 n, .string nm, .slice na nms.length nc, .slice (some ⟨kb, ko, none⟩) kids.length kc, .int .i64 ln, .int .i64 cl] 27) := ⟨_, rfl⟩
  have HB0 : Hid (Over w xs W0.drew ∧ W0.drew.cell? ⟨w.heap.size, 1, none⟩ = some (.int .u8 o) ∧ W0.drew.cell? ⟨w.heap.size, 5, none⟩ = some (.slice (some ⟨kb, ko, none⟩) kids.length kc) ∧ W0.drew.cell? ⟨kb, ko, none⟩ = some a0 ∧ W0.drew.cell? ⟨kb, ko + 1, none⟩ = some a1 ∧ W0.drew.cell? ⟨kb, ko + 2, none⟩ = some a2 ∧ W0.drew.cell? ⟨kb, ko + 3, none⟩ = some a3 ∧ W0.drew.cell? ⟨kb, ko + 4, none⟩ = some a4 ∧ W0.drew.cell? ⟨kb, ko + 5, none⟩ = some a5 ∧ W0.drew.cell? ⟨kb, ko + 6, none⟩ = some a6 ∧ W0.drew.cell? ⟨kb, ko + 7, none⟩ = some a7 ∧ W0.drew.cell? ⟨kb, ko + 8, none⟩ = some b0 ∧ W0.drew.cell? ⟨kb, ko + 8 + 1, none⟩ = some b1 ∧ W0.drew.cell? ⟨kb, ko + 8 + 2, none⟩ = some b2 ∧ W0.drew.cell? ⟨kb, ko + 8 + 3, none⟩ = some b3 ∧ W0.drew.cell? ⟨kb, ko + 8 + 4, none⟩ = some b4 ∧ W0.drew.cell? ⟨kb, ko + 8 + 5, none⟩ = some b5 ∧ W0.drew.cell? ⟨kb, ko + 8 + 6, none⟩ = some b6 ∧ W0.drew.cell? ⟨kb, ko + 8 + 7, none⟩ = some b7) := Lib.hid (hS _ (by rw [hW0]; exact HS0.out.drew))
  have HW0 := Lib.hid hW0
  clear hW0
  have hw0 := wt_kid kids 0 h0
  have hf0 := txt_len _ (fitK_get kids hfk 0 h0)
  have hp0 := par_len (bareB false kids[0]) (txt kids[0])
  have hw1 := wt_kid kids 1 h1
  have hf1 := txt_len _ (fitK_get kids hfk 1 h1)
  have hp1 := par_len (bareB false kids[1]) (txt kids[1])
  have HT : Hid (txt (.mk 7 o n nm nms kids ln cl) = par (bareB false kids[0]) (txt kids[0]) ++ (([32] : List UInt8) ++ (bs sw ++ (([32] : List UInt8) ++ par (bareB false kids[1]) (txt kids[1]))))) := Lib.hid (by rw [txt, hswb]; show kidT kids (txtK kids) false 0 ++ ([32] : List UInt8) ++ wordL o ++ ([32] : List UInt8) ++ kidT kids (txtK kids) false 1 = _; rw [kidT_get _ _ _ h0]; rw [kidT_get _ _ _ h1]; simp only [List.append_assoc])
  clear hsw hswb
  clear hS hkc0 hlc0 hkc1 hlc1
  unfold TextPost at HC0 HC1
  clear hbool hun hbin hmn hl5 hl1 hl2 hl3 hn1
  clear x1 x2 x3 x4 x5 hkn
  have hi0 : (0 : Int) < (kids.length : Int) := by omega
  have hi1 : (1 : Int) < (kids.length : Int) := by omega
  go_enter Tryd.func9, Tryd.ntmps9
  go_wp2_with fail
  rw [← HW0.out]
  go_region_held3 (fun w' => Over w xs w' ∧ w'.cell? ⟨w.heap.size, 1, none⟩ = some (.int .u8 o) ∧ w'.cell? ⟨w.heap.size, 5, none⟩ = some (.slice (some ⟨kb, ko, none⟩) kids.length kc) ∧ w'.cell? ⟨kb, ko, none⟩ = some a0 ∧ w'.cell? ⟨kb, ko + 1, none⟩ = some a1 ∧ w'.cell? ⟨kb, ko + 2, none⟩ = some a2 ∧ w'.cell? ⟨kb, ko + 3, none⟩ = some a3 ∧ w'.cell? ⟨kb, ko + 4, none⟩ = some a4 ∧ w'.cell? ⟨kb, ko + 5, none⟩ = some a5 ∧ w'.cell? ⟨kb, ko + 6, none⟩ = some a6 ∧ w'.cell? ⟨kb, ko + 7, none⟩ = some a7 ∧ w'.cell? ⟨kb, ko + 8, none⟩ = some b0 ∧ w'.cell? ⟨kb, ko + 8 + 1, none⟩ = some b1 ∧ w'.cell? ⟨kb, ko + 8 + 2, none⟩ = some b2 ∧ w'.cell? ⟨kb, ko + 8 + 3, none⟩ = some b3 ∧ w'.cell? ⟨kb, ko + 8 + 4, none⟩ = some b4 ∧ w'.cell? ⟨kb, ko + 8 + 5, none⟩ = some b5 ∧ w'.cell? ⟨kb, ko + 8 + 6, none⟩ = some b6 ∧ w'.cell? ⟨kb, ko + 8 + 7, none⟩ = some b7)
    (first | exact HK.out _ _ _ (by assumption) hb1 | exact HK.out _ _ _ (by assumption) hb0 | exact HB0.out)
    (first | (go_at_call_of 18 (Value.agg #[a0, a1, a2, a3, a4, a5, a6, a7]); refine (HC0.out _ (And.left (by assumption))).mono ?_; rintro e w0 ⟨⟨s0, rfl, hs0, hz0⟩, hb0⟩; have hu00 : ¬ 9223372036854775807 < s0.size + 1 := (by omega); have hu01 : ¬ 9223372036854775806 < s0.size := (by omega)) | (go_at_call_of 18 (Value.agg #[b0, b1, b2, b3, b4, b5, b6, b7]); refine (HC1.out _ (And.left (by assumption))).mono ?_; rintro e w1 ⟨⟨s1, rfl, hs1, hz1⟩, hb1⟩; have hu10 : ¬ 9223372036854775807 < s0.size + 1 + sw.size + 1 + s1.size := (by omega)) | (go_at_call 19; refine (HW.out _).mono ?_; rintro e wz ⟨rfl, rfl⟩; have hw0 : ¬ 9223372036854775807 < s0.size + 1 + sw.size := (by omega); have hw1 : ¬ 9223372036854775807 < s0.size + 1 + sw.size + 1 := (by omega); have hw2 : ¬ 9223372036854775806 < s0.size + 1 + sw.size := (by omega)))
  all_goals
    have HZ : Hid (Over w xs w1) := Lib.hid (And.left (by assumption))
    have hq0 := size_of hs0
    have hq1 := size_of hs1
    go_wp2_with fail
    go_ret
    refine ⟨⟨_, rfl, ?_, ?_⟩, HO.out _ HZ.out⟩
    · rw [HT.out, ← hs0, ← hs1]
      simp only [bs_app, List.append_assoc] <;> rfl
    · simp only [ByteArray.size_append]
      show s0.size + 1 + sw.size + 1 + s1.size ≤ _
      omega

set_option maxRecDepth 100000 in
set_option maxHeartbeats 8000000 in
theorem rexpr_case8 (o : Nat) (n : Int) (nm : ByteArray) (nms : List ByteArray) (kids : List Ex) (ln cl : Int) (hH : okH 8 o n nms.length kids.length) (hn0 : -2147483648 ≤ n) (hn9 : n ≤ 2147483647) (hfk : fitK kids) (hlen : wt (.mk 8 o n nm nms kids ln cl) ≤ 1000000000000)
    (hE : ∀ i (hi : i < kids.length), RefDoes kids[i]) (hI : ∀ i (hi : i < kids.length), InDoes kids[i]) : RefDoes (.mk 8 o n nm nms kids ln cl) := by
  intro w cs hl
  unfold okH at hH
  obtain ⟨hk1, hk13, hbool, hun, hbin, hmn, hl5, hl1, hl2, hl3, hn1⟩ := hH
  have hl' := hl
  unfold LaidC at hl'
  obtain ⟨hk, ho, _, hnl, hkl, na, nc, ka, kc, _, _, hcs, hns, hks⟩ := hl'
  obtain rfl : cs = #[.int .u8 8, .int .u8 o, .int .i32 n, .string nm, .slice na nms.length nc, .slice ka kids.length kc, .int .i64 ln, .int .i64 cl] := by apply Array.toList_inj.1; rw [hcs]; rfl
  obtain ⟨xs, hxs⟩ : ∃ xs : Array Value, xs = #[.int .u8 8, .int .u8 o, .int .i32 n, .string nm, .slice na nms.length nc, .slice ka kids.length kc, .int .i64 ln, .int .i64 cl] := ⟨_, rfl⟩
  have hs0 := Over.start w xs
  have hV : ∀ w', Over w xs w' → w'.cell? ⟨w.heap.size, 0, none⟩ = some (.int .u8 8) ∧ w'.cell? ⟨w.heap.size, 1, none⟩ = some (.int .u8 o) ∧ w'.cell? ⟨w.heap.size, 2, none⟩ = some (.int .i32 n) ∧ w'.cell? ⟨w.heap.size, 3, none⟩ = some (.string nm) ∧ w'.cell? ⟨w.heap.size, 4, none⟩ = some (.slice na nms.length nc) ∧ w'.cell? ⟨w.heap.size, 5, none⟩ = some (.slice ka kids.length kc) := fun w' h => by
    have h8 := h.has
    rw [hxs] at h8
    obtain ⟨g0, g1, g2, g3, g4, g5, _, _⟩ := has8 h8
    exact ⟨g0, g1, g2, g3, g4, g5⟩
  have HO : Hid (∀ wx, Over w xs wx → Below w.heap.size w wx) := Lib.hid (fun wx h => h.below)
  have HLT : Hid (∀ w1 wx, Over w xs w1 → Below w1.heap.size w1 wx → Over w xs wx) := Lib.hid (fun w1 wx h hb => h.later hb)
  have HV := Lib.hid hV
  have hv0 := hV _ hs0
  rw [hxs] at hv0
  obtain ⟨x0, x1, x2, x3, x4, x5⟩ := hv0
  have HS0 : Hid (Over w xs (w.alloc (.cells #[.int .u8 8, .int .u8 o, .int .i32 n, .string nm, .slice na nms.length nc, .slice ka kids.length kc, .int .i64 ln, .int .i64 cl] 27))) := Lib.hid (by have h := hs0; rw [hxs] at h ⊢; exact h)
  rw [wt] at hlen
  clear hs0 hV hl hk ho hk1 hk13 hcs
  unfold TextPost
  have hkn := hl3 rfl
  have h0 : 0 < kids.length := by omega
  have hk0 := kid_cells (cs := xs) hks 0 h0
  obtain ⟨kb, ko, a0, a1, a2, a3, a4, a5, a6, a7, rfl, hlc0, hkc0⟩ := hk0
  have h1 : 1 < kids.length := by omega
  have hk1 := kid_cells (cs := xs) hks 1 h1
  obtain ⟨kb1, ko1, b0, b1, b2, b3, b4, b5, b6, b7, hka1, hlc1, hkc1⟩ := hk1
  simp only [Option.some.injEq, Addr.mk.injEq, and_true] at hka1
  obtain ⟨rfl, rfl⟩ := hka1
  have h2 : 2 < kids.length := by omega
  have hk2 := kid_cells (cs := xs) hks 2 h2
  obtain ⟨kb2, ko2, c0, c1, c2, c3, c4, c5, c6, c7, hka2, hlc2, hkc2⟩ := hk2
  simp only [Option.some.injEq, Addr.mk.injEq, and_true] at hka2
  obtain ⟨rfl, rfl⟩ := hka2
  have HC0 : Hid (∀ wx, Over w xs wx → Calls Tryd.prog 9 #[.agg #[a0, a1, a2, a3, a4, a5, a6, a7]] wx (TextPost wx (txt kids[0]))) := Lib.hid (fun wx h => hE 0 h0 wx _ (LaidC.below h.below _ _ hlc0))
  have HC1 : Hid (∀ wx, Over w xs wx → Calls Tryd.prog 9 #[.agg #[b0, b1, b2, b3, b4, b5, b6, b7]] wx (TextPost wx (txt kids[1]))) := Lib.hid (fun wx h => hE 1 h1 wx _ (LaidC.below h.below _ _ hlc1))
  have HC2 : Hid (∀ wx, Over w xs wx → Calls Tryd.prog 9 #[.agg #[c0, c1, c2, c3, c4, c5, c6, c7]] wx (TextPost wx (txt kids[2]))) := Lib.hid (fun wx h => hE 2 h2 wx _ (LaidC.below h.below _ _ hlc2))
  have hS : ∀ w', Over w xs w' → (Over w xs w' ∧ w'.cell? ⟨w.heap.size, 1, none⟩ = some (.int .u8 o) ∧ w'.cell? ⟨w.heap.size, 5, none⟩ = some (.slice (some ⟨kb, ko, none⟩) kids.length kc) ∧ w'.cell? ⟨kb, ko, none⟩ = some a0 ∧ w'.cell? ⟨kb, ko + 1, none⟩ = some a1 ∧ w'.cell? ⟨kb, ko + 2, none⟩ = some a2 ∧ w'.cell? ⟨kb, ko + 3, none⟩ = some a3 ∧ w'.cell? ⟨kb, ko + 4, none⟩ = some a4 ∧ w'.cell? ⟨kb, ko + 5, none⟩ = some a5 ∧ w'.cell? ⟨kb, ko + 6, none⟩ = some a6 ∧ w'.cell? ⟨kb, ko + 7, none⟩ = some a7 ∧ w'.cell? ⟨kb, ko + 8, none⟩ = some b0 ∧ w'.cell? ⟨kb, ko + 8 + 1, none⟩ = some b1 ∧ w'.cell? ⟨kb, ko + 8 + 2, none⟩ = some b2 ∧ w'.cell? ⟨kb, ko + 8 + 3, none⟩ = some b3 ∧ w'.cell? ⟨kb, ko + 8 + 4, none⟩ = some b4 ∧ w'.cell? ⟨kb, ko + 8 + 5, none⟩ = some b5 ∧ w'.cell? ⟨kb, ko + 8 + 6, none⟩ = some b6 ∧ w'.cell? ⟨kb, ko + 8 + 7, none⟩ = some b7 ∧ w'.cell? ⟨kb, ko + 16, none⟩ = some c0 ∧ w'.cell? ⟨kb, ko + 16 + 1, none⟩ = some c1 ∧ w'.cell? ⟨kb, ko + 16 + 2, none⟩ = some c2 ∧ w'.cell? ⟨kb, ko + 16 + 3, none⟩ = some c3 ∧ w'.cell? ⟨kb, ko + 16 + 4, none⟩ = some c4 ∧ w'.cell? ⟨kb, ko + 16 + 5, none⟩ = some c5 ∧ w'.cell? ⟨kb, ko + 16 + 6, none⟩ = some c6 ∧ w'.cell? ⟨kb, ko + 16 + 7, none⟩ = some c7) := fun w' h => by
    obtain ⟨_, g1, _, _, _, g5⟩ := HV.out w' h
    have z0 := hkc0 w' h
    simp only [Nat.zero_mul, Nat.one_mul, Nat.add_zero, Nat.reduceMul] at z0
    obtain ⟨u00, u01, u02, u03, u04, u05, u06, u07⟩ := z0
    have z1 := hkc1 w' h
    simp only [Nat.zero_mul, Nat.one_mul, Nat.add_zero, Nat.reduceMul] at z1
    obtain ⟨u10, u11, u12, u13, u14, u15, u16, u17⟩ := z1
    have z2 := hkc2 w' h
    simp only [Nat.zero_mul, Nat.one_mul, Nat.add_zero, Nat.reduceMul] at z2
    obtain ⟨u20, u21, u22, u23, u24, u25, u26, u27⟩ := z2
    exact ⟨h, g1, g5, u00, u01, u02, u03, u04, u05, u06, u07, u10, u11, u12, u13, u14, u15, u16, u17, u20, u21, u22, u23, u24, u25, u26, u27⟩
  have HK : Hid (∀ (w1 w' : World) (R : Prop), (Over w xs w1 ∧ R) → Below w1.heap.size w1 w' → (Over w xs w' ∧ w'.cell? ⟨w.heap.size, 1, none⟩ = some (.int .u8 o) ∧ w'.cell? ⟨w.heap.size, 5, none⟩ = some (.slice (some ⟨kb, ko, none⟩) kids.length kc) ∧ w'.cell? ⟨kb, ko, none⟩ = some a0 ∧ w'.cell? ⟨kb, ko + 1, none⟩ = some a1 ∧ w'.cell? ⟨kb, ko + 2, none⟩ = some a2 ∧ w'.cell? ⟨kb, ko + 3, none⟩ = some a3 ∧ w'.cell? ⟨kb, ko + 4, none⟩ = some a4 ∧ w'.cell? ⟨kb, ko + 5, none⟩ = some a5 ∧ w'.cell? ⟨kb, ko + 6, none⟩ = some a6 ∧ w'.cell? ⟨kb, ko + 7, none⟩ = some a7 ∧ w'.cell? ⟨kb, ko + 8, none⟩ = some b0 ∧ w'.cell? ⟨kb, ko + 8 + 1, none⟩ = some b1 ∧ w'.cell? ⟨kb, ko + 8 + 2, none⟩ = some b2 ∧ w'.cell? ⟨kb, ko + 8 + 3, none⟩ = some b3 ∧ w'.cell? ⟨kb, ko + 8 + 4, none⟩ = some b4 ∧ w'.cell? ⟨kb, ko + 8 + 5, none⟩ = some b5 ∧ w'.cell? ⟨kb, ko + 8 + 6, none⟩ = some b6 ∧ w'.cell? ⟨kb, ko + 8 + 7, none⟩ = some b7 ∧ w'.cell? ⟨kb, ko + 16, none⟩ = some c0 ∧ w'.cell? ⟨kb, ko + 16 + 1, none⟩ = some c1 ∧ w'.cell? ⟨kb, ko + 16 + 2, none⟩ = some c2 ∧ w'.cell? ⟨kb, ko + 16 + 3, none⟩ = some c3 ∧ w'.cell? ⟨kb, ko + 16 + 4, none⟩ = some c4 ∧ w'.cell? ⟨kb, ko + 16 + 5, none⟩ = some c5 ∧ w'.cell? ⟨kb, ko + 16 + 6, none⟩ = some c6 ∧ w'.cell? ⟨kb, ko + 16 + 7, none⟩ = some c7)) := Lib.hid (fun w1 w' R h hb => hS w' (h.1.later hb))
  obtain ⟨W0, hW0⟩ : ∃ W0 : World, W0 = w.alloc (.cells #[.int .u8 8, .int .u8 o, .int .i32 n, .string nm, .slice na nms.length nc, .slice (some ⟨kb, ko, none⟩) kids.length kc, .int .i64 ln, .int .i64 cl] 27) := ⟨_, rfl⟩
  have HB0 : Hid (Over w xs W0.drew ∧ W0.drew.cell? ⟨w.heap.size, 1, none⟩ = some (.int .u8 o) ∧ W0.drew.cell? ⟨w.heap.size, 5, none⟩ = some (.slice (some ⟨kb, ko, none⟩) kids.length kc) ∧ W0.drew.cell? ⟨kb, ko, none⟩ = some a0 ∧ W0.drew.cell? ⟨kb, ko + 1, none⟩ = some a1 ∧ W0.drew.cell? ⟨kb, ko + 2, none⟩ = some a2 ∧ W0.drew.cell? ⟨kb, ko + 3, none⟩ = some a3 ∧ W0.drew.cell? ⟨kb, ko + 4, none⟩ = some a4 ∧ W0.drew.cell? ⟨kb, ko + 5, none⟩ = some a5 ∧ W0.drew.cell? ⟨kb, ko + 6, none⟩ = some a6 ∧ W0.drew.cell? ⟨kb, ko + 7, none⟩ = some a7 ∧ W0.drew.cell? ⟨kb, ko + 8, none⟩ = some b0 ∧ W0.drew.cell? ⟨kb, ko + 8 + 1, none⟩ = some b1 ∧ W0.drew.cell? ⟨kb, ko + 8 + 2, none⟩ = some b2 ∧ W0.drew.cell? ⟨kb, ko + 8 + 3, none⟩ = some b3 ∧ W0.drew.cell? ⟨kb, ko + 8 + 4, none⟩ = some b4 ∧ W0.drew.cell? ⟨kb, ko + 8 + 5, none⟩ = some b5 ∧ W0.drew.cell? ⟨kb, ko + 8 + 6, none⟩ = some b6 ∧ W0.drew.cell? ⟨kb, ko + 8 + 7, none⟩ = some b7 ∧ W0.drew.cell? ⟨kb, ko + 16, none⟩ = some c0 ∧ W0.drew.cell? ⟨kb, ko + 16 + 1, none⟩ = some c1 ∧ W0.drew.cell? ⟨kb, ko + 16 + 2, none⟩ = some c2 ∧ W0.drew.cell? ⟨kb, ko + 16 + 3, none⟩ = some c3 ∧ W0.drew.cell? ⟨kb, ko + 16 + 4, none⟩ = some c4 ∧ W0.drew.cell? ⟨kb, ko + 16 + 5, none⟩ = some c5 ∧ W0.drew.cell? ⟨kb, ko + 16 + 6, none⟩ = some c6 ∧ W0.drew.cell? ⟨kb, ko + 16 + 7, none⟩ = some c7) := Lib.hid (hS _ (by rw [hW0]; exact HS0.out.drew))
  have HW0 := Lib.hid hW0
  clear hW0
  have hw0 := wt_kid kids 0 h0
  have hf0 := txt_len _ (fitK_get kids hfk 0 h0)
  have hw1 := wt_kid kids 1 h1
  have hf1 := txt_len _ (fitK_get kids hfk 1 h1)
  have hw2 := wt_kid kids 2 h2
  have hf2 := txt_len _ (fitK_get kids hfk 2 h2)
  have HT : Hid (txt (.mk 8 o n nm nms kids ln cl) = ([105, 102, 32] : List UInt8) ++ (txt kids[0] ++ (([32, 116, 104, 101, 110, 32] : List UInt8) ++ (txt kids[1] ++ (([32, 101, 108, 115, 101, 32] : List UInt8) ++ txt kids[2]))))) := Lib.hid (by rw [txt]; show ([105, 102, 32] : List UInt8) ++ (txtK kids).getD 0 [] ++ ([32, 116, 104, 101, 110, 32] : List UInt8) ++ (txtK kids).getD 1 [] ++ ([32, 101, 108, 115, 101, 32] : List UInt8) ++ (txtK kids).getD 2 [] = _; rw [txtK_get _ _ h0]; rw [txtK_get _ _ h1]; rw [txtK_get _ _ h2]; simp only [List.append_assoc])
  clear hS hkc0 hlc0 hkc1 hlc1 hkc2 hlc2
  unfold TextPost at HC0 HC1 HC2
  clear hbool hun hbin hmn hl5 hl1 hl2 hl3 hn1
  clear x1 x2 x3 x4 x5 hkn
  have hi0 : (0 : Int) < (kids.length : Int) := by omega
  have hi1 : (1 : Int) < (kids.length : Int) := by omega
  have hi2 : (2 : Int) < (kids.length : Int) := by omega
  go_enter Tryd.func9, Tryd.ntmps9
  go_wp2_with fail
  rw [← HW0.out]
  go_region_held3 (fun w' => Over w xs w' ∧ w'.cell? ⟨w.heap.size, 1, none⟩ = some (.int .u8 o) ∧ w'.cell? ⟨w.heap.size, 5, none⟩ = some (.slice (some ⟨kb, ko, none⟩) kids.length kc) ∧ w'.cell? ⟨kb, ko, none⟩ = some a0 ∧ w'.cell? ⟨kb, ko + 1, none⟩ = some a1 ∧ w'.cell? ⟨kb, ko + 2, none⟩ = some a2 ∧ w'.cell? ⟨kb, ko + 3, none⟩ = some a3 ∧ w'.cell? ⟨kb, ko + 4, none⟩ = some a4 ∧ w'.cell? ⟨kb, ko + 5, none⟩ = some a5 ∧ w'.cell? ⟨kb, ko + 6, none⟩ = some a6 ∧ w'.cell? ⟨kb, ko + 7, none⟩ = some a7 ∧ w'.cell? ⟨kb, ko + 8, none⟩ = some b0 ∧ w'.cell? ⟨kb, ko + 8 + 1, none⟩ = some b1 ∧ w'.cell? ⟨kb, ko + 8 + 2, none⟩ = some b2 ∧ w'.cell? ⟨kb, ko + 8 + 3, none⟩ = some b3 ∧ w'.cell? ⟨kb, ko + 8 + 4, none⟩ = some b4 ∧ w'.cell? ⟨kb, ko + 8 + 5, none⟩ = some b5 ∧ w'.cell? ⟨kb, ko + 8 + 6, none⟩ = some b6 ∧ w'.cell? ⟨kb, ko + 8 + 7, none⟩ = some b7 ∧ w'.cell? ⟨kb, ko + 16, none⟩ = some c0 ∧ w'.cell? ⟨kb, ko + 16 + 1, none⟩ = some c1 ∧ w'.cell? ⟨kb, ko + 16 + 2, none⟩ = some c2 ∧ w'.cell? ⟨kb, ko + 16 + 3, none⟩ = some c3 ∧ w'.cell? ⟨kb, ko + 16 + 4, none⟩ = some c4 ∧ w'.cell? ⟨kb, ko + 16 + 5, none⟩ = some c5 ∧ w'.cell? ⟨kb, ko + 16 + 6, none⟩ = some c6 ∧ w'.cell? ⟨kb, ko + 16 + 7, none⟩ = some c7)
    (first | exact HK.out _ _ _ (by assumption) hb2 | exact HK.out _ _ _ (by assumption) hb1 | exact HK.out _ _ _ (by assumption) hb0 | exact HB0.out)
    (first | (go_at_call_of 9 (Value.agg #[a0, a1, a2, a3, a4, a5, a6, a7]); refine (HC0.out _ (And.left (by assumption))).mono ?_; rintro e w0 ⟨⟨s0, rfl, hs0, hz0⟩, hb0⟩; have hu00 : ¬ 9223372036854775807 < 3 + s0.size := (by omega); have hu01 : ¬ 9223372036854775807 < 3 + s0.size + 6 := (by omega); have hu02 : ¬ 9223372036854775801 < 3 + s0.size := (by omega)) | (go_at_call_of 9 (Value.agg #[b0, b1, b2, b3, b4, b5, b6, b7]); refine (HC1.out _ (And.left (by assumption))).mono ?_; rintro e w1 ⟨⟨s1, rfl, hs1, hz1⟩, hb1⟩; have hu10 : ¬ 9223372036854775807 < 3 + s0.size + 6 + s1.size := (by omega); have hu11 : ¬ 9223372036854775807 < 3 + s0.size + 6 + s1.size + 6 := (by omega); have hu12 : ¬ 9223372036854775801 < 3 + s0.size + 6 + s1.size := (by omega)) | (go_at_call_of 9 (Value.agg #[c0, c1, c2, c3, c4, c5, c6, c7]); refine (HC2.out _ (And.left (by assumption))).mono ?_; rintro e w2 ⟨⟨s2, rfl, hs2, hz2⟩, hb2⟩; have hu20 : ¬ 9223372036854775807 < 3 + s0.size + 6 + s1.size + 6 + s2.size := (by omega)))
  all_goals
    have HZ : Hid (Over w xs w2) := Lib.hid (And.left (by assumption))
    have hq0 := size_of hs0
    have hq1 := size_of hs1
    have hq2 := size_of hs2
    go_wp2_with fail
    go_ret
    refine ⟨⟨_, rfl, ?_, ?_⟩, HO.out _ HZ.out⟩
    · rw [HT.out, ← hs0, ← hs1, ← hs2]
      simp only [bs_app, List.append_assoc] <;> rfl
    · simp only [ByteArray.size_append]
      show 3 + s0.size + 6 + s1.size + 6 + s2.size ≤ _
      omega

set_option maxRecDepth 100000 in
set_option maxHeartbeats 8000000 in
theorem rexpr_case9 (o : Nat) (n : Int) (nm : ByteArray) (nms : List ByteArray) (kids : List Ex) (ln cl : Int) (hH : okH 9 o n nms.length kids.length) (hn0 : -2147483648 ≤ n) (hn9 : n ≤ 2147483647) (hfk : fitK kids) (hlen : wt (.mk 9 o n nm nms kids ln cl) ≤ 1000000000000)
    (hE : ∀ i (hi : i < kids.length), RefDoes kids[i]) (hI : ∀ i (hi : i < kids.length), InDoes kids[i]) : RefDoes (.mk 9 o n nm nms kids ln cl) := by
  intro w cs hl
  unfold okH at hH
  obtain ⟨hk1, hk13, hbool, hun, hbin, hmn, hl5, hl1, hl2, hl3, hn1⟩ := hH
  have hl' := hl
  unfold LaidC at hl'
  obtain ⟨hk, ho, _, hnl, hkl, na, nc, ka, kc, _, _, hcs, hns, hks⟩ := hl'
  obtain rfl : cs = #[.int .u8 9, .int .u8 o, .int .i32 n, .string nm, .slice na nms.length nc, .slice ka kids.length kc, .int .i64 ln, .int .i64 cl] := by apply Array.toList_inj.1; rw [hcs]; rfl
  obtain ⟨xs, hxs⟩ : ∃ xs : Array Value, xs = #[.int .u8 9, .int .u8 o, .int .i32 n, .string nm, .slice na nms.length nc, .slice ka kids.length kc, .int .i64 ln, .int .i64 cl] := ⟨_, rfl⟩
  have hs0 := Over.start w xs
  have hV : ∀ w', Over w xs w' → w'.cell? ⟨w.heap.size, 0, none⟩ = some (.int .u8 9) ∧ w'.cell? ⟨w.heap.size, 1, none⟩ = some (.int .u8 o) ∧ w'.cell? ⟨w.heap.size, 2, none⟩ = some (.int .i32 n) ∧ w'.cell? ⟨w.heap.size, 3, none⟩ = some (.string nm) ∧ w'.cell? ⟨w.heap.size, 4, none⟩ = some (.slice na nms.length nc) ∧ w'.cell? ⟨w.heap.size, 5, none⟩ = some (.slice ka kids.length kc) := fun w' h => by
    have h8 := h.has
    rw [hxs] at h8
    obtain ⟨g0, g1, g2, g3, g4, g5, _, _⟩ := has8 h8
    exact ⟨g0, g1, g2, g3, g4, g5⟩
  have HO : Hid (∀ wx, Over w xs wx → Below w.heap.size w wx) := Lib.hid (fun wx h => h.below)
  have HLT : Hid (∀ w1 wx, Over w xs w1 → Below w1.heap.size w1 wx → Over w xs wx) := Lib.hid (fun w1 wx h hb => h.later hb)
  have HV := Lib.hid hV
  have hv0 := hV _ hs0
  rw [hxs] at hv0
  obtain ⟨x0, x1, x2, x3, x4, x5⟩ := hv0
  have HS0 : Hid (Over w xs (w.alloc (.cells #[.int .u8 9, .int .u8 o, .int .i32 n, .string nm, .slice na nms.length nc, .slice ka kids.length kc, .int .i64 ln, .int .i64 cl] 27))) := Lib.hid (by have h := hs0; rw [hxs] at h ⊢; exact h)
  rw [wt] at hlen
  clear hs0 hV hl hk ho hk1 hk13 hcs
  unfold TextPost
  have hkn := hl2 (by omega)
  have h0 : 0 < kids.length := by omega
  have hk0 := kid_cells (cs := xs) hks 0 h0
  obtain ⟨kb, ko, a0, a1, a2, a3, a4, a5, a6, a7, rfl, hlc0, hkc0⟩ := hk0
  have h1 : 1 < kids.length := by omega
  have hk1 := kid_cells (cs := xs) hks 1 h1
  obtain ⟨kb1, ko1, b0, b1, b2, b3, b4, b5, b6, b7, hka1, hlc1, hkc1⟩ := hk1
  simp only [Option.some.injEq, Addr.mk.injEq, and_true] at hka1
  obtain ⟨rfl, rfl⟩ := hka1
  have HC0 : Hid (∀ wx, Over w xs wx → Calls Tryd.prog 18 #[.agg #[a0, a1, a2, a3, a4, a5, a6, a7], .bool false] wx (TextPost wx (par (bareB false kids[0]) (txt kids[0])))) := Lib.hid (fun wx h => hI 0 h0 wx _ _ (LaidC.below h.below _ _ hlc0))
  have HC1 : Hid (∀ wx, Over w xs wx → Calls Tryd.prog 18 #[.agg #[b0, b1, b2, b3, b4, b5, b6, b7], .bool false] wx (TextPost wx (par (bareB false kids[1]) (txt kids[1])))) := Lib.hid (fun wx h => hI 1 h1 wx _ _ (LaidC.below h.below _ _ hlc1))
  have hS : ∀ w', Over w xs w' → (Over w xs w' ∧ w'.cell? ⟨w.heap.size, 1, none⟩ = some (.int .u8 o) ∧ w'.cell? ⟨w.heap.size, 5, none⟩ = some (.slice (some ⟨kb, ko, none⟩) kids.length kc) ∧ w'.cell? ⟨kb, ko, none⟩ = some a0 ∧ w'.cell? ⟨kb, ko + 1, none⟩ = some a1 ∧ w'.cell? ⟨kb, ko + 2, none⟩ = some a2 ∧ w'.cell? ⟨kb, ko + 3, none⟩ = some a3 ∧ w'.cell? ⟨kb, ko + 4, none⟩ = some a4 ∧ w'.cell? ⟨kb, ko + 5, none⟩ = some a5 ∧ w'.cell? ⟨kb, ko + 6, none⟩ = some a6 ∧ w'.cell? ⟨kb, ko + 7, none⟩ = some a7 ∧ w'.cell? ⟨kb, ko + 8, none⟩ = some b0 ∧ w'.cell? ⟨kb, ko + 8 + 1, none⟩ = some b1 ∧ w'.cell? ⟨kb, ko + 8 + 2, none⟩ = some b2 ∧ w'.cell? ⟨kb, ko + 8 + 3, none⟩ = some b3 ∧ w'.cell? ⟨kb, ko + 8 + 4, none⟩ = some b4 ∧ w'.cell? ⟨kb, ko + 8 + 5, none⟩ = some b5 ∧ w'.cell? ⟨kb, ko + 8 + 6, none⟩ = some b6 ∧ w'.cell? ⟨kb, ko + 8 + 7, none⟩ = some b7) := fun w' h => by
    obtain ⟨_, g1, _, _, _, g5⟩ := HV.out w' h
    have z0 := hkc0 w' h
    simp only [Nat.zero_mul, Nat.one_mul, Nat.add_zero, Nat.reduceMul] at z0
    obtain ⟨u00, u01, u02, u03, u04, u05, u06, u07⟩ := z0
    have z1 := hkc1 w' h
    simp only [Nat.zero_mul, Nat.one_mul, Nat.add_zero, Nat.reduceMul] at z1
    obtain ⟨u10, u11, u12, u13, u14, u15, u16, u17⟩ := z1
    exact ⟨h, g1, g5, u00, u01, u02, u03, u04, u05, u06, u07, u10, u11, u12, u13, u14, u15, u16, u17⟩
  have HK : Hid (∀ (w1 w' : World) (R : Prop), (Over w xs w1 ∧ R) → Below w1.heap.size w1 w' → (Over w xs w' ∧ w'.cell? ⟨w.heap.size, 1, none⟩ = some (.int .u8 o) ∧ w'.cell? ⟨w.heap.size, 5, none⟩ = some (.slice (some ⟨kb, ko, none⟩) kids.length kc) ∧ w'.cell? ⟨kb, ko, none⟩ = some a0 ∧ w'.cell? ⟨kb, ko + 1, none⟩ = some a1 ∧ w'.cell? ⟨kb, ko + 2, none⟩ = some a2 ∧ w'.cell? ⟨kb, ko + 3, none⟩ = some a3 ∧ w'.cell? ⟨kb, ko + 4, none⟩ = some a4 ∧ w'.cell? ⟨kb, ko + 5, none⟩ = some a5 ∧ w'.cell? ⟨kb, ko + 6, none⟩ = some a6 ∧ w'.cell? ⟨kb, ko + 7, none⟩ = some a7 ∧ w'.cell? ⟨kb, ko + 8, none⟩ = some b0 ∧ w'.cell? ⟨kb, ko + 8 + 1, none⟩ = some b1 ∧ w'.cell? ⟨kb, ko + 8 + 2, none⟩ = some b2 ∧ w'.cell? ⟨kb, ko + 8 + 3, none⟩ = some b3 ∧ w'.cell? ⟨kb, ko + 8 + 4, none⟩ = some b4 ∧ w'.cell? ⟨kb, ko + 8 + 5, none⟩ = some b5 ∧ w'.cell? ⟨kb, ko + 8 + 6, none⟩ = some b6 ∧ w'.cell? ⟨kb, ko + 8 + 7, none⟩ = some b7)) := Lib.hid (fun w1 w' R h hb => hS w' (h.1.later hb))
  obtain ⟨W0, hW0⟩ : ∃ W0 : World, W0 = w.alloc (.cells #[.int .u8 9, .int .u8 o, .int .i32 n, .string nm, .slice na nms.length nc, .slice (some ⟨kb, ko, none⟩) kids.length kc, .int .i64 ln, .int .i64 cl] 27) := ⟨_, rfl⟩
  have HB0 : Hid (Over w xs W0.drew ∧ W0.drew.cell? ⟨w.heap.size, 1, none⟩ = some (.int .u8 o) ∧ W0.drew.cell? ⟨w.heap.size, 5, none⟩ = some (.slice (some ⟨kb, ko, none⟩) kids.length kc) ∧ W0.drew.cell? ⟨kb, ko, none⟩ = some a0 ∧ W0.drew.cell? ⟨kb, ko + 1, none⟩ = some a1 ∧ W0.drew.cell? ⟨kb, ko + 2, none⟩ = some a2 ∧ W0.drew.cell? ⟨kb, ko + 3, none⟩ = some a3 ∧ W0.drew.cell? ⟨kb, ko + 4, none⟩ = some a4 ∧ W0.drew.cell? ⟨kb, ko + 5, none⟩ = some a5 ∧ W0.drew.cell? ⟨kb, ko + 6, none⟩ = some a6 ∧ W0.drew.cell? ⟨kb, ko + 7, none⟩ = some a7 ∧ W0.drew.cell? ⟨kb, ko + 8, none⟩ = some b0 ∧ W0.drew.cell? ⟨kb, ko + 8 + 1, none⟩ = some b1 ∧ W0.drew.cell? ⟨kb, ko + 8 + 2, none⟩ = some b2 ∧ W0.drew.cell? ⟨kb, ko + 8 + 3, none⟩ = some b3 ∧ W0.drew.cell? ⟨kb, ko + 8 + 4, none⟩ = some b4 ∧ W0.drew.cell? ⟨kb, ko + 8 + 5, none⟩ = some b5 ∧ W0.drew.cell? ⟨kb, ko + 8 + 6, none⟩ = some b6 ∧ W0.drew.cell? ⟨kb, ko + 8 + 7, none⟩ = some b7) := Lib.hid (hS _ (by rw [hW0]; exact HS0.out.drew))
  have HW0 := Lib.hid hW0
  clear hW0
  have hw0 := wt_kid kids 0 h0
  have hf0 := txt_len _ (fitK_get kids hfk 0 h0)
  have hp0 := par_len (bareB false kids[0]) (txt kids[0])
  have hw1 := wt_kid kids 1 h1
  have hf1 := txt_len _ (fitK_get kids hfk 1 h1)
  have hp1 := par_len (bareB false kids[1]) (txt kids[1])
  have HT : Hid (txt (.mk 9 o n nm nms kids ln cl) = par (bareB false kids[0]) (txt kids[0]) ++ (([32, 102, 98, 121, 32] : List UInt8) ++ par (bareB false kids[1]) (txt kids[1]))) := Lib.hid (by rw [txt]; show kidT kids (txtK kids) false 0 ++ ([32, 102, 98, 121, 32] : List UInt8) ++ kidT kids (txtK kids) false 1 = _; rw [kidT_get _ _ _ h0]; rw [kidT_get _ _ _ h1]; simp only [List.append_assoc])
  clear hS hkc0 hlc0 hkc1 hlc1
  unfold TextPost at HC0 HC1
  clear hbool hun hbin hmn hl5 hl1 hl2 hl3 hn1
  clear x1 x2 x3 x4 x5 hkn
  have hi0 : (0 : Int) < (kids.length : Int) := by omega
  have hi1 : (1 : Int) < (kids.length : Int) := by omega
  go_enter Tryd.func9, Tryd.ntmps9
  go_wp2_with fail
  rw [← HW0.out]
  go_region_held3 (fun w' => Over w xs w' ∧ w'.cell? ⟨w.heap.size, 1, none⟩ = some (.int .u8 o) ∧ w'.cell? ⟨w.heap.size, 5, none⟩ = some (.slice (some ⟨kb, ko, none⟩) kids.length kc) ∧ w'.cell? ⟨kb, ko, none⟩ = some a0 ∧ w'.cell? ⟨kb, ko + 1, none⟩ = some a1 ∧ w'.cell? ⟨kb, ko + 2, none⟩ = some a2 ∧ w'.cell? ⟨kb, ko + 3, none⟩ = some a3 ∧ w'.cell? ⟨kb, ko + 4, none⟩ = some a4 ∧ w'.cell? ⟨kb, ko + 5, none⟩ = some a5 ∧ w'.cell? ⟨kb, ko + 6, none⟩ = some a6 ∧ w'.cell? ⟨kb, ko + 7, none⟩ = some a7 ∧ w'.cell? ⟨kb, ko + 8, none⟩ = some b0 ∧ w'.cell? ⟨kb, ko + 8 + 1, none⟩ = some b1 ∧ w'.cell? ⟨kb, ko + 8 + 2, none⟩ = some b2 ∧ w'.cell? ⟨kb, ko + 8 + 3, none⟩ = some b3 ∧ w'.cell? ⟨kb, ko + 8 + 4, none⟩ = some b4 ∧ w'.cell? ⟨kb, ko + 8 + 5, none⟩ = some b5 ∧ w'.cell? ⟨kb, ko + 8 + 6, none⟩ = some b6 ∧ w'.cell? ⟨kb, ko + 8 + 7, none⟩ = some b7)
    (first | exact HK.out _ _ _ (by assumption) hb1 | exact HK.out _ _ _ (by assumption) hb0 | exact HB0.out)
    (first | (go_at_call_of 18 (Value.agg #[a0, a1, a2, a3, a4, a5, a6, a7]); refine (HC0.out _ (And.left (by assumption))).mono ?_; rintro e w0 ⟨⟨s0, rfl, hs0, hz0⟩, hb0⟩; have hu00 : ¬ 9223372036854775807 < s0.size + 5 := (by omega); have hu01 : ¬ 9223372036854775802 < s0.size := (by omega)) | (go_at_call_of 18 (Value.agg #[b0, b1, b2, b3, b4, b5, b6, b7]); refine (HC1.out _ (And.left (by assumption))).mono ?_; rintro e w1 ⟨⟨s1, rfl, hs1, hz1⟩, hb1⟩; have hu10 : ¬ 9223372036854775807 < s0.size + 5 + s1.size := (by omega)))
  all_goals
    have HZ : Hid (Over w xs w1) := Lib.hid (And.left (by assumption))
    have hq0 := size_of hs0
    have hq1 := size_of hs1
    go_wp2_with fail
    go_ret
    refine ⟨⟨_, rfl, ?_, ?_⟩, HO.out _ HZ.out⟩
    · rw [HT.out, ← hs0, ← hs1]
      simp only [bs_app, List.append_assoc] <;> rfl
    · simp only [ByteArray.size_append]
      show s0.size + 5 + s1.size ≤ _
      omega

set_option maxRecDepth 100000 in
set_option maxHeartbeats 8000000 in
theorem rexpr_case10 (o : Nat) (n : Int) (nm : ByteArray) (nms : List ByteArray) (kids : List Ex) (ln cl : Int) (hH : okH 10 o n nms.length kids.length) (hn0 : -2147483648 ≤ n) (hn9 : n ≤ 2147483647) (hfk : fitK kids) (hlen : wt (.mk 10 o n nm nms kids ln cl) ≤ 1000000000000)
    (hE : ∀ i (hi : i < kids.length), RefDoes kids[i]) (hI : ∀ i (hi : i < kids.length), InDoes kids[i]) : RefDoes (.mk 10 o n nm nms kids ln cl) := by
  intro w cs hl
  unfold okH at hH
  obtain ⟨hk1, hk13, hbool, hun, hbin, hmn, hl5, hl1, hl2, hl3, hn1⟩ := hH
  have hl' := hl
  unfold LaidC at hl'
  obtain ⟨hk, ho, _, hnl, hkl, na, nc, ka, kc, _, _, hcs, hns, hks⟩ := hl'
  obtain rfl : cs = #[.int .u8 10, .int .u8 o, .int .i32 n, .string nm, .slice na nms.length nc, .slice ka kids.length kc, .int .i64 ln, .int .i64 cl] := by apply Array.toList_inj.1; rw [hcs]; rfl
  obtain ⟨xs, hxs⟩ : ∃ xs : Array Value, xs = #[.int .u8 10, .int .u8 o, .int .i32 n, .string nm, .slice na nms.length nc, .slice ka kids.length kc, .int .i64 ln, .int .i64 cl] := ⟨_, rfl⟩
  have hs0 := Over.start w xs
  have hV : ∀ w', Over w xs w' → w'.cell? ⟨w.heap.size, 0, none⟩ = some (.int .u8 10) ∧ w'.cell? ⟨w.heap.size, 1, none⟩ = some (.int .u8 o) ∧ w'.cell? ⟨w.heap.size, 2, none⟩ = some (.int .i32 n) ∧ w'.cell? ⟨w.heap.size, 3, none⟩ = some (.string nm) ∧ w'.cell? ⟨w.heap.size, 4, none⟩ = some (.slice na nms.length nc) ∧ w'.cell? ⟨w.heap.size, 5, none⟩ = some (.slice ka kids.length kc) := fun w' h => by
    have h8 := h.has
    rw [hxs] at h8
    obtain ⟨g0, g1, g2, g3, g4, g5, _, _⟩ := has8 h8
    exact ⟨g0, g1, g2, g3, g4, g5⟩
  have HO : Hid (∀ wx, Over w xs wx → Below w.heap.size w wx) := Lib.hid (fun wx h => h.below)
  have HLT : Hid (∀ w1 wx, Over w xs w1 → Below w1.heap.size w1 wx → Over w xs wx) := Lib.hid (fun w1 wx h hb => h.later hb)
  have HV := Lib.hid hV
  have hv0 := hV _ hs0
  rw [hxs] at hv0
  obtain ⟨x0, x1, x2, x3, x4, x5⟩ := hv0
  have HS0 : Hid (Over w xs (w.alloc (.cells #[.int .u8 10, .int .u8 o, .int .i32 n, .string nm, .slice na nms.length nc, .slice ka kids.length kc, .int .i64 ln, .int .i64 cl] 27))) := Lib.hid (by have h := hs0; rw [hxs] at h ⊢; exact h)
  rw [wt] at hlen
  clear hs0 hV hl hk ho hk1 hk13 hcs
  unfold TextPost
  have hkn := hl1 (by omega)
  have h0 : 0 < kids.length := by omega
  have hk0 := kid_cells (cs := xs) hks 0 h0
  obtain ⟨kb, ko, a0, a1, a2, a3, a4, a5, a6, a7, rfl, hlc0, hkc0⟩ := hk0
  have hw0 := wt_kid kids 0 h0
  have hf0 := txt_len _ (fitK_get kids hfk 0 h0)
  have hp0 := par_len (bareB false kids[0]) (txt kids[0])
  have HIN : Hid (∀ wx, Over w xs wx → Calls Tryd.prog 18 #[.agg #[a0, a1, a2, a3, a4, a5, a6, a7], .bool false] wx (TextPost wx (par (bareB false kids[0]) (txt kids[0])))) := Lib.hid (fun wx h => hI 0 h0 wx _ _ (LaidC.below h.below _ _ hlc0))
  have hz0 := hkc0 _ HS0.out
  simp only [Nat.zero_mul, Nat.add_zero] at hz0
  obtain ⟨y0, y1, y2, y3, y4, y5, y6, y7⟩ := hz0
  have HT : Hid (txt (.mk 10 o n nm nms kids ln cl) = ([112, 114, 101, 32] : List UInt8) ++ par (bareB false kids[0]) (txt kids[0])) := Lib.hid (by rw [txt]; show ([112, 114, 101, 32] : List UInt8) ++ kidT kids (txtK kids) false 0 = _; rw [kidT_get _ _ _ h0] <;> rfl)
  clear hkc0 hlc0
  unfold TextPost at HIN
  clear hkn
  have hi0 : (0 : Int) < (kids.length : Int) := by omega
  clear hbool hun hbin hmn hl5 hl1 hl2 hl3 hn1
  go_enter Tryd.func9, Tryd.ntmps9
  go_wp2_with fail
  refine (HIN.out _ HS0.out).mono ?_
  rintro e w1 ⟨⟨s1, rfl, hs1, hz1⟩, hb1⟩
  have hz := size_of hs1
  have HS1 := Lib.hid hs1
  have HB1 := Lib.hid (HO.out _ (HLT.out _ _ HS0.out hb1))
  clear hs1 hb1
  go_wp2_with fail
  go_ret
  exact ⟨⟨_, rfl, by rw [HT.out, bs_app, HS1.out] <;> rfl, by rw [ByteArray.size_append]; show 4 + s1.size ≤ _; omega⟩, HB1.out⟩

set_option maxRecDepth 100000 in
set_option maxHeartbeats 8000000 in
theorem rexpr_case11 (o : Nat) (n : Int) (nm : ByteArray) (nms : List ByteArray) (kids : List Ex) (ln cl : Int) (hH : okH 11 o n nms.length kids.length) (hn0 : -2147483648 ≤ n) (hn9 : n ≤ 2147483647) (hfk : fitK kids) (hlen : wt (.mk 11 o n nm nms kids ln cl) ≤ 1000000000000)
    (hE : ∀ i (hi : i < kids.length), RefDoes kids[i]) (hI : ∀ i (hi : i < kids.length), InDoes kids[i]) : RefDoes (.mk 11 o n nm nms kids ln cl) := by
  intro w cs hl
  unfold okH at hH
  obtain ⟨hk1, hk13, hbool, hun, hbin, hmn, hl5, hl1, hl2, hl3, hn1⟩ := hH
  have hl' := hl
  unfold LaidC at hl'
  obtain ⟨hk, ho, _, hnl, hkl, na, nc, ka, kc, _, _, hcs, hns, hks⟩ := hl'
  obtain rfl : cs = #[.int .u8 11, .int .u8 o, .int .i32 n, .string nm, .slice na nms.length nc, .slice ka kids.length kc, .int .i64 ln, .int .i64 cl] := by apply Array.toList_inj.1; rw [hcs]; rfl
  obtain ⟨xs, hxs⟩ : ∃ xs : Array Value, xs = #[.int .u8 11, .int .u8 o, .int .i32 n, .string nm, .slice na nms.length nc, .slice ka kids.length kc, .int .i64 ln, .int .i64 cl] := ⟨_, rfl⟩
  have hs0 := Over.start w xs
  have hV : ∀ w', Over w xs w' → w'.cell? ⟨w.heap.size, 0, none⟩ = some (.int .u8 11) ∧ w'.cell? ⟨w.heap.size, 1, none⟩ = some (.int .u8 o) ∧ w'.cell? ⟨w.heap.size, 2, none⟩ = some (.int .i32 n) ∧ w'.cell? ⟨w.heap.size, 3, none⟩ = some (.string nm) ∧ w'.cell? ⟨w.heap.size, 4, none⟩ = some (.slice na nms.length nc) ∧ w'.cell? ⟨w.heap.size, 5, none⟩ = some (.slice ka kids.length kc) := fun w' h => by
    have h8 := h.has
    rw [hxs] at h8
    obtain ⟨g0, g1, g2, g3, g4, g5, _, _⟩ := has8 h8
    exact ⟨g0, g1, g2, g3, g4, g5⟩
  have HO : Hid (∀ wx, Over w xs wx → Below w.heap.size w wx) := Lib.hid (fun wx h => h.below)
  have HLT : Hid (∀ w1 wx, Over w xs w1 → Below w1.heap.size w1 wx → Over w xs wx) := Lib.hid (fun w1 wx h hb => h.later hb)
  have HV := Lib.hid hV
  have hv0 := hV _ hs0
  rw [hxs] at hv0
  obtain ⟨x0, x1, x2, x3, x4, x5⟩ := hv0
  have HS0 : Hid (Over w xs (w.alloc (.cells #[.int .u8 11, .int .u8 o, .int .i32 n, .string nm, .slice na nms.length nc, .slice ka kids.length kc, .int .i64 ln, .int .i64 cl] 27))) := Lib.hid (by have h := hs0; rw [hxs] at h ⊢; exact h)
  rw [wt] at hlen
  clear hs0 hV hl hk ho hk1 hk13 hcs
  unfold TextPost
  have hkn := hl2 (by omega)
  have h0 : 0 < kids.length := by omega
  have hk0 := kid_cells (cs := xs) hks 0 h0
  obtain ⟨kb, ko, a0, a1, a2, a3, a4, a5, a6, a7, rfl, hlc0, hkc0⟩ := hk0
  have h1 : 1 < kids.length := by omega
  have hk1 := kid_cells (cs := xs) hks 1 h1
  obtain ⟨kb1, ko1, b0, b1, b2, b3, b4, b5, b6, b7, hka1, hlc1, hkc1⟩ := hk1
  simp only [Option.some.injEq, Addr.mk.injEq, and_true] at hka1
  obtain ⟨rfl, rfl⟩ := hka1
  have HC0 : Hid (∀ wx, Over w xs wx → Calls Tryd.prog 18 #[.agg #[a0, a1, a2, a3, a4, a5, a6, a7], .bool false] wx (TextPost wx (par (bareB false kids[0]) (txt kids[0])))) := Lib.hid (fun wx h => hI 0 h0 wx _ _ (LaidC.below h.below _ _ hlc0))
  have HC1 : Hid (∀ wx, Over w xs wx → Calls Tryd.prog 18 #[.agg #[b0, b1, b2, b3, b4, b5, b6, b7], .bool false] wx (TextPost wx (par (bareB false kids[1]) (txt kids[1])))) := Lib.hid (fun wx h => hI 1 h1 wx _ _ (LaidC.below h.below _ _ hlc1))
  have hS : ∀ w', Over w xs w' → (Over w xs w' ∧ w'.cell? ⟨w.heap.size, 1, none⟩ = some (.int .u8 o) ∧ w'.cell? ⟨w.heap.size, 5, none⟩ = some (.slice (some ⟨kb, ko, none⟩) kids.length kc) ∧ w'.cell? ⟨kb, ko, none⟩ = some a0 ∧ w'.cell? ⟨kb, ko + 1, none⟩ = some a1 ∧ w'.cell? ⟨kb, ko + 2, none⟩ = some a2 ∧ w'.cell? ⟨kb, ko + 3, none⟩ = some a3 ∧ w'.cell? ⟨kb, ko + 4, none⟩ = some a4 ∧ w'.cell? ⟨kb, ko + 5, none⟩ = some a5 ∧ w'.cell? ⟨kb, ko + 6, none⟩ = some a6 ∧ w'.cell? ⟨kb, ko + 7, none⟩ = some a7 ∧ w'.cell? ⟨kb, ko + 8, none⟩ = some b0 ∧ w'.cell? ⟨kb, ko + 8 + 1, none⟩ = some b1 ∧ w'.cell? ⟨kb, ko + 8 + 2, none⟩ = some b2 ∧ w'.cell? ⟨kb, ko + 8 + 3, none⟩ = some b3 ∧ w'.cell? ⟨kb, ko + 8 + 4, none⟩ = some b4 ∧ w'.cell? ⟨kb, ko + 8 + 5, none⟩ = some b5 ∧ w'.cell? ⟨kb, ko + 8 + 6, none⟩ = some b6 ∧ w'.cell? ⟨kb, ko + 8 + 7, none⟩ = some b7) := fun w' h => by
    obtain ⟨_, g1, _, _, _, g5⟩ := HV.out w' h
    have z0 := hkc0 w' h
    simp only [Nat.zero_mul, Nat.one_mul, Nat.add_zero, Nat.reduceMul] at z0
    obtain ⟨u00, u01, u02, u03, u04, u05, u06, u07⟩ := z0
    have z1 := hkc1 w' h
    simp only [Nat.zero_mul, Nat.one_mul, Nat.add_zero, Nat.reduceMul] at z1
    obtain ⟨u10, u11, u12, u13, u14, u15, u16, u17⟩ := z1
    exact ⟨h, g1, g5, u00, u01, u02, u03, u04, u05, u06, u07, u10, u11, u12, u13, u14, u15, u16, u17⟩
  have HK : Hid (∀ (w1 w' : World) (R : Prop), (Over w xs w1 ∧ R) → Below w1.heap.size w1 w' → (Over w xs w' ∧ w'.cell? ⟨w.heap.size, 1, none⟩ = some (.int .u8 o) ∧ w'.cell? ⟨w.heap.size, 5, none⟩ = some (.slice (some ⟨kb, ko, none⟩) kids.length kc) ∧ w'.cell? ⟨kb, ko, none⟩ = some a0 ∧ w'.cell? ⟨kb, ko + 1, none⟩ = some a1 ∧ w'.cell? ⟨kb, ko + 2, none⟩ = some a2 ∧ w'.cell? ⟨kb, ko + 3, none⟩ = some a3 ∧ w'.cell? ⟨kb, ko + 4, none⟩ = some a4 ∧ w'.cell? ⟨kb, ko + 5, none⟩ = some a5 ∧ w'.cell? ⟨kb, ko + 6, none⟩ = some a6 ∧ w'.cell? ⟨kb, ko + 7, none⟩ = some a7 ∧ w'.cell? ⟨kb, ko + 8, none⟩ = some b0 ∧ w'.cell? ⟨kb, ko + 8 + 1, none⟩ = some b1 ∧ w'.cell? ⟨kb, ko + 8 + 2, none⟩ = some b2 ∧ w'.cell? ⟨kb, ko + 8 + 3, none⟩ = some b3 ∧ w'.cell? ⟨kb, ko + 8 + 4, none⟩ = some b4 ∧ w'.cell? ⟨kb, ko + 8 + 5, none⟩ = some b5 ∧ w'.cell? ⟨kb, ko + 8 + 6, none⟩ = some b6 ∧ w'.cell? ⟨kb, ko + 8 + 7, none⟩ = some b7)) := Lib.hid (fun w1 w' R h hb => hS w' (h.1.later hb))
  obtain ⟨W0, hW0⟩ : ∃ W0 : World, W0 = w.alloc (.cells #[.int .u8 11, .int .u8 o, .int .i32 n, .string nm, .slice na nms.length nc, .slice (some ⟨kb, ko, none⟩) kids.length kc, .int .i64 ln, .int .i64 cl] 27) := ⟨_, rfl⟩
  have HB0 : Hid (Over w xs W0.drew ∧ W0.drew.cell? ⟨w.heap.size, 1, none⟩ = some (.int .u8 o) ∧ W0.drew.cell? ⟨w.heap.size, 5, none⟩ = some (.slice (some ⟨kb, ko, none⟩) kids.length kc) ∧ W0.drew.cell? ⟨kb, ko, none⟩ = some a0 ∧ W0.drew.cell? ⟨kb, ko + 1, none⟩ = some a1 ∧ W0.drew.cell? ⟨kb, ko + 2, none⟩ = some a2 ∧ W0.drew.cell? ⟨kb, ko + 3, none⟩ = some a3 ∧ W0.drew.cell? ⟨kb, ko + 4, none⟩ = some a4 ∧ W0.drew.cell? ⟨kb, ko + 5, none⟩ = some a5 ∧ W0.drew.cell? ⟨kb, ko + 6, none⟩ = some a6 ∧ W0.drew.cell? ⟨kb, ko + 7, none⟩ = some a7 ∧ W0.drew.cell? ⟨kb, ko + 8, none⟩ = some b0 ∧ W0.drew.cell? ⟨kb, ko + 8 + 1, none⟩ = some b1 ∧ W0.drew.cell? ⟨kb, ko + 8 + 2, none⟩ = some b2 ∧ W0.drew.cell? ⟨kb, ko + 8 + 3, none⟩ = some b3 ∧ W0.drew.cell? ⟨kb, ko + 8 + 4, none⟩ = some b4 ∧ W0.drew.cell? ⟨kb, ko + 8 + 5, none⟩ = some b5 ∧ W0.drew.cell? ⟨kb, ko + 8 + 6, none⟩ = some b6 ∧ W0.drew.cell? ⟨kb, ko + 8 + 7, none⟩ = some b7) := Lib.hid (hS _ (by rw [hW0]; exact HS0.out.drew))
  have HW0 := Lib.hid hW0
  clear hW0
  have hw0 := wt_kid kids 0 h0
  have hf0 := txt_len _ (fitK_get kids hfk 0 h0)
  have hp0 := par_len (bareB false kids[0]) (txt kids[0])
  have hw1 := wt_kid kids 1 h1
  have hf1 := txt_len _ (fitK_get kids hfk 1 h1)
  have hp1 := par_len (bareB false kids[1]) (txt kids[1])
  have HT : Hid (txt (.mk 11 o n nm nms kids ln cl) = par (bareB false kids[0]) (txt kids[0]) ++ (([32, 45, 62, 32] : List UInt8) ++ par (bareB false kids[1]) (txt kids[1]))) := Lib.hid (by rw [txt]; show kidT kids (txtK kids) false 0 ++ ([32, 45, 62, 32] : List UInt8) ++ kidT kids (txtK kids) false 1 = _; rw [kidT_get _ _ _ h0]; rw [kidT_get _ _ _ h1]; simp only [List.append_assoc])
  clear hS hkc0 hlc0 hkc1 hlc1
  unfold TextPost at HC0 HC1
  clear hbool hun hbin hmn hl5 hl1 hl2 hl3 hn1
  clear x1 x2 x3 x4 x5 hkn
  have hi0 : (0 : Int) < (kids.length : Int) := by omega
  have hi1 : (1 : Int) < (kids.length : Int) := by omega
  go_enter Tryd.func9, Tryd.ntmps9
  go_wp2_with fail
  rw [← HW0.out]
  go_region_held3 (fun w' => Over w xs w' ∧ w'.cell? ⟨w.heap.size, 1, none⟩ = some (.int .u8 o) ∧ w'.cell? ⟨w.heap.size, 5, none⟩ = some (.slice (some ⟨kb, ko, none⟩) kids.length kc) ∧ w'.cell? ⟨kb, ko, none⟩ = some a0 ∧ w'.cell? ⟨kb, ko + 1, none⟩ = some a1 ∧ w'.cell? ⟨kb, ko + 2, none⟩ = some a2 ∧ w'.cell? ⟨kb, ko + 3, none⟩ = some a3 ∧ w'.cell? ⟨kb, ko + 4, none⟩ = some a4 ∧ w'.cell? ⟨kb, ko + 5, none⟩ = some a5 ∧ w'.cell? ⟨kb, ko + 6, none⟩ = some a6 ∧ w'.cell? ⟨kb, ko + 7, none⟩ = some a7 ∧ w'.cell? ⟨kb, ko + 8, none⟩ = some b0 ∧ w'.cell? ⟨kb, ko + 8 + 1, none⟩ = some b1 ∧ w'.cell? ⟨kb, ko + 8 + 2, none⟩ = some b2 ∧ w'.cell? ⟨kb, ko + 8 + 3, none⟩ = some b3 ∧ w'.cell? ⟨kb, ko + 8 + 4, none⟩ = some b4 ∧ w'.cell? ⟨kb, ko + 8 + 5, none⟩ = some b5 ∧ w'.cell? ⟨kb, ko + 8 + 6, none⟩ = some b6 ∧ w'.cell? ⟨kb, ko + 8 + 7, none⟩ = some b7)
    (first | exact HK.out _ _ _ (by assumption) hb1 | exact HK.out _ _ _ (by assumption) hb0 | exact HB0.out)
    (first | (go_at_call_of 18 (Value.agg #[a0, a1, a2, a3, a4, a5, a6, a7]); refine (HC0.out _ (And.left (by assumption))).mono ?_; rintro e w0 ⟨⟨s0, rfl, hs0, hz0⟩, hb0⟩; have hu00 : ¬ 9223372036854775807 < s0.size + 4 := (by omega); have hu01 : ¬ 9223372036854775803 < s0.size := (by omega)) | (go_at_call_of 18 (Value.agg #[b0, b1, b2, b3, b4, b5, b6, b7]); refine (HC1.out _ (And.left (by assumption))).mono ?_; rintro e w1 ⟨⟨s1, rfl, hs1, hz1⟩, hb1⟩; have hu10 : ¬ 9223372036854775807 < s0.size + 4 + s1.size := (by omega)))
  all_goals
    have HZ : Hid (Over w xs w1) := Lib.hid (And.left (by assumption))
    have hq0 := size_of hs0
    have hq1 := size_of hs1
    go_wp2_with fail
    go_ret
    refine ⟨⟨_, rfl, ?_, ?_⟩, HO.out _ HZ.out⟩
    · rw [HT.out, ← hs0, ← hs1]
      simp only [bs_app, List.append_assoc] <;> rfl
    · simp only [ByteArray.size_append]
      show s0.size + 4 + s1.size ≤ _
      omega

set_option maxRecDepth 100000 in
set_option maxHeartbeats 8000000 in
theorem rexpr_case12 (o : Nat) (n : Int) (nm : ByteArray) (nms : List ByteArray) (kids : List Ex) (ln cl : Int) (hH : okH 12 o n nms.length kids.length) (hn0 : -2147483648 ≤ n) (hn9 : n ≤ 2147483647) (hfk : fitK kids) (hlen : wt (.mk 12 o n nm nms kids ln cl) ≤ 1000000000000)
    (hE : ∀ i (hi : i < kids.length), RefDoes kids[i]) (hI : ∀ i (hi : i < kids.length), InDoes kids[i]) : RefDoes (.mk 12 o n nm nms kids ln cl) := by
  intro w cs hl
  unfold okH at hH
  obtain ⟨hk1, hk13, hbool, hun, hbin, hmn, hl5, hl1, hl2, hl3, hn1⟩ := hH
  have hl' := hl
  unfold LaidC at hl'
  obtain ⟨hk, ho, _, hnl, hkl, na, nc, ka, kc, _, _, hcs, hns, hks⟩ := hl'
  obtain rfl : cs = #[.int .u8 12, .int .u8 o, .int .i32 n, .string nm, .slice na nms.length nc, .slice ka kids.length kc, .int .i64 ln, .int .i64 cl] := by apply Array.toList_inj.1; rw [hcs]; rfl
  obtain ⟨xs, hxs⟩ : ∃ xs : Array Value, xs = #[.int .u8 12, .int .u8 o, .int .i32 n, .string nm, .slice na nms.length nc, .slice ka kids.length kc, .int .i64 ln, .int .i64 cl] := ⟨_, rfl⟩
  have hs0 := Over.start w xs
  have hV : ∀ w', Over w xs w' → w'.cell? ⟨w.heap.size, 0, none⟩ = some (.int .u8 12) ∧ w'.cell? ⟨w.heap.size, 1, none⟩ = some (.int .u8 o) ∧ w'.cell? ⟨w.heap.size, 2, none⟩ = some (.int .i32 n) ∧ w'.cell? ⟨w.heap.size, 3, none⟩ = some (.string nm) ∧ w'.cell? ⟨w.heap.size, 4, none⟩ = some (.slice na nms.length nc) ∧ w'.cell? ⟨w.heap.size, 5, none⟩ = some (.slice ka kids.length kc) := fun w' h => by
    have h8 := h.has
    rw [hxs] at h8
    obtain ⟨g0, g1, g2, g3, g4, g5, _, _⟩ := has8 h8
    exact ⟨g0, g1, g2, g3, g4, g5⟩
  have HO : Hid (∀ wx, Over w xs wx → Below w.heap.size w wx) := Lib.hid (fun wx h => h.below)
  have HLT : Hid (∀ w1 wx, Over w xs w1 → Below w1.heap.size w1 wx → Over w xs wx) := Lib.hid (fun w1 wx h hb => h.later hb)
  have HV := Lib.hid hV
  have hv0 := hV _ hs0
  rw [hxs] at hv0
  obtain ⟨x0, x1, x2, x3, x4, x5⟩ := hv0
  have HS0 : Hid (Over w xs (w.alloc (.cells #[.int .u8 12, .int .u8 o, .int .i32 n, .string nm, .slice na nms.length nc, .slice ka kids.length kc, .int .i64 ln, .int .i64 cl] 27))) := Lib.hid (by have h := hs0; rw [hxs] at h ⊢; exact h)
  rw [wt] at hlen
  clear hs0 hV hl hk ho hk1 hk13 hcs
  unfold TextPost
  have hkn := hl1 (by omega)
  have hnn := hn1 rfl
  have h0n : 0 < nms.length := by omega
  have hnl0 := nms0_len nms
  have hn00 : nms.getD 0 ByteArray.empty = nms[0] := by rw [List.getD_eq_getElem?_getD, List.getElem?_eq_getElem h0n]; rfl
  rw [hn00] at hnl0
  obtain ⟨nb, no, hna, hnc0, _⟩ := hns 0 nms[0] (List.getElem?_eq_getElem h0n)
  subst hna
  have h0 : 0 < kids.length := by omega
  have hk0 := kid_cells (cs := xs) hks 0 h0
  obtain ⟨kb, ko, a0, a1, a2, a3, a4, a5, a6, a7, rfl, hlc0, hkc0⟩ := hk0
  have HC0 : Hid (∀ wx, Over w xs wx → Calls Tryd.prog 18 #[.agg #[a0, a1, a2, a3, a4, a5, a6, a7], .bool false] wx (TextPost wx (par (bareB false kids[0]) (txt kids[0])))) := Lib.hid (fun wx h => hI 0 h0 wx _ _ (LaidC.below h.below _ _ hlc0))
  have HT : Hid (txt (.mk 12 o n nm nms kids ln cl) = par (bareB false kids[0]) (txt kids[0]) ++ (([32, 119, 104, 101, 110, 32] : List UInt8) ++ (bs nms[0] ++ (([40] : List UInt8) ++ (bs nm ++ ([41] : List UInt8)))))) := Lib.hid (by rw [txt]; show kidT kids (txtK kids) false 0 ++ ([32, 119, 104, 101, 110, 32] : List UInt8) ++ bs (nms.getD 0 ByteArray.empty) ++ ([40] : List UInt8) ++ bs nm ++ ([41] : List UInt8) = _; rw [kidT_get _ _ _ h0, hn00]; simp only [List.append_assoc])
  clear hn00
  generalize nms[0] = n0 at *
  have hS : ∀ w', Over w xs w' → (Over w xs w' ∧ w'.cell? ⟨w.heap.size, 3, none⟩ = some (.string nm) ∧ w'.cell? ⟨w.heap.size, 4, none⟩ = some (.slice (some ⟨nb, no, none⟩) nms.length nc) ∧ w'.cell? ⟨w.heap.size, 5, none⟩ = some (.slice (some ⟨kb, ko, none⟩) kids.length kc) ∧ w'.cell? ⟨nb, no, none⟩ = some (.string n0) ∧ w'.cell? ⟨kb, ko, none⟩ = some a0 ∧ w'.cell? ⟨kb, ko + 1, none⟩ = some a1 ∧ w'.cell? ⟨kb, ko + 2, none⟩ = some a2 ∧ w'.cell? ⟨kb, ko + 3, none⟩ = some a3 ∧ w'.cell? ⟨kb, ko + 4, none⟩ = some a4 ∧ w'.cell? ⟨kb, ko + 5, none⟩ = some a5 ∧ w'.cell? ⟨kb, ko + 6, none⟩ = some a6 ∧ w'.cell? ⟨kb, ko + 7, none⟩ = some a7) := fun w' h => by
    obtain ⟨_, _, _, g3, g4, g5⟩ := HV.out w' h
    have z0 := hkc0 w' h
    simp only [Nat.zero_mul, Nat.one_mul, Nat.add_zero, Nat.reduceMul] at z0
    obtain ⟨u00, u01, u02, u03, u04, u05, u06, u07⟩ := z0
    have z1 := (h.below.cell (p := ⟨nb, no + 0, none⟩) (World.block_lt_of_cell? w _ hnc0)).trans hnc0
    exact ⟨h, g3, g4, g5, z1, u00, u01, u02, u03, u04, u05, u06, u07⟩
  have HK : Hid (∀ (w1 w' : World) (R : Prop), (Over w xs w1 ∧ R) → Below w1.heap.size w1 w' → (Over w xs w' ∧ w'.cell? ⟨w.heap.size, 3, none⟩ = some (.string nm) ∧ w'.cell? ⟨w.heap.size, 4, none⟩ = some (.slice (some ⟨nb, no, none⟩) nms.length nc) ∧ w'.cell? ⟨w.heap.size, 5, none⟩ = some (.slice (some ⟨kb, ko, none⟩) kids.length kc) ∧ w'.cell? ⟨nb, no, none⟩ = some (.string n0) ∧ w'.cell? ⟨kb, ko, none⟩ = some a0 ∧ w'.cell? ⟨kb, ko + 1, none⟩ = some a1 ∧ w'.cell? ⟨kb, ko + 2, none⟩ = some a2 ∧ w'.cell? ⟨kb, ko + 3, none⟩ = some a3 ∧ w'.cell? ⟨kb, ko + 4, none⟩ = some a4 ∧ w'.cell? ⟨kb, ko + 5, none⟩ = some a5 ∧ w'.cell? ⟨kb, ko + 6, none⟩ = some a6 ∧ w'.cell? ⟨kb, ko + 7, none⟩ = some a7)) := Lib.hid (fun w1 w' R h hb => hS w' (h.1.later hb))
  obtain ⟨W0, hW0⟩ : ∃ W0 : World, W0 = w.alloc (.cells #[.int .u8 12, .int .u8 o, .int .i32 n, .string nm, .slice (some ⟨nb, no, none⟩) nms.length nc, .slice (some ⟨kb, ko, none⟩) kids.length kc, .int .i64 ln, .int .i64 cl] 27) := ⟨_, rfl⟩
  have HB0 : Hid (Over w xs W0.drew ∧ W0.drew.cell? ⟨w.heap.size, 3, none⟩ = some (.string nm) ∧ W0.drew.cell? ⟨w.heap.size, 4, none⟩ = some (.slice (some ⟨nb, no, none⟩) nms.length nc) ∧ W0.drew.cell? ⟨w.heap.size, 5, none⟩ = some (.slice (some ⟨kb, ko, none⟩) kids.length kc) ∧ W0.drew.cell? ⟨nb, no, none⟩ = some (.string n0) ∧ W0.drew.cell? ⟨kb, ko, none⟩ = some a0 ∧ W0.drew.cell? ⟨kb, ko + 1, none⟩ = some a1 ∧ W0.drew.cell? ⟨kb, ko + 2, none⟩ = some a2 ∧ W0.drew.cell? ⟨kb, ko + 3, none⟩ = some a3 ∧ W0.drew.cell? ⟨kb, ko + 4, none⟩ = some a4 ∧ W0.drew.cell? ⟨kb, ko + 5, none⟩ = some a5 ∧ W0.drew.cell? ⟨kb, ko + 6, none⟩ = some a6 ∧ W0.drew.cell? ⟨kb, ko + 7, none⟩ = some a7) := Lib.hid (hS _ (by rw [hW0]; exact HS0.out.drew))
  have HW0 := Lib.hid hW0
  clear hW0
  have hw0 := wt_kid kids 0 h0
  have hf0 := txt_len _ (fitK_get kids hfk 0 h0)
  have hp0 := par_len (bareB false kids[0]) (txt kids[0])
  clear hS hkc0 hlc0 hnc0 hns
  unfold TextPost at HC0
  clear hbool hun hbin hmn hl5 hl1 hl2 hl3 hn1
  clear x1 x2 x3 x4 x5 hkn hnn
  have hi0 : (0 : Int) < (kids.length : Int) := by omega
  have hi1 : (0 : Int) < (nms.length : Int) := by omega
  go_enter Tryd.func9, Tryd.ntmps9
  go_wp2_with fail
  rw [← HW0.out]
  go_region_held3 (fun w' => Over w xs w' ∧ w'.cell? ⟨w.heap.size, 3, none⟩ = some (.string nm) ∧ w'.cell? ⟨w.heap.size, 4, none⟩ = some (.slice (some ⟨nb, no, none⟩) nms.length nc) ∧ w'.cell? ⟨w.heap.size, 5, none⟩ = some (.slice (some ⟨kb, ko, none⟩) kids.length kc) ∧ w'.cell? ⟨nb, no, none⟩ = some (.string n0) ∧ w'.cell? ⟨kb, ko, none⟩ = some a0 ∧ w'.cell? ⟨kb, ko + 1, none⟩ = some a1 ∧ w'.cell? ⟨kb, ko + 2, none⟩ = some a2 ∧ w'.cell? ⟨kb, ko + 3, none⟩ = some a3 ∧ w'.cell? ⟨kb, ko + 4, none⟩ = some a4 ∧ w'.cell? ⟨kb, ko + 5, none⟩ = some a5 ∧ w'.cell? ⟨kb, ko + 6, none⟩ = some a6 ∧ w'.cell? ⟨kb, ko + 7, none⟩ = some a7)
    (first | exact HK.out _ _ _ (by assumption) hb0 | exact HB0.out)
    (first | (go_at_call_of 18 (Value.agg #[a0, a1, a2, a3, a4, a5, a6, a7]); refine (HC0.out _ (And.left (by assumption))).mono ?_; rintro e w0 ⟨⟨s0, rfl, hs0, hz0⟩, hb0⟩; have hu0 : ¬ 9223372036854775807 < s0.size + 6 := (by omega); have hu1 : ¬ 9223372036854775801 < s0.size := (by omega); have hu2 : ¬ 9223372036854775807 < s0.size + 6 + n0.size := (by omega); have hu3 : ¬ 9223372036854775807 < s0.size + 6 + n0.size + 1 := (by omega); have hu4 : ¬ 9223372036854775806 < s0.size + 6 + n0.size := (by omega); have hu5 : ¬ 9223372036854775807 < s0.size + 6 + n0.size + 1 + nm.size := (by omega); have hu6 : ¬ 9223372036854775807 < s0.size + 6 + n0.size + 1 + nm.size + 1 := (by omega); have hu7 : ¬ 9223372036854775806 < s0.size + 6 + n0.size + 1 + nm.size := (by omega)))
  have HZ : Hid (Over w xs w0) := Lib.hid (And.left (by assumption))
  have hq0 := size_of hs0
  go_wp2_with fail
  go_ret
  refine ⟨⟨_, rfl, ?_, ?_⟩, HO.out _ HZ.out⟩
  · rw [HT.out, ← hs0]
    simp only [bs_app, List.append_assoc] <;> rfl
  · simp only [ByteArray.size_append]
    show s0.size + 6 + n0.size + 1 + nm.size + 1 ≤ _
    omega

set_option maxRecDepth 100000 in
set_option maxHeartbeats 8000000 in
theorem rexpr_case13 (o : Nat) (n : Int) (nm : ByteArray) (nms : List ByteArray) (kids : List Ex) (ln cl : Int) (hH : okH 13 o n nms.length kids.length) (hn0 : -2147483648 ≤ n) (hn9 : n ≤ 2147483647) (hfk : fitK kids) (hlen : wt (.mk 13 o n nm nms kids ln cl) ≤ 1000000000000)
    (hE : ∀ i (hi : i < kids.length), RefDoes kids[i]) (hI : ∀ i (hi : i < kids.length), InDoes kids[i]) : RefDoes (.mk 13 o n nm nms kids ln cl) := by
  intro w cs hl
  unfold okH at hH
  obtain ⟨hk1, hk13, hbool, hun, hbin, hmn, hl5, hl1, hl2, hl3, hn1⟩ := hH
  have hl' := hl
  unfold LaidC at hl'
  obtain ⟨hk, ho, _, hnl, hkl, na, nc, ka, kc, _, _, hcs, hns, hks⟩ := hl'
  obtain rfl : cs = #[.int .u8 13, .int .u8 o, .int .i32 n, .string nm, .slice na nms.length nc, .slice ka kids.length kc, .int .i64 ln, .int .i64 cl] := by apply Array.toList_inj.1; rw [hcs]; rfl
  obtain ⟨xs, hxs⟩ : ∃ xs : Array Value, xs = #[.int .u8 13, .int .u8 o, .int .i32 n, .string nm, .slice na nms.length nc, .slice ka kids.length kc, .int .i64 ln, .int .i64 cl] := ⟨_, rfl⟩
  have hs0 := Over.start w xs
  have hV : ∀ w', Over w xs w' → w'.cell? ⟨w.heap.size, 0, none⟩ = some (.int .u8 13) ∧ w'.cell? ⟨w.heap.size, 1, none⟩ = some (.int .u8 o) ∧ w'.cell? ⟨w.heap.size, 2, none⟩ = some (.int .i32 n) ∧ w'.cell? ⟨w.heap.size, 3, none⟩ = some (.string nm) ∧ w'.cell? ⟨w.heap.size, 4, none⟩ = some (.slice na nms.length nc) ∧ w'.cell? ⟨w.heap.size, 5, none⟩ = some (.slice ka kids.length kc) := fun w' h => by
    have h8 := h.has
    rw [hxs] at h8
    obtain ⟨g0, g1, g2, g3, g4, g5, _, _⟩ := has8 h8
    exact ⟨g0, g1, g2, g3, g4, g5⟩
  have HO : Hid (∀ wx, Over w xs wx → Below w.heap.size w wx) := Lib.hid (fun wx h => h.below)
  have HLT : Hid (∀ w1 wx, Over w xs w1 → Below w1.heap.size w1 wx → Over w xs wx) := Lib.hid (fun w1 wx h hb => h.later hb)
  have HV := Lib.hid hV
  have hv0 := hV _ hs0
  rw [hxs] at hv0
  obtain ⟨x0, x1, x2, x3, x4, x5⟩ := hv0
  have HS0 : Hid (Over w xs (w.alloc (.cells #[.int .u8 13, .int .u8 o, .int .i32 n, .string nm, .slice na nms.length nc, .slice ka kids.length kc, .int .i64 ln, .int .i64 cl] 27))) := Lib.hid (by have h := hs0; rw [hxs] at h ⊢; exact h)
  rw [wt] at hlen
  clear hs0 hV hl hk ho hk1 hk13 hcs
  unfold TextPost
  have hnk := hmn rfl
  have hN : ∀ i, i < kids.length → i < nms.length := fun i hi => by omega
  have HT : Hid (txt (.mk 13 o n nm nms kids ln cl) = ([40, 109, 101, 114, 103, 101, 32] : List UInt8) ++ bs nm ++ armsU nms kids kids.length ++ ([41] : List UInt8)) := Lib.hid (by rw [txt, armsU_all nms kids hnk] <;> rfl)
  have HU : Hid (∀ i (hi : i < kids.length), armsU nms kids (i + 1) = armsU nms kids i ++ (([32, 40] : List UInt8) ++ bs (nms[i]'(hN i hi)) ++ ([32, 45, 62, 32] : List UInt8) ++ txt kids[i] ++ ([41] : List UInt8))) := Lib.hid (fun i hi => armsU_succ nms kids i (hN i hi) hi)
  have HUL : Hid (∀ i (hi : i < kids.length), (armsU nms kids i).length + ((nms[i]'(hN i hi)).size + 8) + (wt kids[i] + 8) ≤ wtN nms + wtK kids ∧ (txt kids[i]).length ≤ wt kids[i]) := Lib.hid (fun i hi => ⟨armsU_len nms kids hfk i (hN i hi) hi, txt_len _ (fitK_get kids hfk i hi)⟩)
  have HUA : Hid ((armsU nms kids kids.length).length ≤ wtN nms + wtK kids) := Lib.hid (by rw [armsU_all nms kids hnk]; exact armsU_all_len nms kids hfk)
  have HKC := Lib.hid (fun i (hi : i < kids.length) => kid_cells (cs := xs) hks i hi)
  have HNC := Lib.hid (fun i (hi : i < kids.length) => hns i (nms[i]'(hN i hi)) (List.getElem?_eq_getElem (hN i hi)))
  have HEE := Lib.hid hE
  have HZ0 : Hid (armsU nms kids 0 = []) := Lib.hid (by simp [armsU, txtK, armsT])
  have hkl2 := hkl
  have hnl2 := hnl
  unfold maxLen at hkl2 hnl2
  have hnkI : (nms.length : Int) = (kids.length : Int) := by omega
  have HNK := Lib.hid hnk
  clear hks hns hE hI hfk hkl hnl hnkI hnk
  clear hbool hun hbin hl5 hl1 hl2 hl3 hn1
  clear hmn
  go_enter Tryd.func9, Tryd.ntmps9
  go_wp2_with fail
  clear x0 x1 x2 x3 x4 x5
  go_loopw [3, 4] (fun sv iv wr => ∃ (i : Nat) (sb : ByteArray), i ≤ kids.length ∧ iv = .int .i64 i ∧ sv = .string sb ∧ Hid (bs sb = [40, 109, 101, 114, 103, 101, 32] ++ bs nm ++ armsU nms kids i) ∧ Hid (Over w xs wr)) (fun _ iv _ => kids.length - (intOf iv).toNat)
  case atStart => exact ⟨0, _, by omega, rfl, rfl, Lib.hid (by rw [HZ0.out, bs_app, List.append_nil] <;> rfl), HS0⟩
  case round =>
    obtain ⟨i, sb, hi, rfl, rfl, HSB, HWR⟩ := hrel
    obtain ⟨x0, x1, x2, x3, x4, x5⟩ := HV.out _ HWR.out
    have hsb := size_of HSB.out
    have hi0 : (0 : Int) ≤ (i : Int) := Int.natCast_nonneg _
    by_cases hlt : i < kids.length
    · have hul := HUL.out i hlt
      have hu := HU.out i hlt
      obtain ⟨nb, no, rfl, hnc0, _⟩ := HNC.out i hlt
      obtain ⟨kb, ko, a0, a1, a2, a3, a4, a5, a6, a7, rfl, hlc0, hkc0⟩ := HKC.out i hlt
      have hi1 : (i : Int) < (kids.length : Int) := by omega
      have hi2 : (i : Int) < (nms.length : Int) := by have := hN i hlt; omega
      have HC0 : Hid (∀ wx, Over w xs wx → Calls Tryd.prog 9 #[.agg #[a0, a1, a2, a3, a4, a5, a6, a7]] wx (TextPost wx (txt kids[i]))) := Lib.hid (fun wx h => HEE.out i hlt wx _ (LaidC.below h.below _ _ hlc0))
      generalize nms[i]'(hN i hlt) = n0 at *
      have hS : ∀ w', Over w xs w' → (Over w xs w' ∧ w'.cell? ⟨w.heap.size, 4, none⟩ = some (.slice (some ⟨nb, no, none⟩) nms.length nc) ∧ w'.cell? ⟨w.heap.size, 5, none⟩ = some (.slice (some ⟨kb, ko, none⟩) kids.length kc) ∧ w'.cell? ⟨nb, no + i, none⟩ = some (.string n0) ∧ w'.cell? ⟨kb, ko + i * 8, none⟩ = some a0 ∧ w'.cell? ⟨kb, ko + i * 8 + 1, none⟩ = some a1 ∧ w'.cell? ⟨kb, ko + i * 8 + 2, none⟩ = some a2 ∧ w'.cell? ⟨kb, ko + i * 8 + 3, none⟩ = some a3 ∧ w'.cell? ⟨kb, ko + i * 8 + 4, none⟩ = some a4 ∧ w'.cell? ⟨kb, ko + i * 8 + 5, none⟩ = some a5 ∧ w'.cell? ⟨kb, ko + i * 8 + 6, none⟩ = some a6 ∧ w'.cell? ⟨kb, ko + i * 8 + 7, none⟩ = some a7) := fun w' h => by
        obtain ⟨_, _, _, _, g4, g5⟩ := HV.out w' h
        obtain ⟨u00, u01, u02, u03, u04, u05, u06, u07⟩ := hkc0 w' h
        have z1 := (h.below.cell (p := ⟨nb, no + i, none⟩) (World.block_lt_of_cell? w _ hnc0)).trans hnc0
        exact ⟨h, g4, g5, z1, u00, u01, u02, u03, u04, u05, u06, u07⟩
      have HK : Hid (∀ (w1 w' : World) (R : Prop), (Over w xs w1 ∧ R) → Below w1.heap.size w1 w' → (Over w xs w' ∧ w'.cell? ⟨w.heap.size, 4, none⟩ = some (.slice (some ⟨nb, no, none⟩) nms.length nc) ∧ w'.cell? ⟨w.heap.size, 5, none⟩ = some (.slice (some ⟨kb, ko, none⟩) kids.length kc) ∧ w'.cell? ⟨nb, no + i, none⟩ = some (.string n0) ∧ w'.cell? ⟨kb, ko + i * 8, none⟩ = some a0 ∧ w'.cell? ⟨kb, ko + i * 8 + 1, none⟩ = some a1 ∧ w'.cell? ⟨kb, ko + i * 8 + 2, none⟩ = some a2 ∧ w'.cell? ⟨kb, ko + i * 8 + 3, none⟩ = some a3 ∧ w'.cell? ⟨kb, ko + i * 8 + 4, none⟩ = some a4 ∧ w'.cell? ⟨kb, ko + i * 8 + 5, none⟩ = some a5 ∧ w'.cell? ⟨kb, ko + i * 8 + 6, none⟩ = some a6 ∧ w'.cell? ⟨kb, ko + i * 8 + 7, none⟩ = some a7)) := Lib.hid (fun w1 w' R h hb => hS w' (h.1.later hb))
      have HB0 : Hid (Over w xs wr.drew ∧ wr.drew.cell? ⟨w.heap.size, 4, none⟩ = some (.slice (some ⟨nb, no, none⟩) nms.length nc) ∧ wr.drew.cell? ⟨w.heap.size, 5, none⟩ = some (.slice (some ⟨kb, ko, none⟩) kids.length kc) ∧ wr.drew.cell? ⟨nb, no + i, none⟩ = some (.string n0) ∧ wr.drew.cell? ⟨kb, ko + i * 8, none⟩ = some a0 ∧ wr.drew.cell? ⟨kb, ko + i * 8 + 1, none⟩ = some a1 ∧ wr.drew.cell? ⟨kb, ko + i * 8 + 2, none⟩ = some a2 ∧ wr.drew.cell? ⟨kb, ko + i * 8 + 3, none⟩ = some a3 ∧ wr.drew.cell? ⟨kb, ko + i * 8 + 4, none⟩ = some a4 ∧ wr.drew.cell? ⟨kb, ko + i * 8 + 5, none⟩ = some a5 ∧ wr.drew.cell? ⟨kb, ko + i * 8 + 6, none⟩ = some a6 ∧ wr.drew.cell? ⟨kb, ko + i * 8 + 7, none⟩ = some a7) := Lib.hid (hS _ HWR.out.drew)
      have hsbl : sb.size + n0.size + wt kids[i] + 16 ≤ 1000000000000 := by
        rw [hsb]
        simp only [List.length_append, List.length_cons, List.length_nil, bs_len]
        omega
      have hnz : n0.size ≤ 1000000000000 := by omega
      have hsz : sb.size ≤ 1000000000000 := by omega
      have hv0 : ¬ 9223372036854775807 < 2 + n0.size := (by omega)
      have hv1 : ¬ 9223372036854775807 < n0.size + 2 := (by omega)
      have hv2 : ¬ 9223372036854775805 < n0.size := (by omega)
      have hv3 : ¬ 9223372036854775807 < 2 + n0.size + 4 := (by omega)
      have hv4 : ¬ 9223372036854775803 < 2 + n0.size := (by omega)
      have HU2 := Lib.hid hu
      have HUL2 := Lib.hid hul
      have HSL := Lib.hid hsbl
      clear hS hkc0 hlc0 hnc0 hu hul hsbl hsb x0 x1 x2 x3
      unfold TextPost at HC0
      go_wp2_with fail
      clear x4 x5
      go_region_held3 (fun w' => Over w xs w' ∧ w'.cell? ⟨w.heap.size, 4, none⟩ = some (.slice (some ⟨nb, no, none⟩) nms.length nc) ∧ w'.cell? ⟨w.heap.size, 5, none⟩ = some (.slice (some ⟨kb, ko, none⟩) kids.length kc) ∧ w'.cell? ⟨nb, no + i, none⟩ = some (.string n0) ∧ w'.cell? ⟨kb, ko + i * 8, none⟩ = some a0 ∧ w'.cell? ⟨kb, ko + i * 8 + 1, none⟩ = some a1 ∧ w'.cell? ⟨kb, ko + i * 8 + 2, none⟩ = some a2 ∧ w'.cell? ⟨kb, ko + i * 8 + 3, none⟩ = some a3 ∧ w'.cell? ⟨kb, ko + i * 8 + 4, none⟩ = some a4 ∧ w'.cell? ⟨kb, ko + i * 8 + 5, none⟩ = some a5 ∧ w'.cell? ⟨kb, ko + i * 8 + 6, none⟩ = some a6 ∧ w'.cell? ⟨kb, ko + i * 8 + 7, none⟩ = some a7)
        (first | exact HK.out _ _ _ (by assumption) hb0 | exact HB0.out)
        (first | (go_at_call_of 9 (Value.agg #[a0, a1, a2, a3, a4, a5, a6, a7]); refine (HC0.out _ (And.left (by assumption))).mono ?_; rintro e w0 ⟨⟨s0, rfl, hs0, hz0⟩, hb0⟩; have hu0 : ¬ 9223372036854775807 < 2 + n0.size + 4 + s0.size := (by omega); have hu1 : ¬ 9223372036854775807 < 2 + n0.size + 4 + s0.size + 1 := (by omega); have hu2 : ¬ 9223372036854775806 < 2 + n0.size + 4 + s0.size := (by omega); have hu3 : ¬ 9223372036854775807 < sb.size + (2 + n0.size + 4 + s0.size + 1) := (by omega)))
      have HZ : Hid (Over w xs w0) := Lib.hid (And.left (by assumption))
      have HS1 := Lib.hid hs0
      clear hs0
      go_wp2_with fail
      go_roundw
      case rel => exact ⟨i + 1, _, by omega, by go_num, rfl, Lib.hid (by rw [HU2.out]; simp only [bs_app, List.append_assoc, HS1.out, HSB.out] <;> rfl), HZ⟩
      case measure => simp [intOf]; omega
    · have hie : i = kids.length := by omega
      subst hie
      have hua := HUA.out
      have hsz : sb.size ≤ 1000000000000 := by
        rw [hsb]
        simp only [List.length_append, List.length_cons, List.length_nil, bs_len]
        omega
      have hge : ¬ (kids.length : Int) < (nms.length : Int) := by have := HNK.out; omega
      clear hsb hua
      go_wp2_with fail
      go_ret
      exact ⟨⟨_, rfl, by rw [HT.out, bs_app, HSB.out] <;> rfl, by rw [ByteArray.size_append]; show sb.size + 1 ≤ _; omega⟩, HO.out _ HWR.out⟩


theorem rexpr_any (N : Nat) : ∀ x : Ex, sz x ≤ N → okE x = true → fitE x → wt x ≤ 1000000000000 → RefDoes x := by
  induction N with
  | zero => intro x h; have := sz_pos x; omega
  | succ N ih =>
    intro x hN hok hfit hlen
    obtain ⟨k, o, n, nm, nms, kids, ln, cl⟩ := x
    rw [okE, Bool.and_eq_true, decide_eq_true_iff] at hok
    obtain ⟨hH, hokK⟩ := hok
    unfold fitE at hfit
    obtain ⟨hn0, hn9, hfk⟩ := hfit
    rw [sz] at hN
    have hwk : wtK kids ≤ 1000000000000 := by rw [wt] at hlen; omega
    have hE : ∀ i (hi : i < kids.length), RefDoes kids[i] := fun i hi => ih kids[i] (by have := sz_kid kids i hi; omega) (okK_get kids hokK i hi) (fitK_get kids hfk i hi) (by have := wt_kid kids i hi; omega)
    have hI : ∀ i (hi : i < kids.length), InDoes kids[i] := fun i hi => in_any _ (hE i hi) (by have := wt_kid kids i hi; have := txt_len _ (fitK_get kids hfk i hi); omega)
    have hkk : k = 1 ∨ k = 2 ∨ k = 3 ∨ k = 4 ∨ k = 5 ∨ k = 6 ∨ k = 7 ∨ k = 8 ∨ k = 9 ∨ k = 10 ∨ k = 11 ∨ k = 12 ∨ k = 13 := by
      have h1 := hH.1
      have h2 := hH.2.1
      omega
    rcases hkk with rfl | rfl | rfl | rfl | rfl | rfl | rfl | rfl | rfl | rfl | rfl | rfl | rfl
    · exact rexpr_case1 o n nm nms kids ln cl hH hn0 hn9 hfk hlen hE hI
    · exact rexpr_case2 o n nm nms kids ln cl hH hn0 hn9 hfk hlen hE hI
    · exact rexpr_case3 o n nm nms kids ln cl hH hn0 hn9 hfk hlen hE hI
    · exact rexpr_case4 o n nm nms kids ln cl hH hn0 hn9 hfk hlen hE hI
    · exact rexpr_case5 o n nm nms kids ln cl hH hn0 hn9 hfk hlen hE hI
    · exact rexpr_case6 o n nm nms kids ln cl hH hn0 hn9 hfk hlen hE hI
    · exact rexpr_case7 o n nm nms kids ln cl hH hn0 hn9 hfk hlen hE hI
    · exact rexpr_case8 o n nm nms kids ln cl hH hn0 hn9 hfk hlen hE hI
    · exact rexpr_case9 o n nm nms kids ln cl hH hn0 hn9 hfk hlen hE hI
    · exact rexpr_case10 o n nm nms kids ln cl hH hn0 hn9 hfk hlen hE hI
    · exact rexpr_case11 o n nm nms kids ln cl hH hn0 hn9 hfk hlen hE hI
    · exact rexpr_case12 o n nm nms kids ln cl hH hn0 hn9 hfk hlen hE hI
    · exact rexpr_case13 o n nm nms kids ln cl hH hn0 hn9 hfk hlen hE hI

theorem ref_does (x : Ex) (hok : okE x = true) (hf : fitE x) (hlen : wt x ≤ 1000000000000) : RefDoes x := rexpr_any (sz x) x (Nat.le_refl _) hok hf hlen
end Go.Proofs.YtmhjcnnocllniaaDoor.sh
