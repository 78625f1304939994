/-
  New and In; awake: the document's example.
-/
import Derived.Test.YtboeobgkepdabaaDoorFcText
namespace Go.Proofs.YtboeobgkepdabaaDoor.ft
open Go.ChangeShapes Go.WideShapes Go.ChangeAt Go.RowKit Go.Extern.Stop Go.Stop Go.Extern
open Go.Proofs.YtboeobgkepdabaaDoor.lx (Has grown_refl grown_put grown_below)
set_option linter.unusedVariables false

set_option maxRecDepth 100000 in
theorem new_k (w : World) (k x y : Int) (hk : k ≠ 0) :
    Calls Tryd.prog 9 #[.int .i64 k, .agg #[.int .i64 x, .int .i64 y]] w fun e w' => ∃ ga, w.heap.size ≤ ga ∧ e = .returned (.iface 41 (.pointer (some ⟨ga, 0, none⟩))) ∧ Has w' ga 50 #[.int .i64 x, .int .i64 y, .string ⟨#[]⟩, .bool false, .iface 29 (.int .i64 k)] ∧ Below w.heap.size w w' := by
  have hn := Has.new (w.alloc (.cells #[.int .i64 x, .int .i64 y] 23)) 50 #[.int .i64 x, .int .i64 y, .string ⟨#[]⟩, .bool false, .iface 29 (.int .i64 k)]
  simp only [World.size_alloc] at hn
  have HN := Lib.hid hn
  have hk0 : (k == 0) = false := beq_eq_false_iff_ne.2 hk
  clear hn hk
  go_enter Tryd.func9, Tryd.ntmps9
  go_wp2_with fail
  go_ret
  refine ⟨_, ?_, rfl, HN.out, ?_⟩
  · simp
  · go_grown

set_option maxRecDepth 100000 in
theorem new_0 (w : World) (x y : Int) :
    Calls Tryd.prog 9 #[.int .i64 0, .agg #[.int .i64 x, .int .i64 y]] w fun e w' => e = .returned .nilIface ∧ Below w.heap.size w w' := by
  go_enter Tryd.func9, Tryd.ntmps9
  go_wp2_with fail
  go_ret
  exact ⟨rfl, by go_grown⟩

set_option maxRecDepth 100000 in
theorem in_any (w : World) (t : TypeId) (v : Value) (nm : ByteArray) :
    Calls Tryd.prog 13 #[.iface t v, .string nm] w fun e w' => ∃ ga, w.heap.size ≤ ga ∧ e = .returned (.iface 41 (.pointer (some ⟨ga, 0, none⟩))) ∧ Has w' ga 50 #[.int .i64 0, .int .i64 0, .string nm, .bool true, .iface t v] ∧ Below w.heap.size w w' := by
  have HN := Lib.hid (Has.new w 50 #[.int .i64 0, .int .i64 0, .string nm, .bool true, .iface t v])
  go_enter Tryd.func13, Tryd.ntmps13
  go_wp2_with fail
  go_ret
  refine ⟨_, ?_, rfl, HN.out, ?_⟩
  · simp
  · go_grown

theorem in_nil (w : World) (nm : ByteArray) :
    Calls Tryd.prog 13 #[.nilIface, .string nm] w fun e w' => e = .returned .nilIface ∧ w' = w := by
  go_enter Tryd.func13, Tryd.ntmps13
  go_wp2_with fail
  go_ret
  exact ⟨rfl, rfl⟩

theorem txt_f : txt ⟨#[102]⟩ 7 = ⟨#[105, 110, 32, 102, 58, 32, 51, 58, 55, 58, 32, 116, 121, 112, 101, 100]⟩ := by rfl

set_option maxRecDepth 100000 in
set_option maxHeartbeats 4000000 in
theorem awake_any (w : World) (hh : Handle w) :
    Calls Tryd.prog 8 #[] w fun e w' => e = .returned (.bool true) ∧ Below w.heap.size w w' := by
  have HH := Lib.hid hh
  clear hh
  go_enter Tryd.func8, Tryd.ntmps8
  go_wp2_with fail
  refine (new_k w 7 3 7 (by decide)).mono ?_
  rintro e w1 ⟨g1, hl1, rfl, hn1, hb1⟩
  have HN1 := Lib.hid hn1
  have HB1 := Lib.hid hb1
  have hg1l := hn1.lt
  clear hn1 hb1
  go_wp2_with fail
  refine (in_any w1 _ _ _).mono ?_
  rintro e w2 ⟨g0, hl0, rfl, hn0, hb2⟩
  have HN0 := Lib.hid hn0
  have HN1' := Lib.hid (HN1.out.below hb2 hg1l)
  have HB2 := Lib.hid (HB1.out.trans (hb2.mono HB1.out.size))
  have hne : g0 ≠ g1 := by omega
  clear hn0 hb2 HN1 HB1
  have KT : Hid (∀ W, Below w2.heap.size w2 W → Has W g0 50 #[.int .i64 0, .int .i64 0, .string ⟨#[102]⟩, .bool true, .iface 41 (.pointer (some ⟨g1, 0, none⟩))] ∧ Has W g1 50 #[.int .i64 3, .int .i64 7, .string ⟨#[]⟩, .bool false, .iface 29 (.int .i64 7)]) := Lib.hid (fun W hb => ⟨HN0.out.below hb HN0.out.lt, HN1'.out.below hb HN1'.out.lt⟩)
  go_wp2_with fail
  have ht := text_a g0 (txt ⟨#[102]⟩ 7) w2 (fun W hb => error_aak g0 g1 0 0 7 ⟨#[102]⟩ ⟨#[]⟩ W hne (by decide) (by decide) (by decide) (KT.out W hb).1 (KT.out W hb).2)
  rw [txt_f] at ht
  refine ht.mono ?_
  rintro e w3 ⟨rfl, hb3⟩
  have HB3 := Lib.hid hb3
  clear hb3 ht
  go_wp2_with fail
  refine (kind_aak g0 g1 0 0 3 7 7 ⟨#[102]⟩ ⟨#[]⟩ true false w3 hne (KT.out _ HB3.out).1 (KT.out _ HB3.out).2).mono ?_
  rintro e w4 ⟨rfl, hb4⟩
  rw [show wantK 7 = 7 from rfl]
  have HB4 := Lib.hid (HB3.out.trans (hb4.mono HB3.out.size))
  clear hb4 HB3
  go_wp2_with fail
  refine (where_aak g0 g1 0 0 3 7 7 ⟨#[102]⟩ ⟨#[]⟩ w4 (HH.out.below (HB2.out.trans (HB4.out.mono HB2.out.size))) hne (KT.out _ HB4.out).1 (KT.out _ HB4.out).2).mono ?_
  rintro e w5 ⟨rfl, hb5⟩
  have HB5 := Lib.hid ((HB2.out.trans (HB4.out.mono HB2.out.size)).trans (hb5.mono (HB2.out.trans (HB4.out.mono HB2.out.size)).size))
  clear hb5
  go_wp2_with fail
  go_ret
  exact ⟨rfl, HB5.out⟩
end Go.Proofs.YtboeobgkepdabaaDoor.ft
