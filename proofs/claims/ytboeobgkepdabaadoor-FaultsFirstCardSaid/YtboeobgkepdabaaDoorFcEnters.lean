/-
  enters and the leaving of an error, where what a key equals may ask what lies there: errors of which several are Ats.
-/
import Derived.Test.YtboeobgkepdabaaDoorFtLeave
import Derived.Test.YtboeobgkepdabaaDoorFtFind
import Derived.LaidEql
namespace Go.Proofs.YtboeobgkepdabaaDoor.ft
open Go.ChangeShapes Go.WideShapes Go.ChangeAt Go.RowKit Go.Extern.Stop Go.Stop Go.Extern
open Go.Proofs.YtboeobgkepdabaaDoor.lx (Has grown_refl grown_put grown_below)
set_option linter.unusedVariables false

theorem eqAB (g g' : Nat) (w : World) (cs cs' : Array Value) (hne : g ≠ g') (h : Has w g 50 cs) (h' : Has w g' 50 cs') : (Op.equal 27 (kA g) (kA g')).run Tryd.prog w = .ok false w := by
  obtain ⟨i, hi, hc⟩ := Option.map_eq_some_iff.1 infoP
  obtain ⟨j, hj, hz⟩ := Option.map_eq_some_iff.1 infoAt
  exact run_equalIn_iface_ptr_other w 9998 Tryd.underlying27 Tryd.underlying41 hi hc hj (by omega) (by intro e; exact hne (by injection e)) h h'

theorem ask_no (key : Value) (w : World) : ∀ (l : List MapEntry) (i : Nat), (∀ x ∈ l, (Op.equal 27 key x.key).run Tryd.prog w = .ok false w) → (Instr.findAsking 27 key l i).run Tryd.prog w = .ok none w
  | [], i, _ => ask_nil key i w
  | e :: r, i, h => by
    rw [ask_cons key e r i false w (h e (by simp)), if_neg (by decide)]
    exact ask_no key w r (i + 1) fun x hx => h x (by simp [hx])
theorem ask_yes (key : Value) (w : World) (e : MapEntry) (r : List MapEntry) (he : (Op.equal 27 key e.key).run Tryd.prog w = .ok true w) : ∀ (l : List MapEntry) (i : Nat), (∀ x ∈ l, (Op.equal 27 key x.key).run Tryd.prog w = .ok false w) →
    (Instr.findAsking 27 key (l ++ e :: r) i).run Tryd.prog w = .ok (some (i + l.length, e.val)) w
  | [], i, _ => by
    rw [List.nil_append, ask_cons key e r i true w he, if_pos rfl]; rfl
  | x :: l, i, h => by
    rw [List.cons_append, ask_cons key x (l ++ e :: r) i false w (h x (by simp)), if_neg (by decide), ask_yes key w e r he l (i + 1) fun y hy => h y (by simp [hy])]
    rw [List.length_cons, show i + 1 + l.length = i + (l.length + 1) by omega]
theorem find_no (key : Value) (w : World) (l : List MapEntry) (h : ∀ x ∈ l, (Op.equal 27 key x.key).run Tryd.prog w = .ok false w) : (Instr.findKey 27 key l).run Tryd.prog w = .ok none w := by
  cases l with
  | nil => exact find_nil key w
  | cons e r => rw [find_cons]; exact ask_no key w _ 0 h
theorem find_yes (key : Value) (w : World) (l : List MapEntry) (e : MapEntry) (r : List MapEntry) (he : (Op.equal 27 key e.key).run Tryd.prog w = .ok true w) (h : ∀ x ∈ l, (Op.equal 27 key x.key).run Tryd.prog w = .ok false w) :
    (Instr.findKey 27 key (l ++ e :: r)).run Tryd.prog w = .ok (some (l.length, e.val)) w := by
  have := ask_yes key w e r he l 0 h
  rw [Nat.zero_add] at this
  cases l with
  | nil => rw [List.nil_append] at this ⊢; rw [find_cons]; exact this
  | cons x l => rw [List.cons_append] at this ⊢; rw [find_cons]; exact this

theorem lit_entersA (S m p2 p3 p5 p6 i c : Nat) (es : Array MapEntry) (key parts : Value) (u : Int) (en : Bool) (w : World) (h56 : p5 ≠ p6) (hs : Sees S m p2 p3 p5 p6 key parts u en 0 0 es c w)
    (hk : ∀ b W, (Instr.checkKey b 10000 27 key).run Tryd.prog W = .ok () W) (hf0 : ∀ W, Turns [p5, p6, m] w W → (Instr.findKey 27 key es.toList).run Tryd.prog W = .ok none W)
    (hf1 : ∀ W, Turns [p5, p6, m] w W → (Instr.findKey 27 key (es.push { key, val := .int .i64 1, born := c }).toList).run Tryd.prog W = .ok (some (i, .int .i64 1)) W) :
    Calls Tryd.prog 55 #[.pointer (some ⟨p2, 0, none⟩), .pointer (some ⟨p3, 0, none⟩), .pointer (some ⟨p5, 0, none⟩), .pointer (some ⟨p6, 0, none⟩)] w fun e w' => e = .returned (.tuple #[]) ∧
      (Sees S m p2 p3 p5 p6 key parts u en 0 1 (es.push { key, val := .int .i64 1, born := c }) (c + 1) w' ∧ Turns [p5, p6, m] w w') := by
  have a2 := hs.h2.cell 0
  have a3 := hs.h3.cell 0
  have a5 := hs.h5.cell 0
  have aS := hs.hS.cell 0
  have f5 := hs.h5.free 0
  simp only [List.getElem?_toArray, List.getElem?_cons_zero] at a2 a3 a5 aS
  have l0 := run_look w.drew m es c key none hs.hm (hk _ _) (hf0 _ (Turns.refl _ w).drew)
  have HS := Lib.hid hs
  have HT := Lib.hid (Turns.refl [p5, p6, m] w)
  have HK := Lib.hid hk
  have HF1 := Lib.hid hf1
  have HF0 := Lib.hid hf0
  have H56 := Lib.hid h56
  simp only at l0
  clear hs hk hf1 hf0 h56
  go_enter Tryd.func55, Tryd.ntmps55
  go_wp2_with fail
  go_region
  have hs1 := HS.out.put5 H56.out 0
  have ht1 := (HT.out.put p5 0 (.int .i64 0) (by simp)).drew
  have HS1 := Lib.hid hs1
  have HT1 := Lib.hid ht1
  clear hs1 ht1 HS HT l0 a2 a3 a5 aS f5
  generalize (w.setCell ⟨p5, 0, none⟩ (.int .i64 0)).drew = W1 at *
  have a2 := HS1.out.h2.cell 0
  have a3 := HS1.out.h3.cell 0
  have a5 := HS1.out.h5.cell 0
  have aS := HS1.out.hS.cell 0
  simp only [List.getElem?_toArray, List.getElem?_cons_zero] at a2 a3 a5 aS
  have l1 := run_store_new W1.drew m es c key (.int .i64 1) HS1.out.hm (HK.out _ _) (HF0.out _ HT1.out.drew)
  go_wp2_with fail
  go_region
  have hs2 : Sees S m p2 p3 p5 p6 key parts u en 0 0 (es.push { key, val := .int .i64 1, born := c }) (c + 1) ({ heap := W1.drew.heap.setIfInBounds m (Obj.map (es.push { key := key, val := Value.int IntKind.i64 1, born := c }) (c + 1)), tape := W1.tape, drawn := W1.drawn + 1, os := W1.drew.os, output := W1.drew.output } : World) := (HS1.out.drew).set (es' := es.push { key, val := .int .i64 1, born := c }) (c' := c + 1)
  have ht2 : Turns [p5, p6, m] w ({ heap := W1.drew.heap.setIfInBounds m (Obj.map (es.push { key := key, val := Value.int IntKind.i64 1, born := c }) (c + 1)), tape := W1.tape, drawn := W1.drawn + 1, os := W1.drew.os, output := W1.drew.output } : World) := HT1.out.drew.obj m (.map (es.push { key, val := .int .i64 1, born := c }) (c + 1)) (by simp)
  have HS2 := Lib.hid hs2
  have HT2 := Lib.hid ht2
  clear hs2 ht2 HS1 HT1 l1 a2 a3 a5 aS
  generalize ({ heap := W1.drew.heap.setIfInBounds m (Obj.map (es.push { key := key, val := Value.int IntKind.i64 1, born := c }) (c + 1)), tape := W1.tape, drawn := W1.drawn + 1, os := W1.drew.os, output := W1.drew.output } : World) = W2 at *
  have a2 := HS2.out.h2.cell 0
  have a3 := HS2.out.h3.cell 0
  have a6 := HS2.out.h6.cell 0
  have aS := HS2.out.hS.cell 0
  have f6 := HS2.out.h6.free 0
  simp only [List.getElem?_toArray, List.getElem?_cons_zero] at a2 a3 a6 aS
  have l2 := run_look W2.drew m _ _ key (some (i, .int .i64 1)) HS2.out.hm (HK.out _ _) (HF1.out _ HT2.out.drew)
  simp only at l2
  go_wp2_with fail
  go_region
  go_wp2_with fail
  go_end0
  exact ⟨rfl, HS2.out.put6 H56.out 1, (HT2.out.put p6 0 (.int .i64 1) (by simp)).drew⟩


theorem enters_newA (S m i c : Nat) (es : Array MapEntry) (ty : TypeId) (kv parts : Value) (w : World) (hS : Has w S 70 #[.map (some m), .int .i64 0, parts, .bool false]) (hm : w.heap[m]? = some (.map es c))
    (hk : ∀ b W, (Instr.checkKey b 10000 27 (.iface ty kv)).run Tryd.prog W = .ok () W) (hf0 : ∀ W, Turns [m] w W → (Instr.findKey 27 (.iface ty kv) es.toList).run Tryd.prog W = .ok none W)
    (hf1 : ∀ W, Turns [m] w W → (Instr.findKey 27 (.iface ty kv) (es.push { key := .iface ty kv, val := .int .i64 1, born := c }).toList).run Tryd.prog W = .ok (some (i, .int .i64 1)) W) :
    Calls Tryd.prog 43 #[.pointer (some ⟨S, 0, none⟩), .iface ty kv] w fun e w' => e = .returned (.bool true) ∧
      Has w' S 70 #[.map (some m), .int .i64 0, parts, .bool false] ∧ w'.heap[m]? = some (.map (es.push { key := .iface ty kv, val := .int .i64 1, born := c }) (c + 1)) ∧ Turns [m] w w' := by
  have hmf : ∀ (fn : Fn) (first cap : Array Value) (w : World), (Instr.makeFunc fn first cap).run Tryd.prog w = .ok (.func fn first cap) w := fun _ _ _ _ => rfl
  have hml : m < w.heap.size := by
    by_cases h : m < w.heap.size
    · exact h
    · rw [Array.getElem?_eq_none (by omega)] at hm; cases hm
  have hSl := hS.lt
  have hsees : Sees S m w.heap.size (w.heap.size + 1) (w.heap.size + 2) (w.heap.size + 3) (.iface ty kv) parts 0 false 0 0 es c
      ((((w.alloc (.cells #[.pointer (some ⟨S, 0, none⟩)] 66)).alloc (.cells #[.iface ty kv] 27)).alloc (.cells #[.int .i64 0] 3)).alloc (.cells #[.int .i64 0] 3)) := by
    have n1 := Has.new w 66 #[.pointer (some ⟨S, 0, none⟩)]
    have n2 := Has.new (w.alloc (.cells #[.pointer (some ⟨S, 0, none⟩)] 66)) 27 #[.iface ty kv]
    have n3 := Has.new ((w.alloc (.cells #[.pointer (some ⟨S, 0, none⟩)] 66)).alloc (.cells #[.iface ty kv] 27)) 3 #[.int .i64 0]
    have n4 := Has.new (((w.alloc (.cells #[.pointer (some ⟨S, 0, none⟩)] 66)).alloc (.cells #[.iface ty kv] 27)).alloc (.cells #[.int .i64 0] 3)) 3 #[.int .i64 0]
    simp only [World.size_alloc] at n2 n3 n4
    exact ⟨((n1.alloc _).alloc _).alloc _, (n2.alloc _).alloc _, n3.alloc _, n4, (((hS.alloc _).alloc _).alloc _).alloc _, by
      rw [Below.heap_alloc _ _ _ (by simp; omega), Below.heap_alloc _ _ _ (by simp; omega), Below.heap_alloc _ _ _ (by simp; omega), Below.heap_alloc _ _ _ hml]; exact hm⟩
  have hT4 : ∀ W, Turns [w.heap.size + 2, w.heap.size + 3, m] ((((w.alloc (.cells #[.pointer (some ⟨S, 0, none⟩)] 66)).alloc (.cells #[.iface ty kv] 27)).alloc (.cells #[.int .i64 0] 3)).alloc (.cells #[.int .i64 0] 3)) W → Turns [m] w W := by
    intro W h1
    have h0 : Turns [m] w ((((w.alloc (.cells #[.pointer (some ⟨S, 0, none⟩)] 66)).alloc (.cells #[.iface ty kv] 27)).alloc (.cells #[.int .i64 0] 3)).alloc (.cells #[.int .i64 0] 3)) := ((((Turns.refl _ _).alloc _).alloc _).alloc _).alloc _
    exact ⟨h1.os.trans h0.os, h1.tape.trans h0.tape, h1.output.trans h0.output, Nat.le_trans h0.size h1.size, fun x hx hn => (h1.block x (by simp; omega) (by simp at hn ⊢; omega)).trans (h0.block x hx hn)⟩
  have HL := Lib.hid (quiet_enters _ _ _ (lit_entersA S m w.heap.size (w.heap.size + 1) (w.heap.size + 2) (w.heap.size + 3) i c es (.iface ty kv) parts 0 false _ (by omega) hsees hk (fun W h => hf0 W (hT4 W h)) (fun W h => hf1 W (hT4 W h))))
  clear hsees hk hf0 hf1 hS hm hT4
  go_enter Tryd.func43, Tryd.ntmps43
  go_wp2_with fail
  refine HL.out.mono ?_
  rintro e w1 ⟨rfl, hs, ht⟩
  have a2 := hs.h2.cell 0
  have a5 := hs.h5.cell 0
  have a6 := hs.h6.cell 0
  have aS := hs.hS.cell 1
  simp only [List.getElem?_toArray, List.getElem?_cons_zero, List.getElem?_cons_succ] at a2 a5 a6 aS
  have HS := Lib.hid hs
  have HT := Lib.hid ht
  clear hs ht HL
  go_wp2_with fail
  go_ret
  refine ⟨rfl, HS.out.hS, HS.out.hm, ?_⟩
  have h0 : Turns [m] w ((((w.alloc (.cells #[.pointer (some ⟨S, 0, none⟩)] 66)).alloc (.cells #[.iface ty kv] 27)).alloc (.cells #[.int .i64 0] 3)).alloc (.cells #[.int .i64 0] 3)) := ((((Turns.refl _ _).alloc _).alloc _).alloc _).alloc _
  have h1 := HT.out
  exact ⟨h1.os.trans h0.os, h1.tape.trans h0.tape, h1.output.trans h0.output, Nat.le_trans h0.size h1.size, fun x hx hn => (h1.block x (by simp; omega) (by simp at hn ⊢; omega)).trans (h0.block x hx hn)⟩

set_option maxRecDepth 10000 in
theorem lit_surveyA (S m p3 p5 i c : Nat) (es : Array MapEntry) (ty : TypeId) (kv old parts : Value) (bh : Bool) (w : World) (h3 : Has w p3 66 #[.pointer (some ⟨S, 0, none⟩)]) (h5 : Has w p5 82 #[.iface ty kv, .bool bh])
    (hS : Has w S 70 #[.map (some m), .int .i64 0, parts, .bool false]) (hm : w.heap[m]? = some (.map es c))
    (hk : ∀ b W, (Instr.checkKey b 10000 27 (.iface ty kv)).run Tryd.prog W = .ok () W) (hf : (Instr.findKey 27 (.iface ty kv) es.toList).run Tryd.prog w.drew = .ok (some (i, old)) w.drew)
    (hs : Instr.sameBits 10000 (((es[i]?).map (·.key)).getD (.iface ty kv)) (.iface ty kv) = true) :
    Calls Tryd.prog 42 #[.pointer (some ⟨p3, 0, none⟩), .pointer (some ⟨p5, 0, none⟩)] w fun e w' => e = .returned (.tuple #[]) ∧
      (w'.heap[m]? = some (.map (es.modify i fun e => { e with key := .iface ty kv, val := .int .i64 2 }) c) ∧ Turns [m] w w') := by
  have a3 := h3.cell 0
  have a5 := h5.cell 0
  have aS := hS.cell 0
  simp only [List.getElem?_toArray, List.getElem?_cons_zero] at a3 a5 aS
  have l1 := run_store_old w.drew m es c (.iface ty kv) (.int .i64 2) old i hm (hk _ _) hf hs
  have HM := Lib.hid (map_set (o' := .map (es.modify i fun e => { e with key := .iface ty kv, val := .int .i64 2 }) c) (w := w) hm)
  have HT := Lib.hid ((Turns.refl [m] w).drew.obj m (.map (es.modify i fun e => { e with key := .iface ty kv, val := .int .i64 2 }) c) (by simp))
  clear h3 h5 hS hm hk hf hs
  go_enter Tryd.func42, Tryd.ntmps42
  go_wp2_with fail
  go_region
  go_wp2_with fail
  go_end0
  exact ⟨rfl, HM.out, HT.out⟩
end Go.Proofs.YtboeobgkepdabaaDoor.ft
