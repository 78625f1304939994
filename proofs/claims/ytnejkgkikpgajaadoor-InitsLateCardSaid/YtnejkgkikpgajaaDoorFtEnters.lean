/-
  enters of a survey, where the error is not yet met.
-/
import Derived.Test.YtnejkgkikpgajaaDoorFtFind
namespace Go.Proofs.YtnejkgkikpgajaaDoor.ft
open Go.ChangeShapes Go.WideShapes Go.ChangeAt Go.RowKit Go.Extern.Stop Go.Stop Go.Extern
open Go.Proofs.YtnejkgkikpgajaaDoor.lx (Has grown_refl grown_put grown_below)
set_option linter.unusedVariables false

theorem map_has {w : World} {m g : Nat} {es : Array MapEntry} {c : Nat} {t : TypeId} {cs : Array Value} (hm : w.heap[m]? = some (.map es c)) (h : Has w g t cs) : m ≠ g := by
  rintro rfl
  unfold Has at h
  rw [hm] at h
  cases h
theorem map_put {w : World} {m g : Nat} {es : Array MapEntry} {c : Nat} (hm : w.heap[m]? = some (.map es c)) (hg : m ≠ g) (i : Nat) (v : Value) : (w.setCell ⟨g, i, none⟩ v).heap[m]? = some (.map es c) :=
  (Below.heap_setCell w ⟨g, i, none⟩ v m hg).trans hm
theorem map_set {w : World} {m : Nat} {o o' : Obj} (hm : w.heap[m]? = some o) : (w.heap.setIfInBounds m o')[m]? = some o' := by
  have : m < w.heap.size := by
    by_cases h : m < w.heap.size
    · exact h
    · rw [Array.getElem?_eq_none (by omega)] at hm; cases hm
  simp [this]
theorem has_set {w : World} {m g : Nat} {t : TypeId} {cs : Array Value} (h : Has w g t cs) (hg : m ≠ g) (o : Obj) : Has { w with heap := w.heap.setIfInBounds m o } g t cs := by
  unfold Has at h ⊢
  simp [hg, h]

/-- what the literal of enters sees -/
structure Sees (S m p2 p3 p5 p6 : Nat) (key parts : Value) (u : Int) (en : Bool) (v5 v6 : Int) (es : Array MapEntry) (c : Nat) (w : World) : Prop where
  h2 : Has w p2 119 #[.pointer (some ⟨S, 0, none⟩)]
  h3 : Has w p3 36 #[key]
  h5 : Has w p5 3 #[.int .i64 v5]
  h6 : Has w p6 3 #[.int .i64 v6]
  hS : Has w S 124 #[.map (some m), .int .i64 u, parts, .bool en]
  hm : w.heap[m]? = some (.map es c)

theorem ne_types {w : World} {g g' : Nat} {t t' : TypeId} {cs cs' : Array Value} (h : Has w g t cs) (h' : Has w g' t' cs') (hn : t ≠ t') : g ≠ g' := by
  rintro rfl
  exact hn (Has.same h h')

theorem Sees.put5 {S m p2 p3 p5 p6 : Nat} {key parts : Value} {u : Int} {en : Bool} {v5 v6 : Int} {es : Array MapEntry} {c : Nat} {w : World} (h : Sees S m p2 p3 p5 p6 key parts u en v5 v6 es c w) (h56 : p5 ≠ p6) (v : Int) :
    Sees S m p2 p3 p5 p6 key parts u en v v6 es c (w.setCell ⟨p5, 0, none⟩ (.int .i64 v)).drew :=
  ⟨h.h2.put_far 0 _ (ne_types h.h2 h.h5 (by decide)), h.h3.put_far 0 _ (ne_types h.h3 h.h5 (by decide)), h.h5.put 0 _, h.h6.put_far 0 _ (Ne.symm h56), h.hS.put_far 0 _ (ne_types h.hS h.h5 (by decide)), map_put h.hm (map_has h.hm h.h5) 0 _⟩
theorem Sees.put6 {S m p2 p3 p5 p6 : Nat} {key parts : Value} {u : Int} {en : Bool} {v5 v6 : Int} {es : Array MapEntry} {c : Nat} {w : World} (h : Sees S m p2 p3 p5 p6 key parts u en v5 v6 es c w) (h56 : p5 ≠ p6) (v : Int) :
    Sees S m p2 p3 p5 p6 key parts u en v5 v es c (w.setCell ⟨p6, 0, none⟩ (.int .i64 v)).drew :=
  ⟨h.h2.put_far 0 _ (ne_types h.h2 h.h6 (by decide)), h.h3.put_far 0 _ (ne_types h.h3 h.h6 (by decide)), h.h5.put_far 0 _ h56, h.h6.put 0 _, h.hS.put_far 0 _ (ne_types h.hS h.h6 (by decide)), map_put h.hm (map_has h.hm h.h6) 0 _⟩
theorem Sees.set {S m p2 p3 p5 p6 : Nat} {key parts : Value} {u : Int} {en : Bool} {v5 v6 : Int} {es es' : Array MapEntry} {c c' : Nat} {w : World} (h : Sees S m p2 p3 p5 p6 key parts u en v5 v6 es c w) :
    Sees S m p2 p3 p5 p6 key parts u en v5 v6 es' c' { w with heap := w.heap.setIfInBounds m (.map es' c') } :=
  ⟨has_set h.h2 (map_has h.hm h.h2) _, has_set h.h3 (map_has h.hm h.h3) _, has_set h.h5 (map_has h.hm h.h5) _, has_set h.h6 (map_has h.hm h.h6) _, has_set h.hS (map_has h.hm h.hS) _, map_set h.hm⟩
theorem Sees.drew {S m p2 p3 p5 p6 : Nat} {key parts : Value} {u : Int} {en : Bool} {v5 v6 : Int} {es : Array MapEntry} {c : Nat} {w : World} (h : Sees S m p2 p3 p5 p6 key parts u en v5 v6 es c w) : Sees S m p2 p3 p5 p6 key parts u en v5 v6 es c w.drew := ⟨h.h2, h.h3, h.h5, h.h6, h.hS, h.hm⟩

theorem lit_enters (S m p2 p3 p5 p6 i c : Nat) (es : Array MapEntry) (key parts : Value) (u : Int) (en : Bool) (w : World) (h56 : p5 ≠ p6) (hs : Sees S m p2 p3 p5 p6 key parts u en 0 0 es c w)
    (hk : ∀ b W, (Instr.checkKey b 10000 36 key).run Tryd.prog W = .ok () W) (hf0 : ∀ W, (Instr.findKey 36 key es.toList).run Tryd.prog W = .ok none W)
    (hf1 : ∀ W, (Instr.findKey 36 key (es.push { key, val := .int .i64 1, born := c }).toList).run Tryd.prog W = .ok (some (i, .int .i64 1)) W) :
    Calls Tryd.prog 82 #[.pointer (some ⟨p2, 0, none⟩), .pointer (some ⟨p3, 0, none⟩), .pointer (some ⟨p5, 0, none⟩), .pointer (some ⟨p6, 0, none⟩)] w fun e w' => e = .returned (.tuple #[]) ∧
      (Sees S m p2 p3 p5 p6 key parts u en 0 1 (es.push { key, val := .int .i64 1, born := c }) (c + 1) w' ∧ Turns [p5, p6, m] w w') := by
  have a2 := hs.h2.cell 0
  have a3 := hs.h3.cell 0
  have a5 := hs.h5.cell 0
  have aS := hs.hS.cell 0
  have f5 := hs.h5.free 0
  simp only [List.getElem?_toArray, List.getElem?_cons_zero] at a2 a3 a5 aS
  have l0 := run_look w.drew m es c key none hs.hm (hk _ _) (hf0 _)
  have HS := Lib.hid hs
  have HT := Lib.hid (Turns.refl [p5, p6, m] w)
  have HK := Lib.hid hk
  have HF1 := Lib.hid hf1
  have HF0 := Lib.hid hf0
  have H56 := Lib.hid h56
  simp only at l0
  clear hs hk hf1 hf0 h56
  go_enter Tryd.func82, Tryd.ntmps82
  go_wp2_with fail
  go_region
  have hs1 := HS.out.put5 H56.out 0
  have ht1 := (HT.out.put p5 0 (.int .i64 0) (by simp)).drew
  have HS1 := Lib.hid hs1
  have HT1 := Lib.hid ht1
  clear hs1 ht1 HS HT l0 a2 a3 a5 aS f5
  generalize (w.setCell ⟨p5, 0, none⟩ (.int .i64 0)).drew = W1 at *
  have a2 := HS1.out.h2.cell 0
  have a3 := HS1.out.h3.cell 0
  have a5 := HS1.out.h5.cell 0
  have aS := HS1.out.hS.cell 0
  simp only [List.getElem?_toArray, List.getElem?_cons_zero] at a2 a3 a5 aS
  have l1 := run_store_new W1.drew m es c key (.int .i64 1) HS1.out.hm (HK.out _ _) (HF0.out _)
  go_wp2_with fail
  go_region
  have hs2 : Sees S m p2 p3 p5 p6 key parts u en 0 0 (es.push { key, val := .int .i64 1, born := c }) (c + 1) ({ heap := W1.drew.heap.setIfInBounds m (Obj.map (es.push { key := key, val := Value.int IntKind.i64 1, born := c }) (c + 1)), tape := W1.tape, drawn := W1.drawn + 1, os := W1.drew.os, output := W1.drew.output } : World) := (HS1.out.drew).set (es' := es.push { key, val := .int .i64 1, born := c }) (c' := c + 1)
  have ht2 : Turns [p5, p6, m] w ({ heap := W1.drew.heap.setIfInBounds m (Obj.map (es.push { key := key, val := Value.int IntKind.i64 1, born := c }) (c + 1)), tape := W1.tape, drawn := W1.drawn + 1, os := W1.drew.os, output := W1.drew.output } : World) := HT1.out.drew.obj m (.map (es.push { key, val := .int .i64 1, born := c }) (c + 1)) (by simp)
  have HS2 := Lib.hid hs2
  have HT2 := Lib.hid ht2
  clear hs2 ht2 HS1 HT1 l1 a2 a3 a5 aS
  generalize ({ heap := W1.drew.heap.setIfInBounds m (Obj.map (es.push { key := key, val := Value.int IntKind.i64 1, born := c }) (c + 1)), tape := W1.tape, drawn := W1.drawn + 1, os := W1.drew.os, output := W1.drew.output } : World) = W2 at *
  have a2 := HS2.out.h2.cell 0
  have a3 := HS2.out.h3.cell 0
  have a6 := HS2.out.h6.cell 0
  have aS := HS2.out.hS.cell 0
  have f6 := HS2.out.h6.free 0
  simp only [List.getElem?_toArray, List.getElem?_cons_zero] at a2 a3 a6 aS
  have l2 := run_look W2.drew m _ _ key (some (i, .int .i64 1)) HS2.out.hm (HK.out _ _) (HF1.out _)
  simp only at l2
  go_wp2_with fail
  go_region
  go_wp2_with fail
  go_end0
  exact ⟨rfl, HS2.out.put6 H56.out 1, (HT2.out.put p6 0 (.int .i64 1) (by simp)).drew⟩

theorem enters_new (S m i c : Nat) (es : Array MapEntry) (ty : TypeId) (kv parts : Value) (w : World) (hS : Has w S 124 #[.map (some m), .int .i64 0, parts, .bool false]) (hm : w.heap[m]? = some (.map es c))
    (hk : ∀ b W, (Instr.checkKey b 10000 36 (.iface ty kv)).run Tryd.prog W = .ok () W) (hf0 : ∀ W, (Instr.findKey 36 (.iface ty kv) es.toList).run Tryd.prog W = .ok none W)
    (hf1 : ∀ W, (Instr.findKey 36 (.iface ty kv) (es.push { key := .iface ty kv, val := .int .i64 1, born := c }).toList).run Tryd.prog W = .ok (some (i, .int .i64 1)) W) :
    Calls Tryd.prog 60 #[.pointer (some ⟨S, 0, none⟩), .iface ty kv] w fun e w' => e = .returned (.bool true) ∧
      Has w' S 124 #[.map (some m), .int .i64 0, parts, .bool false] ∧ w'.heap[m]? = some (.map (es.push { key := .iface ty kv, val := .int .i64 1, born := c }) (c + 1)) ∧ Turns [m] w w' := by
  have hmf : ∀ (fn : Fn) (first cap : Array Value) (w : World), (Instr.makeFunc fn first cap).run Tryd.prog w = .ok (.func fn first cap) w := fun _ _ _ _ => rfl
  have hml : m < w.heap.size := by
    by_cases h : m < w.heap.size
    · exact h
    · rw [Array.getElem?_eq_none (by omega)] at hm; cases hm
  have hSl := hS.lt
  have hsees : Sees S m w.heap.size (w.heap.size + 1) (w.heap.size + 2) (w.heap.size + 3) (.iface ty kv) parts 0 false 0 0 es c
      ((((w.alloc (.cells #[.pointer (some ⟨S, 0, none⟩)] 119)).alloc (.cells #[.iface ty kv] 36)).alloc (.cells #[.int .i64 0] 3)).alloc (.cells #[.int .i64 0] 3)) := by
    have n1 := Has.new w 119 #[.pointer (some ⟨S, 0, none⟩)]
    have n2 := Has.new (w.alloc (.cells #[.pointer (some ⟨S, 0, none⟩)] 119)) 36 #[.iface ty kv]
    have n3 := Has.new ((w.alloc (.cells #[.pointer (some ⟨S, 0, none⟩)] 119)).alloc (.cells #[.iface ty kv] 36)) 3 #[.int .i64 0]
    have n4 := Has.new (((w.alloc (.cells #[.pointer (some ⟨S, 0, none⟩)] 119)).alloc (.cells #[.iface ty kv] 36)).alloc (.cells #[.int .i64 0] 3)) 3 #[.int .i64 0]
    simp only [World.size_alloc] at n2 n3 n4
    exact ⟨((n1.alloc _).alloc _).alloc _, (n2.alloc _).alloc _, n3.alloc _, n4, (((hS.alloc _).alloc _).alloc _).alloc _, by
      rw [Below.heap_alloc _ _ _ (by simp; omega), Below.heap_alloc _ _ _ (by simp; omega), Below.heap_alloc _ _ _ (by simp; omega), Below.heap_alloc _ _ _ hml]; exact hm⟩
  have HL := Lib.hid (quiet_enters _ _ _ (lit_enters S m w.heap.size (w.heap.size + 1) (w.heap.size + 2) (w.heap.size + 3) i c es (.iface ty kv) parts 0 false _ (by omega) hsees hk hf0 hf1))
  clear hsees hk hf0 hf1 hS hm
  go_enter Tryd.func60, Tryd.ntmps60
  go_wp2_with fail
  refine HL.out.mono ?_
  rintro e w1 ⟨rfl, hs, ht⟩
  have a2 := hs.h2.cell 0
  have a5 := hs.h5.cell 0
  have a6 := hs.h6.cell 0
  have aS := hs.hS.cell 1
  simp only [List.getElem?_toArray, List.getElem?_cons_zero, List.getElem?_cons_succ] at a2 a5 a6 aS
  have HS := Lib.hid hs
  have HT := Lib.hid ht
  clear hs ht HL
  go_wp2_with fail
  go_ret
  refine ⟨rfl, HS.out.hS, HS.out.hm, ?_⟩
  have h0 : Turns [m] w ((((w.alloc (.cells #[.pointer (some ⟨S, 0, none⟩)] 119)).alloc (.cells #[.iface ty kv] 36)).alloc (.cells #[.int .i64 0] 3)).alloc (.cells #[.int .i64 0] 3)) := ((((Turns.refl _ _).alloc _).alloc _).alloc _).alloc _
  have h1 := HT.out
  exact ⟨h1.os.trans h0.os, h1.tape.trans h0.tape, h1.output.trans h0.output, Nat.le_trans h0.size h1.size, fun x hx hn => (h1.block x (by simp; omega) (by simp at hn ⊢; omega)).trans (h0.block x hx hn)⟩
end Go.Proofs.YtnejkgkikpgajaaDoor.ft
