/-
  once of package tree: skip and add: their walks.
-/
import Derived.Test.YtjkkalhgbfbcbaaTrEx
import Derived.Maps.Own
import Derived.Maps.OwnOps
import Derived.Maps.OwnSet
import Derived.Maps.Views
import Derived.Laws.AppendOwn
import Derived.Deep.AppendLies
import Derived.Outline
import Derived.WalkSpells
import Derived.StringKeys
namespace Go.Proofs.Ytjkkalhgbfbcbaa.tr
open Go.ChangeShapes Go.WideShapes Go.ChangeAt Go.RowKit Go.Maps Go.WideMaps
set_option linter.unusedVariables false

theorem lawS : Keyed Try.prog 9 := string_keyed Try.underlying9
theorem zeroU (w : World) : (zeroValue 128).run Try.prog w = .ok (.agg #[]) w := by kernel_rfl
theorem str_info : (Try.prog.info? 9).map (fun i => (i.zero, i.size, i.bytes)) = some (some (.string ⟨#[]⟩), 1, 16) := by kernel_rfl

/-- the set of these names -/
def setN (l : List ByteArray) : DataW Unit := setOf (.agg []) (l.map fun s => Lit.string s.data.toList)

def strV (s : ByteArray) : Value := .string s

/-- a list of names, each once, as it lies: at most n so far -/
structure IsOnce (w : World) (B g n : Nat) (ns : List ByteArray) (lv mv : Value) : Prop where
  has : Has w g 96 #[lv, mv]
  own : w.ownsRow B 9 1 lv ns.length (ns.map strV)
  map : (mv = .map none ∧ ns = []) ∨ ∃ m, mv = .map (some m) ∧ w.ownsMap Try.prog 9 unitElem m n (setN ns) ∧ B ≤ m
  len : ns.length ≤ n
  base : B ≤ g

theorem grown_far {a b c : World} {g m : Nat} (h1 : a.grownBy b (some g)) (h2 : b.grownBy c (some m)) (hm : a.heap.size ≤ m) : a.grownBy c (some g) :=
  ⟨h2.os.trans h1.os, h2.tape.trans h1.tape, h2.output.trans h1.output, Nat.le_trans h1.size h2.size, fun k hk hne => (h2.block k (Nat.lt_of_lt_of_le hk h1.size) (fun e => by injection e with e; omega)).trans (h1.block k hk hne)⟩
theorem grown_none {a b c : World} {g : Nat} (h1 : a.grownBy b (some g)) (h2 : b.grownBy c none) : a.grownBy c (some g) :=
  ⟨h2.os.trans h1.os, h2.tape.trans h1.tape, h2.output.trans h1.output, Nat.le_trans h1.size h2.size, fun k hk hne => (h2.block k (Nat.lt_of_lt_of_le hk h1.size) (by simp)).trans (h1.block k hk hne)⟩

theorem eqNil (w : World) (r : Option Nat) : (binOp .eql 94 (.map r) (.map none)).run Try.prog w = .ok (.bool r.isNone) w := Go.run_eql_map_nil w _ 9 128 r Try.underlying94

set_option maxRecDepth 100000 in
theorem skip_none (w : World) (g : Nat) (lv : Value) (s : ByteArray) (hs : s.size ≤ maxLen) (hh : Has w g 96 #[lv, .map none]) :
    Calls Try.prog 66 #[.pointer (some ⟨g, 0, none⟩), .string s] w fun e w' => e = .returned (.tuple #[]) ∧ ∃ m, Has w' g 96 #[lv, .map (some m)] ∧ w'.ownsMap Try.prog 9 unitElem m 1 (setN [s]) ∧ w.heap.size ≤ m ∧ w.grownBy w' (some g) := by
  have hmm := @run_makeMap Try.prog
  have hkey : keyOf Try.prog 9 (.string s) = some (.string s.data.toList) := keyOf_string_mk Try.underlying9 hs
  have c0 := hh.cell 0
  have c1 := hh.cell 1
  have f1 := hh.free 1
  have lt := hh.lt
  simp only [List.getElem?_toArray, List.getElem?_cons_zero, List.getElem?_cons_succ] at c0 c1
  have hq := eqNil w none
  have HH := Lib.hid hh
  clear hh
  go_enter Try.func66, Try.ntmps66
  have hz : (w.setCell ⟨g, 1, none⟩ (.map (some w.heap.size))).heap.size = w.heap.size := by simp [World.setCell]
  have hmade := World.ownsMap_made (w.setCell ⟨g, 1, none⟩ (.map (some w.heap.size))) Try.prog 9 (unitElem (H := Unit))
  rw [hz] at hmade
  have HZ := Lib.hid hz
  have HM := Lib.hid hmade
  clear hz hmade
  go_wp2_with (at_mapUpdate; refine wpList_mapUpdate_own _ rfl _ _ _ 94 rfl 9 128 lawS Try.underlying94 (unitElem (H := Unit)) w.heap.size 0 (.map []) rfl HM.out (by unfold maxLen; omega) _ _ _ rfl rfl hkey _ [] unitElem_mk ?_; intro w1 hown1 hgrow1)
  go_end0
  have h1 := (HH.out.put 1 (.map (some w.heap.size))).alloc (.map #[] 0)
  simp only [List.setIfInBounds_toArray, List.set_cons_zero, List.set_cons_succ] at h1
  exact ⟨rfl, w.heap.size, h1.grown hgrow1 (fun e => by injection e with e; omega), hown1, Nat.le_refl _, grown_far (grown_none (grown_put (grown_refl w (some g)) 1 _) (World.grownBy_alloc _ _ none)) hgrow1 (Nat.le_refl _)⟩

set_option maxRecDepth 100000 in
theorem skip_some (w : World) (g m n : Nat) (lv : Value) (D : DataW Unit) (s : ByteArray) (hs : s.size ≤ maxLen) (hn : n < maxLen) (hh : Has w g 96 #[lv, .map (some m)]) (hm : w.ownsMap Try.prog 9 unitElem m n D) (hne : g ≠ m) :
    Calls Try.prog 66 #[.pointer (some ⟨g, 0, none⟩), .string s] w fun e w' => e = .returned (.tuple #[]) ∧ Has w' g 96 #[lv, .map (some m)] ∧ w'.ownsMap Try.prog 9 unitElem m (n + 1) (D.put (.string s.data.toList) (.agg [])) ∧ w.grownBy w' (some m) := by
  have hkey : keyOf Try.prog 9 (.string s) = some (.string s.data.toList) := keyOf_string_mk Try.underlying9 hs
  have c0 := hh.cell 0
  have c1 := hh.cell 1
  have f1 := hh.free 1
  have lt := hh.lt
  simp only [List.getElem?_toArray, List.getElem?_cons_zero, List.getElem?_cons_succ] at c0 c1
  have hq := eqNil w (some m)
  have HNE := Lib.hid hne
  clear hne
  have HH := Lib.hid hh
  clear hh
  go_enter Try.func66, Try.ntmps66
  go_wp2_with (at_mapUpdate; refine wpList_mapUpdate_own _ rfl _ _ _ 94 rfl 9 128 lawS Try.underlying94 (unitElem (H := Unit)) m n D rfl hm hn _ _ _ rfl rfl hkey _ [] unitElem_mk ?_; intro w1 hown1 hgrow1)
  go_end0
  exact ⟨rfl, HH.out.grown hgrow1 (fun e => by injection e with e; exact HNE.out e), hown1, hgrow1⟩

theorem has_setN (ns : List ByteArray) (s : ByteArray) : Maps.has (setN ns) (Lit.string s.data.toList) = ns.any (fun x => x.data.toList == s.data.toList) := by
  unfold setN
  rw [has_setOf _ _ _ (fun y hy => by obtain ⟨_, _, rfl⟩ := List.mem_map.1 hy; trivial), List.any_map]
  rfl

theorem setN_snoc (ns : List ByteArray) (s : ByteArray) : setN (ns ++ [s]) = (setN ns).put (.string s.data.toList) (.agg []) := by
  unfold setN
  rw [List.map_append, List.map_singleton, setOf_snoc]

def AddPost (B g n : Nat) (ns : List ByteArray) (w : World) (e : Ending) (w' : World) : Prop := e = .returned (.tuple #[]) ∧ (∃ lv mv, IsOnce w' B g n ns lv mv) ∧ Below B w w'

theorem below_at {B : Nat} {w w' : World} {g : Nat} (hg : w.grownBy w' (some g)) (hB : B ≤ w.heap.size) (h : B ≤ g) : Below B w w' := (Below.refl B w).grown hg hB (fun k hk => by injection hk with hk; omega)

theorem own_ne_map {w : World} {B : Nat} {e : TypeId} {k n m j : Nat} {v : Value} {xs : List Value} {D : DataW Unit} (ho : w.ownsRow B e k v n xs) (hm : w.ownsMap Try.prog 9 unitElem m j D) : some m ≠ v.ownBlock := by
  rcases ho.2 with ⟨rfl, _⟩ | ⟨g', cap, cur, rfl, _, hh, _⟩
  · simp [Value.ownBlock]
  · intro he
    have e1 : m = g' := by simpa [Value.ownBlock] using he
    subst e1
    obtain ⟨es, clock, hb, _⟩ := hm
    rw [hh] at hb
    cases hb
theorem has_ne_map {w : World} {g m j : Nat} {t : TypeId} {cs : Array Value} {D : DataW Unit} (h : Has w g t cs) (hm : w.ownsMap Try.prog 9 unitElem m j D) : m ≠ g := by
  intro e
  subst e
  obtain ⟨es, clock, hb, _⟩ := hm
  unfold Has at h
  rw [h] at hb
  cases hb

/-- behind the append -/
theorem add_end {w w1 w3 : World} {B g m n j : Nat} {lv v' : Value} {ns : List ByteArray} {s : ByteArray} (hb1 : Below B w w1) (hBz : B ≤ w1.heap.size) (h1 : Has w1 g 96 #[lv, .map (some m)]) (own1 : w1.ownsRow B 9 1 lv ns.length (ns.map strV))
    (hm1 : w1.ownsMap Try.prog 9 unitElem m j (setN (ns ++ [s]))) (hBm : B ≤ m) (hBg : B ≤ g) (hj : j ≤ n + 1) (hl : ns.length ≤ n) (h3 : Has w3 g 96 #[lv, .map (some m)])
    (hown3 : w3.ownsRow B 9 1 v' (ns.length + 1) (ns.map strV ++ [.string s])) (hgr3 : (w1.alloc (.cells #[.string s] 9)).grownBy w3 lv.ownBlock) :
    (∃ lv mv, IsOnce (w3.setCell ⟨g, 0, none⟩ v') B g (n + 1) (ns ++ [s]) lv mv) ∧ Below B w (w3.setCell ⟨g, 0, none⟩ v') := by
  have hne := own_ne_map own1 hm1
  have hmg := has_ne_map h1 hm1
  refine ⟨⟨v', .map (some m), ?_, ?_, .inr ⟨m, rfl, ?_, hBm⟩, by simp; omega, hBg⟩, ?_⟩
  · exact h3.put 0 v'
  · have := hown3.kept (grown_put (grown_refl w3 (some g)) 0 v') (.inr (h3.own_ne hown3 (by decide)))
    simpa [strV] using this
  · exact (((hm1.alloc (.cells #[.string s] 9)).kept hgr3 hne).setCell (a := ⟨g, 0, none⟩) hmg v').mono hj
  · exact ((hb1.alloc hBz _).grown hgr3 (by simp only [World.size_alloc]; omega) (fun k hk => (own1.lt k hk).1)).setCell (p := ⟨g, 0, none⟩) hBg _

theorem str_news (W : World) (b : Nat) (hb : b = W.heap.size) (s : ByteArray) : ∀ j u, ([.string s] : List Value)[j]? = some u → (W.alloc (.cells #[.string s] 9)).cell? ((⟨b, 0, none⟩ : Addr).add j) = some u := by
  intro j u hj
  subst hb
  have := (Has.new W 9 #[.string s]).cell j
  rw [add_plain, Nat.zero_add, this]
  simpa using hj
theorem str_one (s : ByteArray) : ∀ u ∈ ([.string s] : List Value), u.oneCell' = true := by
  intro u hu
  simp only [List.mem_cons, List.not_mem_nil, or_false] at hu
  subst hu; rfl

set_option maxRecDepth 100000 in
set_option maxHeartbeats 2000000 in
theorem add_first (w : World) (B g n : Nat) (lv : Value) (s : ByteArray) (hs : s.size ≤ maxLen) (hn : n ≤ 1000000) (hB : B ≤ w.heap.size) (h : IsOnce w B g n [] lv (.map none)) :
    Calls Try.prog 39 #[.pointer (some ⟨g, 0, none⟩), .string s] w (AddPost B g (n + 1) [s] w) := by
  obtain ⟨i0, hi, hi0, hi1, hi2⟩ := info_parts str_info
  have hkey : keyOf Try.prog 9 (.string s) = some (.string s.data.toList) := keyOf_string_mk Try.underlying9 hs
  have hlk : (Instr.lookup 94 (.map none) (.string s) true).run Try.prog w = .ok (.tuple #[.agg #[], .bool false]) w := Maps.look_nil true lawS Try.underlying94 (zeroU w) hkey
  have c1 := h.has.cell 1
  have lt := h.has.lt
  simp only [List.getElem?_toArray, List.getElem?_cons_zero, List.getElem?_cons_succ] at c1
  have H := Lib.hid h
  clear h
  go_enter Try.func39, Try.ntmps39
  go_wp2_with fail
  refine (skip_none (w.alloc (.cells #[] 128)) g lv s hs (H.out.has.alloc _)).mono ?_
  rintro e w1 ⟨rfl, m, h1, hm1, hmle, hg1⟩
  simp only [World.size_alloc] at hmle
  have hb1 : Below B w w1 := ((Below.refl B w).alloc hB _).trans ((below_at hg1 (by simp only [World.size_alloc]; omega) H.out.base).mono (Nat.le_refl _))
  have own1 : w1.ownsRow B 9 1 lv 0 [] := (H.out.own.alloc _).kept hg1 (.inr (H.out.has.own_ne H.out.own (by decide)))
  have d0 := h1.cell 0
  have f0 := h1.free 0
  have lt1 := h1.lt
  simp only [List.getElem?_toArray, List.getElem?_cons_zero] at d0
  have HMB : Hid (B ≤ m) := Lib.hid (by omega)
  have H1 := Lib.hid h1
  have HM1 := Lib.hid hm1
  have HB1 := Lib.hid hb1
  have OWN1 := Lib.hid own1
  clear h1 hm1 hb1 own1 hlk
  have HBZ : Hid (B ≤ w1.heap.size) := Lib.hid (by have := hg1.size; simp only [World.size_alloc] at this; omega)
  clear hg1
  have HC3 : Hid (0 + 1 ≤ maxLen) := Lib.hid (by unfold maxLen; omega)
  have HC4 : Hid ((0 + 1) * 16 ≤ 140737488355328) := Lib.hid (by omega)
  have hBs := HB1.out.size
  have HC5 : Hid (B ≤ (w1.alloc (.cells #[.string s] 9)).heap.size) := Lib.hid (by simp only [World.size_alloc]; have := HBZ.out; omega)
  go_wp2_with (at_builtin; refine wpList_append_own _ rfl _ _ 41 rfl B 9 i0 (.string ⟨#[]⟩) 1 16 Try.underlying41 hi hi0 hi1 hi2 rfl (by decide) _ _ _ rfl (OWN1.out.alloc _) ⟨w1.heap.size, 0, none⟩ 1 1 [.string s] rfl rfl (str_news w1 _ rfl s) (str_one s) HC3.out HC4.out HC5.out ?_; intro v' w3 hown3 hgr3 _; have hown3 : w3.ownsRow B 9 1 v' (0 + 1) ([] ++ [.string s]) := hown3; obtain ⟨gq, capq, hv, _, _⟩ := World.ownsRow.form hown3 (by omega); subst hv; have h3 := (H1.out.alloc (.cells #[.string s] 9)).grown hgr3 (fun e => (H1.out.own_ne OWN1.out (by decide)) e.symm); have d3 := h3.cell 0; have f3 := h3.free 0; have lt3 := h3.lt; simp only [List.getElem?_toArray, List.getElem?_cons_zero] at d3; have H3 := Lib.hid h3; have HOWN3 := Lib.hid hown3; have HGR3 := Lib.hid hgr3; clear h3 hown3 hgr3)
  have hfin := add_end (n := n) (j := 1) (ns := []) (s := s) HB1.out HBZ.out H1.out OWN1.out HM1.out HMB.out H.out.base (by omega) (by simp) H3.out HOWN3.out HGR3.out
  have HFIN := Lib.hid hfin
  clear hfin
  go_end0
  exact ⟨rfl, HFIN.out⟩

set_option maxRecDepth 100000 in
set_option maxHeartbeats 2000000 in
theorem add_new (w : World) (B g n m : Nat) (ns : List ByteArray) (lv : Value) (s : ByteArray) (hs : s.size ≤ maxLen) (hn : n ≤ 1000000) (hB : B ≤ w.heap.size) (h : IsOnce w B g n ns lv (.map (some m))) (hno : Maps.has (setN ns) (Lit.string s.data.toList) = false) :
    Calls Try.prog 39 #[.pointer (some ⟨g, 0, none⟩), .string s] w (AddPost B g (n + 1) (ns ++ [s]) w) := by
  obtain ⟨i0, hi, hi0, hi1, hi2⟩ := info_parts str_info
  have hkey : keyOf Try.prog 9 (.string s) = some (.string s.data.toList) := keyOf_string_mk Try.underlying9 hs
  have hmp := h.map
  rcases hmp with ⟨e, _⟩ | ⟨m', e, hm, hBm⟩
  · cases e
  simp only [Value.map.injEq, Option.some.injEq] at e
  subst e
  have c1 := h.has.cell 1
  have lt := h.has.lt
  simp only [List.getElem?_toArray, List.getElem?_cons_zero, List.getElem?_cons_succ] at c1
  have hnl := h.len
  have hgm := has_ne_map h.has hm
  have H := Lib.hid h
  have HM := Lib.hid hm
  clear h hm
  go_enter Try.func39, Try.ntmps39
  go_wp2_with (first | (at_lookup; refine wpList_lookup_own_unit _ rfl _ _ 94 rfl 9 128 lawS Try.underlying94 (zeroU _) m n (setN ns) rfl HM.out _ _ rfl hkey ?_) | fail)
  refine (skip_some (w.alloc (.cells #[] 128)) g m n lv (setN ns) s hs (by unfold maxLen; omega) (H.out.has.alloc _) (HM.out.alloc _) (Ne.symm hgm)).mono ?_
  rintro e w1 ⟨rfl, h1, hm1, hg1⟩
  rw [← setN_snoc] at hm1
  have hb1 : Below B w w1 := ((Below.refl B w).alloc hB _).trans ((below_at hg1 (by simp only [World.size_alloc]; omega) hBm).mono (Nat.le_refl _))
  have own1 : w1.ownsRow B 9 1 lv ns.length (ns.map strV) := (H.out.own.alloc _).kept hg1 (.inr (fun e => own_ne_map (H.out.own.alloc (.cells #[] 128)) (HM.out.alloc (.cells #[] 128)) e.symm))
  have d0 := h1.cell 0
  have f0 := h1.free 0
  have lt1 := h1.lt
  simp only [List.getElem?_toArray, List.getElem?_cons_zero] at d0
  have HMB : Hid (B ≤ m) := Lib.hid (by omega)
  have H1 := Lib.hid h1
  have HM1 := Lib.hid hm1
  have HB1 := Lib.hid hb1
  have OWN1 := Lib.hid own1
  clear h1 hm1 hb1 own1
  have HBZ : Hid (B ≤ w1.heap.size) := Lib.hid (by have := hg1.size; simp only [World.size_alloc] at this; omega)
  clear hg1
  have HC3 : Hid (ns.length + 1 ≤ maxLen) := Lib.hid (by unfold maxLen; omega)
  have HC4 : Hid ((ns.length + 1) * 16 ≤ 140737488355328) := Lib.hid (by omega)
  have hBs := HB1.out.size
  have HC5 : Hid (B ≤ (w1.alloc (.cells #[.string s] 9)).heap.size) := Lib.hid (by simp only [World.size_alloc]; have := HBZ.out; omega)
  go_wp2_with (at_builtin; refine wpList_append_own _ rfl _ _ 41 rfl B 9 i0 (.string ⟨#[]⟩) 1 16 Try.underlying41 hi hi0 hi1 hi2 rfl (by decide) _ _ _ rfl (OWN1.out.alloc _) ⟨w1.heap.size, 0, none⟩ 1 1 [.string s] rfl rfl (str_news w1 _ rfl s) (str_one s) HC3.out HC4.out HC5.out ?_; intro v' w3 hown3 hgr3 _; have hown3 : w3.ownsRow B 9 1 v' (ns.length + 1) (ns.map strV ++ [.string s]) := hown3; obtain ⟨gq, capq, hv, _, _⟩ := World.ownsRow.form hown3 (by omega); subst hv; have h3 := (H1.out.alloc (.cells #[.string s] 9)).grown hgr3 (fun e => (H1.out.own_ne OWN1.out (by decide)) e.symm); have d3 := h3.cell 0; have f3 := h3.free 0; have lt3 := h3.lt; simp only [List.getElem?_toArray, List.getElem?_cons_zero] at d3; have H3 := Lib.hid h3; have HOWN3 := Lib.hid hown3; have HGR3 := Lib.hid hgr3; clear h3 hown3 hgr3)
  have hfin := add_end (n := n) (j := n + 1) (ns := ns) (s := s) HB1.out HBZ.out H1.out OWN1.out HM1.out HMB.out H.out.base (by omega) hnl H3.out HOWN3.out HGR3.out
  have HFIN := Lib.hid hfin
  clear hfin
  go_end0
  exact ⟨rfl, HFIN.out⟩

set_option maxRecDepth 100000 in
theorem add_old (w : World) (B g n m : Nat) (ns : List ByteArray) (lv : Value) (s : ByteArray) (hs : s.size ≤ maxLen) (hn : n ≤ 1000000) (hB : B ≤ w.heap.size) (h : IsOnce w B g n ns lv (.map (some m))) (hno : Maps.has (setN ns) (Lit.string s.data.toList) = true) :
    Calls Try.prog 39 #[.pointer (some ⟨g, 0, none⟩), .string s] w (AddPost B g (n + 1) ns w) := by
  have hkey : keyOf Try.prog 9 (.string s) = some (.string s.data.toList) := keyOf_string_mk Try.underlying9 hs
  have hmp := h.map
  rcases hmp with ⟨e, _⟩ | ⟨m', e, hm, hBm⟩
  · cases e
  simp only [Value.map.injEq, Option.some.injEq] at e
  subst e
  have c1 := h.has.cell 1
  have lt := h.has.lt
  simp only [List.getElem?_toArray, List.getElem?_cons_zero, List.getElem?_cons_succ] at c1
  have H := Lib.hid h
  have HM := Lib.hid hm
  clear h hm
  go_enter Try.func39, Try.ntmps39
  go_wp2_with (first | (at_lookup; refine wpList_lookup_own_unit _ rfl _ _ 94 rfl 9 128 lawS Try.underlying94 (zeroU _) m n (setN ns) rfl HM.out _ _ rfl hkey ?_) | fail)
  go_end0
  exact ⟨rfl, ⟨lv, .map (some m), H.out.has.alloc _, H.out.own.alloc _, .inr ⟨m, rfl, (HM.out.alloc _).mono (by omega), hBm⟩, by have := H.out.len; omega, H.out.base⟩, (Below.refl B w).alloc hB _⟩

/-- add, whatever is there -/
theorem add_any (w : World) (B g n : Nat) (ns : List ByteArray) (lv mv : Value) (s : ByteArray) (hs : s.size ≤ maxLen) (hn : n ≤ 1000000) (hB : B ≤ w.heap.size) (h : IsOnce w B g n ns lv mv) :
    Calls Try.prog 39 #[.pointer (some ⟨g, 0, none⟩), .string s] w (AddPost B g (n + 1) (addN ns s) w) := by
  rcases h.map with ⟨rfl, rfl⟩ | ⟨m, rfl, hm, hBm⟩
  · exact add_first w B g n lv s hs hn hB h
  · have hh := has_setN ns s
    unfold addN
    rw [← hh]
    cases hb : Maps.has (setN ns) (Lit.string s.data.toList)
    · exact add_new w B g n m ns lv s hs hn hB h hb
    · exact add_old w B g n m ns lv s hs hn hB h hb
end Go.Proofs.Ytjkkalhgbfbcbaa.tr
