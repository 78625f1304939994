/-
  Variables, nodes and types that are made of names, as they lie in rows of the law's own.
-/
import Derived.Test.YtjkkalhgbfbcbaaTrValC
import Derived.Test.YtjkkalhgbfbcbaaTrOpen
namespace Go.Proofs.Ytjkkalhgbfbcbaa.tr
open Go.ChangeShapes Go.WideShapes Go.ChangeAt Go.RowKit
set_option linter.unusedVariables false

def varC (s : ByteArray) : List Value := [.string s, .int .u8 0, .string ⟨#[]⟩, .slice none 0 0, .bool false, .int .u8 0, .int .u8 0, .int .i32 0, .string ⟨#[]⟩, .slice none 0 0, .slice none 0 0, .int .i64 0, .int .i64 0, .int .i64 0, .int .i64 0]
def nodeC (s : ByteArray) : List Value := [.string s, .slice none 0 0, .slice none 0 0, .slice none 0 0, .slice none 0 0, .int .i64 0, .int .i64 0]
/-- a row of names that came in: its address, its capacity, its names -/
structure Rw where
  at_ : Option Addr
  cap : Nat
  names : List ByteArray
def enumC (s : ByteArray) (r : Rw) : List Value := [.string s, .slice r.at_ r.names.length r.cap, .int .i64 0, .int .i64 0]

theorem flat_get {α : Type} (C : α → List Value) (sz : Nat) (hC : ∀ s, (C s).length = sz) : ∀ (l : List α) (i : Nat) (s : α), l[i]? = some s → ∀ j, j < sz → (l.flatMap C)[i * sz + j]? = (C s)[j]? := by
  intro l
  induction l with
  | nil => intro i s h; simp at h
  | cons x r ih =>
    intro i s h j hj
    rw [List.flatMap_cons]
    cases i with
    | zero =>
      simp only [List.getElem?_cons_zero, Option.some.injEq] at h
      subst h
      rw [Nat.zero_mul, Nat.zero_add, List.getElem?_append_left (by rw [hC]; exact hj)]
    | succ i =>
      rw [List.getElem?_append_right (by rw [hC, Nat.add_mul]; omega), hC, show (i + 1) * sz + j - sz = i * sz + j by rw [Nat.add_mul]; omega]
      exact ih i s (by simpa using h) j hj

theorem owned_slice {W : World} {B : Nat} {e : TypeId} {sz n : Nat} {v : Value} {xs : List Value} (h : W.ownsRow B e sz v n xs) :
    ∃ a c, v = .slice a n c ∧ ∀ i j x, i < n → j < sz → xs[i * sz + j]? = some x → ∃ b off, a = some ⟨b, off, none⟩ ∧ W.cell? ⟨b, off + (i * sz + j), none⟩ = some x := by
  rcases h.2 with ⟨rfl, h0⟩ | ⟨g, cap, cur, rfl, _, hh, h1, h2, h3, h4⟩
  · exact ⟨none, 0, by rw [h0], fun i j x hi _ _ => by omega⟩
  · refine ⟨some ⟨g, 0, none⟩, cap, rfl, fun i j x hi hj hx => ⟨g, 0, rfl, ?_⟩⟩
    have := h.cells (g := g) rfl (i * sz + j) x hx
    rw [add_plain] at this
    exact this
theorem names_owned {W : World} {B : Nat} {e : TypeId} {sz : Nat} {v : Value} {l : List ByteArray} (C : ByteArray → List Value) (hC : ∀ s, (C s).length = sz) (h0 : ∀ s, (C s)[0]? = some (.string s)) (hpos : 0 < sz)
    (h : W.ownsRow B e sz v l.length (l.flatMap C)) : ∃ a c, v = .slice a l.length c ∧ NamesAt sz W a l := by
  obtain ⟨a, c, rfl, hc⟩ := owned_slice h
  refine ⟨a, c, rfl, fun i s hi => ?_⟩
  have hil : i < l.length := (List.getElem?_eq_some_iff.1 hi).1
  obtain ⟨b, off, e, hx⟩ := hc i 0 (.string s) hil hpos (by rw [flat_get C sz hC l i s hi 0 hpos, h0])
  exact ⟨b, off, e, hx⟩
theorem enums_owned {W : World} {B : Nat} {e : TypeId} {v : Value} {nm : ByteArray} {l : List Rw} (hr : ∀ r ∈ l, r.names.length ≤ 40 ∧ Strs W r.at_ r.names)
    (h : W.ownsRow B e 4 v l.length (l.flatMap (enumC nm))) : ∃ a c, v = .slice a l.length c ∧ EnumsAt W a nm (l.map (·.names)) := by
  obtain ⟨a, c, rfl, hc⟩ := owned_slice h
  refine ⟨a, c, rfl, fun i cs hi => ?_⟩
  rw [List.getElem?_map] at hi
  obtain ⟨r, hr1, rfl⟩ := Option.map_eq_some_iff.1 hi
  have hil : i < l.length := (List.getElem?_eq_some_iff.1 hr1).1
  obtain ⟨h40, hs⟩ := hr r (List.mem_of_getElem? hr1)
  have hC : ∀ r, (enumC nm r).length = 4 := fun _ => rfl
  obtain ⟨b, off, e, hx⟩ := hc i 0 (.string nm) hil (by decide) (by rw [flat_get (enumC nm) 4 hC l i r hr1 0 (by decide)]; rfl)
  obtain ⟨b', off', e', hx'⟩ := hc i 1 (.slice r.at_ r.names.length r.cap) hil (by decide) (by rw [flat_get (enumC nm) 4 hC l i r hr1 1 (by decide)]; rfl)
  subst e
  simp only [Option.some.injEq, Addr.mk.injEq, and_true] at e'
  obtain ⟨rfl, rfl⟩ := e'
  exact ⟨h40, b, off, r.at_, r.cap, rfl, hx, hx', hs⟩

theorem own_apart {w : World} {B B' : Nat} {e e' : TypeId} {k k' n n' : Nat} {v v' : Value} {xs xs' : List Value} (h : w.ownsRow B e k v n xs) (h' : w.ownsRow B' e' k' v' n' xs') (hne : e ≠ e') : v.ownBlock = none ∨ v.ownBlock ≠ v'.ownBlock := by
  rcases h.2 with ⟨rfl, _⟩ | ⟨g, cap, cur, rfl, _, hh, _⟩
  · exact .inl rfl
  · rcases h'.2 with ⟨rfl, _⟩ | ⟨g', cap', cur', rfl, _, hh', _⟩
    · exact .inr (by simp [Value.ownBlock])
    · refine .inr fun hq => ?_
      have hg : g = g' := by simpa [Value.ownBlock] using hq
      subst hg
      rw [hh] at hh'
      injection hh' with hh'
      injection hh' with _ h2 _
      exact hne h2

theorem var_info : (Try.prog.info? 52).map (fun i => (i.zero, i.size, i.bytes)) = some (some (.agg (varC ⟨#[]⟩).toArray), 15, 176) := by kernel_rfl
theorem node_info : (Try.prog.info? 39).map (fun i => (i.zero, i.size, i.bytes)) = some (some (.agg (nodeC ⟨#[]⟩).toArray), 7, 128) := by kernel_rfl
theorem enum_info : (Try.prog.info? 58).map (fun i => (i.zero, i.size, i.bytes)) = some (some (.agg #[.string ⟨#[]⟩, .slice none 0 0, .int .i64 0, .int .i64 0]), 4, 56) := by kernel_rfl

/-- rows of names that came in -/
def Rowss (w : World) (a : Option Addr) (rs : List Rw) : Prop :=
  ∀ i r, rs[i]? = some r → ∃ b off, a = some ⟨b, off, none⟩ ∧ w.cell? ⟨b, off + i, none⟩ = some (.slice r.at_ r.names.length r.cap) ∧ Strs w r.at_ r.names ∧ r.names.length ≤ maxLen
section
variable {H : Type} {enc : TypeId × Value → H} {w : World} {base : Nat} {sp : Nat → Bool} {hd : Bool}
instance : Inhabited Rw := ⟨⟨none, 0, []⟩⟩
set_option maxRecDepth 100000 in
theorem open_rows {fuel : Nat} {v : List Value} {x : DataW H × List MemPlace} (h : DataW.trod enc Try.prog w base sp hd fuel 56 v = some x) :
    ∃ a rs c, v = [.slice a rs.length c] ∧ rs.length ≤ c ∧ c ≤ maxLen ∧ Rowss w a rs := by
  rcases Go.Deep.open_slice1 Try.underlying56 (by kernel_rfl) h with ⟨rfl, _⟩ | ⟨a, len, cap, m, n, V, D, Pl, rfl, hb, hl, hm, hmm, _, hc⟩
  · exact ⟨none, [], 0, rfl, Nat.le_refl _, by decide, fun i s hi => by simp at hi⟩
  · have hlm : len ≤ m := by rw [hmm]; split <;> omega
    have each : ∀ i, i < len → ∃ r : Rw, V i = .slice r.at_ r.names.length r.cap ∧ Strs w r.at_ r.names ∧ r.names.length ≤ maxLen := fun i hi => by
      obtain ⟨a1, nms, nc, e, h1, h2, h3⟩ := open_names (hc i (by omega)).2
      simp only [List.cons.injEq, and_true] at e
      exact ⟨⟨a1, nc, nms⟩, e, h3, Nat.le_trans h1 h2⟩
    obtain ⟨f, hf⟩ := Go.Deep.choose_lt (α := Rw) each
    refine ⟨some a, (List.range len).map f, cap, by simp, by simpa using hl, hm, fun i r hi => ?_⟩
    have hil : i < len := by
      have := (List.getElem?_eq_some_iff.1 hi).1
      simpa using this
    have hs : r = f i := by
      rw [List.getElem?_map, List.getElem?_range hil] at hi
      simpa using hi.symm
    subst hs
    obtain ⟨b, off, spot⟩ := a
    have hspot : spot = none := by
      have h0 := World.cell?_spot (hc 0 (by omega)).1
      simpa [Addr.add] using h0
    subst hspot
    have h1 := (hc i (by omega)).1
    rw [Go.WideShapes.add_plain, (hf i hil).1] at h1
    exact ⟨b, off, rfl, h1, (hf i hil).2⟩
end
end Go.Proofs.Ytjkkalhgbfbcbaa.tr
