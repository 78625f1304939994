/-
  A row of expressions that an append makes: its cells as one list; the owned row as it lies.
-/
import Derived.Test.YtnejkgkikpgajaaDoorCkLaid
import Derived.Deep.AppendLies
namespace Go.Proofs.YtnejkgkikpgajaaDoor.ck
open Go.ChangeShapes Go.WideShapes Go.ChangeAt Go.RowKit
open tr
set_option linter.unusedVariables false

theorem owned_cells {W : World} {base : Nat} {e : TypeId} {size n : Nat} {v : Value} {xs : List Value} (h : W.ownsRow base e size v n xs) :
    ∃ a c, v = .slice a n c ∧ n ≤ c ∧ (a = none → c = 0 ∧ n = 0) ∧ ∀ k u, xs[k]? = some u → ∃ g, a = some ⟨g, 0, none⟩ ∧ base ≤ g ∧ W.cell? ⟨g, k, none⟩ = some u := by
  obtain ⟨hl, hv⟩ := h
  rcases hv with ⟨rfl, rfl⟩ | ⟨g, cap, cur, rfl, hb, hg, hn, hm, hs, ht⟩
  · refine ⟨none, 0, rfl, Nat.le_refl _, fun _ => ⟨rfl, rfl⟩, fun k u hk => ?_⟩
    have : k < xs.length := (List.getElem?_eq_some_iff.1 hk).1
    omega
  · refine ⟨_, _, rfl, hn, (fun e => by cases e), fun k u hk => ⟨g, rfl, hb, ?_⟩⟩
    have hkl : k < xs.length := (List.getElem?_eq_some_iff.1 hk).1
    rw [cell_of_row W g k cur e (0, 0) hg]
    rw [← ht, List.getElem?_take] at hk
    split at hk
    · simpa using hk
    · cases hk

/-- the cells of some expressions, one behind the other -/
def CellsE (w : World) (ok : Nat → Prop) : List Ex → List Value → Prop
  | [], xs => xs = []
  | x :: r, xs => ∃ cs ys, xs = cs ++ ys ∧ LaidP w ok x cs ∧ CellsE w ok r ys
theorem CellsE.len {w : World} {ok : Nat → Prop} : ∀ {L : List Ex} {xs : List Value}, CellsE w ok L xs → xs.length = L.length * 8
  | [], _, h => by rw [CellsE] at h; rw [h]; rfl
  | x :: r, _, ⟨cs, ys, e, h1, h2⟩ => by rw [e, List.length_append, h1.len, h2.len, List.length_cons]; omega
theorem CellsE.app {w : World} {ok : Nat → Prop} : ∀ {L M : List Ex} {xs ys : List Value}, CellsE w ok L xs → CellsE w ok M ys → CellsE w ok (L ++ M) (xs ++ ys)
  | [], _, _, _, h, k => by rw [CellsE] at h; rw [h]; exact k
  | x :: r, _, _, _, ⟨cs, zs, e, h1, h2⟩, k => ⟨cs, zs ++ _, by rw [e, List.append_assoc], h1, h2.app k⟩
theorem CellsE.one {w : World} {ok : Nat → Prop} {x : Ex} {cs : List Value} (h : LaidP w ok x cs) : CellsE w ok [x] cs := ⟨cs, [], by simp, h, rfl⟩
theorem CellsE.keep {w w' : World} {ok ok' : Nat → Prop} (ho : ∀ b, b < w.heap.size → ok b → ok' b) (hw : ∀ b o v, ok b → w.cell? ⟨b, o, none⟩ = some v → w'.cell? ⟨b, o, none⟩ = some v) : ∀ {L : List Ex} {xs : List Value}, CellsE w ok L xs → CellsE w' ok' L xs
  | [], _, h => h
  | x :: r, _, ⟨cs, ys, e, h1, h2⟩ => ⟨cs, ys, e, LaidP.keep ho hw _ _ h1, h2.keep ho hw⟩
theorem CellsE.row {w : World} {ok : Nat → Prop} {g : Nat} (hg : ok g) : ∀ {L : List Ex} {xs : List Value} (o : Nat), CellsE w ok L xs → (∀ k u, xs[k]? = some u → w.cell? ⟨g, o + k, none⟩ = some u) → LaidPK w ok (some ⟨g, o, none⟩) L
  | [], _, _, _, _ => by unfold LaidPK; trivial
  | x :: r, _, o, ⟨cs, ys, e, h1, h2⟩, hc => by
    unfold LaidPK
    have h8 := h1.len
    refine ⟨g, o, cs, rfl, hg, fun j v hj => hc j v ?_, h1, CellsE.row hg (o + 8) h2 fun k u hk => ?_⟩
    · rw [e, List.getElem?_append_left (List.getElem?_eq_some_iff.1 hj).1]; exact hj
    · have := hc (8 + k) u (by rw [e, List.getElem?_append_right (by omega), h8]; simpa using hk)
      rw [show o + 8 + k = o + (8 + k) by omega]; exact this
/-- an owned row of expressions lies -/
theorem exs_owned {w : World} {ok : Nat → Prop} {base : Nat} {v : Value} {L : List Ex} {xs : List Value} (h : w.ownsRow base 29 8 v L.length xs) (hc : CellsE w ok L xs) (hok : ∀ g, base ≤ g → ok g) :
    ∃ a c, v = .slice a L.length c ∧ L.length ≤ c ∧ (a = none → c = 0 ∧ L.length = 0) ∧ LaidPK w ok a L := by
  obtain ⟨a, c, e, hn, h0, hcell⟩ := owned_cells h
  refine ⟨a, c, e, hn, h0, ?_⟩
  cases L with
  | nil => unfold LaidPK; trivial
  | cons x r =>
    have hl := hc.len
    have hpos : 0 < xs.length := by rw [hl, List.length_cons]; omega
    obtain ⟨g, rfl, hb, _⟩ := hcell 0 xs[0] (List.getElem?_eq_getElem hpos)
    refine CellsE.row (hok g hb) 0 hc fun k u hk => ?_
    obtain ⟨g', e', _, hcl⟩ := hcell k u hk
    simp only [Option.some.injEq, Addr.mk.injEq, and_true] at e'
    subst e'
    rw [Nat.zero_add]; exact hcl
end Go.Proofs.YtnejkgkikpgajaaDoor.ck
