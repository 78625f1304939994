/-
  Expressions that lie in blocks of which something is said (that they are not the counter's, say); positions aside.
-/
import Derived.Test.YtnejkgkikpgajaaDoorCkDefs
namespace Go.Proofs.YtnejkgkikpgajaaDoor.ck
open Go.ChangeShapes Go.WideShapes Go.ChangeAt Go.RowKit
open tr
set_option linter.unusedVariables false

def StrsP (w : World) (ok : Nat → Prop) (a : Option Addr) (l : List ByteArray) : Prop :=
  ∀ (i : Nat) (s : ByteArray), l[i]? = some s → ∃ b off, a = some ⟨b, off, none⟩ ∧ ok b ∧ w.cell? ⟨b, off + i, none⟩ = some (.string s) ∧ s.size ≤ maxLen
mutual
def LaidP (w : World) (ok : Nat → Prop) : Ex → List Value → Prop
  | .mk k o n nm nms kids l c, cs => k ≤ 255 ∧ o ≤ 255 ∧ nm.size ≤ maxLen ∧ nms.length ≤ maxLen ∧ kids.length ≤ 1000000 ∧ ∃ na nc ka kc, nms.length ≤ nc ∧ kids.length ≤ kc ∧
      cs = [.int .u8 k, .int .u8 o, .int .i32 n, .string nm, .slice na nms.length nc, .slice ka kids.length kc, .int .i64 l, .int .i64 c] ∧ StrsP w ok na nms ∧ LaidPK w ok ka kids
def LaidPK (w : World) (ok : Nat → Prop) (a : Option Addr) : List Ex → Prop
  | [] => True
  | x :: r => ∃ b off cs, a = some ⟨b, off, none⟩ ∧ ok b ∧ (∀ (j : Nat) (v : Value), cs[j]? = some v → w.cell? ⟨b, off + j, none⟩ = some v) ∧ LaidP w ok x cs ∧ LaidPK w ok (some ⟨b, off + 8, none⟩) r
end
theorem StrsP.keep {w w' : World} {ok ok' : Nat → Prop} (ho : ∀ b, b < w.heap.size → ok b → ok' b) (hw : ∀ b o v, ok b → w.cell? ⟨b, o, none⟩ = some v → w'.cell? ⟨b, o, none⟩ = some v) {a : Option Addr} {l : List ByteArray} (h : StrsP w ok a l) : StrsP w' ok' a l := fun i s hi => by
  obtain ⟨b, off, e, hb, hc, hz⟩ := h i s hi
  exact ⟨b, off, e, ho _ (World.block_lt_of_cell? w _ hc) hb, hw _ _ _ hb hc, hz⟩
theorem LaidP.len {w : World} {ok : Nat → Prop} {x : Ex} {cs : List Value} (h : LaidP w ok x cs) : cs.length = 8 := by
  cases x
  unfold LaidP at h
  obtain ⟨_, _, _, _, _, na, nc, ka, kc, _, _, e, _⟩ := h
  rw [e]; rfl
mutual
theorem LaidP.keep {w w' : World} {ok ok' : Nat → Prop} (ho : ∀ b, b < w.heap.size → ok b → ok' b) (hw : ∀ b o v, ok b → w.cell? ⟨b, o, none⟩ = some v → w'.cell? ⟨b, o, none⟩ = some v) : ∀ (x : Ex) (cs : List Value), LaidP w ok x cs → LaidP w' ok' x cs
  | .mk k o n nm nms kids l c, cs, h => by
    unfold LaidP at h ⊢
    obtain ⟨h1, h2, h3, h4, h5, na, nc, ka, kc, g1, g2, e, hs, hk⟩ := h
    exact ⟨h1, h2, h3, h4, h5, na, nc, ka, kc, g1, g2, e, hs.keep ho hw, LaidPK.keep ho hw ka kids hk⟩
theorem LaidPK.keep {w w' : World} {ok ok' : Nat → Prop} (ho : ∀ b, b < w.heap.size → ok b → ok' b) (hw : ∀ b o v, ok b → w.cell? ⟨b, o, none⟩ = some v → w'.cell? ⟨b, o, none⟩ = some v) : ∀ (a : Option Addr) (l : List Ex), LaidPK w ok a l → LaidPK w' ok' a l
  | _, [], _ => by unfold LaidPK; trivial
  | _, x :: r, h => by
    unfold LaidPK at h ⊢
    obtain ⟨b, off, cs, e, hb, hc, hx, hr⟩ := h
    have hlt : b < w.heap.size := by
      have h8 := hx.len
      have := hc 0 cs[0] (List.getElem?_eq_getElem (by omega))
      exact World.block_lt_of_cell? w _ this
    exact ⟨b, off, cs, e, ho _ hlt hb, fun j v hj => hw _ _ _ hb (hc j v hj), LaidP.keep ho hw x cs hx, LaidPK.keep ho hw _ r hr⟩
end
theorem LaidP.below {w w' : World} {ok : Nat → Prop} {x : Ex} {cs : List Value} (h : LaidP w ok x cs) (hb : Below w.heap.size w w') : LaidP w' ok x cs :=
  LaidP.keep (fun _ _ h => h) (fun b o v _ hc => (hb.cell (p := ⟨b, o, none⟩) (World.block_lt_of_cell? w _ hc)).trans hc) x cs h
theorem LaidP.mono {w : World} {ok ok' : Nat → Prop} (ho : ∀ b, b < w.heap.size → ok b → ok' b) {x : Ex} {cs : List Value} (h : LaidP w ok x cs) : LaidP w ok' x cs :=
  LaidP.keep ho (fun _ _ _ _ h => h) x cs h
theorem LaidPK.get {w : World} {ok : Nat → Prop} {a : Option Addr} {l : List Ex} (h : LaidPK w ok a l) (i : Nat) (hi : i < l.length) : ∃ b off cs, a = some ⟨b, off, none⟩ ∧ ok b ∧ (∀ (j : Nat) (v : Value), cs[j]? = some v → w.cell? ⟨b, off + i * 8 + j, none⟩ = some v) ∧ LaidP w ok l[i] cs := by
  induction l generalizing a i with
  | nil => simp at hi
  | cons x r ih =>
    unfold LaidPK at h
    obtain ⟨b, off, cs, rfl, hb, hc, hx, hr⟩ := h
    cases i with
    | zero => exact ⟨b, off, cs, rfl, hb, by simpa using hc, hx⟩
    | succ i =>
      obtain ⟨b', off', cs', e, hb', hc', hl⟩ := ih hr i (by simpa using hi)
      simp only [Option.some.injEq, Addr.mk.injEq] at e
      obtain ⟨rfl, rfl, _⟩ := e
      exact ⟨_, off, cs', rfl, hb', by rw [show off + (i + 1) * 8 = off + 8 + i * 8 by omega]; exact hc', hl⟩
theorem LaidP.shape {w : World} {ok : Nat → Prop} {x : Ex} {cs : Array Value} (h : LaidP w ok x cs.toList) : ∃ (k o : Nat) (n : Int) (nm : ByteArray) (na : Option Addr) (nl nc : Nat) (ka : Option Addr) (kl kc : Nat) (l c : Int), cs = #[.int .u8 k, .int .u8 o, .int .i32 n, .string nm, .slice na nl nc, .slice ka kl kc, .int .i64 l, .int .i64 c] := by
  cases x
  unfold LaidP at h
  obtain ⟨_, _, _, _, _, na, nc, ka, kc, _, _, e, _, _⟩ := h
  exact ⟨_, _, _, _, _, _, _, _, _, _, _, _, by apply Array.toList_inj.1; rw [e]⟩

mutual
/-- an expression without its places -/
def er : Ex → Ex
  | .mk k o n nm nms kids _ _ => .mk k o n nm nms (erK kids) 0 0
def erK : List Ex → List Ex
  | [] => []
  | x :: r => er x :: erK r
end
theorem erK_map (l : List Ex) : erK l = l.map er := by
  induction l with
  | nil => rfl
  | cons x r ih => unfold erK; rw [ih]; rfl
theorem erK_len (l : List Ex) : (erK l).length = l.length := by rw [erK_map, List.length_map]
theorem erK_app (l m : List Ex) : erK (l ++ m) = erK l ++ erK m := by rw [erK_map, erK_map, erK_map, List.map_append]
end Go.Proofs.YtnejkgkikpgajaaDoor.ck
