/-
  The law's four constants: a number, a truth, the constructors of two types; what each side's expr answers at each.
-/
import Derived.Test.YtkjfodbdkacjfaaDoorTyRTop
import Derived.Lib.Strings
namespace Go.Proofs.YtkjfodbdkacjfaaDoor.ty
open Go.ChangeShapes Go.WideShapes Go.ChangeAt Go.RowKit
open Go.Proofs.YtkjfodbdkacjfaaDoor.lx (Has grown_refl grown_put grown_below)
set_option linter.unusedVariables false

def bA : ByteArray := ⟨#[65]⟩
def bB : ByteArray := ⟨#[66]⟩
def bt : ByteArray := ⟨#[116]⟩
def bu : ByteArray := ⟨#[117]⟩

/-- the law's two types, as they lie -/
def Env (w : World) (eb : Nat) : Prop :=
  ∃ a b, Has w eb 26 #[.string bt, .slice (some ⟨a, 0, none⟩) 1 1, .int .i64 0, .int .i64 0, .string bu, .slice (some ⟨b, 0, none⟩) 1 1, .int .i64 0, .int .i64 0] ∧ Has w a 9 #[.string bA] ∧ Has w b 9 #[.string bB]
theorem Env.below {w w' : World} {eb : Nat} (h : Env w eb) (hb : Below w.heap.size w w') : Env w' eb := by
  obtain ⟨a, b, h1, h2, h3⟩ := h
  exact ⟨a, b, h1.below hb h1.lt, h2.below hb h2.lt, h3.below hb h3.lt⟩
def two : List (List ByteArray) := [[bA], [bB]]
theorem Env.ctors {w : World} {eb : Nat} (h : Env w eb) : CtorsAt w (some ⟨eb, 0, none⟩) two := by
  obtain ⟨a, b, h1, h2, h3⟩ := h
  intro i cs hi
  unfold two at hi
  match i, hi with
  | 0, hi =>
    simp only [List.getElem?_cons_zero, Option.some.injEq] at hi
    subst hi
    refine ⟨by simp, eb, 0, some ⟨a, 0, none⟩, 1, rfl, (h1.cell 1).trans rfl, ?_⟩
    intro j s hj
    match j, hj with
    | 0, hj =>
      simp only [List.getElem?_cons_zero, Option.some.injEq] at hj
      subst hj
      exact ⟨a, 0, rfl, (h2.cell 0).trans rfl, by decide⟩
    | j + 1, hj => simp at hj
  | 1, hi =>
    simp only [List.getElem?_cons_zero, List.getElem?_cons_succ, Option.some.injEq] at hi
    subst hi
    refine ⟨by simp, eb, 0, some ⟨b, 0, none⟩, 1, rfl, (h1.cell 5).trans rfl, ?_⟩
    intro j s hj
    match j, hj with
    | 0, hj =>
      simp only [List.getElem?_cons_zero, Option.some.injEq] at hj
      subst hj
      exact ⟨b, 0, rfl, (h3.cell 0).trans rfl, by decide⟩
    | j + 1, hj => simp at hj
  | i + 2, hi => simp at hi

/-- the four: kind, number, name; the type's kind, its name -/
structure Ct where
  k : Int
  n : Int
  s : ByteArray
  tk : Int
  tn : ByteArray
def ct : Nat → Ct
  | 0 => ⟨1, 3, noT, 2, noT⟩
  | 1 => ⟨2, 1, noT, 1, noT⟩
  | 2 => ⟨3, 0, bA, 3, bt⟩
  | _ => ⟨3, 0, bB, 3, bu⟩
/-- an enum's row, or none at all -/
def Row (w : World) (en : Value) (j : Nat) : Prop := j < 2 ∨ ∃ eb, en = .slice (some ⟨eb, 0, none⟩) 2 2 ∧ Env w eb
theorem Row.below {w w' : World} {en : Value} {j : Nat} (h : Row w en j) (hb : Below w.heap.size w w') : Row w' en j := by
  rcases h with h | ⟨eb, e, h⟩
  · exact .inl h
  · exact .inr ⟨eb, e, h.below hb⟩

theorem f2 : fstN (two.map (hasB bA)) 0 = 0 := by simp [fstN, two, hasB, hits, eqS, bA, bB, Lib.toList_data]
theorem f3 : fstN (two.map (hasB bB)) 0 = 1 := by simp [fstN, two, hasB, hits, eqS, bA, bB, Lib.toList_data]
theorem r2 : (ctorAt bA two 0).1 = 0 := by simp [ctorAt, fstN, two, hasB, hits, eqS, bA, Lib.toList_data]
theorem r3 : (ctorAt bB two 0).1 = 1 := by simp [ctorAt, fstN, two, hasB, hits, eqS, bA, bB, Lib.toList_data]

theorem kid_any (w : World) (g b o j : Nat) (en mv er : Value) (hj : j < 4) (hG : Glob w) (hc : Chk w g en mv er) (hR : Row w en j) (hl : Leaf w b o (ct j).k (ct j).s) :
    Calls Tryd.prog 8 #[.pointer (some ⟨g, 0, none⟩), .pointer (some ⟨b, o, none⟩)] w fun e w' => e = .returned (ty (ct j).tk (ct j).tn) ∧ Below w.heap.size w w' := by
  refine expr_leaf w g b o _ _ _ _ hl (fun W hb ka c => ?_)
  have hG' := hG.below hb
  have hl' := hl.below hb hl.lt
  have hc' : Chk W g en mv er := Has.below hc hb hc.lt
  have hR' := hR.below hb
  rcases (show j = 0 ∨ j = 1 ∨ j = 2 ∨ j = 3 by omega) with rfl | rfl | rfl | rfl
  · exact own_int W g b o _ c ka hG' hl'
  · exact own_bool W g b o _ c ka hG' hl'
  · refine own_ctor W g b o _ _ c ka hl' (fun W2 hb2 => ?_)
    rcases hR' with h | ⟨eb, rfl, hE⟩
    · omega
    · have hE2 := hE.below hb2
      have hN : W2.cell? ⟨eb, 0 * 4, none⟩ = some (.string bt) := by obtain ⟨a, b, h1, _⟩ := hE2; exact (h1.cell 0).trans rfl
      exact owner_any W2 g eb 2 2 0 mv er two _ bt (Has.below hc' hb2 hc'.lt) hE2.ctors (by decide) (by decide) f2 hN
  · refine own_ctor W g b o _ _ c ka hl' (fun W2 hb2 => ?_)
    rcases hR' with h | ⟨eb, rfl, hE⟩
    · omega
    · have hE2 := hE.below hb2
      have hN : W2.cell? ⟨eb, 1 * 4, none⟩ = some (.string bu) := by obtain ⟨a, b, h1, _⟩ := hE2; exact (h1.cell 4).trans rfl
      exact owner_any W2 g eb 2 2 1 mv er two _ bu (Has.below hc' hb2 hc'.lt) hE2.ctors (by decide) (by decide) f3 hN

theorem rkid_any (w : World) (g j : Nat) (en : Value) (hj : j < 4) (hc : Lk w g en false 0 0) (hR : Row w en j) :
    Calls Tryd.prog 9 #[.pointer (some ⟨g, 0, none⟩), .slice none 0 0, lfV (ct j).k (ct j).n (ct j).s] w fun e w' => e = .returned (ty (ct j).tk (ct j).tn) ∧ Below w.heap.size w w' := by
  rcases (show j = 0 ∨ j = 1 ∨ j = 2 ∨ j = 3 by omega) with rfl | rfl | rfl | rfl
  · exact rleaf_int w g en _ _ hc
  · exact rleaf_bool w g en _ _ hc
  · rcases hR with h | ⟨eb, rfl, hE⟩
    · omega
    · have hN : w.cell? ⟨eb, 0 * 4, none⟩ = some (.string bt) := by obtain ⟨a, b, h1, _⟩ := hE; exact (h1.cell 0).trans rfl
      exact rleaf_ctor w g eb 2 0 two _ _ bt hc hE.ctors (by decide) (by decide) r2 hN
  · rcases hR with h | ⟨eb, rfl, hE⟩
    · omega
    · have hN : w.cell? ⟨eb, 1 * 4, none⟩ = some (.string bu) := by obtain ⟨a, b, h1, _⟩ := hE; exact (h1.cell 4).trans rfl
      exact rleaf_ctor w g eb 2 1 two _ _ bu hc hE.ctors (by decide) (by decide) r3 hN
end Go.Proofs.YtkjfodbdkacjfaaDoor.ty
