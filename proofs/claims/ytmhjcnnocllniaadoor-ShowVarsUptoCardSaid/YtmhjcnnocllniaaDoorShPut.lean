/-
  A builder that holds a text; (*words).put: texts, one behind the other.
-/
import Derived.Test.YtmhjcnnocllniaaDoorShLeaf
import Derived.Test.YtmhjcnnocllniaaDoorShBuild
namespace Go.Proofs.YtmhjcnnocllniaaDoor.sh
open Go.ChangeShapes Go.WideShapes Go.ChangeAt Go.RowKit Go.Proofs.YtmhjcnnocllniaaDoor.tr
set_option linter.unusedVariables false

/-- the builder in the block behind w0 holds l; what lay there lies as it lay -/
def Bu (w0 : World) (l : List UInt8) (w : World) : Prop := Lib.IsBuilder 47 5 w0.heap.size w0.heap.size (Lib.byteCells l) w ∧ Below w0.heap.size w0 w
theorem Bu.alloc {w0 w : World} {l : List UInt8} (h : Bu w0 l w) (o : Obj) : Bu w0 l (w.alloc o) := by
  refine ⟨?_, h.2.alloc h.2.size o⟩
  have key : ∀ p, Lib.BuilderAt 47 5 w0.heap.size w0.heap.size p (Lib.byteCells l) w → Lib.BuilderAt 47 5 w0.heap.size w0.heap.size p (Lib.byteCells l) (w.alloc o) := by
    rintro p ⟨hB, v, hb, ho, hn⟩
    exact ⟨hB, v, (Lib.alloc_old w o _ (lt_of_heap hb)).trans hb, ho.alloc _, hn⟩
  rcases h.1 with h1 | h1
  · exact .inl (key _ h1)
  · exact .inr (key _ h1)
theorem Bu.new (w0 : World) : Bu w0 [] (w0.alloc (.cells #[.pointer none, .slice none 0 0] 47)) :=
  ⟨Lib.fresh_isBuilder _ _ w0, (Below.refl _ _).alloc (Nat.le_refl _) _⟩
theorem below_keep {w0 w w' : World} (h : Below w0.heap.size w0 w) (hb : Below w.heap.size w w') : Below w0.heap.size w0 w' := h.trans (hb.mono h.size)
theorem Bu.grown {w0 w w' : World} {l : List UInt8} (h : Bu w0 l w) (hb : Below w.heap.size w w') : Bu w0 l w' := by
  refine ⟨?_, below_keep h.2 hb⟩
  have key : ∀ p, Lib.BuilderAt 47 5 w0.heap.size w0.heap.size p (Lib.byteCells l) w → Lib.BuilderAt 47 5 w0.heap.size w0.heap.size p (Lib.byteCells l) w' := by
    rintro p ⟨hB, v, hbk, ho, hn⟩
    refine ⟨hB, v, (hb.block _ (lt_of_heap hbk)).trans hbk, ?_, hn⟩
    exact ho.kept (row := none) ⟨hb.os, hb.tape, hb.output, hb.size, fun k hk _ => hb.block k hk⟩ (by by_cases hv : v.ownBlock = none; exact .inl hv; exact .inr hv)
  rcases h.1 with h1 | h1
  · exact .inl (key _ h1)
  · exact .inr (key _ h1)

def cat : List ByteArray → List UInt8
  | [] => []
  | s :: r => bs s ++ cat r
theorem cat_take (ss : List ByteArray) (i : Nat) (hi : i < ss.length) : cat (ss.take (i + 1)) = cat (ss.take i) ++ bs ss[i] := by
  induction ss generalizing i with
  | nil => simp at hi
  | cons s r ih =>
    cases i with
    | zero => simp [cat]
    | succ i =>
      have := ih i (by simpa using hi)
      simp only [List.take_succ_cons, cat, List.getElem_cons_succ, this, List.append_assoc]
theorem cat_len (ss : List ByteArray) (i : Nat) (hi : i < ss.length) : (cat (ss.take i)).length + ss[i].size ≤ (cat ss).length := by
  induction ss generalizing i with
  | nil => simp at hi
  | cons s r ih =>
    cases i with
    | zero => simp [cat]
    | succ i =>
      have := ih i (by simpa using hi)
      simp only [List.take_succ_cons, cat, List.getElem_cons_succ, List.length_append]
      omega

def PutPost (w0 : World) (l : List UInt8) (e : Ending) (w' : World) : Prop := e = .returned (.tuple #[]) ∧ Bu w0 l w'

set_option maxRecDepth 100000 in
set_option maxHeartbeats 4000000 in
theorem put_any (w0 w : World) (l : List UInt8) (h : Bu w0 l w) (ss : List ByteArray) (g : Nat) (hg : Has w g 9 (ss.map fun s => Value.string s).toArray) (hn : ss.length ≤ 100) (hlen : l.length + (cat ss).length ≤ 140737488355328) :
    Calls Tryd.prog 20 #[.pointer (some ⟨w0.heap.size, 0, none⟩), .slice (some ⟨g, 0, none⟩) ss.length ss.length] w (PutPost w0 (l ++ cat ss)) := by
  unfold PutPost
  have H0 := Lib.hid h
  have HG := Lib.hid hg
  have HL := Lib.hid hlen
  clear h hg hlen
  go_enter Tryd.func20, Tryd.ntmps20
  go_wp2_with fail
  go_loopw [5, 8] (fun _ iv wr => ∃ i : Nat, i ≤ ss.length ∧ iv = .int .i64 i ∧ Hid (Bu w0 (l ++ cat (ss.take i)) wr) ∧ Hid (Has wr g 9 (ss.map fun s => Value.string s).toArray)) (fun _ iv _ => ss.length - (intOf iv).toNat)
  case atStart => exact ⟨0, by omega, rfl, Lib.hid (by simpa [cat] using H0.out), HG⟩
  case round =>
    obtain ⟨i, hi, rfl, HB, HS⟩ := hrel
    by_cases hlt : i < ss.length
    · have c0 : wr.cell? ⟨g, i, none⟩ = some (.string ss[i]) := by rw [HS.out.cell i]; simp [hlt]
      have hi0 : (0 : Int) ≤ (i : Int) := Int.natCast_nonneg _
      have hi1 : (i : Int) < (ss.length : Int) := by omega
      have HT : Hid (l ++ cat (ss.take (i + 1)) = l ++ cat (ss.take i) ++ bs ss[i]) := Lib.hid (by rw [cat_take ss i hlt, List.append_assoc])
      have hcl := cat_len ss i hlt
      have hcall := writeString_any w0.heap.size w0.heap.size (Lib.byteCells (l ++ cat (ss.take i))) ss[i] wr HB.out.1 (by have := HL.out; rw [Lib.byteCells_length, List.length_append]; omega) HB.out.2.size
      have HC := Lib.hid hcall
      clear hcall hcl
      go_wp2_with fail
      refine HC.out.mono ?_
      rintro e w2 ⟨rfl, hb2, hlo, hk⟩
      have HB2 : Hid (Bu w0 (l ++ cat (ss.take (i + 1))) w2) := Lib.hid ⟨.inr (by rw [HT.out, Lib.byteCells_append]; exact hb2), HB.out.2.trans hlo⟩
      have HS2 : Hid (Has w2 g 9 (ss.map fun s => Value.string s).toArray) := Lib.hid (hk g _ _ _ (by decide) (by decide) HS.out)
      clear hb2 hlo hk
      go_wp2_with fail
      go_roundw
      case rel => exact ⟨i + 1, by omega, by go_num, HB2, HS2⟩
      case measure => simp [intOf]; omega
    · have hie : i = ss.length := by omega
      subst hie
      have HE : Hid (Bu w0 (l ++ cat ss) wr) := Lib.hid (by have := HB.out; rw [List.take_length] at this; exact this)
      go_wp2_with fail
      go_end0
      exact ⟨rfl, HE.out⟩
end Go.Proofs.YtmhjcnnocllniaaDoor.sh
