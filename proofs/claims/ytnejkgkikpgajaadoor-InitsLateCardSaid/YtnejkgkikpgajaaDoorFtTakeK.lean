/-
  take of a survey at a Kind, behind an At.
-/
import Derived.Test.YtnejkgkikpgajaaDoorFtTake
import Derived.Lib.Builder
namespace Go.Proofs.YtnejkgkikpgajaaDoor.ft
open Go.ChangeShapes Go.WideShapes Go.ChangeAt Go.RowKit Go.Extern.Stop Go.Stop Go.Extern
open Go.Proofs.YtnejkgkikpgajaaDoor.lx (Has grown_refl grown_put grown_below)
set_option linter.unusedVariables false

theorem owns_below {w w' : World} {B : Nat} {e : TypeId} {k : Nat} {v : Value} {n : Nat} {xs : List Value} (h : w.ownsRow B e k v n xs) (hb : Below w.heap.size w w') : w'.ownsRow B e k v n xs :=
  h.kept (row := none) ⟨hb.os, hb.tape, hb.output, hb.size, fun k hk _ => hb.block k hk⟩ (Classical.em _)

def TakeKPost (S m base pg : Nat) (w : World) (e : Ending) (w' : World) : Prop :=
  ∃ v' us, e = .returned (.slice none 0 0) ∧ Has w' S 124 #[.map (some m), .int .i64 0, v', .bool false] ∧ w'.ownsRow base 36 1 v' 2 us ∧ Turns [S, pg] w w'

set_option maxRecDepth 10000 in
set_option maxHeartbeats 4000000 in
theorem take_kind (S m base pg cap : Nat) (k : Int) (u : Value) (w : World) (hS : Has w S 124 #[.map (some m), .int .i64 0, .slice (some ⟨pg, 0, none⟩) 1 cap, .bool false])
    (hown : w.ownsRow base 36 1 (.slice (some ⟨pg, 0, none⟩) 1 cap) 1 [u]) (hbase : base ≤ w.heap.size) :
    Calls Tryd.prog 62 #[.pointer (some ⟨S, 0, none⟩), .iface 56 (.int .i64 k)] w fun e w' => TakeKPost S m base pg w e w' := by
  obtain ⟨i0, hi0, hz0, hz1, hz2⟩ := info_parts err_info
  have hA := assertConcK
  have HL := Lib.hid (wrapped_kind k w)
  have HS := Lib.hid hS
  have HO := Lib.hid hown
  have hSp : S ≠ pg := by
    intro e
    subst e
    obtain ⟨hl, h | ⟨g, c, cur, hv, _, hg, _⟩⟩ := hown
    · exact absurd h.1 (by simp)
    · simp only [Value.slice.injEq, Option.some.injEq, Addr.mk.injEq] at hv
      obtain ⟨⟨rfl, _⟩, _⟩ := hv
      have h1 : w.heap[S]? = _ := hS
      rw [hg] at h1
      simp at h1
  clear hS hown
  go_enter Tryd.func62, Tryd.ntmps62
  go_wp2_with fail
  refine HL.out.mono ?_
  rintro e w1 ⟨rfl, hb⟩
  have hs1 := HS.out.below hb HS.out.lt
  have ho1 := owns_below HO.out hb
  have cS := hs1.cell 2
  have fS := hs1.free 2
  simp only [List.getElem?_toArray, List.getElem?_cons_zero, List.getElem?_cons_succ] at cS
  have hSl := hs1.lt
  have HB := Lib.hid hb
  have HS1 := Lib.hid hs1
  have HO1 := Lib.hid ho1
  have hbw1 : base ≤ w1.heap.size := Nat.le_trans hbase HB.out.size
  clear hb hs1 ho1
  go_wp2_with (at_builtin; refine wpList_append_own _ rfl _ _ 122 rfl base 36 i0 _ 1 16 Tryd.underlying122 hi0 hz0 hz1 hz2 rfl (by omega) _ _ _ rfl (HO1.out.alloc _) ⟨w1.heap.size, 0, none⟩ 1 1 [.iface 56 (.int .i64 k)] rfl rfl ?c1 ?c2 ?c3 ?c4 ?c5 ?_)
  case c1 =>
    intro j u hj
    match j, hj with
    | 0, hj => simp at hj; subst hj; simp [Addr.add]
  case c2 => intro u hu; simp at hu; subst hu; rfl
  case c3 => unfold maxLen; omega
  case c4 => omega
  case c5 => simp; omega
  intro v' w2 hown2 hgrow _
  obtain ⟨g', cap', hv', _⟩ := World.ownsRow.form hown2 (by omega)
  subst hv'
  have hs2 := (HS1.out.alloc (.cells #[.iface 56 (.int .i64 k)] 36)).grown hgrow (by simpa [Value.ownBlock] using hSp)
  have f2 := hs2.free 2
  have c2 := hs2.cell 2
  have hT := ((((Turns.refl [S, pg] w).below HB.out).alloc (.cells #[.iface 56 (.int .i64 k)] 36)).grown (g := pg) hgrow (by simp)).put S 2 (.slice (some ⟨g', 0, none⟩) (1 + 1) cap') (by simp)
  have ho3 := hown2.kept (grown_put (grown_refl w2 (some S)) 2 (.slice (some ⟨g', 0, none⟩) (1 + 1) cap')) (.inr (by
    intro e
    have hb2 := Lib.ownBlock_ne hown2 hs2 (by decide)
    exact hb2 e))
  have HO3 := Lib.hid ho3
  have HE := Lib.hid (And.intro (hs2.put 2 (.slice (some ⟨g', 0, none⟩) (1 + 1) cap')) hT)
  clear hs2 hT hgrow hown2 ho3
  go_wp2
  go_ret
  exact ⟨_, _, rfl, HE.out.1, HO3.out, HE.out.2⟩
end Go.Proofs.YtnejkgkikpgajaaDoor.ft
