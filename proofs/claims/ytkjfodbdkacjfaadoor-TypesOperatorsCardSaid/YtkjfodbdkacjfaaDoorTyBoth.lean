/-
  types.Expr and the reference's Expr at an operator of the law's constants: both the same.
-/
import Derived.Test.YtkjfodbdkacjfaaDoorTyLaid
namespace Go.Proofs.YtkjfodbdkacjfaaDoor.ty
open Go.ChangeShapes Go.WideShapes Go.ChangeAt Go.RowKit
open Go.Proofs.YtkjfodbdkacjfaaDoor.lx (Has grown_refl grown_put grown_below)
set_option linter.unusedVariables false

/-- a constant's cells -/
def ctC (j : Nat) : List Value := [.int .u8 (ct j).k, .int .u8 0, .int .i32 (ct j).n, .string (ct j).s, .slice none 0 0, .slice none 0 0, .int .i64 0, .int .i64 0]
/-- are two constants of one type? -/
def sameT (i j : Nat) : Bool := ((ct j).tk == (ct i).tk) && ((ct j).tn.toList == (ct i).tn.toList)
def okB (op : Int) (i j : Nat) : Bool := sameT i j && ((inI op == 0) || (inI op == (ct i).tk))
def okU (op : Int) (i : Nat) : Bool := (inI op == 0) || (inI op == (ct i).tk)

theorem leaf_at {w : World} {kb o j : Nat} {cs : Array Value} (h : Has w kb 33 cs) (h0 : cs[o]? = some (.int .u8 (ct j).k)) (h3 : cs[o + 3]? = some (.string (ct j).s)) (h5 : cs[o + 5]? = some (.slice none 0 0)) (h6 : cs[o + 6]? = some (.int .i64 0)) (h7 : cs[o + 7]? = some (.int .i64 0)) :
    Leaf w kb o (ct j).k (ct j).s := ⟨(h.cell _).trans h0, (h.cell _).trans h3, (h.cell _).trans h5, (h.cell _).trans h6, (h.cell _).trans h7⟩

/-- what types.Expr leaves -/
def TPost (w : World) (x y t : Int) (ok : Bool) (e : Ending) (w' : World) : Prop :=
  Below w.heap.size w w' ∧ (ok = true → e = .returned (.tuple #[ty t noT, .nilIface])) ∧ (ok = false → ∃ ga, w.heap.size ≤ ga ∧ Has w' ga 96 #[.int .i64 x, .int .i64 y, .string noT, .bool false, .iface 56 (.int .i64 7)] ∧ e = .returned (.tuple #[ty 0 noT, .iface 92 (.pointer (some ⟨ga, 0, none⟩))]))

theorem tbin (w : World) (kb : Nat) (en : Value) (op x y : Int) (i j : Nat) (hi : i < 4) (hj : j < 4) (ho : 1 ≤ op) (ho2 : op ≤ 16) (hG : Glob w) (hRi : Row w en i) (hRj : Row w en j) (hKi : Leaf w kb 0 (ct i).k (ct i).s) (hKj : Leaf w kb 8 (ct j).k (ct j).s) :
    Calls Tryd.prog 4 #[.agg #[en, .slice none 0 0], .slice none 0 0, .agg (exC 7 op (.slice (some ⟨kb, 0, none⟩) 2 2) x y)] w (TPost w x y (outI op) (okB op i j)) := by
  refine texpr_any w en _ 7 op x y (outI op) (okB op i j) (fun W g b mv hb hg hbb hc hx => ?_)
  have hG1 := hG.below hb
  have hRi1 := hRi.below hb
  have hRj1 := hRj.below hb
  have hKi1 := hKi.below hb hKi.lt
  have hKj1 := hKj.below hb hKj.lt
  have l0 : W.cell? ⟨b, 0, none⟩ = some (.int .u8 7) := (hx.cell 0).trans rfl
  have l1 : W.cell? ⟨b, 0 + 1, none⟩ = some (.int .u8 op) := (hx.cell 1).trans rfl
  have l5 : W.cell? ⟨b, 0 + 5, none⟩ = some (.slice (some ⟨kb, 0, none⟩) 2 2) := (hx.cell 5).trans rfl
  have l6 : W.cell? ⟨b, 0 + 6, none⟩ = some (.int .i64 x) := (hx.cell 6).trans rfl
  have l7 : W.cell? ⟨b, 0 + 7, none⟩ = some (.int .i64 y) := (hx.cell 7).trans rfl
  have key := expr_bin W g b 0 kb 2 en mv (outI op) (ct i).tk (ct j).tk x y (ct i).tn (ct j).tn (okB op i j) hc hx.lt l5 l6 l7 hKi1.lt (by decide)
    (fun W2 hb2 => kid_any W2 g kb 0 i en mv .nilIface hi (hG1.below hb2) (Has.below hc hb2 hc.lt) (hRi1.below hb2) (hKi1.below hb2 hKi1.lt))
    (fun W2 hb2 => kid_any W2 g kb 8 j en mv .nilIface hj (hG1.below hb2) (Has.below hc hb2 hc.lt) (hRj1.below hb2) (hKj1.below hb2 hKj1.lt))
    (fun W2 K hb2 hk => ?_)
  · exact key
  · have m0 := (hb2.cell (p := ⟨b, 0, none⟩) hx.lt).trans l0
    have m1 := (hb2.cell (p := ⟨b, 0 + 1, none⟩) hx.lt).trans l1
    unfold okB
    cases hs : sameT i j
    · have := own_node W2 g b 0 K 2 2 7 op 0 noT false (inI op == 0) (inI op == 0) (.inr rfl) m0 m1 ho ho2 (fun W3 hb3 => ?_) rfl rfl
      · exact this
      · have := common_two W3 K (ct i).tk (ct j).tk (ct i).tn (ct j).tn 2 (hk.below hb3 hk.lt) (by decide) _ _ rfl rfl
        have hs' : (((ct j).tk == (ct i).tk) && ((ct j).tn.toList == (ct i).tn.toList)) = false := hs
        rw [hs'] at this
        simpa using this
    · have := own_node W2 g b 0 K 2 2 7 op (ct i).tk (ct i).tn true (inI op == 0) (inI op == (ct i).tk) (.inr rfl) m0 m1 ho ho2 (fun W3 hb3 => ?_) rfl rfl
      · exact this
      · have := common_two W3 K (ct i).tk (ct j).tk (ct i).tn (ct j).tn 2 (hk.below hb3 hk.lt) (by decide) _ _ rfl rfl
        have hs' : (((ct j).tk == (ct i).tk) && ((ct j).tn.toList == (ct i).tn.toList)) = true := hs
        rw [hs'] at this
        simpa using this

theorem tun (w : World) (kb : Nat) (en : Value) (op x y : Int) (i : Nat) (hi : i < 4) (ho : 1 ≤ op) (ho2 : op ≤ 16) (hG : Glob w) (hRi : Row w en i) (hKi : Leaf w kb 0 (ct i).k (ct i).s) :
    Calls Tryd.prog 4 #[.agg #[en, .slice none 0 0], .slice none 0 0, .agg (exC 6 op (.slice (some ⟨kb, 0, none⟩) 1 1) x y)] w (TPost w x y (outI op) (okU op i)) := by
  refine texpr_any w en _ 6 op x y (outI op) (okU op i) (fun W g b mv hb hg hbb hc hx => ?_)
  have hG1 := hG.below hb
  have hRi1 := hRi.below hb
  have hKi1 := hKi.below hb hKi.lt
  have l0 : W.cell? ⟨b, 0, none⟩ = some (.int .u8 6) := (hx.cell 0).trans rfl
  have l1 : W.cell? ⟨b, 0 + 1, none⟩ = some (.int .u8 op) := (hx.cell 1).trans rfl
  have l5 : W.cell? ⟨b, 0 + 5, none⟩ = some (.slice (some ⟨kb, 0, none⟩) 1 1) := (hx.cell 5).trans rfl
  have l6 : W.cell? ⟨b, 0 + 6, none⟩ = some (.int .i64 x) := (hx.cell 6).trans rfl
  have l7 : W.cell? ⟨b, 0 + 7, none⟩ = some (.int .i64 y) := (hx.cell 7).trans rfl
  have key := expr_un W g b 0 kb 1 en mv (outI op) (ct i).tk x y (ct i).tn (okU op i) hc hx.lt l5 l6 l7 hKi1.lt (by decide)
    (fun W2 hb2 => kid_any W2 g kb 0 i en mv .nilIface hi (hG1.below hb2) (Has.below hc hb2 hc.lt) (hRi1.below hb2) (hKi1.below hb2 hKi1.lt))
    (fun W2 K hb2 hk => ?_)
  · exact key
  · have m0 := (hb2.cell (p := ⟨b, 0, none⟩) hx.lt).trans l0
    have m1 := (hb2.cell (p := ⟨b, 0 + 1, none⟩) hx.lt).trans l1
    unfold okU
    have := own_node W2 g b 0 K 1 1 6 op (ct i).tk (ct i).tn true (inI op == 0) (inI op == (ct i).tk) (.inl rfl) m0 m1 ho ho2 (fun W3 hb3 => common_one W3 K (ct i).tk (ct i).tn 1 (hk.below hb3 hk.lt) (by decide)) rfl rfl
    exact this

theorem same_ok (i k1 k2 : Int) (c2 : Bool) : (!((!(i == 0) && !(k1 == i)) || ((!(i == 0) && !(k2 == i)) || !((k2 == k1) && c2)))) = (((k2 == k1) && c2) && ((i == 0) || (i == k1))) := by
  by_cases h1 : k2 = k1
  · subst h1
    rw [show (k2 == i) = (i == k2) from Bool.eq_iff_iff.2 (by simp only [beq_iff_eq]; exact eq_comm), show (k2 == k2) = true from beq_self_eq_true _]
    generalize (i == 0) = a
    generalize (i == k2) = b
    cases a <;> cases b <;> cases c2 <;> rfl
  · rw [show (k2 == k1) = false from beq_eq_false_iff_ne.2 h1]
    generalize (i == 0) = a
    generalize (i == k1) = b
    generalize (k1 == i) = b'
    generalize (k2 == i) = d
    cases a <;> cases b <;> cases b' <;> cases d <;> cases c2 <;> rfl
theorem same_okU (i k1 : Int) : (!(!(i == 0) && !(k1 == i))) = ((i == 0) || (i == k1)) := by
  rw [show (k1 == i) = (i == k1) from Bool.eq_iff_iff.2 (by simp only [beq_iff_eq]; exact eq_comm)]
  generalize (i == 0) = a
  generalize (i == k1) = b
  cases a <;> cases b <;> rfl

/-- what the reference's Expr leaves -/
def EPost (w : World) (x y t : Int) (ok : Bool) (e : Ending) (w' : World) : Prop :=
  Below w.heap.size w w' ∧ e = .returned (.tuple #[if ok = true then ty t noT else ty 0 noT, .bool (!ok), .agg #[.int .i64 (if ok = true then 0 else x), .int .i64 (if ok = true then 0 else y)]])

theorem rbin (w : World) (kb : Nat) (en : Value) (op x y : Int) (i j : Nat) (hi : i < 4) (hj : j < 4) (ho : 1 ≤ op) (ho2 : op ≤ 16) (hRi : Row w en i) (hRj : Row w en j) (hK : Has w kb 33 (ctC i ++ ctC j).toArray) :
    Calls Tryd.prog 5 #[.agg #[en, .slice none 0 0], .slice none 0 0, .agg (exC 7 op (.slice (some ⟨kb, 0, none⟩) 2 2) x y)] w (EPost w x y (outI op) (okB op i j)) := by
  refine rtop_any w en _ 7 op x y (outI op) (okB op i j) (fun W g hb hg hc => ?_)
  have key := rexpr_bin W g kb 2 en op (ct i).tk (ct j).tk x y (ct i).k (ct j).k (ct i).n (ct j).n (ct i).tn (ct j).tn (ct i).s (ct j).s _ _ _ _ _ hc ho ho2 (hK.below hb hK.lt) (by decide)
    (fun W2 hb2 => rkid_any W2 g i en hi (Has.below hc hb2 hc.lt) ((hRi.below hb).below hb2)) (fun W2 hb2 => rkid_any W2 g j en hj (Has.below hc hb2 hc.lt) ((hRj.below hb).below hb2)) rfl rfl rfl rfl rfl
  rw [same_ok] at key
  exact key
theorem run_ (w : World) (kb : Nat) (en : Value) (op x y : Int) (i : Nat) (hi : i < 4) (ho : 1 ≤ op) (ho2 : op ≤ 16) (hRi : Row w en i) (hK : Has w kb 33 (ctC i).toArray) :
    Calls Tryd.prog 5 #[.agg #[en, .slice none 0 0], .slice none 0 0, .agg (exC 6 op (.slice (some ⟨kb, 0, none⟩) 1 1) x y)] w (EPost w x y (outI op) (okU op i)) := by
  refine rtop_any w en _ 6 op x y (outI op) (okU op i) (fun W g hb hg hc => ?_)
  have key := rexpr_un W g kb 1 en op (ct i).tk x y (ct i).k (ct i).n (ct i).tn (ct i).s _ _ hc ho ho2 (hK.below hb hK.lt) (by decide)
    (fun W2 hb2 => rkid_any W2 g i en hi (Has.below hc hb2 hc.lt) ((hRi.below hb).below hb2)) rfl rfl
  rw [same_okU] at key
  exact key
end Go.Proofs.YtkjfodbdkacjfaaDoor.ty
