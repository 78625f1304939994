/-
  The law's four calls, in whichever world behind the one that it has made.
-/
import Derived.Test.YtkjfodbdkacjfaaDoorTyAwk
namespace Go.Proofs.YtkjfodbdkacjfaaDoor.ty
open Go.ChangeShapes Go.WideShapes Go.ChangeAt Go.RowKit
open Go.Proofs.YtkjfodbdkacjfaaDoor.lx (Has grown_refl grown_put grown_below)
set_option linter.unusedVariables false

/-- no error, or one -/
def ErOk (o : Bool) (er : Value) : Prop := (o = true → er = .nilIface) ∧ (o = false → ∃ ga, er = .iface 92 (.pointer (some ⟨ga, 0, none⟩)))

theorem four_t {W : World} {o : Bool} {t : Int} {e : Ending} {w' : World} (h : TPost W 0 0 t o e w') : (∃ er, ErOk o er ∧ e = .returned (.tuple #[ty (if o = true then t else 0) noT, er])) ∧ Below W.heap.size W w' := by
  obtain ⟨hb, h1, h2⟩ := h
  refine ⟨?_, hb⟩
  cases o
  · obtain ⟨ga, _, _, he⟩ := h2 rfl
    exact ⟨_, ⟨(fun h => by cases h), fun _ => ⟨ga, rfl⟩⟩, he⟩
  · exact ⟨_, ⟨fun _ => rfl, fun h => by cases h⟩, h1 rfl⟩
theorem four_r {W : World} {o : Bool} {t : Int} {e : Ending} {w' : World} (h : EPost W 0 0 t o e w') : e = .returned (.tuple #[ty (if o = true then t else 0) noT, .bool (!o), .agg #[.int .i64 0, .int .i64 0]]) ∧ Below W.heap.size W w' := by
  obtain ⟨hb, he⟩ := h
  refine ⟨?_, hb⟩
  rw [he]
  cases o <;> rfl

/-- what the law has made -/
structure Made (W : World) (eb kb ub : Nat) (i j : Nat) : Prop where
  hi : i < 4
  hj : j < 4
  glob : Glob W
  env : Env W eb
  two : Has W kb 33 (ctC i ++ ctC j).toArray
  one : Has W ub 33 (ctC i).toArray

theorem leaf_i (i : Nat) (r : List Value) {W : World} {kb : Nat} (h : Has W kb 33 (ctC i ++ r).toArray) : Leaf W kb 0 (ct i).k (ct i).s := leaf_at h rfl rfl rfl rfl rfl
theorem leaf_j (i j : Nat) {W : World} {kb : Nat} (h : Has W kb 33 (ctC i ++ ctC j).toArray) : Leaf W kb 8 (ct j).k (ct j).s := leaf_at h rfl rfl rfl rfl rfl

theorem call1 {W : World} {eb kb ub i j : Nat} (m : Made W eb kb ub i j) (op : Int) (ho : 1 ≤ op) (ho2 : op ≤ 16) (W' : World) (hb : Below W.heap.size W W') :
    Calls Tryd.prog 4 #[.agg #[.slice (some ⟨eb, 0, none⟩) 2 2, .slice none 0 0], .slice none 0 0, .agg (exC 7 op (.slice (some ⟨kb, 0, none⟩) 2 2) 0 0)] W' fun e w' => (∃ er, ErOk (okB op i j) er ∧ e = .returned (.tuple #[ty (if okB op i j = true then outI op else 0) noT, er])) ∧ Below W'.heap.size W' w' :=
  (tbin W' kb _ op 0 0 i j m.hi m.hj ho ho2 (m.glob.below hb) (.inr ⟨eb, rfl, m.env.below hb⟩) (.inr ⟨eb, rfl, m.env.below hb⟩) (leaf_i i (ctC j) (m.two.below hb m.two.lt)) (leaf_j i j (m.two.below hb m.two.lt))).mono fun _ _ h => four_t h
theorem call2 {W : World} {eb kb ub i j : Nat} (m : Made W eb kb ub i j) (op : Int) (ho : 1 ≤ op) (ho2 : op ≤ 16) (W' : World) (hb : Below W.heap.size W W') :
    Calls Tryd.prog 4 #[.agg #[.slice (some ⟨eb, 0, none⟩) 2 2, .slice none 0 0], .slice none 0 0, .agg (exC 6 op (.slice (some ⟨ub, 0, none⟩) 1 1) 0 0)] W' fun e w' => (∃ er, ErOk (okU op i) er ∧ e = .returned (.tuple #[ty (if okU op i = true then outI op else 0) noT, er])) ∧ Below W'.heap.size W' w' :=
  (tun W' ub _ op 0 0 i m.hi ho ho2 (m.glob.below hb) (.inr ⟨eb, rfl, m.env.below hb⟩) (leaf_i i [] (by rw [List.append_nil]; exact m.one.below hb m.one.lt))).mono fun _ _ h => four_t h
theorem call3 {W : World} {eb kb ub i j : Nat} (m : Made W eb kb ub i j) (op : Int) (ho : 1 ≤ op) (ho2 : op ≤ 16) (W' : World) (hb : Below W.heap.size W W') :
    Calls Tryd.prog 5 #[.agg #[.slice (some ⟨eb, 0, none⟩) 2 2, .slice none 0 0], .slice none 0 0, .agg (exC 7 op (.slice (some ⟨kb, 0, none⟩) 2 2) 0 0)] W' fun e w' => e = .returned (.tuple #[ty (if okB op i j = true then outI op else 0) noT, .bool (!okB op i j), .agg #[.int .i64 0, .int .i64 0]]) ∧ Below W'.heap.size W' w' :=
  (rbin W' kb _ op 0 0 i j m.hi m.hj ho ho2 (.inr ⟨eb, rfl, m.env.below hb⟩) (.inr ⟨eb, rfl, m.env.below hb⟩) (m.two.below hb m.two.lt)).mono fun _ _ h => four_r h
theorem call4 {W : World} {eb kb ub i j : Nat} (m : Made W eb kb ub i j) (op : Int) (ho : 1 ≤ op) (ho2 : op ≤ 16) (W' : World) (hb : Below W.heap.size W W') :
    Calls Tryd.prog 5 #[.agg #[.slice (some ⟨eb, 0, none⟩) 2 2, .slice none 0 0], .slice none 0 0, .agg (exC 6 op (.slice (some ⟨ub, 0, none⟩) 1 1) 0 0)] W' fun e w' => e = .returned (.tuple #[ty (if okU op i = true then outI op else 0) noT, .bool (!okU op i), .agg #[.int .i64 0, .int .i64 0]]) ∧ Below W'.heap.size W' w' :=
  (run_ W' ub _ op 0 0 i m.hi ho ho2 (.inr ⟨eb, rfl, m.env.below hb⟩) (m.one.below hb m.one.lt)).mono fun _ _ h => four_r h
end Go.Proofs.YtkjfodbdkacjfaaDoor.ty
