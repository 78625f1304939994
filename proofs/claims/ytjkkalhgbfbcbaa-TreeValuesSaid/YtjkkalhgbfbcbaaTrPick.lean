/-
  Pick, When of package tree: their walks.
-/
import Derived.Test.YtjkkalhgbfbcbaaTrBool
namespace Go.Proofs.Ytjkkalhgbfbcbaa.tr
open Go.ChangeShapes Go.WideShapes Go.ChangeAt Go.RowKit
set_option linter.unusedVariables false

/-- an expression that is stored over eight cells -/
theorem Has.put8 {w : World} {g : Nat} {t : TypeId} {c0 c1 c2 c3 c4 c5 c6 c7 d0 d1 d2 d3 d4 d5 d6 d7 : Value} (h : Has w g t #[c0, c1, c2, c3, c4, c5, c6, c7]) :
    Has ((((((((w.setCell ⟨g, 0, none⟩ d0).setCell ⟨g, 1, none⟩ d1).setCell ⟨g, 2, none⟩ d2).setCell ⟨g, 3, none⟩ d3).setCell ⟨g, 4, none⟩ d4).setCell ⟨g, 5, none⟩ d5).setCell ⟨g, 6, none⟩ d6).setCell ⟨g, 7, none⟩ d7) g t #[d0, d1, d2, d3, d4, d5, d6, d7] := by
  have := (((((((h.put 0 d0).put 1 d1).put 2 d2).put 3 d3).put 4 d4).put 5 d5).put 6 d6).put 7 d7
  simpa using this
theorem below_put8 {w w' : World} {B g : Nat} (hb : Below B w w') (hg : B ≤ g) (d0 d1 d2 d3 d4 d5 d6 d7 : Value) :
    Below B w ((((((((w'.setCell ⟨g, 0, none⟩ d0).setCell ⟨g, 1, none⟩ d1).setCell ⟨g, 2, none⟩ d2).setCell ⟨g, 3, none⟩ d3).setCell ⟨g, 4, none⟩ d4).setCell ⟨g, 5, none⟩ d5).setCell ⟨g, 6, none⟩ d6).setCell ⟨g, 7, none⟩ d7) :=
  (((((((hb.setCell hg d0).setCell hg d1).setCell hg d2).setCell hg d3).setCell hg d4).setCell hg d5).setCell hg d6).setCell hg d7
theorem Has.put8_far {w : World} {g g' : Nat} {t : TypeId} {cs : Array Value} {d0 d1 d2 d3 d4 d5 d6 d7 : Value} (h : Has w g' t cs) (hne : g' ≠ g) :
    Has ((((((((w.setCell ⟨g, 0, none⟩ d0).setCell ⟨g, 1, none⟩ d1).setCell ⟨g, 2, none⟩ d2).setCell ⟨g, 3, none⟩ d3).setCell ⟨g, 4, none⟩ d4).setCell ⟨g, 5, none⟩ d5).setCell ⟨g, 6, none⟩ d6).setCell ⟨g, 7, none⟩ d7) g' t cs :=
  (((((((h.put_far 0 d0 hne).put_far 1 d1 hne).put_far 2 d2 hne).put_far 3 d3 hne).put_far 4 d4 hne).put_far 5 d5 hne).put_far 6 d6 hne).put_far 7 d7 hne

theorem selfs8 {w : World} {g : Nat} {t : TypeId} {c0 c1 c2 c3 c4 c5 c6 c7 : Value} (h : Has w g t #[c0, c1, c2, c3, c4, c5, c6, c7]) (d0 d1 d2 d3 d4 d5 d6 d7 : Value) :
    (w.setCell ⟨g, 0, none⟩ d0).cell? ⟨g, 0, none⟩ = some d0 ∧
    ((w.setCell ⟨g, 0, none⟩ d0).setCell ⟨g, 1, none⟩ d1).cell? ⟨g, 1, none⟩ = some d1 ∧
    (((w.setCell ⟨g, 0, none⟩ d0).setCell ⟨g, 1, none⟩ d1).setCell ⟨g, 2, none⟩ d2).cell? ⟨g, 2, none⟩ = some d2 ∧
    ((((w.setCell ⟨g, 0, none⟩ d0).setCell ⟨g, 1, none⟩ d1).setCell ⟨g, 2, none⟩ d2).setCell ⟨g, 3, none⟩ d3).cell? ⟨g, 3, none⟩ = some d3 ∧
    (((((w.setCell ⟨g, 0, none⟩ d0).setCell ⟨g, 1, none⟩ d1).setCell ⟨g, 2, none⟩ d2).setCell ⟨g, 3, none⟩ d3).setCell ⟨g, 4, none⟩ d4).cell? ⟨g, 4, none⟩ = some d4 ∧
    ((((((w.setCell ⟨g, 0, none⟩ d0).setCell ⟨g, 1, none⟩ d1).setCell ⟨g, 2, none⟩ d2).setCell ⟨g, 3, none⟩ d3).setCell ⟨g, 4, none⟩ d4).setCell ⟨g, 5, none⟩ d5).cell? ⟨g, 5, none⟩ = some d5 ∧
    (((((((w.setCell ⟨g, 0, none⟩ d0).setCell ⟨g, 1, none⟩ d1).setCell ⟨g, 2, none⟩ d2).setCell ⟨g, 3, none⟩ d3).setCell ⟨g, 4, none⟩ d4).setCell ⟨g, 5, none⟩ d5).setCell ⟨g, 6, none⟩ d6).cell? ⟨g, 6, none⟩ = some d6 ∧
    ((((((((w.setCell ⟨g, 0, none⟩ d0).setCell ⟨g, 1, none⟩ d1).setCell ⟨g, 2, none⟩ d2).setCell ⟨g, 3, none⟩ d3).setCell ⟨g, 4, none⟩ d4).setCell ⟨g, 5, none⟩ d5).setCell ⟨g, 6, none⟩ d6).setCell ⟨g, 7, none⟩ d7).cell? ⟨g, 7, none⟩ = some d7 :=
  ⟨by have := (h.put 0 d0).cell 0; simpa using this, by have := ((h.put 0 d0).put 1 d1).cell 1; simpa using this, by have := (((h.put 0 d0).put 1 d1).put 2 d2).cell 2; simpa using this, by have := ((((h.put 0 d0).put 1 d1).put 2 d2).put 3 d3).cell 3; simpa using this, by have := (((((h.put 0 d0).put 1 d1).put 2 d2).put 3 d3).put 4 d4).cell 4; simpa using this, by have := ((((((h.put 0 d0).put 1 d1).put 2 d2).put 3 d3).put 4 d4).put 5 d5).cell 5; simpa using this, by have := (((((((h.put 0 d0).put 1 d1).put 2 d2).put 3 d3).put 4 d4).put 5 d5).put 6 d6).cell 6; simpa using this, by have := ((((((((h.put 0 d0).put 1 d1).put 2 d2).put 3 d3).put 4 d4).put 5 d5).put 6 d6).put 7 d7).cell 7; simpa using this⟩

set_option maxRecDepth 100000 in
theorem pick_bool (w : World) (s : ByteArray) : Calls Try.prog 30 #[.agg #[.int .u8 1, .string ⟨#[]⟩], .string s] w fun e w' => e = .returned (.agg #[.int .u8 2, .int .u8 0, .int .i32 (if (s.toList == [116, 114, 117, 101]) = true then 1 else 0), .string ⟨#[]⟩, .slice none 0 0, .slice none 0 0, .int .i64 0, .int .i64 0]) ∧ Below w.heap.size w w' := by
  have HR := fun w => Lib.hid (bool_any w (s.toList == [116, 114, 117, 101]))
  cases hs : (s.toList == [116, 114, 117, 101])
  all_goals
    rw [hs] at HR
    go_enter Try.func30, Try.ntmps30
    go_wp2_with fail
    refine (HR _).out.mono ?_
    rintro e w1 ⟨rfl, hb1⟩
    have h8 := Has.below (Has.new (w.alloc (.cells #[.int .u8 1, .string ⟨#[]⟩] 49)) 44 #[.int .u8 0, .int .u8 0, .int .i32 0, .string ⟨#[]⟩, .slice none 0 0, .slice none 0 0, .int .i64 0, .int .i64 0]) hb1 (by simp)
    rw [show (w.alloc (.cells #[.int .u8 1, .string ⟨#[]⟩] 49)).heap.size = w.heap.size + 1 by simp] at h8
    obtain ⟨q0, q1, q2, q3, q4, q5, q6, q7⟩ := has8 h8
    have qf := fun i => h8.free i
    have H8 := Lib.hid h8
    have HB := Lib.hid ((((Below.refl w.heap.size w).alloc (Nat.le_refl _) _).alloc (by simp) _).trans (hb1.mono (by simp; omega)))
    clear hb1 h8 hs HR
    go_wp2_with fail
    first
    | (obtain ⟨p0, p1, p2, p3, p4, p5, p6, p7⟩ := selfs8 H8.out (.int .u8 2) (.int .u8 0) (.int .i32 0) (.string ⟨#[]⟩) (.slice none 0 0) (.slice none 0 0) (.int .i64 0) (.int .i64 0)
       refine bodyPost_ret (v := .agg #[.int .u8 2, .int .u8 0, .int .i32 0, .string ⟨#[]⟩, .slice none 0 0, .slice none 0 0, .int .i64 0, .int .i64 0]) (by simp [results, Try.results30, go_sem, p0, p1, p2, p3, p4, p5, p6, p7]) rfl ⟨rfl, ?_⟩
       exact below_put8 HB.out (by omega) _ _ _ _ _ _ _ _)
    | (obtain ⟨p0, p1, p2, p3, p4, p5, p6, p7⟩ := selfs8 H8.out (.int .u8 2) (.int .u8 0) (.int .i32 1) (.string ⟨#[]⟩) (.slice none 0 0) (.slice none 0 0) (.int .i64 0) (.int .i64 0)
       refine bodyPost_ret (v := .agg #[.int .u8 2, .int .u8 0, .int .i32 1, .string ⟨#[]⟩, .slice none 0 0, .slice none 0 0, .int .i64 0, .int .i64 0]) (by simp [results, Try.results30, go_sem, p0, p1, p2, p3, p4, p5, p6, p7]) rfl ⟨rfl, ?_⟩
       exact below_put8 HB.out (by omega) _ _ _ _ _ _ _ _)

set_option maxRecDepth 100000 in
theorem pick_int (w : World) (s : ByteArray) : Calls Try.prog 30 #[.agg #[.int .u8 2, .string ⟨#[]⟩], .string s] w fun e w' => e = .returned (.agg #[.int .u8 3, .int .u8 0, .int .i32 0, .string s, .slice none 0 0, .slice none 0 0, .int .i64 0, .int .i64 0]) ∧ Below w.heap.size w w' := by
  go_enter Try.func30, Try.ntmps30
  go_wp2_with fail
  refine (ctor_any _ _).mono ?_
  rintro e w1 ⟨rfl, hb1⟩
  have h8 := Has.below (Has.new (w.alloc (.cells #[.int .u8 2, .string ⟨#[]⟩] 49)) 44 #[.int .u8 0, .int .u8 0, .int .i32 0, .string ⟨#[]⟩, .slice none 0 0, .slice none 0 0, .int .i64 0, .int .i64 0]) hb1 (by simp)
  rw [show (w.alloc (.cells #[.int .u8 2, .string ⟨#[]⟩] 49)).heap.size = w.heap.size + 1 by simp] at h8
  obtain ⟨q0, q1, q2, q3, q4, q5, q6, q7⟩ := has8 h8
  have qf := fun i => h8.free i
  have H8 := Lib.hid h8
  have HB := Lib.hid ((((Below.refl w.heap.size w).alloc (Nat.le_refl _) _).alloc (by simp) _).trans (hb1.mono (by simp; omega)))
  clear hb1 h8
  go_wp2_with fail
  obtain ⟨p0, p1, p2, p3, p4, p5, p6, p7⟩ := selfs8 H8.out (.int .u8 3) (.int .u8 0) (.int .i32 0) (.string s) (.slice none 0 0) (.slice none 0 0) (.int .i64 0) (.int .i64 0)
  refine bodyPost_ret (v := .agg #[.int .u8 3, .int .u8 0, .int .i32 0, .string s, .slice none 0 0, .slice none 0 0, .int .i64 0, .int .i64 0]) (by simp [results, Try.results30, go_sem, p0, p1, p2, p3, p4, p5, p6, p7]) rfl ⟨rfl, ?_⟩
  exact below_put8 HB.out (by omega) _ _ _ _ _ _ _ _

set_option maxRecDepth 100000 in
theorem when_any (w : World) (c0 c1 c2 c3 c4 c5 c6 c7 : Value) (s v : ByteArray) : Calls Try.prog 31 #[.agg #[c0, c1, c2, c3, c4, c5, c6, c7], .agg #[.string s, .string v]] w fun e w' => ∃ g1 g2, e = .returned (.agg #[.int .u8 12, .int .u8 0, .int .i32 0, .string v, .slice (some ⟨g1, 0, none⟩) 1 1, .slice (some ⟨g2, 0, none⟩) 1 1, .int .i64 0, .int .i64 0]) ∧ Below w.heap.size w w' ∧ w.heap.size ≤ g1 ∧ Has w' g1 9 #[.string s] := by
  go_enter Try.func31, Try.ntmps31
  go_wp2_with fail
  have h1 := ((Has.new ((w.alloc (.cells #[c0, c1, c2, c3, c4, c5, c6, c7] 44)).alloc (.cells #[.string s, .string v] 74)) 44 #[.int .u8 12, .int .u8 0, .int .i32 0, .string v, .slice (some ⟨w.heap.size + 1 + 1 + 1, 0, none⟩) 1 1, .slice (some ⟨w.heap.size + 1 + 1 + 1 + 1, 0, none⟩) 1 1, .int .i64 0, .int .i64 0]).alloc (.cells #[.string s] 9)).alloc (.cells #[c0, c1, c2, c3, c4, c5, c6, c7] 44)
  simp only [World.size_alloc] at h1
  obtain ⟨q0, q1, q2, q3, q4, q5, q6, q7⟩ := has8 h1
  have h2 := (Has.new (((w.alloc (.cells #[c0, c1, c2, c3, c4, c5, c6, c7] 44)).alloc (.cells #[.string s, .string v] 74)).alloc (.cells #[.int .u8 12, .int .u8 0, .int .i32 0, .string v, .slice (some ⟨w.heap.size + 1 + 1 + 1, 0, none⟩) 1 1, .slice (some ⟨w.heap.size + 1 + 1 + 1 + 1, 0, none⟩) 1 1, .int .i64 0, .int .i64 0] 44)) 9 #[.string s]).alloc (.cells #[c0, c1, c2, c3, c4, c5, c6, c7] 44)
  simp only [World.size_alloc] at h2
  refine bodyPost_ret (v := .agg #[.int .u8 12, .int .u8 0, .int .i32 0, .string v, .slice (some ⟨w.heap.size + 1 + 1 + 1, 0, none⟩) 1 1, .slice (some ⟨w.heap.size + 1 + 1 + 1 + 1, 0, none⟩) 1 1, .int .i64 0, .int .i64 0]) (by simp [results, Try.results31, go_sem, q0, q1, q2, q3, q4, q5, q6, q7]) rfl ⟨_, _, rfl, ?_, ?_, h2⟩
  · exact (((((Below.refl _ _).alloc (Nat.le_refl _) _).alloc (by simp) _).alloc (by simp; omega) _).alloc (by simp; omega) _).alloc (by simp; omega) _
  · omega
end Go.Proofs.Ytjkkalhgbfbcbaa.tr
