/-
  The document's Expr and in: an expression's text, by induction on the expression.
-/
import Derived.Test.YtmhjcnnocllniaaDoorShExpr
import Derived.Deep.RegionHeld3
namespace Go.Proofs.YtmhjcnnocllniaaDoor.sh
open Go.ChangeShapes Go.WideShapes Go.ChangeAt Go.RowKit Go.Proofs.YtmhjcnnocllniaaDoor.tr
set_option linter.unusedVariables false
set_option linter.unusedSimpArgs false

/-- a text of at most so many bytes comes back; what lay there lies as it lay -/
def TextPost (w : World) (l : List UInt8) (e : Ending) (w' : World) : Prop := (∃ s : ByteArray, e = .returned (.string s) ∧ bs s = l ∧ s.size ≤ 140737488355328) ∧ Below w.heap.size w w'
/-- what the document's Expr does for one expression -/
def RefDoes (x : Ex) : Prop := ∀ (w : World) (cs : Array Value), LaidC w x cs.toList → Calls Tryd.prog 9 #[.agg cs] w (TextPost w (txt x))
def InDoes (x : Ex) : Prop := ∀ (w : World) (cs : Array Value) (m : Bool), LaidC w x cs.toList → Calls Tryd.prog 18 #[.agg cs, .bool m] w (TextPost w (par (bareB m x) (txt x)))
/-- a world over that in which the argument has been boxed -/
def Over (w : World) (cs : Array Value) (w' : World) : Prop := Below (w.heap.size + 1) (w.alloc (.cells cs 27)) w'
theorem Over.start (w : World) (cs : Array Value) : Over w cs (w.alloc (.cells cs 27)) := Below.refl _ _
theorem Over.drew {w w' : World} {cs : Array Value} (h : Over w cs w') : Over w cs w'.drew := Below.drew h
theorem Over.later {w w' w2 : World} {cs : Array Value} (h : Over w cs w') (hb : Below w'.heap.size w' w2) : Over w cs w2 := Below.trans h (hb.mono (by have h2 := Below.size h; rw [World.size_alloc] at h2; exact h2))
theorem Over.below {w w' : World} {cs : Array Value} (h : Over w cs w') : Below w.heap.size w w' := ((Below.refl w.heap.size w).alloc (Nat.le_refl _) _).trans (Below.mono h (by omega))
theorem Over.has {w w' : World} {cs : Array Value} (h : Over w cs w') : Has w' w.heap.size 27 cs := (Has.new w _ cs).below h (by omega)

theorem in_any (x : Ex) (hE : RefDoes x) (hlen : (txt x).length + 2 ≤ 140737488355328) : InDoes x := by
  intro w cs m hl
  have hm : Over w cs (w.alloc (.cells cs 27)) := Over.start w cs
  have HC : Hid (∀ wx, Over w cs wx → Calls Tryd.prog 9 #[.agg cs] wx (TextPost wx (txt x))) := Lib.hid (fun wx h => hE wx cs (hl.below h.below))
  have HV : Hid (∀ wx, Over w cs wx → Has wx w.heap.size 27 cs) := Lib.hid (fun wx h => h.has)
  have HM := Lib.hid hm
  have HL := Lib.hid hlen
  obtain ⟨k, o, n, nm, nms, kids, ln, cl⟩ := x
  unfold LaidC at hl
  obtain ⟨hk, ho, _, _, _, na, nc, ka, kc, _, _, hcs, _, _⟩ := hl
  obtain rfl : cs = #[.int .u8 k, .int .u8 o, .int .i32 n, .string nm, .slice na nms.length nc, .slice ka kids.length kc, .int .i64 ln, .int .i64 cl] := by apply Array.toList_inj.1; rw [hcs]
  have hv := HV.out _ hm
  obtain ⟨x0, x1, x2, x3, x4, x5, x6, x7⟩ := has8 hv
  have HO : Hid (∀ wx, Over w #[.int .u8 k, .int .u8 o, .int .i32 n, .string nm, .slice na nms.length nc, .slice ka kids.length kc, .int .i64 ln, .int .i64 cl] wx → Below w.heap.size w wx) := Lib.hid (fun wx h => h.below)
  have HLT : Hid (∀ w1 wx, Over w #[.int .u8 k, .int .u8 o, .int .i32 n, .string nm, .slice na nms.length nc, .slice ka kids.length kc, .int .i64 ln, .int .i64 cl] w1 → Below w1.heap.size w1 wx → Over w #[.int .u8 k, .int .u8 o, .int .i32 n, .string nm, .slice na nms.length nc, .slice ka kids.length kc, .int .i64 ln, .int .i64 cl] wx) := Lib.hid (fun w1 wx h hb => h.later hb)
  clear hv hm hcs hE hk ho
  unfold TextPost at HC ⊢
  have fin : ∀ c : Bool, bareB m (.mk k o n nm nms kids ln cl) = c → Hid (bareB m (.mk k o n nm nms kids ln cl) = c) := fun _ h => Lib.hid h
  generalize htx : txt (.mk k o n nm nms kids ln cl) = tx at *
  clear htx
  by_cases h2 : k = 2 ∨ k = 3 ∨ k = 4 ∨ k = 13
  · have HB := fin true (by simp [bareB, h2])
    clear fin
    rcases h2 with rfl | rfl | rfl | rfl
    all_goals
      go_enter Tryd.func18, Tryd.ntmps18
      go_wp2_with fail
      refine (HC.out _ HM.out).mono ?_
      rintro e w1 ⟨⟨s1, rfl, hs1, hz1⟩, hb1⟩
      have HS1 := Lib.hid hs1
      have HB1 := Lib.hid (HO.out _ (HLT.out _ _ HM.out hb1))
      clear hs1 hb1
      go_wp2_with fail
      go_ret
      exact ⟨⟨_, rfl, by rw [HB.out, HS1.out]; rfl, hz1⟩, HB1.out⟩
  · have n2 : ((k : Int) == 2) = false := by simp; omega
    have n3 : ((k : Int) == 3) = false := by simp; omega
    have n4 : ((k : Int) == 4) = false := by simp; omega
    have n13 : ((k : Int) == 13) = false := by simp; omega
    by_cases h1 : k = 1
    · subst h1
      by_cases hn : 0 ≤ n
      · cases m
        · have HB := fin true (by simp [bareB, hn])
          clear fin h2
          go_enter Tryd.func18, Tryd.ntmps18
          go_wp2_with fail
          refine (HC.out _ HM.out).mono ?_
          rintro e w1 ⟨⟨s1, rfl, hs1, hz1⟩, hb1⟩
          have HS1 := Lib.hid hs1
          have HB1 := Lib.hid (HO.out _ (HLT.out _ _ HM.out hb1))
          clear hs1 hb1
          go_wp2_with fail
          go_ret
          exact ⟨⟨_, rfl, by rw [HB.out, HS1.out]; rfl, hz1⟩, HB1.out⟩
        · have HB := fin false (by simp [bareB])
          clear fin h2
          go_enter Tryd.func18, Tryd.ntmps18
          go_wp2_with fail
          refine (HC.out _ HM.out).mono ?_
          rintro e w1 ⟨⟨s1, rfl, hs1, hz1⟩, hb1⟩
          have hz : s1.size = tx.length := size_of hs1
          have HS1 := Lib.hid hs1
          have HB1 := Lib.hid (HO.out _ (HLT.out _ _ HM.out hb1))
          clear hs1 hb1
          go_wp2_with fail
          go_ret
          refine ⟨⟨_, rfl, by rw [HB.out, bs_app, bs_app, HS1.out]; simp [par, bs], ?_⟩, HB1.out⟩
          have := HL.out
          rw [ByteArray.size_append, ByteArray.size_append, hz]
          show 1 + tx.length + 1 ≤ _
          omega
      · have HB := fin false (by simp [bareB, hn])
        clear fin h2
        go_enter Tryd.func18, Tryd.ntmps18
        go_wp2_with fail
        refine (HC.out _ HM.out).mono ?_
        rintro e w1 ⟨⟨s1, rfl, hs1, hz1⟩, hb1⟩
        have hz : s1.size = tx.length := size_of hs1
        have HS1 := Lib.hid hs1
        have HB1 := Lib.hid (HO.out _ (HLT.out _ _ HM.out hb1))
        clear hs1 hb1
        go_wp2_with fail
        go_ret
        refine ⟨⟨_, rfl, by rw [HB.out, bs_app, bs_app, HS1.out]; simp [par, bs], ?_⟩, HB1.out⟩
        have := HL.out
        rw [ByteArray.size_append, ByteArray.size_append, hz]
        show 1 + tx.length + 1 ≤ _
        omega
    · have n1 : ((k : Int) == 1) = false := by simp; omega
      have HB := fin false (by simp [bareB, h1]; omega)
      clear fin h2
      go_enter Tryd.func18, Tryd.ntmps18
      go_wp2_with fail
      refine (HC.out _ HM.out).mono ?_
      rintro e w1 ⟨⟨s1, rfl, hs1, hz1⟩, hb1⟩
      have hz : s1.size = tx.length := size_of hs1
      have HS1 := Lib.hid hs1
      have HB1 := Lib.hid (HO.out _ (HLT.out _ _ HM.out hb1))
      clear hs1 hb1
      go_wp2_with fail
      go_ret
      refine ⟨⟨_, rfl, by rw [HB.out, bs_app, bs_app, HS1.out]; simp [par, bs], ?_⟩, HB1.out⟩
      have := HL.out
      rw [ByteArray.size_append, ByteArray.size_append, hz]
      show 1 + tx.length + 1 ≤ _
      omega
end Go.Proofs.YtmhjcnnocllniaaDoor.sh
