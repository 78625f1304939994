/-
  What an expression's cells give in every later world; (package show) closed, ctor, when; texts that are put.
-/
import Derived.Test.YtmhjcnnocllniaaDoorShPut
import Derived.Test.YtmhjcnnocllniaaDoorTrForm
namespace Go.Proofs.YtmhjcnnocllniaaDoor.sh
open Go.ChangeShapes Go.WideShapes Go.ChangeAt Go.RowKit Go.Proofs.YtmhjcnnocllniaaDoor.tr
set_option linter.unusedVariables false
set_option linter.unusedSimpArgs false

/-- what a laid expression's cells are in every world that lies over w0 -/
structure Parts (w0 : World) (b off k o : Nat) (n : Int) (nm : ByteArray) (nms : List ByteArray) (kids : List Ex) (na : Option Addr) (nc : Nat) (ka : Option Addr) (kc : Nat) : Prop where
  lk : k ≤ 255
  lo : o ≤ 255
  ln : nms.length ≤ maxLen
  lks : kids.length ≤ maxLen
  cells : ∀ W, Below w0.heap.size w0 W → W.cell? ⟨b, off, none⟩ = some (.int .u8 k) ∧ W.cell? ⟨b, off + 1, none⟩ = some (.int .u8 o) ∧ W.cell? ⟨b, off + 2, none⟩ = some (.int .i32 n) ∧ W.cell? ⟨b, off + 3, none⟩ = some (.string nm) ∧ W.cell? ⟨b, off + 4, none⟩ = some (.slice na nms.length nc) ∧ W.cell? ⟨b, off + 5, none⟩ = some (.slice ka kids.length kc)
  kid : ∀ i (hi : i < kids.length), ∃ kb ko, ka = some ⟨kb, ko, none⟩ ∧ LaidAt w0 kb (ko + i * 8) kids[i]
  name : ∀ i (hi : i < nms.length), ∃ nb no, na = some ⟨nb, no, none⟩ ∧ ∀ W, Below w0.heap.size w0 W → W.cell? ⟨nb, no + i, none⟩ = some (.string nms[i])

theorem parts {w0 : World} {b off k o : Nat} {n : Int} {nm : ByteArray} {nms : List ByteArray} {kids : List Ex} {ln cl : Int} (h : LaidAt w0 b off (.mk k o n nm nms kids ln cl)) : ∃ na nc ka kc, Parts w0 b off k o n nm nms kids na nc ka kc := by
  obtain ⟨cs, hc, hx⟩ := h
  unfold LaidC at hx
  obtain ⟨hk, ho, hnm, hnl, hkl, na, nc, ka, kc, hnc, hkc, rfl, hns, hks⟩ := hx
  have key : ∀ j v, ([.int .u8 k, .int .u8 o, .int .i32 n, .string nm, .slice na nms.length nc, .slice ka kids.length kc, .int .i64 ln, .int .i64 cl] : List Value)[j]? = some v → ∀ W, Below w0.heap.size w0 W → W.cell? ⟨b, off + j, none⟩ = some v :=
    fun j v hj W hW => (hW.cell (p := ⟨b, off + j, none⟩) (World.block_lt_of_cell? w0 _ (hc j v hj))).trans (hc j v hj)
  refine ⟨na, nc, ka, kc, hk, ho, hnl, hkl, fun W hW => ⟨by simpa using key 0 _ rfl W hW, key 1 _ rfl W hW, key 2 _ rfl W hW, key 3 _ rfl W hW, key 4 _ rfl W hW, key 5 _ rfl W hW⟩, fun i hi => hks.get i hi, fun i hi => ?_⟩
  obtain ⟨nb, no, e, hcn, _⟩ := hns i nms[i] (List.getElem?_eq_getElem hi)
  exact ⟨nb, no, e, fun W hW => (hW.cell (p := ⟨nb, no + i, none⟩) (World.block_lt_of_cell? w0 _ hcn)).trans hcn⟩

/-- is it a minus ahead of an operand? -/
def minusB : Ex → Bool
  | .mk k o _ _ _ _ _ _ => decide (k = 6) && decide (o = 2)
def BoolPost (w : World) (b : Bool) (e : Ending) (w' : World) : Prop := e = .returned (.bool b) ∧ w' = w

set_option maxRecDepth 100000 in
set_option maxHeartbeats 4000000 in
theorem closed_any (w0 w : World) (x y : Ex) (b off b' off' : Nat) (hx : LaidAt w0 b off x) (hy : LaidAt w0 b' off' y) (hb : Below w0.heap.size w0 w) :
    Calls Tryd.prog 35 #[.pointer (some ⟨b, off, none⟩), .pointer (some ⟨b', off', none⟩)] w (BoolPost w (bareB (minusB x) y)) := by
  obtain ⟨k, o, n, nm, nms, kids, ln, cl⟩ := x
  obtain ⟨k', o', n', nm', nms', kids', ln', cl'⟩ := y
  obtain ⟨na, nc, ka, kc, hp⟩ := parts hx
  obtain ⟨na', nc', ka', kc', hp'⟩ := parts hy
  obtain ⟨x0, x1, _, _, _, _⟩ := hp.cells w hb
  obtain ⟨y0, _, y2, _, _, _⟩ := hp'.cells w hb
  clear hp hp' hx hy hb
  unfold BoolPost
  have fin : ∀ c : Bool, bareB (minusB (.mk k o n nm nms kids ln cl)) (.mk k' o' n' nm' nms' kids' ln' cl') = c → Hid (bareB (minusB (.mk k o n nm nms kids ln cl)) (.mk k' o' n' nm' nms' kids' ln' cl') = c) := fun _ h => Lib.hid h
  by_cases h2 : k' = 2 ∨ k' = 3 ∨ k' = 4 ∨ k' = 13
  · have HB := fin true (by simp [bareB, h2])
    clear fin
    rcases h2 with rfl | rfl | rfl | rfl
    all_goals
      go_enter Tryd.func35, Tryd.ntmps35
      go_wp2_with fail
      go_ret
      exact ⟨by rw [HB.out]; rfl, rfl⟩
  · have n2 : ((k' : Int) == 2) = false := by simp; omega
    have n3 : ((k' : Int) == 3) = false := by simp; omega
    have n4 : ((k' : Int) == 4) = false := by simp; omega
    have n13 : ((k' : Int) == 13) = false := by simp; omega
    by_cases h1 : k' = 1
    · subst h1
      by_cases hn : 0 ≤ n'
      · by_cases h6 : k = 6
        · subst h6
          by_cases ho : o = 2
          · subst ho
            have HB := fin false (by simp [bareB, minusB])
            clear fin h2
            go_enter Tryd.func35, Tryd.ntmps35
            go_wp2_with fail
            go_ret
            exact ⟨by rw [HB.out]; rfl, rfl⟩
          · have HB := fin true (by simp [bareB, minusB, ho, hn])
            have o2 : ((o : Int) == 2) = false := by simp; omega
            clear fin h2
            go_enter Tryd.func35, Tryd.ntmps35
            go_wp2_with fail
            go_ret
            exact ⟨by rw [HB.out]; rfl, rfl⟩
        · have HB := fin true (by simp [bareB, minusB, h6, hn])
          have k6 : ((k : Int) == 6) = false := by simp; omega
          clear fin h2
          go_enter Tryd.func35, Tryd.ntmps35
          go_wp2_with fail
          go_ret
          exact ⟨by rw [HB.out]; rfl, rfl⟩
      · have HB := fin false (by simp [bareB, hn])
        clear fin h2
        go_enter Tryd.func35, Tryd.ntmps35
        go_wp2_with fail
        go_ret
        exact ⟨by rw [HB.out]; rfl, rfl⟩
    · have n1 : ((k' : Int) == 1) = false := by simp; omega
      have HB := fin false (by simp [bareB, h1]; omega)
      clear fin h2
      go_enter Tryd.func35, Tryd.ntmps35
      go_wp2_with fail
      go_ret
      exact ⟨by rw [HB.out]; rfl, rfl⟩

set_option maxRecDepth 100000 in
theorem ctor_any (w0 w : World) (b off k o : Nat) (n : Int) (nm : ByteArray) (nms : List ByteArray) (kids : List Ex) (na : Option Addr) (nc : Nat) (ka : Option Addr) (kc : Nat) (hp : Parts w0 b off k o n nm nms kids na nc ka kc) (hb : Below w0.heap.size w0 w) (i : Nat) (hi : i < nms.length) :
    Calls Tryd.prog 29 #[.pointer (some ⟨b, off, none⟩), .int .i64 i] w (fun e w' => e = .returned (.string nms[i]) ∧ w' = w) := by
  obtain ⟨x0, x1, x2, x3, x4, x5⟩ := hp.cells w hb
  obtain ⟨nb, no, rfl, hc⟩ := hp.name i hi
  have y0 := hc w hb
  have hln := hp.ln
  unfold maxLen at hln
  have i0 : (0 : Int) ≤ (i : Int) := Int.natCast_nonneg _
  have i1 : (i : Int) < (nms.length : Int) := by omega
  clear hp hb hc
  go_enter Tryd.func29, Tryd.ntmps29
  go_wp2_with fail
  go_ret
  exact ⟨rfl, rfl⟩

theorem put1 (w0 w : World) (l : List UInt8) (h : Bu w0 l w) (s1 : ByteArray) (t : List UInt8) (ht : bs s1 = t) (hlen : l.length + t.length ≤ 140737488355328) :
    Calls Tryd.prog 20 #[.pointer (some ⟨w0.heap.size, 0, none⟩), .slice (some ⟨w.heap.size, 0, none⟩) 1 1] (w.alloc (.cells #[.string s1] 9)) (PutPost w0 (l ++ t)) := by
  have := put_any w0 (w.alloc (.cells #[.string s1] 9)) l (h.alloc _) [s1] w.heap.size (Has.new _ _ _) (by simp) (by simp only [cat, List.append_nil]; rw [ht]; omega)
  simp only [cat, List.append_nil, ht] at this
  exact this
theorem put2 (w0 w : World) (l : List UInt8) (h : Bu w0 l w) (s1 s2 : ByteArray) (t : List UInt8) (ht : bs s1 ++ bs s2 = t) (hlen : l.length + t.length ≤ 140737488355328) :
    Calls Tryd.prog 20 #[.pointer (some ⟨w0.heap.size, 0, none⟩), .slice (some ⟨w.heap.size, 0, none⟩) 2 2] (w.alloc (.cells #[.string s1, .string s2] 9)) (PutPost w0 (l ++ t)) := by
  have := put_any w0 (w.alloc (.cells #[.string s1, .string s2] 9)) l (h.alloc _) [s1, s2] w.heap.size (Has.new _ _ _) (by simp) (by simp only [cat, List.append_nil]; rw [ht]; omega)
  simp only [cat, List.append_nil, ht] at this
  exact this
theorem put3 (w0 w : World) (l : List UInt8) (h : Bu w0 l w) (s1 s2 s3 : ByteArray) (t : List UInt8) (ht : bs s1 ++ (bs s2 ++ bs s3) = t) (hlen : l.length + t.length ≤ 140737488355328) :
    Calls Tryd.prog 20 #[.pointer (some ⟨w0.heap.size, 0, none⟩), .slice (some ⟨w.heap.size, 0, none⟩) 3 3] (w.alloc (.cells #[.string s1, .string s2, .string s3] 9)) (PutPost w0 (l ++ t)) := by
  have := put_any w0 (w.alloc (.cells #[.string s1, .string s2, .string s3] 9)) l (h.alloc _) [s1, s2, s3] w.heap.size (Has.new _ _ _) (by simp) (by simp only [cat, List.append_nil]; rw [ht]; omega)
  simp only [cat, List.append_nil, ht] at this
  exact this
theorem put5 (w0 w : World) (l : List UInt8) (h : Bu w0 l w) (s1 s2 s3 s4 s5 : ByteArray) (t : List UInt8) (ht : bs s1 ++ (bs s2 ++ (bs s3 ++ (bs s4 ++ bs s5))) = t) (hlen : l.length + t.length ≤ 140737488355328) :
    Calls Tryd.prog 20 #[.pointer (some ⟨w0.heap.size, 0, none⟩), .slice (some ⟨w.heap.size, 0, none⟩) 5 5] (w.alloc (.cells #[.string s1, .string s2, .string s3, .string s4, .string s5] 9)) (PutPost w0 (l ++ t)) := by
  have := put_any w0 (w.alloc (.cells #[.string s1, .string s2, .string s3, .string s4, .string s5] 9)) l (h.alloc _) [s1, s2, s3, s4, s5] w.heap.size (Has.new _ _ _) (by simp) (by simp only [cat, List.append_nil]; rw [ht]; omega)
  simp only [cat, List.append_nil, ht] at this
  exact this

def whenL (c v : ByteArray) : List UInt8 := [32, 119, 104, 101, 110, 32] ++ (bs c ++ ([40] ++ (bs v ++ [41])))
set_option maxRecDepth 100000 in
theorem when_any (w0 w : World) (l : List UInt8) (h : Bu w0 l w) (c v : ByteArray) (hlen : l.length + (whenL c v).length ≤ 140737488355328) :
    Calls Tryd.prog 21 #[.pointer (some ⟨w0.heap.size, 0, none⟩), .string c, .string v] w (PutPost w0 (l ++ whenL c v)) := by
  have HP := Lib.hid (put5 w0 w l h ⟨#[32, 119, 104, 101, 110, 32]⟩ c ⟨#[40]⟩ v ⟨#[41]⟩ (whenL c v) rfl hlen)
  clear h hlen
  go_enter Tryd.func21, Tryd.ntmps21
  go_wp2_with fail
  refine HP.out.mono ?_
  rintro e w1 ⟨rfl, hB⟩
  have HB := Lib.hid hB
  clear hB
  go_wp2_with fail
  go_end0
  exact ⟨rfl, HB.out⟩
end Go.Proofs.YtmhjcnnocllniaaDoor.sh
