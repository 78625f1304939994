/-
  lex.Join of a list of tokens that a row owns: the tokens' texts, a blank ahead of each but the first and an End.
-/
import Derived.Test.YtbhibfadccghmaaDoorLxGaps
import Derived.Test.YtbhibfadccghmaaDoorLxBuild
import Derived.Test.YtbhibfadccghmaaDoorLxStr
namespace Go.Proofs.YtbhibfadccghmaaDoor.lx
open Go.ChangeShapes Go.WideShapes Go.ChangeAt Go.RowKit
set_option linter.unusedVariables false

/-- a token's text, with its blank -/
def joinTok (i : Nat) (t : Tok) : List UInt8 := (if 0 < i ∧ t.kind ≠ 0 then [32] else []) ++ t.text
def joinFrom : Nat → List Tok → List UInt8
  | _, [] => []
  | i, t :: r => joinTok i t ++ joinFrom (i + 1) r
def joinS (l : List Tok) : List UInt8 := joinFrom 0 l

theorem joinFrom_append : ∀ (l r : List Tok) (i : Nat), joinFrom i (l ++ r) = joinFrom i l ++ joinFrom (i + l.length) r
  | [], r, i => by simp [joinFrom]
  | t :: l, r, i => by
    simp only [List.cons_append, joinFrom, joinFrom_append l r (i + 1), List.append_assoc, List.length_cons]
    congr 3
    omega

theorem joinS_take (l : List Tok) (i : Nat) (hi : i < l.length) : joinS (l.take (i + 1)) = joinS (l.take i) ++ joinTok i l[i] := by
  rw [List.take_add_one, List.getElem?_eq_getElem hi]
  simp only [Option.toList, joinS]
  rw [joinFrom_append]
  simp only [List.length_take, Nat.min_eq_left (Nat.le_of_lt hi), Nat.zero_add, joinFrom, List.append_nil]

theorem byteCells_append (a b : List UInt8) : Lib.byteCells (a ++ b) = Lib.byteCells a ++ Lib.byteCells b := by simp [Lib.byteCells]
theorem strCells_text (l : List UInt8) : Lib.strCells ⟨l.toArray⟩ = Lib.byteCells l := by simp [Lib.strCells, Lib.byteCells]

theorem isb_alloc {T e : TypeId} {B b : Nat} {bs : List Value} {w : World} (h : Lib.IsBuilder T e B b bs w) (o : Obj) : Lib.IsBuilder T e B b bs (w.alloc o) := by
  rcases h with ⟨hB, v, hb, hown, hne⟩ | ⟨hB, v, hb, hown, hne⟩
  · exact .inl ⟨hB, v, (Lib.alloc_old w o b (lt_of_heap hb)).trans hb, hown.alloc o, hne⟩
  · exact .inr ⟨hB, v, (Lib.alloc_old w o b (lt_of_heap hb)).trans hb, hown.alloc o, hne⟩

set_option maxRecDepth 10000 in
set_option maxHeartbeats 4000000 in
theorem join_any (l : List Tok) (base g cap : Nat) (w : World) (hown : w.ownsRow base 44 5 (.slice (some ⟨g, 0, none⟩) l.length cap) l.length (l.flatMap tokCells))
    (hsz : ∀ i, (joinS (l.take i)).length ≤ i * 40) (hl : l.length ≤ 1000) (htx : ∀ i (hi : i < l.length), l[i].text.length ≤ 39) :
    Calls Tryd.prog 20 #[.slice (some ⟨g, 0, none⟩) l.length cap] w fun e w' => e = .returned (.string ⟨(joinS l).toArray⟩) ∧ Below w.heap.size w w' := by
  have HO := Lib.hid hown
  clear hown
  go_enter Tryd.func20, Tryd.ntmps20
  go_wp2_with fail
  go_loopw [8] (fun iv wr => ∃ n : Nat, n ≤ l.length ∧ iv = .int .i64 n ∧ Hid (Lib.IsBuilder 68 5 w.heap.size w.heap.size (Lib.byteCells (joinS (l.take n))) wr ∧ Below w.heap.size w wr)) (fun iv _ => l.length - (intOf iv).toNat)
  case atStart => exact ⟨0, by omega, rfl, Lib.hid ⟨Lib.fresh_isBuilder _ _ w, (Below.refl _ _).alloc (Nat.le_refl _) _⟩⟩
  case round =>
    obtain ⟨n, hn, rfl, HW⟩ := hrel
    by_cases hlt : n < l.length
    · obtain ⟨c1, c2, c3, c4, c5⟩ := tok_at HO.out n hlt
      have hgw : g < w.heap.size := World.block_lt_of_cell? w _ c1
      have k5 : ∀ o, wr.cell? ⟨g, o, none⟩ = w.cell? ⟨g, o, none⟩ := fun o => HW.out.2.cell (p := ⟨g, o, none⟩) hgw
      rw [← k5] at c1 c2 c3 c4 c5
      clear k5
      have hjl := hsz n
      have hgr : g < wr.heap.size := World.block_lt_of_cell? wr _ c1
      have htn := htx n hlt
      have hjt := joinS_take l n hlt
      obtain ⟨t, ht⟩ : ∃ t, t = l[n] := ⟨_, rfl⟩
      rw [← ht] at c1 c2 c3 c4 c5 htn hjt
      have hz : (⟨t.text.toArray⟩ : ByteArray).size = t.text.length := by show t.text.toArray.size = _; simp
      have hst := strCells_text t.text
      have HT := Lib.hid ht
      clear ht
      have hbl : (Lib.byteCells (joinS (l.take n))).length ≤ 40000 := by rw [Lib.byteCells_length]; omega
      obtain ⟨kx, hkx⟩ : ∃ kx : Int, kx = (t.kind : Int) := ⟨_, rfl⟩
      rw [← hkx] at c1
      have HK : Hid (t.kind = 0 ↔ kx = 0) := Lib.hid (by omega)
      clear hkx
      generalize (⟨t.text.toArray⟩ : ByteArray) = tx at *
      generalize t.num = nx at *
      generalize (t.line : Int) = lx at *
      generalize (t.col : Int) = cx at *
      have hsz1 := HW.out.2.size
      have HB := Lib.hid (isb_alloc HW.out.1 (.cells #[.int .u8 kx, .string tx, .int .i32 nx, .int .i64 lx, .int .i64 cx] 44))
      have hx0 := heap_alloc_new wr (.cells #[.int .u8 kx, .string tx, .int .i32 nx, .int .i64 lx, .int .i64 cx] 44)
      have HX := Lib.hid hx0
      have hlow := HW.out.2.alloc HW.out.2.size (.cells #[.int .u8 kx, .string tx, .int .i32 nx, .int .i64 lx, .int .i64 cx] 44)
      have HLOW := Lib.hid hlow
      clear hx0 hlow
      by_cases hb : 0 < n ∧ t.kind ≠ 0
      · have hn0 : (0 : Int) < (n : Int) := by omega
        have hk0 : ¬ (kx = 0) := fun e => hb.2 (HK.out.2 e)
        have hjk : joinTok n t = [32] ++ t.text := by simp [joinTok, hb.1, hb.2]
        rw [hjk] at hjt
        have HJ := Lib.hid hjt
        have HS := Lib.hid hst
        clear hjt hst hjk
        go_wp2_with fail
        refine (writeByte_any w.heap.size w.heap.size (Lib.byteCells (joinS (l.take n))) 32 _ HB.out (by omega) (by simp; omega)).mono ?_
        rintro e w2 ⟨rfl, hb2, hlow2, hk2⟩
        have hx2 := hk2 _ _ _ _ (by decide) (by decide) HX.out
        have d1 : w2.cell? ⟨wr.heap.size, 1, none⟩ = some (.string tx) := by rw [Lib.cell_of_heap hx2]; rfl
        have hsz2 := hlow2.size
        simp only [World.size_alloc] at hsz2
        have H2 := Lib.hid (And.intro hb2 (HLOW.out.trans hlow2))
        clear hb2 hlow2 hk2 hx2
        go_wp2_with fail
        refine (writeString_any w.heap.size w.heap.size _ tx w2 (.inr H2.out.1) (by simp; omega) (by omega)).mono ?_
        rintro e w3 ⟨rfl, hb3, hlow3, _⟩
        have H3 : Hid (Lib.IsBuilder 68 5 w.heap.size w.heap.size (Lib.byteCells (joinS (l.take (n + 1)))) w3 ∧ Below w.heap.size w w3) := Lib.hid ⟨.inr (by rw [HJ.out, byteCells_append, byteCells_append, ← HS.out, ← List.append_assoc]; exact hb3), H2.out.2.trans hlow3⟩
        clear hb3 hlow3
        go_wp2
        go_roundw
        case rel => exact ⟨n + 1, by omega, by go_num, H3⟩
        case measure => simp [intOf]; omega
      · have hjk : joinTok n t = t.text := by simp [joinTok, hb]
        rw [hjk] at hjt
        have HJ := Lib.hid hjt
        have HS := Lib.hid hst
        have d1 : (wr.alloc (.cells #[.int .u8 kx, .string tx, .int .i32 nx, .int .i64 lx, .int .i64 cx] 44)).cell? ⟨wr.heap.size, 1, none⟩ = some (.string tx) := by rw [Lib.cell_of_heap HX.out]; rfl
        clear hjt hst hjk
        by_cases hn0 : (0 : Int) < (n : Int)
        · have hk0 : kx = 0 := HK.out.1 (by omega)
          subst hk0
          go_wp2_with fail
          refine (writeString_any w.heap.size w.heap.size _ tx _ HB.out (by omega) (by simp; omega)).mono ?_
          rintro e w3 ⟨rfl, hb3, hlow3, _⟩
          have H3 : Hid (Lib.IsBuilder 68 5 w.heap.size w.heap.size (Lib.byteCells (joinS (l.take (n + 1)))) w3 ∧ Below w.heap.size w w3) := Lib.hid ⟨.inr (by rw [HJ.out, byteCells_append, ← HS.out]; exact hb3), HLOW.out.trans hlow3⟩
          clear hb3 hlow3
          go_wp2
          go_roundw
          case rel => exact ⟨n + 1, by omega, by go_num, H3⟩
          case measure => simp [intOf]; omega
        · go_wp2_with fail
          refine (writeString_any w.heap.size w.heap.size _ tx _ HB.out (by omega) (by simp; omega)).mono ?_
          rintro e w3 ⟨rfl, hb3, hlow3, _⟩
          have H3 : Hid (Lib.IsBuilder 68 5 w.heap.size w.heap.size (Lib.byteCells (joinS (l.take (n + 1)))) w3 ∧ Below w.heap.size w w3) := Lib.hid ⟨.inr (by rw [HJ.out, byteCells_append, ← HS.out]; exact hb3), HLOW.out.trans hlow3⟩
          clear hb3 hlow3
          go_wp2
          go_roundw
          case rel => exact ⟨n + 1, by omega, by go_num, H3⟩
          case measure => simp [intOf]; omega
    · obtain rfl : n = l.length := by omega
      have hb := HW.out.1
      rw [List.take_length] at hb
      have HB := Lib.hid hb
      have hsz1 := HW.out.2.size
      clear hb
      go_wp2_with fail
      refine (string_any w.heap.size w.heap.size (joinS l) wr HB.out (by omega)).mono ?_
      rintro e w2 ⟨rfl, hlow2⟩
      have HL := Lib.hid (HW.out.2.trans hlow2)
      clear hlow2
      go_wp2
      go_ret
      exact ⟨rfl, HL.out⟩
end Go.Proofs.YtbhibfadccghmaaDoor.lx
