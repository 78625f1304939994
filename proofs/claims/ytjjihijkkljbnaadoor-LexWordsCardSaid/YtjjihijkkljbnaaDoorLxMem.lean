/-
  A block of the call's own that is known whole; skip of package lex.
-/
import Derived.Test.YtjjihijkkljbnaaDoorLxSign
import Derived.Laws.OwnMore
import Derived.Laws.Rows
namespace Go.Proofs.YtjjihijkkljbnaaDoor.lx
open Go.ChangeShapes Go.WideShapes Go.ChangeAt Go.RowKit
set_option linter.unusedVariables false

/-- block g is these cells, of this element type, none frozen -/
def Has (w : World) (g : Nat) (t : TypeId) (cs : Array Value) : Prop := w.heap[g]? = some (.cells cs t (0, 0))

theorem Has.lt {w : World} {g : Nat} {t : TypeId} {cs : Array Value} (h : Has w g t cs) : g < w.heap.size := by
  unfold Has at h
  by_cases hg : g < w.heap.size
  · exact hg
  · rw [Array.getElem?_eq_none (by omega)] at h; cases h
theorem Has.cell {w : World} {g : Nat} {t : TypeId} {cs : Array Value} (h : Has w g t cs) (i : Nat) : w.cell? ⟨g, i, none⟩ = cs[i]? :=
  cell_of_row w g i cs t (0, 0) h
theorem Has.free {w : World} {g : Nat} {t : TypeId} {cs : Array Value} (h : Has w g t cs) (i : Nat) : w.frozen? ⟨g, i, none⟩ = false := by
  unfold Has at h; simp [World.frozen?, h]
theorem Has.new (w : World) (t : TypeId) (cs : Array Value) : Has (w.alloc (.cells cs t)) w.heap.size t cs := by
  unfold Has
  show (w.heap.push _)[w.heap.size]? = _
  simp
theorem Has.alloc {w : World} {g : Nat} {t : TypeId} {cs : Array Value} (h : Has w g t cs) (o : Obj) : Has (w.alloc o) g t cs :=
  (Below.heap_alloc w o g h.lt).trans h
theorem Has.put {w : World} {g : Nat} {t : TypeId} {cs : Array Value} (h : Has w g t cs) (i : Nat) (v : Value) : Has (w.setCell ⟨g, i, none⟩ v) g t (cs.setIfInBounds i v) := by
  unfold Has at h ⊢
  simp [World.setCell, Array.getElem?_modify, h]
theorem Has.put_far {w : World} {g g' : Nat} {t : TypeId} {cs : Array Value} (h : Has w g t cs) (i : Nat) (v : Value) (hne : g ≠ g') : Has (w.setCell ⟨g', i, none⟩ v) g t cs :=
  (Below.heap_setCell w ⟨g', i, none⟩ v g hne).trans h
theorem Has.below {w w' : World} {B g : Nat} {t : TypeId} {cs : Array Value} (h : Has w g t cs) (hb : Below B w w') (hg : g < B) : Has w' g t cs := (hb.block g hg).trans h
theorem Has.grown {w w' : World} {g : Nat} {t : TypeId} {cs : Array Value} {row : Option Nat} (h : Has w g t cs) (hb : w.grownBy w' row) (hg : some g ≠ row) : Has w' g t cs := (hb.block g h.lt hg).trans h
theorem Has.same {w : World} {g : Nat} {t t' : TypeId} {cs cs' : Array Value} (h : Has w g t cs) (h' : Has w g t' cs') : t = t' := by
  unfold Has at h h'
  rw [h] at h'
  injection h' with h'
  injection h'
theorem Has.own_ne {w : World} {g : Nat} {t : TypeId} {cs : Array Value} {base : Nat} {e : TypeId} {size n : Nat} {v : Value} {xs : List Value} (h : Has w g t cs) (ho : w.ownsRow base e size v n xs) (hne : e ≠ t) : v.ownBlock ≠ some g := by
  rcases ho.2 with ⟨rfl, _⟩ | ⟨g', cap, cur, rfl, _, hh, _⟩
  · simp [Value.ownBlock]
  · intro he
    have : g' = g := by simpa [Value.ownBlock] using he
    subst this
    exact hne (Has.same (t := e) hh h)

theorem grown_refl (w : World) (row : Option Nat) : w.grownBy w row := ⟨rfl, rfl, rfl, Nat.le_refl _, fun _ _ _ => rfl⟩
theorem grown_put {w w' : World} {g : Nat} (h : w.grownBy w' (some g)) (i : Nat) (v : Value) : w.grownBy (w'.setCell ⟨g, i, none⟩ v) (some g) :=
  ⟨h.os, h.tape, h.output, by simp [World.setCell]; exact h.size, fun k hk hne => (Below.heap_setCell w' ⟨g, i, none⟩ v k (fun e => hne (by rw [e]))).trans (h.block k hk hne)⟩
theorem grown_below {w w' : World} (row : Option Nat) (h : Below w.heap.size w w') : w.grownBy w' row := ⟨h.os, h.tape, h.output, h.size, fun k hk _ => h.block k hk⟩

theorem adv_le (l : List UInt8) (p : Nat × Nat) : (adv l p).1 ≤ p.1 + l.length ∧ (adv l p).2 ≤ p.2 + l.length + 1 := by
  induction l generalizing p with
  | nil => simp [adv]
  | cons c r ih =>
    simp only [adv, List.length_cons]
    by_cases h : c.toNat = 10
    · rw [if_pos h]
      have := ih (p.1 + 1, 1)
      simp only at this
      omega
    · rw [if_neg h]
      have := ih (p.1, p.2 + 1)
      simp only at this
      omega

theorem adv_snoc (l : List UInt8) (c : UInt8) (p : Nat × Nat) : adv (l ++ [c]) p = if c.toNat = 10 then ((adv l p).1 + 1, 1) else ((adv l p).1, (adv l p).2 + 1) := by
  rw [adv_app]; rfl

theorem skip_any (g : Nat) (r : ByteArray) (p : Nat × Nat) (n : Nat) (w : World) (hg : Has w g 76 #[.string r, .int .i64 p.1, .int .i64 p.2]) (hn : n ≤ r.size) (hr : r.size ≤ 70000) (h1 : p.1 ≤ 200000) (h2 : p.2 ≤ 200000) :
    Calls Tryd.prog 36 #[.pointer (some ⟨g, 0, none⟩), .int .i64 n] w fun e w' => e = .returned (.tuple #[]) ∧
      Has w' g 76 #[.string (r.extract n r.size), .int .i64 (adv (r.data.toList.take n) p).1, .int .i64 (adv (r.data.toList.take n) p).2] ∧ w.grownBy w' (some g) := by
  have HG := Lib.hid hg
  clear hg
  go_enter Tryd.func36, Tryd.ntmps36
  go_wp2
  go_loopw [6] (fun i wr => ∃ k : Nat, k ≤ n ∧ i = .int .i64 k ∧ Hid (Has wr g 76 #[.string r, .int .i64 (adv (r.data.toList.take k) p).1, .int .i64 (adv (r.data.toList.take k) p).2] ∧ w.grownBy wr (some g))) (fun i _ => n - (intOf i).toNat)
  case atStart => exact ⟨0, Nat.zero_le _, rfl, Lib.hid ⟨HG.out, grown_refl _ _⟩⟩
  case round =>
    clear HG
    obtain ⟨k, hk, rfl, HW⟩ := hrel
    obtain ⟨hw, hgr⟩ := HW.out
    have hle := adv_le (r.data.toList.take k) p
    have hlen : (r.data.toList.take k).length ≤ k := List.length_take_le _ _
    obtain ⟨hle1, hle2⟩ := hle
    have c0 := hw.cell 0
    have c1 := hw.cell 1
    have c2 := hw.cell 2
    have f0 := hw.free 0
    have f1 := hw.free 1
    have f2 := hw.free 2
    simp only [List.getElem?_toArray, List.getElem?_cons_zero, List.getElem?_cons_succ] at c0 c1 c2
    by_cases hlt : k < n
    · have hks : k < r.size := by omega
      have hts := take_snoc' r k hks
      have hadv := adv_snoc (r.data.toList.take k) r[k] p
      rw [← hts] at hadv
      by_cases hc : r[k].toNat = 10
      · rw [if_pos hc] at hadv
        have hb : ((r[k].toNat : Int) == 10) = true := by rw [hc]; rfl
        have HA := Lib.hid hadv
        clear hadv hts hc
        generalize adv (r.data.toList.take k) p = q at *
        obtain ⟨a, b⟩ := q
        simp only at *
        have HV : Hid (Has wr g 76 #[.string r, .int .i64 a, .int .i64 b] ∧ w.grownBy wr (some g)) := HW
        clear hw hgr HW
        go_wp2
        go_roundw
        case rel => exact ⟨k + 1, by omega, by go_num, Lib.hid ⟨by rw [HA.out]; exact (HV.out.1.put 1 _).put 2 _, grown_put (grown_put HV.out.2 1 _) 2 _⟩⟩
        case measure => simp [intOf]; omega
      · rw [if_neg hc] at hadv
        have hb : ((r[k].toNat : Int) == 10) = false := by rw [beq_eq_false_iff_ne]; omega
        have HA := Lib.hid hadv
        clear hadv hts hc
        generalize adv (r.data.toList.take k) p = q at *
        obtain ⟨a, b⟩ := q
        simp only at *
        have HV : Hid (Has wr g 76 #[.string r, .int .i64 a, .int .i64 b] ∧ w.grownBy wr (some g)) := HW
        clear hw hgr HW
        go_wp2
        go_roundw
        case rel => exact ⟨k + 1, by omega, by go_num, Lib.hid ⟨by rw [HA.out]; exact HV.out.1.put 2 _, grown_put HV.out.2 2 _⟩⟩
        case measure => simp [intOf]; omega
    · obtain rfl : k = n := by omega
      clear hw hgr
      go_wp2
      go_end0
      exact ⟨rfl, HW.out.1.put 0 _, grown_put HW.out.2 0 _⟩
end Go.Proofs.YtjjihijkkljbnaaDoor.lx
