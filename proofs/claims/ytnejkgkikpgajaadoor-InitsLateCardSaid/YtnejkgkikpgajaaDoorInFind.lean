/-
  The search: all definitions of a block.
-/
import Derived.Test.YtnejkgkikpgajaaDoorInDef
import Derived.Laws.MakeOwn
import Derived.Laws.OwnMore
namespace Go.Proofs.YtnejkgkikpgajaaDoor.ini
open Go.ChangeShapes Go.WideShapes Go.ChangeAt Go.RowKit
open tr ck
set_option linter.unusedVariables false
set_option linter.unusedSimpArgs false

theorem ints_info : (Tryd.prog.info? 173).map (fun i => (i.zero, i.size, i.bytes)) = some (some (.slice none 0 0), 1, 24) := by kernel_rfl
def wcells (n : Nat) : Array Value := madeCells (Value.slice none 0 0).cells (n * 1)
theorem wcells_get (n u : Nat) (h : u < n) : (wcells n)[u]? = some (.slice none 0 0) := by
  unfold wcells madeCells
  simp [Value.cells, Nat.mul_one, h, Nat.mod_one]
theorem run_mk (n : Nat) (hn : n ≤ 1000) (w : World) : (Instr.makeSlice 112 (.int .i64 (n : Int)) (.int .i64 (n : Int))).run Tryd.prog w = .ok (.slice (some ⟨w.heap.size, 0, none⟩) n n) (w.alloc (.cells (wcells n) 173)) := by
  obtain ⟨iv0, hvi, hv3⟩ := Option.map_eq_some_iff.1 ints_info
  simp only [Prod.mk.injEq] at hv3
  obtain ⟨hvz, hvs, hvb⟩ := hv3
  have := run_make (P := Tryd.prog) w 112 173 iv0 (.slice none 0 0) Tryd.underlying112 hvi hvz .i64 .i64 n n (by omega) (by omega) (by rw [hvb]; omega) (by omega)
  rw [hvs, Int.toNat_natCast] at this
  exact this

/-- a block: its variables' names, its definitions -/
structure BlockIn (w : World) (bb bo : Nat) (va : Option Addr) (cv : Nat) (own : List ByteArray) (qa : Option Addr) (qc : Nat) (All : List Eqn) : Prop where
  vars : w.cell? ⟨bb, bo, none⟩ = some (.slice va own.length cv)
  eqs : w.cell? ⟨bb, bo + 1, none⟩ = some (.slice qa All.length qc)
  names : NamesV w va own
  defs : ∀ j (hj : j < All.length), ∃ qb, qa = some ⟨qb, 0, none⟩ ∧ EqIn w qb (j * 16) All[j]
def szAll (l : List Eqn) : Nat := (l.map (fun q => sz q.2)).sum
theorem szAll_take (l : List Eqn) (j : Nat) (h : j < l.length) : szAll (l.take (j + 1)) = szAll (l.take j) + sz l[j].2 := by
  unfold szAll
  rw [List.take_succ_eq_append_getElem h, List.map_append, List.sum_append]; simp
theorem szAll_le (l : List Eqn) (j : Nat) : szAll (l.take j) ≤ szAll l := by
  unfold szAll
  have h : (l.map (fun q => sz q.2)).sum = ((l.take j).map (fun q => sz q.2)).sum + ((l.drop j).map (fun q => sz q.2)).sum := by
    rw [← List.sum_append, ← List.map_append, List.take_append_drop]
  omega
def FindPost (w : World) (m : Nat) (own : List ByteArray) (All : List Eqn) (e : Ending) (w' : World) : Prop :=
  ∃ S, e = .returned (.tuple #[]) ∧ MAt w' m (ltL S) ∧ Least own All S ∧ Kp [m] w w'
set_option maxRecDepth 100000 in
set_option maxHeartbeats 8000000 in
theorem find_any (w : World) (m om bb bo : Nat) (va : Option Addr) (cv : Nat) (own : List ByteArray) (qa : Option Addr) (qc : Nat) (All : List Eqn) (hB : BlockIn w bb bo va cv own qa qc All) (hm : MAt w m (ltL [])) (ho : MAt w om (nbL 0 own)) (hmo : om ≠ m) (hn : own.Nodup) (hl : own.length ≤ 1000) (hk : All.length ≤ 1000) (hz : szAll All ≤ 1000000) :
    Calls Tryd.prog 21 #[.map (some m), .pointer (some ⟨bb, bo, none⟩), .map (some om)] w (FindPost w m own All) := by
  have hmk := run_mk own.length hl
  have b0 := hB.vars
  have b1 := hB.eqs
  have hbl := World.block_lt_of_cell? w _ b0
  have HS1 : Hid (w.drew.cell? ⟨bb, bo, none⟩ = some (.slice va own.length cv)) := Lib.hid b0
  have HSF : Hid (∀ W, Below w.heap.size w W → W.cell? ⟨bb, bo, none⟩ = some (.slice va own.length cv)) := Lib.hid (fun W hW => cell_below hW _ _ _ b0)
  have HB := Lib.hid hB
  have HMM := Lib.hid (And.intro hm (And.intro ho hmo))
  have HN := Lib.hid hn
  clear hB hm ho hmo hn
  unfold FindPost
  go_enter Tryd.func21, Tryd.ntmps21
  go_wp2_with fail
  first | go_region_held3 (fun w' => w'.cell? ⟨bb, bo, none⟩ = some (.slice va own.length cv)) (first | with_reducible exact HS1.out | with_reducible exact HSF.out _ ((Below.refl _ w).alloc (Nat.le_refl _) _).drew | (with_reducible refine HSF.out _ ?_; go_grown) | go_keep | fail) (first | fail) | fail
  all_goals
    obtain ⟨x, hx⟩ : ∃ x : Cx, x = ⟨w, w.heap.size + 1, w.heap.size, m, om, va, cv, own.length, own⟩ := ⟨_, rfl⟩
    obtain ⟨W0, hW0⟩ : ∃ W0, W0 = ((w.alloc (.cells (wcells own.length) 173)).alloc (.cells #[.map (some m), .slice va own.length cv, .map (some om), .slice (some ⟨w.heap.size, 0, none⟩) own.length own.length] 114)).drew := ⟨_, rfl⟩
    have hb0 : Below w.heap.size w W0 := by rw [hW0]; exact (((Below.refl _ w).alloc (Nat.le_refl _) _).alloc (by simp) _).drew
    have hse : Se x W0 [] (fun _ => .slice none 0 0) (List.replicate own.length []) := by
      have hg : ∀ u, gt (List.replicate own.length ([] : List Nat)) u = [] := fun u => by
        unfold gt
        rw [List.getD_eq_getElem?_getD, List.getElem?_replicate]
        split <;> rfl
      subst hx
      refine ⟨hb0.size, cell_below hb0, ?_, HMM.out.1.below hb0 HMM.out.1.lt, HMM.out.2.1.below hb0 HMM.out.2.1.lt, ⟨by simp, ⟨wcells own.length, ?_, fun u hu => wcells_get _ _ hu⟩, fun u hu => ?_, fun _ _ _ => rfl, fun _ _ _ _ _ h => absurd rfl h⟩, by show w.heap.size ≤ w.heap.size + 1; omega, Nat.le_refl _, HMM.out.2.2⟩
      · rw [hW0]
        have := Has.new (w.alloc (.cells (wcells own.length) 173)) 114 #[.map (some m), .slice va own.length cv, .map (some om), .slice (some ⟨w.heap.size, 0, none⟩) own.length own.length]
        simp only [World.size_alloc] at this
        exact this
      · rw [hW0]; exact (Has.new w _ _).alloc _
      · rw [hg u]; exact World.ownsRow_nil _ _ _ _
    have hxw : x.w = w := by rw [hx]
    have H0 : Hid (Se x W0 [] (fun _ => .slice none 0 0) (List.replicate own.length []) ∧ Inv own All (All.take 0) [] (List.replicate own.length []) [] ∧ Kp [m] w W0 ∧ tot (List.replicate own.length ([] : List Nat)) ≤ szAll (All.take 0)) := Lib.hid ⟨hse, Inv.start own All _, (Kp.refl _ _).below hb0, by simp [tot]⟩
    have HX := Lib.hid hx
    have HE1 := cell_below hb0 _ _ _ b1
    have HW0 := Lib.hid hW0
    rw [hW0] at HE1
    clear hx hW0 hb0 hse hxw HS1 HSF
    go_wp2_with fail
    first | rw [← HW0.out] | skip
    go_loopw [28] (fun iv wr => ∃ (j : Nat) (S : List ByteArray) (R : Nat → Value) (Ws : List (List Nat)), j ≤ All.length ∧ iv = .int .i64 j ∧ Hid (Se x wr S R Ws ∧ Inv own All (All.take j) S Ws [] ∧ Kp [m] w wr ∧ tot Ws ≤ szAll (All.take j))) (fun iv _ => All.length - (intOf iv).toNat)
    case atStart => exact ⟨0, _, _, _, by omega, rfl, H0⟩
    case round =>
      obtain ⟨j, S, R, Ws, hj, rfl, HR⟩ := hrel
      clear H0
      have keep : ∀ b o v, w.cell? ⟨b, o, none⟩ = some v → wr.cell? ⟨b, o, none⟩ = some v := fun b o v hv => HR.out.1.keep b o v (by rw [HX.out]; exact hv)
      by_cases hlt : j < All.length
      · have i0 : (0 : Int) ≤ (j : Int) := Int.natCast_nonneg _
        have i1 : (j : Int) < (All.length : Int) := by omega
        have e1 := keep _ _ _ b1
        obtain ⟨qb, rfl, hq⟩ := HB.out.defs j hlt
        have e2 := keep _ _ _ hq.kind
        have hst := szAll_take All j hlt
        have hsl := szAll_le All (j + 1)
        have HD := Lib.hid (define_any x All (All.take j) wr S R Ws All[j] qb (j * 16) (by rw [HX.out]; exact HN.out) HR.out.1 (by rw [HX.out]; exact HB.out.names) (by rw [HX.out]; exact HR.out.2.1) (by rw [HX.out]; exact HR.out.2.2.1) (List.getElem_mem hlt) (by rw [HX.out]; exact hq) (by have := HR.out.2.2.2; omega))
        rw [show x.sb = w.heap.size + 1 from by rw [HX.out]] at HD
        have HT : Hid (All.take (j + 1) = All.take j ++ [All[j]]) := Lib.hid (List.take_succ_eq_append_getElem hlt)
        have HZ : Hid (szAll (All.take (j + 1)) = szAll (All.take j) + sz All[j].2) := Lib.hid hst
        clear hq hst hsl keep
        unfold DefPost at HD
        go_wp2_with fail
        refine HD.out.mono ?_
        rintro e w1 ⟨S', R', Ws', rfl, h1, h2, h3, h4⟩
        have H : Hid (Se x w1 S' R' Ws' ∧ Inv own All (All.take (j + 1)) S' Ws' [] ∧ Kp [m] w w1 ∧ tot Ws' ≤ szAll (All.take (j + 1))) := Lib.hid ⟨h1, by rw [HT.out]; rw [HX.out] at h2; exact h2, by rw [HX.out] at h3; exact h3, by have := HR.out.2.2.2; have := HZ.out; omega⟩
        clear h1 h2 h3 h4 HD e1 e2
        go_wp2_with fail
        go_roundw
        case rel => exact ⟨j + 1, S', R', Ws', by omega, by go_num, H⟩
        case measure => simp [intOf]; omega
      · obtain rfl : j = All.length := by omega
        have H : Hid (MAt wr m (ltL S) ∧ Least own All S ∧ Kp [m] w wr) := Lib.hid ⟨by have := HR.out.1.late; rw [HX.out] at this; exact this, by have := HR.out.2.1; rw [List.take_length] at this; exact this.least, HR.out.2.2.1⟩
        clear HR keep
        go_wp2_with fail
        go_returns
        exact ⟨S, rfl, H.out⟩
end Go.Proofs.YtnejkgkikpgajaaDoor.ini
