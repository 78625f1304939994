/-
  take at an At that wraps whatever error, of whatever parts so far; take at a Kind.
-/
import Derived.Test.YtboeobgkepdabaaDoorFcWrap
namespace Go.Proofs.YtboeobgkepdabaaDoor.ft
open Go.ChangeShapes Go.WideShapes Go.ChangeAt Go.RowKit Go.Extern.Stop Go.Stop Go.Extern
open Go.Proofs.YtboeobgkepdabaaDoor.lx (Has grown_refl grown_put grown_below)
set_option linter.unusedVariables false

def TakeCPost (S m base np : Nat) (parts : Value) (ct : TypeId) (cv : Value) (w : World) (e : Ending) (w' : World) : Prop :=
  ∃ r v' us, e = .returned (.slice (some ⟨r, 0, none⟩) 1 1) ∧ Has w' r 27 #[.iface ct cv] ∧ w.heap.size ≤ r ∧ v'.ownBlock ≠ some r ∧
      Has w' S 70 #[.map (some m), .int .i64 0, v', .bool false] ∧ w'.ownsRow base 27 1 v' (np + 1) us ∧ Turns (S :: parts.ownBlock.toList) w w'

/-- what the append and the store leave -/
theorem takec_end (S m base np : Nat) (x y : Int) (nm : ByteArray) (nd : Bool) (ct : TypeId) (cv parts : Value) (us : List Value) (w w1 w2 : World) (r pg cap : Nat) (hb : Below w.heap.size w w1) (hs1 : Has w1 S 70 #[.map (some m), .int .i64 0, parts, .bool false])
    (hr : Has w1 r 27 #[.iface ct cv]) (hro : parts.ownBlock ≠ some r) (hown1 : w1.ownsRow base 27 1 parts np us)
    (hown2 : w2.ownsRow base 27 1 (.slice (some ⟨pg, 0, none⟩) (np + 1) cap) (np + 1) (us ++ [.iface 41 (.pointer (some ⟨w1.heap.size, 0, none⟩))]))
    (hgrow : ((w1.alloc (.cells #[.int .i64 x, .int .i64 y, .string nm, .bool nd, .nilIface] 50)).alloc (.cells #[.iface 41 (.pointer (some ⟨w1.heap.size, 0, none⟩))] 27)).drew.grownBy w2 parts.ownBlock)
    (hpg : parts.ownBlock = some pg ∨ pg = w1.heap.size + 2) (hwr : w.heap.size ≤ r) :
    TakeCPost S m base np parts ct cv w (.returned (.slice (some ⟨r, 0, none⟩) 1 1)) (w2.setCell ⟨S, 2, none⟩ (.slice (some ⟨pg, 0, none⟩) (np + 1) cap)) := by
  have hsl := hs1.lt
  obtain ⟨wd, hwd⟩ : ∃ wd, wd = ((w1.alloc (.cells #[.int .i64 x, .int .i64 y, .string nm, .bool nd, .nilIface] 50)).alloc (.cells #[.iface 41 (.pointer (some ⟨w1.heap.size, 0, none⟩))] 27)).drew := ⟨_, rfl⟩
  have hsd : Has wd S 70 #[.map (some m), .int .i64 0, parts, .bool false] := by rw [hwd]; exact (hs1.alloc _).alloc _
  have hrd : Has wd r 27 #[.iface ct cv] := by rw [hwd]; exact (hr.alloc _).alloc _
  have htd : Turns (S :: parts.ownBlock.toList) w wd := by rw [hwd]; exact ((((Turns.refl _ w).below hb).alloc _).alloc _).drew
  rw [← hwd] at hgrow
  have hgt : Turns (S :: parts.ownBlock.toList) wd w2 := ⟨hgrow.os, hgrow.tape, hgrow.output, hgrow.size, fun i hi hn => hgrow.block i hi (by intro e; exact hn (List.mem_cons_of_mem _ (by rw [← e]; simp)))⟩
  have hrl := hr.lt
  have hSo : parts.ownBlock ≠ some S := Lib.ownBlock_ne hown1 hs1 (by decide)
  have hpr : pg ≠ r := by
    rcases hpg with h | h
    · intro e; exact hro (by rw [h, e])
    · omega
  have hpS : pg ≠ S := by
    rcases hpg with h | h
    · intro e; exact hSo (by rw [h, e])
    · omega
  refine ⟨r, .slice (some ⟨pg, 0, none⟩) (np + 1) cap, us ++ [.iface 41 (.pointer (some ⟨w1.heap.size, 0, none⟩))], rfl, (hrd.grown hgrow (fun e => hro e.symm)).put_far 2 _ (ne_types hr hs1 (by decide)), hwr, ?_, (hsd.grown hgrow (fun e => hSo e.symm)).put 2 _, ?_, (htd.trans hgt).put S 2 _ (by simp)⟩
  · show some pg ≠ some r
    simp; exact hpr
  · exact hown2.kept (grown_put (grown_refl w2 (some S)) 2 _) (.inr (by show some pg ≠ some S; simp; exact hpS))

set_option maxRecDepth 10000 in
set_option maxHeartbeats 20000000 in
theorem take_c (S m g base np : Nat) (x y : Int) (nm : ByteArray) (nd : Bool) (ct : TypeId) (cv parts : Value) (us : List Value) (w : World) (hS : Has w S 70 #[.map (some m), .int .i64 0, parts, .bool false]) (hown : w.ownsRow base 27 1 parts np us) (hnp : np ≤ 1000)
    (hg : Has w g 50 #[.int .i64 x, .int .i64 y, .string nm, .bool nd, .iface ct cv]) (hbase : base ≤ w.heap.size) :
    Calls Tryd.prog 44 #[.pointer (some ⟨S, 0, none⟩), .iface 41 (.pointer (some ⟨g, 0, none⟩))] w fun e w' => TakeCPost S m base np parts ct cv w e w' := by
  obtain ⟨i0, hi0, hz0, hz1, hz2⟩ := info_parts err_info
  have hA := assertConc
  have HL := Lib.hid (wrapped_c g x y nm nd ct cv w hg)
  have HS := Lib.hid hS
  have HG := Lib.hid hg
  have HOw := Lib.hid hown
  have HSo := Lib.hid (Lib.ownBlock_ne hown hS (by decide))
  clear hS hg hown
  go_enter Tryd.func44, Tryd.ntmps44
  go_wp2_with fail
  refine HL.out.mono ?_
  rintro e w1 ⟨r, rfl, hr, hrl, hb⟩
  have hs1 := HS.out.below hb HS.out.lt
  have hg1 := HG.out.below hb HG.out.lt
  have cS := hs1.cell 2
  have fS := hs1.free 2
  have c0 := hg1.cell 0
  have c1 := hg1.cell 1
  have c2 := hg1.cell 2
  have c3 := hg1.cell 3
  simp only [List.getElem?_toArray, List.getElem?_cons_zero, List.getElem?_cons_succ] at cS c0 c1 c2 c3
  have hSl := hs1.lt
  have hgl := hg1.lt
  have HR := Lib.hid hr
  have HB := Lib.hid hb
  have HS1 := Lib.hid hs1
  clear hr hb hs1 hg1
  have hbw1 : base ≤ w1.heap.size := Nat.le_trans hbase HB.out.size
  have HO := Lib.hid (owns_below HOw.out HB.out)
  have HRO : Hid (parts.ownBlock ≠ some r) := Lib.hid (fun e => by have := (HOw.out.lt r e).2; omega)
  have FS : Hid (∀ A B, (((w1.alloc A).alloc B).drew).frozen? ⟨S, 2, none⟩ = false) := Lib.hid (fun A B => (((HS1.out.alloc A).alloc B).free 2))
  have CS : Hid (∀ A B, (((w1.alloc A).alloc B).drew).cell? ⟨S, 2, none⟩ = some parts) := Lib.hid (fun A B => (((HS1.out.alloc A).alloc B).cell 2))
  have HOD : Hid (∀ A B, (((w1.alloc A).alloc B).drew).ownsRow base 27 1 parts np us) := Lib.hid (fun A B => (HO.out.alloc A).alloc B)
  have n1 := World.new_ne w1 _ cS
  have n2 := World.new_ne w1 _ c0
  have n3 := World.new_ne w1 _ c1
  have n4 := World.new_ne w1 _ c2
  have n5 := World.new_ne w1 _ c3
  go_wp2_with fail
  go_region_law ((refine step_append_lies _ (by rfl) _ _ _ (by rfl) base 27 i0 _ 1 16 Tryd.underlying47 hi0 hz0 hz1 hz2 rfl (by omega) parts np us (by rfl) (HOD.out _ _) ⟨w1.heap.size + 1, 0, none⟩ 1 1 [.iface 41 (.pointer (some ⟨w1.heap.size, 0, none⟩))] (by rfl) (by rfl) (World.news_of_block (cs := #[.iface 41 (.pointer (some ⟨w1.heap.size, 0, none⟩))]) (t := 27) (fr := (0, 0)) (by have h := heap_alloc_new (w1.alloc (.cells #[.int .i64 x, .int .i64 y, .string nm, .bool nd, .nilIface] 50)) (.cells #[.iface 41 (.pointer (some ⟨w1.heap.size, 0, none⟩))] 27); simp only [World.size_alloc] at h; exact h)) (by simp [Value.oneCell']) (by omega) (by unfold maxLen; omega) (by omega) (by simp; omega) (w1.heap.size + 2) (by simp) ?_; intro pg cap w2 hown2 hgrow hat hlt; have HPG := Lib.hid hat; have fS2 := (hgrow.frozen_far ⟨S, 2, none⟩ (by simp; omega) (Ne.symm HSo.out)).trans (FS.out _ _); have cS2 := (hgrow.cell_far ⟨S, 2, none⟩ (by simp; omega) (Ne.symm HSo.out)).trans (CS.out _ _); clear hat))
  all_goals
    have hown2 : w2.ownsRow base 27 1 (.slice (some ⟨pg, 0, none⟩) (np + 1) cap) (np + 1) (us ++ [.iface 41 (.pointer (some ⟨w1.heap.size, 0, none⟩))]) := hown2
    have HE := Lib.hid (takec_end S m base np x y nm nd ct cv parts us w w1 w2 r pg cap HB.out HS1.out HR.out HRO.out HO.out hown2 hgrow (by simpa using HPG.out) hrl)
    have hrlt := HR.out.lt
    clear hown2 hgrow
    go_wp2
    go_ret
    exact HE.out

def TakeNPost (S m base np : Nat) (parts : Value) (w : World) (e : Ending) (w' : World) : Prop :=
  ∃ v' us, e = .returned (.slice none 0 0) ∧ Has w' S 70 #[.map (some m), .int .i64 0, v', .bool false] ∧ w'.ownsRow base 27 1 v' (np + 1) us ∧ Turns (S :: parts.ownBlock.toList) w w'
theorem Turns.grownO {S : Nat} {row : Option Nat} {a w w' : World} (h : Turns (S :: row.toList) a w) (hg : w.grownBy w' row) : Turns (S :: row.toList) a w' :=
  h.trans ⟨hg.os, hg.tape, hg.output, hg.size, fun i hi hn => hg.block i hi (by intro e; exact hn (List.mem_cons_of_mem _ (by rw [← e]; simp)))⟩

set_option maxRecDepth 10000 in
set_option maxHeartbeats 4000000 in
theorem take_k (S m base np : Nat) (k : Int) (parts : Value) (us : List Value) (w : World) (hS : Has w S 70 #[.map (some m), .int .i64 0, parts, .bool false])
    (hown : w.ownsRow base 27 1 parts np us) (hnp : np ≤ 1000) (hbase : base ≤ w.heap.size) :
    Calls Tryd.prog 44 #[.pointer (some ⟨S, 0, none⟩), .iface 29 (.int .i64 k)] w fun e w' => TakeNPost S m base np parts w e w' := by
  obtain ⟨i0, hi0, hz0, hz1, hz2⟩ := info_parts err_info
  have hA := assertConcK
  have HL := Lib.hid (wrapped_kind k w)
  have HS := Lib.hid hS
  have HO := Lib.hid hown
  have HSo := Lib.hid (Lib.ownBlock_ne hown hS (by decide))
  clear hS hown
  go_enter Tryd.func44, Tryd.ntmps44
  go_wp2_with fail
  refine HL.out.mono ?_
  rintro e w1 ⟨rfl, hb⟩
  have hs1 := HS.out.below hb HS.out.lt
  have ho1 := owns_below HO.out hb
  have cS := hs1.cell 2
  have fS := hs1.free 2
  simp only [List.getElem?_toArray, List.getElem?_cons_zero, List.getElem?_cons_succ] at cS
  have hSl := hs1.lt
  have HB := Lib.hid hb
  have HS1 := Lib.hid hs1
  have HO1 := Lib.hid ho1
  have hbw1 : base ≤ w1.heap.size := Nat.le_trans hbase HB.out.size
  clear hb hs1 ho1
  go_wp2_with (at_builtin; refine wpList_append_own _ rfl _ _ 47 rfl base 27 i0 _ 1 16 Tryd.underlying47 hi0 hz0 hz1 hz2 rfl (by omega) _ _ _ rfl (HO1.out.alloc _) ⟨w1.heap.size, 0, none⟩ 1 1 [.iface 29 (.int .i64 k)] rfl rfl ?c1 ?c2 ?c3 ?c4 ?c5 ?_)
  case c1 =>
    intro j u hj
    match j, hj with
    | 0, hj => simp at hj; subst hj; simp [Addr.add]
  case c2 => intro u hu; simp at hu; subst hu; rfl
  case c3 => unfold maxLen; omega
  case c4 => omega
  case c5 => simp; omega
  intro v' w2 hown2 hgrow _
  obtain ⟨g', cap', hv', _⟩ := World.ownsRow.form hown2 (by omega)
  subst hv'
  have hs2 := (HS1.out.alloc (.cells #[.iface 29 (.int .i64 k)] 27)).grown hgrow (fun e => HSo.out e.symm)
  have f2 := hs2.free 2
  have c2 := hs2.cell 2
  have hT := ((((Turns.refl (S :: parts.ownBlock.toList) w).below HB.out).alloc (.cells #[.iface 29 (.int .i64 k)] 27)).grownO hgrow).put S 2 (.slice (some ⟨g', 0, none⟩) (np + 1) cap') (by simp)
  have ho3 := hown2.kept (grown_put (grown_refl w2 (some S)) 2 (.slice (some ⟨g', 0, none⟩) (np + 1) cap')) (.inr (by
    intro e
    have hb2 := Lib.ownBlock_ne hown2 hs2 (by decide)
    exact hb2 e))
  have HO3 := Lib.hid ho3
  have HE := Lib.hid (And.intro (hs2.put 2 (.slice (some ⟨g', 0, none⟩) (np + 1) cap')) hT)
  clear hs2 hT hgrow hown2 ho3
  go_wp2
  go_ret
  exact ⟨_, _, rfl, HE.out.1, HO3.out, HE.out.2⟩
end Go.Proofs.YtboeobgkepdabaaDoor.ft
