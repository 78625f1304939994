/-
  take of a survey: at an At that New makes, at a Kind.
-/
import Derived.Test.YtnejkgkikpgajaaDoorFtEnters
import Derived.Deep.RegionHeld3
import Derived.Deep.AppendLies
import Derived.Deep.RegionLaw
import Derived.BigRegion
import Derived.Laws.Pointers
namespace Go.Proofs.YtnejkgkikpgajaaDoor.ft
open Go.ChangeShapes Go.WideShapes Go.ChangeAt Go.RowKit Go.Extern.Stop Go.Stop Go.Extern
open Go.Proofs.YtnejkgkikpgajaaDoor.lx (Has grown_refl grown_put grown_below)
set_option linter.unusedVariables false

theorem err_info : (Tryd.prog.info? 36).map (fun i => (i.zero, i.size, i.bytes)) = some (some .nilIface, 1, 16) := by kernel_rfl
theorem assertConc (v : Value) (w : World) : (Instr.typeAssert (.iface 177 v) 36 177 true).run Tryd.prog w = .ok (.tuple #[v, .bool true]) w := by kernel_rfl
theorem assertConcK (v : Value) (w : World) : (Instr.typeAssert (.iface 56 v) 36 177 true).run Tryd.prog w = .ok (.tuple #[.pointer none, .bool false]) w := by kernel_rfl

def TakePost (S m base : Nat) (k : Int) (w : World) (e : Ending) (w' : World) : Prop :=
  ∃ r pg cap u, e = .returned (.slice (some ⟨r, 0, none⟩) 1 1) ∧ Has w' r 36 #[.iface 56 (.int .i64 k)] ∧ w.heap.size ≤ r ∧
      Has w' S 124 #[.map (some m), .int .i64 0, .slice (some ⟨pg, 0, none⟩) 1 cap, .bool false] ∧ w'.ownsRow base 36 1 (.slice (some ⟨pg, 0, none⟩) 1 cap) 1 [u] ∧ r ≠ pg ∧ Turns [S] w w'

/-- what the append and the store leave -/
theorem take_end (S m base : Nat) (x y k : Int) (nm : ByteArray) (nd : Bool) (w w1 w2 : World) (r pg cap : Nat) (hb : Below w.heap.size w w1) (hs1 : Has w1 S 124 #[.map (some m), .int .i64 0, .slice none 0 0, .bool false])
    (hr : Has w1 r 36 #[.iface 56 (.int .i64 k)])
    (hown2 : w2.ownsRow base 36 1 (.slice (some ⟨pg, 0, none⟩) 1 cap) 1 [.iface 177 (.pointer (some ⟨w1.heap.size, 0, none⟩))])
    (hgrow : ((w1.alloc (.cells #[.int .i64 x, .int .i64 y, .string nm, .bool nd, .nilIface] 180)).alloc (.cells #[.iface 177 (.pointer (some ⟨w1.heap.size, 0, none⟩))] 36)).drew.grownBy w2 (Value.slice none 0 0).ownBlock)
    (hpg : w1.heap.size + 2 ≤ pg) (hwr : w.heap.size ≤ r) :
    TakePost S m base k w (.returned (.slice (some ⟨r, 0, none⟩) 1 1)) (w2.setCell ⟨S, 2, none⟩ (.slice (some ⟨pg, 0, none⟩) 1 cap)) := by
  have hsl := hs1.lt
  obtain ⟨wd, hwd⟩ : ∃ wd, wd = ((w1.alloc (.cells #[.int .i64 x, .int .i64 y, .string nm, .bool nd, .nilIface] 180)).alloc (.cells #[.iface 177 (.pointer (some ⟨w1.heap.size, 0, none⟩))] 36)).drew := ⟨_, rfl⟩
  have hsd : Has wd S 124 #[.map (some m), .int .i64 0, .slice none 0 0, .bool false] := by rw [hwd]; exact (hs1.alloc _).alloc _
  have hrd : Has wd r 36 #[.iface 56 (.int .i64 k)] := by rw [hwd]; exact (hr.alloc _).alloc _
  have htd : Turns [S] w wd := by rw [hwd]; exact ((((Turns.refl [S] w).below hb).alloc _).alloc _).drew
  rw [← hwd] at hgrow
  have hgt : Turns [S] wd w2 := ⟨hgrow.os, hgrow.tape, hgrow.output, hgrow.size, fun i hi _ => hgrow.block i hi (by simp [Value.ownBlock])⟩
  have hrl := hr.lt
  refine ⟨r, pg, cap, .iface 177 (.pointer (some ⟨w1.heap.size, 0, none⟩)), rfl, (hrd.grown hgrow (by simp [Value.ownBlock])).put_far 2 _ (ne_types hr hs1 (by decide)), hwr, (hsd.grown hgrow (by simp [Value.ownBlock])).put 2 _, ?_, by omega, (htd.trans hgt).put S 2 _ (by simp)⟩
  exact hown2.kept (grown_put (grown_refl w2 (some S)) 2 _) (.inr (by simp [Value.ownBlock]; omega))

set_option maxRecDepth 10000 in
set_option maxHeartbeats 20000000 in
theorem take_at (S m g base : Nat) (x y k : Int) (nm : ByteArray) (nd : Bool) (w : World) (hS : Has w S 124 #[.map (some m), .int .i64 0, .slice none 0 0, .bool false])
    (hg : Has w g 180 #[.int .i64 x, .int .i64 y, .string nm, .bool nd, .iface 56 (.int .i64 k)]) (hbase : base ≤ w.heap.size) :
    Calls Tryd.prog 62 #[.pointer (some ⟨S, 0, none⟩), .iface 177 (.pointer (some ⟨g, 0, none⟩))] w fun e w' => TakePost S m base k w e w' := by
  obtain ⟨i0, hi0, hz0, hz1, hz2⟩ := info_parts err_info
  have hA := assertConc
  have HL := Lib.hid (wrapped_at g x y k nm nd w hg)
  have HS := Lib.hid hS
  have HG := Lib.hid hg
  clear hS hg
  go_enter Tryd.func62, Tryd.ntmps62
  go_wp2_with fail
  refine HL.out.mono ?_
  rintro e w1 ⟨r, rfl, hr, hrl, hb⟩
  have hs1 := HS.out.below hb HS.out.lt
  have hg1 := HG.out.below hb HG.out.lt
  have cS := hs1.cell 2
  have fS := hs1.free 2
  have c0 := hg1.cell 0
  have c1 := hg1.cell 1
  have c2 := hg1.cell 2
  have c3 := hg1.cell 3
  simp only [List.getElem?_toArray, List.getElem?_cons_zero, List.getElem?_cons_succ] at cS c0 c1 c2 c3
  have hSl := hs1.lt
  have hgl := hg1.lt
  have HR := Lib.hid hr
  have HB := Lib.hid hb
  have HS1 := Lib.hid hs1
  clear hr hb hs1 hg1
  have hbw1 : base ≤ w1.heap.size := Nat.le_trans hbase HB.out.size
  have o0 : w1.ownsRow base 36 1 (.slice none 0 0) 0 [] := World.ownsRow_nil _ _ _ _
  have HO := Lib.hid o0
  clear o0
  have FS : Hid (∀ A B, (((w1.alloc A).alloc B).drew).frozen? ⟨S, 2, none⟩ = false) := Lib.hid (fun A B => (((HS1.out.alloc A).alloc B).free 2))
  have CS : Hid (∀ A B, (((w1.alloc A).alloc B).drew).cell? ⟨S, 2, none⟩ = some (.slice none 0 0)) := Lib.hid (fun A B => (((HS1.out.alloc A).alloc B).cell 2))
  have n1 := World.new_ne w1 _ cS
  have n2 := World.new_ne w1 _ c0
  have n3 := World.new_ne w1 _ c1
  have n4 := World.new_ne w1 _ c2
  have n5 := World.new_ne w1 _ c3
  go_wp2_with fail
  go_region_law ((refine step_append_lies _ (by rfl) _ _ _ (by rfl) base 36 i0 _ 1 16 Tryd.underlying122 hi0 hz0 hz1 hz2 rfl (by omega) (.slice none 0 0) 0 [] (by rfl) (World.ownsRow_nil _ _ _ _) ⟨w1.heap.size + 1, 0, none⟩ 1 1 [.iface 177 (.pointer (some ⟨w1.heap.size, 0, none⟩))] (by rfl) (by rfl) (World.news_of_block (cs := #[.iface 177 (.pointer (some ⟨w1.heap.size, 0, none⟩))]) (t := 36) (fr := (0, 0)) (by have h := heap_alloc_new (w1.alloc (.cells #[.int .i64 x, .int .i64 y, .string nm, .bool nd, .nilIface] 180)) (.cells #[.iface 177 (.pointer (some ⟨w1.heap.size, 0, none⟩))] 36); simp only [World.size_alloc] at h; exact h)) (by simp [Value.oneCell']) (by omega) (by unfold maxLen; omega) (by omega) (by simp; omega) (w1.heap.size + 2) (by simp) ?_; intro pg cap w2 hown2 hgrow hat hlt; have hpg := hat.resolve_left (by simp [Value.ownBlock]); have fS2 := (hgrow.frozen_far ⟨S, 2, none⟩ (by simp; omega) (by simp [Value.ownBlock])).trans (FS.out _ _); have cS2 := (hgrow.cell_far ⟨S, 2, none⟩ (by simp; omega) (by simp [Value.ownBlock])).trans (CS.out _ _)))
  all_goals
    have hpg2 : pg = w1.heap.size + 2 := by simpa using hpg
    clear hpg
    subst hpg2
    have HE := Lib.hid (take_end S m base x y k nm nd w w1 w2 r (w1.heap.size + 2) cap HB.out HS1.out HR.out hown2 hgrow (by omega) hrl)
    have hrlt := HR.out.lt
    clear hown2 hgrow
    go_wp2
    go_ret
    exact HE.out
end Go.Proofs.YtnejkgkikpgajaaDoor.ft
