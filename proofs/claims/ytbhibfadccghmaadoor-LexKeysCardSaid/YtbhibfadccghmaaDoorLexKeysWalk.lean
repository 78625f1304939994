/-
  For every string IsKey of package lex answers what the document's list says; each word of the list is a key, and none with a blank or an x behind it. Condition: the table of signs, lex.signs, holds at the call's begin what the program's text lays; the card ties that to the text. The walk.
-/
import Derived.Test.YtbhibfadccghmaaDoorRows
import Derived.Test.YtbhibfadccghmaaDoorLxLaid
import Derived.Test.YtbhibfadccghmaaDoorLxRefKeys
import Derived.WalkKit
import Derived.ProofKit
import Derived.OpenShut
import Derived.Below
import Derived.Lib.Hide
import Derived.Outline
import Derived.Deep.LoopGhost
namespace Go.Proofs.YtbhibfadccghmaaDoor.lexKeys
open Go.ChangeShapes Go.WideShapes Go.ChangeAt Go.RowKit
set_option linter.unusedVariables false

theorem key_is : ∀ j, j < 32 → lx.keyB (lx.keys.getD j []) = true ∧ lx.keyB (lx.keys.getD j [] ++ [32]) = false ∧ lx.keyB (lx.keys.getD j [] ++ [120]) = false ∧ (lx.keys.getD j []).length ≤ 9 := by decide

theorem walk (a0 : ByteArray) (a1 : Int) (w0 : a0.size ≤ maxLen) (w1 : (Lit.int .u8 a1).wf = true) (w : World) (hT : lx.Laid w) :
    Calls Tryd.prog 4 #[.string a0, .int .u8 a1] w fun e w' => e = .returned (.bool true) ∧ Below w.heap.size w w' := by
  have ⟨p1, p2⟩ := bounds_u8 w1
  clear w1
  obtain ⟨n, rfl⟩ := Int.eq_ofNat_of_zero_le p1
  have hj : n % 32 < 32 := Nat.mod_lt _ (by decide)
  obtain ⟨kb, hkb⟩ : ∃ kb : ByteArray, kb = ⟨(lx.keys.getD (n % 32) []).toArray⟩ := ⟨_, rfl⟩
  have hka := lx.keysA_at (n % 32) hj
  have hk := key_is (n % 32) hj
  have hd : lx.keys.getD (n % 32) [] = kb.data.toList := by rw [hkb]
  rw [← hkb] at hka
  rw [hd] at hk
  obtain ⟨h1, h2, h3, h4⟩ := hk
  have hks : kb.size ≤ 9 := by rw [Lib.size_eq]; exact h4
  have c1 := lx.isKey_any kb
  have c2 := lx.isKey_any (kb ++ ⟨#[32]⟩)
  have c3 := lx.isKey_any (kb ++ ⟨#[120]⟩)
  have e2 : (kb ++ ⟨#[32]⟩ : ByteArray).data.toList = kb.data.toList ++ [32] := by simp
  have e3 : (kb ++ ⟨#[120]⟩ : ByteArray).data.toList = kb.data.toList ++ [120] := by simp
  rw [h1] at c1
  rw [e2, h2] at c2
  rw [e3, h3] at c3
  have C1 := Lib.hid c1
  have C2 := Lib.hid c2
  have C3 := Lib.hid c3
  have HA := Lib.hid hka
  have HT := Lib.hid hT
  clear hT hka hkb hd h1 h2 h3 h4 c1 c2 c3 e2 e3
  go_enter Tryd.func4, Tryd.ntmps4
  go_wp2_with fail
  refine (lx.refKeys_any _).mono ?_
  rintro e w1 ⟨g, rfl, hg, hh, hb⟩
  have hc := (hh.cell (n % 32)).trans HA.out
  have HB := Lib.hid hb
  clear hb hh
  go_wp2_with fail
  refine (lx.awake_any _ (HT.out.below HB.out)).mono ?_
  rintro e w2 ⟨rfl, hb2⟩
  have HB2 := Lib.hid hb2
  clear hb2 hc
  go_wp2_with fail
  refine (lx.isKey_any a0 _).mono ?_
  rintro e w' ⟨rfl, rfl⟩
  go_wp2_with fail
  refine (lx.refIsKey_any a0 _).mono ?_
  rintro e w3 ⟨rfl, hb3⟩
  have HB3 := Lib.hid hb3
  clear hb3
  generalize lx.keyB a0.data.toList = kq at *
  go_wp2_with fail
  refine (C1.out _).mono ?_
  rintro e w' ⟨rfl, rfl⟩
  go_wp2_with fail
  refine (C2.out _).mono ?_
  rintro e w' ⟨rfl, rfl⟩
  go_wp2_with fail
  refine (C3.out _).mono ?_
  rintro e w' ⟨rfl, rfl⟩
  go_wp2_with fail
  go_ret
  exact ⟨rfl, (HB.out.trans (HB2.out.mono HB.out.size)).trans (HB3.out.mono (Nat.le_trans HB.out.size HB2.out.size))⟩
end Go.Proofs.YtbhibfadccghmaaDoor.lexKeys
