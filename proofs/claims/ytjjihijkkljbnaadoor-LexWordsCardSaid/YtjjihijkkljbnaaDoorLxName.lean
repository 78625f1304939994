/-
  name, sign, first of package lex: their walks.
-/
import Derived.Test.YtjjihijkkljbnaaDoorLxFirst
import Derived.Laws.Rows
namespace Go.Proofs.YtjjihijkkljbnaaDoor.lx
open Go.ChangeShapes Go.WideShapes Go.ChangeAt Go.RowKit
set_option linter.unusedVariables false

theorem name_any (s : ByteArray) (w : World) (h : s.size ≤ 70000) (h0 : 0 < s.size) (hl0 : letB s[0] = true) :
    Calls Tryd.prog 61 #[.string s] w fun e w' => e = .returned (fstV (name s.data.toList)) ∧ Below w.heap.size w w' := by
  have hr := run_name s
  have hle := run_le nameB s.data.toList
  have hsl : s.data.toList.length = s.size := by simp
  rw [hsl] at hle
  have hd0 := drop_at s 0 h0
  rw [List.drop_zero] at hd0
  have hn0 : nameB s[0] = true := by simp [nameB, hl0]
  have h1 : 1 ≤ run nameB s.data.toList := by rw [hd0]; simp [run, hn0]
  have hk := isKey_any (s.extract 0 (run nameB s.data.toList))
  rw [head_data] at hk
  have hhd : (s.data.toList.take (run nameB s.data.toList)).head? = some s[0] := by
    obtain ⟨m, hm⟩ : ∃ m, run nameB s.data.toList = m + 1 := ⟨run nameB s.data.toList - 1, by omega⟩
    rw [hm, hd0, List.take_succ_cons]; rfl
  have hlen : (s.data.toList.take (run nameB s.data.toList)).length = run nameB s.data.toList := by simp; omega
  have hdef : name s.data.toList = if 32 < (s.data.toList.take (run nameB s.data.toList)).length then .bad 3 else if (s.data.toList.take (run nameB s.data.toList)).head?.map (·.toNat) = some 95 then .bad 1 else if keyB (s.data.toList.take (run nameB s.data.toList)) then .ok 4 (s.data.toList.take (run nameB s.data.toList)) 0 else if ((s.data.toList.take (run nameB s.data.toList)).head?.map greatB) = some true then .ok 3 (s.data.toList.take (run nameB s.data.toList)) 0 else .ok 2 (s.data.toList.take (run nameB s.data.toList)) 0 := rfl
  rw [hdef]
  rw [hhd, hlen]
  clear hdef hhd hlen hsl hd0
  generalize run nameB s.data.toList = n at *
  have HR := Lib.hid hr
  have HK := Lib.hid hk
  have hp : 0 < (s.extract 0 n).size := by simp; omega
  have hx : (s.extract 0 n)[0] = s[0] := by simp [ByteArray.getElem_extract]
  have hg := isGreat_any ((s.extract 0 n)[0])
  have hgb : greatB ((s.extract 0 n)[0]) = greatB s[0] := by rw [hx]
  have hq : (((s.extract 0 n)[0].toNat : Int) == 95) = decide (s[0].toNat = 95) := by rw [hx, Bool.eq_iff_iff]; simp; omega
  rw [hgb] at hg
  have HG := Lib.hid hg
  clear hr hk hg hx hgb
  by_cases c1 : 32 < n
  · rw [if_pos c1]
    clear hq
    go_enter Tryd.func61, Tryd.ntmps61
    go_wp2_with (go_at_call 56; refine (HR.out _ h).mono ?_; rintro e w' ⟨rfl, rfl⟩)
    refine bodyPost_ret (v := fstV (.bad 3)) (by simp [fstV, results, Tryd.results61, go_sem]; rfl) rfl ⟨rfl, ?_⟩
    exact (Below.refl _ _).alloc (Nat.le_refl _) _
  · rw [if_neg c1]
    by_cases c2 : s[0].toNat = 95
    · rw [if_pos (by simpa using c2)]
      rw [decide_eq_true c2] at hq
      clear c2
      go_enter Tryd.func61, Tryd.ntmps61
      go_wp2_with (go_at_call 56; refine (HR.out _ h).mono ?_; rintro e w' ⟨rfl, rfl⟩)
      refine bodyPost_ret (v := fstV (.bad 1)) (by simp [fstV, results, Tryd.results61, go_sem]; rfl) rfl ⟨rfl, ?_⟩
      exact (Below.refl _ _).alloc (Nat.le_refl _) _
    · rw [if_neg (by simpa using c2)]
      rw [decide_eq_false c2] at hq
      clear c2
      rcases Bool.eq_false_or_eq_true (keyB (s.data.toList.take n)) with hb | hb
      · have hk := HK.out
        rw [hb] at hk
        rw [if_pos hb]
        have HK2 := Lib.hid hk
        clear hk hb
        go_enter Tryd.func61, Tryd.ntmps61
        go_wp2_with (first | (go_at_call 56; refine (HR.out _ h).mono ?_; rintro e w' ⟨rfl, rfl⟩) | (go_at_call 81; refine (HK2.out _).mono ?_; rintro e w' ⟨rfl, rfl⟩))
        refine bodyPost_ret (v := fstV (.ok 4 (s.data.toList.take n) 0)) (by rw [fstV, ← head_eq]; simp [results, Tryd.results61, go_sem]) rfl ⟨rfl, ?_⟩
        exact (Below.refl _ _).alloc (Nat.le_refl _) _
      · have hk := HK.out
        rw [hb] at hk
        rw [if_neg (by rw [hb]; simp)]
        have HK2 := Lib.hid hk
        clear hk hb
        rcases Bool.eq_false_or_eq_true (greatB s[0]) with hb | hb
        · have hg := HG.out
          rw [hb] at hg
          rw [if_pos (by simp [hb])]
          have HG2 := Lib.hid hg
          clear hg hb
          go_enter Tryd.func61, Tryd.ntmps61
          go_wp2_with (first | (go_at_call 56; refine (HR.out _ h).mono ?_; rintro e w' ⟨rfl, rfl⟩) | (go_at_call 81; refine (HK2.out _).mono ?_; rintro e w' ⟨rfl, rfl⟩) | (go_at_call 79; refine (HG2.out _).mono ?_; rintro e w' ⟨rfl, rfl⟩))
          refine bodyPost_ret (v := fstV (.ok 3 (s.data.toList.take n) 0)) (by rw [fstV, ← head_eq]; simp [results, Tryd.results61, go_sem]) rfl ⟨rfl, ?_⟩
          exact (Below.refl _ _).alloc (Nat.le_refl _) _
        · have hg := HG.out
          rw [hb] at hg
          rw [if_neg (by simp [hb])]
          have HG2 := Lib.hid hg
          clear hg hb
          go_enter Tryd.func61, Tryd.ntmps61
          go_wp2_with (first | (go_at_call 56; refine (HR.out _ h).mono ?_; rintro e w' ⟨rfl, rfl⟩) | (go_at_call 81; refine (HK2.out _).mono ?_; rintro e w' ⟨rfl, rfl⟩) | (go_at_call 79; refine (HG2.out _).mono ?_; rintro e w' ⟨rfl, rfl⟩))
          refine bodyPost_ret (v := fstV (.ok 2 (s.data.toList.take n) 0)) (by rw [fstV, ← head_eq]; simp [results, Tryd.results61, go_sem]) rfl ⟨rfl, ?_⟩
          exact (Below.refl _ _).alloc (Nat.le_refl _) _

end Go.Proofs.YtjjihijkkljbnaaDoor.lx
