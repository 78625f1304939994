/-
  The search: an expression, whichever: is it late as far as is known, and who waits for what.
-/
import Derived.Test.YtnejkgkikpgajaaDoorInVar
import Derived.StillTailTactics
namespace Go.Proofs.YtnejkgkikpgajaaDoor.ini
open Go.ChangeShapes Go.WideShapes Go.ChangeAt Go.RowKit
open tr ck
set_option linter.unusedVariables false
set_option linter.unusedSimpArgs false

theorem ExR.trans {own : List ByteArray} {v : Nat} {rs1 rs2 : List ByteArray} {b : Bool} {k1 k2 : Nat} {A B C : List (List Nat)} (h : ExR own v rs1 false k1 A B) (k : ExR own v rs2 b k2 B C) : ExR own v (rs1 ++ rs2) b (k1 + k2) A C :=
  ⟨k.len.trans h.len, fun hb n hn u hu => by
    rcases List.mem_append.1 hn with hn | hn
    · exact k.up u v (h.no rfl n hn u hu)
    · exact k.no hb n hn u hu, fun u t ht => k.up u t (h.up u t ht), fun u t ht => by
    rcases k.back u t ht with ht | ⟨e, n, hn, hi⟩
    · rcases h.back u t ht with ht | ⟨e, n, hn, hi⟩
      · exact .inl ht
      · exact .inr ⟨e, n, List.mem_append_left _ hn, hi⟩
    · exact .inr ⟨e, n, List.mem_append_right _ hn, hi⟩, by have := h.tot; have := k.tot; omega⟩
theorem ExR.wider {own : List ByteArray} {v : Nat} {rs rs' : List ByteArray} {k k' : Nat} {A B : List (List Nat)} (h : ExR own v rs true k A B) (hr : ∀ n ∈ rs, n ∈ rs') (hk : k ≤ k') : ExR own v rs' true k' A B :=
  ⟨h.len, (fun hb => by cases hb), h.up, fun u t ht => by
    rcases h.back u t ht with ht | ⟨e, n, hn, hi⟩
    · exact .inl ht
    · exact .inr ⟨e, n, hr n hn, hi⟩, by have := h.tot; omega⟩
theorem ExR.more {own : List ByteArray} {v : Nat} {rs : List ByteArray} {b : Bool} {k k' : Nat} {A B : List (List Nat)} (h : ExR own v rs b k A B) (hk : k ≤ k') : ExR own v rs b k' A B :=
  ⟨h.len, h.no, h.up, h.back, by have := h.tot; omega⟩
theorem reachK_app : ∀ (l m : List Ex), reachK (l ++ m) = reachK l ++ reachK m
  | [], m => by simp [reachK]
  | x :: r, m => by show reach x ++ reachK (r ++ m) = _; rw [reachK_app r m, ← List.append_assoc]; rfl
theorem szK_app : ∀ (l m : List Ex), szK (l ++ m) = szK l + szK m
  | [], m => by simp [szK]
  | x :: r, m => by show sz x + szK (r ++ m) = _; rw [szK_app r m]; show _ = sz x + szK r + szK m; omega
theorem lateK_app (S : List ByteArray) : ∀ (l m : List Ex), lateK S (l ++ m) = (lateK S l || lateK S m)
  | [], m => by simp [lateK]
  | x :: r, m => by show (lateB S x || lateK S (r ++ m)) = _; rw [lateK_app S r m, ← Bool.or_assoc]; rfl
theorem take_le (l : List Ex) (j : Nat) : szK (l.take j) ≤ szK l := by
  have := szK_app (l.take j) (l.drop j)
  rw [List.take_append_drop] at this; omega
theorem take_reach (l : List Ex) (j : Nat) : ∀ n ∈ reachK (l.take j), n ∈ reachK l := fun n hn => by
  have := reachK_app (l.take j) (l.drop j)
  rw [List.take_append_drop] at this
  rw [this]; exact List.mem_append_left _ hn

/-- the boxes of a search's closures -/
structure Bx (x : Cx) (W : World) (R : Nat → Value) (ps pe pv b off v : Nat) : Prop where
  s : Has W ps 111 #[.pointer (some ⟨x.sb, 0, none⟩)]
  e : Has W pe 145 #[.pointer (some ⟨b, off, none⟩)]
  v : Has W pv 3 #[.int .i64 (v : Int)]
  nv : ∀ u, u < x.own.length → (R u).ownBlock ≠ some pv
theorem Bx.move {x : Cx} {W W' : World} {S : List ByteArray} {R R' : Nat → Value} {Ws : List (List Nat)} {ps pe pv b off v : Nat} (h : Bx x W R ps pe pv b off v) (hS : Se x W S R Ws) (hm : Mv W W' x.wb x.own.length R R') : Bx x W' R' ps pe pv b off v := by
  obtain ⟨cs, hw, _⟩ := hS.wt.has
  have n1 : ps ≠ x.wb := fun e => absurd (Has.same (e ▸ h.s) hw) (by decide)
  have n2 : pe ≠ x.wb := fun e => absurd (Has.same (e ▸ h.e) hw) (by decide)
  have n3 : pv ≠ x.wb := fun e => absurd (Has.same (e ▸ h.v) hw) (by decide)
  refine ⟨hm.has h.s n1 (hS.wt.notRow h.s (by decide)), hm.has h.e n2 (hS.wt.notRow h.e (by decide)), hm.has h.v n3 h.nv, fun u hu e => ?_⟩
  rcases hm.rows u hu pv e with ⟨u', hu', e'⟩ | e'
  · exact h.nv u' hu' e'
  · have := h.v.lt; omega
def ExprDoes (x : Cx) (S : List ByteArray) (e : Ex) : Prop := ∀ (W : World) (R : Nat → Value) (Ws : List (List Nat)) (b off v : Nat), Se x W S R Ws → LaidAt x.w b off e → tot Ws + sz e ≤ 1000000 →
  Calls Tryd.prog 57 #[.pointer (some ⟨x.sb, 0, none⟩), .pointer (some ⟨b, off, none⟩), .int .i64 (v : Int)] W (ExPost x W S R Ws v (reach e) (lateB S e) (sz e))

set_option maxRecDepth 100000 in
set_option maxHeartbeats 4000000 in
theorem kid_any (x : Cx) (S : List ByteArray) (k o : Nat) (n : Int) (nm : ByteArray) (nms : List ByteArray) (kids : List Ex) (l c : Int) (i : Nat) (hi : i < kids.length) (hK : ExprDoes x S kids[i]) (W : World) (R : Nat → Value) (Ws : List (List Nat)) (ps pe pv b off v : Nat) (hS : Se x W S R Ws) (hB : Bx x W R ps pe pv b off v) (hL : LaidAt x.w b off (.mk k o n nm nms kids l c)) (ht : tot Ws + sz kids[i] ≤ 1000000) :
    Calls Tryd.prog 80 #[.int .i64 (i : Int), .pointer (some ⟨ps, 0, none⟩), .pointer (some ⟨pe, 0, none⟩), .pointer (some ⟨pv, 0, none⟩)] W (ExPost x W S R Ws v (reach kids[i]) (lateB S kids[i]) (sz kids[i])) := by
  obtain ⟨cs, hc, hl⟩ := hL
  unfold LaidC at hl
  obtain ⟨_, _, _, _, _, na, nc, ka, kc, _, _, rfl, _, hkids⟩ := hl
  obtain ⟨kb, ko, rfl, hat⟩ := LaidK.get hkids i hi
  have k5 := hS.keep _ _ _ (hc 5 _ rfl)
  have b0 := hB.s.cell 0
  have b1 := hB.e.cell 0
  have b2 := hB.v.cell 0
  simp only [List.getElem?_toArray, List.getElem?_cons_zero] at b0 b1 b2
  have i0 : (0 : Int) ≤ (i : Int) := Int.natCast_nonneg _
  have i1 : (i : Int) < (kids.length : Int) := by omega
  have HC := Lib.hid (hK W.drew R Ws kb (ko + i * 8) v (hS.below ((Below.refl _ W).drew)) hat ht)
  clear hS hB hK hat hc hkids
  unfold ExPost at *
  go_enter Tryd.func80, Tryd.ntmps80
  go_wp2_with fail
  go_still_tail 8, (by kernel_rfl)
  change wpList _ _ _ _ _ W.drew
  go_wp2_with fail
  refine HC.out.mono ?_
  rintro e w1 ⟨R', Ws', rfl, h1, h2, h3⟩
  have H := Lib.hid (And.intro h1 (And.intro ((Mv.below ((Below.refl _ W).drew)).trans h2) h3))
  clear h1 h2 h3 HC b0 b1 b2 k5
  go_wp2_with fail
  go_ret
  exact ⟨R', Ws', rfl, H.out⟩
end Go.Proofs.YtnejkgkikpgajaaDoor.ini
