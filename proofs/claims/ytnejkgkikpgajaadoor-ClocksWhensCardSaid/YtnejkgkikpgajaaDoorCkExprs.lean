/-
  Is an expression valid on a clock: plainly; a row of expressions, given what each does.
-/
import Derived.Test.YtnejkgkikpgajaaDoorCkSmp
namespace Go.Proofs.YtnejkgkikpgajaaDoor.ck
open Go.ChangeShapes Go.WideShapes Go.ChangeAt Go.RowKit
open tr
set_option linter.unusedVariables false

mutual
def okE (L : List En) (d : Int) : List Smp → Ex → Bool
  | ck, .mk k o n nm nms kids l c =>
    if k = 4 ∨ k = 5 then onB L d nm ck
    else if k = 12 then
      match ck with
      | [] => false
      | p :: r => eqO p (smp nms nm 0) && onB L d nm r && okK L d r kids
    else if k = 13 then onB L d nm ck && okM L d ck nms nm 0 kids
    else okK L d ck kids
def okK (L : List En) (d : Int) : List Smp → List Ex → Bool
  | _, [] => true
  | ck, x :: r => okE L d ck x && okK L d ck r
def okM (L : List En) (d : Int) : List Smp → List ByteArray → ByteArray → Nat → List Ex → Bool
  | _, _, _, _, [] => true
  | ck, nms, nm, i, x :: r => okE L d (smp nms nm i :: ck) x && okM L d ck nms nm (i + 1) r
end
theorem okK_snoc (L : List En) (d : Int) (ck : List Smp) : ∀ (l : List Ex) (x : Ex), okK L d ck (l ++ [x]) = (okK L d ck l && okE L d ck x)
  | [], x => by rw [List.nil_append, okK, okK, okK, Bool.and_true, Bool.true_and]
  | y :: r, x => by rw [List.cons_append, okK, okK_snoc L d ck r x, okK, Bool.and_assoc]
theorem okM_snoc (L : List En) (d : Int) (ck : List Smp) (nms : List ByteArray) (nm : ByteArray) : ∀ (l : List Ex) (i : Nat) (x : Ex), okM L d ck nms nm i (l ++ [x]) = (okM L d ck nms nm i l && okE L d (smp nms nm (i + l.length) :: ck) x)
  | [], i, x => by rw [List.nil_append, okM, okM, okM, Bool.and_true, Bool.true_and]; rfl
  | y :: r, i, x => by rw [List.cons_append, okM, okM_snoc L d ck nms nm r (i + 1) x, okM, Bool.and_assoc, List.length_cons, show i + 1 + r.length = i + (r.length + 1) by omega]


/-- what expr does at an expression that lay there in w0 -/
def ExprDoes (w0 : World) (x : Ex) : Prop := ∀ (w : World) (b o g m : Nat) (L : List En) (d : Int) (er : Bool) (a : Option Addr) (ck : List Smp), Below w0.heap.size w0 w → LaidAt w0 b o x → w0.heap.size ≤ g → St w g m L d er → CkL w a ck →
  Calls Tryd.prog 68 #[.pointer (some ⟨g, 0, none⟩), .pointer (some ⟨b, o, none⟩), .pointer a] w (CkPost w g m L d (er || !okE L d ck x))

theorem St.has {w : World} {g m : Nat} {L : List En} {d : Int} {er : Bool} (h : St w g m L d er) : ∃ cs, Has w g 69 cs := by
  obtain ⟨v, h, _⟩ := h
  exact ⟨_, h⟩
theorem below_by {w0 w w' : World} {g : Nat} (hb : Below w0.heap.size w0 w) (hg : w.grownBy w' (some g)) (hle : w0.heap.size ≤ g) : Below w0.heap.size w0 w' :=
  hb.grown hg hb.size (fun k hk => by injection hk with hk; omega)


set_option maxRecDepth 100000 in
set_option maxHeartbeats 4000000 in
theorem exprs_of (w0 w : World) (ka : Option Addr) (kc g m : Nat) (l : List Ex) (L : List En) (d : Int) (er : Bool) (a : Option Addr) (ck : List Smp) (hk : LaidK w0 ka l) (hl : l.length ≤ maxLen) (hD : ∀ i (hi : i < l.length), ExprDoes w0 l[i])
    (hb : Below w0.heap.size w0 w) (hle : w0.heap.size ≤ g) (hS : St w g m L d er) (hck : CkL w a ck) :
    Calls Tryd.prog 70 #[.pointer (some ⟨g, 0, none⟩), .slice ka l.length kc, .pointer a] w (CkPost w g m L d (er || !okK L d ck l)) := by
  unfold CkPost maxLen at *
  have HS := Lib.hid hS
  have HK := Lib.hid hk
  have HD := Lib.hid hD
  have HB := Lib.hid hb
  have HC := Lib.hid hck
  clear hS hk hD hb hck
  go_enter Tryd.func70, Tryd.ntmps70
  go_wp2_with fail
  go_loopw [9] (fun iv wr => ∃ j : Nat, j ≤ l.length ∧ iv = .int .i64 j ∧ Hid (w.grownBy wr (some g)) ∧ Hid (St wr g m L d (er || !okK L d ck (l.take j))) ∧ Hid (CkL wr a ck)) (fun iv _ => l.length - (intOf iv).toNat)
  case atStart => exact ⟨0, by omega, rfl, Lib.hid (grown_refl _ _), Lib.hid (by rw [List.take_zero, okK, Bool.not_true, Bool.or_false]; exact HS.out), HC⟩
  case round =>
    obtain ⟨j, hj, rfl, HG, HR, HC2⟩ := hrel
    by_cases hlt : j < l.length
    · obtain ⟨b, off, rfl, hat⟩ := HK.out.get j hlt
      have HX := Lib.hid (HD.out j hlt wr b (off + j * 8) g m L d _ a ck (below_by HB.out HG.out hle) hat hle HR.out HC2.out)
      have HT : Hid ((er || !okK L d ck (l.take (j + 1))) = ((er || !okK L d ck (l.take j)) || !okE L d ck l[j])) := Lib.hid (by rw [take_snoc l j hlt, okK_snoc]; cases er <;> cases okK L d ck (l.take j) <;> cases okE L d ck l[j] <;> rfl)
      have i0 : (0 : Int) ≤ (j : Int) := Int.natCast_nonneg _
      have i1 : (j : Int) < (l.length : Int) := by omega
      clear hat
      go_wp2_with fail
      refine HX.out.mono ?_
      rintro e w2 ⟨rfl, hS2, hg2⟩
      obtain ⟨cs, hcs⟩ := HR.out.has
      have HG2 := Lib.hid (grown_trans HG.out hg2)
      have HC3 := Lib.hid (HC2.out.grown hg2 hcs)
      rw [← HT.out] at hS2
      have HS2 := Lib.hid hS2
      clear hS2 hg2 hcs HX HT
      go_wp2_with fail
      go_roundw
      case rel => exact ⟨j + 1, by omega, by go_num, HG2, HS2, HC3⟩
      case measure => simp [intOf]; omega
    · obtain rfl : j = l.length := by omega
      have HR2 : Hid (St wr g m L d (er || !okK L d ck l)) := Lib.hid (by have := HR.out; rwa [List.take_length] at this)
      clear HR
      go_wp2_with fail
      go_returns
      exact ⟨rfl, HR2.out, HG.out⟩
end Go.Proofs.YtnejkgkikpgajaaDoor.ck
