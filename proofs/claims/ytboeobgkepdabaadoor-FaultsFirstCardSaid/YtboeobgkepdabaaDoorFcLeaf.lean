/-
  strconv.Itoa at one digit; head of an At; the word of a Kind; told at a Kind.
-/
import Derived.Test.YtboeobgkepdabaaDoorFtQuiet
import Derived.Handy
import Derived.Deep.QuietTactic
import Derived.BigQuiet
namespace Go.Proofs.YtboeobgkepdabaaDoor.ft
open Go.ChangeShapes Go.WideShapes Go.ChangeAt Go.RowKit Go.Extern.Stop Go.Stop Go.Extern
open Go.Proofs.YtboeobgkepdabaaDoor.lx (Has grown_refl grown_put grown_below)
set_option linter.unusedVariables false

def digS (n : Int) : ByteArray := if n = 3 then ⟨#[51]⟩ else ⟨#[55]⟩

set_option maxRecDepth 100000 in
theorem small_37 (n : Int) (h : n = 3 ∨ n = 7) (w : World) : Calls Tryd.prog 63 #[.int .i64 n] w fun e w' => e = .returned (.string (digS n)) ∧ w' = w := by
  rcases h with rfl | rfl
  all_goals
    go_enter Tryd.func63, Tryd.ntmps63
    go_wp2_with fail
    go_ret
    exact ⟨rfl, rfl⟩

set_option maxRecDepth 100000 in
theorem fmt_37 (n : Int) (h : n = 3 ∨ n = 7) (w : World) : Calls Tryd.prog 60 #[.int .i64 n, .int .i64 10] w fun e w' => e = .returned (.string (digS n)) ∧ w' = w := by
  have HS := Lib.hid (fun W => small_37 n h W)
  rcases h with rfl | rfl
  all_goals
    go_enter Tryd.func60, Tryd.ntmps60
    go_wp2_with fail
    refine (HS.out _).mono ?_
    rintro e w' ⟨rfl, rfl⟩
    go_wp2_with fail
    go_ret
    exact ⟨rfl, rfl⟩
set_option maxRecDepth 100000 in
theorem itoaI_37 (n : Int) (h : n = 3 ∨ n = 7) (w : World) : Calls Tryd.prog 54 #[.int .i64 n] w fun e w' => e = .returned (.string (digS n)) ∧ w' = w := by
  have HS := Lib.hid (fun W => fmt_37 n h W)
  clear h
  go_enter Tryd.func54, Tryd.ntmps54
  go_wp2_with fail
  refine (HS.out _).mono ?_
  rintro e w' ⟨rfl, rfl⟩
  go_wp2_with fail
  go_ret
  exact ⟨rfl, rfl⟩
set_option maxRecDepth 100000 in
theorem itoa_37 (n : Int) (h : n = 3 ∨ n = 7) (w : World) : Calls Tryd.prog 41 #[.int .i64 n] w fun e w' => e = .returned (.string (digS n)) ∧ w' = w := by
  have HS := Lib.hid (fun W => itoaI_37 n h W)
  clear h
  go_enter Tryd.func41, Tryd.ntmps41
  go_wp2_with fail
  refine (HS.out _).mono ?_
  rintro e w' ⟨rfl, rfl⟩
  go_wp2_with fail
  go_ret
  exact ⟨rfl, rfl⟩

def inS : ByteArray := ⟨#[105, 110, 32]⟩
set_option maxRecDepth 100000 in
theorem head_named (g : Nat) (x y : Int) (nm : ByteArray) (er : Value) (w : World) (hz : nm.size ≤ 300) (hg : Has w g 50 #[.int .i64 x, .int .i64 y, .string nm, .bool true, er]) :
    Calls Tryd.prog 29 #[.pointer (some ⟨g, 0, none⟩)] w fun e w' => e = .returned (.string (inS ++ nm)) ∧ w' = w := by
  have c2 := hg.cell 2
  have c3 := hg.cell 3
  simp only [List.getElem?_toArray, List.getElem?_cons_zero, List.getElem?_cons_succ] at c2 c3
  clear hg
  go_enter Tryd.func29, Tryd.ntmps29
  go_wp2_with fail
  go_ret
  exact ⟨rfl, rfl⟩
set_option maxRecDepth 100000 in
theorem head_37 (g : Nat) (nm : ByteArray) (er : Value) (w : World) (hg : Has w g 50 #[.int .i64 3, .int .i64 7, .string nm, .bool false, er]) :
    Calls Tryd.prog 29 #[.pointer (some ⟨g, 0, none⟩)] w fun e w' => e = .returned (.string ⟨#[51, 58, 55]⟩) ∧ ∃ n, w' = w.drewN n := by
  have c0 := hg.cell 0
  have c1 := hg.cell 1
  have c3 := hg.cell 3
  simp only [List.getElem?_toArray, List.getElem?_cons_zero, List.getElem?_cons_succ] at c0 c1 c3
  have H3 := Lib.hid (fun j => (show Calls Tryd.prog 41 #[.int .i64 3] (w.drewN j) (fun e w' => e = .returned (.string ⟨#[51]⟩) ∧ w' = w.drewN j) from itoa_37 3 (.inl rfl) (w.drewN j)))
  have H7 := Lib.hid (fun j => (show Calls Tryd.prog 41 #[.int .i64 7] (w.drewN j) (fun e w' => e = .returned (.string ⟨#[55]⟩) ∧ w' = w.drewN j) from itoa_37 7 (.inr rfl) (w.drewN j)))
  clear hg
  go_enter Tryd.func29, Tryd.ntmps29
  go_wp2_with fail
  go_quiet ((first | exact Calls.quiet_of_same (H3.out _) | exact Calls.quiet_of_same (H7.out _)))
  go_wp2_with fail
  go_ret
  exact ⟨rfl, nq, rfl⟩

/-- the word of a kind -/
def kwS (k : Int) : ByteArray := if k = 1 then ⟨#[108, 101, 120, 105, 99]⟩ else if k = 2 then ⟨#[115, 121, 110, 116, 97, 120]⟩ else if k = 3 then ⟨#[108, 105, 109, 105, 116]⟩ else if k = 4 then ⟨#[116, 119, 105, 99, 101]⟩ else if k = 5 then ⟨#[110, 97, 109, 101]⟩ else if k = 6 then ⟨#[108, 111, 111, 112]⟩ else if k = 7 then ⟨#[116, 121, 112, 101, 100]⟩ else if k = 8 then ⟨#[99, 108, 111, 99, 107]⟩ else if k = 9 then ⟨#[105, 110, 105, 116]⟩ else if k = 10 then ⟨#[99, 97, 117, 115, 101]⟩ else if k = 11 then ⟨#[101, 110, 116, 114, 121]⟩ else ⟨#[102, 97, 117, 108, 116]⟩

set_option maxRecDepth 100000 in
set_option maxHeartbeats 8000000 in
theorem word_k (k : Int) (h1 : 1 ≤ k) (h2 : k ≤ 12) (w : World) :
    Calls Tryd.prog 12 #[.int .i64 k] w fun e w' => e = .returned (.string (kwS k)) ∧ Below w.heap.size w w' := by
  rcases (show k = 1 ∨ k = 2 ∨ k = 3 ∨ k = 4 ∨ k = 5 ∨ k = 6 ∨ k = 7 ∨ k = 8 ∨ k = 9 ∨ k = 10 ∨ k = 11 ∨ k = 12 by omega) with rfl | rfl | rfl | rfl | rfl | rfl | rfl | rfl | rfl | rfl | rfl | rfl
  all_goals
    go_enter Tryd.func12, Tryd.ntmps12
    go_wp2_with fail
    go_ret
    exact ⟨rfl, (Below.refl _ w).alloc (Nat.le_refl _) _⟩

theorem quiet_told (args : Array Value) (w : World) (P : World → Prop) (h : Calls Tryd.prog 39 args w fun e w' => e = .returned (.tuple #[]) ∧ P w') :
    Calls Tryd.prog 33 #[.func (.func 39) #[] args] w fun e w' => e = .returned (.tuple #[]) ∧ P w' := by
  have H := Lib.hid h
  clear h
  go_enter_defers Tryd.func33, Tryd.ntmps33
  go_wp2_with fail
  refine H.out.mono ?_
  rintro e w' ⟨rfl, hp⟩
  have HP := Lib.hid hp
  clear hp
  go_wp2_with fail
  refine leaves_cons (f := 45) (args := #[]) (by simp) (by simp [go_sem]) ?_
  refine (catch_idle _).mono ?_
  rintro e u' w'' ⟨rfl, rfl, rfl⟩
  simp [Leaves, settle, results, Tryd.results33, go_sem]
  exact HP.out

theorem methErrK (v : Value) (w : World) : (Go.method 266 29 v "Error").run Tryd.prog w = .ok (12, v) w := by kernel_rfl
theorem methErrA (a : Addr) (w : World) : (Go.method 266 41 (.pointer (some a)) "Error").run Tryd.prog w = .ok (19, .pointer (some a)) w := by kernel_rfl

set_option maxRecDepth 100000 in
/-- told: the text of an error that doesn't panic, at a Kind and at an At -/
theorem told_k (k : Int) (s : ByteArray) (w : World) (H : ∀ W, Below w.heap.size w W → Calls Tryd.prog 12 #[.int .i64 k] W fun e w' => e = .returned (.string s) ∧ Below W.heap.size W w') :
    Calls Tryd.prog 25 #[.iface 29 (.int .i64 k)] w fun e w' => e = .returned (.string s) ∧ Below w.heap.size w w' := by
  have hmf : ∀ (fn : Fn) (first cap : Array Value) (w : World), (Instr.makeFunc fn first cap).run Tryd.prog w = .ok (.func fn first cap) w := fun _ _ _ _ => rfl
  have hme := methErrK
  obtain ⟨W, hW⟩ : ∃ W, W = (w.alloc (.cells #[.iface 29 (.int .i64 k)] 27)).alloc (.cells #[.string ⟨#[]⟩] 9) := ⟨_, rfl⟩
  have hb : Below w.heap.size w W := by rw [hW]; exact ((Below.refl _ _).alloc (Nat.le_refl _) _).alloc (by simp) _
  have h1 : Has W w.heap.size 27 #[.iface 29 (.int .i64 k)] := by rw [hW]; exact (Has.new w 27 #[.iface 29 (.int .i64 k)]).alloc _
  have h2 : Has W (w.heap.size + 1) 9 #[.string ⟨#[]⟩] := by
    rw [hW]
    have := Has.new (w.alloc (.cells #[.iface 29 (.int .i64 k)] 27)) 9 #[.string ⟨#[]⟩]
    simp only [World.size_alloc] at this
    exact this
  have hlit : Calls Tryd.prog 39 #[.pointer (some ⟨w.heap.size, 0, none⟩), .pointer (some ⟨w.heap.size + 1, 0, none⟩)] W fun e w' => e = .returned (.tuple #[]) ∧ Has w' (w.heap.size + 1) 9 #[.string s] ∧ Below w.heap.size w w' := by
    have a0 := h1.cell 0
    simp only [List.getElem?_toArray, List.getElem?_cons_zero] at a0
    have HH := Lib.hid (H W hb)
    have H2 := Lib.hid h2
    have HB := Lib.hid hb
    clear H h1 h2 hW
    go_enter Tryd.func39, Tryd.ntmps39
    go_wp2_with fail
    refine HH.out.mono ?_
    rintro e w1 ⟨rfl, hb1⟩
    have h2 := H2.out.below hb1 H2.out.lt
    have c := h2.cell 0
    have f := h2.free 0
    have hl := h2.lt
    simp only [List.getElem?_toArray, List.getElem?_cons_zero] at c
    have HE := Lib.hid (And.intro (h2.put 0 (.string s)) ((HB.out.trans (hb1.mono HB.out.size)).setCell (p := ⟨w.heap.size + 1, 0, none⟩) (by show _ ≤ w.heap.size + 1; omega) (.string s)))
    clear h2 hb1
    go_wp2_with fail
    go_end0
    exact ⟨rfl, by simpa using HE.out.1, HE.out.2⟩
  have HL := Lib.hid (quiet_told _ _ _ hlit)
  clear hlit h1 h2 hb H
  go_enter Tryd.func25, Tryd.ntmps25
  go_wp2_with fail
  rw [← hW]
  clear hW
  refine HL.out.mono ?_
  rintro e w1 ⟨rfl, h2, hb1⟩
  have c := h2.cell 0
  have f := h2.free 0
  have hl := h2.lt
  simp only [List.getElem?_toArray, List.getElem?_cons_zero] at c
  have HE := Lib.hid (h2.put 0 (.string s))
  have HB := Lib.hid (hb1.setCell (p := ⟨w.heap.size + 1, 0, none⟩) (by show _ ≤ w.heap.size + 1; omega) (.string s))
  clear h2 hb1
  go_wp2_with fail
  have e0 := HE.out.cell 0
  simp only [List.setIfInBounds_toArray, List.set_cons_zero, List.getElem?_toArray, List.getElem?_cons_zero] at e0
  exact bodyPost_ret (v := .string s) (by simp [results, Tryd.results25, go_sem, e0]) rfl ⟨rfl, HB.out⟩
end Go.Proofs.YtboeobgkepdabaaDoor.ft
