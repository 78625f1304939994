/-
  (package show) one, two, choice, merge, expr: an expression's text is written behind what the builder holds.
-/
import Derived.Test.YtmhjcnnocllniaaDoorShKid
namespace Go.Proofs.YtmhjcnnocllniaaDoor.sh
open Go.ChangeShapes Go.WideShapes Go.ChangeAt Go.RowKit Go.Proofs.YtmhjcnnocllniaaDoor.tr
set_option linter.unusedVariables false
set_option linter.unusedSimpArgs false

theorem wtN_take (l : List ByteArray) (i : Nat) (hi : i < l.length) : wtN (l.take i) + (l[i].size + 8) ≤ wtN l := by
  induction l generalizing i with
  | nil => simp at hi
  | cons a r ih =>
    cases i with
    | zero => simp [wtN]
    | succ i =>
      have := ih i (by simpa using hi)
      simp only [List.take_succ_cons, wtN, List.getElem_cons_succ]
      omega
theorem wtK_take (l : List Ex) (i : Nat) (hi : i < l.length) : wtK (l.take i) + (wt l[i] + 8) ≤ wtK l := by
  induction l generalizing i with
  | nil => simp at hi
  | cons a r ih =>
    cases i with
    | zero => simp [wtK]
    | succ i =>
      have := ih i (by simpa using hi)
      simp only [List.take_succ_cons, wtK, List.getElem_cons_succ]
      omega
theorem fitK_take (l : List Ex) (h : fitK l) (i : Nat) : fitK (l.take i) := by
  induction l generalizing i with
  | nil => simpa using h
  | cons a r ih =>
    rw [fitK] at h
    cases i with
    | zero => simp [fitK]
    | succ i =>
      simp only [List.take_succ_cons, fitK]
      exact ⟨h.1, ih h.2 i⟩
/-- the arms up to i -/
def armsU (nms : List ByteArray) (kids : List Ex) (i : Nat) : List UInt8 := armsT (nms.take i) (txtK (kids.take i))
theorem armsU_len (nms : List ByteArray) (kids : List Ex) (h : fitK kids) (i : Nat) (hi : i < nms.length) (hj : i < kids.length) : (armsU nms kids i).length + (nms[i].size + 8) + (wt kids[i] + 8) ≤ wtN nms + wtK kids := by
  have h1 := arms_len (nms.take i) (txtK (kids.take i))
  have h2 := txtK_len _ (fitK_take kids h i)
  have h3 := wtN_take nms i hi
  have h4 := wtK_take kids i hj
  unfold armsU
  omega
theorem armsU_all_len (nms : List ByteArray) (kids : List Ex) (h : fitK kids) : (armsT nms (txtK kids)).length ≤ wtN nms + wtK kids := by
  have h1 := arms_len nms (txtK kids)
  have h2 := txtK_len _ h
  omega
theorem armsU_succ (nms : List ByteArray) (kids : List Ex) (i : Nat) (hi : i < nms.length) (hj : i < kids.length) :
    armsU nms kids (i + 1) = armsU nms kids i ++ (([32, 40] : List UInt8) ++ bs nms[i] ++ ([32, 45, 62, 32] : List UInt8) ++ txt kids[i] ++ ([41] : List UInt8)) := by
  unfold armsU
  induction nms generalizing kids i with
  | nil => simp at hi
  | cons a r ih =>
    cases kids with
    | nil => simp at hj
    | cons x ks =>
      cases i with
      | zero => simp [txtK, armsT]
      | succ i =>
        have := ih ks i (by simpa using hi) (by simpa using hj)
        simp only [List.take_succ_cons, txtK, armsT, List.getElem_cons_succ] at this ⊢
        rw [this]
        simp only [List.append_assoc]
theorem armsU_all (nms : List ByteArray) (kids : List Ex) (h : nms.length = kids.length) : armsU nms kids kids.length = armsT nms (txtK kids) := by
  unfold armsU
  rw [List.take_length, ← h, List.take_length]

section
variable {ln cl : Int} {w0 : World} {b off k o : Nat} {n : Int} {nm : ByteArray} {nms : List ByteArray} {kids : List Ex} {na : Option Addr} {nc : Nat} {ka : Option Addr} {kc : Nat}

set_option maxRecDepth 100000 in
theorem one_any (hL : Laid w0) (hp : Parts w0 b off k o n nm nms kids na nc ka kc) (hx : LaidAt w0 b off (.mk k o n nm nms kids ln cl)) (h0 : 0 < kids.length) (hE : ExprDoes kids[0]) (hf : fitK kids) (w : World) (l : List UInt8) (hB : Bu w0 l w) (s : ByteArray) (hlen : l.length + s.size + 3 + wt kids[0] ≤ 140737488355328) :
    Calls Tryd.prog 24 #[.pointer (some ⟨w0.heap.size, 0, none⟩), .string s, .pointer (some ⟨b, off, none⟩)] w (PutPost w0 (l ++ (bs s ++ ([32] : List UInt8)) ++ par (bareB (decide (k = 6) && decide (o = 2)) kids[0]) (txt kids[0]))) := by
  have hft := txt_len _ (fitK_get kids hf 0 h0)
  have HP := Lib.hid (put2 w0 w l hB s ⟨#[32]⟩ (bs s ++ ([32] : List UInt8)) rfl (by simp [bs_len]; omega))
  have HO : Hid (∀ w1, Bu w0 (l ++ (bs s ++ ([32] : List UInt8))) w1 → Calls Tryd.prog 28 #[.pointer (some ⟨w0.heap.size, 0, none⟩), .pointer (some ⟨b, off, none⟩), .int .i64 0] w1 (PutPost w0 (l ++ (bs s ++ ([32] : List UInt8)) ++ par (bareB (decide (k = 6) && decide (o = 2)) kids[0]) (txt kids[0])))) :=
    Lib.hid (fun w1 h1 => operand_any hL hp hx 0 h0 hE w1 _ h1 (by simp [bs_len]; omega) hft)
  clear hp hx hB hlen hE hL hft hf
  unfold PutPost at HO ⊢
  go_enter Tryd.func24, Tryd.ntmps24
  go_wp2_with fail
  refine HP.out.mono ?_
  rintro e w1 ⟨rfl, hB1⟩
  have HO1 := Lib.hid (HO.out w1 hB1)
  clear hB1
  go_wp2_with fail
  refine HO1.out.mono ?_
  rintro e w2 ⟨rfl, hB2⟩
  have HB2 := Lib.hid hB2
  clear hB2
  go_wp2_with fail
  go_end0
  exact ⟨rfl, HB2.out⟩

set_option maxRecDepth 100000 in
theorem two_any (hL : Laid w0) (hp : Parts w0 b off k o n nm nms kids na nc ka kc) (hx : LaidAt w0 b off (.mk k o n nm nms kids ln cl)) (hk6 : k ≠ 6) (h0 : 1 < kids.length) (hE0 : ExprDoes kids[0]) (hE1 : ExprDoes kids[1]) (hf : fitK kids) (w : World) (l : List UInt8) (hB : Bu w0 l w) (s : ByteArray) (hlen : l.length + s.size + 6 + wtK kids ≤ 140737488355328) :
    Calls Tryd.prog 26 #[.pointer (some ⟨w0.heap.size, 0, none⟩), .string s, .pointer (some ⟨b, off, none⟩)] w (PutPost w0 (l ++ par (bareB false kids[0]) (txt kids[0]) ++ (([32] : List UInt8) ++ (bs s ++ ([32] : List UInt8))) ++ par (bareB false kids[1]) (txt kids[1]))) := by
  have hf0 := txt_len _ (fitK_get kids hf 0 (by omega))
  have hf1 := txt_len _ (fitK_get kids hf 1 h0)
  have hp0 := par_len (bareB false kids[0]) (txt kids[0])
  have hp1 := par_len (bareB false kids[1]) (txt kids[1])
  have hw : wt kids[0] + wt kids[1] ≤ wtK kids := by
    match kids, h0 with
    | a :: c :: r, _ => simp only [wtK, List.getElem_cons_zero, List.getElem_cons_succ]; omega
  have hd : (decide (k = 6) && decide (o = 2)) = false := by simp [hk6]
  have HO : Hid (Calls Tryd.prog 28 #[.pointer (some ⟨w0.heap.size, 0, none⟩), .pointer (some ⟨b, off, none⟩), .int .i64 0] w (PutPost w0 (l ++ par (bareB false kids[0]) (txt kids[0])))) :=
    Lib.hid (by have := operand_any hL hp hx 0 (by omega) hE0 w _ hB (by omega) hf0; rw [hd] at this; exact this)
  have HP := Lib.hid (fun w1 (h1 : Bu w0 (l ++ par (bareB false kids[0]) (txt kids[0])) w1) => put3 w0 w1 _ h1 ⟨#[32]⟩ s ⟨#[32]⟩ (([32] : List UInt8) ++ (bs s ++ ([32] : List UInt8))) rfl (by simp [bs_len]; omega))
  have HO1 : Hid (∀ w2, Bu w0 (l ++ par (bareB false kids[0]) (txt kids[0]) ++ (([32] : List UInt8) ++ (bs s ++ ([32] : List UInt8)))) w2 → Calls Tryd.prog 28 #[.pointer (some ⟨w0.heap.size, 0, none⟩), .pointer (some ⟨b, off, none⟩), .int .i64 1] w2 (PutPost w0 (l ++ par (bareB false kids[0]) (txt kids[0]) ++ (([32] : List UInt8) ++ (bs s ++ ([32] : List UInt8))) ++ par (bareB false kids[1]) (txt kids[1])))) :=
    Lib.hid (fun w2 h2 => by have := operand_any hL hp hx 1 h0 hE1 w2 _ h2 (by simp [bs_len]; omega) hf1; rw [hd] at this; exact this)
  clear hp hx hB hlen hE0 hE1 hL hf0 hf1 hf hp0 hp1 hw hd
  unfold PutPost at HO HO1 ⊢
  go_enter Tryd.func26, Tryd.ntmps26
  go_wp2_with fail
  refine HO.out.mono ?_
  rintro e w1 ⟨rfl, hB1⟩
  have HP1 := Lib.hid (HP.out w1 hB1)
  clear hB1
  go_wp2_with fail
  refine HP1.out.mono ?_
  rintro e w2 ⟨rfl, hB2⟩
  have HQ := Lib.hid (HO1.out w2 hB2)
  clear hB2
  go_wp2_with fail
  refine HQ.out.mono ?_
  rintro e w3 ⟨rfl, hB3⟩
  have HB3 := Lib.hid hB3
  clear hB3
  go_wp2_with fail
  go_end0
  exact ⟨rfl, HB3.out⟩

set_option maxRecDepth 100000 in
theorem choice_any (hL : Laid w0) (hp : Parts w0 b off k o n nm nms kids na nc ka kc) (h0 : 2 < kids.length) (hE0 : ExprDoes kids[0]) (hE1 : ExprDoes kids[1]) (hE2 : ExprDoes kids[2]) (hf : fitK kids) (w : World) (l : List UInt8) (hB : Bu w0 l w) (hlen : l.length + 20 + wtK kids ≤ 140737488355328) :
    Calls Tryd.prog 27 #[.pointer (some ⟨w0.heap.size, 0, none⟩), .pointer (some ⟨b, off, none⟩)] w (PutPost w0 (l ++ ([105, 102, 32] : List UInt8) ++ txt kids[0] ++ ([32, 116, 104, 101, 110, 32] : List UInt8) ++ txt kids[1] ++ ([32, 101, 108, 115, 101, 32] : List UInt8) ++ txt kids[2])) := by
  have hf0 := txt_len _ (fitK_get kids hf 0 (by omega))
  have hf1 := txt_len _ (fitK_get kids hf 1 (by omega))
  have hf2 := txt_len _ (fitK_get kids hf 2 h0)
  have hw : wt kids[0] + wt kids[1] + wt kids[2] ≤ wtK kids := by
    match kids, h0 with
    | a :: c :: d :: r, _ => simp only [wtK, List.getElem_cons_zero, List.getElem_cons_succ]; omega
  have HP := Lib.hid (put1 w0 w l hB ⟨#[105, 102, 32]⟩ ([105, 102, 32] : List UInt8) rfl (by simp; omega))
  have HK0 : Hid (∀ w1, Bu w0 (l ++ ([105, 102, 32] : List UInt8)) w1 → Calls Tryd.prog 34 #[.pointer (some ⟨w0.heap.size, 0, none⟩), .pointer (some ⟨b, off, none⟩), .int .i64 0] w1 (PutPost w0 (l ++ ([105, 102, 32] : List UInt8) ++ txt kids[0]))) :=
    Lib.hid (fun w1 h1 => kid_any hL hp 0 (by omega) hE0 w1 _ h1 (by simp; omega))
  have HP1 := Lib.hid (fun w1 (h1 : Bu w0 (l ++ ([105, 102, 32] : List UInt8) ++ txt kids[0]) w1) => put1 w0 w1 _ h1 ⟨#[32, 116, 104, 101, 110, 32]⟩ ([32, 116, 104, 101, 110, 32] : List UInt8) rfl (by simp; omega))
  have HK1 : Hid (∀ w1, Bu w0 (l ++ ([105, 102, 32] : List UInt8) ++ txt kids[0] ++ ([32, 116, 104, 101, 110, 32] : List UInt8)) w1 → Calls Tryd.prog 34 #[.pointer (some ⟨w0.heap.size, 0, none⟩), .pointer (some ⟨b, off, none⟩), .int .i64 1] w1 (PutPost w0 (l ++ ([105, 102, 32] : List UInt8) ++ txt kids[0] ++ ([32, 116, 104, 101, 110, 32] : List UInt8) ++ txt kids[1]))) :=
    Lib.hid (fun w1 h1 => kid_any hL hp 1 (by omega) hE1 w1 _ h1 (by simp; omega))
  have HP2 := Lib.hid (fun w1 (h1 : Bu w0 (l ++ ([105, 102, 32] : List UInt8) ++ txt kids[0] ++ ([32, 116, 104, 101, 110, 32] : List UInt8) ++ txt kids[1]) w1) => put1 w0 w1 _ h1 ⟨#[32, 101, 108, 115, 101, 32]⟩ ([32, 101, 108, 115, 101, 32] : List UInt8) rfl (by simp; omega))
  have HK2 : Hid (∀ w1, Bu w0 (l ++ ([105, 102, 32] : List UInt8) ++ txt kids[0] ++ ([32, 116, 104, 101, 110, 32] : List UInt8) ++ txt kids[1] ++ ([32, 101, 108, 115, 101, 32] : List UInt8)) w1 → Calls Tryd.prog 34 #[.pointer (some ⟨w0.heap.size, 0, none⟩), .pointer (some ⟨b, off, none⟩), .int .i64 2] w1 (PutPost w0 (l ++ ([105, 102, 32] : List UInt8) ++ txt kids[0] ++ ([32, 116, 104, 101, 110, 32] : List UInt8) ++ txt kids[1] ++ ([32, 101, 108, 115, 101, 32] : List UInt8) ++ txt kids[2]))) :=
    Lib.hid (fun w1 h1 => kid_any hL hp 2 (by omega) hE2 w1 _ h1 (by simp; omega))
  clear hp hB hlen hE0 hE1 hE2 hL hf0 hf1 hf2 hf hw
  unfold PutPost at HK0 HK1 HK2 ⊢
  go_enter Tryd.func27, Tryd.ntmps27
  go_wp2_with fail
  refine HP.out.mono ?_
  rintro e w1 ⟨rfl, hB1⟩
  have HA := Lib.hid (HK0.out w1 hB1)
  clear hB1
  go_wp2_with fail
  refine HA.out.mono ?_
  rintro e w2 ⟨rfl, hB2⟩
  have HA2 := Lib.hid (HP1.out w2 hB2)
  clear hB2
  go_wp2_with fail
  refine HA2.out.mono ?_
  rintro e w3 ⟨rfl, hB3⟩
  have HA3 := Lib.hid (HK1.out w3 hB3)
  clear hB3
  go_wp2_with fail
  refine HA3.out.mono ?_
  rintro e w4 ⟨rfl, hB4⟩
  have HA4 := Lib.hid (HP2.out w4 hB4)
  clear hB4
  go_wp2_with fail
  refine HA4.out.mono ?_
  rintro e w5 ⟨rfl, hB5⟩
  have HA5 := Lib.hid (HK2.out w5 hB5)
  clear hB5
  go_wp2_with fail
  refine HA5.out.mono ?_
  rintro e w6 ⟨rfl, hB6⟩
  have HB6 := Lib.hid hB6
  clear hB6
  go_wp2_with fail
  go_end0
  exact ⟨rfl, HB6.out⟩

set_option maxRecDepth 100000 in
set_option maxHeartbeats 4000000 in
theorem merge_any (hL : Laid w0) (hp : Parts w0 b off k o n nm nms kids na nc ka kc) (hnk : nms.length = kids.length) (hE : ∀ i (hi : i < kids.length), ExprDoes kids[i]) (hf : fitK kids) (w : World) (l : List UInt8) (hB : Bu w0 l w) (hlen : l.length + 20 + nm.size + wtN nms + wtK kids ≤ 140737488355328) :
    Calls Tryd.prog 30 #[.pointer (some ⟨w0.heap.size, 0, none⟩), .pointer (some ⟨b, off, none⟩)] w (PutPost w0 (l ++ (([40, 109, 101, 114, 103, 101, 32] : List UInt8) ++ bs nm) ++ armsT nms (txtK kids) ++ ([41] : List UInt8))) := by
  obtain ⟨x0, x1, x2, x3, x4, x5⟩ := hp.cells w hB.2
  have hls := hp.lks
  unfold maxLen at hls
  have HX := Lib.hid (fun W (hW : Below w0.heap.size w0 W) => (hp.cells W hW).2.2.2.2.2)
  have HP := Lib.hid (put2 w0 w l hB ⟨#[40, 109, 101, 114, 103, 101, 32]⟩ nm (([40, 109, 101, 114, 103, 101, 32] : List UInt8) ++ bs nm) rfl (by simp [bs_len]; omega))
  have hN : ∀ i, i < kids.length → i < nms.length := fun i hi => by omega
  generalize hl1 : l ++ (([40, 109, 101, 114, 103, 101, 32] : List UInt8) ++ bs nm) = l1 at *
  have hl1n : l1.length + 13 + wtN nms + wtK kids ≤ 140737488355328 := by rw [← hl1]; simp [bs_len]; omega
  have HCT := Lib.hid (fun (i : Nat) (hi : i < kids.length) (wr : World) (hb : Below w0.heap.size w0 wr) => ctor_any w0 wr b off k o n nm nms kids na nc ka kc hp hb i (hN i hi))
  have HPA : Hid (∀ (i : Nat) (hi : i < kids.length) (wr : World), Bu w0 (l1 ++ armsU nms kids i) wr → Calls Tryd.prog 20 #[.pointer (some ⟨w0.heap.size, 0, none⟩), .slice (some ⟨wr.heap.size, 0, none⟩) 3 3] (wr.alloc (.cells #[.string ⟨#[32, 40]⟩, .string (nms[i]'(hN i hi)), .string ⟨#[32, 45, 62, 32]⟩] 9)) (PutPost w0 (l1 ++ armsU nms kids i ++ (([32, 40] : List UInt8) ++ (bs (nms[i]'(hN i hi)) ++ ([32, 45, 62, 32] : List UInt8)))))) :=
    Lib.hid (fun i hi wr h => put3 w0 wr _ h ⟨#[32, 40]⟩ (nms[i]'(hN i hi)) ⟨#[32, 45, 62, 32]⟩ _ rfl (by have := armsU_len nms kids hf i (by omega) hi; simp [bs_len]; omega))
  have HKI : Hid (∀ (i : Nat) (hi : i < kids.length) (wr : World), Bu w0 (l1 ++ armsU nms kids i ++ (([32, 40] : List UInt8) ++ (bs (nms[i]'(hN i hi)) ++ ([32, 45, 62, 32] : List UInt8)))) wr → Calls Tryd.prog 34 #[.pointer (some ⟨w0.heap.size, 0, none⟩), .pointer (some ⟨b, off, none⟩), .int .i64 i] wr (PutPost w0 (l1 ++ armsU nms kids i ++ (([32, 40] : List UInt8) ++ (bs (nms[i]'(hN i hi)) ++ ([32, 45, 62, 32] : List UInt8))) ++ txt kids[i]))) :=
    Lib.hid (fun i hi wr h => kid_any hL hp i hi (hE i hi) wr _ h (by have := armsU_len nms kids hf i (by omega) hi; simp [bs_len]; omega))
  have HPB : Hid (∀ (i : Nat) (hi : i < kids.length) (wr : World), Bu w0 (l1 ++ armsU nms kids i ++ (([32, 40] : List UInt8) ++ (bs (nms[i]'(hN i hi)) ++ ([32, 45, 62, 32] : List UInt8))) ++ txt kids[i]) wr → Calls Tryd.prog 20 #[.pointer (some ⟨w0.heap.size, 0, none⟩), .slice (some ⟨wr.heap.size, 0, none⟩) 1 1] (wr.alloc (.cells #[.string ⟨#[41]⟩] 9)) (PutPost w0 (l1 ++ armsU nms kids (i + 1)))) :=
    Lib.hid (fun i hi wr h => by
      have := put1 w0 wr _ h ⟨#[41]⟩ ([41] : List UInt8) rfl (by have := armsU_len nms kids hf i (by omega) hi; have := txt_len _ (fitK_get kids hf i hi); simp [bs_len]; omega)
      rw [armsU_succ nms kids i (by omega) hi]
      simp only [List.append_assoc] at this ⊢
      exact this)
  have HPZ : Hid (∀ (wr : World), Bu w0 (l1 ++ armsU nms kids kids.length) wr → Calls Tryd.prog 20 #[.pointer (some ⟨w0.heap.size, 0, none⟩), .slice (some ⟨wr.heap.size, 0, none⟩) 1 1] (wr.alloc (.cells #[.string ⟨#[41]⟩] 9)) (PutPost w0 (l1 ++ armsT nms (txtK kids) ++ ([41] : List UInt8)))) :=
    Lib.hid (fun wr h => by
      rw [armsU_all nms kids hnk] at h
      exact put1 w0 wr _ h ⟨#[41]⟩ ([41] : List UInt8) rfl (by have := armsU_all_len nms kids hf; simp; omega))
  have HZ0 : Hid (l1 ++ armsU nms kids 0 = l1) := Lib.hid (by simp [armsU, txtK, armsT])
  clear hp hB hlen hE hL hf hl1n hl1 hnk
  unfold PutPost at HPA HKI HPB HPZ HP ⊢
  go_enter Tryd.func30, Tryd.ntmps30
  go_wp2_with fail
  refine HP.out.mono ?_
  rintro e w1 ⟨rfl, hB1⟩
  have y5 := HX.out w1 hB1.2
  have HB1 := Lib.hid hB1
  clear hB1 x0 x1 x2 x3 x4 x5
  go_wp2_with fail
  go_loopw [4, 17] (fun _ iv wr => ∃ i : Nat, i ≤ kids.length ∧ iv = .int .i64 i ∧ Hid (Bu w0 (l1 ++ armsU nms kids i) wr)) (fun _ iv _ => kids.length - (intOf iv).toNat)
  case atStart => exact ⟨0, by omega, rfl, Lib.hid (by rw [HZ0.out]; exact HB1.out)⟩
  case round =>
    obtain ⟨i, hi, rfl, HB⟩ := hrel
    by_cases hlt : i < kids.length
    · have hi0 : (0 : Int) ≤ (i : Int) := Int.natCast_nonneg _
      have hi1 : (i : Int) < (kids.length : Int) := by omega
      have HC1 := Lib.hid (HCT.out i hlt wr HB.out.2)
      have HC2 := Lib.hid (HPA.out i hlt wr HB.out)
      have HC3 := Lib.hid (HKI.out i hlt)
      have HC4 := Lib.hid (HPB.out i hlt)
      go_wp2_with fail
      refine HC1.out.mono ?_
      rintro e w2 ⟨rfl, rfl⟩
      go_wp2_with fail
      refine HC2.out.mono ?_
      rintro e w3 ⟨rfl, hB3⟩
      have HA3 := Lib.hid (HC3.out w3 hB3)
      clear hB3
      go_wp2_with fail
      refine HA3.out.mono ?_
      rintro e w4 ⟨rfl, hB4⟩
      have HA4 := Lib.hid (HC4.out w4 hB4)
      clear hB4
      go_wp2_with fail
      refine HA4.out.mono ?_
      rintro e w5 ⟨rfl, hB5⟩
      have HB5 := Lib.hid hB5
      clear hB5
      go_wp2_with fail
      go_roundw
      case rel => exact ⟨i + 1, by omega, by go_num, HB5⟩
      case measure => simp [intOf]; omega
    · have hie : i = kids.length := by omega
      subst hie
      have HA := Lib.hid (HPZ.out wr HB.out)
      go_wp2_with fail
      refine HA.out.mono ?_
      rintro e w2 ⟨rfl, hB2⟩
      have HB2 := Lib.hid hB2
      clear hB2
      go_wp2_with fail
      go_end0
      exact ⟨rfl, HB2.out⟩
end
end Go.Proofs.YtmhjcnnocllniaaDoor.sh
