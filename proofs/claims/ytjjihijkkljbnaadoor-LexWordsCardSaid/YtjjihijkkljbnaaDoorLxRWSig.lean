/-
  The document's answer for the words of a text: a round that meets a word (Sig).
-/
import Derived.Test.YtjjihijkkljbnaaDoorLxRWBase
namespace Go.Proofs.YtjjihijkkljbnaaDoor.lx
open Go.ChangeShapes Go.WideShapes Go.ChangeAt Go.RowKit
set_option linter.unusedVariables false
set_option maxRecDepth 100000 in
set_option maxHeartbeats 60000000 in
theorem round_sig (s : ByteArray) (w : World) (hz : s.size ≤ 70000) (hbig : ¬65536 < s.size) (hsz0 : (s.size : Int) ≤ 65536) {C : Exit → Act → World → Prop} {wr : World} {u2 u3 u5 u9 u10 u11 u12 u13 u14 u15 u20 u21 u22 u23 u24 u25 u26 u27 u28 u29 u30 u31 u32 u33 u34 u35 u36 u37 u38 u39 u40 u41 u42 u43 u44 u45 u46 u47 u48 u49 u50 u51 u52 u53 u54 u55 u56 u57 u58 u59 u60 u61 u62 u63 u64 u65 u66 u67 u68 u69 u70 u71 u72 u73 u74 u75 u76 u77 u78 u79 u80 u81 u82 u83 u84 u85 u86 u87 u88 u89 u90 u91 u92 u93 u94 u95 u96 u97 u98 u99 u100 u101 u102 u103 u104 u105 u106 u107 u108 u109 u110 u111 u112 u113 u114 u115 u116 u117 u118 u119 u120 u121 u122 u123 u124 u125 u126 u127 u128 u129 u130 u131 u132 u133 u134 u135 u136 u137 u138 u139 u140 u141 u142 u143 u144 u145 u146 u147 u148 u149 u150 u151 u152 u153 u154 u155 u156 u157 u158 u159 u160 u161 u162 u163 u164 u165 u166 u167 u168 u169 u170 u171 u172 u173 u174 u175 u176 u177 u178 u179 u180 u181 u182 u183 u184 u185 u186 u187 u188 u189 u190 u191 u192 u193 u194 u195 u196 u197 u198 u199 u200 u201 u202 u203 u204 u205 u206 u207 u208 u209 u210 u211 u212 : Value} {i : Nat} {ts : List Tok} {ln cl : Nat}
    (HRET : Hid (∀ a w', bodyPost Tryd.prog Tryd.f24 (fun e w' => RefPost (lex (s.size + 1) s.data.toList (1, 1)) w.heap.size e w' ∧ Below w.heap.size w w') Exit.ret a w' → C Exit.ret a w'))
    (HNX : Hid (∀ (u2 u3 u5 u9 u10 u11 u12 u13 u14 u15 u20 u21 u22 u23 u24 u25 u26 u27 u28 u29 u30 u31 u32 u33 u34 u35 u36 u37 u38 u39 u40 u41 u42 u43 u44 u45 u46 u47 u48 u49 u50 u51 u52 u53 u54 u55 u56 u57 u58 u59 u60 u61 u62 u63 u64 u65 u66 u67 u68 u69 u70 u71 u72 u73 u74 u75 u76 u77 u78 u79 u80 u81 u82 u83 u84 u85 u86 u87 u88 u89 u90 u91 u92 u93 u94 u95 u96 u97 u98 u99 u100 u101 u102 u103 u104 u105 u106 u107 u108 u109 u110 u111 u112 u113 u114 u115 u116 u117 u118 u119 u120 u121 u122 u123 u124 u125 u126 u127 u128 u129 u130 u131 u132 u133 u134 u135 u136 u137 u138 u139 u140 u141 u142 u143 u144 u145 u146 u147 u148 u149 u150 u151 u152 u153 u154 u155 u156 u157 u158 u159 u160 u161 u162 u163 u164 u165 u166 u167 u168 u169 u170 u171 u172 u173 u174 u175 u176 u177 u178 u179 u180 u181 u182 u183 u184 u185 u186 u187 u188 u189 u190 u191 u192 u193 u194 u195 u196 u197 u198 u199 u200 u201 u202 u203 u204 u205 u206 u207 u208 u209 u210 u211 u212 lv cv iv : Value) (w'' : World), (∃ (i : Nat) (q : Nat × Nat) (ts : List Tok), i ≤ s.size ∧ iv = .int .i64 i ∧ lv = .int .i64 q.1 ∧ cv = .int .i64 q.2 ∧ Hid (RelR w s i q ts u5 w'')) → s.size - (intOf iv).toNat < s.size - (intOf (.int .i64 (i : Int))).toNat → C Exit.normal ⟨#[.string s, undef, u2, u3, .pointer (some ⟨w.heap.size, 0, none⟩), u5, lv, cv, iv, u9, u10, u11, u12, u13, u14, u15, .string s, .int .i64 (s.size : Int), .bool (decide ((65536 : Int) < (s.size : Int))), undef, u20, u21, u22, u23, u24, u25, u26, u27, u28, u29, u30, u31, u32, u33, u34, u35, u36, u37, u38, u39, u40, u41, u42, u43, u44, u45, u46, u47, u48, u49, u50, u51, u52, u53, u54, u55, u56, u57, u58, u59, u60, u61, u62, u63, u64, u65, u66, u67, u68, u69, u70, u71, u72, u73, u74, u75, u76, u77, u78, u79, u80, u81, u82, u83, u84, u85, u86, u87, u88, u89, u90, u91, u92, u93, u94, u95, u96, u97, u98, u99, u100, u101, u102, u103, u104, u105, u106, u107, u108, u109, u110, u111, u112, u113, u114, u115, u116, u117, u118, u119, u120, u121, u122, u123, u124, u125, u126, u127, u128, u129, u130, u131, u132, u133, u134, u135, u136, u137, u138, u139, u140, u141, u142, u143, u144, u145, u146, u147, u148, u149, u150, u151, u152, u153, u154, u155, u156, u157, u158, u159, u160, u161, u162, u163, u164, u165, u166, u167, u168, u169, u170, u171, u172, u173, u174, u175, u176, u177, u178, u179, u180, u181, u182, u183, u184, u185, u186, u187, u188, u189, u190, u191, u192, u193, u194, u195, u196, u197, u198, u199, u200, u201, u202, u203, u204, u205, u206, u207, u208, u209, u210, u211, u212, undef, undef, undef, undef, undef, undef, undef, undef], []⟩ w''))
    (hi : i ≤ s.size) (HR : Hid (RelR w s i (ln, cl) ts u5 wr)) (hl1 : ln + (s.size - i) ≤ s.size + 1) (hl2 : cl + (s.size - i) ≤ s.size + 1) (hlt : i < s.size)
    (hb : ¬ blankB s[i] = true) (hm : ¬ ∃ h1 : i + 1 < s.size, s[i].toNat = 45 ∧ s[i + 1].toNat = 45) (HCASE : Hid (digB s[i] = false ∧ letB s[i] = false)) :
    Code.wp Tryd.prog rbody C ⟨#[.string s, undef, u2, u3, .pointer (some ⟨w.heap.size, 0, none⟩), u5, .int .i64 (ln : Int), .int .i64 (cl : Int), .int .i64 (i : Int), u9, u10, u11, u12, u13, u14, u15, .string s, .int .i64 (s.size : Int), .bool (decide ((65536 : Int) < (s.size : Int))), undef, u20, u21, u22, u23, u24, u25, u26, u27, u28, u29, u30, u31, u32, u33, u34, u35, u36, u37, u38, u39, u40, u41, u42, u43, u44, u45, u46, u47, u48, u49, u50, u51, u52, u53, u54, u55, u56, u57, u58, u59, u60, u61, u62, u63, u64, u65, u66, u67, u68, u69, u70, u71, u72, u73, u74, u75, u76, u77, u78, u79, u80, u81, u82, u83, u84, u85, u86, u87, u88, u89, u90, u91, u92, u93, u94, u95, u96, u97, u98, u99, u100, u101, u102, u103, u104, u105, u106, u107, u108, u109, u110, u111, u112, u113, u114, u115, u116, u117, u118, u119, u120, u121, u122, u123, u124, u125, u126, u127, u128, u129, u130, u131, u132, u133, u134, u135, u136, u137, u138, u139, u140, u141, u142, u143, u144, u145, u146, u147, u148, u149, u150, u151, u152, u153, u154, u155, u156, u157, u158, u159, u160, u161, u162, u163, u164, u165, u166, u167, u168, u169, u170, u171, u172, u173, u174, u175, u176, u177, u178, u179, u180, u181, u182, u183, u184, u185, u186, u187, u188, u189, u190, u191, u192, u193, u194, u195, u196, u197, u198, u199, u200, u201, u202, u203, u204, u205, u206, u207, u208, u209, u210, u211, u212, undef, undef, undef, undef, undef, undef, undef, undef], []⟩ wr := by
  obtain ⟨i0, hii, hi0, hi1, hi2⟩ := info_parts rtok_info
  conv => arg 2; whnf
  have hd := drop_at s i hlt
  have hc256 : s[i].toNat < 256 := s[i].toNat_lt
  have hw2 := below2 wr (.cells #[.int .i64 (ln : Int), .int .i64 (cl : Int)] 30) (.cells #[.int .u8 0, .string ByteArray.empty, .int .i32 0, .int .i64 (ln : Int), .int .i64 (cl : Int)] 81)
  have hb' : ((s[i].toNat : Int) == 10) = false ∧ ((s[i].toNat : Int) == 32) = false ∧ ((s[i].toNat : Int) == 9) = false := by
    simp [blankB] at hb
    refine ⟨?_, ?_, ?_⟩ <;> (rw [beq_eq_false_iff_ne]; omega)
  obtain ⟨b1, b2, b3⟩ := hb'
  have hbf : blankB s[i] = false := by simpa using hb
  have hgw : ∀ n, lex (n + 1) (s.data.toList.drop i) (ln, cl) = lexAt n (s.data.toList.drop i) (ln, cl) := by
    intro n
    rw [hd]
    refine lex_word n s[i] _ _ hbf ?_
    rintro ⟨m1, m2⟩
    refine hm ?_
    rcases Nat.lt_or_ge (i + 1) s.size with h1 | h1
    · rw [drop_at s (i + 1) h1] at m2
      exact ⟨h1, m1, by simpa using m2⟩
    · rw [List.drop_of_length_le (by simpa using h1)] at m2
      simp at m2
  have hmw : ((s[i].toNat : Int) == 45) = false ∨ (((s[i].toNat : Int) == 45) = true ∧ ¬ i + 1 < s.size) ∨ ∃ h1 : i + 1 < s.size, ((s[i].toNat : Int) == 45) = true ∧ ((s[i + 1].toNat : Int) == 45) = false := by
    by_cases e : s[i].toNat = 45
    · right
      rcases Nat.lt_or_ge (i + 1) s.size with h1 | h1
      · exact .inr ⟨h1, by rw [e]; rfl, by rw [beq_eq_false_iff_ne]; exact fun e2 => hm ⟨h1, e, by omega⟩⟩
      · exact .inl ⟨by rw [e]; rfl, by omega⟩
    · exact .inl (by rw [beq_eq_false_iff_ne]; omega)
  have hfin := fun (k : Nat) (hf : first (s.data.toList.drop i) = .bad k) => HR.out.bad hlt hgw hf
  have hwd := fun (kk : Nat) (tx : List UInt8) (nn : Int) (hf : first (s.data.toList.drop i) = .ok kk tx nn) (hk : kk ≠ 0) (w3 : World) (v' : Value) ho hb hh => HR.out.word (w3 := w3) (v' := v') hlt hgw hf hk ho hb hh
  have HBAD := Lib.hid hfin
  have HWORD := Lib.hid hwd
  have HD := Lib.hid hd
  have HW2 := Lib.hid hw2
  clear hfin hwd hgw hm hb hbf hd hw2
  go_upto_block 2 with fail
  go_cut [6, 7, 8, 11, 13, 14, 15] from 20 to 212 (fun lv cv iv nv _ _ _ wx => lv = .int .i64 ln ∧ cv = .int .i64 cl ∧ iv = .int .i64 i ∧ ∃ (n kk : Nat) (nn : Int), nv = .int .i64 n ∧ Hid (CutW w s i ln cl ts u5 wr n kk nn wx))
  case first =>
    by_cases hdig : digB s[i] = true
    · exact absurd hdig (by rw [HCASE.out.1]; decide)
    · by_cases hlet : letB s[i] = true
      · exact absurd hlet (by rw [HCASE.out.2]; decide)
      · have hdf : digB s[i] = false := by simpa using hdig
        have hlf : letB s[i] = false := by simpa using hlet
        have hrd := rdigit_any s[i]
        rw [hdf] at hrd
        have hrl := rletter_any s[i]
        rw [hlf] at hrl
        have hf := first_sign s[i] (s.data.toList.drop (i + 1)) hdf hlf
        rw [← HD.out] at hf
        have HRD := Lib.hid hrd
        have HRL := Lib.hid hrl
        have HF := Lib.hid hf
        clear hrd hrl hf hdig hlet hdf hlf
        by_cases h1 : i + 1 < s.size
        · have hmw2 : ((s[i].toNat : Int) == 45) = false ∨ (((s[i].toNat : Int) == 45) = true ∧ ((s[i + 1].toNat : Int) == 45) = false) := by
            rcases hmw with h | ⟨_, h⟩ | ⟨_, h2, h3⟩
            · exact .inl h
            · exact absurd h1 h
            · exact .inr ⟨h2, h3⟩
          have hsm := sign_more s[i] s[i + 1] (s.data.toList.drop (i + 1 + 1))
          rw [← drop_at s (i + 1) h1, ← HD.out] at hsm
          have t1 := two_facts s i h1 60 62
          have t2 := two_facts s i h1 60 61
          have t3 := two_facts s i h1 62 61
          have t4 := two_facts s i h1 45 62
          cases htw : twoB s[i] s[i + 1]
          · rw [htw] at hsm
            simp only [Bool.false_eq_true, if_false] at hsm
            have HSG := Lib.hid hsm
            simp only [twoB, Bool.or_eq_false_iff] at htw
            obtain ⟨⟨⟨z1, z2⟩, z3⟩, z4⟩ := htw
            rw [z1] at t1
            rw [z2] at t2
            rw [z3] at t3
            rw [z4] at t4
            clear hmw hsm z1 z2 z3 z4 HD
            rcases hmw2 with m1 | ⟨m1, m2⟩
            all_goals
              go_wp2_with fail
              refine (HRD.out _).mono ?_
              rintro e w' ⟨rfl, rfl⟩
              go_wp2_with fail
              refine (HRL.out _).mono ?_
              rintro e w' ⟨rfl, rfl⟩
              cases hone : oneB s[i]
              · have hro := rone_any s[i]
                rw [hone] at hro
                have HX := Lib.hid (HBAD.out 1 (by rw [HF.out, HSG.out, sign_one, hone]; rfl))
                have HRO := Lib.hid hro
                clear hro hone HBAD HWORD HF HSG
                go_wp2_with fail
                refine (HRO.out _).mono ?_
                rintro e w' ⟨rfl, rfl⟩
                go_wp2_with fail
                obtain ⟨WA, hWA⟩ : ∃ WA, WA = ((wr.alloc (.cells #[.int .i64 (ln : Int), .int .i64 (cl : Int)] 30)).alloc (.cells #[.int .u8 5, .string ({ data := #[] } : ByteArray), .int .i32 0, .int .i64 (ln : Int), .int .i64 (cl : Int)] 81)) := ⟨_, rfl⟩
                have hres : Has WA w.heap.size 30 #[.int .i64 0, .int .i64 0] := by rw [hWA]; exact (HR.out.has.alloc _).alloc _
                have hat : Has WA wr.heap.size 30 #[.int .i64 (ln : Int), .int .i64 (cl : Int)] := by rw [hWA]; exact (Has.new wr _ _).alloc _
                have hbl : Below w.heap.size w WA := by rw [hWA]; exact HR.out.below.trans ((below2 wr _ _).mono HR.out.below.size)
                have c0 := hres.cell 0
                have c1 := hres.cell 1
                have f0 := hres.free 0
                have f1 := hres.free 1
                have lt0 := hres.lt
                have d0 := hat.cell 0
                have d1 := hat.cell 1
                simp only [List.getElem?_toArray, List.getElem?_cons_zero, List.getElem?_cons_succ] at c0 c1 d0 d1
                have HRES := Lib.hid hres
                have HBL := Lib.hid hbl
                rw [← hWA]
                clear hWA hres hat hbl
                go_region
                go_wp2_with fail
                obtain ⟨p0, p1⟩ := pos_cells WA w.heap.size (ln : Int) (cl : Int) HRES.out
                have e0 : ((WA.setCell ⟨w.heap.size, 0, none⟩ (.int .i64 (ln : Int))).setCell ⟨w.heap.size, 1, none⟩ (.int .i64 (cl : Int))).drew.cell? ⟨w.heap.size, 0, none⟩ = some (.int .i64 (ln : Int)) := p0
                have e1 : ((WA.setCell ⟨w.heap.size, 0, none⟩ (.int .i64 (ln : Int))).setCell ⟨w.heap.size, 1, none⟩ (.int .i64 (cl : Int))).drew.cell? ⟨w.heap.size, 1, none⟩ = some (.int .i64 (cl : Int)) := p1
                have hlast := ((HBL.out.setCell (p := ⟨w.heap.size, 0, none⟩) (Nat.le_refl _) (.int .i64 (ln : Int))).setCell (p := ⟨w.heap.size, 1, none⟩) (Nat.le_refl _) (.int .i64 (cl : Int))).drew
                clear p0 p1
                generalize ((WA.setCell ⟨w.heap.size, 0, none⟩ (.int .i64 (ln : Int))).setCell ⟨w.heap.size, 1, none⟩ (.int .i64 (cl : Int))).drew = Wf at *
                refine HRET.out _ _ (bodyPost_ret (v := .tuple #[.slice none 0 0, .int .i64 1, .agg #[.int .i64 ln, .int .i64 cl]]) (by simp [results, Tryd.results24, go_sem, e0, e1]) rfl ⟨?_, hlast⟩)
                rw [HX.out]
                rfl
              · have hro := rone_any s[i]
                rw [hone] at hro
                have hX : first (s.data.toList.drop i) = .ok 5 ((s.data.toList.drop i).take 1) 0 := by
                  rw [HF.out, HSG.out, sign_one, hone, take_one s i hlt]; rfl
                have HRO := Lib.hid hro
                clear hro hone HBAD HF HSG
                have HF := Lib.hid hX
                clear hX
                go_wp2_with fail
                refine (HRO.out _).mono ?_
                rintro e w' ⟨rfl, rfl⟩
                go_wp2_with fail
                go_meet
                exact ⟨rfl, rfl, rfl, 1, 5, 0, rfl, Lib.hid (meet_lit HR.out 1 5 0 HF.out (by decide) (by omega))⟩
          · rw [htw] at hsm
            simp only [if_true] at hsm
            have hX : first (s.data.toList.drop i) = .ok 5 ((s.data.toList.drop i).take 2) 0 := by
              rw [HF.out, hsm, take_two s i h1]
            have HTX := Lib.hid (mid_text s i 2 (by omega))
            have HTL := Lib.hid (mid_len s i 2 (by omega))
            clear hsm HF HBAD HD hmw
            have HF := Lib.hid hX
            have htw2 : ((s[i] == 60 && s[i + 1] == 62) = true) ∨ ((s[i] == 60 && s[i + 1] == 62) = false ∧ (s[i] == 60 && s[i + 1] == 61) = true) ∨ ((s[i] == 60 && s[i + 1] == 62) = false ∧ (s[i] == 60 && s[i + 1] == 61) = false ∧ (s[i] == 62 && s[i + 1] == 61) = true) ∨ ((s[i] == 60 && s[i + 1] == 62) = false ∧ (s[i] == 60 && s[i + 1] == 61) = false ∧ (s[i] == 62 && s[i + 1] == 61) = false ∧ (s[i] == 45 && s[i + 1] == 62) = true) := by
              revert htw
              unfold twoB
              cases (s[i] == 60 && s[i + 1] == 62) <;> cases (s[i] == 60 && s[i + 1] == 61) <;> cases (s[i] == 62 && s[i + 1] == 61) <;> cases (s[i] == 45 && s[i + 1] == 62) <;> simp
            clear htw hX hmw2
            rcases htw2 with z1 | ⟨z1, z2⟩ | ⟨z1, z2, z3⟩ | ⟨z1, z2, z3, z4⟩
            · have m1 : ((s[i].toNat : Int) == 45) = false := by
                simp only [Bool.and_eq_true, beq_iff_eq] at z1
                rw [z1.1]; rfl
              rw [← t1] at z1
              clear t1 t2 t3 t4
              go_wp2_with fail
              refine (HRD.out _).mono ?_
              rintro e w' ⟨rfl, rfl⟩
              go_wp2_with fail
              refine (HRL.out _).mono ?_
              rintro e w' ⟨rfl, rfl⟩
              go_wp2_with fail
              go_meet
              exact ⟨rfl, rfl, rfl, 2, 5, 0, rfl, Lib.hid (meet_lit HR.out 2 5 0 HF.out (by decide) (by omega))⟩
            · have m1 : ((s[i].toNat : Int) == 45) = false := by
                simp only [Bool.and_eq_true, beq_iff_eq] at z2
                rw [z2.1]; rfl
              rw [← t1] at z1
              rw [← t2] at z2
              clear t1 t2 t3 t4
              go_wp2_with fail
              refine (HRD.out _).mono ?_
              rintro e w' ⟨rfl, rfl⟩
              go_wp2_with fail
              refine (HRL.out _).mono ?_
              rintro e w' ⟨rfl, rfl⟩
              go_wp2_with fail
              go_meet
              exact ⟨rfl, rfl, rfl, 2, 5, 0, rfl, Lib.hid (meet_lit HR.out 2 5 0 HF.out (by decide) (by omega))⟩
            · have m1 : ((s[i].toNat : Int) == 45) = false := by
                simp only [Bool.and_eq_true, beq_iff_eq] at z3
                rw [z3.1]; rfl
              rw [← t1] at z1
              rw [← t2] at z2
              rw [← t3] at z3
              clear t1 t2 t3 t4
              go_wp2_with fail
              refine (HRD.out _).mono ?_
              rintro e w' ⟨rfl, rfl⟩
              go_wp2_with fail
              refine (HRL.out _).mono ?_
              rintro e w' ⟨rfl, rfl⟩
              go_wp2_with fail
              go_meet
              exact ⟨rfl, rfl, rfl, 2, 5, 0, rfl, Lib.hid (meet_lit HR.out 2 5 0 HF.out (by decide) (by omega))⟩
            · have m12 : ((s[i].toNat : Int) == 45) = true ∧ ((s[i + 1].toNat : Int) == 45) = false := by
                simp only [Bool.and_eq_true, beq_iff_eq] at z4
                rw [z4.1, z4.2]; exact ⟨rfl, rfl⟩
              obtain ⟨m1, m2⟩ := m12
              rw [← t1] at z1
              rw [← t2] at z2
              rw [← t3] at z3
              rw [← t4] at z4
              clear t1 t2 t3 t4
              go_wp2_with fail
              refine (HRD.out _).mono ?_
              rintro e w' ⟨rfl, rfl⟩
              go_wp2_with fail
              refine (HRL.out _).mono ?_
              rintro e w' ⟨rfl, rfl⟩
              go_wp2_with fail
              go_meet
              exact ⟨rfl, rfl, rfl, 2, 5, 0, rfl, Lib.hid (meet_lit HR.out 2 5 0 HF.out (by decide) (by omega))⟩
        · have hsm : sign (s.data.toList.drop i) = sign [s[i]] := by
            rw [HD.out, List.drop_of_length_le (by simp; omega)]
          have hmw2 : ((s[i].toNat : Int) == 45) = false ∨ ((s[i].toNat : Int) == 45) = true := by
            cases ((s[i].toNat : Int) == 45)
            · exact .inl rfl
            · exact .inr rfl
          have HSG := Lib.hid hsm
          clear hmw hsm HD
          rcases hmw2 with m1 | m1
          all_goals
            go_wp2_with fail
            refine (HRD.out _).mono ?_
            rintro e w' ⟨rfl, rfl⟩
            go_wp2_with fail
            refine (HRL.out _).mono ?_
            rintro e w' ⟨rfl, rfl⟩
            cases hone : oneB s[i]
            · have hro := rone_any s[i]
              rw [hone] at hro
              have HX := Lib.hid (HBAD.out 1 (by rw [HF.out, HSG.out, sign_one, hone]; rfl))
              have HRO := Lib.hid hro
              clear hro hone HBAD HWORD HF HSG
              go_wp2_with fail
              refine (HRO.out _).mono ?_
              rintro e w' ⟨rfl, rfl⟩
              go_wp2_with fail
              obtain ⟨WA, hWA⟩ : ∃ WA, WA = ((wr.alloc (.cells #[.int .i64 (ln : Int), .int .i64 (cl : Int)] 30)).alloc (.cells #[.int .u8 5, .string ({ data := #[] } : ByteArray), .int .i32 0, .int .i64 (ln : Int), .int .i64 (cl : Int)] 81)) := ⟨_, rfl⟩
              have hres : Has WA w.heap.size 30 #[.int .i64 0, .int .i64 0] := by rw [hWA]; exact (HR.out.has.alloc _).alloc _
              have hat : Has WA wr.heap.size 30 #[.int .i64 (ln : Int), .int .i64 (cl : Int)] := by rw [hWA]; exact (Has.new wr _ _).alloc _
              have hbl : Below w.heap.size w WA := by rw [hWA]; exact HR.out.below.trans ((below2 wr _ _).mono HR.out.below.size)
              have c0 := hres.cell 0
              have c1 := hres.cell 1
              have f0 := hres.free 0
              have f1 := hres.free 1
              have lt0 := hres.lt
              have d0 := hat.cell 0
              have d1 := hat.cell 1
              simp only [List.getElem?_toArray, List.getElem?_cons_zero, List.getElem?_cons_succ] at c0 c1 d0 d1
              have HRES := Lib.hid hres
              have HBL := Lib.hid hbl
              rw [← hWA]
              clear hWA hres hat hbl
              go_region
              go_wp2_with fail
              obtain ⟨p0, p1⟩ := pos_cells WA w.heap.size (ln : Int) (cl : Int) HRES.out
              have e0 : ((WA.setCell ⟨w.heap.size, 0, none⟩ (.int .i64 (ln : Int))).setCell ⟨w.heap.size, 1, none⟩ (.int .i64 (cl : Int))).drew.cell? ⟨w.heap.size, 0, none⟩ = some (.int .i64 (ln : Int)) := p0
              have e1 : ((WA.setCell ⟨w.heap.size, 0, none⟩ (.int .i64 (ln : Int))).setCell ⟨w.heap.size, 1, none⟩ (.int .i64 (cl : Int))).drew.cell? ⟨w.heap.size, 1, none⟩ = some (.int .i64 (cl : Int)) := p1
              have hlast := ((HBL.out.setCell (p := ⟨w.heap.size, 0, none⟩) (Nat.le_refl _) (.int .i64 (ln : Int))).setCell (p := ⟨w.heap.size, 1, none⟩) (Nat.le_refl _) (.int .i64 (cl : Int))).drew
              clear p0 p1
              generalize ((WA.setCell ⟨w.heap.size, 0, none⟩ (.int .i64 (ln : Int))).setCell ⟨w.heap.size, 1, none⟩ (.int .i64 (cl : Int))).drew = Wf at *
              refine HRET.out _ _ (bodyPost_ret (v := .tuple #[.slice none 0 0, .int .i64 1, .agg #[.int .i64 ln, .int .i64 cl]]) (by simp [results, Tryd.results24, go_sem, e0, e1]) rfl ⟨?_, hlast⟩)
              rw [HX.out]
              rfl
            · have hro := rone_any s[i]
              rw [hone] at hro
              have hX : first (s.data.toList.drop i) = .ok 5 ((s.data.toList.drop i).take 1) 0 := by
                rw [HF.out, HSG.out, sign_one, hone, take_one s i hlt]; rfl
              have HRO := Lib.hid hro
              clear hro hone HBAD HF HSG
              have HF := Lib.hid hX
              clear hX
              go_wp2_with fail
              refine (HRO.out _).mono ?_
              rintro e w' ⟨rfl, rfl⟩
              go_wp2_with fail
              go_meet
              exact ⟨rfl, rfl, rfl, 1, 5, 0, rfl, Lib.hid (meet_lit HR.out 1 5 0 HF.out (by decide) (by omega))⟩
  case rest =>
    obtain ⟨rfl, rfl, rfl, n, kk, nn, rfl, HC⟩ := hcut
    have c0 := HC.out.t.cell 0
    have c1 := HC.out.t.cell 1
    have c2 := HC.out.t.cell 2
    have c3 := HC.out.t.cell 3
    have c4 := HC.out.t.cell 4
    have f1 := HC.out.t.free 1
    have lt5 := HC.out.t.lt
    simp only [List.getElem?_toArray, List.getElem?_cons_zero, List.getElem?_cons_succ] at c0 c1 c2 c3 c4
    have hn2 := HC.out.fit
    have hwz := HC.out.wz
    have hnz := HC.out.nz
    have hsz5 : wc.heap.size = (wc.setCell ⟨wr.heap.size + 1, 1, none⟩ (.string (s.extract i (i + n)))).heap.size := by simp [World.setCell]
    have ownS : (wc.setCell ⟨wr.heap.size + 1, 1, none⟩ (.string (s.extract i (i + n)))).ownsRow w.heap.size 81 5 u5 ts.length (ts.flatMap tokCells) := HC.out.own.kept (grown_put (grown_refl wc (some (wr.heap.size + 1))) 1 _) (.inr HC.out.ne)
    have resS : Has (wc.setCell ⟨wr.heap.size + 1, 1, none⟩ (.string (s.extract i (i + n)))) w.heap.size 30 #[.int .i64 0, .int .i64 0] := HC.out.res.put_far 1 _ (by omega)
    have blS : Below w.heap.size w (wc.setCell ⟨wr.heap.size + 1, 1, none⟩ (.string (s.extract i (i + n)))) := HC.out.bl.setCell (p := ⟨wr.heap.size + 1, 1, none⟩) (by show _ ≤ wr.heap.size + 1; omega) _
    have hlen := HR.out.len
    have hbs := HC.out.bl.size
    have HTX := Lib.hid (mid_text s i n hn2)
    have HTL := Lib.hid (mid_len s i n hn2)
    have OWNS := Lib.hid ownS
    have RESS := Lib.hid resS
    have BLS := Lib.hid blS
    have HNEWS := Lib.hid (rt_news (wc.setCell ⟨wr.heap.size + 1, 1, none⟩ (.string (s.extract i (i + n)))) wc.heap.size hsz5 (kk : Int) (s.extract i (i + n)) nn ln cl)
    have HC3 : Hid (ts.length + 1 ≤ maxLen) := Lib.hid (by unfold maxLen; omega)
    have HC4 : Hid ((ts.length + 1) * 48 ≤ 140737488355328) := Lib.hid (by omega)
    have HC5 : Hid (w.heap.size ≤ ((wc.setCell ⟨wr.heap.size + 1, 1, none⟩ (.string (s.extract i (i + n)))).alloc (.cells #[.int .u8 (kk : Int), .string (s.extract i (i + n)), .int .i32 nn, .int .i64 (ln : Int), .int .i64 (cl : Int)] 81)).heap.size) := Lib.hid (by simp only [World.size_alloc]; omega)
    clear ownS resS blS hsz5
    go_wp2_with (at_builtin; refine wpList_append_own _ rfl _ _ 50 rfl w.heap.size 81 i0 _ 5 48 Tryd.underlying50 hii hi0 hi1 hi2 rfl (by decide) _ _ _ rfl (OWNS.out.alloc _) ⟨wc.heap.size, 0, none⟩ 1 1 [.int .u8 (kk : Int), .string (s.extract i (i + n)), .int .i32 nn, .int .i64 ln, .int .i64 cl] rfl rfl HNEWS.out (rt_one _ _ _ _ _) HC3.out HC4.out HC5.out ?_)
    intro v' w3 hown3 hgr3 _
    have hh3 := (RESS.out.alloc (.cells #[.int .u8 (kk : Int), .string (s.extract i (i + n)), .int .i32 nn, .int .i64 (ln : Int), .int .i64 (cl : Int)] 81)).grown hgr3 (fun e => (RESS.out.own_ne OWNS.out (by decide)) e.symm)
    have hb3 := (BLS.out.alloc (by have := BLS.out.size; omega) _).grown hgr3 (by have := BLS.out.size; simp only [World.size_alloc]; omega) (fun k hk => (OWNS.out.lt k hk).1)
    have hst := HWORD.out kk ((s.data.toList.drop i).take n) nn HC.out.fst hnz w3 v' (by rw [HTX.out]; exact hown3) hb3 hh3
    rw [HTL.out] at hst
    have HST := Lib.hid hst
    clear hown3 hgr3 hh3 hb3 hst
    go_wp2_with fail
    refine HNX.out _ _ _ _ _ _ _ _ _ _ _ _ _ _ _ _ _ _ _ _ _ _ _ _ _ _ _ _ _ _ _ _ _ _ _ _ _ _ _ _ _ _ _ _ _ _ _ _ _ _ _ _ _ _ _ _ _ _ _ _ _ _ _ _ _ _ _ _ _ _ _ _ _ _ _ _ _ _ _ _ _ _ _ _ _ _ _ _ _ _ _ _ _ _ _ _ _ _ _ _ _ _ _ _ _ _ _ _ _ _ _ _ _ _ _ _ _ _ _ _ _ _ _ _ _ _ _ _ _ _ _ _ _ _ _ _ _ _ _ _ _ _ _ _ _ _ _ _ _ _ _ _ _ _ _ _ _ _ _ _ _ _ _ _ _ _ _ _ _ _ _ _ _ _ _ _ _ _ _ _ _ _ _ _ _ _ _ _ _ _ _ _ _ _ _ _ _ _ _ _ _ _ _ _ _ _ _ ?rel ?measure
    case rel =>
      exact ⟨i + n, (ln, cl + n), ts ++ [⟨kk, ((s.data.toList.drop i).take n), nn, ln, cl⟩], by have := HST.out.2.2; omega, by go_num, rfl, by go_num, Lib.hid HST.out.1⟩
    case measure => have := HST.out.2; simp [intOf]; omega
end Go.Proofs.YtjjihijkkljbnaaDoor.lx
