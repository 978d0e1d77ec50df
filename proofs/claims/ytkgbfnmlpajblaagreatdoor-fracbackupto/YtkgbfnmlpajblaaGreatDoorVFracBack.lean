/- FracBack: the law's walk. -/
import Derived.Test.YtkgbfnmlpajblaaGreatDoorQ8ToQ16
namespace Go.Proofs.YtkgbfnmlpajblaaGreatDoor
open Go Go.RowKit Dig
set_option linter.unusedVariables false

section
variable {w : World} {va vb vc : Value} {x y u v p q : Int} {l m k n s t : Nat}
set_option maxHeartbeats 8000000 in
set_option maxRecDepth 20000 in
theorem back_bad (ha : PN w va x l 0 m) (hl : l ≤ 1048576) (hm : m ≤ 1048576) (htab : Lib.TabIs Tryz.prog w p10 .u64 Lib.pow10Tab) :
    Calls Tryz.prog 9 #[va] w fun e w' => e = .returned (.bool true) ∧ Below w.heap.size w w' := by
  have htabs := Lib.tabBelow_of_tabIs htab
  obtain ⟨n_0a, o_0a, k_0a, c_0a, n_0b, o_0b, k_0b, c_0b, rfl, ha1, ha2⟩ := ha
  go_enter Tryz.func9, Tryz.ntmps9
  have hb := Below.refl w.heap.size w
  refine wp_seq_k ?_
  intro K1 hK1
  refine wp_region_sq [0, 1] (by kernel_rfl) ?_
  refine wpSq_call rfl (by kernel_rfl) fun K hK => ?_
  go_big_op
  obtain ⟨p_b1, w_1, eP, eW, x_b1, hn, kb_b1⟩ := newBox w #[.bool n_0a, .slice o_0a k_0a c_0a, .bool n_0b, .slice o_0b k_0b c_0b] 26 hb.size
  rw [eW, eP]
  clear eW eP
  replace ha1 := ha1.bl hn; replace ha2 := ha2.bl hn; replace hb := hb.trans (hn.mono hb.size)
  refine hK _ _ rfl ?_; clear hK K hn
  refine wpSq_call rfl (by kernel_rfl) fun K hK => ?_
  go_big_move; refine hK _ _ rfl ?_; clear hK K
  apply wpSq_end
  refine hK1 _ _ ?_
  refine wp_seq_k ?_
  intro K2 hK2
  refine wp_seq_k ?_
  intro K3 hK3
  refine wp_region_sq [0, 1] (by kernel_rfl) ?_
  refine wpSq_call rfl (by kernel_rfl) fun K hK => ?_
  go_big_op
  go_fit (fawake_any _ (htabs _ hb))
  rintro e w_2 ⟨rfl, hb_2⟩
  replace ha1 := ha1.bl hb_2; replace ha2 := ha2.bl hb_2; replace x_b1 := x_b1.bl hb_2; replace hb := hb.trans (hb_2.mono hb.size)
  refine hK _ _ rfl ?_
  clear hK K hb_2
  refine wpSq_call rfl (by kernel_rfl) fun K hK => ?_
  go_big_op; refine hK _ _ rfl ?_; clear hK K
  apply wpSq_end
  refine hK3 _ _ ?_
  refine wp_cond_false (congrArg Value.bool (show _ = false from (by first | rfl | assumption | (simp; done) | exact decide_eq_false (by omega) | omega))) ?_
  refine wp_skip ?_
  refine hK2 _ _ ?_
  refine wp_seq_k ?_
  intro K4 hK4
  refine wp_seq_k ?_
  intro K5 hK5
  refine wp_region_sq [0, 1] (by kernel_rfl) ?_
  refine wpSq_call rfl (by kernel_rfl) fun K hK => ?_
  obtain ⟨d0, d1, d2, d3⟩ := x_b1.f4
  go_big_op; refine hK _ _ rfl ?_; clear hK K d0 d1 d2 d3
  refine wpSq_call rfl (by kernel_rfl) fun K hK => ?_
  go_big_op
  go_fit (rbad_yes (PN.mk' ha1 ha2) (by omega) (by omega) )
  rintro e w_3 ⟨rfl, hb_3⟩
  replace ha1 := ha1.bl hb_3; replace ha2 := ha2.bl hb_3; replace x_b1 := x_b1.bl hb_3; replace hb := hb.trans (hb_3.mono hb.size)
  refine hK _ _ rfl ?_
  clear hK K hb_3
  apply wpSq_end
  refine hK5 _ _ ?_
  refine wp_cond_true (congrArg Value.bool (show _ = true from (by first | rfl | assumption | (simp; done) | exact decide_eq_true (by omega) | omega))) ?_
  refine wp_seq_k ?_
  intro K6 hK6
  refine wp_region_sq [0] (by kernel_rfl) ?_
  refine wpSq_call rfl (by kernel_rfl) fun K hK => ?_
  go_big_move; refine hK _ _ rfl ?_; clear hK K
  apply wpSq_end
  refine hK6 _ _ ?_
  refine wp_ret ?_
  try dsimp only [Exit.then, Exit.inBlock]
  refine bodyPost_ret (v := (.bool true)) (by simp [results, Tryz.results9, go_sem]) rfl ?_
  exact ⟨rfl, hb⟩
set_option maxHeartbeats 8000000 in
set_option maxRecDepth 20000 in
theorem back_short (ha : PN w va x l y m) (hl : l ≤ 1048576) (hm : m ≤ 1048576) (h0 : y ≠ 0) (hs : (qts x y).size ≤ 65536) (htab : Lib.TabIs Tryz.prog w p10 .u64 Lib.pow10Tab) :
    Calls Tryz.prog 9 #[va] w fun e w' => e = .returned (.bool true) ∧ Below w.heap.size w w' := by
  have htabs := Lib.tabBelow_of_tabIs htab
  have HP := hide (fun w => fParse_text h0 hs w)
  obtain ⟨S, hS⟩ : ∃ S, qts x y = S := ⟨_, rfl⟩
  rw [hS] at hs HP
  have HS := hide hS
  have z1 : (((S.size : Nat) : Int) ≤ 65536) = True := eq_true (by omega)
  have z2 : (65536 < ((S.size : Nat) : Int)) = False := eq_false (by omega)
  clear hS
  have hd := qD_pos (x := x) h0
  obtain ⟨w1, w2⟩ := nearest_q (x := x) h0
  obtain ⟨w3, w4⟩ := floor_q (x := x) h0
  obtain ⟨R, hR⟩ : ∃ R, rnd x y = R := ⟨_, rfl⟩
  obtain ⟨F, hF⟩ : ∃ F, x.fdiv y = F := ⟨_, rfl⟩
  have lR := rnd_len h0 ha.len1
  have lF := fdiv_len h0 ha.len1
  rw [hR] at w1 w2 lR
  rw [hF] at w3 w4 lF
  have n1 : y * 1 ≠ 0 := by omega
  obtain ⟨A1, A2, hA, nA, rA⟩ : ∃ a b, (qN (opSub (x * 1) (R * y)) (y * 1) = a ∧ qD (opSub (x * 1) (R * y)) (y * 1) = b) ∧ b ≠ 0 ∧ rv a b = rv x y - rv R 1 :=
    ⟨_, _, ⟨rfl, rfl⟩, by have := qD_pos (x := opSub (x * 1) (R * y)) n1; omega, by rw [rv_low n1, rv_opSub h0 (by decide)]⟩
  obtain ⟨B1, B2, hB, nB, rB⟩ : ∃ a b, (qN (opSub (x * 1) (F * y)) (y * 1) = a ∧ qD (opSub (x * 1) (F * y)) (y * 1) = b) ∧ b ≠ 0 ∧ rv a b = rv x y - rv F 1 :=
    ⟨_, _, ⟨rfl, rfl⟩, by have := qD_pos (x := opSub (x * 1) (F * y)) n1; omega, by rw [rv_low n1, rv_opSub h0 (by decide)]⟩
  rw [← rA, ← qcmp_rv nA (by decide)] at w1 w2
  rw [← rB, ← qcmp_rv nB (by decide)] at w3 w4
  obtain ⟨C1, hC1⟩ : ∃ C, qcmp A1 A2 (-1) 2 = C := ⟨_, rfl⟩
  obtain ⟨C2, hC2⟩ : ∃ C, qcmp A1 A2 1 2 = C := ⟨_, rfl⟩
  obtain ⟨C3, hC3⟩ : ∃ C, qcmp B1 B2 0 1 = C := ⟨_, rfl⟩
  obtain ⟨C4, hC4⟩ : ∃ C, qcmp B1 B2 1 1 = C := ⟨_, rfl⟩
  rw [hC1] at w1
  rw [hC2] at w2
  rw [hC3] at w3
  rw [hC4] at w4
  have f1 : (0 ≤ C1) = True := eq_true w1
  have f2 : (C2 < 0) = True := eq_true w2
  have f3 : (0 ≤ C3) = True := eq_true w3
  have f4 : (C4 < 0) = True := eq_true w4
  have HC1 := hide hC1
  have HC2 := hide hC2
  have HC3 := hide hC3
  have HC4 := hide hC4
  have H0 := hide h0
  have N1 := hide n1
  have NA := hide nA
  have NB := hide nB
  have HA := hide hA
  have HB := hide hB
  have HR := hide hR
  have HF := hide hF
  have LR := hide lR
  have LF := hide lF
  have L := fun (n : Int) (h : n.natAbs ≤ 100) => zlen_i n (by omega) (by omega)
  have L0 := hide (L 0 (by decide))
  have L1 := hide (L 1 (by decide))
  have L2 := hide (L 2 (by decide))
  have L3 := hide (L (-1) (by decide))
  clear L hd w1 w2 w3 w4 hR hF lR lF hA nA rA hB nB rB hC1 hC2 hC3 hC4 n1
  clear h0
  obtain ⟨n_0a, o_0a, k_0a, c_0a, n_0b, o_0b, k_0b, c_0b, rfl, ha1, ha2⟩ := ha
  go_enter Tryz.func9, Tryz.ntmps9
  have hb := Below.refl w.heap.size w
  refine wp_seq_k ?_
  intro K1 hK1
  refine wp_region_sq [0, 1] (by kernel_rfl) ?_
  refine wpSq_call rfl (by kernel_rfl) fun K hK => ?_
  go_big_op
  obtain ⟨p_b1, w_1, eP, eW, x_b1, hn, kb_b1⟩ := newBox w #[.bool n_0a, .slice o_0a k_0a c_0a, .bool n_0b, .slice o_0b k_0b c_0b] 26 hb.size
  rw [eW, eP]
  clear eW eP
  replace ha1 := ha1.bl hn; replace ha2 := ha2.bl hn; replace hb := hb.trans (hn.mono hb.size)
  refine hK _ _ rfl ?_; clear hK K hn
  refine wpSq_call rfl (by kernel_rfl) fun K hK => ?_
  go_big_move; refine hK _ _ rfl ?_; clear hK K
  apply wpSq_end
  refine hK1 _ _ ?_
  refine wp_seq_k ?_
  intro K2 hK2
  refine wp_seq_k ?_
  intro K3 hK3
  refine wp_region_sq [0, 1] (by kernel_rfl) ?_
  refine wpSq_call rfl (by kernel_rfl) fun K hK => ?_
  go_big_op
  go_fit (fawake_any _ (htabs _ hb))
  rintro e w_2 ⟨rfl, hb_2⟩
  replace ha1 := ha1.bl hb_2; replace ha2 := ha2.bl hb_2; replace x_b1 := x_b1.bl hb_2; replace hb := hb.trans (hb_2.mono hb.size)
  refine hK _ _ rfl ?_
  clear hK K hb_2
  refine wpSq_call rfl (by kernel_rfl) fun K hK => ?_
  go_big_op; refine hK _ _ rfl ?_; clear hK K
  apply wpSq_end
  refine hK3 _ _ ?_
  refine wp_cond_false (congrArg Value.bool (show _ = false from (by first | rfl | assumption | (simp; done) | exact decide_eq_false (by omega) | omega))) ?_
  refine wp_skip ?_
  refine hK2 _ _ ?_
  refine wp_seq_k ?_
  intro K4 hK4
  refine wp_seq_k ?_
  intro K5 hK5
  refine wp_region_sq [0, 1] (by kernel_rfl) ?_
  refine wpSq_call rfl (by kernel_rfl) fun K hK => ?_
  obtain ⟨d0, d1, d2, d3⟩ := x_b1.f4
  go_big_op; refine hK _ _ rfl ?_; clear hK K d0 d1 d2 d3
  refine wpSq_call rfl (by kernel_rfl) fun K hK => ?_
  go_big_op
  go_fit (rbad_no (PN.mk' ha1 ha2) (by omega) (by omega) H0.out)
  rintro e w_3 ⟨rfl, hb_3⟩
  replace ha1 := ha1.bl hb_3; replace ha2 := ha2.bl hb_3; replace x_b1 := x_b1.bl hb_3; replace hb := hb.trans (hb_3.mono hb.size)
  refine hK _ _ rfl ?_
  clear hK K hb_3
  apply wpSq_end
  refine hK5 _ _ ?_
  refine wp_cond_false (congrArg Value.bool (show _ = false from (by first | rfl | assumption | (simp; done) | exact decide_eq_false (by omega) | omega))) ?_
  refine wp_skip ?_
  refine hK4 _ _ ?_
  refine wp_seq_k ?_
  intro K6 hK6
  refine wp_region_sq [0, 1, 2, 3, 4, 5, 6] (by kernel_rfl) ?_
  refine wpSq_call rfl (by kernel_rfl) fun K hK => ?_
  obtain ⟨d0, d1, d2, d3⟩ := x_b1.f4
  go_big_op; refine hK _ _ rfl ?_; clear hK K d0 d1 d2 d3
  refine wpSq_call rfl (by kernel_rfl) fun K hK => ?_
  go_big_op
  go_fit (fText_any (PN.mk' ha1 ha2) (by omega) (by omega) H0.out (htabs _ hb))
  rintro e w_4 ⟨rfl, hb_4⟩
  replace ha1 := ha1.bl hb_4; replace ha2 := ha2.bl hb_4; replace x_b1 := x_b1.bl hb_4; replace hb := hb.trans (hb_4.mono hb.size)
  rw [HS.out]
  refine hK _ _ rfl ?_
  clear hK K hb_4
  refine wpSq_call rfl (by kernel_rfl) fun K hK => ?_
  go_big_move; refine hK _ _ rfl ?_; clear hK K
  refine wpSq_call rfl (by kernel_rfl) fun K hK => ?_
  go_big_op; refine hK _ _ rfl ?_; clear hK K
  refine wpSq_call rfl (by kernel_rfl) fun K hK => ?_
  go_big_op; refine hK _ _ rfl ?_; clear hK K
  refine wpSq_call rfl (by kernel_rfl) fun K hK => ?_
  go_big_move; refine hK _ _ rfl ?_; clear hK K
  refine wpSq_call rfl (by kernel_rfl) fun K hK => ?_
  go_big_move; refine hK _ _ rfl ?_; clear hK K
  apply wpSq_end
  refine hK6 _ _ ?_
  refine wp_seq_k ?_
  intro K7 hK7
  refine wp_region_sq [0, 1, 2, 3, 4, 5, 6, 7] (by kernel_rfl) ?_
  refine wpSq_call rfl (by kernel_rfl) fun K hK => ?_
  go_big_move; refine hK _ _ rfl ?_; clear hK K
  refine wpSq_call rfl (by kernel_rfl) fun K hK => ?_
  go_big_op
  go_fit (HP.out _)
  rintro e w_5 ⟨_, rfl, ⟨n_aa, o_aa, k_aa, c_aa, n_ab, o_ab, k_ab, c_ab, rfl, a1, a2⟩, hb_5⟩
  replace ha1 := ha1.bl hb_5; replace ha2 := ha2.bl hb_5; replace x_b1 := x_b1.bl hb_5; replace hb := hb.trans (hb_5.mono hb.size)
  have La1 := hide (a1.lenOf (qN_len H0.out ha1.len))
  have La2 := hide (a2.lenOf (qD_len H0.out ha2.len))
  refine hK _ _ rfl ?_
  clear hK K hb_5
  refine wpSq_call rfl (by kernel_rfl) fun K hK => ?_
  go_big_move; refine hK _ _ rfl ?_; clear hK K
  refine wpSq_call rfl (by kernel_rfl) fun K hK => ?_
  go_big_op; refine hK _ _ rfl ?_; clear hK K
  refine wpSq_call rfl (by kernel_rfl) fun K hK => ?_
  go_big_op; refine hK _ _ rfl ?_; clear hK K
  refine wpSq_call rfl (by kernel_rfl) fun K hK => ?_
  go_big_op
  have lt_b1 := x_b1.lt
  obtain ⟨p_b2, w_6, eP, eW, x_b2, hn, kb_b2⟩ := newBox w_5 #[.bool false, .slice none 0 0, .bool false, .slice none 0 0] 26 hb.size
  have ne_b1_b2 : Hid (p_b1 ≠ p_b2) := Nat.ne_of_lt (eP ▸ lt_b1)
  rw [eW, eP]
  clear eW eP lt_b1
  replace ha1 := ha1.bl hn; replace ha2 := ha2.bl hn; replace x_b1 := x_b1.bl hn; replace a1 := a1.bl hn; replace a2 := a2.bl hn; replace hb := hb.trans (hn.mono hb.size)
  refine hK _ _ rfl ?_; clear hK K hn
  refine wpSq_call rfl (by kernel_rfl) fun K hK => ?_
  obtain ⟨d0, d1, d2, d3⟩ := x_b2.f4
  have f0 := x_b2.free 0; have f1 := x_b2.free 1; have f2 := x_b2.free 2; have f3 := x_b2.free 3
  go_big_op
  have hnd := x_b2.nod rfl rfl
  obtain ⟨w_7, eW, x_b2', ho⟩ : ∃ w', ((((w_6.setCell ⟨p_b2, 0, none⟩ (.bool n_aa)).setCell ⟨p_b2, 1, none⟩ (.slice o_aa k_aa c_aa)).setCell ⟨p_b2, 2, none⟩ (.bool n_ab)).setCell ⟨p_b2, 3, none⟩ (.slice o_ab k_ab c_ab)) = w' ∧ Bs w' p_b2 #[.bool n_aa, .slice o_aa k_aa c_aa, .bool n_ab, .slice o_ab k_ab c_ab] 26 ∧ Only p_b2 w_6 w' := x_b2.setN [(0, .bool n_aa), (1, .slice o_aa k_aa c_aa), (2, .bool n_ab), (3, .slice o_ab k_ab c_ab)]
  rw [eW]; clear eW d0 d1 d2 d3 f0 f1 f2 f3 x_b2
  have x_b2 := x_b2'; clear x_b2'
  replace ha1 := ha1.fr hnd ho; replace ha2 := ha2.fr hnd ho; replace x_b1 := x_b1.frame ho ne_b1_b2; replace a1 := a1.fr hnd ho; replace a2 := a2.fr hnd ho; replace hb := belowOnly hb ho kb_b2
  refine hK _ _ rfl ?_; clear hK K ho hnd
  refine wpSq_call rfl (by kernel_rfl) fun K hK => ?_
  go_big_move; refine hK _ _ rfl ?_; clear hK K
  apply wpSq_end
  refine hK7 _ _ ?_
  refine wp_seq_k ?_
  intro K8 hK8
  refine wp_seq_k ?_
  intro K9 hK9
  refine wp_region_sq [0, 1, 2, 3, 4, 5, 6, 7, 8, 9, 10, 11, 12, 13, 14, 15, 16, 17, 18, 19, 20, 21, 22, 23, 24, 25] (by kernel_rfl) ?_
  refine wpSq_call rfl (by kernel_rfl) fun K hK => ?_
  go_big_move; refine hK _ _ rfl ?_; clear hK K
  refine wpSq_call rfl (by kernel_rfl) fun K hK => ?_
  go_big_op; refine hK _ _ rfl ?_; clear hK K
  refine wpSq_call rfl (by kernel_rfl) fun K hK => ?_
  go_big_move; refine hK _ _ rfl ?_; clear hK K
  refine wpSq_call rfl (by kernel_rfl) fun K hK => ?_
  go_big_move; refine hK _ _ rfl ?_; clear hK K
  refine wpSq_call rfl (by kernel_rfl) fun K hK => ?_
  go_big_op; refine hK _ _ rfl ?_; clear hK K
  refine wpSq_call rfl (by kernel_rfl) fun K hK => ?_
  go_big_op; refine hK _ _ rfl ?_; clear hK K
  refine wpSq_call rfl (by kernel_rfl) fun K hK => ?_
  go_big_move; refine hK _ _ rfl ?_; clear hK K
  refine wpSq_call rfl (by kernel_rfl) fun K hK => ?_
  go_big_move; refine hK _ _ rfl ?_; clear hK K
  refine wpSq_call rfl (by kernel_rfl) fun K hK => ?_
  go_big_op; refine hK _ _ rfl ?_; clear hK K
  refine wpSq_call rfl (by kernel_rfl) fun K hK => ?_
  go_big_move; refine hK _ _ rfl ?_; clear hK K
  refine wpSq_call rfl (by kernel_rfl) fun K hK => ?_
  obtain ⟨d0, d1, d2, d3⟩ := x_b2.f4
  go_big_op; refine hK _ _ rfl ?_; clear hK K d0 d1 d2 d3
  refine wpSq_call rfl (by kernel_rfl) fun K hK => ?_
  obtain ⟨d0, d1, d2, d3⟩ := x_b1.f4
  go_big_op; refine hK _ _ rfl ?_; clear hK K d0 d1 d2 d3
  refine wpSq_call rfl (by kernel_rfl) fun K hK => ?_
  go_big_op
  go_fit (fis_any (PC.mk' a1 a2) (PN.mk' ha1 ha2) (by omega) (by omega) H0.out)
  rintro e w_8 ⟨rfl, hb_8⟩
  clear x_b2
  replace ha1 := ha1.bl hb_8; replace ha2 := ha2.bl hb_8; replace x_b1 := x_b1.bl hb_8; replace a1 := a1.bl hb_8; replace a2 := a2.bl hb_8; replace hb := hb.trans (hb_8.mono hb.size)
  refine hK _ _ rfl ?_
  clear hK K hb_8
  refine wpSq_call rfl (by kernel_rfl) fun K hK => ?_
  go_big_op; refine hK _ _ rfl ?_; clear hK K
  refine wpSq_call rfl (by kernel_rfl) fun K hK => ?_
  go_big_op; refine hK _ _ rfl ?_; clear hK K
  refine wpSq_call rfl (by kernel_rfl) fun K hK => ?_
  go_big_op; refine hK _ _ rfl ?_; clear hK K
  refine wpSq_call rfl (by kernel_rfl) fun K hK => ?_
  go_big_op; refine hK _ _ rfl ?_; clear hK K
  refine wpSq_call rfl (by kernel_rfl) fun K hK => ?_
  go_big_move; refine hK _ _ rfl ?_; clear hK K
  refine wpSq_call rfl (by kernel_rfl) fun K hK => ?_
  go_big_move; refine hK _ _ rfl ?_; clear hK K
  refine wpSq_call rfl (by kernel_rfl) fun K hK => ?_
  go_big_op; refine hK _ _ rfl ?_; clear hK K
  refine wpSq_call rfl (by kernel_rfl) fun K hK => ?_
  go_big_op; refine hK _ _ rfl ?_; clear hK K
  refine wpSq_call rfl (by kernel_rfl) fun K hK => ?_
  go_big_move; refine hK _ _ rfl ?_; clear hK K
  apply wpSq_skip
  case hi => rfl
  case hw => kernel_rfl
  case hp => unfold Act.put; simp only [List.setIfInBounds_toArray, List.set_cons_succ, List.set_cons_zero]; rfl
  apply wpSq_skip
  case hi => rfl
  case hw => kernel_rfl
  case hp => unfold Act.put; simp only [List.setIfInBounds_toArray, List.set_cons_succ, List.set_cons_zero]; rfl
  refine wpSq_call rfl (by kernel_rfl) fun K hK => ?_
  go_big_op; refine hK _ _ rfl ?_; clear hK K
  refine wpSq_call rfl (by kernel_rfl) fun K hK => ?_
  go_big_op; refine hK _ _ rfl ?_; clear hK K
  apply wpSq_end
  refine hK9 _ _ ?_
  refine wp_cond_false (congrArg Value.bool (show _ = false from (by first | rfl | assumption | (simp; done) | exact decide_eq_false (by omega) | omega))) ?_
  refine wp_skip ?_
  refine hK8 _ _ ?_
  refine wp_seq_k ?_
  intro K10 hK10
  refine wp_region_sq [0, 1, 2, 3, 4, 5, 6, 7] (by kernel_rfl) ?_
  refine wpSq_call rfl (by kernel_rfl) fun K hK => ?_
  obtain ⟨d0, d1, d2, d3⟩ := x_b1.f4
  go_big_op; refine hK _ _ rfl ?_; clear hK K d0 d1 d2 d3
  refine wpSq_call rfl (by kernel_rfl) fun K hK => ?_
  go_big_op
  go_fit (fRound_any (PN.mk' ha1 ha2) (by omega) (by omega) H0.out)
  rintro e w_9 ⟨v_g, rfl, g, hb_9⟩
  clear a1 a2
  replace ha1 := ha1.bl hb_9; replace ha2 := ha2.bl hb_9; replace x_b1 := x_b1.bl hb_9; replace hb := hb.trans (hb_9.mono hb.size)
  obtain ⟨n_g, o_g, k_g, c_g, rfl⟩ := g.open2
  have Lg := hide (g.lenOf (rnd_len (H0.out) (ha1.len)))
  rw [HR.out] at g Lg
  refine hK _ _ rfl ?_
  clear hK K hb_9
  refine wpSq_call rfl (by kernel_rfl) fun K hK => ?_
  go_big_move; refine hK _ _ rfl ?_; clear hK K
  refine wpSq_call rfl (by kernel_rfl) fun K hK => ?_
  go_big_op; refine hK _ _ rfl ?_; clear hK K
  refine wpSq_call rfl (by kernel_rfl) fun K hK => ?_
  go_big_op; refine hK _ _ rfl ?_; clear hK K
  refine wpSq_call rfl (by kernel_rfl) fun K hK => ?_
  go_big_op
  have lt_b1 := x_b1.lt
  obtain ⟨p_b3, w_10, eP, eW, x_b3, hn, kb_b3⟩ := newBox w_9 #[.bool false, .slice none 0 0] 24 hb.size
  have ne_b1_b3 : Hid (p_b1 ≠ p_b3) := Nat.ne_of_lt (eP ▸ lt_b1)
  rw [eW, eP]
  clear eW eP lt_b1
  replace ha1 := ha1.bl hn; replace ha2 := ha2.bl hn; replace x_b1 := x_b1.bl hn; replace g := g.bl hn; replace hb := hb.trans (hn.mono hb.size)
  refine hK _ _ rfl ?_; clear hK K hn
  refine wpSq_call rfl (by kernel_rfl) fun K hK => ?_
  obtain ⟨d0, d1⟩ := x_b3.f2
  have f0 := x_b3.free 0; have f1 := x_b3.free 1
  go_big_op
  have hnd := x_b3.nod rfl rfl
  obtain ⟨w_11, eW, x_b3', ho⟩ : ∃ w', ((w_10.setCell ⟨p_b3, 0, none⟩ (.bool n_g)).setCell ⟨p_b3, 1, none⟩ (.slice o_g k_g c_g)) = w' ∧ Bs w' p_b3 #[.bool n_g, .slice o_g k_g c_g] 24 ∧ Only p_b3 w_10 w' := x_b3.setN [(0, .bool n_g), (1, .slice o_g k_g c_g)]
  rw [eW]; clear eW d0 d1 f0 f1 x_b3
  have x_b3 := x_b3'; clear x_b3'
  replace ha1 := ha1.fr hnd ho; replace ha2 := ha2.fr hnd ho; replace x_b1 := x_b1.frame ho ne_b1_b3; replace g := g.fr hnd ho; replace hb := belowOnly hb ho kb_b3
  refine hK _ _ rfl ?_; clear hK K ho hnd
  refine wpSq_call rfl (by kernel_rfl) fun K hK => ?_
  go_big_move; refine hK _ _ rfl ?_; clear hK K
  apply wpSq_end
  refine hK10 _ _ ?_
  refine wp_seq_k ?_
  intro K11 hK11
  refine wp_region_sq [0, 1, 2, 3, 4, 5, 6, 7] (by kernel_rfl) ?_
  refine wpSq_call rfl (by kernel_rfl) fun K hK => ?_
  obtain ⟨d0, d1, d2, d3⟩ := x_b1.f4
  go_big_op; refine hK _ _ rfl ?_; clear hK K d0 d1 d2 d3
  refine wpSq_call rfl (by kernel_rfl) fun K hK => ?_
  go_big_op
  go_fit (fFloor_any (PN.mk' ha1 ha2) (by omega) (by omega) H0.out)
  rintro e w_12 ⟨v_h, rfl, h, hb_12⟩
  replace ha1 := ha1.bl hb_12; replace ha2 := ha2.bl hb_12; replace x_b1 := x_b1.bl hb_12; replace g := g.bl hb_12; replace x_b3 := x_b3.bl hb_12; replace hb := hb.trans (hb_12.mono hb.size)
  obtain ⟨n_h, o_h, k_h, c_h, rfl⟩ := h.open2
  have Lh := hide (h.lenOf (fdiv_len (H0.out) (ha1.len)))
  rw [HF.out] at h Lh
  refine hK _ _ rfl ?_
  clear hK K hb_12
  refine wpSq_call rfl (by kernel_rfl) fun K hK => ?_
  go_big_move; refine hK _ _ rfl ?_; clear hK K
  refine wpSq_call rfl (by kernel_rfl) fun K hK => ?_
  go_big_op; refine hK _ _ rfl ?_; clear hK K
  refine wpSq_call rfl (by kernel_rfl) fun K hK => ?_
  go_big_op; refine hK _ _ rfl ?_; clear hK K
  refine wpSq_call rfl (by kernel_rfl) fun K hK => ?_
  go_big_op
  have lt_b1 := x_b1.lt
  have lt_b3 := x_b3.lt
  obtain ⟨p_b4, w_13, eP, eW, x_b4, hn, kb_b4⟩ := newBox w_12 #[.bool false, .slice none 0 0] 24 hb.size
  have ne_b1_b4 : Hid (p_b1 ≠ p_b4) := Nat.ne_of_lt (eP ▸ lt_b1)
  have ne_b3_b4 : Hid (p_b3 ≠ p_b4) := Nat.ne_of_lt (eP ▸ lt_b3)
  rw [eW, eP]
  clear eW eP lt_b1 lt_b3
  replace ha1 := ha1.bl hn; replace ha2 := ha2.bl hn; replace x_b1 := x_b1.bl hn; replace g := g.bl hn; replace x_b3 := x_b3.bl hn; replace h := h.bl hn; replace hb := hb.trans (hn.mono hb.size)
  refine hK _ _ rfl ?_; clear hK K hn
  refine wpSq_call rfl (by kernel_rfl) fun K hK => ?_
  obtain ⟨d0, d1⟩ := x_b4.f2
  have f0 := x_b4.free 0; have f1 := x_b4.free 1
  go_big_op
  have hnd := x_b4.nod rfl rfl
  obtain ⟨w_14, eW, x_b4', ho⟩ : ∃ w', ((w_13.setCell ⟨p_b4, 0, none⟩ (.bool n_h)).setCell ⟨p_b4, 1, none⟩ (.slice o_h k_h c_h)) = w' ∧ Bs w' p_b4 #[.bool n_h, .slice o_h k_h c_h] 24 ∧ Only p_b4 w_13 w' := x_b4.setN [(0, .bool n_h), (1, .slice o_h k_h c_h)]
  rw [eW]; clear eW d0 d1 f0 f1 x_b4
  have x_b4 := x_b4'; clear x_b4'
  replace ha1 := ha1.fr hnd ho; replace ha2 := ha2.fr hnd ho; replace x_b1 := x_b1.frame ho ne_b1_b4; replace g := g.fr hnd ho; replace x_b3 := x_b3.frame ho ne_b3_b4; replace h := h.fr hnd ho; replace hb := belowOnly hb ho kb_b4
  refine hK _ _ rfl ?_; clear hK K ho hnd
  refine wpSq_call rfl (by kernel_rfl) fun K hK => ?_
  go_big_move; refine hK _ _ rfl ?_; clear hK K
  apply wpSq_end
  refine hK11 _ _ ?_
  refine wp_seq_k ?_
  intro K12 hK12
  refine wp_region_sq [0, 1, 2] (by kernel_rfl) ?_
  refine wpSq_call rfl (by kernel_rfl) fun K hK => ?_
  go_big_op
  go_fit (ri_any 1 _ (by decide) (by decide))
  rintro e w_15 ⟨v_i, rfl, i, hb_15⟩
  replace ha1 := ha1.bl hb_15; replace ha2 := ha2.bl hb_15; replace x_b1 := x_b1.bl hb_15; replace g := g.bl hb_15; replace x_b3 := x_b3.bl hb_15; replace h := h.bl hb_15; replace x_b4 := x_b4.bl hb_15; replace hb := hb.trans (hb_15.mono hb.size)
  replace i := i.rd
  obtain ⟨n_i, o_i, k_i, c_i, rfl⟩ := i.open2
  have Li := hide (i.lenOf (L1.out))
  refine hK _ _ rfl ?_
  clear hK K hb_15
  refine wpSq_call rfl (by kernel_rfl) fun K hK => ?_
  go_big_op
  have lt_b1 := x_b1.lt
  have lt_b3 := x_b3.lt
  have lt_b4 := x_b4.lt
  obtain ⟨p_b5, w_16, eP, eW, x_b5, hn, kb_b5⟩ := newBox w_15 #[.bool false, .slice none 0 0] 24 hb.size
  have ne_b1_b5 : Hid (p_b1 ≠ p_b5) := Nat.ne_of_lt (eP ▸ lt_b1)
  have ne_b3_b5 : Hid (p_b3 ≠ p_b5) := Nat.ne_of_lt (eP ▸ lt_b3)
  have ne_b4_b5 : Hid (p_b4 ≠ p_b5) := Nat.ne_of_lt (eP ▸ lt_b4)
  rw [eW, eP]
  clear eW eP lt_b1 lt_b3 lt_b4
  replace ha1 := ha1.bl hn; replace ha2 := ha2.bl hn; replace x_b1 := x_b1.bl hn; replace g := g.bl hn; replace x_b3 := x_b3.bl hn; replace h := h.bl hn; replace x_b4 := x_b4.bl hn; replace i := i.bl hn; replace hb := hb.trans (hn.mono hb.size)
  refine hK _ _ rfl ?_; clear hK K hn
  refine wpSq_call rfl (by kernel_rfl) fun K hK => ?_
  obtain ⟨d0, d1⟩ := x_b5.f2
  have f0 := x_b5.free 0; have f1 := x_b5.free 1
  go_big_op
  have hnd := x_b5.nod rfl rfl
  obtain ⟨w_17, eW, x_b5', ho⟩ : ∃ w', ((w_16.setCell ⟨p_b5, 0, none⟩ (.bool n_i)).setCell ⟨p_b5, 1, none⟩ (.slice o_i k_i c_i)) = w' ∧ Bs w' p_b5 #[.bool n_i, .slice o_i k_i c_i] 24 ∧ Only p_b5 w_16 w' := x_b5.setN [(0, .bool n_i), (1, .slice o_i k_i c_i)]
  rw [eW]; clear eW d0 d1 f0 f1 x_b5
  have x_b5 := x_b5'; clear x_b5'
  replace ha1 := ha1.fr hnd ho; replace ha2 := ha2.fr hnd ho; replace x_b1 := x_b1.frame ho ne_b1_b5; replace g := g.fr hnd ho; replace x_b3 := x_b3.frame ho ne_b3_b5; replace h := h.fr hnd ho; replace x_b4 := x_b4.frame ho ne_b4_b5; replace i := i.fr hnd ho; replace hb := belowOnly hb ho kb_b5
  refine hK _ _ rfl ?_; clear hK K ho hnd
  apply wpSq_end
  refine hK12 _ _ ?_
  refine wp_seq_k ?_
  intro K13 hK13
  refine wp_region_sq [0, 1, 2, 3, 4, 5, 6, 7, 8, 9, 10] (by kernel_rfl) ?_
  refine wpSq_call rfl (by kernel_rfl) fun K hK => ?_
  obtain ⟨d0, d1, d2, d3⟩ := x_b1.f4
  go_big_op; refine hK _ _ rfl ?_; clear hK K d0 d1 d2 d3
  refine wpSq_call rfl (by kernel_rfl) fun K hK => ?_
  obtain ⟨d0, d1⟩ := x_b3.f2
  go_big_op; refine hK _ _ rfl ?_; clear hK K d0 d1
  refine wpSq_call rfl (by kernel_rfl) fun K hK => ?_
  obtain ⟨d0, d1⟩ := x_b5.f2
  go_big_op; refine hK _ _ rfl ?_; clear hK K d0 d1
  refine wpSq_call rfl (by kernel_rfl) fun K hK => ?_
  go_big_op; refine hK _ _ rfl ?_; clear hK K
  refine wpSq_call rfl (by kernel_rfl) fun K hK => ?_
  go_big_op
  go_fit (fSub_any (PN.mk' ha1 ha2) (PN.mk' (g.zn Lg.out) (i.zn Li.out)) (by omega) (by omega) (by omega) (by omega) N1.out)
  rintro e w_18 ⟨_, rfl, ⟨n_ja, o_ja, k_ja, c_ja, n_jb, o_jb, k_jb, c_jb, rfl, j1, j2⟩, hb_18⟩
  clear x_b3
  replace ha1 := ha1.bl hb_18; replace ha2 := ha2.bl hb_18; replace x_b1 := x_b1.bl hb_18; replace g := g.bl hb_18; replace h := h.bl hb_18; replace x_b4 := x_b4.bl hb_18; replace i := i.bl hb_18; replace x_b5 := x_b5.bl hb_18; replace hb := hb.trans (hb_18.mono hb.size)
  have Lj1 := hide (j1.lenOf (qN_len (N1.out) (zlen_opSub (zlen_mul (ha1.len) (Li.out)) (zlen_mul (Lg.out) (ha2.len)))))
  have Lj2 := hide (j2.lenOf (qD_len (N1.out) (zlen_mul (ha2.len) (Li.out))))
  rw [HA.out.1] at j1 Lj1
  rw [HA.out.2] at j2 Lj2
  refine hK _ _ rfl ?_
  clear hK K hb_18
  refine wpSq_call rfl (by kernel_rfl) fun K hK => ?_
  go_big_move; refine hK _ _ rfl ?_; clear hK K
  refine wpSq_call rfl (by kernel_rfl) fun K hK => ?_
  go_big_op; refine hK _ _ rfl ?_; clear hK K
  refine wpSq_call rfl (by kernel_rfl) fun K hK => ?_
  go_big_op; refine hK _ _ rfl ?_; clear hK K
  refine wpSq_call rfl (by kernel_rfl) fun K hK => ?_
  go_big_op
  clear g
  have lt_b1 := x_b1.lt
  have lt_b4 := x_b4.lt
  have lt_b5 := x_b5.lt
  obtain ⟨p_b6, w_19, eP, eW, x_b6, hn, kb_b6⟩ := newBox w_18 #[.bool false, .slice none 0 0, .bool false, .slice none 0 0] 26 hb.size
  have ne_b1_b6 : Hid (p_b1 ≠ p_b6) := Nat.ne_of_lt (eP ▸ lt_b1)
  have ne_b4_b6 : Hid (p_b4 ≠ p_b6) := Nat.ne_of_lt (eP ▸ lt_b4)
  have ne_b5_b6 : Hid (p_b5 ≠ p_b6) := Nat.ne_of_lt (eP ▸ lt_b5)
  rw [eW, eP]
  clear eW eP lt_b1 lt_b4 lt_b5
  replace ha1 := ha1.bl hn; replace ha2 := ha2.bl hn; replace x_b1 := x_b1.bl hn; replace h := h.bl hn; replace x_b4 := x_b4.bl hn; replace i := i.bl hn; replace x_b5 := x_b5.bl hn; replace j1 := j1.bl hn; replace j2 := j2.bl hn; replace hb := hb.trans (hn.mono hb.size)
  refine hK _ _ rfl ?_; clear hK K hn
  refine wpSq_call rfl (by kernel_rfl) fun K hK => ?_
  obtain ⟨d0, d1, d2, d3⟩ := x_b6.f4
  have f0 := x_b6.free 0; have f1 := x_b6.free 1; have f2 := x_b6.free 2; have f3 := x_b6.free 3
  go_big_op
  have hnd := x_b6.nod rfl rfl
  obtain ⟨w_20, eW, x_b6', ho⟩ : ∃ w', ((((w_19.setCell ⟨p_b6, 0, none⟩ (.bool n_ja)).setCell ⟨p_b6, 1, none⟩ (.slice o_ja k_ja c_ja)).setCell ⟨p_b6, 2, none⟩ (.bool n_jb)).setCell ⟨p_b6, 3, none⟩ (.slice o_jb k_jb c_jb)) = w' ∧ Bs w' p_b6 #[.bool n_ja, .slice o_ja k_ja c_ja, .bool n_jb, .slice o_jb k_jb c_jb] 26 ∧ Only p_b6 w_19 w' := x_b6.setN [(0, .bool n_ja), (1, .slice o_ja k_ja c_ja), (2, .bool n_jb), (3, .slice o_jb k_jb c_jb)]
  rw [eW]; clear eW d0 d1 d2 d3 f0 f1 f2 f3 x_b6
  have x_b6 := x_b6'; clear x_b6'
  replace ha1 := ha1.fr hnd ho; replace ha2 := ha2.fr hnd ho; replace x_b1 := x_b1.frame ho ne_b1_b6; replace h := h.fr hnd ho; replace x_b4 := x_b4.frame ho ne_b4_b6; replace i := i.fr hnd ho; replace x_b5 := x_b5.frame ho ne_b5_b6; replace j1 := j1.fr hnd ho; replace j2 := j2.fr hnd ho; replace hb := belowOnly hb ho kb_b6
  refine hK _ _ rfl ?_; clear hK K ho hnd
  refine wpSq_call rfl (by kernel_rfl) fun K hK => ?_
  go_big_move; refine hK _ _ rfl ?_; clear hK K
  apply wpSq_end
  refine hK13 _ _ ?_
  refine wp_seq_k ?_
  intro K14 hK14
  refine wp_region_sq [0, 1, 2, 3, 4, 5, 6, 7, 8, 9, 10] (by kernel_rfl) ?_
  refine wpSq_call rfl (by kernel_rfl) fun K hK => ?_
  obtain ⟨d0, d1, d2, d3⟩ := x_b1.f4
  go_big_op; refine hK _ _ rfl ?_; clear hK K d0 d1 d2 d3
  refine wpSq_call rfl (by kernel_rfl) fun K hK => ?_
  obtain ⟨d0, d1⟩ := x_b4.f2
  go_big_op; refine hK _ _ rfl ?_; clear hK K d0 d1
  refine wpSq_call rfl (by kernel_rfl) fun K hK => ?_
  obtain ⟨d0, d1⟩ := x_b5.f2
  go_big_op; refine hK _ _ rfl ?_; clear hK K d0 d1
  refine wpSq_call rfl (by kernel_rfl) fun K hK => ?_
  go_big_op; refine hK _ _ rfl ?_; clear hK K
  refine wpSq_call rfl (by kernel_rfl) fun K hK => ?_
  go_big_op
  go_fit (fSub_any (PN.mk' ha1 ha2) (PN.mk' (h.zn Lh.out) (i.zn Li.out)) (by omega) (by omega) (by omega) (by omega) N1.out)
  rintro e w_21 ⟨_, rfl, ⟨n_oa, o_oa, k_oa, c_oa, n_ob, o_ob, k_ob, c_ob, rfl, o1, o2⟩, hb_21⟩
  clear x_b1 x_b4 x_b5
  replace ha1 := ha1.bl hb_21; replace ha2 := ha2.bl hb_21; replace h := h.bl hb_21; replace i := i.bl hb_21; replace j1 := j1.bl hb_21; replace j2 := j2.bl hb_21; replace x_b6 := x_b6.bl hb_21; replace hb := hb.trans (hb_21.mono hb.size)
  have Lo1 := hide (o1.lenOf (qN_len (N1.out) (zlen_opSub (zlen_mul (ha1.len) (Li.out)) (zlen_mul (Lh.out) (ha2.len)))))
  have Lo2 := hide (o2.lenOf (qD_len (N1.out) (zlen_mul (ha2.len) (Li.out))))
  rw [HB.out.1] at o1 Lo1
  rw [HB.out.2] at o2 Lo2
  refine hK _ _ rfl ?_
  clear hK K hb_21
  refine wpSq_call rfl (by kernel_rfl) fun K hK => ?_
  go_big_move; refine hK _ _ rfl ?_; clear hK K
  refine wpSq_call rfl (by kernel_rfl) fun K hK => ?_
  go_big_op; refine hK _ _ rfl ?_; clear hK K
  refine wpSq_call rfl (by kernel_rfl) fun K hK => ?_
  go_big_op; refine hK _ _ rfl ?_; clear hK K
  refine wpSq_call rfl (by kernel_rfl) fun K hK => ?_
  go_big_op
  clear ha1 ha2 h i
  have lt_b6 := x_b6.lt
  obtain ⟨p_b7, w_22, eP, eW, x_b7, hn, kb_b7⟩ := newBox w_21 #[.bool false, .slice none 0 0, .bool false, .slice none 0 0] 26 hb.size
  have ne_b6_b7 : Hid (p_b6 ≠ p_b7) := Nat.ne_of_lt (eP ▸ lt_b6)
  rw [eW, eP]
  clear eW eP lt_b6
  replace j1 := j1.bl hn; replace j2 := j2.bl hn; replace x_b6 := x_b6.bl hn; replace o1 := o1.bl hn; replace o2 := o2.bl hn; replace hb := hb.trans (hn.mono hb.size)
  refine hK _ _ rfl ?_; clear hK K hn
  refine wpSq_call rfl (by kernel_rfl) fun K hK => ?_
  obtain ⟨d0, d1, d2, d3⟩ := x_b7.f4
  have f0 := x_b7.free 0; have f1 := x_b7.free 1; have f2 := x_b7.free 2; have f3 := x_b7.free 3
  go_big_op
  have hnd := x_b7.nod rfl rfl
  obtain ⟨w_23, eW, x_b7', ho⟩ : ∃ w', ((((w_22.setCell ⟨p_b7, 0, none⟩ (.bool n_oa)).setCell ⟨p_b7, 1, none⟩ (.slice o_oa k_oa c_oa)).setCell ⟨p_b7, 2, none⟩ (.bool n_ob)).setCell ⟨p_b7, 3, none⟩ (.slice o_ob k_ob c_ob)) = w' ∧ Bs w' p_b7 #[.bool n_oa, .slice o_oa k_oa c_oa, .bool n_ob, .slice o_ob k_ob c_ob] 26 ∧ Only p_b7 w_22 w' := x_b7.setN [(0, .bool n_oa), (1, .slice o_oa k_oa c_oa), (2, .bool n_ob), (3, .slice o_ob k_ob c_ob)]
  rw [eW]; clear eW d0 d1 d2 d3 f0 f1 f2 f3 x_b7
  have x_b7 := x_b7'; clear x_b7'
  replace j1 := j1.fr hnd ho; replace j2 := j2.fr hnd ho; replace x_b6 := x_b6.frame ho ne_b6_b7; replace o1 := o1.fr hnd ho; replace o2 := o2.fr hnd ho; replace hb := belowOnly hb ho kb_b7
  refine hK _ _ rfl ?_; clear hK K ho hnd
  refine wpSq_call rfl (by kernel_rfl) fun K hK => ?_
  go_big_move; refine hK _ _ rfl ?_; clear hK K
  apply wpSq_end
  refine hK14 _ _ ?_
  refine wp_seq_k ?_
  intro K15 hK15
  refine wp_seq_k ?_
  intro K16 hK16
  refine wp_region_sq [0, 1, 2, 3, 4, 5, 6, 7, 8, 9, 10, 11, 12, 13] (by kernel_rfl) ?_
  refine wpSq_call rfl (by kernel_rfl) fun K hK => ?_
  go_big_move; refine hK _ _ rfl ?_; clear hK K
  refine wpSq_call rfl (by kernel_rfl) fun K hK => ?_
  go_big_op; refine hK _ _ rfl ?_; clear hK K
  refine wpSq_call rfl (by kernel_rfl) fun K hK => ?_
  go_big_move; refine hK _ _ rfl ?_; clear hK K
  refine wpSq_call rfl (by kernel_rfl) fun K hK => ?_
  go_big_move; refine hK _ _ rfl ?_; clear hK K
  refine wpSq_call rfl (by kernel_rfl) fun K hK => ?_
  go_big_op; refine hK _ _ rfl ?_; clear hK K
  refine wpSq_call rfl (by kernel_rfl) fun K hK => ?_
  go_big_op; refine hK _ _ rfl ?_; clear hK K
  refine wpSq_call rfl (by kernel_rfl) fun K hK => ?_
  go_big_move; refine hK _ _ rfl ?_; clear hK K
  refine wpSq_call rfl (by kernel_rfl) fun K hK => ?_
  go_big_move; refine hK _ _ rfl ?_; clear hK K
  refine wpSq_call rfl (by kernel_rfl) fun K hK => ?_
  go_big_op; refine hK _ _ rfl ?_; clear hK K
  refine wpSq_call rfl (by kernel_rfl) fun K hK => ?_
  go_big_op; refine hK _ _ rfl ?_; clear hK K
  refine wpSq_call rfl (by kernel_rfl) fun K hK => ?_
  go_big_move; refine hK _ _ rfl ?_; clear hK K
  refine wpSq_call rfl (by kernel_rfl) fun K hK => ?_
  go_big_move; refine hK _ _ rfl ?_; clear hK K
  refine wpSq_call rfl (by kernel_rfl) fun K hK => ?_
  go_big_op; refine hK _ _ rfl ?_; clear hK K
  refine wpSq_call rfl (by kernel_rfl) fun K hK => ?_
  go_big_op; refine hK _ _ rfl ?_; clear hK K
  apply wpSq_end
  refine hK16 _ _ ?_
  refine wp_cond_false (congrArg Value.bool (show _ = false from (by first | rfl | assumption | (simp; done) | exact decide_eq_false (by omega) | omega))) ?_
  refine wp_skip ?_
  refine hK15 _ _ ?_
  refine wp_seq_k ?_
  intro K17 hK17
  refine wp_region_fl2 [(0, false), (1, true), (2, true), (3, false), (4, false), (5, false), (6, false), (7, false)] [] [] (fun _ => default) [0, 99, 99, 99, 99, 99, 99, 99] [] (fun w' => w'.cell? ⟨p_b6, 0, none⟩ = some (.bool n_ja) ∧ w'.cell? ⟨p_b6, 1, none⟩ = some (.slice o_ja k_ja c_ja) ∧ w'.cell? ⟨p_b6, 2, none⟩ = some (.bool n_jb) ∧ w'.cell? ⟨p_b6, 3, none⟩ = some (.slice o_jb k_jb c_jb)) [fun w' => w'.cell? ⟨p_b6, 0, none⟩ = some (.bool n_ja) ∧ w'.cell? ⟨p_b6, 1, none⟩ = some (.slice o_ja k_ja c_ja) ∧ w'.cell? ⟨p_b6, 2, none⟩ = some (.bool n_jb) ∧ w'.cell? ⟨p_b6, 3, none⟩ = some (.slice o_jb k_jb c_jb)] (by kernel_rfl) (by kernel_rfl) (by kernel_rfl) (by kernel_rfl) (by kernel_rfl) (by kernel_rfl) (by kernel_rfl) (by kernel_rfl) (by decide) (by intro j hj; cases hj) (by intro w' o hC; obtain ⟨c0, c1, c2, c3⟩ := hC; exact ⟨cell_alloc c0 o, cell_alloc c1 o, cell_alloc c2 o, cell_alloc c3 o⟩) (by intro w' hC G hG; obtain ⟨c0, c1, c2, c3⟩ := hC; simp only [List.mem_cons, List.not_mem_nil, or_false] at hG; rcases hG with rfl <;> first | exact ⟨c0, c1, c2, c3⟩) ?_
  have lt_b6 := x_b6.lt
  have lt_b7 := x_b7.lt
  intro w_24 hn
  replace lt_b6 := Nat.lt_of_lt_of_le lt_b6 hn.size
  replace lt_b7 := Nat.lt_of_lt_of_le lt_b7 hn.size
  replace j1 := j1.bl hn; replace j2 := j2.bl hn; replace x_b6 := x_b6.bl hn; replace o1 := o1.bl hn; replace o2 := o2.bl hn; replace x_b7 := x_b7.bl hn; replace hb := hb.trans (hn.mono hb.size)
  clear hn
  have kb0 := hb.size
  refine ⟨⟨x_b6.cell 0 rfl, x_b6.cell 1 rfl, x_b6.cell 2 rfl, x_b6.cell 3 rfl⟩, ?_⟩
  apply wpFl_ld rfl rfl; (case h1 => intro w' hC K hK; obtain ⟨c0, c1, c2, c3⟩ := hC; go_big_op; exact hK); iterate 4 kernel_rfl
  refine wpFl_call rfl (by kernel_rfl) fun w_25 hn hC => ?_; clear hC
  replace j1 := j1.bl hn; replace j2 := j2.bl hn; replace x_b6 := x_b6.bl hn; replace o1 := o1.bl hn; replace o2 := o2.bl hn; replace x_b7 := x_b7.bl hn; replace hb := hb.trans (hn.mono hb.size)
  clear hn; intro K hK
  go_big_op
  go_fit (fq_any (-1) 2 _ (by decide) (by decide) (by decide) (by decide))
  rintro e w_26 ⟨_, rfl, ⟨n_ra, o_ra, k_ra, c_ra, n_rb, o_rb, k_rb, c_rb, rfl, r1, r2⟩, hb_26⟩
  replace j1 := j1.bl hb_26; replace j2 := j2.bl hb_26; replace x_b6 := x_b6.bl hb_26; replace o1 := o1.bl hb_26; replace o2 := o2.bl hb_26; replace x_b7 := x_b7.bl hb_26; replace hb := hb.trans (hb_26.mono hb.size)
  have Lr1 := hide (r1.lenOf (L3.out))
  have Lr2 := hide (r2.lenOf (L2.out))
  refine hK _ _ rfl hb_26 ⟨x_b6.cell 0 rfl, x_b6.cell 1 rfl, x_b6.cell 2 rfl, x_b6.cell 3 rfl⟩ ?_
  clear hK K hb_26
  refine wpFl_call rfl (by kernel_rfl) fun w_27 hn hC => ?_; clear hC
  replace j1 := j1.bl hn; replace j2 := j2.bl hn; replace x_b6 := x_b6.bl hn; replace o1 := o1.bl hn; replace o2 := o2.bl hn; replace x_b7 := x_b7.bl hn; replace r1 := r1.bl hn; replace r2 := r2.bl hn; replace hb := hb.trans (hn.mono hb.size)
  clear hn; intro K hK
  go_big_op
  go_fit (fCmp_any (.mk' (j1.zn Lj1.out) (j2.zn Lj2.out)) (.mk' (r1.zn L3.out) (r2.zn L2.out)) (by omega) (by omega) (by omega) (by omega) NA.out (by decide))
  rintro e w_28 ⟨rfl, hb_28⟩
  replace j1 := j1.bl hb_28; replace j2 := j2.bl hb_28; replace x_b6 := x_b6.bl hb_28; replace o1 := o1.bl hb_28; replace o2 := o2.bl hb_28; replace x_b7 := x_b7.bl hb_28; replace r1 := r1.bl hb_28; replace r2 := r2.bl hb_28; replace hb := hb.trans (hb_28.mono hb.size)
  rw [HC1.out]
  refine hK _ _ rfl hb_28 ⟨x_b6.cell 0 rfl, x_b6.cell 1 rfl, x_b6.cell 2 rfl, x_b6.cell 3 rfl⟩ ?_
  clear hK K hb_28
  apply wpFl_ld rfl rfl; (case h1 => intro w' hC K hK; go_big_move; exact hK); iterate 4 kernel_rfl
  apply wpFl_ld rfl rfl; (case h1 => intro w' hC K hK; go_big_op; exact hK); iterate 4 kernel_rfl
  apply wpFl_ld rfl rfl; (case h1 => intro w' hC K hK; go_big_op; exact hK); iterate 4 kernel_rfl
  apply wpFl_ld rfl rfl; (case h1 => intro w' hC K hK; go_big_move; exact hK); iterate 4 kernel_rfl
  apply wpFl_ld rfl rfl; (case h1 => intro w' hC K hK; go_big_move; exact hK); iterate 4 kernel_rfl
  apply wpFl_end
  case ha => intro pt; simp only [putF]; rfl
  case h =>
  intro w_29 pt hn hC hF hD
  clear hC
  clear r1 r2
  replace j1 := j1.bl hn; replace j2 := j2.bl hn; replace x_b6 := x_b6.bl hn; replace o1 := o1.bl hn; replace o2 := o2.bl hn; replace x_b7 := x_b7.bl hn; replace hb := hb.trans (hn.mono hb.size)
  clear hn
  clear hF hD
  clear pt
  clear kb0 lt_b6 lt_b7
  apply wpTail_end
  refine hK17 _ _ ?_
  refine wp_seq_k ?_
  intro K18 hK18
  refine wp_region_fl2 [(0, false), (1, true), (2, true), (3, false), (4, false), (5, false), (6, false), (7, false)] [] [] (fun _ => default) [0, 99, 99, 99, 99, 99, 99, 99] [] (fun w' => w'.cell? ⟨p_b6, 0, none⟩ = some (.bool n_ja) ∧ w'.cell? ⟨p_b6, 1, none⟩ = some (.slice o_ja k_ja c_ja) ∧ w'.cell? ⟨p_b6, 2, none⟩ = some (.bool n_jb) ∧ w'.cell? ⟨p_b6, 3, none⟩ = some (.slice o_jb k_jb c_jb)) [fun w' => w'.cell? ⟨p_b6, 0, none⟩ = some (.bool n_ja) ∧ w'.cell? ⟨p_b6, 1, none⟩ = some (.slice o_ja k_ja c_ja) ∧ w'.cell? ⟨p_b6, 2, none⟩ = some (.bool n_jb) ∧ w'.cell? ⟨p_b6, 3, none⟩ = some (.slice o_jb k_jb c_jb)] (by kernel_rfl) (by kernel_rfl) (by kernel_rfl) (by kernel_rfl) (by kernel_rfl) (by kernel_rfl) (by kernel_rfl) (by kernel_rfl) (by decide) (by intro j hj; cases hj) (by intro w' o hC; obtain ⟨c0, c1, c2, c3⟩ := hC; exact ⟨cell_alloc c0 o, cell_alloc c1 o, cell_alloc c2 o, cell_alloc c3 o⟩) (by intro w' hC G hG; obtain ⟨c0, c1, c2, c3⟩ := hC; simp only [List.mem_cons, List.not_mem_nil, or_false] at hG; rcases hG with rfl <;> first | exact ⟨c0, c1, c2, c3⟩) ?_
  have lt_b6 := x_b6.lt
  have lt_b7 := x_b7.lt
  intro w_30 hn
  replace lt_b6 := Nat.lt_of_lt_of_le lt_b6 hn.size
  replace lt_b7 := Nat.lt_of_lt_of_le lt_b7 hn.size
  replace j1 := j1.bl hn; replace j2 := j2.bl hn; replace x_b6 := x_b6.bl hn; replace o1 := o1.bl hn; replace o2 := o2.bl hn; replace x_b7 := x_b7.bl hn; replace hb := hb.trans (hn.mono hb.size)
  clear hn
  have kb0 := hb.size
  refine ⟨⟨x_b6.cell 0 rfl, x_b6.cell 1 rfl, x_b6.cell 2 rfl, x_b6.cell 3 rfl⟩, ?_⟩
  apply wpFl_ld rfl rfl; (case h1 => intro w' hC K hK; obtain ⟨c0, c1, c2, c3⟩ := hC; go_big_op; exact hK); iterate 4 kernel_rfl
  refine wpFl_call rfl (by kernel_rfl) fun w_31 hn hC => ?_; clear hC
  replace j1 := j1.bl hn; replace j2 := j2.bl hn; replace x_b6 := x_b6.bl hn; replace o1 := o1.bl hn; replace o2 := o2.bl hn; replace x_b7 := x_b7.bl hn; replace hb := hb.trans (hn.mono hb.size)
  clear hn; intro K hK
  go_big_op
  go_fit (fq_any 1 2 _ (by decide) (by decide) (by decide) (by decide))
  rintro e w_32 ⟨_, rfl, ⟨n_sa, o_sa, k_sa, c_sa, n_sb, o_sb, k_sb, c_sb, rfl, s1, s2⟩, hb_32⟩
  replace j1 := j1.bl hb_32; replace j2 := j2.bl hb_32; replace x_b6 := x_b6.bl hb_32; replace o1 := o1.bl hb_32; replace o2 := o2.bl hb_32; replace x_b7 := x_b7.bl hb_32; replace hb := hb.trans (hb_32.mono hb.size)
  have Ls1 := hide (s1.lenOf (L1.out))
  have Ls2 := hide (s2.lenOf (L2.out))
  refine hK _ _ rfl hb_32 ⟨x_b6.cell 0 rfl, x_b6.cell 1 rfl, x_b6.cell 2 rfl, x_b6.cell 3 rfl⟩ ?_
  clear hK K hb_32
  refine wpFl_call rfl (by kernel_rfl) fun w_33 hn hC => ?_; clear hC
  replace j1 := j1.bl hn; replace j2 := j2.bl hn; replace x_b6 := x_b6.bl hn; replace o1 := o1.bl hn; replace o2 := o2.bl hn; replace x_b7 := x_b7.bl hn; replace s1 := s1.bl hn; replace s2 := s2.bl hn; replace hb := hb.trans (hn.mono hb.size)
  clear hn; intro K hK
  go_big_op
  go_fit (fCmp_any (.mk' (j1.zn Lj1.out) (j2.zn Lj2.out)) (.mk' (s1.zn L1.out) (s2.zn L2.out)) (by omega) (by omega) (by omega) (by omega) NA.out (by decide))
  rintro e w_34 ⟨rfl, hb_34⟩
  replace j1 := j1.bl hb_34; replace j2 := j2.bl hb_34; replace x_b6 := x_b6.bl hb_34; replace o1 := o1.bl hb_34; replace o2 := o2.bl hb_34; replace x_b7 := x_b7.bl hb_34; replace s1 := s1.bl hb_34; replace s2 := s2.bl hb_34; replace hb := hb.trans (hb_34.mono hb.size)
  rw [HC2.out]
  refine hK _ _ rfl hb_34 ⟨x_b6.cell 0 rfl, x_b6.cell 1 rfl, x_b6.cell 2 rfl, x_b6.cell 3 rfl⟩ ?_
  clear hK K hb_34
  apply wpFl_ld rfl rfl; (case h1 => intro w' hC K hK; go_big_move; exact hK); iterate 4 kernel_rfl
  apply wpFl_ld rfl rfl; (case h1 => intro w' hC K hK; go_big_op; exact hK); iterate 4 kernel_rfl
  apply wpFl_ld rfl rfl; (case h1 => intro w' hC K hK; go_big_op; exact hK); iterate 4 kernel_rfl
  apply wpFl_ld rfl rfl; (case h1 => intro w' hC K hK; go_big_move; exact hK); iterate 4 kernel_rfl
  apply wpFl_ld rfl rfl; (case h1 => intro w' hC K hK; go_big_move; exact hK); iterate 4 kernel_rfl
  apply wpFl_end
  case ha => intro pt; simp only [putF]; rfl
  case h =>
  intro w_35 pt hn hC hF hD
  clear hC
  clear s1 s2
  replace j1 := j1.bl hn; replace j2 := j2.bl hn; replace x_b6 := x_b6.bl hn; replace o1 := o1.bl hn; replace o2 := o2.bl hn; replace x_b7 := x_b7.bl hn; replace hb := hb.trans (hn.mono hb.size)
  clear hn
  clear hF hD
  clear pt
  clear kb0 lt_b6 lt_b7
  apply wpTail_end
  refine hK18 _ _ ?_
  refine wp_seq_k ?_
  intro K19 hK19
  refine wp_region_fl2 [(0, false), (1, true), (2, true), (3, false), (4, false), (5, false), (6, false), (7, false)] [] [] (fun _ => default) [0, 99, 99, 99, 99, 99, 99, 99] [] (fun w' => w'.cell? ⟨p_b7, 0, none⟩ = some (.bool n_oa) ∧ w'.cell? ⟨p_b7, 1, none⟩ = some (.slice o_oa k_oa c_oa) ∧ w'.cell? ⟨p_b7, 2, none⟩ = some (.bool n_ob) ∧ w'.cell? ⟨p_b7, 3, none⟩ = some (.slice o_ob k_ob c_ob)) [fun w' => w'.cell? ⟨p_b7, 0, none⟩ = some (.bool n_oa) ∧ w'.cell? ⟨p_b7, 1, none⟩ = some (.slice o_oa k_oa c_oa) ∧ w'.cell? ⟨p_b7, 2, none⟩ = some (.bool n_ob) ∧ w'.cell? ⟨p_b7, 3, none⟩ = some (.slice o_ob k_ob c_ob)] (by kernel_rfl) (by kernel_rfl) (by kernel_rfl) (by kernel_rfl) (by kernel_rfl) (by kernel_rfl) (by kernel_rfl) (by kernel_rfl) (by decide) (by intro j hj; cases hj) (by intro w' o hC; obtain ⟨c0, c1, c2, c3⟩ := hC; exact ⟨cell_alloc c0 o, cell_alloc c1 o, cell_alloc c2 o, cell_alloc c3 o⟩) (by intro w' hC G hG; obtain ⟨c0, c1, c2, c3⟩ := hC; simp only [List.mem_cons, List.not_mem_nil, or_false] at hG; rcases hG with rfl <;> first | exact ⟨c0, c1, c2, c3⟩) ?_
  clear j1 j2 x_b6
  have lt_b7 := x_b7.lt
  intro w_36 hn
  replace lt_b7 := Nat.lt_of_lt_of_le lt_b7 hn.size
  replace o1 := o1.bl hn; replace o2 := o2.bl hn; replace x_b7 := x_b7.bl hn; replace hb := hb.trans (hn.mono hb.size)
  clear hn
  have kb0 := hb.size
  refine ⟨⟨x_b7.cell 0 rfl, x_b7.cell 1 rfl, x_b7.cell 2 rfl, x_b7.cell 3 rfl⟩, ?_⟩
  apply wpFl_ld rfl rfl; (case h1 => intro w' hC K hK; obtain ⟨c0, c1, c2, c3⟩ := hC; go_big_op; exact hK); iterate 4 kernel_rfl
  refine wpFl_call rfl (by kernel_rfl) fun w_37 hn hC => ?_; clear hC
  replace o1 := o1.bl hn; replace o2 := o2.bl hn; replace x_b7 := x_b7.bl hn; replace hb := hb.trans (hn.mono hb.size)
  clear hn; intro K hK
  go_big_op
  go_fit (fq_any 0 1 _ (by decide) (by decide) (by decide) (by decide))
  rintro e w_38 ⟨_, rfl, ⟨n_ta, o_ta, k_ta, c_ta, n_tb, o_tb, k_tb, c_tb, rfl, t1, t2⟩, hb_38⟩
  replace o1 := o1.bl hb_38; replace o2 := o2.bl hb_38; replace x_b7 := x_b7.bl hb_38; replace hb := hb.trans (hb_38.mono hb.size)
  have Lt1 := hide (t1.lenOf (L0.out))
  have Lt2 := hide (t2.lenOf (L1.out))
  refine hK _ _ rfl hb_38 ⟨x_b7.cell 0 rfl, x_b7.cell 1 rfl, x_b7.cell 2 rfl, x_b7.cell 3 rfl⟩ ?_
  clear hK K hb_38
  refine wpFl_call rfl (by kernel_rfl) fun w_39 hn hC => ?_; clear hC
  replace o1 := o1.bl hn; replace o2 := o2.bl hn; replace x_b7 := x_b7.bl hn; replace t1 := t1.bl hn; replace t2 := t2.bl hn; replace hb := hb.trans (hn.mono hb.size)
  clear hn; intro K hK
  go_big_op
  go_fit (fCmp_any (.mk' (o1.zn Lo1.out) (o2.zn Lo2.out)) (.mk' (t1.zn L0.out) (t2.zn L1.out)) (by omega) (by omega) (by omega) (by omega) NB.out (by decide))
  rintro e w_40 ⟨rfl, hb_40⟩
  replace o1 := o1.bl hb_40; replace o2 := o2.bl hb_40; replace x_b7 := x_b7.bl hb_40; replace t1 := t1.bl hb_40; replace t2 := t2.bl hb_40; replace hb := hb.trans (hb_40.mono hb.size)
  rw [HC3.out]
  refine hK _ _ rfl hb_40 ⟨x_b7.cell 0 rfl, x_b7.cell 1 rfl, x_b7.cell 2 rfl, x_b7.cell 3 rfl⟩ ?_
  clear hK K hb_40
  apply wpFl_ld rfl rfl; (case h1 => intro w' hC K hK; go_big_move; exact hK); iterate 4 kernel_rfl
  apply wpFl_ld rfl rfl; (case h1 => intro w' hC K hK; go_big_op; exact hK); iterate 4 kernel_rfl
  apply wpFl_ld rfl rfl; (case h1 => intro w' hC K hK; go_big_op; exact hK); iterate 4 kernel_rfl
  apply wpFl_ld rfl rfl; (case h1 => intro w' hC K hK; go_big_move; exact hK); iterate 4 kernel_rfl
  apply wpFl_ld rfl rfl; (case h1 => intro w' hC K hK; go_big_move; exact hK); iterate 4 kernel_rfl
  apply wpFl_end
  case ha => intro pt; simp only [putF]; rfl
  case h =>
  intro w_41 pt hn hC hF hD
  clear hC
  clear t1 t2
  replace o1 := o1.bl hn; replace o2 := o2.bl hn; replace x_b7 := x_b7.bl hn; replace hb := hb.trans (hn.mono hb.size)
  clear hn
  clear hF hD
  clear pt
  clear kb0 lt_b7
  apply wpTail_end
  refine hK19 _ _ ?_
  refine wp_seq_k ?_
  intro K20 hK20
  refine wp_region_fl2 [(0, false), (1, true), (2, true), (3, false), (4, false), (5, false), (6, false), (7, false)] [] [] (fun _ => default) [0, 99, 99, 99, 99, 99, 99, 99] [] (fun w' => w'.cell? ⟨p_b7, 0, none⟩ = some (.bool n_oa) ∧ w'.cell? ⟨p_b7, 1, none⟩ = some (.slice o_oa k_oa c_oa) ∧ w'.cell? ⟨p_b7, 2, none⟩ = some (.bool n_ob) ∧ w'.cell? ⟨p_b7, 3, none⟩ = some (.slice o_ob k_ob c_ob)) [fun w' => w'.cell? ⟨p_b7, 0, none⟩ = some (.bool n_oa) ∧ w'.cell? ⟨p_b7, 1, none⟩ = some (.slice o_oa k_oa c_oa) ∧ w'.cell? ⟨p_b7, 2, none⟩ = some (.bool n_ob) ∧ w'.cell? ⟨p_b7, 3, none⟩ = some (.slice o_ob k_ob c_ob)] (by kernel_rfl) (by kernel_rfl) (by kernel_rfl) (by kernel_rfl) (by kernel_rfl) (by kernel_rfl) (by kernel_rfl) (by kernel_rfl) (by decide) (by intro j hj; cases hj) (by intro w' o hC; obtain ⟨c0, c1, c2, c3⟩ := hC; exact ⟨cell_alloc c0 o, cell_alloc c1 o, cell_alloc c2 o, cell_alloc c3 o⟩) (by intro w' hC G hG; obtain ⟨c0, c1, c2, c3⟩ := hC; simp only [List.mem_cons, List.not_mem_nil, or_false] at hG; rcases hG with rfl <;> first | exact ⟨c0, c1, c2, c3⟩) ?_
  have lt_b7 := x_b7.lt
  intro w_42 hn
  replace lt_b7 := Nat.lt_of_lt_of_le lt_b7 hn.size
  replace o1 := o1.bl hn; replace o2 := o2.bl hn; replace x_b7 := x_b7.bl hn; replace hb := hb.trans (hn.mono hb.size)
  clear hn
  have kb0 := hb.size
  refine ⟨⟨x_b7.cell 0 rfl, x_b7.cell 1 rfl, x_b7.cell 2 rfl, x_b7.cell 3 rfl⟩, ?_⟩
  apply wpFl_ld rfl rfl; (case h1 => intro w' hC K hK; obtain ⟨c0, c1, c2, c3⟩ := hC; go_big_op; exact hK); iterate 4 kernel_rfl
  refine wpFl_call rfl (by kernel_rfl) fun w_43 hn hC => ?_; clear hC
  replace o1 := o1.bl hn; replace o2 := o2.bl hn; replace x_b7 := x_b7.bl hn; replace hb := hb.trans (hn.mono hb.size)
  clear hn; intro K hK
  go_big_op
  go_fit (fq_any 1 1 _ (by decide) (by decide) (by decide) (by decide))
  rintro e w_44 ⟨_, rfl, ⟨n_ua, o_ua, k_ua, c_ua, n_ub, o_ub, k_ub, c_ub, rfl, u1, u2⟩, hb_44⟩
  replace o1 := o1.bl hb_44; replace o2 := o2.bl hb_44; replace x_b7 := x_b7.bl hb_44; replace hb := hb.trans (hb_44.mono hb.size)
  have Lu1 := hide (u1.lenOf (L1.out))
  have Lu2 := hide (u2.lenOf (L1.out))
  refine hK _ _ rfl hb_44 ⟨x_b7.cell 0 rfl, x_b7.cell 1 rfl, x_b7.cell 2 rfl, x_b7.cell 3 rfl⟩ ?_
  clear hK K hb_44
  refine wpFl_call rfl (by kernel_rfl) fun w_45 hn hC => ?_; clear hC
  replace o1 := o1.bl hn; replace o2 := o2.bl hn; replace x_b7 := x_b7.bl hn; replace u1 := u1.bl hn; replace u2 := u2.bl hn; replace hb := hb.trans (hn.mono hb.size)
  clear hn; intro K hK
  go_big_op
  go_fit (fCmp_any (.mk' (o1.zn Lo1.out) (o2.zn Lo2.out)) (.mk' (u1.zn L1.out) (u2.zn L1.out)) (by omega) (by omega) (by omega) (by omega) NB.out (by decide))
  rintro e w_46 ⟨rfl, hb_46⟩
  replace o1 := o1.bl hb_46; replace o2 := o2.bl hb_46; replace x_b7 := x_b7.bl hb_46; replace u1 := u1.bl hb_46; replace u2 := u2.bl hb_46; replace hb := hb.trans (hb_46.mono hb.size)
  rw [HC4.out]
  refine hK _ _ rfl hb_46 ⟨x_b7.cell 0 rfl, x_b7.cell 1 rfl, x_b7.cell 2 rfl, x_b7.cell 3 rfl⟩ ?_
  clear hK K hb_46
  apply wpFl_ld rfl rfl; (case h1 => intro w' hC K hK; go_big_move; exact hK); iterate 4 kernel_rfl
  apply wpFl_ld rfl rfl; (case h1 => intro w' hC K hK; go_big_op; exact hK); iterate 4 kernel_rfl
  apply wpFl_ld rfl rfl; (case h1 => intro w' hC K hK; go_big_op; exact hK); iterate 4 kernel_rfl
  apply wpFl_ld rfl rfl; (case h1 => intro w' hC K hK; go_big_move; exact hK); iterate 4 kernel_rfl
  apply wpFl_ld rfl rfl; (case h1 => intro w' hC K hK; go_big_move; exact hK); iterate 4 kernel_rfl
  apply wpFl_end
  case ha => intro pt; simp only [putF]; rfl
  case h =>
  intro w_47 pt hn hC hF hD
  clear hC
  clear u1 u2
  replace o1 := o1.bl hn; replace o2 := o2.bl hn; replace x_b7 := x_b7.bl hn; replace hb := hb.trans (hn.mono hb.size)
  clear hn
  clear hF hD
  clear pt
  clear kb0 lt_b7
  apply wpTail_end
  refine hK20 _ _ ?_
  refine wp_seq_k ?_
  intro K21 hK21
  refine wp_region_sq [0, 1, 2, 3, 4, 5, 6, 7, 8, 9, 10, 11, 12, 13, 14, 15, 16, 17, 18] (by kernel_rfl) ?_
  refine wpSq_call rfl (by kernel_rfl) fun K hK => ?_
  go_big_move; refine hK _ _ rfl ?_; clear hK K
  refine wpSq_call rfl (by kernel_rfl) fun K hK => ?_
  go_big_op; refine hK _ _ rfl ?_; clear hK K
  refine wpSq_call rfl (by kernel_rfl) fun K hK => ?_
  go_big_move; refine hK _ _ rfl ?_; clear hK K
  refine wpSq_call rfl (by kernel_rfl) fun K hK => ?_
  go_big_move; refine hK _ _ rfl ?_; clear hK K
  refine wpSq_call rfl (by kernel_rfl) fun K hK => ?_
  go_big_op; refine hK _ _ rfl ?_; clear hK K
  refine wpSq_call rfl (by kernel_rfl) fun K hK => ?_
  go_big_op; refine hK _ _ rfl ?_; clear hK K
  refine wpSq_call rfl (by kernel_rfl) fun K hK => ?_
  go_big_move; refine hK _ _ rfl ?_; clear hK K
  refine wpSq_call rfl (by kernel_rfl) fun K hK => ?_
  go_big_move; refine hK _ _ rfl ?_; clear hK K
  refine wpSq_call rfl (by kernel_rfl) fun K hK => ?_
  go_big_op; refine hK _ _ rfl ?_; clear hK K
  refine wpSq_call rfl (by kernel_rfl) fun K hK => ?_
  go_big_op; refine hK _ _ rfl ?_; clear hK K
  refine wpSq_call rfl (by kernel_rfl) fun K hK => ?_
  go_big_move; refine hK _ _ rfl ?_; clear hK K
  refine wpSq_call rfl (by kernel_rfl) fun K hK => ?_
  go_big_move; refine hK _ _ rfl ?_; clear hK K
  refine wpSq_call rfl (by kernel_rfl) fun K hK => ?_
  go_big_op; refine hK _ _ rfl ?_; clear hK K
  refine wpSq_call rfl (by kernel_rfl) fun K hK => ?_
  go_big_op; refine hK _ _ rfl ?_; clear hK K
  refine wpSq_call rfl (by kernel_rfl) fun K hK => ?_
  go_big_move; refine hK _ _ rfl ?_; clear hK K
  refine wpSq_call rfl (by kernel_rfl) fun K hK => ?_
  go_big_move; refine hK _ _ rfl ?_; clear hK K
  refine wpSq_call rfl (by kernel_rfl) fun K hK => ?_
  go_big_op; refine hK _ _ rfl ?_; clear hK K
  refine wpSq_call rfl (by kernel_rfl) fun K hK => ?_
  go_big_op; refine hK _ _ rfl ?_; clear hK K
  refine wpSq_call rfl (by kernel_rfl) fun K hK => ?_
  go_big_move; refine hK _ _ rfl ?_; clear hK K
  apply wpSq_end
  refine hK21 _ _ ?_
  refine wp_ret ?_
  try dsimp only [Exit.then, Exit.inBlock]
  refine bodyPost_ret (v := (.bool true)) (by simp [results, Tryz.results9, go_sem]) rfl ?_
  exact ⟨rfl, hb⟩
set_option maxHeartbeats 8000000 in
set_option maxRecDepth 20000 in
theorem back_long (ha : PN w va x l y m) (hl : l ≤ 1048576) (hm : m ≤ 1048576) (h0 : y ≠ 0) (hs : 65536 < (qts x y).size) (htab : Lib.TabIs Tryz.prog w p10 .u64 Lib.pow10Tab) :
    Calls Tryz.prog 9 #[va] w fun e w' => e = .returned (.bool true) ∧ Below w.heap.size w w' := by
  have htabs := Lib.tabBelow_of_tabIs htab
  have HP := hide (fun w => fParse_long (qts x y) w hs)
  obtain ⟨S, hS⟩ : ∃ S, qts x y = S := ⟨_, rfl⟩
  rw [hS] at hs HP
  have HS := hide hS
  have z1 : (((S.size : Nat) : Int) ≤ 65536) = False := eq_false (by omega)
  have z2 : (65536 < ((S.size : Nat) : Int)) = True := eq_true (by omega)
  clear hS
  have hd := qD_pos (x := x) h0
  obtain ⟨w1, w2⟩ := nearest_q (x := x) h0
  obtain ⟨w3, w4⟩ := floor_q (x := x) h0
  obtain ⟨R, hR⟩ : ∃ R, rnd x y = R := ⟨_, rfl⟩
  obtain ⟨F, hF⟩ : ∃ F, x.fdiv y = F := ⟨_, rfl⟩
  have lR := rnd_len h0 ha.len1
  have lF := fdiv_len h0 ha.len1
  rw [hR] at w1 w2 lR
  rw [hF] at w3 w4 lF
  have n1 : y * 1 ≠ 0 := by omega
  obtain ⟨A1, A2, hA, nA, rA⟩ : ∃ a b, (qN (opSub (x * 1) (R * y)) (y * 1) = a ∧ qD (opSub (x * 1) (R * y)) (y * 1) = b) ∧ b ≠ 0 ∧ rv a b = rv x y - rv R 1 :=
    ⟨_, _, ⟨rfl, rfl⟩, by have := qD_pos (x := opSub (x * 1) (R * y)) n1; omega, by rw [rv_low n1, rv_opSub h0 (by decide)]⟩
  obtain ⟨B1, B2, hB, nB, rB⟩ : ∃ a b, (qN (opSub (x * 1) (F * y)) (y * 1) = a ∧ qD (opSub (x * 1) (F * y)) (y * 1) = b) ∧ b ≠ 0 ∧ rv a b = rv x y - rv F 1 :=
    ⟨_, _, ⟨rfl, rfl⟩, by have := qD_pos (x := opSub (x * 1) (F * y)) n1; omega, by rw [rv_low n1, rv_opSub h0 (by decide)]⟩
  rw [← rA, ← qcmp_rv nA (by decide)] at w1 w2
  rw [← rB, ← qcmp_rv nB (by decide)] at w3 w4
  obtain ⟨C1, hC1⟩ : ∃ C, qcmp A1 A2 (-1) 2 = C := ⟨_, rfl⟩
  obtain ⟨C2, hC2⟩ : ∃ C, qcmp A1 A2 1 2 = C := ⟨_, rfl⟩
  obtain ⟨C3, hC3⟩ : ∃ C, qcmp B1 B2 0 1 = C := ⟨_, rfl⟩
  obtain ⟨C4, hC4⟩ : ∃ C, qcmp B1 B2 1 1 = C := ⟨_, rfl⟩
  rw [hC1] at w1
  rw [hC2] at w2
  rw [hC3] at w3
  rw [hC4] at w4
  have f1 : (0 ≤ C1) = True := eq_true w1
  have f2 : (C2 < 0) = True := eq_true w2
  have f3 : (0 ≤ C3) = True := eq_true w3
  have f4 : (C4 < 0) = True := eq_true w4
  have HC1 := hide hC1
  have HC2 := hide hC2
  have HC3 := hide hC3
  have HC4 := hide hC4
  have H0 := hide h0
  have N1 := hide n1
  have NA := hide nA
  have NB := hide nB
  have HA := hide hA
  have HB := hide hB
  have HR := hide hR
  have HF := hide hF
  have LR := hide lR
  have LF := hide lF
  have L := fun (n : Int) (h : n.natAbs ≤ 100) => zlen_i n (by omega) (by omega)
  have L0 := hide (L 0 (by decide))
  have L1 := hide (L 1 (by decide))
  have L2 := hide (L 2 (by decide))
  have L3 := hide (L (-1) (by decide))
  clear L hd w1 w2 w3 w4 hR hF lR lF hA nA rA hB nB rB hC1 hC2 hC3 hC4 n1
  clear h0
  obtain ⟨n_0a, o_0a, k_0a, c_0a, n_0b, o_0b, k_0b, c_0b, rfl, ha1, ha2⟩ := ha
  go_enter Tryz.func9, Tryz.ntmps9
  have hb := Below.refl w.heap.size w
  refine wp_seq_k ?_
  intro K1 hK1
  refine wp_region_sq [0, 1] (by kernel_rfl) ?_
  refine wpSq_call rfl (by kernel_rfl) fun K hK => ?_
  go_big_op
  obtain ⟨p_b1, w_1, eP, eW, x_b1, hn, kb_b1⟩ := newBox w #[.bool n_0a, .slice o_0a k_0a c_0a, .bool n_0b, .slice o_0b k_0b c_0b] 26 hb.size
  rw [eW, eP]
  clear eW eP
  replace ha1 := ha1.bl hn; replace ha2 := ha2.bl hn; replace hb := hb.trans (hn.mono hb.size)
  refine hK _ _ rfl ?_; clear hK K hn
  refine wpSq_call rfl (by kernel_rfl) fun K hK => ?_
  go_big_move; refine hK _ _ rfl ?_; clear hK K
  apply wpSq_end
  refine hK1 _ _ ?_
  refine wp_seq_k ?_
  intro K2 hK2
  refine wp_seq_k ?_
  intro K3 hK3
  refine wp_region_sq [0, 1] (by kernel_rfl) ?_
  refine wpSq_call rfl (by kernel_rfl) fun K hK => ?_
  go_big_op
  go_fit (fawake_any _ (htabs _ hb))
  rintro e w_2 ⟨rfl, hb_2⟩
  replace ha1 := ha1.bl hb_2; replace ha2 := ha2.bl hb_2; replace x_b1 := x_b1.bl hb_2; replace hb := hb.trans (hb_2.mono hb.size)
  refine hK _ _ rfl ?_
  clear hK K hb_2
  refine wpSq_call rfl (by kernel_rfl) fun K hK => ?_
  go_big_op; refine hK _ _ rfl ?_; clear hK K
  apply wpSq_end
  refine hK3 _ _ ?_
  refine wp_cond_false (congrArg Value.bool (show _ = false from (by first | rfl | assumption | (simp; done) | exact decide_eq_false (by omega) | omega))) ?_
  refine wp_skip ?_
  refine hK2 _ _ ?_
  refine wp_seq_k ?_
  intro K4 hK4
  refine wp_seq_k ?_
  intro K5 hK5
  refine wp_region_sq [0, 1] (by kernel_rfl) ?_
  refine wpSq_call rfl (by kernel_rfl) fun K hK => ?_
  obtain ⟨d0, d1, d2, d3⟩ := x_b1.f4
  go_big_op; refine hK _ _ rfl ?_; clear hK K d0 d1 d2 d3
  refine wpSq_call rfl (by kernel_rfl) fun K hK => ?_
  go_big_op
  go_fit (rbad_no (PN.mk' ha1 ha2) (by omega) (by omega) H0.out)
  rintro e w_3 ⟨rfl, hb_3⟩
  replace ha1 := ha1.bl hb_3; replace ha2 := ha2.bl hb_3; replace x_b1 := x_b1.bl hb_3; replace hb := hb.trans (hb_3.mono hb.size)
  refine hK _ _ rfl ?_
  clear hK K hb_3
  apply wpSq_end
  refine hK5 _ _ ?_
  refine wp_cond_false (congrArg Value.bool (show _ = false from (by first | rfl | assumption | (simp; done) | exact decide_eq_false (by omega) | omega))) ?_
  refine wp_skip ?_
  refine hK4 _ _ ?_
  refine wp_seq_k ?_
  intro K6 hK6
  refine wp_region_sq [0, 1, 2, 3, 4, 5, 6] (by kernel_rfl) ?_
  refine wpSq_call rfl (by kernel_rfl) fun K hK => ?_
  obtain ⟨d0, d1, d2, d3⟩ := x_b1.f4
  go_big_op; refine hK _ _ rfl ?_; clear hK K d0 d1 d2 d3
  refine wpSq_call rfl (by kernel_rfl) fun K hK => ?_
  go_big_op
  go_fit (fText_any (PN.mk' ha1 ha2) (by omega) (by omega) H0.out (htabs _ hb))
  rintro e w_4 ⟨rfl, hb_4⟩
  replace ha1 := ha1.bl hb_4; replace ha2 := ha2.bl hb_4; replace x_b1 := x_b1.bl hb_4; replace hb := hb.trans (hb_4.mono hb.size)
  rw [HS.out]
  refine hK _ _ rfl ?_
  clear hK K hb_4
  refine wpSq_call rfl (by kernel_rfl) fun K hK => ?_
  go_big_move; refine hK _ _ rfl ?_; clear hK K
  refine wpSq_call rfl (by kernel_rfl) fun K hK => ?_
  go_big_op; refine hK _ _ rfl ?_; clear hK K
  refine wpSq_call rfl (by kernel_rfl) fun K hK => ?_
  go_big_op; refine hK _ _ rfl ?_; clear hK K
  refine wpSq_call rfl (by kernel_rfl) fun K hK => ?_
  go_big_move; refine hK _ _ rfl ?_; clear hK K
  refine wpSq_call rfl (by kernel_rfl) fun K hK => ?_
  go_big_move; refine hK _ _ rfl ?_; clear hK K
  apply wpSq_end
  refine hK6 _ _ ?_
  refine wp_seq_k ?_
  intro K7 hK7
  refine wp_region_sq [0, 1, 2, 3, 4, 5, 6, 7] (by kernel_rfl) ?_
  refine wpSq_call rfl (by kernel_rfl) fun K hK => ?_
  go_big_move; refine hK _ _ rfl ?_; clear hK K
  refine wpSq_call rfl (by kernel_rfl) fun K hK => ?_
  go_big_op
  go_fit (HP.out _)
  rintro e w_5 ⟨rfl, hb_5⟩
  replace ha1 := ha1.bl hb_5; replace ha2 := ha2.bl hb_5; replace x_b1 := x_b1.bl hb_5; replace hb := hb.trans (hb_5.mono hb.size)
  refine hK _ _ rfl ?_
  clear hK K hb_5
  refine wpSq_call rfl (by kernel_rfl) fun K hK => ?_
  go_big_move; refine hK _ _ rfl ?_; clear hK K
  refine wpSq_call rfl (by kernel_rfl) fun K hK => ?_
  go_big_op; refine hK _ _ rfl ?_; clear hK K
  refine wpSq_call rfl (by kernel_rfl) fun K hK => ?_
  go_big_op; refine hK _ _ rfl ?_; clear hK K
  refine wpSq_call rfl (by kernel_rfl) fun K hK => ?_
  go_big_op
  have lt_b1 := x_b1.lt
  obtain ⟨p_b2, w_6, eP, eW, x_b2, hn, kb_b2⟩ := newBox w_5 #[.bool false, .slice none 0 0, .bool false, .slice none 0 0] 26 hb.size
  have ne_b1_b2 : Hid (p_b1 ≠ p_b2) := Nat.ne_of_lt (eP ▸ lt_b1)
  rw [eW, eP]
  clear eW eP lt_b1
  replace ha1 := ha1.bl hn; replace ha2 := ha2.bl hn; replace x_b1 := x_b1.bl hn; replace hb := hb.trans (hn.mono hb.size)
  refine hK _ _ rfl ?_; clear hK K hn
  refine wpSq_call rfl (by kernel_rfl) fun K hK => ?_
  obtain ⟨d0, d1, d2, d3⟩ := x_b2.f4
  have f0 := x_b2.free 0; have f1 := x_b2.free 1; have f2 := x_b2.free 2; have f3 := x_b2.free 3
  go_big_op
  have hnd := x_b2.nod rfl rfl
  obtain ⟨w_7, eW, x_b2', ho⟩ : ∃ w', ((((w_6.setCell ⟨p_b2, 0, none⟩ (.bool false)).setCell ⟨p_b2, 1, none⟩ (.slice none 0 0)).setCell ⟨p_b2, 2, none⟩ (.bool false)).setCell ⟨p_b2, 3, none⟩ (.slice none 0 0)) = w' ∧ Bs w' p_b2 #[.bool false, .slice none 0 0, .bool false, .slice none 0 0] 26 ∧ Only p_b2 w_6 w' := x_b2.setN [(0, .bool false), (1, .slice none 0 0), (2, .bool false), (3, .slice none 0 0)]
  rw [eW]; clear eW d0 d1 d2 d3 f0 f1 f2 f3 x_b2
  have x_b2 := x_b2'; clear x_b2'
  replace ha1 := ha1.fr hnd ho; replace ha2 := ha2.fr hnd ho; replace x_b1 := x_b1.frame ho ne_b1_b2; replace hb := belowOnly hb ho kb_b2
  refine hK _ _ rfl ?_; clear hK K ho hnd
  refine wpSq_call rfl (by kernel_rfl) fun K hK => ?_
  go_big_move; refine hK _ _ rfl ?_; clear hK K
  apply wpSq_end
  refine hK7 _ _ ?_
  refine wp_seq_k ?_
  intro K8 hK8
  refine wp_seq_k ?_
  intro K9 hK9
  refine wp_region_sq [0, 1, 2, 3, 4, 5, 6, 7, 8, 9, 10, 11, 12, 13, 14, 15, 16, 17, 18, 19, 20, 21, 22, 23, 24, 25] (by kernel_rfl) ?_
  refine wpSq_call rfl (by kernel_rfl) fun K hK => ?_
  go_big_move; refine hK _ _ rfl ?_; clear hK K
  refine wpSq_call rfl (by kernel_rfl) fun K hK => ?_
  go_big_op; refine hK _ _ rfl ?_; clear hK K
  refine wpSq_call rfl (by kernel_rfl) fun K hK => ?_
  go_big_move; refine hK _ _ rfl ?_; clear hK K
  refine wpSq_call rfl (by kernel_rfl) fun K hK => ?_
  go_big_move; refine hK _ _ rfl ?_; clear hK K
  refine wpSq_call rfl (by kernel_rfl) fun K hK => ?_
  go_big_op; refine hK _ _ rfl ?_; clear hK K
  refine wpSq_call rfl (by kernel_rfl) fun K hK => ?_
  go_big_op; refine hK _ _ rfl ?_; clear hK K
  refine wpSq_call rfl (by kernel_rfl) fun K hK => ?_
  go_big_move; refine hK _ _ rfl ?_; clear hK K
  apply wpSq_skip
  case hi => rfl
  case hw => kernel_rfl
  case hp => unfold Act.put; simp only [List.setIfInBounds_toArray, List.set_cons_succ, List.set_cons_zero]; rfl
  apply wpSq_skip
  case hi => rfl
  case hw => kernel_rfl
  case hp => unfold Act.put; simp only [List.setIfInBounds_toArray, List.set_cons_succ, List.set_cons_zero]; rfl
  apply wpSq_skip
  case hi => rfl
  case hw => kernel_rfl
  case hp => unfold Act.put; simp only [List.setIfInBounds_toArray, List.set_cons_succ, List.set_cons_zero]; rfl
  apply wpSq_skip
  case hi => rfl
  case hw => kernel_rfl
  case hp => unfold Act.put; simp only [List.setIfInBounds_toArray, List.set_cons_succ, List.set_cons_zero]; rfl
  apply wpSq_skip
  case hi => rfl
  case hw => kernel_rfl
  case hp => unfold Act.put; simp only [List.setIfInBounds_toArray, List.set_cons_succ, List.set_cons_zero]; rfl
  apply wpSq_skip
  case hi => rfl
  case hw => kernel_rfl
  case hp => unfold Act.put; simp only [List.setIfInBounds_toArray, List.set_cons_succ, List.set_cons_zero]; rfl
  apply wpSq_skip
  case hi => rfl
  case hw => kernel_rfl
  case hp => unfold Act.put; simp only [List.setIfInBounds_toArray, List.set_cons_succ, List.set_cons_zero]; rfl
  apply wpSq_skip
  case hi => rfl
  case hw => kernel_rfl
  case hp => unfold Act.put; simp only [List.setIfInBounds_toArray, List.set_cons_succ, List.set_cons_zero]; rfl
  refine wpSq_call rfl (by kernel_rfl) fun K hK => ?_
  go_big_op; refine hK _ _ rfl ?_; clear hK K
  refine wpSq_call rfl (by kernel_rfl) fun K hK => ?_
  go_big_op; refine hK _ _ rfl ?_; clear hK K
  refine wpSq_call rfl (by kernel_rfl) fun K hK => ?_
  go_big_move; refine hK _ _ rfl ?_; clear hK K
  refine wpSq_call rfl (by kernel_rfl) fun K hK => ?_
  go_big_move; refine hK _ _ rfl ?_; clear hK K
  refine wpSq_call rfl (by kernel_rfl) fun K hK => ?_
  go_big_op; refine hK _ _ rfl ?_; clear hK K
  refine wpSq_call rfl (by kernel_rfl) fun K hK => ?_
  go_big_op; refine hK _ _ rfl ?_; clear hK K
  refine wpSq_call rfl (by kernel_rfl) fun K hK => ?_
  go_big_move; refine hK _ _ rfl ?_; clear hK K
  refine wpSq_call rfl (by kernel_rfl) fun K hK => ?_
  go_big_move; refine hK _ _ rfl ?_; clear hK K
  refine wpSq_call rfl (by kernel_rfl) fun K hK => ?_
  go_big_op; refine hK _ _ rfl ?_; clear hK K
  refine wpSq_call rfl (by kernel_rfl) fun K hK => ?_
  go_big_op; refine hK _ _ rfl ?_; clear hK K
  refine wpSq_call rfl (by kernel_rfl) fun K hK => ?_
  go_big_op; refine hK _ _ rfl ?_; clear hK K
  apply wpSq_end
  refine hK9 _ _ ?_
  refine wp_cond_false (congrArg Value.bool (show _ = false from (by first | rfl | assumption | (simp; done) | exact decide_eq_false (by omega) | omega))) ?_
  refine wp_skip ?_
  refine hK8 _ _ ?_
  refine wp_seq_k ?_
  intro K10 hK10
  refine wp_region_sq [0, 1, 2, 3, 4, 5, 6, 7] (by kernel_rfl) ?_
  refine wpSq_call rfl (by kernel_rfl) fun K hK => ?_
  obtain ⟨d0, d1, d2, d3⟩ := x_b1.f4
  go_big_op; refine hK _ _ rfl ?_; clear hK K d0 d1 d2 d3
  refine wpSq_call rfl (by kernel_rfl) fun K hK => ?_
  go_big_op
  go_fit (fRound_any (PN.mk' ha1 ha2) (by omega) (by omega) H0.out)
  rintro e w_8 ⟨v_g, rfl, g, hb_8⟩
  clear x_b2
  replace ha1 := ha1.bl hb_8; replace ha2 := ha2.bl hb_8; replace x_b1 := x_b1.bl hb_8; replace hb := hb.trans (hb_8.mono hb.size)
  obtain ⟨n_g, o_g, k_g, c_g, rfl⟩ := g.open2
  have Lg := hide (g.lenOf (rnd_len (H0.out) (ha1.len)))
  rw [HR.out] at g Lg
  refine hK _ _ rfl ?_
  clear hK K hb_8
  refine wpSq_call rfl (by kernel_rfl) fun K hK => ?_
  go_big_move; refine hK _ _ rfl ?_; clear hK K
  refine wpSq_call rfl (by kernel_rfl) fun K hK => ?_
  go_big_op; refine hK _ _ rfl ?_; clear hK K
  refine wpSq_call rfl (by kernel_rfl) fun K hK => ?_
  go_big_op; refine hK _ _ rfl ?_; clear hK K
  refine wpSq_call rfl (by kernel_rfl) fun K hK => ?_
  go_big_op
  have lt_b1 := x_b1.lt
  obtain ⟨p_b3, w_9, eP, eW, x_b3, hn, kb_b3⟩ := newBox w_8 #[.bool false, .slice none 0 0] 24 hb.size
  have ne_b1_b3 : Hid (p_b1 ≠ p_b3) := Nat.ne_of_lt (eP ▸ lt_b1)
  rw [eW, eP]
  clear eW eP lt_b1
  replace ha1 := ha1.bl hn; replace ha2 := ha2.bl hn; replace x_b1 := x_b1.bl hn; replace g := g.bl hn; replace hb := hb.trans (hn.mono hb.size)
  refine hK _ _ rfl ?_; clear hK K hn
  refine wpSq_call rfl (by kernel_rfl) fun K hK => ?_
  obtain ⟨d0, d1⟩ := x_b3.f2
  have f0 := x_b3.free 0; have f1 := x_b3.free 1
  go_big_op
  have hnd := x_b3.nod rfl rfl
  obtain ⟨w_10, eW, x_b3', ho⟩ : ∃ w', ((w_9.setCell ⟨p_b3, 0, none⟩ (.bool n_g)).setCell ⟨p_b3, 1, none⟩ (.slice o_g k_g c_g)) = w' ∧ Bs w' p_b3 #[.bool n_g, .slice o_g k_g c_g] 24 ∧ Only p_b3 w_9 w' := x_b3.setN [(0, .bool n_g), (1, .slice o_g k_g c_g)]
  rw [eW]; clear eW d0 d1 f0 f1 x_b3
  have x_b3 := x_b3'; clear x_b3'
  replace ha1 := ha1.fr hnd ho; replace ha2 := ha2.fr hnd ho; replace x_b1 := x_b1.frame ho ne_b1_b3; replace g := g.fr hnd ho; replace hb := belowOnly hb ho kb_b3
  refine hK _ _ rfl ?_; clear hK K ho hnd
  refine wpSq_call rfl (by kernel_rfl) fun K hK => ?_
  go_big_move; refine hK _ _ rfl ?_; clear hK K
  apply wpSq_end
  refine hK10 _ _ ?_
  refine wp_seq_k ?_
  intro K11 hK11
  refine wp_region_sq [0, 1, 2, 3, 4, 5, 6, 7] (by kernel_rfl) ?_
  refine wpSq_call rfl (by kernel_rfl) fun K hK => ?_
  obtain ⟨d0, d1, d2, d3⟩ := x_b1.f4
  go_big_op; refine hK _ _ rfl ?_; clear hK K d0 d1 d2 d3
  refine wpSq_call rfl (by kernel_rfl) fun K hK => ?_
  go_big_op
  go_fit (fFloor_any (PN.mk' ha1 ha2) (by omega) (by omega) H0.out)
  rintro e w_11 ⟨v_h, rfl, h, hb_11⟩
  replace ha1 := ha1.bl hb_11; replace ha2 := ha2.bl hb_11; replace x_b1 := x_b1.bl hb_11; replace g := g.bl hb_11; replace x_b3 := x_b3.bl hb_11; replace hb := hb.trans (hb_11.mono hb.size)
  obtain ⟨n_h, o_h, k_h, c_h, rfl⟩ := h.open2
  have Lh := hide (h.lenOf (fdiv_len (H0.out) (ha1.len)))
  rw [HF.out] at h Lh
  refine hK _ _ rfl ?_
  clear hK K hb_11
  refine wpSq_call rfl (by kernel_rfl) fun K hK => ?_
  go_big_move; refine hK _ _ rfl ?_; clear hK K
  refine wpSq_call rfl (by kernel_rfl) fun K hK => ?_
  go_big_op; refine hK _ _ rfl ?_; clear hK K
  refine wpSq_call rfl (by kernel_rfl) fun K hK => ?_
  go_big_op; refine hK _ _ rfl ?_; clear hK K
  refine wpSq_call rfl (by kernel_rfl) fun K hK => ?_
  go_big_op
  have lt_b1 := x_b1.lt
  have lt_b3 := x_b3.lt
  obtain ⟨p_b4, w_12, eP, eW, x_b4, hn, kb_b4⟩ := newBox w_11 #[.bool false, .slice none 0 0] 24 hb.size
  have ne_b1_b4 : Hid (p_b1 ≠ p_b4) := Nat.ne_of_lt (eP ▸ lt_b1)
  have ne_b3_b4 : Hid (p_b3 ≠ p_b4) := Nat.ne_of_lt (eP ▸ lt_b3)
  rw [eW, eP]
  clear eW eP lt_b1 lt_b3
  replace ha1 := ha1.bl hn; replace ha2 := ha2.bl hn; replace x_b1 := x_b1.bl hn; replace g := g.bl hn; replace x_b3 := x_b3.bl hn; replace h := h.bl hn; replace hb := hb.trans (hn.mono hb.size)
  refine hK _ _ rfl ?_; clear hK K hn
  refine wpSq_call rfl (by kernel_rfl) fun K hK => ?_
  obtain ⟨d0, d1⟩ := x_b4.f2
  have f0 := x_b4.free 0; have f1 := x_b4.free 1
  go_big_op
  have hnd := x_b4.nod rfl rfl
  obtain ⟨w_13, eW, x_b4', ho⟩ : ∃ w', ((w_12.setCell ⟨p_b4, 0, none⟩ (.bool n_h)).setCell ⟨p_b4, 1, none⟩ (.slice o_h k_h c_h)) = w' ∧ Bs w' p_b4 #[.bool n_h, .slice o_h k_h c_h] 24 ∧ Only p_b4 w_12 w' := x_b4.setN [(0, .bool n_h), (1, .slice o_h k_h c_h)]
  rw [eW]; clear eW d0 d1 f0 f1 x_b4
  have x_b4 := x_b4'; clear x_b4'
  replace ha1 := ha1.fr hnd ho; replace ha2 := ha2.fr hnd ho; replace x_b1 := x_b1.frame ho ne_b1_b4; replace g := g.fr hnd ho; replace x_b3 := x_b3.frame ho ne_b3_b4; replace h := h.fr hnd ho; replace hb := belowOnly hb ho kb_b4
  refine hK _ _ rfl ?_; clear hK K ho hnd
  refine wpSq_call rfl (by kernel_rfl) fun K hK => ?_
  go_big_move; refine hK _ _ rfl ?_; clear hK K
  apply wpSq_end
  refine hK11 _ _ ?_
  refine wp_seq_k ?_
  intro K12 hK12
  refine wp_region_sq [0, 1, 2] (by kernel_rfl) ?_
  refine wpSq_call rfl (by kernel_rfl) fun K hK => ?_
  go_big_op
  go_fit (ri_any 1 _ (by decide) (by decide))
  rintro e w_14 ⟨v_i, rfl, i, hb_14⟩
  replace ha1 := ha1.bl hb_14; replace ha2 := ha2.bl hb_14; replace x_b1 := x_b1.bl hb_14; replace g := g.bl hb_14; replace x_b3 := x_b3.bl hb_14; replace h := h.bl hb_14; replace x_b4 := x_b4.bl hb_14; replace hb := hb.trans (hb_14.mono hb.size)
  replace i := i.rd
  obtain ⟨n_i, o_i, k_i, c_i, rfl⟩ := i.open2
  have Li := hide (i.lenOf (L1.out))
  refine hK _ _ rfl ?_
  clear hK K hb_14
  refine wpSq_call rfl (by kernel_rfl) fun K hK => ?_
  go_big_op
  have lt_b1 := x_b1.lt
  have lt_b3 := x_b3.lt
  have lt_b4 := x_b4.lt
  obtain ⟨p_b5, w_15, eP, eW, x_b5, hn, kb_b5⟩ := newBox w_14 #[.bool false, .slice none 0 0] 24 hb.size
  have ne_b1_b5 : Hid (p_b1 ≠ p_b5) := Nat.ne_of_lt (eP ▸ lt_b1)
  have ne_b3_b5 : Hid (p_b3 ≠ p_b5) := Nat.ne_of_lt (eP ▸ lt_b3)
  have ne_b4_b5 : Hid (p_b4 ≠ p_b5) := Nat.ne_of_lt (eP ▸ lt_b4)
  rw [eW, eP]
  clear eW eP lt_b1 lt_b3 lt_b4
  replace ha1 := ha1.bl hn; replace ha2 := ha2.bl hn; replace x_b1 := x_b1.bl hn; replace g := g.bl hn; replace x_b3 := x_b3.bl hn; replace h := h.bl hn; replace x_b4 := x_b4.bl hn; replace i := i.bl hn; replace hb := hb.trans (hn.mono hb.size)
  refine hK _ _ rfl ?_; clear hK K hn
  refine wpSq_call rfl (by kernel_rfl) fun K hK => ?_
  obtain ⟨d0, d1⟩ := x_b5.f2
  have f0 := x_b5.free 0; have f1 := x_b5.free 1
  go_big_op
  have hnd := x_b5.nod rfl rfl
  obtain ⟨w_16, eW, x_b5', ho⟩ : ∃ w', ((w_15.setCell ⟨p_b5, 0, none⟩ (.bool n_i)).setCell ⟨p_b5, 1, none⟩ (.slice o_i k_i c_i)) = w' ∧ Bs w' p_b5 #[.bool n_i, .slice o_i k_i c_i] 24 ∧ Only p_b5 w_15 w' := x_b5.setN [(0, .bool n_i), (1, .slice o_i k_i c_i)]
  rw [eW]; clear eW d0 d1 f0 f1 x_b5
  have x_b5 := x_b5'; clear x_b5'
  replace ha1 := ha1.fr hnd ho; replace ha2 := ha2.fr hnd ho; replace x_b1 := x_b1.frame ho ne_b1_b5; replace g := g.fr hnd ho; replace x_b3 := x_b3.frame ho ne_b3_b5; replace h := h.fr hnd ho; replace x_b4 := x_b4.frame ho ne_b4_b5; replace i := i.fr hnd ho; replace hb := belowOnly hb ho kb_b5
  refine hK _ _ rfl ?_; clear hK K ho hnd
  apply wpSq_end
  refine hK12 _ _ ?_
  refine wp_seq_k ?_
  intro K13 hK13
  refine wp_region_sq [0, 1, 2, 3, 4, 5, 6, 7, 8, 9, 10] (by kernel_rfl) ?_
  refine wpSq_call rfl (by kernel_rfl) fun K hK => ?_
  obtain ⟨d0, d1, d2, d3⟩ := x_b1.f4
  go_big_op; refine hK _ _ rfl ?_; clear hK K d0 d1 d2 d3
  refine wpSq_call rfl (by kernel_rfl) fun K hK => ?_
  obtain ⟨d0, d1⟩ := x_b3.f2
  go_big_op; refine hK _ _ rfl ?_; clear hK K d0 d1
  refine wpSq_call rfl (by kernel_rfl) fun K hK => ?_
  obtain ⟨d0, d1⟩ := x_b5.f2
  go_big_op; refine hK _ _ rfl ?_; clear hK K d0 d1
  refine wpSq_call rfl (by kernel_rfl) fun K hK => ?_
  go_big_op; refine hK _ _ rfl ?_; clear hK K
  refine wpSq_call rfl (by kernel_rfl) fun K hK => ?_
  go_big_op
  go_fit (fSub_any (PN.mk' ha1 ha2) (PN.mk' (g.zn Lg.out) (i.zn Li.out)) (by omega) (by omega) (by omega) (by omega) N1.out)
  rintro e w_17 ⟨_, rfl, ⟨n_ja, o_ja, k_ja, c_ja, n_jb, o_jb, k_jb, c_jb, rfl, j1, j2⟩, hb_17⟩
  clear x_b3
  replace ha1 := ha1.bl hb_17; replace ha2 := ha2.bl hb_17; replace x_b1 := x_b1.bl hb_17; replace g := g.bl hb_17; replace h := h.bl hb_17; replace x_b4 := x_b4.bl hb_17; replace i := i.bl hb_17; replace x_b5 := x_b5.bl hb_17; replace hb := hb.trans (hb_17.mono hb.size)
  have Lj1 := hide (j1.lenOf (qN_len (N1.out) (zlen_opSub (zlen_mul (ha1.len) (Li.out)) (zlen_mul (Lg.out) (ha2.len)))))
  have Lj2 := hide (j2.lenOf (qD_len (N1.out) (zlen_mul (ha2.len) (Li.out))))
  rw [HA.out.1] at j1 Lj1
  rw [HA.out.2] at j2 Lj2
  refine hK _ _ rfl ?_
  clear hK K hb_17
  refine wpSq_call rfl (by kernel_rfl) fun K hK => ?_
  go_big_move; refine hK _ _ rfl ?_; clear hK K
  refine wpSq_call rfl (by kernel_rfl) fun K hK => ?_
  go_big_op; refine hK _ _ rfl ?_; clear hK K
  refine wpSq_call rfl (by kernel_rfl) fun K hK => ?_
  go_big_op; refine hK _ _ rfl ?_; clear hK K
  refine wpSq_call rfl (by kernel_rfl) fun K hK => ?_
  go_big_op
  clear g
  have lt_b1 := x_b1.lt
  have lt_b4 := x_b4.lt
  have lt_b5 := x_b5.lt
  obtain ⟨p_b6, w_18, eP, eW, x_b6, hn, kb_b6⟩ := newBox w_17 #[.bool false, .slice none 0 0, .bool false, .slice none 0 0] 26 hb.size
  have ne_b1_b6 : Hid (p_b1 ≠ p_b6) := Nat.ne_of_lt (eP ▸ lt_b1)
  have ne_b4_b6 : Hid (p_b4 ≠ p_b6) := Nat.ne_of_lt (eP ▸ lt_b4)
  have ne_b5_b6 : Hid (p_b5 ≠ p_b6) := Nat.ne_of_lt (eP ▸ lt_b5)
  rw [eW, eP]
  clear eW eP lt_b1 lt_b4 lt_b5
  replace ha1 := ha1.bl hn; replace ha2 := ha2.bl hn; replace x_b1 := x_b1.bl hn; replace h := h.bl hn; replace x_b4 := x_b4.bl hn; replace i := i.bl hn; replace x_b5 := x_b5.bl hn; replace j1 := j1.bl hn; replace j2 := j2.bl hn; replace hb := hb.trans (hn.mono hb.size)
  refine hK _ _ rfl ?_; clear hK K hn
  refine wpSq_call rfl (by kernel_rfl) fun K hK => ?_
  obtain ⟨d0, d1, d2, d3⟩ := x_b6.f4
  have f0 := x_b6.free 0; have f1 := x_b6.free 1; have f2 := x_b6.free 2; have f3 := x_b6.free 3
  go_big_op
  have hnd := x_b6.nod rfl rfl
  obtain ⟨w_19, eW, x_b6', ho⟩ : ∃ w', ((((w_18.setCell ⟨p_b6, 0, none⟩ (.bool n_ja)).setCell ⟨p_b6, 1, none⟩ (.slice o_ja k_ja c_ja)).setCell ⟨p_b6, 2, none⟩ (.bool n_jb)).setCell ⟨p_b6, 3, none⟩ (.slice o_jb k_jb c_jb)) = w' ∧ Bs w' p_b6 #[.bool n_ja, .slice o_ja k_ja c_ja, .bool n_jb, .slice o_jb k_jb c_jb] 26 ∧ Only p_b6 w_18 w' := x_b6.setN [(0, .bool n_ja), (1, .slice o_ja k_ja c_ja), (2, .bool n_jb), (3, .slice o_jb k_jb c_jb)]
  rw [eW]; clear eW d0 d1 d2 d3 f0 f1 f2 f3 x_b6
  have x_b6 := x_b6'; clear x_b6'
  replace ha1 := ha1.fr hnd ho; replace ha2 := ha2.fr hnd ho; replace x_b1 := x_b1.frame ho ne_b1_b6; replace h := h.fr hnd ho; replace x_b4 := x_b4.frame ho ne_b4_b6; replace i := i.fr hnd ho; replace x_b5 := x_b5.frame ho ne_b5_b6; replace j1 := j1.fr hnd ho; replace j2 := j2.fr hnd ho; replace hb := belowOnly hb ho kb_b6
  refine hK _ _ rfl ?_; clear hK K ho hnd
  refine wpSq_call rfl (by kernel_rfl) fun K hK => ?_
  go_big_move; refine hK _ _ rfl ?_; clear hK K
  apply wpSq_end
  refine hK13 _ _ ?_
  refine wp_seq_k ?_
  intro K14 hK14
  refine wp_region_sq [0, 1, 2, 3, 4, 5, 6, 7, 8, 9, 10] (by kernel_rfl) ?_
  refine wpSq_call rfl (by kernel_rfl) fun K hK => ?_
  obtain ⟨d0, d1, d2, d3⟩ := x_b1.f4
  go_big_op; refine hK _ _ rfl ?_; clear hK K d0 d1 d2 d3
  refine wpSq_call rfl (by kernel_rfl) fun K hK => ?_
  obtain ⟨d0, d1⟩ := x_b4.f2
  go_big_op; refine hK _ _ rfl ?_; clear hK K d0 d1
  refine wpSq_call rfl (by kernel_rfl) fun K hK => ?_
  obtain ⟨d0, d1⟩ := x_b5.f2
  go_big_op; refine hK _ _ rfl ?_; clear hK K d0 d1
  refine wpSq_call rfl (by kernel_rfl) fun K hK => ?_
  go_big_op; refine hK _ _ rfl ?_; clear hK K
  refine wpSq_call rfl (by kernel_rfl) fun K hK => ?_
  go_big_op
  go_fit (fSub_any (PN.mk' ha1 ha2) (PN.mk' (h.zn Lh.out) (i.zn Li.out)) (by omega) (by omega) (by omega) (by omega) N1.out)
  rintro e w_20 ⟨_, rfl, ⟨n_oa, o_oa, k_oa, c_oa, n_ob, o_ob, k_ob, c_ob, rfl, o1, o2⟩, hb_20⟩
  clear x_b1 x_b4 x_b5
  replace ha1 := ha1.bl hb_20; replace ha2 := ha2.bl hb_20; replace h := h.bl hb_20; replace i := i.bl hb_20; replace j1 := j1.bl hb_20; replace j2 := j2.bl hb_20; replace x_b6 := x_b6.bl hb_20; replace hb := hb.trans (hb_20.mono hb.size)
  have Lo1 := hide (o1.lenOf (qN_len (N1.out) (zlen_opSub (zlen_mul (ha1.len) (Li.out)) (zlen_mul (Lh.out) (ha2.len)))))
  have Lo2 := hide (o2.lenOf (qD_len (N1.out) (zlen_mul (ha2.len) (Li.out))))
  rw [HB.out.1] at o1 Lo1
  rw [HB.out.2] at o2 Lo2
  refine hK _ _ rfl ?_
  clear hK K hb_20
  refine wpSq_call rfl (by kernel_rfl) fun K hK => ?_
  go_big_move; refine hK _ _ rfl ?_; clear hK K
  refine wpSq_call rfl (by kernel_rfl) fun K hK => ?_
  go_big_op; refine hK _ _ rfl ?_; clear hK K
  refine wpSq_call rfl (by kernel_rfl) fun K hK => ?_
  go_big_op; refine hK _ _ rfl ?_; clear hK K
  refine wpSq_call rfl (by kernel_rfl) fun K hK => ?_
  go_big_op
  clear ha1 ha2 h i
  have lt_b6 := x_b6.lt
  obtain ⟨p_b7, w_21, eP, eW, x_b7, hn, kb_b7⟩ := newBox w_20 #[.bool false, .slice none 0 0, .bool false, .slice none 0 0] 26 hb.size
  have ne_b6_b7 : Hid (p_b6 ≠ p_b7) := Nat.ne_of_lt (eP ▸ lt_b6)
  rw [eW, eP]
  clear eW eP lt_b6
  replace j1 := j1.bl hn; replace j2 := j2.bl hn; replace x_b6 := x_b6.bl hn; replace o1 := o1.bl hn; replace o2 := o2.bl hn; replace hb := hb.trans (hn.mono hb.size)
  refine hK _ _ rfl ?_; clear hK K hn
  refine wpSq_call rfl (by kernel_rfl) fun K hK => ?_
  obtain ⟨d0, d1, d2, d3⟩ := x_b7.f4
  have f0 := x_b7.free 0; have f1 := x_b7.free 1; have f2 := x_b7.free 2; have f3 := x_b7.free 3
  go_big_op
  have hnd := x_b7.nod rfl rfl
  obtain ⟨w_22, eW, x_b7', ho⟩ : ∃ w', ((((w_21.setCell ⟨p_b7, 0, none⟩ (.bool n_oa)).setCell ⟨p_b7, 1, none⟩ (.slice o_oa k_oa c_oa)).setCell ⟨p_b7, 2, none⟩ (.bool n_ob)).setCell ⟨p_b7, 3, none⟩ (.slice o_ob k_ob c_ob)) = w' ∧ Bs w' p_b7 #[.bool n_oa, .slice o_oa k_oa c_oa, .bool n_ob, .slice o_ob k_ob c_ob] 26 ∧ Only p_b7 w_21 w' := x_b7.setN [(0, .bool n_oa), (1, .slice o_oa k_oa c_oa), (2, .bool n_ob), (3, .slice o_ob k_ob c_ob)]
  rw [eW]; clear eW d0 d1 d2 d3 f0 f1 f2 f3 x_b7
  have x_b7 := x_b7'; clear x_b7'
  replace j1 := j1.fr hnd ho; replace j2 := j2.fr hnd ho; replace x_b6 := x_b6.frame ho ne_b6_b7; replace o1 := o1.fr hnd ho; replace o2 := o2.fr hnd ho; replace hb := belowOnly hb ho kb_b7
  refine hK _ _ rfl ?_; clear hK K ho hnd
  refine wpSq_call rfl (by kernel_rfl) fun K hK => ?_
  go_big_move; refine hK _ _ rfl ?_; clear hK K
  apply wpSq_end
  refine hK14 _ _ ?_
  refine wp_seq_k ?_
  intro K15 hK15
  refine wp_seq_k ?_
  intro K16 hK16
  refine wp_region_sq [0, 1, 2, 3, 4, 5, 6, 7, 8, 9, 10, 11, 12, 13] (by kernel_rfl) ?_
  refine wpSq_call rfl (by kernel_rfl) fun K hK => ?_
  go_big_move; refine hK _ _ rfl ?_; clear hK K
  refine wpSq_call rfl (by kernel_rfl) fun K hK => ?_
  go_big_op; refine hK _ _ rfl ?_; clear hK K
  refine wpSq_call rfl (by kernel_rfl) fun K hK => ?_
  go_big_move; refine hK _ _ rfl ?_; clear hK K
  refine wpSq_call rfl (by kernel_rfl) fun K hK => ?_
  go_big_move; refine hK _ _ rfl ?_; clear hK K
  refine wpSq_call rfl (by kernel_rfl) fun K hK => ?_
  go_big_op; refine hK _ _ rfl ?_; clear hK K
  refine wpSq_call rfl (by kernel_rfl) fun K hK => ?_
  go_big_op; refine hK _ _ rfl ?_; clear hK K
  refine wpSq_call rfl (by kernel_rfl) fun K hK => ?_
  go_big_move; refine hK _ _ rfl ?_; clear hK K
  refine wpSq_call rfl (by kernel_rfl) fun K hK => ?_
  go_big_move; refine hK _ _ rfl ?_; clear hK K
  refine wpSq_call rfl (by kernel_rfl) fun K hK => ?_
  go_big_op; refine hK _ _ rfl ?_; clear hK K
  refine wpSq_call rfl (by kernel_rfl) fun K hK => ?_
  go_big_op; refine hK _ _ rfl ?_; clear hK K
  refine wpSq_call rfl (by kernel_rfl) fun K hK => ?_
  go_big_move; refine hK _ _ rfl ?_; clear hK K
  refine wpSq_call rfl (by kernel_rfl) fun K hK => ?_
  go_big_move; refine hK _ _ rfl ?_; clear hK K
  refine wpSq_call rfl (by kernel_rfl) fun K hK => ?_
  go_big_op; refine hK _ _ rfl ?_; clear hK K
  refine wpSq_call rfl (by kernel_rfl) fun K hK => ?_
  go_big_op; refine hK _ _ rfl ?_; clear hK K
  apply wpSq_end
  refine hK16 _ _ ?_
  refine wp_cond_false (congrArg Value.bool (show _ = false from (by first | rfl | assumption | (simp; done) | exact decide_eq_false (by omega) | omega))) ?_
  refine wp_skip ?_
  refine hK15 _ _ ?_
  refine wp_seq_k ?_
  intro K17 hK17
  refine wp_region_fl2 [(0, false), (1, true), (2, true), (3, false), (4, false), (5, false), (6, false), (7, false)] [] [] (fun _ => default) [0, 99, 99, 99, 99, 99, 99, 99] [] (fun w' => w'.cell? ⟨p_b6, 0, none⟩ = some (.bool n_ja) ∧ w'.cell? ⟨p_b6, 1, none⟩ = some (.slice o_ja k_ja c_ja) ∧ w'.cell? ⟨p_b6, 2, none⟩ = some (.bool n_jb) ∧ w'.cell? ⟨p_b6, 3, none⟩ = some (.slice o_jb k_jb c_jb)) [fun w' => w'.cell? ⟨p_b6, 0, none⟩ = some (.bool n_ja) ∧ w'.cell? ⟨p_b6, 1, none⟩ = some (.slice o_ja k_ja c_ja) ∧ w'.cell? ⟨p_b6, 2, none⟩ = some (.bool n_jb) ∧ w'.cell? ⟨p_b6, 3, none⟩ = some (.slice o_jb k_jb c_jb)] (by kernel_rfl) (by kernel_rfl) (by kernel_rfl) (by kernel_rfl) (by kernel_rfl) (by kernel_rfl) (by kernel_rfl) (by kernel_rfl) (by decide) (by intro j hj; cases hj) (by intro w' o hC; obtain ⟨c0, c1, c2, c3⟩ := hC; exact ⟨cell_alloc c0 o, cell_alloc c1 o, cell_alloc c2 o, cell_alloc c3 o⟩) (by intro w' hC G hG; obtain ⟨c0, c1, c2, c3⟩ := hC; simp only [List.mem_cons, List.not_mem_nil, or_false] at hG; rcases hG with rfl <;> first | exact ⟨c0, c1, c2, c3⟩) ?_
  have lt_b6 := x_b6.lt
  have lt_b7 := x_b7.lt
  intro w_23 hn
  replace lt_b6 := Nat.lt_of_lt_of_le lt_b6 hn.size
  replace lt_b7 := Nat.lt_of_lt_of_le lt_b7 hn.size
  replace j1 := j1.bl hn; replace j2 := j2.bl hn; replace x_b6 := x_b6.bl hn; replace o1 := o1.bl hn; replace o2 := o2.bl hn; replace x_b7 := x_b7.bl hn; replace hb := hb.trans (hn.mono hb.size)
  clear hn
  have kb0 := hb.size
  refine ⟨⟨x_b6.cell 0 rfl, x_b6.cell 1 rfl, x_b6.cell 2 rfl, x_b6.cell 3 rfl⟩, ?_⟩
  apply wpFl_ld rfl rfl; (case h1 => intro w' hC K hK; obtain ⟨c0, c1, c2, c3⟩ := hC; go_big_op; exact hK); iterate 4 kernel_rfl
  refine wpFl_call rfl (by kernel_rfl) fun w_24 hn hC => ?_; clear hC
  replace j1 := j1.bl hn; replace j2 := j2.bl hn; replace x_b6 := x_b6.bl hn; replace o1 := o1.bl hn; replace o2 := o2.bl hn; replace x_b7 := x_b7.bl hn; replace hb := hb.trans (hn.mono hb.size)
  clear hn; intro K hK
  go_big_op
  go_fit (fq_any (-1) 2 _ (by decide) (by decide) (by decide) (by decide))
  rintro e w_25 ⟨_, rfl, ⟨n_ra, o_ra, k_ra, c_ra, n_rb, o_rb, k_rb, c_rb, rfl, r1, r2⟩, hb_25⟩
  replace j1 := j1.bl hb_25; replace j2 := j2.bl hb_25; replace x_b6 := x_b6.bl hb_25; replace o1 := o1.bl hb_25; replace o2 := o2.bl hb_25; replace x_b7 := x_b7.bl hb_25; replace hb := hb.trans (hb_25.mono hb.size)
  have Lr1 := hide (r1.lenOf (L3.out))
  have Lr2 := hide (r2.lenOf (L2.out))
  refine hK _ _ rfl hb_25 ⟨x_b6.cell 0 rfl, x_b6.cell 1 rfl, x_b6.cell 2 rfl, x_b6.cell 3 rfl⟩ ?_
  clear hK K hb_25
  refine wpFl_call rfl (by kernel_rfl) fun w_26 hn hC => ?_; clear hC
  replace j1 := j1.bl hn; replace j2 := j2.bl hn; replace x_b6 := x_b6.bl hn; replace o1 := o1.bl hn; replace o2 := o2.bl hn; replace x_b7 := x_b7.bl hn; replace r1 := r1.bl hn; replace r2 := r2.bl hn; replace hb := hb.trans (hn.mono hb.size)
  clear hn; intro K hK
  go_big_op
  go_fit (fCmp_any (.mk' (j1.zn Lj1.out) (j2.zn Lj2.out)) (.mk' (r1.zn L3.out) (r2.zn L2.out)) (by omega) (by omega) (by omega) (by omega) NA.out (by decide))
  rintro e w_27 ⟨rfl, hb_27⟩
  replace j1 := j1.bl hb_27; replace j2 := j2.bl hb_27; replace x_b6 := x_b6.bl hb_27; replace o1 := o1.bl hb_27; replace o2 := o2.bl hb_27; replace x_b7 := x_b7.bl hb_27; replace r1 := r1.bl hb_27; replace r2 := r2.bl hb_27; replace hb := hb.trans (hb_27.mono hb.size)
  rw [HC1.out]
  refine hK _ _ rfl hb_27 ⟨x_b6.cell 0 rfl, x_b6.cell 1 rfl, x_b6.cell 2 rfl, x_b6.cell 3 rfl⟩ ?_
  clear hK K hb_27
  apply wpFl_ld rfl rfl; (case h1 => intro w' hC K hK; go_big_move; exact hK); iterate 4 kernel_rfl
  apply wpFl_ld rfl rfl; (case h1 => intro w' hC K hK; go_big_op; exact hK); iterate 4 kernel_rfl
  apply wpFl_ld rfl rfl; (case h1 => intro w' hC K hK; go_big_op; exact hK); iterate 4 kernel_rfl
  apply wpFl_ld rfl rfl; (case h1 => intro w' hC K hK; go_big_move; exact hK); iterate 4 kernel_rfl
  apply wpFl_ld rfl rfl; (case h1 => intro w' hC K hK; go_big_move; exact hK); iterate 4 kernel_rfl
  apply wpFl_end
  case ha => intro pt; simp only [putF]; rfl
  case h =>
  intro w_28 pt hn hC hF hD
  clear hC
  clear r1 r2
  replace j1 := j1.bl hn; replace j2 := j2.bl hn; replace x_b6 := x_b6.bl hn; replace o1 := o1.bl hn; replace o2 := o2.bl hn; replace x_b7 := x_b7.bl hn; replace hb := hb.trans (hn.mono hb.size)
  clear hn
  clear hF hD
  clear pt
  clear kb0 lt_b6 lt_b7
  apply wpTail_end
  refine hK17 _ _ ?_
  refine wp_seq_k ?_
  intro K18 hK18
  refine wp_region_fl2 [(0, false), (1, true), (2, true), (3, false), (4, false), (5, false), (6, false), (7, false)] [] [] (fun _ => default) [0, 99, 99, 99, 99, 99, 99, 99] [] (fun w' => w'.cell? ⟨p_b6, 0, none⟩ = some (.bool n_ja) ∧ w'.cell? ⟨p_b6, 1, none⟩ = some (.slice o_ja k_ja c_ja) ∧ w'.cell? ⟨p_b6, 2, none⟩ = some (.bool n_jb) ∧ w'.cell? ⟨p_b6, 3, none⟩ = some (.slice o_jb k_jb c_jb)) [fun w' => w'.cell? ⟨p_b6, 0, none⟩ = some (.bool n_ja) ∧ w'.cell? ⟨p_b6, 1, none⟩ = some (.slice o_ja k_ja c_ja) ∧ w'.cell? ⟨p_b6, 2, none⟩ = some (.bool n_jb) ∧ w'.cell? ⟨p_b6, 3, none⟩ = some (.slice o_jb k_jb c_jb)] (by kernel_rfl) (by kernel_rfl) (by kernel_rfl) (by kernel_rfl) (by kernel_rfl) (by kernel_rfl) (by kernel_rfl) (by kernel_rfl) (by decide) (by intro j hj; cases hj) (by intro w' o hC; obtain ⟨c0, c1, c2, c3⟩ := hC; exact ⟨cell_alloc c0 o, cell_alloc c1 o, cell_alloc c2 o, cell_alloc c3 o⟩) (by intro w' hC G hG; obtain ⟨c0, c1, c2, c3⟩ := hC; simp only [List.mem_cons, List.not_mem_nil, or_false] at hG; rcases hG with rfl <;> first | exact ⟨c0, c1, c2, c3⟩) ?_
  have lt_b6 := x_b6.lt
  have lt_b7 := x_b7.lt
  intro w_29 hn
  replace lt_b6 := Nat.lt_of_lt_of_le lt_b6 hn.size
  replace lt_b7 := Nat.lt_of_lt_of_le lt_b7 hn.size
  replace j1 := j1.bl hn; replace j2 := j2.bl hn; replace x_b6 := x_b6.bl hn; replace o1 := o1.bl hn; replace o2 := o2.bl hn; replace x_b7 := x_b7.bl hn; replace hb := hb.trans (hn.mono hb.size)
  clear hn
  have kb0 := hb.size
  refine ⟨⟨x_b6.cell 0 rfl, x_b6.cell 1 rfl, x_b6.cell 2 rfl, x_b6.cell 3 rfl⟩, ?_⟩
  apply wpFl_ld rfl rfl; (case h1 => intro w' hC K hK; obtain ⟨c0, c1, c2, c3⟩ := hC; go_big_op; exact hK); iterate 4 kernel_rfl
  refine wpFl_call rfl (by kernel_rfl) fun w_30 hn hC => ?_; clear hC
  replace j1 := j1.bl hn; replace j2 := j2.bl hn; replace x_b6 := x_b6.bl hn; replace o1 := o1.bl hn; replace o2 := o2.bl hn; replace x_b7 := x_b7.bl hn; replace hb := hb.trans (hn.mono hb.size)
  clear hn; intro K hK
  go_big_op
  go_fit (fq_any 1 2 _ (by decide) (by decide) (by decide) (by decide))
  rintro e w_31 ⟨_, rfl, ⟨n_sa, o_sa, k_sa, c_sa, n_sb, o_sb, k_sb, c_sb, rfl, s1, s2⟩, hb_31⟩
  replace j1 := j1.bl hb_31; replace j2 := j2.bl hb_31; replace x_b6 := x_b6.bl hb_31; replace o1 := o1.bl hb_31; replace o2 := o2.bl hb_31; replace x_b7 := x_b7.bl hb_31; replace hb := hb.trans (hb_31.mono hb.size)
  have Ls1 := hide (s1.lenOf (L1.out))
  have Ls2 := hide (s2.lenOf (L2.out))
  refine hK _ _ rfl hb_31 ⟨x_b6.cell 0 rfl, x_b6.cell 1 rfl, x_b6.cell 2 rfl, x_b6.cell 3 rfl⟩ ?_
  clear hK K hb_31
  refine wpFl_call rfl (by kernel_rfl) fun w_32 hn hC => ?_; clear hC
  replace j1 := j1.bl hn; replace j2 := j2.bl hn; replace x_b6 := x_b6.bl hn; replace o1 := o1.bl hn; replace o2 := o2.bl hn; replace x_b7 := x_b7.bl hn; replace s1 := s1.bl hn; replace s2 := s2.bl hn; replace hb := hb.trans (hn.mono hb.size)
  clear hn; intro K hK
  go_big_op
  go_fit (fCmp_any (.mk' (j1.zn Lj1.out) (j2.zn Lj2.out)) (.mk' (s1.zn L1.out) (s2.zn L2.out)) (by omega) (by omega) (by omega) (by omega) NA.out (by decide))
  rintro e w_33 ⟨rfl, hb_33⟩
  replace j1 := j1.bl hb_33; replace j2 := j2.bl hb_33; replace x_b6 := x_b6.bl hb_33; replace o1 := o1.bl hb_33; replace o2 := o2.bl hb_33; replace x_b7 := x_b7.bl hb_33; replace s1 := s1.bl hb_33; replace s2 := s2.bl hb_33; replace hb := hb.trans (hb_33.mono hb.size)
  rw [HC2.out]
  refine hK _ _ rfl hb_33 ⟨x_b6.cell 0 rfl, x_b6.cell 1 rfl, x_b6.cell 2 rfl, x_b6.cell 3 rfl⟩ ?_
  clear hK K hb_33
  apply wpFl_ld rfl rfl; (case h1 => intro w' hC K hK; go_big_move; exact hK); iterate 4 kernel_rfl
  apply wpFl_ld rfl rfl; (case h1 => intro w' hC K hK; go_big_op; exact hK); iterate 4 kernel_rfl
  apply wpFl_ld rfl rfl; (case h1 => intro w' hC K hK; go_big_op; exact hK); iterate 4 kernel_rfl
  apply wpFl_ld rfl rfl; (case h1 => intro w' hC K hK; go_big_move; exact hK); iterate 4 kernel_rfl
  apply wpFl_ld rfl rfl; (case h1 => intro w' hC K hK; go_big_move; exact hK); iterate 4 kernel_rfl
  apply wpFl_end
  case ha => intro pt; simp only [putF]; rfl
  case h =>
  intro w_34 pt hn hC hF hD
  clear hC
  clear s1 s2
  replace j1 := j1.bl hn; replace j2 := j2.bl hn; replace x_b6 := x_b6.bl hn; replace o1 := o1.bl hn; replace o2 := o2.bl hn; replace x_b7 := x_b7.bl hn; replace hb := hb.trans (hn.mono hb.size)
  clear hn
  clear hF hD
  clear pt
  clear kb0 lt_b6 lt_b7
  apply wpTail_end
  refine hK18 _ _ ?_
  refine wp_seq_k ?_
  intro K19 hK19
  refine wp_region_fl2 [(0, false), (1, true), (2, true), (3, false), (4, false), (5, false), (6, false), (7, false)] [] [] (fun _ => default) [0, 99, 99, 99, 99, 99, 99, 99] [] (fun w' => w'.cell? ⟨p_b7, 0, none⟩ = some (.bool n_oa) ∧ w'.cell? ⟨p_b7, 1, none⟩ = some (.slice o_oa k_oa c_oa) ∧ w'.cell? ⟨p_b7, 2, none⟩ = some (.bool n_ob) ∧ w'.cell? ⟨p_b7, 3, none⟩ = some (.slice o_ob k_ob c_ob)) [fun w' => w'.cell? ⟨p_b7, 0, none⟩ = some (.bool n_oa) ∧ w'.cell? ⟨p_b7, 1, none⟩ = some (.slice o_oa k_oa c_oa) ∧ w'.cell? ⟨p_b7, 2, none⟩ = some (.bool n_ob) ∧ w'.cell? ⟨p_b7, 3, none⟩ = some (.slice o_ob k_ob c_ob)] (by kernel_rfl) (by kernel_rfl) (by kernel_rfl) (by kernel_rfl) (by kernel_rfl) (by kernel_rfl) (by kernel_rfl) (by kernel_rfl) (by decide) (by intro j hj; cases hj) (by intro w' o hC; obtain ⟨c0, c1, c2, c3⟩ := hC; exact ⟨cell_alloc c0 o, cell_alloc c1 o, cell_alloc c2 o, cell_alloc c3 o⟩) (by intro w' hC G hG; obtain ⟨c0, c1, c2, c3⟩ := hC; simp only [List.mem_cons, List.not_mem_nil, or_false] at hG; rcases hG with rfl <;> first | exact ⟨c0, c1, c2, c3⟩) ?_
  clear j1 j2 x_b6
  have lt_b7 := x_b7.lt
  intro w_35 hn
  replace lt_b7 := Nat.lt_of_lt_of_le lt_b7 hn.size
  replace o1 := o1.bl hn; replace o2 := o2.bl hn; replace x_b7 := x_b7.bl hn; replace hb := hb.trans (hn.mono hb.size)
  clear hn
  have kb0 := hb.size
  refine ⟨⟨x_b7.cell 0 rfl, x_b7.cell 1 rfl, x_b7.cell 2 rfl, x_b7.cell 3 rfl⟩, ?_⟩
  apply wpFl_ld rfl rfl; (case h1 => intro w' hC K hK; obtain ⟨c0, c1, c2, c3⟩ := hC; go_big_op; exact hK); iterate 4 kernel_rfl
  refine wpFl_call rfl (by kernel_rfl) fun w_36 hn hC => ?_; clear hC
  replace o1 := o1.bl hn; replace o2 := o2.bl hn; replace x_b7 := x_b7.bl hn; replace hb := hb.trans (hn.mono hb.size)
  clear hn; intro K hK
  go_big_op
  go_fit (fq_any 0 1 _ (by decide) (by decide) (by decide) (by decide))
  rintro e w_37 ⟨_, rfl, ⟨n_ta, o_ta, k_ta, c_ta, n_tb, o_tb, k_tb, c_tb, rfl, t1, t2⟩, hb_37⟩
  replace o1 := o1.bl hb_37; replace o2 := o2.bl hb_37; replace x_b7 := x_b7.bl hb_37; replace hb := hb.trans (hb_37.mono hb.size)
  have Lt1 := hide (t1.lenOf (L0.out))
  have Lt2 := hide (t2.lenOf (L1.out))
  refine hK _ _ rfl hb_37 ⟨x_b7.cell 0 rfl, x_b7.cell 1 rfl, x_b7.cell 2 rfl, x_b7.cell 3 rfl⟩ ?_
  clear hK K hb_37
  refine wpFl_call rfl (by kernel_rfl) fun w_38 hn hC => ?_; clear hC
  replace o1 := o1.bl hn; replace o2 := o2.bl hn; replace x_b7 := x_b7.bl hn; replace t1 := t1.bl hn; replace t2 := t2.bl hn; replace hb := hb.trans (hn.mono hb.size)
  clear hn; intro K hK
  go_big_op
  go_fit (fCmp_any (.mk' (o1.zn Lo1.out) (o2.zn Lo2.out)) (.mk' (t1.zn L0.out) (t2.zn L1.out)) (by omega) (by omega) (by omega) (by omega) NB.out (by decide))
  rintro e w_39 ⟨rfl, hb_39⟩
  replace o1 := o1.bl hb_39; replace o2 := o2.bl hb_39; replace x_b7 := x_b7.bl hb_39; replace t1 := t1.bl hb_39; replace t2 := t2.bl hb_39; replace hb := hb.trans (hb_39.mono hb.size)
  rw [HC3.out]
  refine hK _ _ rfl hb_39 ⟨x_b7.cell 0 rfl, x_b7.cell 1 rfl, x_b7.cell 2 rfl, x_b7.cell 3 rfl⟩ ?_
  clear hK K hb_39
  apply wpFl_ld rfl rfl; (case h1 => intro w' hC K hK; go_big_move; exact hK); iterate 4 kernel_rfl
  apply wpFl_ld rfl rfl; (case h1 => intro w' hC K hK; go_big_op; exact hK); iterate 4 kernel_rfl
  apply wpFl_ld rfl rfl; (case h1 => intro w' hC K hK; go_big_op; exact hK); iterate 4 kernel_rfl
  apply wpFl_ld rfl rfl; (case h1 => intro w' hC K hK; go_big_move; exact hK); iterate 4 kernel_rfl
  apply wpFl_ld rfl rfl; (case h1 => intro w' hC K hK; go_big_move; exact hK); iterate 4 kernel_rfl
  apply wpFl_end
  case ha => intro pt; simp only [putF]; rfl
  case h =>
  intro w_40 pt hn hC hF hD
  clear hC
  clear t1 t2
  replace o1 := o1.bl hn; replace o2 := o2.bl hn; replace x_b7 := x_b7.bl hn; replace hb := hb.trans (hn.mono hb.size)
  clear hn
  clear hF hD
  clear pt
  clear kb0 lt_b7
  apply wpTail_end
  refine hK19 _ _ ?_
  refine wp_seq_k ?_
  intro K20 hK20
  refine wp_region_fl2 [(0, false), (1, true), (2, true), (3, false), (4, false), (5, false), (6, false), (7, false)] [] [] (fun _ => default) [0, 99, 99, 99, 99, 99, 99, 99] [] (fun w' => w'.cell? ⟨p_b7, 0, none⟩ = some (.bool n_oa) ∧ w'.cell? ⟨p_b7, 1, none⟩ = some (.slice o_oa k_oa c_oa) ∧ w'.cell? ⟨p_b7, 2, none⟩ = some (.bool n_ob) ∧ w'.cell? ⟨p_b7, 3, none⟩ = some (.slice o_ob k_ob c_ob)) [fun w' => w'.cell? ⟨p_b7, 0, none⟩ = some (.bool n_oa) ∧ w'.cell? ⟨p_b7, 1, none⟩ = some (.slice o_oa k_oa c_oa) ∧ w'.cell? ⟨p_b7, 2, none⟩ = some (.bool n_ob) ∧ w'.cell? ⟨p_b7, 3, none⟩ = some (.slice o_ob k_ob c_ob)] (by kernel_rfl) (by kernel_rfl) (by kernel_rfl) (by kernel_rfl) (by kernel_rfl) (by kernel_rfl) (by kernel_rfl) (by kernel_rfl) (by decide) (by intro j hj; cases hj) (by intro w' o hC; obtain ⟨c0, c1, c2, c3⟩ := hC; exact ⟨cell_alloc c0 o, cell_alloc c1 o, cell_alloc c2 o, cell_alloc c3 o⟩) (by intro w' hC G hG; obtain ⟨c0, c1, c2, c3⟩ := hC; simp only [List.mem_cons, List.not_mem_nil, or_false] at hG; rcases hG with rfl <;> first | exact ⟨c0, c1, c2, c3⟩) ?_
  have lt_b7 := x_b7.lt
  intro w_41 hn
  replace lt_b7 := Nat.lt_of_lt_of_le lt_b7 hn.size
  replace o1 := o1.bl hn; replace o2 := o2.bl hn; replace x_b7 := x_b7.bl hn; replace hb := hb.trans (hn.mono hb.size)
  clear hn
  have kb0 := hb.size
  refine ⟨⟨x_b7.cell 0 rfl, x_b7.cell 1 rfl, x_b7.cell 2 rfl, x_b7.cell 3 rfl⟩, ?_⟩
  apply wpFl_ld rfl rfl; (case h1 => intro w' hC K hK; obtain ⟨c0, c1, c2, c3⟩ := hC; go_big_op; exact hK); iterate 4 kernel_rfl
  refine wpFl_call rfl (by kernel_rfl) fun w_42 hn hC => ?_; clear hC
  replace o1 := o1.bl hn; replace o2 := o2.bl hn; replace x_b7 := x_b7.bl hn; replace hb := hb.trans (hn.mono hb.size)
  clear hn; intro K hK
  go_big_op
  go_fit (fq_any 1 1 _ (by decide) (by decide) (by decide) (by decide))
  rintro e w_43 ⟨_, rfl, ⟨n_ua, o_ua, k_ua, c_ua, n_ub, o_ub, k_ub, c_ub, rfl, u1, u2⟩, hb_43⟩
  replace o1 := o1.bl hb_43; replace o2 := o2.bl hb_43; replace x_b7 := x_b7.bl hb_43; replace hb := hb.trans (hb_43.mono hb.size)
  have Lu1 := hide (u1.lenOf (L1.out))
  have Lu2 := hide (u2.lenOf (L1.out))
  refine hK _ _ rfl hb_43 ⟨x_b7.cell 0 rfl, x_b7.cell 1 rfl, x_b7.cell 2 rfl, x_b7.cell 3 rfl⟩ ?_
  clear hK K hb_43
  refine wpFl_call rfl (by kernel_rfl) fun w_44 hn hC => ?_; clear hC
  replace o1 := o1.bl hn; replace o2 := o2.bl hn; replace x_b7 := x_b7.bl hn; replace u1 := u1.bl hn; replace u2 := u2.bl hn; replace hb := hb.trans (hn.mono hb.size)
  clear hn; intro K hK
  go_big_op
  go_fit (fCmp_any (.mk' (o1.zn Lo1.out) (o2.zn Lo2.out)) (.mk' (u1.zn L1.out) (u2.zn L1.out)) (by omega) (by omega) (by omega) (by omega) NB.out (by decide))
  rintro e w_45 ⟨rfl, hb_45⟩
  replace o1 := o1.bl hb_45; replace o2 := o2.bl hb_45; replace x_b7 := x_b7.bl hb_45; replace u1 := u1.bl hb_45; replace u2 := u2.bl hb_45; replace hb := hb.trans (hb_45.mono hb.size)
  rw [HC4.out]
  refine hK _ _ rfl hb_45 ⟨x_b7.cell 0 rfl, x_b7.cell 1 rfl, x_b7.cell 2 rfl, x_b7.cell 3 rfl⟩ ?_
  clear hK K hb_45
  apply wpFl_ld rfl rfl; (case h1 => intro w' hC K hK; go_big_move; exact hK); iterate 4 kernel_rfl
  apply wpFl_ld rfl rfl; (case h1 => intro w' hC K hK; go_big_op; exact hK); iterate 4 kernel_rfl
  apply wpFl_ld rfl rfl; (case h1 => intro w' hC K hK; go_big_op; exact hK); iterate 4 kernel_rfl
  apply wpFl_ld rfl rfl; (case h1 => intro w' hC K hK; go_big_move; exact hK); iterate 4 kernel_rfl
  apply wpFl_ld rfl rfl; (case h1 => intro w' hC K hK; go_big_move; exact hK); iterate 4 kernel_rfl
  apply wpFl_end
  case ha => intro pt; simp only [putF]; rfl
  case h =>
  intro w_46 pt hn hC hF hD
  clear hC
  clear u1 u2
  replace o1 := o1.bl hn; replace o2 := o2.bl hn; replace x_b7 := x_b7.bl hn; replace hb := hb.trans (hn.mono hb.size)
  clear hn
  clear hF hD
  clear pt
  clear kb0 lt_b7
  apply wpTail_end
  refine hK20 _ _ ?_
  refine wp_seq_k ?_
  intro K21 hK21
  refine wp_region_sq [0, 1, 2, 3, 4, 5, 6, 7, 8, 9, 10, 11, 12, 13, 14, 15, 16, 17, 18] (by kernel_rfl) ?_
  refine wpSq_call rfl (by kernel_rfl) fun K hK => ?_
  go_big_move; refine hK _ _ rfl ?_; clear hK K
  refine wpSq_call rfl (by kernel_rfl) fun K hK => ?_
  go_big_op; refine hK _ _ rfl ?_; clear hK K
  refine wpSq_call rfl (by kernel_rfl) fun K hK => ?_
  go_big_move; refine hK _ _ rfl ?_; clear hK K
  refine wpSq_call rfl (by kernel_rfl) fun K hK => ?_
  go_big_move; refine hK _ _ rfl ?_; clear hK K
  refine wpSq_call rfl (by kernel_rfl) fun K hK => ?_
  go_big_op; refine hK _ _ rfl ?_; clear hK K
  refine wpSq_call rfl (by kernel_rfl) fun K hK => ?_
  go_big_op; refine hK _ _ rfl ?_; clear hK K
  refine wpSq_call rfl (by kernel_rfl) fun K hK => ?_
  go_big_move; refine hK _ _ rfl ?_; clear hK K
  refine wpSq_call rfl (by kernel_rfl) fun K hK => ?_
  go_big_move; refine hK _ _ rfl ?_; clear hK K
  refine wpSq_call rfl (by kernel_rfl) fun K hK => ?_
  go_big_op; refine hK _ _ rfl ?_; clear hK K
  refine wpSq_call rfl (by kernel_rfl) fun K hK => ?_
  go_big_op; refine hK _ _ rfl ?_; clear hK K
  refine wpSq_call rfl (by kernel_rfl) fun K hK => ?_
  go_big_move; refine hK _ _ rfl ?_; clear hK K
  refine wpSq_call rfl (by kernel_rfl) fun K hK => ?_
  go_big_move; refine hK _ _ rfl ?_; clear hK K
  refine wpSq_call rfl (by kernel_rfl) fun K hK => ?_
  go_big_op; refine hK _ _ rfl ?_; clear hK K
  refine wpSq_call rfl (by kernel_rfl) fun K hK => ?_
  go_big_op; refine hK _ _ rfl ?_; clear hK K
  refine wpSq_call rfl (by kernel_rfl) fun K hK => ?_
  go_big_move; refine hK _ _ rfl ?_; clear hK K
  refine wpSq_call rfl (by kernel_rfl) fun K hK => ?_
  go_big_move; refine hK _ _ rfl ?_; clear hK K
  refine wpSq_call rfl (by kernel_rfl) fun K hK => ?_
  go_big_op; refine hK _ _ rfl ?_; clear hK K
  refine wpSq_call rfl (by kernel_rfl) fun K hK => ?_
  go_big_op; refine hK _ _ rfl ?_; clear hK K
  refine wpSq_call rfl (by kernel_rfl) fun K hK => ?_
  go_big_move; refine hK _ _ rfl ?_; clear hK K
  apply wpSq_end
  refine hK21 _ _ ?_
  refine wp_ret ?_
  try dsimp only [Exit.then, Exit.inBlock]
  refine bodyPost_ret (v := (.bool true)) (by simp [results, Tryz.results9, go_sem]) rfl ?_
  exact ⟨rfl, hb⟩
end
theorem walk_FracBack (w : World) (n1 : Bool) (s1 : Value) (xs : List Nat) (h1 : Rd w s1 xs) (l1 : xs.length ≤ 1048576) (n2 : Bool) (s2 : Value) (ys : List Nat) (h2 : Rd w s2 ys) (l2 : ys.length ≤ 1048576) (htab : Lib.TabIs Tryz.prog w p10 .u64 Lib.pow10Tab) :
    Calls Tryz.prog 9 #[.agg #[.bool n1, s1, .bool n2, s2]] w fun e w' => e = .returned (.bool true) ∧ Below w.heap.size w w' := by
  have ha := PN.of_rd n1 n2 h1 l1 h2 l2
  have r := Nat.le_refl 1048576
  by_cases h0 : zv n2 ys = 0
  · rw [h0] at ha; exact back_bad ha r r htab
  by_cases hs : (qts (zv n1 xs) (zv n2 ys)).size ≤ 65536
  · exact back_short ha r r h0 hs htab
  · exact back_long ha r r h0 (by omega) htab
end Go.Proofs.YtkgbfnmlpajblaaGreatDoor

