/- GintDivides: the law's walk. -/
import Derived.Test.YtgjainmfilkjmaaDoorT1ToG6
namespace Go.Proofs.YtgjainmfilkjmaaDoor
open Go Go.RowKit Dig
set_option linter.unusedVariables false

section
variable {w : World} {va vb vc : Value} {x y u v p q : Int} {l m k n s t : Nat}
set_option maxHeartbeats 8000000 in
set_option maxRecDepth 20000 in
theorem gdiv_zero (ha : PN w va x l y m) (hq : PN w vb 0 k 0 n) (hl : l ≤ 1048576) (hm : m ≤ 1048576) (hk : k ≤ 1048576) (hn : n ≤ 1048576) (htab : Lib.TabIs Tryd.prog w p10 .u64 Lib.pow10Tab) :
    Calls Tryd.prog 5 #[va, vb] w fun e w' => e = .returned (.bool true) ∧ Below w.heap.size w w' := by
  have htabs := Lib.tabBelow_of_tabIs htab
  obtain ⟨n_0a, o_0a, k_0a, c_0a, n_0b, o_0b, k_0b, c_0b, rfl, ha1, ha2⟩ := ha
  obtain ⟨n_1a, o_1a, k_1a, c_1a, n_1b, o_1b, k_1b, c_1b, rfl, hq1, hq2⟩ := hq
  go_enter Tryd.func5, Tryd.ntmps5
  have hb := Below.refl w.heap.size w
  refine wp_seq_k ?_
  intro K1 hK1
  refine wp_region_sq [0, 1, 2] (by kernel_rfl) ?_
  refine wpSq_call rfl (by kernel_rfl) fun K hK => ?_
  go_big_op
  obtain ⟨p_b1, w_1, eP, eW, x_b1, hn, kb_b1⟩ := newBox w #[.bool n_0a, .slice o_0a k_0a c_0a, .bool n_0b, .slice o_0b k_0b c_0b] 26 hb.size
  rw [eW, eP]
  clear eW eP
  replace ha1 := ha1.bl hn; replace ha2 := ha2.bl hn; replace hq1 := hq1.bl hn; replace hq2 := hq2.bl hn; replace hb := hb.trans (hn.mono hb.size)
  refine hK _ _ rfl ?_; clear hK K hn
  refine wpSq_call rfl (by kernel_rfl) fun K hK => ?_
  go_big_op
  have lt_b1 := x_b1.lt
  obtain ⟨p_b2, w_2, eP, eW, x_b2, hn, kb_b2⟩ := newBox w_1 #[.bool n_1a, .slice o_1a k_1a c_1a, .bool n_1b, .slice o_1b k_1b c_1b] 26 hb.size
  have ne_b1_b2 : Hid (p_b1 ≠ p_b2) := Nat.ne_of_lt (eP ▸ lt_b1)
  rw [eW, eP]
  clear eW eP lt_b1
  replace ha1 := ha1.bl hn; replace ha2 := ha2.bl hn; replace hq1 := hq1.bl hn; replace hq2 := hq2.bl hn; replace x_b1 := x_b1.bl hn; replace hb := hb.trans (hn.mono hb.size)
  refine hK _ _ rfl ?_; clear hK K hn
  refine wpSq_call rfl (by kernel_rfl) fun K hK => ?_
  go_big_move; refine hK _ _ rfl ?_; clear hK K
  apply wpSq_end
  refine hK1 _ _ ?_
  refine wp_seq_k ?_
  intro K2 hK2
  refine wp_region_sq [0, 1, 2, 3, 4, 5, 6, 7, 8, 9, 10, 11] (by kernel_rfl) ?_
  refine wpSq_call rfl (by kernel_rfl) fun K hK => ?_
  obtain ⟨d0, d1, d2, d3⟩ := x_b1.f4
  go_big_op; refine hK _ _ rfl ?_; clear hK K d0 d1 d2 d3
  refine wpSq_call rfl (by kernel_rfl) fun K hK => ?_
  obtain ⟨d0, d1, d2, d3⟩ := x_b2.f4
  go_big_op; refine hK _ _ rfl ?_; clear hK K d0 d1 d2 d3
  refine wpSq_call rfl (by kernel_rfl) fun K hK => ?_
  go_big_op
  go_fit (gRound_zero (PN.mk' ha1 ha2) (PN.mk' hq1 hq2) (by omega) (by omega) (by omega) (by omega) )
  rintro e w_3 ⟨rfl, hb_3⟩
  replace ha1 := ha1.bl hb_3; replace ha2 := ha2.bl hb_3; replace hq1 := hq1.bl hb_3; replace hq2 := hq2.bl hb_3; replace x_b1 := x_b1.bl hb_3; replace x_b2 := x_b2.bl hb_3; replace hb := hb.trans (hb_3.mono hb.size)
  refine hK _ _ rfl ?_
  clear hK K hb_3
  refine wpSq_call rfl (by kernel_rfl) fun K hK => ?_
  go_big_move; refine hK _ _ rfl ?_; clear hK K
  refine wpSq_call rfl (by kernel_rfl) fun K hK => ?_
  go_big_op; refine hK _ _ rfl ?_; clear hK K
  refine wpSq_call rfl (by kernel_rfl) fun K hK => ?_
  go_big_op; refine hK _ _ rfl ?_; clear hK K
  refine wpSq_call rfl (by kernel_rfl) fun K hK => ?_
  go_big_op; refine hK _ _ rfl ?_; clear hK K
  refine wpSq_call rfl (by kernel_rfl) fun K hK => ?_
  go_big_op
  have lt_b1 := x_b1.lt
  have lt_b2 := x_b2.lt
  obtain ⟨p_b3, w_4, eP, eW, x_b3, hn, kb_b3⟩ := newBox w_3 #[.bool false, .slice none 0 0, .bool false, .slice none 0 0] 26 hb.size
  have ne_b1_b3 : Hid (p_b1 ≠ p_b3) := Nat.ne_of_lt (eP ▸ lt_b1)
  have ne_b2_b3 : Hid (p_b2 ≠ p_b3) := Nat.ne_of_lt (eP ▸ lt_b2)
  rw [eW, eP]
  clear eW eP lt_b1 lt_b2
  replace ha1 := ha1.bl hn; replace ha2 := ha2.bl hn; replace hq1 := hq1.bl hn; replace hq2 := hq2.bl hn; replace x_b1 := x_b1.bl hn; replace x_b2 := x_b2.bl hn; replace hb := hb.trans (hn.mono hb.size)
  refine hK _ _ rfl ?_; clear hK K hn
  refine wpSq_call rfl (by kernel_rfl) fun K hK => ?_
  go_big_op
  have lt_b1 := x_b1.lt
  have lt_b2 := x_b2.lt
  have lt_b3 := x_b3.lt
  obtain ⟨p_b4, w_5, eP, eW, x_b4, hn, kb_b4⟩ := newBox w_4 #[.bool false, .slice none 0 0, .bool false, .slice none 0 0] 26 hb.size
  have ne_b1_b4 : Hid (p_b1 ≠ p_b4) := Nat.ne_of_lt (eP ▸ lt_b1)
  have ne_b2_b4 : Hid (p_b2 ≠ p_b4) := Nat.ne_of_lt (eP ▸ lt_b2)
  have ne_b3_b4 : Hid (p_b3 ≠ p_b4) := Nat.ne_of_lt (eP ▸ lt_b3)
  rw [eW, eP]
  clear eW eP lt_b1 lt_b2 lt_b3
  replace ha1 := ha1.bl hn; replace ha2 := ha2.bl hn; replace hq1 := hq1.bl hn; replace hq2 := hq2.bl hn; replace x_b1 := x_b1.bl hn; replace x_b2 := x_b2.bl hn; replace x_b3 := x_b3.bl hn; replace hb := hb.trans (hn.mono hb.size)
  refine hK _ _ rfl ?_; clear hK K hn
  refine wpSq_call rfl (by kernel_rfl) fun K hK => ?_
  obtain ⟨d0, d1, d2, d3⟩ := x_b3.f4
  have f0 := x_b3.free 0; have f1 := x_b3.free 1; have f2 := x_b3.free 2; have f3 := x_b3.free 3
  go_big_op
  have hnd := x_b3.nod rfl rfl
  obtain ⟨w_6, eW, x_b3', ho⟩ : ∃ w', ((((w_5.setCell ⟨p_b3, 0, none⟩ (.bool false)).setCell ⟨p_b3, 1, none⟩ (.slice none 0 0)).setCell ⟨p_b3, 2, none⟩ (.bool false)).setCell ⟨p_b3, 3, none⟩ (.slice none 0 0)) = w' ∧ Bs w' p_b3 #[.bool false, .slice none 0 0, .bool false, .slice none 0 0] 26 ∧ Only p_b3 w_5 w' := x_b3.setN [(0, .bool false), (1, .slice none 0 0), (2, .bool false), (3, .slice none 0 0)]
  rw [eW]; clear eW d0 d1 d2 d3 f0 f1 f2 f3 x_b3
  have x_b3 := x_b3'; clear x_b3'
  replace ha1 := ha1.fr hnd ho; replace ha2 := ha2.fr hnd ho; replace hq1 := hq1.fr hnd ho; replace hq2 := hq2.fr hnd ho; replace x_b1 := x_b1.frame ho ne_b1_b3; replace x_b2 := x_b2.frame ho ne_b2_b3; replace x_b4 := x_b4.frame ho ne_b3_b4.symm; replace hb := belowOnly hb ho kb_b3
  refine hK _ _ rfl ?_; clear hK K ho hnd
  refine wpSq_call rfl (by kernel_rfl) fun K hK => ?_
  obtain ⟨d0, d1, d2, d3⟩ := x_b4.f4
  have f0 := x_b4.free 0; have f1 := x_b4.free 1; have f2 := x_b4.free 2; have f3 := x_b4.free 3
  go_big_op
  have hnd := x_b4.nod rfl rfl
  obtain ⟨w_7, eW, x_b4', ho⟩ : ∃ w', ((((w_6.setCell ⟨p_b4, 0, none⟩ (.bool false)).setCell ⟨p_b4, 1, none⟩ (.slice none 0 0)).setCell ⟨p_b4, 2, none⟩ (.bool false)).setCell ⟨p_b4, 3, none⟩ (.slice none 0 0)) = w' ∧ Bs w' p_b4 #[.bool false, .slice none 0 0, .bool false, .slice none 0 0] 26 ∧ Only p_b4 w_6 w' := x_b4.setN [(0, .bool false), (1, .slice none 0 0), (2, .bool false), (3, .slice none 0 0)]
  rw [eW]; clear eW d0 d1 d2 d3 f0 f1 f2 f3 x_b4
  have x_b4 := x_b4'; clear x_b4'
  replace ha1 := ha1.fr hnd ho; replace ha2 := ha2.fr hnd ho; replace hq1 := hq1.fr hnd ho; replace hq2 := hq2.fr hnd ho; replace x_b1 := x_b1.frame ho ne_b1_b4; replace x_b2 := x_b2.frame ho ne_b2_b4; replace x_b3 := x_b3.frame ho ne_b3_b4; replace hb := belowOnly hb ho kb_b4
  refine hK _ _ rfl ?_; clear hK K ho hnd
  refine wpSq_call rfl (by kernel_rfl) fun K hK => ?_
  go_big_move; refine hK _ _ rfl ?_; clear hK K
  apply wpSq_end
  refine hK2 _ _ ?_
  refine wp_seq_k ?_
  intro K3 hK3
  refine wp_region_sq [0, 1, 2, 3, 4, 5, 6, 7, 8] (by kernel_rfl) ?_
  refine wpSq_call rfl (by kernel_rfl) fun K hK => ?_
  obtain ⟨d0, d1, d2, d3⟩ := x_b1.f4
  go_big_op; refine hK _ _ rfl ?_; clear hK K d0 d1 d2 d3
  refine wpSq_call rfl (by kernel_rfl) fun K hK => ?_
  obtain ⟨d0, d1, d2, d3⟩ := x_b2.f4
  go_big_op; refine hK _ _ rfl ?_; clear hK K d0 d1 d2 d3
  refine wpSq_call rfl (by kernel_rfl) fun K hK => ?_
  go_big_op
  go_fit (gExact_zero (PN.mk' ha1 ha2) (PN.mk' hq1 hq2) (by omega) (by omega) (by omega) (by omega) )
  rintro e w_8 ⟨rfl, hb_8⟩
  replace ha1 := ha1.bl hb_8; replace ha2 := ha2.bl hb_8; replace hq1 := hq1.bl hb_8; replace hq2 := hq2.bl hb_8; replace x_b1 := x_b1.bl hb_8; replace x_b2 := x_b2.bl hb_8; replace x_b3 := x_b3.bl hb_8; replace x_b4 := x_b4.bl hb_8; replace hb := hb.trans (hb_8.mono hb.size)
  refine hK _ _ rfl ?_
  clear hK K hb_8
  refine wpSq_call rfl (by kernel_rfl) fun K hK => ?_
  go_big_move; refine hK _ _ rfl ?_; clear hK K
  refine wpSq_call rfl (by kernel_rfl) fun K hK => ?_
  go_big_op; refine hK _ _ rfl ?_; clear hK K
  refine wpSq_call rfl (by kernel_rfl) fun K hK => ?_
  go_big_op; refine hK _ _ rfl ?_; clear hK K
  refine wpSq_call rfl (by kernel_rfl) fun K hK => ?_
  go_big_op
  have lt_b1 := x_b1.lt
  have lt_b2 := x_b2.lt
  have lt_b3 := x_b3.lt
  have lt_b4 := x_b4.lt
  obtain ⟨p_b5, w_9, eP, eW, x_b5, hn, kb_b5⟩ := newBox w_8 #[.bool false, .slice none 0 0, .bool false, .slice none 0 0] 26 hb.size
  have ne_b1_b5 : Hid (p_b1 ≠ p_b5) := Nat.ne_of_lt (eP ▸ lt_b1)
  have ne_b2_b5 : Hid (p_b2 ≠ p_b5) := Nat.ne_of_lt (eP ▸ lt_b2)
  have ne_b3_b5 : Hid (p_b3 ≠ p_b5) := Nat.ne_of_lt (eP ▸ lt_b3)
  have ne_b4_b5 : Hid (p_b4 ≠ p_b5) := Nat.ne_of_lt (eP ▸ lt_b4)
  rw [eW, eP]
  clear eW eP lt_b1 lt_b2 lt_b3 lt_b4
  replace ha1 := ha1.bl hn; replace ha2 := ha2.bl hn; replace hq1 := hq1.bl hn; replace hq2 := hq2.bl hn; replace x_b1 := x_b1.bl hn; replace x_b2 := x_b2.bl hn; replace x_b3 := x_b3.bl hn; replace x_b4 := x_b4.bl hn; replace hb := hb.trans (hn.mono hb.size)
  refine hK _ _ rfl ?_; clear hK K hn
  refine wpSq_call rfl (by kernel_rfl) fun K hK => ?_
  obtain ⟨d0, d1, d2, d3⟩ := x_b5.f4
  have f0 := x_b5.free 0; have f1 := x_b5.free 1; have f2 := x_b5.free 2; have f3 := x_b5.free 3
  go_big_op
  have hnd := x_b5.nod rfl rfl
  obtain ⟨w_10, eW, x_b5', ho⟩ : ∃ w', ((((w_9.setCell ⟨p_b5, 0, none⟩ (.bool false)).setCell ⟨p_b5, 1, none⟩ (.slice none 0 0)).setCell ⟨p_b5, 2, none⟩ (.bool false)).setCell ⟨p_b5, 3, none⟩ (.slice none 0 0)) = w' ∧ Bs w' p_b5 #[.bool false, .slice none 0 0, .bool false, .slice none 0 0] 26 ∧ Only p_b5 w_9 w' := x_b5.setN [(0, .bool false), (1, .slice none 0 0), (2, .bool false), (3, .slice none 0 0)]
  rw [eW]; clear eW d0 d1 d2 d3 f0 f1 f2 f3 x_b5
  have x_b5 := x_b5'; clear x_b5'
  replace ha1 := ha1.fr hnd ho; replace ha2 := ha2.fr hnd ho; replace hq1 := hq1.fr hnd ho; replace hq2 := hq2.fr hnd ho; replace x_b1 := x_b1.frame ho ne_b1_b5; replace x_b2 := x_b2.frame ho ne_b2_b5; replace x_b3 := x_b3.frame ho ne_b3_b5; replace x_b4 := x_b4.frame ho ne_b4_b5; replace hb := belowOnly hb ho kb_b5
  refine hK _ _ rfl ?_; clear hK K ho hnd
  refine wpSq_call rfl (by kernel_rfl) fun K hK => ?_
  go_big_move; refine hK _ _ rfl ?_; clear hK K
  apply wpSq_end
  refine hK3 _ _ ?_
  refine wp_seq_k ?_
  intro K4 hK4
  refine wp_seq_k ?_
  intro K5 hK5
  refine wp_region_sq [0, 1] (by kernel_rfl) ?_
  refine wpSq_call rfl (by kernel_rfl) fun K hK => ?_
  go_big_op
  go_fit (gawake_any _ (htabs _ hb))
  rintro e w_11 ⟨rfl, hb_11⟩
  replace ha1 := ha1.bl hb_11; replace ha2 := ha2.bl hb_11; replace hq1 := hq1.bl hb_11; replace hq2 := hq2.bl hb_11; replace x_b1 := x_b1.bl hb_11; replace x_b2 := x_b2.bl hb_11; replace x_b3 := x_b3.bl hb_11; replace x_b4 := x_b4.bl hb_11; replace x_b5 := x_b5.bl hb_11; replace hb := hb.trans (hb_11.mono hb.size)
  refine hK _ _ rfl ?_
  clear hK K hb_11
  refine wpSq_call rfl (by kernel_rfl) fun K hK => ?_
  go_big_op; refine hK _ _ rfl ?_; clear hK K
  apply wpSq_end
  refine hK5 _ _ ?_
  refine wp_cond_false (congrArg Value.bool (show _ = false from (by first | rfl | assumption | (simp; done) | exact decide_eq_false (by omega) | omega))) ?_
  refine wp_skip ?_
  refine hK4 _ _ ?_
  refine wp_seq_k ?_
  intro K6 hK6
  refine wp_seq_k ?_
  intro K7 hK7
  refine wp_region_sq [0, 1] (by kernel_rfl) ?_
  refine wpSq_call rfl (by kernel_rfl) fun K hK => ?_
  obtain ⟨d0, d1, d2, d3⟩ := x_b2.f4
  go_big_op; refine hK _ _ rfl ?_; clear hK K d0 d1 d2 d3
  refine wpSq_call rfl (by kernel_rfl) fun K hK => ?_
  go_big_op
  go_fit (rgNull_yes (PN.mk' hq1 hq2) (by omega) (by omega))
  rintro e w_12 ⟨rfl, hb_12⟩
  replace ha1 := ha1.bl hb_12; replace ha2 := ha2.bl hb_12; replace hq1 := hq1.bl hb_12; replace hq2 := hq2.bl hb_12; replace x_b1 := x_b1.bl hb_12; replace x_b2 := x_b2.bl hb_12; replace x_b3 := x_b3.bl hb_12; replace x_b4 := x_b4.bl hb_12; replace x_b5 := x_b5.bl hb_12; replace hb := hb.trans (hb_12.mono hb.size)
  refine hK _ _ rfl ?_
  clear hK K hb_12
  apply wpSq_end
  refine hK7 _ _ ?_
  refine wp_cond_true (congrArg Value.bool (show _ = true from (by first | rfl | assumption | (simp; done) | exact decide_eq_true (by omega) | omega))) ?_
  refine wp_seq_k ?_
  intro K8 hK8
  refine wp_region_sq [0, 1, 2, 3, 4, 5, 6, 7, 8, 9, 10, 11, 12, 13, 14, 15, 16, 17, 18] (by kernel_rfl) ?_
  refine wpSq_call rfl (by kernel_rfl) fun K hK => ?_
  go_big_move; refine hK _ _ rfl ?_; clear hK K
  refine wpSq_call rfl (by kernel_rfl) fun K hK => ?_
  go_big_op; refine hK _ _ rfl ?_; clear hK K
  refine wpSq_call rfl (by kernel_rfl) fun K hK => ?_
  go_big_move; refine hK _ _ rfl ?_; clear hK K
  refine wpSq_call rfl (by kernel_rfl) fun K hK => ?_
  obtain ⟨d0, d1, d2, d3⟩ := x_b3.f4
  go_big_op; refine hK _ _ rfl ?_; clear hK K d0 d1 d2 d3
  refine wpSq_call rfl (by kernel_rfl) fun K hK => ?_
  go_big_op
  go_fit (rgZero_any _)
  rintro e w_13 ⟨rfl, hb_13⟩
  replace ha1 := ha1.bl hb_13; replace ha2 := ha2.bl hb_13; replace hq1 := hq1.bl hb_13; replace hq2 := hq2.bl hb_13; replace x_b1 := x_b1.bl hb_13; replace x_b2 := x_b2.bl hb_13; replace x_b3 := x_b3.bl hb_13; replace x_b4 := x_b4.bl hb_13; replace x_b5 := x_b5.bl hb_13; replace hb := hb.trans (hb_13.mono hb.size)
  refine hK _ _ rfl ?_
  clear hK K hb_13
  refine wpSq_call rfl (by kernel_rfl) fun K hK => ?_
  go_big_op; refine hK _ _ rfl ?_; clear hK K
  refine wpSq_call rfl (by kernel_rfl) fun K hK => ?_
  go_big_move; refine hK _ _ rfl ?_; clear hK K
  refine wpSq_call rfl (by kernel_rfl) fun K hK => ?_
  obtain ⟨d0, d1, d2, d3⟩ := x_b4.f4
  go_big_op; refine hK _ _ rfl ?_; clear hK K d0 d1 d2 d3
  refine wpSq_call rfl (by kernel_rfl) fun K hK => ?_
  go_big_op
  go_fit (rgZero_any _)
  rintro e w_14 ⟨rfl, hb_14⟩
  replace ha1 := ha1.bl hb_14; replace ha2 := ha2.bl hb_14; replace hq1 := hq1.bl hb_14; replace hq2 := hq2.bl hb_14; replace x_b1 := x_b1.bl hb_14; replace x_b2 := x_b2.bl hb_14; replace x_b3 := x_b3.bl hb_14; replace x_b4 := x_b4.bl hb_14; replace x_b5 := x_b5.bl hb_14; replace hb := hb.trans (hb_14.mono hb.size)
  refine hK _ _ rfl ?_
  clear hK K hb_14
  refine wpSq_call rfl (by kernel_rfl) fun K hK => ?_
  go_big_op; refine hK _ _ rfl ?_; clear hK K
  refine wpSq_call rfl (by kernel_rfl) fun K hK => ?_
  go_big_move; refine hK _ _ rfl ?_; clear hK K
  refine wpSq_call rfl (by kernel_rfl) fun K hK => ?_
  go_big_move; refine hK _ _ rfl ?_; clear hK K
  refine wpSq_call rfl (by kernel_rfl) fun K hK => ?_
  go_big_op; refine hK _ _ rfl ?_; clear hK K
  refine wpSq_call rfl (by kernel_rfl) fun K hK => ?_
  go_big_op; refine hK _ _ rfl ?_; clear hK K
  refine wpSq_call rfl (by kernel_rfl) fun K hK => ?_
  go_big_move; refine hK _ _ rfl ?_; clear hK K
  refine wpSq_call rfl (by kernel_rfl) fun K hK => ?_
  obtain ⟨d0, d1, d2, d3⟩ := x_b5.f4
  go_big_op; refine hK _ _ rfl ?_; clear hK K d0 d1 d2 d3
  refine wpSq_call rfl (by kernel_rfl) fun K hK => ?_
  go_big_op
  go_fit (rgZero_any _)
  rintro e w_15 ⟨rfl, hb_15⟩
  replace ha1 := ha1.bl hb_15; replace ha2 := ha2.bl hb_15; replace hq1 := hq1.bl hb_15; replace hq2 := hq2.bl hb_15; replace x_b1 := x_b1.bl hb_15; replace x_b2 := x_b2.bl hb_15; replace x_b3 := x_b3.bl hb_15; replace x_b4 := x_b4.bl hb_15; replace x_b5 := x_b5.bl hb_15; replace hb := hb.trans (hb_15.mono hb.size)
  refine hK _ _ rfl ?_
  clear hK K hb_15
  refine wpSq_call rfl (by kernel_rfl) fun K hK => ?_
  go_big_op; refine hK _ _ rfl ?_; clear hK K
  refine wpSq_call rfl (by kernel_rfl) fun K hK => ?_
  go_big_move; refine hK _ _ rfl ?_; clear hK K
  apply wpSq_end
  refine hK8 _ _ ?_
  refine wp_ret ?_
  try dsimp only [Exit.then, Exit.inBlock]
  refine bodyPost_ret (v := (.bool true)) (by simp [results, Tryd.results5, go_sem]) rfl ?_
  exact ⟨rfl, hb⟩
set_option maxHeartbeats 8000000 in
set_option maxRecDepth 20000 in
theorem gdiv_exact (ha : PN w va x l y m) (hq : PN w vb u k v n) (hl : l ≤ 1048576) (hm : m ≤ 1048576) (hk : k ≤ 1048576) (hn : n ≤ 1048576) (h0 : gN u v ≠ 0) (h1 : (gT1 x y u v).fmod (gN u v) = 0) (h2 : (gT2 x y u v).fmod (gN u v) = 0) (htab : Lib.TabIs Tryd.prog w p10 .u64 Lib.pow10Tab) :
    Calls Tryd.prog 5 #[va, vb] w fun e w' => e = .returned (.bool true) ∧ Below w.heap.size w w' := by
  have htabs := Lib.tabBelow_of_tabIs htab
  have H0 := hide h0
  have H1 := hide h1
  have H2 := hide h2
  have HE := hide (gQ_exact h0 h1 h2)
  have HN := hide (decide_eq_false (p := u = 0 ∧ v = 0) (fun c => h0 (gN_zero.2 c)))
  have HR := hide (decide_eq_true (p := gR1 x y u v = 0 ∧ gR2 x y u v = 0) ((gR_zero h0).2 ⟨h1, h2⟩))
  clear h0 h1 h2
  obtain ⟨n_0a, o_0a, k_0a, c_0a, n_0b, o_0b, k_0b, c_0b, rfl, ha1, ha2⟩ := ha
  obtain ⟨n_1a, o_1a, k_1a, c_1a, n_1b, o_1b, k_1b, c_1b, rfl, hq1, hq2⟩ := hq
  go_enter Tryd.func5, Tryd.ntmps5
  have hb := Below.refl w.heap.size w
  refine wp_seq_k ?_
  intro K1 hK1
  refine wp_region_sq [0, 1, 2] (by kernel_rfl) ?_
  refine wpSq_call rfl (by kernel_rfl) fun K hK => ?_
  go_big_op
  obtain ⟨p_b1, w_1, eP, eW, x_b1, hn, kb_b1⟩ := newBox w #[.bool n_0a, .slice o_0a k_0a c_0a, .bool n_0b, .slice o_0b k_0b c_0b] 26 hb.size
  rw [eW, eP]
  clear eW eP
  replace ha1 := ha1.bl hn; replace ha2 := ha2.bl hn; replace hq1 := hq1.bl hn; replace hq2 := hq2.bl hn; replace hb := hb.trans (hn.mono hb.size)
  refine hK _ _ rfl ?_; clear hK K hn
  refine wpSq_call rfl (by kernel_rfl) fun K hK => ?_
  go_big_op
  have lt_b1 := x_b1.lt
  obtain ⟨p_b2, w_2, eP, eW, x_b2, hn, kb_b2⟩ := newBox w_1 #[.bool n_1a, .slice o_1a k_1a c_1a, .bool n_1b, .slice o_1b k_1b c_1b] 26 hb.size
  have ne_b1_b2 : Hid (p_b1 ≠ p_b2) := Nat.ne_of_lt (eP ▸ lt_b1)
  rw [eW, eP]
  clear eW eP lt_b1
  replace ha1 := ha1.bl hn; replace ha2 := ha2.bl hn; replace hq1 := hq1.bl hn; replace hq2 := hq2.bl hn; replace x_b1 := x_b1.bl hn; replace hb := hb.trans (hn.mono hb.size)
  refine hK _ _ rfl ?_; clear hK K hn
  refine wpSq_call rfl (by kernel_rfl) fun K hK => ?_
  go_big_move; refine hK _ _ rfl ?_; clear hK K
  apply wpSq_end
  refine hK1 _ _ ?_
  refine wp_seq_k ?_
  intro K2 hK2
  refine wp_region_sq [0, 1, 2, 3, 4, 5, 6, 7, 8, 9, 10, 11] (by kernel_rfl) ?_
  refine wpSq_call rfl (by kernel_rfl) fun K hK => ?_
  obtain ⟨d0, d1, d2, d3⟩ := x_b1.f4
  go_big_op; refine hK _ _ rfl ?_; clear hK K d0 d1 d2 d3
  refine wpSq_call rfl (by kernel_rfl) fun K hK => ?_
  obtain ⟨d0, d1, d2, d3⟩ := x_b2.f4
  go_big_op; refine hK _ _ rfl ?_; clear hK K d0 d1 d2 d3
  refine wpSq_call rfl (by kernel_rfl) fun K hK => ?_
  go_big_op
  go_fit (gRound_any (PN.mk' ha1 ha2) (PN.mk' hq1 hq2) (by omega) (by omega) (by omega) (by omega) H0.out)
  rintro e w_3 ⟨_, _, rfl, ⟨n_ca, o_ca, k_ca, c_ca, n_cb, o_cb, k_cb, c_cb, rfl, c1, c2⟩, ⟨n_ra, o_ra, k_ra, c_ra, n_rb, o_rb, k_rb, c_rb, rfl, r1, r2⟩, hb_3⟩
  replace ha1 := ha1.bl hb_3; replace ha2 := ha2.bl hb_3; replace hq1 := hq1.bl hb_3; replace hq2 := hq2.bl hb_3; replace x_b1 := x_b1.bl hb_3; replace x_b2 := x_b2.bl hb_3; replace hb := hb.trans (hb_3.mono hb.size)
  have Lc1 := hide (c1.lenOf (rnd_len (H0.out) (zlen_gT1 (ha1.len) (ha2.len) (hq1.len) (hq2.len))))
  have Lc2 := hide (c2.lenOf (rnd_len (H0.out) (zlen_gT2 (ha1.len) (ha2.len) (hq1.len) (hq2.len))))
  have Lr1 := hide (r1.lenOf (zlen_gR1 (ha1.len) (ha2.len) (hq1.len) (hq2.len) (H0.out)))
  have Lr2 := hide (r2.lenOf (zlen_gR2 (ha1.len) (ha2.len) (hq1.len) (hq2.len) (H0.out)))
  refine hK _ _ rfl ?_
  clear hK K hb_3
  refine wpSq_call rfl (by kernel_rfl) fun K hK => ?_
  go_big_move; refine hK _ _ rfl ?_; clear hK K
  refine wpSq_call rfl (by kernel_rfl) fun K hK => ?_
  go_big_op; refine hK _ _ rfl ?_; clear hK K
  refine wpSq_call rfl (by kernel_rfl) fun K hK => ?_
  go_big_op; refine hK _ _ rfl ?_; clear hK K
  refine wpSq_call rfl (by kernel_rfl) fun K hK => ?_
  go_big_op; refine hK _ _ rfl ?_; clear hK K
  refine wpSq_call rfl (by kernel_rfl) fun K hK => ?_
  go_big_op
  have lt_b1 := x_b1.lt
  have lt_b2 := x_b2.lt
  obtain ⟨p_b3, w_4, eP, eW, x_b3, hn, kb_b3⟩ := newBox w_3 #[.bool false, .slice none 0 0, .bool false, .slice none 0 0] 26 hb.size
  have ne_b1_b3 : Hid (p_b1 ≠ p_b3) := Nat.ne_of_lt (eP ▸ lt_b1)
  have ne_b2_b3 : Hid (p_b2 ≠ p_b3) := Nat.ne_of_lt (eP ▸ lt_b2)
  rw [eW, eP]
  clear eW eP lt_b1 lt_b2
  replace ha1 := ha1.bl hn; replace ha2 := ha2.bl hn; replace hq1 := hq1.bl hn; replace hq2 := hq2.bl hn; replace x_b1 := x_b1.bl hn; replace x_b2 := x_b2.bl hn; replace c1 := c1.bl hn; replace c2 := c2.bl hn; replace r1 := r1.bl hn; replace r2 := r2.bl hn; replace hb := hb.trans (hn.mono hb.size)
  refine hK _ _ rfl ?_; clear hK K hn
  refine wpSq_call rfl (by kernel_rfl) fun K hK => ?_
  go_big_op
  have lt_b1 := x_b1.lt
  have lt_b2 := x_b2.lt
  have lt_b3 := x_b3.lt
  obtain ⟨p_b4, w_5, eP, eW, x_b4, hn, kb_b4⟩ := newBox w_4 #[.bool false, .slice none 0 0, .bool false, .slice none 0 0] 26 hb.size
  have ne_b1_b4 : Hid (p_b1 ≠ p_b4) := Nat.ne_of_lt (eP ▸ lt_b1)
  have ne_b2_b4 : Hid (p_b2 ≠ p_b4) := Nat.ne_of_lt (eP ▸ lt_b2)
  have ne_b3_b4 : Hid (p_b3 ≠ p_b4) := Nat.ne_of_lt (eP ▸ lt_b3)
  rw [eW, eP]
  clear eW eP lt_b1 lt_b2 lt_b3
  replace ha1 := ha1.bl hn; replace ha2 := ha2.bl hn; replace hq1 := hq1.bl hn; replace hq2 := hq2.bl hn; replace x_b1 := x_b1.bl hn; replace x_b2 := x_b2.bl hn; replace c1 := c1.bl hn; replace c2 := c2.bl hn; replace r1 := r1.bl hn; replace r2 := r2.bl hn; replace x_b3 := x_b3.bl hn; replace hb := hb.trans (hn.mono hb.size)
  refine hK _ _ rfl ?_; clear hK K hn
  refine wpSq_call rfl (by kernel_rfl) fun K hK => ?_
  obtain ⟨d0, d1, d2, d3⟩ := x_b3.f4
  have f0 := x_b3.free 0; have f1 := x_b3.free 1; have f2 := x_b3.free 2; have f3 := x_b3.free 3
  go_big_op
  have hnd := x_b3.nod rfl rfl
  obtain ⟨w_6, eW, x_b3', ho⟩ : ∃ w', ((((w_5.setCell ⟨p_b3, 0, none⟩ (.bool n_ca)).setCell ⟨p_b3, 1, none⟩ (.slice o_ca k_ca c_ca)).setCell ⟨p_b3, 2, none⟩ (.bool n_cb)).setCell ⟨p_b3, 3, none⟩ (.slice o_cb k_cb c_cb)) = w' ∧ Bs w' p_b3 #[.bool n_ca, .slice o_ca k_ca c_ca, .bool n_cb, .slice o_cb k_cb c_cb] 26 ∧ Only p_b3 w_5 w' := x_b3.setN [(0, .bool n_ca), (1, .slice o_ca k_ca c_ca), (2, .bool n_cb), (3, .slice o_cb k_cb c_cb)]
  rw [eW]; clear eW d0 d1 d2 d3 f0 f1 f2 f3 x_b3
  have x_b3 := x_b3'; clear x_b3'
  replace ha1 := ha1.fr hnd ho; replace ha2 := ha2.fr hnd ho; replace hq1 := hq1.fr hnd ho; replace hq2 := hq2.fr hnd ho; replace x_b1 := x_b1.frame ho ne_b1_b3; replace x_b2 := x_b2.frame ho ne_b2_b3; replace c1 := c1.fr hnd ho; replace c2 := c2.fr hnd ho; replace r1 := r1.fr hnd ho; replace r2 := r2.fr hnd ho; replace x_b4 := x_b4.frame ho ne_b3_b4.symm; replace hb := belowOnly hb ho kb_b3
  refine hK _ _ rfl ?_; clear hK K ho hnd
  refine wpSq_call rfl (by kernel_rfl) fun K hK => ?_
  obtain ⟨d0, d1, d2, d3⟩ := x_b4.f4
  have f0 := x_b4.free 0; have f1 := x_b4.free 1; have f2 := x_b4.free 2; have f3 := x_b4.free 3
  go_big_op
  have hnd := x_b4.nod rfl rfl
  obtain ⟨w_7, eW, x_b4', ho⟩ : ∃ w', ((((w_6.setCell ⟨p_b4, 0, none⟩ (.bool n_ra)).setCell ⟨p_b4, 1, none⟩ (.slice o_ra k_ra c_ra)).setCell ⟨p_b4, 2, none⟩ (.bool n_rb)).setCell ⟨p_b4, 3, none⟩ (.slice o_rb k_rb c_rb)) = w' ∧ Bs w' p_b4 #[.bool n_ra, .slice o_ra k_ra c_ra, .bool n_rb, .slice o_rb k_rb c_rb] 26 ∧ Only p_b4 w_6 w' := x_b4.setN [(0, .bool n_ra), (1, .slice o_ra k_ra c_ra), (2, .bool n_rb), (3, .slice o_rb k_rb c_rb)]
  rw [eW]; clear eW d0 d1 d2 d3 f0 f1 f2 f3 x_b4
  have x_b4 := x_b4'; clear x_b4'
  replace ha1 := ha1.fr hnd ho; replace ha2 := ha2.fr hnd ho; replace hq1 := hq1.fr hnd ho; replace hq2 := hq2.fr hnd ho; replace x_b1 := x_b1.frame ho ne_b1_b4; replace x_b2 := x_b2.frame ho ne_b2_b4; replace c1 := c1.fr hnd ho; replace c2 := c2.fr hnd ho; replace r1 := r1.fr hnd ho; replace r2 := r2.fr hnd ho; replace x_b3 := x_b3.frame ho ne_b3_b4; replace hb := belowOnly hb ho kb_b4
  refine hK _ _ rfl ?_; clear hK K ho hnd
  refine wpSq_call rfl (by kernel_rfl) fun K hK => ?_
  go_big_move; refine hK _ _ rfl ?_; clear hK K
  apply wpSq_end
  refine hK2 _ _ ?_
  refine wp_seq_k ?_
  intro K3 hK3
  refine wp_region_sq [0, 1, 2, 3, 4, 5, 6, 7, 8] (by kernel_rfl) ?_
  refine wpSq_call rfl (by kernel_rfl) fun K hK => ?_
  obtain ⟨d0, d1, d2, d3⟩ := x_b1.f4
  go_big_op; refine hK _ _ rfl ?_; clear hK K d0 d1 d2 d3
  refine wpSq_call rfl (by kernel_rfl) fun K hK => ?_
  obtain ⟨d0, d1, d2, d3⟩ := x_b2.f4
  go_big_op; refine hK _ _ rfl ?_; clear hK K d0 d1 d2 d3
  refine wpSq_call rfl (by kernel_rfl) fun K hK => ?_
  go_big_op
  go_fit (gExact_any (PN.mk' ha1 ha2) (PN.mk' hq1 hq2) (by omega) (by omega) (by omega) (by omega) H0.out H1.out H2.out)
  rintro e w_8 ⟨_, rfl, ⟨n_ea, o_ea, k_ea, c_ea, n_eb, o_eb, k_eb, c_eb, rfl, e1, e2⟩, hb_8⟩
  replace ha1 := ha1.bl hb_8; replace ha2 := ha2.bl hb_8; replace hq1 := hq1.bl hb_8; replace hq2 := hq2.bl hb_8; replace x_b1 := x_b1.bl hb_8; replace x_b2 := x_b2.bl hb_8; replace c1 := c1.bl hb_8; replace c2 := c2.bl hb_8; replace r1 := r1.bl hb_8; replace r2 := r2.bl hb_8; replace x_b3 := x_b3.bl hb_8; replace x_b4 := x_b4.bl hb_8; replace hb := hb.trans (hb_8.mono hb.size)
  have Le1 := hide (e1.lenOf (fdiv_len (H0.out) (zlen_gT1 (ha1.len) (ha2.len) (hq1.len) (hq2.len))))
  have Le2 := hide (e2.lenOf (fdiv_len (H0.out) (zlen_gT2 (ha1.len) (ha2.len) (hq1.len) (hq2.len))))
  rw [HE.out.1] at e1
  rw [HE.out.2] at e2
  refine hK _ _ rfl ?_
  clear hK K hb_8
  refine wpSq_call rfl (by kernel_rfl) fun K hK => ?_
  go_big_move; refine hK _ _ rfl ?_; clear hK K
  refine wpSq_call rfl (by kernel_rfl) fun K hK => ?_
  go_big_op; refine hK _ _ rfl ?_; clear hK K
  refine wpSq_call rfl (by kernel_rfl) fun K hK => ?_
  go_big_op; refine hK _ _ rfl ?_; clear hK K
  refine wpSq_call rfl (by kernel_rfl) fun K hK => ?_
  go_big_op
  have lt_b1 := x_b1.lt
  have lt_b2 := x_b2.lt
  have lt_b3 := x_b3.lt
  have lt_b4 := x_b4.lt
  obtain ⟨p_b5, w_9, eP, eW, x_b5, hn, kb_b5⟩ := newBox w_8 #[.bool false, .slice none 0 0, .bool false, .slice none 0 0] 26 hb.size
  have ne_b1_b5 : Hid (p_b1 ≠ p_b5) := Nat.ne_of_lt (eP ▸ lt_b1)
  have ne_b2_b5 : Hid (p_b2 ≠ p_b5) := Nat.ne_of_lt (eP ▸ lt_b2)
  have ne_b3_b5 : Hid (p_b3 ≠ p_b5) := Nat.ne_of_lt (eP ▸ lt_b3)
  have ne_b4_b5 : Hid (p_b4 ≠ p_b5) := Nat.ne_of_lt (eP ▸ lt_b4)
  rw [eW, eP]
  clear eW eP lt_b1 lt_b2 lt_b3 lt_b4
  replace ha1 := ha1.bl hn; replace ha2 := ha2.bl hn; replace hq1 := hq1.bl hn; replace hq2 := hq2.bl hn; replace x_b1 := x_b1.bl hn; replace x_b2 := x_b2.bl hn; replace c1 := c1.bl hn; replace c2 := c2.bl hn; replace r1 := r1.bl hn; replace r2 := r2.bl hn; replace x_b3 := x_b3.bl hn; replace x_b4 := x_b4.bl hn; replace e1 := e1.bl hn; replace e2 := e2.bl hn; replace hb := hb.trans (hn.mono hb.size)
  refine hK _ _ rfl ?_; clear hK K hn
  refine wpSq_call rfl (by kernel_rfl) fun K hK => ?_
  obtain ⟨d0, d1, d2, d3⟩ := x_b5.f4
  have f0 := x_b5.free 0; have f1 := x_b5.free 1; have f2 := x_b5.free 2; have f3 := x_b5.free 3
  go_big_op
  have hnd := x_b5.nod rfl rfl
  obtain ⟨w_10, eW, x_b5', ho⟩ : ∃ w', ((((w_9.setCell ⟨p_b5, 0, none⟩ (.bool n_ea)).setCell ⟨p_b5, 1, none⟩ (.slice o_ea k_ea c_ea)).setCell ⟨p_b5, 2, none⟩ (.bool n_eb)).setCell ⟨p_b5, 3, none⟩ (.slice o_eb k_eb c_eb)) = w' ∧ Bs w' p_b5 #[.bool n_ea, .slice o_ea k_ea c_ea, .bool n_eb, .slice o_eb k_eb c_eb] 26 ∧ Only p_b5 w_9 w' := x_b5.setN [(0, .bool n_ea), (1, .slice o_ea k_ea c_ea), (2, .bool n_eb), (3, .slice o_eb k_eb c_eb)]
  rw [eW]; clear eW d0 d1 d2 d3 f0 f1 f2 f3 x_b5
  have x_b5 := x_b5'; clear x_b5'
  replace ha1 := ha1.fr hnd ho; replace ha2 := ha2.fr hnd ho; replace hq1 := hq1.fr hnd ho; replace hq2 := hq2.fr hnd ho; replace x_b1 := x_b1.frame ho ne_b1_b5; replace x_b2 := x_b2.frame ho ne_b2_b5; replace c1 := c1.fr hnd ho; replace c2 := c2.fr hnd ho; replace r1 := r1.fr hnd ho; replace r2 := r2.fr hnd ho; replace x_b3 := x_b3.frame ho ne_b3_b5; replace x_b4 := x_b4.frame ho ne_b4_b5; replace e1 := e1.fr hnd ho; replace e2 := e2.fr hnd ho; replace hb := belowOnly hb ho kb_b5
  refine hK _ _ rfl ?_; clear hK K ho hnd
  refine wpSq_call rfl (by kernel_rfl) fun K hK => ?_
  go_big_move; refine hK _ _ rfl ?_; clear hK K
  apply wpSq_end
  refine hK3 _ _ ?_
  refine wp_seq_k ?_
  intro K4 hK4
  refine wp_seq_k ?_
  intro K5 hK5
  refine wp_region_sq [0, 1] (by kernel_rfl) ?_
  refine wpSq_call rfl (by kernel_rfl) fun K hK => ?_
  go_big_op
  go_fit (gawake_any _ (htabs _ hb))
  rintro e w_11 ⟨rfl, hb_11⟩
  replace ha1 := ha1.bl hb_11; replace ha2 := ha2.bl hb_11; replace hq1 := hq1.bl hb_11; replace hq2 := hq2.bl hb_11; replace x_b1 := x_b1.bl hb_11; replace x_b2 := x_b2.bl hb_11; replace c1 := c1.bl hb_11; replace c2 := c2.bl hb_11; replace r1 := r1.bl hb_11; replace r2 := r2.bl hb_11; replace x_b3 := x_b3.bl hb_11; replace x_b4 := x_b4.bl hb_11; replace e1 := e1.bl hb_11; replace e2 := e2.bl hb_11; replace x_b5 := x_b5.bl hb_11; replace hb := hb.trans (hb_11.mono hb.size)
  refine hK _ _ rfl ?_
  clear hK K hb_11
  refine wpSq_call rfl (by kernel_rfl) fun K hK => ?_
  go_big_op; refine hK _ _ rfl ?_; clear hK K
  apply wpSq_end
  refine hK5 _ _ ?_
  refine wp_cond_false (congrArg Value.bool (show _ = false from (by first | rfl | assumption | (simp; done) | exact decide_eq_false (by omega) | omega))) ?_
  refine wp_skip ?_
  refine hK4 _ _ ?_
  refine wp_seq_k ?_
  intro K6 hK6
  refine wp_seq_k ?_
  intro K7 hK7
  refine wp_region_sq [0, 1] (by kernel_rfl) ?_
  refine wpSq_call rfl (by kernel_rfl) fun K hK => ?_
  obtain ⟨d0, d1, d2, d3⟩ := x_b2.f4
  go_big_op; refine hK _ _ rfl ?_; clear hK K d0 d1 d2 d3
  refine wpSq_call rfl (by kernel_rfl) fun K hK => ?_
  go_big_op
  go_fit (rgNull_any (PN.mk' hq1 hq2) (by omega) (by omega) )
  rintro e w_12 ⟨rfl, hb_12⟩
  replace ha1 := ha1.bl hb_12; replace ha2 := ha2.bl hb_12; replace hq1 := hq1.bl hb_12; replace hq2 := hq2.bl hb_12; replace x_b1 := x_b1.bl hb_12; replace x_b2 := x_b2.bl hb_12; replace c1 := c1.bl hb_12; replace c2 := c2.bl hb_12; replace r1 := r1.bl hb_12; replace r2 := r2.bl hb_12; replace x_b3 := x_b3.bl hb_12; replace x_b4 := x_b4.bl hb_12; replace e1 := e1.bl hb_12; replace e2 := e2.bl hb_12; replace x_b5 := x_b5.bl hb_12; replace hb := hb.trans (hb_12.mono hb.size)
  rw [HN.out]
  refine hK _ _ rfl ?_
  clear hK K hb_12
  apply wpSq_end
  refine hK7 _ _ ?_
  refine wp_cond_false (congrArg Value.bool (show _ = false from (by first | rfl | assumption | (simp; done) | exact decide_eq_false (by omega) | omega))) ?_
  refine wp_skip ?_
  refine hK6 _ _ ?_
  refine wp_seq_k ?_
  intro K8 hK8
  refine wp_region_sq [0, 1, 2, 3, 4, 5, 6, 7, 8, 9] (by kernel_rfl) ?_
  refine wpSq_call rfl (by kernel_rfl) fun K hK => ?_
  obtain ⟨d0, d1, d2, d3⟩ := x_b1.f4
  go_big_op; refine hK _ _ rfl ?_; clear hK K d0 d1 d2 d3
  refine wpSq_call rfl (by kernel_rfl) fun K hK => ?_
  obtain ⟨d0, d1, d2, d3⟩ := x_b2.f4
  go_big_op; refine hK _ _ rfl ?_; clear hK K d0 d1 d2 d3
  refine wpSq_call rfl (by kernel_rfl) fun K hK => ?_
  go_big_op
  go_fit (rgRound_any (PN.mk' ha1 ha2) (PN.mk' hq1 hq2) (by omega) (by omega) (by omega) (by omega) H0.out)
  rintro e w_13 ⟨_, _, rfl, ⟨n_da, o_da, k_da, c_da, n_db, o_db, k_db, c_db, rfl, d1, d2⟩, ⟨n_sa, o_sa, k_sa, c_sa, n_sb, o_sb, k_sb, c_sb, rfl, s1, s2⟩, hb_13⟩
  clear x_b1 x_b2
  replace ha1 := ha1.bl hb_13; replace ha2 := ha2.bl hb_13; replace hq1 := hq1.bl hb_13; replace hq2 := hq2.bl hb_13; replace c1 := c1.bl hb_13; replace c2 := c2.bl hb_13; replace r1 := r1.bl hb_13; replace r2 := r2.bl hb_13; replace x_b3 := x_b3.bl hb_13; replace x_b4 := x_b4.bl hb_13; replace e1 := e1.bl hb_13; replace e2 := e2.bl hb_13; replace x_b5 := x_b5.bl hb_13; replace hb := hb.trans (hb_13.mono hb.size)
  have Ld1 := hide (d1.lenOf (rnd_len (H0.out) (zlen_gT1 (ha1.len) (ha2.len) (hq1.len) (hq2.len))))
  have Ld2 := hide (d2.lenOf (rnd_len (H0.out) (zlen_gT2 (ha1.len) (ha2.len) (hq1.len) (hq2.len))))
  have Ls1 := hide (s1.lenOf (zlen_gR1 (ha1.len) (ha2.len) (hq1.len) (hq2.len) (H0.out)))
  have Ls2 := hide (s2.lenOf (zlen_gR2 (ha1.len) (ha2.len) (hq1.len) (hq2.len) (H0.out)))
  refine hK _ _ rfl ?_
  clear hK K hb_13
  refine wpSq_call rfl (by kernel_rfl) fun K hK => ?_
  go_big_move; refine hK _ _ rfl ?_; clear hK K
  refine wpSq_call rfl (by kernel_rfl) fun K hK => ?_
  go_big_op; refine hK _ _ rfl ?_; clear hK K
  refine wpSq_call rfl (by kernel_rfl) fun K hK => ?_
  go_big_op; refine hK _ _ rfl ?_; clear hK K
  refine wpSq_call rfl (by kernel_rfl) fun K hK => ?_
  go_big_op
  clear ha1 ha2 hq1 hq2
  have lt_b3 := x_b3.lt
  have lt_b4 := x_b4.lt
  have lt_b5 := x_b5.lt
  obtain ⟨p_b6, w_14, eP, eW, x_b6, hn, kb_b6⟩ := newBox w_13 #[.bool false, .slice none 0 0, .bool false, .slice none 0 0] 26 hb.size
  have ne_b3_b6 : Hid (p_b3 ≠ p_b6) := Nat.ne_of_lt (eP ▸ lt_b3)
  have ne_b4_b6 : Hid (p_b4 ≠ p_b6) := Nat.ne_of_lt (eP ▸ lt_b4)
  have ne_b5_b6 : Hid (p_b5 ≠ p_b6) := Nat.ne_of_lt (eP ▸ lt_b5)
  rw [eW, eP]
  clear eW eP lt_b3 lt_b4 lt_b5
  replace c1 := c1.bl hn; replace c2 := c2.bl hn; replace r1 := r1.bl hn; replace r2 := r2.bl hn; replace x_b3 := x_b3.bl hn; replace x_b4 := x_b4.bl hn; replace e1 := e1.bl hn; replace e2 := e2.bl hn; replace x_b5 := x_b5.bl hn; replace d1 := d1.bl hn; replace d2 := d2.bl hn; replace s1 := s1.bl hn; replace s2 := s2.bl hn; replace hb := hb.trans (hn.mono hb.size)
  refine hK _ _ rfl ?_; clear hK K hn
  refine wpSq_call rfl (by kernel_rfl) fun K hK => ?_
  go_big_op
  have lt_b3 := x_b3.lt
  have lt_b4 := x_b4.lt
  have lt_b5 := x_b5.lt
  have lt_b6 := x_b6.lt
  obtain ⟨p_b7, w_15, eP, eW, x_b7, hn, kb_b7⟩ := newBox w_14 #[.bool false, .slice none 0 0, .bool false, .slice none 0 0] 26 hb.size
  have ne_b3_b7 : Hid (p_b3 ≠ p_b7) := Nat.ne_of_lt (eP ▸ lt_b3)
  have ne_b4_b7 : Hid (p_b4 ≠ p_b7) := Nat.ne_of_lt (eP ▸ lt_b4)
  have ne_b5_b7 : Hid (p_b5 ≠ p_b7) := Nat.ne_of_lt (eP ▸ lt_b5)
  have ne_b6_b7 : Hid (p_b6 ≠ p_b7) := Nat.ne_of_lt (eP ▸ lt_b6)
  rw [eW, eP]
  clear eW eP lt_b3 lt_b4 lt_b5 lt_b6
  replace c1 := c1.bl hn; replace c2 := c2.bl hn; replace r1 := r1.bl hn; replace r2 := r2.bl hn; replace x_b3 := x_b3.bl hn; replace x_b4 := x_b4.bl hn; replace e1 := e1.bl hn; replace e2 := e2.bl hn; replace x_b5 := x_b5.bl hn; replace d1 := d1.bl hn; replace d2 := d2.bl hn; replace s1 := s1.bl hn; replace s2 := s2.bl hn; replace x_b6 := x_b6.bl hn; replace hb := hb.trans (hn.mono hb.size)
  refine hK _ _ rfl ?_; clear hK K hn
  refine wpSq_call rfl (by kernel_rfl) fun K hK => ?_
  obtain ⟨d0, d1, d2, d3⟩ := x_b6.f4
  have f0 := x_b6.free 0; have f1 := x_b6.free 1; have f2 := x_b6.free 2; have f3 := x_b6.free 3
  go_big_op
  have hnd := x_b6.nod rfl rfl
  obtain ⟨w_16, eW, x_b6', ho⟩ : ∃ w', ((((w_15.setCell ⟨p_b6, 0, none⟩ (.bool n_da)).setCell ⟨p_b6, 1, none⟩ (.slice o_da k_da c_da)).setCell ⟨p_b6, 2, none⟩ (.bool n_db)).setCell ⟨p_b6, 3, none⟩ (.slice o_db k_db c_db)) = w' ∧ Bs w' p_b6 #[.bool n_da, .slice o_da k_da c_da, .bool n_db, .slice o_db k_db c_db] 26 ∧ Only p_b6 w_15 w' := x_b6.setN [(0, .bool n_da), (1, .slice o_da k_da c_da), (2, .bool n_db), (3, .slice o_db k_db c_db)]
  rw [eW]; clear eW d0 d1 d2 d3 f0 f1 f2 f3 x_b6
  have x_b6 := x_b6'; clear x_b6'
  replace c1 := c1.fr hnd ho; replace c2 := c2.fr hnd ho; replace r1 := r1.fr hnd ho; replace r2 := r2.fr hnd ho; replace x_b3 := x_b3.frame ho ne_b3_b6; replace x_b4 := x_b4.frame ho ne_b4_b6; replace e1 := e1.fr hnd ho; replace e2 := e2.fr hnd ho; replace x_b5 := x_b5.frame ho ne_b5_b6; replace d1 := d1.fr hnd ho; replace d2 := d2.fr hnd ho; replace s1 := s1.fr hnd ho; replace s2 := s2.fr hnd ho; replace x_b7 := x_b7.frame ho ne_b6_b7.symm; replace hb := belowOnly hb ho kb_b6
  refine hK _ _ rfl ?_; clear hK K ho hnd
  refine wpSq_call rfl (by kernel_rfl) fun K hK => ?_
  obtain ⟨d0, d1, d2, d3⟩ := x_b7.f4
  have f0 := x_b7.free 0; have f1 := x_b7.free 1; have f2 := x_b7.free 2; have f3 := x_b7.free 3
  go_big_op
  have hnd := x_b7.nod rfl rfl
  obtain ⟨w_17, eW, x_b7', ho⟩ : ∃ w', ((((w_16.setCell ⟨p_b7, 0, none⟩ (.bool n_sa)).setCell ⟨p_b7, 1, none⟩ (.slice o_sa k_sa c_sa)).setCell ⟨p_b7, 2, none⟩ (.bool n_sb)).setCell ⟨p_b7, 3, none⟩ (.slice o_sb k_sb c_sb)) = w' ∧ Bs w' p_b7 #[.bool n_sa, .slice o_sa k_sa c_sa, .bool n_sb, .slice o_sb k_sb c_sb] 26 ∧ Only p_b7 w_16 w' := x_b7.setN [(0, .bool n_sa), (1, .slice o_sa k_sa c_sa), (2, .bool n_sb), (3, .slice o_sb k_sb c_sb)]
  rw [eW]; clear eW d0 d1 d2 d3 f0 f1 f2 f3 x_b7
  have x_b7 := x_b7'; clear x_b7'
  replace c1 := c1.fr hnd ho; replace c2 := c2.fr hnd ho; replace r1 := r1.fr hnd ho; replace r2 := r2.fr hnd ho; replace x_b3 := x_b3.frame ho ne_b3_b7; replace x_b4 := x_b4.frame ho ne_b4_b7; replace e1 := e1.fr hnd ho; replace e2 := e2.fr hnd ho; replace x_b5 := x_b5.frame ho ne_b5_b7; replace d1 := d1.fr hnd ho; replace d2 := d2.fr hnd ho; replace s1 := s1.fr hnd ho; replace s2 := s2.fr hnd ho; replace x_b6 := x_b6.frame ho ne_b6_b7; replace hb := belowOnly hb ho kb_b7
  refine hK _ _ rfl ?_; clear hK K ho hnd
  apply wpSq_end
  refine hK8 _ _ ?_
  refine wp_seq_k ?_
  intro K9 hK9
  refine wp_seq_k ?_
  intro K10 hK10
  refine wp_region_sq [0, 1, 2, 3, 4, 5, 6, 7, 8, 9, 10, 11, 12, 13] (by kernel_rfl) ?_
  refine wpSq_call rfl (by kernel_rfl) fun K hK => ?_
  go_big_move; refine hK _ _ rfl ?_; clear hK K
  refine wpSq_call rfl (by kernel_rfl) fun K hK => ?_
  go_big_op; refine hK _ _ rfl ?_; clear hK K
  refine wpSq_call rfl (by kernel_rfl) fun K hK => ?_
  go_big_move; refine hK _ _ rfl ?_; clear hK K
  refine wpSq_call rfl (by kernel_rfl) fun K hK => ?_
  obtain ⟨d0, d1, d2, d3⟩ := x_b3.f4
  go_big_op; refine hK _ _ rfl ?_; clear hK K d0 d1 d2 d3
  refine wpSq_call rfl (by kernel_rfl) fun K hK => ?_
  obtain ⟨d0, d1, d2, d3⟩ := x_b6.f4
  go_big_op; refine hK _ _ rfl ?_; clear hK K d0 d1 d2 d3
  refine wpSq_call rfl (by kernel_rfl) fun K hK => ?_
  go_big_op
  go_fit (gis_any (PC.mk' c1 c2) (PN.mk' (d1.zn Ld1.out) (d2.zn Ld2.out)) (by omega) (by omega) )
  rintro e w_18 ⟨rfl, hb_18⟩
  clear x_b3
  replace c1 := c1.bl hb_18; replace c2 := c2.bl hb_18; replace r1 := r1.bl hb_18; replace r2 := r2.bl hb_18; replace x_b4 := x_b4.bl hb_18; replace e1 := e1.bl hb_18; replace e2 := e2.bl hb_18; replace x_b5 := x_b5.bl hb_18; replace d1 := d1.bl hb_18; replace d2 := d2.bl hb_18; replace s1 := s1.bl hb_18; replace s2 := s2.bl hb_18; replace x_b6 := x_b6.bl hb_18; replace x_b7 := x_b7.bl hb_18; replace hb := hb.trans (hb_18.mono hb.size)
  refine hK _ _ rfl ?_
  clear hK K hb_18
  refine wpSq_call rfl (by kernel_rfl) fun K hK => ?_
  go_big_op; refine hK _ _ rfl ?_; clear hK K
  refine wpSq_call rfl (by kernel_rfl) fun K hK => ?_
  go_big_op; refine hK _ _ rfl ?_; clear hK K
  refine wpSq_call rfl (by kernel_rfl) fun K hK => ?_
  go_big_move; refine hK _ _ rfl ?_; clear hK K
  refine wpSq_call rfl (by kernel_rfl) fun K hK => ?_
  obtain ⟨d0, d1, d2, d3⟩ := x_b4.f4
  go_big_op; refine hK _ _ rfl ?_; clear hK K d0 d1 d2 d3
  refine wpSq_call rfl (by kernel_rfl) fun K hK => ?_
  obtain ⟨d0, d1, d2, d3⟩ := x_b7.f4
  go_big_op; refine hK _ _ rfl ?_; clear hK K d0 d1 d2 d3
  refine wpSq_call rfl (by kernel_rfl) fun K hK => ?_
  go_big_op
  go_fit (gis_any (PC.mk' r1 r2) (PN.mk' (s1.zn Ls1.out) (s2.zn Ls2.out)) (by omega) (by omega) )
  rintro e w_19 ⟨rfl, hb_19⟩
  clear c1 c2 x_b4
  replace r1 := r1.bl hb_19; replace r2 := r2.bl hb_19; replace e1 := e1.bl hb_19; replace e2 := e2.bl hb_19; replace x_b5 := x_b5.bl hb_19; replace d1 := d1.bl hb_19; replace d2 := d2.bl hb_19; replace s1 := s1.bl hb_19; replace s2 := s2.bl hb_19; replace x_b6 := x_b6.bl hb_19; replace x_b7 := x_b7.bl hb_19; replace hb := hb.trans (hb_19.mono hb.size)
  refine hK _ _ rfl ?_
  clear hK K hb_19
  refine wpSq_call rfl (by kernel_rfl) fun K hK => ?_
  go_big_op; refine hK _ _ rfl ?_; clear hK K
  refine wpSq_call rfl (by kernel_rfl) fun K hK => ?_
  go_big_op; refine hK _ _ rfl ?_; clear hK K
  apply wpSq_end
  refine hK10 _ _ ?_
  refine wp_cond_false (congrArg Value.bool (show _ = false from (by first | rfl | assumption | (simp; done) | exact decide_eq_false (by omega) | omega))) ?_
  refine wp_skip ?_
  refine hK9 _ _ ?_
  refine wp_seq_k ?_
  intro K11 hK11
  refine wp_seq_k ?_
  intro K12 hK12
  refine wp_region_sq [0, 1, 2] (by kernel_rfl) ?_
  refine wpSq_call rfl (by kernel_rfl) fun K hK => ?_
  obtain ⟨d0, d1, d2, d3⟩ := x_b7.f4
  go_big_op; refine hK _ _ rfl ?_; clear hK K d0 d1 d2 d3
  refine wpSq_call rfl (by kernel_rfl) fun K hK => ?_
  go_big_op
  go_fit (rgNull_any (PN.mk' (s1.zn Ls1.out) (s2.zn Ls2.out)) (by omega) (by omega) )
  rintro e w_20 ⟨rfl, hb_20⟩
  clear r1 r2 x_b7
  replace e1 := e1.bl hb_20; replace e2 := e2.bl hb_20; replace x_b5 := x_b5.bl hb_20; replace d1 := d1.bl hb_20; replace d2 := d2.bl hb_20; replace s1 := s1.bl hb_20; replace s2 := s2.bl hb_20; replace x_b6 := x_b6.bl hb_20; replace hb := hb.trans (hb_20.mono hb.size)
  rw [HR.out]
  refine hK _ _ rfl ?_
  clear hK K hb_20
  refine wpSq_call rfl (by kernel_rfl) fun K hK => ?_
  go_big_op; refine hK _ _ rfl ?_; clear hK K
  apply wpSq_end
  refine hK12 _ _ ?_
  refine wp_cond_false (congrArg Value.bool (show _ = false from (by first | rfl | assumption | (simp; done) | exact decide_eq_false (by omega) | omega))) ?_
  refine wp_skip ?_
  refine hK11 _ _ ?_
  refine wp_seq_k ?_
  intro K13 hK13
  refine wp_region_sq [0, 1, 2, 3, 4, 5, 6, 7] (by kernel_rfl) ?_
  refine wpSq_call rfl (by kernel_rfl) fun K hK => ?_
  go_big_move; refine hK _ _ rfl ?_; clear hK K
  refine wpSq_call rfl (by kernel_rfl) fun K hK => ?_
  go_big_op; refine hK _ _ rfl ?_; clear hK K
  refine wpSq_call rfl (by kernel_rfl) fun K hK => ?_
  go_big_move; refine hK _ _ rfl ?_; clear hK K
  refine wpSq_call rfl (by kernel_rfl) fun K hK => ?_
  obtain ⟨d0, d1, d2, d3⟩ := x_b5.f4
  go_big_op; refine hK _ _ rfl ?_; clear hK K d0 d1 d2 d3
  refine wpSq_call rfl (by kernel_rfl) fun K hK => ?_
  obtain ⟨d0, d1, d2, d3⟩ := x_b6.f4
  go_big_op; refine hK _ _ rfl ?_; clear hK K d0 d1 d2 d3
  refine wpSq_call rfl (by kernel_rfl) fun K hK => ?_
  go_big_op
  go_fit (gis_any (PC.mk' e1 e2) (PN.mk' (d1.zn Ld1.out) (d2.zn Ld2.out)) (by omega) (by omega) )
  rintro e w_21 ⟨rfl, hb_21⟩
  clear x_b5 s1 s2 x_b6
  replace e1 := e1.bl hb_21; replace e2 := e2.bl hb_21; replace d1 := d1.bl hb_21; replace d2 := d2.bl hb_21; replace hb := hb.trans (hb_21.mono hb.size)
  refine hK _ _ rfl ?_
  clear hK K hb_21
  refine wpSq_call rfl (by kernel_rfl) fun K hK => ?_
  go_big_op; refine hK _ _ rfl ?_; clear hK K
  refine wpSq_call rfl (by kernel_rfl) fun K hK => ?_
  go_big_move; refine hK _ _ rfl ?_; clear hK K
  apply wpSq_end
  refine hK13 _ _ ?_
  refine wp_ret ?_
  try dsimp only [Exit.then, Exit.inBlock]
  refine bodyPost_ret (v := (.bool true)) (by simp [results, Tryd.results5, go_sem]) rfl ?_
  exact ⟨rfl, hb⟩
set_option maxHeartbeats 8000000 in
set_option maxRecDepth 20000 in
theorem gdiv_rest (ha : PN w va x l y m) (hq : PN w vb u k v n) (hl : l ≤ 1048576) (hm : m ≤ 1048576) (hk : k ≤ 1048576) (hn : n ≤ 1048576) (h0 : gN u v ≠ 0) (h1 : ¬ ((gT1 x y u v).fmod (gN u v) = 0 ∧ (gT2 x y u v).fmod (gN u v) = 0)) (htab : Lib.TabIs Tryd.prog w p10 .u64 Lib.pow10Tab) :
    Calls Tryd.prog 5 #[va, vb] w fun e w' => e = .returned (.bool true) ∧ Below w.heap.size w w' := by
  have htabs := Lib.tabBelow_of_tabIs htab
  have H0 := hide h0
  have H1 := hide h1
  have HN := hide (decide_eq_false (p := u = 0 ∧ v = 0) (fun c => h0 (gN_zero.2 c)))
  have HR := hide (decide_eq_false (p := gR1 x y u v = 0 ∧ gR2 x y u v = 0) (fun c => h1 ((gR_zero h0).1 c)))
  clear h0 h1
  obtain ⟨n_0a, o_0a, k_0a, c_0a, n_0b, o_0b, k_0b, c_0b, rfl, ha1, ha2⟩ := ha
  obtain ⟨n_1a, o_1a, k_1a, c_1a, n_1b, o_1b, k_1b, c_1b, rfl, hq1, hq2⟩ := hq
  go_enter Tryd.func5, Tryd.ntmps5
  have hb := Below.refl w.heap.size w
  refine wp_seq_k ?_
  intro K1 hK1
  refine wp_region_sq [0, 1, 2] (by kernel_rfl) ?_
  refine wpSq_call rfl (by kernel_rfl) fun K hK => ?_
  go_big_op
  obtain ⟨p_b1, w_1, eP, eW, x_b1, hn, kb_b1⟩ := newBox w #[.bool n_0a, .slice o_0a k_0a c_0a, .bool n_0b, .slice o_0b k_0b c_0b] 26 hb.size
  rw [eW, eP]
  clear eW eP
  replace ha1 := ha1.bl hn; replace ha2 := ha2.bl hn; replace hq1 := hq1.bl hn; replace hq2 := hq2.bl hn; replace hb := hb.trans (hn.mono hb.size)
  refine hK _ _ rfl ?_; clear hK K hn
  refine wpSq_call rfl (by kernel_rfl) fun K hK => ?_
  go_big_op
  have lt_b1 := x_b1.lt
  obtain ⟨p_b2, w_2, eP, eW, x_b2, hn, kb_b2⟩ := newBox w_1 #[.bool n_1a, .slice o_1a k_1a c_1a, .bool n_1b, .slice o_1b k_1b c_1b] 26 hb.size
  have ne_b1_b2 : Hid (p_b1 ≠ p_b2) := Nat.ne_of_lt (eP ▸ lt_b1)
  rw [eW, eP]
  clear eW eP lt_b1
  replace ha1 := ha1.bl hn; replace ha2 := ha2.bl hn; replace hq1 := hq1.bl hn; replace hq2 := hq2.bl hn; replace x_b1 := x_b1.bl hn; replace hb := hb.trans (hn.mono hb.size)
  refine hK _ _ rfl ?_; clear hK K hn
  refine wpSq_call rfl (by kernel_rfl) fun K hK => ?_
  go_big_move; refine hK _ _ rfl ?_; clear hK K
  apply wpSq_end
  refine hK1 _ _ ?_
  refine wp_seq_k ?_
  intro K2 hK2
  refine wp_region_sq [0, 1, 2, 3, 4, 5, 6, 7, 8, 9, 10, 11] (by kernel_rfl) ?_
  refine wpSq_call rfl (by kernel_rfl) fun K hK => ?_
  obtain ⟨d0, d1, d2, d3⟩ := x_b1.f4
  go_big_op; refine hK _ _ rfl ?_; clear hK K d0 d1 d2 d3
  refine wpSq_call rfl (by kernel_rfl) fun K hK => ?_
  obtain ⟨d0, d1, d2, d3⟩ := x_b2.f4
  go_big_op; refine hK _ _ rfl ?_; clear hK K d0 d1 d2 d3
  refine wpSq_call rfl (by kernel_rfl) fun K hK => ?_
  go_big_op
  go_fit (gRound_any (PN.mk' ha1 ha2) (PN.mk' hq1 hq2) (by omega) (by omega) (by omega) (by omega) H0.out)
  rintro e w_3 ⟨_, _, rfl, ⟨n_ca, o_ca, k_ca, c_ca, n_cb, o_cb, k_cb, c_cb, rfl, c1, c2⟩, ⟨n_ra, o_ra, k_ra, c_ra, n_rb, o_rb, k_rb, c_rb, rfl, r1, r2⟩, hb_3⟩
  replace ha1 := ha1.bl hb_3; replace ha2 := ha2.bl hb_3; replace hq1 := hq1.bl hb_3; replace hq2 := hq2.bl hb_3; replace x_b1 := x_b1.bl hb_3; replace x_b2 := x_b2.bl hb_3; replace hb := hb.trans (hb_3.mono hb.size)
  have Lc1 := hide (c1.lenOf (rnd_len (H0.out) (zlen_gT1 (ha1.len) (ha2.len) (hq1.len) (hq2.len))))
  have Lc2 := hide (c2.lenOf (rnd_len (H0.out) (zlen_gT2 (ha1.len) (ha2.len) (hq1.len) (hq2.len))))
  have Lr1 := hide (r1.lenOf (zlen_gR1 (ha1.len) (ha2.len) (hq1.len) (hq2.len) (H0.out)))
  have Lr2 := hide (r2.lenOf (zlen_gR2 (ha1.len) (ha2.len) (hq1.len) (hq2.len) (H0.out)))
  refine hK _ _ rfl ?_
  clear hK K hb_3
  refine wpSq_call rfl (by kernel_rfl) fun K hK => ?_
  go_big_move; refine hK _ _ rfl ?_; clear hK K
  refine wpSq_call rfl (by kernel_rfl) fun K hK => ?_
  go_big_op; refine hK _ _ rfl ?_; clear hK K
  refine wpSq_call rfl (by kernel_rfl) fun K hK => ?_
  go_big_op; refine hK _ _ rfl ?_; clear hK K
  refine wpSq_call rfl (by kernel_rfl) fun K hK => ?_
  go_big_op; refine hK _ _ rfl ?_; clear hK K
  refine wpSq_call rfl (by kernel_rfl) fun K hK => ?_
  go_big_op
  have lt_b1 := x_b1.lt
  have lt_b2 := x_b2.lt
  obtain ⟨p_b3, w_4, eP, eW, x_b3, hn, kb_b3⟩ := newBox w_3 #[.bool false, .slice none 0 0, .bool false, .slice none 0 0] 26 hb.size
  have ne_b1_b3 : Hid (p_b1 ≠ p_b3) := Nat.ne_of_lt (eP ▸ lt_b1)
  have ne_b2_b3 : Hid (p_b2 ≠ p_b3) := Nat.ne_of_lt (eP ▸ lt_b2)
  rw [eW, eP]
  clear eW eP lt_b1 lt_b2
  replace ha1 := ha1.bl hn; replace ha2 := ha2.bl hn; replace hq1 := hq1.bl hn; replace hq2 := hq2.bl hn; replace x_b1 := x_b1.bl hn; replace x_b2 := x_b2.bl hn; replace c1 := c1.bl hn; replace c2 := c2.bl hn; replace r1 := r1.bl hn; replace r2 := r2.bl hn; replace hb := hb.trans (hn.mono hb.size)
  refine hK _ _ rfl ?_; clear hK K hn
  refine wpSq_call rfl (by kernel_rfl) fun K hK => ?_
  go_big_op
  have lt_b1 := x_b1.lt
  have lt_b2 := x_b2.lt
  have lt_b3 := x_b3.lt
  obtain ⟨p_b4, w_5, eP, eW, x_b4, hn, kb_b4⟩ := newBox w_4 #[.bool false, .slice none 0 0, .bool false, .slice none 0 0] 26 hb.size
  have ne_b1_b4 : Hid (p_b1 ≠ p_b4) := Nat.ne_of_lt (eP ▸ lt_b1)
  have ne_b2_b4 : Hid (p_b2 ≠ p_b4) := Nat.ne_of_lt (eP ▸ lt_b2)
  have ne_b3_b4 : Hid (p_b3 ≠ p_b4) := Nat.ne_of_lt (eP ▸ lt_b3)
  rw [eW, eP]
  clear eW eP lt_b1 lt_b2 lt_b3
  replace ha1 := ha1.bl hn; replace ha2 := ha2.bl hn; replace hq1 := hq1.bl hn; replace hq2 := hq2.bl hn; replace x_b1 := x_b1.bl hn; replace x_b2 := x_b2.bl hn; replace c1 := c1.bl hn; replace c2 := c2.bl hn; replace r1 := r1.bl hn; replace r2 := r2.bl hn; replace x_b3 := x_b3.bl hn; replace hb := hb.trans (hn.mono hb.size)
  refine hK _ _ rfl ?_; clear hK K hn
  refine wpSq_call rfl (by kernel_rfl) fun K hK => ?_
  obtain ⟨d0, d1, d2, d3⟩ := x_b3.f4
  have f0 := x_b3.free 0; have f1 := x_b3.free 1; have f2 := x_b3.free 2; have f3 := x_b3.free 3
  go_big_op
  have hnd := x_b3.nod rfl rfl
  obtain ⟨w_6, eW, x_b3', ho⟩ : ∃ w', ((((w_5.setCell ⟨p_b3, 0, none⟩ (.bool n_ca)).setCell ⟨p_b3, 1, none⟩ (.slice o_ca k_ca c_ca)).setCell ⟨p_b3, 2, none⟩ (.bool n_cb)).setCell ⟨p_b3, 3, none⟩ (.slice o_cb k_cb c_cb)) = w' ∧ Bs w' p_b3 #[.bool n_ca, .slice o_ca k_ca c_ca, .bool n_cb, .slice o_cb k_cb c_cb] 26 ∧ Only p_b3 w_5 w' := x_b3.setN [(0, .bool n_ca), (1, .slice o_ca k_ca c_ca), (2, .bool n_cb), (3, .slice o_cb k_cb c_cb)]
  rw [eW]; clear eW d0 d1 d2 d3 f0 f1 f2 f3 x_b3
  have x_b3 := x_b3'; clear x_b3'
  replace ha1 := ha1.fr hnd ho; replace ha2 := ha2.fr hnd ho; replace hq1 := hq1.fr hnd ho; replace hq2 := hq2.fr hnd ho; replace x_b1 := x_b1.frame ho ne_b1_b3; replace x_b2 := x_b2.frame ho ne_b2_b3; replace c1 := c1.fr hnd ho; replace c2 := c2.fr hnd ho; replace r1 := r1.fr hnd ho; replace r2 := r2.fr hnd ho; replace x_b4 := x_b4.frame ho ne_b3_b4.symm; replace hb := belowOnly hb ho kb_b3
  refine hK _ _ rfl ?_; clear hK K ho hnd
  refine wpSq_call rfl (by kernel_rfl) fun K hK => ?_
  obtain ⟨d0, d1, d2, d3⟩ := x_b4.f4
  have f0 := x_b4.free 0; have f1 := x_b4.free 1; have f2 := x_b4.free 2; have f3 := x_b4.free 3
  go_big_op
  have hnd := x_b4.nod rfl rfl
  obtain ⟨w_7, eW, x_b4', ho⟩ : ∃ w', ((((w_6.setCell ⟨p_b4, 0, none⟩ (.bool n_ra)).setCell ⟨p_b4, 1, none⟩ (.slice o_ra k_ra c_ra)).setCell ⟨p_b4, 2, none⟩ (.bool n_rb)).setCell ⟨p_b4, 3, none⟩ (.slice o_rb k_rb c_rb)) = w' ∧ Bs w' p_b4 #[.bool n_ra, .slice o_ra k_ra c_ra, .bool n_rb, .slice o_rb k_rb c_rb] 26 ∧ Only p_b4 w_6 w' := x_b4.setN [(0, .bool n_ra), (1, .slice o_ra k_ra c_ra), (2, .bool n_rb), (3, .slice o_rb k_rb c_rb)]
  rw [eW]; clear eW d0 d1 d2 d3 f0 f1 f2 f3 x_b4
  have x_b4 := x_b4'; clear x_b4'
  replace ha1 := ha1.fr hnd ho; replace ha2 := ha2.fr hnd ho; replace hq1 := hq1.fr hnd ho; replace hq2 := hq2.fr hnd ho; replace x_b1 := x_b1.frame ho ne_b1_b4; replace x_b2 := x_b2.frame ho ne_b2_b4; replace c1 := c1.fr hnd ho; replace c2 := c2.fr hnd ho; replace r1 := r1.fr hnd ho; replace r2 := r2.fr hnd ho; replace x_b3 := x_b3.frame ho ne_b3_b4; replace hb := belowOnly hb ho kb_b4
  refine hK _ _ rfl ?_; clear hK K ho hnd
  refine wpSq_call rfl (by kernel_rfl) fun K hK => ?_
  go_big_move; refine hK _ _ rfl ?_; clear hK K
  apply wpSq_end
  refine hK2 _ _ ?_
  refine wp_seq_k ?_
  intro K3 hK3
  refine wp_region_sq [0, 1, 2, 3, 4, 5, 6, 7, 8] (by kernel_rfl) ?_
  refine wpSq_call rfl (by kernel_rfl) fun K hK => ?_
  obtain ⟨d0, d1, d2, d3⟩ := x_b1.f4
  go_big_op; refine hK _ _ rfl ?_; clear hK K d0 d1 d2 d3
  refine wpSq_call rfl (by kernel_rfl) fun K hK => ?_
  obtain ⟨d0, d1, d2, d3⟩ := x_b2.f4
  go_big_op; refine hK _ _ rfl ?_; clear hK K d0 d1 d2 d3
  refine wpSq_call rfl (by kernel_rfl) fun K hK => ?_
  go_big_op
  go_fit (gExact_rest (PN.mk' ha1 ha2) (PN.mk' hq1 hq2) (by omega) (by omega) (by omega) (by omega) H0.out H1.out)
  rintro e w_8 ⟨rfl, hb_8⟩
  replace ha1 := ha1.bl hb_8; replace ha2 := ha2.bl hb_8; replace hq1 := hq1.bl hb_8; replace hq2 := hq2.bl hb_8; replace x_b1 := x_b1.bl hb_8; replace x_b2 := x_b2.bl hb_8; replace c1 := c1.bl hb_8; replace c2 := c2.bl hb_8; replace r1 := r1.bl hb_8; replace r2 := r2.bl hb_8; replace x_b3 := x_b3.bl hb_8; replace x_b4 := x_b4.bl hb_8; replace hb := hb.trans (hb_8.mono hb.size)
  refine hK _ _ rfl ?_
  clear hK K hb_8
  refine wpSq_call rfl (by kernel_rfl) fun K hK => ?_
  go_big_move; refine hK _ _ rfl ?_; clear hK K
  refine wpSq_call rfl (by kernel_rfl) fun K hK => ?_
  go_big_op; refine hK _ _ rfl ?_; clear hK K
  refine wpSq_call rfl (by kernel_rfl) fun K hK => ?_
  go_big_op; refine hK _ _ rfl ?_; clear hK K
  refine wpSq_call rfl (by kernel_rfl) fun K hK => ?_
  go_big_op
  have lt_b1 := x_b1.lt
  have lt_b2 := x_b2.lt
  have lt_b3 := x_b3.lt
  have lt_b4 := x_b4.lt
  obtain ⟨p_b5, w_9, eP, eW, x_b5, hn, kb_b5⟩ := newBox w_8 #[.bool false, .slice none 0 0, .bool false, .slice none 0 0] 26 hb.size
  have ne_b1_b5 : Hid (p_b1 ≠ p_b5) := Nat.ne_of_lt (eP ▸ lt_b1)
  have ne_b2_b5 : Hid (p_b2 ≠ p_b5) := Nat.ne_of_lt (eP ▸ lt_b2)
  have ne_b3_b5 : Hid (p_b3 ≠ p_b5) := Nat.ne_of_lt (eP ▸ lt_b3)
  have ne_b4_b5 : Hid (p_b4 ≠ p_b5) := Nat.ne_of_lt (eP ▸ lt_b4)
  rw [eW, eP]
  clear eW eP lt_b1 lt_b2 lt_b3 lt_b4
  replace ha1 := ha1.bl hn; replace ha2 := ha2.bl hn; replace hq1 := hq1.bl hn; replace hq2 := hq2.bl hn; replace x_b1 := x_b1.bl hn; replace x_b2 := x_b2.bl hn; replace c1 := c1.bl hn; replace c2 := c2.bl hn; replace r1 := r1.bl hn; replace r2 := r2.bl hn; replace x_b3 := x_b3.bl hn; replace x_b4 := x_b4.bl hn; replace hb := hb.trans (hn.mono hb.size)
  refine hK _ _ rfl ?_; clear hK K hn
  refine wpSq_call rfl (by kernel_rfl) fun K hK => ?_
  obtain ⟨d0, d1, d2, d3⟩ := x_b5.f4
  have f0 := x_b5.free 0; have f1 := x_b5.free 1; have f2 := x_b5.free 2; have f3 := x_b5.free 3
  go_big_op
  have hnd := x_b5.nod rfl rfl
  obtain ⟨w_10, eW, x_b5', ho⟩ : ∃ w', ((((w_9.setCell ⟨p_b5, 0, none⟩ (.bool false)).setCell ⟨p_b5, 1, none⟩ (.slice none 0 0)).setCell ⟨p_b5, 2, none⟩ (.bool false)).setCell ⟨p_b5, 3, none⟩ (.slice none 0 0)) = w' ∧ Bs w' p_b5 #[.bool false, .slice none 0 0, .bool false, .slice none 0 0] 26 ∧ Only p_b5 w_9 w' := x_b5.setN [(0, .bool false), (1, .slice none 0 0), (2, .bool false), (3, .slice none 0 0)]
  rw [eW]; clear eW d0 d1 d2 d3 f0 f1 f2 f3 x_b5
  have x_b5 := x_b5'; clear x_b5'
  replace ha1 := ha1.fr hnd ho; replace ha2 := ha2.fr hnd ho; replace hq1 := hq1.fr hnd ho; replace hq2 := hq2.fr hnd ho; replace x_b1 := x_b1.frame ho ne_b1_b5; replace x_b2 := x_b2.frame ho ne_b2_b5; replace c1 := c1.fr hnd ho; replace c2 := c2.fr hnd ho; replace r1 := r1.fr hnd ho; replace r2 := r2.fr hnd ho; replace x_b3 := x_b3.frame ho ne_b3_b5; replace x_b4 := x_b4.frame ho ne_b4_b5; replace hb := belowOnly hb ho kb_b5
  refine hK _ _ rfl ?_; clear hK K ho hnd
  refine wpSq_call rfl (by kernel_rfl) fun K hK => ?_
  go_big_move; refine hK _ _ rfl ?_; clear hK K
  apply wpSq_end
  refine hK3 _ _ ?_
  refine wp_seq_k ?_
  intro K4 hK4
  refine wp_seq_k ?_
  intro K5 hK5
  refine wp_region_sq [0, 1] (by kernel_rfl) ?_
  refine wpSq_call rfl (by kernel_rfl) fun K hK => ?_
  go_big_op
  go_fit (gawake_any _ (htabs _ hb))
  rintro e w_11 ⟨rfl, hb_11⟩
  replace ha1 := ha1.bl hb_11; replace ha2 := ha2.bl hb_11; replace hq1 := hq1.bl hb_11; replace hq2 := hq2.bl hb_11; replace x_b1 := x_b1.bl hb_11; replace x_b2 := x_b2.bl hb_11; replace c1 := c1.bl hb_11; replace c2 := c2.bl hb_11; replace r1 := r1.bl hb_11; replace r2 := r2.bl hb_11; replace x_b3 := x_b3.bl hb_11; replace x_b4 := x_b4.bl hb_11; replace x_b5 := x_b5.bl hb_11; replace hb := hb.trans (hb_11.mono hb.size)
  refine hK _ _ rfl ?_
  clear hK K hb_11
  refine wpSq_call rfl (by kernel_rfl) fun K hK => ?_
  go_big_op; refine hK _ _ rfl ?_; clear hK K
  apply wpSq_end
  refine hK5 _ _ ?_
  refine wp_cond_false (congrArg Value.bool (show _ = false from (by first | rfl | assumption | (simp; done) | exact decide_eq_false (by omega) | omega))) ?_
  refine wp_skip ?_
  refine hK4 _ _ ?_
  refine wp_seq_k ?_
  intro K6 hK6
  refine wp_seq_k ?_
  intro K7 hK7
  refine wp_region_sq [0, 1] (by kernel_rfl) ?_
  refine wpSq_call rfl (by kernel_rfl) fun K hK => ?_
  obtain ⟨d0, d1, d2, d3⟩ := x_b2.f4
  go_big_op; refine hK _ _ rfl ?_; clear hK K d0 d1 d2 d3
  refine wpSq_call rfl (by kernel_rfl) fun K hK => ?_
  go_big_op
  go_fit (rgNull_any (PN.mk' hq1 hq2) (by omega) (by omega) )
  rintro e w_12 ⟨rfl, hb_12⟩
  replace ha1 := ha1.bl hb_12; replace ha2 := ha2.bl hb_12; replace hq1 := hq1.bl hb_12; replace hq2 := hq2.bl hb_12; replace x_b1 := x_b1.bl hb_12; replace x_b2 := x_b2.bl hb_12; replace c1 := c1.bl hb_12; replace c2 := c2.bl hb_12; replace r1 := r1.bl hb_12; replace r2 := r2.bl hb_12; replace x_b3 := x_b3.bl hb_12; replace x_b4 := x_b4.bl hb_12; replace x_b5 := x_b5.bl hb_12; replace hb := hb.trans (hb_12.mono hb.size)
  rw [HN.out]
  refine hK _ _ rfl ?_
  clear hK K hb_12
  apply wpSq_end
  refine hK7 _ _ ?_
  refine wp_cond_false (congrArg Value.bool (show _ = false from (by first | rfl | assumption | (simp; done) | exact decide_eq_false (by omega) | omega))) ?_
  refine wp_skip ?_
  refine hK6 _ _ ?_
  refine wp_seq_k ?_
  intro K8 hK8
  refine wp_region_sq [0, 1, 2, 3, 4, 5, 6, 7, 8, 9] (by kernel_rfl) ?_
  refine wpSq_call rfl (by kernel_rfl) fun K hK => ?_
  obtain ⟨d0, d1, d2, d3⟩ := x_b1.f4
  go_big_op; refine hK _ _ rfl ?_; clear hK K d0 d1 d2 d3
  refine wpSq_call rfl (by kernel_rfl) fun K hK => ?_
  obtain ⟨d0, d1, d2, d3⟩ := x_b2.f4
  go_big_op; refine hK _ _ rfl ?_; clear hK K d0 d1 d2 d3
  refine wpSq_call rfl (by kernel_rfl) fun K hK => ?_
  go_big_op
  go_fit (rgRound_any (PN.mk' ha1 ha2) (PN.mk' hq1 hq2) (by omega) (by omega) (by omega) (by omega) H0.out)
  rintro e w_13 ⟨_, _, rfl, ⟨n_da, o_da, k_da, c_da, n_db, o_db, k_db, c_db, rfl, d1, d2⟩, ⟨n_sa, o_sa, k_sa, c_sa, n_sb, o_sb, k_sb, c_sb, rfl, s1, s2⟩, hb_13⟩
  clear x_b1 x_b2
  replace ha1 := ha1.bl hb_13; replace ha2 := ha2.bl hb_13; replace hq1 := hq1.bl hb_13; replace hq2 := hq2.bl hb_13; replace c1 := c1.bl hb_13; replace c2 := c2.bl hb_13; replace r1 := r1.bl hb_13; replace r2 := r2.bl hb_13; replace x_b3 := x_b3.bl hb_13; replace x_b4 := x_b4.bl hb_13; replace x_b5 := x_b5.bl hb_13; replace hb := hb.trans (hb_13.mono hb.size)
  have Ld1 := hide (d1.lenOf (rnd_len (H0.out) (zlen_gT1 (ha1.len) (ha2.len) (hq1.len) (hq2.len))))
  have Ld2 := hide (d2.lenOf (rnd_len (H0.out) (zlen_gT2 (ha1.len) (ha2.len) (hq1.len) (hq2.len))))
  have Ls1 := hide (s1.lenOf (zlen_gR1 (ha1.len) (ha2.len) (hq1.len) (hq2.len) (H0.out)))
  have Ls2 := hide (s2.lenOf (zlen_gR2 (ha1.len) (ha2.len) (hq1.len) (hq2.len) (H0.out)))
  refine hK _ _ rfl ?_
  clear hK K hb_13
  refine wpSq_call rfl (by kernel_rfl) fun K hK => ?_
  go_big_move; refine hK _ _ rfl ?_; clear hK K
  refine wpSq_call rfl (by kernel_rfl) fun K hK => ?_
  go_big_op; refine hK _ _ rfl ?_; clear hK K
  refine wpSq_call rfl (by kernel_rfl) fun K hK => ?_
  go_big_op; refine hK _ _ rfl ?_; clear hK K
  refine wpSq_call rfl (by kernel_rfl) fun K hK => ?_
  go_big_op
  clear ha1 ha2 hq1 hq2
  have lt_b3 := x_b3.lt
  have lt_b4 := x_b4.lt
  have lt_b5 := x_b5.lt
  obtain ⟨p_b6, w_14, eP, eW, x_b6, hn, kb_b6⟩ := newBox w_13 #[.bool false, .slice none 0 0, .bool false, .slice none 0 0] 26 hb.size
  have ne_b3_b6 : Hid (p_b3 ≠ p_b6) := Nat.ne_of_lt (eP ▸ lt_b3)
  have ne_b4_b6 : Hid (p_b4 ≠ p_b6) := Nat.ne_of_lt (eP ▸ lt_b4)
  have ne_b5_b6 : Hid (p_b5 ≠ p_b6) := Nat.ne_of_lt (eP ▸ lt_b5)
  rw [eW, eP]
  clear eW eP lt_b3 lt_b4 lt_b5
  replace c1 := c1.bl hn; replace c2 := c2.bl hn; replace r1 := r1.bl hn; replace r2 := r2.bl hn; replace x_b3 := x_b3.bl hn; replace x_b4 := x_b4.bl hn; replace x_b5 := x_b5.bl hn; replace d1 := d1.bl hn; replace d2 := d2.bl hn; replace s1 := s1.bl hn; replace s2 := s2.bl hn; replace hb := hb.trans (hn.mono hb.size)
  refine hK _ _ rfl ?_; clear hK K hn
  refine wpSq_call rfl (by kernel_rfl) fun K hK => ?_
  go_big_op
  have lt_b3 := x_b3.lt
  have lt_b4 := x_b4.lt
  have lt_b5 := x_b5.lt
  have lt_b6 := x_b6.lt
  obtain ⟨p_b7, w_15, eP, eW, x_b7, hn, kb_b7⟩ := newBox w_14 #[.bool false, .slice none 0 0, .bool false, .slice none 0 0] 26 hb.size
  have ne_b3_b7 : Hid (p_b3 ≠ p_b7) := Nat.ne_of_lt (eP ▸ lt_b3)
  have ne_b4_b7 : Hid (p_b4 ≠ p_b7) := Nat.ne_of_lt (eP ▸ lt_b4)
  have ne_b5_b7 : Hid (p_b5 ≠ p_b7) := Nat.ne_of_lt (eP ▸ lt_b5)
  have ne_b6_b7 : Hid (p_b6 ≠ p_b7) := Nat.ne_of_lt (eP ▸ lt_b6)
  rw [eW, eP]
  clear eW eP lt_b3 lt_b4 lt_b5 lt_b6
  replace c1 := c1.bl hn; replace c2 := c2.bl hn; replace r1 := r1.bl hn; replace r2 := r2.bl hn; replace x_b3 := x_b3.bl hn; replace x_b4 := x_b4.bl hn; replace x_b5 := x_b5.bl hn; replace d1 := d1.bl hn; replace d2 := d2.bl hn; replace s1 := s1.bl hn; replace s2 := s2.bl hn; replace x_b6 := x_b6.bl hn; replace hb := hb.trans (hn.mono hb.size)
  refine hK _ _ rfl ?_; clear hK K hn
  refine wpSq_call rfl (by kernel_rfl) fun K hK => ?_
  obtain ⟨d0, d1, d2, d3⟩ := x_b6.f4
  have f0 := x_b6.free 0; have f1 := x_b6.free 1; have f2 := x_b6.free 2; have f3 := x_b6.free 3
  go_big_op
  have hnd := x_b6.nod rfl rfl
  obtain ⟨w_16, eW, x_b6', ho⟩ : ∃ w', ((((w_15.setCell ⟨p_b6, 0, none⟩ (.bool n_da)).setCell ⟨p_b6, 1, none⟩ (.slice o_da k_da c_da)).setCell ⟨p_b6, 2, none⟩ (.bool n_db)).setCell ⟨p_b6, 3, none⟩ (.slice o_db k_db c_db)) = w' ∧ Bs w' p_b6 #[.bool n_da, .slice o_da k_da c_da, .bool n_db, .slice o_db k_db c_db] 26 ∧ Only p_b6 w_15 w' := x_b6.setN [(0, .bool n_da), (1, .slice o_da k_da c_da), (2, .bool n_db), (3, .slice o_db k_db c_db)]
  rw [eW]; clear eW d0 d1 d2 d3 f0 f1 f2 f3 x_b6
  have x_b6 := x_b6'; clear x_b6'
  replace c1 := c1.fr hnd ho; replace c2 := c2.fr hnd ho; replace r1 := r1.fr hnd ho; replace r2 := r2.fr hnd ho; replace x_b3 := x_b3.frame ho ne_b3_b6; replace x_b4 := x_b4.frame ho ne_b4_b6; replace x_b5 := x_b5.frame ho ne_b5_b6; replace d1 := d1.fr hnd ho; replace d2 := d2.fr hnd ho; replace s1 := s1.fr hnd ho; replace s2 := s2.fr hnd ho; replace x_b7 := x_b7.frame ho ne_b6_b7.symm; replace hb := belowOnly hb ho kb_b6
  refine hK _ _ rfl ?_; clear hK K ho hnd
  refine wpSq_call rfl (by kernel_rfl) fun K hK => ?_
  obtain ⟨d0, d1, d2, d3⟩ := x_b7.f4
  have f0 := x_b7.free 0; have f1 := x_b7.free 1; have f2 := x_b7.free 2; have f3 := x_b7.free 3
  go_big_op
  have hnd := x_b7.nod rfl rfl
  obtain ⟨w_17, eW, x_b7', ho⟩ : ∃ w', ((((w_16.setCell ⟨p_b7, 0, none⟩ (.bool n_sa)).setCell ⟨p_b7, 1, none⟩ (.slice o_sa k_sa c_sa)).setCell ⟨p_b7, 2, none⟩ (.bool n_sb)).setCell ⟨p_b7, 3, none⟩ (.slice o_sb k_sb c_sb)) = w' ∧ Bs w' p_b7 #[.bool n_sa, .slice o_sa k_sa c_sa, .bool n_sb, .slice o_sb k_sb c_sb] 26 ∧ Only p_b7 w_16 w' := x_b7.setN [(0, .bool n_sa), (1, .slice o_sa k_sa c_sa), (2, .bool n_sb), (3, .slice o_sb k_sb c_sb)]
  rw [eW]; clear eW d0 d1 d2 d3 f0 f1 f2 f3 x_b7
  have x_b7 := x_b7'; clear x_b7'
  replace c1 := c1.fr hnd ho; replace c2 := c2.fr hnd ho; replace r1 := r1.fr hnd ho; replace r2 := r2.fr hnd ho; replace x_b3 := x_b3.frame ho ne_b3_b7; replace x_b4 := x_b4.frame ho ne_b4_b7; replace x_b5 := x_b5.frame ho ne_b5_b7; replace d1 := d1.fr hnd ho; replace d2 := d2.fr hnd ho; replace s1 := s1.fr hnd ho; replace s2 := s2.fr hnd ho; replace x_b6 := x_b6.frame ho ne_b6_b7; replace hb := belowOnly hb ho kb_b7
  refine hK _ _ rfl ?_; clear hK K ho hnd
  apply wpSq_end
  refine hK8 _ _ ?_
  refine wp_seq_k ?_
  intro K9 hK9
  refine wp_seq_k ?_
  intro K10 hK10
  refine wp_region_sq [0, 1, 2, 3, 4, 5, 6, 7, 8, 9, 10, 11, 12, 13] (by kernel_rfl) ?_
  refine wpSq_call rfl (by kernel_rfl) fun K hK => ?_
  go_big_move; refine hK _ _ rfl ?_; clear hK K
  refine wpSq_call rfl (by kernel_rfl) fun K hK => ?_
  go_big_op; refine hK _ _ rfl ?_; clear hK K
  refine wpSq_call rfl (by kernel_rfl) fun K hK => ?_
  go_big_move; refine hK _ _ rfl ?_; clear hK K
  refine wpSq_call rfl (by kernel_rfl) fun K hK => ?_
  obtain ⟨d0, d1, d2, d3⟩ := x_b3.f4
  go_big_op; refine hK _ _ rfl ?_; clear hK K d0 d1 d2 d3
  refine wpSq_call rfl (by kernel_rfl) fun K hK => ?_
  obtain ⟨d0, d1, d2, d3⟩ := x_b6.f4
  go_big_op; refine hK _ _ rfl ?_; clear hK K d0 d1 d2 d3
  refine wpSq_call rfl (by kernel_rfl) fun K hK => ?_
  go_big_op
  go_fit (gis_any (PC.mk' c1 c2) (PN.mk' (d1.zn Ld1.out) (d2.zn Ld2.out)) (by omega) (by omega) )
  rintro e w_18 ⟨rfl, hb_18⟩
  clear x_b3
  replace c1 := c1.bl hb_18; replace c2 := c2.bl hb_18; replace r1 := r1.bl hb_18; replace r2 := r2.bl hb_18; replace x_b4 := x_b4.bl hb_18; replace x_b5 := x_b5.bl hb_18; replace d1 := d1.bl hb_18; replace d2 := d2.bl hb_18; replace s1 := s1.bl hb_18; replace s2 := s2.bl hb_18; replace x_b6 := x_b6.bl hb_18; replace x_b7 := x_b7.bl hb_18; replace hb := hb.trans (hb_18.mono hb.size)
  refine hK _ _ rfl ?_
  clear hK K hb_18
  refine wpSq_call rfl (by kernel_rfl) fun K hK => ?_
  go_big_op; refine hK _ _ rfl ?_; clear hK K
  refine wpSq_call rfl (by kernel_rfl) fun K hK => ?_
  go_big_op; refine hK _ _ rfl ?_; clear hK K
  refine wpSq_call rfl (by kernel_rfl) fun K hK => ?_
  go_big_move; refine hK _ _ rfl ?_; clear hK K
  refine wpSq_call rfl (by kernel_rfl) fun K hK => ?_
  obtain ⟨d0, d1, d2, d3⟩ := x_b4.f4
  go_big_op; refine hK _ _ rfl ?_; clear hK K d0 d1 d2 d3
  refine wpSq_call rfl (by kernel_rfl) fun K hK => ?_
  obtain ⟨d0, d1, d2, d3⟩ := x_b7.f4
  go_big_op; refine hK _ _ rfl ?_; clear hK K d0 d1 d2 d3
  refine wpSq_call rfl (by kernel_rfl) fun K hK => ?_
  go_big_op
  go_fit (gis_any (PC.mk' r1 r2) (PN.mk' (s1.zn Ls1.out) (s2.zn Ls2.out)) (by omega) (by omega) )
  rintro e w_19 ⟨rfl, hb_19⟩
  clear c1 c2 x_b4
  replace r1 := r1.bl hb_19; replace r2 := r2.bl hb_19; replace x_b5 := x_b5.bl hb_19; replace d1 := d1.bl hb_19; replace d2 := d2.bl hb_19; replace s1 := s1.bl hb_19; replace s2 := s2.bl hb_19; replace x_b6 := x_b6.bl hb_19; replace x_b7 := x_b7.bl hb_19; replace hb := hb.trans (hb_19.mono hb.size)
  refine hK _ _ rfl ?_
  clear hK K hb_19
  refine wpSq_call rfl (by kernel_rfl) fun K hK => ?_
  go_big_op; refine hK _ _ rfl ?_; clear hK K
  refine wpSq_call rfl (by kernel_rfl) fun K hK => ?_
  go_big_op; refine hK _ _ rfl ?_; clear hK K
  apply wpSq_end
  refine hK10 _ _ ?_
  refine wp_cond_false (congrArg Value.bool (show _ = false from (by first | rfl | assumption | (simp; done) | exact decide_eq_false (by omega) | omega))) ?_
  refine wp_skip ?_
  refine hK9 _ _ ?_
  refine wp_seq_k ?_
  intro K11 hK11
  refine wp_seq_k ?_
  intro K12 hK12
  refine wp_region_sq [0, 1, 2] (by kernel_rfl) ?_
  refine wpSq_call rfl (by kernel_rfl) fun K hK => ?_
  obtain ⟨d0, d1, d2, d3⟩ := x_b7.f4
  go_big_op; refine hK _ _ rfl ?_; clear hK K d0 d1 d2 d3
  refine wpSq_call rfl (by kernel_rfl) fun K hK => ?_
  go_big_op
  go_fit (rgNull_any (PN.mk' (s1.zn Ls1.out) (s2.zn Ls2.out)) (by omega) (by omega) )
  rintro e w_20 ⟨rfl, hb_20⟩
  clear r1 r2 x_b7
  replace x_b5 := x_b5.bl hb_20; replace d1 := d1.bl hb_20; replace d2 := d2.bl hb_20; replace s1 := s1.bl hb_20; replace s2 := s2.bl hb_20; replace x_b6 := x_b6.bl hb_20; replace hb := hb.trans (hb_20.mono hb.size)
  rw [HR.out]
  refine hK _ _ rfl ?_
  clear hK K hb_20
  refine wpSq_call rfl (by kernel_rfl) fun K hK => ?_
  go_big_op; refine hK _ _ rfl ?_; clear hK K
  apply wpSq_end
  refine hK12 _ _ ?_
  refine wp_cond_true (congrArg Value.bool (show _ = true from (by first | rfl | assumption | (simp; done) | exact decide_eq_true (by omega) | omega))) ?_
  refine wp_seq_k ?_
  intro K13 hK13
  refine wp_region_sq [0, 1, 2, 3, 4, 5, 6] (by kernel_rfl) ?_
  refine wpSq_call rfl (by kernel_rfl) fun K hK => ?_
  go_big_move; refine hK _ _ rfl ?_; clear hK K
  refine wpSq_call rfl (by kernel_rfl) fun K hK => ?_
  go_big_op; refine hK _ _ rfl ?_; clear hK K
  refine wpSq_call rfl (by kernel_rfl) fun K hK => ?_
  go_big_move; refine hK _ _ rfl ?_; clear hK K
  refine wpSq_call rfl (by kernel_rfl) fun K hK => ?_
  obtain ⟨d0, d1, d2, d3⟩ := x_b5.f4
  go_big_op; refine hK _ _ rfl ?_; clear hK K d0 d1 d2 d3
  refine wpSq_call rfl (by kernel_rfl) fun K hK => ?_
  go_big_op
  go_fit (rgZero_any _)
  rintro e w_21 ⟨rfl, hb_21⟩
  clear s1 s2
  replace x_b5 := x_b5.bl hb_21; replace d1 := d1.bl hb_21; replace d2 := d2.bl hb_21; replace x_b6 := x_b6.bl hb_21; replace hb := hb.trans (hb_21.mono hb.size)
  refine hK _ _ rfl ?_
  clear hK K hb_21
  refine wpSq_call rfl (by kernel_rfl) fun K hK => ?_
  go_big_op; refine hK _ _ rfl ?_; clear hK K
  refine wpSq_call rfl (by kernel_rfl) fun K hK => ?_
  go_big_move; refine hK _ _ rfl ?_; clear hK K
  apply wpSq_end
  refine hK13 _ _ ?_
  refine wp_ret ?_
  try dsimp only [Exit.then, Exit.inBlock]
  refine bodyPost_ret (v := (.bool true)) (by simp [results, Tryd.results5, go_sem]) rfl ?_
  exact ⟨rfl, hb⟩
end
theorem walk_GintDivides (w : World) (n1 : Bool) (s1 : Value) (xs : List Nat) (h1 : Rd w s1 xs) (l1 : xs.length ≤ 1048576) (n2 : Bool) (s2 : Value) (ys : List Nat) (h2 : Rd w s2 ys) (l2 : ys.length ≤ 1048576)
    (n3 : Bool) (s3 : Value) (us : List Nat) (h3 : Rd w s3 us) (l3 : us.length ≤ 1048576) (n4 : Bool) (s4 : Value) (vs : List Nat) (h4 : Rd w s4 vs) (l4 : vs.length ≤ 1048576) (htab : Lib.TabIs Tryd.prog w p10 .u64 Lib.pow10Tab) :
    Calls Tryd.prog 5 #[.agg #[.bool n1, s1, .bool n2, s2], .agg #[.bool n3, s3, .bool n4, s4]] w fun e w' => e = .returned (.bool true) ∧ Below w.heap.size w w' := by
  have ha := PN.of_rd n1 n2 h1 l1 h2 l2
  have hq := PN.of_rd n3 n4 h3 l3 h4 l4
  have r := Nat.le_refl 1048576
  by_cases h0 : gN (zv n3 us) (zv n4 vs) = 0
  · obtain ⟨e1, e2⟩ := gN_zero.1 h0
    rw [e1, e2] at hq; exact gdiv_zero ha hq r r r r htab
  by_cases h1 : (gT1 (zv n1 xs) (zv n2 ys) (zv n3 us) (zv n4 vs)).fmod (gN (zv n3 us) (zv n4 vs)) = 0 ∧ (gT2 (zv n1 xs) (zv n2 ys) (zv n3 us) (zv n4 vs)).fmod (gN (zv n3 us) (zv n4 vs)) = 0
  · exact gdiv_exact ha hq r r r r h0 h1.1 h1.2 htab
  · exact gdiv_rest ha hq r r r r h0 h1 htab
end Go.Proofs.YtgjainmfilkjmaaDoor
