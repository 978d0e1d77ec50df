/- FracSums: the law's walk. -/
import Derived.Test.YtkgbfnmlpajblaaGreatDoorT1ToQ10
namespace Go.Proofs.YtkgbfnmlpajblaaGreatDoor
open Go Go.RowKit Dig
set_option linter.unusedVariables false

section
variable {w : World} {va vb : Value} {x y u v : Int} {l m k n : Nat}
set_option maxHeartbeats 8000000 in
set_option maxRecDepth 20000 in
theorem sums_bad1 (ha : PN w va x l 0 m) (hq : PN w vb u k v n) (hl : l ≤ 1048576) (hm : m ≤ 1048576) (hk : k ≤ 1048576) (hn : n ≤ 1048576) (htab : Lib.TabIs Tryz.prog w p10 .u64 Lib.pow10Tab) :
    Calls Tryz.prog 5 #[va, vb] w fun e w' => e = .returned (.bool true) ∧ Below w.heap.size w w' := by
  have htabs := Lib.tabBelow_of_tabIs htab
  have H := hide (show (0 : Int) = 0 ∨ v = 0 from .inl rfl)
  obtain ⟨n_0a, o_0a, k_0a, c_0a, n_0b, o_0b, k_0b, c_0b, rfl, ha1, ha2⟩ := ha
  obtain ⟨n_1a, o_1a, k_1a, c_1a, n_1b, o_1b, k_1b, c_1b, rfl, hq1, hq2⟩ := hq
  go_enter Tryz.func5, Tryz.ntmps5
  have hb := Below.refl w.heap.size w
  refine wp_seq_k ?_
  intro K1 hK1
  refine wp_region_sq [0, 1, 2] (by kernel_rfl) ?_
  refine wpSq_call rfl (by kernel_rfl) fun K hK => ?_
  go_big_op
  obtain ⟨p_b1, w_1, eP, eW, x_b1, hn, kb_b1⟩ := newBox w #[.bool n_0a, .slice o_0a k_0a c_0a, .bool n_0b, .slice o_0b k_0b c_0b] 26 hb.size
  rw [eW, eP]
  clear eW eP
  replace ha1 := ha1.bl hn; replace ha2 := ha2.bl hn; replace hq1 := hq1.bl hn; replace hq2 := hq2.bl hn; replace hb := hb.trans (hn.mono hb.size)
  refine hK _ _ rfl ?_; clear hK K hn
  refine wpSq_call rfl (by kernel_rfl) fun K hK => ?_
  go_big_op
  have lt_b1 := x_b1.lt
  obtain ⟨p_b2, w_2, eP, eW, x_b2, hn, kb_b2⟩ := newBox w_1 #[.bool n_1a, .slice o_1a k_1a c_1a, .bool n_1b, .slice o_1b k_1b c_1b] 26 hb.size
  have ne_b1_b2 : Hid (p_b1 ≠ p_b2) := Nat.ne_of_lt (eP ▸ lt_b1)
  rw [eW, eP]
  clear eW eP lt_b1
  replace ha1 := ha1.bl hn; replace ha2 := ha2.bl hn; replace hq1 := hq1.bl hn; replace hq2 := hq2.bl hn; replace x_b1 := x_b1.bl hn; replace hb := hb.trans (hn.mono hb.size)
  refine hK _ _ rfl ?_; clear hK K hn
  refine wpSq_call rfl (by kernel_rfl) fun K hK => ?_
  go_big_move; refine hK _ _ rfl ?_; clear hK K
  apply wpSq_end
  refine hK1 _ _ ?_
  refine wp_seq_k ?_
  intro K2 hK2
  refine wp_region_sq [0, 1, 2, 3, 4, 5, 6, 7, 8] (by kernel_rfl) ?_
  refine wpSq_call rfl (by kernel_rfl) fun K hK => ?_
  obtain ⟨d0, d1, d2, d3⟩ := x_b1.f4
  go_big_op; refine hK _ _ rfl ?_; clear hK K d0 d1 d2 d3
  refine wpSq_call rfl (by kernel_rfl) fun K hK => ?_
  obtain ⟨d0, d1, d2, d3⟩ := x_b2.f4
  go_big_op; refine hK _ _ rfl ?_; clear hK K d0 d1 d2 d3
  refine wpSq_call rfl (by kernel_rfl) fun K hK => ?_
  go_big_op
  go_fit (fAdd_bad (PN.mk' ha1 ha2) (PN.mk' hq1 hq2) (by omega) (by omega) (by omega) (by omega) H.out)
  rintro e w_3 ⟨rfl, hb_3⟩
  replace ha1 := ha1.bl hb_3; replace ha2 := ha2.bl hb_3; replace hq1 := hq1.bl hb_3; replace hq2 := hq2.bl hb_3; replace x_b1 := x_b1.bl hb_3; replace x_b2 := x_b2.bl hb_3; replace hb := hb.trans (hb_3.mono hb.size)
  refine hK _ _ rfl ?_
  clear hK K hb_3
  refine wpSq_call rfl (by kernel_rfl) fun K hK => ?_
  go_big_move; refine hK _ _ rfl ?_; clear hK K
  refine wpSq_call rfl (by kernel_rfl) fun K hK => ?_
  go_big_op; refine hK _ _ rfl ?_; clear hK K
  refine wpSq_call rfl (by kernel_rfl) fun K hK => ?_
  go_big_op; refine hK _ _ rfl ?_; clear hK K
  refine wpSq_call rfl (by kernel_rfl) fun K hK => ?_
  go_big_op
  have lt_b1 := x_b1.lt
  have lt_b2 := x_b2.lt
  obtain ⟨p_b3, w_4, eP, eW, x_b3, hn, kb_b3⟩ := newBox w_3 #[.bool false, .slice none 0 0, .bool false, .slice none 0 0] 26 hb.size
  have ne_b1_b3 : Hid (p_b1 ≠ p_b3) := Nat.ne_of_lt (eP ▸ lt_b1)
  have ne_b2_b3 : Hid (p_b2 ≠ p_b3) := Nat.ne_of_lt (eP ▸ lt_b2)
  rw [eW, eP]
  clear eW eP lt_b1 lt_b2
  replace ha1 := ha1.bl hn; replace ha2 := ha2.bl hn; replace hq1 := hq1.bl hn; replace hq2 := hq2.bl hn; replace x_b1 := x_b1.bl hn; replace x_b2 := x_b2.bl hn; replace hb := hb.trans (hn.mono hb.size)
  refine hK _ _ rfl ?_; clear hK K hn
  refine wpSq_call rfl (by kernel_rfl) fun K hK => ?_
  obtain ⟨d0, d1, d2, d3⟩ := x_b3.f4
  have f0 := x_b3.free 0; have f1 := x_b3.free 1; have f2 := x_b3.free 2; have f3 := x_b3.free 3
  go_big_op
  have hnd := x_b3.nod rfl rfl
  obtain ⟨w_5, eW, x_b3', ho⟩ : ∃ w', ((((w_4.setCell ⟨p_b3, 0, none⟩ (.bool false)).setCell ⟨p_b3, 1, none⟩ (.slice none 0 0)).setCell ⟨p_b3, 2, none⟩ (.bool false)).setCell ⟨p_b3, 3, none⟩ (.slice none 0 0)) = w' ∧ Bs w' p_b3 #[.bool false, .slice none 0 0, .bool false, .slice none 0 0] 26 ∧ Only p_b3 w_4 w' := x_b3.setN [(0, .bool false), (1, .slice none 0 0), (2, .bool false), (3, .slice none 0 0)]
  rw [eW]; clear eW d0 d1 d2 d3 f0 f1 f2 f3 x_b3
  have x_b3 := x_b3'; clear x_b3'
  replace ha1 := ha1.fr hnd ho; replace ha2 := ha2.fr hnd ho; replace hq1 := hq1.fr hnd ho; replace hq2 := hq2.fr hnd ho; replace x_b1 := x_b1.frame ho ne_b1_b3; replace x_b2 := x_b2.frame ho ne_b2_b3; replace hb := belowOnly hb ho kb_b3
  refine hK _ _ rfl ?_; clear hK K ho hnd
  refine wpSq_call rfl (by kernel_rfl) fun K hK => ?_
  go_big_move; refine hK _ _ rfl ?_; clear hK K
  apply wpSq_end
  refine hK2 _ _ ?_
  refine wp_seq_k ?_
  intro K3 hK3
  refine wp_region_sq [0, 1, 2, 3, 4, 5, 6, 7, 8] (by kernel_rfl) ?_
  refine wpSq_call rfl (by kernel_rfl) fun K hK => ?_
  obtain ⟨d0, d1, d2, d3⟩ := x_b1.f4
  go_big_op; refine hK _ _ rfl ?_; clear hK K d0 d1 d2 d3
  refine wpSq_call rfl (by kernel_rfl) fun K hK => ?_
  obtain ⟨d0, d1, d2, d3⟩ := x_b2.f4
  go_big_op; refine hK _ _ rfl ?_; clear hK K d0 d1 d2 d3
  refine wpSq_call rfl (by kernel_rfl) fun K hK => ?_
  go_big_op
  go_fit (fSub_bad (PN.mk' ha1 ha2) (PN.mk' hq1 hq2) (by omega) (by omega) (by omega) (by omega) H.out)
  rintro e w_6 ⟨rfl, hb_6⟩
  replace ha1 := ha1.bl hb_6; replace ha2 := ha2.bl hb_6; replace hq1 := hq1.bl hb_6; replace hq2 := hq2.bl hb_6; replace x_b1 := x_b1.bl hb_6; replace x_b2 := x_b2.bl hb_6; replace x_b3 := x_b3.bl hb_6; replace hb := hb.trans (hb_6.mono hb.size)
  refine hK _ _ rfl ?_
  clear hK K hb_6
  refine wpSq_call rfl (by kernel_rfl) fun K hK => ?_
  go_big_move; refine hK _ _ rfl ?_; clear hK K
  refine wpSq_call rfl (by kernel_rfl) fun K hK => ?_
  go_big_op; refine hK _ _ rfl ?_; clear hK K
  refine wpSq_call rfl (by kernel_rfl) fun K hK => ?_
  go_big_op; refine hK _ _ rfl ?_; clear hK K
  refine wpSq_call rfl (by kernel_rfl) fun K hK => ?_
  go_big_op
  have lt_b1 := x_b1.lt
  have lt_b2 := x_b2.lt
  have lt_b3 := x_b3.lt
  obtain ⟨p_b4, w_7, eP, eW, x_b4, hn, kb_b4⟩ := newBox w_6 #[.bool false, .slice none 0 0, .bool false, .slice none 0 0] 26 hb.size
  have ne_b1_b4 : Hid (p_b1 ≠ p_b4) := Nat.ne_of_lt (eP ▸ lt_b1)
  have ne_b2_b4 : Hid (p_b2 ≠ p_b4) := Nat.ne_of_lt (eP ▸ lt_b2)
  have ne_b3_b4 : Hid (p_b3 ≠ p_b4) := Nat.ne_of_lt (eP ▸ lt_b3)
  rw [eW, eP]
  clear eW eP lt_b1 lt_b2 lt_b3
  replace ha1 := ha1.bl hn; replace ha2 := ha2.bl hn; replace hq1 := hq1.bl hn; replace hq2 := hq2.bl hn; replace x_b1 := x_b1.bl hn; replace x_b2 := x_b2.bl hn; replace x_b3 := x_b3.bl hn; replace hb := hb.trans (hn.mono hb.size)
  refine hK _ _ rfl ?_; clear hK K hn
  refine wpSq_call rfl (by kernel_rfl) fun K hK => ?_
  obtain ⟨d0, d1, d2, d3⟩ := x_b4.f4
  have f0 := x_b4.free 0; have f1 := x_b4.free 1; have f2 := x_b4.free 2; have f3 := x_b4.free 3
  go_big_op
  have hnd := x_b4.nod rfl rfl
  obtain ⟨w_8, eW, x_b4', ho⟩ : ∃ w', ((((w_7.setCell ⟨p_b4, 0, none⟩ (.bool false)).setCell ⟨p_b4, 1, none⟩ (.slice none 0 0)).setCell ⟨p_b4, 2, none⟩ (.bool false)).setCell ⟨p_b4, 3, none⟩ (.slice none 0 0)) = w' ∧ Bs w' p_b4 #[.bool false, .slice none 0 0, .bool false, .slice none 0 0] 26 ∧ Only p_b4 w_7 w' := x_b4.setN [(0, .bool false), (1, .slice none 0 0), (2, .bool false), (3, .slice none 0 0)]
  rw [eW]; clear eW d0 d1 d2 d3 f0 f1 f2 f3 x_b4
  have x_b4 := x_b4'; clear x_b4'
  replace ha1 := ha1.fr hnd ho; replace ha2 := ha2.fr hnd ho; replace hq1 := hq1.fr hnd ho; replace hq2 := hq2.fr hnd ho; replace x_b1 := x_b1.frame ho ne_b1_b4; replace x_b2 := x_b2.frame ho ne_b2_b4; replace x_b3 := x_b3.frame ho ne_b3_b4; replace hb := belowOnly hb ho kb_b4
  refine hK _ _ rfl ?_; clear hK K ho hnd
  refine wpSq_call rfl (by kernel_rfl) fun K hK => ?_
  go_big_move; refine hK _ _ rfl ?_; clear hK K
  apply wpSq_end
  refine hK3 _ _ ?_
  refine wp_seq_k ?_
  intro K4 hK4
  refine wp_region_sq [0, 1, 2, 3, 4, 5, 6, 7, 8] (by kernel_rfl) ?_
  refine wpSq_call rfl (by kernel_rfl) fun K hK => ?_
  obtain ⟨d0, d1, d2, d3⟩ := x_b1.f4
  go_big_op; refine hK _ _ rfl ?_; clear hK K d0 d1 d2 d3
  refine wpSq_call rfl (by kernel_rfl) fun K hK => ?_
  obtain ⟨d0, d1, d2, d3⟩ := x_b2.f4
  go_big_op; refine hK _ _ rfl ?_; clear hK K d0 d1 d2 d3
  refine wpSq_call rfl (by kernel_rfl) fun K hK => ?_
  go_big_op
  go_fit (fMul_bad (PN.mk' ha1 ha2) (PN.mk' hq1 hq2) (by omega) (by omega) (by omega) (by omega) H.out)
  rintro e w_9 ⟨rfl, hb_9⟩
  replace ha1 := ha1.bl hb_9; replace ha2 := ha2.bl hb_9; replace hq1 := hq1.bl hb_9; replace hq2 := hq2.bl hb_9; replace x_b1 := x_b1.bl hb_9; replace x_b2 := x_b2.bl hb_9; replace x_b3 := x_b3.bl hb_9; replace x_b4 := x_b4.bl hb_9; replace hb := hb.trans (hb_9.mono hb.size)
  refine hK _ _ rfl ?_
  clear hK K hb_9
  refine wpSq_call rfl (by kernel_rfl) fun K hK => ?_
  go_big_move; refine hK _ _ rfl ?_; clear hK K
  refine wpSq_call rfl (by kernel_rfl) fun K hK => ?_
  go_big_op; refine hK _ _ rfl ?_; clear hK K
  refine wpSq_call rfl (by kernel_rfl) fun K hK => ?_
  go_big_op; refine hK _ _ rfl ?_; clear hK K
  refine wpSq_call rfl (by kernel_rfl) fun K hK => ?_
  go_big_op
  have lt_b1 := x_b1.lt
  have lt_b2 := x_b2.lt
  have lt_b3 := x_b3.lt
  have lt_b4 := x_b4.lt
  obtain ⟨p_b5, w_10, eP, eW, x_b5, hn, kb_b5⟩ := newBox w_9 #[.bool false, .slice none 0 0, .bool false, .slice none 0 0] 26 hb.size
  have ne_b1_b5 : Hid (p_b1 ≠ p_b5) := Nat.ne_of_lt (eP ▸ lt_b1)
  have ne_b2_b5 : Hid (p_b2 ≠ p_b5) := Nat.ne_of_lt (eP ▸ lt_b2)
  have ne_b3_b5 : Hid (p_b3 ≠ p_b5) := Nat.ne_of_lt (eP ▸ lt_b3)
  have ne_b4_b5 : Hid (p_b4 ≠ p_b5) := Nat.ne_of_lt (eP ▸ lt_b4)
  rw [eW, eP]
  clear eW eP lt_b1 lt_b2 lt_b3 lt_b4
  replace ha1 := ha1.bl hn; replace ha2 := ha2.bl hn; replace hq1 := hq1.bl hn; replace hq2 := hq2.bl hn; replace x_b1 := x_b1.bl hn; replace x_b2 := x_b2.bl hn; replace x_b3 := x_b3.bl hn; replace x_b4 := x_b4.bl hn; replace hb := hb.trans (hn.mono hb.size)
  refine hK _ _ rfl ?_; clear hK K hn
  refine wpSq_call rfl (by kernel_rfl) fun K hK => ?_
  obtain ⟨d0, d1, d2, d3⟩ := x_b5.f4
  have f0 := x_b5.free 0; have f1 := x_b5.free 1; have f2 := x_b5.free 2; have f3 := x_b5.free 3
  go_big_op
  have hnd := x_b5.nod rfl rfl
  obtain ⟨w_11, eW, x_b5', ho⟩ : ∃ w', ((((w_10.setCell ⟨p_b5, 0, none⟩ (.bool false)).setCell ⟨p_b5, 1, none⟩ (.slice none 0 0)).setCell ⟨p_b5, 2, none⟩ (.bool false)).setCell ⟨p_b5, 3, none⟩ (.slice none 0 0)) = w' ∧ Bs w' p_b5 #[.bool false, .slice none 0 0, .bool false, .slice none 0 0] 26 ∧ Only p_b5 w_10 w' := x_b5.setN [(0, .bool false), (1, .slice none 0 0), (2, .bool false), (3, .slice none 0 0)]
  rw [eW]; clear eW d0 d1 d2 d3 f0 f1 f2 f3 x_b5
  have x_b5 := x_b5'; clear x_b5'
  replace ha1 := ha1.fr hnd ho; replace ha2 := ha2.fr hnd ho; replace hq1 := hq1.fr hnd ho; replace hq2 := hq2.fr hnd ho; replace x_b1 := x_b1.frame ho ne_b1_b5; replace x_b2 := x_b2.frame ho ne_b2_b5; replace x_b3 := x_b3.frame ho ne_b3_b5; replace x_b4 := x_b4.frame ho ne_b4_b5; replace hb := belowOnly hb ho kb_b5
  refine hK _ _ rfl ?_; clear hK K ho hnd
  refine wpSq_call rfl (by kernel_rfl) fun K hK => ?_
  go_big_move; refine hK _ _ rfl ?_; clear hK K
  apply wpSq_end
  refine hK4 _ _ ?_
  refine wp_seq_k ?_
  intro K5 hK5
  refine wp_region_sq [0, 1, 2, 3, 4, 5, 6, 7, 8] (by kernel_rfl) ?_
  refine wpSq_call rfl (by kernel_rfl) fun K hK => ?_
  obtain ⟨d0, d1, d2, d3⟩ := x_b1.f4
  go_big_op; refine hK _ _ rfl ?_; clear hK K d0 d1 d2 d3
  refine wpSq_call rfl (by kernel_rfl) fun K hK => ?_
  obtain ⟨d0, d1, d2, d3⟩ := x_b2.f4
  go_big_op; refine hK _ _ rfl ?_; clear hK K d0 d1 d2 d3
  refine wpSq_call rfl (by kernel_rfl) fun K hK => ?_
  go_big_op
  go_fit (fQuo_bad (PN.mk' ha1 ha2) (PN.mk' hq1 hq2) (by omega) (by omega) (by omega) (by omega) H.out)
  rintro e w_12 ⟨rfl, hb_12⟩
  replace ha1 := ha1.bl hb_12; replace ha2 := ha2.bl hb_12; replace hq1 := hq1.bl hb_12; replace hq2 := hq2.bl hb_12; replace x_b1 := x_b1.bl hb_12; replace x_b2 := x_b2.bl hb_12; replace x_b3 := x_b3.bl hb_12; replace x_b4 := x_b4.bl hb_12; replace x_b5 := x_b5.bl hb_12; replace hb := hb.trans (hb_12.mono hb.size)
  refine hK _ _ rfl ?_
  clear hK K hb_12
  refine wpSq_call rfl (by kernel_rfl) fun K hK => ?_
  go_big_move; refine hK _ _ rfl ?_; clear hK K
  refine wpSq_call rfl (by kernel_rfl) fun K hK => ?_
  go_big_op; refine hK _ _ rfl ?_; clear hK K
  refine wpSq_call rfl (by kernel_rfl) fun K hK => ?_
  go_big_op; refine hK _ _ rfl ?_; clear hK K
  refine wpSq_call rfl (by kernel_rfl) fun K hK => ?_
  go_big_op
  have lt_b1 := x_b1.lt
  have lt_b2 := x_b2.lt
  have lt_b3 := x_b3.lt
  have lt_b4 := x_b4.lt
  have lt_b5 := x_b5.lt
  obtain ⟨p_b6, w_13, eP, eW, x_b6, hn, kb_b6⟩ := newBox w_12 #[.bool false, .slice none 0 0, .bool false, .slice none 0 0] 26 hb.size
  have ne_b1_b6 : Hid (p_b1 ≠ p_b6) := Nat.ne_of_lt (eP ▸ lt_b1)
  have ne_b2_b6 : Hid (p_b2 ≠ p_b6) := Nat.ne_of_lt (eP ▸ lt_b2)
  have ne_b3_b6 : Hid (p_b3 ≠ p_b6) := Nat.ne_of_lt (eP ▸ lt_b3)
  have ne_b4_b6 : Hid (p_b4 ≠ p_b6) := Nat.ne_of_lt (eP ▸ lt_b4)
  have ne_b5_b6 : Hid (p_b5 ≠ p_b6) := Nat.ne_of_lt (eP ▸ lt_b5)
  rw [eW, eP]
  clear eW eP lt_b1 lt_b2 lt_b3 lt_b4 lt_b5
  replace ha1 := ha1.bl hn; replace ha2 := ha2.bl hn; replace hq1 := hq1.bl hn; replace hq2 := hq2.bl hn; replace x_b1 := x_b1.bl hn; replace x_b2 := x_b2.bl hn; replace x_b3 := x_b3.bl hn; replace x_b4 := x_b4.bl hn; replace x_b5 := x_b5.bl hn; replace hb := hb.trans (hn.mono hb.size)
  refine hK _ _ rfl ?_; clear hK K hn
  refine wpSq_call rfl (by kernel_rfl) fun K hK => ?_
  obtain ⟨d0, d1, d2, d3⟩ := x_b6.f4
  have f0 := x_b6.free 0; have f1 := x_b6.free 1; have f2 := x_b6.free 2; have f3 := x_b6.free 3
  go_big_op
  have hnd := x_b6.nod rfl rfl
  obtain ⟨w_14, eW, x_b6', ho⟩ : ∃ w', ((((w_13.setCell ⟨p_b6, 0, none⟩ (.bool false)).setCell ⟨p_b6, 1, none⟩ (.slice none 0 0)).setCell ⟨p_b6, 2, none⟩ (.bool false)).setCell ⟨p_b6, 3, none⟩ (.slice none 0 0)) = w' ∧ Bs w' p_b6 #[.bool false, .slice none 0 0, .bool false, .slice none 0 0] 26 ∧ Only p_b6 w_13 w' := x_b6.setN [(0, .bool false), (1, .slice none 0 0), (2, .bool false), (3, .slice none 0 0)]
  rw [eW]; clear eW d0 d1 d2 d3 f0 f1 f2 f3 x_b6
  have x_b6 := x_b6'; clear x_b6'
  replace ha1 := ha1.fr hnd ho; replace ha2 := ha2.fr hnd ho; replace hq1 := hq1.fr hnd ho; replace hq2 := hq2.fr hnd ho; replace x_b1 := x_b1.frame ho ne_b1_b6; replace x_b2 := x_b2.frame ho ne_b2_b6; replace x_b3 := x_b3.frame ho ne_b3_b6; replace x_b4 := x_b4.frame ho ne_b4_b6; replace x_b5 := x_b5.frame ho ne_b5_b6; replace hb := belowOnly hb ho kb_b6
  refine hK _ _ rfl ?_; clear hK K ho hnd
  refine wpSq_call rfl (by kernel_rfl) fun K hK => ?_
  go_big_move; refine hK _ _ rfl ?_; clear hK K
  apply wpSq_end
  refine hK5 _ _ ?_
  refine wp_seq_k ?_
  intro K6 hK6
  refine wp_region_sq [0, 1, 2, 3, 4, 5, 6, 7] (by kernel_rfl) ?_
  refine wpSq_call rfl (by kernel_rfl) fun K hK => ?_
  obtain ⟨d0, d1, d2, d3⟩ := x_b1.f4
  go_big_op; refine hK _ _ rfl ?_; clear hK K d0 d1 d2 d3
  refine wpSq_call rfl (by kernel_rfl) fun K hK => ?_
  obtain ⟨d0, d1, d2, d3⟩ := x_b2.f4
  go_big_op; refine hK _ _ rfl ?_; clear hK K d0 d1 d2 d3
  refine wpSq_call rfl (by kernel_rfl) fun K hK => ?_
  go_big_op
  go_fit (fCmp_bad (PN.mk' ha1 ha2) (PN.mk' hq1 hq2) (by omega) (by omega) (by omega) (by omega) H.out)
  rintro e w_15 ⟨rfl, hb_15⟩
  replace ha1 := ha1.bl hb_15; replace ha2 := ha2.bl hb_15; replace hq1 := hq1.bl hb_15; replace hq2 := hq2.bl hb_15; replace x_b1 := x_b1.bl hb_15; replace x_b2 := x_b2.bl hb_15; replace x_b3 := x_b3.bl hb_15; replace x_b4 := x_b4.bl hb_15; replace x_b5 := x_b5.bl hb_15; replace x_b6 := x_b6.bl hb_15; replace hb := hb.trans (hb_15.mono hb.size)
  refine hK _ _ rfl ?_
  clear hK K hb_15
  refine wpSq_call rfl (by kernel_rfl) fun K hK => ?_
  go_big_move; refine hK _ _ rfl ?_; clear hK K
  refine wpSq_call rfl (by kernel_rfl) fun K hK => ?_
  go_big_op; refine hK _ _ rfl ?_; clear hK K
  refine wpSq_call rfl (by kernel_rfl) fun K hK => ?_
  go_big_op; refine hK _ _ rfl ?_; clear hK K
  refine wpSq_call rfl (by kernel_rfl) fun K hK => ?_
  go_big_move; refine hK _ _ rfl ?_; clear hK K
  refine wpSq_call rfl (by kernel_rfl) fun K hK => ?_
  go_big_move; refine hK _ _ rfl ?_; clear hK K
  apply wpSq_end
  refine hK6 _ _ ?_
  refine wp_seq_k ?_
  intro K7 hK7
  refine wp_seq_k ?_
  intro K8 hK8
  refine wp_region_sq [0, 1] (by kernel_rfl) ?_
  refine wpSq_call rfl (by kernel_rfl) fun K hK => ?_
  go_big_op
  go_fit (fawake_any _ (htabs _ hb))
  rintro e w_16 ⟨rfl, hb_16⟩
  replace ha1 := ha1.bl hb_16; replace ha2 := ha2.bl hb_16; replace hq1 := hq1.bl hb_16; replace hq2 := hq2.bl hb_16; replace x_b1 := x_b1.bl hb_16; replace x_b2 := x_b2.bl hb_16; replace x_b3 := x_b3.bl hb_16; replace x_b4 := x_b4.bl hb_16; replace x_b5 := x_b5.bl hb_16; replace x_b6 := x_b6.bl hb_16; replace hb := hb.trans (hb_16.mono hb.size)
  refine hK _ _ rfl ?_
  clear hK K hb_16
  refine wpSq_call rfl (by kernel_rfl) fun K hK => ?_
  go_big_op; refine hK _ _ rfl ?_; clear hK K
  apply wpSq_end
  refine hK8 _ _ ?_
  refine wp_cond_false (congrArg Value.bool (show _ = false from (by first | rfl | assumption | (simp; done) | omega))) ?_
  refine wp_skip ?_
  refine hK7 _ _ ?_
  refine wp_seq_k ?_
  intro K9 hK9
  refine wp_seq_k ?_
  intro K10 hK10
  refine wp_region_sq [0, 1, 2, 3, 4, 5] (by kernel_rfl) ?_
  refine wpSq_call rfl (by kernel_rfl) fun K hK => ?_
  obtain ⟨d0, d1, d2, d3⟩ := x_b1.f4
  go_big_op; refine hK _ _ rfl ?_; clear hK K d0 d1 d2 d3
  refine wpSq_call rfl (by kernel_rfl) fun K hK => ?_
  go_big_op
  go_fit (rbad_yes (PN.mk' ha1 ha2) (by omega) (by omega) )
  rintro e w_17 ⟨rfl, hb_17⟩
  replace ha1 := ha1.bl hb_17; replace ha2 := ha2.bl hb_17; replace hq1 := hq1.bl hb_17; replace hq2 := hq2.bl hb_17; replace x_b1 := x_b1.bl hb_17; replace x_b2 := x_b2.bl hb_17; replace x_b3 := x_b3.bl hb_17; replace x_b4 := x_b4.bl hb_17; replace x_b5 := x_b5.bl hb_17; replace x_b6 := x_b6.bl hb_17; replace hb := hb.trans (hb_17.mono hb.size)
  refine hK _ _ rfl ?_
  clear hK K hb_17
  refine wpSq_call rfl (by kernel_rfl) fun K hK => ?_
  go_big_move; refine hK _ _ rfl ?_; clear hK K
  apply wpSq_skip
  case hi => rfl
  case hw => kernel_rfl
  case hp => unfold Act.put; simp only [List.setIfInBounds_toArray, List.set_cons_succ, List.set_cons_zero]; rfl
  apply wpSq_skip
  case hi => rfl
  case hw => kernel_rfl
  case hp => unfold Act.put; simp only [List.setIfInBounds_toArray, List.set_cons_succ, List.set_cons_zero]; rfl
  refine wpSq_call rfl (by kernel_rfl) fun K hK => ?_
  go_big_op; refine hK _ _ rfl ?_; clear hK K
  apply wpSq_end
  refine hK10 _ _ ?_
  refine wp_cond_true (congrArg Value.bool (show _ = true from (by first | rfl | assumption | (simp; done) | omega))) ?_
  refine wp_seq_k ?_
  intro K11 hK11
  refine wp_region_sq [0, 1, 2, 3, 4, 5, 6, 7, 8, 9, 10, 11, 12, 13, 14, 15, 16, 17, 18, 19, 20, 21, 22, 23, 24, 25, 26, 27, 28, 29, 30] (by kernel_rfl) ?_
  refine wpSq_call rfl (by kernel_rfl) fun K hK => ?_
  obtain ⟨d0, d1, d2, d3⟩ := x_b3.f4
  go_big_op; refine hK _ _ rfl ?_; clear hK K d0 d1 d2 d3
  refine wpSq_call rfl (by kernel_rfl) fun K hK => ?_
  go_big_move; refine hK _ _ rfl ?_; clear hK K
  refine wpSq_call rfl (by kernel_rfl) fun K hK => ?_
  obtain ⟨d0, d1, d2, d3⟩ := x_b3.f4
  go_big_op; refine hK _ _ rfl ?_; clear hK K d0 d1 d2 d3
  refine wpSq_call rfl (by kernel_rfl) fun K hK => ?_
  go_big_op
  go_fit (ftold_err 5 (.mk' (zc_zero w_17) (zc_zero w_17)) (by decide))
  rintro e w_18 ⟨rfl, hb_18⟩
  replace ha1 := ha1.bl hb_18; replace ha2 := ha2.bl hb_18; replace hq1 := hq1.bl hb_18; replace hq2 := hq2.bl hb_18; replace x_b1 := x_b1.bl hb_18; replace x_b2 := x_b2.bl hb_18; replace x_b3 := x_b3.bl hb_18; replace x_b4 := x_b4.bl hb_18; replace x_b5 := x_b5.bl hb_18; replace x_b6 := x_b6.bl hb_18; replace hb := hb.trans (hb_18.mono hb.size)
  refine hK _ _ rfl ?_
  clear hK K hb_18
  refine wpSq_call rfl (by kernel_rfl) fun K hK => ?_
  go_big_move; refine hK _ _ rfl ?_; clear hK K
  refine wpSq_call rfl (by kernel_rfl) fun K hK => ?_
  obtain ⟨d0, d1, d2, d3⟩ := x_b4.f4
  go_big_op; refine hK _ _ rfl ?_; clear hK K d0 d1 d2 d3
  refine wpSq_call rfl (by kernel_rfl) fun K hK => ?_
  go_big_move; refine hK _ _ rfl ?_; clear hK K
  refine wpSq_call rfl (by kernel_rfl) fun K hK => ?_
  obtain ⟨d0, d1, d2, d3⟩ := x_b4.f4
  go_big_op; refine hK _ _ rfl ?_; clear hK K d0 d1 d2 d3
  refine wpSq_call rfl (by kernel_rfl) fun K hK => ?_
  go_big_op
  go_fit (ftold_err 5 (.mk' (zc_zero w_18) (zc_zero w_18)) (by decide))
  rintro e w_19 ⟨rfl, hb_19⟩
  replace ha1 := ha1.bl hb_19; replace ha2 := ha2.bl hb_19; replace hq1 := hq1.bl hb_19; replace hq2 := hq2.bl hb_19; replace x_b1 := x_b1.bl hb_19; replace x_b2 := x_b2.bl hb_19; replace x_b3 := x_b3.bl hb_19; replace x_b4 := x_b4.bl hb_19; replace x_b5 := x_b5.bl hb_19; replace x_b6 := x_b6.bl hb_19; replace hb := hb.trans (hb_19.mono hb.size)
  refine hK _ _ rfl ?_
  clear hK K hb_19
  refine wpSq_call rfl (by kernel_rfl) fun K hK => ?_
  go_big_op; refine hK _ _ rfl ?_; clear hK K
  refine wpSq_call rfl (by kernel_rfl) fun K hK => ?_
  go_big_move; refine hK _ _ rfl ?_; clear hK K
  refine wpSq_call rfl (by kernel_rfl) fun K hK => ?_
  obtain ⟨d0, d1, d2, d3⟩ := x_b5.f4
  go_big_op; refine hK _ _ rfl ?_; clear hK K d0 d1 d2 d3
  refine wpSq_call rfl (by kernel_rfl) fun K hK => ?_
  go_big_move; refine hK _ _ rfl ?_; clear hK K
  refine wpSq_call rfl (by kernel_rfl) fun K hK => ?_
  obtain ⟨d0, d1, d2, d3⟩ := x_b5.f4
  go_big_op; refine hK _ _ rfl ?_; clear hK K d0 d1 d2 d3
  refine wpSq_call rfl (by kernel_rfl) fun K hK => ?_
  go_big_op
  go_fit (ftold_err 5 (.mk' (zc_zero w_19) (zc_zero w_19)) (by decide))
  rintro e w_20 ⟨rfl, hb_20⟩
  replace ha1 := ha1.bl hb_20; replace ha2 := ha2.bl hb_20; replace hq1 := hq1.bl hb_20; replace hq2 := hq2.bl hb_20; replace x_b1 := x_b1.bl hb_20; replace x_b2 := x_b2.bl hb_20; replace x_b3 := x_b3.bl hb_20; replace x_b4 := x_b4.bl hb_20; replace x_b5 := x_b5.bl hb_20; replace x_b6 := x_b6.bl hb_20; replace hb := hb.trans (hb_20.mono hb.size)
  refine hK _ _ rfl ?_
  clear hK K hb_20
  refine wpSq_call rfl (by kernel_rfl) fun K hK => ?_
  go_big_op; refine hK _ _ rfl ?_; clear hK K
  refine wpSq_call rfl (by kernel_rfl) fun K hK => ?_
  go_big_move; refine hK _ _ rfl ?_; clear hK K
  refine wpSq_call rfl (by kernel_rfl) fun K hK => ?_
  obtain ⟨d0, d1, d2, d3⟩ := x_b6.f4
  go_big_op; refine hK _ _ rfl ?_; clear hK K d0 d1 d2 d3
  refine wpSq_call rfl (by kernel_rfl) fun K hK => ?_
  go_big_move; refine hK _ _ rfl ?_; clear hK K
  refine wpSq_call rfl (by kernel_rfl) fun K hK => ?_
  obtain ⟨d0, d1, d2, d3⟩ := x_b6.f4
  go_big_op; refine hK _ _ rfl ?_; clear hK K d0 d1 d2 d3
  refine wpSq_call rfl (by kernel_rfl) fun K hK => ?_
  go_big_op
  go_fit (ftold_err 5 (.mk' (zc_zero w_20) (zc_zero w_20)) (by decide))
  rintro e w_21 ⟨rfl, hb_21⟩
  replace ha1 := ha1.bl hb_21; replace ha2 := ha2.bl hb_21; replace hq1 := hq1.bl hb_21; replace hq2 := hq2.bl hb_21; replace x_b1 := x_b1.bl hb_21; replace x_b2 := x_b2.bl hb_21; replace x_b3 := x_b3.bl hb_21; replace x_b4 := x_b4.bl hb_21; replace x_b5 := x_b5.bl hb_21; replace x_b6 := x_b6.bl hb_21; replace hb := hb.trans (hb_21.mono hb.size)
  refine hK _ _ rfl ?_
  clear hK K hb_21
  refine wpSq_call rfl (by kernel_rfl) fun K hK => ?_
  go_big_op; refine hK _ _ rfl ?_; clear hK K
  refine wpSq_call rfl (by kernel_rfl) fun K hK => ?_
  go_big_move; refine hK _ _ rfl ?_; clear hK K
  refine wpSq_call rfl (by kernel_rfl) fun K hK => ?_
  go_big_move; refine hK _ _ rfl ?_; clear hK K
  refine wpSq_call rfl (by kernel_rfl) fun K hK => ?_
  go_big_op; refine hK _ _ rfl ?_; clear hK K
  refine wpSq_call rfl (by kernel_rfl) fun K hK => ?_
  go_big_op; refine hK _ _ rfl ?_; clear hK K
  refine wpSq_call rfl (by kernel_rfl) fun K hK => ?_
  go_big_move; refine hK _ _ rfl ?_; clear hK K
  refine wpSq_call rfl (by kernel_rfl) fun K hK => ?_
  go_big_move; refine hK _ _ rfl ?_; clear hK K
  refine wpSq_call rfl (by kernel_rfl) fun K hK => ?_
  go_big_op; refine hK _ _ rfl ?_; clear hK K
  refine wpSq_call rfl (by kernel_rfl) fun K hK => ?_
  go_big_op; refine hK _ _ rfl ?_; clear hK K
  refine wpSq_call rfl (by kernel_rfl) fun K hK => ?_
  go_big_move; refine hK _ _ rfl ?_; clear hK K
  apply wpSq_end
  refine hK11 _ _ ?_
  refine wp_ret ?_
  try dsimp only [Exit.then, Exit.inBlock]
  refine bodyPost_ret (v := (.bool true)) (by simp [results, Tryz.results5, go_sem]) rfl ?_
  exact ⟨rfl, hb⟩
set_option maxHeartbeats 8000000 in
set_option maxRecDepth 20000 in
theorem sums_bad2 (ha : PN w va x l y m) (hq : PN w vb u k 0 n) (hl : l ≤ 1048576) (hm : m ≤ 1048576) (hk : k ≤ 1048576) (hn : n ≤ 1048576) (hy : y ≠ 0) (htab : Lib.TabIs Tryz.prog w p10 .u64 Lib.pow10Tab) :
    Calls Tryz.prog 5 #[va, vb] w fun e w' => e = .returned (.bool true) ∧ Below w.heap.size w w' := by
  have htabs := Lib.tabBelow_of_tabIs htab
  have H := hide (show y = 0 ∨ (0 : Int) = 0 from .inr rfl)
  have HY := hide hy
  clear hy
  obtain ⟨n_0a, o_0a, k_0a, c_0a, n_0b, o_0b, k_0b, c_0b, rfl, ha1, ha2⟩ := ha
  obtain ⟨n_1a, o_1a, k_1a, c_1a, n_1b, o_1b, k_1b, c_1b, rfl, hq1, hq2⟩ := hq
  go_enter Tryz.func5, Tryz.ntmps5
  have hb := Below.refl w.heap.size w
  refine wp_seq_k ?_
  intro K1 hK1
  refine wp_region_sq [0, 1, 2] (by kernel_rfl) ?_
  refine wpSq_call rfl (by kernel_rfl) fun K hK => ?_
  go_big_op
  obtain ⟨p_b1, w_1, eP, eW, x_b1, hn, kb_b1⟩ := newBox w #[.bool n_0a, .slice o_0a k_0a c_0a, .bool n_0b, .slice o_0b k_0b c_0b] 26 hb.size
  rw [eW, eP]
  clear eW eP
  replace ha1 := ha1.bl hn; replace ha2 := ha2.bl hn; replace hq1 := hq1.bl hn; replace hq2 := hq2.bl hn; replace hb := hb.trans (hn.mono hb.size)
  refine hK _ _ rfl ?_; clear hK K hn
  refine wpSq_call rfl (by kernel_rfl) fun K hK => ?_
  go_big_op
  have lt_b1 := x_b1.lt
  obtain ⟨p_b2, w_2, eP, eW, x_b2, hn, kb_b2⟩ := newBox w_1 #[.bool n_1a, .slice o_1a k_1a c_1a, .bool n_1b, .slice o_1b k_1b c_1b] 26 hb.size
  have ne_b1_b2 : Hid (p_b1 ≠ p_b2) := Nat.ne_of_lt (eP ▸ lt_b1)
  rw [eW, eP]
  clear eW eP lt_b1
  replace ha1 := ha1.bl hn; replace ha2 := ha2.bl hn; replace hq1 := hq1.bl hn; replace hq2 := hq2.bl hn; replace x_b1 := x_b1.bl hn; replace hb := hb.trans (hn.mono hb.size)
  refine hK _ _ rfl ?_; clear hK K hn
  refine wpSq_call rfl (by kernel_rfl) fun K hK => ?_
  go_big_move; refine hK _ _ rfl ?_; clear hK K
  apply wpSq_end
  refine hK1 _ _ ?_
  refine wp_seq_k ?_
  intro K2 hK2
  refine wp_region_sq [0, 1, 2, 3, 4, 5, 6, 7, 8] (by kernel_rfl) ?_
  refine wpSq_call rfl (by kernel_rfl) fun K hK => ?_
  obtain ⟨d0, d1, d2, d3⟩ := x_b1.f4
  go_big_op; refine hK _ _ rfl ?_; clear hK K d0 d1 d2 d3
  refine wpSq_call rfl (by kernel_rfl) fun K hK => ?_
  obtain ⟨d0, d1, d2, d3⟩ := x_b2.f4
  go_big_op; refine hK _ _ rfl ?_; clear hK K d0 d1 d2 d3
  refine wpSq_call rfl (by kernel_rfl) fun K hK => ?_
  go_big_op
  go_fit (fAdd_bad (PN.mk' ha1 ha2) (PN.mk' hq1 hq2) (by omega) (by omega) (by omega) (by omega) H.out)
  rintro e w_3 ⟨rfl, hb_3⟩
  replace ha1 := ha1.bl hb_3; replace ha2 := ha2.bl hb_3; replace hq1 := hq1.bl hb_3; replace hq2 := hq2.bl hb_3; replace x_b1 := x_b1.bl hb_3; replace x_b2 := x_b2.bl hb_3; replace hb := hb.trans (hb_3.mono hb.size)
  refine hK _ _ rfl ?_
  clear hK K hb_3
  refine wpSq_call rfl (by kernel_rfl) fun K hK => ?_
  go_big_move; refine hK _ _ rfl ?_; clear hK K
  refine wpSq_call rfl (by kernel_rfl) fun K hK => ?_
  go_big_op; refine hK _ _ rfl ?_; clear hK K
  refine wpSq_call rfl (by kernel_rfl) fun K hK => ?_
  go_big_op; refine hK _ _ rfl ?_; clear hK K
  refine wpSq_call rfl (by kernel_rfl) fun K hK => ?_
  go_big_op
  have lt_b1 := x_b1.lt
  have lt_b2 := x_b2.lt
  obtain ⟨p_b3, w_4, eP, eW, x_b3, hn, kb_b3⟩ := newBox w_3 #[.bool false, .slice none 0 0, .bool false, .slice none 0 0] 26 hb.size
  have ne_b1_b3 : Hid (p_b1 ≠ p_b3) := Nat.ne_of_lt (eP ▸ lt_b1)
  have ne_b2_b3 : Hid (p_b2 ≠ p_b3) := Nat.ne_of_lt (eP ▸ lt_b2)
  rw [eW, eP]
  clear eW eP lt_b1 lt_b2
  replace ha1 := ha1.bl hn; replace ha2 := ha2.bl hn; replace hq1 := hq1.bl hn; replace hq2 := hq2.bl hn; replace x_b1 := x_b1.bl hn; replace x_b2 := x_b2.bl hn; replace hb := hb.trans (hn.mono hb.size)
  refine hK _ _ rfl ?_; clear hK K hn
  refine wpSq_call rfl (by kernel_rfl) fun K hK => ?_
  obtain ⟨d0, d1, d2, d3⟩ := x_b3.f4
  have f0 := x_b3.free 0; have f1 := x_b3.free 1; have f2 := x_b3.free 2; have f3 := x_b3.free 3
  go_big_op
  have hnd := x_b3.nod rfl rfl
  obtain ⟨w_5, eW, x_b3', ho⟩ : ∃ w', ((((w_4.setCell ⟨p_b3, 0, none⟩ (.bool false)).setCell ⟨p_b3, 1, none⟩ (.slice none 0 0)).setCell ⟨p_b3, 2, none⟩ (.bool false)).setCell ⟨p_b3, 3, none⟩ (.slice none 0 0)) = w' ∧ Bs w' p_b3 #[.bool false, .slice none 0 0, .bool false, .slice none 0 0] 26 ∧ Only p_b3 w_4 w' := x_b3.setN [(0, .bool false), (1, .slice none 0 0), (2, .bool false), (3, .slice none 0 0)]
  rw [eW]; clear eW d0 d1 d2 d3 f0 f1 f2 f3 x_b3
  have x_b3 := x_b3'; clear x_b3'
  replace ha1 := ha1.fr hnd ho; replace ha2 := ha2.fr hnd ho; replace hq1 := hq1.fr hnd ho; replace hq2 := hq2.fr hnd ho; replace x_b1 := x_b1.frame ho ne_b1_b3; replace x_b2 := x_b2.frame ho ne_b2_b3; replace hb := belowOnly hb ho kb_b3
  refine hK _ _ rfl ?_; clear hK K ho hnd
  refine wpSq_call rfl (by kernel_rfl) fun K hK => ?_
  go_big_move; refine hK _ _ rfl ?_; clear hK K
  apply wpSq_end
  refine hK2 _ _ ?_
  refine wp_seq_k ?_
  intro K3 hK3
  refine wp_region_sq [0, 1, 2, 3, 4, 5, 6, 7, 8] (by kernel_rfl) ?_
  refine wpSq_call rfl (by kernel_rfl) fun K hK => ?_
  obtain ⟨d0, d1, d2, d3⟩ := x_b1.f4
  go_big_op; refine hK _ _ rfl ?_; clear hK K d0 d1 d2 d3
  refine wpSq_call rfl (by kernel_rfl) fun K hK => ?_
  obtain ⟨d0, d1, d2, d3⟩ := x_b2.f4
  go_big_op; refine hK _ _ rfl ?_; clear hK K d0 d1 d2 d3
  refine wpSq_call rfl (by kernel_rfl) fun K hK => ?_
  go_big_op
  go_fit (fSub_bad (PN.mk' ha1 ha2) (PN.mk' hq1 hq2) (by omega) (by omega) (by omega) (by omega) H.out)
  rintro e w_6 ⟨rfl, hb_6⟩
  replace ha1 := ha1.bl hb_6; replace ha2 := ha2.bl hb_6; replace hq1 := hq1.bl hb_6; replace hq2 := hq2.bl hb_6; replace x_b1 := x_b1.bl hb_6; replace x_b2 := x_b2.bl hb_6; replace x_b3 := x_b3.bl hb_6; replace hb := hb.trans (hb_6.mono hb.size)
  refine hK _ _ rfl ?_
  clear hK K hb_6
  refine wpSq_call rfl (by kernel_rfl) fun K hK => ?_
  go_big_move; refine hK _ _ rfl ?_; clear hK K
  refine wpSq_call rfl (by kernel_rfl) fun K hK => ?_
  go_big_op; refine hK _ _ rfl ?_; clear hK K
  refine wpSq_call rfl (by kernel_rfl) fun K hK => ?_
  go_big_op; refine hK _ _ rfl ?_; clear hK K
  refine wpSq_call rfl (by kernel_rfl) fun K hK => ?_
  go_big_op
  have lt_b1 := x_b1.lt
  have lt_b2 := x_b2.lt
  have lt_b3 := x_b3.lt
  obtain ⟨p_b4, w_7, eP, eW, x_b4, hn, kb_b4⟩ := newBox w_6 #[.bool false, .slice none 0 0, .bool false, .slice none 0 0] 26 hb.size
  have ne_b1_b4 : Hid (p_b1 ≠ p_b4) := Nat.ne_of_lt (eP ▸ lt_b1)
  have ne_b2_b4 : Hid (p_b2 ≠ p_b4) := Nat.ne_of_lt (eP ▸ lt_b2)
  have ne_b3_b4 : Hid (p_b3 ≠ p_b4) := Nat.ne_of_lt (eP ▸ lt_b3)
  rw [eW, eP]
  clear eW eP lt_b1 lt_b2 lt_b3
  replace ha1 := ha1.bl hn; replace ha2 := ha2.bl hn; replace hq1 := hq1.bl hn; replace hq2 := hq2.bl hn; replace x_b1 := x_b1.bl hn; replace x_b2 := x_b2.bl hn; replace x_b3 := x_b3.bl hn; replace hb := hb.trans (hn.mono hb.size)
  refine hK _ _ rfl ?_; clear hK K hn
  refine wpSq_call rfl (by kernel_rfl) fun K hK => ?_
  obtain ⟨d0, d1, d2, d3⟩ := x_b4.f4
  have f0 := x_b4.free 0; have f1 := x_b4.free 1; have f2 := x_b4.free 2; have f3 := x_b4.free 3
  go_big_op
  have hnd := x_b4.nod rfl rfl
  obtain ⟨w_8, eW, x_b4', ho⟩ : ∃ w', ((((w_7.setCell ⟨p_b4, 0, none⟩ (.bool false)).setCell ⟨p_b4, 1, none⟩ (.slice none 0 0)).setCell ⟨p_b4, 2, none⟩ (.bool false)).setCell ⟨p_b4, 3, none⟩ (.slice none 0 0)) = w' ∧ Bs w' p_b4 #[.bool false, .slice none 0 0, .bool false, .slice none 0 0] 26 ∧ Only p_b4 w_7 w' := x_b4.setN [(0, .bool false), (1, .slice none 0 0), (2, .bool false), (3, .slice none 0 0)]
  rw [eW]; clear eW d0 d1 d2 d3 f0 f1 f2 f3 x_b4
  have x_b4 := x_b4'; clear x_b4'
  replace ha1 := ha1.fr hnd ho; replace ha2 := ha2.fr hnd ho; replace hq1 := hq1.fr hnd ho; replace hq2 := hq2.fr hnd ho; replace x_b1 := x_b1.frame ho ne_b1_b4; replace x_b2 := x_b2.frame ho ne_b2_b4; replace x_b3 := x_b3.frame ho ne_b3_b4; replace hb := belowOnly hb ho kb_b4
  refine hK _ _ rfl ?_; clear hK K ho hnd
  refine wpSq_call rfl (by kernel_rfl) fun K hK => ?_
  go_big_move; refine hK _ _ rfl ?_; clear hK K
  apply wpSq_end
  refine hK3 _ _ ?_
  refine wp_seq_k ?_
  intro K4 hK4
  refine wp_region_sq [0, 1, 2, 3, 4, 5, 6, 7, 8] (by kernel_rfl) ?_
  refine wpSq_call rfl (by kernel_rfl) fun K hK => ?_
  obtain ⟨d0, d1, d2, d3⟩ := x_b1.f4
  go_big_op; refine hK _ _ rfl ?_; clear hK K d0 d1 d2 d3
  refine wpSq_call rfl (by kernel_rfl) fun K hK => ?_
  obtain ⟨d0, d1, d2, d3⟩ := x_b2.f4
  go_big_op; refine hK _ _ rfl ?_; clear hK K d0 d1 d2 d3
  refine wpSq_call rfl (by kernel_rfl) fun K hK => ?_
  go_big_op
  go_fit (fMul_bad (PN.mk' ha1 ha2) (PN.mk' hq1 hq2) (by omega) (by omega) (by omega) (by omega) H.out)
  rintro e w_9 ⟨rfl, hb_9⟩
  replace ha1 := ha1.bl hb_9; replace ha2 := ha2.bl hb_9; replace hq1 := hq1.bl hb_9; replace hq2 := hq2.bl hb_9; replace x_b1 := x_b1.bl hb_9; replace x_b2 := x_b2.bl hb_9; replace x_b3 := x_b3.bl hb_9; replace x_b4 := x_b4.bl hb_9; replace hb := hb.trans (hb_9.mono hb.size)
  refine hK _ _ rfl ?_
  clear hK K hb_9
  refine wpSq_call rfl (by kernel_rfl) fun K hK => ?_
  go_big_move; refine hK _ _ rfl ?_; clear hK K
  refine wpSq_call rfl (by kernel_rfl) fun K hK => ?_
  go_big_op; refine hK _ _ rfl ?_; clear hK K
  refine wpSq_call rfl (by kernel_rfl) fun K hK => ?_
  go_big_op; refine hK _ _ rfl ?_; clear hK K
  refine wpSq_call rfl (by kernel_rfl) fun K hK => ?_
  go_big_op
  have lt_b1 := x_b1.lt
  have lt_b2 := x_b2.lt
  have lt_b3 := x_b3.lt
  have lt_b4 := x_b4.lt
  obtain ⟨p_b5, w_10, eP, eW, x_b5, hn, kb_b5⟩ := newBox w_9 #[.bool false, .slice none 0 0, .bool false, .slice none 0 0] 26 hb.size
  have ne_b1_b5 : Hid (p_b1 ≠ p_b5) := Nat.ne_of_lt (eP ▸ lt_b1)
  have ne_b2_b5 : Hid (p_b2 ≠ p_b5) := Nat.ne_of_lt (eP ▸ lt_b2)
  have ne_b3_b5 : Hid (p_b3 ≠ p_b5) := Nat.ne_of_lt (eP ▸ lt_b3)
  have ne_b4_b5 : Hid (p_b4 ≠ p_b5) := Nat.ne_of_lt (eP ▸ lt_b4)
  rw [eW, eP]
  clear eW eP lt_b1 lt_b2 lt_b3 lt_b4
  replace ha1 := ha1.bl hn; replace ha2 := ha2.bl hn; replace hq1 := hq1.bl hn; replace hq2 := hq2.bl hn; replace x_b1 := x_b1.bl hn; replace x_b2 := x_b2.bl hn; replace x_b3 := x_b3.bl hn; replace x_b4 := x_b4.bl hn; replace hb := hb.trans (hn.mono hb.size)
  refine hK _ _ rfl ?_; clear hK K hn
  refine wpSq_call rfl (by kernel_rfl) fun K hK => ?_
  obtain ⟨d0, d1, d2, d3⟩ := x_b5.f4
  have f0 := x_b5.free 0; have f1 := x_b5.free 1; have f2 := x_b5.free 2; have f3 := x_b5.free 3
  go_big_op
  have hnd := x_b5.nod rfl rfl
  obtain ⟨w_11, eW, x_b5', ho⟩ : ∃ w', ((((w_10.setCell ⟨p_b5, 0, none⟩ (.bool false)).setCell ⟨p_b5, 1, none⟩ (.slice none 0 0)).setCell ⟨p_b5, 2, none⟩ (.bool false)).setCell ⟨p_b5, 3, none⟩ (.slice none 0 0)) = w' ∧ Bs w' p_b5 #[.bool false, .slice none 0 0, .bool false, .slice none 0 0] 26 ∧ Only p_b5 w_10 w' := x_b5.setN [(0, .bool false), (1, .slice none 0 0), (2, .bool false), (3, .slice none 0 0)]
  rw [eW]; clear eW d0 d1 d2 d3 f0 f1 f2 f3 x_b5
  have x_b5 := x_b5'; clear x_b5'
  replace ha1 := ha1.fr hnd ho; replace ha2 := ha2.fr hnd ho; replace hq1 := hq1.fr hnd ho; replace hq2 := hq2.fr hnd ho; replace x_b1 := x_b1.frame ho ne_b1_b5; replace x_b2 := x_b2.frame ho ne_b2_b5; replace x_b3 := x_b3.frame ho ne_b3_b5; replace x_b4 := x_b4.frame ho ne_b4_b5; replace hb := belowOnly hb ho kb_b5
  refine hK _ _ rfl ?_; clear hK K ho hnd
  refine wpSq_call rfl (by kernel_rfl) fun K hK => ?_
  go_big_move; refine hK _ _ rfl ?_; clear hK K
  apply wpSq_end
  refine hK4 _ _ ?_
  refine wp_seq_k ?_
  intro K5 hK5
  refine wp_region_sq [0, 1, 2, 3, 4, 5, 6, 7, 8] (by kernel_rfl) ?_
  refine wpSq_call rfl (by kernel_rfl) fun K hK => ?_
  obtain ⟨d0, d1, d2, d3⟩ := x_b1.f4
  go_big_op; refine hK _ _ rfl ?_; clear hK K d0 d1 d2 d3
  refine wpSq_call rfl (by kernel_rfl) fun K hK => ?_
  obtain ⟨d0, d1, d2, d3⟩ := x_b2.f4
  go_big_op; refine hK _ _ rfl ?_; clear hK K d0 d1 d2 d3
  refine wpSq_call rfl (by kernel_rfl) fun K hK => ?_
  go_big_op
  go_fit (fQuo_bad (PN.mk' ha1 ha2) (PN.mk' hq1 hq2) (by omega) (by omega) (by omega) (by omega) H.out)
  rintro e w_12 ⟨rfl, hb_12⟩
  replace ha1 := ha1.bl hb_12; replace ha2 := ha2.bl hb_12; replace hq1 := hq1.bl hb_12; replace hq2 := hq2.bl hb_12; replace x_b1 := x_b1.bl hb_12; replace x_b2 := x_b2.bl hb_12; replace x_b3 := x_b3.bl hb_12; replace x_b4 := x_b4.bl hb_12; replace x_b5 := x_b5.bl hb_12; replace hb := hb.trans (hb_12.mono hb.size)
  refine hK _ _ rfl ?_
  clear hK K hb_12
  refine wpSq_call rfl (by kernel_rfl) fun K hK => ?_
  go_big_move; refine hK _ _ rfl ?_; clear hK K
  refine wpSq_call rfl (by kernel_rfl) fun K hK => ?_
  go_big_op; refine hK _ _ rfl ?_; clear hK K
  refine wpSq_call rfl (by kernel_rfl) fun K hK => ?_
  go_big_op; refine hK _ _ rfl ?_; clear hK K
  refine wpSq_call rfl (by kernel_rfl) fun K hK => ?_
  go_big_op
  have lt_b1 := x_b1.lt
  have lt_b2 := x_b2.lt
  have lt_b3 := x_b3.lt
  have lt_b4 := x_b4.lt
  have lt_b5 := x_b5.lt
  obtain ⟨p_b6, w_13, eP, eW, x_b6, hn, kb_b6⟩ := newBox w_12 #[.bool false, .slice none 0 0, .bool false, .slice none 0 0] 26 hb.size
  have ne_b1_b6 : Hid (p_b1 ≠ p_b6) := Nat.ne_of_lt (eP ▸ lt_b1)
  have ne_b2_b6 : Hid (p_b2 ≠ p_b6) := Nat.ne_of_lt (eP ▸ lt_b2)
  have ne_b3_b6 : Hid (p_b3 ≠ p_b6) := Nat.ne_of_lt (eP ▸ lt_b3)
  have ne_b4_b6 : Hid (p_b4 ≠ p_b6) := Nat.ne_of_lt (eP ▸ lt_b4)
  have ne_b5_b6 : Hid (p_b5 ≠ p_b6) := Nat.ne_of_lt (eP ▸ lt_b5)
  rw [eW, eP]
  clear eW eP lt_b1 lt_b2 lt_b3 lt_b4 lt_b5
  replace ha1 := ha1.bl hn; replace ha2 := ha2.bl hn; replace hq1 := hq1.bl hn; replace hq2 := hq2.bl hn; replace x_b1 := x_b1.bl hn; replace x_b2 := x_b2.bl hn; replace x_b3 := x_b3.bl hn; replace x_b4 := x_b4.bl hn; replace x_b5 := x_b5.bl hn; replace hb := hb.trans (hn.mono hb.size)
  refine hK _ _ rfl ?_; clear hK K hn
  refine wpSq_call rfl (by kernel_rfl) fun K hK => ?_
  obtain ⟨d0, d1, d2, d3⟩ := x_b6.f4
  have f0 := x_b6.free 0; have f1 := x_b6.free 1; have f2 := x_b6.free 2; have f3 := x_b6.free 3
  go_big_op
  have hnd := x_b6.nod rfl rfl
  obtain ⟨w_14, eW, x_b6', ho⟩ : ∃ w', ((((w_13.setCell ⟨p_b6, 0, none⟩ (.bool false)).setCell ⟨p_b6, 1, none⟩ (.slice none 0 0)).setCell ⟨p_b6, 2, none⟩ (.bool false)).setCell ⟨p_b6, 3, none⟩ (.slice none 0 0)) = w' ∧ Bs w' p_b6 #[.bool false, .slice none 0 0, .bool false, .slice none 0 0] 26 ∧ Only p_b6 w_13 w' := x_b6.setN [(0, .bool false), (1, .slice none 0 0), (2, .bool false), (3, .slice none 0 0)]
  rw [eW]; clear eW d0 d1 d2 d3 f0 f1 f2 f3 x_b6
  have x_b6 := x_b6'; clear x_b6'
  replace ha1 := ha1.fr hnd ho; replace ha2 := ha2.fr hnd ho; replace hq1 := hq1.fr hnd ho; replace hq2 := hq2.fr hnd ho; replace x_b1 := x_b1.frame ho ne_b1_b6; replace x_b2 := x_b2.frame ho ne_b2_b6; replace x_b3 := x_b3.frame ho ne_b3_b6; replace x_b4 := x_b4.frame ho ne_b4_b6; replace x_b5 := x_b5.frame ho ne_b5_b6; replace hb := belowOnly hb ho kb_b6
  refine hK _ _ rfl ?_; clear hK K ho hnd
  refine wpSq_call rfl (by kernel_rfl) fun K hK => ?_
  go_big_move; refine hK _ _ rfl ?_; clear hK K
  apply wpSq_end
  refine hK5 _ _ ?_
  refine wp_seq_k ?_
  intro K6 hK6
  refine wp_region_sq [0, 1, 2, 3, 4, 5, 6, 7] (by kernel_rfl) ?_
  refine wpSq_call rfl (by kernel_rfl) fun K hK => ?_
  obtain ⟨d0, d1, d2, d3⟩ := x_b1.f4
  go_big_op; refine hK _ _ rfl ?_; clear hK K d0 d1 d2 d3
  refine wpSq_call rfl (by kernel_rfl) fun K hK => ?_
  obtain ⟨d0, d1, d2, d3⟩ := x_b2.f4
  go_big_op; refine hK _ _ rfl ?_; clear hK K d0 d1 d2 d3
  refine wpSq_call rfl (by kernel_rfl) fun K hK => ?_
  go_big_op
  go_fit (fCmp_bad (PN.mk' ha1 ha2) (PN.mk' hq1 hq2) (by omega) (by omega) (by omega) (by omega) H.out)
  rintro e w_15 ⟨rfl, hb_15⟩
  replace ha1 := ha1.bl hb_15; replace ha2 := ha2.bl hb_15; replace hq1 := hq1.bl hb_15; replace hq2 := hq2.bl hb_15; replace x_b1 := x_b1.bl hb_15; replace x_b2 := x_b2.bl hb_15; replace x_b3 := x_b3.bl hb_15; replace x_b4 := x_b4.bl hb_15; replace x_b5 := x_b5.bl hb_15; replace x_b6 := x_b6.bl hb_15; replace hb := hb.trans (hb_15.mono hb.size)
  refine hK _ _ rfl ?_
  clear hK K hb_15
  refine wpSq_call rfl (by kernel_rfl) fun K hK => ?_
  go_big_move; refine hK _ _ rfl ?_; clear hK K
  refine wpSq_call rfl (by kernel_rfl) fun K hK => ?_
  go_big_op; refine hK _ _ rfl ?_; clear hK K
  refine wpSq_call rfl (by kernel_rfl) fun K hK => ?_
  go_big_op; refine hK _ _ rfl ?_; clear hK K
  refine wpSq_call rfl (by kernel_rfl) fun K hK => ?_
  go_big_move; refine hK _ _ rfl ?_; clear hK K
  refine wpSq_call rfl (by kernel_rfl) fun K hK => ?_
  go_big_move; refine hK _ _ rfl ?_; clear hK K
  apply wpSq_end
  refine hK6 _ _ ?_
  refine wp_seq_k ?_
  intro K7 hK7
  refine wp_seq_k ?_
  intro K8 hK8
  refine wp_region_sq [0, 1] (by kernel_rfl) ?_
  refine wpSq_call rfl (by kernel_rfl) fun K hK => ?_
  go_big_op
  go_fit (fawake_any _ (htabs _ hb))
  rintro e w_16 ⟨rfl, hb_16⟩
  replace ha1 := ha1.bl hb_16; replace ha2 := ha2.bl hb_16; replace hq1 := hq1.bl hb_16; replace hq2 := hq2.bl hb_16; replace x_b1 := x_b1.bl hb_16; replace x_b2 := x_b2.bl hb_16; replace x_b3 := x_b3.bl hb_16; replace x_b4 := x_b4.bl hb_16; replace x_b5 := x_b5.bl hb_16; replace x_b6 := x_b6.bl hb_16; replace hb := hb.trans (hb_16.mono hb.size)
  refine hK _ _ rfl ?_
  clear hK K hb_16
  refine wpSq_call rfl (by kernel_rfl) fun K hK => ?_
  go_big_op; refine hK _ _ rfl ?_; clear hK K
  apply wpSq_end
  refine hK8 _ _ ?_
  refine wp_cond_false (congrArg Value.bool (show _ = false from (by first | rfl | assumption | (simp; done) | omega))) ?_
  refine wp_skip ?_
  refine hK7 _ _ ?_
  refine wp_seq_k ?_
  intro K9 hK9
  refine wp_seq_k ?_
  intro K10 hK10
  refine wp_region_sq [0, 1, 2, 3, 4, 5] (by kernel_rfl) ?_
  refine wpSq_call rfl (by kernel_rfl) fun K hK => ?_
  obtain ⟨d0, d1, d2, d3⟩ := x_b1.f4
  go_big_op; refine hK _ _ rfl ?_; clear hK K d0 d1 d2 d3
  refine wpSq_call rfl (by kernel_rfl) fun K hK => ?_
  go_big_op
  go_fit (rbad_no (PN.mk' ha1 ha2) (by omega) (by omega) HY.out)
  rintro e w_17 ⟨rfl, hb_17⟩
  replace ha1 := ha1.bl hb_17; replace ha2 := ha2.bl hb_17; replace hq1 := hq1.bl hb_17; replace hq2 := hq2.bl hb_17; replace x_b1 := x_b1.bl hb_17; replace x_b2 := x_b2.bl hb_17; replace x_b3 := x_b3.bl hb_17; replace x_b4 := x_b4.bl hb_17; replace x_b5 := x_b5.bl hb_17; replace x_b6 := x_b6.bl hb_17; replace hb := hb.trans (hb_17.mono hb.size)
  refine hK _ _ rfl ?_
  clear hK K hb_17
  refine wpSq_call rfl (by kernel_rfl) fun K hK => ?_
  go_big_move; refine hK _ _ rfl ?_; clear hK K
  refine wpSq_call rfl (by kernel_rfl) fun K hK => ?_
  obtain ⟨d0, d1, d2, d3⟩ := x_b2.f4
  go_big_op; refine hK _ _ rfl ?_; clear hK K d0 d1 d2 d3
  refine wpSq_call rfl (by kernel_rfl) fun K hK => ?_
  go_big_op
  go_fit (rbad_yes (PN.mk' hq1 hq2) (by omega) (by omega) )
  rintro e w_18 ⟨rfl, hb_18⟩
  replace ha1 := ha1.bl hb_18; replace ha2 := ha2.bl hb_18; replace hq1 := hq1.bl hb_18; replace hq2 := hq2.bl hb_18; replace x_b1 := x_b1.bl hb_18; replace x_b2 := x_b2.bl hb_18; replace x_b3 := x_b3.bl hb_18; replace x_b4 := x_b4.bl hb_18; replace x_b5 := x_b5.bl hb_18; replace x_b6 := x_b6.bl hb_18; replace hb := hb.trans (hb_18.mono hb.size)
  refine hK _ _ rfl ?_
  clear hK K hb_18
  refine wpSq_call rfl (by kernel_rfl) fun K hK => ?_
  go_big_op; refine hK _ _ rfl ?_; clear hK K
  apply wpSq_end
  refine hK10 _ _ ?_
  refine wp_cond_true (congrArg Value.bool (show _ = true from (by first | rfl | assumption | (simp; done) | omega))) ?_
  refine wp_seq_k ?_
  intro K11 hK11
  refine wp_region_sq [0, 1, 2, 3, 4, 5, 6, 7, 8, 9, 10, 11, 12, 13, 14, 15, 16, 17, 18, 19, 20, 21, 22, 23, 24, 25, 26, 27, 28, 29, 30] (by kernel_rfl) ?_
  refine wpSq_call rfl (by kernel_rfl) fun K hK => ?_
  obtain ⟨d0, d1, d2, d3⟩ := x_b3.f4
  go_big_op; refine hK _ _ rfl ?_; clear hK K d0 d1 d2 d3
  refine wpSq_call rfl (by kernel_rfl) fun K hK => ?_
  go_big_move; refine hK _ _ rfl ?_; clear hK K
  refine wpSq_call rfl (by kernel_rfl) fun K hK => ?_
  obtain ⟨d0, d1, d2, d3⟩ := x_b3.f4
  go_big_op; refine hK _ _ rfl ?_; clear hK K d0 d1 d2 d3
  refine wpSq_call rfl (by kernel_rfl) fun K hK => ?_
  go_big_op
  go_fit (ftold_err 5 (.mk' (zc_zero w_18) (zc_zero w_18)) (by decide))
  rintro e w_19 ⟨rfl, hb_19⟩
  replace ha1 := ha1.bl hb_19; replace ha2 := ha2.bl hb_19; replace hq1 := hq1.bl hb_19; replace hq2 := hq2.bl hb_19; replace x_b1 := x_b1.bl hb_19; replace x_b2 := x_b2.bl hb_19; replace x_b3 := x_b3.bl hb_19; replace x_b4 := x_b4.bl hb_19; replace x_b5 := x_b5.bl hb_19; replace x_b6 := x_b6.bl hb_19; replace hb := hb.trans (hb_19.mono hb.size)
  refine hK _ _ rfl ?_
  clear hK K hb_19
  refine wpSq_call rfl (by kernel_rfl) fun K hK => ?_
  go_big_move; refine hK _ _ rfl ?_; clear hK K
  refine wpSq_call rfl (by kernel_rfl) fun K hK => ?_
  obtain ⟨d0, d1, d2, d3⟩ := x_b4.f4
  go_big_op; refine hK _ _ rfl ?_; clear hK K d0 d1 d2 d3
  refine wpSq_call rfl (by kernel_rfl) fun K hK => ?_
  go_big_move; refine hK _ _ rfl ?_; clear hK K
  refine wpSq_call rfl (by kernel_rfl) fun K hK => ?_
  obtain ⟨d0, d1, d2, d3⟩ := x_b4.f4
  go_big_op; refine hK _ _ rfl ?_; clear hK K d0 d1 d2 d3
  refine wpSq_call rfl (by kernel_rfl) fun K hK => ?_
  go_big_op
  go_fit (ftold_err 5 (.mk' (zc_zero w_19) (zc_zero w_19)) (by decide))
  rintro e w_20 ⟨rfl, hb_20⟩
  replace ha1 := ha1.bl hb_20; replace ha2 := ha2.bl hb_20; replace hq1 := hq1.bl hb_20; replace hq2 := hq2.bl hb_20; replace x_b1 := x_b1.bl hb_20; replace x_b2 := x_b2.bl hb_20; replace x_b3 := x_b3.bl hb_20; replace x_b4 := x_b4.bl hb_20; replace x_b5 := x_b5.bl hb_20; replace x_b6 := x_b6.bl hb_20; replace hb := hb.trans (hb_20.mono hb.size)
  refine hK _ _ rfl ?_
  clear hK K hb_20
  refine wpSq_call rfl (by kernel_rfl) fun K hK => ?_
  go_big_op; refine hK _ _ rfl ?_; clear hK K
  refine wpSq_call rfl (by kernel_rfl) fun K hK => ?_
  go_big_move; refine hK _ _ rfl ?_; clear hK K
  refine wpSq_call rfl (by kernel_rfl) fun K hK => ?_
  obtain ⟨d0, d1, d2, d3⟩ := x_b5.f4
  go_big_op; refine hK _ _ rfl ?_; clear hK K d0 d1 d2 d3
  refine wpSq_call rfl (by kernel_rfl) fun K hK => ?_
  go_big_move; refine hK _ _ rfl ?_; clear hK K
  refine wpSq_call rfl (by kernel_rfl) fun K hK => ?_
  obtain ⟨d0, d1, d2, d3⟩ := x_b5.f4
  go_big_op; refine hK _ _ rfl ?_; clear hK K d0 d1 d2 d3
  refine wpSq_call rfl (by kernel_rfl) fun K hK => ?_
  go_big_op
  go_fit (ftold_err 5 (.mk' (zc_zero w_20) (zc_zero w_20)) (by decide))
  rintro e w_21 ⟨rfl, hb_21⟩
  replace ha1 := ha1.bl hb_21; replace ha2 := ha2.bl hb_21; replace hq1 := hq1.bl hb_21; replace hq2 := hq2.bl hb_21; replace x_b1 := x_b1.bl hb_21; replace x_b2 := x_b2.bl hb_21; replace x_b3 := x_b3.bl hb_21; replace x_b4 := x_b4.bl hb_21; replace x_b5 := x_b5.bl hb_21; replace x_b6 := x_b6.bl hb_21; replace hb := hb.trans (hb_21.mono hb.size)
  refine hK _ _ rfl ?_
  clear hK K hb_21
  refine wpSq_call rfl (by kernel_rfl) fun K hK => ?_
  go_big_op; refine hK _ _ rfl ?_; clear hK K
  refine wpSq_call rfl (by kernel_rfl) fun K hK => ?_
  go_big_move; refine hK _ _ rfl ?_; clear hK K
  refine wpSq_call rfl (by kernel_rfl) fun K hK => ?_
  obtain ⟨d0, d1, d2, d3⟩ := x_b6.f4
  go_big_op; refine hK _ _ rfl ?_; clear hK K d0 d1 d2 d3
  refine wpSq_call rfl (by kernel_rfl) fun K hK => ?_
  go_big_move; refine hK _ _ rfl ?_; clear hK K
  refine wpSq_call rfl (by kernel_rfl) fun K hK => ?_
  obtain ⟨d0, d1, d2, d3⟩ := x_b6.f4
  go_big_op; refine hK _ _ rfl ?_; clear hK K d0 d1 d2 d3
  refine wpSq_call rfl (by kernel_rfl) fun K hK => ?_
  go_big_op
  go_fit (ftold_err 5 (.mk' (zc_zero w_21) (zc_zero w_21)) (by decide))
  rintro e w_22 ⟨rfl, hb_22⟩
  replace ha1 := ha1.bl hb_22; replace ha2 := ha2.bl hb_22; replace hq1 := hq1.bl hb_22; replace hq2 := hq2.bl hb_22; replace x_b1 := x_b1.bl hb_22; replace x_b2 := x_b2.bl hb_22; replace x_b3 := x_b3.bl hb_22; replace x_b4 := x_b4.bl hb_22; replace x_b5 := x_b5.bl hb_22; replace x_b6 := x_b6.bl hb_22; replace hb := hb.trans (hb_22.mono hb.size)
  refine hK _ _ rfl ?_
  clear hK K hb_22
  refine wpSq_call rfl (by kernel_rfl) fun K hK => ?_
  go_big_op; refine hK _ _ rfl ?_; clear hK K
  refine wpSq_call rfl (by kernel_rfl) fun K hK => ?_
  go_big_move; refine hK _ _ rfl ?_; clear hK K
  refine wpSq_call rfl (by kernel_rfl) fun K hK => ?_
  go_big_move; refine hK _ _ rfl ?_; clear hK K
  refine wpSq_call rfl (by kernel_rfl) fun K hK => ?_
  go_big_op; refine hK _ _ rfl ?_; clear hK K
  refine wpSq_call rfl (by kernel_rfl) fun K hK => ?_
  go_big_op; refine hK _ _ rfl ?_; clear hK K
  refine wpSq_call rfl (by kernel_rfl) fun K hK => ?_
  go_big_move; refine hK _ _ rfl ?_; clear hK K
  refine wpSq_call rfl (by kernel_rfl) fun K hK => ?_
  go_big_move; refine hK _ _ rfl ?_; clear hK K
  refine wpSq_call rfl (by kernel_rfl) fun K hK => ?_
  go_big_op; refine hK _ _ rfl ?_; clear hK K
  refine wpSq_call rfl (by kernel_rfl) fun K hK => ?_
  go_big_op; refine hK _ _ rfl ?_; clear hK K
  refine wpSq_call rfl (by kernel_rfl) fun K hK => ?_
  go_big_move; refine hK _ _ rfl ?_; clear hK K
  apply wpSq_end
  refine hK11 _ _ ?_
  refine wp_ret ?_
  try dsimp only [Exit.then, Exit.inBlock]
  refine bodyPost_ret (v := (.bool true)) (by simp [results, Tryz.results5, go_sem]) rfl ?_
  exact ⟨rfl, hb⟩
set_option maxHeartbeats 8000000 in
set_option maxRecDepth 20000 in
theorem sums_zero (ha : PN w va x l y m) (hq : PN w vb 0 k v n) (hl : l ≤ 1048576) (hm : m ≤ 1048576) (hk : k ≤ 1048576) (hn : n ≤ 1048576) (hy : y ≠ 0) (hv : v ≠ 0) (htab : Lib.TabIs Tryz.prog w p10 .u64 Lib.pow10Tab) :
    Calls Tryz.prog 5 #[va, vb] w fun e w' => e = .returned (.bool true) ∧ Below w.heap.size w w' := by
  have htabs := Lib.tabBelow_of_tabIs htab
  have HY := hide hy
  have HV := hide hv
  have H0 := hide (Int.mul_ne_zero hy hv)
  have HQ := hide (show (0 : Int) * y = 0 from Int.zero_mul y)
  obtain ⟨C, hC⟩ : ∃ C, qcmp x y 0 v = C := ⟨_, rfl⟩
  have HC := hide hC
  clear hy hv hC
  obtain ⟨n_0a, o_0a, k_0a, c_0a, n_0b, o_0b, k_0b, c_0b, rfl, ha1, ha2⟩ := ha
  obtain ⟨n_1a, o_1a, k_1a, c_1a, n_1b, o_1b, k_1b, c_1b, rfl, hq1, hq2⟩ := hq
  go_enter Tryz.func5, Tryz.ntmps5
  have hb := Below.refl w.heap.size w
  refine wp_seq_k ?_
  intro K1 hK1
  refine wp_region_sq [0, 1, 2] (by kernel_rfl) ?_
  refine wpSq_call rfl (by kernel_rfl) fun K hK => ?_
  go_big_op
  obtain ⟨p_b1, w_1, eP, eW, x_b1, hn, kb_b1⟩ := newBox w #[.bool n_0a, .slice o_0a k_0a c_0a, .bool n_0b, .slice o_0b k_0b c_0b] 26 hb.size
  rw [eW, eP]
  clear eW eP
  replace ha1 := ha1.bl hn; replace ha2 := ha2.bl hn; replace hq1 := hq1.bl hn; replace hq2 := hq2.bl hn; replace hb := hb.trans (hn.mono hb.size)
  refine hK _ _ rfl ?_; clear hK K hn
  refine wpSq_call rfl (by kernel_rfl) fun K hK => ?_
  go_big_op
  have lt_b1 := x_b1.lt
  obtain ⟨p_b2, w_2, eP, eW, x_b2, hn, kb_b2⟩ := newBox w_1 #[.bool n_1a, .slice o_1a k_1a c_1a, .bool n_1b, .slice o_1b k_1b c_1b] 26 hb.size
  have ne_b1_b2 : Hid (p_b1 ≠ p_b2) := Nat.ne_of_lt (eP ▸ lt_b1)
  rw [eW, eP]
  clear eW eP lt_b1
  replace ha1 := ha1.bl hn; replace ha2 := ha2.bl hn; replace hq1 := hq1.bl hn; replace hq2 := hq2.bl hn; replace x_b1 := x_b1.bl hn; replace hb := hb.trans (hn.mono hb.size)
  refine hK _ _ rfl ?_; clear hK K hn
  refine wpSq_call rfl (by kernel_rfl) fun K hK => ?_
  go_big_move; refine hK _ _ rfl ?_; clear hK K
  apply wpSq_end
  refine hK1 _ _ ?_
  refine wp_seq_k ?_
  intro K2 hK2
  refine wp_region_sq [0, 1, 2, 3, 4, 5, 6, 7, 8] (by kernel_rfl) ?_
  refine wpSq_call rfl (by kernel_rfl) fun K hK => ?_
  obtain ⟨d0, d1, d2, d3⟩ := x_b1.f4
  go_big_op; refine hK _ _ rfl ?_; clear hK K d0 d1 d2 d3
  refine wpSq_call rfl (by kernel_rfl) fun K hK => ?_
  obtain ⟨d0, d1, d2, d3⟩ := x_b2.f4
  go_big_op; refine hK _ _ rfl ?_; clear hK K d0 d1 d2 d3
  refine wpSq_call rfl (by kernel_rfl) fun K hK => ?_
  go_big_op
  go_fit (fAdd_any (PN.mk' ha1 ha2) (PN.mk' hq1 hq2) (by omega) (by omega) (by omega) (by omega) H0.out)
  rintro e w_3 ⟨_, rfl, ⟨n_g1a, o_g1a, k_g1a, c_g1a, n_g1b, o_g1b, k_g1b, c_g1b, rfl, g11, g12⟩, hb_3⟩
  replace ha1 := ha1.bl hb_3; replace ha2 := ha2.bl hb_3; replace hq1 := hq1.bl hb_3; replace hq2 := hq2.bl hb_3; replace x_b1 := x_b1.bl hb_3; replace x_b2 := x_b2.bl hb_3; replace hb := hb.trans (hb_3.mono hb.size)
  have Lg11 := hide (g11.lenOf (qN_len (H0.out) (zlen_opAdd (zlen_mul (ha1.len) (hq2.len)) (zlen_mul (hq1.len) (ha2.len)))))
  have Lg12 := hide (g12.lenOf (qD_len (H0.out) (zlen_mul (ha2.len) (hq2.len))))
  refine hK _ _ rfl ?_
  clear hK K hb_3
  refine wpSq_call rfl (by kernel_rfl) fun K hK => ?_
  go_big_move; refine hK _ _ rfl ?_; clear hK K
  refine wpSq_call rfl (by kernel_rfl) fun K hK => ?_
  go_big_op; refine hK _ _ rfl ?_; clear hK K
  refine wpSq_call rfl (by kernel_rfl) fun K hK => ?_
  go_big_op; refine hK _ _ rfl ?_; clear hK K
  refine wpSq_call rfl (by kernel_rfl) fun K hK => ?_
  go_big_op
  have lt_b1 := x_b1.lt
  have lt_b2 := x_b2.lt
  obtain ⟨p_b3, w_4, eP, eW, x_b3, hn, kb_b3⟩ := newBox w_3 #[.bool false, .slice none 0 0, .bool false, .slice none 0 0] 26 hb.size
  have ne_b1_b3 : Hid (p_b1 ≠ p_b3) := Nat.ne_of_lt (eP ▸ lt_b1)
  have ne_b2_b3 : Hid (p_b2 ≠ p_b3) := Nat.ne_of_lt (eP ▸ lt_b2)
  rw [eW, eP]
  clear eW eP lt_b1 lt_b2
  replace ha1 := ha1.bl hn; replace ha2 := ha2.bl hn; replace hq1 := hq1.bl hn; replace hq2 := hq2.bl hn; replace x_b1 := x_b1.bl hn; replace x_b2 := x_b2.bl hn; replace g11 := g11.bl hn; replace g12 := g12.bl hn; replace hb := hb.trans (hn.mono hb.size)
  refine hK _ _ rfl ?_; clear hK K hn
  refine wpSq_call rfl (by kernel_rfl) fun K hK => ?_
  obtain ⟨d0, d1, d2, d3⟩ := x_b3.f4
  have f0 := x_b3.free 0; have f1 := x_b3.free 1; have f2 := x_b3.free 2; have f3 := x_b3.free 3
  go_big_op
  have hnd := x_b3.nod rfl rfl
  obtain ⟨w_5, eW, x_b3', ho⟩ : ∃ w', ((((w_4.setCell ⟨p_b3, 0, none⟩ (.bool n_g1a)).setCell ⟨p_b3, 1, none⟩ (.slice o_g1a k_g1a c_g1a)).setCell ⟨p_b3, 2, none⟩ (.bool n_g1b)).setCell ⟨p_b3, 3, none⟩ (.slice o_g1b k_g1b c_g1b)) = w' ∧ Bs w' p_b3 #[.bool n_g1a, .slice o_g1a k_g1a c_g1a, .bool n_g1b, .slice o_g1b k_g1b c_g1b] 26 ∧ Only p_b3 w_4 w' := x_b3.setN [(0, .bool n_g1a), (1, .slice o_g1a k_g1a c_g1a), (2, .bool n_g1b), (3, .slice o_g1b k_g1b c_g1b)]
  rw [eW]; clear eW d0 d1 d2 d3 f0 f1 f2 f3 x_b3
  have x_b3 := x_b3'; clear x_b3'
  replace ha1 := ha1.fr hnd ho; replace ha2 := ha2.fr hnd ho; replace hq1 := hq1.fr hnd ho; replace hq2 := hq2.fr hnd ho; replace x_b1 := x_b1.frame ho ne_b1_b3; replace x_b2 := x_b2.frame ho ne_b2_b3; replace g11 := g11.fr hnd ho; replace g12 := g12.fr hnd ho; replace hb := belowOnly hb ho kb_b3
  refine hK _ _ rfl ?_; clear hK K ho hnd
  refine wpSq_call rfl (by kernel_rfl) fun K hK => ?_
  go_big_move; refine hK _ _ rfl ?_; clear hK K
  apply wpSq_end
  refine hK2 _ _ ?_
  refine wp_seq_k ?_
  intro K3 hK3
  refine wp_region_sq [0, 1, 2, 3, 4, 5, 6, 7, 8] (by kernel_rfl) ?_
  refine wpSq_call rfl (by kernel_rfl) fun K hK => ?_
  obtain ⟨d0, d1, d2, d3⟩ := x_b1.f4
  go_big_op; refine hK _ _ rfl ?_; clear hK K d0 d1 d2 d3
  refine wpSq_call rfl (by kernel_rfl) fun K hK => ?_
  obtain ⟨d0, d1, d2, d3⟩ := x_b2.f4
  go_big_op; refine hK _ _ rfl ?_; clear hK K d0 d1 d2 d3
  refine wpSq_call rfl (by kernel_rfl) fun K hK => ?_
  go_big_op
  go_fit (fSub_any (PN.mk' ha1 ha2) (PN.mk' hq1 hq2) (by omega) (by omega) (by omega) (by omega) H0.out)
  rintro e w_6 ⟨_, rfl, ⟨n_g2a, o_g2a, k_g2a, c_g2a, n_g2b, o_g2b, k_g2b, c_g2b, rfl, g21, g22⟩, hb_6⟩
  replace ha1 := ha1.bl hb_6; replace ha2 := ha2.bl hb_6; replace hq1 := hq1.bl hb_6; replace hq2 := hq2.bl hb_6; replace x_b1 := x_b1.bl hb_6; replace x_b2 := x_b2.bl hb_6; replace g11 := g11.bl hb_6; replace g12 := g12.bl hb_6; replace x_b3 := x_b3.bl hb_6; replace hb := hb.trans (hb_6.mono hb.size)
  have Lg21 := hide (g21.lenOf (qN_len (H0.out) (zlen_opSub (zlen_mul (ha1.len) (hq2.len)) (zlen_mul (hq1.len) (ha2.len)))))
  have Lg22 := hide (g22.lenOf (qD_len (H0.out) (zlen_mul (ha2.len) (hq2.len))))
  refine hK _ _ rfl ?_
  clear hK K hb_6
  refine wpSq_call rfl (by kernel_rfl) fun K hK => ?_
  go_big_move; refine hK _ _ rfl ?_; clear hK K
  refine wpSq_call rfl (by kernel_rfl) fun K hK => ?_
  go_big_op; refine hK _ _ rfl ?_; clear hK K
  refine wpSq_call rfl (by kernel_rfl) fun K hK => ?_
  go_big_op; refine hK _ _ rfl ?_; clear hK K
  refine wpSq_call rfl (by kernel_rfl) fun K hK => ?_
  go_big_op
  have lt_b1 := x_b1.lt
  have lt_b2 := x_b2.lt
  have lt_b3 := x_b3.lt
  obtain ⟨p_b4, w_7, eP, eW, x_b4, hn, kb_b4⟩ := newBox w_6 #[.bool false, .slice none 0 0, .bool false, .slice none 0 0] 26 hb.size
  have ne_b1_b4 : Hid (p_b1 ≠ p_b4) := Nat.ne_of_lt (eP ▸ lt_b1)
  have ne_b2_b4 : Hid (p_b2 ≠ p_b4) := Nat.ne_of_lt (eP ▸ lt_b2)
  have ne_b3_b4 : Hid (p_b3 ≠ p_b4) := Nat.ne_of_lt (eP ▸ lt_b3)
  rw [eW, eP]
  clear eW eP lt_b1 lt_b2 lt_b3
  replace ha1 := ha1.bl hn; replace ha2 := ha2.bl hn; replace hq1 := hq1.bl hn; replace hq2 := hq2.bl hn; replace x_b1 := x_b1.bl hn; replace x_b2 := x_b2.bl hn; replace g11 := g11.bl hn; replace g12 := g12.bl hn; replace x_b3 := x_b3.bl hn; replace g21 := g21.bl hn; replace g22 := g22.bl hn; replace hb := hb.trans (hn.mono hb.size)
  refine hK _ _ rfl ?_; clear hK K hn
  refine wpSq_call rfl (by kernel_rfl) fun K hK => ?_
  obtain ⟨d0, d1, d2, d3⟩ := x_b4.f4
  have f0 := x_b4.free 0; have f1 := x_b4.free 1; have f2 := x_b4.free 2; have f3 := x_b4.free 3
  go_big_op
  have hnd := x_b4.nod rfl rfl
  obtain ⟨w_8, eW, x_b4', ho⟩ : ∃ w', ((((w_7.setCell ⟨p_b4, 0, none⟩ (.bool n_g2a)).setCell ⟨p_b4, 1, none⟩ (.slice o_g2a k_g2a c_g2a)).setCell ⟨p_b4, 2, none⟩ (.bool n_g2b)).setCell ⟨p_b4, 3, none⟩ (.slice o_g2b k_g2b c_g2b)) = w' ∧ Bs w' p_b4 #[.bool n_g2a, .slice o_g2a k_g2a c_g2a, .bool n_g2b, .slice o_g2b k_g2b c_g2b] 26 ∧ Only p_b4 w_7 w' := x_b4.setN [(0, .bool n_g2a), (1, .slice o_g2a k_g2a c_g2a), (2, .bool n_g2b), (3, .slice o_g2b k_g2b c_g2b)]
  rw [eW]; clear eW d0 d1 d2 d3 f0 f1 f2 f3 x_b4
  have x_b4 := x_b4'; clear x_b4'
  replace ha1 := ha1.fr hnd ho; replace ha2 := ha2.fr hnd ho; replace hq1 := hq1.fr hnd ho; replace hq2 := hq2.fr hnd ho; replace x_b1 := x_b1.frame ho ne_b1_b4; replace x_b2 := x_b2.frame ho ne_b2_b4; replace g11 := g11.fr hnd ho; replace g12 := g12.fr hnd ho; replace x_b3 := x_b3.frame ho ne_b3_b4; replace g21 := g21.fr hnd ho; replace g22 := g22.fr hnd ho; replace hb := belowOnly hb ho kb_b4
  refine hK _ _ rfl ?_; clear hK K ho hnd
  refine wpSq_call rfl (by kernel_rfl) fun K hK => ?_
  go_big_move; refine hK _ _ rfl ?_; clear hK K
  apply wpSq_end
  refine hK3 _ _ ?_
  refine wp_seq_k ?_
  intro K4 hK4
  refine wp_region_sq [0, 1, 2, 3, 4, 5, 6, 7, 8] (by kernel_rfl) ?_
  refine wpSq_call rfl (by kernel_rfl) fun K hK => ?_
  obtain ⟨d0, d1, d2, d3⟩ := x_b1.f4
  go_big_op; refine hK _ _ rfl ?_; clear hK K d0 d1 d2 d3
  refine wpSq_call rfl (by kernel_rfl) fun K hK => ?_
  obtain ⟨d0, d1, d2, d3⟩ := x_b2.f4
  go_big_op; refine hK _ _ rfl ?_; clear hK K d0 d1 d2 d3
  refine wpSq_call rfl (by kernel_rfl) fun K hK => ?_
  go_big_op
  go_fit (fMul_any (PN.mk' ha1 ha2) (PN.mk' hq1 hq2) (by omega) (by omega) (by omega) (by omega) H0.out)
  rintro e w_9 ⟨_, rfl, ⟨n_g3a, o_g3a, k_g3a, c_g3a, n_g3b, o_g3b, k_g3b, c_g3b, rfl, g31, g32⟩, hb_9⟩
  replace ha1 := ha1.bl hb_9; replace ha2 := ha2.bl hb_9; replace hq1 := hq1.bl hb_9; replace hq2 := hq2.bl hb_9; replace x_b1 := x_b1.bl hb_9; replace x_b2 := x_b2.bl hb_9; replace g11 := g11.bl hb_9; replace g12 := g12.bl hb_9; replace x_b3 := x_b3.bl hb_9; replace g21 := g21.bl hb_9; replace g22 := g22.bl hb_9; replace x_b4 := x_b4.bl hb_9; replace hb := hb.trans (hb_9.mono hb.size)
  have Lg31 := hide (g31.lenOf (qN_len (H0.out) (zlen_mul (ha1.len) (hq1.len))))
  have Lg32 := hide (g32.lenOf (qD_len (H0.out) (zlen_mul (ha2.len) (hq2.len))))
  refine hK _ _ rfl ?_
  clear hK K hb_9
  refine wpSq_call rfl (by kernel_rfl) fun K hK => ?_
  go_big_move; refine hK _ _ rfl ?_; clear hK K
  refine wpSq_call rfl (by kernel_rfl) fun K hK => ?_
  go_big_op; refine hK _ _ rfl ?_; clear hK K
  refine wpSq_call rfl (by kernel_rfl) fun K hK => ?_
  go_big_op; refine hK _ _ rfl ?_; clear hK K
  refine wpSq_call rfl (by kernel_rfl) fun K hK => ?_
  go_big_op
  have lt_b1 := x_b1.lt
  have lt_b2 := x_b2.lt
  have lt_b3 := x_b3.lt
  have lt_b4 := x_b4.lt
  obtain ⟨p_b5, w_10, eP, eW, x_b5, hn, kb_b5⟩ := newBox w_9 #[.bool false, .slice none 0 0, .bool false, .slice none 0 0] 26 hb.size
  have ne_b1_b5 : Hid (p_b1 ≠ p_b5) := Nat.ne_of_lt (eP ▸ lt_b1)
  have ne_b2_b5 : Hid (p_b2 ≠ p_b5) := Nat.ne_of_lt (eP ▸ lt_b2)
  have ne_b3_b5 : Hid (p_b3 ≠ p_b5) := Nat.ne_of_lt (eP ▸ lt_b3)
  have ne_b4_b5 : Hid (p_b4 ≠ p_b5) := Nat.ne_of_lt (eP ▸ lt_b4)
  rw [eW, eP]
  clear eW eP lt_b1 lt_b2 lt_b3 lt_b4
  replace ha1 := ha1.bl hn; replace ha2 := ha2.bl hn; replace hq1 := hq1.bl hn; replace hq2 := hq2.bl hn; replace x_b1 := x_b1.bl hn; replace x_b2 := x_b2.bl hn; replace g11 := g11.bl hn; replace g12 := g12.bl hn; replace x_b3 := x_b3.bl hn; replace g21 := g21.bl hn; replace g22 := g22.bl hn; replace x_b4 := x_b4.bl hn; replace g31 := g31.bl hn; replace g32 := g32.bl hn; replace hb := hb.trans (hn.mono hb.size)
  refine hK _ _ rfl ?_; clear hK K hn
  refine wpSq_call rfl (by kernel_rfl) fun K hK => ?_
  obtain ⟨d0, d1, d2, d3⟩ := x_b5.f4
  have f0 := x_b5.free 0; have f1 := x_b5.free 1; have f2 := x_b5.free 2; have f3 := x_b5.free 3
  go_big_op
  have hnd := x_b5.nod rfl rfl
  obtain ⟨w_11, eW, x_b5', ho⟩ : ∃ w', ((((w_10.setCell ⟨p_b5, 0, none⟩ (.bool n_g3a)).setCell ⟨p_b5, 1, none⟩ (.slice o_g3a k_g3a c_g3a)).setCell ⟨p_b5, 2, none⟩ (.bool n_g3b)).setCell ⟨p_b5, 3, none⟩ (.slice o_g3b k_g3b c_g3b)) = w' ∧ Bs w' p_b5 #[.bool n_g3a, .slice o_g3a k_g3a c_g3a, .bool n_g3b, .slice o_g3b k_g3b c_g3b] 26 ∧ Only p_b5 w_10 w' := x_b5.setN [(0, .bool n_g3a), (1, .slice o_g3a k_g3a c_g3a), (2, .bool n_g3b), (3, .slice o_g3b k_g3b c_g3b)]
  rw [eW]; clear eW d0 d1 d2 d3 f0 f1 f2 f3 x_b5
  have x_b5 := x_b5'; clear x_b5'
  replace ha1 := ha1.fr hnd ho; replace ha2 := ha2.fr hnd ho; replace hq1 := hq1.fr hnd ho; replace hq2 := hq2.fr hnd ho; replace x_b1 := x_b1.frame ho ne_b1_b5; replace x_b2 := x_b2.frame ho ne_b2_b5; replace g11 := g11.fr hnd ho; replace g12 := g12.fr hnd ho; replace x_b3 := x_b3.frame ho ne_b3_b5; replace g21 := g21.fr hnd ho; replace g22 := g22.fr hnd ho; replace x_b4 := x_b4.frame ho ne_b4_b5; replace g31 := g31.fr hnd ho; replace g32 := g32.fr hnd ho; replace hb := belowOnly hb ho kb_b5
  refine hK _ _ rfl ?_; clear hK K ho hnd
  refine wpSq_call rfl (by kernel_rfl) fun K hK => ?_
  go_big_move; refine hK _ _ rfl ?_; clear hK K
  apply wpSq_end
  refine hK4 _ _ ?_
  refine wp_seq_k ?_
  intro K5 hK5
  refine wp_region_sq [0, 1, 2, 3, 4, 5, 6, 7, 8] (by kernel_rfl) ?_
  refine wpSq_call rfl (by kernel_rfl) fun K hK => ?_
  obtain ⟨d0, d1, d2, d3⟩ := x_b1.f4
  go_big_op; refine hK _ _ rfl ?_; clear hK K d0 d1 d2 d3
  refine wpSq_call rfl (by kernel_rfl) fun K hK => ?_
  obtain ⟨d0, d1, d2, d3⟩ := x_b2.f4
  go_big_op; refine hK _ _ rfl ?_; clear hK K d0 d1 d2 d3
  refine wpSq_call rfl (by kernel_rfl) fun K hK => ?_
  go_big_op
  go_fit (fQuo_zero (PN.mk' ha1 ha2) (PN.mk' hq1 hq2) (by omega) (by omega) (by omega) (by omega) HY.out HV.out)
  rintro e w_12 ⟨rfl, hb_12⟩
  replace ha1 := ha1.bl hb_12; replace ha2 := ha2.bl hb_12; replace hq1 := hq1.bl hb_12; replace hq2 := hq2.bl hb_12; replace x_b1 := x_b1.bl hb_12; replace x_b2 := x_b2.bl hb_12; replace g11 := g11.bl hb_12; replace g12 := g12.bl hb_12; replace x_b3 := x_b3.bl hb_12; replace g21 := g21.bl hb_12; replace g22 := g22.bl hb_12; replace x_b4 := x_b4.bl hb_12; replace g31 := g31.bl hb_12; replace g32 := g32.bl hb_12; replace x_b5 := x_b5.bl hb_12; replace hb := hb.trans (hb_12.mono hb.size)
  refine hK _ _ rfl ?_
  clear hK K hb_12
  refine wpSq_call rfl (by kernel_rfl) fun K hK => ?_
  go_big_move; refine hK _ _ rfl ?_; clear hK K
  refine wpSq_call rfl (by kernel_rfl) fun K hK => ?_
  go_big_op; refine hK _ _ rfl ?_; clear hK K
  refine wpSq_call rfl (by kernel_rfl) fun K hK => ?_
  go_big_op; refine hK _ _ rfl ?_; clear hK K
  refine wpSq_call rfl (by kernel_rfl) fun K hK => ?_
  go_big_op
  have lt_b1 := x_b1.lt
  have lt_b2 := x_b2.lt
  have lt_b3 := x_b3.lt
  have lt_b4 := x_b4.lt
  have lt_b5 := x_b5.lt
  obtain ⟨p_b6, w_13, eP, eW, x_b6, hn, kb_b6⟩ := newBox w_12 #[.bool false, .slice none 0 0, .bool false, .slice none 0 0] 26 hb.size
  have ne_b1_b6 : Hid (p_b1 ≠ p_b6) := Nat.ne_of_lt (eP ▸ lt_b1)
  have ne_b2_b6 : Hid (p_b2 ≠ p_b6) := Nat.ne_of_lt (eP ▸ lt_b2)
  have ne_b3_b6 : Hid (p_b3 ≠ p_b6) := Nat.ne_of_lt (eP ▸ lt_b3)
  have ne_b4_b6 : Hid (p_b4 ≠ p_b6) := Nat.ne_of_lt (eP ▸ lt_b4)
  have ne_b5_b6 : Hid (p_b5 ≠ p_b6) := Nat.ne_of_lt (eP ▸ lt_b5)
  rw [eW, eP]
  clear eW eP lt_b1 lt_b2 lt_b3 lt_b4 lt_b5
  replace ha1 := ha1.bl hn; replace ha2 := ha2.bl hn; replace hq1 := hq1.bl hn; replace hq2 := hq2.bl hn; replace x_b1 := x_b1.bl hn; replace x_b2 := x_b2.bl hn; replace g11 := g11.bl hn; replace g12 := g12.bl hn; replace x_b3 := x_b3.bl hn; replace g21 := g21.bl hn; replace g22 := g22.bl hn; replace x_b4 := x_b4.bl hn; replace g31 := g31.bl hn; replace g32 := g32.bl hn; replace x_b5 := x_b5.bl hn; replace hb := hb.trans (hn.mono hb.size)
  refine hK _ _ rfl ?_; clear hK K hn
  refine wpSq_call rfl (by kernel_rfl) fun K hK => ?_
  obtain ⟨d0, d1, d2, d3⟩ := x_b6.f4
  have f0 := x_b6.free 0; have f1 := x_b6.free 1; have f2 := x_b6.free 2; have f3 := x_b6.free 3
  go_big_op
  have hnd := x_b6.nod rfl rfl
  obtain ⟨w_14, eW, x_b6', ho⟩ : ∃ w', ((((w_13.setCell ⟨p_b6, 0, none⟩ (.bool false)).setCell ⟨p_b6, 1, none⟩ (.slice none 0 0)).setCell ⟨p_b6, 2, none⟩ (.bool false)).setCell ⟨p_b6, 3, none⟩ (.slice none 0 0)) = w' ∧ Bs w' p_b6 #[.bool false, .slice none 0 0, .bool false, .slice none 0 0] 26 ∧ Only p_b6 w_13 w' := x_b6.setN [(0, .bool false), (1, .slice none 0 0), (2, .bool false), (3, .slice none 0 0)]
  rw [eW]; clear eW d0 d1 d2 d3 f0 f1 f2 f3 x_b6
  have x_b6 := x_b6'; clear x_b6'
  replace ha1 := ha1.fr hnd ho; replace ha2 := ha2.fr hnd ho; replace hq1 := hq1.fr hnd ho; replace hq2 := hq2.fr hnd ho; replace x_b1 := x_b1.frame ho ne_b1_b6; replace x_b2 := x_b2.frame ho ne_b2_b6; replace g11 := g11.fr hnd ho; replace g12 := g12.fr hnd ho; replace x_b3 := x_b3.frame ho ne_b3_b6; replace g21 := g21.fr hnd ho; replace g22 := g22.fr hnd ho; replace x_b4 := x_b4.frame ho ne_b4_b6; replace g31 := g31.fr hnd ho; replace g32 := g32.fr hnd ho; replace x_b5 := x_b5.frame ho ne_b5_b6; replace hb := belowOnly hb ho kb_b6
  refine hK _ _ rfl ?_; clear hK K ho hnd
  refine wpSq_call rfl (by kernel_rfl) fun K hK => ?_
  go_big_move; refine hK _ _ rfl ?_; clear hK K
  apply wpSq_end
  refine hK5 _ _ ?_
  refine wp_seq_k ?_
  intro K6 hK6
  refine wp_region_sq [0, 1, 2, 3, 4, 5, 6, 7] (by kernel_rfl) ?_
  refine wpSq_call rfl (by kernel_rfl) fun K hK => ?_
  obtain ⟨d0, d1, d2, d3⟩ := x_b1.f4
  go_big_op; refine hK _ _ rfl ?_; clear hK K d0 d1 d2 d3
  refine wpSq_call rfl (by kernel_rfl) fun K hK => ?_
  obtain ⟨d0, d1, d2, d3⟩ := x_b2.f4
  go_big_op; refine hK _ _ rfl ?_; clear hK K d0 d1 d2 d3
  refine wpSq_call rfl (by kernel_rfl) fun K hK => ?_
  go_big_op
  go_fit (fCmp_any (PN.mk' ha1 ha2) (PN.mk' hq1 hq2) (by omega) (by omega) (by omega) (by omega) HY.out HV.out)
  rintro e w_15 ⟨rfl, hb_15⟩
  replace ha1 := ha1.bl hb_15; replace ha2 := ha2.bl hb_15; replace hq1 := hq1.bl hb_15; replace hq2 := hq2.bl hb_15; replace x_b1 := x_b1.bl hb_15; replace x_b2 := x_b2.bl hb_15; replace g11 := g11.bl hb_15; replace g12 := g12.bl hb_15; replace x_b3 := x_b3.bl hb_15; replace g21 := g21.bl hb_15; replace g22 := g22.bl hb_15; replace x_b4 := x_b4.bl hb_15; replace g31 := g31.bl hb_15; replace g32 := g32.bl hb_15; replace x_b5 := x_b5.bl hb_15; replace x_b6 := x_b6.bl hb_15; replace hb := hb.trans (hb_15.mono hb.size)
  rw [HC.out]
  refine hK _ _ rfl ?_
  clear hK K hb_15
  refine wpSq_call rfl (by kernel_rfl) fun K hK => ?_
  go_big_move; refine hK _ _ rfl ?_; clear hK K
  refine wpSq_call rfl (by kernel_rfl) fun K hK => ?_
  go_big_op; refine hK _ _ rfl ?_; clear hK K
  refine wpSq_call rfl (by kernel_rfl) fun K hK => ?_
  go_big_op; refine hK _ _ rfl ?_; clear hK K
  refine wpSq_call rfl (by kernel_rfl) fun K hK => ?_
  go_big_move; refine hK _ _ rfl ?_; clear hK K
  refine wpSq_call rfl (by kernel_rfl) fun K hK => ?_
  go_big_move; refine hK _ _ rfl ?_; clear hK K
  apply wpSq_end
  refine hK6 _ _ ?_
  refine wp_seq_k ?_
  intro K7 hK7
  refine wp_seq_k ?_
  intro K8 hK8
  refine wp_region_sq [0, 1] (by kernel_rfl) ?_
  refine wpSq_call rfl (by kernel_rfl) fun K hK => ?_
  go_big_op
  go_fit (fawake_any _ (htabs _ hb))
  rintro e w_16 ⟨rfl, hb_16⟩
  replace ha1 := ha1.bl hb_16; replace ha2 := ha2.bl hb_16; replace hq1 := hq1.bl hb_16; replace hq2 := hq2.bl hb_16; replace x_b1 := x_b1.bl hb_16; replace x_b2 := x_b2.bl hb_16; replace g11 := g11.bl hb_16; replace g12 := g12.bl hb_16; replace x_b3 := x_b3.bl hb_16; replace g21 := g21.bl hb_16; replace g22 := g22.bl hb_16; replace x_b4 := x_b4.bl hb_16; replace g31 := g31.bl hb_16; replace g32 := g32.bl hb_16; replace x_b5 := x_b5.bl hb_16; replace x_b6 := x_b6.bl hb_16; replace hb := hb.trans (hb_16.mono hb.size)
  refine hK _ _ rfl ?_
  clear hK K hb_16
  refine wpSq_call rfl (by kernel_rfl) fun K hK => ?_
  go_big_op; refine hK _ _ rfl ?_; clear hK K
  apply wpSq_end
  refine hK8 _ _ ?_
  refine wp_cond_false (congrArg Value.bool (show _ = false from (by first | rfl | assumption | (simp; done) | omega))) ?_
  refine wp_skip ?_
  refine hK7 _ _ ?_
  refine wp_seq_k ?_
  intro K9 hK9
  refine wp_seq_k ?_
  intro K10 hK10
  refine wp_region_sq [0, 1, 2, 3, 4, 5] (by kernel_rfl) ?_
  refine wpSq_call rfl (by kernel_rfl) fun K hK => ?_
  obtain ⟨d0, d1, d2, d3⟩ := x_b1.f4
  go_big_op; refine hK _ _ rfl ?_; clear hK K d0 d1 d2 d3
  refine wpSq_call rfl (by kernel_rfl) fun K hK => ?_
  go_big_op
  go_fit (rbad_no (PN.mk' ha1 ha2) (by omega) (by omega) HY.out)
  rintro e w_17 ⟨rfl, hb_17⟩
  replace ha1 := ha1.bl hb_17; replace ha2 := ha2.bl hb_17; replace hq1 := hq1.bl hb_17; replace hq2 := hq2.bl hb_17; replace x_b1 := x_b1.bl hb_17; replace x_b2 := x_b2.bl hb_17; replace g11 := g11.bl hb_17; replace g12 := g12.bl hb_17; replace x_b3 := x_b3.bl hb_17; replace g21 := g21.bl hb_17; replace g22 := g22.bl hb_17; replace x_b4 := x_b4.bl hb_17; replace g31 := g31.bl hb_17; replace g32 := g32.bl hb_17; replace x_b5 := x_b5.bl hb_17; replace x_b6 := x_b6.bl hb_17; replace hb := hb.trans (hb_17.mono hb.size)
  refine hK _ _ rfl ?_
  clear hK K hb_17
  refine wpSq_call rfl (by kernel_rfl) fun K hK => ?_
  go_big_move; refine hK _ _ rfl ?_; clear hK K
  refine wpSq_call rfl (by kernel_rfl) fun K hK => ?_
  obtain ⟨d0, d1, d2, d3⟩ := x_b2.f4
  go_big_op; refine hK _ _ rfl ?_; clear hK K d0 d1 d2 d3
  refine wpSq_call rfl (by kernel_rfl) fun K hK => ?_
  go_big_op
  go_fit (rbad_no (PN.mk' hq1 hq2) (by omega) (by omega) HV.out)
  rintro e w_18 ⟨rfl, hb_18⟩
  replace ha1 := ha1.bl hb_18; replace ha2 := ha2.bl hb_18; replace hq1 := hq1.bl hb_18; replace hq2 := hq2.bl hb_18; replace x_b1 := x_b1.bl hb_18; replace x_b2 := x_b2.bl hb_18; replace g11 := g11.bl hb_18; replace g12 := g12.bl hb_18; replace x_b3 := x_b3.bl hb_18; replace g21 := g21.bl hb_18; replace g22 := g22.bl hb_18; replace x_b4 := x_b4.bl hb_18; replace g31 := g31.bl hb_18; replace g32 := g32.bl hb_18; replace x_b5 := x_b5.bl hb_18; replace x_b6 := x_b6.bl hb_18; replace hb := hb.trans (hb_18.mono hb.size)
  refine hK _ _ rfl ?_
  clear hK K hb_18
  refine wpSq_call rfl (by kernel_rfl) fun K hK => ?_
  go_big_op; refine hK _ _ rfl ?_; clear hK K
  apply wpSq_end
  refine hK10 _ _ ?_
  refine wp_cond_false (congrArg Value.bool (show _ = false from (by first | rfl | assumption | (simp; done) | omega))) ?_
  refine wp_skip ?_
  refine hK9 _ _ ?_
  refine wp_seq_k ?_
  intro K11 hK11
  refine wp_seq_k ?_
  intro K12 hK12
  refine wp_region_fl2 [(0, false), (1, false), (2, false), (3, false), (4, true), (5, true), (6, false), (7, false), (8, false), (9, false), (10, false), (11, false), (12, true), (13, true), (14, false), (15, false), (16, false), (17, false), (18, false), (19, false), (20, false), (21, true), (22, true), (23, false), (24, false), (25, false), (26, false), (27, false), (28, false), (29, false), (30, false), (31, false), (32, false), (33, true), (34, false), (35, false)] [] [] (fun _ => default) [0, 99, 1, 2, 99, 99, 99, 99, 3, 99, 1, 2, 99, 99, 99, 99, 99, 4, 99, 1, 2, 99, 99, 99, 99, 99, 99, 99, 99, 99, 99, 1, 2, 99, 99, 99] [] (fun w' => w'.cell? ⟨p_b3, 0, none⟩ = some (.bool n_g1a) ∧ w'.cell? ⟨p_b3, 1, none⟩ = some (.slice o_g1a k_g1a c_g1a) ∧ w'.cell? ⟨p_b3, 2, none⟩ = some (.bool n_g1b) ∧ w'.cell? ⟨p_b3, 3, none⟩ = some (.slice o_g1b k_g1b c_g1b) ∧ w'.cell? ⟨p_b1, 0, none⟩ = some (.bool n_0a) ∧ w'.cell? ⟨p_b1, 1, none⟩ = some (.slice o_0a k_0a c_0a) ∧ w'.cell? ⟨p_b1, 2, none⟩ = some (.bool n_0b) ∧ w'.cell? ⟨p_b1, 3, none⟩ = some (.slice o_0b k_0b c_0b) ∧ w'.cell? ⟨p_b2, 0, none⟩ = some (.bool n_1a) ∧ w'.cell? ⟨p_b2, 1, none⟩ = some (.slice o_1a k_1a c_1a) ∧ w'.cell? ⟨p_b2, 2, none⟩ = some (.bool n_1b) ∧ w'.cell? ⟨p_b2, 3, none⟩ = some (.slice o_1b k_1b c_1b) ∧ w'.cell? ⟨p_b4, 0, none⟩ = some (.bool n_g2a) ∧ w'.cell? ⟨p_b4, 1, none⟩ = some (.slice o_g2a k_g2a c_g2a) ∧ w'.cell? ⟨p_b4, 2, none⟩ = some (.bool n_g2b) ∧ w'.cell? ⟨p_b4, 3, none⟩ = some (.slice o_g2b k_g2b c_g2b) ∧ w'.cell? ⟨p_b5, 0, none⟩ = some (.bool n_g3a) ∧ w'.cell? ⟨p_b5, 1, none⟩ = some (.slice o_g3a k_g3a c_g3a) ∧ w'.cell? ⟨p_b5, 2, none⟩ = some (.bool n_g3b) ∧ w'.cell? ⟨p_b5, 3, none⟩ = some (.slice o_g3b k_g3b c_g3b)) [fun w' => w'.cell? ⟨p_b3, 0, none⟩ = some (.bool n_g1a) ∧ w'.cell? ⟨p_b3, 1, none⟩ = some (.slice o_g1a k_g1a c_g1a) ∧ w'.cell? ⟨p_b3, 2, none⟩ = some (.bool n_g1b) ∧ w'.cell? ⟨p_b3, 3, none⟩ = some (.slice o_g1b k_g1b c_g1b), fun w' => w'.cell? ⟨p_b1, 0, none⟩ = some (.bool n_0a) ∧ w'.cell? ⟨p_b1, 1, none⟩ = some (.slice o_0a k_0a c_0a) ∧ w'.cell? ⟨p_b1, 2, none⟩ = some (.bool n_0b) ∧ w'.cell? ⟨p_b1, 3, none⟩ = some (.slice o_0b k_0b c_0b), fun w' => w'.cell? ⟨p_b2, 0, none⟩ = some (.bool n_1a) ∧ w'.cell? ⟨p_b2, 1, none⟩ = some (.slice o_1a k_1a c_1a) ∧ w'.cell? ⟨p_b2, 2, none⟩ = some (.bool n_1b) ∧ w'.cell? ⟨p_b2, 3, none⟩ = some (.slice o_1b k_1b c_1b), fun w' => w'.cell? ⟨p_b4, 0, none⟩ = some (.bool n_g2a) ∧ w'.cell? ⟨p_b4, 1, none⟩ = some (.slice o_g2a k_g2a c_g2a) ∧ w'.cell? ⟨p_b4, 2, none⟩ = some (.bool n_g2b) ∧ w'.cell? ⟨p_b4, 3, none⟩ = some (.slice o_g2b k_g2b c_g2b), fun w' => w'.cell? ⟨p_b5, 0, none⟩ = some (.bool n_g3a) ∧ w'.cell? ⟨p_b5, 1, none⟩ = some (.slice o_g3a k_g3a c_g3a) ∧ w'.cell? ⟨p_b5, 2, none⟩ = some (.bool n_g3b) ∧ w'.cell? ⟨p_b5, 3, none⟩ = some (.slice o_g3b k_g3b c_g3b)] (by kernel_rfl) (by kernel_rfl) (by kernel_rfl) (by kernel_rfl) (by kernel_rfl) (by kernel_rfl) (by kernel_rfl) (by kernel_rfl) (by decide) (by intro j hj; cases hj) (by intro w' o hC; obtain ⟨c0, c1, c2, c3, c4, c5, c6, c7, c8, c9, c10, c11, c12, c13, c14, c15, c16, c17, c18, c19⟩ := hC; exact ⟨cell_alloc c0 o, cell_alloc c1 o, cell_alloc c2 o, cell_alloc c3 o, cell_alloc c4 o, cell_alloc c5 o, cell_alloc c6 o, cell_alloc c7 o, cell_alloc c8 o, cell_alloc c9 o, cell_alloc c10 o, cell_alloc c11 o, cell_alloc c12 o, cell_alloc c13 o, cell_alloc c14 o, cell_alloc c15 o, cell_alloc c16 o, cell_alloc c17 o, cell_alloc c18 o, cell_alloc c19 o⟩) (by intro w' hC G hG; obtain ⟨c0, c1, c2, c3, c4, c5, c6, c7, c8, c9, c10, c11, c12, c13, c14, c15, c16, c17, c18, c19⟩ := hC; simp only [List.mem_cons, List.not_mem_nil, or_false] at hG; rcases hG with rfl | rfl | rfl | rfl | rfl <;> first | exact ⟨c0, c1, c2, c3⟩ | exact ⟨c4, c5, c6, c7⟩ | exact ⟨c8, c9, c10, c11⟩ | exact ⟨c12, c13, c14, c15⟩ | exact ⟨c16, c17, c18, c19⟩) ?_
  have lt_b1 := x_b1.lt
  have lt_b2 := x_b2.lt
  have lt_b3 := x_b3.lt
  have lt_b4 := x_b4.lt
  have lt_b5 := x_b5.lt
  have lt_b6 := x_b6.lt
  intro w_19 hn
  replace lt_b1 := Nat.lt_of_lt_of_le lt_b1 hn.size
  replace lt_b2 := Nat.lt_of_lt_of_le lt_b2 hn.size
  replace lt_b3 := Nat.lt_of_lt_of_le lt_b3 hn.size
  replace lt_b4 := Nat.lt_of_lt_of_le lt_b4 hn.size
  replace lt_b5 := Nat.lt_of_lt_of_le lt_b5 hn.size
  replace lt_b6 := Nat.lt_of_lt_of_le lt_b6 hn.size
  replace ha1 := ha1.bl hn; replace ha2 := ha2.bl hn; replace hq1 := hq1.bl hn; replace hq2 := hq2.bl hn; replace x_b1 := x_b1.bl hn; replace x_b2 := x_b2.bl hn; replace g11 := g11.bl hn; replace g12 := g12.bl hn; replace x_b3 := x_b3.bl hn; replace g21 := g21.bl hn; replace g22 := g22.bl hn; replace x_b4 := x_b4.bl hn; replace g31 := g31.bl hn; replace g32 := g32.bl hn; replace x_b5 := x_b5.bl hn; replace x_b6 := x_b6.bl hn; replace hb := hb.trans (hn.mono hb.size)
  clear hn
  have kb0 := hb.size
  refine ⟨⟨x_b3.cell 0 rfl, x_b3.cell 1 rfl, x_b3.cell 2 rfl, x_b3.cell 3 rfl, x_b1.cell 0 rfl, x_b1.cell 1 rfl, x_b1.cell 2 rfl, x_b1.cell 3 rfl, x_b2.cell 0 rfl, x_b2.cell 1 rfl, x_b2.cell 2 rfl, x_b2.cell 3 rfl, x_b4.cell 0 rfl, x_b4.cell 1 rfl, x_b4.cell 2 rfl, x_b4.cell 3 rfl, x_b5.cell 0 rfl, x_b5.cell 1 rfl, x_b5.cell 2 rfl, x_b5.cell 3 rfl⟩, ?_⟩
  apply wpFl_ld rfl rfl; (case h1 => intro w' hC K hK; obtain ⟨c0, c1, c2, c3⟩ := hC; go_big_op; exact hK); iterate 4 kernel_rfl
  apply wpFl_ld rfl rfl; (case h1 => intro w' hC K hK; go_big_move; exact hK); iterate 4 kernel_rfl
  apply wpFl_ld rfl rfl; (case h1 => intro w' hC K hK; obtain ⟨c0, c1, c2, c3⟩ := hC; go_big_op; exact hK); iterate 4 kernel_rfl
  apply wpFl_ld rfl rfl; (case h1 => intro w' hC K hK; obtain ⟨c0, c1, c2, c3⟩ := hC; go_big_op; exact hK); iterate 4 kernel_rfl
  refine wpFl_call rfl (by kernel_rfl) fun w_20 hn hC => ?_; clear hC
  replace ha1 := ha1.bl hn; replace ha2 := ha2.bl hn; replace hq1 := hq1.bl hn; replace hq2 := hq2.bl hn; replace x_b1 := x_b1.bl hn; replace x_b2 := x_b2.bl hn; replace g11 := g11.bl hn; replace g12 := g12.bl hn; replace x_b3 := x_b3.bl hn; replace g21 := g21.bl hn; replace g22 := g22.bl hn; replace x_b4 := x_b4.bl hn; replace g31 := g31.bl hn; replace g32 := g32.bl hn; replace x_b5 := x_b5.bl hn; replace x_b6 := x_b6.bl hn; replace hb := hb.trans (hn.mono hb.size)
  clear hn; intro K hK
  go_big_op
  go_fit (rfAdd_any (PN.mk' ha1 ha2) (PN.mk' hq1 hq2) (by omega) (by omega) (by omega) (by omega) H0.out)
  rintro e w_21 ⟨_, rfl, ⟨n_r1a, o_r1a, k_r1a, c_r1a, n_r1b, o_r1b, k_r1b, c_r1b, rfl, r11, r12⟩, hb_21⟩
  replace ha1 := ha1.bl hb_21; replace ha2 := ha2.bl hb_21; replace hq1 := hq1.bl hb_21; replace hq2 := hq2.bl hb_21; replace x_b1 := x_b1.bl hb_21; replace x_b2 := x_b2.bl hb_21; replace g11 := g11.bl hb_21; replace g12 := g12.bl hb_21; replace x_b3 := x_b3.bl hb_21; replace g21 := g21.bl hb_21; replace g22 := g22.bl hb_21; replace x_b4 := x_b4.bl hb_21; replace g31 := g31.bl hb_21; replace g32 := g32.bl hb_21; replace x_b5 := x_b5.bl hb_21; replace x_b6 := x_b6.bl hb_21; replace hb := hb.trans (hb_21.mono hb.size)
  have Lr11 := hide (r11.lenOf (qN_len (H0.out) (zlen_opAdd (zlen_mul (ha1.len) (hq2.len)) (zlen_mul (hq1.len) (ha2.len)))))
  have Lr12 := hide (r12.lenOf (qD_len (H0.out) (zlen_mul (ha2.len) (hq2.len))))
  refine hK _ _ rfl hb_21 ⟨x_b3.cell 0 rfl, x_b3.cell 1 rfl, x_b3.cell 2 rfl, x_b3.cell 3 rfl, x_b1.cell 0 rfl, x_b1.cell 1 rfl, x_b1.cell 2 rfl, x_b1.cell 3 rfl, x_b2.cell 0 rfl, x_b2.cell 1 rfl, x_b2.cell 2 rfl, x_b2.cell 3 rfl, x_b4.cell 0 rfl, x_b4.cell 1 rfl, x_b4.cell 2 rfl, x_b4.cell 3 rfl, x_b5.cell 0 rfl, x_b5.cell 1 rfl, x_b5.cell 2 rfl, x_b5.cell 3 rfl⟩ ?_
  clear hK K hb_21
  refine wpFl_call rfl (by kernel_rfl) fun w_22 hn hC => ?_; clear hC
  replace ha1 := ha1.bl hn; replace ha2 := ha2.bl hn; replace hq1 := hq1.bl hn; replace hq2 := hq2.bl hn; replace x_b1 := x_b1.bl hn; replace x_b2 := x_b2.bl hn; replace g11 := g11.bl hn; replace g12 := g12.bl hn; replace x_b3 := x_b3.bl hn; replace g21 := g21.bl hn; replace g22 := g22.bl hn; replace x_b4 := x_b4.bl hn; replace g31 := g31.bl hn; replace g32 := g32.bl hn; replace x_b5 := x_b5.bl hn; replace x_b6 := x_b6.bl hn; replace r11 := r11.bl hn; replace r12 := r12.bl hn; replace hb := hb.trans (hn.mono hb.size)
  clear hn; intro K hK
  go_big_op
  go_fit (ftold_low (PC.mk' g11 g12) (PC.mk' r11 r12)  (low_q H0.out) (Nat.le_trans Lr11.out (by omega)) (Nat.le_trans Lr12.out (by omega)))
  rintro e w_23 ⟨rfl, hb_23⟩
  replace ha1 := ha1.bl hb_23; replace ha2 := ha2.bl hb_23; replace hq1 := hq1.bl hb_23; replace hq2 := hq2.bl hb_23; replace x_b1 := x_b1.bl hb_23; replace x_b2 := x_b2.bl hb_23; replace g11 := g11.bl hb_23; replace g12 := g12.bl hb_23; replace x_b3 := x_b3.bl hb_23; replace g21 := g21.bl hb_23; replace g22 := g22.bl hb_23; replace x_b4 := x_b4.bl hb_23; replace g31 := g31.bl hb_23; replace g32 := g32.bl hb_23; replace x_b5 := x_b5.bl hb_23; replace x_b6 := x_b6.bl hb_23; replace r11 := r11.bl hb_23; replace r12 := r12.bl hb_23; replace hb := hb.trans (hb_23.mono hb.size)
  refine hK _ _ rfl hb_23 ⟨x_b3.cell 0 rfl, x_b3.cell 1 rfl, x_b3.cell 2 rfl, x_b3.cell 3 rfl, x_b1.cell 0 rfl, x_b1.cell 1 rfl, x_b1.cell 2 rfl, x_b1.cell 3 rfl, x_b2.cell 0 rfl, x_b2.cell 1 rfl, x_b2.cell 2 rfl, x_b2.cell 3 rfl, x_b4.cell 0 rfl, x_b4.cell 1 rfl, x_b4.cell 2 rfl, x_b4.cell 3 rfl, x_b5.cell 0 rfl, x_b5.cell 1 rfl, x_b5.cell 2 rfl, x_b5.cell 3 rfl⟩ ?_
  clear hK K hb_23
  apply wpFl_ld rfl rfl; (case h1 => intro w' hC K hK; go_big_op; exact hK); iterate 4 kernel_rfl
  apply wpFl_ld rfl rfl; (case h1 => intro w' hC K hK; go_big_move; exact hK); iterate 4 kernel_rfl
  apply wpFl_ld rfl rfl; (case h1 => intro w' hC K hK; obtain ⟨c0, c1, c2, c3⟩ := hC; go_big_op; exact hK); iterate 4 kernel_rfl
  apply wpFl_ld rfl rfl; (case h1 => intro w' hC K hK; go_big_move; exact hK); iterate 4 kernel_rfl
  apply wpFl_ld rfl rfl; (case h1 => intro w' hC K hK; obtain ⟨c0, c1, c2, c3⟩ := hC; go_big_op; exact hK); iterate 4 kernel_rfl
  apply wpFl_ld rfl rfl; (case h1 => intro w' hC K hK; obtain ⟨c0, c1, c2, c3⟩ := hC; go_big_op; exact hK); iterate 4 kernel_rfl
  refine wpFl_call rfl (by kernel_rfl) fun w_24 hn hC => ?_; clear hC
  clear r11 r12
  replace ha1 := ha1.bl hn; replace ha2 := ha2.bl hn; replace hq1 := hq1.bl hn; replace hq2 := hq2.bl hn; replace x_b1 := x_b1.bl hn; replace x_b2 := x_b2.bl hn; replace g11 := g11.bl hn; replace g12 := g12.bl hn; replace x_b3 := x_b3.bl hn; replace g21 := g21.bl hn; replace g22 := g22.bl hn; replace x_b4 := x_b4.bl hn; replace g31 := g31.bl hn; replace g32 := g32.bl hn; replace x_b5 := x_b5.bl hn; replace x_b6 := x_b6.bl hn; replace hb := hb.trans (hn.mono hb.size)
  clear hn; intro K hK
  go_big_op
  go_fit (rfSub_any (PN.mk' ha1 ha2) (PN.mk' hq1 hq2) (by omega) (by omega) (by omega) (by omega) HY.out HV.out)
  rintro e w_25 ⟨_, rfl, ⟨n_r2a, o_r2a, k_r2a, c_r2a, n_r2b, o_r2b, k_r2b, c_r2b, rfl, r21, r22⟩, hb_25⟩
  replace ha1 := ha1.bl hb_25; replace ha2 := ha2.bl hb_25; replace hq1 := hq1.bl hb_25; replace hq2 := hq2.bl hb_25; replace x_b1 := x_b1.bl hb_25; replace x_b2 := x_b2.bl hb_25; replace g11 := g11.bl hb_25; replace g12 := g12.bl hb_25; replace x_b3 := x_b3.bl hb_25; replace g21 := g21.bl hb_25; replace g22 := g22.bl hb_25; replace x_b4 := x_b4.bl hb_25; replace g31 := g31.bl hb_25; replace g32 := g32.bl hb_25; replace x_b5 := x_b5.bl hb_25; replace x_b6 := x_b6.bl hb_25; replace hb := hb.trans (hb_25.mono hb.size)
  have Lr21 := hide (r21.lenOf (qN_len (Int.mul_ne_zero (HY.out) (HV.out)) (zlen_opSub (zlen_mul (ha1.len) (hq2.len)) (zlen_mul (hq1.len) (ha2.len)))))
  have Lr22 := hide (r22.lenOf (qD_len (Int.mul_ne_zero (HY.out) (HV.out)) (zlen_mul (ha2.len) (hq2.len))))
  refine hK _ _ rfl hb_25 ⟨x_b3.cell 0 rfl, x_b3.cell 1 rfl, x_b3.cell 2 rfl, x_b3.cell 3 rfl, x_b1.cell 0 rfl, x_b1.cell 1 rfl, x_b1.cell 2 rfl, x_b1.cell 3 rfl, x_b2.cell 0 rfl, x_b2.cell 1 rfl, x_b2.cell 2 rfl, x_b2.cell 3 rfl, x_b4.cell 0 rfl, x_b4.cell 1 rfl, x_b4.cell 2 rfl, x_b4.cell 3 rfl, x_b5.cell 0 rfl, x_b5.cell 1 rfl, x_b5.cell 2 rfl, x_b5.cell 3 rfl⟩ ?_
  clear hK K hb_25
  refine wpFl_call rfl (by kernel_rfl) fun w_26 hn hC => ?_; clear hC
  replace ha1 := ha1.bl hn; replace ha2 := ha2.bl hn; replace hq1 := hq1.bl hn; replace hq2 := hq2.bl hn; replace x_b1 := x_b1.bl hn; replace x_b2 := x_b2.bl hn; replace g11 := g11.bl hn; replace g12 := g12.bl hn; replace x_b3 := x_b3.bl hn; replace g21 := g21.bl hn; replace g22 := g22.bl hn; replace x_b4 := x_b4.bl hn; replace g31 := g31.bl hn; replace g32 := g32.bl hn; replace x_b5 := x_b5.bl hn; replace x_b6 := x_b6.bl hn; replace r21 := r21.bl hn; replace r22 := r22.bl hn; replace hb := hb.trans (hn.mono hb.size)
  clear hn; intro K hK
  go_big_op
  go_fit (ftold_low (PC.mk' g21 g22) (PC.mk' r21 r22)  (low_q H0.out) (Nat.le_trans Lr21.out (by omega)) (Nat.le_trans Lr22.out (by omega)))
  rintro e w_27 ⟨rfl, hb_27⟩
  replace ha1 := ha1.bl hb_27; replace ha2 := ha2.bl hb_27; replace hq1 := hq1.bl hb_27; replace hq2 := hq2.bl hb_27; replace x_b1 := x_b1.bl hb_27; replace x_b2 := x_b2.bl hb_27; replace g11 := g11.bl hb_27; replace g12 := g12.bl hb_27; replace x_b3 := x_b3.bl hb_27; replace g21 := g21.bl hb_27; replace g22 := g22.bl hb_27; replace x_b4 := x_b4.bl hb_27; replace g31 := g31.bl hb_27; replace g32 := g32.bl hb_27; replace x_b5 := x_b5.bl hb_27; replace x_b6 := x_b6.bl hb_27; replace r21 := r21.bl hb_27; replace r22 := r22.bl hb_27; replace hb := hb.trans (hb_27.mono hb.size)
  refine hK _ _ rfl hb_27 ⟨x_b3.cell 0 rfl, x_b3.cell 1 rfl, x_b3.cell 2 rfl, x_b3.cell 3 rfl, x_b1.cell 0 rfl, x_b1.cell 1 rfl, x_b1.cell 2 rfl, x_b1.cell 3 rfl, x_b2.cell 0 rfl, x_b2.cell 1 rfl, x_b2.cell 2 rfl, x_b2.cell 3 rfl, x_b4.cell 0 rfl, x_b4.cell 1 rfl, x_b4.cell 2 rfl, x_b4.cell 3 rfl, x_b5.cell 0 rfl, x_b5.cell 1 rfl, x_b5.cell 2 rfl, x_b5.cell 3 rfl⟩ ?_
  clear hK K hb_27
  apply wpFl_ld rfl rfl; (case h1 => intro w' hC K hK; go_big_op; exact hK); iterate 4 kernel_rfl
  apply wpFl_ld rfl rfl; (case h1 => intro w' hC K hK; go_big_op; exact hK); iterate 4 kernel_rfl
  apply wpFl_ld rfl rfl; (case h1 => intro w' hC K hK; go_big_move; exact hK); iterate 4 kernel_rfl
  apply wpFl_ld rfl rfl; (case h1 => intro w' hC K hK; obtain ⟨c0, c1, c2, c3⟩ := hC; go_big_op; exact hK); iterate 4 kernel_rfl
  apply wpFl_ld rfl rfl; (case h1 => intro w' hC K hK; go_big_move; exact hK); iterate 4 kernel_rfl
  apply wpFl_ld rfl rfl; (case h1 => intro w' hC K hK; obtain ⟨c0, c1, c2, c3⟩ := hC; go_big_op; exact hK); iterate 4 kernel_rfl
  apply wpFl_ld rfl rfl; (case h1 => intro w' hC K hK; obtain ⟨c0, c1, c2, c3⟩ := hC; go_big_op; exact hK); iterate 4 kernel_rfl
  refine wpFl_call rfl (by kernel_rfl) fun w_28 hn hC => ?_; clear hC
  clear r21 r22
  replace ha1 := ha1.bl hn; replace ha2 := ha2.bl hn; replace hq1 := hq1.bl hn; replace hq2 := hq2.bl hn; replace x_b1 := x_b1.bl hn; replace x_b2 := x_b2.bl hn; replace g11 := g11.bl hn; replace g12 := g12.bl hn; replace x_b3 := x_b3.bl hn; replace g21 := g21.bl hn; replace g22 := g22.bl hn; replace x_b4 := x_b4.bl hn; replace g31 := g31.bl hn; replace g32 := g32.bl hn; replace x_b5 := x_b5.bl hn; replace x_b6 := x_b6.bl hn; replace hb := hb.trans (hn.mono hb.size)
  clear hn; intro K hK
  go_big_op
  go_fit (rfMul_any (PN.mk' ha1 ha2) (PN.mk' hq1 hq2) (by omega) (by omega) (by omega) (by omega) H0.out)
  rintro e w_29 ⟨_, rfl, ⟨n_r3a, o_r3a, k_r3a, c_r3a, n_r3b, o_r3b, k_r3b, c_r3b, rfl, r31, r32⟩, hb_29⟩
  replace ha1 := ha1.bl hb_29; replace ha2 := ha2.bl hb_29; replace hq1 := hq1.bl hb_29; replace hq2 := hq2.bl hb_29; replace x_b1 := x_b1.bl hb_29; replace x_b2 := x_b2.bl hb_29; replace g11 := g11.bl hb_29; replace g12 := g12.bl hb_29; replace x_b3 := x_b3.bl hb_29; replace g21 := g21.bl hb_29; replace g22 := g22.bl hb_29; replace x_b4 := x_b4.bl hb_29; replace g31 := g31.bl hb_29; replace g32 := g32.bl hb_29; replace x_b5 := x_b5.bl hb_29; replace x_b6 := x_b6.bl hb_29; replace hb := hb.trans (hb_29.mono hb.size)
  have Lr31 := hide (r31.lenOf (qN_len (H0.out) (zlen_mul (ha1.len) (hq1.len))))
  have Lr32 := hide (r32.lenOf (qD_len (H0.out) (zlen_mul (ha2.len) (hq2.len))))
  refine hK _ _ rfl hb_29 ⟨x_b3.cell 0 rfl, x_b3.cell 1 rfl, x_b3.cell 2 rfl, x_b3.cell 3 rfl, x_b1.cell 0 rfl, x_b1.cell 1 rfl, x_b1.cell 2 rfl, x_b1.cell 3 rfl, x_b2.cell 0 rfl, x_b2.cell 1 rfl, x_b2.cell 2 rfl, x_b2.cell 3 rfl, x_b4.cell 0 rfl, x_b4.cell 1 rfl, x_b4.cell 2 rfl, x_b4.cell 3 rfl, x_b5.cell 0 rfl, x_b5.cell 1 rfl, x_b5.cell 2 rfl, x_b5.cell 3 rfl⟩ ?_
  clear hK K hb_29
  refine wpFl_call rfl (by kernel_rfl) fun w_30 hn hC => ?_; clear hC
  replace ha1 := ha1.bl hn; replace ha2 := ha2.bl hn; replace hq1 := hq1.bl hn; replace hq2 := hq2.bl hn; replace x_b1 := x_b1.bl hn; replace x_b2 := x_b2.bl hn; replace g11 := g11.bl hn; replace g12 := g12.bl hn; replace x_b3 := x_b3.bl hn; replace g21 := g21.bl hn; replace g22 := g22.bl hn; replace x_b4 := x_b4.bl hn; replace g31 := g31.bl hn; replace g32 := g32.bl hn; replace x_b5 := x_b5.bl hn; replace x_b6 := x_b6.bl hn; replace r31 := r31.bl hn; replace r32 := r32.bl hn; replace hb := hb.trans (hn.mono hb.size)
  clear hn; intro K hK
  go_big_op
  go_fit (ftold_low (PC.mk' g31 g32) (PC.mk' r31 r32)  (low_q H0.out) (Nat.le_trans Lr31.out (by omega)) (Nat.le_trans Lr32.out (by omega)))
  rintro e w_31 ⟨rfl, hb_31⟩
  replace ha1 := ha1.bl hb_31; replace ha2 := ha2.bl hb_31; replace hq1 := hq1.bl hb_31; replace hq2 := hq2.bl hb_31; replace x_b1 := x_b1.bl hb_31; replace x_b2 := x_b2.bl hb_31; replace g11 := g11.bl hb_31; replace g12 := g12.bl hb_31; replace x_b3 := x_b3.bl hb_31; replace g21 := g21.bl hb_31; replace g22 := g22.bl hb_31; replace x_b4 := x_b4.bl hb_31; replace g31 := g31.bl hb_31; replace g32 := g32.bl hb_31; replace x_b5 := x_b5.bl hb_31; replace x_b6 := x_b6.bl hb_31; replace r31 := r31.bl hb_31; replace r32 := r32.bl hb_31; replace hb := hb.trans (hb_31.mono hb.size)
  refine hK _ _ rfl hb_31 ⟨x_b3.cell 0 rfl, x_b3.cell 1 rfl, x_b3.cell 2 rfl, x_b3.cell 3 rfl, x_b1.cell 0 rfl, x_b1.cell 1 rfl, x_b1.cell 2 rfl, x_b1.cell 3 rfl, x_b2.cell 0 rfl, x_b2.cell 1 rfl, x_b2.cell 2 rfl, x_b2.cell 3 rfl, x_b4.cell 0 rfl, x_b4.cell 1 rfl, x_b4.cell 2 rfl, x_b4.cell 3 rfl, x_b5.cell 0 rfl, x_b5.cell 1 rfl, x_b5.cell 2 rfl, x_b5.cell 3 rfl⟩ ?_
  clear hK K hb_31
  apply wpFl_ld rfl rfl; (case h1 => intro w' hC K hK; go_big_op; exact hK); iterate 4 kernel_rfl
  apply wpFl_ld rfl rfl; (case h1 => intro w' hC K hK; go_big_op; exact hK); iterate 4 kernel_rfl
  apply wpFl_ld rfl rfl; (case h1 => intro w' hC K hK; go_big_move; exact hK); iterate 4 kernel_rfl
  apply wpFl_ld rfl rfl; (case h1 => intro w' hC K hK; go_big_move; exact hK); iterate 4 kernel_rfl
  apply wpFl_ld rfl rfl; (case h1 => intro w' hC K hK; go_big_op; exact hK); iterate 4 kernel_rfl
  apply wpFl_ld rfl rfl; (case h1 => intro w' hC K hK; go_big_op; exact hK); iterate 4 kernel_rfl
  apply wpFl_ld rfl rfl; (case h1 => intro w' hC K hK; go_big_move; exact hK); iterate 4 kernel_rfl
  apply wpFl_ld rfl rfl; (case h1 => intro w' hC K hK; go_big_move; exact hK); iterate 4 kernel_rfl
  apply wpFl_ld rfl rfl; (case h1 => intro w' hC K hK; obtain ⟨c0, c1, c2, c3⟩ := hC; go_big_op; exact hK); iterate 4 kernel_rfl
  apply wpFl_ld rfl rfl; (case h1 => intro w' hC K hK; obtain ⟨c0, c1, c2, c3⟩ := hC; go_big_op; exact hK); iterate 4 kernel_rfl
  refine wpFl_call rfl (by kernel_rfl) fun w_32 hn hC => ?_; clear hC
  clear r31 r32
  replace ha1 := ha1.bl hn; replace ha2 := ha2.bl hn; replace hq1 := hq1.bl hn; replace hq2 := hq2.bl hn; replace x_b1 := x_b1.bl hn; replace x_b2 := x_b2.bl hn; replace g11 := g11.bl hn; replace g12 := g12.bl hn; replace x_b3 := x_b3.bl hn; replace g21 := g21.bl hn; replace g22 := g22.bl hn; replace x_b4 := x_b4.bl hn; replace g31 := g31.bl hn; replace g32 := g32.bl hn; replace x_b5 := x_b5.bl hn; replace x_b6 := x_b6.bl hn; replace hb := hb.trans (hn.mono hb.size)
  clear hn; intro K hK
  go_big_op
  go_fit (rfCmp_any (PN.mk' ha1 ha2) (PN.mk' hq1 hq2) (by omega) (by omega) (by omega) (by omega) HY.out HV.out)
  rintro e w_33 ⟨rfl, hb_33⟩
  replace ha1 := ha1.bl hb_33; replace ha2 := ha2.bl hb_33; replace hq1 := hq1.bl hb_33; replace hq2 := hq2.bl hb_33; replace x_b1 := x_b1.bl hb_33; replace x_b2 := x_b2.bl hb_33; replace g11 := g11.bl hb_33; replace g12 := g12.bl hb_33; replace x_b3 := x_b3.bl hb_33; replace g21 := g21.bl hb_33; replace g22 := g22.bl hb_33; replace x_b4 := x_b4.bl hb_33; replace g31 := g31.bl hb_33; replace g32 := g32.bl hb_33; replace x_b5 := x_b5.bl hb_33; replace x_b6 := x_b6.bl hb_33; replace hb := hb.trans (hb_33.mono hb.size)
  rw [HC.out]
  refine hK _ _ rfl hb_33 ⟨x_b3.cell 0 rfl, x_b3.cell 1 rfl, x_b3.cell 2 rfl, x_b3.cell 3 rfl, x_b1.cell 0 rfl, x_b1.cell 1 rfl, x_b1.cell 2 rfl, x_b1.cell 3 rfl, x_b2.cell 0 rfl, x_b2.cell 1 rfl, x_b2.cell 2 rfl, x_b2.cell 3 rfl, x_b4.cell 0 rfl, x_b4.cell 1 rfl, x_b4.cell 2 rfl, x_b4.cell 3 rfl, x_b5.cell 0 rfl, x_b5.cell 1 rfl, x_b5.cell 2 rfl, x_b5.cell 3 rfl⟩ ?_
  clear hK K hb_33
  apply wpFl_ld rfl rfl; (case h1 => intro w' hC K hK; go_big_op; exact hK); iterate 4 kernel_rfl
  apply wpFl_ld rfl rfl; (case h1 => intro w' hC K hK; go_big_op; exact hK); iterate 4 kernel_rfl
  apply wpFl_end
  case ha => intro pt; simp only [putF]; rfl
  case h =>
  intro w_34 pt hn hC hF hD
  clear hC
  replace ha1 := ha1.bl hn; replace ha2 := ha2.bl hn; replace hq1 := hq1.bl hn; replace hq2 := hq2.bl hn; replace x_b1 := x_b1.bl hn; replace x_b2 := x_b2.bl hn; replace g11 := g11.bl hn; replace g12 := g12.bl hn; replace x_b3 := x_b3.bl hn; replace g21 := g21.bl hn; replace g22 := g22.bl hn; replace x_b4 := x_b4.bl hn; replace g31 := g31.bl hn; replace g32 := g32.bl hn; replace x_b5 := x_b5.bl hn; replace x_b6 := x_b6.bl hn; replace hb := hb.trans (hn.mono hb.size)
  clear hn
  clear hF hD
  clear pt
  clear kb0 lt_b1 lt_b2 lt_b3 lt_b4 lt_b5 lt_b6
  apply wpTail_end
  refine hK12 _ _ ?_
  refine wp_cond_false (congrArg Value.bool (show _ = false from (by first | rfl | assumption | (simp; done) | omega))) ?_
  refine wp_skip ?_
  refine hK11 _ _ ?_
  refine wp_seq_k ?_
  intro K13 hK13
  refine wp_seq_k ?_
  intro K14 hK14
  refine wp_region_sq [0, 1, 2] (by kernel_rfl) ?_
  refine wpSq_call rfl (by kernel_rfl) fun K hK => ?_
  obtain ⟨d0, d1, d2, d3⟩ := x_b2.f4
  go_big_op; refine hK _ _ rfl ?_; clear hK K d0 d1 d2 d3
  refine wpSq_call rfl (by kernel_rfl) fun K hK => ?_
  go_big_op
  go_fit (rfSign_any (PN.mk' hq1 hq2) (by omega) (by omega) )
  rintro e w_35 ⟨rfl, hb_35⟩
  clear g11 g12 x_b3 g21 g22 x_b4 g31 g32 x_b5
  replace ha1 := ha1.bl hb_35; replace ha2 := ha2.bl hb_35; replace hq1 := hq1.bl hb_35; replace hq2 := hq2.bl hb_35; replace x_b1 := x_b1.bl hb_35; replace x_b2 := x_b2.bl hb_35; replace x_b6 := x_b6.bl hb_35; replace hb := hb.trans (hb_35.mono hb.size)
  refine hK _ _ rfl ?_
  clear hK K hb_35
  refine wpSq_call rfl (by kernel_rfl) fun K hK => ?_
  go_big_op; refine hK _ _ rfl ?_; clear hK K
  apply wpSq_end
  refine hK14 _ _ ?_
  refine wp_cond_true (congrArg Value.bool (show _ = true from (by first | rfl | assumption | (simp; done) | omega))) ?_
  refine wp_seq_k ?_
  intro K15 hK15
  refine wp_region_sq [0, 1, 2, 3, 4] (by kernel_rfl) ?_
  refine wpSq_call rfl (by kernel_rfl) fun K hK => ?_
  obtain ⟨d0, d1, d2, d3⟩ := x_b6.f4
  go_big_op; refine hK _ _ rfl ?_; clear hK K d0 d1 d2 d3
  refine wpSq_call rfl (by kernel_rfl) fun K hK => ?_
  go_big_move; refine hK _ _ rfl ?_; clear hK K
  refine wpSq_call rfl (by kernel_rfl) fun K hK => ?_
  obtain ⟨d0, d1, d2, d3⟩ := x_b6.f4
  go_big_op; refine hK _ _ rfl ?_; clear hK K d0 d1 d2 d3
  refine wpSq_call rfl (by kernel_rfl) fun K hK => ?_
  go_big_op
  go_fit (ftold_err 5 (.mk' (zc_zero w_35) (zc_zero w_35)) (by decide))
  rintro e w_36 ⟨rfl, hb_36⟩
  replace ha1 := ha1.bl hb_36; replace ha2 := ha2.bl hb_36; replace hq1 := hq1.bl hb_36; replace hq2 := hq2.bl hb_36; replace x_b1 := x_b1.bl hb_36; replace x_b2 := x_b2.bl hb_36; replace x_b6 := x_b6.bl hb_36; replace hb := hb.trans (hb_36.mono hb.size)
  refine hK _ _ rfl ?_
  clear hK K hb_36
  refine wpSq_call rfl (by kernel_rfl) fun K hK => ?_
  go_big_move; refine hK _ _ rfl ?_; clear hK K
  apply wpSq_end
  refine hK15 _ _ ?_
  refine wp_ret ?_
  try dsimp only [Exit.then, Exit.inBlock]
  refine bodyPost_ret (v := (.bool true)) (by simp [results, Tryz.results5, go_sem]) rfl ?_
  exact ⟨rfl, hb⟩
set_option maxHeartbeats 8000000 in
set_option maxRecDepth 20000 in
theorem sums_some (ha : PN w va x l y m) (hq : PN w vb u k v n) (hl : l ≤ 1048576) (hm : m ≤ 1048576) (hk : k ≤ 1048576) (hn : n ≤ 1048576) (hy : y ≠ 0) (hv : v ≠ 0) (hu : u ≠ 0) (htab : Lib.TabIs Tryz.prog w p10 .u64 Lib.pow10Tab) :
    Calls Tryz.prog 5 #[va, vb] w fun e w' => e = .returned (.bool true) ∧ Below w.heap.size w w' := by
  have htabs := Lib.tabBelow_of_tabIs htab
  have HY := hide hy
  have HV := hide hv
  have H0 := hide (Int.mul_ne_zero hy hv)
  have HM := hide (Int.mul_ne_zero hu hy)
  have HU := hide (show (u.sign * v.sign == 0) = false by simpa using ⟨hu, hv⟩)
  clear hu
  obtain ⟨C, hC⟩ : ∃ C, qcmp x y u v = C := ⟨_, rfl⟩
  have HC := hide hC
  clear hy hv hC
  obtain ⟨n_0a, o_0a, k_0a, c_0a, n_0b, o_0b, k_0b, c_0b, rfl, ha1, ha2⟩ := ha
  obtain ⟨n_1a, o_1a, k_1a, c_1a, n_1b, o_1b, k_1b, c_1b, rfl, hq1, hq2⟩ := hq
  go_enter Tryz.func5, Tryz.ntmps5
  have hb := Below.refl w.heap.size w
  refine wp_seq_k ?_
  intro K1 hK1
  refine wp_region_sq [0, 1, 2] (by kernel_rfl) ?_
  refine wpSq_call rfl (by kernel_rfl) fun K hK => ?_
  go_big_op
  obtain ⟨p_b1, w_1, eP, eW, x_b1, hn, kb_b1⟩ := newBox w #[.bool n_0a, .slice o_0a k_0a c_0a, .bool n_0b, .slice o_0b k_0b c_0b] 26 hb.size
  rw [eW, eP]
  clear eW eP
  replace ha1 := ha1.bl hn; replace ha2 := ha2.bl hn; replace hq1 := hq1.bl hn; replace hq2 := hq2.bl hn; replace hb := hb.trans (hn.mono hb.size)
  refine hK _ _ rfl ?_; clear hK K hn
  refine wpSq_call rfl (by kernel_rfl) fun K hK => ?_
  go_big_op
  have lt_b1 := x_b1.lt
  obtain ⟨p_b2, w_2, eP, eW, x_b2, hn, kb_b2⟩ := newBox w_1 #[.bool n_1a, .slice o_1a k_1a c_1a, .bool n_1b, .slice o_1b k_1b c_1b] 26 hb.size
  have ne_b1_b2 : Hid (p_b1 ≠ p_b2) := Nat.ne_of_lt (eP ▸ lt_b1)
  rw [eW, eP]
  clear eW eP lt_b1
  replace ha1 := ha1.bl hn; replace ha2 := ha2.bl hn; replace hq1 := hq1.bl hn; replace hq2 := hq2.bl hn; replace x_b1 := x_b1.bl hn; replace hb := hb.trans (hn.mono hb.size)
  refine hK _ _ rfl ?_; clear hK K hn
  refine wpSq_call rfl (by kernel_rfl) fun K hK => ?_
  go_big_move; refine hK _ _ rfl ?_; clear hK K
  apply wpSq_end
  refine hK1 _ _ ?_
  refine wp_seq_k ?_
  intro K2 hK2
  refine wp_region_sq [0, 1, 2, 3, 4, 5, 6, 7, 8] (by kernel_rfl) ?_
  refine wpSq_call rfl (by kernel_rfl) fun K hK => ?_
  obtain ⟨d0, d1, d2, d3⟩ := x_b1.f4
  go_big_op; refine hK _ _ rfl ?_; clear hK K d0 d1 d2 d3
  refine wpSq_call rfl (by kernel_rfl) fun K hK => ?_
  obtain ⟨d0, d1, d2, d3⟩ := x_b2.f4
  go_big_op; refine hK _ _ rfl ?_; clear hK K d0 d1 d2 d3
  refine wpSq_call rfl (by kernel_rfl) fun K hK => ?_
  go_big_op
  go_fit (fAdd_any (PN.mk' ha1 ha2) (PN.mk' hq1 hq2) (by omega) (by omega) (by omega) (by omega) H0.out)
  rintro e w_3 ⟨_, rfl, ⟨n_g1a, o_g1a, k_g1a, c_g1a, n_g1b, o_g1b, k_g1b, c_g1b, rfl, g11, g12⟩, hb_3⟩
  replace ha1 := ha1.bl hb_3; replace ha2 := ha2.bl hb_3; replace hq1 := hq1.bl hb_3; replace hq2 := hq2.bl hb_3; replace x_b1 := x_b1.bl hb_3; replace x_b2 := x_b2.bl hb_3; replace hb := hb.trans (hb_3.mono hb.size)
  have Lg11 := hide (g11.lenOf (qN_len (H0.out) (zlen_opAdd (zlen_mul (ha1.len) (hq2.len)) (zlen_mul (hq1.len) (ha2.len)))))
  have Lg12 := hide (g12.lenOf (qD_len (H0.out) (zlen_mul (ha2.len) (hq2.len))))
  refine hK _ _ rfl ?_
  clear hK K hb_3
  refine wpSq_call rfl (by kernel_rfl) fun K hK => ?_
  go_big_move; refine hK _ _ rfl ?_; clear hK K
  refine wpSq_call rfl (by kernel_rfl) fun K hK => ?_
  go_big_op; refine hK _ _ rfl ?_; clear hK K
  refine wpSq_call rfl (by kernel_rfl) fun K hK => ?_
  go_big_op; refine hK _ _ rfl ?_; clear hK K
  refine wpSq_call rfl (by kernel_rfl) fun K hK => ?_
  go_big_op
  have lt_b1 := x_b1.lt
  have lt_b2 := x_b2.lt
  obtain ⟨p_b3, w_4, eP, eW, x_b3, hn, kb_b3⟩ := newBox w_3 #[.bool false, .slice none 0 0, .bool false, .slice none 0 0] 26 hb.size
  have ne_b1_b3 : Hid (p_b1 ≠ p_b3) := Nat.ne_of_lt (eP ▸ lt_b1)
  have ne_b2_b3 : Hid (p_b2 ≠ p_b3) := Nat.ne_of_lt (eP ▸ lt_b2)
  rw [eW, eP]
  clear eW eP lt_b1 lt_b2
  replace ha1 := ha1.bl hn; replace ha2 := ha2.bl hn; replace hq1 := hq1.bl hn; replace hq2 := hq2.bl hn; replace x_b1 := x_b1.bl hn; replace x_b2 := x_b2.bl hn; replace g11 := g11.bl hn; replace g12 := g12.bl hn; replace hb := hb.trans (hn.mono hb.size)
  refine hK _ _ rfl ?_; clear hK K hn
  refine wpSq_call rfl (by kernel_rfl) fun K hK => ?_
  obtain ⟨d0, d1, d2, d3⟩ := x_b3.f4
  have f0 := x_b3.free 0; have f1 := x_b3.free 1; have f2 := x_b3.free 2; have f3 := x_b3.free 3
  go_big_op
  have hnd := x_b3.nod rfl rfl
  obtain ⟨w_5, eW, x_b3', ho⟩ : ∃ w', ((((w_4.setCell ⟨p_b3, 0, none⟩ (.bool n_g1a)).setCell ⟨p_b3, 1, none⟩ (.slice o_g1a k_g1a c_g1a)).setCell ⟨p_b3, 2, none⟩ (.bool n_g1b)).setCell ⟨p_b3, 3, none⟩ (.slice o_g1b k_g1b c_g1b)) = w' ∧ Bs w' p_b3 #[.bool n_g1a, .slice o_g1a k_g1a c_g1a, .bool n_g1b, .slice o_g1b k_g1b c_g1b] 26 ∧ Only p_b3 w_4 w' := x_b3.setN [(0, .bool n_g1a), (1, .slice o_g1a k_g1a c_g1a), (2, .bool n_g1b), (3, .slice o_g1b k_g1b c_g1b)]
  rw [eW]; clear eW d0 d1 d2 d3 f0 f1 f2 f3 x_b3
  have x_b3 := x_b3'; clear x_b3'
  replace ha1 := ha1.fr hnd ho; replace ha2 := ha2.fr hnd ho; replace hq1 := hq1.fr hnd ho; replace hq2 := hq2.fr hnd ho; replace x_b1 := x_b1.frame ho ne_b1_b3; replace x_b2 := x_b2.frame ho ne_b2_b3; replace g11 := g11.fr hnd ho; replace g12 := g12.fr hnd ho; replace hb := belowOnly hb ho kb_b3
  refine hK _ _ rfl ?_; clear hK K ho hnd
  refine wpSq_call rfl (by kernel_rfl) fun K hK => ?_
  go_big_move; refine hK _ _ rfl ?_; clear hK K
  apply wpSq_end
  refine hK2 _ _ ?_
  refine wp_seq_k ?_
  intro K3 hK3
  refine wp_region_sq [0, 1, 2, 3, 4, 5, 6, 7, 8] (by kernel_rfl) ?_
  refine wpSq_call rfl (by kernel_rfl) fun K hK => ?_
  obtain ⟨d0, d1, d2, d3⟩ := x_b1.f4
  go_big_op; refine hK _ _ rfl ?_; clear hK K d0 d1 d2 d3
  refine wpSq_call rfl (by kernel_rfl) fun K hK => ?_
  obtain ⟨d0, d1, d2, d3⟩ := x_b2.f4
  go_big_op; refine hK _ _ rfl ?_; clear hK K d0 d1 d2 d3
  refine wpSq_call rfl (by kernel_rfl) fun K hK => ?_
  go_big_op
  go_fit (fSub_any (PN.mk' ha1 ha2) (PN.mk' hq1 hq2) (by omega) (by omega) (by omega) (by omega) H0.out)
  rintro e w_6 ⟨_, rfl, ⟨n_g2a, o_g2a, k_g2a, c_g2a, n_g2b, o_g2b, k_g2b, c_g2b, rfl, g21, g22⟩, hb_6⟩
  replace ha1 := ha1.bl hb_6; replace ha2 := ha2.bl hb_6; replace hq1 := hq1.bl hb_6; replace hq2 := hq2.bl hb_6; replace x_b1 := x_b1.bl hb_6; replace x_b2 := x_b2.bl hb_6; replace g11 := g11.bl hb_6; replace g12 := g12.bl hb_6; replace x_b3 := x_b3.bl hb_6; replace hb := hb.trans (hb_6.mono hb.size)
  have Lg21 := hide (g21.lenOf (qN_len (H0.out) (zlen_opSub (zlen_mul (ha1.len) (hq2.len)) (zlen_mul (hq1.len) (ha2.len)))))
  have Lg22 := hide (g22.lenOf (qD_len (H0.out) (zlen_mul (ha2.len) (hq2.len))))
  refine hK _ _ rfl ?_
  clear hK K hb_6
  refine wpSq_call rfl (by kernel_rfl) fun K hK => ?_
  go_big_move; refine hK _ _ rfl ?_; clear hK K
  refine wpSq_call rfl (by kernel_rfl) fun K hK => ?_
  go_big_op; refine hK _ _ rfl ?_; clear hK K
  refine wpSq_call rfl (by kernel_rfl) fun K hK => ?_
  go_big_op; refine hK _ _ rfl ?_; clear hK K
  refine wpSq_call rfl (by kernel_rfl) fun K hK => ?_
  go_big_op
  have lt_b1 := x_b1.lt
  have lt_b2 := x_b2.lt
  have lt_b3 := x_b3.lt
  obtain ⟨p_b4, w_7, eP, eW, x_b4, hn, kb_b4⟩ := newBox w_6 #[.bool false, .slice none 0 0, .bool false, .slice none 0 0] 26 hb.size
  have ne_b1_b4 : Hid (p_b1 ≠ p_b4) := Nat.ne_of_lt (eP ▸ lt_b1)
  have ne_b2_b4 : Hid (p_b2 ≠ p_b4) := Nat.ne_of_lt (eP ▸ lt_b2)
  have ne_b3_b4 : Hid (p_b3 ≠ p_b4) := Nat.ne_of_lt (eP ▸ lt_b3)
  rw [eW, eP]
  clear eW eP lt_b1 lt_b2 lt_b3
  replace ha1 := ha1.bl hn; replace ha2 := ha2.bl hn; replace hq1 := hq1.bl hn; replace hq2 := hq2.bl hn; replace x_b1 := x_b1.bl hn; replace x_b2 := x_b2.bl hn; replace g11 := g11.bl hn; replace g12 := g12.bl hn; replace x_b3 := x_b3.bl hn; replace g21 := g21.bl hn; replace g22 := g22.bl hn; replace hb := hb.trans (hn.mono hb.size)
  refine hK _ _ rfl ?_; clear hK K hn
  refine wpSq_call rfl (by kernel_rfl) fun K hK => ?_
  obtain ⟨d0, d1, d2, d3⟩ := x_b4.f4
  have f0 := x_b4.free 0; have f1 := x_b4.free 1; have f2 := x_b4.free 2; have f3 := x_b4.free 3
  go_big_op
  have hnd := x_b4.nod rfl rfl
  obtain ⟨w_8, eW, x_b4', ho⟩ : ∃ w', ((((w_7.setCell ⟨p_b4, 0, none⟩ (.bool n_g2a)).setCell ⟨p_b4, 1, none⟩ (.slice o_g2a k_g2a c_g2a)).setCell ⟨p_b4, 2, none⟩ (.bool n_g2b)).setCell ⟨p_b4, 3, none⟩ (.slice o_g2b k_g2b c_g2b)) = w' ∧ Bs w' p_b4 #[.bool n_g2a, .slice o_g2a k_g2a c_g2a, .bool n_g2b, .slice o_g2b k_g2b c_g2b] 26 ∧ Only p_b4 w_7 w' := x_b4.setN [(0, .bool n_g2a), (1, .slice o_g2a k_g2a c_g2a), (2, .bool n_g2b), (3, .slice o_g2b k_g2b c_g2b)]
  rw [eW]; clear eW d0 d1 d2 d3 f0 f1 f2 f3 x_b4
  have x_b4 := x_b4'; clear x_b4'
  replace ha1 := ha1.fr hnd ho; replace ha2 := ha2.fr hnd ho; replace hq1 := hq1.fr hnd ho; replace hq2 := hq2.fr hnd ho; replace x_b1 := x_b1.frame ho ne_b1_b4; replace x_b2 := x_b2.frame ho ne_b2_b4; replace g11 := g11.fr hnd ho; replace g12 := g12.fr hnd ho; replace x_b3 := x_b3.frame ho ne_b3_b4; replace g21 := g21.fr hnd ho; replace g22 := g22.fr hnd ho; replace hb := belowOnly hb ho kb_b4
  refine hK _ _ rfl ?_; clear hK K ho hnd
  refine wpSq_call rfl (by kernel_rfl) fun K hK => ?_
  go_big_move; refine hK _ _ rfl ?_; clear hK K
  apply wpSq_end
  refine hK3 _ _ ?_
  refine wp_seq_k ?_
  intro K4 hK4
  refine wp_region_sq [0, 1, 2, 3, 4, 5, 6, 7, 8] (by kernel_rfl) ?_
  refine wpSq_call rfl (by kernel_rfl) fun K hK => ?_
  obtain ⟨d0, d1, d2, d3⟩ := x_b1.f4
  go_big_op; refine hK _ _ rfl ?_; clear hK K d0 d1 d2 d3
  refine wpSq_call rfl (by kernel_rfl) fun K hK => ?_
  obtain ⟨d0, d1, d2, d3⟩ := x_b2.f4
  go_big_op; refine hK _ _ rfl ?_; clear hK K d0 d1 d2 d3
  refine wpSq_call rfl (by kernel_rfl) fun K hK => ?_
  go_big_op
  go_fit (fMul_any (PN.mk' ha1 ha2) (PN.mk' hq1 hq2) (by omega) (by omega) (by omega) (by omega) H0.out)
  rintro e w_9 ⟨_, rfl, ⟨n_g3a, o_g3a, k_g3a, c_g3a, n_g3b, o_g3b, k_g3b, c_g3b, rfl, g31, g32⟩, hb_9⟩
  replace ha1 := ha1.bl hb_9; replace ha2 := ha2.bl hb_9; replace hq1 := hq1.bl hb_9; replace hq2 := hq2.bl hb_9; replace x_b1 := x_b1.bl hb_9; replace x_b2 := x_b2.bl hb_9; replace g11 := g11.bl hb_9; replace g12 := g12.bl hb_9; replace x_b3 := x_b3.bl hb_9; replace g21 := g21.bl hb_9; replace g22 := g22.bl hb_9; replace x_b4 := x_b4.bl hb_9; replace hb := hb.trans (hb_9.mono hb.size)
  have Lg31 := hide (g31.lenOf (qN_len (H0.out) (zlen_mul (ha1.len) (hq1.len))))
  have Lg32 := hide (g32.lenOf (qD_len (H0.out) (zlen_mul (ha2.len) (hq2.len))))
  refine hK _ _ rfl ?_
  clear hK K hb_9
  refine wpSq_call rfl (by kernel_rfl) fun K hK => ?_
  go_big_move; refine hK _ _ rfl ?_; clear hK K
  refine wpSq_call rfl (by kernel_rfl) fun K hK => ?_
  go_big_op; refine hK _ _ rfl ?_; clear hK K
  refine wpSq_call rfl (by kernel_rfl) fun K hK => ?_
  go_big_op; refine hK _ _ rfl ?_; clear hK K
  refine wpSq_call rfl (by kernel_rfl) fun K hK => ?_
  go_big_op
  have lt_b1 := x_b1.lt
  have lt_b2 := x_b2.lt
  have lt_b3 := x_b3.lt
  have lt_b4 := x_b4.lt
  obtain ⟨p_b5, w_10, eP, eW, x_b5, hn, kb_b5⟩ := newBox w_9 #[.bool false, .slice none 0 0, .bool false, .slice none 0 0] 26 hb.size
  have ne_b1_b5 : Hid (p_b1 ≠ p_b5) := Nat.ne_of_lt (eP ▸ lt_b1)
  have ne_b2_b5 : Hid (p_b2 ≠ p_b5) := Nat.ne_of_lt (eP ▸ lt_b2)
  have ne_b3_b5 : Hid (p_b3 ≠ p_b5) := Nat.ne_of_lt (eP ▸ lt_b3)
  have ne_b4_b5 : Hid (p_b4 ≠ p_b5) := Nat.ne_of_lt (eP ▸ lt_b4)
  rw [eW, eP]
  clear eW eP lt_b1 lt_b2 lt_b3 lt_b4
  replace ha1 := ha1.bl hn; replace ha2 := ha2.bl hn; replace hq1 := hq1.bl hn; replace hq2 := hq2.bl hn; replace x_b1 := x_b1.bl hn; replace x_b2 := x_b2.bl hn; replace g11 := g11.bl hn; replace g12 := g12.bl hn; replace x_b3 := x_b3.bl hn; replace g21 := g21.bl hn; replace g22 := g22.bl hn; replace x_b4 := x_b4.bl hn; replace g31 := g31.bl hn; replace g32 := g32.bl hn; replace hb := hb.trans (hn.mono hb.size)
  refine hK _ _ rfl ?_; clear hK K hn
  refine wpSq_call rfl (by kernel_rfl) fun K hK => ?_
  obtain ⟨d0, d1, d2, d3⟩ := x_b5.f4
  have f0 := x_b5.free 0; have f1 := x_b5.free 1; have f2 := x_b5.free 2; have f3 := x_b5.free 3
  go_big_op
  have hnd := x_b5.nod rfl rfl
  obtain ⟨w_11, eW, x_b5', ho⟩ : ∃ w', ((((w_10.setCell ⟨p_b5, 0, none⟩ (.bool n_g3a)).setCell ⟨p_b5, 1, none⟩ (.slice o_g3a k_g3a c_g3a)).setCell ⟨p_b5, 2, none⟩ (.bool n_g3b)).setCell ⟨p_b5, 3, none⟩ (.slice o_g3b k_g3b c_g3b)) = w' ∧ Bs w' p_b5 #[.bool n_g3a, .slice o_g3a k_g3a c_g3a, .bool n_g3b, .slice o_g3b k_g3b c_g3b] 26 ∧ Only p_b5 w_10 w' := x_b5.setN [(0, .bool n_g3a), (1, .slice o_g3a k_g3a c_g3a), (2, .bool n_g3b), (3, .slice o_g3b k_g3b c_g3b)]
  rw [eW]; clear eW d0 d1 d2 d3 f0 f1 f2 f3 x_b5
  have x_b5 := x_b5'; clear x_b5'
  replace ha1 := ha1.fr hnd ho; replace ha2 := ha2.fr hnd ho; replace hq1 := hq1.fr hnd ho; replace hq2 := hq2.fr hnd ho; replace x_b1 := x_b1.frame ho ne_b1_b5; replace x_b2 := x_b2.frame ho ne_b2_b5; replace g11 := g11.fr hnd ho; replace g12 := g12.fr hnd ho; replace x_b3 := x_b3.frame ho ne_b3_b5; replace g21 := g21.fr hnd ho; replace g22 := g22.fr hnd ho; replace x_b4 := x_b4.frame ho ne_b4_b5; replace g31 := g31.fr hnd ho; replace g32 := g32.fr hnd ho; replace hb := belowOnly hb ho kb_b5
  refine hK _ _ rfl ?_; clear hK K ho hnd
  refine wpSq_call rfl (by kernel_rfl) fun K hK => ?_
  go_big_move; refine hK _ _ rfl ?_; clear hK K
  apply wpSq_end
  refine hK4 _ _ ?_
  refine wp_seq_k ?_
  intro K5 hK5
  refine wp_region_sq [0, 1, 2, 3, 4, 5, 6, 7, 8] (by kernel_rfl) ?_
  refine wpSq_call rfl (by kernel_rfl) fun K hK => ?_
  obtain ⟨d0, d1, d2, d3⟩ := x_b1.f4
  go_big_op; refine hK _ _ rfl ?_; clear hK K d0 d1 d2 d3
  refine wpSq_call rfl (by kernel_rfl) fun K hK => ?_
  obtain ⟨d0, d1, d2, d3⟩ := x_b2.f4
  go_big_op; refine hK _ _ rfl ?_; clear hK K d0 d1 d2 d3
  refine wpSq_call rfl (by kernel_rfl) fun K hK => ?_
  go_big_op
  go_fit (fQuo_any (PN.mk' ha1 ha2) (PN.mk' hq1 hq2) (by omega) (by omega) (by omega) (by omega) HM.out HV.out)
  rintro e w_12 ⟨_, rfl, ⟨n_g4a, o_g4a, k_g4a, c_g4a, n_g4b, o_g4b, k_g4b, c_g4b, rfl, g41, g42⟩, hb_12⟩
  replace ha1 := ha1.bl hb_12; replace ha2 := ha2.bl hb_12; replace hq1 := hq1.bl hb_12; replace hq2 := hq2.bl hb_12; replace x_b1 := x_b1.bl hb_12; replace x_b2 := x_b2.bl hb_12; replace g11 := g11.bl hb_12; replace g12 := g12.bl hb_12; replace x_b3 := x_b3.bl hb_12; replace g21 := g21.bl hb_12; replace g22 := g22.bl hb_12; replace x_b4 := x_b4.bl hb_12; replace g31 := g31.bl hb_12; replace g32 := g32.bl hb_12; replace x_b5 := x_b5.bl hb_12; replace hb := hb.trans (hb_12.mono hb.size)
  have Lg41 := hide (g41.lenOf (qN_len (HM.out) (zlen_mul (ha1.len) (hq2.len))))
  have Lg42 := hide (g42.lenOf (qD_len (HM.out) (zlen_mul (hq1.len) (ha2.len))))
  refine hK _ _ rfl ?_
  clear hK K hb_12
  refine wpSq_call rfl (by kernel_rfl) fun K hK => ?_
  go_big_move; refine hK _ _ rfl ?_; clear hK K
  refine wpSq_call rfl (by kernel_rfl) fun K hK => ?_
  go_big_op; refine hK _ _ rfl ?_; clear hK K
  refine wpSq_call rfl (by kernel_rfl) fun K hK => ?_
  go_big_op; refine hK _ _ rfl ?_; clear hK K
  refine wpSq_call rfl (by kernel_rfl) fun K hK => ?_
  go_big_op
  have lt_b1 := x_b1.lt
  have lt_b2 := x_b2.lt
  have lt_b3 := x_b3.lt
  have lt_b4 := x_b4.lt
  have lt_b5 := x_b5.lt
  obtain ⟨p_b6, w_13, eP, eW, x_b6, hn, kb_b6⟩ := newBox w_12 #[.bool false, .slice none 0 0, .bool false, .slice none 0 0] 26 hb.size
  have ne_b1_b6 : Hid (p_b1 ≠ p_b6) := Nat.ne_of_lt (eP ▸ lt_b1)
  have ne_b2_b6 : Hid (p_b2 ≠ p_b6) := Nat.ne_of_lt (eP ▸ lt_b2)
  have ne_b3_b6 : Hid (p_b3 ≠ p_b6) := Nat.ne_of_lt (eP ▸ lt_b3)
  have ne_b4_b6 : Hid (p_b4 ≠ p_b6) := Nat.ne_of_lt (eP ▸ lt_b4)
  have ne_b5_b6 : Hid (p_b5 ≠ p_b6) := Nat.ne_of_lt (eP ▸ lt_b5)
  rw [eW, eP]
  clear eW eP lt_b1 lt_b2 lt_b3 lt_b4 lt_b5
  replace ha1 := ha1.bl hn; replace ha2 := ha2.bl hn; replace hq1 := hq1.bl hn; replace hq2 := hq2.bl hn; replace x_b1 := x_b1.bl hn; replace x_b2 := x_b2.bl hn; replace g11 := g11.bl hn; replace g12 := g12.bl hn; replace x_b3 := x_b3.bl hn; replace g21 := g21.bl hn; replace g22 := g22.bl hn; replace x_b4 := x_b4.bl hn; replace g31 := g31.bl hn; replace g32 := g32.bl hn; replace x_b5 := x_b5.bl hn; replace g41 := g41.bl hn; replace g42 := g42.bl hn; replace hb := hb.trans (hn.mono hb.size)
  refine hK _ _ rfl ?_; clear hK K hn
  refine wpSq_call rfl (by kernel_rfl) fun K hK => ?_
  obtain ⟨d0, d1, d2, d3⟩ := x_b6.f4
  have f0 := x_b6.free 0; have f1 := x_b6.free 1; have f2 := x_b6.free 2; have f3 := x_b6.free 3
  go_big_op
  have hnd := x_b6.nod rfl rfl
  obtain ⟨w_14, eW, x_b6', ho⟩ : ∃ w', ((((w_13.setCell ⟨p_b6, 0, none⟩ (.bool n_g4a)).setCell ⟨p_b6, 1, none⟩ (.slice o_g4a k_g4a c_g4a)).setCell ⟨p_b6, 2, none⟩ (.bool n_g4b)).setCell ⟨p_b6, 3, none⟩ (.slice o_g4b k_g4b c_g4b)) = w' ∧ Bs w' p_b6 #[.bool n_g4a, .slice o_g4a k_g4a c_g4a, .bool n_g4b, .slice o_g4b k_g4b c_g4b] 26 ∧ Only p_b6 w_13 w' := x_b6.setN [(0, .bool n_g4a), (1, .slice o_g4a k_g4a c_g4a), (2, .bool n_g4b), (3, .slice o_g4b k_g4b c_g4b)]
  rw [eW]; clear eW d0 d1 d2 d3 f0 f1 f2 f3 x_b6
  have x_b6 := x_b6'; clear x_b6'
  replace ha1 := ha1.fr hnd ho; replace ha2 := ha2.fr hnd ho; replace hq1 := hq1.fr hnd ho; replace hq2 := hq2.fr hnd ho; replace x_b1 := x_b1.frame ho ne_b1_b6; replace x_b2 := x_b2.frame ho ne_b2_b6; replace g11 := g11.fr hnd ho; replace g12 := g12.fr hnd ho; replace x_b3 := x_b3.frame ho ne_b3_b6; replace g21 := g21.fr hnd ho; replace g22 := g22.fr hnd ho; replace x_b4 := x_b4.frame ho ne_b4_b6; replace g31 := g31.fr hnd ho; replace g32 := g32.fr hnd ho; replace x_b5 := x_b5.frame ho ne_b5_b6; replace g41 := g41.fr hnd ho; replace g42 := g42.fr hnd ho; replace hb := belowOnly hb ho kb_b6
  refine hK _ _ rfl ?_; clear hK K ho hnd
  refine wpSq_call rfl (by kernel_rfl) fun K hK => ?_
  go_big_move; refine hK _ _ rfl ?_; clear hK K
  apply wpSq_end
  refine hK5 _ _ ?_
  refine wp_seq_k ?_
  intro K6 hK6
  refine wp_region_sq [0, 1, 2, 3, 4, 5, 6, 7] (by kernel_rfl) ?_
  refine wpSq_call rfl (by kernel_rfl) fun K hK => ?_
  obtain ⟨d0, d1, d2, d3⟩ := x_b1.f4
  go_big_op; refine hK _ _ rfl ?_; clear hK K d0 d1 d2 d3
  refine wpSq_call rfl (by kernel_rfl) fun K hK => ?_
  obtain ⟨d0, d1, d2, d3⟩ := x_b2.f4
  go_big_op; refine hK _ _ rfl ?_; clear hK K d0 d1 d2 d3
  refine wpSq_call rfl (by kernel_rfl) fun K hK => ?_
  go_big_op
  go_fit (fCmp_any (PN.mk' ha1 ha2) (PN.mk' hq1 hq2) (by omega) (by omega) (by omega) (by omega) HY.out HV.out)
  rintro e w_15 ⟨rfl, hb_15⟩
  replace ha1 := ha1.bl hb_15; replace ha2 := ha2.bl hb_15; replace hq1 := hq1.bl hb_15; replace hq2 := hq2.bl hb_15; replace x_b1 := x_b1.bl hb_15; replace x_b2 := x_b2.bl hb_15; replace g11 := g11.bl hb_15; replace g12 := g12.bl hb_15; replace x_b3 := x_b3.bl hb_15; replace g21 := g21.bl hb_15; replace g22 := g22.bl hb_15; replace x_b4 := x_b4.bl hb_15; replace g31 := g31.bl hb_15; replace g32 := g32.bl hb_15; replace x_b5 := x_b5.bl hb_15; replace g41 := g41.bl hb_15; replace g42 := g42.bl hb_15; replace x_b6 := x_b6.bl hb_15; replace hb := hb.trans (hb_15.mono hb.size)
  rw [HC.out]
  refine hK _ _ rfl ?_
  clear hK K hb_15
  refine wpSq_call rfl (by kernel_rfl) fun K hK => ?_
  go_big_move; refine hK _ _ rfl ?_; clear hK K
  refine wpSq_call rfl (by kernel_rfl) fun K hK => ?_
  go_big_op; refine hK _ _ rfl ?_; clear hK K
  refine wpSq_call rfl (by kernel_rfl) fun K hK => ?_
  go_big_op; refine hK _ _ rfl ?_; clear hK K
  refine wpSq_call rfl (by kernel_rfl) fun K hK => ?_
  go_big_move; refine hK _ _ rfl ?_; clear hK K
  refine wpSq_call rfl (by kernel_rfl) fun K hK => ?_
  go_big_move; refine hK _ _ rfl ?_; clear hK K
  apply wpSq_end
  refine hK6 _ _ ?_
  refine wp_seq_k ?_
  intro K7 hK7
  refine wp_seq_k ?_
  intro K8 hK8
  refine wp_region_sq [0, 1] (by kernel_rfl) ?_
  refine wpSq_call rfl (by kernel_rfl) fun K hK => ?_
  go_big_op
  go_fit (fawake_any _ (htabs _ hb))
  rintro e w_16 ⟨rfl, hb_16⟩
  replace ha1 := ha1.bl hb_16; replace ha2 := ha2.bl hb_16; replace hq1 := hq1.bl hb_16; replace hq2 := hq2.bl hb_16; replace x_b1 := x_b1.bl hb_16; replace x_b2 := x_b2.bl hb_16; replace g11 := g11.bl hb_16; replace g12 := g12.bl hb_16; replace x_b3 := x_b3.bl hb_16; replace g21 := g21.bl hb_16; replace g22 := g22.bl hb_16; replace x_b4 := x_b4.bl hb_16; replace g31 := g31.bl hb_16; replace g32 := g32.bl hb_16; replace x_b5 := x_b5.bl hb_16; replace g41 := g41.bl hb_16; replace g42 := g42.bl hb_16; replace x_b6 := x_b6.bl hb_16; replace hb := hb.trans (hb_16.mono hb.size)
  refine hK _ _ rfl ?_
  clear hK K hb_16
  refine wpSq_call rfl (by kernel_rfl) fun K hK => ?_
  go_big_op; refine hK _ _ rfl ?_; clear hK K
  apply wpSq_end
  refine hK8 _ _ ?_
  refine wp_cond_false (congrArg Value.bool (show _ = false from (by first | rfl | assumption | (simp; done) | omega))) ?_
  refine wp_skip ?_
  refine hK7 _ _ ?_
  refine wp_seq_k ?_
  intro K9 hK9
  refine wp_seq_k ?_
  intro K10 hK10
  refine wp_region_sq [0, 1, 2, 3, 4, 5] (by kernel_rfl) ?_
  refine wpSq_call rfl (by kernel_rfl) fun K hK => ?_
  obtain ⟨d0, d1, d2, d3⟩ := x_b1.f4
  go_big_op; refine hK _ _ rfl ?_; clear hK K d0 d1 d2 d3
  refine wpSq_call rfl (by kernel_rfl) fun K hK => ?_
  go_big_op
  go_fit (rbad_no (PN.mk' ha1 ha2) (by omega) (by omega) HY.out)
  rintro e w_17 ⟨rfl, hb_17⟩
  replace ha1 := ha1.bl hb_17; replace ha2 := ha2.bl hb_17; replace hq1 := hq1.bl hb_17; replace hq2 := hq2.bl hb_17; replace x_b1 := x_b1.bl hb_17; replace x_b2 := x_b2.bl hb_17; replace g11 := g11.bl hb_17; replace g12 := g12.bl hb_17; replace x_b3 := x_b3.bl hb_17; replace g21 := g21.bl hb_17; replace g22 := g22.bl hb_17; replace x_b4 := x_b4.bl hb_17; replace g31 := g31.bl hb_17; replace g32 := g32.bl hb_17; replace x_b5 := x_b5.bl hb_17; replace g41 := g41.bl hb_17; replace g42 := g42.bl hb_17; replace x_b6 := x_b6.bl hb_17; replace hb := hb.trans (hb_17.mono hb.size)
  refine hK _ _ rfl ?_
  clear hK K hb_17
  refine wpSq_call rfl (by kernel_rfl) fun K hK => ?_
  go_big_move; refine hK _ _ rfl ?_; clear hK K
  refine wpSq_call rfl (by kernel_rfl) fun K hK => ?_
  obtain ⟨d0, d1, d2, d3⟩ := x_b2.f4
  go_big_op; refine hK _ _ rfl ?_; clear hK K d0 d1 d2 d3
  refine wpSq_call rfl (by kernel_rfl) fun K hK => ?_
  go_big_op
  go_fit (rbad_no (PN.mk' hq1 hq2) (by omega) (by omega) HV.out)
  rintro e w_18 ⟨rfl, hb_18⟩
  replace ha1 := ha1.bl hb_18; replace ha2 := ha2.bl hb_18; replace hq1 := hq1.bl hb_18; replace hq2 := hq2.bl hb_18; replace x_b1 := x_b1.bl hb_18; replace x_b2 := x_b2.bl hb_18; replace g11 := g11.bl hb_18; replace g12 := g12.bl hb_18; replace x_b3 := x_b3.bl hb_18; replace g21 := g21.bl hb_18; replace g22 := g22.bl hb_18; replace x_b4 := x_b4.bl hb_18; replace g31 := g31.bl hb_18; replace g32 := g32.bl hb_18; replace x_b5 := x_b5.bl hb_18; replace g41 := g41.bl hb_18; replace g42 := g42.bl hb_18; replace x_b6 := x_b6.bl hb_18; replace hb := hb.trans (hb_18.mono hb.size)
  refine hK _ _ rfl ?_
  clear hK K hb_18
  refine wpSq_call rfl (by kernel_rfl) fun K hK => ?_
  go_big_op; refine hK _ _ rfl ?_; clear hK K
  apply wpSq_end
  refine hK10 _ _ ?_
  refine wp_cond_false (congrArg Value.bool (show _ = false from (by first | rfl | assumption | (simp; done) | omega))) ?_
  refine wp_skip ?_
  refine hK9 _ _ ?_
  refine wp_seq_k ?_
  intro K11 hK11
  refine wp_seq_k ?_
  intro K12 hK12
  refine wp_region_fl2 [(0, false), (1, false), (2, false), (3, false), (4, true), (5, true), (6, false), (7, false), (8, false), (9, false), (10, false), (11, false), (12, true), (13, true), (14, false), (15, false), (16, false), (17, false), (18, false), (19, false), (20, false), (21, true), (22, true), (23, false), (24, false), (25, false), (26, false), (27, false), (28, false), (29, false), (30, false), (31, false), (32, false), (33, true), (34, false), (35, false)] [] [] (fun _ => default) [0, 99, 1, 2, 99, 99, 99, 99, 3, 99, 1, 2, 99, 99, 99, 99, 99, 4, 99, 1, 2, 99, 99, 99, 99, 99, 99, 99, 99, 99, 99, 1, 2, 99, 99, 99] [] (fun w' => w'.cell? ⟨p_b3, 0, none⟩ = some (.bool n_g1a) ∧ w'.cell? ⟨p_b3, 1, none⟩ = some (.slice o_g1a k_g1a c_g1a) ∧ w'.cell? ⟨p_b3, 2, none⟩ = some (.bool n_g1b) ∧ w'.cell? ⟨p_b3, 3, none⟩ = some (.slice o_g1b k_g1b c_g1b) ∧ w'.cell? ⟨p_b1, 0, none⟩ = some (.bool n_0a) ∧ w'.cell? ⟨p_b1, 1, none⟩ = some (.slice o_0a k_0a c_0a) ∧ w'.cell? ⟨p_b1, 2, none⟩ = some (.bool n_0b) ∧ w'.cell? ⟨p_b1, 3, none⟩ = some (.slice o_0b k_0b c_0b) ∧ w'.cell? ⟨p_b2, 0, none⟩ = some (.bool n_1a) ∧ w'.cell? ⟨p_b2, 1, none⟩ = some (.slice o_1a k_1a c_1a) ∧ w'.cell? ⟨p_b2, 2, none⟩ = some (.bool n_1b) ∧ w'.cell? ⟨p_b2, 3, none⟩ = some (.slice o_1b k_1b c_1b) ∧ w'.cell? ⟨p_b4, 0, none⟩ = some (.bool n_g2a) ∧ w'.cell? ⟨p_b4, 1, none⟩ = some (.slice o_g2a k_g2a c_g2a) ∧ w'.cell? ⟨p_b4, 2, none⟩ = some (.bool n_g2b) ∧ w'.cell? ⟨p_b4, 3, none⟩ = some (.slice o_g2b k_g2b c_g2b) ∧ w'.cell? ⟨p_b5, 0, none⟩ = some (.bool n_g3a) ∧ w'.cell? ⟨p_b5, 1, none⟩ = some (.slice o_g3a k_g3a c_g3a) ∧ w'.cell? ⟨p_b5, 2, none⟩ = some (.bool n_g3b) ∧ w'.cell? ⟨p_b5, 3, none⟩ = some (.slice o_g3b k_g3b c_g3b)) [fun w' => w'.cell? ⟨p_b3, 0, none⟩ = some (.bool n_g1a) ∧ w'.cell? ⟨p_b3, 1, none⟩ = some (.slice o_g1a k_g1a c_g1a) ∧ w'.cell? ⟨p_b3, 2, none⟩ = some (.bool n_g1b) ∧ w'.cell? ⟨p_b3, 3, none⟩ = some (.slice o_g1b k_g1b c_g1b), fun w' => w'.cell? ⟨p_b1, 0, none⟩ = some (.bool n_0a) ∧ w'.cell? ⟨p_b1, 1, none⟩ = some (.slice o_0a k_0a c_0a) ∧ w'.cell? ⟨p_b1, 2, none⟩ = some (.bool n_0b) ∧ w'.cell? ⟨p_b1, 3, none⟩ = some (.slice o_0b k_0b c_0b), fun w' => w'.cell? ⟨p_b2, 0, none⟩ = some (.bool n_1a) ∧ w'.cell? ⟨p_b2, 1, none⟩ = some (.slice o_1a k_1a c_1a) ∧ w'.cell? ⟨p_b2, 2, none⟩ = some (.bool n_1b) ∧ w'.cell? ⟨p_b2, 3, none⟩ = some (.slice o_1b k_1b c_1b), fun w' => w'.cell? ⟨p_b4, 0, none⟩ = some (.bool n_g2a) ∧ w'.cell? ⟨p_b4, 1, none⟩ = some (.slice o_g2a k_g2a c_g2a) ∧ w'.cell? ⟨p_b4, 2, none⟩ = some (.bool n_g2b) ∧ w'.cell? ⟨p_b4, 3, none⟩ = some (.slice o_g2b k_g2b c_g2b), fun w' => w'.cell? ⟨p_b5, 0, none⟩ = some (.bool n_g3a) ∧ w'.cell? ⟨p_b5, 1, none⟩ = some (.slice o_g3a k_g3a c_g3a) ∧ w'.cell? ⟨p_b5, 2, none⟩ = some (.bool n_g3b) ∧ w'.cell? ⟨p_b5, 3, none⟩ = some (.slice o_g3b k_g3b c_g3b)] (by kernel_rfl) (by kernel_rfl) (by kernel_rfl) (by kernel_rfl) (by kernel_rfl) (by kernel_rfl) (by kernel_rfl) (by kernel_rfl) (by decide) (by intro j hj; cases hj) (by intro w' o hC; obtain ⟨c0, c1, c2, c3, c4, c5, c6, c7, c8, c9, c10, c11, c12, c13, c14, c15, c16, c17, c18, c19⟩ := hC; exact ⟨cell_alloc c0 o, cell_alloc c1 o, cell_alloc c2 o, cell_alloc c3 o, cell_alloc c4 o, cell_alloc c5 o, cell_alloc c6 o, cell_alloc c7 o, cell_alloc c8 o, cell_alloc c9 o, cell_alloc c10 o, cell_alloc c11 o, cell_alloc c12 o, cell_alloc c13 o, cell_alloc c14 o, cell_alloc c15 o, cell_alloc c16 o, cell_alloc c17 o, cell_alloc c18 o, cell_alloc c19 o⟩) (by intro w' hC G hG; obtain ⟨c0, c1, c2, c3, c4, c5, c6, c7, c8, c9, c10, c11, c12, c13, c14, c15, c16, c17, c18, c19⟩ := hC; simp only [List.mem_cons, List.not_mem_nil, or_false] at hG; rcases hG with rfl | rfl | rfl | rfl | rfl <;> first | exact ⟨c0, c1, c2, c3⟩ | exact ⟨c4, c5, c6, c7⟩ | exact ⟨c8, c9, c10, c11⟩ | exact ⟨c12, c13, c14, c15⟩ | exact ⟨c16, c17, c18, c19⟩) ?_
  have lt_b1 := x_b1.lt
  have lt_b2 := x_b2.lt
  have lt_b3 := x_b3.lt
  have lt_b4 := x_b4.lt
  have lt_b5 := x_b5.lt
  have lt_b6 := x_b6.lt
  intro w_19 hn
  replace lt_b1 := Nat.lt_of_lt_of_le lt_b1 hn.size
  replace lt_b2 := Nat.lt_of_lt_of_le lt_b2 hn.size
  replace lt_b3 := Nat.lt_of_lt_of_le lt_b3 hn.size
  replace lt_b4 := Nat.lt_of_lt_of_le lt_b4 hn.size
  replace lt_b5 := Nat.lt_of_lt_of_le lt_b5 hn.size
  replace lt_b6 := Nat.lt_of_lt_of_le lt_b6 hn.size
  replace ha1 := ha1.bl hn; replace ha2 := ha2.bl hn; replace hq1 := hq1.bl hn; replace hq2 := hq2.bl hn; replace x_b1 := x_b1.bl hn; replace x_b2 := x_b2.bl hn; replace g11 := g11.bl hn; replace g12 := g12.bl hn; replace x_b3 := x_b3.bl hn; replace g21 := g21.bl hn; replace g22 := g22.bl hn; replace x_b4 := x_b4.bl hn; replace g31 := g31.bl hn; replace g32 := g32.bl hn; replace x_b5 := x_b5.bl hn; replace g41 := g41.bl hn; replace g42 := g42.bl hn; replace x_b6 := x_b6.bl hn; replace hb := hb.trans (hn.mono hb.size)
  clear hn
  have kb0 := hb.size
  refine ⟨⟨x_b3.cell 0 rfl, x_b3.cell 1 rfl, x_b3.cell 2 rfl, x_b3.cell 3 rfl, x_b1.cell 0 rfl, x_b1.cell 1 rfl, x_b1.cell 2 rfl, x_b1.cell 3 rfl, x_b2.cell 0 rfl, x_b2.cell 1 rfl, x_b2.cell 2 rfl, x_b2.cell 3 rfl, x_b4.cell 0 rfl, x_b4.cell 1 rfl, x_b4.cell 2 rfl, x_b4.cell 3 rfl, x_b5.cell 0 rfl, x_b5.cell 1 rfl, x_b5.cell 2 rfl, x_b5.cell 3 rfl⟩, ?_⟩
  apply wpFl_ld rfl rfl; (case h1 => intro w' hC K hK; obtain ⟨c0, c1, c2, c3⟩ := hC; go_big_op; exact hK); iterate 4 kernel_rfl
  apply wpFl_ld rfl rfl; (case h1 => intro w' hC K hK; go_big_move; exact hK); iterate 4 kernel_rfl
  apply wpFl_ld rfl rfl; (case h1 => intro w' hC K hK; obtain ⟨c0, c1, c2, c3⟩ := hC; go_big_op; exact hK); iterate 4 kernel_rfl
  apply wpFl_ld rfl rfl; (case h1 => intro w' hC K hK; obtain ⟨c0, c1, c2, c3⟩ := hC; go_big_op; exact hK); iterate 4 kernel_rfl
  refine wpFl_call rfl (by kernel_rfl) fun w_20 hn hC => ?_; clear hC
  replace ha1 := ha1.bl hn; replace ha2 := ha2.bl hn; replace hq1 := hq1.bl hn; replace hq2 := hq2.bl hn; replace x_b1 := x_b1.bl hn; replace x_b2 := x_b2.bl hn; replace g11 := g11.bl hn; replace g12 := g12.bl hn; replace x_b3 := x_b3.bl hn; replace g21 := g21.bl hn; replace g22 := g22.bl hn; replace x_b4 := x_b4.bl hn; replace g31 := g31.bl hn; replace g32 := g32.bl hn; replace x_b5 := x_b5.bl hn; replace g41 := g41.bl hn; replace g42 := g42.bl hn; replace x_b6 := x_b6.bl hn; replace hb := hb.trans (hn.mono hb.size)
  clear hn; intro K hK
  go_big_op
  go_fit (rfAdd_any (PN.mk' ha1 ha2) (PN.mk' hq1 hq2) (by omega) (by omega) (by omega) (by omega) H0.out)
  rintro e w_21 ⟨_, rfl, ⟨n_r1a, o_r1a, k_r1a, c_r1a, n_r1b, o_r1b, k_r1b, c_r1b, rfl, r11, r12⟩, hb_21⟩
  replace ha1 := ha1.bl hb_21; replace ha2 := ha2.bl hb_21; replace hq1 := hq1.bl hb_21; replace hq2 := hq2.bl hb_21; replace x_b1 := x_b1.bl hb_21; replace x_b2 := x_b2.bl hb_21; replace g11 := g11.bl hb_21; replace g12 := g12.bl hb_21; replace x_b3 := x_b3.bl hb_21; replace g21 := g21.bl hb_21; replace g22 := g22.bl hb_21; replace x_b4 := x_b4.bl hb_21; replace g31 := g31.bl hb_21; replace g32 := g32.bl hb_21; replace x_b5 := x_b5.bl hb_21; replace g41 := g41.bl hb_21; replace g42 := g42.bl hb_21; replace x_b6 := x_b6.bl hb_21; replace hb := hb.trans (hb_21.mono hb.size)
  have Lr11 := hide (r11.lenOf (qN_len (H0.out) (zlen_opAdd (zlen_mul (ha1.len) (hq2.len)) (zlen_mul (hq1.len) (ha2.len)))))
  have Lr12 := hide (r12.lenOf (qD_len (H0.out) (zlen_mul (ha2.len) (hq2.len))))
  refine hK _ _ rfl hb_21 ⟨x_b3.cell 0 rfl, x_b3.cell 1 rfl, x_b3.cell 2 rfl, x_b3.cell 3 rfl, x_b1.cell 0 rfl, x_b1.cell 1 rfl, x_b1.cell 2 rfl, x_b1.cell 3 rfl, x_b2.cell 0 rfl, x_b2.cell 1 rfl, x_b2.cell 2 rfl, x_b2.cell 3 rfl, x_b4.cell 0 rfl, x_b4.cell 1 rfl, x_b4.cell 2 rfl, x_b4.cell 3 rfl, x_b5.cell 0 rfl, x_b5.cell 1 rfl, x_b5.cell 2 rfl, x_b5.cell 3 rfl⟩ ?_
  clear hK K hb_21
  refine wpFl_call rfl (by kernel_rfl) fun w_22 hn hC => ?_; clear hC
  replace ha1 := ha1.bl hn; replace ha2 := ha2.bl hn; replace hq1 := hq1.bl hn; replace hq2 := hq2.bl hn; replace x_b1 := x_b1.bl hn; replace x_b2 := x_b2.bl hn; replace g11 := g11.bl hn; replace g12 := g12.bl hn; replace x_b3 := x_b3.bl hn; replace g21 := g21.bl hn; replace g22 := g22.bl hn; replace x_b4 := x_b4.bl hn; replace g31 := g31.bl hn; replace g32 := g32.bl hn; replace x_b5 := x_b5.bl hn; replace g41 := g41.bl hn; replace g42 := g42.bl hn; replace x_b6 := x_b6.bl hn; replace r11 := r11.bl hn; replace r12 := r12.bl hn; replace hb := hb.trans (hn.mono hb.size)
  clear hn; intro K hK
  go_big_op
  go_fit (ftold_low (PC.mk' g11 g12) (PC.mk' r11 r12)  (low_q H0.out) (Nat.le_trans Lr11.out (by omega)) (Nat.le_trans Lr12.out (by omega)))
  rintro e w_23 ⟨rfl, hb_23⟩
  replace ha1 := ha1.bl hb_23; replace ha2 := ha2.bl hb_23; replace hq1 := hq1.bl hb_23; replace hq2 := hq2.bl hb_23; replace x_b1 := x_b1.bl hb_23; replace x_b2 := x_b2.bl hb_23; replace g11 := g11.bl hb_23; replace g12 := g12.bl hb_23; replace x_b3 := x_b3.bl hb_23; replace g21 := g21.bl hb_23; replace g22 := g22.bl hb_23; replace x_b4 := x_b4.bl hb_23; replace g31 := g31.bl hb_23; replace g32 := g32.bl hb_23; replace x_b5 := x_b5.bl hb_23; replace g41 := g41.bl hb_23; replace g42 := g42.bl hb_23; replace x_b6 := x_b6.bl hb_23; replace r11 := r11.bl hb_23; replace r12 := r12.bl hb_23; replace hb := hb.trans (hb_23.mono hb.size)
  refine hK _ _ rfl hb_23 ⟨x_b3.cell 0 rfl, x_b3.cell 1 rfl, x_b3.cell 2 rfl, x_b3.cell 3 rfl, x_b1.cell 0 rfl, x_b1.cell 1 rfl, x_b1.cell 2 rfl, x_b1.cell 3 rfl, x_b2.cell 0 rfl, x_b2.cell 1 rfl, x_b2.cell 2 rfl, x_b2.cell 3 rfl, x_b4.cell 0 rfl, x_b4.cell 1 rfl, x_b4.cell 2 rfl, x_b4.cell 3 rfl, x_b5.cell 0 rfl, x_b5.cell 1 rfl, x_b5.cell 2 rfl, x_b5.cell 3 rfl⟩ ?_
  clear hK K hb_23
  apply wpFl_ld rfl rfl; (case h1 => intro w' hC K hK; go_big_op; exact hK); iterate 4 kernel_rfl
  apply wpFl_ld rfl rfl; (case h1 => intro w' hC K hK; go_big_move; exact hK); iterate 4 kernel_rfl
  apply wpFl_ld rfl rfl; (case h1 => intro w' hC K hK; obtain ⟨c0, c1, c2, c3⟩ := hC; go_big_op; exact hK); iterate 4 kernel_rfl
  apply wpFl_ld rfl rfl; (case h1 => intro w' hC K hK; go_big_move; exact hK); iterate 4 kernel_rfl
  apply wpFl_ld rfl rfl; (case h1 => intro w' hC K hK; obtain ⟨c0, c1, c2, c3⟩ := hC; go_big_op; exact hK); iterate 4 kernel_rfl
  apply wpFl_ld rfl rfl; (case h1 => intro w' hC K hK; obtain ⟨c0, c1, c2, c3⟩ := hC; go_big_op; exact hK); iterate 4 kernel_rfl
  refine wpFl_call rfl (by kernel_rfl) fun w_24 hn hC => ?_; clear hC
  clear r11 r12
  replace ha1 := ha1.bl hn; replace ha2 := ha2.bl hn; replace hq1 := hq1.bl hn; replace hq2 := hq2.bl hn; replace x_b1 := x_b1.bl hn; replace x_b2 := x_b2.bl hn; replace g11 := g11.bl hn; replace g12 := g12.bl hn; replace x_b3 := x_b3.bl hn; replace g21 := g21.bl hn; replace g22 := g22.bl hn; replace x_b4 := x_b4.bl hn; replace g31 := g31.bl hn; replace g32 := g32.bl hn; replace x_b5 := x_b5.bl hn; replace g41 := g41.bl hn; replace g42 := g42.bl hn; replace x_b6 := x_b6.bl hn; replace hb := hb.trans (hn.mono hb.size)
  clear hn; intro K hK
  go_big_op
  go_fit (rfSub_any (PN.mk' ha1 ha2) (PN.mk' hq1 hq2) (by omega) (by omega) (by omega) (by omega) HY.out HV.out)
  rintro e w_25 ⟨_, rfl, ⟨n_r2a, o_r2a, k_r2a, c_r2a, n_r2b, o_r2b, k_r2b, c_r2b, rfl, r21, r22⟩, hb_25⟩
  replace ha1 := ha1.bl hb_25; replace ha2 := ha2.bl hb_25; replace hq1 := hq1.bl hb_25; replace hq2 := hq2.bl hb_25; replace x_b1 := x_b1.bl hb_25; replace x_b2 := x_b2.bl hb_25; replace g11 := g11.bl hb_25; replace g12 := g12.bl hb_25; replace x_b3 := x_b3.bl hb_25; replace g21 := g21.bl hb_25; replace g22 := g22.bl hb_25; replace x_b4 := x_b4.bl hb_25; replace g31 := g31.bl hb_25; replace g32 := g32.bl hb_25; replace x_b5 := x_b5.bl hb_25; replace g41 := g41.bl hb_25; replace g42 := g42.bl hb_25; replace x_b6 := x_b6.bl hb_25; replace hb := hb.trans (hb_25.mono hb.size)
  have Lr21 := hide (r21.lenOf (qN_len (Int.mul_ne_zero (HY.out) (HV.out)) (zlen_opSub (zlen_mul (ha1.len) (hq2.len)) (zlen_mul (hq1.len) (ha2.len)))))
  have Lr22 := hide (r22.lenOf (qD_len (Int.mul_ne_zero (HY.out) (HV.out)) (zlen_mul (ha2.len) (hq2.len))))
  refine hK _ _ rfl hb_25 ⟨x_b3.cell 0 rfl, x_b3.cell 1 rfl, x_b3.cell 2 rfl, x_b3.cell 3 rfl, x_b1.cell 0 rfl, x_b1.cell 1 rfl, x_b1.cell 2 rfl, x_b1.cell 3 rfl, x_b2.cell 0 rfl, x_b2.cell 1 rfl, x_b2.cell 2 rfl, x_b2.cell 3 rfl, x_b4.cell 0 rfl, x_b4.cell 1 rfl, x_b4.cell 2 rfl, x_b4.cell 3 rfl, x_b5.cell 0 rfl, x_b5.cell 1 rfl, x_b5.cell 2 rfl, x_b5.cell 3 rfl⟩ ?_
  clear hK K hb_25
  refine wpFl_call rfl (by kernel_rfl) fun w_26 hn hC => ?_; clear hC
  replace ha1 := ha1.bl hn; replace ha2 := ha2.bl hn; replace hq1 := hq1.bl hn; replace hq2 := hq2.bl hn; replace x_b1 := x_b1.bl hn; replace x_b2 := x_b2.bl hn; replace g11 := g11.bl hn; replace g12 := g12.bl hn; replace x_b3 := x_b3.bl hn; replace g21 := g21.bl hn; replace g22 := g22.bl hn; replace x_b4 := x_b4.bl hn; replace g31 := g31.bl hn; replace g32 := g32.bl hn; replace x_b5 := x_b5.bl hn; replace g41 := g41.bl hn; replace g42 := g42.bl hn; replace x_b6 := x_b6.bl hn; replace r21 := r21.bl hn; replace r22 := r22.bl hn; replace hb := hb.trans (hn.mono hb.size)
  clear hn; intro K hK
  go_big_op
  go_fit (ftold_low (PC.mk' g21 g22) (PC.mk' r21 r22)  (low_q H0.out) (Nat.le_trans Lr21.out (by omega)) (Nat.le_trans Lr22.out (by omega)))
  rintro e w_27 ⟨rfl, hb_27⟩
  replace ha1 := ha1.bl hb_27; replace ha2 := ha2.bl hb_27; replace hq1 := hq1.bl hb_27; replace hq2 := hq2.bl hb_27; replace x_b1 := x_b1.bl hb_27; replace x_b2 := x_b2.bl hb_27; replace g11 := g11.bl hb_27; replace g12 := g12.bl hb_27; replace x_b3 := x_b3.bl hb_27; replace g21 := g21.bl hb_27; replace g22 := g22.bl hb_27; replace x_b4 := x_b4.bl hb_27; replace g31 := g31.bl hb_27; replace g32 := g32.bl hb_27; replace x_b5 := x_b5.bl hb_27; replace g41 := g41.bl hb_27; replace g42 := g42.bl hb_27; replace x_b6 := x_b6.bl hb_27; replace r21 := r21.bl hb_27; replace r22 := r22.bl hb_27; replace hb := hb.trans (hb_27.mono hb.size)
  refine hK _ _ rfl hb_27 ⟨x_b3.cell 0 rfl, x_b3.cell 1 rfl, x_b3.cell 2 rfl, x_b3.cell 3 rfl, x_b1.cell 0 rfl, x_b1.cell 1 rfl, x_b1.cell 2 rfl, x_b1.cell 3 rfl, x_b2.cell 0 rfl, x_b2.cell 1 rfl, x_b2.cell 2 rfl, x_b2.cell 3 rfl, x_b4.cell 0 rfl, x_b4.cell 1 rfl, x_b4.cell 2 rfl, x_b4.cell 3 rfl, x_b5.cell 0 rfl, x_b5.cell 1 rfl, x_b5.cell 2 rfl, x_b5.cell 3 rfl⟩ ?_
  clear hK K hb_27
  apply wpFl_ld rfl rfl; (case h1 => intro w' hC K hK; go_big_op; exact hK); iterate 4 kernel_rfl
  apply wpFl_ld rfl rfl; (case h1 => intro w' hC K hK; go_big_op; exact hK); iterate 4 kernel_rfl
  apply wpFl_ld rfl rfl; (case h1 => intro w' hC K hK; go_big_move; exact hK); iterate 4 kernel_rfl
  apply wpFl_ld rfl rfl; (case h1 => intro w' hC K hK; obtain ⟨c0, c1, c2, c3⟩ := hC; go_big_op; exact hK); iterate 4 kernel_rfl
  apply wpFl_ld rfl rfl; (case h1 => intro w' hC K hK; go_big_move; exact hK); iterate 4 kernel_rfl
  apply wpFl_ld rfl rfl; (case h1 => intro w' hC K hK; obtain ⟨c0, c1, c2, c3⟩ := hC; go_big_op; exact hK); iterate 4 kernel_rfl
  apply wpFl_ld rfl rfl; (case h1 => intro w' hC K hK; obtain ⟨c0, c1, c2, c3⟩ := hC; go_big_op; exact hK); iterate 4 kernel_rfl
  refine wpFl_call rfl (by kernel_rfl) fun w_28 hn hC => ?_; clear hC
  clear r21 r22
  replace ha1 := ha1.bl hn; replace ha2 := ha2.bl hn; replace hq1 := hq1.bl hn; replace hq2 := hq2.bl hn; replace x_b1 := x_b1.bl hn; replace x_b2 := x_b2.bl hn; replace g11 := g11.bl hn; replace g12 := g12.bl hn; replace x_b3 := x_b3.bl hn; replace g21 := g21.bl hn; replace g22 := g22.bl hn; replace x_b4 := x_b4.bl hn; replace g31 := g31.bl hn; replace g32 := g32.bl hn; replace x_b5 := x_b5.bl hn; replace g41 := g41.bl hn; replace g42 := g42.bl hn; replace x_b6 := x_b6.bl hn; replace hb := hb.trans (hn.mono hb.size)
  clear hn; intro K hK
  go_big_op
  go_fit (rfMul_any (PN.mk' ha1 ha2) (PN.mk' hq1 hq2) (by omega) (by omega) (by omega) (by omega) H0.out)
  rintro e w_29 ⟨_, rfl, ⟨n_r3a, o_r3a, k_r3a, c_r3a, n_r3b, o_r3b, k_r3b, c_r3b, rfl, r31, r32⟩, hb_29⟩
  replace ha1 := ha1.bl hb_29; replace ha2 := ha2.bl hb_29; replace hq1 := hq1.bl hb_29; replace hq2 := hq2.bl hb_29; replace x_b1 := x_b1.bl hb_29; replace x_b2 := x_b2.bl hb_29; replace g11 := g11.bl hb_29; replace g12 := g12.bl hb_29; replace x_b3 := x_b3.bl hb_29; replace g21 := g21.bl hb_29; replace g22 := g22.bl hb_29; replace x_b4 := x_b4.bl hb_29; replace g31 := g31.bl hb_29; replace g32 := g32.bl hb_29; replace x_b5 := x_b5.bl hb_29; replace g41 := g41.bl hb_29; replace g42 := g42.bl hb_29; replace x_b6 := x_b6.bl hb_29; replace hb := hb.trans (hb_29.mono hb.size)
  have Lr31 := hide (r31.lenOf (qN_len (H0.out) (zlen_mul (ha1.len) (hq1.len))))
  have Lr32 := hide (r32.lenOf (qD_len (H0.out) (zlen_mul (ha2.len) (hq2.len))))
  refine hK _ _ rfl hb_29 ⟨x_b3.cell 0 rfl, x_b3.cell 1 rfl, x_b3.cell 2 rfl, x_b3.cell 3 rfl, x_b1.cell 0 rfl, x_b1.cell 1 rfl, x_b1.cell 2 rfl, x_b1.cell 3 rfl, x_b2.cell 0 rfl, x_b2.cell 1 rfl, x_b2.cell 2 rfl, x_b2.cell 3 rfl, x_b4.cell 0 rfl, x_b4.cell 1 rfl, x_b4.cell 2 rfl, x_b4.cell 3 rfl, x_b5.cell 0 rfl, x_b5.cell 1 rfl, x_b5.cell 2 rfl, x_b5.cell 3 rfl⟩ ?_
  clear hK K hb_29
  refine wpFl_call rfl (by kernel_rfl) fun w_30 hn hC => ?_; clear hC
  replace ha1 := ha1.bl hn; replace ha2 := ha2.bl hn; replace hq1 := hq1.bl hn; replace hq2 := hq2.bl hn; replace x_b1 := x_b1.bl hn; replace x_b2 := x_b2.bl hn; replace g11 := g11.bl hn; replace g12 := g12.bl hn; replace x_b3 := x_b3.bl hn; replace g21 := g21.bl hn; replace g22 := g22.bl hn; replace x_b4 := x_b4.bl hn; replace g31 := g31.bl hn; replace g32 := g32.bl hn; replace x_b5 := x_b5.bl hn; replace g41 := g41.bl hn; replace g42 := g42.bl hn; replace x_b6 := x_b6.bl hn; replace r31 := r31.bl hn; replace r32 := r32.bl hn; replace hb := hb.trans (hn.mono hb.size)
  clear hn; intro K hK
  go_big_op
  go_fit (ftold_low (PC.mk' g31 g32) (PC.mk' r31 r32)  (low_q H0.out) (Nat.le_trans Lr31.out (by omega)) (Nat.le_trans Lr32.out (by omega)))
  rintro e w_31 ⟨rfl, hb_31⟩
  replace ha1 := ha1.bl hb_31; replace ha2 := ha2.bl hb_31; replace hq1 := hq1.bl hb_31; replace hq2 := hq2.bl hb_31; replace x_b1 := x_b1.bl hb_31; replace x_b2 := x_b2.bl hb_31; replace g11 := g11.bl hb_31; replace g12 := g12.bl hb_31; replace x_b3 := x_b3.bl hb_31; replace g21 := g21.bl hb_31; replace g22 := g22.bl hb_31; replace x_b4 := x_b4.bl hb_31; replace g31 := g31.bl hb_31; replace g32 := g32.bl hb_31; replace x_b5 := x_b5.bl hb_31; replace g41 := g41.bl hb_31; replace g42 := g42.bl hb_31; replace x_b6 := x_b6.bl hb_31; replace r31 := r31.bl hb_31; replace r32 := r32.bl hb_31; replace hb := hb.trans (hb_31.mono hb.size)
  refine hK _ _ rfl hb_31 ⟨x_b3.cell 0 rfl, x_b3.cell 1 rfl, x_b3.cell 2 rfl, x_b3.cell 3 rfl, x_b1.cell 0 rfl, x_b1.cell 1 rfl, x_b1.cell 2 rfl, x_b1.cell 3 rfl, x_b2.cell 0 rfl, x_b2.cell 1 rfl, x_b2.cell 2 rfl, x_b2.cell 3 rfl, x_b4.cell 0 rfl, x_b4.cell 1 rfl, x_b4.cell 2 rfl, x_b4.cell 3 rfl, x_b5.cell 0 rfl, x_b5.cell 1 rfl, x_b5.cell 2 rfl, x_b5.cell 3 rfl⟩ ?_
  clear hK K hb_31
  apply wpFl_ld rfl rfl; (case h1 => intro w' hC K hK; go_big_op; exact hK); iterate 4 kernel_rfl
  apply wpFl_ld rfl rfl; (case h1 => intro w' hC K hK; go_big_op; exact hK); iterate 4 kernel_rfl
  apply wpFl_ld rfl rfl; (case h1 => intro w' hC K hK; go_big_move; exact hK); iterate 4 kernel_rfl
  apply wpFl_ld rfl rfl; (case h1 => intro w' hC K hK; go_big_move; exact hK); iterate 4 kernel_rfl
  apply wpFl_ld rfl rfl; (case h1 => intro w' hC K hK; go_big_op; exact hK); iterate 4 kernel_rfl
  apply wpFl_ld rfl rfl; (case h1 => intro w' hC K hK; go_big_op; exact hK); iterate 4 kernel_rfl
  apply wpFl_ld rfl rfl; (case h1 => intro w' hC K hK; go_big_move; exact hK); iterate 4 kernel_rfl
  apply wpFl_ld rfl rfl; (case h1 => intro w' hC K hK; go_big_move; exact hK); iterate 4 kernel_rfl
  apply wpFl_ld rfl rfl; (case h1 => intro w' hC K hK; obtain ⟨c0, c1, c2, c3⟩ := hC; go_big_op; exact hK); iterate 4 kernel_rfl
  apply wpFl_ld rfl rfl; (case h1 => intro w' hC K hK; obtain ⟨c0, c1, c2, c3⟩ := hC; go_big_op; exact hK); iterate 4 kernel_rfl
  refine wpFl_call rfl (by kernel_rfl) fun w_32 hn hC => ?_; clear hC
  clear r31 r32
  replace ha1 := ha1.bl hn; replace ha2 := ha2.bl hn; replace hq1 := hq1.bl hn; replace hq2 := hq2.bl hn; replace x_b1 := x_b1.bl hn; replace x_b2 := x_b2.bl hn; replace g11 := g11.bl hn; replace g12 := g12.bl hn; replace x_b3 := x_b3.bl hn; replace g21 := g21.bl hn; replace g22 := g22.bl hn; replace x_b4 := x_b4.bl hn; replace g31 := g31.bl hn; replace g32 := g32.bl hn; replace x_b5 := x_b5.bl hn; replace g41 := g41.bl hn; replace g42 := g42.bl hn; replace x_b6 := x_b6.bl hn; replace hb := hb.trans (hn.mono hb.size)
  clear hn; intro K hK
  go_big_op
  go_fit (rfCmp_any (PN.mk' ha1 ha2) (PN.mk' hq1 hq2) (by omega) (by omega) (by omega) (by omega) HY.out HV.out)
  rintro e w_33 ⟨rfl, hb_33⟩
  replace ha1 := ha1.bl hb_33; replace ha2 := ha2.bl hb_33; replace hq1 := hq1.bl hb_33; replace hq2 := hq2.bl hb_33; replace x_b1 := x_b1.bl hb_33; replace x_b2 := x_b2.bl hb_33; replace g11 := g11.bl hb_33; replace g12 := g12.bl hb_33; replace x_b3 := x_b3.bl hb_33; replace g21 := g21.bl hb_33; replace g22 := g22.bl hb_33; replace x_b4 := x_b4.bl hb_33; replace g31 := g31.bl hb_33; replace g32 := g32.bl hb_33; replace x_b5 := x_b5.bl hb_33; replace g41 := g41.bl hb_33; replace g42 := g42.bl hb_33; replace x_b6 := x_b6.bl hb_33; replace hb := hb.trans (hb_33.mono hb.size)
  rw [HC.out]
  refine hK _ _ rfl hb_33 ⟨x_b3.cell 0 rfl, x_b3.cell 1 rfl, x_b3.cell 2 rfl, x_b3.cell 3 rfl, x_b1.cell 0 rfl, x_b1.cell 1 rfl, x_b1.cell 2 rfl, x_b1.cell 3 rfl, x_b2.cell 0 rfl, x_b2.cell 1 rfl, x_b2.cell 2 rfl, x_b2.cell 3 rfl, x_b4.cell 0 rfl, x_b4.cell 1 rfl, x_b4.cell 2 rfl, x_b4.cell 3 rfl, x_b5.cell 0 rfl, x_b5.cell 1 rfl, x_b5.cell 2 rfl, x_b5.cell 3 rfl⟩ ?_
  clear hK K hb_33
  apply wpFl_ld rfl rfl; (case h1 => intro w' hC K hK; go_big_op; exact hK); iterate 4 kernel_rfl
  apply wpFl_ld rfl rfl; (case h1 => intro w' hC K hK; go_big_op; exact hK); iterate 4 kernel_rfl
  apply wpFl_end
  case ha => intro pt; simp only [putF]; rfl
  case h =>
  intro w_34 pt hn hC hF hD
  clear hC
  replace ha1 := ha1.bl hn; replace ha2 := ha2.bl hn; replace hq1 := hq1.bl hn; replace hq2 := hq2.bl hn; replace x_b1 := x_b1.bl hn; replace x_b2 := x_b2.bl hn; replace g11 := g11.bl hn; replace g12 := g12.bl hn; replace x_b3 := x_b3.bl hn; replace g21 := g21.bl hn; replace g22 := g22.bl hn; replace x_b4 := x_b4.bl hn; replace g31 := g31.bl hn; replace g32 := g32.bl hn; replace x_b5 := x_b5.bl hn; replace g41 := g41.bl hn; replace g42 := g42.bl hn; replace x_b6 := x_b6.bl hn; replace hb := hb.trans (hn.mono hb.size)
  clear hn
  clear hF hD
  clear pt
  clear kb0 lt_b1 lt_b2 lt_b3 lt_b4 lt_b5 lt_b6
  apply wpTail_end
  refine hK12 _ _ ?_
  refine wp_cond_false (congrArg Value.bool (show _ = false from (by first | rfl | assumption | (simp; done) | omega))) ?_
  refine wp_skip ?_
  refine hK11 _ _ ?_
  refine wp_seq_k ?_
  intro K13 hK13
  refine wp_seq_k ?_
  intro K14 hK14
  refine wp_region_sq [0, 1, 2] (by kernel_rfl) ?_
  refine wpSq_call rfl (by kernel_rfl) fun K hK => ?_
  obtain ⟨d0, d1, d2, d3⟩ := x_b2.f4
  go_big_op; refine hK _ _ rfl ?_; clear hK K d0 d1 d2 d3
  refine wpSq_call rfl (by kernel_rfl) fun K hK => ?_
  go_big_op
  go_fit (rfSign_any (PN.mk' hq1 hq2) (by omega) (by omega) )
  rintro e w_35 ⟨rfl, hb_35⟩
  clear g11 g12 x_b3 g21 g22 x_b4 g31 g32 x_b5
  replace ha1 := ha1.bl hb_35; replace ha2 := ha2.bl hb_35; replace hq1 := hq1.bl hb_35; replace hq2 := hq2.bl hb_35; replace x_b1 := x_b1.bl hb_35; replace x_b2 := x_b2.bl hb_35; replace g41 := g41.bl hb_35; replace g42 := g42.bl hb_35; replace x_b6 := x_b6.bl hb_35; replace hb := hb.trans (hb_35.mono hb.size)
  refine hK _ _ rfl ?_
  clear hK K hb_35
  refine wpSq_call rfl (by kernel_rfl) fun K hK => ?_
  go_big_op; refine hK _ _ rfl ?_; clear hK K
  apply wpSq_end
  refine hK14 _ _ ?_
  refine wp_cond_false (congrArg Value.bool (show _ = false from (by simpa using HU.out))) ?_
  refine wp_skip ?_
  refine hK13 _ _ ?_
  refine wp_seq_k ?_
  intro K15 hK15
  refine wp_region_fl2 [(0, false), (1, false), (2, false), (3, false), (4, true), (5, true), (6, false)] [] [] (fun _ => default) [0, 99, 1, 2, 99, 99, 99] [] (fun w' => w'.cell? ⟨p_b6, 0, none⟩ = some (.bool n_g4a) ∧ w'.cell? ⟨p_b6, 1, none⟩ = some (.slice o_g4a k_g4a c_g4a) ∧ w'.cell? ⟨p_b6, 2, none⟩ = some (.bool n_g4b) ∧ w'.cell? ⟨p_b6, 3, none⟩ = some (.slice o_g4b k_g4b c_g4b) ∧ w'.cell? ⟨p_b1, 0, none⟩ = some (.bool n_0a) ∧ w'.cell? ⟨p_b1, 1, none⟩ = some (.slice o_0a k_0a c_0a) ∧ w'.cell? ⟨p_b1, 2, none⟩ = some (.bool n_0b) ∧ w'.cell? ⟨p_b1, 3, none⟩ = some (.slice o_0b k_0b c_0b) ∧ w'.cell? ⟨p_b2, 0, none⟩ = some (.bool n_1a) ∧ w'.cell? ⟨p_b2, 1, none⟩ = some (.slice o_1a k_1a c_1a) ∧ w'.cell? ⟨p_b2, 2, none⟩ = some (.bool n_1b) ∧ w'.cell? ⟨p_b2, 3, none⟩ = some (.slice o_1b k_1b c_1b)) [fun w' => w'.cell? ⟨p_b6, 0, none⟩ = some (.bool n_g4a) ∧ w'.cell? ⟨p_b6, 1, none⟩ = some (.slice o_g4a k_g4a c_g4a) ∧ w'.cell? ⟨p_b6, 2, none⟩ = some (.bool n_g4b) ∧ w'.cell? ⟨p_b6, 3, none⟩ = some (.slice o_g4b k_g4b c_g4b), fun w' => w'.cell? ⟨p_b1, 0, none⟩ = some (.bool n_0a) ∧ w'.cell? ⟨p_b1, 1, none⟩ = some (.slice o_0a k_0a c_0a) ∧ w'.cell? ⟨p_b1, 2, none⟩ = some (.bool n_0b) ∧ w'.cell? ⟨p_b1, 3, none⟩ = some (.slice o_0b k_0b c_0b), fun w' => w'.cell? ⟨p_b2, 0, none⟩ = some (.bool n_1a) ∧ w'.cell? ⟨p_b2, 1, none⟩ = some (.slice o_1a k_1a c_1a) ∧ w'.cell? ⟨p_b2, 2, none⟩ = some (.bool n_1b) ∧ w'.cell? ⟨p_b2, 3, none⟩ = some (.slice o_1b k_1b c_1b)] (by kernel_rfl) (by kernel_rfl) (by kernel_rfl) (by kernel_rfl) (by kernel_rfl) (by kernel_rfl) (by kernel_rfl) (by kernel_rfl) (by decide) (by intro j hj; cases hj) (by intro w' o hC; obtain ⟨c0, c1, c2, c3, c4, c5, c6, c7, c8, c9, c10, c11⟩ := hC; exact ⟨cell_alloc c0 o, cell_alloc c1 o, cell_alloc c2 o, cell_alloc c3 o, cell_alloc c4 o, cell_alloc c5 o, cell_alloc c6 o, cell_alloc c7 o, cell_alloc c8 o, cell_alloc c9 o, cell_alloc c10 o, cell_alloc c11 o⟩) (by intro w' hC G hG; obtain ⟨c0, c1, c2, c3, c4, c5, c6, c7, c8, c9, c10, c11⟩ := hC; simp only [List.mem_cons, List.not_mem_nil, or_false] at hG; rcases hG with rfl | rfl | rfl <;> first | exact ⟨c0, c1, c2, c3⟩ | exact ⟨c4, c5, c6, c7⟩ | exact ⟨c8, c9, c10, c11⟩) ?_
  have lt_b1 := x_b1.lt
  have lt_b2 := x_b2.lt
  have lt_b6 := x_b6.lt
  intro w_36 hn
  replace lt_b1 := Nat.lt_of_lt_of_le lt_b1 hn.size
  replace lt_b2 := Nat.lt_of_lt_of_le lt_b2 hn.size
  replace lt_b6 := Nat.lt_of_lt_of_le lt_b6 hn.size
  replace ha1 := ha1.bl hn; replace ha2 := ha2.bl hn; replace hq1 := hq1.bl hn; replace hq2 := hq2.bl hn; replace x_b1 := x_b1.bl hn; replace x_b2 := x_b2.bl hn; replace g41 := g41.bl hn; replace g42 := g42.bl hn; replace x_b6 := x_b6.bl hn; replace hb := hb.trans (hn.mono hb.size)
  clear hn
  have kb0 := hb.size
  refine ⟨⟨x_b6.cell 0 rfl, x_b6.cell 1 rfl, x_b6.cell 2 rfl, x_b6.cell 3 rfl, x_b1.cell 0 rfl, x_b1.cell 1 rfl, x_b1.cell 2 rfl, x_b1.cell 3 rfl, x_b2.cell 0 rfl, x_b2.cell 1 rfl, x_b2.cell 2 rfl, x_b2.cell 3 rfl⟩, ?_⟩
  apply wpFl_ld rfl rfl; (case h1 => intro w' hC K hK; obtain ⟨c0, c1, c2, c3⟩ := hC; go_big_op; exact hK); iterate 4 kernel_rfl
  apply wpFl_ld rfl rfl; (case h1 => intro w' hC K hK; go_big_move; exact hK); iterate 4 kernel_rfl
  apply wpFl_ld rfl rfl; (case h1 => intro w' hC K hK; obtain ⟨c0, c1, c2, c3⟩ := hC; go_big_op; exact hK); iterate 4 kernel_rfl
  apply wpFl_ld rfl rfl; (case h1 => intro w' hC K hK; obtain ⟨c0, c1, c2, c3⟩ := hC; go_big_op; exact hK); iterate 4 kernel_rfl
  refine wpFl_call rfl (by kernel_rfl) fun w_37 hn hC => ?_; clear hC
  replace ha1 := ha1.bl hn; replace ha2 := ha2.bl hn; replace hq1 := hq1.bl hn; replace hq2 := hq2.bl hn; replace x_b1 := x_b1.bl hn; replace x_b2 := x_b2.bl hn; replace g41 := g41.bl hn; replace g42 := g42.bl hn; replace x_b6 := x_b6.bl hn; replace hb := hb.trans (hn.mono hb.size)
  clear hn; intro K hK
  go_big_op
  go_fit (rfQuo_any (PN.mk' ha1 ha2) (PN.mk' hq1 hq2) (by omega) (by omega) (by omega) (by omega) HM.out)
  rintro e w_38 ⟨_, rfl, ⟨n_r4a, o_r4a, k_r4a, c_r4a, n_r4b, o_r4b, k_r4b, c_r4b, rfl, r41, r42⟩, hb_38⟩
  replace ha1 := ha1.bl hb_38; replace ha2 := ha2.bl hb_38; replace hq1 := hq1.bl hb_38; replace hq2 := hq2.bl hb_38; replace x_b1 := x_b1.bl hb_38; replace x_b2 := x_b2.bl hb_38; replace g41 := g41.bl hb_38; replace g42 := g42.bl hb_38; replace x_b6 := x_b6.bl hb_38; replace hb := hb.trans (hb_38.mono hb.size)
  have Lr41 := hide (r41.lenOf (qN_len (HM.out) (zlen_mul (ha1.len) (hq2.len))))
  have Lr42 := hide (r42.lenOf (qD_len (HM.out) (zlen_mul (hq1.len) (ha2.len))))
  refine hK _ _ rfl hb_38 ⟨x_b6.cell 0 rfl, x_b6.cell 1 rfl, x_b6.cell 2 rfl, x_b6.cell 3 rfl, x_b1.cell 0 rfl, x_b1.cell 1 rfl, x_b1.cell 2 rfl, x_b1.cell 3 rfl, x_b2.cell 0 rfl, x_b2.cell 1 rfl, x_b2.cell 2 rfl, x_b2.cell 3 rfl⟩ ?_
  clear hK K hb_38
  refine wpFl_call rfl (by kernel_rfl) fun w_39 hn hC => ?_; clear hC
  replace ha1 := ha1.bl hn; replace ha2 := ha2.bl hn; replace hq1 := hq1.bl hn; replace hq2 := hq2.bl hn; replace x_b1 := x_b1.bl hn; replace x_b2 := x_b2.bl hn; replace g41 := g41.bl hn; replace g42 := g42.bl hn; replace x_b6 := x_b6.bl hn; replace r41 := r41.bl hn; replace r42 := r42.bl hn; replace hb := hb.trans (hn.mono hb.size)
  clear hn; intro K hK
  go_big_op
  go_fit (ftold_low (PC.mk' g41 g42) (PC.mk' r41 r42)  (low_q HM.out) (Nat.le_trans Lr41.out (by omega)) (Nat.le_trans Lr42.out (by omega)))
  rintro e w_40 ⟨rfl, hb_40⟩
  replace ha1 := ha1.bl hb_40; replace ha2 := ha2.bl hb_40; replace hq1 := hq1.bl hb_40; replace hq2 := hq2.bl hb_40; replace x_b1 := x_b1.bl hb_40; replace x_b2 := x_b2.bl hb_40; replace g41 := g41.bl hb_40; replace g42 := g42.bl hb_40; replace x_b6 := x_b6.bl hb_40; replace r41 := r41.bl hb_40; replace r42 := r42.bl hb_40; replace hb := hb.trans (hb_40.mono hb.size)
  refine hK _ _ rfl hb_40 ⟨x_b6.cell 0 rfl, x_b6.cell 1 rfl, x_b6.cell 2 rfl, x_b6.cell 3 rfl, x_b1.cell 0 rfl, x_b1.cell 1 rfl, x_b1.cell 2 rfl, x_b1.cell 3 rfl, x_b2.cell 0 rfl, x_b2.cell 1 rfl, x_b2.cell 2 rfl, x_b2.cell 3 rfl⟩ ?_
  clear hK K hb_40
  apply wpFl_ld rfl rfl; (case h1 => intro w' hC K hK; go_big_move; exact hK); iterate 4 kernel_rfl
  apply wpFl_end
  case ha => intro pt; simp only [putF]; rfl
  case h =>
  intro w_41 pt hn hC hF hD
  clear hC
  clear r41 r42
  replace ha1 := ha1.bl hn; replace ha2 := ha2.bl hn; replace hq1 := hq1.bl hn; replace hq2 := hq2.bl hn; replace x_b1 := x_b1.bl hn; replace x_b2 := x_b2.bl hn; replace g41 := g41.bl hn; replace g42 := g42.bl hn; replace x_b6 := x_b6.bl hn; replace hb := hb.trans (hn.mono hb.size)
  clear hn
  clear hF hD
  clear pt
  clear kb0 lt_b1 lt_b2 lt_b6
  apply wpTail_end
  refine hK15 _ _ ?_
  refine wp_ret ?_
  try dsimp only [Exit.then, Exit.inBlock]
  refine bodyPost_ret (v := (.bool true)) (by simp [results, Tryz.results5, go_sem]) rfl ?_
  exact ⟨rfl, hb⟩
end
theorem walk_FracSums (w : World) (n1 : Bool) (s1 : Value) (xs : List Nat) (h1 : Rd w s1 xs) (l1 : xs.length ≤ 1048576) (n2 : Bool) (s2 : Value) (ys : List Nat) (h2 : Rd w s2 ys) (l2 : ys.length ≤ 1048576)
    (n3 : Bool) (s3 : Value) (us : List Nat) (h3 : Rd w s3 us) (l3 : us.length ≤ 1048576) (n4 : Bool) (s4 : Value) (vs : List Nat) (h4 : Rd w s4 vs) (l4 : vs.length ≤ 1048576) (htab : Lib.TabIs Tryz.prog w p10 .u64 Lib.pow10Tab) :
    Calls Tryz.prog 5 #[.agg #[.bool n1, s1, .bool n2, s2], .agg #[.bool n3, s3, .bool n4, s4]] w fun e w' => e = .returned (.bool true) ∧ Below w.heap.size w w' := by
  have ha := PN.of_rd n1 n2 h1 l1 h2 l2
  have hq := PN.of_rd n3 n4 h3 l3 h4 l4
  have r := Nat.le_refl 1048576
  by_cases hy : zv n2 ys = 0
  · rw [hy] at ha; exact sums_bad1 ha hq r r r r htab
  by_cases hv : zv n4 vs = 0
  · rw [hv] at hq; exact sums_bad2 ha hq r r r r hy htab
  by_cases hu : zv n3 us = 0
  · rw [hu] at hq; exact sums_zero ha hq r r r r hy hv htab
  · exact sums_some ha hq r r r r hy hv hu htab
end Go.Proofs.YtkgbfnmlpajblaaGreatDoor

