/- GresReduced: the law's walk. -/
import Derived.Test.YtpdfahompajbjaaH8ToH15
import Derived.Test.YtpdfahompajbjaaH16ToH17
import Derived.Test.YtpdfahompajbjaaH10
namespace Go.Proofs.Ytpdfahompajbjaa
open Go Go.RowKit Dig
set_option maxHeartbeats 8000000
set_option maxRecDepth 20000
set_option linter.unusedVariables false
section
variable {w : World} {va vb vc vn : Value} {x y u v a b z : Int} {l m k n : Nat}
theorem gred_zero (ha : PN w va x 1048576 y 1048576) (hc : PN w vc a 1048576 b 1048576) (hx : ZN w vn z 1048576) (hq : PN w vb 0 1048576 0 1048576) :
    Calls Try.prog 3 #[va, vc, vn, vb] w fun e w' => e = .returned (.bool true) ∧ Below w.heap.size w w' := by
  obtain ⟨n_0a, o_0a, k_0a, c_0a, n_0b, o_0b, k_0b, c_0b, rfl, ha1, ha2⟩ := ha
  obtain ⟨n_1a, o_1a, k_1a, c_1a, n_1b, o_1b, k_1b, c_1b, rfl, hc1, hc2⟩ := hc
  obtain ⟨n_2, o_2, k_2, c_2, rfl⟩ := hx.open2
  obtain ⟨n_3a, o_3a, k_3a, c_3a, n_3b, o_3b, k_3b, c_3b, rfl, hq1, hq2⟩ := hq
  go_enter Try.func3, Try.ntmps3
  have hb := Below.refl w.heap.size w
  refine wp_seq_k ?_
  intro K1 hK1
  refine wp_region_sq [0, 1, 2, 3, 4] (by kernel_rfl) ?_
  refine sc fun K hK => ?_
  go_big_op
  obtain ⟨p_b1, w_1, eP, eW, x_b1, hn, kb_b1⟩ := newBox w #[.bool n_0a, .slice o_0a k_0a c_0a, .bool n_0b, .slice o_0b k_0b c_0b] 26 hb.size
  rw [eW, eP]
  clear eW eP
  replace ha1 := ha1.bl hn; replace ha2 := ha2.bl hn; replace hc1 := hc1.bl hn; replace hc2 := hc2.bl hn; replace hx := hx.bl hn; replace hq1 := hq1.bl hn; replace hq2 := hq2.bl hn; replace hb := tm hb hn
  refine hK _ _ rfl ?_; clear hK K hn
  refine sc fun K hK => ?_
  go_big_op
  have lt_b1 := x_b1.lt
  obtain ⟨p_b2, w_2, eP, eW, x_b2, hn, kb_b2⟩ := newBox w_1 #[.bool n_1a, .slice o_1a k_1a c_1a, .bool n_1b, .slice o_1b k_1b c_1b] 26 hb.size
  rw [eW, eP]
  clear eW eP lt_b1
  replace ha1 := ha1.bl hn; replace ha2 := ha2.bl hn; replace hc1 := hc1.bl hn; replace hc2 := hc2.bl hn; replace hx := hx.bl hn; replace hq1 := hq1.bl hn; replace hq2 := hq2.bl hn; replace x_b1 := x_b1.bl hn; replace hb := tm hb hn
  refine hK _ _ rfl ?_; clear hK K hn
  refine sc fun K hK => ?_
  go_big_op
  have lt_b1 := x_b1.lt
  have lt_b2 := x_b2.lt
  obtain ⟨p_b3, w_3, eP, eW, x_b3, hn, kb_b3⟩ := newBox w_2 #[.bool n_2, .slice o_2 k_2 c_2] 24 hb.size
  rw [eW, eP]
  clear eW eP lt_b1 lt_b2
  replace ha1 := ha1.bl hn; replace ha2 := ha2.bl hn; replace hc1 := hc1.bl hn; replace hc2 := hc2.bl hn; replace hx := hx.bl hn; replace hq1 := hq1.bl hn; replace hq2 := hq2.bl hn; replace x_b1 := x_b1.bl hn; replace x_b2 := x_b2.bl hn; replace hb := tm hb hn
  refine hK _ _ rfl ?_; clear hK K hn
  refine sc fun K hK => ?_
  go_big_op
  have lt_b1 := x_b1.lt
  have lt_b2 := x_b2.lt
  have lt_b3 := x_b3.lt
  obtain ⟨p_b4, w_4, eP, eW, x_b4, hn, kb_b4⟩ := newBox w_3 #[.bool n_3a, .slice o_3a k_3a c_3a, .bool n_3b, .slice o_3b k_3b c_3b] 26 hb.size
  rw [eW, eP]
  clear eW eP lt_b1 lt_b2 lt_b3
  replace ha1 := ha1.bl hn; replace ha2 := ha2.bl hn; replace hc1 := hc1.bl hn; replace hc2 := hc2.bl hn; replace hx := hx.bl hn; replace hq1 := hq1.bl hn; replace hq2 := hq2.bl hn; replace x_b1 := x_b1.bl hn; replace x_b2 := x_b2.bl hn; replace x_b3 := x_b3.bl hn; replace hb := tm hb hn
  refine hK _ _ rfl ?_; clear hK K hn
  refine sc fun K hK => ?_
  go_big_move; refine hK _ _ rfl ?_; clear hK K
  apply wpSq_end
  refine hK1 _ _ ?_
  refine wp_seq_k ?_
  intro K2 hK2
  refine wp_region_sq [0, 1, 2, 3, 4, 5, 6, 7, 8] (by kernel_rfl) ?_
  refine sc fun K hK => ?_
  obtain ⟨d0, d1, d2, d3⟩ := x_b1.f4
  go_big_op; refine hK _ _ rfl ?_; clear hK K d0 d1 d2 d3
  refine sc fun K hK => ?_
  obtain ⟨d0, d1, d2, d3⟩ := x_b4.f4
  go_big_op; refine hK _ _ rfl ?_; clear hK K d0 d1 d2 d3
  refine sc fun K hK => ?_
  go_big_op
  go_fit (gReduce_zero (.mk' ha1 ha2) (.mk' hq1 hq2) (by omega) (by omega) (by omega) (by omega))
  rintro e w_5 ⟨rfl, hb_5⟩
  replace ha1 := ha1.bl hb_5; replace ha2 := ha2.bl hb_5; replace hc1 := hc1.bl hb_5; replace hc2 := hc2.bl hb_5; replace hx := hx.bl hb_5; replace hq1 := hq1.bl hb_5; replace hq2 := hq2.bl hb_5; replace x_b1 := x_b1.bl hb_5; replace x_b2 := x_b2.bl hb_5; replace x_b3 := x_b3.bl hb_5; replace x_b4 := x_b4.bl hb_5; replace hb := tm hb hb_5
  refine hK _ _ rfl ?_
  clear hK K hb_5
  refine sc fun K hK => ?_
  go_big_move; refine hK _ _ rfl ?_; clear hK K
  refine sc fun K hK => ?_
  go_big_op; refine hK _ _ rfl ?_; clear hK K
  refine sc fun K hK => ?_
  go_big_op; refine hK _ _ rfl ?_; clear hK K
  refine sc fun K hK => ?_
  go_big_op
  have lt_b1 := x_b1.lt
  have lt_b2 := x_b2.lt
  have lt_b3 := x_b3.lt
  have lt_b4 := x_b4.lt
  obtain ⟨p_b5, w_6, eP, eW, x_b5, hn, kb_b5⟩ := newBox w_5 #[.bool false, .slice none 0 0, .bool false, .slice none 0 0] 26 hb.size
  have ne_b1_b5 : Hid (p_b1 ≠ p_b5) := Nat.ne_of_lt (eP ▸ lt_b1)
  have ne_b2_b5 : Hid (p_b2 ≠ p_b5) := Nat.ne_of_lt (eP ▸ lt_b2)
  have ne_b3_b5 : Hid (p_b3 ≠ p_b5) := Nat.ne_of_lt (eP ▸ lt_b3)
  have ne_b4_b5 : Hid (p_b4 ≠ p_b5) := Nat.ne_of_lt (eP ▸ lt_b4)
  rw [eW, eP]
  clear eW eP lt_b1 lt_b2 lt_b3 lt_b4
  replace ha1 := ha1.bl hn; replace ha2 := ha2.bl hn; replace hc1 := hc1.bl hn; replace hc2 := hc2.bl hn; replace hx := hx.bl hn; replace hq1 := hq1.bl hn; replace hq2 := hq2.bl hn; replace x_b1 := x_b1.bl hn; replace x_b2 := x_b2.bl hn; replace x_b3 := x_b3.bl hn; replace x_b4 := x_b4.bl hn; replace hb := tm hb hn
  refine hK _ _ rfl ?_; clear hK K hn
  refine sc fun K hK => ?_
  obtain ⟨d0, d1, d2, d3⟩ := x_b5.f4
  have f0 := x_b5.free 0; have f1 := x_b5.free 1; have f2 := x_b5.free 2; have f3 := x_b5.free 3
  go_big_op
  have hnd := x_b5.nod rfl rfl
  obtain ⟨w_7, eW, x_b5', ho⟩ : ∃ w', ((((w_6.setCell ⟨p_b5, 0, none⟩ (.bool false)).setCell ⟨p_b5, 1, none⟩ (.slice none 0 0)).setCell ⟨p_b5, 2, none⟩ (.bool false)).setCell ⟨p_b5, 3, none⟩ (.slice none 0 0)) = w' ∧ Bs w' p_b5 #[.bool false, .slice none 0 0, .bool false, .slice none 0 0] 26 ∧ Only p_b5 w_6 w' := x_b5.setN [(0, .bool false), (1, .slice none 0 0), (2, .bool false), (3, .slice none 0 0)]
  rw [eW]; clear eW d0 d1 d2 d3 f0 f1 f2 f3 x_b5
  have x_b5 := x_b5'; clear x_b5'
  replace ha1 := ha1.fr hnd ho; replace ha2 := ha2.fr hnd ho; replace hc1 := hc1.fr hnd ho; replace hc2 := hc2.fr hnd ho; replace hx := hx.fr hnd ho; replace hq1 := hq1.fr hnd ho; replace hq2 := hq2.fr hnd ho; replace x_b1 := x_b1.frame ho ne_b1_b5; replace x_b2 := x_b2.frame ho ne_b2_b5; replace x_b3 := x_b3.frame ho ne_b3_b5; replace x_b4 := x_b4.frame ho ne_b4_b5; replace hb := belowOnly hb ho kb_b5
  refine hK _ _ rfl ?_; clear hK K ho hnd
  refine sc fun K hK => ?_
  go_big_move; refine hK _ _ rfl ?_; clear hK K
  apply wpSq_end
  refine hK2 _ _ ?_
  refine wp_seq_k ?_
  intro K3 hK3
  refine wp_region_sq [0, 1, 2, 3, 4, 5, 6, 7, 8, 9] (by kernel_rfl) ?_
  refine sc fun K hK => ?_
  obtain ⟨d0, d1, d2, d3⟩ := x_b1.f4
  go_big_op; refine hK _ _ rfl ?_; clear hK K d0 d1 d2 d3
  refine sc fun K hK => ?_
  obtain ⟨d0, d1, d2, d3⟩ := x_b2.f4
  go_big_op; refine hK _ _ rfl ?_; clear hK K d0 d1 d2 d3
  refine sc fun K hK => ?_
  obtain ⟨d0, d1, d2, d3⟩ := x_b4.f4
  go_big_op; refine hK _ _ rfl ?_; clear hK K d0 d1 d2 d3
  refine sc fun K hK => ?_
  go_big_op
  go_fit (gresMul_zero (.mk' ha1 ha2) (.mk' hc1 hc2) (.mk' hq1 hq2) (by omega) (by omega) (by omega) (by omega) (by omega) (by omega))
  rintro e w_8 ⟨rfl, hb_8⟩
  replace ha1 := ha1.bl hb_8; replace ha2 := ha2.bl hb_8; replace hc1 := hc1.bl hb_8; replace hc2 := hc2.bl hb_8; replace hx := hx.bl hb_8; replace hq1 := hq1.bl hb_8; replace hq2 := hq2.bl hb_8; replace x_b1 := x_b1.bl hb_8; replace x_b2 := x_b2.bl hb_8; replace x_b3 := x_b3.bl hb_8; replace x_b4 := x_b4.bl hb_8; replace x_b5 := x_b5.bl hb_8; replace hb := tm hb hb_8
  refine hK _ _ rfl ?_
  clear hK K hb_8
  refine sc fun K hK => ?_
  go_big_move; refine hK _ _ rfl ?_; clear hK K
  refine sc fun K hK => ?_
  go_big_op; refine hK _ _ rfl ?_; clear hK K
  refine sc fun K hK => ?_
  go_big_op; refine hK _ _ rfl ?_; clear hK K
  refine sc fun K hK => ?_
  go_big_op
  have lt_b1 := x_b1.lt
  have lt_b2 := x_b2.lt
  have lt_b3 := x_b3.lt
  have lt_b4 := x_b4.lt
  have lt_b5 := x_b5.lt
  obtain ⟨p_b6, w_9, eP, eW, x_b6, hn, kb_b6⟩ := newBox w_8 #[.bool false, .slice none 0 0, .bool false, .slice none 0 0] 26 hb.size
  have ne_b1_b6 : Hid (p_b1 ≠ p_b6) := Nat.ne_of_lt (eP ▸ lt_b1)
  have ne_b2_b6 : Hid (p_b2 ≠ p_b6) := Nat.ne_of_lt (eP ▸ lt_b2)
  have ne_b3_b6 : Hid (p_b3 ≠ p_b6) := Nat.ne_of_lt (eP ▸ lt_b3)
  have ne_b4_b6 : Hid (p_b4 ≠ p_b6) := Nat.ne_of_lt (eP ▸ lt_b4)
  have ne_b5_b6 : Hid (p_b5 ≠ p_b6) := Nat.ne_of_lt (eP ▸ lt_b5)
  rw [eW, eP]
  clear eW eP lt_b1 lt_b2 lt_b3 lt_b4 lt_b5
  replace ha1 := ha1.bl hn; replace ha2 := ha2.bl hn; replace hc1 := hc1.bl hn; replace hc2 := hc2.bl hn; replace hx := hx.bl hn; replace hq1 := hq1.bl hn; replace hq2 := hq2.bl hn; replace x_b1 := x_b1.bl hn; replace x_b2 := x_b2.bl hn; replace x_b3 := x_b3.bl hn; replace x_b4 := x_b4.bl hn; replace x_b5 := x_b5.bl hn; replace hb := tm hb hn
  refine hK _ _ rfl ?_; clear hK K hn
  refine sc fun K hK => ?_
  obtain ⟨d0, d1, d2, d3⟩ := x_b6.f4
  have f0 := x_b6.free 0; have f1 := x_b6.free 1; have f2 := x_b6.free 2; have f3 := x_b6.free 3
  go_big_op
  have hnd := x_b6.nod rfl rfl
  obtain ⟨w_10, eW, x_b6', ho⟩ : ∃ w', ((((w_9.setCell ⟨p_b6, 0, none⟩ (.bool false)).setCell ⟨p_b6, 1, none⟩ (.slice none 0 0)).setCell ⟨p_b6, 2, none⟩ (.bool false)).setCell ⟨p_b6, 3, none⟩ (.slice none 0 0)) = w' ∧ Bs w' p_b6 #[.bool false, .slice none 0 0, .bool false, .slice none 0 0] 26 ∧ Only p_b6 w_9 w' := x_b6.setN [(0, .bool false), (1, .slice none 0 0), (2, .bool false), (3, .slice none 0 0)]
  rw [eW]; clear eW d0 d1 d2 d3 f0 f1 f2 f3 x_b6
  have x_b6 := x_b6'; clear x_b6'
  replace ha1 := ha1.fr hnd ho; replace ha2 := ha2.fr hnd ho; replace hc1 := hc1.fr hnd ho; replace hc2 := hc2.fr hnd ho; replace hx := hx.fr hnd ho; replace hq1 := hq1.fr hnd ho; replace hq2 := hq2.fr hnd ho; replace x_b1 := x_b1.frame ho ne_b1_b6; replace x_b2 := x_b2.frame ho ne_b2_b6; replace x_b3 := x_b3.frame ho ne_b3_b6; replace x_b4 := x_b4.frame ho ne_b4_b6; replace x_b5 := x_b5.frame ho ne_b5_b6; replace hb := belowOnly hb ho kb_b6
  refine hK _ _ rfl ?_; clear hK K ho hnd
  refine sc fun K hK => ?_
  go_big_move; refine hK _ _ rfl ?_; clear hK K
  apply wpSq_end
  refine hK3 _ _ ?_
  refine wp_seq_k ?_
  intro K4 hK4
  refine wp_region_sq [0, 1, 2, 3, 4, 5, 6, 7, 8, 9] (by kernel_rfl) ?_
  refine sc fun K hK => ?_
  obtain ⟨d0, d1, d2, d3⟩ := x_b1.f4
  go_big_op; refine hK _ _ rfl ?_; clear hK K d0 d1 d2 d3
  refine sc fun K hK => ?_
  obtain ⟨d0, d1⟩ := x_b3.f2
  go_big_op; refine hK _ _ rfl ?_; clear hK K d0 d1
  refine sc fun K hK => ?_
  obtain ⟨d0, d1, d2, d3⟩ := x_b4.f4
  go_big_op; refine hK _ _ rfl ?_; clear hK K d0 d1 d2 d3
  refine sc fun K hK => ?_
  go_big_op
  go_fit (gPow_zero (.mk' ha1 ha2) hx (.mk' hq1 hq2) (by omega) (by omega) (by omega) (by omega))
  rintro e w_11 ⟨rfl, hb_11⟩
  replace ha1 := ha1.bl hb_11; replace ha2 := ha2.bl hb_11; replace hc1 := hc1.bl hb_11; replace hc2 := hc2.bl hb_11; replace hx := hx.bl hb_11; replace hq1 := hq1.bl hb_11; replace hq2 := hq2.bl hb_11; replace x_b1 := x_b1.bl hb_11; replace x_b2 := x_b2.bl hb_11; replace x_b3 := x_b3.bl hb_11; replace x_b4 := x_b4.bl hb_11; replace x_b5 := x_b5.bl hb_11; replace x_b6 := x_b6.bl hb_11; replace hb := tm hb hb_11
  refine hK _ _ rfl ?_
  clear hK K hb_11
  refine sc fun K hK => ?_
  go_big_move; refine hK _ _ rfl ?_; clear hK K
  refine sc fun K hK => ?_
  go_big_op; refine hK _ _ rfl ?_; clear hK K
  refine sc fun K hK => ?_
  go_big_op; refine hK _ _ rfl ?_; clear hK K
  refine sc fun K hK => ?_
  go_big_op
  have lt_b1 := x_b1.lt
  have lt_b2 := x_b2.lt
  have lt_b3 := x_b3.lt
  have lt_b4 := x_b4.lt
  have lt_b5 := x_b5.lt
  have lt_b6 := x_b6.lt
  obtain ⟨p_b7, w_12, eP, eW, x_b7, hn, kb_b7⟩ := newBox w_11 #[.bool false, .slice none 0 0, .bool false, .slice none 0 0] 26 hb.size
  have ne_b1_b7 : Hid (p_b1 ≠ p_b7) := Nat.ne_of_lt (eP ▸ lt_b1)
  have ne_b2_b7 : Hid (p_b2 ≠ p_b7) := Nat.ne_of_lt (eP ▸ lt_b2)
  have ne_b3_b7 : Hid (p_b3 ≠ p_b7) := Nat.ne_of_lt (eP ▸ lt_b3)
  have ne_b4_b7 : Hid (p_b4 ≠ p_b7) := Nat.ne_of_lt (eP ▸ lt_b4)
  have ne_b5_b7 : Hid (p_b5 ≠ p_b7) := Nat.ne_of_lt (eP ▸ lt_b5)
  have ne_b6_b7 : Hid (p_b6 ≠ p_b7) := Nat.ne_of_lt (eP ▸ lt_b6)
  rw [eW, eP]
  clear eW eP lt_b1 lt_b2 lt_b3 lt_b4 lt_b5 lt_b6
  replace ha1 := ha1.bl hn; replace ha2 := ha2.bl hn; replace hc1 := hc1.bl hn; replace hc2 := hc2.bl hn; replace hx := hx.bl hn; replace hq1 := hq1.bl hn; replace hq2 := hq2.bl hn; replace x_b1 := x_b1.bl hn; replace x_b2 := x_b2.bl hn; replace x_b3 := x_b3.bl hn; replace x_b4 := x_b4.bl hn; replace x_b5 := x_b5.bl hn; replace x_b6 := x_b6.bl hn; replace hb := tm hb hn
  refine hK _ _ rfl ?_; clear hK K hn
  refine sc fun K hK => ?_
  obtain ⟨d0, d1, d2, d3⟩ := x_b7.f4
  have f0 := x_b7.free 0; have f1 := x_b7.free 1; have f2 := x_b7.free 2; have f3 := x_b7.free 3
  go_big_op
  have hnd := x_b7.nod rfl rfl
  obtain ⟨w_13, eW, x_b7', ho⟩ : ∃ w', ((((w_12.setCell ⟨p_b7, 0, none⟩ (.bool false)).setCell ⟨p_b7, 1, none⟩ (.slice none 0 0)).setCell ⟨p_b7, 2, none⟩ (.bool false)).setCell ⟨p_b7, 3, none⟩ (.slice none 0 0)) = w' ∧ Bs w' p_b7 #[.bool false, .slice none 0 0, .bool false, .slice none 0 0] 26 ∧ Only p_b7 w_12 w' := x_b7.setN [(0, .bool false), (1, .slice none 0 0), (2, .bool false), (3, .slice none 0 0)]
  rw [eW]; clear eW d0 d1 d2 d3 f0 f1 f2 f3 x_b7
  have x_b7 := x_b7'; clear x_b7'
  replace ha1 := ha1.fr hnd ho; replace ha2 := ha2.fr hnd ho; replace hc1 := hc1.fr hnd ho; replace hc2 := hc2.fr hnd ho; replace hx := hx.fr hnd ho; replace hq1 := hq1.fr hnd ho; replace hq2 := hq2.fr hnd ho; replace x_b1 := x_b1.frame ho ne_b1_b7; replace x_b2 := x_b2.frame ho ne_b2_b7; replace x_b3 := x_b3.frame ho ne_b3_b7; replace x_b4 := x_b4.frame ho ne_b4_b7; replace x_b5 := x_b5.frame ho ne_b5_b7; replace x_b6 := x_b6.frame ho ne_b6_b7; replace hb := belowOnly hb ho kb_b7
  refine hK _ _ rfl ?_; clear hK K ho hnd
  refine sc fun K hK => ?_
  go_big_move; refine hK _ _ rfl ?_; clear hK K
  apply wpSq_end
  refine hK4 _ _ ?_
  refine wp_seq_k ?_
  intro K5 hK5
  refine wp_region_sq [0, 1, 2, 3, 4, 5, 6, 7] (by kernel_rfl) ?_
  refine sc fun K hK => ?_
  obtain ⟨d0, d1, d2, d3⟩ := x_b4.f4
  go_big_op; refine hK _ _ rfl ?_; clear hK K d0 d1 d2 d3
  refine sc fun K hK => ?_
  go_big_op
  go_fit (gCount_zero (.mk' hq1 hq2) (by omega))
  rintro e w_14 ⟨rfl, hb_14⟩
  replace ha1 := ha1.bl hb_14; replace ha2 := ha2.bl hb_14; replace hc1 := hc1.bl hb_14; replace hc2 := hc2.bl hb_14; replace hx := hx.bl hb_14; replace hq1 := hq1.bl hb_14; replace hq2 := hq2.bl hb_14; replace x_b1 := x_b1.bl hb_14; replace x_b2 := x_b2.bl hb_14; replace x_b3 := x_b3.bl hb_14; replace x_b4 := x_b4.bl hb_14; replace x_b5 := x_b5.bl hb_14; replace x_b6 := x_b6.bl hb_14; replace x_b7 := x_b7.bl hb_14; replace hb := tm hb hb_14
  refine hK _ _ rfl ?_
  clear hK K hb_14
  refine sc fun K hK => ?_
  go_big_move; refine hK _ _ rfl ?_; clear hK K
  refine sc fun K hK => ?_
  go_big_op; refine hK _ _ rfl ?_; clear hK K
  refine sc fun K hK => ?_
  go_big_op; refine hK _ _ rfl ?_; clear hK K
  refine sc fun K hK => ?_
  go_big_op
  have lt_b1 := x_b1.lt
  have lt_b2 := x_b2.lt
  have lt_b3 := x_b3.lt
  have lt_b4 := x_b4.lt
  have lt_b5 := x_b5.lt
  have lt_b6 := x_b6.lt
  have lt_b7 := x_b7.lt
  obtain ⟨p_b8, w_15, eP, eW, x_b8, hn, kb_b8⟩ := newBox w_14 #[.bool false, .slice none 0 0] 24 hb.size
  have ne_b1_b8 : Hid (p_b1 ≠ p_b8) := Nat.ne_of_lt (eP ▸ lt_b1)
  have ne_b2_b8 : Hid (p_b2 ≠ p_b8) := Nat.ne_of_lt (eP ▸ lt_b2)
  have ne_b3_b8 : Hid (p_b3 ≠ p_b8) := Nat.ne_of_lt (eP ▸ lt_b3)
  have ne_b4_b8 : Hid (p_b4 ≠ p_b8) := Nat.ne_of_lt (eP ▸ lt_b4)
  have ne_b5_b8 : Hid (p_b5 ≠ p_b8) := Nat.ne_of_lt (eP ▸ lt_b5)
  have ne_b6_b8 : Hid (p_b6 ≠ p_b8) := Nat.ne_of_lt (eP ▸ lt_b6)
  have ne_b7_b8 : Hid (p_b7 ≠ p_b8) := Nat.ne_of_lt (eP ▸ lt_b7)
  rw [eW, eP]
  clear eW eP lt_b1 lt_b2 lt_b3 lt_b4 lt_b5 lt_b6 lt_b7
  replace ha1 := ha1.bl hn; replace ha2 := ha2.bl hn; replace hc1 := hc1.bl hn; replace hc2 := hc2.bl hn; replace hx := hx.bl hn; replace hq1 := hq1.bl hn; replace hq2 := hq2.bl hn; replace x_b1 := x_b1.bl hn; replace x_b2 := x_b2.bl hn; replace x_b3 := x_b3.bl hn; replace x_b4 := x_b4.bl hn; replace x_b5 := x_b5.bl hn; replace x_b6 := x_b6.bl hn; replace x_b7 := x_b7.bl hn; replace hb := tm hb hn
  refine hK _ _ rfl ?_; clear hK K hn
  refine sc fun K hK => ?_
  obtain ⟨d0, d1⟩ := x_b8.f2
  have f0 := x_b8.free 0; have f1 := x_b8.free 1
  go_big_op
  have hnd := x_b8.nod rfl rfl
  obtain ⟨w_16, eW, x_b8', ho⟩ : ∃ w', ((w_15.setCell ⟨p_b8, 0, none⟩ (.bool false)).setCell ⟨p_b8, 1, none⟩ (.slice none 0 0)) = w' ∧ Bs w' p_b8 #[.bool false, .slice none 0 0] 24 ∧ Only p_b8 w_15 w' := x_b8.setN [(0, .bool false), (1, .slice none 0 0)]
  rw [eW]; clear eW d0 d1 f0 f1 x_b8
  have x_b8 := x_b8'; clear x_b8'
  replace ha1 := ha1.fr hnd ho; replace ha2 := ha2.fr hnd ho; replace hc1 := hc1.fr hnd ho; replace hc2 := hc2.fr hnd ho; replace hx := hx.fr hnd ho; replace hq1 := hq1.fr hnd ho; replace hq2 := hq2.fr hnd ho; replace x_b1 := x_b1.frame ho ne_b1_b8; replace x_b2 := x_b2.frame ho ne_b2_b8; replace x_b3 := x_b3.frame ho ne_b3_b8; replace x_b4 := x_b4.frame ho ne_b4_b8; replace x_b5 := x_b5.frame ho ne_b5_b8; replace x_b6 := x_b6.frame ho ne_b6_b8; replace x_b7 := x_b7.frame ho ne_b7_b8; replace hb := belowOnly hb ho kb_b8
  refine hK _ _ rfl ?_; clear hK K ho hnd
  refine sc fun K hK => ?_
  go_big_move; refine hK _ _ rfl ?_; clear hK K
  apply wpSq_end
  refine hK5 _ _ ?_
  refine wp_seq_k ?_
  intro K6 hK6
  refine wp_seq_k ?_
  intro K7 hK7
  refine wp_region_sq [0, 1] (by kernel_rfl) ?_
  refine sc fun K hK => ?_
  go_big_op
  go_fit (awake5_any _)
  rintro e w_17 ⟨rfl, hb_17⟩
  replace ha1 := ha1.bl hb_17; replace ha2 := ha2.bl hb_17; replace hc1 := hc1.bl hb_17; replace hc2 := hc2.bl hb_17; replace hx := hx.bl hb_17; replace hq1 := hq1.bl hb_17; replace hq2 := hq2.bl hb_17; replace x_b1 := x_b1.bl hb_17; replace x_b2 := x_b2.bl hb_17; replace x_b3 := x_b3.bl hb_17; replace x_b4 := x_b4.bl hb_17; replace x_b5 := x_b5.bl hb_17; replace x_b6 := x_b6.bl hb_17; replace x_b7 := x_b7.bl hb_17; replace x_b8 := x_b8.bl hb_17; replace hb := tm hb hb_17
  refine hK _ _ rfl ?_
  clear hK K hb_17
  refine sc fun K hK => ?_
  go_big_op; refine hK _ _ rfl ?_; clear hK K
  apply wpSq_end
  refine hK7 _ _ ?_
  refine wp_cond_false (congrArg Value.bool (show _ = false from (by first | rfl | assumption | (simp; done) | exact decide_eq_false (by omega) | omega))) ?_
  refine wp_skip ?_
  refine hK6 _ _ ?_
  refine wp_seq_k ?_
  intro K8 hK8
  refine wp_seq_k ?_
  intro K9 hK9
  refine wp_region_sq [0, 1] (by kernel_rfl) ?_
  refine sc fun K hK => ?_
  obtain ⟨d0, d1, d2, d3⟩ := x_b4.f4
  go_big_op; refine hK _ _ rfl ?_; clear hK K d0 d1 d2 d3
  refine sc fun K hK => ?_
  go_big_op
  go_fit (rgNull_yes (.mk' hq1 hq2) (by omega) (by omega))
  rintro e w_18 ⟨rfl, hb_18⟩
  replace ha1 := ha1.bl hb_18; replace ha2 := ha2.bl hb_18; replace hc1 := hc1.bl hb_18; replace hc2 := hc2.bl hb_18; replace hx := hx.bl hb_18; replace hq1 := hq1.bl hb_18; replace hq2 := hq2.bl hb_18; replace x_b1 := x_b1.bl hb_18; replace x_b2 := x_b2.bl hb_18; replace x_b3 := x_b3.bl hb_18; replace x_b4 := x_b4.bl hb_18; replace x_b5 := x_b5.bl hb_18; replace x_b6 := x_b6.bl hb_18; replace x_b7 := x_b7.bl hb_18; replace x_b8 := x_b8.bl hb_18; replace hb := tm hb hb_18
  refine hK _ _ rfl ?_
  clear hK K hb_18
  apply wpSq_end
  refine hK9 _ _ ?_
  refine wp_cond_true (congrArg Value.bool (show _ = true from (by first | rfl | assumption | (simp; done) | exact decide_eq_true (by omega) | omega))) ?_
  refine wp_seq_k ?_
  intro K10 hK10
  refine wp_region_sq [0, 1, 2, 3, 4, 5, 6, 7, 8, 9, 10, 11, 12, 13, 14, 15, 16, 17, 18, 19, 20, 21, 22, 23, 24] (by kernel_rfl) ?_
  refine sc fun K hK => ?_
  obtain ⟨d0, d1, d2, d3⟩ := x_b5.f4
  go_big_op; refine hK _ _ rfl ?_; clear hK K d0 d1 d2 d3
  refine sc fun K hK => ?_
  go_big_move; refine hK _ _ rfl ?_; clear hK K
  refine sc fun K hK => ?_
  obtain ⟨d0, d1, d2, d3⟩ := x_b5.f4
  go_big_op; refine hK _ _ rfl ?_; clear hK K d0 d1 d2 d3
  refine sc fun K hK => ?_
  go_big_op
  go_fit (told_5 _)
  rintro e w_19 ⟨rfl, hb_19⟩
  replace ha1 := ha1.bl hb_19; replace ha2 := ha2.bl hb_19; replace hc1 := hc1.bl hb_19; replace hc2 := hc2.bl hb_19; replace hx := hx.bl hb_19; replace hq1 := hq1.bl hb_19; replace hq2 := hq2.bl hb_19; replace x_b1 := x_b1.bl hb_19; replace x_b2 := x_b2.bl hb_19; replace x_b3 := x_b3.bl hb_19; replace x_b4 := x_b4.bl hb_19; replace x_b5 := x_b5.bl hb_19; replace x_b6 := x_b6.bl hb_19; replace x_b7 := x_b7.bl hb_19; replace x_b8 := x_b8.bl hb_19; replace hb := tm hb hb_19
  refine hK _ _ rfl ?_
  clear hK K hb_19
  refine sc fun K hK => ?_
  go_big_move; refine hK _ _ rfl ?_; clear hK K
  refine sc fun K hK => ?_
  obtain ⟨d0, d1, d2, d3⟩ := x_b6.f4
  go_big_op; refine hK _ _ rfl ?_; clear hK K d0 d1 d2 d3
  refine sc fun K hK => ?_
  go_big_move; refine hK _ _ rfl ?_; clear hK K
  refine sc fun K hK => ?_
  obtain ⟨d0, d1, d2, d3⟩ := x_b6.f4
  go_big_op; refine hK _ _ rfl ?_; clear hK K d0 d1 d2 d3
  refine sc fun K hK => ?_
  go_big_op
  go_fit (told_5 _)
  rintro e w_20 ⟨rfl, hb_20⟩
  replace ha1 := ha1.bl hb_20; replace ha2 := ha2.bl hb_20; replace hc1 := hc1.bl hb_20; replace hc2 := hc2.bl hb_20; replace hx := hx.bl hb_20; replace hq1 := hq1.bl hb_20; replace hq2 := hq2.bl hb_20; replace x_b1 := x_b1.bl hb_20; replace x_b2 := x_b2.bl hb_20; replace x_b3 := x_b3.bl hb_20; replace x_b4 := x_b4.bl hb_20; replace x_b5 := x_b5.bl hb_20; replace x_b6 := x_b6.bl hb_20; replace x_b7 := x_b7.bl hb_20; replace x_b8 := x_b8.bl hb_20; replace hb := tm hb hb_20
  refine hK _ _ rfl ?_
  clear hK K hb_20
  refine sc fun K hK => ?_
  go_big_op; refine hK _ _ rfl ?_; clear hK K
  refine sc fun K hK => ?_
  go_big_move; refine hK _ _ rfl ?_; clear hK K
  refine sc fun K hK => ?_
  obtain ⟨d0, d1, d2, d3⟩ := x_b7.f4
  go_big_op; refine hK _ _ rfl ?_; clear hK K d0 d1 d2 d3
  refine sc fun K hK => ?_
  go_big_move; refine hK _ _ rfl ?_; clear hK K
  refine sc fun K hK => ?_
  obtain ⟨d0, d1, d2, d3⟩ := x_b7.f4
  go_big_op; refine hK _ _ rfl ?_; clear hK K d0 d1 d2 d3
  refine sc fun K hK => ?_
  go_big_op
  go_fit (told_5 _)
  rintro e w_21 ⟨rfl, hb_21⟩
  replace ha1 := ha1.bl hb_21; replace ha2 := ha2.bl hb_21; replace hc1 := hc1.bl hb_21; replace hc2 := hc2.bl hb_21; replace hx := hx.bl hb_21; replace hq1 := hq1.bl hb_21; replace hq2 := hq2.bl hb_21; replace x_b1 := x_b1.bl hb_21; replace x_b2 := x_b2.bl hb_21; replace x_b3 := x_b3.bl hb_21; replace x_b4 := x_b4.bl hb_21; replace x_b5 := x_b5.bl hb_21; replace x_b6 := x_b6.bl hb_21; replace x_b7 := x_b7.bl hb_21; replace x_b8 := x_b8.bl hb_21; replace hb := tm hb hb_21
  refine hK _ _ rfl ?_
  clear hK K hb_21
  refine sc fun K hK => ?_
  go_big_op; refine hK _ _ rfl ?_; clear hK K
  refine sc fun K hK => ?_
  go_big_move; refine hK _ _ rfl ?_; clear hK K
  refine sc fun K hK => ?_
  go_big_move; refine hK _ _ rfl ?_; clear hK K
  refine sc fun K hK => ?_
  go_big_op; refine hK _ _ rfl ?_; clear hK K
  refine sc fun K hK => ?_
  go_big_op; refine hK _ _ rfl ?_; clear hK K
  refine sc fun K hK => ?_
  go_big_move; refine hK _ _ rfl ?_; clear hK K
  refine sc fun K hK => ?_
  obtain ⟨d0, d1⟩ := x_b8.f2
  go_big_op; refine hK _ _ rfl ?_; clear hK K d0 d1
  refine sc fun K hK => ?_
  go_big_op
  go_fit (rzero_any _)
  rintro e w_22 ⟨rfl, hb_22⟩
  replace ha1 := ha1.bl hb_22; replace ha2 := ha2.bl hb_22; replace hc1 := hc1.bl hb_22; replace hc2 := hc2.bl hb_22; replace hx := hx.bl hb_22; replace hq1 := hq1.bl hb_22; replace hq2 := hq2.bl hb_22; replace x_b1 := x_b1.bl hb_22; replace x_b2 := x_b2.bl hb_22; replace x_b3 := x_b3.bl hb_22; replace x_b4 := x_b4.bl hb_22; replace x_b5 := x_b5.bl hb_22; replace x_b6 := x_b6.bl hb_22; replace x_b7 := x_b7.bl hb_22; replace x_b8 := x_b8.bl hb_22; replace hb := tm hb hb_22
  refine hK _ _ rfl ?_
  clear hK K hb_22
  refine sc fun K hK => ?_
  go_big_op; refine hK _ _ rfl ?_; clear hK K
  refine sc fun K hK => ?_
  go_big_move; refine hK _ _ rfl ?_; clear hK K
  apply wpSq_end
  refine hK10 _ _ ?_
  refine wp_ret ?_
  try dsimp only [Exit.then, Exit.inBlock]
  refine bodyPost_ret (v := (.bool true)) (by simp [results, Try.results3, go_sem]) rfl ?_
  exact ⟨rfl, hb⟩
theorem gred_neg (ha : PN w va x 1048576 y 1048576) (hc : PN w vc a 1048576 b 1048576) (hx : ZN w vn z 1048576) (hq : PN w vb u 1048576 v 1048576) (h0 : gN u v ≠ 0) (hz : z < 0) :
    Calls Try.prog 3 #[va, vc, vn, vb] w fun e w' => e = .returned (.bool true) ∧ Below w.heap.size w w' := by
  have HD := hide (decide_eq_false (p := u = 0 ∧ v = 0) (fun c => h0 (gN_zero.2 c)))
  have HH := hide (And.intro h0 hz)
  have HS := hide (Int.sign_eq_neg_one_of_neg hz)
  clear h0 hz
  obtain ⟨n_0a, o_0a, k_0a, c_0a, n_0b, o_0b, k_0b, c_0b, rfl, ha1, ha2⟩ := ha
  obtain ⟨n_1a, o_1a, k_1a, c_1a, n_1b, o_1b, k_1b, c_1b, rfl, hc1, hc2⟩ := hc
  obtain ⟨n_2, o_2, k_2, c_2, rfl⟩ := hx.open2
  obtain ⟨n_3a, o_3a, k_3a, c_3a, n_3b, o_3b, k_3b, c_3b, rfl, hq1, hq2⟩ := hq
  go_enter Try.func3, Try.ntmps3
  have hb := Below.refl w.heap.size w
  refine wp_seq_k ?_
  intro K1 hK1
  refine wp_region_sq [0, 1, 2, 3, 4] (by kernel_rfl) ?_
  refine sc fun K hK => ?_
  go_big_op
  obtain ⟨p_b1, w_1, eP, eW, x_b1, hn, kb_b1⟩ := newBox w #[.bool n_0a, .slice o_0a k_0a c_0a, .bool n_0b, .slice o_0b k_0b c_0b] 26 hb.size
  rw [eW, eP]
  clear eW eP
  replace ha1 := ha1.bl hn; replace ha2 := ha2.bl hn; replace hc1 := hc1.bl hn; replace hc2 := hc2.bl hn; replace hx := hx.bl hn; replace hq1 := hq1.bl hn; replace hq2 := hq2.bl hn; replace hb := tm hb hn
  refine hK _ _ rfl ?_; clear hK K hn
  refine sc fun K hK => ?_
  go_big_op
  have lt_b1 := x_b1.lt
  obtain ⟨p_b2, w_2, eP, eW, x_b2, hn, kb_b2⟩ := newBox w_1 #[.bool n_1a, .slice o_1a k_1a c_1a, .bool n_1b, .slice o_1b k_1b c_1b] 26 hb.size
  rw [eW, eP]
  clear eW eP lt_b1
  replace ha1 := ha1.bl hn; replace ha2 := ha2.bl hn; replace hc1 := hc1.bl hn; replace hc2 := hc2.bl hn; replace hx := hx.bl hn; replace hq1 := hq1.bl hn; replace hq2 := hq2.bl hn; replace x_b1 := x_b1.bl hn; replace hb := tm hb hn
  refine hK _ _ rfl ?_; clear hK K hn
  refine sc fun K hK => ?_
  go_big_op
  have lt_b1 := x_b1.lt
  have lt_b2 := x_b2.lt
  obtain ⟨p_b3, w_3, eP, eW, x_b3, hn, kb_b3⟩ := newBox w_2 #[.bool n_2, .slice o_2 k_2 c_2] 24 hb.size
  rw [eW, eP]
  clear eW eP lt_b1 lt_b2
  replace ha1 := ha1.bl hn; replace ha2 := ha2.bl hn; replace hc1 := hc1.bl hn; replace hc2 := hc2.bl hn; replace hx := hx.bl hn; replace hq1 := hq1.bl hn; replace hq2 := hq2.bl hn; replace x_b1 := x_b1.bl hn; replace x_b2 := x_b2.bl hn; replace hb := tm hb hn
  refine hK _ _ rfl ?_; clear hK K hn
  refine sc fun K hK => ?_
  go_big_op
  have lt_b1 := x_b1.lt
  have lt_b2 := x_b2.lt
  have lt_b3 := x_b3.lt
  obtain ⟨p_b4, w_4, eP, eW, x_b4, hn, kb_b4⟩ := newBox w_3 #[.bool n_3a, .slice o_3a k_3a c_3a, .bool n_3b, .slice o_3b k_3b c_3b] 26 hb.size
  rw [eW, eP]
  clear eW eP lt_b1 lt_b2 lt_b3
  replace ha1 := ha1.bl hn; replace ha2 := ha2.bl hn; replace hc1 := hc1.bl hn; replace hc2 := hc2.bl hn; replace hx := hx.bl hn; replace hq1 := hq1.bl hn; replace hq2 := hq2.bl hn; replace x_b1 := x_b1.bl hn; replace x_b2 := x_b2.bl hn; replace x_b3 := x_b3.bl hn; replace hb := tm hb hn
  refine hK _ _ rfl ?_; clear hK K hn
  refine sc fun K hK => ?_
  go_big_move; refine hK _ _ rfl ?_; clear hK K
  apply wpSq_end
  refine hK1 _ _ ?_
  refine wp_seq_k ?_
  intro K2 hK2
  refine wp_region_sq [0, 1, 2, 3, 4, 5, 6, 7, 8] (by kernel_rfl) ?_
  refine sc fun K hK => ?_
  obtain ⟨d0, d1, d2, d3⟩ := x_b1.f4
  go_big_op; refine hK _ _ rfl ?_; clear hK K d0 d1 d2 d3
  refine sc fun K hK => ?_
  obtain ⟨d0, d1, d2, d3⟩ := x_b4.f4
  go_big_op; refine hK _ _ rfl ?_; clear hK K d0 d1 d2 d3
  refine sc fun K hK => ?_
  go_big_op
  go_fit (gReduce_any (.mk' ha1 ha2) (.mk' hq1 hq2) (by omega) (by omega) (by omega) HH.out.1)
  rintro e w_5 ⟨_, rfl, ⟨n_ca, o_ca, k_ca, c_ca, n_cb, o_cb, k_cb, c_cb, rfl, c1, c2⟩, hb_5⟩
  replace ha1 := ha1.bl hb_5; replace ha2 := ha2.bl hb_5; replace hc1 := hc1.bl hb_5; replace hc2 := hc2.bl hb_5; replace hx := hx.bl hb_5; replace hq1 := hq1.bl hb_5; replace hq2 := hq2.bl hb_5; replace x_b1 := x_b1.bl hb_5; replace x_b2 := x_b2.bl hb_5; replace x_b3 := x_b3.bl hb_5; replace x_b4 := x_b4.bl hb_5; replace hb := tm hb hb_5
  refine hK _ _ rfl ?_
  clear hK K hb_5
  refine sc fun K hK => ?_
  go_big_move; refine hK _ _ rfl ?_; clear hK K
  refine sc fun K hK => ?_
  go_big_op; refine hK _ _ rfl ?_; clear hK K
  refine sc fun K hK => ?_
  go_big_op; refine hK _ _ rfl ?_; clear hK K
  refine sc fun K hK => ?_
  go_big_op
  have lt_b1 := x_b1.lt
  have lt_b2 := x_b2.lt
  have lt_b3 := x_b3.lt
  have lt_b4 := x_b4.lt
  obtain ⟨p_b5, w_6, eP, eW, x_b5, hn, kb_b5⟩ := newBox w_5 #[.bool false, .slice none 0 0, .bool false, .slice none 0 0] 26 hb.size
  have ne_b1_b5 : Hid (p_b1 ≠ p_b5) := Nat.ne_of_lt (eP ▸ lt_b1)
  have ne_b2_b5 : Hid (p_b2 ≠ p_b5) := Nat.ne_of_lt (eP ▸ lt_b2)
  have ne_b3_b5 : Hid (p_b3 ≠ p_b5) := Nat.ne_of_lt (eP ▸ lt_b3)
  have ne_b4_b5 : Hid (p_b4 ≠ p_b5) := Nat.ne_of_lt (eP ▸ lt_b4)
  rw [eW, eP]
  clear eW eP lt_b1 lt_b2 lt_b3 lt_b4
  replace ha1 := ha1.bl hn; replace ha2 := ha2.bl hn; replace hc1 := hc1.bl hn; replace hc2 := hc2.bl hn; replace hx := hx.bl hn; replace hq1 := hq1.bl hn; replace hq2 := hq2.bl hn; replace x_b1 := x_b1.bl hn; replace x_b2 := x_b2.bl hn; replace x_b3 := x_b3.bl hn; replace x_b4 := x_b4.bl hn; replace c1 := c1.bl hn; replace c2 := c2.bl hn; replace hb := tm hb hn
  refine hK _ _ rfl ?_; clear hK K hn
  refine sc fun K hK => ?_
  obtain ⟨d0, d1, d2, d3⟩ := x_b5.f4
  have f0 := x_b5.free 0; have f1 := x_b5.free 1; have f2 := x_b5.free 2; have f3 := x_b5.free 3
  go_big_op
  have hnd := x_b5.nod rfl rfl
  obtain ⟨w_7, eW, x_b5', ho⟩ : ∃ w', ((((w_6.setCell ⟨p_b5, 0, none⟩ (.bool n_ca)).setCell ⟨p_b5, 1, none⟩ (.slice o_ca k_ca c_ca)).setCell ⟨p_b5, 2, none⟩ (.bool n_cb)).setCell ⟨p_b5, 3, none⟩ (.slice o_cb k_cb c_cb)) = w' ∧ Bs w' p_b5 #[.bool n_ca, .slice o_ca k_ca c_ca, .bool n_cb, .slice o_cb k_cb c_cb] 26 ∧ Only p_b5 w_6 w' := x_b5.setN [(0, .bool n_ca), (1, .slice o_ca k_ca c_ca), (2, .bool n_cb), (3, .slice o_cb k_cb c_cb)]
  rw [eW]; clear eW d0 d1 d2 d3 f0 f1 f2 f3 x_b5
  have x_b5 := x_b5'; clear x_b5'
  replace ha1 := ha1.fr hnd ho; replace ha2 := ha2.fr hnd ho; replace hc1 := hc1.fr hnd ho; replace hc2 := hc2.fr hnd ho; replace hx := hx.fr hnd ho; replace hq1 := hq1.fr hnd ho; replace hq2 := hq2.fr hnd ho; replace x_b1 := x_b1.frame ho ne_b1_b5; replace x_b2 := x_b2.frame ho ne_b2_b5; replace x_b3 := x_b3.frame ho ne_b3_b5; replace x_b4 := x_b4.frame ho ne_b4_b5; replace c1 := c1.fr hnd ho; replace c2 := c2.fr hnd ho; replace hb := belowOnly hb ho kb_b5
  refine hK _ _ rfl ?_; clear hK K ho hnd
  refine sc fun K hK => ?_
  go_big_move; refine hK _ _ rfl ?_; clear hK K
  apply wpSq_end
  refine hK2 _ _ ?_
  refine wp_seq_k ?_
  intro K3 hK3
  refine wp_region_sq [0, 1, 2, 3, 4, 5, 6, 7, 8, 9] (by kernel_rfl) ?_
  refine sc fun K hK => ?_
  obtain ⟨d0, d1, d2, d3⟩ := x_b1.f4
  go_big_op; refine hK _ _ rfl ?_; clear hK K d0 d1 d2 d3
  refine sc fun K hK => ?_
  obtain ⟨d0, d1, d2, d3⟩ := x_b2.f4
  go_big_op; refine hK _ _ rfl ?_; clear hK K d0 d1 d2 d3
  refine sc fun K hK => ?_
  obtain ⟨d0, d1, d2, d3⟩ := x_b4.f4
  go_big_op; refine hK _ _ rfl ?_; clear hK K d0 d1 d2 d3
  refine sc fun K hK => ?_
  go_big_op
  go_fit (gresMul_any (.mk' ha1 ha2) (.mk' hc1 hc2) (.mk' hq1 hq2) (by omega) (by omega) (by omega) (by omega) (by omega) HH.out.1)
  rintro e w_8 ⟨_, rfl, ⟨n_da, o_da, k_da, c_da, n_db, o_db, k_db, c_db, rfl, d1, d2⟩, hb_8⟩
  replace ha1 := ha1.bl hb_8; replace ha2 := ha2.bl hb_8; replace hc1 := hc1.bl hb_8; replace hc2 := hc2.bl hb_8; replace hx := hx.bl hb_8; replace hq1 := hq1.bl hb_8; replace hq2 := hq2.bl hb_8; replace x_b1 := x_b1.bl hb_8; replace x_b2 := x_b2.bl hb_8; replace x_b3 := x_b3.bl hb_8; replace x_b4 := x_b4.bl hb_8; replace c1 := c1.bl hb_8; replace c2 := c2.bl hb_8; replace x_b5 := x_b5.bl hb_8; replace hb := tm hb hb_8
  refine hK _ _ rfl ?_
  clear hK K hb_8
  refine sc fun K hK => ?_
  go_big_move; refine hK _ _ rfl ?_; clear hK K
  refine sc fun K hK => ?_
  go_big_op; refine hK _ _ rfl ?_; clear hK K
  refine sc fun K hK => ?_
  go_big_op; refine hK _ _ rfl ?_; clear hK K
  refine sc fun K hK => ?_
  go_big_op
  have lt_b1 := x_b1.lt
  have lt_b2 := x_b2.lt
  have lt_b3 := x_b3.lt
  have lt_b4 := x_b4.lt
  have lt_b5 := x_b5.lt
  obtain ⟨p_b6, w_9, eP, eW, x_b6, hn, kb_b6⟩ := newBox w_8 #[.bool false, .slice none 0 0, .bool false, .slice none 0 0] 26 hb.size
  have ne_b1_b6 : Hid (p_b1 ≠ p_b6) := Nat.ne_of_lt (eP ▸ lt_b1)
  have ne_b2_b6 : Hid (p_b2 ≠ p_b6) := Nat.ne_of_lt (eP ▸ lt_b2)
  have ne_b3_b6 : Hid (p_b3 ≠ p_b6) := Nat.ne_of_lt (eP ▸ lt_b3)
  have ne_b4_b6 : Hid (p_b4 ≠ p_b6) := Nat.ne_of_lt (eP ▸ lt_b4)
  have ne_b5_b6 : Hid (p_b5 ≠ p_b6) := Nat.ne_of_lt (eP ▸ lt_b5)
  rw [eW, eP]
  clear eW eP lt_b1 lt_b2 lt_b3 lt_b4 lt_b5
  replace ha1 := ha1.bl hn; replace ha2 := ha2.bl hn; replace hc1 := hc1.bl hn; replace hc2 := hc2.bl hn; replace hx := hx.bl hn; replace hq1 := hq1.bl hn; replace hq2 := hq2.bl hn; replace x_b1 := x_b1.bl hn; replace x_b2 := x_b2.bl hn; replace x_b3 := x_b3.bl hn; replace x_b4 := x_b4.bl hn; replace c1 := c1.bl hn; replace c2 := c2.bl hn; replace x_b5 := x_b5.bl hn; replace d1 := d1.bl hn; replace d2 := d2.bl hn; replace hb := tm hb hn
  refine hK _ _ rfl ?_; clear hK K hn
  refine sc fun K hK => ?_
  obtain ⟨d0, d1, d2, d3⟩ := x_b6.f4
  have f0 := x_b6.free 0; have f1 := x_b6.free 1; have f2 := x_b6.free 2; have f3 := x_b6.free 3
  go_big_op
  have hnd := x_b6.nod rfl rfl
  obtain ⟨w_10, eW, x_b6', ho⟩ : ∃ w', ((((w_9.setCell ⟨p_b6, 0, none⟩ (.bool n_da)).setCell ⟨p_b6, 1, none⟩ (.slice o_da k_da c_da)).setCell ⟨p_b6, 2, none⟩ (.bool n_db)).setCell ⟨p_b6, 3, none⟩ (.slice o_db k_db c_db)) = w' ∧ Bs w' p_b6 #[.bool n_da, .slice o_da k_da c_da, .bool n_db, .slice o_db k_db c_db] 26 ∧ Only p_b6 w_9 w' := x_b6.setN [(0, .bool n_da), (1, .slice o_da k_da c_da), (2, .bool n_db), (3, .slice o_db k_db c_db)]
  rw [eW]; clear eW d0 d1 d2 d3 f0 f1 f2 f3 x_b6
  have x_b6 := x_b6'; clear x_b6'
  replace ha1 := ha1.fr hnd ho; replace ha2 := ha2.fr hnd ho; replace hc1 := hc1.fr hnd ho; replace hc2 := hc2.fr hnd ho; replace hx := hx.fr hnd ho; replace hq1 := hq1.fr hnd ho; replace hq2 := hq2.fr hnd ho; replace x_b1 := x_b1.frame ho ne_b1_b6; replace x_b2 := x_b2.frame ho ne_b2_b6; replace x_b3 := x_b3.frame ho ne_b3_b6; replace x_b4 := x_b4.frame ho ne_b4_b6; replace c1 := c1.fr hnd ho; replace c2 := c2.fr hnd ho; replace x_b5 := x_b5.frame ho ne_b5_b6; replace d1 := d1.fr hnd ho; replace d2 := d2.fr hnd ho; replace hb := belowOnly hb ho kb_b6
  refine hK _ _ rfl ?_; clear hK K ho hnd
  refine sc fun K hK => ?_
  go_big_move; refine hK _ _ rfl ?_; clear hK K
  apply wpSq_end
  refine hK3 _ _ ?_
  refine wp_seq_k ?_
  intro K4 hK4
  refine wp_region_sq [0, 1, 2, 3, 4, 5, 6, 7, 8, 9] (by kernel_rfl) ?_
  refine sc fun K hK => ?_
  obtain ⟨d0, d1, d2, d3⟩ := x_b1.f4
  go_big_op; refine hK _ _ rfl ?_; clear hK K d0 d1 d2 d3
  refine sc fun K hK => ?_
  obtain ⟨d0, d1⟩ := x_b3.f2
  go_big_op; refine hK _ _ rfl ?_; clear hK K d0 d1
  refine sc fun K hK => ?_
  obtain ⟨d0, d1, d2, d3⟩ := x_b4.f4
  go_big_op; refine hK _ _ rfl ?_; clear hK K d0 d1 d2 d3
  refine sc fun K hK => ?_
  go_big_op
  go_fit (gPow_neg (.mk' ha1 ha2) hx (.mk' hq1 hq2) (by omega) (by omega) (by omega) (by omega) HH.out.1 HH.out.2)
  rintro e w_11 ⟨rfl, hb_11⟩
  replace ha1 := ha1.bl hb_11; replace ha2 := ha2.bl hb_11; replace hc1 := hc1.bl hb_11; replace hc2 := hc2.bl hb_11; replace hx := hx.bl hb_11; replace hq1 := hq1.bl hb_11; replace hq2 := hq2.bl hb_11; replace x_b1 := x_b1.bl hb_11; replace x_b2 := x_b2.bl hb_11; replace x_b3 := x_b3.bl hb_11; replace x_b4 := x_b4.bl hb_11; replace c1 := c1.bl hb_11; replace c2 := c2.bl hb_11; replace x_b5 := x_b5.bl hb_11; replace d1 := d1.bl hb_11; replace d2 := d2.bl hb_11; replace x_b6 := x_b6.bl hb_11; replace hb := tm hb hb_11
  refine hK _ _ rfl ?_
  clear hK K hb_11
  refine sc fun K hK => ?_
  go_big_move; refine hK _ _ rfl ?_; clear hK K
  refine sc fun K hK => ?_
  go_big_op; refine hK _ _ rfl ?_; clear hK K
  refine sc fun K hK => ?_
  go_big_op; refine hK _ _ rfl ?_; clear hK K
  refine sc fun K hK => ?_
  go_big_op
  have lt_b1 := x_b1.lt
  have lt_b2 := x_b2.lt
  have lt_b3 := x_b3.lt
  have lt_b4 := x_b4.lt
  have lt_b5 := x_b5.lt
  have lt_b6 := x_b6.lt
  obtain ⟨p_b7, w_12, eP, eW, x_b7, hn, kb_b7⟩ := newBox w_11 #[.bool false, .slice none 0 0, .bool false, .slice none 0 0] 26 hb.size
  have ne_b1_b7 : Hid (p_b1 ≠ p_b7) := Nat.ne_of_lt (eP ▸ lt_b1)
  have ne_b2_b7 : Hid (p_b2 ≠ p_b7) := Nat.ne_of_lt (eP ▸ lt_b2)
  have ne_b3_b7 : Hid (p_b3 ≠ p_b7) := Nat.ne_of_lt (eP ▸ lt_b3)
  have ne_b4_b7 : Hid (p_b4 ≠ p_b7) := Nat.ne_of_lt (eP ▸ lt_b4)
  have ne_b5_b7 : Hid (p_b5 ≠ p_b7) := Nat.ne_of_lt (eP ▸ lt_b5)
  have ne_b6_b7 : Hid (p_b6 ≠ p_b7) := Nat.ne_of_lt (eP ▸ lt_b6)
  rw [eW, eP]
  clear eW eP lt_b1 lt_b2 lt_b3 lt_b4 lt_b5 lt_b6
  replace ha1 := ha1.bl hn; replace ha2 := ha2.bl hn; replace hc1 := hc1.bl hn; replace hc2 := hc2.bl hn; replace hx := hx.bl hn; replace hq1 := hq1.bl hn; replace hq2 := hq2.bl hn; replace x_b1 := x_b1.bl hn; replace x_b2 := x_b2.bl hn; replace x_b3 := x_b3.bl hn; replace x_b4 := x_b4.bl hn; replace c1 := c1.bl hn; replace c2 := c2.bl hn; replace x_b5 := x_b5.bl hn; replace d1 := d1.bl hn; replace d2 := d2.bl hn; replace x_b6 := x_b6.bl hn; replace hb := tm hb hn
  refine hK _ _ rfl ?_; clear hK K hn
  refine sc fun K hK => ?_
  obtain ⟨d0, d1, d2, d3⟩ := x_b7.f4
  have f0 := x_b7.free 0; have f1 := x_b7.free 1; have f2 := x_b7.free 2; have f3 := x_b7.free 3
  go_big_op
  have hnd := x_b7.nod rfl rfl
  obtain ⟨w_13, eW, x_b7', ho⟩ : ∃ w', ((((w_12.setCell ⟨p_b7, 0, none⟩ (.bool false)).setCell ⟨p_b7, 1, none⟩ (.slice none 0 0)).setCell ⟨p_b7, 2, none⟩ (.bool false)).setCell ⟨p_b7, 3, none⟩ (.slice none 0 0)) = w' ∧ Bs w' p_b7 #[.bool false, .slice none 0 0, .bool false, .slice none 0 0] 26 ∧ Only p_b7 w_12 w' := x_b7.setN [(0, .bool false), (1, .slice none 0 0), (2, .bool false), (3, .slice none 0 0)]
  rw [eW]; clear eW d0 d1 d2 d3 f0 f1 f2 f3 x_b7
  have x_b7 := x_b7'; clear x_b7'
  replace ha1 := ha1.fr hnd ho; replace ha2 := ha2.fr hnd ho; replace hc1 := hc1.fr hnd ho; replace hc2 := hc2.fr hnd ho; replace hx := hx.fr hnd ho; replace hq1 := hq1.fr hnd ho; replace hq2 := hq2.fr hnd ho; replace x_b1 := x_b1.frame ho ne_b1_b7; replace x_b2 := x_b2.frame ho ne_b2_b7; replace x_b3 := x_b3.frame ho ne_b3_b7; replace x_b4 := x_b4.frame ho ne_b4_b7; replace c1 := c1.fr hnd ho; replace c2 := c2.fr hnd ho; replace x_b5 := x_b5.frame ho ne_b5_b7; replace d1 := d1.fr hnd ho; replace d2 := d2.fr hnd ho; replace x_b6 := x_b6.frame ho ne_b6_b7; replace hb := belowOnly hb ho kb_b7
  refine hK _ _ rfl ?_; clear hK K ho hnd
  refine sc fun K hK => ?_
  go_big_move; refine hK _ _ rfl ?_; clear hK K
  apply wpSq_end
  refine hK4 _ _ ?_
  refine wp_seq_k ?_
  intro K5 hK5
  refine wp_region_sq [0, 1, 2, 3, 4, 5, 6, 7] (by kernel_rfl) ?_
  refine sc fun K hK => ?_
  obtain ⟨d0, d1, d2, d3⟩ := x_b4.f4
  go_big_op; refine hK _ _ rfl ?_; clear hK K d0 d1 d2 d3
  refine sc fun K hK => ?_
  go_big_op
  go_fit (gCount_any (.mk' hq1 hq2) (by omega) HH.out.1)
  rintro e w_14 ⟨v_f, rfl, f, hb_14⟩
  replace ha1 := ha1.bl hb_14; replace ha2 := ha2.bl hb_14; replace hc1 := hc1.bl hb_14; replace hc2 := hc2.bl hb_14; replace hx := hx.bl hb_14; replace hq1 := hq1.bl hb_14; replace hq2 := hq2.bl hb_14; replace x_b1 := x_b1.bl hb_14; replace x_b2 := x_b2.bl hb_14; replace x_b3 := x_b3.bl hb_14; replace x_b4 := x_b4.bl hb_14; replace c1 := c1.bl hb_14; replace c2 := c2.bl hb_14; replace x_b5 := x_b5.bl hb_14; replace d1 := d1.bl hb_14; replace d2 := d2.bl hb_14; replace x_b6 := x_b6.bl hb_14; replace x_b7 := x_b7.bl hb_14; replace hb := tm hb hb_14
  obtain ⟨n_f, o_f, k_f, c_f, rfl⟩ := f.open2
  refine hK _ _ rfl ?_
  clear hK K hb_14
  refine sc fun K hK => ?_
  go_big_move; refine hK _ _ rfl ?_; clear hK K
  refine sc fun K hK => ?_
  go_big_op; refine hK _ _ rfl ?_; clear hK K
  refine sc fun K hK => ?_
  go_big_op; refine hK _ _ rfl ?_; clear hK K
  refine sc fun K hK => ?_
  go_big_op
  have lt_b1 := x_b1.lt
  have lt_b2 := x_b2.lt
  have lt_b3 := x_b3.lt
  have lt_b4 := x_b4.lt
  have lt_b5 := x_b5.lt
  have lt_b6 := x_b6.lt
  have lt_b7 := x_b7.lt
  obtain ⟨p_b8, w_15, eP, eW, x_b8, hn, kb_b8⟩ := newBox w_14 #[.bool false, .slice none 0 0] 24 hb.size
  have ne_b1_b8 : Hid (p_b1 ≠ p_b8) := Nat.ne_of_lt (eP ▸ lt_b1)
  have ne_b2_b8 : Hid (p_b2 ≠ p_b8) := Nat.ne_of_lt (eP ▸ lt_b2)
  have ne_b3_b8 : Hid (p_b3 ≠ p_b8) := Nat.ne_of_lt (eP ▸ lt_b3)
  have ne_b4_b8 : Hid (p_b4 ≠ p_b8) := Nat.ne_of_lt (eP ▸ lt_b4)
  have ne_b5_b8 : Hid (p_b5 ≠ p_b8) := Nat.ne_of_lt (eP ▸ lt_b5)
  have ne_b6_b8 : Hid (p_b6 ≠ p_b8) := Nat.ne_of_lt (eP ▸ lt_b6)
  have ne_b7_b8 : Hid (p_b7 ≠ p_b8) := Nat.ne_of_lt (eP ▸ lt_b7)
  rw [eW, eP]
  clear eW eP lt_b1 lt_b2 lt_b3 lt_b4 lt_b5 lt_b6 lt_b7
  replace ha1 := ha1.bl hn; replace ha2 := ha2.bl hn; replace hc1 := hc1.bl hn; replace hc2 := hc2.bl hn; replace hx := hx.bl hn; replace hq1 := hq1.bl hn; replace hq2 := hq2.bl hn; replace x_b1 := x_b1.bl hn; replace x_b2 := x_b2.bl hn; replace x_b3 := x_b3.bl hn; replace x_b4 := x_b4.bl hn; replace c1 := c1.bl hn; replace c2 := c2.bl hn; replace x_b5 := x_b5.bl hn; replace d1 := d1.bl hn; replace d2 := d2.bl hn; replace x_b6 := x_b6.bl hn; replace x_b7 := x_b7.bl hn; replace f := f.bl hn; replace hb := tm hb hn
  refine hK _ _ rfl ?_; clear hK K hn
  refine sc fun K hK => ?_
  obtain ⟨d0, d1⟩ := x_b8.f2
  have f0 := x_b8.free 0; have f1 := x_b8.free 1
  go_big_op
  have hnd := x_b8.nod rfl rfl
  obtain ⟨w_16, eW, x_b8', ho⟩ : ∃ w', ((w_15.setCell ⟨p_b8, 0, none⟩ (.bool n_f)).setCell ⟨p_b8, 1, none⟩ (.slice o_f k_f c_f)) = w' ∧ Bs w' p_b8 #[.bool n_f, .slice o_f k_f c_f] 24 ∧ Only p_b8 w_15 w' := x_b8.setN [(0, .bool n_f), (1, .slice o_f k_f c_f)]
  rw [eW]; clear eW d0 d1 f0 f1 x_b8
  have x_b8 := x_b8'; clear x_b8'
  replace ha1 := ha1.fr hnd ho; replace ha2 := ha2.fr hnd ho; replace hc1 := hc1.fr hnd ho; replace hc2 := hc2.fr hnd ho; replace hx := hx.fr hnd ho; replace hq1 := hq1.fr hnd ho; replace hq2 := hq2.fr hnd ho; replace x_b1 := x_b1.frame ho ne_b1_b8; replace x_b2 := x_b2.frame ho ne_b2_b8; replace x_b3 := x_b3.frame ho ne_b3_b8; replace x_b4 := x_b4.frame ho ne_b4_b8; replace c1 := c1.fr hnd ho; replace c2 := c2.fr hnd ho; replace x_b5 := x_b5.frame ho ne_b5_b8; replace d1 := d1.fr hnd ho; replace d2 := d2.fr hnd ho; replace x_b6 := x_b6.frame ho ne_b6_b8; replace x_b7 := x_b7.frame ho ne_b7_b8; replace f := f.fr hnd ho; replace hb := belowOnly hb ho kb_b8
  refine hK _ _ rfl ?_; clear hK K ho hnd
  refine sc fun K hK => ?_
  go_big_move; refine hK _ _ rfl ?_; clear hK K
  apply wpSq_end
  refine hK5 _ _ ?_
  refine wp_seq_k ?_
  intro K6 hK6
  refine wp_seq_k ?_
  intro K7 hK7
  refine wp_region_sq [0, 1] (by kernel_rfl) ?_
  refine sc fun K hK => ?_
  go_big_op
  go_fit (awake5_any _)
  rintro e w_17 ⟨rfl, hb_17⟩
  replace ha1 := ha1.bl hb_17; replace ha2 := ha2.bl hb_17; replace hc1 := hc1.bl hb_17; replace hc2 := hc2.bl hb_17; replace hx := hx.bl hb_17; replace hq1 := hq1.bl hb_17; replace hq2 := hq2.bl hb_17; replace x_b1 := x_b1.bl hb_17; replace x_b2 := x_b2.bl hb_17; replace x_b3 := x_b3.bl hb_17; replace x_b4 := x_b4.bl hb_17; replace c1 := c1.bl hb_17; replace c2 := c2.bl hb_17; replace x_b5 := x_b5.bl hb_17; replace d1 := d1.bl hb_17; replace d2 := d2.bl hb_17; replace x_b6 := x_b6.bl hb_17; replace x_b7 := x_b7.bl hb_17; replace f := f.bl hb_17; replace x_b8 := x_b8.bl hb_17; replace hb := tm hb hb_17
  refine hK _ _ rfl ?_
  clear hK K hb_17
  refine sc fun K hK => ?_
  go_big_op; refine hK _ _ rfl ?_; clear hK K
  apply wpSq_end
  refine hK7 _ _ ?_
  refine wp_cond_false (congrArg Value.bool (show _ = false from (by first | rfl | assumption | (simp; done) | exact decide_eq_false (by omega) | omega))) ?_
  refine wp_skip ?_
  refine hK6 _ _ ?_
  refine wp_seq_k ?_
  intro K8 hK8
  refine wp_seq_k ?_
  intro K9 hK9
  refine wp_region_sq [0, 1] (by kernel_rfl) ?_
  refine sc fun K hK => ?_
  obtain ⟨d0, d1, d2, d3⟩ := x_b4.f4
  go_big_op; refine hK _ _ rfl ?_; clear hK K d0 d1 d2 d3
  refine sc fun K hK => ?_
  go_big_op
  go_fit (rgNull_any (.mk' hq1 hq2) (by omega) (by omega))
  rintro e w_18 ⟨rfl, hb_18⟩
  replace ha1 := ha1.bl hb_18; replace ha2 := ha2.bl hb_18; replace hc1 := hc1.bl hb_18; replace hc2 := hc2.bl hb_18; replace hx := hx.bl hb_18; replace hq1 := hq1.bl hb_18; replace hq2 := hq2.bl hb_18; replace x_b1 := x_b1.bl hb_18; replace x_b2 := x_b2.bl hb_18; replace x_b3 := x_b3.bl hb_18; replace x_b4 := x_b4.bl hb_18; replace c1 := c1.bl hb_18; replace c2 := c2.bl hb_18; replace x_b5 := x_b5.bl hb_18; replace d1 := d1.bl hb_18; replace d2 := d2.bl hb_18; replace x_b6 := x_b6.bl hb_18; replace x_b7 := x_b7.bl hb_18; replace f := f.bl hb_18; replace x_b8 := x_b8.bl hb_18; replace hb := tm hb hb_18
  rw [HD.out]
  refine hK _ _ rfl ?_
  clear hK K hb_18
  apply wpSq_end
  refine hK9 _ _ ?_
  refine wp_cond_false (congrArg Value.bool (show _ = false from (by first | rfl | assumption | (simp; done) | exact decide_eq_false (by omega) | omega))) ?_
  refine wp_skip ?_
  refine hK8 _ _ ?_
  refine wp_seq_k ?_
  intro K10 hK10
  refine wp_seq_k ?_
  intro K11 hK11
  refine wp_region_fl2 [(0, false), (1, false), (2, false), (3, false), (4, true), (5, true), (6, false), (7, false), (8, false), (9, false), (10, false), (11, false), (13, false), (12, true), (14, true), (15, true), (16, false), (17, false), (18, false), (19, false), (20, false), (21, false), (22, false), (23, false), (24, false), (25, true), (26, true), (27, false), (28, false)] [] [] (fun _ => default) [0, 99, 1, 2, 99, 99, 99, 99, 3, 99, 1, 4, 99, 2, 99, 99, 99, 99, 99, 99, 99, 99, 99, 5, 2, 99, 99, 99, 99] [] (fun w' => w'.cell? ⟨p_b5, 0, none⟩ = some (.bool n_ca) ∧ w'.cell? ⟨p_b5, 1, none⟩ = some (.slice o_ca k_ca c_ca) ∧ w'.cell? ⟨p_b5, 2, none⟩ = some (.bool n_cb) ∧ w'.cell? ⟨p_b5, 3, none⟩ = some (.slice o_cb k_cb c_cb) ∧ w'.cell? ⟨p_b1, 0, none⟩ = some (.bool n_0a) ∧ w'.cell? ⟨p_b1, 1, none⟩ = some (.slice o_0a k_0a c_0a) ∧ w'.cell? ⟨p_b1, 2, none⟩ = some (.bool n_0b) ∧ w'.cell? ⟨p_b1, 3, none⟩ = some (.slice o_0b k_0b c_0b) ∧ w'.cell? ⟨p_b4, 0, none⟩ = some (.bool n_3a) ∧ w'.cell? ⟨p_b4, 1, none⟩ = some (.slice o_3a k_3a c_3a) ∧ w'.cell? ⟨p_b4, 2, none⟩ = some (.bool n_3b) ∧ w'.cell? ⟨p_b4, 3, none⟩ = some (.slice o_3b k_3b c_3b) ∧ w'.cell? ⟨p_b6, 0, none⟩ = some (.bool n_da) ∧ w'.cell? ⟨p_b6, 1, none⟩ = some (.slice o_da k_da c_da) ∧ w'.cell? ⟨p_b6, 2, none⟩ = some (.bool n_db) ∧ w'.cell? ⟨p_b6, 3, none⟩ = some (.slice o_db k_db c_db) ∧ w'.cell? ⟨p_b2, 0, none⟩ = some (.bool n_1a) ∧ w'.cell? ⟨p_b2, 1, none⟩ = some (.slice o_1a k_1a c_1a) ∧ w'.cell? ⟨p_b2, 2, none⟩ = some (.bool n_1b) ∧ w'.cell? ⟨p_b2, 3, none⟩ = some (.slice o_1b k_1b c_1b) ∧ w'.cell? ⟨p_b8, 0, none⟩ = some (.bool n_f) ∧ w'.cell? ⟨p_b8, 1, none⟩ = some (.slice o_f k_f c_f)) [fun w' => w'.cell? ⟨p_b5, 0, none⟩ = some (.bool n_ca) ∧ w'.cell? ⟨p_b5, 1, none⟩ = some (.slice o_ca k_ca c_ca) ∧ w'.cell? ⟨p_b5, 2, none⟩ = some (.bool n_cb) ∧ w'.cell? ⟨p_b5, 3, none⟩ = some (.slice o_cb k_cb c_cb), fun w' => w'.cell? ⟨p_b1, 0, none⟩ = some (.bool n_0a) ∧ w'.cell? ⟨p_b1, 1, none⟩ = some (.slice o_0a k_0a c_0a) ∧ w'.cell? ⟨p_b1, 2, none⟩ = some (.bool n_0b) ∧ w'.cell? ⟨p_b1, 3, none⟩ = some (.slice o_0b k_0b c_0b), fun w' => w'.cell? ⟨p_b4, 0, none⟩ = some (.bool n_3a) ∧ w'.cell? ⟨p_b4, 1, none⟩ = some (.slice o_3a k_3a c_3a) ∧ w'.cell? ⟨p_b4, 2, none⟩ = some (.bool n_3b) ∧ w'.cell? ⟨p_b4, 3, none⟩ = some (.slice o_3b k_3b c_3b), fun w' => w'.cell? ⟨p_b6, 0, none⟩ = some (.bool n_da) ∧ w'.cell? ⟨p_b6, 1, none⟩ = some (.slice o_da k_da c_da) ∧ w'.cell? ⟨p_b6, 2, none⟩ = some (.bool n_db) ∧ w'.cell? ⟨p_b6, 3, none⟩ = some (.slice o_db k_db c_db), fun w' => w'.cell? ⟨p_b2, 0, none⟩ = some (.bool n_1a) ∧ w'.cell? ⟨p_b2, 1, none⟩ = some (.slice o_1a k_1a c_1a) ∧ w'.cell? ⟨p_b2, 2, none⟩ = some (.bool n_1b) ∧ w'.cell? ⟨p_b2, 3, none⟩ = some (.slice o_1b k_1b c_1b), fun w' => w'.cell? ⟨p_b8, 0, none⟩ = some (.bool n_f) ∧ w'.cell? ⟨p_b8, 1, none⟩ = some (.slice o_f k_f c_f)] (by kernel_rfl) (by kernel_rfl) (by kernel_rfl) (by kernel_rfl) (by kernel_rfl) (by kernel_rfl) (by kernel_rfl) (by kernel_rfl) (by decide) (by intro j hj; cases hj) (by intro w' o hC; obtain ⟨c0, c1, c2, c3, c4, c5, c6, c7, c8, c9, c10, c11, c12, c13, c14, c15, c16, c17, c18, c19, c20, c21⟩ := hC; exact ⟨cell_alloc c0 o, cell_alloc c1 o, cell_alloc c2 o, cell_alloc c3 o, cell_alloc c4 o, cell_alloc c5 o, cell_alloc c6 o, cell_alloc c7 o, cell_alloc c8 o, cell_alloc c9 o, cell_alloc c10 o, cell_alloc c11 o, cell_alloc c12 o, cell_alloc c13 o, cell_alloc c14 o, cell_alloc c15 o, cell_alloc c16 o, cell_alloc c17 o, cell_alloc c18 o, cell_alloc c19 o, cell_alloc c20 o, cell_alloc c21 o⟩) (by intro w' hC G hG; obtain ⟨c0, c1, c2, c3, c4, c5, c6, c7, c8, c9, c10, c11, c12, c13, c14, c15, c16, c17, c18, c19, c20, c21⟩ := hC; simp only [List.mem_cons, List.not_mem_nil, or_false] at hG; rcases hG with rfl | rfl | rfl | rfl | rfl | rfl <;> first | exact ⟨c0, c1, c2, c3⟩ | exact ⟨c4, c5, c6, c7⟩ | exact ⟨c8, c9, c10, c11⟩ | exact ⟨c12, c13, c14, c15⟩ | exact ⟨c16, c17, c18, c19⟩ | exact ⟨c20, c21⟩) ?_
  have lt_b1 := x_b1.lt
  have lt_b2 := x_b2.lt
  have lt_b3 := x_b3.lt
  have lt_b4 := x_b4.lt
  have lt_b5 := x_b5.lt
  have lt_b6 := x_b6.lt
  have lt_b7 := x_b7.lt
  have lt_b8 := x_b8.lt
  intro w_19 hn
  replace lt_b1 := Nat.lt_of_lt_of_le lt_b1 hn.size
  replace lt_b2 := Nat.lt_of_lt_of_le lt_b2 hn.size
  replace lt_b3 := Nat.lt_of_lt_of_le lt_b3 hn.size
  replace lt_b4 := Nat.lt_of_lt_of_le lt_b4 hn.size
  replace lt_b5 := Nat.lt_of_lt_of_le lt_b5 hn.size
  replace lt_b6 := Nat.lt_of_lt_of_le lt_b6 hn.size
  replace lt_b7 := Nat.lt_of_lt_of_le lt_b7 hn.size
  replace lt_b8 := Nat.lt_of_lt_of_le lt_b8 hn.size
  replace ha1 := ha1.bl hn; replace ha2 := ha2.bl hn; replace hc1 := hc1.bl hn; replace hc2 := hc2.bl hn; replace hx := hx.bl hn; replace hq1 := hq1.bl hn; replace hq2 := hq2.bl hn; replace x_b1 := x_b1.bl hn; replace x_b2 := x_b2.bl hn; replace x_b3 := x_b3.bl hn; replace x_b4 := x_b4.bl hn; replace c1 := c1.bl hn; replace c2 := c2.bl hn; replace x_b5 := x_b5.bl hn; replace d1 := d1.bl hn; replace d2 := d2.bl hn; replace x_b6 := x_b6.bl hn; replace x_b7 := x_b7.bl hn; replace f := f.bl hn; replace x_b8 := x_b8.bl hn; replace hb := tm hb hn
  clear hn
  have kb0 := hb.size
  refine ⟨⟨x_b5.cell 0 rfl, x_b5.cell 1 rfl, x_b5.cell 2 rfl, x_b5.cell 3 rfl, x_b1.cell 0 rfl, x_b1.cell 1 rfl, x_b1.cell 2 rfl, x_b1.cell 3 rfl, x_b4.cell 0 rfl, x_b4.cell 1 rfl, x_b4.cell 2 rfl, x_b4.cell 3 rfl, x_b6.cell 0 rfl, x_b6.cell 1 rfl, x_b6.cell 2 rfl, x_b6.cell 3 rfl, x_b2.cell 0 rfl, x_b2.cell 1 rfl, x_b2.cell 2 rfl, x_b2.cell 3 rfl, x_b8.cell 0 rfl, x_b8.cell 1 rfl⟩, ?_⟩
  apply wpFl_ld rfl rfl; (case h1 => intro w' hC K hK; obtain ⟨c0, c1, c2, c3⟩ := hC; go_big_op; exact hK); iterate 4 kernel_rfl
  apply wpFl_ld rfl rfl; (case h1 => intro w' hC K hK; go_big_move; exact hK); iterate 4 kernel_rfl
  apply wpFl_ld rfl rfl; (case h1 => intro w' hC K hK; obtain ⟨c0, c1, c2, c3⟩ := hC; go_big_op; exact hK); iterate 4 kernel_rfl
  apply wpFl_ld rfl rfl; (case h1 => intro w' hC K hK; obtain ⟨c0, c1, c2, c3⟩ := hC; go_big_op; exact hK); iterate 4 kernel_rfl
  refine wpFl_call rfl (by kernel_rfl) fun w_20 hn hC => ?_; clear hC
  replace ha1 := ha1.bl hn; replace ha2 := ha2.bl hn; replace hc1 := hc1.bl hn; replace hc2 := hc2.bl hn; replace hx := hx.bl hn; replace hq1 := hq1.bl hn; replace hq2 := hq2.bl hn; replace x_b1 := x_b1.bl hn; replace x_b2 := x_b2.bl hn; replace x_b3 := x_b3.bl hn; replace x_b4 := x_b4.bl hn; replace c1 := c1.bl hn; replace c2 := c2.bl hn; replace x_b5 := x_b5.bl hn; replace d1 := d1.bl hn; replace d2 := d2.bl hn; replace x_b6 := x_b6.bl hn; replace x_b7 := x_b7.bl hn; replace f := f.bl hn; replace x_b8 := x_b8.bl hn; replace hb := tm hb hn
  clear hn; intro K hK
  go_big_op
  go_fit (rres_any (PN.mk' ha1 ha2) (PN.mk' hq1 hq2) (by omega) (by omega) (by omega) HH.out.1)
  rintro e w_21 ⟨_, rfl, ⟨n_ga, o_ga, k_ga, c_ga, n_gb, o_gb, k_gb, c_gb, rfl, g1, g2⟩, hb_21⟩
  replace ha1 := ha1.bl hb_21; replace ha2 := ha2.bl hb_21; replace hc1 := hc1.bl hb_21; replace hc2 := hc2.bl hb_21; replace hx := hx.bl hb_21; replace hq1 := hq1.bl hb_21; replace hq2 := hq2.bl hb_21; replace x_b1 := x_b1.bl hb_21; replace x_b2 := x_b2.bl hb_21; replace x_b3 := x_b3.bl hb_21; replace x_b4 := x_b4.bl hb_21; replace c1 := c1.bl hb_21; replace c2 := c2.bl hb_21; replace x_b5 := x_b5.bl hb_21; replace d1 := d1.bl hb_21; replace d2 := d2.bl hb_21; replace x_b6 := x_b6.bl hb_21; replace x_b7 := x_b7.bl hb_21; replace f := f.bl hb_21; replace x_b8 := x_b8.bl hb_21; replace hb := tm hb hb_21
  have Lg1 := hide (g1.lenOf (res_len1 (HH.out.1) (hq1.len) (hq2.len)))
  have Lg2 := hide (g2.lenOf (res_len2 (HH.out.1) (hq1.len) (hq2.len)))
  refine hK _ _ rfl hb_21 ⟨x_b5.cell 0 rfl, x_b5.cell 1 rfl, x_b5.cell 2 rfl, x_b5.cell 3 rfl, x_b1.cell 0 rfl, x_b1.cell 1 rfl, x_b1.cell 2 rfl, x_b1.cell 3 rfl, x_b4.cell 0 rfl, x_b4.cell 1 rfl, x_b4.cell 2 rfl, x_b4.cell 3 rfl, x_b6.cell 0 rfl, x_b6.cell 1 rfl, x_b6.cell 2 rfl, x_b6.cell 3 rfl, x_b2.cell 0 rfl, x_b2.cell 1 rfl, x_b2.cell 2 rfl, x_b2.cell 3 rfl, x_b8.cell 0 rfl, x_b8.cell 1 rfl⟩ ?_
  clear hK K hb_21
  refine wpFl_call rfl (by kernel_rfl) fun w_22 hn hC => ?_; clear hC
  replace ha1 := ha1.bl hn; replace ha2 := ha2.bl hn; replace hc1 := hc1.bl hn; replace hc2 := hc2.bl hn; replace hx := hx.bl hn; replace hq1 := hq1.bl hn; replace hq2 := hq2.bl hn; replace x_b1 := x_b1.bl hn; replace x_b2 := x_b2.bl hn; replace x_b3 := x_b3.bl hn; replace x_b4 := x_b4.bl hn; replace c1 := c1.bl hn; replace c2 := c2.bl hn; replace x_b5 := x_b5.bl hn; replace d1 := d1.bl hn; replace d2 := d2.bl hn; replace x_b6 := x_b6.bl hn; replace x_b7 := x_b7.bl hn; replace f := f.bl hn; replace x_b8 := x_b8.bl hn; replace g1 := g1.bl hn; replace g2 := g2.bl hn; replace hb := tm hb hn
  clear hn; intro K hK
  go_big_op
  go_fit (told_ok (.mk' c1 c2) (.mk' (g1.zn Lg1.out) (g2.zn Lg2.out)) (by omega) (by omega))
  rintro e w_23 ⟨rfl, hb_23⟩
  replace ha1 := ha1.bl hb_23; replace ha2 := ha2.bl hb_23; replace hc1 := hc1.bl hb_23; replace hc2 := hc2.bl hb_23; replace hx := hx.bl hb_23; replace hq1 := hq1.bl hb_23; replace hq2 := hq2.bl hb_23; replace x_b1 := x_b1.bl hb_23; replace x_b2 := x_b2.bl hb_23; replace x_b3 := x_b3.bl hb_23; replace x_b4 := x_b4.bl hb_23; replace c1 := c1.bl hb_23; replace c2 := c2.bl hb_23; replace x_b5 := x_b5.bl hb_23; replace d1 := d1.bl hb_23; replace d2 := d2.bl hb_23; replace x_b6 := x_b6.bl hb_23; replace x_b7 := x_b7.bl hb_23; replace f := f.bl hb_23; replace x_b8 := x_b8.bl hb_23; replace g1 := g1.bl hb_23; replace g2 := g2.bl hb_23; replace hb := tm hb hb_23
  refine hK _ _ rfl hb_23 ⟨x_b5.cell 0 rfl, x_b5.cell 1 rfl, x_b5.cell 2 rfl, x_b5.cell 3 rfl, x_b1.cell 0 rfl, x_b1.cell 1 rfl, x_b1.cell 2 rfl, x_b1.cell 3 rfl, x_b4.cell 0 rfl, x_b4.cell 1 rfl, x_b4.cell 2 rfl, x_b4.cell 3 rfl, x_b6.cell 0 rfl, x_b6.cell 1 rfl, x_b6.cell 2 rfl, x_b6.cell 3 rfl, x_b2.cell 0 rfl, x_b2.cell 1 rfl, x_b2.cell 2 rfl, x_b2.cell 3 rfl, x_b8.cell 0 rfl, x_b8.cell 1 rfl⟩ ?_
  clear hK K hb_23
  apply wpFl_ld rfl rfl; (case h1 => intro w' hC K hK; go_big_op; exact hK); iterate 4 kernel_rfl
  apply wpFl_ld rfl rfl; (case h1 => intro w' hC K hK; go_big_move; exact hK); iterate 4 kernel_rfl
  apply wpFl_ld rfl rfl; (case h1 => intro w' hC K hK; obtain ⟨c0, c1, c2, c3⟩ := hC; go_big_op; exact hK); iterate 4 kernel_rfl
  apply wpFl_ld rfl rfl; (case h1 => intro w' hC K hK; go_big_move; exact hK); iterate 4 kernel_rfl
  apply wpFl_ld rfl rfl; (case h1 => intro w' hC K hK; obtain ⟨c0, c1, c2, c3⟩ := hC; go_big_op; exact hK); iterate 4 kernel_rfl
  apply wpFl_ld rfl rfl; (case h1 => intro w' hC K hK; obtain ⟨c0, c1, c2, c3⟩ := hC; go_big_op; exact hK); iterate 4 kernel_rfl
  apply wpFl_ld rfl rfl; (case h1 => intro w' hC K hK; obtain ⟨c0, c1, c2, c3⟩ := hC; go_big_op; exact hK); iterate 4 kernel_rfl
  refine wpFl_call rfl (by kernel_rfl) fun w_24 hn hC => ?_; clear hC
  clear g1 g2
  replace ha1 := ha1.bl hn; replace ha2 := ha2.bl hn; replace hc1 := hc1.bl hn; replace hc2 := hc2.bl hn; replace hx := hx.bl hn; replace hq1 := hq1.bl hn; replace hq2 := hq2.bl hn; replace x_b1 := x_b1.bl hn; replace x_b2 := x_b2.bl hn; replace x_b3 := x_b3.bl hn; replace x_b4 := x_b4.bl hn; replace c1 := c1.bl hn; replace c2 := c2.bl hn; replace x_b5 := x_b5.bl hn; replace d1 := d1.bl hn; replace d2 := d2.bl hn; replace x_b6 := x_b6.bl hn; replace x_b7 := x_b7.bl hn; replace f := f.bl hn; replace x_b8 := x_b8.bl hn; replace hb := tm hb hn
  clear hn; intro K hK
  go_big_op
  go_fit (rgMul_any (PN.mk' ha1 ha2) (PN.mk' hc1 hc2) (by omega) (by omega) (by omega) (by omega) )
  rintro e w_25 ⟨_, rfl, ⟨n_ha, o_ha, k_ha, c_ha, n_hb, o_hb, k_hb, c_hb, rfl, h1, h2⟩, hb_25⟩
  replace ha1 := ha1.bl hb_25; replace ha2 := ha2.bl hb_25; replace hc1 := hc1.bl hb_25; replace hc2 := hc2.bl hb_25; replace hx := hx.bl hb_25; replace hq1 := hq1.bl hb_25; replace hq2 := hq2.bl hb_25; replace x_b1 := x_b1.bl hb_25; replace x_b2 := x_b2.bl hb_25; replace x_b3 := x_b3.bl hb_25; replace x_b4 := x_b4.bl hb_25; replace c1 := c1.bl hb_25; replace c2 := c2.bl hb_25; replace x_b5 := x_b5.bl hb_25; replace d1 := d1.bl hb_25; replace d2 := d2.bl hb_25; replace x_b6 := x_b6.bl hb_25; replace x_b7 := x_b7.bl hb_25; replace f := f.bl hb_25; replace x_b8 := x_b8.bl hb_25; replace hb := tm hb hb_25
  have Lh1 := hide (h1.lenOf (zlen_sub (zlen_mul (ha1.len) (hc1.len)) (zlen_mul (ha2.len) (hc2.len))))
  have Lh2 := hide (h2.lenOf (zlen_add (zlen_mul (ha1.len) (hc2.len)) (zlen_mul (ha2.len) (hc1.len))))
  refine hK _ _ rfl hb_25 ⟨x_b5.cell 0 rfl, x_b5.cell 1 rfl, x_b5.cell 2 rfl, x_b5.cell 3 rfl, x_b1.cell 0 rfl, x_b1.cell 1 rfl, x_b1.cell 2 rfl, x_b1.cell 3 rfl, x_b4.cell 0 rfl, x_b4.cell 1 rfl, x_b4.cell 2 rfl, x_b4.cell 3 rfl, x_b6.cell 0 rfl, x_b6.cell 1 rfl, x_b6.cell 2 rfl, x_b6.cell 3 rfl, x_b2.cell 0 rfl, x_b2.cell 1 rfl, x_b2.cell 2 rfl, x_b2.cell 3 rfl, x_b8.cell 0 rfl, x_b8.cell 1 rfl⟩ ?_
  clear hK K hb_25
  refine wpFl_call rfl (by kernel_rfl) fun w_26 hn hC => ?_; clear hC
  replace ha1 := ha1.bl hn; replace ha2 := ha2.bl hn; replace hc1 := hc1.bl hn; replace hc2 := hc2.bl hn; replace hx := hx.bl hn; replace hq1 := hq1.bl hn; replace hq2 := hq2.bl hn; replace x_b1 := x_b1.bl hn; replace x_b2 := x_b2.bl hn; replace x_b3 := x_b3.bl hn; replace x_b4 := x_b4.bl hn; replace c1 := c1.bl hn; replace c2 := c2.bl hn; replace x_b5 := x_b5.bl hn; replace d1 := d1.bl hn; replace d2 := d2.bl hn; replace x_b6 := x_b6.bl hn; replace x_b7 := x_b7.bl hn; replace f := f.bl hn; replace x_b8 := x_b8.bl hn; replace h1 := h1.bl hn; replace h2 := h2.bl hn; replace hb := tm hb hn
  clear hn; intro K hK
  go_big_op
  go_fit (rres_any (PN.mk' (h1.zn Lh1.out) (h2.zn Lh2.out)) (PN.mk' hq1 hq2) (by omega) (by omega) (by omega) HH.out.1)
  rintro e w_27 ⟨_, rfl, ⟨n_ia, o_ia, k_ia, c_ia, n_ib, o_ib, k_ib, c_ib, rfl, i1, i2⟩, hb_27⟩
  replace ha1 := ha1.bl hb_27; replace ha2 := ha2.bl hb_27; replace hc1 := hc1.bl hb_27; replace hc2 := hc2.bl hb_27; replace hx := hx.bl hb_27; replace hq1 := hq1.bl hb_27; replace hq2 := hq2.bl hb_27; replace x_b1 := x_b1.bl hb_27; replace x_b2 := x_b2.bl hb_27; replace x_b3 := x_b3.bl hb_27; replace x_b4 := x_b4.bl hb_27; replace c1 := c1.bl hb_27; replace c2 := c2.bl hb_27; replace x_b5 := x_b5.bl hb_27; replace d1 := d1.bl hb_27; replace d2 := d2.bl hb_27; replace x_b6 := x_b6.bl hb_27; replace x_b7 := x_b7.bl hb_27; replace f := f.bl hb_27; replace x_b8 := x_b8.bl hb_27; replace h1 := h1.bl hb_27; replace h2 := h2.bl hb_27; replace hb := tm hb hb_27
  have Li1 := hide (i1.lenOf (res_len1 (HH.out.1) (hq1.len) (hq2.len)))
  have Li2 := hide (i2.lenOf (res_len2 (HH.out.1) (hq1.len) (hq2.len)))
  refine hK _ _ rfl hb_27 ⟨x_b5.cell 0 rfl, x_b5.cell 1 rfl, x_b5.cell 2 rfl, x_b5.cell 3 rfl, x_b1.cell 0 rfl, x_b1.cell 1 rfl, x_b1.cell 2 rfl, x_b1.cell 3 rfl, x_b4.cell 0 rfl, x_b4.cell 1 rfl, x_b4.cell 2 rfl, x_b4.cell 3 rfl, x_b6.cell 0 rfl, x_b6.cell 1 rfl, x_b6.cell 2 rfl, x_b6.cell 3 rfl, x_b2.cell 0 rfl, x_b2.cell 1 rfl, x_b2.cell 2 rfl, x_b2.cell 3 rfl, x_b8.cell 0 rfl, x_b8.cell 1 rfl⟩ ?_
  clear hK K hb_27
  refine wpFl_call rfl (by kernel_rfl) fun w_28 hn hC => ?_; clear hC
  clear h1 h2
  replace ha1 := ha1.bl hn; replace ha2 := ha2.bl hn; replace hc1 := hc1.bl hn; replace hc2 := hc2.bl hn; replace hx := hx.bl hn; replace hq1 := hq1.bl hn; replace hq2 := hq2.bl hn; replace x_b1 := x_b1.bl hn; replace x_b2 := x_b2.bl hn; replace x_b3 := x_b3.bl hn; replace x_b4 := x_b4.bl hn; replace c1 := c1.bl hn; replace c2 := c2.bl hn; replace x_b5 := x_b5.bl hn; replace d1 := d1.bl hn; replace d2 := d2.bl hn; replace x_b6 := x_b6.bl hn; replace x_b7 := x_b7.bl hn; replace f := f.bl hn; replace x_b8 := x_b8.bl hn; replace i1 := i1.bl hn; replace i2 := i2.bl hn; replace hb := tm hb hn
  clear hn; intro K hK
  go_big_op
  go_fit (told_ok (.mk' d1 d2) (.mk' (i1.zn Li1.out) (i2.zn Li2.out)) (by omega) (by omega))
  rintro e w_29 ⟨rfl, hb_29⟩
  replace ha1 := ha1.bl hb_29; replace ha2 := ha2.bl hb_29; replace hc1 := hc1.bl hb_29; replace hc2 := hc2.bl hb_29; replace hx := hx.bl hb_29; replace hq1 := hq1.bl hb_29; replace hq2 := hq2.bl hb_29; replace x_b1 := x_b1.bl hb_29; replace x_b2 := x_b2.bl hb_29; replace x_b3 := x_b3.bl hb_29; replace x_b4 := x_b4.bl hb_29; replace c1 := c1.bl hb_29; replace c2 := c2.bl hb_29; replace x_b5 := x_b5.bl hb_29; replace d1 := d1.bl hb_29; replace d2 := d2.bl hb_29; replace x_b6 := x_b6.bl hb_29; replace x_b7 := x_b7.bl hb_29; replace f := f.bl hb_29; replace x_b8 := x_b8.bl hb_29; replace i1 := i1.bl hb_29; replace i2 := i2.bl hb_29; replace hb := tm hb hb_29
  refine hK _ _ rfl hb_29 ⟨x_b5.cell 0 rfl, x_b5.cell 1 rfl, x_b5.cell 2 rfl, x_b5.cell 3 rfl, x_b1.cell 0 rfl, x_b1.cell 1 rfl, x_b1.cell 2 rfl, x_b1.cell 3 rfl, x_b4.cell 0 rfl, x_b4.cell 1 rfl, x_b4.cell 2 rfl, x_b4.cell 3 rfl, x_b6.cell 0 rfl, x_b6.cell 1 rfl, x_b6.cell 2 rfl, x_b6.cell 3 rfl, x_b2.cell 0 rfl, x_b2.cell 1 rfl, x_b2.cell 2 rfl, x_b2.cell 3 rfl, x_b8.cell 0 rfl, x_b8.cell 1 rfl⟩ ?_
  clear hK K hb_29
  apply wpFl_ld rfl rfl; (case h1 => intro w' hC K hK; go_big_op; exact hK); iterate 4 kernel_rfl
  apply wpFl_ld rfl rfl; (case h1 => intro w' hC K hK; go_big_op; exact hK); iterate 4 kernel_rfl
  apply wpFl_ld rfl rfl; (case h1 => intro w' hC K hK; go_big_move; exact hK); iterate 4 kernel_rfl
  apply wpFl_ld rfl rfl; (case h1 => intro w' hC K hK; go_big_move; exact hK); iterate 4 kernel_rfl
  apply wpFl_ld rfl rfl; (case h1 => intro w' hC K hK; go_big_op; exact hK); iterate 4 kernel_rfl
  apply wpFl_ld rfl rfl; (case h1 => intro w' hC K hK; go_big_op; exact hK); iterate 4 kernel_rfl
  apply wpFl_ld rfl rfl; (case h1 => intro w' hC K hK; go_big_move; exact hK); iterate 4 kernel_rfl
  apply wpFl_ld rfl rfl; (case h1 => intro w' hC K hK; obtain ⟨c0, c1⟩ := hC; go_big_op; exact hK); iterate 4 kernel_rfl
  apply wpFl_ld rfl rfl; (case h1 => intro w' hC K hK; obtain ⟨c0, c1, c2, c3⟩ := hC; go_big_op; exact hK); iterate 4 kernel_rfl
  refine wpFl_call rfl (by kernel_rfl) fun w_30 hn hC => ?_; clear hC
  clear i1 i2
  replace ha1 := ha1.bl hn; replace ha2 := ha2.bl hn; replace hc1 := hc1.bl hn; replace hc2 := hc2.bl hn; replace hx := hx.bl hn; replace hq1 := hq1.bl hn; replace hq2 := hq2.bl hn; replace x_b1 := x_b1.bl hn; replace x_b2 := x_b2.bl hn; replace x_b3 := x_b3.bl hn; replace x_b4 := x_b4.bl hn; replace c1 := c1.bl hn; replace c2 := c2.bl hn; replace x_b5 := x_b5.bl hn; replace d1 := d1.bl hn; replace d2 := d2.bl hn; replace x_b6 := x_b6.bl hn; replace x_b7 := x_b7.bl hn; replace f := f.bl hn; replace x_b8 := x_b8.bl hn; replace hb := tm hb hn
  clear hn; intro K hK
  go_big_op
  go_fit (rgNorm_any (PN.mk' hq1 hq2) (by omega) (by omega) )
  rintro e w_31 ⟨v_j, rfl, j, hb_31⟩
  replace ha1 := ha1.bl hb_31; replace ha2 := ha2.bl hb_31; replace hc1 := hc1.bl hb_31; replace hc2 := hc2.bl hb_31; replace hx := hx.bl hb_31; replace hq1 := hq1.bl hb_31; replace hq2 := hq2.bl hb_31; replace x_b1 := x_b1.bl hb_31; replace x_b2 := x_b2.bl hb_31; replace x_b3 := x_b3.bl hb_31; replace x_b4 := x_b4.bl hb_31; replace c1 := c1.bl hb_31; replace c2 := c2.bl hb_31; replace x_b5 := x_b5.bl hb_31; replace d1 := d1.bl hb_31; replace d2 := d2.bl hb_31; replace x_b6 := x_b6.bl hb_31; replace x_b7 := x_b7.bl hb_31; replace f := f.bl hb_31; replace x_b8 := x_b8.bl hb_31; replace hb := tm hb hb_31
  obtain ⟨n_j, o_j, k_j, c_j, rfl⟩ := j.open2
  have Lj := hide (j.lenOf (zlen_add (zlen_mul (hq1.len) (hq1.len)) (zlen_mul (hq2.len) (hq2.len))))
  refine hK _ _ rfl hb_31 ⟨x_b5.cell 0 rfl, x_b5.cell 1 rfl, x_b5.cell 2 rfl, x_b5.cell 3 rfl, x_b1.cell 0 rfl, x_b1.cell 1 rfl, x_b1.cell 2 rfl, x_b1.cell 3 rfl, x_b4.cell 0 rfl, x_b4.cell 1 rfl, x_b4.cell 2 rfl, x_b4.cell 3 rfl, x_b6.cell 0 rfl, x_b6.cell 1 rfl, x_b6.cell 2 rfl, x_b6.cell 3 rfl, x_b2.cell 0 rfl, x_b2.cell 1 rfl, x_b2.cell 2 rfl, x_b2.cell 3 rfl, x_b8.cell 0 rfl, x_b8.cell 1 rfl⟩ ?_
  clear hK K hb_31
  refine wpFl_call rfl (by kernel_rfl) fun w_32 hn hC => ?_; clear hC
  replace ha1 := ha1.bl hn; replace ha2 := ha2.bl hn; replace hc1 := hc1.bl hn; replace hc2 := hc2.bl hn; replace hx := hx.bl hn; replace hq1 := hq1.bl hn; replace hq2 := hq2.bl hn; replace x_b1 := x_b1.bl hn; replace x_b2 := x_b2.bl hn; replace x_b3 := x_b3.bl hn; replace x_b4 := x_b4.bl hn; replace c1 := c1.bl hn; replace c2 := c2.bl hn; replace x_b5 := x_b5.bl hn; replace d1 := d1.bl hn; replace d2 := d2.bl hn; replace x_b6 := x_b6.bl hn; replace x_b7 := x_b7.bl hn; replace f := f.bl hn; replace x_b8 := x_b8.bl hn; replace j := j.bl hn; replace hb := tm hb hn
  clear hn; intro K hK
  go_big_op
  go_fit (rsame_zz f (j.zn Lj.out) (by omega) )
  rintro e w_33 ⟨rfl, hb_33⟩
  replace ha1 := ha1.bl hb_33; replace ha2 := ha2.bl hb_33; replace hc1 := hc1.bl hb_33; replace hc2 := hc2.bl hb_33; replace hx := hx.bl hb_33; replace hq1 := hq1.bl hb_33; replace hq2 := hq2.bl hb_33; replace x_b1 := x_b1.bl hb_33; replace x_b2 := x_b2.bl hb_33; replace x_b3 := x_b3.bl hb_33; replace x_b4 := x_b4.bl hb_33; replace c1 := c1.bl hb_33; replace c2 := c2.bl hb_33; replace x_b5 := x_b5.bl hb_33; replace d1 := d1.bl hb_33; replace d2 := d2.bl hb_33; replace x_b6 := x_b6.bl hb_33; replace x_b7 := x_b7.bl hb_33; replace f := f.bl hb_33; replace x_b8 := x_b8.bl hb_33; replace j := j.bl hb_33; replace hb := tm hb hb_33
  refine hK _ _ rfl hb_33 ⟨x_b5.cell 0 rfl, x_b5.cell 1 rfl, x_b5.cell 2 rfl, x_b5.cell 3 rfl, x_b1.cell 0 rfl, x_b1.cell 1 rfl, x_b1.cell 2 rfl, x_b1.cell 3 rfl, x_b4.cell 0 rfl, x_b4.cell 1 rfl, x_b4.cell 2 rfl, x_b4.cell 3 rfl, x_b6.cell 0 rfl, x_b6.cell 1 rfl, x_b6.cell 2 rfl, x_b6.cell 3 rfl, x_b2.cell 0 rfl, x_b2.cell 1 rfl, x_b2.cell 2 rfl, x_b2.cell 3 rfl, x_b8.cell 0 rfl, x_b8.cell 1 rfl⟩ ?_
  clear hK K hb_33
  apply wpFl_ld rfl rfl; (case h1 => intro w' hC K hK; go_big_op; exact hK); iterate 4 kernel_rfl
  apply wpFl_ld rfl rfl; (case h1 => intro w' hC K hK; go_big_op; exact hK); iterate 4 kernel_rfl
  apply wpFl_end
  case ha => intro pt; simp only [putF]; rfl
  case h =>
  intro w_34 pt hn hC hF hD
  clear hC
  clear j
  replace ha1 := ha1.bl hn; replace ha2 := ha2.bl hn; replace hc1 := hc1.bl hn; replace hc2 := hc2.bl hn; replace hx := hx.bl hn; replace hq1 := hq1.bl hn; replace hq2 := hq2.bl hn; replace x_b1 := x_b1.bl hn; replace x_b2 := x_b2.bl hn; replace x_b3 := x_b3.bl hn; replace x_b4 := x_b4.bl hn; replace c1 := c1.bl hn; replace c2 := c2.bl hn; replace x_b5 := x_b5.bl hn; replace d1 := d1.bl hn; replace d2 := d2.bl hn; replace x_b6 := x_b6.bl hn; replace x_b7 := x_b7.bl hn; replace f := f.bl hn; replace x_b8 := x_b8.bl hn; replace hb := tm hb hn
  clear hn
  clear hF hD
  clear pt
  clear kb0 lt_b1 lt_b2 lt_b3 lt_b4 lt_b5 lt_b6 lt_b7 lt_b8
  apply wpTail_end
  refine hK11 _ _ ?_
  refine wp_cond_false (congrArg Value.bool (show _ = false from (by first | rfl | assumption | (simp; done) | exact decide_eq_false (by omega) | omega))) ?_
  refine wp_skip ?_
  refine hK10 _ _ ?_
  refine wp_seq_k ?_
  intro K12 hK12
  refine wp_seq_k ?_
  intro K13 hK13
  refine wp_region_sq [0, 1, 2] (by kernel_rfl) ?_
  refine sc fun K hK => ?_
  obtain ⟨d0, d1⟩ := x_b3.f2
  go_big_op; refine hK _ _ rfl ?_; clear hK K d0 d1
  refine sc fun K hK => ?_
  go_big_op
  go_fit (rzsign_any hx (by omega) )
  rintro e w_35 ⟨rfl, hb_35⟩
  clear hc1 hc2 x_b2 c1 c2 x_b5 d1 d2 x_b6 f x_b8
  replace ha1 := ha1.bl hb_35; replace ha2 := ha2.bl hb_35; replace hx := hx.bl hb_35; replace hq1 := hq1.bl hb_35; replace hq2 := hq2.bl hb_35; replace x_b1 := x_b1.bl hb_35; replace x_b3 := x_b3.bl hb_35; replace x_b4 := x_b4.bl hb_35; replace x_b7 := x_b7.bl hb_35; replace hb := tm hb hb_35
  rw [HS.out]
  refine hK _ _ rfl ?_
  clear hK K hb_35
  refine sc fun K hK => ?_
  go_big_op; refine hK _ _ rfl ?_; clear hK K
  apply wpSq_end
  refine hK13 _ _ ?_
  refine wp_cond_true (congrArg Value.bool (show _ = true from (by first | rfl | assumption | (simp; done) | exact decide_eq_true (by omega) | omega))) ?_
  refine wp_seq_k ?_
  intro K14 hK14
  refine wp_region_sq [0, 1, 2, 3, 4] (by kernel_rfl) ?_
  refine sc fun K hK => ?_
  obtain ⟨d0, d1, d2, d3⟩ := x_b7.f4
  go_big_op; refine hK _ _ rfl ?_; clear hK K d0 d1 d2 d3
  refine sc fun K hK => ?_
  go_big_move; refine hK _ _ rfl ?_; clear hK K
  refine sc fun K hK => ?_
  obtain ⟨d0, d1, d2, d3⟩ := x_b7.f4
  go_big_op; refine hK _ _ rfl ?_; clear hK K d0 d1 d2 d3
  refine sc fun K hK => ?_
  go_big_op
  go_fit (told_9 _)
  rintro e w_36 ⟨rfl, hb_36⟩
  replace ha1 := ha1.bl hb_36; replace ha2 := ha2.bl hb_36; replace hx := hx.bl hb_36; replace hq1 := hq1.bl hb_36; replace hq2 := hq2.bl hb_36; replace x_b1 := x_b1.bl hb_36; replace x_b3 := x_b3.bl hb_36; replace x_b4 := x_b4.bl hb_36; replace x_b7 := x_b7.bl hb_36; replace hb := tm hb hb_36
  refine hK _ _ rfl ?_
  clear hK K hb_36
  refine sc fun K hK => ?_
  go_big_move; refine hK _ _ rfl ?_; clear hK K
  apply wpSq_end
  refine hK14 _ _ ?_
  refine wp_ret ?_
  try dsimp only [Exit.then, Exit.inBlock]
  refine bodyPost_ret (v := (.bool true)) (by simp [results, Try.results3, go_sem]) rfl ?_
  exact ⟨rfl, hb⟩
theorem gred_some (ha : PN w va x 1048576 y 1048576) (hc : PN w vc a 1048576 b 1048576) (hx : ZN w vn z 1048576) (hq : PN w vb u 1048576 v 1048576) (h0 : gN u v ≠ 0) (hz : 0 ≤ z) :
    Calls Try.prog 3 #[va, vc, vn, vb] w fun e w' => e = .returned (.bool true) ∧ Below w.heap.size w w' := by
  have HD := hide (decide_eq_false (p := u = 0 ∧ v = 0) (fun c => h0 (gN_zero.2 c)))
  have HH := hide (And.intro h0 hz)
  have hsg : (z.sign < 0) = False := eq_false (by have := Int.sign_nonneg_iff.2 hz; omega)
  have LP := hide (fun e => (⟨res_len1 h0 hq.len1 hq.len2, res_len2 h0 hq.len1 hq.len2⟩ : (dig (pR1 x y u v e).natAbs).length ≤ 1048576 + 1 ∧ (dig (pR2 x y u v e).natAbs).length ≤ 1048576 + 1))
  clear h0 hz
  obtain ⟨n_0a, o_0a, k_0a, c_0a, n_0b, o_0b, k_0b, c_0b, rfl, ha1, ha2⟩ := ha
  obtain ⟨n_1a, o_1a, k_1a, c_1a, n_1b, o_1b, k_1b, c_1b, rfl, hc1, hc2⟩ := hc
  obtain ⟨n_2, o_2, k_2, c_2, rfl⟩ := hx.open2
  obtain ⟨n_3a, o_3a, k_3a, c_3a, n_3b, o_3b, k_3b, c_3b, rfl, hq1, hq2⟩ := hq
  go_enter Try.func3, Try.ntmps3
  have hb := Below.refl w.heap.size w
  refine wp_seq_k ?_
  intro K1 hK1
  refine wp_region_sq [0, 1, 2, 3, 4] (by kernel_rfl) ?_
  refine sc fun K hK => ?_
  go_big_op
  obtain ⟨p_b1, w_1, eP, eW, x_b1, hn, kb_b1⟩ := newBox w #[.bool n_0a, .slice o_0a k_0a c_0a, .bool n_0b, .slice o_0b k_0b c_0b] 26 hb.size
  rw [eW, eP]
  clear eW eP
  replace ha1 := ha1.bl hn; replace ha2 := ha2.bl hn; replace hc1 := hc1.bl hn; replace hc2 := hc2.bl hn; replace hx := hx.bl hn; replace hq1 := hq1.bl hn; replace hq2 := hq2.bl hn; replace hb := tm hb hn
  refine hK _ _ rfl ?_; clear hK K hn
  refine sc fun K hK => ?_
  go_big_op
  have lt_b1 := x_b1.lt
  obtain ⟨p_b2, w_2, eP, eW, x_b2, hn, kb_b2⟩ := newBox w_1 #[.bool n_1a, .slice o_1a k_1a c_1a, .bool n_1b, .slice o_1b k_1b c_1b] 26 hb.size
  rw [eW, eP]
  clear eW eP lt_b1
  replace ha1 := ha1.bl hn; replace ha2 := ha2.bl hn; replace hc1 := hc1.bl hn; replace hc2 := hc2.bl hn; replace hx := hx.bl hn; replace hq1 := hq1.bl hn; replace hq2 := hq2.bl hn; replace x_b1 := x_b1.bl hn; replace hb := tm hb hn
  refine hK _ _ rfl ?_; clear hK K hn
  refine sc fun K hK => ?_
  go_big_op
  have lt_b1 := x_b1.lt
  have lt_b2 := x_b2.lt
  obtain ⟨p_b3, w_3, eP, eW, x_b3, hn, kb_b3⟩ := newBox w_2 #[.bool n_2, .slice o_2 k_2 c_2] 24 hb.size
  rw [eW, eP]
  clear eW eP lt_b1 lt_b2
  replace ha1 := ha1.bl hn; replace ha2 := ha2.bl hn; replace hc1 := hc1.bl hn; replace hc2 := hc2.bl hn; replace hx := hx.bl hn; replace hq1 := hq1.bl hn; replace hq2 := hq2.bl hn; replace x_b1 := x_b1.bl hn; replace x_b2 := x_b2.bl hn; replace hb := tm hb hn
  refine hK _ _ rfl ?_; clear hK K hn
  refine sc fun K hK => ?_
  go_big_op
  have lt_b1 := x_b1.lt
  have lt_b2 := x_b2.lt
  have lt_b3 := x_b3.lt
  obtain ⟨p_b4, w_4, eP, eW, x_b4, hn, kb_b4⟩ := newBox w_3 #[.bool n_3a, .slice o_3a k_3a c_3a, .bool n_3b, .slice o_3b k_3b c_3b] 26 hb.size
  rw [eW, eP]
  clear eW eP lt_b1 lt_b2 lt_b3
  replace ha1 := ha1.bl hn; replace ha2 := ha2.bl hn; replace hc1 := hc1.bl hn; replace hc2 := hc2.bl hn; replace hx := hx.bl hn; replace hq1 := hq1.bl hn; replace hq2 := hq2.bl hn; replace x_b1 := x_b1.bl hn; replace x_b2 := x_b2.bl hn; replace x_b3 := x_b3.bl hn; replace hb := tm hb hn
  refine hK _ _ rfl ?_; clear hK K hn
  refine sc fun K hK => ?_
  go_big_move; refine hK _ _ rfl ?_; clear hK K
  apply wpSq_end
  refine hK1 _ _ ?_
  refine wp_seq_k ?_
  intro K2 hK2
  refine wp_region_sq [0, 1, 2, 3, 4, 5, 6, 7, 8] (by kernel_rfl) ?_
  refine sc fun K hK => ?_
  obtain ⟨d0, d1, d2, d3⟩ := x_b1.f4
  go_big_op; refine hK _ _ rfl ?_; clear hK K d0 d1 d2 d3
  refine sc fun K hK => ?_
  obtain ⟨d0, d1, d2, d3⟩ := x_b4.f4
  go_big_op; refine hK _ _ rfl ?_; clear hK K d0 d1 d2 d3
  refine sc fun K hK => ?_
  go_big_op
  go_fit (gReduce_any (.mk' ha1 ha2) (.mk' hq1 hq2) (by omega) (by omega) (by omega) HH.out.1)
  rintro e w_5 ⟨_, rfl, ⟨n_ca, o_ca, k_ca, c_ca, n_cb, o_cb, k_cb, c_cb, rfl, c1, c2⟩, hb_5⟩
  replace ha1 := ha1.bl hb_5; replace ha2 := ha2.bl hb_5; replace hc1 := hc1.bl hb_5; replace hc2 := hc2.bl hb_5; replace hx := hx.bl hb_5; replace hq1 := hq1.bl hb_5; replace hq2 := hq2.bl hb_5; replace x_b1 := x_b1.bl hb_5; replace x_b2 := x_b2.bl hb_5; replace x_b3 := x_b3.bl hb_5; replace x_b4 := x_b4.bl hb_5; replace hb := tm hb hb_5
  refine hK _ _ rfl ?_
  clear hK K hb_5
  refine sc fun K hK => ?_
  go_big_move; refine hK _ _ rfl ?_; clear hK K
  refine sc fun K hK => ?_
  go_big_op; refine hK _ _ rfl ?_; clear hK K
  refine sc fun K hK => ?_
  go_big_op; refine hK _ _ rfl ?_; clear hK K
  refine sc fun K hK => ?_
  go_big_op
  have lt_b1 := x_b1.lt
  have lt_b2 := x_b2.lt
  have lt_b3 := x_b3.lt
  have lt_b4 := x_b4.lt
  obtain ⟨p_b5, w_6, eP, eW, x_b5, hn, kb_b5⟩ := newBox w_5 #[.bool false, .slice none 0 0, .bool false, .slice none 0 0] 26 hb.size
  have ne_b1_b5 : Hid (p_b1 ≠ p_b5) := Nat.ne_of_lt (eP ▸ lt_b1)
  have ne_b2_b5 : Hid (p_b2 ≠ p_b5) := Nat.ne_of_lt (eP ▸ lt_b2)
  have ne_b3_b5 : Hid (p_b3 ≠ p_b5) := Nat.ne_of_lt (eP ▸ lt_b3)
  have ne_b4_b5 : Hid (p_b4 ≠ p_b5) := Nat.ne_of_lt (eP ▸ lt_b4)
  rw [eW, eP]
  clear eW eP lt_b1 lt_b2 lt_b3 lt_b4
  replace ha1 := ha1.bl hn; replace ha2 := ha2.bl hn; replace hc1 := hc1.bl hn; replace hc2 := hc2.bl hn; replace hx := hx.bl hn; replace hq1 := hq1.bl hn; replace hq2 := hq2.bl hn; replace x_b1 := x_b1.bl hn; replace x_b2 := x_b2.bl hn; replace x_b3 := x_b3.bl hn; replace x_b4 := x_b4.bl hn; replace c1 := c1.bl hn; replace c2 := c2.bl hn; replace hb := tm hb hn
  refine hK _ _ rfl ?_; clear hK K hn
  refine sc fun K hK => ?_
  obtain ⟨d0, d1, d2, d3⟩ := x_b5.f4
  have f0 := x_b5.free 0; have f1 := x_b5.free 1; have f2 := x_b5.free 2; have f3 := x_b5.free 3
  go_big_op
  have hnd := x_b5.nod rfl rfl
  obtain ⟨w_7, eW, x_b5', ho⟩ : ∃ w', ((((w_6.setCell ⟨p_b5, 0, none⟩ (.bool n_ca)).setCell ⟨p_b5, 1, none⟩ (.slice o_ca k_ca c_ca)).setCell ⟨p_b5, 2, none⟩ (.bool n_cb)).setCell ⟨p_b5, 3, none⟩ (.slice o_cb k_cb c_cb)) = w' ∧ Bs w' p_b5 #[.bool n_ca, .slice o_ca k_ca c_ca, .bool n_cb, .slice o_cb k_cb c_cb] 26 ∧ Only p_b5 w_6 w' := x_b5.setN [(0, .bool n_ca), (1, .slice o_ca k_ca c_ca), (2, .bool n_cb), (3, .slice o_cb k_cb c_cb)]
  rw [eW]; clear eW d0 d1 d2 d3 f0 f1 f2 f3 x_b5
  have x_b5 := x_b5'; clear x_b5'
  replace ha1 := ha1.fr hnd ho; replace ha2 := ha2.fr hnd ho; replace hc1 := hc1.fr hnd ho; replace hc2 := hc2.fr hnd ho; replace hx := hx.fr hnd ho; replace hq1 := hq1.fr hnd ho; replace hq2 := hq2.fr hnd ho; replace x_b1 := x_b1.frame ho ne_b1_b5; replace x_b2 := x_b2.frame ho ne_b2_b5; replace x_b3 := x_b3.frame ho ne_b3_b5; replace x_b4 := x_b4.frame ho ne_b4_b5; replace c1 := c1.fr hnd ho; replace c2 := c2.fr hnd ho; replace hb := belowOnly hb ho kb_b5
  refine hK _ _ rfl ?_; clear hK K ho hnd
  refine sc fun K hK => ?_
  go_big_move; refine hK _ _ rfl ?_; clear hK K
  apply wpSq_end
  refine hK2 _ _ ?_
  refine wp_seq_k ?_
  intro K3 hK3
  refine wp_region_sq [0, 1, 2, 3, 4, 5, 6, 7, 8, 9] (by kernel_rfl) ?_
  refine sc fun K hK => ?_
  obtain ⟨d0, d1, d2, d3⟩ := x_b1.f4
  go_big_op; refine hK _ _ rfl ?_; clear hK K d0 d1 d2 d3
  refine sc fun K hK => ?_
  obtain ⟨d0, d1, d2, d3⟩ := x_b2.f4
  go_big_op; refine hK _ _ rfl ?_; clear hK K d0 d1 d2 d3
  refine sc fun K hK => ?_
  obtain ⟨d0, d1, d2, d3⟩ := x_b4.f4
  go_big_op; refine hK _ _ rfl ?_; clear hK K d0 d1 d2 d3
  refine sc fun K hK => ?_
  go_big_op
  go_fit (gresMul_any (.mk' ha1 ha2) (.mk' hc1 hc2) (.mk' hq1 hq2) (by omega) (by omega) (by omega) (by omega) (by omega) HH.out.1)
  rintro e w_8 ⟨_, rfl, ⟨n_da, o_da, k_da, c_da, n_db, o_db, k_db, c_db, rfl, d1, d2⟩, hb_8⟩
  replace ha1 := ha1.bl hb_8; replace ha2 := ha2.bl hb_8; replace hc1 := hc1.bl hb_8; replace hc2 := hc2.bl hb_8; replace hx := hx.bl hb_8; replace hq1 := hq1.bl hb_8; replace hq2 := hq2.bl hb_8; replace x_b1 := x_b1.bl hb_8; replace x_b2 := x_b2.bl hb_8; replace x_b3 := x_b3.bl hb_8; replace x_b4 := x_b4.bl hb_8; replace c1 := c1.bl hb_8; replace c2 := c2.bl hb_8; replace x_b5 := x_b5.bl hb_8; replace hb := tm hb hb_8
  refine hK _ _ rfl ?_
  clear hK K hb_8
  refine sc fun K hK => ?_
  go_big_move; refine hK _ _ rfl ?_; clear hK K
  refine sc fun K hK => ?_
  go_big_op; refine hK _ _ rfl ?_; clear hK K
  refine sc fun K hK => ?_
  go_big_op; refine hK _ _ rfl ?_; clear hK K
  refine sc fun K hK => ?_
  go_big_op
  have lt_b1 := x_b1.lt
  have lt_b2 := x_b2.lt
  have lt_b3 := x_b3.lt
  have lt_b4 := x_b4.lt
  have lt_b5 := x_b5.lt
  obtain ⟨p_b6, w_9, eP, eW, x_b6, hn, kb_b6⟩ := newBox w_8 #[.bool false, .slice none 0 0, .bool false, .slice none 0 0] 26 hb.size
  have ne_b1_b6 : Hid (p_b1 ≠ p_b6) := Nat.ne_of_lt (eP ▸ lt_b1)
  have ne_b2_b6 : Hid (p_b2 ≠ p_b6) := Nat.ne_of_lt (eP ▸ lt_b2)
  have ne_b3_b6 : Hid (p_b3 ≠ p_b6) := Nat.ne_of_lt (eP ▸ lt_b3)
  have ne_b4_b6 : Hid (p_b4 ≠ p_b6) := Nat.ne_of_lt (eP ▸ lt_b4)
  have ne_b5_b6 : Hid (p_b5 ≠ p_b6) := Nat.ne_of_lt (eP ▸ lt_b5)
  rw [eW, eP]
  clear eW eP lt_b1 lt_b2 lt_b3 lt_b4 lt_b5
  replace ha1 := ha1.bl hn; replace ha2 := ha2.bl hn; replace hc1 := hc1.bl hn; replace hc2 := hc2.bl hn; replace hx := hx.bl hn; replace hq1 := hq1.bl hn; replace hq2 := hq2.bl hn; replace x_b1 := x_b1.bl hn; replace x_b2 := x_b2.bl hn; replace x_b3 := x_b3.bl hn; replace x_b4 := x_b4.bl hn; replace c1 := c1.bl hn; replace c2 := c2.bl hn; replace x_b5 := x_b5.bl hn; replace d1 := d1.bl hn; replace d2 := d2.bl hn; replace hb := tm hb hn
  refine hK _ _ rfl ?_; clear hK K hn
  refine sc fun K hK => ?_
  obtain ⟨d0, d1, d2, d3⟩ := x_b6.f4
  have f0 := x_b6.free 0; have f1 := x_b6.free 1; have f2 := x_b6.free 2; have f3 := x_b6.free 3
  go_big_op
  have hnd := x_b6.nod rfl rfl
  obtain ⟨w_10, eW, x_b6', ho⟩ : ∃ w', ((((w_9.setCell ⟨p_b6, 0, none⟩ (.bool n_da)).setCell ⟨p_b6, 1, none⟩ (.slice o_da k_da c_da)).setCell ⟨p_b6, 2, none⟩ (.bool n_db)).setCell ⟨p_b6, 3, none⟩ (.slice o_db k_db c_db)) = w' ∧ Bs w' p_b6 #[.bool n_da, .slice o_da k_da c_da, .bool n_db, .slice o_db k_db c_db] 26 ∧ Only p_b6 w_9 w' := x_b6.setN [(0, .bool n_da), (1, .slice o_da k_da c_da), (2, .bool n_db), (3, .slice o_db k_db c_db)]
  rw [eW]; clear eW d0 d1 d2 d3 f0 f1 f2 f3 x_b6
  have x_b6 := x_b6'; clear x_b6'
  replace ha1 := ha1.fr hnd ho; replace ha2 := ha2.fr hnd ho; replace hc1 := hc1.fr hnd ho; replace hc2 := hc2.fr hnd ho; replace hx := hx.fr hnd ho; replace hq1 := hq1.fr hnd ho; replace hq2 := hq2.fr hnd ho; replace x_b1 := x_b1.frame ho ne_b1_b6; replace x_b2 := x_b2.frame ho ne_b2_b6; replace x_b3 := x_b3.frame ho ne_b3_b6; replace x_b4 := x_b4.frame ho ne_b4_b6; replace c1 := c1.fr hnd ho; replace c2 := c2.fr hnd ho; replace x_b5 := x_b5.frame ho ne_b5_b6; replace d1 := d1.fr hnd ho; replace d2 := d2.fr hnd ho; replace hb := belowOnly hb ho kb_b6
  refine hK _ _ rfl ?_; clear hK K ho hnd
  refine sc fun K hK => ?_
  go_big_move; refine hK _ _ rfl ?_; clear hK K
  apply wpSq_end
  refine hK3 _ _ ?_
  refine wp_seq_k ?_
  intro K4 hK4
  refine wp_region_sq [0, 1, 2, 3, 4, 5, 6, 7, 8, 9] (by kernel_rfl) ?_
  refine sc fun K hK => ?_
  obtain ⟨d0, d1, d2, d3⟩ := x_b1.f4
  go_big_op; refine hK _ _ rfl ?_; clear hK K d0 d1 d2 d3
  refine sc fun K hK => ?_
  obtain ⟨d0, d1⟩ := x_b3.f2
  go_big_op; refine hK _ _ rfl ?_; clear hK K d0 d1
  refine sc fun K hK => ?_
  obtain ⟨d0, d1, d2, d3⟩ := x_b4.f4
  go_big_op; refine hK _ _ rfl ?_; clear hK K d0 d1 d2 d3
  refine sc fun K hK => ?_
  go_big_op
  go_fit (gPow_any (.mk' ha1 ha2) hx (.mk' hq1 hq2) (by omega) (by omega) (by omega) (by omega) HH.out.1 HH.out.2)
  rintro e w_11 ⟨_, rfl, ⟨n_ea, o_ea, k_ea, c_ea, n_eb, o_eb, k_eb, c_eb, rfl, e1, e2⟩, hb_11⟩
  replace ha1 := ha1.bl hb_11; replace ha2 := ha2.bl hb_11; replace hc1 := hc1.bl hb_11; replace hc2 := hc2.bl hb_11; replace hx := hx.bl hb_11; replace hq1 := hq1.bl hb_11; replace hq2 := hq2.bl hb_11; replace x_b1 := x_b1.bl hb_11; replace x_b2 := x_b2.bl hb_11; replace x_b3 := x_b3.bl hb_11; replace x_b4 := x_b4.bl hb_11; replace c1 := c1.bl hb_11; replace c2 := c2.bl hb_11; replace x_b5 := x_b5.bl hb_11; replace d1 := d1.bl hb_11; replace d2 := d2.bl hb_11; replace x_b6 := x_b6.bl hb_11; replace hb := tm hb hb_11
  refine hK _ _ rfl ?_
  clear hK K hb_11
  refine sc fun K hK => ?_
  go_big_move; refine hK _ _ rfl ?_; clear hK K
  refine sc fun K hK => ?_
  go_big_op; refine hK _ _ rfl ?_; clear hK K
  refine sc fun K hK => ?_
  go_big_op; refine hK _ _ rfl ?_; clear hK K
  refine sc fun K hK => ?_
  go_big_op
  have lt_b1 := x_b1.lt
  have lt_b2 := x_b2.lt
  have lt_b3 := x_b3.lt
  have lt_b4 := x_b4.lt
  have lt_b5 := x_b5.lt
  have lt_b6 := x_b6.lt
  obtain ⟨p_b7, w_12, eP, eW, x_b7, hn, kb_b7⟩ := newBox w_11 #[.bool false, .slice none 0 0, .bool false, .slice none 0 0] 26 hb.size
  have ne_b1_b7 : Hid (p_b1 ≠ p_b7) := Nat.ne_of_lt (eP ▸ lt_b1)
  have ne_b2_b7 : Hid (p_b2 ≠ p_b7) := Nat.ne_of_lt (eP ▸ lt_b2)
  have ne_b3_b7 : Hid (p_b3 ≠ p_b7) := Nat.ne_of_lt (eP ▸ lt_b3)
  have ne_b4_b7 : Hid (p_b4 ≠ p_b7) := Nat.ne_of_lt (eP ▸ lt_b4)
  have ne_b5_b7 : Hid (p_b5 ≠ p_b7) := Nat.ne_of_lt (eP ▸ lt_b5)
  have ne_b6_b7 : Hid (p_b6 ≠ p_b7) := Nat.ne_of_lt (eP ▸ lt_b6)
  rw [eW, eP]
  clear eW eP lt_b1 lt_b2 lt_b3 lt_b4 lt_b5 lt_b6
  replace ha1 := ha1.bl hn; replace ha2 := ha2.bl hn; replace hc1 := hc1.bl hn; replace hc2 := hc2.bl hn; replace hx := hx.bl hn; replace hq1 := hq1.bl hn; replace hq2 := hq2.bl hn; replace x_b1 := x_b1.bl hn; replace x_b2 := x_b2.bl hn; replace x_b3 := x_b3.bl hn; replace x_b4 := x_b4.bl hn; replace c1 := c1.bl hn; replace c2 := c2.bl hn; replace x_b5 := x_b5.bl hn; replace d1 := d1.bl hn; replace d2 := d2.bl hn; replace x_b6 := x_b6.bl hn; replace e1 := e1.bl hn; replace e2 := e2.bl hn; replace hb := tm hb hn
  refine hK _ _ rfl ?_; clear hK K hn
  refine sc fun K hK => ?_
  obtain ⟨d0, d1, d2, d3⟩ := x_b7.f4
  have f0 := x_b7.free 0; have f1 := x_b7.free 1; have f2 := x_b7.free 2; have f3 := x_b7.free 3
  go_big_op
  have hnd := x_b7.nod rfl rfl
  obtain ⟨w_13, eW, x_b7', ho⟩ : ∃ w', ((((w_12.setCell ⟨p_b7, 0, none⟩ (.bool n_ea)).setCell ⟨p_b7, 1, none⟩ (.slice o_ea k_ea c_ea)).setCell ⟨p_b7, 2, none⟩ (.bool n_eb)).setCell ⟨p_b7, 3, none⟩ (.slice o_eb k_eb c_eb)) = w' ∧ Bs w' p_b7 #[.bool n_ea, .slice o_ea k_ea c_ea, .bool n_eb, .slice o_eb k_eb c_eb] 26 ∧ Only p_b7 w_12 w' := x_b7.setN [(0, .bool n_ea), (1, .slice o_ea k_ea c_ea), (2, .bool n_eb), (3, .slice o_eb k_eb c_eb)]
  rw [eW]; clear eW d0 d1 d2 d3 f0 f1 f2 f3 x_b7
  have x_b7 := x_b7'; clear x_b7'
  replace ha1 := ha1.fr hnd ho; replace ha2 := ha2.fr hnd ho; replace hc1 := hc1.fr hnd ho; replace hc2 := hc2.fr hnd ho; replace hx := hx.fr hnd ho; replace hq1 := hq1.fr hnd ho; replace hq2 := hq2.fr hnd ho; replace x_b1 := x_b1.frame ho ne_b1_b7; replace x_b2 := x_b2.frame ho ne_b2_b7; replace x_b3 := x_b3.frame ho ne_b3_b7; replace x_b4 := x_b4.frame ho ne_b4_b7; replace c1 := c1.fr hnd ho; replace c2 := c2.fr hnd ho; replace x_b5 := x_b5.frame ho ne_b5_b7; replace d1 := d1.fr hnd ho; replace d2 := d2.fr hnd ho; replace x_b6 := x_b6.frame ho ne_b6_b7; replace e1 := e1.fr hnd ho; replace e2 := e2.fr hnd ho; replace hb := belowOnly hb ho kb_b7
  refine hK _ _ rfl ?_; clear hK K ho hnd
  refine sc fun K hK => ?_
  go_big_move; refine hK _ _ rfl ?_; clear hK K
  apply wpSq_end
  refine hK4 _ _ ?_
  refine wp_seq_k ?_
  intro K5 hK5
  refine wp_region_sq [0, 1, 2, 3, 4, 5, 6, 7] (by kernel_rfl) ?_
  refine sc fun K hK => ?_
  obtain ⟨d0, d1, d2, d3⟩ := x_b4.f4
  go_big_op; refine hK _ _ rfl ?_; clear hK K d0 d1 d2 d3
  refine sc fun K hK => ?_
  go_big_op
  go_fit (gCount_any (.mk' hq1 hq2) (by omega) HH.out.1)
  rintro e w_14 ⟨v_f, rfl, f, hb_14⟩
  replace ha1 := ha1.bl hb_14; replace ha2 := ha2.bl hb_14; replace hc1 := hc1.bl hb_14; replace hc2 := hc2.bl hb_14; replace hx := hx.bl hb_14; replace hq1 := hq1.bl hb_14; replace hq2 := hq2.bl hb_14; replace x_b1 := x_b1.bl hb_14; replace x_b2 := x_b2.bl hb_14; replace x_b3 := x_b3.bl hb_14; replace x_b4 := x_b4.bl hb_14; replace c1 := c1.bl hb_14; replace c2 := c2.bl hb_14; replace x_b5 := x_b5.bl hb_14; replace d1 := d1.bl hb_14; replace d2 := d2.bl hb_14; replace x_b6 := x_b6.bl hb_14; replace e1 := e1.bl hb_14; replace e2 := e2.bl hb_14; replace x_b7 := x_b7.bl hb_14; replace hb := tm hb hb_14
  obtain ⟨n_f, o_f, k_f, c_f, rfl⟩ := f.open2
  refine hK _ _ rfl ?_
  clear hK K hb_14
  refine sc fun K hK => ?_
  go_big_move; refine hK _ _ rfl ?_; clear hK K
  refine sc fun K hK => ?_
  go_big_op; refine hK _ _ rfl ?_; clear hK K
  refine sc fun K hK => ?_
  go_big_op; refine hK _ _ rfl ?_; clear hK K
  refine sc fun K hK => ?_
  go_big_op
  have lt_b1 := x_b1.lt
  have lt_b2 := x_b2.lt
  have lt_b3 := x_b3.lt
  have lt_b4 := x_b4.lt
  have lt_b5 := x_b5.lt
  have lt_b6 := x_b6.lt
  have lt_b7 := x_b7.lt
  obtain ⟨p_b8, w_15, eP, eW, x_b8, hn, kb_b8⟩ := newBox w_14 #[.bool false, .slice none 0 0] 24 hb.size
  have ne_b1_b8 : Hid (p_b1 ≠ p_b8) := Nat.ne_of_lt (eP ▸ lt_b1)
  have ne_b2_b8 : Hid (p_b2 ≠ p_b8) := Nat.ne_of_lt (eP ▸ lt_b2)
  have ne_b3_b8 : Hid (p_b3 ≠ p_b8) := Nat.ne_of_lt (eP ▸ lt_b3)
  have ne_b4_b8 : Hid (p_b4 ≠ p_b8) := Nat.ne_of_lt (eP ▸ lt_b4)
  have ne_b5_b8 : Hid (p_b5 ≠ p_b8) := Nat.ne_of_lt (eP ▸ lt_b5)
  have ne_b6_b8 : Hid (p_b6 ≠ p_b8) := Nat.ne_of_lt (eP ▸ lt_b6)
  have ne_b7_b8 : Hid (p_b7 ≠ p_b8) := Nat.ne_of_lt (eP ▸ lt_b7)
  rw [eW, eP]
  clear eW eP lt_b1 lt_b2 lt_b3 lt_b4 lt_b5 lt_b6 lt_b7
  replace ha1 := ha1.bl hn; replace ha2 := ha2.bl hn; replace hc1 := hc1.bl hn; replace hc2 := hc2.bl hn; replace hx := hx.bl hn; replace hq1 := hq1.bl hn; replace hq2 := hq2.bl hn; replace x_b1 := x_b1.bl hn; replace x_b2 := x_b2.bl hn; replace x_b3 := x_b3.bl hn; replace x_b4 := x_b4.bl hn; replace c1 := c1.bl hn; replace c2 := c2.bl hn; replace x_b5 := x_b5.bl hn; replace d1 := d1.bl hn; replace d2 := d2.bl hn; replace x_b6 := x_b6.bl hn; replace e1 := e1.bl hn; replace e2 := e2.bl hn; replace x_b7 := x_b7.bl hn; replace f := f.bl hn; replace hb := tm hb hn
  refine hK _ _ rfl ?_; clear hK K hn
  refine sc fun K hK => ?_
  obtain ⟨d0, d1⟩ := x_b8.f2
  have f0 := x_b8.free 0; have f1 := x_b8.free 1
  go_big_op
  have hnd := x_b8.nod rfl rfl
  obtain ⟨w_16, eW, x_b8', ho⟩ : ∃ w', ((w_15.setCell ⟨p_b8, 0, none⟩ (.bool n_f)).setCell ⟨p_b8, 1, none⟩ (.slice o_f k_f c_f)) = w' ∧ Bs w' p_b8 #[.bool n_f, .slice o_f k_f c_f] 24 ∧ Only p_b8 w_15 w' := x_b8.setN [(0, .bool n_f), (1, .slice o_f k_f c_f)]
  rw [eW]; clear eW d0 d1 f0 f1 x_b8
  have x_b8 := x_b8'; clear x_b8'
  replace ha1 := ha1.fr hnd ho; replace ha2 := ha2.fr hnd ho; replace hc1 := hc1.fr hnd ho; replace hc2 := hc2.fr hnd ho; replace hx := hx.fr hnd ho; replace hq1 := hq1.fr hnd ho; replace hq2 := hq2.fr hnd ho; replace x_b1 := x_b1.frame ho ne_b1_b8; replace x_b2 := x_b2.frame ho ne_b2_b8; replace x_b3 := x_b3.frame ho ne_b3_b8; replace x_b4 := x_b4.frame ho ne_b4_b8; replace c1 := c1.fr hnd ho; replace c2 := c2.fr hnd ho; replace x_b5 := x_b5.frame ho ne_b5_b8; replace d1 := d1.fr hnd ho; replace d2 := d2.fr hnd ho; replace x_b6 := x_b6.frame ho ne_b6_b8; replace e1 := e1.fr hnd ho; replace e2 := e2.fr hnd ho; replace x_b7 := x_b7.frame ho ne_b7_b8; replace f := f.fr hnd ho; replace hb := belowOnly hb ho kb_b8
  refine hK _ _ rfl ?_; clear hK K ho hnd
  refine sc fun K hK => ?_
  go_big_move; refine hK _ _ rfl ?_; clear hK K
  apply wpSq_end
  refine hK5 _ _ ?_
  refine wp_seq_k ?_
  intro K6 hK6
  refine wp_seq_k ?_
  intro K7 hK7
  refine wp_region_sq [0, 1] (by kernel_rfl) ?_
  refine sc fun K hK => ?_
  go_big_op
  go_fit (awake5_any _)
  rintro e w_17 ⟨rfl, hb_17⟩
  replace ha1 := ha1.bl hb_17; replace ha2 := ha2.bl hb_17; replace hc1 := hc1.bl hb_17; replace hc2 := hc2.bl hb_17; replace hx := hx.bl hb_17; replace hq1 := hq1.bl hb_17; replace hq2 := hq2.bl hb_17; replace x_b1 := x_b1.bl hb_17; replace x_b2 := x_b2.bl hb_17; replace x_b3 := x_b3.bl hb_17; replace x_b4 := x_b4.bl hb_17; replace c1 := c1.bl hb_17; replace c2 := c2.bl hb_17; replace x_b5 := x_b5.bl hb_17; replace d1 := d1.bl hb_17; replace d2 := d2.bl hb_17; replace x_b6 := x_b6.bl hb_17; replace e1 := e1.bl hb_17; replace e2 := e2.bl hb_17; replace x_b7 := x_b7.bl hb_17; replace f := f.bl hb_17; replace x_b8 := x_b8.bl hb_17; replace hb := tm hb hb_17
  refine hK _ _ rfl ?_
  clear hK K hb_17
  refine sc fun K hK => ?_
  go_big_op; refine hK _ _ rfl ?_; clear hK K
  apply wpSq_end
  refine hK7 _ _ ?_
  refine wp_cond_false (congrArg Value.bool (show _ = false from (by first | rfl | assumption | (simp; done) | exact decide_eq_false (by omega) | omega))) ?_
  refine wp_skip ?_
  refine hK6 _ _ ?_
  refine wp_seq_k ?_
  intro K8 hK8
  refine wp_seq_k ?_
  intro K9 hK9
  refine wp_region_sq [0, 1] (by kernel_rfl) ?_
  refine sc fun K hK => ?_
  obtain ⟨d0, d1, d2, d3⟩ := x_b4.f4
  go_big_op; refine hK _ _ rfl ?_; clear hK K d0 d1 d2 d3
  refine sc fun K hK => ?_
  go_big_op
  go_fit (rgNull_any (.mk' hq1 hq2) (by omega) (by omega))
  rintro e w_18 ⟨rfl, hb_18⟩
  replace ha1 := ha1.bl hb_18; replace ha2 := ha2.bl hb_18; replace hc1 := hc1.bl hb_18; replace hc2 := hc2.bl hb_18; replace hx := hx.bl hb_18; replace hq1 := hq1.bl hb_18; replace hq2 := hq2.bl hb_18; replace x_b1 := x_b1.bl hb_18; replace x_b2 := x_b2.bl hb_18; replace x_b3 := x_b3.bl hb_18; replace x_b4 := x_b4.bl hb_18; replace c1 := c1.bl hb_18; replace c2 := c2.bl hb_18; replace x_b5 := x_b5.bl hb_18; replace d1 := d1.bl hb_18; replace d2 := d2.bl hb_18; replace x_b6 := x_b6.bl hb_18; replace e1 := e1.bl hb_18; replace e2 := e2.bl hb_18; replace x_b7 := x_b7.bl hb_18; replace f := f.bl hb_18; replace x_b8 := x_b8.bl hb_18; replace hb := tm hb hb_18
  rw [HD.out]
  refine hK _ _ rfl ?_
  clear hK K hb_18
  apply wpSq_end
  refine hK9 _ _ ?_
  refine wp_cond_false (congrArg Value.bool (show _ = false from (by first | rfl | assumption | (simp; done) | exact decide_eq_false (by omega) | omega))) ?_
  refine wp_skip ?_
  refine hK8 _ _ ?_
  refine wp_seq_k ?_
  intro K10 hK10
  refine wp_seq_k ?_
  intro K11 hK11
  refine wp_region_fl2 [(0, false), (1, false), (2, false), (3, false), (4, true), (5, true), (6, false), (7, false), (8, false), (9, false), (10, false), (11, false), (13, false), (12, true), (14, true), (15, true), (16, false), (17, false), (18, false), (19, false), (20, false), (21, false), (22, false), (23, false), (24, false), (25, true), (26, true), (27, false), (28, false)] [] [] (fun _ => default) [0, 99, 1, 2, 99, 99, 99, 99, 3, 99, 1, 4, 99, 2, 99, 99, 99, 99, 99, 99, 99, 99, 99, 5, 2, 99, 99, 99, 99] [] (fun w' => w'.cell? ⟨p_b5, 0, none⟩ = some (.bool n_ca) ∧ w'.cell? ⟨p_b5, 1, none⟩ = some (.slice o_ca k_ca c_ca) ∧ w'.cell? ⟨p_b5, 2, none⟩ = some (.bool n_cb) ∧ w'.cell? ⟨p_b5, 3, none⟩ = some (.slice o_cb k_cb c_cb) ∧ w'.cell? ⟨p_b1, 0, none⟩ = some (.bool n_0a) ∧ w'.cell? ⟨p_b1, 1, none⟩ = some (.slice o_0a k_0a c_0a) ∧ w'.cell? ⟨p_b1, 2, none⟩ = some (.bool n_0b) ∧ w'.cell? ⟨p_b1, 3, none⟩ = some (.slice o_0b k_0b c_0b) ∧ w'.cell? ⟨p_b4, 0, none⟩ = some (.bool n_3a) ∧ w'.cell? ⟨p_b4, 1, none⟩ = some (.slice o_3a k_3a c_3a) ∧ w'.cell? ⟨p_b4, 2, none⟩ = some (.bool n_3b) ∧ w'.cell? ⟨p_b4, 3, none⟩ = some (.slice o_3b k_3b c_3b) ∧ w'.cell? ⟨p_b6, 0, none⟩ = some (.bool n_da) ∧ w'.cell? ⟨p_b6, 1, none⟩ = some (.slice o_da k_da c_da) ∧ w'.cell? ⟨p_b6, 2, none⟩ = some (.bool n_db) ∧ w'.cell? ⟨p_b6, 3, none⟩ = some (.slice o_db k_db c_db) ∧ w'.cell? ⟨p_b2, 0, none⟩ = some (.bool n_1a) ∧ w'.cell? ⟨p_b2, 1, none⟩ = some (.slice o_1a k_1a c_1a) ∧ w'.cell? ⟨p_b2, 2, none⟩ = some (.bool n_1b) ∧ w'.cell? ⟨p_b2, 3, none⟩ = some (.slice o_1b k_1b c_1b) ∧ w'.cell? ⟨p_b8, 0, none⟩ = some (.bool n_f) ∧ w'.cell? ⟨p_b8, 1, none⟩ = some (.slice o_f k_f c_f)) [fun w' => w'.cell? ⟨p_b5, 0, none⟩ = some (.bool n_ca) ∧ w'.cell? ⟨p_b5, 1, none⟩ = some (.slice o_ca k_ca c_ca) ∧ w'.cell? ⟨p_b5, 2, none⟩ = some (.bool n_cb) ∧ w'.cell? ⟨p_b5, 3, none⟩ = some (.slice o_cb k_cb c_cb), fun w' => w'.cell? ⟨p_b1, 0, none⟩ = some (.bool n_0a) ∧ w'.cell? ⟨p_b1, 1, none⟩ = some (.slice o_0a k_0a c_0a) ∧ w'.cell? ⟨p_b1, 2, none⟩ = some (.bool n_0b) ∧ w'.cell? ⟨p_b1, 3, none⟩ = some (.slice o_0b k_0b c_0b), fun w' => w'.cell? ⟨p_b4, 0, none⟩ = some (.bool n_3a) ∧ w'.cell? ⟨p_b4, 1, none⟩ = some (.slice o_3a k_3a c_3a) ∧ w'.cell? ⟨p_b4, 2, none⟩ = some (.bool n_3b) ∧ w'.cell? ⟨p_b4, 3, none⟩ = some (.slice o_3b k_3b c_3b), fun w' => w'.cell? ⟨p_b6, 0, none⟩ = some (.bool n_da) ∧ w'.cell? ⟨p_b6, 1, none⟩ = some (.slice o_da k_da c_da) ∧ w'.cell? ⟨p_b6, 2, none⟩ = some (.bool n_db) ∧ w'.cell? ⟨p_b6, 3, none⟩ = some (.slice o_db k_db c_db), fun w' => w'.cell? ⟨p_b2, 0, none⟩ = some (.bool n_1a) ∧ w'.cell? ⟨p_b2, 1, none⟩ = some (.slice o_1a k_1a c_1a) ∧ w'.cell? ⟨p_b2, 2, none⟩ = some (.bool n_1b) ∧ w'.cell? ⟨p_b2, 3, none⟩ = some (.slice o_1b k_1b c_1b), fun w' => w'.cell? ⟨p_b8, 0, none⟩ = some (.bool n_f) ∧ w'.cell? ⟨p_b8, 1, none⟩ = some (.slice o_f k_f c_f)] (by kernel_rfl) (by kernel_rfl) (by kernel_rfl) (by kernel_rfl) (by kernel_rfl) (by kernel_rfl) (by kernel_rfl) (by kernel_rfl) (by decide) (by intro j hj; cases hj) (by intro w' o hC; obtain ⟨c0, c1, c2, c3, c4, c5, c6, c7, c8, c9, c10, c11, c12, c13, c14, c15, c16, c17, c18, c19, c20, c21⟩ := hC; exact ⟨cell_alloc c0 o, cell_alloc c1 o, cell_alloc c2 o, cell_alloc c3 o, cell_alloc c4 o, cell_alloc c5 o, cell_alloc c6 o, cell_alloc c7 o, cell_alloc c8 o, cell_alloc c9 o, cell_alloc c10 o, cell_alloc c11 o, cell_alloc c12 o, cell_alloc c13 o, cell_alloc c14 o, cell_alloc c15 o, cell_alloc c16 o, cell_alloc c17 o, cell_alloc c18 o, cell_alloc c19 o, cell_alloc c20 o, cell_alloc c21 o⟩) (by intro w' hC G hG; obtain ⟨c0, c1, c2, c3, c4, c5, c6, c7, c8, c9, c10, c11, c12, c13, c14, c15, c16, c17, c18, c19, c20, c21⟩ := hC; simp only [List.mem_cons, List.not_mem_nil, or_false] at hG; rcases hG with rfl | rfl | rfl | rfl | rfl | rfl <;> first | exact ⟨c0, c1, c2, c3⟩ | exact ⟨c4, c5, c6, c7⟩ | exact ⟨c8, c9, c10, c11⟩ | exact ⟨c12, c13, c14, c15⟩ | exact ⟨c16, c17, c18, c19⟩ | exact ⟨c20, c21⟩) ?_
  have lt_b1 := x_b1.lt
  have lt_b2 := x_b2.lt
  have lt_b3 := x_b3.lt
  have lt_b4 := x_b4.lt
  have lt_b5 := x_b5.lt
  have lt_b6 := x_b6.lt
  have lt_b7 := x_b7.lt
  have lt_b8 := x_b8.lt
  intro w_19 hn
  replace lt_b1 := Nat.lt_of_lt_of_le lt_b1 hn.size
  replace lt_b2 := Nat.lt_of_lt_of_le lt_b2 hn.size
  replace lt_b3 := Nat.lt_of_lt_of_le lt_b3 hn.size
  replace lt_b4 := Nat.lt_of_lt_of_le lt_b4 hn.size
  replace lt_b5 := Nat.lt_of_lt_of_le lt_b5 hn.size
  replace lt_b6 := Nat.lt_of_lt_of_le lt_b6 hn.size
  replace lt_b7 := Nat.lt_of_lt_of_le lt_b7 hn.size
  replace lt_b8 := Nat.lt_of_lt_of_le lt_b8 hn.size
  replace ha1 := ha1.bl hn; replace ha2 := ha2.bl hn; replace hc1 := hc1.bl hn; replace hc2 := hc2.bl hn; replace hx := hx.bl hn; replace hq1 := hq1.bl hn; replace hq2 := hq2.bl hn; replace x_b1 := x_b1.bl hn; replace x_b2 := x_b2.bl hn; replace x_b3 := x_b3.bl hn; replace x_b4 := x_b4.bl hn; replace c1 := c1.bl hn; replace c2 := c2.bl hn; replace x_b5 := x_b5.bl hn; replace d1 := d1.bl hn; replace d2 := d2.bl hn; replace x_b6 := x_b6.bl hn; replace e1 := e1.bl hn; replace e2 := e2.bl hn; replace x_b7 := x_b7.bl hn; replace f := f.bl hn; replace x_b8 := x_b8.bl hn; replace hb := tm hb hn
  clear hn
  have kb0 := hb.size
  refine ⟨⟨x_b5.cell 0 rfl, x_b5.cell 1 rfl, x_b5.cell 2 rfl, x_b5.cell 3 rfl, x_b1.cell 0 rfl, x_b1.cell 1 rfl, x_b1.cell 2 rfl, x_b1.cell 3 rfl, x_b4.cell 0 rfl, x_b4.cell 1 rfl, x_b4.cell 2 rfl, x_b4.cell 3 rfl, x_b6.cell 0 rfl, x_b6.cell 1 rfl, x_b6.cell 2 rfl, x_b6.cell 3 rfl, x_b2.cell 0 rfl, x_b2.cell 1 rfl, x_b2.cell 2 rfl, x_b2.cell 3 rfl, x_b8.cell 0 rfl, x_b8.cell 1 rfl⟩, ?_⟩
  apply wpFl_ld rfl rfl; (case h1 => intro w' hC K hK; obtain ⟨c0, c1, c2, c3⟩ := hC; go_big_op; exact hK); iterate 4 kernel_rfl
  apply wpFl_ld rfl rfl; (case h1 => intro w' hC K hK; go_big_move; exact hK); iterate 4 kernel_rfl
  apply wpFl_ld rfl rfl; (case h1 => intro w' hC K hK; obtain ⟨c0, c1, c2, c3⟩ := hC; go_big_op; exact hK); iterate 4 kernel_rfl
  apply wpFl_ld rfl rfl; (case h1 => intro w' hC K hK; obtain ⟨c0, c1, c2, c3⟩ := hC; go_big_op; exact hK); iterate 4 kernel_rfl
  refine wpFl_call rfl (by kernel_rfl) fun w_20 hn hC => ?_; clear hC
  replace ha1 := ha1.bl hn; replace ha2 := ha2.bl hn; replace hc1 := hc1.bl hn; replace hc2 := hc2.bl hn; replace hx := hx.bl hn; replace hq1 := hq1.bl hn; replace hq2 := hq2.bl hn; replace x_b1 := x_b1.bl hn; replace x_b2 := x_b2.bl hn; replace x_b3 := x_b3.bl hn; replace x_b4 := x_b4.bl hn; replace c1 := c1.bl hn; replace c2 := c2.bl hn; replace x_b5 := x_b5.bl hn; replace d1 := d1.bl hn; replace d2 := d2.bl hn; replace x_b6 := x_b6.bl hn; replace e1 := e1.bl hn; replace e2 := e2.bl hn; replace x_b7 := x_b7.bl hn; replace f := f.bl hn; replace x_b8 := x_b8.bl hn; replace hb := tm hb hn
  clear hn; intro K hK
  go_big_op
  go_fit (rres_any (PN.mk' ha1 ha2) (PN.mk' hq1 hq2) (by omega) (by omega) (by omega) HH.out.1)
  rintro e w_21 ⟨_, rfl, ⟨n_ga, o_ga, k_ga, c_ga, n_gb, o_gb, k_gb, c_gb, rfl, g1, g2⟩, hb_21⟩
  replace ha1 := ha1.bl hb_21; replace ha2 := ha2.bl hb_21; replace hc1 := hc1.bl hb_21; replace hc2 := hc2.bl hb_21; replace hx := hx.bl hb_21; replace hq1 := hq1.bl hb_21; replace hq2 := hq2.bl hb_21; replace x_b1 := x_b1.bl hb_21; replace x_b2 := x_b2.bl hb_21; replace x_b3 := x_b3.bl hb_21; replace x_b4 := x_b4.bl hb_21; replace c1 := c1.bl hb_21; replace c2 := c2.bl hb_21; replace x_b5 := x_b5.bl hb_21; replace d1 := d1.bl hb_21; replace d2 := d2.bl hb_21; replace x_b6 := x_b6.bl hb_21; replace e1 := e1.bl hb_21; replace e2 := e2.bl hb_21; replace x_b7 := x_b7.bl hb_21; replace f := f.bl hb_21; replace x_b8 := x_b8.bl hb_21; replace hb := tm hb hb_21
  have Lg1 := hide (g1.lenOf (res_len1 (HH.out.1) (hq1.len) (hq2.len)))
  have Lg2 := hide (g2.lenOf (res_len2 (HH.out.1) (hq1.len) (hq2.len)))
  refine hK _ _ rfl hb_21 ⟨x_b5.cell 0 rfl, x_b5.cell 1 rfl, x_b5.cell 2 rfl, x_b5.cell 3 rfl, x_b1.cell 0 rfl, x_b1.cell 1 rfl, x_b1.cell 2 rfl, x_b1.cell 3 rfl, x_b4.cell 0 rfl, x_b4.cell 1 rfl, x_b4.cell 2 rfl, x_b4.cell 3 rfl, x_b6.cell 0 rfl, x_b6.cell 1 rfl, x_b6.cell 2 rfl, x_b6.cell 3 rfl, x_b2.cell 0 rfl, x_b2.cell 1 rfl, x_b2.cell 2 rfl, x_b2.cell 3 rfl, x_b8.cell 0 rfl, x_b8.cell 1 rfl⟩ ?_
  clear hK K hb_21
  refine wpFl_call rfl (by kernel_rfl) fun w_22 hn hC => ?_; clear hC
  replace ha1 := ha1.bl hn; replace ha2 := ha2.bl hn; replace hc1 := hc1.bl hn; replace hc2 := hc2.bl hn; replace hx := hx.bl hn; replace hq1 := hq1.bl hn; replace hq2 := hq2.bl hn; replace x_b1 := x_b1.bl hn; replace x_b2 := x_b2.bl hn; replace x_b3 := x_b3.bl hn; replace x_b4 := x_b4.bl hn; replace c1 := c1.bl hn; replace c2 := c2.bl hn; replace x_b5 := x_b5.bl hn; replace d1 := d1.bl hn; replace d2 := d2.bl hn; replace x_b6 := x_b6.bl hn; replace e1 := e1.bl hn; replace e2 := e2.bl hn; replace x_b7 := x_b7.bl hn; replace f := f.bl hn; replace x_b8 := x_b8.bl hn; replace g1 := g1.bl hn; replace g2 := g2.bl hn; replace hb := tm hb hn
  clear hn; intro K hK
  go_big_op
  go_fit (told_ok (.mk' c1 c2) (.mk' (g1.zn Lg1.out) (g2.zn Lg2.out)) (by omega) (by omega))
  rintro e w_23 ⟨rfl, hb_23⟩
  replace ha1 := ha1.bl hb_23; replace ha2 := ha2.bl hb_23; replace hc1 := hc1.bl hb_23; replace hc2 := hc2.bl hb_23; replace hx := hx.bl hb_23; replace hq1 := hq1.bl hb_23; replace hq2 := hq2.bl hb_23; replace x_b1 := x_b1.bl hb_23; replace x_b2 := x_b2.bl hb_23; replace x_b3 := x_b3.bl hb_23; replace x_b4 := x_b4.bl hb_23; replace c1 := c1.bl hb_23; replace c2 := c2.bl hb_23; replace x_b5 := x_b5.bl hb_23; replace d1 := d1.bl hb_23; replace d2 := d2.bl hb_23; replace x_b6 := x_b6.bl hb_23; replace e1 := e1.bl hb_23; replace e2 := e2.bl hb_23; replace x_b7 := x_b7.bl hb_23; replace f := f.bl hb_23; replace x_b8 := x_b8.bl hb_23; replace g1 := g1.bl hb_23; replace g2 := g2.bl hb_23; replace hb := tm hb hb_23
  refine hK _ _ rfl hb_23 ⟨x_b5.cell 0 rfl, x_b5.cell 1 rfl, x_b5.cell 2 rfl, x_b5.cell 3 rfl, x_b1.cell 0 rfl, x_b1.cell 1 rfl, x_b1.cell 2 rfl, x_b1.cell 3 rfl, x_b4.cell 0 rfl, x_b4.cell 1 rfl, x_b4.cell 2 rfl, x_b4.cell 3 rfl, x_b6.cell 0 rfl, x_b6.cell 1 rfl, x_b6.cell 2 rfl, x_b6.cell 3 rfl, x_b2.cell 0 rfl, x_b2.cell 1 rfl, x_b2.cell 2 rfl, x_b2.cell 3 rfl, x_b8.cell 0 rfl, x_b8.cell 1 rfl⟩ ?_
  clear hK K hb_23
  apply wpFl_ld rfl rfl; (case h1 => intro w' hC K hK; go_big_op; exact hK); iterate 4 kernel_rfl
  apply wpFl_ld rfl rfl; (case h1 => intro w' hC K hK; go_big_move; exact hK); iterate 4 kernel_rfl
  apply wpFl_ld rfl rfl; (case h1 => intro w' hC K hK; obtain ⟨c0, c1, c2, c3⟩ := hC; go_big_op; exact hK); iterate 4 kernel_rfl
  apply wpFl_ld rfl rfl; (case h1 => intro w' hC K hK; go_big_move; exact hK); iterate 4 kernel_rfl
  apply wpFl_ld rfl rfl; (case h1 => intro w' hC K hK; obtain ⟨c0, c1, c2, c3⟩ := hC; go_big_op; exact hK); iterate 4 kernel_rfl
  apply wpFl_ld rfl rfl; (case h1 => intro w' hC K hK; obtain ⟨c0, c1, c2, c3⟩ := hC; go_big_op; exact hK); iterate 4 kernel_rfl
  apply wpFl_ld rfl rfl; (case h1 => intro w' hC K hK; obtain ⟨c0, c1, c2, c3⟩ := hC; go_big_op; exact hK); iterate 4 kernel_rfl
  refine wpFl_call rfl (by kernel_rfl) fun w_24 hn hC => ?_; clear hC
  clear g1 g2
  replace ha1 := ha1.bl hn; replace ha2 := ha2.bl hn; replace hc1 := hc1.bl hn; replace hc2 := hc2.bl hn; replace hx := hx.bl hn; replace hq1 := hq1.bl hn; replace hq2 := hq2.bl hn; replace x_b1 := x_b1.bl hn; replace x_b2 := x_b2.bl hn; replace x_b3 := x_b3.bl hn; replace x_b4 := x_b4.bl hn; replace c1 := c1.bl hn; replace c2 := c2.bl hn; replace x_b5 := x_b5.bl hn; replace d1 := d1.bl hn; replace d2 := d2.bl hn; replace x_b6 := x_b6.bl hn; replace e1 := e1.bl hn; replace e2 := e2.bl hn; replace x_b7 := x_b7.bl hn; replace f := f.bl hn; replace x_b8 := x_b8.bl hn; replace hb := tm hb hn
  clear hn; intro K hK
  go_big_op
  go_fit (rgMul_any (PN.mk' ha1 ha2) (PN.mk' hc1 hc2) (by omega) (by omega) (by omega) (by omega) )
  rintro e w_25 ⟨_, rfl, ⟨n_ha, o_ha, k_ha, c_ha, n_hb, o_hb, k_hb, c_hb, rfl, h1, h2⟩, hb_25⟩
  replace ha1 := ha1.bl hb_25; replace ha2 := ha2.bl hb_25; replace hc1 := hc1.bl hb_25; replace hc2 := hc2.bl hb_25; replace hx := hx.bl hb_25; replace hq1 := hq1.bl hb_25; replace hq2 := hq2.bl hb_25; replace x_b1 := x_b1.bl hb_25; replace x_b2 := x_b2.bl hb_25; replace x_b3 := x_b3.bl hb_25; replace x_b4 := x_b4.bl hb_25; replace c1 := c1.bl hb_25; replace c2 := c2.bl hb_25; replace x_b5 := x_b5.bl hb_25; replace d1 := d1.bl hb_25; replace d2 := d2.bl hb_25; replace x_b6 := x_b6.bl hb_25; replace e1 := e1.bl hb_25; replace e2 := e2.bl hb_25; replace x_b7 := x_b7.bl hb_25; replace f := f.bl hb_25; replace x_b8 := x_b8.bl hb_25; replace hb := tm hb hb_25
  have Lh1 := hide (h1.lenOf (zlen_sub (zlen_mul (ha1.len) (hc1.len)) (zlen_mul (ha2.len) (hc2.len))))
  have Lh2 := hide (h2.lenOf (zlen_add (zlen_mul (ha1.len) (hc2.len)) (zlen_mul (ha2.len) (hc1.len))))
  refine hK _ _ rfl hb_25 ⟨x_b5.cell 0 rfl, x_b5.cell 1 rfl, x_b5.cell 2 rfl, x_b5.cell 3 rfl, x_b1.cell 0 rfl, x_b1.cell 1 rfl, x_b1.cell 2 rfl, x_b1.cell 3 rfl, x_b4.cell 0 rfl, x_b4.cell 1 rfl, x_b4.cell 2 rfl, x_b4.cell 3 rfl, x_b6.cell 0 rfl, x_b6.cell 1 rfl, x_b6.cell 2 rfl, x_b6.cell 3 rfl, x_b2.cell 0 rfl, x_b2.cell 1 rfl, x_b2.cell 2 rfl, x_b2.cell 3 rfl, x_b8.cell 0 rfl, x_b8.cell 1 rfl⟩ ?_
  clear hK K hb_25
  refine wpFl_call rfl (by kernel_rfl) fun w_26 hn hC => ?_; clear hC
  replace ha1 := ha1.bl hn; replace ha2 := ha2.bl hn; replace hc1 := hc1.bl hn; replace hc2 := hc2.bl hn; replace hx := hx.bl hn; replace hq1 := hq1.bl hn; replace hq2 := hq2.bl hn; replace x_b1 := x_b1.bl hn; replace x_b2 := x_b2.bl hn; replace x_b3 := x_b3.bl hn; replace x_b4 := x_b4.bl hn; replace c1 := c1.bl hn; replace c2 := c2.bl hn; replace x_b5 := x_b5.bl hn; replace d1 := d1.bl hn; replace d2 := d2.bl hn; replace x_b6 := x_b6.bl hn; replace e1 := e1.bl hn; replace e2 := e2.bl hn; replace x_b7 := x_b7.bl hn; replace f := f.bl hn; replace x_b8 := x_b8.bl hn; replace h1 := h1.bl hn; replace h2 := h2.bl hn; replace hb := tm hb hn
  clear hn; intro K hK
  go_big_op
  go_fit (rres_any (PN.mk' (h1.zn Lh1.out) (h2.zn Lh2.out)) (PN.mk' hq1 hq2) (by omega) (by omega) (by omega) HH.out.1)
  rintro e w_27 ⟨_, rfl, ⟨n_ia, o_ia, k_ia, c_ia, n_ib, o_ib, k_ib, c_ib, rfl, i1, i2⟩, hb_27⟩
  replace ha1 := ha1.bl hb_27; replace ha2 := ha2.bl hb_27; replace hc1 := hc1.bl hb_27; replace hc2 := hc2.bl hb_27; replace hx := hx.bl hb_27; replace hq1 := hq1.bl hb_27; replace hq2 := hq2.bl hb_27; replace x_b1 := x_b1.bl hb_27; replace x_b2 := x_b2.bl hb_27; replace x_b3 := x_b3.bl hb_27; replace x_b4 := x_b4.bl hb_27; replace c1 := c1.bl hb_27; replace c2 := c2.bl hb_27; replace x_b5 := x_b5.bl hb_27; replace d1 := d1.bl hb_27; replace d2 := d2.bl hb_27; replace x_b6 := x_b6.bl hb_27; replace e1 := e1.bl hb_27; replace e2 := e2.bl hb_27; replace x_b7 := x_b7.bl hb_27; replace f := f.bl hb_27; replace x_b8 := x_b8.bl hb_27; replace h1 := h1.bl hb_27; replace h2 := h2.bl hb_27; replace hb := tm hb hb_27
  have Li1 := hide (i1.lenOf (res_len1 (HH.out.1) (hq1.len) (hq2.len)))
  have Li2 := hide (i2.lenOf (res_len2 (HH.out.1) (hq1.len) (hq2.len)))
  refine hK _ _ rfl hb_27 ⟨x_b5.cell 0 rfl, x_b5.cell 1 rfl, x_b5.cell 2 rfl, x_b5.cell 3 rfl, x_b1.cell 0 rfl, x_b1.cell 1 rfl, x_b1.cell 2 rfl, x_b1.cell 3 rfl, x_b4.cell 0 rfl, x_b4.cell 1 rfl, x_b4.cell 2 rfl, x_b4.cell 3 rfl, x_b6.cell 0 rfl, x_b6.cell 1 rfl, x_b6.cell 2 rfl, x_b6.cell 3 rfl, x_b2.cell 0 rfl, x_b2.cell 1 rfl, x_b2.cell 2 rfl, x_b2.cell 3 rfl, x_b8.cell 0 rfl, x_b8.cell 1 rfl⟩ ?_
  clear hK K hb_27
  refine wpFl_call rfl (by kernel_rfl) fun w_28 hn hC => ?_; clear hC
  clear h1 h2
  replace ha1 := ha1.bl hn; replace ha2 := ha2.bl hn; replace hc1 := hc1.bl hn; replace hc2 := hc2.bl hn; replace hx := hx.bl hn; replace hq1 := hq1.bl hn; replace hq2 := hq2.bl hn; replace x_b1 := x_b1.bl hn; replace x_b2 := x_b2.bl hn; replace x_b3 := x_b3.bl hn; replace x_b4 := x_b4.bl hn; replace c1 := c1.bl hn; replace c2 := c2.bl hn; replace x_b5 := x_b5.bl hn; replace d1 := d1.bl hn; replace d2 := d2.bl hn; replace x_b6 := x_b6.bl hn; replace e1 := e1.bl hn; replace e2 := e2.bl hn; replace x_b7 := x_b7.bl hn; replace f := f.bl hn; replace x_b8 := x_b8.bl hn; replace i1 := i1.bl hn; replace i2 := i2.bl hn; replace hb := tm hb hn
  clear hn; intro K hK
  go_big_op
  go_fit (told_ok (.mk' d1 d2) (.mk' (i1.zn Li1.out) (i2.zn Li2.out)) (by omega) (by omega))
  rintro e w_29 ⟨rfl, hb_29⟩
  replace ha1 := ha1.bl hb_29; replace ha2 := ha2.bl hb_29; replace hc1 := hc1.bl hb_29; replace hc2 := hc2.bl hb_29; replace hx := hx.bl hb_29; replace hq1 := hq1.bl hb_29; replace hq2 := hq2.bl hb_29; replace x_b1 := x_b1.bl hb_29; replace x_b2 := x_b2.bl hb_29; replace x_b3 := x_b3.bl hb_29; replace x_b4 := x_b4.bl hb_29; replace c1 := c1.bl hb_29; replace c2 := c2.bl hb_29; replace x_b5 := x_b5.bl hb_29; replace d1 := d1.bl hb_29; replace d2 := d2.bl hb_29; replace x_b6 := x_b6.bl hb_29; replace e1 := e1.bl hb_29; replace e2 := e2.bl hb_29; replace x_b7 := x_b7.bl hb_29; replace f := f.bl hb_29; replace x_b8 := x_b8.bl hb_29; replace i1 := i1.bl hb_29; replace i2 := i2.bl hb_29; replace hb := tm hb hb_29
  refine hK _ _ rfl hb_29 ⟨x_b5.cell 0 rfl, x_b5.cell 1 rfl, x_b5.cell 2 rfl, x_b5.cell 3 rfl, x_b1.cell 0 rfl, x_b1.cell 1 rfl, x_b1.cell 2 rfl, x_b1.cell 3 rfl, x_b4.cell 0 rfl, x_b4.cell 1 rfl, x_b4.cell 2 rfl, x_b4.cell 3 rfl, x_b6.cell 0 rfl, x_b6.cell 1 rfl, x_b6.cell 2 rfl, x_b6.cell 3 rfl, x_b2.cell 0 rfl, x_b2.cell 1 rfl, x_b2.cell 2 rfl, x_b2.cell 3 rfl, x_b8.cell 0 rfl, x_b8.cell 1 rfl⟩ ?_
  clear hK K hb_29
  apply wpFl_ld rfl rfl; (case h1 => intro w' hC K hK; go_big_op; exact hK); iterate 4 kernel_rfl
  apply wpFl_ld rfl rfl; (case h1 => intro w' hC K hK; go_big_op; exact hK); iterate 4 kernel_rfl
  apply wpFl_ld rfl rfl; (case h1 => intro w' hC K hK; go_big_move; exact hK); iterate 4 kernel_rfl
  apply wpFl_ld rfl rfl; (case h1 => intro w' hC K hK; go_big_move; exact hK); iterate 4 kernel_rfl
  apply wpFl_ld rfl rfl; (case h1 => intro w' hC K hK; go_big_op; exact hK); iterate 4 kernel_rfl
  apply wpFl_ld rfl rfl; (case h1 => intro w' hC K hK; go_big_op; exact hK); iterate 4 kernel_rfl
  apply wpFl_ld rfl rfl; (case h1 => intro w' hC K hK; go_big_move; exact hK); iterate 4 kernel_rfl
  apply wpFl_ld rfl rfl; (case h1 => intro w' hC K hK; obtain ⟨c0, c1⟩ := hC; go_big_op; exact hK); iterate 4 kernel_rfl
  apply wpFl_ld rfl rfl; (case h1 => intro w' hC K hK; obtain ⟨c0, c1, c2, c3⟩ := hC; go_big_op; exact hK); iterate 4 kernel_rfl
  refine wpFl_call rfl (by kernel_rfl) fun w_30 hn hC => ?_; clear hC
  clear i1 i2
  replace ha1 := ha1.bl hn; replace ha2 := ha2.bl hn; replace hc1 := hc1.bl hn; replace hc2 := hc2.bl hn; replace hx := hx.bl hn; replace hq1 := hq1.bl hn; replace hq2 := hq2.bl hn; replace x_b1 := x_b1.bl hn; replace x_b2 := x_b2.bl hn; replace x_b3 := x_b3.bl hn; replace x_b4 := x_b4.bl hn; replace c1 := c1.bl hn; replace c2 := c2.bl hn; replace x_b5 := x_b5.bl hn; replace d1 := d1.bl hn; replace d2 := d2.bl hn; replace x_b6 := x_b6.bl hn; replace e1 := e1.bl hn; replace e2 := e2.bl hn; replace x_b7 := x_b7.bl hn; replace f := f.bl hn; replace x_b8 := x_b8.bl hn; replace hb := tm hb hn
  clear hn; intro K hK
  go_big_op
  go_fit (rgNorm_any (PN.mk' hq1 hq2) (by omega) (by omega) )
  rintro e w_31 ⟨v_j, rfl, j, hb_31⟩
  replace ha1 := ha1.bl hb_31; replace ha2 := ha2.bl hb_31; replace hc1 := hc1.bl hb_31; replace hc2 := hc2.bl hb_31; replace hx := hx.bl hb_31; replace hq1 := hq1.bl hb_31; replace hq2 := hq2.bl hb_31; replace x_b1 := x_b1.bl hb_31; replace x_b2 := x_b2.bl hb_31; replace x_b3 := x_b3.bl hb_31; replace x_b4 := x_b4.bl hb_31; replace c1 := c1.bl hb_31; replace c2 := c2.bl hb_31; replace x_b5 := x_b5.bl hb_31; replace d1 := d1.bl hb_31; replace d2 := d2.bl hb_31; replace x_b6 := x_b6.bl hb_31; replace e1 := e1.bl hb_31; replace e2 := e2.bl hb_31; replace x_b7 := x_b7.bl hb_31; replace f := f.bl hb_31; replace x_b8 := x_b8.bl hb_31; replace hb := tm hb hb_31
  obtain ⟨n_j, o_j, k_j, c_j, rfl⟩ := j.open2
  have Lj := hide (j.lenOf (zlen_add (zlen_mul (hq1.len) (hq1.len)) (zlen_mul (hq2.len) (hq2.len))))
  refine hK _ _ rfl hb_31 ⟨x_b5.cell 0 rfl, x_b5.cell 1 rfl, x_b5.cell 2 rfl, x_b5.cell 3 rfl, x_b1.cell 0 rfl, x_b1.cell 1 rfl, x_b1.cell 2 rfl, x_b1.cell 3 rfl, x_b4.cell 0 rfl, x_b4.cell 1 rfl, x_b4.cell 2 rfl, x_b4.cell 3 rfl, x_b6.cell 0 rfl, x_b6.cell 1 rfl, x_b6.cell 2 rfl, x_b6.cell 3 rfl, x_b2.cell 0 rfl, x_b2.cell 1 rfl, x_b2.cell 2 rfl, x_b2.cell 3 rfl, x_b8.cell 0 rfl, x_b8.cell 1 rfl⟩ ?_
  clear hK K hb_31
  refine wpFl_call rfl (by kernel_rfl) fun w_32 hn hC => ?_; clear hC
  replace ha1 := ha1.bl hn; replace ha2 := ha2.bl hn; replace hc1 := hc1.bl hn; replace hc2 := hc2.bl hn; replace hx := hx.bl hn; replace hq1 := hq1.bl hn; replace hq2 := hq2.bl hn; replace x_b1 := x_b1.bl hn; replace x_b2 := x_b2.bl hn; replace x_b3 := x_b3.bl hn; replace x_b4 := x_b4.bl hn; replace c1 := c1.bl hn; replace c2 := c2.bl hn; replace x_b5 := x_b5.bl hn; replace d1 := d1.bl hn; replace d2 := d2.bl hn; replace x_b6 := x_b6.bl hn; replace e1 := e1.bl hn; replace e2 := e2.bl hn; replace x_b7 := x_b7.bl hn; replace f := f.bl hn; replace x_b8 := x_b8.bl hn; replace j := j.bl hn; replace hb := tm hb hn
  clear hn; intro K hK
  go_big_op
  go_fit (rsame_zz f (j.zn Lj.out) (by omega) )
  rintro e w_33 ⟨rfl, hb_33⟩
  replace ha1 := ha1.bl hb_33; replace ha2 := ha2.bl hb_33; replace hc1 := hc1.bl hb_33; replace hc2 := hc2.bl hb_33; replace hx := hx.bl hb_33; replace hq1 := hq1.bl hb_33; replace hq2 := hq2.bl hb_33; replace x_b1 := x_b1.bl hb_33; replace x_b2 := x_b2.bl hb_33; replace x_b3 := x_b3.bl hb_33; replace x_b4 := x_b4.bl hb_33; replace c1 := c1.bl hb_33; replace c2 := c2.bl hb_33; replace x_b5 := x_b5.bl hb_33; replace d1 := d1.bl hb_33; replace d2 := d2.bl hb_33; replace x_b6 := x_b6.bl hb_33; replace e1 := e1.bl hb_33; replace e2 := e2.bl hb_33; replace x_b7 := x_b7.bl hb_33; replace f := f.bl hb_33; replace x_b8 := x_b8.bl hb_33; replace j := j.bl hb_33; replace hb := tm hb hb_33
  refine hK _ _ rfl hb_33 ⟨x_b5.cell 0 rfl, x_b5.cell 1 rfl, x_b5.cell 2 rfl, x_b5.cell 3 rfl, x_b1.cell 0 rfl, x_b1.cell 1 rfl, x_b1.cell 2 rfl, x_b1.cell 3 rfl, x_b4.cell 0 rfl, x_b4.cell 1 rfl, x_b4.cell 2 rfl, x_b4.cell 3 rfl, x_b6.cell 0 rfl, x_b6.cell 1 rfl, x_b6.cell 2 rfl, x_b6.cell 3 rfl, x_b2.cell 0 rfl, x_b2.cell 1 rfl, x_b2.cell 2 rfl, x_b2.cell 3 rfl, x_b8.cell 0 rfl, x_b8.cell 1 rfl⟩ ?_
  clear hK K hb_33
  apply wpFl_ld rfl rfl; (case h1 => intro w' hC K hK; go_big_op; exact hK); iterate 4 kernel_rfl
  apply wpFl_ld rfl rfl; (case h1 => intro w' hC K hK; go_big_op; exact hK); iterate 4 kernel_rfl
  apply wpFl_end
  case ha => intro pt; simp only [putF]; rfl
  case h =>
  intro w_34 pt hn hC hF hD
  clear hC
  clear j
  replace ha1 := ha1.bl hn; replace ha2 := ha2.bl hn; replace hc1 := hc1.bl hn; replace hc2 := hc2.bl hn; replace hx := hx.bl hn; replace hq1 := hq1.bl hn; replace hq2 := hq2.bl hn; replace x_b1 := x_b1.bl hn; replace x_b2 := x_b2.bl hn; replace x_b3 := x_b3.bl hn; replace x_b4 := x_b4.bl hn; replace c1 := c1.bl hn; replace c2 := c2.bl hn; replace x_b5 := x_b5.bl hn; replace d1 := d1.bl hn; replace d2 := d2.bl hn; replace x_b6 := x_b6.bl hn; replace e1 := e1.bl hn; replace e2 := e2.bl hn; replace x_b7 := x_b7.bl hn; replace f := f.bl hn; replace x_b8 := x_b8.bl hn; replace hb := tm hb hn
  clear hn
  clear hF hD
  clear pt
  clear kb0 lt_b1 lt_b2 lt_b3 lt_b4 lt_b5 lt_b6 lt_b7 lt_b8
  apply wpTail_end
  refine hK11 _ _ ?_
  refine wp_cond_false (congrArg Value.bool (show _ = false from (by first | rfl | assumption | (simp; done) | exact decide_eq_false (by omega) | omega))) ?_
  refine wp_skip ?_
  refine hK10 _ _ ?_
  refine wp_seq_k ?_
  intro K12 hK12
  refine wp_seq_k ?_
  intro K13 hK13
  refine wp_region_sq [0, 1, 2] (by kernel_rfl) ?_
  refine sc fun K hK => ?_
  obtain ⟨d0, d1⟩ := x_b3.f2
  go_big_op; refine hK _ _ rfl ?_; clear hK K d0 d1
  refine sc fun K hK => ?_
  go_big_op
  go_fit (rzsign_any hx (by omega) )
  rintro e w_35 ⟨rfl, hb_35⟩
  clear hc1 hc2 x_b2 c1 c2 x_b5 d1 d2 x_b6 f x_b8
  replace ha1 := ha1.bl hb_35; replace ha2 := ha2.bl hb_35; replace hx := hx.bl hb_35; replace hq1 := hq1.bl hb_35; replace hq2 := hq2.bl hb_35; replace x_b1 := x_b1.bl hb_35; replace x_b3 := x_b3.bl hb_35; replace x_b4 := x_b4.bl hb_35; replace e1 := e1.bl hb_35; replace e2 := e2.bl hb_35; replace x_b7 := x_b7.bl hb_35; replace hb := tm hb hb_35
  refine hK _ _ rfl ?_
  clear hK K hb_35
  refine sc fun K hK => ?_
  go_big_op; refine hK _ _ rfl ?_; clear hK K
  apply wpSq_end
  refine hK13 _ _ ?_
  refine wp_cond_false (congrArg Value.bool (show _ = false from (by first | rfl | assumption | (simp; done) | exact decide_eq_false (by omega) | omega))) ?_
  refine wp_skip ?_
  refine hK12 _ _ ?_
  refine wp_seq_k ?_
  intro K14 hK14
  refine wp_region_fl2 [(0, false), (1, false), (2, false), (3, false), (4, false), (5, true), (6, true), (7, false)] [] [] (fun _ => default) [0, 99, 1, 2, 3, 99, 99, 99] [] (fun w' => w'.cell? ⟨p_b7, 0, none⟩ = some (.bool n_ea) ∧ w'.cell? ⟨p_b7, 1, none⟩ = some (.slice o_ea k_ea c_ea) ∧ w'.cell? ⟨p_b7, 2, none⟩ = some (.bool n_eb) ∧ w'.cell? ⟨p_b7, 3, none⟩ = some (.slice o_eb k_eb c_eb) ∧ w'.cell? ⟨p_b1, 0, none⟩ = some (.bool n_0a) ∧ w'.cell? ⟨p_b1, 1, none⟩ = some (.slice o_0a k_0a c_0a) ∧ w'.cell? ⟨p_b1, 2, none⟩ = some (.bool n_0b) ∧ w'.cell? ⟨p_b1, 3, none⟩ = some (.slice o_0b k_0b c_0b) ∧ w'.cell? ⟨p_b3, 0, none⟩ = some (.bool n_2) ∧ w'.cell? ⟨p_b3, 1, none⟩ = some (.slice o_2 k_2 c_2) ∧ w'.cell? ⟨p_b4, 0, none⟩ = some (.bool n_3a) ∧ w'.cell? ⟨p_b4, 1, none⟩ = some (.slice o_3a k_3a c_3a) ∧ w'.cell? ⟨p_b4, 2, none⟩ = some (.bool n_3b) ∧ w'.cell? ⟨p_b4, 3, none⟩ = some (.slice o_3b k_3b c_3b)) [fun w' => w'.cell? ⟨p_b7, 0, none⟩ = some (.bool n_ea) ∧ w'.cell? ⟨p_b7, 1, none⟩ = some (.slice o_ea k_ea c_ea) ∧ w'.cell? ⟨p_b7, 2, none⟩ = some (.bool n_eb) ∧ w'.cell? ⟨p_b7, 3, none⟩ = some (.slice o_eb k_eb c_eb), fun w' => w'.cell? ⟨p_b1, 0, none⟩ = some (.bool n_0a) ∧ w'.cell? ⟨p_b1, 1, none⟩ = some (.slice o_0a k_0a c_0a) ∧ w'.cell? ⟨p_b1, 2, none⟩ = some (.bool n_0b) ∧ w'.cell? ⟨p_b1, 3, none⟩ = some (.slice o_0b k_0b c_0b), fun w' => w'.cell? ⟨p_b3, 0, none⟩ = some (.bool n_2) ∧ w'.cell? ⟨p_b3, 1, none⟩ = some (.slice o_2 k_2 c_2), fun w' => w'.cell? ⟨p_b4, 0, none⟩ = some (.bool n_3a) ∧ w'.cell? ⟨p_b4, 1, none⟩ = some (.slice o_3a k_3a c_3a) ∧ w'.cell? ⟨p_b4, 2, none⟩ = some (.bool n_3b) ∧ w'.cell? ⟨p_b4, 3, none⟩ = some (.slice o_3b k_3b c_3b)] (by kernel_rfl) (by kernel_rfl) (by kernel_rfl) (by kernel_rfl) (by kernel_rfl) (by kernel_rfl) (by kernel_rfl) (by kernel_rfl) (by decide) (by intro j hj; cases hj) (by intro w' o hC; obtain ⟨c0, c1, c2, c3, c4, c5, c6, c7, c8, c9, c10, c11, c12, c13⟩ := hC; exact ⟨cell_alloc c0 o, cell_alloc c1 o, cell_alloc c2 o, cell_alloc c3 o, cell_alloc c4 o, cell_alloc c5 o, cell_alloc c6 o, cell_alloc c7 o, cell_alloc c8 o, cell_alloc c9 o, cell_alloc c10 o, cell_alloc c11 o, cell_alloc c12 o, cell_alloc c13 o⟩) (by intro w' hC G hG; obtain ⟨c0, c1, c2, c3, c4, c5, c6, c7, c8, c9, c10, c11, c12, c13⟩ := hC; simp only [List.mem_cons, List.not_mem_nil, or_false] at hG; rcases hG with rfl | rfl | rfl | rfl <;> first | exact ⟨c0, c1, c2, c3⟩ | exact ⟨c4, c5, c6, c7⟩ | exact ⟨c8, c9⟩ | exact ⟨c10, c11, c12, c13⟩) ?_
  have lt_b1 := x_b1.lt
  have lt_b3 := x_b3.lt
  have lt_b4 := x_b4.lt
  have lt_b7 := x_b7.lt
  intro w_36 hn
  replace lt_b1 := Nat.lt_of_lt_of_le lt_b1 hn.size
  replace lt_b3 := Nat.lt_of_lt_of_le lt_b3 hn.size
  replace lt_b4 := Nat.lt_of_lt_of_le lt_b4 hn.size
  replace lt_b7 := Nat.lt_of_lt_of_le lt_b7 hn.size
  replace ha1 := ha1.bl hn; replace ha2 := ha2.bl hn; replace hx := hx.bl hn; replace hq1 := hq1.bl hn; replace hq2 := hq2.bl hn; replace x_b1 := x_b1.bl hn; replace x_b3 := x_b3.bl hn; replace x_b4 := x_b4.bl hn; replace e1 := e1.bl hn; replace e2 := e2.bl hn; replace x_b7 := x_b7.bl hn; replace hb := tm hb hn
  clear hn
  have kb0 := hb.size
  refine ⟨⟨x_b7.cell 0 rfl, x_b7.cell 1 rfl, x_b7.cell 2 rfl, x_b7.cell 3 rfl, x_b1.cell 0 rfl, x_b1.cell 1 rfl, x_b1.cell 2 rfl, x_b1.cell 3 rfl, x_b3.cell 0 rfl, x_b3.cell 1 rfl, x_b4.cell 0 rfl, x_b4.cell 1 rfl, x_b4.cell 2 rfl, x_b4.cell 3 rfl⟩, ?_⟩
  apply wpFl_ld rfl rfl; (case h1 => intro w' hC K hK; obtain ⟨c0, c1, c2, c3⟩ := hC; go_big_op; exact hK); iterate 4 kernel_rfl
  apply wpFl_ld rfl rfl; (case h1 => intro w' hC K hK; go_big_move; exact hK); iterate 4 kernel_rfl
  apply wpFl_ld rfl rfl; (case h1 => intro w' hC K hK; obtain ⟨c0, c1, c2, c3⟩ := hC; go_big_op; exact hK); iterate 4 kernel_rfl
  apply wpFl_ld rfl rfl; (case h1 => intro w' hC K hK; obtain ⟨c0, c1⟩ := hC; go_big_op; exact hK); iterate 4 kernel_rfl
  apply wpFl_ld rfl rfl; (case h1 => intro w' hC K hK; obtain ⟨c0, c1, c2, c3⟩ := hC; go_big_op; exact hK); iterate 4 kernel_rfl
  refine wpFl_call rfl (by kernel_rfl) fun w_37 hn hC => ?_; clear hC
  replace ha1 := ha1.bl hn; replace ha2 := ha2.bl hn; replace hx := hx.bl hn; replace hq1 := hq1.bl hn; replace hq2 := hq2.bl hn; replace x_b1 := x_b1.bl hn; replace x_b3 := x_b3.bl hn; replace x_b4 := x_b4.bl hn; replace e1 := e1.bl hn; replace e2 := e2.bl hn; replace x_b7 := x_b7.bl hn; replace hb := tm hb hn
  clear hn; intro K hK
  go_big_op
  go_fit (rpow_any (.mk' ha1 ha2) hx (.mk' hq1 hq2) (by omega) (by omega) (by omega) (by omega) HH.out.1 HH.out.2)
  rintro e w_38 ⟨_, rfl, ⟨n_oa, o_oa, k_oa, c_oa, n_ob, o_ob, k_ob, c_ob, rfl, o1, o2⟩, hb_38⟩
  replace ha1 := ha1.bl hb_38; replace ha2 := ha2.bl hb_38; replace hx := hx.bl hb_38; replace hq1 := hq1.bl hb_38; replace hq2 := hq2.bl hb_38; replace x_b1 := x_b1.bl hb_38; replace x_b3 := x_b3.bl hb_38; replace x_b4 := x_b4.bl hb_38; replace e1 := e1.bl hb_38; replace e2 := e2.bl hb_38; replace x_b7 := x_b7.bl hb_38; replace hb := tm hb hb_38
  have Lo1 := hide (o1.lenOf ((LP.out _).1))
  have Lo2 := hide (o2.lenOf ((LP.out _).2))
  refine hK _ _ rfl hb_38 ⟨x_b7.cell 0 rfl, x_b7.cell 1 rfl, x_b7.cell 2 rfl, x_b7.cell 3 rfl, x_b1.cell 0 rfl, x_b1.cell 1 rfl, x_b1.cell 2 rfl, x_b1.cell 3 rfl, x_b3.cell 0 rfl, x_b3.cell 1 rfl, x_b4.cell 0 rfl, x_b4.cell 1 rfl, x_b4.cell 2 rfl, x_b4.cell 3 rfl⟩ ?_
  clear hK K hb_38
  refine wpFl_call rfl (by kernel_rfl) fun w_39 hn hC => ?_; clear hC
  replace ha1 := ha1.bl hn; replace ha2 := ha2.bl hn; replace hx := hx.bl hn; replace hq1 := hq1.bl hn; replace hq2 := hq2.bl hn; replace x_b1 := x_b1.bl hn; replace x_b3 := x_b3.bl hn; replace x_b4 := x_b4.bl hn; replace e1 := e1.bl hn; replace e2 := e2.bl hn; replace x_b7 := x_b7.bl hn; replace o1 := o1.bl hn; replace o2 := o2.bl hn; replace hb := tm hb hn
  clear hn; intro K hK
  go_big_op
  go_fit (told_ok (.mk' e1 e2) (.mk' (o1.zn Lo1.out) (o2.zn Lo2.out)) (by omega) (by omega))
  rintro e w_40 ⟨rfl, hb_40⟩
  replace ha1 := ha1.bl hb_40; replace ha2 := ha2.bl hb_40; replace hx := hx.bl hb_40; replace hq1 := hq1.bl hb_40; replace hq2 := hq2.bl hb_40; replace x_b1 := x_b1.bl hb_40; replace x_b3 := x_b3.bl hb_40; replace x_b4 := x_b4.bl hb_40; replace e1 := e1.bl hb_40; replace e2 := e2.bl hb_40; replace x_b7 := x_b7.bl hb_40; replace o1 := o1.bl hb_40; replace o2 := o2.bl hb_40; replace hb := tm hb hb_40
  refine hK _ _ rfl hb_40 ⟨x_b7.cell 0 rfl, x_b7.cell 1 rfl, x_b7.cell 2 rfl, x_b7.cell 3 rfl, x_b1.cell 0 rfl, x_b1.cell 1 rfl, x_b1.cell 2 rfl, x_b1.cell 3 rfl, x_b3.cell 0 rfl, x_b3.cell 1 rfl, x_b4.cell 0 rfl, x_b4.cell 1 rfl, x_b4.cell 2 rfl, x_b4.cell 3 rfl⟩ ?_
  clear hK K hb_40
  apply wpFl_ld rfl rfl; (case h1 => intro w' hC K hK; go_big_move; exact hK); iterate 4 kernel_rfl
  apply wpFl_end
  case ha => intro pt; simp only [putF]; rfl
  case h =>
  intro w_41 pt hn hC hF hD
  clear hC
  clear o1 o2
  replace ha1 := ha1.bl hn; replace ha2 := ha2.bl hn; replace hx := hx.bl hn; replace hq1 := hq1.bl hn; replace hq2 := hq2.bl hn; replace x_b1 := x_b1.bl hn; replace x_b3 := x_b3.bl hn; replace x_b4 := x_b4.bl hn; replace e1 := e1.bl hn; replace e2 := e2.bl hn; replace x_b7 := x_b7.bl hn; replace hb := tm hb hn
  clear hn
  clear hF hD
  clear pt
  clear kb0 lt_b1 lt_b3 lt_b4 lt_b7
  apply wpTail_end
  refine hK14 _ _ ?_
  refine wp_ret ?_
  try dsimp only [Exit.then, Exit.inBlock]
  refine bodyPost_ret (v := (.bool true)) (by simp [results, Try.results3, go_sem]) rfl ?_
  exact ⟨rfl, hb⟩
end
theorem walk_GresReduced (w : World) (n1 : Bool) (s1 : Value) (xs : List Nat) (h1 : Rd w s1 xs) (l1 : xs.length ≤ 1048576) (n2 : Bool) (s2 : Value) (ys : List Nat) (h2 : Rd w s2 ys) (l2 : ys.length ≤ 1048576)
    (n3 : Bool) (s3 : Value) (us : List Nat) (h3 : Rd w s3 us) (l3 : us.length ≤ 1048576) (n4 : Bool) (s4 : Value) (vs : List Nat) (h4 : Rd w s4 vs) (l4 : vs.length ≤ 1048576)
    (n5 : Bool) (s5 : Value) (ps : List Nat) (h5 : Rd w s5 ps) (l5 : ps.length ≤ 1048576)
    (n6 : Bool) (s6 : Value) (qs : List Nat) (h6 : Rd w s6 qs) (l6 : qs.length ≤ 1048576) (n7 : Bool) (s7 : Value) (rs : List Nat) (h7 : Rd w s7 rs) (l7 : rs.length ≤ 1048576) :
    Calls Try.prog 3 #[.agg #[.bool n1, s1, .bool n2, s2], .agg #[.bool n3, s3, .bool n4, s4], .agg #[.bool n5, s5], .agg #[.bool n6, s6, .bool n7, s7]] w fun e w' => e = .returned (.bool true) ∧ Below w.heap.size w w' := by
  have ha := PN.of_rd n1 n2 h1 l1 h2 l2
  have hc := PN.of_rd n3 n4 h3 l3 h4 l4
  have hx : ZN w (.agg #[.bool n5, s5]) (zv n5 ps) 1048576 := ⟨n5, s5, ps, rfl, h5, rfl, l5⟩
  have hq := PN.of_rd n6 n7 h6 l6 h7 l7
  by_cases h0 : gN (zv n6 qs) (zv n7 rs) = 0
  · obtain ⟨e1, e2⟩ := gN_zero.1 h0
    rw [e1, e2] at hq; exact gred_zero ha hc hx hq
  · by_cases hz : 0 ≤ zv n5 ps
    · exact gred_some ha hc hx hq h0 hz
    · exact gred_neg ha hc hx hq h0 (by omega)
end Go.Proofs.Ytpdfahompajbjaa
