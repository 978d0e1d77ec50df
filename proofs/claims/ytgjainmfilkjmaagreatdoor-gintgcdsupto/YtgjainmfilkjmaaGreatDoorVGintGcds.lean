/- GintGcds: the law's walk. -/
import Derived.Test.YtgjainmfilkjmaaGreatDoorG19
import Derived.Test.YtgjainmfilkjmaaGreatDoorT1ToG9
namespace Go.Proofs.YtgjainmfilkjmaaGreatDoor
open Go Go.RowKit Dig
set_option linter.unusedVariables false

section
variable {w : World} {va vb : Value} {x y u v : Int}
set_option maxHeartbeats 8000000 in
set_option maxRecDepth 20000 in
theorem ggcds_any (ha : PN w va x 1048576 y 1048576) (hq : PN w vb u 1048576 v 1048576) (htab : Lib.TabIs Tryz.prog w p10 .u64 Lib.pow10Tab) :
    Calls Tryz.prog 4 #[va, vb] w fun e w' => e = .returned (.bool true) ∧ Below w.heap.size w w' := by
  have htabs := Lib.tabBelow_of_tabIs htab
  have hfin := GI.fin _ (GI.start x y u v) (Nat.le_refl _)
  obtain ⟨F, hF⟩ : ∃ F, (GS.start x y u v).fin = F := ⟨_, rfl⟩
  rw [hF] at hfin
  have HF := hide hF
  have lr := len_norm (x := F.r1) (y := F.r2) (Int.le_trans hfin.1.nr (by have := gN_nonneg x y; have := gN_nonneg u v; omega)) ha.len1 ha.len2 hq.len1 hq.len2
  have lx := len_norm hfin.1.nx ha.len1 ha.len2 hq.len1 hq.len2
  have ly := len_norm hfin.1.ny ha.len1 ha.len2 hq.len1 hq.len2
  have l1 := zlen_turn lr.1 lr.2 (kq F.r1 F.r2)
  have l2 := zlen_turn lx.1 lx.2 (kq F.r1 F.r2)
  have l3 := zlen_turn ly.1 ly.2 (kq F.r1 F.r2)
  obtain ⟨D1, hD1⟩ : ∃ D, (turn (kq F.r1 F.r2) (F.r1, F.r2)).1 = D := ⟨_, rfl⟩
  obtain ⟨D2, hD2⟩ : ∃ D, (turn (kq F.r1 F.r2) (F.r1, F.r2)).2 = D := ⟨_, rfl⟩
  obtain ⟨S1, hS1⟩ : ∃ D, (turn (kq F.r1 F.r2) (F.x1, F.x2)).1 = D := ⟨_, rfl⟩
  obtain ⟨S2, hS2⟩ : ∃ D, (turn (kq F.r1 F.r2) (F.x1, F.x2)).2 = D := ⟨_, rfl⟩
  obtain ⟨T1, hT1⟩ : ∃ D, (turn (kq F.r1 F.r2) (F.y1, F.y2)).1 = D := ⟨_, rfl⟩
  obtain ⟨T2, hT2⟩ : ∃ D, (turn (kq F.r1 F.r2) (F.y1, F.y2)).2 = D := ⟨_, rfl⟩
  rw [hD1, hD2] at l1
  rw [hS1, hS2] at l2
  rw [hT1, hT2] at l3
  have EQ := hide (And.intro (And.intro hD1 hD2) (And.intro (And.intro hS1 hS2) (And.intro hT1 hT2)))
  have LD := hide l1
  have LS := hide l2
  have LT := hide l3
  clear hfin hF lr lx ly l1 l2 l3 hD1 hD2 hS1 hS2 hT1 hT2
  obtain ⟨n_0a, o_0a, k_0a, c_0a, n_0b, o_0b, k_0b, c_0b, rfl, ha1, ha2⟩ := ha
  obtain ⟨n_1a, o_1a, k_1a, c_1a, n_1b, o_1b, k_1b, c_1b, rfl, hq1, hq2⟩ := hq
  go_enter Tryz.func4, Tryz.ntmps4
  have hb := Below.refl w.heap.size w
  refine wp_seq_k ?_
  intro K1 hK1
  refine wp_region_sq [0, 1, 2] (by kernel_rfl) ?_
  refine wpSq_call rfl (by kernel_rfl) fun K hK => ?_
  go_big_op
  obtain ⟨p_b1, w_1, eP, eW, x_b1, hn, kb_b1⟩ := newBox w #[.bool n_0a, .slice o_0a k_0a c_0a, .bool n_0b, .slice o_0b k_0b c_0b] 29 hb.size
  rw [eW, eP]
  clear eW eP
  replace ha1 := ha1.bl hn; replace ha2 := ha2.bl hn; replace hq1 := hq1.bl hn; replace hq2 := hq2.bl hn; replace hb := hb.trans (hn.mono hb.size)
  refine hK _ _ rfl ?_; clear hK K hn
  refine wpSq_call rfl (by kernel_rfl) fun K hK => ?_
  go_big_op
  have lt_b1 := x_b1.lt
  obtain ⟨p_b2, w_2, eP, eW, x_b2, hn, kb_b2⟩ := newBox w_1 #[.bool n_1a, .slice o_1a k_1a c_1a, .bool n_1b, .slice o_1b k_1b c_1b] 29 hb.size
  have ne_b1_b2 : Hid (p_b1 ≠ p_b2) := Nat.ne_of_lt (eP ▸ lt_b1)
  rw [eW, eP]
  clear eW eP lt_b1
  replace ha1 := ha1.bl hn; replace ha2 := ha2.bl hn; replace hq1 := hq1.bl hn; replace hq2 := hq2.bl hn; replace x_b1 := x_b1.bl hn; replace hb := hb.trans (hn.mono hb.size)
  refine hK _ _ rfl ?_; clear hK K hn
  refine wpSq_call rfl (by kernel_rfl) fun K hK => ?_
  go_big_move; refine hK _ _ rfl ?_; clear hK K
  apply wpSq_end
  refine hK1 _ _ ?_
  refine wp_seq_k ?_
  intro K2 hK2
  refine wp_region_sq [0, 1, 2, 3, 4, 5, 6, 7, 8, 9, 10, 11, 12] (by kernel_rfl) ?_
  refine wpSq_call rfl (by kernel_rfl) fun K hK => ?_
  obtain ⟨d0, d1, d2, d3⟩ := x_b1.f4
  go_big_op; refine hK _ _ rfl ?_; clear hK K d0 d1 d2 d3
  refine wpSq_call rfl (by kernel_rfl) fun K hK => ?_
  obtain ⟨d0, d1, d2, d3⟩ := x_b2.f4
  go_big_op; refine hK _ _ rfl ?_; clear hK K d0 d1 d2 d3
  refine wpSq_call rfl (by kernel_rfl) fun K hK => ?_
  go_big_op
  go_fit (gxgcd_any (L := 1048576) (PN.mk' ha1 ha2) (PN.mk' hq1 hq2) (by decide))
  rintro e w_3 ⟨_, _, _, rfl, ⟨n_da, o_da, k_da, c_da, n_db, o_db, k_db, c_db, rfl, d1, d2⟩, ⟨n_sa, o_sa, k_sa, c_sa, n_sb, o_sb, k_sb, c_sb, rfl, s1, s2⟩, ⟨n_ta, o_ta, k_ta, c_ta, n_tb, o_tb, k_tb, c_tb, rfl, t1, t2⟩, hb_3⟩
  replace ha1 := ha1.bl hb_3; replace ha2 := ha2.bl hb_3; replace hq1 := hq1.bl hb_3; replace hq2 := hq2.bl hb_3; replace x_b1 := x_b1.bl hb_3; replace x_b2 := x_b2.bl hb_3; replace hb := hb.trans (hb_3.mono hb.size)
  rw [HF.out, EQ.out.1.1] at d1
  rw [HF.out, EQ.out.1.2] at d2
  rw [HF.out, EQ.out.2.1.1] at s1
  rw [HF.out, EQ.out.2.1.2] at s2
  rw [HF.out, EQ.out.2.2.1] at t1
  rw [HF.out, EQ.out.2.2.2] at t2
  refine hK _ _ rfl ?_
  clear hK K hb_3
  refine wpSq_call rfl (by kernel_rfl) fun K hK => ?_
  go_big_move; refine hK _ _ rfl ?_; clear hK K
  refine wpSq_call rfl (by kernel_rfl) fun K hK => ?_
  go_big_op; refine hK _ _ rfl ?_; clear hK K
  refine wpSq_call rfl (by kernel_rfl) fun K hK => ?_
  go_big_op; refine hK _ _ rfl ?_; clear hK K
  refine wpSq_call rfl (by kernel_rfl) fun K hK => ?_
  go_big_op; refine hK _ _ rfl ?_; clear hK K
  refine wpSq_call rfl (by kernel_rfl) fun K hK => ?_
  go_big_op
  have lt_b1 := x_b1.lt
  have lt_b2 := x_b2.lt
  obtain ⟨p_b3, w_4, eP, eW, x_b3, hn, kb_b3⟩ := newBox w_3 #[.bool false, .slice none 0 0, .bool false, .slice none 0 0] 29 hb.size
  have ne_b1_b3 : Hid (p_b1 ≠ p_b3) := Nat.ne_of_lt (eP ▸ lt_b1)
  have ne_b2_b3 : Hid (p_b2 ≠ p_b3) := Nat.ne_of_lt (eP ▸ lt_b2)
  rw [eW, eP]
  clear eW eP lt_b1 lt_b2
  replace ha1 := ha1.bl hn; replace ha2 := ha2.bl hn; replace hq1 := hq1.bl hn; replace hq2 := hq2.bl hn; replace x_b1 := x_b1.bl hn; replace x_b2 := x_b2.bl hn; replace d1 := d1.bl hn; replace d2 := d2.bl hn; replace s1 := s1.bl hn; replace s2 := s2.bl hn; replace t1 := t1.bl hn; replace t2 := t2.bl hn; replace hb := hb.trans (hn.mono hb.size)
  refine hK _ _ rfl ?_; clear hK K hn
  refine wpSq_call rfl (by kernel_rfl) fun K hK => ?_
  go_big_op
  have lt_b1 := x_b1.lt
  have lt_b2 := x_b2.lt
  have lt_b3 := x_b3.lt
  obtain ⟨p_b4, w_5, eP, eW, x_b4, hn, kb_b4⟩ := newBox w_4 #[.bool false, .slice none 0 0, .bool false, .slice none 0 0] 29 hb.size
  have ne_b1_b4 : Hid (p_b1 ≠ p_b4) := Nat.ne_of_lt (eP ▸ lt_b1)
  have ne_b2_b4 : Hid (p_b2 ≠ p_b4) := Nat.ne_of_lt (eP ▸ lt_b2)
  have ne_b3_b4 : Hid (p_b3 ≠ p_b4) := Nat.ne_of_lt (eP ▸ lt_b3)
  rw [eW, eP]
  clear eW eP lt_b1 lt_b2 lt_b3
  replace ha1 := ha1.bl hn; replace ha2 := ha2.bl hn; replace hq1 := hq1.bl hn; replace hq2 := hq2.bl hn; replace x_b1 := x_b1.bl hn; replace x_b2 := x_b2.bl hn; replace d1 := d1.bl hn; replace d2 := d2.bl hn; replace s1 := s1.bl hn; replace s2 := s2.bl hn; replace t1 := t1.bl hn; replace t2 := t2.bl hn; replace x_b3 := x_b3.bl hn; replace hb := hb.trans (hn.mono hb.size)
  refine hK _ _ rfl ?_; clear hK K hn
  refine wpSq_call rfl (by kernel_rfl) fun K hK => ?_
  go_big_op
  have lt_b1 := x_b1.lt
  have lt_b2 := x_b2.lt
  have lt_b3 := x_b3.lt
  have lt_b4 := x_b4.lt
  obtain ⟨p_b5, w_6, eP, eW, x_b5, hn, kb_b5⟩ := newBox w_5 #[.bool false, .slice none 0 0, .bool false, .slice none 0 0] 29 hb.size
  have ne_b1_b5 : Hid (p_b1 ≠ p_b5) := Nat.ne_of_lt (eP ▸ lt_b1)
  have ne_b2_b5 : Hid (p_b2 ≠ p_b5) := Nat.ne_of_lt (eP ▸ lt_b2)
  have ne_b3_b5 : Hid (p_b3 ≠ p_b5) := Nat.ne_of_lt (eP ▸ lt_b3)
  have ne_b4_b5 : Hid (p_b4 ≠ p_b5) := Nat.ne_of_lt (eP ▸ lt_b4)
  rw [eW, eP]
  clear eW eP lt_b1 lt_b2 lt_b3 lt_b4
  replace ha1 := ha1.bl hn; replace ha2 := ha2.bl hn; replace hq1 := hq1.bl hn; replace hq2 := hq2.bl hn; replace x_b1 := x_b1.bl hn; replace x_b2 := x_b2.bl hn; replace d1 := d1.bl hn; replace d2 := d2.bl hn; replace s1 := s1.bl hn; replace s2 := s2.bl hn; replace t1 := t1.bl hn; replace t2 := t2.bl hn; replace x_b3 := x_b3.bl hn; replace x_b4 := x_b4.bl hn; replace hb := hb.trans (hn.mono hb.size)
  refine hK _ _ rfl ?_; clear hK K hn
  refine wpSq_call rfl (by kernel_rfl) fun K hK => ?_
  obtain ⟨d0, d1, d2, d3⟩ := x_b3.f4
  have f0 := x_b3.free 0; have f1 := x_b3.free 1; have f2 := x_b3.free 2; have f3 := x_b3.free 3
  go_big_op
  have hnd := x_b3.nod rfl rfl
  obtain ⟨w_7, eW, x_b3', ho⟩ : ∃ w', ((((w_6.setCell ⟨p_b3, 0, none⟩ (.bool n_da)).setCell ⟨p_b3, 1, none⟩ (.slice o_da k_da c_da)).setCell ⟨p_b3, 2, none⟩ (.bool n_db)).setCell ⟨p_b3, 3, none⟩ (.slice o_db k_db c_db)) = w' ∧ Bs w' p_b3 #[.bool n_da, .slice o_da k_da c_da, .bool n_db, .slice o_db k_db c_db] 29 ∧ Only p_b3 w_6 w' := x_b3.setN [(0, .bool n_da), (1, .slice o_da k_da c_da), (2, .bool n_db), (3, .slice o_db k_db c_db)]
  rw [eW]; clear eW d0 d1 d2 d3 f0 f1 f2 f3 x_b3
  have x_b3 := x_b3'; clear x_b3'
  replace ha1 := ha1.fr hnd ho; replace ha2 := ha2.fr hnd ho; replace hq1 := hq1.fr hnd ho; replace hq2 := hq2.fr hnd ho; replace x_b1 := x_b1.frame ho ne_b1_b3; replace x_b2 := x_b2.frame ho ne_b2_b3; replace d1 := d1.fr hnd ho; replace d2 := d2.fr hnd ho; replace s1 := s1.fr hnd ho; replace s2 := s2.fr hnd ho; replace t1 := t1.fr hnd ho; replace t2 := t2.fr hnd ho; replace x_b4 := x_b4.frame ho ne_b3_b4.symm; replace x_b5 := x_b5.frame ho ne_b3_b5.symm; replace hb := belowOnly hb ho kb_b3
  refine hK _ _ rfl ?_; clear hK K ho hnd
  refine wpSq_call rfl (by kernel_rfl) fun K hK => ?_
  obtain ⟨d0, d1, d2, d3⟩ := x_b4.f4
  have f0 := x_b4.free 0; have f1 := x_b4.free 1; have f2 := x_b4.free 2; have f3 := x_b4.free 3
  go_big_op
  have hnd := x_b4.nod rfl rfl
  obtain ⟨w_8, eW, x_b4', ho⟩ : ∃ w', ((((w_7.setCell ⟨p_b4, 0, none⟩ (.bool n_sa)).setCell ⟨p_b4, 1, none⟩ (.slice o_sa k_sa c_sa)).setCell ⟨p_b4, 2, none⟩ (.bool n_sb)).setCell ⟨p_b4, 3, none⟩ (.slice o_sb k_sb c_sb)) = w' ∧ Bs w' p_b4 #[.bool n_sa, .slice o_sa k_sa c_sa, .bool n_sb, .slice o_sb k_sb c_sb] 29 ∧ Only p_b4 w_7 w' := x_b4.setN [(0, .bool n_sa), (1, .slice o_sa k_sa c_sa), (2, .bool n_sb), (3, .slice o_sb k_sb c_sb)]
  rw [eW]; clear eW d0 d1 d2 d3 f0 f1 f2 f3 x_b4
  have x_b4 := x_b4'; clear x_b4'
  replace ha1 := ha1.fr hnd ho; replace ha2 := ha2.fr hnd ho; replace hq1 := hq1.fr hnd ho; replace hq2 := hq2.fr hnd ho; replace x_b1 := x_b1.frame ho ne_b1_b4; replace x_b2 := x_b2.frame ho ne_b2_b4; replace d1 := d1.fr hnd ho; replace d2 := d2.fr hnd ho; replace s1 := s1.fr hnd ho; replace s2 := s2.fr hnd ho; replace t1 := t1.fr hnd ho; replace t2 := t2.fr hnd ho; replace x_b3 := x_b3.frame ho ne_b3_b4; replace x_b5 := x_b5.frame ho ne_b4_b5.symm; replace hb := belowOnly hb ho kb_b4
  refine hK _ _ rfl ?_; clear hK K ho hnd
  refine wpSq_call rfl (by kernel_rfl) fun K hK => ?_
  obtain ⟨d0, d1, d2, d3⟩ := x_b5.f4
  have f0 := x_b5.free 0; have f1 := x_b5.free 1; have f2 := x_b5.free 2; have f3 := x_b5.free 3
  go_big_op
  have hnd := x_b5.nod rfl rfl
  obtain ⟨w_9, eW, x_b5', ho⟩ : ∃ w', ((((w_8.setCell ⟨p_b5, 0, none⟩ (.bool n_ta)).setCell ⟨p_b5, 1, none⟩ (.slice o_ta k_ta c_ta)).setCell ⟨p_b5, 2, none⟩ (.bool n_tb)).setCell ⟨p_b5, 3, none⟩ (.slice o_tb k_tb c_tb)) = w' ∧ Bs w' p_b5 #[.bool n_ta, .slice o_ta k_ta c_ta, .bool n_tb, .slice o_tb k_tb c_tb] 29 ∧ Only p_b5 w_8 w' := x_b5.setN [(0, .bool n_ta), (1, .slice o_ta k_ta c_ta), (2, .bool n_tb), (3, .slice o_tb k_tb c_tb)]
  rw [eW]; clear eW d0 d1 d2 d3 f0 f1 f2 f3 x_b5
  have x_b5 := x_b5'; clear x_b5'
  replace ha1 := ha1.fr hnd ho; replace ha2 := ha2.fr hnd ho; replace hq1 := hq1.fr hnd ho; replace hq2 := hq2.fr hnd ho; replace x_b1 := x_b1.frame ho ne_b1_b5; replace x_b2 := x_b2.frame ho ne_b2_b5; replace d1 := d1.fr hnd ho; replace d2 := d2.fr hnd ho; replace s1 := s1.fr hnd ho; replace s2 := s2.fr hnd ho; replace t1 := t1.fr hnd ho; replace t2 := t2.fr hnd ho; replace x_b3 := x_b3.frame ho ne_b3_b5; replace x_b4 := x_b4.frame ho ne_b4_b5; replace hb := belowOnly hb ho kb_b5
  refine hK _ _ rfl ?_; clear hK K ho hnd
  apply wpSq_end
  refine hK2 _ _ ?_
  refine wp_seq_k ?_
  intro K3 hK3
  refine wp_region_sq [0, 1, 2, 3, 4, 5, 6, 7, 8, 9, 10, 11, 12] (by kernel_rfl) ?_
  refine wpSq_call rfl (by kernel_rfl) fun K hK => ?_
  obtain ⟨d0, d1, d2, d3⟩ := x_b1.f4
  go_big_op; refine hK _ _ rfl ?_; clear hK K d0 d1 d2 d3
  refine wpSq_call rfl (by kernel_rfl) fun K hK => ?_
  obtain ⟨d0, d1, d2, d3⟩ := x_b2.f4
  go_big_op; refine hK _ _ rfl ?_; clear hK K d0 d1 d2 d3
  refine wpSq_call rfl (by kernel_rfl) fun K hK => ?_
  go_big_op
  go_fit (rgxgcd_any (L := 1048576) (PN.mk' ha1 ha2) (PN.mk' hq1 hq2) (by decide))
  rintro e w_10 ⟨_, _, _, rfl, ⟨n_ea, o_ea, k_ea, c_ea, n_eb, o_eb, k_eb, c_eb, rfl, e1, e2⟩, ⟨n_ja, o_ja, k_ja, c_ja, n_jb, o_jb, k_jb, c_jb, rfl, j1, j2⟩, ⟨n_oa, o_oa, k_oa, c_oa, n_ob, o_ob, k_ob, c_ob, rfl, o1, o2⟩, hb_10⟩
  replace ha1 := ha1.bl hb_10; replace ha2 := ha2.bl hb_10; replace hq1 := hq1.bl hb_10; replace hq2 := hq2.bl hb_10; replace x_b1 := x_b1.bl hb_10; replace x_b2 := x_b2.bl hb_10; replace d1 := d1.bl hb_10; replace d2 := d2.bl hb_10; replace s1 := s1.bl hb_10; replace s2 := s2.bl hb_10; replace t1 := t1.bl hb_10; replace t2 := t2.bl hb_10; replace x_b3 := x_b3.bl hb_10; replace x_b4 := x_b4.bl hb_10; replace x_b5 := x_b5.bl hb_10; replace hb := hb.trans (hb_10.mono hb.size)
  rw [HF.out, EQ.out.1.1] at e1
  rw [HF.out, EQ.out.1.2] at e2
  rw [HF.out, EQ.out.2.1.1] at j1
  rw [HF.out, EQ.out.2.1.2] at j2
  rw [HF.out, EQ.out.2.2.1] at o1
  rw [HF.out, EQ.out.2.2.2] at o2
  refine hK _ _ rfl ?_
  clear hK K hb_10
  refine wpSq_call rfl (by kernel_rfl) fun K hK => ?_
  go_big_move; refine hK _ _ rfl ?_; clear hK K
  refine wpSq_call rfl (by kernel_rfl) fun K hK => ?_
  go_big_op; refine hK _ _ rfl ?_; clear hK K
  refine wpSq_call rfl (by kernel_rfl) fun K hK => ?_
  go_big_op; refine hK _ _ rfl ?_; clear hK K
  refine wpSq_call rfl (by kernel_rfl) fun K hK => ?_
  go_big_op; refine hK _ _ rfl ?_; clear hK K
  refine wpSq_call rfl (by kernel_rfl) fun K hK => ?_
  go_big_op
  have lt_b1 := x_b1.lt
  have lt_b2 := x_b2.lt
  have lt_b3 := x_b3.lt
  have lt_b4 := x_b4.lt
  have lt_b5 := x_b5.lt
  obtain ⟨p_b6, w_11, eP, eW, x_b6, hn, kb_b6⟩ := newBox w_10 #[.bool false, .slice none 0 0, .bool false, .slice none 0 0] 29 hb.size
  have ne_b1_b6 : Hid (p_b1 ≠ p_b6) := Nat.ne_of_lt (eP ▸ lt_b1)
  have ne_b2_b6 : Hid (p_b2 ≠ p_b6) := Nat.ne_of_lt (eP ▸ lt_b2)
  have ne_b3_b6 : Hid (p_b3 ≠ p_b6) := Nat.ne_of_lt (eP ▸ lt_b3)
  have ne_b4_b6 : Hid (p_b4 ≠ p_b6) := Nat.ne_of_lt (eP ▸ lt_b4)
  have ne_b5_b6 : Hid (p_b5 ≠ p_b6) := Nat.ne_of_lt (eP ▸ lt_b5)
  rw [eW, eP]
  clear eW eP lt_b1 lt_b2 lt_b3 lt_b4 lt_b5
  replace ha1 := ha1.bl hn; replace ha2 := ha2.bl hn; replace hq1 := hq1.bl hn; replace hq2 := hq2.bl hn; replace x_b1 := x_b1.bl hn; replace x_b2 := x_b2.bl hn; replace d1 := d1.bl hn; replace d2 := d2.bl hn; replace s1 := s1.bl hn; replace s2 := s2.bl hn; replace t1 := t1.bl hn; replace t2 := t2.bl hn; replace x_b3 := x_b3.bl hn; replace x_b4 := x_b4.bl hn; replace x_b5 := x_b5.bl hn; replace e1 := e1.bl hn; replace e2 := e2.bl hn; replace j1 := j1.bl hn; replace j2 := j2.bl hn; replace o1 := o1.bl hn; replace o2 := o2.bl hn; replace hb := hb.trans (hn.mono hb.size)
  refine hK _ _ rfl ?_; clear hK K hn
  refine wpSq_call rfl (by kernel_rfl) fun K hK => ?_
  go_big_op
  have lt_b1 := x_b1.lt
  have lt_b2 := x_b2.lt
  have lt_b3 := x_b3.lt
  have lt_b4 := x_b4.lt
  have lt_b5 := x_b5.lt
  have lt_b6 := x_b6.lt
  obtain ⟨p_b7, w_12, eP, eW, x_b7, hn, kb_b7⟩ := newBox w_11 #[.bool false, .slice none 0 0, .bool false, .slice none 0 0] 29 hb.size
  have ne_b1_b7 : Hid (p_b1 ≠ p_b7) := Nat.ne_of_lt (eP ▸ lt_b1)
  have ne_b2_b7 : Hid (p_b2 ≠ p_b7) := Nat.ne_of_lt (eP ▸ lt_b2)
  have ne_b3_b7 : Hid (p_b3 ≠ p_b7) := Nat.ne_of_lt (eP ▸ lt_b3)
  have ne_b4_b7 : Hid (p_b4 ≠ p_b7) := Nat.ne_of_lt (eP ▸ lt_b4)
  have ne_b5_b7 : Hid (p_b5 ≠ p_b7) := Nat.ne_of_lt (eP ▸ lt_b5)
  have ne_b6_b7 : Hid (p_b6 ≠ p_b7) := Nat.ne_of_lt (eP ▸ lt_b6)
  rw [eW, eP]
  clear eW eP lt_b1 lt_b2 lt_b3 lt_b4 lt_b5 lt_b6
  replace ha1 := ha1.bl hn; replace ha2 := ha2.bl hn; replace hq1 := hq1.bl hn; replace hq2 := hq2.bl hn; replace x_b1 := x_b1.bl hn; replace x_b2 := x_b2.bl hn; replace d1 := d1.bl hn; replace d2 := d2.bl hn; replace s1 := s1.bl hn; replace s2 := s2.bl hn; replace t1 := t1.bl hn; replace t2 := t2.bl hn; replace x_b3 := x_b3.bl hn; replace x_b4 := x_b4.bl hn; replace x_b5 := x_b5.bl hn; replace e1 := e1.bl hn; replace e2 := e2.bl hn; replace j1 := j1.bl hn; replace j2 := j2.bl hn; replace o1 := o1.bl hn; replace o2 := o2.bl hn; replace x_b6 := x_b6.bl hn; replace hb := hb.trans (hn.mono hb.size)
  refine hK _ _ rfl ?_; clear hK K hn
  refine wpSq_call rfl (by kernel_rfl) fun K hK => ?_
  go_big_op
  have lt_b1 := x_b1.lt
  have lt_b2 := x_b2.lt
  have lt_b3 := x_b3.lt
  have lt_b4 := x_b4.lt
  have lt_b5 := x_b5.lt
  have lt_b6 := x_b6.lt
  have lt_b7 := x_b7.lt
  obtain ⟨p_b8, w_13, eP, eW, x_b8, hn, kb_b8⟩ := newBox w_12 #[.bool false, .slice none 0 0, .bool false, .slice none 0 0] 29 hb.size
  have ne_b1_b8 : Hid (p_b1 ≠ p_b8) := Nat.ne_of_lt (eP ▸ lt_b1)
  have ne_b2_b8 : Hid (p_b2 ≠ p_b8) := Nat.ne_of_lt (eP ▸ lt_b2)
  have ne_b3_b8 : Hid (p_b3 ≠ p_b8) := Nat.ne_of_lt (eP ▸ lt_b3)
  have ne_b4_b8 : Hid (p_b4 ≠ p_b8) := Nat.ne_of_lt (eP ▸ lt_b4)
  have ne_b5_b8 : Hid (p_b5 ≠ p_b8) := Nat.ne_of_lt (eP ▸ lt_b5)
  have ne_b6_b8 : Hid (p_b6 ≠ p_b8) := Nat.ne_of_lt (eP ▸ lt_b6)
  have ne_b7_b8 : Hid (p_b7 ≠ p_b8) := Nat.ne_of_lt (eP ▸ lt_b7)
  rw [eW, eP]
  clear eW eP lt_b1 lt_b2 lt_b3 lt_b4 lt_b5 lt_b6 lt_b7
  replace ha1 := ha1.bl hn; replace ha2 := ha2.bl hn; replace hq1 := hq1.bl hn; replace hq2 := hq2.bl hn; replace x_b1 := x_b1.bl hn; replace x_b2 := x_b2.bl hn; replace d1 := d1.bl hn; replace d2 := d2.bl hn; replace s1 := s1.bl hn; replace s2 := s2.bl hn; replace t1 := t1.bl hn; replace t2 := t2.bl hn; replace x_b3 := x_b3.bl hn; replace x_b4 := x_b4.bl hn; replace x_b5 := x_b5.bl hn; replace e1 := e1.bl hn; replace e2 := e2.bl hn; replace j1 := j1.bl hn; replace j2 := j2.bl hn; replace o1 := o1.bl hn; replace o2 := o2.bl hn; replace x_b6 := x_b6.bl hn; replace x_b7 := x_b7.bl hn; replace hb := hb.trans (hn.mono hb.size)
  refine hK _ _ rfl ?_; clear hK K hn
  refine wpSq_call rfl (by kernel_rfl) fun K hK => ?_
  obtain ⟨d0, d1, d2, d3⟩ := x_b6.f4
  have f0 := x_b6.free 0; have f1 := x_b6.free 1; have f2 := x_b6.free 2; have f3 := x_b6.free 3
  go_big_op
  have hnd := x_b6.nod rfl rfl
  obtain ⟨w_14, eW, x_b6', ho⟩ : ∃ w', ((((w_13.setCell ⟨p_b6, 0, none⟩ (.bool n_ea)).setCell ⟨p_b6, 1, none⟩ (.slice o_ea k_ea c_ea)).setCell ⟨p_b6, 2, none⟩ (.bool n_eb)).setCell ⟨p_b6, 3, none⟩ (.slice o_eb k_eb c_eb)) = w' ∧ Bs w' p_b6 #[.bool n_ea, .slice o_ea k_ea c_ea, .bool n_eb, .slice o_eb k_eb c_eb] 29 ∧ Only p_b6 w_13 w' := x_b6.setN [(0, .bool n_ea), (1, .slice o_ea k_ea c_ea), (2, .bool n_eb), (3, .slice o_eb k_eb c_eb)]
  rw [eW]; clear eW d0 d1 d2 d3 f0 f1 f2 f3 x_b6
  have x_b6 := x_b6'; clear x_b6'
  replace ha1 := ha1.fr hnd ho; replace ha2 := ha2.fr hnd ho; replace hq1 := hq1.fr hnd ho; replace hq2 := hq2.fr hnd ho; replace x_b1 := x_b1.frame ho ne_b1_b6; replace x_b2 := x_b2.frame ho ne_b2_b6; replace d1 := d1.fr hnd ho; replace d2 := d2.fr hnd ho; replace s1 := s1.fr hnd ho; replace s2 := s2.fr hnd ho; replace t1 := t1.fr hnd ho; replace t2 := t2.fr hnd ho; replace x_b3 := x_b3.frame ho ne_b3_b6; replace x_b4 := x_b4.frame ho ne_b4_b6; replace x_b5 := x_b5.frame ho ne_b5_b6; replace e1 := e1.fr hnd ho; replace e2 := e2.fr hnd ho; replace j1 := j1.fr hnd ho; replace j2 := j2.fr hnd ho; replace o1 := o1.fr hnd ho; replace o2 := o2.fr hnd ho; replace x_b7 := x_b7.frame ho ne_b6_b7.symm; replace x_b8 := x_b8.frame ho ne_b6_b8.symm; replace hb := belowOnly hb ho kb_b6
  refine hK _ _ rfl ?_; clear hK K ho hnd
  refine wpSq_call rfl (by kernel_rfl) fun K hK => ?_
  obtain ⟨d0, d1, d2, d3⟩ := x_b7.f4
  have f0 := x_b7.free 0; have f1 := x_b7.free 1; have f2 := x_b7.free 2; have f3 := x_b7.free 3
  go_big_op
  have hnd := x_b7.nod rfl rfl
  obtain ⟨w_15, eW, x_b7', ho⟩ : ∃ w', ((((w_14.setCell ⟨p_b7, 0, none⟩ (.bool n_ja)).setCell ⟨p_b7, 1, none⟩ (.slice o_ja k_ja c_ja)).setCell ⟨p_b7, 2, none⟩ (.bool n_jb)).setCell ⟨p_b7, 3, none⟩ (.slice o_jb k_jb c_jb)) = w' ∧ Bs w' p_b7 #[.bool n_ja, .slice o_ja k_ja c_ja, .bool n_jb, .slice o_jb k_jb c_jb] 29 ∧ Only p_b7 w_14 w' := x_b7.setN [(0, .bool n_ja), (1, .slice o_ja k_ja c_ja), (2, .bool n_jb), (3, .slice o_jb k_jb c_jb)]
  rw [eW]; clear eW d0 d1 d2 d3 f0 f1 f2 f3 x_b7
  have x_b7 := x_b7'; clear x_b7'
  replace ha1 := ha1.fr hnd ho; replace ha2 := ha2.fr hnd ho; replace hq1 := hq1.fr hnd ho; replace hq2 := hq2.fr hnd ho; replace x_b1 := x_b1.frame ho ne_b1_b7; replace x_b2 := x_b2.frame ho ne_b2_b7; replace d1 := d1.fr hnd ho; replace d2 := d2.fr hnd ho; replace s1 := s1.fr hnd ho; replace s2 := s2.fr hnd ho; replace t1 := t1.fr hnd ho; replace t2 := t2.fr hnd ho; replace x_b3 := x_b3.frame ho ne_b3_b7; replace x_b4 := x_b4.frame ho ne_b4_b7; replace x_b5 := x_b5.frame ho ne_b5_b7; replace e1 := e1.fr hnd ho; replace e2 := e2.fr hnd ho; replace j1 := j1.fr hnd ho; replace j2 := j2.fr hnd ho; replace o1 := o1.fr hnd ho; replace o2 := o2.fr hnd ho; replace x_b6 := x_b6.frame ho ne_b6_b7; replace x_b8 := x_b8.frame ho ne_b7_b8.symm; replace hb := belowOnly hb ho kb_b7
  refine hK _ _ rfl ?_; clear hK K ho hnd
  refine wpSq_call rfl (by kernel_rfl) fun K hK => ?_
  obtain ⟨d0, d1, d2, d3⟩ := x_b8.f4
  have f0 := x_b8.free 0; have f1 := x_b8.free 1; have f2 := x_b8.free 2; have f3 := x_b8.free 3
  go_big_op
  have hnd := x_b8.nod rfl rfl
  obtain ⟨w_16, eW, x_b8', ho⟩ : ∃ w', ((((w_15.setCell ⟨p_b8, 0, none⟩ (.bool n_oa)).setCell ⟨p_b8, 1, none⟩ (.slice o_oa k_oa c_oa)).setCell ⟨p_b8, 2, none⟩ (.bool n_ob)).setCell ⟨p_b8, 3, none⟩ (.slice o_ob k_ob c_ob)) = w' ∧ Bs w' p_b8 #[.bool n_oa, .slice o_oa k_oa c_oa, .bool n_ob, .slice o_ob k_ob c_ob] 29 ∧ Only p_b8 w_15 w' := x_b8.setN [(0, .bool n_oa), (1, .slice o_oa k_oa c_oa), (2, .bool n_ob), (3, .slice o_ob k_ob c_ob)]
  rw [eW]; clear eW d0 d1 d2 d3 f0 f1 f2 f3 x_b8
  have x_b8 := x_b8'; clear x_b8'
  replace ha1 := ha1.fr hnd ho; replace ha2 := ha2.fr hnd ho; replace hq1 := hq1.fr hnd ho; replace hq2 := hq2.fr hnd ho; replace x_b1 := x_b1.frame ho ne_b1_b8; replace x_b2 := x_b2.frame ho ne_b2_b8; replace d1 := d1.fr hnd ho; replace d2 := d2.fr hnd ho; replace s1 := s1.fr hnd ho; replace s2 := s2.fr hnd ho; replace t1 := t1.fr hnd ho; replace t2 := t2.fr hnd ho; replace x_b3 := x_b3.frame ho ne_b3_b8; replace x_b4 := x_b4.frame ho ne_b4_b8; replace x_b5 := x_b5.frame ho ne_b5_b8; replace e1 := e1.fr hnd ho; replace e2 := e2.fr hnd ho; replace j1 := j1.fr hnd ho; replace j2 := j2.fr hnd ho; replace o1 := o1.fr hnd ho; replace o2 := o2.fr hnd ho; replace x_b6 := x_b6.frame ho ne_b6_b8; replace x_b7 := x_b7.frame ho ne_b7_b8; replace hb := belowOnly hb ho kb_b8
  refine hK _ _ rfl ?_; clear hK K ho hnd
  apply wpSq_end
  refine hK3 _ _ ?_
  refine wp_seq_k ?_
  intro K4 hK4
  refine wp_region_fl2 [(0, true), (1, false), (2, false), (3, false), (5, false), (4, true), (6, true), (7, false), (8, false), (9, false), (10, false), (11, true), (12, false), (13, false), (14, false), (15, false), (16, true), (17, false), (18, false), (19, false), (20, false), (21, true), (22, false), (23, false)] [] [] (fun _ => default) [99, 99, 0, 1, 99, 2, 99, 99, 99, 3, 2, 99, 99, 99, 4, 5, 99, 99, 99, 6, 7, 99, 99, 99] [] (fun w' => w'.cell? ⟨p_b1, 0, none⟩ = some (.bool n_0a) ∧ w'.cell? ⟨p_b1, 1, none⟩ = some (.slice o_0a k_0a c_0a) ∧ w'.cell? ⟨p_b1, 2, none⟩ = some (.bool n_0b) ∧ w'.cell? ⟨p_b1, 3, none⟩ = some (.slice o_0b k_0b c_0b) ∧ w'.cell? ⟨p_b2, 0, none⟩ = some (.bool n_1a) ∧ w'.cell? ⟨p_b2, 1, none⟩ = some (.slice o_1a k_1a c_1a) ∧ w'.cell? ⟨p_b2, 2, none⟩ = some (.bool n_1b) ∧ w'.cell? ⟨p_b2, 3, none⟩ = some (.slice o_1b k_1b c_1b) ∧ w'.cell? ⟨p_b6, 0, none⟩ = some (.bool n_ea) ∧ w'.cell? ⟨p_b6, 1, none⟩ = some (.slice o_ea k_ea c_ea) ∧ w'.cell? ⟨p_b6, 2, none⟩ = some (.bool n_eb) ∧ w'.cell? ⟨p_b6, 3, none⟩ = some (.slice o_eb k_eb c_eb) ∧ w'.cell? ⟨p_b3, 0, none⟩ = some (.bool n_da) ∧ w'.cell? ⟨p_b3, 1, none⟩ = some (.slice o_da k_da c_da) ∧ w'.cell? ⟨p_b3, 2, none⟩ = some (.bool n_db) ∧ w'.cell? ⟨p_b3, 3, none⟩ = some (.slice o_db k_db c_db) ∧ w'.cell? ⟨p_b4, 0, none⟩ = some (.bool n_sa) ∧ w'.cell? ⟨p_b4, 1, none⟩ = some (.slice o_sa k_sa c_sa) ∧ w'.cell? ⟨p_b4, 2, none⟩ = some (.bool n_sb) ∧ w'.cell? ⟨p_b4, 3, none⟩ = some (.slice o_sb k_sb c_sb) ∧ w'.cell? ⟨p_b7, 0, none⟩ = some (.bool n_ja) ∧ w'.cell? ⟨p_b7, 1, none⟩ = some (.slice o_ja k_ja c_ja) ∧ w'.cell? ⟨p_b7, 2, none⟩ = some (.bool n_jb) ∧ w'.cell? ⟨p_b7, 3, none⟩ = some (.slice o_jb k_jb c_jb) ∧ w'.cell? ⟨p_b5, 0, none⟩ = some (.bool n_ta) ∧ w'.cell? ⟨p_b5, 1, none⟩ = some (.slice o_ta k_ta c_ta) ∧ w'.cell? ⟨p_b5, 2, none⟩ = some (.bool n_tb) ∧ w'.cell? ⟨p_b5, 3, none⟩ = some (.slice o_tb k_tb c_tb) ∧ w'.cell? ⟨p_b8, 0, none⟩ = some (.bool n_oa) ∧ w'.cell? ⟨p_b8, 1, none⟩ = some (.slice o_oa k_oa c_oa) ∧ w'.cell? ⟨p_b8, 2, none⟩ = some (.bool n_ob) ∧ w'.cell? ⟨p_b8, 3, none⟩ = some (.slice o_ob k_ob c_ob)) [fun w' => w'.cell? ⟨p_b1, 0, none⟩ = some (.bool n_0a) ∧ w'.cell? ⟨p_b1, 1, none⟩ = some (.slice o_0a k_0a c_0a) ∧ w'.cell? ⟨p_b1, 2, none⟩ = some (.bool n_0b) ∧ w'.cell? ⟨p_b1, 3, none⟩ = some (.slice o_0b k_0b c_0b), fun w' => w'.cell? ⟨p_b2, 0, none⟩ = some (.bool n_1a) ∧ w'.cell? ⟨p_b2, 1, none⟩ = some (.slice o_1a k_1a c_1a) ∧ w'.cell? ⟨p_b2, 2, none⟩ = some (.bool n_1b) ∧ w'.cell? ⟨p_b2, 3, none⟩ = some (.slice o_1b k_1b c_1b), fun w' => w'.cell? ⟨p_b6, 0, none⟩ = some (.bool n_ea) ∧ w'.cell? ⟨p_b6, 1, none⟩ = some (.slice o_ea k_ea c_ea) ∧ w'.cell? ⟨p_b6, 2, none⟩ = some (.bool n_eb) ∧ w'.cell? ⟨p_b6, 3, none⟩ = some (.slice o_eb k_eb c_eb), fun w' => w'.cell? ⟨p_b3, 0, none⟩ = some (.bool n_da) ∧ w'.cell? ⟨p_b3, 1, none⟩ = some (.slice o_da k_da c_da) ∧ w'.cell? ⟨p_b3, 2, none⟩ = some (.bool n_db) ∧ w'.cell? ⟨p_b3, 3, none⟩ = some (.slice o_db k_db c_db), fun w' => w'.cell? ⟨p_b4, 0, none⟩ = some (.bool n_sa) ∧ w'.cell? ⟨p_b4, 1, none⟩ = some (.slice o_sa k_sa c_sa) ∧ w'.cell? ⟨p_b4, 2, none⟩ = some (.bool n_sb) ∧ w'.cell? ⟨p_b4, 3, none⟩ = some (.slice o_sb k_sb c_sb), fun w' => w'.cell? ⟨p_b7, 0, none⟩ = some (.bool n_ja) ∧ w'.cell? ⟨p_b7, 1, none⟩ = some (.slice o_ja k_ja c_ja) ∧ w'.cell? ⟨p_b7, 2, none⟩ = some (.bool n_jb) ∧ w'.cell? ⟨p_b7, 3, none⟩ = some (.slice o_jb k_jb c_jb), fun w' => w'.cell? ⟨p_b5, 0, none⟩ = some (.bool n_ta) ∧ w'.cell? ⟨p_b5, 1, none⟩ = some (.slice o_ta k_ta c_ta) ∧ w'.cell? ⟨p_b5, 2, none⟩ = some (.bool n_tb) ∧ w'.cell? ⟨p_b5, 3, none⟩ = some (.slice o_tb k_tb c_tb), fun w' => w'.cell? ⟨p_b8, 0, none⟩ = some (.bool n_oa) ∧ w'.cell? ⟨p_b8, 1, none⟩ = some (.slice o_oa k_oa c_oa) ∧ w'.cell? ⟨p_b8, 2, none⟩ = some (.bool n_ob) ∧ w'.cell? ⟨p_b8, 3, none⟩ = some (.slice o_ob k_ob c_ob)] (by kernel_rfl) (by kernel_rfl) (by kernel_rfl) (by kernel_rfl) (by kernel_rfl) (by kernel_rfl) (by kernel_rfl) (by kernel_rfl) (by decide) (by intro j hj; cases hj) (by intro w' o hC; obtain ⟨c0, c1, c2, c3, c4, c5, c6, c7, c8, c9, c10, c11, c12, c13, c14, c15, c16, c17, c18, c19, c20, c21, c22, c23, c24, c25, c26, c27, c28, c29, c30, c31⟩ := hC; exact ⟨cell_alloc c0 o, cell_alloc c1 o, cell_alloc c2 o, cell_alloc c3 o, cell_alloc c4 o, cell_alloc c5 o, cell_alloc c6 o, cell_alloc c7 o, cell_alloc c8 o, cell_alloc c9 o, cell_alloc c10 o, cell_alloc c11 o, cell_alloc c12 o, cell_alloc c13 o, cell_alloc c14 o, cell_alloc c15 o, cell_alloc c16 o, cell_alloc c17 o, cell_alloc c18 o, cell_alloc c19 o, cell_alloc c20 o, cell_alloc c21 o, cell_alloc c22 o, cell_alloc c23 o, cell_alloc c24 o, cell_alloc c25 o, cell_alloc c26 o, cell_alloc c27 o, cell_alloc c28 o, cell_alloc c29 o, cell_alloc c30 o, cell_alloc c31 o⟩) (by intro w' hC G hG; obtain ⟨c0, c1, c2, c3, c4, c5, c6, c7, c8, c9, c10, c11, c12, c13, c14, c15, c16, c17, c18, c19, c20, c21, c22, c23, c24, c25, c26, c27, c28, c29, c30, c31⟩ := hC; simp only [List.mem_cons, List.not_mem_nil, or_false] at hG; rcases hG with rfl | rfl | rfl | rfl | rfl | rfl | rfl | rfl <;> first | exact ⟨c0, c1, c2, c3⟩ | exact ⟨c4, c5, c6, c7⟩ | exact ⟨c8, c9, c10, c11⟩ | exact ⟨c12, c13, c14, c15⟩ | exact ⟨c16, c17, c18, c19⟩ | exact ⟨c20, c21, c22, c23⟩ | exact ⟨c24, c25, c26, c27⟩ | exact ⟨c28, c29, c30, c31⟩) ?_
  have lt_b1 := x_b1.lt
  have lt_b2 := x_b2.lt
  have lt_b3 := x_b3.lt
  have lt_b4 := x_b4.lt
  have lt_b5 := x_b5.lt
  have lt_b6 := x_b6.lt
  have lt_b7 := x_b7.lt
  have lt_b8 := x_b8.lt
  intro w_17 hn
  replace lt_b1 := Nat.lt_of_lt_of_le lt_b1 hn.size
  replace lt_b2 := Nat.lt_of_lt_of_le lt_b2 hn.size
  replace lt_b3 := Nat.lt_of_lt_of_le lt_b3 hn.size
  replace lt_b4 := Nat.lt_of_lt_of_le lt_b4 hn.size
  replace lt_b5 := Nat.lt_of_lt_of_le lt_b5 hn.size
  replace lt_b6 := Nat.lt_of_lt_of_le lt_b6 hn.size
  replace lt_b7 := Nat.lt_of_lt_of_le lt_b7 hn.size
  replace lt_b8 := Nat.lt_of_lt_of_le lt_b8 hn.size
  replace ha1 := ha1.bl hn; replace ha2 := ha2.bl hn; replace hq1 := hq1.bl hn; replace hq2 := hq2.bl hn; replace x_b1 := x_b1.bl hn; replace x_b2 := x_b2.bl hn; replace d1 := d1.bl hn; replace d2 := d2.bl hn; replace s1 := s1.bl hn; replace s2 := s2.bl hn; replace t1 := t1.bl hn; replace t2 := t2.bl hn; replace x_b3 := x_b3.bl hn; replace x_b4 := x_b4.bl hn; replace x_b5 := x_b5.bl hn; replace e1 := e1.bl hn; replace e2 := e2.bl hn; replace j1 := j1.bl hn; replace j2 := j2.bl hn; replace o1 := o1.bl hn; replace o2 := o2.bl hn; replace x_b6 := x_b6.bl hn; replace x_b7 := x_b7.bl hn; replace x_b8 := x_b8.bl hn; replace hb := hb.trans (hn.mono hb.size)
  clear hn
  have kb0 := hb.size
  refine ⟨⟨x_b1.cell 0 rfl, x_b1.cell 1 rfl, x_b1.cell 2 rfl, x_b1.cell 3 rfl, x_b2.cell 0 rfl, x_b2.cell 1 rfl, x_b2.cell 2 rfl, x_b2.cell 3 rfl, x_b6.cell 0 rfl, x_b6.cell 1 rfl, x_b6.cell 2 rfl, x_b6.cell 3 rfl, x_b3.cell 0 rfl, x_b3.cell 1 rfl, x_b3.cell 2 rfl, x_b3.cell 3 rfl, x_b4.cell 0 rfl, x_b4.cell 1 rfl, x_b4.cell 2 rfl, x_b4.cell 3 rfl, x_b7.cell 0 rfl, x_b7.cell 1 rfl, x_b7.cell 2 rfl, x_b7.cell 3 rfl, x_b5.cell 0 rfl, x_b5.cell 1 rfl, x_b5.cell 2 rfl, x_b5.cell 3 rfl, x_b8.cell 0 rfl, x_b8.cell 1 rfl, x_b8.cell 2 rfl, x_b8.cell 3 rfl⟩, ?_⟩
  have Le1 := hide (e1.lenOf (LD.out.1))
  have Le2 := hide (e2.lenOf (LD.out.2))
  have Lj1 := hide (j1.lenOf (LS.out.1))
  have Lj2 := hide (j2.lenOf (LS.out.2))
  have Lo1 := hide (o1.lenOf (LT.out.1))
  have Lo2 := hide (o2.lenOf (LT.out.2))
  refine wpFl_call rfl (by kernel_rfl) fun w_18 hn hC => ?_; clear hC
  replace ha1 := ha1.bl hn; replace ha2 := ha2.bl hn; replace hq1 := hq1.bl hn; replace hq2 := hq2.bl hn; replace x_b1 := x_b1.bl hn; replace x_b2 := x_b2.bl hn; replace d1 := d1.bl hn; replace d2 := d2.bl hn; replace s1 := s1.bl hn; replace s2 := s2.bl hn; replace t1 := t1.bl hn; replace t2 := t2.bl hn; replace x_b3 := x_b3.bl hn; replace x_b4 := x_b4.bl hn; replace x_b5 := x_b5.bl hn; replace e1 := e1.bl hn; replace e2 := e2.bl hn; replace j1 := j1.bl hn; replace j2 := j2.bl hn; replace o1 := o1.bl hn; replace o2 := o2.bl hn; replace x_b6 := x_b6.bl hn; replace x_b7 := x_b7.bl hn; replace x_b8 := x_b8.bl hn; replace hb := hb.trans (hn.mono hb.size)
  clear hn; intro K hK
  go_big_op
  go_fit (gawake_any _ (htabs _ hb))
  rintro e w_19 ⟨rfl, hb_19⟩
  replace ha1 := ha1.bl hb_19; replace ha2 := ha2.bl hb_19; replace hq1 := hq1.bl hb_19; replace hq2 := hq2.bl hb_19; replace x_b1 := x_b1.bl hb_19; replace x_b2 := x_b2.bl hb_19; replace d1 := d1.bl hb_19; replace d2 := d2.bl hb_19; replace s1 := s1.bl hb_19; replace s2 := s2.bl hb_19; replace t1 := t1.bl hb_19; replace t2 := t2.bl hb_19; replace x_b3 := x_b3.bl hb_19; replace x_b4 := x_b4.bl hb_19; replace x_b5 := x_b5.bl hb_19; replace e1 := e1.bl hb_19; replace e2 := e2.bl hb_19; replace j1 := j1.bl hb_19; replace j2 := j2.bl hb_19; replace o1 := o1.bl hb_19; replace o2 := o2.bl hb_19; replace x_b6 := x_b6.bl hb_19; replace x_b7 := x_b7.bl hb_19; replace x_b8 := x_b8.bl hb_19; replace hb := hb.trans (hb_19.mono hb.size)
  refine hK _ _ rfl hb_19 ⟨x_b1.cell 0 rfl, x_b1.cell 1 rfl, x_b1.cell 2 rfl, x_b1.cell 3 rfl, x_b2.cell 0 rfl, x_b2.cell 1 rfl, x_b2.cell 2 rfl, x_b2.cell 3 rfl, x_b6.cell 0 rfl, x_b6.cell 1 rfl, x_b6.cell 2 rfl, x_b6.cell 3 rfl, x_b3.cell 0 rfl, x_b3.cell 1 rfl, x_b3.cell 2 rfl, x_b3.cell 3 rfl, x_b4.cell 0 rfl, x_b4.cell 1 rfl, x_b4.cell 2 rfl, x_b4.cell 3 rfl, x_b7.cell 0 rfl, x_b7.cell 1 rfl, x_b7.cell 2 rfl, x_b7.cell 3 rfl, x_b5.cell 0 rfl, x_b5.cell 1 rfl, x_b5.cell 2 rfl, x_b5.cell 3 rfl, x_b8.cell 0 rfl, x_b8.cell 1 rfl, x_b8.cell 2 rfl, x_b8.cell 3 rfl⟩ ?_
  clear hK K hb_19
  apply wpFl_ld rfl rfl; (case h1 => intro w' hC K hK; go_big_move; exact hK); iterate 4 kernel_rfl
  apply wpFl_ld rfl rfl; (case h1 => intro w' hC K hK; obtain ⟨c0, c1, c2, c3⟩ := hC; go_big_op; exact hK); iterate 4 kernel_rfl
  apply wpFl_ld rfl rfl; (case h1 => intro w' hC K hK; obtain ⟨c0, c1, c2, c3⟩ := hC; go_big_op; exact hK); iterate 4 kernel_rfl
  apply wpFl_ld rfl rfl; (case h1 => intro w' hC K hK; obtain ⟨c0, c1, c2, c3⟩ := hC; go_big_op; exact hK); iterate 4 kernel_rfl
  refine wpFl_call rfl (by kernel_rfl) fun w_20 hn hC => ?_; clear hC
  replace ha1 := ha1.bl hn; replace ha2 := ha2.bl hn; replace hq1 := hq1.bl hn; replace hq2 := hq2.bl hn; replace x_b1 := x_b1.bl hn; replace x_b2 := x_b2.bl hn; replace d1 := d1.bl hn; replace d2 := d2.bl hn; replace s1 := s1.bl hn; replace s2 := s2.bl hn; replace t1 := t1.bl hn; replace t2 := t2.bl hn; replace x_b3 := x_b3.bl hn; replace x_b4 := x_b4.bl hn; replace x_b5 := x_b5.bl hn; replace e1 := e1.bl hn; replace e2 := e2.bl hn; replace j1 := j1.bl hn; replace j2 := j2.bl hn; replace o1 := o1.bl hn; replace o2 := o2.bl hn; replace x_b6 := x_b6.bl hn; replace x_b7 := x_b7.bl hn; replace x_b8 := x_b8.bl hn; replace hb := hb.trans (hn.mono hb.size)
  clear hn; intro K hK
  go_big_op
  go_fit (ggcd_any (L := 1048576) (PN.mk' ha1 ha2) (PN.mk' hq1 hq2) (by decide))
  rintro e w_21 ⟨_, rfl, ⟨n_ma, o_ma, k_ma, c_ma, n_mb, o_mb, k_mb, c_mb, rfl, m1, m2⟩, hb_21⟩
  replace ha1 := ha1.bl hb_21; replace ha2 := ha2.bl hb_21; replace hq1 := hq1.bl hb_21; replace hq2 := hq2.bl hb_21; replace x_b1 := x_b1.bl hb_21; replace x_b2 := x_b2.bl hb_21; replace d1 := d1.bl hb_21; replace d2 := d2.bl hb_21; replace s1 := s1.bl hb_21; replace s2 := s2.bl hb_21; replace t1 := t1.bl hb_21; replace t2 := t2.bl hb_21; replace x_b3 := x_b3.bl hb_21; replace x_b4 := x_b4.bl hb_21; replace x_b5 := x_b5.bl hb_21; replace e1 := e1.bl hb_21; replace e2 := e2.bl hb_21; replace j1 := j1.bl hb_21; replace j2 := j2.bl hb_21; replace o1 := o1.bl hb_21; replace o2 := o2.bl hb_21; replace x_b6 := x_b6.bl hb_21; replace x_b7 := x_b7.bl hb_21; replace x_b8 := x_b8.bl hb_21; replace hb := hb.trans (hb_21.mono hb.size)
  rw [HF.out, EQ.out.1.1] at m1
  rw [HF.out, EQ.out.1.2] at m2
  refine hK _ _ rfl hb_21 ⟨x_b1.cell 0 rfl, x_b1.cell 1 rfl, x_b1.cell 2 rfl, x_b1.cell 3 rfl, x_b2.cell 0 rfl, x_b2.cell 1 rfl, x_b2.cell 2 rfl, x_b2.cell 3 rfl, x_b6.cell 0 rfl, x_b6.cell 1 rfl, x_b6.cell 2 rfl, x_b6.cell 3 rfl, x_b3.cell 0 rfl, x_b3.cell 1 rfl, x_b3.cell 2 rfl, x_b3.cell 3 rfl, x_b4.cell 0 rfl, x_b4.cell 1 rfl, x_b4.cell 2 rfl, x_b4.cell 3 rfl, x_b7.cell 0 rfl, x_b7.cell 1 rfl, x_b7.cell 2 rfl, x_b7.cell 3 rfl, x_b5.cell 0 rfl, x_b5.cell 1 rfl, x_b5.cell 2 rfl, x_b5.cell 3 rfl, x_b8.cell 0 rfl, x_b8.cell 1 rfl, x_b8.cell 2 rfl, x_b8.cell 3 rfl⟩ ?_
  clear hK K hb_21
  refine wpFl_call rfl (by kernel_rfl) fun w_22 hn hC => ?_; clear hC
  replace ha1 := ha1.bl hn; replace ha2 := ha2.bl hn; replace hq1 := hq1.bl hn; replace hq2 := hq2.bl hn; replace x_b1 := x_b1.bl hn; replace x_b2 := x_b2.bl hn; replace d1 := d1.bl hn; replace d2 := d2.bl hn; replace s1 := s1.bl hn; replace s2 := s2.bl hn; replace t1 := t1.bl hn; replace t2 := t2.bl hn; replace x_b3 := x_b3.bl hn; replace x_b4 := x_b4.bl hn; replace x_b5 := x_b5.bl hn; replace e1 := e1.bl hn; replace e2 := e2.bl hn; replace j1 := j1.bl hn; replace j2 := j2.bl hn; replace o1 := o1.bl hn; replace o2 := o2.bl hn; replace x_b6 := x_b6.bl hn; replace x_b7 := x_b7.bl hn; replace x_b8 := x_b8.bl hn; replace m1 := m1.bl hn; replace m2 := m2.bl hn; replace hb := hb.trans (hn.mono hb.size)
  clear hn; intro K hK
  go_big_op
  go_fit (gis_any (PC.mk' m1 m2) (PN.mk' (e1.zn Le1.out) (e2.zn Le2.out)) (by omega) (by omega) )
  rintro e w_23 ⟨rfl, hb_23⟩
  replace ha1 := ha1.bl hb_23; replace ha2 := ha2.bl hb_23; replace hq1 := hq1.bl hb_23; replace hq2 := hq2.bl hb_23; replace x_b1 := x_b1.bl hb_23; replace x_b2 := x_b2.bl hb_23; replace d1 := d1.bl hb_23; replace d2 := d2.bl hb_23; replace s1 := s1.bl hb_23; replace s2 := s2.bl hb_23; replace t1 := t1.bl hb_23; replace t2 := t2.bl hb_23; replace x_b3 := x_b3.bl hb_23; replace x_b4 := x_b4.bl hb_23; replace x_b5 := x_b5.bl hb_23; replace e1 := e1.bl hb_23; replace e2 := e2.bl hb_23; replace j1 := j1.bl hb_23; replace j2 := j2.bl hb_23; replace o1 := o1.bl hb_23; replace o2 := o2.bl hb_23; replace x_b6 := x_b6.bl hb_23; replace x_b7 := x_b7.bl hb_23; replace x_b8 := x_b8.bl hb_23; replace m1 := m1.bl hb_23; replace m2 := m2.bl hb_23; replace hb := hb.trans (hb_23.mono hb.size)
  refine hK _ _ rfl hb_23 ⟨x_b1.cell 0 rfl, x_b1.cell 1 rfl, x_b1.cell 2 rfl, x_b1.cell 3 rfl, x_b2.cell 0 rfl, x_b2.cell 1 rfl, x_b2.cell 2 rfl, x_b2.cell 3 rfl, x_b6.cell 0 rfl, x_b6.cell 1 rfl, x_b6.cell 2 rfl, x_b6.cell 3 rfl, x_b3.cell 0 rfl, x_b3.cell 1 rfl, x_b3.cell 2 rfl, x_b3.cell 3 rfl, x_b4.cell 0 rfl, x_b4.cell 1 rfl, x_b4.cell 2 rfl, x_b4.cell 3 rfl, x_b7.cell 0 rfl, x_b7.cell 1 rfl, x_b7.cell 2 rfl, x_b7.cell 3 rfl, x_b5.cell 0 rfl, x_b5.cell 1 rfl, x_b5.cell 2 rfl, x_b5.cell 3 rfl, x_b8.cell 0 rfl, x_b8.cell 1 rfl, x_b8.cell 2 rfl, x_b8.cell 3 rfl⟩ ?_
  clear hK K hb_23
  apply wpFl_ld rfl rfl; (case h1 => intro w' hC K hK; go_big_op; exact hK); iterate 4 kernel_rfl
  apply wpFl_ld rfl rfl; (case h1 => intro w' hC K hK; go_big_move; exact hK); iterate 4 kernel_rfl
  apply wpFl_ld rfl rfl; (case h1 => intro w' hC K hK; obtain ⟨c0, c1, c2, c3⟩ := hC; go_big_op; exact hK); iterate 4 kernel_rfl
  apply wpFl_ld rfl rfl; (case h1 => intro w' hC K hK; obtain ⟨c0, c1, c2, c3⟩ := hC; go_big_op; exact hK); iterate 4 kernel_rfl
  refine wpFl_call rfl (by kernel_rfl) fun w_24 hn hC => ?_; clear hC
  clear m1 m2
  replace ha1 := ha1.bl hn; replace ha2 := ha2.bl hn; replace hq1 := hq1.bl hn; replace hq2 := hq2.bl hn; replace x_b1 := x_b1.bl hn; replace x_b2 := x_b2.bl hn; replace d1 := d1.bl hn; replace d2 := d2.bl hn; replace s1 := s1.bl hn; replace s2 := s2.bl hn; replace t1 := t1.bl hn; replace t2 := t2.bl hn; replace x_b3 := x_b3.bl hn; replace x_b4 := x_b4.bl hn; replace x_b5 := x_b5.bl hn; replace e1 := e1.bl hn; replace e2 := e2.bl hn; replace j1 := j1.bl hn; replace j2 := j2.bl hn; replace o1 := o1.bl hn; replace o2 := o2.bl hn; replace x_b6 := x_b6.bl hn; replace x_b7 := x_b7.bl hn; replace x_b8 := x_b8.bl hn; replace hb := hb.trans (hn.mono hb.size)
  clear hn; intro K hK
  go_big_op
  go_fit (gis_any (PC.mk' d1 d2) (PN.mk' (e1.zn Le1.out) (e2.zn Le2.out)) (by omega) (by omega) )
  rintro e w_25 ⟨rfl, hb_25⟩
  replace ha1 := ha1.bl hb_25; replace ha2 := ha2.bl hb_25; replace hq1 := hq1.bl hb_25; replace hq2 := hq2.bl hb_25; replace x_b1 := x_b1.bl hb_25; replace x_b2 := x_b2.bl hb_25; replace d1 := d1.bl hb_25; replace d2 := d2.bl hb_25; replace s1 := s1.bl hb_25; replace s2 := s2.bl hb_25; replace t1 := t1.bl hb_25; replace t2 := t2.bl hb_25; replace x_b3 := x_b3.bl hb_25; replace x_b4 := x_b4.bl hb_25; replace x_b5 := x_b5.bl hb_25; replace e1 := e1.bl hb_25; replace e2 := e2.bl hb_25; replace j1 := j1.bl hb_25; replace j2 := j2.bl hb_25; replace o1 := o1.bl hb_25; replace o2 := o2.bl hb_25; replace x_b6 := x_b6.bl hb_25; replace x_b7 := x_b7.bl hb_25; replace x_b8 := x_b8.bl hb_25; replace hb := hb.trans (hb_25.mono hb.size)
  refine hK _ _ rfl hb_25 ⟨x_b1.cell 0 rfl, x_b1.cell 1 rfl, x_b1.cell 2 rfl, x_b1.cell 3 rfl, x_b2.cell 0 rfl, x_b2.cell 1 rfl, x_b2.cell 2 rfl, x_b2.cell 3 rfl, x_b6.cell 0 rfl, x_b6.cell 1 rfl, x_b6.cell 2 rfl, x_b6.cell 3 rfl, x_b3.cell 0 rfl, x_b3.cell 1 rfl, x_b3.cell 2 rfl, x_b3.cell 3 rfl, x_b4.cell 0 rfl, x_b4.cell 1 rfl, x_b4.cell 2 rfl, x_b4.cell 3 rfl, x_b7.cell 0 rfl, x_b7.cell 1 rfl, x_b7.cell 2 rfl, x_b7.cell 3 rfl, x_b5.cell 0 rfl, x_b5.cell 1 rfl, x_b5.cell 2 rfl, x_b5.cell 3 rfl, x_b8.cell 0 rfl, x_b8.cell 1 rfl, x_b8.cell 2 rfl, x_b8.cell 3 rfl⟩ ?_
  clear hK K hb_25
  apply wpFl_ld rfl rfl; (case h1 => intro w' hC K hK; go_big_op; exact hK); iterate 4 kernel_rfl
  apply wpFl_ld rfl rfl; (case h1 => intro w' hC K hK; go_big_move; exact hK); iterate 4 kernel_rfl
  apply wpFl_ld rfl rfl; (case h1 => intro w' hC K hK; obtain ⟨c0, c1, c2, c3⟩ := hC; go_big_op; exact hK); iterate 4 kernel_rfl
  apply wpFl_ld rfl rfl; (case h1 => intro w' hC K hK; obtain ⟨c0, c1, c2, c3⟩ := hC; go_big_op; exact hK); iterate 4 kernel_rfl
  refine wpFl_call rfl (by kernel_rfl) fun w_26 hn hC => ?_; clear hC
  replace ha1 := ha1.bl hn; replace ha2 := ha2.bl hn; replace hq1 := hq1.bl hn; replace hq2 := hq2.bl hn; replace x_b1 := x_b1.bl hn; replace x_b2 := x_b2.bl hn; replace d1 := d1.bl hn; replace d2 := d2.bl hn; replace s1 := s1.bl hn; replace s2 := s2.bl hn; replace t1 := t1.bl hn; replace t2 := t2.bl hn; replace x_b3 := x_b3.bl hn; replace x_b4 := x_b4.bl hn; replace x_b5 := x_b5.bl hn; replace e1 := e1.bl hn; replace e2 := e2.bl hn; replace j1 := j1.bl hn; replace j2 := j2.bl hn; replace o1 := o1.bl hn; replace o2 := o2.bl hn; replace x_b6 := x_b6.bl hn; replace x_b7 := x_b7.bl hn; replace x_b8 := x_b8.bl hn; replace hb := hb.trans (hn.mono hb.size)
  clear hn; intro K hK
  go_big_op
  go_fit (gis_any (PC.mk' s1 s2) (PN.mk' (j1.zn Lj1.out) (j2.zn Lj2.out)) (by omega) (by omega) )
  rintro e w_27 ⟨rfl, hb_27⟩
  replace ha1 := ha1.bl hb_27; replace ha2 := ha2.bl hb_27; replace hq1 := hq1.bl hb_27; replace hq2 := hq2.bl hb_27; replace x_b1 := x_b1.bl hb_27; replace x_b2 := x_b2.bl hb_27; replace d1 := d1.bl hb_27; replace d2 := d2.bl hb_27; replace s1 := s1.bl hb_27; replace s2 := s2.bl hb_27; replace t1 := t1.bl hb_27; replace t2 := t2.bl hb_27; replace x_b3 := x_b3.bl hb_27; replace x_b4 := x_b4.bl hb_27; replace x_b5 := x_b5.bl hb_27; replace e1 := e1.bl hb_27; replace e2 := e2.bl hb_27; replace j1 := j1.bl hb_27; replace j2 := j2.bl hb_27; replace o1 := o1.bl hb_27; replace o2 := o2.bl hb_27; replace x_b6 := x_b6.bl hb_27; replace x_b7 := x_b7.bl hb_27; replace x_b8 := x_b8.bl hb_27; replace hb := hb.trans (hb_27.mono hb.size)
  refine hK _ _ rfl hb_27 ⟨x_b1.cell 0 rfl, x_b1.cell 1 rfl, x_b1.cell 2 rfl, x_b1.cell 3 rfl, x_b2.cell 0 rfl, x_b2.cell 1 rfl, x_b2.cell 2 rfl, x_b2.cell 3 rfl, x_b6.cell 0 rfl, x_b6.cell 1 rfl, x_b6.cell 2 rfl, x_b6.cell 3 rfl, x_b3.cell 0 rfl, x_b3.cell 1 rfl, x_b3.cell 2 rfl, x_b3.cell 3 rfl, x_b4.cell 0 rfl, x_b4.cell 1 rfl, x_b4.cell 2 rfl, x_b4.cell 3 rfl, x_b7.cell 0 rfl, x_b7.cell 1 rfl, x_b7.cell 2 rfl, x_b7.cell 3 rfl, x_b5.cell 0 rfl, x_b5.cell 1 rfl, x_b5.cell 2 rfl, x_b5.cell 3 rfl, x_b8.cell 0 rfl, x_b8.cell 1 rfl, x_b8.cell 2 rfl, x_b8.cell 3 rfl⟩ ?_
  clear hK K hb_27
  apply wpFl_ld rfl rfl; (case h1 => intro w' hC K hK; go_big_op; exact hK); iterate 4 kernel_rfl
  apply wpFl_ld rfl rfl; (case h1 => intro w' hC K hK; go_big_move; exact hK); iterate 4 kernel_rfl
  apply wpFl_ld rfl rfl; (case h1 => intro w' hC K hK; obtain ⟨c0, c1, c2, c3⟩ := hC; go_big_op; exact hK); iterate 4 kernel_rfl
  apply wpFl_ld rfl rfl; (case h1 => intro w' hC K hK; obtain ⟨c0, c1, c2, c3⟩ := hC; go_big_op; exact hK); iterate 4 kernel_rfl
  refine wpFl_call rfl (by kernel_rfl) fun w_28 hn hC => ?_; clear hC
  replace ha1 := ha1.bl hn; replace ha2 := ha2.bl hn; replace hq1 := hq1.bl hn; replace hq2 := hq2.bl hn; replace x_b1 := x_b1.bl hn; replace x_b2 := x_b2.bl hn; replace d1 := d1.bl hn; replace d2 := d2.bl hn; replace s1 := s1.bl hn; replace s2 := s2.bl hn; replace t1 := t1.bl hn; replace t2 := t2.bl hn; replace x_b3 := x_b3.bl hn; replace x_b4 := x_b4.bl hn; replace x_b5 := x_b5.bl hn; replace e1 := e1.bl hn; replace e2 := e2.bl hn; replace j1 := j1.bl hn; replace j2 := j2.bl hn; replace o1 := o1.bl hn; replace o2 := o2.bl hn; replace x_b6 := x_b6.bl hn; replace x_b7 := x_b7.bl hn; replace x_b8 := x_b8.bl hn; replace hb := hb.trans (hn.mono hb.size)
  clear hn; intro K hK
  go_big_op
  go_fit (gis_any (PC.mk' t1 t2) (PN.mk' (o1.zn Lo1.out) (o2.zn Lo2.out)) (by omega) (by omega) )
  rintro e w_29 ⟨rfl, hb_29⟩
  replace ha1 := ha1.bl hb_29; replace ha2 := ha2.bl hb_29; replace hq1 := hq1.bl hb_29; replace hq2 := hq2.bl hb_29; replace x_b1 := x_b1.bl hb_29; replace x_b2 := x_b2.bl hb_29; replace d1 := d1.bl hb_29; replace d2 := d2.bl hb_29; replace s1 := s1.bl hb_29; replace s2 := s2.bl hb_29; replace t1 := t1.bl hb_29; replace t2 := t2.bl hb_29; replace x_b3 := x_b3.bl hb_29; replace x_b4 := x_b4.bl hb_29; replace x_b5 := x_b5.bl hb_29; replace e1 := e1.bl hb_29; replace e2 := e2.bl hb_29; replace j1 := j1.bl hb_29; replace j2 := j2.bl hb_29; replace o1 := o1.bl hb_29; replace o2 := o2.bl hb_29; replace x_b6 := x_b6.bl hb_29; replace x_b7 := x_b7.bl hb_29; replace x_b8 := x_b8.bl hb_29; replace hb := hb.trans (hb_29.mono hb.size)
  refine hK _ _ rfl hb_29 ⟨x_b1.cell 0 rfl, x_b1.cell 1 rfl, x_b1.cell 2 rfl, x_b1.cell 3 rfl, x_b2.cell 0 rfl, x_b2.cell 1 rfl, x_b2.cell 2 rfl, x_b2.cell 3 rfl, x_b6.cell 0 rfl, x_b6.cell 1 rfl, x_b6.cell 2 rfl, x_b6.cell 3 rfl, x_b3.cell 0 rfl, x_b3.cell 1 rfl, x_b3.cell 2 rfl, x_b3.cell 3 rfl, x_b4.cell 0 rfl, x_b4.cell 1 rfl, x_b4.cell 2 rfl, x_b4.cell 3 rfl, x_b7.cell 0 rfl, x_b7.cell 1 rfl, x_b7.cell 2 rfl, x_b7.cell 3 rfl, x_b5.cell 0 rfl, x_b5.cell 1 rfl, x_b5.cell 2 rfl, x_b5.cell 3 rfl, x_b8.cell 0 rfl, x_b8.cell 1 rfl, x_b8.cell 2 rfl, x_b8.cell 3 rfl⟩ ?_
  clear hK K hb_29
  apply wpFl_ld rfl rfl; (case h1 => intro w' hC K hK; go_big_op; exact hK); iterate 4 kernel_rfl
  apply wpFl_ld rfl rfl; (case h1 => intro w' hC K hK; go_big_move; exact hK); iterate 4 kernel_rfl
  apply wpFl_end
  case ha => intro pt; simp only [putF]; rfl
  case h =>
  intro w_30 pt hn hC hF hD
  clear hC
  replace ha1 := ha1.bl hn; replace ha2 := ha2.bl hn; replace hq1 := hq1.bl hn; replace hq2 := hq2.bl hn; replace x_b1 := x_b1.bl hn; replace x_b2 := x_b2.bl hn; replace d1 := d1.bl hn; replace d2 := d2.bl hn; replace s1 := s1.bl hn; replace s2 := s2.bl hn; replace t1 := t1.bl hn; replace t2 := t2.bl hn; replace x_b3 := x_b3.bl hn; replace x_b4 := x_b4.bl hn; replace x_b5 := x_b5.bl hn; replace e1 := e1.bl hn; replace e2 := e2.bl hn; replace j1 := j1.bl hn; replace j2 := j2.bl hn; replace o1 := o1.bl hn; replace o2 := o2.bl hn; replace x_b6 := x_b6.bl hn; replace x_b7 := x_b7.bl hn; replace x_b8 := x_b8.bl hn; replace hb := hb.trans (hn.mono hb.size)
  clear hn
  clear hF hD
  clear pt
  clear kb0 lt_b1 lt_b2 lt_b3 lt_b4 lt_b5 lt_b6 lt_b7 lt_b8
  apply wpTail_end
  refine hK4 _ _ ?_
  refine wp_ret ?_
  try dsimp only [Exit.then, Exit.inBlock]
  refine bodyPost_ret (v := (.bool true)) (by simp [results, Tryz.results4, go_sem]) rfl ?_
  exact ⟨rfl, hb⟩
end
theorem walk_GintGcds (w : World) (n1 : Bool) (s1 : Value) (xs : List Nat) (h1 : Rd w s1 xs) (l1 : xs.length ≤ 1048576) (n2 : Bool) (s2 : Value) (ys : List Nat) (h2 : Rd w s2 ys) (l2 : ys.length ≤ 1048576)
    (n3 : Bool) (s3 : Value) (us : List Nat) (h3 : Rd w s3 us) (l3 : us.length ≤ 1048576) (n4 : Bool) (s4 : Value) (vs : List Nat) (h4 : Rd w s4 vs) (l4 : vs.length ≤ 1048576) (htab : Lib.TabIs Tryz.prog w p10 .u64 Lib.pow10Tab) :
    Calls Tryz.prog 4 #[.agg #[.bool n1, s1, .bool n2, s2], .agg #[.bool n3, s3, .bool n4, s4]] w fun e w' => e = .returned (.bool true) ∧ Below w.heap.size w w' :=
  ggcds_any (PN.of_rd n1 n2 h1 l1 h2 l2) (PN.of_rd n3 n4 h3 l3 h4 l4) htab
end Go.Proofs.YtgjainmfilkjmaaGreatDoor
