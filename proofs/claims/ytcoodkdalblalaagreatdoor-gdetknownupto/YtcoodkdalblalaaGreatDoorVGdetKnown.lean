/- The walk of GdetKnown. -/
import Derived.Test.YtcoodkdalblalaaGreatDoorWmToKy
namespace Go.Proofs.YtcoodkdalblalaaGreatDoor
open Go Go.RowKit Dig
set_option linter.unusedVariables false
set_option linter.unusedSimpArgs false
set_option maxHeartbeats 8000000 in
set_option maxRecDepth 20000 in
theorem walk_GdetKnown (w : World) (htab : Lib.TabIs Tryz.prog w p10 .u64 Lib.pow10Tab) :
    Calls Tryz.prog 3 #[] w fun e w' => e = .returned (.bool true) ∧ Below w.heap.size w w' := by
  have htabs := Lib.tabBelow_of_tabIs htab
  go_enter Tryz.func3, Tryz.ntmps3
  have hs := St.nil w
  refine wp_seq_k ?_
  intro K1 hK1
  refine rg [0] ?_
  refine sq ?_
  refine .mv ?_
  apply wpSq_end
  refine hK1 _ _ ?_
  refine wp_seq_k ?_
  intro K2 hK2
  refine rg [0, 1, 2, 3, 4, 5, 6, 7] ?_
  refine sq ?_
  intro K hK
  go_big_op
  go_fit (g9_any (1) (0) _ (by decide) (by decide) (by decide) (by decide))
  rintro e w_1 ⟨_, rfl, ⟨n_aa, o_aa, k_aa, c_aa, n_ab, o_ab, k_ab, c_ab, rfl, a1, a2⟩, hb_1⟩
  replace hs := hs.bl hb_1
  have La1 := hide (a1.lenOf (zlen_small8 (z := 1) (by decide)))
  have La2 := hide (a2.lenOf (zlen_small8 (z := 0) (by decide)))
  refine hK _ _ rfl trivial ?_
  clear hK K
  refine sq ?_
  intro K hK
  go_big_op
  go_fit (g9_any (0) (1) _ (by decide) (by decide) (by decide) (by decide))
  rintro e w_2 ⟨_, rfl, ⟨n_ba, o_ba, k_ba, c_ba, n_bb, o_bb, k_bb, c_bb, rfl, b1, b2⟩, hb_2⟩
  replace hs := hs.bl hb_2
  have Lb1 := hide (b1.lenOf (zlen_small8 (z := 0) (by decide)))
  have Lb2 := hide (b2.lenOf (zlen_small8 (z := 1) (by decide)))
  refine hK _ _ rfl trivial ?_
  clear hK K
  refine sq ?_
  refine .al hs ?_; clear hs; intro p_b1 w_3 hs n3 kb_b1
  refine sq ?_
  intro K hK
  go_big_op
  go_fit (g9_any (0) (1) _ (by decide) (by decide) (by decide) (by decide))
  rintro e w_4 ⟨_, rfl, ⟨n_ca, o_ca, k_ca, c_ca, n_cb, o_cb, k_cb, c_cb, rfl, c1, c2⟩, hb_4⟩
  replace hs := hs.bl hb_4
  have Lc1 := hide (c1.lenOf (zlen_small8 (z := 0) (by decide)))
  have Lc2 := hide (c2.lenOf (zlen_small8 (z := 1) (by decide)))
  refine hK _ _ rfl trivial ?_
  clear hK K
  refine sq ?_
  intro K hK
  go_big_op
  go_fit (g9_any (-1) (0) _ (by decide) (by decide) (by decide) (by decide))
  rintro e w_5 ⟨_, rfl, ⟨n_da, o_da, k_da, c_da, n_db, o_db, k_db, c_db, rfl, d1, d2⟩, hb_5⟩
  replace hs := hs.bl hb_5
  have Ld1 := hide (d1.lenOf (zlen_small8 (z := -1) (by decide)))
  have Ld2 := hide (d2.lenOf (zlen_small8 (z := 0) (by decide)))
  refine hK _ _ rfl trivial ?_
  clear hK K
  refine sq ?_
  refine .al hs ?_; clear hs; intro p_b2 w_6 hs n6 kb_b2
  refine sq ?_
  refine .al hs ?_; clear hs; intro p_b3 w_7 hs n7 kb_b3
  refine sq ?_
  refine .mv ?_
  apply wpSq_end
  refine hK2 _ _ ?_
  refine wp_seq_k ?_
  intro K3 hK3
  refine rg [0, 1, 2, 3, 4, 5, 6] ?_
  refine sq ?_
  intro K hK
  go_big_op
  go_fit (det_ok (A := []) (la := 1) (.inl rfl) rfl gd_0 rfl minB_0 (by decide) (by decide))
  rintro e w_8 ⟨_, rfl, ⟨n_ta, o_ta, k_ta, c_ta, n_tb, o_tb, k_tb, c_tb, rfl, t1, t2⟩, hb_8⟩
  replace hs := hs.bl hb_8
  refine hK _ _ rfl trivial ?_
  clear hK K
  refine sq ?_
  refine .mv ?_
  refine sq ?_
  refine .r0 ?_
  refine sq ?_
  refine .r0 ?_
  refine sq ?_
  refine .al hs ?_; clear hs; intro p_b4 w_9 hs n9 kb_b4
  refine sq ?_
  refine .s4 hs.g0 (fun _ => hs.u0 kb_b4) ?_; clear hs; intro w_10 hs hd10 ho10
  refine sq ?_
  refine .mv ?_
  apply wpSq_end
  refine hK3 _ _ ?_
  refine wp_seq_k ?_
  intro K4 hK4
  refine rg [0, 1, 2, 3, 4, 5, 6, 7, 8, 9, 10] ?_
  refine sq ?_
  intro K hK
  go_big_op
  go_fit (g9_any (1) (0) _ (by decide) (by decide) (by decide) (by decide))
  rintro e w_11 ⟨_, rfl, ⟨n_ga, o_ga, k_ga, c_ga, n_gb, o_gb, k_gb, c_gb, rfl, g1, g2⟩, hb_11⟩
  replace hs := hs.bl hb_11
  have Lg1 := hide (g1.lenOf (zlen_small8 (z := 1) (by decide)))
  have Lg2 := hide (g2.lenOf (zlen_small8 (z := 0) (by decide)))
  refine hK _ _ rfl trivial ?_
  clear hK K
  refine sq ?_
  intro K hK
  go_big_op
  go_fit (g9_any (2) (0) _ (by decide) (by decide) (by decide) (by decide))
  rintro e w_12 ⟨_, rfl, ⟨n_ha, o_ha, k_ha, c_ha, n_hb, o_hb, k_hb, c_hb, rfl, h1, h2⟩, hb_12⟩
  replace hs := hs.bl hb_12
  have Lh1 := hide (h1.lenOf (zlen_small8 (z := 2) (by decide)))
  have Lh2 := hide (h2.lenOf (zlen_small8 (z := 0) (by decide)))
  refine hK _ _ rfl trivial ?_
  clear hK K
  refine sq ?_
  refine .al hs ?_; clear hs; intro p_b5 w_13 hs n13 kb_b5
  refine sq ?_
  refine .al hs ?_; clear hs; intro p_b6 w_14 hs n14 kb_b6
  refine sq ?_
  intro K hK
  have k11_14 := ((kb hb_12).b n13).b n14
  replace g1 := g1.k k11_14
  replace g2 := g2.k k11_14
  have k12_14 := (kb n13).b n14
  replace h1 := h1.k k12_14
  replace h2 := h2.k k12_14
  go_big_op
  go_fit (det_bad (A := [[(1, 0), (2, 0)]]) (la := 1) ((mc1 hs.g0 (sc2 hs.g1 g1 g2 h1 h2)).mn (bd_small (by decide))) rfl (fun c ↦ absurd c.2 (by decide)) (by decide))
  rintro e w_15 ⟨rfl, hb_15⟩
  replace hs := hs.bl hb_15
  refine hK _ _ rfl trivial ?_
  clear hK K
  refine sq ?_
  refine .mv ?_
  refine sq ?_
  refine .r0 ?_
  refine sq ?_
  refine .r0 ?_
  refine sq ?_
  refine .al hs ?_; clear hs; intro p_b7 w_16 hs n16 kb_b7
  refine sq ?_
  refine .s4 hs.g0 (fun _ => hs.u0 kb_b7) ?_; clear hs; intro w_17 hs hd17 ho17
  refine sq ?_
  refine .mv ?_
  apply wpSq_end
  refine hK4 _ _ ?_
  refine wp_seq_k ?_
  intro K5 hK5
  refine rg [0, 1, 2, 3, 4, 5, 6] ?_
  refine sq ?_
  refine .mv ?_
  refine sq ?_
  intro K hK
  have k1_17 := (((((((((((((((kb hb_2).b n3).b hb_4).b hb_5).b n6).b n7).b hb_8).b n9).o hd10 ho10).b hb_11).b hb_12).b n13).b n14).b hb_15).b n16).o hd17 ho17
  replace a1 := a1.k k1_17
  replace a2 := a2.k k1_17
  have k2_17 := ((((((((((((((kb n3).b hb_4).b hb_5).b n6).b n7).b hb_8).b n9).o hd10 ho10).b hb_11).b hb_12).b n13).b n14).b hb_15).b n16).o hd17 ho17
  replace b1 := b1.k k2_17
  replace b2 := b2.k k2_17
  have k4_17 := ((((((((((((kb hb_5).b n6).b n7).b hb_8).b n9).o hd10 ho10).b hb_11).b hb_12).b n13).b n14).b hb_15).b n16).o hd17 ho17
  replace c1 := c1.k k4_17
  replace c2 := c2.k k4_17
  have k5_17 := (((((((((((kb n6).b n7).b hb_8).b n9).o hd10 ho10).b hb_11).b hb_12).b n13).b n14).b hb_15).b n16).o hd17 ho17
  replace d1 := d1.k k5_17
  replace d2 := d2.k k5_17
  go_big_op
  go_fit (rank_is (A := kH) ((mc2 hs.g4 (sc2 hs.g6 a1 a2 b1 b2) (sc2 hs.g5 c1 c2 d1 d2)).mn bd_H) rfl gd_H rfl minB_H (by decide) (by decide) rk_H)
  rintro e w_18 ⟨rfl, hb_18⟩
  replace hs := hs.bl hb_18
  refine hK _ _ rfl trivial ?_
  clear hK K
  refine sq ?_
  refine .mv ?_
  refine sq ?_
  refine .r0 ?_
  refine sq ?_
  refine .r0 ?_
  refine sq ?_
  refine .mv ?_
  refine sq ?_
  refine .mv ?_
  apply wpSq_end
  refine hK5 _ _ ?_
  refine wp_seq_k ?_
  intro K6 hK6
  refine rg [0, 1, 2, 3, 4, 5] ?_
  refine sq ?_
  intro K hK
  go_big_op
  go_fit (rank_is (A := []) (la := 1) (.inl rfl) rfl gd_0 rfl minB_0 (by decide) (by decide) rk_nil)
  rintro e w_19 ⟨rfl, hb_19⟩
  replace hs := hs.bl hb_19
  refine hK _ _ rfl trivial ?_
  clear hK K
  refine sq ?_
  refine .mv ?_
  refine sq ?_
  refine .r0 ?_
  refine sq ?_
  refine .r0 ?_
  refine sq ?_
  refine .mv ?_
  refine sq ?_
  refine .mv ?_
  apply wpSq_end
  refine hK6 _ _ ?_
  refine wp_seq_k ?_
  intro K7 hK7
  refine wp_seq_k ?_
  intro K8 hK8
  refine wp_region_f4 [(0, true), (1, false), (2, false), (3, false), (4, false), (5, true), (6, true), (7, false), (8, false), (9, false), (10, false), (11, false), (12, false), (13, false), (14, false), (15, false), (16, false), (17, false), (18, false), (19, false), (20, false), (21, false), (22, false), (23, false), (24, false), (25, false), (26, false), (27, false), (28, false)] [] [] (fun _ => default) [99, 99, 99, 0, 99, 99, 99, 99, 99, 99, 99, 99, 99, 99, 99, 99, 99, 99, 99, 99, 99, 99, 99, 99, 99, 99, 99, 99, 99] [] (.c hs.g3 .n) fn fun w_20 n20 => ?_
  replace hs := hs.bl n20
  refine fl fun w_21 n21 => ?_
  replace hs := hs.bl n21
  intro K hK
  go_big_op
  go_fit (awake9_any _)
  rintro e w_22 ⟨rfl, hb_22⟩
  replace hs := hs.bl hb_22
  refine hK _ _ rfl ⟨hb_22, (And.intro hs.g3 trivial)⟩ ?_
  clear hK K
  refine f0 ?_
  refine fmv ?_
  refine f4 ?_
  refine fmv ?_
  refine fl fun w_23 n23 => ?_
  replace hs := hs.bl n23
  intro K hK
  go_big_op
  go_fit (g9_any (1) (0) _ (by decide) (by decide) (by decide) (by decide))
  rintro e w_24 ⟨_, rfl, ⟨n_pa, o_pa, k_pa, c_pa, n_pb, o_pb, k_pb, c_pb, rfl, p1, p2⟩, hb_24⟩
  replace hs := hs.bl hb_24
  have Lp1 := hide (p1.lenOf (zlen_small8 (z := 1) (by decide)))
  have Lp2 := hide (p2.lenOf (zlen_small8 (z := 0) (by decide)))
  refine hK _ _ rfl ⟨hb_24, (And.intro hs.g3 trivial)⟩ ?_
  clear hK K
  refine fl fun w_25 n25 => ?_
  replace hs := hs.bl n25
  intro K hK
  have k8_25 := ((((((((((((((((kb n9).o hd10 ho10).b hb_11).b hb_12).b n13).b n14).b hb_15).b n16).o hd17 ho17).b hb_18).b hb_19).b n20).b n21).b hb_22).b n23).b hb_24).b n25
  replace t1 := t1.k k8_25
  replace t2 := t2.k k8_25
  have k24_25 := kb n25
  replace p1 := p1.k k24_25
  replace p2 := p2.k k24_25
  go_big_op
  go_fit (told9_yes (.mk' t1 t2) (.mk' (p1.zn Lp1.out) (p2.zn Lp2.out)) (by decide) (by decide))
  rintro e w_26 ⟨rfl, hb_26⟩
  replace hs := hs.bl hb_26
  refine hK _ _ rfl ⟨hb_26, (And.intro hs.g3 trivial)⟩ ?_
  clear hK K
  refine f0 ?_
  refine f0 ?_
  refine fmv ?_
  refine fmv ?_
  refine f0 ?_
  refine f0 ?_
  refine fmv ?_
  refine fmv ?_
  refine f0 ?_
  refine f0 ?_
  refine fmv ?_
  refine fmv ?_
  refine f0 ?_
  refine f0 ?_
  refine fmv ?_
  refine fmv ?_
  refine f0 ?_
  refine f0 ?_
  refine fmv ?_
  refine fmv ?_
  refine f0 ?_
  refine f0 ?_
  refine e0 hs ?_; clear hs; intro w_27 hs n27
  clear g1 g2 h1 h2 p1 p2
  apply wpTail_end
  refine hK8 _ _ ?_
  refine cf ?_
  refine wp_skip ?_
  refine hK7 _ _ ?_
  refine wp_seq_k ?_
  intro K9 hK9
  refine rg [0, 1, 2, 3, 4, 5, 6] ?_
  refine sq ?_
  intro K hK
  go_big_op
  go_fit (simple9_any _)
  rintro e w_28 ⟨o_S, c_S, rfl, m_S, hb_28⟩
  replace hs := hs.bl hb_28
  refine hK _ _ rfl trivial ?_
  clear hK K
  refine sq ?_
  intro K hK
  go_big_op
  go_fit (minors_lz mins_len (minors_ok (A := kS) (k := 2) (m_S.mn bd_S) rfl gd_S rfl minG_S (by decide) (by decide)))
  rintro e w_29 ⟨o_A, c_A, rfl, m_A, hb_29⟩
  replace m_S := m_S.bl hb_29; replace hs := hs.bl hb_29
  rw [mins_S] at m_A
  refine hK _ _ rfl trivial ?_
  clear hK K
  refine sq ?_
  refine .mv ?_
  refine sq ?_
  refine .r0 ?_
  refine sq ?_
  refine .r0 ?_
  refine sq ?_
  refine .mv ?_
  refine sq ?_
  refine .mv ?_
  apply wpSq_end
  refine hK9 _ _ ?_
  refine wp_seq_k ?_
  intro K10 hK10
  refine rg [0, 1, 2, 3, 4, 5, 6] ?_
  refine sq ?_
  refine .mv ?_
  refine sq ?_
  intro K hK
  have k17_29 := (((((((((((kb hb_18).b hb_19).b n20).b n21).b hb_22).b n23).b hb_24).b n25).b hb_26).b n27).b hb_28).b hb_29
  replace a1 := a1.k k17_29
  replace a2 := a2.k k17_29
  replace b1 := b1.k k17_29
  replace b2 := b2.k k17_29
  replace c1 := c1.k k17_29
  replace c2 := c2.k k17_29
  replace d1 := d1.k k17_29
  replace d2 := d2.k k17_29
  go_big_op
  go_fit (minors_lz mins_len (minors_ok (A := kH) (k := 2) ((mc2 hs.g4 (sc2 hs.g6 a1 a2 b1 b2) (sc2 hs.g5 c1 c2 d1 d2)).mn bd_H) rfl gd_H rfl minG_H (by decide) (by decide)))
  rintro e w_30 ⟨o_B, c_B, rfl, m_B, hb_30⟩
  replace m_A := m_A.bl hb_30; replace hs := hs.bl hb_30
  rw [mins_H] at m_B
  refine hK _ _ rfl trivial ?_
  clear hK K
  refine sq ?_
  refine .mv ?_
  refine sq ?_
  refine .r0 ?_
  refine sq ?_
  refine .r0 ?_
  refine sq ?_
  refine .mv ?_
  refine sq ?_
  refine .mv ?_
  apply wpSq_end
  refine hK10 _ _ ?_
  refine wp_seq_k ?_
  intro K11 hK11
  refine rg [0, 1, 2, 3, 4, 5] ?_
  refine sq ?_
  intro K hK
  go_big_op
  go_fit (minors_lz mins_len (minors_ok (A := []) (k := 0) (la := 1) (.inl rfl) rfl gd_0 rfl minG_0 (by decide) (by decide)))
  rintro e w_31 ⟨o_C, c_C, rfl, m_C, hb_31⟩
  clear t1 t2 m_S a1 a2 b1 b2 c1 c2 d1 d2
  replace m_A := m_A.bl hb_31; replace m_B := m_B.bl hb_31; replace hs := hs.bl hb_31
  rw [mins_0] at m_C
  refine hK _ _ rfl trivial ?_
  clear hK K
  refine sq ?_
  refine .mv ?_
  refine sq ?_
  refine .r0 ?_
  refine sq ?_
  refine .r0 ?_
  refine sq ?_
  refine .mv ?_
  refine sq ?_
  refine .mv ?_
  apply wpSq_end
  refine hK11 _ _ ?_
  refine wp_seq_k ?_
  intro K12 hK12
  refine wp_seq_k ?_
  intro K13 hK13
  refine rg [0, 1, 2, 3, 4, 5, 6, 7, 8, 9, 10, 11, 12, 13, 14, 15, 16, 17, 18, 19, 20, 21, 22, 23, 24, 25, 26, 27, 28, 29, 30] ?_
  refine sq ?_
  refine .mv ?_
  refine sq ?_
  refine .r0 ?_
  refine sq ?_
  refine .mv ?_
  refine sq ?_
  refine .mv ?_
  refine sq ?_
  refine .al hs ?_; clear hs; intro p_b8 w_32 hs n32 kb_b8
  replace m_A := m_A.bl n32; replace m_B := m_B.bl n32; replace m_C := m_C.bl n32
  refine sq ?_
  intro K hK
  go_big_op
  go_fit (numbers9_any (PL3 hs.g0) rfl (by decide) (by decide))
  rintro e w_33 ⟨o_D, c_D, rfl, m_D, hb_33⟩
  replace m_A := m_A.bl hb_33; replace m_B := m_B.bl hb_33; replace m_C := m_C.bl hb_33; replace hs := hs.bl hb_33
  refine hK _ _ rfl trivial ?_
  clear hK K
  refine sq ?_
  intro K hK
  go_big_op
  go_fit (whole_yes (L := 1) m_A m_D rfl (by decide) (by decide +kernel) (by decide))
  rintro e w_34 ⟨rfl, hb_34⟩
  replace m_A := m_A.bl hb_34; replace m_B := m_B.bl hb_34; replace m_C := m_C.bl hb_34; replace m_D := m_D.bl hb_34; replace hs := hs.bl hb_34
  refine hK _ _ rfl trivial ?_
  clear hK K
  refine sq ?_
  refine .r0 ?_
  refine sq ?_
  refine .r0 ?_
  refine sq ?_
  refine .mv ?_
  refine sq ?_
  refine .mv ?_
  refine sq ?_
  refine .r0 ?_
  refine sq ?_
  refine .r0 ?_
  refine sq ?_
  refine .mv ?_
  refine sq ?_
  refine .mv ?_
  refine sq ?_
  refine .al hs ?_; clear hs; intro p_b9 w_35 hs n35 kb_b9
  replace m_B := m_B.bl n35; replace m_C := m_C.bl n35
  refine sq ?_
  intro K hK
  go_big_op
  go_fit (numbers9_any (PL3 hs.g0) rfl (by decide) (by decide))
  rintro e w_36 ⟨o_E, c_E, rfl, m_E, hb_36⟩
  replace m_B := m_B.bl hb_36; replace m_C := m_C.bl hb_36; replace hs := hs.bl hb_36
  refine hK _ _ rfl trivial ?_
  clear hK K
  refine sq ?_
  intro K hK
  go_big_op
  go_fit (whole_yes (L := 1) m_B m_E rfl (by decide) (by decide +kernel) (by decide))
  rintro e w_37 ⟨rfl, hb_37⟩
  replace m_B := m_B.bl hb_37; replace m_C := m_C.bl hb_37; replace m_E := m_E.bl hb_37; replace hs := hs.bl hb_37
  refine hK _ _ rfl trivial ?_
  clear hK K
  refine sq ?_
  refine .r0 ?_
  refine sq ?_
  refine .r0 ?_
  refine sq ?_
  refine .mv ?_
  refine sq ?_
  refine .mv ?_
  refine sq ?_
  refine .r0 ?_
  refine sq ?_
  refine .r0 ?_
  refine sq ?_
  refine .mv ?_
  refine sq ?_
  refine .mv ?_
  refine sq ?_
  refine .al hs ?_; clear hs; intro p_b10 w_38 hs n38 kb_b10
  replace m_C := m_C.bl n38
  refine sq ?_
  intro K hK
  go_big_op
  go_fit (numbers9_any (PL1 hs.g0) rfl (by decide) (by decide))
  rintro e w_39 ⟨o_F, c_F, rfl, m_F, hb_39⟩
  replace m_C := m_C.bl hb_39; replace hs := hs.bl hb_39
  refine hK _ _ rfl trivial ?_
  clear hK K
  refine sq ?_
  intro K hK
  go_big_op
  go_fit (whole_yes (L := 1) m_C m_F rfl (by decide) (by decide +kernel) (by decide))
  rintro e w_40 ⟨rfl, hb_40⟩
  replace m_C := m_C.bl hb_40; replace m_F := m_F.bl hb_40; replace hs := hs.bl hb_40
  refine hK _ _ rfl trivial ?_
  clear hK K
  refine sq ?_
  refine .r0 ?_
  refine sq ?_
  refine .r0 ?_
  apply wpSq_end
  refine hK13 _ _ ?_
  refine cf ?_
  refine wp_skip ?_
  refine hK12 _ _ ?_
  refine wp_seq_k ?_
  intro K14 hK14
  refine rg [0, 1, 2, 3, 4, 5, 6] ?_
  refine sq ?_
  intro K hK
  go_big_op
  go_fit (simple9_any _)
  rintro e w_41 ⟨o_S2, c_S2, rfl, m_S2, hb_41⟩
  clear m_A m_D m_B m_E m_C m_F
  replace hs := hs.bl hb_41
  refine hK _ _ rfl trivial ?_
  clear hK K
  refine sq ?_
  intro K hK
  go_big_op
  go_fit (mxmt (adjugate_ok (A := kS) (m_S2.mn bd_S) rfl gd_S rfl (minT2 bd_S rfl (by decide)) (by decide) (by decide)))
  rintro e w_42 ⟨o_J, c_J, rfl, m_J, hb_42⟩
  replace m_S2 := m_S2.bl hb_42; replace hs := hs.bl hb_42
  rw [adj_S] at m_J
  refine hK _ _ rfl trivial ?_
  clear hK K
  refine sq ?_
  refine .mv ?_
  refine sq ?_
  refine .r0 ?_
  refine sq ?_
  refine .r0 ?_
  refine sq ?_
  refine .mv ?_
  refine sq ?_
  refine .mv ?_
  apply wpSq_end
  refine hK14 _ _ ?_
  refine wp_seq_k ?_
  intro K15 hK15
  refine rg [0, 1, 2, 3, 4, 5] ?_
  refine sq ?_
  intro K hK
  go_big_op
  go_fit (simple9_any _)
  rintro e w_43 ⟨o_S3, c_S3, rfl, m_S3, hb_43⟩
  replace m_J := m_J.bl hb_43; replace hs := hs.bl hb_43
  refine hK _ _ rfl trivial ?_
  clear hK K
  refine sq ?_
  intro K hK
  go_big_op
  go_fit (inverse_none (A := kS) (m_S3.mn bd_S) rfl gd_S rfl (minT bd_S rfl (by decide)) (by decide) (by decide) u_S)
  rintro e w_44 ⟨rfl, hb_44⟩
  replace m_J := m_J.bl hb_44; replace m_S3 := m_S3.bl hb_44; replace hs := hs.bl hb_44
  refine hK _ _ rfl trivial ?_
  clear hK K
  refine sq ?_
  refine .mv ?_
  refine sq ?_
  refine .r0 ?_
  refine sq ?_
  refine .r0 ?_
  refine sq ?_
  refine .mv ?_
  apply wpSq_end
  refine hK15 _ _ ?_
  refine wp_seq_k ?_
  intro K16 hK16
  refine rg [0, 1, 2, 3, 4, 5, 6, 7, 8, 9, 10, 11, 12] ?_
  refine sq ?_
  intro K hK
  go_big_op
  go_fit (g9_any (1) (0) _ (by decide) (by decide) (by decide) (by decide))
  rintro e w_45 ⟨_, rfl, ⟨n_iaa, o_iaa, k_iaa, c_iaa, n_iab, o_iab, k_iab, c_iab, rfl, ia1, ia2⟩, hb_45⟩
  replace m_J := m_J.bl hb_45; replace hs := hs.bl hb_45
  have Lia1 := hide (ia1.lenOf (zlen_small8 (z := 1) (by decide)))
  have Lia2 := hide (ia2.lenOf (zlen_small8 (z := 0) (by decide)))
  refine hK _ _ rfl trivial ?_
  clear hK K
  refine sq ?_
  intro K hK
  go_big_op
  go_fit (g9_any (1) (0) _ (by decide) (by decide) (by decide) (by decide))
  rintro e w_46 ⟨_, rfl, ⟨n_iba, o_iba, k_iba, c_iba, n_ibb, o_ibb, k_ibb, c_ibb, rfl, ib1, ib2⟩, hb_46⟩
  replace m_J := m_J.bl hb_46; replace hs := hs.bl hb_46
  have Lib1 := hide (ib1.lenOf (zlen_small8 (z := 1) (by decide)))
  have Lib2 := hide (ib2.lenOf (zlen_small8 (z := 0) (by decide)))
  refine hK _ _ rfl trivial ?_
  clear hK K
  refine sq ?_
  refine .al hs ?_; clear hs; intro p_b11 w_47 hs n47 kb_b11
  replace m_J := m_J.bl n47
  refine sq ?_
  intro K hK
  go_big_op
  go_fit (g9_any (0) (0) _ (by decide) (by decide) (by decide) (by decide))
  rintro e w_48 ⟨_, rfl, ⟨n_ica, o_ica, k_ica, c_ica, n_icb, o_icb, k_icb, c_icb, rfl, ic1, ic2⟩, hb_48⟩
  replace m_J := m_J.bl hb_48; replace hs := hs.bl hb_48
  have Lic1 := hide (ic1.lenOf (zlen_small8 (z := 0) (by decide)))
  have Lic2 := hide (ic2.lenOf (zlen_small8 (z := 0) (by decide)))
  refine hK _ _ rfl trivial ?_
  clear hK K
  refine sq ?_
  intro K hK
  go_big_op
  go_fit (g9_any (0) (1) _ (by decide) (by decide) (by decide) (by decide))
  rintro e w_49 ⟨_, rfl, ⟨n_ida, o_ida, k_ida, c_ida, n_idb, o_idb, k_idb, c_idb, rfl, id1, id2⟩, hb_49⟩
  replace m_J := m_J.bl hb_49; replace hs := hs.bl hb_49
  have Lid1 := hide (id1.lenOf (zlen_small8 (z := 0) (by decide)))
  have Lid2 := hide (id2.lenOf (zlen_small8 (z := 1) (by decide)))
  refine hK _ _ rfl trivial ?_
  clear hK K
  refine sq ?_
  refine .al hs ?_; clear hs; intro p_b12 w_50 hs n50 kb_b12
  replace m_J := m_J.bl n50
  refine sq ?_
  refine .al hs ?_; clear hs; intro p_b13 w_51 hs n51 kb_b13
  replace m_J := m_J.bl n51
  refine sq ?_
  intro K hK
  have k45_51 := (((((kb hb_46).b n47).b hb_48).b hb_49).b n50).b n51
  replace ia1 := ia1.k k45_51
  replace ia2 := ia2.k k45_51
  have k46_51 := ((((kb n47).b hb_48).b hb_49).b n50).b n51
  replace ib1 := ib1.k k46_51
  replace ib2 := ib2.k k46_51
  have k48_51 := ((kb hb_49).b n50).b n51
  replace ic1 := ic1.k k48_51
  replace ic2 := ic2.k k48_51
  have k49_51 := (kb n50).b n51
  replace id1 := id1.k k49_51
  replace id2 := id2.k k49_51
  go_big_op
  go_fit (mxmt (inverse_ok (A := kI) ((mc2 hs.g0 (sc2 hs.g2 ia1 ia2 ib1 ib2) (sc2 hs.g1 ic1 ic2 id1 id2)).mn bd_I) rfl gd_I rfl (minT bd_I rfl (by decide)) (minT2 bd_I rfl (by decide)) (by decide) (by decide) u_I))
  rintro e w_52 ⟨o_I, c_I, rfl, m_I, hb_52⟩
  replace m_J := m_J.bl hb_52; replace hs := hs.bl hb_52
  rw [inv_I] at m_I
  refine hK _ _ rfl trivial ?_
  clear hK K
  refine sq ?_
  refine .mv ?_
  refine sq ?_
  refine .r0 ?_
  refine sq ?_
  refine .r0 ?_
  refine sq ?_
  refine .mv ?_
  refine sq ?_
  refine .mv ?_
  apply wpSq_end
  refine hK16 _ _ ?_
  refine wp_seq_k ?_
  intro K17 hK17
  refine wp_seq_k ?_
  intro K18 hK18
  refine rg [0, 1, 2, 3, 4, 5, 6, 7, 8, 9, 10, 11, 12, 13, 14, 15, 16, 17, 18, 19, 20, 21, 22, 23, 24, 25, 26, 27] ?_
  refine sq ?_
  refine .mv ?_
  refine sq ?_
  refine .mv ?_
  refine sq ?_
  intro K hK
  go_big_op
  go_fit (g9_any (0) (0) _ (by decide) (by decide) (by decide) (by decide))
  rintro e w_53 ⟨_, rfl, ⟨n_qaa, o_qaa, k_qaa, c_qaa, n_qab, o_qab, k_qab, c_qab, rfl, qa1, qa2⟩, hb_53⟩
  clear m_S2 m_S3 ia1 ia2 ib1 ib2 ic1 ic2 id1 id2
  replace m_J := m_J.bl hb_53; replace m_I := m_I.bl hb_53; replace hs := hs.bl hb_53
  have Lqa1 := hide (qa1.lenOf (zlen_small8 (z := 0) (by decide)))
  have Lqa2 := hide (qa2.lenOf (zlen_small8 (z := 0) (by decide)))
  refine hK _ _ rfl trivial ?_
  clear hK K
  refine sq ?_
  intro K hK
  go_big_op
  go_fit (g9_any (-2) (0) _ (by decide) (by decide) (by decide) (by decide))
  rintro e w_54 ⟨_, rfl, ⟨n_qba, o_qba, k_qba, c_qba, n_qbb, o_qbb, k_qbb, c_qbb, rfl, qb1, qb2⟩, hb_54⟩
  replace m_J := m_J.bl hb_54; replace m_I := m_I.bl hb_54; replace hs := hs.bl hb_54
  have Lqb1 := hide (qb1.lenOf (zlen_small8 (z := -2) (by decide)))
  have Lqb2 := hide (qb2.lenOf (zlen_small8 (z := 0) (by decide)))
  refine hK _ _ rfl trivial ?_
  clear hK K
  refine sq ?_
  refine .al hs ?_; clear hs; intro p_b14 w_55 hs n55 kb_b14
  replace m_J := m_J.bl n55; replace m_I := m_I.bl n55
  refine sq ?_
  intro K hK
  go_big_op
  go_fit (g9_any (0) (-1) _ (by decide) (by decide) (by decide) (by decide))
  rintro e w_56 ⟨_, rfl, ⟨n_qca, o_qca, k_qca, c_qca, n_qcb, o_qcb, k_qcb, c_qcb, rfl, qc1, qc2⟩, hb_56⟩
  replace m_J := m_J.bl hb_56; replace m_I := m_I.bl hb_56; replace hs := hs.bl hb_56
  have Lqc1 := hide (qc1.lenOf (zlen_small8 (z := 0) (by decide)))
  have Lqc2 := hide (qc2.lenOf (zlen_small8 (z := -1) (by decide)))
  refine hK _ _ rfl trivial ?_
  clear hK K
  refine sq ?_
  intro K hK
  go_big_op
  go_fit (g9_any (1) (0) _ (by decide) (by decide) (by decide) (by decide))
  rintro e w_57 ⟨_, rfl, ⟨n_qda, o_qda, k_qda, c_qda, n_qdb, o_qdb, k_qdb, c_qdb, rfl, qd1, qd2⟩, hb_57⟩
  replace m_J := m_J.bl hb_57; replace m_I := m_I.bl hb_57; replace hs := hs.bl hb_57
  have Lqd1 := hide (qd1.lenOf (zlen_small8 (z := 1) (by decide)))
  have Lqd2 := hide (qd2.lenOf (zlen_small8 (z := 0) (by decide)))
  refine hK _ _ rfl trivial ?_
  clear hK K
  refine sq ?_
  refine .al hs ?_; clear hs; intro p_b15 w_58 hs n58 kb_b15
  replace m_J := m_J.bl n58; replace m_I := m_I.bl n58
  refine sq ?_
  refine .al hs ?_; clear hs; intro p_b16 w_59 hs n59 kb_b16
  replace m_J := m_J.bl n59; replace m_I := m_I.bl n59
  refine sq ?_
  intro K hK
  have k53_59 := (((((kb hb_54).b n55).b hb_56).b hb_57).b n58).b n59
  replace qa1 := qa1.k k53_59
  replace qa2 := qa2.k k53_59
  have k54_59 := ((((kb n55).b hb_56).b hb_57).b n58).b n59
  replace qb1 := qb1.k k54_59
  replace qb2 := qb2.k k54_59
  have k56_59 := ((kb hb_57).b n58).b n59
  replace qc1 := qc1.k k56_59
  replace qc2 := qc2.k k56_59
  have k57_59 := (kb n58).b n59
  replace qd1 := qd1.k k57_59
  replace qd2 := qd2.k k57_59
  go_big_op
  go_fit (mat9_yes (Ms := [[(0, 0), (-2, 0)], [(0, -1), (1, 0)]]) m_J ((mc2 hs.g0 (sc2 hs.g2 qa1 qa2 qb1 qb2) (sc2 hs.g1 qc1 qc2 qd1 qd2)).mn (bd_small (by decide))) rfl (by decide) (by decide) (by decide))
  rintro e w_60 ⟨rfl, hb_60⟩
  replace m_J := m_J.bl hb_60; replace m_I := m_I.bl hb_60; replace hs := hs.bl hb_60
  refine hK _ _ rfl trivial ?_
  clear hK K
  refine sq ?_
  refine .r0 ?_
  refine sq ?_
  refine .mv ?_
  refine sq ?_
  refine .mv ?_
  refine sq ?_
  refine .r0 ?_
  refine sq ?_
  refine .r0 ?_
  refine sq ?_
  refine .mv ?_
  refine sq ?_
  refine .mv ?_
  refine sq ?_
  refine .mv ?_
  refine sq ?_
  intro K hK
  go_big_op
  go_fit (g9_any (1) (0) _ (by decide) (by decide) (by decide) (by decide))
  rintro e w_61 ⟨_, rfl, ⟨n_raa, o_raa, k_raa, c_raa, n_rab, o_rab, k_rab, c_rab, rfl, ra1, ra2⟩, hb_61⟩
  clear m_J qa1 qa2 qb1 qb2 qc1 qc2 qd1 qd2
  replace m_I := m_I.bl hb_61; replace hs := hs.bl hb_61
  have Lra1 := hide (ra1.lenOf (zlen_small8 (z := 1) (by decide)))
  have Lra2 := hide (ra2.lenOf (zlen_small8 (z := 0) (by decide)))
  refine hK _ _ rfl trivial ?_
  clear hK K
  refine sq ?_
  intro K hK
  go_big_op
  go_fit (g9_any (0) (1) _ (by decide) (by decide) (by decide) (by decide))
  rintro e w_62 ⟨_, rfl, ⟨n_rba, o_rba, k_rba, c_rba, n_rbb, o_rbb, k_rbb, c_rbb, rfl, rb1, rb2⟩, hb_62⟩
  replace m_I := m_I.bl hb_62; replace hs := hs.bl hb_62
  have Lrb1 := hide (rb1.lenOf (zlen_small8 (z := 0) (by decide)))
  have Lrb2 := hide (rb2.lenOf (zlen_small8 (z := 1) (by decide)))
  refine hK _ _ rfl trivial ?_
  clear hK K
  refine sq ?_
  refine .al hs ?_; clear hs; intro p_b17 w_63 hs n63 kb_b17
  replace m_I := m_I.bl n63
  refine sq ?_
  intro K hK
  go_big_op
  go_fit (g9_any (0) (0) _ (by decide) (by decide) (by decide) (by decide))
  rintro e w_64 ⟨_, rfl, ⟨n_rca, o_rca, k_rca, c_rca, n_rcb, o_rcb, k_rcb, c_rcb, rfl, rc1, rc2⟩, hb_64⟩
  replace m_I := m_I.bl hb_64; replace hs := hs.bl hb_64
  have Lrc1 := hide (rc1.lenOf (zlen_small8 (z := 0) (by decide)))
  have Lrc2 := hide (rc2.lenOf (zlen_small8 (z := 0) (by decide)))
  refine hK _ _ rfl trivial ?_
  clear hK K
  refine sq ?_
  intro K hK
  go_big_op
  go_fit (g9_any (0) (-1) _ (by decide) (by decide) (by decide) (by decide))
  rintro e w_65 ⟨_, rfl, ⟨n_rda, o_rda, k_rda, c_rda, n_rdb, o_rdb, k_rdb, c_rdb, rfl, rd1, rd2⟩, hb_65⟩
  replace m_I := m_I.bl hb_65; replace hs := hs.bl hb_65
  have Lrd1 := hide (rd1.lenOf (zlen_small8 (z := 0) (by decide)))
  have Lrd2 := hide (rd2.lenOf (zlen_small8 (z := -1) (by decide)))
  refine hK _ _ rfl trivial ?_
  clear hK K
  refine sq ?_
  refine .al hs ?_; clear hs; intro p_b18 w_66 hs n66 kb_b18
  replace m_I := m_I.bl n66
  refine sq ?_
  refine .al hs ?_; clear hs; intro p_b19 w_67 hs n67 kb_b19
  replace m_I := m_I.bl n67
  refine sq ?_
  intro K hK
  have k61_67 := (((((kb hb_62).b n63).b hb_64).b hb_65).b n66).b n67
  replace ra1 := ra1.k k61_67
  replace ra2 := ra2.k k61_67
  have k62_67 := ((((kb n63).b hb_64).b hb_65).b n66).b n67
  replace rb1 := rb1.k k62_67
  replace rb2 := rb2.k k62_67
  have k64_67 := ((kb hb_65).b n66).b n67
  replace rc1 := rc1.k k64_67
  replace rc2 := rc2.k k64_67
  have k65_67 := (kb n66).b n67
  replace rd1 := rd1.k k65_67
  replace rd2 := rd2.k k65_67
  go_big_op
  go_fit (mat9_yes (Ms := [[(1, 0), (0, 1)], [(0, 0), (0, -1)]]) m_I ((mc2 hs.g0 (sc2 hs.g2 ra1 ra2 rb1 rb2) (sc2 hs.g1 rc1 rc2 rd1 rd2)).mn (bd_small (by decide))) rfl (by decide) (by decide) (by decide))
  rintro e w_68 ⟨rfl, hb_68⟩
  replace m_I := m_I.bl hb_68; replace hs := hs.bl hb_68
  refine hK _ _ rfl trivial ?_
  clear hK K
  refine sq ?_
  refine .r0 ?_
  refine sq ?_
  refine .r0 ?_
  apply wpSq_end
  refine hK18 _ _ ?_
  refine cf ?_
  refine wp_skip ?_
  refine hK17 _ _ ?_
  refine wp_seq_k ?_
  intro K19 hK19
  refine rg [0, 1, 2, 3, 4, 5, 6, 7, 8, 9] ?_
  refine sq ?_
  intro K hK
  go_big_op
  go_fit (simple9_any _)
  rintro e w_69 ⟨o_S4, c_S4, rfl, m_S4, hb_69⟩
  clear m_I ra1 ra2 rb1 rb2 rc1 rc2 rd1 rd2
  replace hs := hs.bl hb_69
  refine hK _ _ rfl trivial ?_
  clear hK K
  refine sq ?_
  intro K hK
  go_big_op
  go_fit (g9_any (1) (0) _ (by decide) (by decide) (by decide) (by decide))
  rintro e w_70 ⟨_, rfl, ⟨n_saa, o_saa, k_saa, c_saa, n_sab, o_sab, k_sab, c_sab, rfl, sa1, sa2⟩, hb_70⟩
  replace m_S4 := m_S4.bl hb_70; replace hs := hs.bl hb_70
  have Lsa1 := hide (sa1.lenOf (zlen_small8 (z := 1) (by decide)))
  have Lsa2 := hide (sa2.lenOf (zlen_small8 (z := 0) (by decide)))
  refine hK _ _ rfl trivial ?_
  clear hK K
  refine sq ?_
  intro K hK
  go_big_op
  go_fit (g9_any (1) (0) _ (by decide) (by decide) (by decide) (by decide))
  rintro e w_71 ⟨_, rfl, ⟨n_sba, o_sba, k_sba, c_sba, n_sbb, o_sbb, k_sbb, c_sbb, rfl, sb1, sb2⟩, hb_71⟩
  replace m_S4 := m_S4.bl hb_71; replace hs := hs.bl hb_71
  have Lsb1 := hide (sb1.lenOf (zlen_small8 (z := 1) (by decide)))
  have Lsb2 := hide (sb2.lenOf (zlen_small8 (z := 0) (by decide)))
  refine hK _ _ rfl trivial ?_
  clear hK K
  refine sq ?_
  refine .al hs ?_; clear hs; intro p_b20 w_72 hs n72 kb_b20
  replace m_S4 := m_S4.bl n72
  refine sq ?_
  intro K hK
  have k70_72 := (kb hb_71).b n72
  replace sa1 := sa1.k k70_72
  replace sa2 := sa2.k k70_72
  have k71_72 := kb n72
  replace sb1 := sb1.k k71_72
  replace sb2 := sb2.k k71_72
  go_big_op
  go_fit (p_yes (A := kS) (V := [(1, 0), (1, 0)]) (m_S4.mn (bd_mil bd_S)) rfl gd_S rfl ((sc2 hs.g0 sa1 sa2 sb1 sb2).sn (bd_v (by decide))) rfl (fun _ ↦ rfl) (by decide) (tot_small (by decide) bd_S) rk_S dets_S sol_S)
  rintro e w_73 ⟨o_X, c_X, rfl, m_X, hb_73⟩
  replace m_S4 := m_S4.bl hb_73; replace hs := hs.bl hb_73
  rw [ql_S] at m_X
  refine hK _ _ rfl trivial ?_
  clear hK K
  refine sq ?_
  refine .mv ?_
  refine sq ?_
  refine .r0 ?_
  refine sq ?_
  refine .r0 ?_
  refine sq ?_
  refine .mv ?_
  refine sq ?_
  refine .mv ?_
  apply wpSq_end
  refine hK19 _ _ ?_
  refine wp_seq_k ?_
  intro K20 hK20
  refine rg [0, 1, 2, 3, 4, 5, 6, 7, 8, 9, 10, 11] ?_
  refine sq ?_
  intro K hK
  go_big_op
  go_fit (g9_any (1) (0) _ (by decide) (by decide) (by decide) (by decide))
  rintro e w_74 ⟨_, rfl, ⟨n_taa, o_taa, k_taa, c_taa, n_tab, o_tab, k_tab, c_tab, rfl, ta1, ta2⟩, hb_74⟩
  replace m_X := m_X.bl hb_74; replace hs := hs.bl hb_74
  have Lta1 := hide (ta1.lenOf (zlen_small8 (z := 1) (by decide)))
  have Lta2 := hide (ta2.lenOf (zlen_small8 (z := 0) (by decide)))
  refine hK _ _ rfl trivial ?_
  clear hK K
  refine sq ?_
  intro K hK
  go_big_op
  go_fit (g9_any (1) (0) _ (by decide) (by decide) (by decide) (by decide))
  rintro e w_75 ⟨_, rfl, ⟨n_tba, o_tba, k_tba, c_tba, n_tbb, o_tbb, k_tbb, c_tbb, rfl, tb1, tb2⟩, hb_75⟩
  replace m_X := m_X.bl hb_75; replace hs := hs.bl hb_75
  have Ltb1 := hide (tb1.lenOf (zlen_small8 (z := 1) (by decide)))
  have Ltb2 := hide (tb2.lenOf (zlen_small8 (z := 0) (by decide)))
  refine hK _ _ rfl trivial ?_
  clear hK K
  refine sq ?_
  refine .al hs ?_; clear hs; intro p_b21 w_76 hs n76 kb_b21
  replace m_X := m_X.bl n76
  refine sq ?_
  refine .al hs ?_; clear hs; intro p_b22 w_77 hs n77 kb_b22
  replace m_X := m_X.bl n77
  refine sq ?_
  intro K hK
  go_big_op
  go_fit (g9_any (1) (0) _ (by decide) (by decide) (by decide) (by decide))
  rintro e w_78 ⟨_, rfl, ⟨n_tca, o_tca, k_tca, c_tca, n_tcb, o_tcb, k_tcb, c_tcb, rfl, tc1, tc2⟩, hb_78⟩
  replace m_X := m_X.bl hb_78; replace hs := hs.bl hb_78
  have Ltc1 := hide (tc1.lenOf (zlen_small8 (z := 1) (by decide)))
  have Ltc2 := hide (tc2.lenOf (zlen_small8 (z := 0) (by decide)))
  refine hK _ _ rfl trivial ?_
  clear hK K
  refine sq ?_
  intro K hK
  go_big_op
  go_fit (g9_any (2) (0) _ (by decide) (by decide) (by decide) (by decide))
  rintro e w_79 ⟨_, rfl, ⟨n_tda, o_tda, k_tda, c_tda, n_tdb, o_tdb, k_tdb, c_tdb, rfl, td1, td2⟩, hb_79⟩
  replace m_X := m_X.bl hb_79; replace hs := hs.bl hb_79
  have Ltd1 := hide (td1.lenOf (zlen_small8 (z := 2) (by decide)))
  have Ltd2 := hide (td2.lenOf (zlen_small8 (z := 0) (by decide)))
  refine hK _ _ rfl trivial ?_
  clear hK K
  refine sq ?_
  refine .al hs ?_; clear hs; intro p_b23 w_80 hs n80 kb_b23
  replace m_X := m_X.bl n80
  refine sq ?_
  intro K hK
  have k74_80 := (((((kb hb_75).b n76).b n77).b hb_78).b hb_79).b n80
  replace ta1 := ta1.k k74_80
  replace ta2 := ta2.k k74_80
  have k75_80 := ((((kb n76).b n77).b hb_78).b hb_79).b n80
  replace tb1 := tb1.k k75_80
  replace tb2 := tb2.k k75_80
  have k78_80 := (kb hb_79).b n80
  replace tc1 := tc1.k k78_80
  replace tc2 := tc2.k k78_80
  have k79_80 := kb n80
  replace td1 := td1.k k79_80
  replace td2 := td2.k k79_80
  go_big_op
  go_fit (p_no (A := kR) (V := [(1, 0), (2, 0)]) ((mc1 hs.g1 (sc2 hs.g2 ta1 ta2 tb1 tb2)).mn (bd_mil bd_R)) rfl gd_R rfl ((sc2 hs.g0 tc1 tc2 td1 td2).sn (bd_v (by decide))) rfl (fun _ ↦ rfl) (by decide) (tot_small (by decide) bd_R) rk_R sol_R)
  rintro e w_81 ⟨rfl, hb_81⟩
  replace m_X := m_X.bl hb_81; replace hs := hs.bl hb_81
  refine hK _ _ rfl trivial ?_
  clear hK K
  refine sq ?_
  refine .mv ?_
  refine sq ?_
  refine .r0 ?_
  refine sq ?_
  refine .r0 ?_
  refine sq ?_
  refine .mv ?_
  apply wpSq_end
  refine hK20 _ _ ?_
  refine wp_seq_k ?_
  intro K21 hK21
  refine rg [0, 1, 2, 3, 4, 5, 6, 7, 8, 9, 10, 11] ?_
  refine sq ?_
  intro K hK
  go_big_op
  go_fit (g9_any (1) (0) _ (by decide) (by decide) (by decide) (by decide))
  rintro e w_82 ⟨_, rfl, ⟨n_vaa, o_vaa, k_vaa, c_vaa, n_vab, o_vab, k_vab, c_vab, rfl, va1, va2⟩, hb_82⟩
  clear m_S4 sa1 sa2 sb1 sb2 ta1 ta2 tb1 tb2 tc1 tc2 td1 td2
  replace m_X := m_X.bl hb_82; replace hs := hs.bl hb_82
  have Lva1 := hide (va1.lenOf (zlen_small8 (z := 1) (by decide)))
  have Lva2 := hide (va2.lenOf (zlen_small8 (z := 0) (by decide)))
  refine hK _ _ rfl trivial ?_
  clear hK K
  refine sq ?_
  refine .al hs ?_; clear hs; intro p_b24 w_83 hs n83 kb_b24
  replace m_X := m_X.bl n83
  refine sq ?_
  intro K hK
  go_big_op
  go_fit (g9_any (1) (0) _ (by decide) (by decide) (by decide) (by decide))
  rintro e w_84 ⟨_, rfl, ⟨n_vba, o_vba, k_vba, c_vba, n_vbb, o_vbb, k_vbb, c_vbb, rfl, vb1, vb2⟩, hb_84⟩
  replace m_X := m_X.bl hb_84; replace hs := hs.bl hb_84
  have Lvb1 := hide (vb1.lenOf (zlen_small8 (z := 1) (by decide)))
  have Lvb2 := hide (vb2.lenOf (zlen_small8 (z := 0) (by decide)))
  refine hK _ _ rfl trivial ?_
  clear hK K
  refine sq ?_
  refine .al hs ?_; clear hs; intro p_b25 w_85 hs n85 kb_b25
  replace m_X := m_X.bl n85
  refine sq ?_
  refine .al hs ?_; clear hs; intro p_b26 w_86 hs n86 kb_b26
  replace m_X := m_X.bl n86
  refine sq ?_
  intro K hK
  go_big_op
  go_fit (g9_any (1) (0) _ (by decide) (by decide) (by decide) (by decide))
  rintro e w_87 ⟨_, rfl, ⟨n_vca, o_vca, k_vca, c_vca, n_vcb, o_vcb, k_vcb, c_vcb, rfl, vc1, vc2⟩, hb_87⟩
  replace m_X := m_X.bl hb_87; replace hs := hs.bl hb_87
  have Lvc1 := hide (vc1.lenOf (zlen_small8 (z := 1) (by decide)))
  have Lvc2 := hide (vc2.lenOf (zlen_small8 (z := 0) (by decide)))
  refine hK _ _ rfl trivial ?_
  clear hK K
  refine sq ?_
  refine .al hs ?_; clear hs; intro p_b27 w_88 hs n88 kb_b27
  replace m_X := m_X.bl n88
  refine sq ?_
  intro K hK
  have k82_88 := (((((kb n83).b hb_84).b n85).b n86).b hb_87).b n88
  replace va1 := va1.k k82_88
  replace va2 := va2.k k82_88
  have k84_88 := (((kb n85).b n86).b hb_87).b n88
  replace vb1 := vb1.k k84_88
  replace vb2 := vb2.k k84_88
  have k87_88 := kb n88
  replace vc1 := vc1.k k87_88
  replace vc2 := vc2.k k87_88
  go_big_op
  go_fit (p_dep (A := kC) (V := [(1, 0)]) ((mc2 hs.g1 (sc1 hs.g3 va1 va2) (sc1 hs.g2 vb1 vb2)).mn (bd_mil bd_C)) rfl gd_C rfl ((sc1 hs.g0 vc1 vc2).sn (bd_v (by decide))) rfl (fun _ ↦ rfl) (by decide) (tot_small (by decide) bd_C) rk_C (by decide))
  rintro e w_89 ⟨rfl, hb_89⟩
  replace m_X := m_X.bl hb_89; replace hs := hs.bl hb_89
  refine hK _ _ rfl trivial ?_
  clear hK K
  refine sq ?_
  refine .mv ?_
  refine sq ?_
  refine .r0 ?_
  refine sq ?_
  refine .r0 ?_
  refine sq ?_
  refine .mv ?_
  apply wpSq_end
  refine hK21 _ _ ?_
  refine wp_seq_k ?_
  intro K22 hK22
  refine wp_seq_k ?_
  intro K23 hK23
  refine rg [0, 1, 2, 3, 4, 5, 6] ?_
  refine sq ?_
  refine .mv ?_
  refine sq ?_
  refine .r0 ?_
  refine sq ?_
  refine .mv ?_
  refine sq ?_
  refine .mv ?_
  refine sq ?_
  refine .r0 ?_
  refine sq ?_
  refine .r0 ?_
  refine sq ?_
  refine .r0 ?_
  apply wpSq_end
  refine hK23 _ _ ?_
  refine cf ?_
  refine wp_skip ?_
  refine hK22 _ _ ?_
  refine wp_seq_k ?_
  intro K24 hK24
  refine rg [0, 1, 2, 3, 4, 5, 6, 7, 8] ?_
  obtain ⟨gx, offx, curx, tyx, fzx, x1, x2, x3, x4, x5, x6, x7, x8, x9, x10, x11, x12, x13, x14, x15, x16, l1, l2, l3, l4, l5, l6, l7, l8, l9, l10, l11, l12, l13, l14, l15, l16, rfl, xa, j1, j2, j3, j4, j5, j6, j7, j8, y1, y2, y3, y4, t1, t2, t3, t4, t5, t6, t7, t8, z1, z2, z3, z4⟩ := xs_S m_X
  refine sq ?_
  refine .mv ?_
  refine sq ?_
  refine .r0 ?_
  refine sq ?_
  intro K hK
  have d0 := xa.cell _ j1
  have d1 := xa.cell _ j2
  have d2 := xa.cell _ j3
  have d3 := xa.cell _ j4
  have d4 := xa.cell _ j5
  have d5 := xa.cell _ j6
  have d6 := xa.cell _ j7
  have d7 := xa.cell _ j8
  go_big_op; refine hK _ _ rfl trivial ?_; clear hK K d0 d1 d2 d3 d4 d5 d6 d7
  refine sq ?_
  intro K hK
  go_big_op
  go_fit (gfText_x0 (.mk' (y1.zn (zlen_small8 (by decide))) (y2.zn (zlen_small8 (by decide))) (y3.zn (zlen_small8 (by decide))) (y4.zn (zlen_small8 (by decide)))) (by decide) (by decide) (by decide) (by decide) (htabs _ hs.b))
  rintro e w_90 ⟨rfl, hb_90⟩
  clear m_X va1 va2 vb1 vb2 vc1 vc2
  replace xa := xa.bl hb_90; replace hs := hs.bl hb_90
  refine hK _ _ rfl trivial ?_
  clear hK K
  refine sq ?_
  refine .mv ?_
  refine sq ?_
  refine .r0 ?_
  refine sq ?_
  refine .r0 ?_
  refine sq ?_
  refine .mv ?_
  refine sq ?_
  refine .mv ?_
  apply wpSq_end
  refine hK24 _ _ ?_
  refine wp_seq_k ?_
  intro K25 hK25
  refine rg [0, 1, 2, 3, 4, 5, 6, 7, 8] ?_
  refine sq ?_
  refine .mv ?_
  refine sq ?_
  refine .r0 ?_
  refine sq ?_
  intro K hK
  have d0 := xa.cell _ t1
  have d1 := xa.cell _ t2
  have d2 := xa.cell _ t3
  have d3 := xa.cell _ t4
  have d4 := xa.cell _ t5
  have d5 := xa.cell _ t6
  have d6 := xa.cell _ t7
  have d7 := xa.cell _ t8
  go_big_op; refine hK _ _ rfl trivial ?_; clear hK K d0 d1 d2 d3 d4 d5 d6 d7
  refine sq ?_
  intro K hK
  have k89_90 := kb hb_90
  replace z1 := z1.k k89_90
  replace z2 := z2.k k89_90
  replace z3 := z3.k k89_90
  replace z4 := z4.k k89_90
  go_big_op
  go_fit (gfText_x1 (.mk' (z1.zn (zlen_small8 (by decide))) (z2.zn (zlen_small8 (by decide))) (z3.zn (zlen_small8 (by decide))) (z4.zn (zlen_small8 (by decide)))) (by decide) (by decide) (by decide) (by decide) (htabs _ hs.b))
  rintro e w_91 ⟨rfl, hb_91⟩
  replace xa := xa.bl hb_91; replace hs := hs.bl hb_91
  refine hK _ _ rfl trivial ?_
  clear hK K
  refine sq ?_
  refine .mv ?_
  refine sq ?_
  refine .r0 ?_
  refine sq ?_
  refine .r0 ?_
  refine sq ?_
  refine .mv ?_
  refine sq ?_
  refine .mv ?_
  apply wpSq_end
  refine hK25 _ _ ?_
  refine wp_seq_k ?_
  intro K26 hK26
  refine rg [0, 1, 2, 3, 4, 5, 6, 7, 8, 9, 10, 11, 12, 13, 14] ?_
  refine sq ?_
  refine .mv ?_
  refine sq ?_
  refine .r0 ?_
  refine sq ?_
  refine .mv ?_
  refine sq ?_
  refine .mv ?_
  refine sq ?_
  refine .r0 ?_
  refine sq ?_
  refine .r0 ?_
  refine sq ?_
  refine .mv ?_
  refine sq ?_
  refine .mv ?_
  refine sq ?_
  refine .r0 ?_
  refine sq ?_
  refine .r0 ?_
  refine sq ?_
  refine .mv ?_
  refine sq ?_
  refine .mv ?_
  refine sq ?_
  refine .r0 ?_
  refine sq ?_
  refine .r0 ?_
  refine sq ?_
  refine .mv ?_
  apply wpSq_end
  refine hK26 _ _ ?_
  refine wp_ret ?_
  try dsimp only [Exit.then, Exit.inBlock]
  refine bodyPost_ret (v := (.bool true)) (by simp [results, Tryz.results3, go_sem]) rfl ?_
  exact ⟨rfl, hs.b⟩
end Go.Proofs.YtcoodkdalblalaaGreatDoor

