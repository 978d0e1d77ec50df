/- The walk of GintKnown (tools/gengintknown.py prints it). -/
import Derived.Test.YtlomgfgedkkhkaaGreatDoorG16ToRq
namespace Go.Proofs.YtlomgfgedkkhkaaGreatDoor
open Go Go.RowKit Dig
set_option linter.unusedVariables false
set_option linter.unusedSimpArgs false
set_option maxHeartbeats 8000000 in
set_option maxRecDepth 20000 in
theorem walk_GintKnown (w : World) (htab : Lib.TabIs Tryz.prog w p10 .u64 Lib.pow10Tab) :
    Calls Tryz.prog 3 #[] w fun e w' => e = .returned (.bool true) ∧ Below w.heap.size w w' := by
  have htabs := Lib.tabBelow_of_tabIs htab
  have L9 := hide (show ∀ z : Int, z.natAbs < 4294967296 → (dig z.natAbs).length ≤ 1 from fun z h => dig_length_le (by rw [show pw 1 = 4294967296 from rfl]; exact h))
  go_enter Tryz.func3, Tryz.ntmps3
  have hs := St.nil w
  refine wp_seq_k ?_
  intro K1 hK1
  refine rg [0] ?_
  refine sq ?_
  refine .mv ?_
  apply wpSq_end
  refine hK1 _ _ ?_
  refine wp_seq_k ?_
  intro K2 hK2
  refine wp_seq_k ?_
  intro K3 hK3
  refine rg [0, 1, 2, 3, 4, 5, 6, 7, 8, 9, 10, 11, 12, 13, 14, 15, 16, 17, 18, 19, 20, 21, 22] ?_
  refine sq ?_
  intro K hK
  go_big_op
  go_fit (gawake_any _ (htabs _ hs.b))
  rintro e w_1 ⟨rfl, hb_1⟩
  replace hs := hs.bl hb_1
  refine hK _ _ rfl trivial ?_
  clear hK K
  refine sq ?_
  refine .r0 ?_
  refine sq ?_
  refine .mv ?_
  refine sq ?_
  intro K hK
  go_big_op
  go_fit (gg_any (3) (-4) _ (by decide) (by decide) (by decide) (by decide))
  rintro e w_2 ⟨_, rfl, ⟨n_aaa, o_aaa, k_aaa, c_aaa, n_aab, o_aab, k_aab, c_aab, rfl, aa1, aa2⟩, hb_2⟩
  replace hs := hs.bl hb_2
  have Laa1 := hide (aa1.lenOf (L9.out (3) (by decide)))
  have Laa2 := hide (aa2.lenOf (L9.out (-4) (by decide)))
  refine hK _ _ rfl trivial ?_
  clear hK K
  refine sq ?_
  intro K hK
  go_big_op
  go_fit (gNorm_any (.mk' (aa1.zn Laa1.out) (aa2.zn Laa2.out)) (by decide) (by decide))
  rintro e w_3 ⟨v_ac, rfl, ac, hb_3⟩
  replace hs := hs.bl hb_3
  obtain ⟨n_ac, o_ac, k_ac, c_ac, rfl⟩ := ac.open2
  rw [show gN 3 (-4) = 25 by decide +kernel] at ac
  refine hK _ _ rfl trivial ?_
  clear hK K
  refine sq ?_
  intro K hK
  go_big_op
  go_fit (ri_any 25 _ (by decide) (by decide))
  rintro e w_4 ⟨v_ad, rfl, ad, hb_4⟩
  replace hs := hs.bl hb_4
  replace ad := ad.rd
  obtain ⟨n_ad, o_ad, k_ad, c_ad, rfl⟩ := ad.open2
  have Lad := hide (ad.lenOf (L9.out (25) (by decide)))
  refine hK _ _ rfl trivial ?_
  clear hK K
  refine sq ?_
  intro K hK
  have k3_4 := kb hb_4
  replace ac := ac.k k3_4
  go_big_op
  go_fit (rsame_zz ac (ad.zn Lad.out) (by decide))
  rintro e w_5 ⟨rfl, hb_5⟩
  replace hs := hs.bl hb_5
  refine hK _ _ rfl trivial ?_
  clear hK K
  refine sq ?_
  refine .r0 ?_
  refine sq ?_
  refine .r0 ?_
  refine sq ?_
  refine .mv ?_
  refine sq ?_
  intro K hK
  go_big_op
  go_fit (gg_any (2) (1) _ (by decide) (by decide) (by decide) (by decide))
  rintro e w_6 ⟨_, rfl, ⟨n_aea, o_aea, k_aea, c_aea, n_aeb, o_aeb, k_aeb, c_aeb, rfl, ae1, ae2⟩, hb_6⟩
  replace hs := hs.bl hb_6
  have Lae1 := hide (ae1.lenOf (L9.out (2) (by decide)))
  have Lae2 := hide (ae2.lenOf (L9.out (1) (by decide)))
  refine hK _ _ rfl trivial ?_
  clear hK K
  refine sq ?_
  intro K hK
  go_big_op
  go_fit (gTurn_any (-1) (.mk' (ae1.zn Lae1.out) (ae2.zn Lae2.out)) (by decide) (by decide))
  rintro e w_7 ⟨_, rfl, ⟨n_aga, o_aga, k_aga, c_aga, n_agb, o_agb, k_agb, c_agb, rfl, ag1, ag2⟩, hb_7⟩
  replace hs := hs.bl hb_7
  rw [show (turn ((-1 : Int) % 4).toNat ((2 : Int), (1 : Int))) = (1, -2) by decide +kernel] at ag1 ag2
  refine hK _ _ rfl trivial ?_
  clear hK K
  refine sq ?_
  intro K hK
  go_big_op
  go_fit (gg_any (1) (-2) _ (by decide) (by decide) (by decide) (by decide))
  rintro e w_8 ⟨_, rfl, ⟨n_aha, o_aha, k_aha, c_aha, n_ahb, o_ahb, k_ahb, c_ahb, rfl, ah1, ah2⟩, hb_8⟩
  clear aa1 aa2 ac ad ae1 ae2
  replace hs := hs.bl hb_8
  have Lah1 := hide (ah1.lenOf (L9.out (1) (by decide)))
  have Lah2 := hide (ah2.lenOf (L9.out (-2) (by decide)))
  refine hK _ _ rfl trivial ?_
  clear hK K
  refine sq ?_
  intro K hK
  have k7_8 := kb hb_8
  replace ag1 := ag1.k k7_8
  replace ag2 := ag2.k k7_8
  go_big_op
  go_fit (gis_any (.mk' ag1 ag2) (.mk' (ah1.zn Lah1.out) (ah2.zn Lah2.out)) (by decide) (by decide))
  rintro e w_9 ⟨rfl, hb_9⟩
  replace hs := hs.bl hb_9
  refine hK _ _ rfl trivial ?_
  clear hK K
  refine sq ?_
  refine .r0 ?_
  refine sq ?_
  refine .r0 ?_
  refine sq ?_
  refine .mv ?_
  refine sq ?_
  intro K hK
  go_big_op
  go_fit (gg_any (2) (1) _ (by decide) (by decide) (by decide) (by decide))
  rintro e w_10 ⟨_, rfl, ⟨n_aia, o_aia, k_aia, c_aia, n_aib, o_aib, k_aib, c_aib, rfl, ai1, ai2⟩, hb_10⟩
  replace hs := hs.bl hb_10
  have Lai1 := hide (ai1.lenOf (L9.out (2) (by decide)))
  have Lai2 := hide (ai2.lenOf (L9.out (1) (by decide)))
  refine hK _ _ rfl trivial ?_
  clear hK K
  refine sq ?_
  intro K hK
  go_big_op
  go_fit (gTurn_any (4611686018427387905) (.mk' (ai1.zn Lai1.out) (ai2.zn Lai2.out)) (by decide) (by decide))
  rintro e w_11 ⟨_, rfl, ⟨n_aja, o_aja, k_aja, c_aja, n_ajb, o_ajb, k_ajb, c_ajb, rfl, aj1, aj2⟩, hb_11⟩
  replace hs := hs.bl hb_11
  rw [show (turn ((4611686018427387905 : Int) % 4).toNat ((2 : Int), (1 : Int))) = (-1, 2) by decide +kernel] at aj1 aj2
  refine hK _ _ rfl trivial ?_
  clear hK K
  refine sq ?_
  intro K hK
  go_big_op
  go_fit (gg_any (-1) (2) _ (by decide) (by decide) (by decide) (by decide))
  rintro e w_12 ⟨_, rfl, ⟨n_ama, o_ama, k_ama, c_ama, n_amb, o_amb, k_amb, c_amb, rfl, am1, am2⟩, hb_12⟩
  clear ag1 ag2 ah1 ah2 ai1 ai2
  replace hs := hs.bl hb_12
  have Lam1 := hide (am1.lenOf (L9.out (-1) (by decide)))
  have Lam2 := hide (am2.lenOf (L9.out (2) (by decide)))
  refine hK _ _ rfl trivial ?_
  clear hK K
  refine sq ?_
  intro K hK
  have k11_12 := kb hb_12
  replace aj1 := aj1.k k11_12
  replace aj2 := aj2.k k11_12
  go_big_op
  go_fit (gis_any (.mk' aj1 aj2) (.mk' (am1.zn Lam1.out) (am2.zn Lam2.out)) (by decide) (by decide))
  rintro e w_13 ⟨rfl, hb_13⟩
  replace hs := hs.bl hb_13
  refine hK _ _ rfl trivial ?_
  clear hK K
  refine sq ?_
  refine .r0 ?_
  refine sq ?_
  refine .r0 ?_
  apply wpSq_end
  refine hK3 _ _ ?_
  refine cf ?_
  refine wp_skip ?_
  refine hK2 _ _ ?_
  refine wp_seq_k ?_
  intro K4 hK4
  refine rg [0, 1, 2, 3, 4, 5, 6, 7] ?_
  refine sq ?_
  intro K hK
  go_big_op
  go_fit (gg_any (-2) (1) _ (by decide) (by decide) (by decide) (by decide))
  rintro e w_14 ⟨_, rfl, ⟨n_apa, o_apa, k_apa, c_apa, n_apb, o_apb, k_apb, c_apb, rfl, ap1, ap2⟩, hb_14⟩
  replace hs := hs.bl hb_14
  have Lap1 := hide (ap1.lenOf (L9.out (-2) (by decide)))
  have Lap2 := hide (ap2.lenOf (L9.out (1) (by decide)))
  refine hK _ _ rfl trivial ?_
  clear hK K
  refine sq ?_
  intro K hK
  go_big_op
  go_fit (gCanon_any (.mk' (ap1.zn Lap1.out) (ap2.zn Lap2.out)) (by decide) (by decide))
  rintro e w_15 ⟨_, rfl, ⟨n_aqa, o_aqa, k_aqa, c_aqa, n_aqb, o_aqb, k_aqb, c_aqb, rfl, aq1, aq2⟩, hb_15⟩
  replace hs := hs.bl hb_15
  rw [show (turn (kq (-2) (1)) ((-2 : Int), (1 : Int))) = (1, 2) by decide +kernel] at aq1 aq2
  refine hK _ _ rfl trivial ?_
  clear hK K
  refine sq ?_
  refine .mv ?_
  refine sq ?_
  refine .r0 ?_
  refine sq ?_
  refine .r0 ?_
  refine sq ?_
  refine .al hs ?_; clear hs; intro p_b1 w_16 hs n16 kb_b1
  clear aj1 aj2 am1 am2 ap1 ap2
  refine sq ?_
  refine .s4 hs.g0 (fun _ => hs.u0 kb_b1) ?_; clear hs; intro w_17 hs hd17 ho17
  refine sq ?_
  refine .mv ?_
  apply wpSq_end
  refine hK4 _ _ ?_
  refine wp_seq_k ?_
  intro K5 hK5
  refine rg [0, 1, 2, 3, 4, 5, 6, 7] ?_
  refine sq ?_
  intro K hK
  go_big_op
  go_fit (gg_any (0) (-3) _ (by decide) (by decide) (by decide) (by decide))
  rintro e w_18 ⟨_, rfl, ⟨n_aua, o_aua, k_aua, c_aua, n_aub, o_aub, k_aub, c_aub, rfl, au1, au2⟩, hb_18⟩
  replace hs := hs.bl hb_18
  have Lau1 := hide (au1.lenOf (L9.out (0) (by decide)))
  have Lau2 := hide (au2.lenOf (L9.out (-3) (by decide)))
  refine hK _ _ rfl trivial ?_
  clear hK K
  refine sq ?_
  intro K hK
  go_big_op
  go_fit (gCanon_any (.mk' (au1.zn Lau1.out) (au2.zn Lau2.out)) (by decide) (by decide))
  rintro e w_19 ⟨_, rfl, ⟨n_ava, o_ava, k_ava, c_ava, n_avb, o_avb, k_avb, c_avb, rfl, av1, av2⟩, hb_19⟩
  replace hs := hs.bl hb_19
  rw [show (turn (kq (0) (-3)) ((0 : Int), (-3 : Int))) = (3, 0) by decide +kernel] at av1 av2
  refine hK _ _ rfl trivial ?_
  clear hK K
  refine sq ?_
  refine .mv ?_
  refine sq ?_
  refine .r0 ?_
  refine sq ?_
  refine .r0 ?_
  refine sq ?_
  refine .al hs ?_; clear hs; intro p_b2 w_20 hs n20 kb_b2
  refine sq ?_
  refine .s4 hs.g0 (fun _ => hs.u0 kb_b2) ?_; clear hs; intro w_21 hs hd21 ho21
  refine sq ?_
  refine .mv ?_
  apply wpSq_end
  refine hK5 _ _ ?_
  refine wp_seq_k ?_
  intro K6 hK6
  refine rg [0, 1, 2, 3, 4, 5, 6, 7] ?_
  refine sq ?_
  intro K hK
  go_big_op
  go_fit (gg_any (0) (0) _ (by decide) (by decide) (by decide) (by decide))
  rintro e w_22 ⟨_, rfl, ⟨n_aya, o_aya, k_aya, c_aya, n_ayb, o_ayb, k_ayb, c_ayb, rfl, ay1, ay2⟩, hb_22⟩
  replace hs := hs.bl hb_22
  have Lay1 := hide (ay1.lenOf (L9.out (0) (by decide)))
  have Lay2 := hide (ay2.lenOf (L9.out (0) (by decide)))
  refine hK _ _ rfl trivial ?_
  clear hK K
  refine sq ?_
  intro K hK
  go_big_op
  go_fit (gCanon_any (.mk' (ay1.zn Lay1.out) (ay2.zn Lay2.out)) (by decide) (by decide))
  rintro e w_23 ⟨_, rfl, ⟨n_aza, o_aza, k_aza, c_aza, n_azb, o_azb, k_azb, c_azb, rfl, az1, az2⟩, hb_23⟩
  replace hs := hs.bl hb_23
  rw [show (turn (kq (0) (0)) ((0 : Int), (0 : Int))) = (0, 0) by decide +kernel] at az1 az2
  refine hK _ _ rfl trivial ?_
  clear hK K
  refine sq ?_
  refine .mv ?_
  refine sq ?_
  refine .r0 ?_
  refine sq ?_
  refine .r0 ?_
  refine sq ?_
  refine .al hs ?_; clear hs; intro p_b3 w_24 hs n24 kb_b3
  refine sq ?_
  refine .s4 hs.g0 (fun _ => hs.u0 kb_b3) ?_; clear hs; intro w_25 hs hd25 ho25
  refine sq ?_
  refine .mv ?_
  apply wpSq_end
  refine hK6 _ _ ?_
  refine wp_seq_k ?_
  intro K7 hK7
  refine wp_seq_k ?_
  intro K8 hK8
  refine wp_region_f5 [(0, false), (1, true), (2, true), (3, false), (4, false), (5, false), (6, false), (7, false), (8, false), (9, false), (10, true), (11, true), (12, false), (13, false), (14, false), (15, false), (16, false), (17, false), (18, false), (19, false), (20, true), (21, true), (22, false), (23, false), (24, false), (25, false), (26, false), (27, false)] (fun _ => default) [0, 99, 99, 99, 99, 99, 99, 99, 99, 1, 99, 99, 99, 99, 99, 99, 99, 99, 99, 2, 99, 99, 99, 99, 99, 99, 99, 99] [] (.c hs.g2 (.c hs.g1 (.c hs.g0 .n))) fn fun w_26 n26 => ?_
  replace hs := hs.bl n26
  refine f4 ?_
  refine fl fun w_27 n27 => ?_
  replace hs := hs.bl n27
  intro K hK
  go_big_op
  go_fit (gg_any (1) (2) _ (by decide) (by decide) (by decide) (by decide))
  rintro e w_28 ⟨_, rfl, ⟨n_baa, o_baa, k_baa, c_baa, n_bab, o_bab, k_bab, c_bab, rfl, ba1, ba2⟩, hb_28⟩
  replace hs := hs.bl hb_28
  have Lba1 := hide (ba1.lenOf (L9.out (1) (by decide)))
  have Lba2 := hide (ba2.lenOf (L9.out (2) (by decide)))
  refine hK _ _ rfl ⟨hb_28, (And.intro hs.g2 (And.intro hs.g1 (And.intro hs.g0 trivial)))⟩ ?_
  clear hK K
  refine fl fun w_29 n29 => ?_
  replace hs := hs.bl n29
  intro K hK
  have k15_29 := (((((((((((((kb n16).o hd17 ho17).b hb_18).b hb_19).b n20).o hd21 ho21).b hb_22).b hb_23).b n24).o hd25 ho25).b n26).b n27).b hb_28).b n29
  replace aq1 := aq1.k k15_29
  replace aq2 := aq2.k k15_29
  have k28_29 := kb n29
  replace ba1 := ba1.k k28_29
  replace ba2 := ba2.k k28_29
  go_big_op
  go_fit (gis_any (.mk' aq1 aq2) (.mk' (ba1.zn Lba1.out) (ba2.zn Lba2.out)) (by decide) (by decide))
  rintro e w_30 ⟨rfl, hb_30⟩
  replace hs := hs.bl hb_30
  refine hK _ _ rfl ⟨hb_30, (And.intro hs.g2 (And.intro hs.g1 (And.intro hs.g0 trivial)))⟩ ?_
  clear hK K
  refine f0 ?_
  refine fmv ?_
  refine fmv ?_
  refine f0 ?_
  refine f0 ?_
  refine fmv ?_
  refine f4 ?_
  refine fl fun w_31 n31 => ?_
  clear au1 au2 ay1 ay2 ba1 ba2
  replace hs := hs.bl n31
  intro K hK
  go_big_op
  go_fit (gg_any (3) (0) _ (by decide) (by decide) (by decide) (by decide))
  rintro e w_32 ⟨_, rfl, ⟨n_bca, o_bca, k_bca, c_bca, n_bcb, o_bcb, k_bcb, c_bcb, rfl, bc1, bc2⟩, hb_32⟩
  replace hs := hs.bl hb_32
  have Lbc1 := hide (bc1.lenOf (L9.out (3) (by decide)))
  have Lbc2 := hide (bc2.lenOf (L9.out (0) (by decide)))
  refine hK _ _ rfl ⟨hb_32, (And.intro hs.g2 (And.intro hs.g1 (And.intro hs.g0 trivial)))⟩ ?_
  clear hK K
  refine fl fun w_33 n33 => ?_
  replace hs := hs.bl n33
  intro K hK
  have k19_33 := (((((((((((((kb n20).o hd21 ho21).b hb_22).b hb_23).b n24).o hd25 ho25).b n26).b n27).b hb_28).b n29).b hb_30).b n31).b hb_32).b n33
  replace av1 := av1.k k19_33
  replace av2 := av2.k k19_33
  have k32_33 := kb n33
  replace bc1 := bc1.k k32_33
  replace bc2 := bc2.k k32_33
  go_big_op
  go_fit (gis_any (.mk' av1 av2) (.mk' (bc1.zn Lbc1.out) (bc2.zn Lbc2.out)) (by decide) (by decide))
  rintro e w_34 ⟨rfl, hb_34⟩
  replace hs := hs.bl hb_34
  refine hK _ _ rfl ⟨hb_34, (And.intro hs.g2 (And.intro hs.g1 (And.intro hs.g0 trivial)))⟩ ?_
  clear hK K
  refine f0 ?_
  refine f0 ?_
  refine fmv ?_
  refine fmv ?_
  refine f0 ?_
  refine f0 ?_
  refine fmv ?_
  refine f4 ?_
  refine fl fun w_35 n35 => ?_
  replace hs := hs.bl n35
  intro K hK
  go_big_op
  go_fit (gg_any (0) (0) _ (by decide) (by decide) (by decide) (by decide))
  rintro e w_36 ⟨_, rfl, ⟨n_bda, o_bda, k_bda, c_bda, n_bdb, o_bdb, k_bdb, c_bdb, rfl, bd1, bd2⟩, hb_36⟩
  replace hs := hs.bl hb_36
  have Lbd1 := hide (bd1.lenOf (L9.out (0) (by decide)))
  have Lbd2 := hide (bd2.lenOf (L9.out (0) (by decide)))
  refine hK _ _ rfl ⟨hb_36, (And.intro hs.g2 (And.intro hs.g1 (And.intro hs.g0 trivial)))⟩ ?_
  clear hK K
  refine fl fun w_37 n37 => ?_
  replace hs := hs.bl n37
  intro K hK
  have k23_37 := (((((((((((((kb n24).o hd25 ho25).b n26).b n27).b hb_28).b n29).b hb_30).b n31).b hb_32).b n33).b hb_34).b n35).b hb_36).b n37
  replace az1 := az1.k k23_37
  replace az2 := az2.k k23_37
  have k36_37 := kb n37
  replace bd1 := bd1.k k36_37
  replace bd2 := bd2.k k36_37
  go_big_op
  go_fit (gis_any (.mk' az1 az2) (.mk' (bd1.zn Lbd1.out) (bd2.zn Lbd2.out)) (by decide) (by decide))
  rintro e w_38 ⟨rfl, hb_38⟩
  replace hs := hs.bl hb_38
  refine hK _ _ rfl ⟨hb_38, (And.intro hs.g2 (And.intro hs.g1 (And.intro hs.g0 trivial)))⟩ ?_
  clear hK K
  refine f0 ?_
  refine f0 ?_
  refine fmv ?_
  refine fmv ?_
  refine f0 ?_
  refine f0 ?_
  refine e0 hs ?_; clear hs; intro w_39 hs n39
  apply wpTail_end
  refine hK8 _ _ ?_
  refine cf ?_
  refine wp_skip ?_
  refine hK7 _ _ ?_
  refine wp_seq_k ?_
  intro K9 hK9
  refine wp_seq_k ?_
  intro K10 hK10
  refine rg [0, 1, 2, 3, 4, 5, 6, 7, 8, 9, 10, 11, 12, 13, 14, 15, 16, 17, 18, 19, 20, 21, 22, 23, 24, 25, 26, 27, 28, 29] ?_
  refine sq ?_
  intro K hK
  go_big_op
  go_fit (gg_any (7) (3) _ (by decide) (by decide) (by decide) (by decide))
  rintro e w_40 ⟨_, rfl, ⟨n_bea, o_bea, k_bea, c_bea, n_beb, o_beb, k_beb, c_beb, rfl, be1, be2⟩, hb_40⟩
  clear bc1 bc2 bd1 bd2 av1 av2 az1 az2
  replace hs := hs.bl hb_40
  have Lbe1 := hide (be1.lenOf (L9.out (7) (by decide)))
  have Lbe2 := hide (be2.lenOf (L9.out (3) (by decide)))
  refine hK _ _ rfl trivial ?_
  clear hK K
  refine sq ?_
  intro K hK
  go_big_op
  go_fit (gg_any (2) (0) _ (by decide) (by decide) (by decide) (by decide))
  rintro e w_41 ⟨_, rfl, ⟨n_bga, o_bga, k_bga, c_bga, n_bgb, o_bgb, k_bgb, c_bgb, rfl, bg1, bg2⟩, hb_41⟩
  replace hs := hs.bl hb_41
  have Lbg1 := hide (bg1.lenOf (L9.out (2) (by decide)))
  have Lbg2 := hide (bg2.lenOf (L9.out (0) (by decide)))
  refine hK _ _ rfl trivial ?_
  clear hK K
  refine sq ?_
  intro K hK
  go_big_op
  go_fit (gg_any (4) (2) _ (by decide) (by decide) (by decide) (by decide))
  rintro e w_42 ⟨_, rfl, ⟨n_bha, o_bha, k_bha, c_bha, n_bhb, o_bhb, k_bhb, c_bhb, rfl, bh1, bh2⟩, hb_42⟩
  replace hs := hs.bl hb_42
  have Lbh1 := hide (bh1.lenOf (L9.out (4) (by decide)))
  have Lbh2 := hide (bh2.lenOf (L9.out (2) (by decide)))
  refine hK _ _ rfl trivial ?_
  clear hK K
  refine sq ?_
  intro K hK
  go_big_op
  go_fit (gg_any (-1) (-1) _ (by decide) (by decide) (by decide) (by decide))
  rintro e w_43 ⟨_, rfl, ⟨n_bia, o_bia, k_bia, c_bia, n_bib, o_bib, k_bib, c_bib, rfl, bi1, bi2⟩, hb_43⟩
  replace hs := hs.bl hb_43
  have Lbi1 := hide (bi1.lenOf (L9.out (-1) (by decide)))
  have Lbi2 := hide (bi2.lenOf (L9.out (-1) (by decide)))
  refine hK _ _ rfl trivial ?_
  clear hK K
  refine sq ?_
  intro K hK
  have k40_43 := ((kb hb_41).b hb_42).b hb_43
  replace be1 := be1.k k40_43
  replace be2 := be2.k k40_43
  have k41_43 := (kb hb_42).b hb_43
  replace bg1 := bg1.k k41_43
  replace bg2 := bg2.k k41_43
  have k42_43 := kb hb_43
  replace bh1 := bh1.k k42_43
  replace bh2 := bh2.k k42_43
  go_big_op
  go_fit (divided_yes (.mk' (be1.zn Lbe1.out) (be2.zn Lbe2.out)) (.mk' (bg1.zn Lbg1.out) (bg2.zn Lbg2.out)) (.mk' (bh1.zn Lbh1.out) (bh2.zn Lbh2.out)) (.mk' (bi1.zn Lbi1.out) (bi2.zn Lbi2.out)) (by decide) (by decide) (by decide) (by decide) (by decide) (by decide) (by decide) (by decide) (by decide +kernel) (by decide +kernel))
  rintro e w_44 ⟨rfl, hb_44⟩
  replace hs := hs.bl hb_44
  refine hK _ _ rfl trivial ?_
  clear hK K
  refine sq ?_
  refine .r0 ?_
  refine sq ?_
  refine .mv ?_
  refine sq ?_
  intro K hK
  go_big_op
  go_fit (gg_any (1) (1) _ (by decide) (by decide) (by decide) (by decide))
  rintro e w_45 ⟨_, rfl, ⟨n_bja, o_bja, k_bja, c_bja, n_bjb, o_bjb, k_bjb, c_bjb, rfl, bj1, bj2⟩, hb_45⟩
  clear be1 be2 bg1 bg2 bh1 bh2 bi1 bi2
  replace hs := hs.bl hb_45
  have Lbj1 := hide (bj1.lenOf (L9.out (1) (by decide)))
  have Lbj2 := hide (bj2.lenOf (L9.out (1) (by decide)))
  refine hK _ _ rfl trivial ?_
  clear hK K
  refine sq ?_
  intro K hK
  go_big_op
  go_fit (gg_any (2) (0) _ (by decide) (by decide) (by decide) (by decide))
  rintro e w_46 ⟨_, rfl, ⟨n_bma, o_bma, k_bma, c_bma, n_bmb, o_bmb, k_bmb, c_bmb, rfl, bm1, bm2⟩, hb_46⟩
  replace hs := hs.bl hb_46
  have Lbm1 := hide (bm1.lenOf (L9.out (2) (by decide)))
  have Lbm2 := hide (bm2.lenOf (L9.out (0) (by decide)))
  refine hK _ _ rfl trivial ?_
  clear hK K
  refine sq ?_
  intro K hK
  go_big_op
  go_fit (gg_any (1) (1) _ (by decide) (by decide) (by decide) (by decide))
  rintro e w_47 ⟨_, rfl, ⟨n_bpa, o_bpa, k_bpa, c_bpa, n_bpb, o_bpb, k_bpb, c_bpb, rfl, bp1, bp2⟩, hb_47⟩
  replace hs := hs.bl hb_47
  have Lbp1 := hide (bp1.lenOf (L9.out (1) (by decide)))
  have Lbp2 := hide (bp2.lenOf (L9.out (1) (by decide)))
  refine hK _ _ rfl trivial ?_
  clear hK K
  refine sq ?_
  intro K hK
  go_big_op
  go_fit (gg_any (-1) (-1) _ (by decide) (by decide) (by decide) (by decide))
  rintro e w_48 ⟨_, rfl, ⟨n_bqa, o_bqa, k_bqa, c_bqa, n_bqb, o_bqb, k_bqb, c_bqb, rfl, bq1, bq2⟩, hb_48⟩
  replace hs := hs.bl hb_48
  have Lbq1 := hide (bq1.lenOf (L9.out (-1) (by decide)))
  have Lbq2 := hide (bq2.lenOf (L9.out (-1) (by decide)))
  refine hK _ _ rfl trivial ?_
  clear hK K
  refine sq ?_
  intro K hK
  have k45_48 := ((kb hb_46).b hb_47).b hb_48
  replace bj1 := bj1.k k45_48
  replace bj2 := bj2.k k45_48
  have k46_48 := (kb hb_47).b hb_48
  replace bm1 := bm1.k k46_48
  replace bm2 := bm2.k k46_48
  have k47_48 := kb hb_48
  replace bp1 := bp1.k k47_48
  replace bp2 := bp2.k k47_48
  go_big_op
  go_fit (divided_yes (.mk' (bj1.zn Lbj1.out) (bj2.zn Lbj2.out)) (.mk' (bm1.zn Lbm1.out) (bm2.zn Lbm2.out)) (.mk' (bp1.zn Lbp1.out) (bp2.zn Lbp2.out)) (.mk' (bq1.zn Lbq1.out) (bq2.zn Lbq2.out)) (by decide) (by decide) (by decide) (by decide) (by decide) (by decide) (by decide) (by decide) (by decide +kernel) (by decide +kernel))
  rintro e w_49 ⟨rfl, hb_49⟩
  replace hs := hs.bl hb_49
  refine hK _ _ rfl trivial ?_
  clear hK K
  refine sq ?_
  refine .r0 ?_
  refine sq ?_
  refine .r0 ?_
  refine sq ?_
  refine .mv ?_
  refine sq ?_
  intro K hK
  go_big_op
  go_fit (gg_any (-1) (-1) _ (by decide) (by decide) (by decide) (by decide))
  rintro e w_50 ⟨_, rfl, ⟨n_bta, o_bta, k_bta, c_bta, n_btb, o_btb, k_btb, c_btb, rfl, bt1, bt2⟩, hb_50⟩
  clear bj1 bj2 bm1 bm2 bp1 bp2 bq1 bq2
  replace hs := hs.bl hb_50
  have Lbt1 := hide (bt1.lenOf (L9.out (-1) (by decide)))
  have Lbt2 := hide (bt2.lenOf (L9.out (-1) (by decide)))
  refine hK _ _ rfl trivial ?_
  clear hK K
  refine sq ?_
  intro K hK
  go_big_op
  go_fit (gg_any (2) (0) _ (by decide) (by decide) (by decide) (by decide))
  rintro e w_51 ⟨_, rfl, ⟨n_bua, o_bua, k_bua, c_bua, n_bub, o_bub, k_bub, c_bub, rfl, bu1, bu2⟩, hb_51⟩
  replace hs := hs.bl hb_51
  have Lbu1 := hide (bu1.lenOf (L9.out (2) (by decide)))
  have Lbu2 := hide (bu2.lenOf (L9.out (0) (by decide)))
  refine hK _ _ rfl trivial ?_
  clear hK K
  refine sq ?_
  intro K hK
  go_big_op
  go_fit (gg_any (0) (0) _ (by decide) (by decide) (by decide) (by decide))
  rintro e w_52 ⟨_, rfl, ⟨n_bva, o_bva, k_bva, c_bva, n_bvb, o_bvb, k_bvb, c_bvb, rfl, bv1, bv2⟩, hb_52⟩
  replace hs := hs.bl hb_52
  have Lbv1 := hide (bv1.lenOf (L9.out (0) (by decide)))
  have Lbv2 := hide (bv2.lenOf (L9.out (0) (by decide)))
  refine hK _ _ rfl trivial ?_
  clear hK K
  refine sq ?_
  intro K hK
  go_big_op
  go_fit (gg_any (-1) (-1) _ (by decide) (by decide) (by decide) (by decide))
  rintro e w_53 ⟨_, rfl, ⟨n_bza, o_bza, k_bza, c_bza, n_bzb, o_bzb, k_bzb, c_bzb, rfl, bz1, bz2⟩, hb_53⟩
  replace hs := hs.bl hb_53
  have Lbz1 := hide (bz1.lenOf (L9.out (-1) (by decide)))
  have Lbz2 := hide (bz2.lenOf (L9.out (-1) (by decide)))
  refine hK _ _ rfl trivial ?_
  clear hK K
  refine sq ?_
  intro K hK
  have k50_53 := ((kb hb_51).b hb_52).b hb_53
  replace bt1 := bt1.k k50_53
  replace bt2 := bt2.k k50_53
  have k51_53 := (kb hb_52).b hb_53
  replace bu1 := bu1.k k51_53
  replace bu2 := bu2.k k51_53
  have k52_53 := kb hb_53
  replace bv1 := bv1.k k52_53
  replace bv2 := bv2.k k52_53
  go_big_op
  go_fit (divided_yes (.mk' (bt1.zn Lbt1.out) (bt2.zn Lbt2.out)) (.mk' (bu1.zn Lbu1.out) (bu2.zn Lbu2.out)) (.mk' (bv1.zn Lbv1.out) (bv2.zn Lbv2.out)) (.mk' (bz1.zn Lbz1.out) (bz2.zn Lbz2.out)) (by decide) (by decide) (by decide) (by decide) (by decide) (by decide) (by decide) (by decide) (by decide +kernel) (by decide +kernel))
  rintro e w_54 ⟨rfl, hb_54⟩
  replace hs := hs.bl hb_54
  refine hK _ _ rfl trivial ?_
  clear hK K
  refine sq ?_
  refine .r0 ?_
  refine sq ?_
  refine .r0 ?_
  refine sq ?_
  refine .mv ?_
  refine sq ?_
  intro K hK
  go_big_op
  go_fit (gg_any (5) (0) _ (by decide) (by decide) (by decide) (by decide))
  rintro e w_55 ⟨_, rfl, ⟨n_caa, o_caa, k_caa, c_caa, n_cab, o_cab, k_cab, c_cab, rfl, ca1, ca2⟩, hb_55⟩
  clear bt1 bt2 bu1 bu2 bv1 bv2 bz1 bz2
  replace hs := hs.bl hb_55
  have Lca1 := hide (ca1.lenOf (L9.out (5) (by decide)))
  have Lca2 := hide (ca2.lenOf (L9.out (0) (by decide)))
  refine hK _ _ rfl trivial ?_
  clear hK K
  refine sq ?_
  intro K hK
  go_big_op
  go_fit (gg_any (2) (1) _ (by decide) (by decide) (by decide) (by decide))
  rintro e w_56 ⟨_, rfl, ⟨n_cca, o_cca, k_cca, c_cca, n_ccb, o_ccb, k_ccb, c_ccb, rfl, cc1, cc2⟩, hb_56⟩
  replace hs := hs.bl hb_56
  have Lcc1 := hide (cc1.lenOf (L9.out (2) (by decide)))
  have Lcc2 := hide (cc2.lenOf (L9.out (1) (by decide)))
  refine hK _ _ rfl trivial ?_
  clear hK K
  refine sq ?_
  intro K hK
  go_big_op
  go_fit (gg_any (2) (-1) _ (by decide) (by decide) (by decide) (by decide))
  rintro e w_57 ⟨_, rfl, ⟨n_cda, o_cda, k_cda, c_cda, n_cdb, o_cdb, k_cdb, c_cdb, rfl, cd1, cd2⟩, hb_57⟩
  replace hs := hs.bl hb_57
  have Lcd1 := hide (cd1.lenOf (L9.out (2) (by decide)))
  have Lcd2 := hide (cd2.lenOf (L9.out (-1) (by decide)))
  refine hK _ _ rfl trivial ?_
  clear hK K
  refine sq ?_
  intro K hK
  go_big_op
  go_fit (gg_any (0) (0) _ (by decide) (by decide) (by decide) (by decide))
  rintro e w_58 ⟨_, rfl, ⟨n_cea, o_cea, k_cea, c_cea, n_ceb, o_ceb, k_ceb, c_ceb, rfl, ce1, ce2⟩, hb_58⟩
  replace hs := hs.bl hb_58
  have Lce1 := hide (ce1.lenOf (L9.out (0) (by decide)))
  have Lce2 := hide (ce2.lenOf (L9.out (0) (by decide)))
  refine hK _ _ rfl trivial ?_
  clear hK K
  refine sq ?_
  intro K hK
  have k55_58 := ((kb hb_56).b hb_57).b hb_58
  replace ca1 := ca1.k k55_58
  replace ca2 := ca2.k k55_58
  have k56_58 := (kb hb_57).b hb_58
  replace cc1 := cc1.k k56_58
  replace cc2 := cc2.k k56_58
  have k57_58 := kb hb_58
  replace cd1 := cd1.k k57_58
  replace cd2 := cd2.k k57_58
  go_big_op
  go_fit (divided_yes (.mk' (ca1.zn Lca1.out) (ca2.zn Lca2.out)) (.mk' (cc1.zn Lcc1.out) (cc2.zn Lcc2.out)) (.mk' (cd1.zn Lcd1.out) (cd2.zn Lcd2.out)) (.mk' (ce1.zn Lce1.out) (ce2.zn Lce2.out)) (by decide) (by decide) (by decide) (by decide) (by decide) (by decide) (by decide) (by decide) (by decide +kernel) (by decide +kernel))
  rintro e w_59 ⟨rfl, hb_59⟩
  replace hs := hs.bl hb_59
  refine hK _ _ rfl trivial ?_
  clear hK K
  refine sq ?_
  refine .r0 ?_
  refine sq ?_
  refine .r0 ?_
  apply wpSq_end
  refine hK10 _ _ ?_
  refine cf ?_
  refine wp_skip ?_
  refine hK9 _ _ ?_
  refine wp_seq_k ?_
  intro K11 hK11
  refine rg [0, 1, 2, 3, 4, 5, 6, 7] ?_
  refine sq ?_
  intro K hK
  go_big_op
  go_fit (gg_any (5) (0) _ (by decide) (by decide) (by decide) (by decide))
  rintro e w_60 ⟨_, rfl, ⟨n_cga, o_cga, k_cga, c_cga, n_cgb, o_cgb, k_cgb, c_cgb, rfl, cg1, cg2⟩, hb_60⟩
  clear ca1 ca2 cc1 cc2 cd1 cd2 ce1 ce2
  replace hs := hs.bl hb_60
  have Lcg1 := hide (cg1.lenOf (L9.out (5) (by decide)))
  have Lcg2 := hide (cg2.lenOf (L9.out (0) (by decide)))
  refine hK _ _ rfl trivial ?_
  clear hK K
  refine sq ?_
  intro K hK
  go_big_op
  go_fit (gg_any (2) (1) _ (by decide) (by decide) (by decide) (by decide))
  rintro e w_61 ⟨_, rfl, ⟨n_cha, o_cha, k_cha, c_cha, n_chb, o_chb, k_chb, c_chb, rfl, ch1, ch2⟩, hb_61⟩
  replace hs := hs.bl hb_61
  have Lch1 := hide (ch1.lenOf (L9.out (2) (by decide)))
  have Lch2 := hide (ch2.lenOf (L9.out (1) (by decide)))
  refine hK _ _ rfl trivial ?_
  clear hK K
  refine sq ?_
  intro K hK
  have k60_61 := kb hb_61
  replace cg1 := cg1.k k60_61
  replace cg2 := cg2.k k60_61
  go_big_op
  go_fit (gExact_any (.mk' (cg1.zn Lcg1.out) (cg2.zn Lcg2.out)) (.mk' (ch1.zn Lch1.out) (ch2.zn Lch2.out)) (by decide) (by decide) (by decide) (by decide) (by decide +kernel) (by decide +kernel) (by decide +kernel))
  rintro e w_62 ⟨_, rfl, ⟨n_cia, o_cia, k_cia, c_cia, n_cib, o_cib, k_cib, c_cib, rfl, ci1, ci2⟩, hb_62⟩
  replace hs := hs.bl hb_62
  rw [show (gT1 5 0 2 1).fdiv (gN 2 1) = 2 by decide +kernel] at ci1
  rw [show (gT2 5 0 2 1).fdiv (gN 2 1) = -1 by decide +kernel] at ci2
  refine hK _ _ rfl trivial ?_
  clear hK K
  refine sq ?_
  refine .mv ?_
  refine sq ?_
  refine .r0 ?_
  refine sq ?_
  refine .r0 ?_
  refine sq ?_
  refine .s4 hs.g2 (fun _ => hs.u2 kb_b1) ?_; clear hs; intro w_63 hs hd63 ho63
  clear aq1 aq2 cg1 cg2 ch1 ch2
  refine sq ?_
  refine .mv ?_
  apply wpSq_end
  refine hK11 _ _ ?_
  refine wp_seq_k ?_
  intro K12 hK12
  refine rg [0, 1, 2, 3, 4, 5, 6, 7, 8] ?_
  refine sq ?_
  intro K hK
  go_big_op
  go_fit (gg_any (3) (0) _ (by decide) (by decide) (by decide) (by decide))
  rintro e w_64 ⟨_, rfl, ⟨n_cja, o_cja, k_cja, c_cja, n_cjb, o_cjb, k_cjb, c_cjb, rfl, cj1, cj2⟩, hb_64⟩
  replace hs := hs.bl hb_64
  have Lcj1 := hide (cj1.lenOf (L9.out (3) (by decide)))
  have Lcj2 := hide (cj2.lenOf (L9.out (0) (by decide)))
  refine hK _ _ rfl trivial ?_
  clear hK K
  refine sq ?_
  intro K hK
  go_big_op
  go_fit (gg_any (1) (1) _ (by decide) (by decide) (by decide) (by decide))
  rintro e w_65 ⟨_, rfl, ⟨n_cma, o_cma, k_cma, c_cma, n_cmb, o_cmb, k_cmb, c_cmb, rfl, cm1, cm2⟩, hb_65⟩
  replace hs := hs.bl hb_65
  have Lcm1 := hide (cm1.lenOf (L9.out (1) (by decide)))
  have Lcm2 := hide (cm2.lenOf (L9.out (1) (by decide)))
  refine hK _ _ rfl trivial ?_
  clear hK K
  refine sq ?_
  intro K hK
  have k64_65 := kb hb_65
  replace cj1 := cj1.k k64_65
  replace cj2 := cj2.k k64_65
  go_big_op
  go_fit (gExact_rest (.mk' (cj1.zn Lcj1.out) (cj2.zn Lcj2.out)) (.mk' (cm1.zn Lcm1.out) (cm2.zn Lcm2.out)) (by decide) (by decide) (by decide) (by decide) (by decide +kernel) (by decide +kernel))
  rintro e w_66 ⟨rfl, hb_66⟩
  replace hs := hs.bl hb_66
  refine hK _ _ rfl trivial ?_
  clear hK K
  refine sq ?_
  refine .mv ?_
  refine sq ?_
  refine .r0 ?_
  refine sq ?_
  refine .r0 ?_
  refine sq ?_
  refine .al hs ?_; clear hs; intro p_b4 w_67 hs n67 kb_b4
  refine sq ?_
  refine .s4 hs.g0 (fun _ => hs.u0 kb_b4) ?_; clear hs; intro w_68 hs hd68 ho68
  refine sq ?_
  refine .mv ?_
  apply wpSq_end
  refine hK12 _ _ ?_
  refine wp_seq_k ?_
  intro K13 hK13
  refine rg [0, 1, 2, 3, 4, 5, 6, 7, 8] ?_
  refine sq ?_
  intro K hK
  go_big_op
  go_fit (gg_any (1) (0) _ (by decide) (by decide) (by decide) (by decide))
  rintro e w_69 ⟨_, rfl, ⟨n_cpa, o_cpa, k_cpa, c_cpa, n_cpb, o_cpb, k_cpb, c_cpb, rfl, cp1, cp2⟩, hb_69⟩
  replace hs := hs.bl hb_69
  have Lcp1 := hide (cp1.lenOf (L9.out (1) (by decide)))
  have Lcp2 := hide (cp2.lenOf (L9.out (0) (by decide)))
  refine hK _ _ rfl trivial ?_
  clear hK K
  refine sq ?_
  intro K hK
  go_big_op
  go_fit (gg_any (0) (0) _ (by decide) (by decide) (by decide) (by decide))
  rintro e w_70 ⟨_, rfl, ⟨n_cqa, o_cqa, k_cqa, c_cqa, n_cqb, o_cqb, k_cqb, c_cqb, rfl, cq1, cq2⟩, hb_70⟩
  replace hs := hs.bl hb_70
  have Lcq1 := hide (cq1.lenOf (L9.out (0) (by decide)))
  have Lcq2 := hide (cq2.lenOf (L9.out (0) (by decide)))
  refine hK _ _ rfl trivial ?_
  clear hK K
  refine sq ?_
  intro K hK
  have k69_70 := kb hb_70
  replace cp1 := cp1.k k69_70
  replace cp2 := cp2.k k69_70
  go_big_op
  go_fit (gExact_zero (.mk' (cp1.zn Lcp1.out) (cp2.zn Lcp2.out)) (.mk' (cq1.zn Lcq1.out) (cq2.zn Lcq2.out)) (by decide) (by decide) (by decide) (by decide))
  rintro e w_71 ⟨rfl, hb_71⟩
  replace hs := hs.bl hb_71
  refine hK _ _ rfl trivial ?_
  clear hK K
  refine sq ?_
  refine .mv ?_
  refine sq ?_
  refine .r0 ?_
  refine sq ?_
  refine .r0 ?_
  refine sq ?_
  refine .al hs ?_; clear hs; intro p_b5 w_72 hs n72 kb_b5
  clear cj1 cj2 cm1 cm2 cp1 cp2 cq1 cq2
  refine sq ?_
  refine .s4 hs.g0 (fun _ => hs.u0 kb_b5) ?_; clear hs; intro w_73 hs hd73 ho73
  refine sq ?_
  refine .mv ?_
  apply wpSq_end
  refine hK13 _ _ ?_
  refine wp_seq_k ?_
  intro K14 hK14
  refine wp_seq_k ?_
  intro K15 hK15
  refine wp_region_f5 [(0, false), (1, false), (2, false), (3, false), (4, true), (5, true), (6, false), (7, false), (8, false), (9, false), (10, false), (11, false), (12, false), (13, false), (14, false), (15, false), (16, false), (17, true), (18, true), (19, true), (20, true), (21, true), (22, false), (23, false)] (fun _ => default) [99, 99, 99, 0, 99, 99, 99, 99, 99, 99, 99, 99, 99, 99, 99, 99, 99, 99, 99, 99, 99, 99, 99, 99] [] (.c hs.g4 .n) fn fun w_74 n74 => ?_
  replace hs := hs.bl n74
  refine fmv ?_
  refine f0 ?_
  refine fmv ?_
  refine f4 ?_
  refine fl fun w_75 n75 => ?_
  replace hs := hs.bl n75
  intro K hK
  go_big_op
  go_fit (gg_any (2) (-1) _ (by decide) (by decide) (by decide) (by decide))
  rintro e w_76 ⟨_, rfl, ⟨n_cta, o_cta, k_cta, c_cta, n_ctb, o_ctb, k_ctb, c_ctb, rfl, ct1, ct2⟩, hb_76⟩
  replace hs := hs.bl hb_76
  have Lct1 := hide (ct1.lenOf (L9.out (2) (by decide)))
  have Lct2 := hide (ct2.lenOf (L9.out (-1) (by decide)))
  refine hK _ _ rfl ⟨hb_76, (And.intro hs.g4 trivial)⟩ ?_
  clear hK K
  refine fl fun w_77 n77 => ?_
  replace hs := hs.bl n77
  intro K hK
  have k62_77 := ((((((((((((((ko hd63 ho63).b hb_64).b hb_65).b hb_66).b n67).o hd68 ho68).b hb_69).b hb_70).b hb_71).b n72).o hd73 ho73).b n74).b n75).b hb_76).b n77
  replace ci1 := ci1.k k62_77
  replace ci2 := ci2.k k62_77
  have k76_77 := kb n77
  replace ct1 := ct1.k k76_77
  replace ct2 := ct2.k k76_77
  go_big_op
  go_fit (gis_any (.mk' ci1 ci2) (.mk' (ct1.zn Lct1.out) (ct2.zn Lct2.out)) (by decide) (by decide))
  rintro e w_78 ⟨rfl, hb_78⟩
  replace hs := hs.bl hb_78
  refine hK _ _ rfl ⟨hb_78, (And.intro hs.g4 trivial)⟩ ?_
  clear hK K
  refine f0 ?_
  refine f0 ?_
  refine fmv ?_
  refine fmv ?_
  refine f0 ?_
  refine f0 ?_
  refine fmv ?_
  refine fmv ?_
  refine f0 ?_
  refine f0 ?_
  refine fmv ?_
  refine fl fun w_79 n79 => ?_
  replace hs := hs.bl n79
  intro K hK
  go_big_op
  go_fit (gg_any (0) (0) _ (by decide) (by decide) (by decide) (by decide))
  rintro e w_80 ⟨_, rfl, ⟨n_cua, o_cua, k_cua, c_cua, n_cub, o_cub, k_cub, c_cub, rfl, cu1, cu2⟩, hb_80⟩
  replace hs := hs.bl hb_80
  have Lcu1 := hide (cu1.lenOf (L9.out (0) (by decide)))
  have Lcu2 := hide (cu2.lenOf (L9.out (0) (by decide)))
  refine hK _ _ rfl ⟨hb_80, (And.intro hs.g4 trivial)⟩ ?_
  clear hK K
  refine fl fun w_81 n81 => ?_
  replace hs := hs.bl n81
  intro K hK
  go_big_op
  go_fit (gg_any (0) (-2) _ (by decide) (by decide) (by decide) (by decide))
  rintro e w_82 ⟨_, rfl, ⟨n_cva, o_cva, k_cva, c_cva, n_cvb, o_cvb, k_cvb, c_cvb, rfl, cv1, cv2⟩, hb_82⟩
  replace hs := hs.bl hb_82
  have Lcv1 := hide (cv1.lenOf (L9.out (0) (by decide)))
  have Lcv2 := hide (cv2.lenOf (L9.out (-2) (by decide)))
  refine hK _ _ rfl ⟨hb_82, (And.intro hs.g4 trivial)⟩ ?_
  clear hK K
  refine fl fun w_83 n83 => ?_
  replace hs := hs.bl n83
  intro K hK
  have k80_83 := ((kb n81).b hb_82).b n83
  replace cu1 := cu1.k k80_83
  replace cu2 := cu2.k k80_83
  have k82_83 := kb n83
  replace cv1 := cv1.k k82_83
  replace cv2 := cv2.k k82_83
  go_big_op
  go_fit (ggcd_any (L := 1) (.mk' (cu1.zn Lcu1.out) (cu2.zn Lcu2.out)) (.mk' (cv1.zn Lcv1.out) (cv2.zn Lcv2.out)) (by decide))
  rintro e w_84 ⟨_, rfl, ⟨n_cya, o_cya, k_cya, c_cya, n_cyb, o_cyb, k_cyb, c_cyb, rfl, cy1, cy2⟩, hb_84⟩
  replace hs := hs.bl hb_84
  rw [show (turn (kq (GS.start (0) (0) (0) (-2)).fin.r1 (GS.start (0) (0) (0) (-2)).fin.r2) ((GS.start (0) (0) (0) (-2)).fin.r1, (GS.start (0) (0) (0) (-2)).fin.r2)) = (2, 0) by decide +kernel] at cy1 cy2
  refine hK _ _ rfl ⟨hb_84, (And.intro hs.g4 trivial)⟩ ?_
  clear hK K
  refine fl fun w_85 n85 => ?_
  clear ct1 ct2 cu1 cu2 cv1 cv2
  replace hs := hs.bl n85
  intro K hK
  go_big_op
  go_fit (gg_any (2) (0) _ (by decide) (by decide) (by decide) (by decide))
  rintro e w_86 ⟨_, rfl, ⟨n_cza, o_cza, k_cza, c_cza, n_czb, o_czb, k_czb, c_czb, rfl, cz1, cz2⟩, hb_86⟩
  replace hs := hs.bl hb_86
  have Lcz1 := hide (cz1.lenOf (L9.out (2) (by decide)))
  have Lcz2 := hide (cz2.lenOf (L9.out (0) (by decide)))
  refine hK _ _ rfl ⟨hb_86, (And.intro hs.g4 trivial)⟩ ?_
  clear hK K
  refine fl fun w_87 n87 => ?_
  replace hs := hs.bl n87
  intro K hK
  have k84_87 := ((kb n85).b hb_86).b n87
  replace cy1 := cy1.k k84_87
  replace cy2 := cy2.k k84_87
  have k86_87 := kb n87
  replace cz1 := cz1.k k86_87
  replace cz2 := cz2.k k86_87
  go_big_op
  go_fit (gis_any (.mk' cy1 cy2) (.mk' (cz1.zn Lcz1.out) (cz2.zn Lcz2.out)) (by decide) (by decide))
  rintro e w_88 ⟨rfl, hb_88⟩
  replace hs := hs.bl hb_88
  refine hK _ _ rfl ⟨hb_88, (And.intro hs.g4 trivial)⟩ ?_
  clear hK K
  refine f0 ?_
  refine f0 ?_
  refine e0 hs ?_; clear hs; intro w_89 hs n89
  apply wpTail_end
  refine hK15 _ _ ?_
  refine cf ?_
  refine wp_skip ?_
  refine hK14 _ _ ?_
  refine wp_seq_k ?_
  intro K16 hK16
  refine rg [0, 1, 2, 3, 4, 5, 6, 7, 8, 9, 10, 11, 12] ?_
  refine sq ?_
  intro K hK
  go_big_op
  go_fit (gg_any (0) (0) _ (by decide) (by decide) (by decide) (by decide))
  rintro e w_90 ⟨_, rfl, ⟨n_daa, o_daa, k_daa, c_daa, n_dab, o_dab, k_dab, c_dab, rfl, da1, da2⟩, hb_90⟩
  clear cy1 cy2 cz1 cz2 ci1 ci2
  replace hs := hs.bl hb_90
  have Lda1 := hide (da1.lenOf (L9.out (0) (by decide)))
  have Lda2 := hide (da2.lenOf (L9.out (0) (by decide)))
  refine hK _ _ rfl trivial ?_
  clear hK K
  refine sq ?_
  intro K hK
  go_big_op
  go_fit (gg_any (0) (0) _ (by decide) (by decide) (by decide) (by decide))
  rintro e w_91 ⟨_, rfl, ⟨n_dca, o_dca, k_dca, c_dca, n_dcb, o_dcb, k_dcb, c_dcb, rfl, dc1, dc2⟩, hb_91⟩
  replace hs := hs.bl hb_91
  have Ldc1 := hide (dc1.lenOf (L9.out (0) (by decide)))
  have Ldc2 := hide (dc2.lenOf (L9.out (0) (by decide)))
  refine hK _ _ rfl trivial ?_
  clear hK K
  refine sq ?_
  intro K hK
  have k90_91 := kb hb_91
  replace da1 := da1.k k90_91
  replace da2 := da2.k k90_91
  go_big_op
  go_fit (gxgcd_any (L := 1) (.mk' (da1.zn Lda1.out) (da2.zn Lda2.out)) (.mk' (dc1.zn Ldc1.out) (dc2.zn Ldc2.out)) (by decide))
  rintro e w_92 ⟨_, _, _, rfl, ⟨n_dda, o_dda, k_dda, c_dda, n_ddb, o_ddb, k_ddb, c_ddb, rfl, dd1, dd2⟩, ⟨n_dea, o_dea, k_dea, c_dea, n_deb, o_deb, k_deb, c_deb, rfl, de1, de2⟩, ⟨n_dga, o_dga, k_dga, c_dga, n_dgb, o_dgb, k_dgb, c_dgb, rfl, dg1, dg2⟩, hb_92⟩
  replace hs := hs.bl hb_92
  rw [show (turn (kq (GS.start (0) (0) (0) (0)).fin.r1 (GS.start (0) (0) (0) (0)).fin.r2) ((GS.start (0) (0) (0) (0)).fin.r1, (GS.start (0) (0) (0) (0)).fin.r2)) = (0, 0) by decide +kernel] at dd1 dd2
  rw [show (turn (kq (GS.start (0) (0) (0) (0)).fin.r1 (GS.start (0) (0) (0) (0)).fin.r2) ((GS.start (0) (0) (0) (0)).fin.x1, (GS.start (0) (0) (0) (0)).fin.x2)) = (1, 0) by decide +kernel] at de1 de2
  rw [show (turn (kq (GS.start (0) (0) (0) (0)).fin.r1 (GS.start (0) (0) (0) (0)).fin.r2) ((GS.start (0) (0) (0) (0)).fin.y1, (GS.start (0) (0) (0) (0)).fin.y2)) = (0, 0) by decide +kernel] at dg1 dg2
  refine hK _ _ rfl trivial ?_
  clear hK K
  refine sq ?_
  refine .mv ?_
  refine sq ?_
  refine .r0 ?_
  refine sq ?_
  refine .r0 ?_
  refine sq ?_
  refine .r0 ?_
  refine sq ?_
  refine .al hs ?_; clear hs; intro p_b6 w_93 hs n93 kb_b6
  refine sq ?_
  refine .al hs ?_; clear hs; intro p_b7 w_94 hs n94 kb_b7
  refine sq ?_
  refine .al hs ?_; clear hs; intro p_b8 w_95 hs n95 kb_b8
  refine sq ?_
  refine .s4 hs.g2 (fun _ => hs.u2 kb_b6) ?_; clear hs; intro w_96 hs hd96 ho96
  refine sq ?_
  refine .s4 hs.g1 (fun _ => hs.u1 kb_b7) ?_; clear hs; intro w_97 hs hd97 ho97
  refine sq ?_
  refine .s4 hs.g0 (fun _ => hs.u0 kb_b8) ?_; clear hs; intro w_98 hs hd98 ho98
  apply wpSq_end
  refine hK16 _ _ ?_
  refine wp_seq_k ?_
  intro K17 hK17
  refine rg [0, 1, 2, 3, 4, 5, 6, 7, 8, 9, 10, 11, 12] ?_
  refine sq ?_
  intro K hK
  go_big_op
  go_fit (gg_any (5) (0) _ (by decide) (by decide) (by decide) (by decide))
  rintro e w_99 ⟨_, rfl, ⟨n_dha, o_dha, k_dha, c_dha, n_dhb, o_dhb, k_dhb, c_dhb, rfl, dh1, dh2⟩, hb_99⟩
  replace hs := hs.bl hb_99
  have Ldh1 := hide (dh1.lenOf (L9.out (5) (by decide)))
  have Ldh2 := hide (dh2.lenOf (L9.out (0) (by decide)))
  refine hK _ _ rfl trivial ?_
  clear hK K
  refine sq ?_
  intro K hK
  go_big_op
  go_fit (gg_any (2) (1) _ (by decide) (by decide) (by decide) (by decide))
  rintro e w_100 ⟨_, rfl, ⟨n_dia, o_dia, k_dia, c_dia, n_dib, o_dib, k_dib, c_dib, rfl, di1, di2⟩, hb_100⟩
  replace hs := hs.bl hb_100
  have Ldi1 := hide (di1.lenOf (L9.out (2) (by decide)))
  have Ldi2 := hide (di2.lenOf (L9.out (1) (by decide)))
  refine hK _ _ rfl trivial ?_
  clear hK K
  refine sq ?_
  intro K hK
  have k99_100 := kb hb_100
  replace dh1 := dh1.k k99_100
  replace dh2 := dh2.k k99_100
  go_big_op
  go_fit (gxgcd_any (L := 1) (.mk' (dh1.zn Ldh1.out) (dh2.zn Ldh2.out)) (.mk' (di1.zn Ldi1.out) (di2.zn Ldi2.out)) (by decide))
  rintro e w_101 ⟨_, _, _, rfl, ⟨n_dja, o_dja, k_dja, c_dja, n_djb, o_djb, k_djb, c_djb, rfl, dj1, dj2⟩, ⟨n_dma, o_dma, k_dma, c_dma, n_dmb, o_dmb, k_dmb, c_dmb, rfl, dm1, dm2⟩, ⟨n_dpa, o_dpa, k_dpa, c_dpa, n_dpb, o_dpb, k_dpb, c_dpb, rfl, dp1, dp2⟩, hb_101⟩
  replace hs := hs.bl hb_101
  rw [show (turn (kq (GS.start (5) (0) (2) (1)).fin.r1 (GS.start (5) (0) (2) (1)).fin.r2) ((GS.start (5) (0) (2) (1)).fin.r1, (GS.start (5) (0) (2) (1)).fin.r2)) = (2, 1) by decide +kernel] at dj1 dj2
  rw [show (turn (kq (GS.start (5) (0) (2) (1)).fin.r1 (GS.start (5) (0) (2) (1)).fin.r2) ((GS.start (5) (0) (2) (1)).fin.x1, (GS.start (5) (0) (2) (1)).fin.x2)) = (0, 0) by decide +kernel] at dm1 dm2
  rw [show (turn (kq (GS.start (5) (0) (2) (1)).fin.r1 (GS.start (5) (0) (2) (1)).fin.r2) ((GS.start (5) (0) (2) (1)).fin.y1, (GS.start (5) (0) (2) (1)).fin.y2)) = (1, 0) by decide +kernel] at dp1 dp2
  refine hK _ _ rfl trivial ?_
  clear hK K
  refine sq ?_
  refine .mv ?_
  refine sq ?_
  refine .r0 ?_
  refine sq ?_
  refine .r0 ?_
  refine sq ?_
  refine .r0 ?_
  refine sq ?_
  refine .al hs ?_; clear hs; intro p_b9 w_102 hs n102 kb_b9
  clear da1 da2 dc1 dc2 dh1 dh2 di1 di2
  refine sq ?_
  refine .al hs ?_; clear hs; intro p_b10 w_103 hs n103 kb_b10
  refine sq ?_
  refine .al hs ?_; clear hs; intro p_b11 w_104 hs n104 kb_b11
  refine sq ?_
  refine .s4 hs.g2 (fun _ => hs.u2 kb_b9) ?_; clear hs; intro w_105 hs hd105 ho105
  refine sq ?_
  refine .s4 hs.g1 (fun _ => hs.u1 kb_b10) ?_; clear hs; intro w_106 hs hd106 ho106
  refine sq ?_
  refine .s4 hs.g0 (fun _ => hs.u0 kb_b11) ?_; clear hs; intro w_107 hs hd107 ho107
  apply wpSq_end
  refine hK17 _ _ ?_
  refine wp_seq_k ?_
  intro K18 hK18
  refine rg [0, 1, 2, 3, 4, 5, 6, 7, 8, 9, 10, 11, 12] ?_
  refine sq ?_
  intro K hK
  go_big_op
  go_fit (gg_any (3) (0) _ (by decide) (by decide) (by decide) (by decide))
  rintro e w_108 ⟨_, rfl, ⟨n_dqa, o_dqa, k_dqa, c_dqa, n_dqb, o_dqb, k_dqb, c_dqb, rfl, dq1, dq2⟩, hb_108⟩
  replace hs := hs.bl hb_108
  have Ldq1 := hide (dq1.lenOf (L9.out (3) (by decide)))
  have Ldq2 := hide (dq2.lenOf (L9.out (0) (by decide)))
  refine hK _ _ rfl trivial ?_
  clear hK K
  refine sq ?_
  intro K hK
  go_big_op
  go_fit (gg_any (0) (2) _ (by decide) (by decide) (by decide) (by decide))
  rintro e w_109 ⟨_, rfl, ⟨n_dta, o_dta, k_dta, c_dta, n_dtb, o_dtb, k_dtb, c_dtb, rfl, dt1, dt2⟩, hb_109⟩
  replace hs := hs.bl hb_109
  have Ldt1 := hide (dt1.lenOf (L9.out (0) (by decide)))
  have Ldt2 := hide (dt2.lenOf (L9.out (2) (by decide)))
  refine hK _ _ rfl trivial ?_
  clear hK K
  refine sq ?_
  intro K hK
  have k108_109 := kb hb_109
  replace dq1 := dq1.k k108_109
  replace dq2 := dq2.k k108_109
  go_big_op
  go_fit (gxgcd_any (L := 1) (.mk' (dq1.zn Ldq1.out) (dq2.zn Ldq2.out)) (.mk' (dt1.zn Ldt1.out) (dt2.zn Ldt2.out)) (by decide))
  rintro e w_110 ⟨_, _, _, rfl, ⟨n_dua, o_dua, k_dua, c_dua, n_dub, o_dub, k_dub, c_dub, rfl, du1, du2⟩, ⟨n_dva, o_dva, k_dva, c_dva, n_dvb, o_dvb, k_dvb, c_dvb, rfl, dv1, dv2⟩, ⟨n_dya, o_dya, k_dya, c_dya, n_dyb, o_dyb, k_dyb, c_dyb, rfl, dy1, dy2⟩, hb_110⟩
  replace hs := hs.bl hb_110
  rw [show (turn (kq (GS.start (3) (0) (0) (2)).fin.r1 (GS.start (3) (0) (0) (2)).fin.r2) ((GS.start (3) (0) (0) (2)).fin.r1, (GS.start (3) (0) (0) (2)).fin.r2)) = (1, 0) by decide +kernel] at du1 du2
  rw [show (turn (kq (GS.start (3) (0) (0) (2)).fin.r1 (GS.start (3) (0) (0) (2)).fin.r2) ((GS.start (3) (0) (0) (2)).fin.x1, (GS.start (3) (0) (0) (2)).fin.x2)) = (1, 0) by decide +kernel] at dv1 dv2
  rw [show (turn (kq (GS.start (3) (0) (0) (2)).fin.r1 (GS.start (3) (0) (0) (2)).fin.r2) ((GS.start (3) (0) (0) (2)).fin.y1, (GS.start (3) (0) (0) (2)).fin.y2)) = (0, 1) by decide +kernel] at dy1 dy2
  refine hK _ _ rfl trivial ?_
  clear hK K
  refine sq ?_
  refine .mv ?_
  refine sq ?_
  refine .r0 ?_
  refine sq ?_
  refine .r0 ?_
  refine sq ?_
  refine .r0 ?_
  refine sq ?_
  refine .al hs ?_; clear hs; intro p_b12 w_111 hs n111 kb_b12
  refine sq ?_
  refine .al hs ?_; clear hs; intro p_b13 w_112 hs n112 kb_b13
  refine sq ?_
  refine .al hs ?_; clear hs; intro p_b14 w_113 hs n113 kb_b14
  refine sq ?_
  refine .s4 hs.g2 (fun _ => hs.u2 kb_b12) ?_; clear hs; intro w_114 hs hd114 ho114
  refine sq ?_
  refine .s4 hs.g1 (fun _ => hs.u1 kb_b13) ?_; clear hs; intro w_115 hs hd115 ho115
  refine sq ?_
  refine .s4 hs.g0 (fun _ => hs.u0 kb_b14) ?_; clear hs; intro w_116 hs hd116 ho116
  apply wpSq_end
  refine hK18 _ _ ?_
  refine wp_seq_k ?_
  intro K19 hK19
  refine wp_seq_k ?_
  intro K20 hK20
  refine wp_region_f5 [(0, false), (1, true), (2, true), (3, false), (4, false), (5, false), (6, true), (7, true), (8, false), (9, false), (10, false), (11, false), (12, true), (13, true), (14, false), (15, false), (16, false), (17, false), (18, true), (19, true), (20, false), (21, false), (22, false), (23, false), (24, true), (25, true), (26, false), (27, false), (28, false), (29, false), (30, true), (31, true), (32, false), (33, false), (34, false), (35, false), (36, true), (37, true), (38, false), (39, false), (40, false), (41, false), (42, true), (43, true), (44, false), (45, false), (46, false), (47, false), (48, true), (49, true), (50, false), (51, false)] (fun _ => default) [0, 99, 99, 99, 99, 1, 99, 99, 99, 99, 99, 2, 99, 99, 99, 99, 99, 3, 99, 99, 99, 99, 99, 4, 99, 99, 99, 99, 99, 5, 99, 99, 99, 99, 99, 6, 99, 99, 99, 99, 99, 7, 99, 99, 99, 99, 99, 8, 99, 99, 99, 99] [] (.c hs.g8 (.c hs.g7 (.c hs.g6 (.c hs.g5 (.c hs.g4 (.c hs.g3 (.c hs.g2 (.c hs.g1 (.c hs.g0 .n))))))))) fn fun w_117 n117 => ?_
  replace hs := hs.bl n117
  refine f4 ?_
  refine fl fun w_118 n118 => ?_
  replace hs := hs.bl n118
  intro K hK
  go_big_op
  go_fit (gg_any (0) (0) _ (by decide) (by decide) (by decide) (by decide))
  rintro e w_119 ⟨_, rfl, ⟨n_dza, o_dza, k_dza, c_dza, n_dzb, o_dzb, k_dzb, c_dzb, rfl, dz1, dz2⟩, hb_119⟩
  replace hs := hs.bl hb_119
  have Ldz1 := hide (dz1.lenOf (L9.out (0) (by decide)))
  have Ldz2 := hide (dz2.lenOf (L9.out (0) (by decide)))
  refine hK _ _ rfl ⟨hb_119, (And.intro hs.g8 (And.intro hs.g7 (And.intro hs.g6 (And.intro hs.g5 (And.intro hs.g4 (And.intro hs.g3 (And.intro hs.g2 (And.intro hs.g1 (And.intro hs.g0 trivial)))))))))⟩ ?_
  clear hK K
  refine fl fun w_120 n120 => ?_
  replace hs := hs.bl n120
  intro K hK
  have k92_120 := (((((((((((((((((((((((((((kb n93).b n94).b n95).o hd96 ho96).o hd97 ho97).o hd98 ho98).b hb_99).b hb_100).b hb_101).b n102).b n103).b n104).o hd105 ho105).o hd106 ho106).o hd107 ho107).b hb_108).b hb_109).b hb_110).b n111).b n112).b n113).o hd114 ho114).o hd115 ho115).o hd116 ho116).b n117).b n118).b hb_119).b n120
  replace dd1 := dd1.k k92_120
  replace dd2 := dd2.k k92_120
  have k119_120 := kb n120
  replace dz1 := dz1.k k119_120
  replace dz2 := dz2.k k119_120
  go_big_op
  go_fit (gis_any (.mk' dd1 dd2) (.mk' (dz1.zn Ldz1.out) (dz2.zn Ldz2.out)) (by decide) (by decide))
  rintro e w_121 ⟨rfl, hb_121⟩
  replace hs := hs.bl hb_121
  refine hK _ _ rfl ⟨hb_121, (And.intro hs.g8 (And.intro hs.g7 (And.intro hs.g6 (And.intro hs.g5 (And.intro hs.g4 (And.intro hs.g3 (And.intro hs.g2 (And.intro hs.g1 (And.intro hs.g0 trivial)))))))))⟩ ?_
  clear hK K
  refine f0 ?_
  refine fmv ?_
  refine f4 ?_
  refine fl fun w_122 n122 => ?_
  clear dq1 dq2 dt1 dt2 dz1 dz2
  replace hs := hs.bl n122
  intro K hK
  go_big_op
  go_fit (gg_any (1) (0) _ (by decide) (by decide) (by decide) (by decide))
  rintro e w_123 ⟨_, rfl, ⟨n_gaa, o_gaa, k_gaa, c_gaa, n_gab, o_gab, k_gab, c_gab, rfl, ga1, ga2⟩, hb_123⟩
  replace hs := hs.bl hb_123
  have Lga1 := hide (ga1.lenOf (L9.out (1) (by decide)))
  have Lga2 := hide (ga2.lenOf (L9.out (0) (by decide)))
  refine hK _ _ rfl ⟨hb_123, (And.intro hs.g8 (And.intro hs.g7 (And.intro hs.g6 (And.intro hs.g5 (And.intro hs.g4 (And.intro hs.g3 (And.intro hs.g2 (And.intro hs.g1 (And.intro hs.g0 trivial)))))))))⟩ ?_
  clear hK K
  refine fl fun w_124 n124 => ?_
  replace hs := hs.bl n124
  intro K hK
  have k92_124 := (((k92_120.b hb_121).b n122).b hb_123).b n124
  replace de1 := de1.k k92_124
  replace de2 := de2.k k92_124
  have k123_124 := kb n124
  replace ga1 := ga1.k k123_124
  replace ga2 := ga2.k k123_124
  go_big_op
  go_fit (gis_any (.mk' de1 de2) (.mk' (ga1.zn Lga1.out) (ga2.zn Lga2.out)) (by decide) (by decide))
  rintro e w_125 ⟨rfl, hb_125⟩
  replace hs := hs.bl hb_125
  refine hK _ _ rfl ⟨hb_125, (And.intro hs.g8 (And.intro hs.g7 (And.intro hs.g6 (And.intro hs.g5 (And.intro hs.g4 (And.intro hs.g3 (And.intro hs.g2 (And.intro hs.g1 (And.intro hs.g0 trivial)))))))))⟩ ?_
  clear hK K
  refine f0 ?_
  refine f0 ?_
  refine fmv ?_
  refine f4 ?_
  refine fl fun w_126 n126 => ?_
  replace hs := hs.bl n126
  intro K hK
  go_big_op
  go_fit (gg_any (0) (0) _ (by decide) (by decide) (by decide) (by decide))
  rintro e w_127 ⟨_, rfl, ⟨n_gca, o_gca, k_gca, c_gca, n_gcb, o_gcb, k_gcb, c_gcb, rfl, gc1, gc2⟩, hb_127⟩
  replace hs := hs.bl hb_127
  have Lgc1 := hide (gc1.lenOf (L9.out (0) (by decide)))
  have Lgc2 := hide (gc2.lenOf (L9.out (0) (by decide)))
  refine hK _ _ rfl ⟨hb_127, (And.intro hs.g8 (And.intro hs.g7 (And.intro hs.g6 (And.intro hs.g5 (And.intro hs.g4 (And.intro hs.g3 (And.intro hs.g2 (And.intro hs.g1 (And.intro hs.g0 trivial)))))))))⟩ ?_
  clear hK K
  refine fl fun w_128 n128 => ?_
  replace hs := hs.bl n128
  intro K hK
  have k92_128 := (((k92_124.b hb_125).b n126).b hb_127).b n128
  replace dg1 := dg1.k k92_128
  replace dg2 := dg2.k k92_128
  have k127_128 := kb n128
  replace gc1 := gc1.k k127_128
  replace gc2 := gc2.k k127_128
  go_big_op
  go_fit (gis_any (.mk' dg1 dg2) (.mk' (gc1.zn Lgc1.out) (gc2.zn Lgc2.out)) (by decide) (by decide))
  rintro e w_129 ⟨rfl, hb_129⟩
  replace hs := hs.bl hb_129
  refine hK _ _ rfl ⟨hb_129, (And.intro hs.g8 (And.intro hs.g7 (And.intro hs.g6 (And.intro hs.g5 (And.intro hs.g4 (And.intro hs.g3 (And.intro hs.g2 (And.intro hs.g1 (And.intro hs.g0 trivial)))))))))⟩ ?_
  clear hK K
  refine f0 ?_
  refine f0 ?_
  refine fmv ?_
  refine f4 ?_
  refine fl fun w_130 n130 => ?_
  replace hs := hs.bl n130
  intro K hK
  go_big_op
  go_fit (gg_any (2) (1) _ (by decide) (by decide) (by decide) (by decide))
  rintro e w_131 ⟨_, rfl, ⟨n_gda, o_gda, k_gda, c_gda, n_gdb, o_gdb, k_gdb, c_gdb, rfl, gd1, gd2⟩, hb_131⟩
  replace hs := hs.bl hb_131
  have Lgd1 := hide (gd1.lenOf (L9.out (2) (by decide)))
  have Lgd2 := hide (gd2.lenOf (L9.out (1) (by decide)))
  refine hK _ _ rfl ⟨hb_131, (And.intro hs.g8 (And.intro hs.g7 (And.intro hs.g6 (And.intro hs.g5 (And.intro hs.g4 (And.intro hs.g3 (And.intro hs.g2 (And.intro hs.g1 (And.intro hs.g0 trivial)))))))))⟩ ?_
  clear hK K
  refine fl fun w_132 n132 => ?_
  replace hs := hs.bl n132
  intro K hK
  have k101_132 := ((((((((((((((((((((((((((((((kb n102).b n103).b n104).o hd105 ho105).o hd106 ho106).o hd107 ho107).b hb_108).b hb_109).b hb_110).b n111).b n112).b n113).o hd114 ho114).o hd115 ho115).o hd116 ho116).b n117).b n118).b hb_119).b n120).b hb_121).b n122).b hb_123).b n124).b hb_125).b n126).b hb_127).b n128).b hb_129).b n130).b hb_131).b n132
  replace dj1 := dj1.k k101_132
  replace dj2 := dj2.k k101_132
  have k131_132 := kb n132
  replace gd1 := gd1.k k131_132
  replace gd2 := gd2.k k131_132
  go_big_op
  go_fit (gis_any (.mk' dj1 dj2) (.mk' (gd1.zn Lgd1.out) (gd2.zn Lgd2.out)) (by decide) (by decide))
  rintro e w_133 ⟨rfl, hb_133⟩
  replace hs := hs.bl hb_133
  refine hK _ _ rfl ⟨hb_133, (And.intro hs.g8 (And.intro hs.g7 (And.intro hs.g6 (And.intro hs.g5 (And.intro hs.g4 (And.intro hs.g3 (And.intro hs.g2 (And.intro hs.g1 (And.intro hs.g0 trivial)))))))))⟩ ?_
  clear hK K
  refine f0 ?_
  refine f0 ?_
  refine fmv ?_
  refine f4 ?_
  refine fl fun w_134 n134 => ?_
  clear ga1 ga2 gc1 gc2 gd1 gd2
  replace hs := hs.bl n134
  intro K hK
  go_big_op
  go_fit (gg_any (0) (0) _ (by decide) (by decide) (by decide) (by decide))
  rintro e w_135 ⟨_, rfl, ⟨n_gea, o_gea, k_gea, c_gea, n_geb, o_geb, k_geb, c_geb, rfl, ge1, ge2⟩, hb_135⟩
  replace hs := hs.bl hb_135
  have Lge1 := hide (ge1.lenOf (L9.out (0) (by decide)))
  have Lge2 := hide (ge2.lenOf (L9.out (0) (by decide)))
  refine hK _ _ rfl ⟨hb_135, (And.intro hs.g8 (And.intro hs.g7 (And.intro hs.g6 (And.intro hs.g5 (And.intro hs.g4 (And.intro hs.g3 (And.intro hs.g2 (And.intro hs.g1 (And.intro hs.g0 trivial)))))))))⟩ ?_
  clear hK K
  refine fl fun w_136 n136 => ?_
  replace hs := hs.bl n136
  intro K hK
  have k101_136 := (((k101_132.b hb_133).b n134).b hb_135).b n136
  replace dm1 := dm1.k k101_136
  replace dm2 := dm2.k k101_136
  have k135_136 := kb n136
  replace ge1 := ge1.k k135_136
  replace ge2 := ge2.k k135_136
  go_big_op
  go_fit (gis_any (.mk' dm1 dm2) (.mk' (ge1.zn Lge1.out) (ge2.zn Lge2.out)) (by decide) (by decide))
  rintro e w_137 ⟨rfl, hb_137⟩
  replace hs := hs.bl hb_137
  refine hK _ _ rfl ⟨hb_137, (And.intro hs.g8 (And.intro hs.g7 (And.intro hs.g6 (And.intro hs.g5 (And.intro hs.g4 (And.intro hs.g3 (And.intro hs.g2 (And.intro hs.g1 (And.intro hs.g0 trivial)))))))))⟩ ?_
  clear hK K
  refine f0 ?_
  refine f0 ?_
  refine fmv ?_
  refine f4 ?_
  refine fl fun w_138 n138 => ?_
  replace hs := hs.bl n138
  intro K hK
  go_big_op
  go_fit (gg_any (1) (0) _ (by decide) (by decide) (by decide) (by decide))
  rintro e w_139 ⟨_, rfl, ⟨n_gga, o_gga, k_gga, c_gga, n_ggb, o_ggb, k_ggb, c_ggb, rfl, gg1, gg2⟩, hb_139⟩
  replace hs := hs.bl hb_139
  have Lgg1 := hide (gg1.lenOf (L9.out (1) (by decide)))
  have Lgg2 := hide (gg2.lenOf (L9.out (0) (by decide)))
  refine hK _ _ rfl ⟨hb_139, (And.intro hs.g8 (And.intro hs.g7 (And.intro hs.g6 (And.intro hs.g5 (And.intro hs.g4 (And.intro hs.g3 (And.intro hs.g2 (And.intro hs.g1 (And.intro hs.g0 trivial)))))))))⟩ ?_
  clear hK K
  refine fl fun w_140 n140 => ?_
  replace hs := hs.bl n140
  intro K hK
  have k101_140 := (((k101_136.b hb_137).b n138).b hb_139).b n140
  replace dp1 := dp1.k k101_140
  replace dp2 := dp2.k k101_140
  have k139_140 := kb n140
  replace gg1 := gg1.k k139_140
  replace gg2 := gg2.k k139_140
  go_big_op
  go_fit (gis_any (.mk' dp1 dp2) (.mk' (gg1.zn Lgg1.out) (gg2.zn Lgg2.out)) (by decide) (by decide))
  rintro e w_141 ⟨rfl, hb_141⟩
  replace hs := hs.bl hb_141
  refine hK _ _ rfl ⟨hb_141, (And.intro hs.g8 (And.intro hs.g7 (And.intro hs.g6 (And.intro hs.g5 (And.intro hs.g4 (And.intro hs.g3 (And.intro hs.g2 (And.intro hs.g1 (And.intro hs.g0 trivial)))))))))⟩ ?_
  clear hK K
  refine f0 ?_
  refine f0 ?_
  refine fmv ?_
  refine f4 ?_
  refine fl fun w_142 n142 => ?_
  replace hs := hs.bl n142
  intro K hK
  go_big_op
  go_fit (gg_any (1) (0) _ (by decide) (by decide) (by decide) (by decide))
  rintro e w_143 ⟨_, rfl, ⟨n_gha, o_gha, k_gha, c_gha, n_ghb, o_ghb, k_ghb, c_ghb, rfl, gh1, gh2⟩, hb_143⟩
  replace hs := hs.bl hb_143
  have Lgh1 := hide (gh1.lenOf (L9.out (1) (by decide)))
  have Lgh2 := hide (gh2.lenOf (L9.out (0) (by decide)))
  refine hK _ _ rfl ⟨hb_143, (And.intro hs.g8 (And.intro hs.g7 (And.intro hs.g6 (And.intro hs.g5 (And.intro hs.g4 (And.intro hs.g3 (And.intro hs.g2 (And.intro hs.g1 (And.intro hs.g0 trivial)))))))))⟩ ?_
  clear hK K
  refine fl fun w_144 n144 => ?_
  replace hs := hs.bl n144
  intro K hK
  have k110_144 := (((((((((((((((((((((((((((((((((kb n111).b n112).b n113).o hd114 ho114).o hd115 ho115).o hd116 ho116).b n117).b n118).b hb_119).b n120).b hb_121).b n122).b hb_123).b n124).b hb_125).b n126).b hb_127).b n128).b hb_129).b n130).b hb_131).b n132).b hb_133).b n134).b hb_135).b n136).b hb_137).b n138).b hb_139).b n140).b hb_141).b n142).b hb_143).b n144
  replace du1 := du1.k k110_144
  replace du2 := du2.k k110_144
  have k143_144 := kb n144
  replace gh1 := gh1.k k143_144
  replace gh2 := gh2.k k143_144
  go_big_op
  go_fit (gis_any (.mk' du1 du2) (.mk' (gh1.zn Lgh1.out) (gh2.zn Lgh2.out)) (by decide) (by decide))
  rintro e w_145 ⟨rfl, hb_145⟩
  replace hs := hs.bl hb_145
  refine hK _ _ rfl ⟨hb_145, (And.intro hs.g8 (And.intro hs.g7 (And.intro hs.g6 (And.intro hs.g5 (And.intro hs.g4 (And.intro hs.g3 (And.intro hs.g2 (And.intro hs.g1 (And.intro hs.g0 trivial)))))))))⟩ ?_
  clear hK K
  refine f0 ?_
  refine f0 ?_
  refine fmv ?_
  refine f4 ?_
  refine fl fun w_146 n146 => ?_
  clear ge1 ge2 gg1 gg2 gh1 gh2
  replace hs := hs.bl n146
  intro K hK
  go_big_op
  go_fit (gg_any (1) (0) _ (by decide) (by decide) (by decide) (by decide))
  rintro e w_147 ⟨_, rfl, ⟨n_gia, o_gia, k_gia, c_gia, n_gib, o_gib, k_gib, c_gib, rfl, gi1, gi2⟩, hb_147⟩
  replace hs := hs.bl hb_147
  have Lgi1 := hide (gi1.lenOf (L9.out (1) (by decide)))
  have Lgi2 := hide (gi2.lenOf (L9.out (0) (by decide)))
  refine hK _ _ rfl ⟨hb_147, (And.intro hs.g8 (And.intro hs.g7 (And.intro hs.g6 (And.intro hs.g5 (And.intro hs.g4 (And.intro hs.g3 (And.intro hs.g2 (And.intro hs.g1 (And.intro hs.g0 trivial)))))))))⟩ ?_
  clear hK K
  refine fl fun w_148 n148 => ?_
  replace hs := hs.bl n148
  intro K hK
  have k110_148 := (((k110_144.b hb_145).b n146).b hb_147).b n148
  replace dv1 := dv1.k k110_148
  replace dv2 := dv2.k k110_148
  have k147_148 := kb n148
  replace gi1 := gi1.k k147_148
  replace gi2 := gi2.k k147_148
  go_big_op
  go_fit (gis_any (.mk' dv1 dv2) (.mk' (gi1.zn Lgi1.out) (gi2.zn Lgi2.out)) (by decide) (by decide))
  rintro e w_149 ⟨rfl, hb_149⟩
  replace hs := hs.bl hb_149
  refine hK _ _ rfl ⟨hb_149, (And.intro hs.g8 (And.intro hs.g7 (And.intro hs.g6 (And.intro hs.g5 (And.intro hs.g4 (And.intro hs.g3 (And.intro hs.g2 (And.intro hs.g1 (And.intro hs.g0 trivial)))))))))⟩ ?_
  clear hK K
  refine f0 ?_
  refine f0 ?_
  refine fmv ?_
  refine f4 ?_
  refine fl fun w_150 n150 => ?_
  replace hs := hs.bl n150
  intro K hK
  go_big_op
  go_fit (gg_any (0) (1) _ (by decide) (by decide) (by decide) (by decide))
  rintro e w_151 ⟨_, rfl, ⟨n_gja, o_gja, k_gja, c_gja, n_gjb, o_gjb, k_gjb, c_gjb, rfl, gj1, gj2⟩, hb_151⟩
  replace hs := hs.bl hb_151
  have Lgj1 := hide (gj1.lenOf (L9.out (0) (by decide)))
  have Lgj2 := hide (gj2.lenOf (L9.out (1) (by decide)))
  refine hK _ _ rfl ⟨hb_151, (And.intro hs.g8 (And.intro hs.g7 (And.intro hs.g6 (And.intro hs.g5 (And.intro hs.g4 (And.intro hs.g3 (And.intro hs.g2 (And.intro hs.g1 (And.intro hs.g0 trivial)))))))))⟩ ?_
  clear hK K
  refine fl fun w_152 n152 => ?_
  replace hs := hs.bl n152
  intro K hK
  have k110_152 := (((k110_148.b hb_149).b n150).b hb_151).b n152
  replace dy1 := dy1.k k110_152
  replace dy2 := dy2.k k110_152
  have k151_152 := kb n152
  replace gj1 := gj1.k k151_152
  replace gj2 := gj2.k k151_152
  go_big_op
  go_fit (gis_any (.mk' dy1 dy2) (.mk' (gj1.zn Lgj1.out) (gj2.zn Lgj2.out)) (by decide) (by decide))
  rintro e w_153 ⟨rfl, hb_153⟩
  replace hs := hs.bl hb_153
  refine hK _ _ rfl ⟨hb_153, (And.intro hs.g8 (And.intro hs.g7 (And.intro hs.g6 (And.intro hs.g5 (And.intro hs.g4 (And.intro hs.g3 (And.intro hs.g2 (And.intro hs.g1 (And.intro hs.g0 trivial)))))))))⟩ ?_
  clear hK K
  refine f0 ?_
  refine f0 ?_
  refine e0 hs ?_; clear hs; intro w_154 hs n154
  apply wpTail_end
  refine hK20 _ _ ?_
  refine cf ?_
  refine wp_skip ?_
  refine hK19 _ _ ?_
  refine wp_seq_k ?_
  intro K21 hK21
  refine wp_seq_k ?_
  intro K22 hK22
  refine rg [0, 1, 2, 3, 4, 5, 6, 7, 8, 9, 10, 11, 12, 13, 14, 15] ?_
  refine sq ?_
  intro K hK
  go_big_op
  go_fit (gg_any (3) (4) _ (by decide) (by decide) (by decide) (by decide))
  rintro e w_155 ⟨_, rfl, ⟨n_gma, o_gma, k_gma, c_gma, n_gmb, o_gmb, k_gmb, c_gmb, rfl, gm1, gm2⟩, hb_155⟩
  clear gi1 gi2 gj1 gj2 dd1 dd2 de1 de2 dg1 dg2 dj1 dj2 dm1 dm2 dp1 dp2 du1 du2 dv1 dv2 dy1 dy2
  replace hs := hs.bl hb_155
  have Lgm1 := hide (gm1.lenOf (L9.out (3) (by decide)))
  have Lgm2 := hide (gm2.lenOf (L9.out (4) (by decide)))
  refine hK _ _ rfl trivial ?_
  clear hK K
  refine sq ?_
  intro K hK
  go_big_op
  go_fit (gg_any (5) (0) _ (by decide) (by decide) (by decide) (by decide))
  rintro e w_156 ⟨_, rfl, ⟨n_gpa, o_gpa, k_gpa, c_gpa, n_gpb, o_gpb, k_gpb, c_gpb, rfl, gp1, gp2⟩, hb_156⟩
  replace hs := hs.bl hb_156
  have Lgp1 := hide (gp1.lenOf (L9.out (5) (by decide)))
  have Lgp2 := hide (gp2.lenOf (L9.out (0) (by decide)))
  refine hK _ _ rfl trivial ?_
  clear hK K
  refine sq ?_
  intro K hK
  have k155_156 := kb hb_156
  replace gm1 := gm1.k k155_156
  replace gm2 := gm2.k k155_156
  go_big_op
  go_fit (gCmp_any (.mk' (gm1.zn Lgm1.out) (gm2.zn Lgm2.out)) (.mk' (gp1.zn Lgp1.out) (gp2.zn Lgp2.out)) (by decide) (by decide) (by decide) (by decide))
  rintro e w_157 ⟨rfl, hb_157⟩
  replace hs := hs.bl hb_157
  refine hK _ _ rfl trivial ?_
  clear hK K
  refine sq ?_
  refine .r0 ?_
  refine sq ?_
  refine .mv ?_
  refine sq ?_
  intro K hK
  go_big_op
  go_fit (gg_any (1) (1) _ (by decide) (by decide) (by decide) (by decide))
  rintro e w_158 ⟨_, rfl, ⟨n_gqa, o_gqa, k_gqa, c_gqa, n_gqb, o_gqb, k_gqb, c_gqb, rfl, gq1, gq2⟩, hb_158⟩
  replace hs := hs.bl hb_158
  have Lgq1 := hide (gq1.lenOf (L9.out (1) (by decide)))
  have Lgq2 := hide (gq2.lenOf (L9.out (1) (by decide)))
  refine hK _ _ rfl trivial ?_
  clear hK K
  refine sq ?_
  intro K hK
  go_big_op
  go_fit (gg_any (1) (-1) _ (by decide) (by decide) (by decide) (by decide))
  rintro e w_159 ⟨_, rfl, ⟨n_gta, o_gta, k_gta, c_gta, n_gtb, o_gtb, k_gtb, c_gtb, rfl, gt1, gt2⟩, hb_159⟩
  replace hs := hs.bl hb_159
  have Lgt1 := hide (gt1.lenOf (L9.out (1) (by decide)))
  have Lgt2 := hide (gt2.lenOf (L9.out (-1) (by decide)))
  refine hK _ _ rfl trivial ?_
  clear hK K
  refine sq ?_
  intro K hK
  have k158_159 := kb hb_159
  replace gq1 := gq1.k k158_159
  replace gq2 := gq2.k k158_159
  go_big_op
  go_fit (gCmp_any (.mk' (gq1.zn Lgq1.out) (gq2.zn Lgq2.out)) (.mk' (gt1.zn Lgt1.out) (gt2.zn Lgt2.out)) (by decide) (by decide) (by decide) (by decide))
  rintro e w_160 ⟨rfl, hb_160⟩
  replace hs := hs.bl hb_160
  refine hK _ _ rfl trivial ?_
  clear hK K
  refine sq ?_
  refine .r0 ?_
  refine sq ?_
  refine .r0 ?_
  refine sq ?_
  refine .mv ?_
  refine sq ?_
  intro K hK
  go_big_op
  go_fit (gg_any (2) (0) _ (by decide) (by decide) (by decide) (by decide))
  rintro e w_161 ⟨_, rfl, ⟨n_gua, o_gua, k_gua, c_gua, n_gub, o_gub, k_gub, c_gub, rfl, gu1, gu2⟩, hb_161⟩
  clear gm1 gm2 gp1 gp2 gq1 gq2 gt1 gt2
  replace hs := hs.bl hb_161
  have Lgu1 := hide (gu1.lenOf (L9.out (2) (by decide)))
  have Lgu2 := hide (gu2.lenOf (L9.out (0) (by decide)))
  refine hK _ _ rfl trivial ?_
  clear hK K
  refine sq ?_
  intro K hK
  go_big_op
  go_fit (gg_any (2) (0) _ (by decide) (by decide) (by decide) (by decide))
  rintro e w_162 ⟨_, rfl, ⟨n_gva, o_gva, k_gva, c_gva, n_gvb, o_gvb, k_gvb, c_gvb, rfl, gv1, gv2⟩, hb_162⟩
  replace hs := hs.bl hb_162
  have Lgv1 := hide (gv1.lenOf (L9.out (2) (by decide)))
  have Lgv2 := hide (gv2.lenOf (L9.out (0) (by decide)))
  refine hK _ _ rfl trivial ?_
  clear hK K
  refine sq ?_
  intro K hK
  have k161_162 := kb hb_162
  replace gu1 := gu1.k k161_162
  replace gu2 := gu2.k k161_162
  go_big_op
  go_fit (gCmp_any (.mk' (gu1.zn Lgu1.out) (gu2.zn Lgu2.out)) (.mk' (gv1.zn Lgv1.out) (gv2.zn Lgv2.out)) (by decide) (by decide) (by decide) (by decide))
  rintro e w_163 ⟨rfl, hb_163⟩
  replace hs := hs.bl hb_163
  refine hK _ _ rfl trivial ?_
  clear hK K
  refine sq ?_
  refine .r0 ?_
  refine sq ?_
  refine .r0 ?_
  apply wpSq_end
  refine hK22 _ _ ?_
  refine cf ?_
  refine wp_skip ?_
  refine hK21 _ _ ?_
  refine wp_seq_k ?_
  intro K23 hK23
  refine wp_seq_k ?_
  intro K24 hK24
  refine rg [0, 1, 2, 3, 4, 5, 6, 7, 8, 9, 10, 11, 12, 13, 14, 15, 16, 17, 18, 19, 20, 21, 22] ?_
  refine sq ?_
  intro K hK
  go_big_op
  go_fit (gg_any (0) (-1) _ (by decide) (by decide) (by decide) (by decide))
  rintro e w_164 ⟨_, rfl, ⟨n_gya, o_gya, k_gya, c_gya, n_gyb, o_gyb, k_gyb, c_gyb, rfl, gy1, gy2⟩, hb_164⟩
  replace hs := hs.bl hb_164
  have Lgy1 := hide (gy1.lenOf (L9.out (0) (by decide)))
  have Lgy2 := hide (gy2.lenOf (L9.out (-1) (by decide)))
  refine hK _ _ rfl trivial ?_
  clear hK K
  refine sq ?_
  intro K hK
  go_big_op
  go_fit (gText_s gts_m1 (.mk' (gy1.zn Lgy1.out) (gy2.zn Lgy2.out)) (by decide) (by decide) (htabs _ hs.b))
  rintro e w_165 ⟨rfl, hb_165⟩
  replace hs := hs.bl hb_165
  refine hK _ _ rfl trivial ?_
  clear hK K
  refine sq ?_
  refine .r0 ?_
  refine sq ?_
  refine .mv ?_
  refine sq ?_
  intro K hK
  go_big_op
  go_fit (gg_any (3) (-2) _ (by decide) (by decide) (by decide) (by decide))
  rintro e w_166 ⟨_, rfl, ⟨n_gza, o_gza, k_gza, c_gza, n_gzb, o_gzb, k_gzb, c_gzb, rfl, gz1, gz2⟩, hb_166⟩
  clear gu1 gu2 gv1 gv2 gy1 gy2
  replace hs := hs.bl hb_166
  have Lgz1 := hide (gz1.lenOf (L9.out (3) (by decide)))
  have Lgz2 := hide (gz2.lenOf (L9.out (-2) (by decide)))
  refine hK _ _ rfl trivial ?_
  clear hK K
  refine sq ?_
  intro K hK
  go_big_op
  go_fit (gText_s gts_32 (.mk' (gz1.zn Lgz1.out) (gz2.zn Lgz2.out)) (by decide) (by decide) (htabs _ hs.b))
  rintro e w_167 ⟨rfl, hb_167⟩
  replace hs := hs.bl hb_167
  refine hK _ _ rfl trivial ?_
  clear hK K
  refine sq ?_
  refine .r0 ?_
  refine sq ?_
  refine .r0 ?_
  refine sq ?_
  refine .mv ?_
  refine sq ?_
  intro K hK
  go_big_op
  go_fit (gg_any (0) (0) _ (by decide) (by decide) (by decide) (by decide))
  rintro e w_168 ⟨_, rfl, ⟨n_hca, o_hca, k_hca, c_hca, n_hcb, o_hcb, k_hcb, c_hcb, rfl, hc1, hc2⟩, hb_168⟩
  replace hs := hs.bl hb_168
  have Lhc1 := hide (hc1.lenOf (L9.out (0) (by decide)))
  have Lhc2 := hide (hc2.lenOf (L9.out (0) (by decide)))
  refine hK _ _ rfl trivial ?_
  clear hK K
  refine sq ?_
  intro K hK
  go_big_op
  go_fit (gText_s gts_00 (.mk' (hc1.zn Lhc1.out) (hc2.zn Lhc2.out)) (by decide) (by decide) (htabs _ hs.b))
  rintro e w_169 ⟨rfl, hb_169⟩
  replace hs := hs.bl hb_169
  refine hK _ _ rfl trivial ?_
  clear hK K
  refine sq ?_
  refine .r0 ?_
  refine sq ?_
  refine .r0 ?_
  refine sq ?_
  refine .mv ?_
  refine sq ?_
  intro K hK
  go_big_op
  go_fit (gg_any (1) (1) _ (by decide) (by decide) (by decide) (by decide))
  rintro e w_170 ⟨_, rfl, ⟨n_hda, o_hda, k_hda, c_hda, n_hdb, o_hdb, k_hdb, c_hdb, rfl, hd1, hd2⟩, hb_170⟩
  replace hs := hs.bl hb_170
  have Lhd1 := hide (hd1.lenOf (L9.out (1) (by decide)))
  have Lhd2 := hide (hd2.lenOf (L9.out (1) (by decide)))
  refine hK _ _ rfl trivial ?_
  clear hK K
  refine sq ?_
  intro K hK
  go_big_op
  go_fit (gText_s gts_11 (.mk' (hd1.zn Lhd1.out) (hd2.zn Lhd2.out)) (by decide) (by decide) (htabs _ hs.b))
  rintro e w_171 ⟨rfl, hb_171⟩
  replace hs := hs.bl hb_171
  refine hK _ _ rfl trivial ?_
  clear hK K
  refine sq ?_
  refine .r0 ?_
  refine sq ?_
  refine .r0 ?_
  refine sq ?_
  refine .mv ?_
  refine sq ?_
  intro K hK
  go_big_op
  go_fit (gg_any (0) (5) _ (by decide) (by decide) (by decide) (by decide))
  rintro e w_172 ⟨_, rfl, ⟨n_hea, o_hea, k_hea, c_hea, n_heb, o_heb, k_heb, c_heb, rfl, he1, he2⟩, hb_172⟩
  clear gz1 gz2 hc1 hc2 hd1 hd2
  replace hs := hs.bl hb_172
  have Lhe1 := hide (he1.lenOf (L9.out (0) (by decide)))
  have Lhe2 := hide (he2.lenOf (L9.out (5) (by decide)))
  refine hK _ _ rfl trivial ?_
  clear hK K
  refine sq ?_
  intro K hK
  go_big_op
  go_fit (gText_s gts_05 (.mk' (he1.zn Lhe1.out) (he2.zn Lhe2.out)) (by decide) (by decide) (htabs _ hs.b))
  rintro e w_173 ⟨rfl, hb_173⟩
  replace hs := hs.bl hb_173
  refine hK _ _ rfl trivial ?_
  clear hK K
  refine sq ?_
  refine .r0 ?_
  refine sq ?_
  refine .r0 ?_
  apply wpSq_end
  refine hK24 _ _ ?_
  refine cf ?_
  refine wp_skip ?_
  refine hK23 _ _ ?_
  refine wp_seq_k ?_
  intro K25 hK25
  refine rg [0, 1, 2, 3, 4, 5, 6, 7, 8, 9, 10, 11, 12, 13, 14, 15, 16, 17, 18, 19, 20, 21, 22, 23, 24, 25, 26] ?_
  refine sq ?_
  intro K hK
  go_big_op
  go_fit (gg_any (0) (-1) _ (by decide) (by decide) (by decide) (by decide))
  rintro e w_174 ⟨_, rfl, ⟨n_hga, o_hga, k_hga, c_hga, n_hgb, o_hgb, k_hgb, c_hgb, rfl, hg1, hg2⟩, hb_174⟩
  replace hs := hs.bl hb_174
  have Lhg1 := hide (hg1.lenOf (L9.out (0) (by decide)))
  have Lhg2 := hide (hg2.lenOf (L9.out (-1) (by decide)))
  refine hK _ _ rfl trivial ?_
  clear hK K
  refine sq ?_
  intro K hK
  go_big_op
  go_fit (parsed_yes par_m1 (.mk' (hg1.zn Lhg1.out) (hg2.zn Lhg2.out)) (by decide) (by decide))
  rintro e w_175 ⟨rfl, hb_175⟩
  replace hs := hs.bl hb_175
  refine hK _ _ rfl trivial ?_
  clear hK K
  refine sq ?_
  refine .mv ?_
  refine sq ?_
  intro K hK
  go_big_op
  go_fit (gg_any (3) (-2) _ (by decide) (by decide) (by decide) (by decide))
  rintro e w_176 ⟨_, rfl, ⟨n_hha, o_hha, k_hha, c_hha, n_hhb, o_hhb, k_hhb, c_hhb, rfl, hh1, hh2⟩, hb_176⟩
  replace hs := hs.bl hb_176
  have Lhh1 := hide (hh1.lenOf (L9.out (3) (by decide)))
  have Lhh2 := hide (hh2.lenOf (L9.out (-2) (by decide)))
  refine hK _ _ rfl trivial ?_
  clear hK K
  refine sq ?_
  intro K hK
  go_big_op
  go_fit (parsed_yes par_32 (.mk' (hh1.zn Lhh1.out) (hh2.zn Lhh2.out)) (by decide) (by decide))
  rintro e w_177 ⟨rfl, hb_177⟩
  replace hs := hs.bl hb_177
  refine hK _ _ rfl trivial ?_
  clear hK K
  refine sq ?_
  refine .r0 ?_
  refine sq ?_
  refine .mv ?_
  refine sq ?_
  intro K hK
  go_big_op
  go_fit (gg_any (0) (0) _ (by decide) (by decide) (by decide) (by decide))
  rintro e w_178 ⟨_, rfl, ⟨n_hia, o_hia, k_hia, c_hia, n_hib, o_hib, k_hib, c_hib, rfl, hi1, hi2⟩, hb_178⟩
  clear he1 he2 hg1 hg2 hh1 hh2
  replace hs := hs.bl hb_178
  have Lhi1 := hide (hi1.lenOf (L9.out (0) (by decide)))
  have Lhi2 := hide (hi2.lenOf (L9.out (0) (by decide)))
  refine hK _ _ rfl trivial ?_
  clear hK K
  refine sq ?_
  intro K hK
  go_big_op
  go_fit (parsed_no par_pi (.mk' (hi1.zn Lhi1.out) (hi2.zn Lhi2.out)))
  rintro e w_179 ⟨rfl, hb_179⟩
  replace hs := hs.bl hb_179
  refine hK _ _ rfl trivial ?_
  clear hK K
  refine sq ?_
  refine .r0 ?_
  refine sq ?_
  refine .mv ?_
  refine sq ?_
  intro K hK
  go_big_op
  go_fit (gg_any (0) (0) _ (by decide) (by decide) (by decide) (by decide))
  rintro e w_180 ⟨_, rfl, ⟨n_hja, o_hja, k_hja, c_hja, n_hjb, o_hjb, k_hjb, c_hjb, rfl, hj1, hj2⟩, hb_180⟩
  replace hs := hs.bl hb_180
  have Lhj1 := hide (hj1.lenOf (L9.out (0) (by decide)))
  have Lhj2 := hide (hj2.lenOf (L9.out (0) (by decide)))
  refine hK _ _ rfl trivial ?_
  clear hK K
  refine sq ?_
  intro K hK
  go_big_op
  go_fit (parsed_no par_1p (.mk' (hj1.zn Lhj1.out) (hj2.zn Lhj2.out)))
  rintro e w_181 ⟨rfl, hb_181⟩
  replace hs := hs.bl hb_181
  refine hK _ _ rfl trivial ?_
  clear hK K
  refine sq ?_
  refine .r0 ?_
  refine sq ?_
  refine .mv ?_
  refine sq ?_
  intro K hK
  go_big_op
  go_fit (gg_any (0) (0) _ (by decide) (by decide) (by decide) (by decide))
  rintro e w_182 ⟨_, rfl, ⟨n_hma, o_hma, k_hma, c_hma, n_hmb, o_hmb, k_hmb, c_hmb, rfl, hm1, hm2⟩, hb_182⟩
  replace hs := hs.bl hb_182
  have Lhm1 := hide (hm1.lenOf (L9.out (0) (by decide)))
  have Lhm2 := hide (hm2.lenOf (L9.out (0) (by decide)))
  refine hK _ _ rfl trivial ?_
  clear hK K
  refine sq ?_
  intro K hK
  go_big_op
  go_fit (parsed_no par_i2 (.mk' (hm1.zn Lhm1.out) (hm2.zn Lhm2.out)))
  rintro e w_183 ⟨rfl, hb_183⟩
  replace hs := hs.bl hb_183
  refine hK _ _ rfl trivial ?_
  clear hK K
  refine sq ?_
  refine .r0 ?_
  refine sq ?_
  refine .mv ?_
  refine sq ?_
  intro K hK
  go_big_op
  go_fit (gg_any (0) (0) _ (by decide) (by decide) (by decide) (by decide))
  rintro e w_184 ⟨_, rfl, ⟨n_hqa, o_hqa, k_hqa, c_hqa, n_hqb, o_hqb, k_hqb, c_hqb, rfl, hq1, hq2⟩, hb_184⟩
  clear hi1 hi2 hj1 hj2 hm1 hm2
  replace hs := hs.bl hb_184
  have Lhq1 := hide (hq1.lenOf (L9.out (0) (by decide)))
  have Lhq2 := hide (hq2.lenOf (L9.out (0) (by decide)))
  refine hK _ _ rfl trivial ?_
  clear hK K
  refine sq ?_
  intro K hK
  go_big_op
  go_fit (parsed_yes par_00 (.mk' (hq1.zn Lhq1.out) (hq2.zn Lhq2.out)) (by decide) (by decide))
  rintro e w_185 ⟨rfl, hb_185⟩
  replace hs := hs.bl hb_185
  refine hK _ _ rfl trivial ?_
  clear hK K
  refine sq ?_
  refine .r0 ?_
  refine sq ?_
  refine .mv ?_
  refine sq ?_
  intro K hK
  go_big_op
  go_fit (gg_any (0) (0) _ (by decide) (by decide) (by decide) (by decide))
  rintro e w_186 ⟨_, rfl, ⟨n_hta, o_hta, k_hta, c_hta, n_htb, o_htb, k_htb, c_htb, rfl, ht1, ht2⟩, hb_186⟩
  replace hs := hs.bl hb_186
  have Lht1 := hide (ht1.lenOf (L9.out (0) (by decide)))
  have Lht2 := hide (ht2.lenOf (L9.out (0) (by decide)))
  refine hK _ _ rfl trivial ?_
  clear hK K
  refine sq ?_
  intro K hK
  go_big_op
  go_fit (parsed_no par_3m (.mk' (ht1.zn Lht1.out) (ht2.zn Lht2.out)))
  rintro e w_187 ⟨rfl, hb_187⟩
  replace hs := hs.bl hb_187
  refine hK _ _ rfl trivial ?_
  clear hK K
  refine sq ?_
  refine .r0 ?_
  refine sq ?_
  refine .mv ?_
  apply wpSq_end
  refine hK25 _ _ ?_
  refine wp_ret ?_
  try dsimp only [Exit.then, Exit.inBlock]
  refine bodyPost_ret (v := (.bool true)) (by simp [results, Tryz.results3, go_sem]) rfl ?_
  exact ⟨rfl, hs.b⟩
end Go.Proofs.YtlomgfgedkkhkaaGreatDoor

