/- The walk of GmatAlong. -/
import Derived.Test.YtajmgjgobgchjaaI5ToN5
namespace Go.Proofs.Ytajmgjgobgchjaa
open Go Go.RowKit Dig
set_option linter.unusedVariables false
section
variable {w : World} {na nb nc nv ka ca cb cc cv : Nat} {oa ob oc ov : Option Addr} {A B C : List (List (Int × Int))} {V : List (Int × Int)}
set_option maxHeartbeats 4000000 in
set_option maxRecDepth 20000 in
theorem along_a1 (ha : MN 1048576 w oa A) (hb' : MN 1048576 w ob B) (hc : MN 1048576 w oc C) (hv : SN 1048576 w ov V) (hna : A.length = na) (hnb : B.length = nb) (hnc : C.length = nc) (hnv : V.length = nv) (la : na ≤ 1048576) (lb : nb ≤ 1048576) (lc : nc ≤ 1048576) (lv : nv ≤ 1048576) (h1 : ml2 A B) (h2 : ml2 B C) (d1 : na = 0) :
    Calls Try.prog 7 #[.slice oa na ca, .slice ob nb cb, .slice oc nc cc, .slice ov nv cv] w fun e w' => e = .returned (.bool true) ∧ Below w.heap.size w w' := by
  have d0 : nb = 0 := by have := h1.2.2; rw [wd_nil (hna.trans d1)] at this; omega
  have BA := hide ha.bd
  have lB : B.length ≤ 64 := h1.2.1.1
  have BP := hide (show BdM 3000000 (mulM A B) from bdM_up (bd_mulM ha.bd hb'.bd) (by omega))
  have BG := hide (show BdM 3000000 (gramM A) from bdM_up (bd_gramM ha.bd) (by have := h1.1.2.1; omega))
  have lC : C.length ≤ 64 := h2.2.1.1
  have BQ := hide (show BdM 3000000 (mulM B C) from bdM_up (bd_mulM hb'.bd hc.bd) (by omega))
  have BY := hide (show BdM 6000000 (mulM (mulM A B) C) from bdM_up (bd_mulM BP.out hc.bd) (by omega))
  have HY := hide (gd_mulM (ml2_l h1 h2))
  have LY := hide (show (mulM (mulM A B) C).length = na by rw [len_mulM, len_mulM]; exact hna)
  have LP := hide (show (mulM A B).length = na from len_mulM.trans hna)
  have LQ := hide (show (mulM B C).length = nb from len_mulM.trans hnb)
  have LG := hide (show (gramM A).length = na from len_gram.trans hna)
  have WG := hide (show wd (gramM A) = na from wd_gram.trans hna)
  obtain ⟨D, hD⟩ : ∃ D, D = lenS nv fun i => nP (at1 V i) := ⟨_, rfl⟩
  have lD := hide (show (dig D.natAbs).length ≤ 50000000 by rw [hD]; exact bd_len hv hnv (by omega) (by decide))
  have HD := hide hD
  have HA := hide ha
  have HB := hide hb'
  have HC := hide hc
  have HV := hide hv
  clear ha hb' hc hv hD
  have H1 := hide h1
  have H2 := hide h2
  have AS := hide (mul_assocM h1 h2)
  have HL := hide (ml2_l h1 h2)
  have HR := hide (ml2_r h1 h2)
  have HG := hide h1.1
  clear h1 h2 lB lC
  subst d1 d0
  go_enter Try.func7, Try.ntmps7
  have hs := St.nil w
  refine wp_seq_k ?_
  intro K1 hK1
  refine rg [0] ?_
  refine sq ?_
  refine .mv ?_
  apply wpSq_end
  refine hK1 _ _ ?_
  refine wp_seq_k ?_
  intro K2 hK2
  refine wp_seq_k ?_
  intro K3 hK3
  refine rg [0, 1] ?_
  refine sq ?_
  intro K hK
  go_big_op
  go_fit (awake8_any _)
  rintro e w_1 ⟨rfl, hb_1⟩
  replace hs := hs.bl hb_1
  refine hK _ _ rfl trivial ?_
  clear hK K
  refine sq ?_
  refine .r0 ?_
  apply wpSq_end
  refine hK3 _ _ ?_
  refine cf ?_
  refine wp_skip ?_
  refine hK2 _ _ ?_
  refine wp_seq_k ?_
  intro K4 hK4
  refine rg [0, 1, 2, 3, 4, 5, 6, 7] ?_
  refine sq ?_
  refine .mv ?_
  refine sq ?_
  refine .mv ?_
  refine sq ?_
  intro K hK
  have hb := hs.b
  go_big_op
  go_fit (lMul (HA.out.bl stab_n hb) (HB.out.bl stab_n hb) hna hnb H1.out (by decide) (by decide))
  rintro e w_2 ⟨o_P, c_P, rfl, m_P, hb_2⟩
  clear hb
  replace hs := hs.bl hb_2
  refine hK _ _ rfl trivial ?_
  clear hK K
  refine sq ?_
  refine .mv ?_
  refine sq ?_
  refine .r0 ?_
  refine sq ?_
  refine .r0 ?_
  refine sq ?_
  refine .mv ?_
  refine sq ?_
  refine .mv ?_
  apply wpSq_end
  refine hK4 _ _ ?_
  refine wp_seq_k ?_
  intro K5 hK5
  refine rg [0, 1, 2, 3, 4, 5, 6, 7] ?_
  refine sq ?_
  refine .mv ?_
  refine sq ?_
  refine .mv ?_
  refine sq ?_
  intro K hK
  have hb := hs.b
  go_big_op
  go_fit (lMul (HB.out.bl stab_n hb) (HC.out.bl stab_n hb) hnb hnc H2.out (by decide) (by decide))
  rintro e w_3 ⟨o_Q, c_Q, rfl, m_Q, hb_3⟩
  clear hb
  replace m_P := m_P.bl hb_3; replace hs := hs.bl hb_3
  refine hK _ _ rfl trivial ?_
  clear hK K
  refine sq ?_
  refine .mv ?_
  refine sq ?_
  refine .r0 ?_
  refine sq ?_
  refine .r0 ?_
  refine sq ?_
  refine .mv ?_
  refine sq ?_
  refine .mv ?_
  apply wpSq_end
  refine hK5 _ _ ?_
  refine wp_seq_k ?_
  intro K6 hK6
  refine wp_seq_k ?_
  intro K7 hK7
  refine rg [0, 1, 2, 3, 4, 5] ?_
  refine sq ?_
  refine .mv ?_
  refine sq ?_
  refine .r0 ?_
  refine sq ?_
  refine .mv ?_
  refine sq ?_
  refine .mv ?_
  refine sq ?_
  refine .r0 ?_
  refine sq ?_
  refine .r0 ?_
  apply wpSq_end
  refine hK7 _ _ ?_
  refine ct ?_
  refine wp_seq_k ?_
  intro K8 hK8
  refine rg [0, 1, 2, 3, 4, 5, 6, 7] ?_
  refine sq ?_
  refine .mv ?_
  refine sq ?_
  refine .mv ?_
  refine sq ?_
  intro K hK
  have hb := hs.b
  go_big_op
  go_fit (lMul (m_P.mn BP.out) (HC.out.bl stab_n hb) LP.out hnc HL.out (by decide) (by decide))
  rintro e w_4 ⟨o_X, c_X, rfl, m_X, hb_4⟩
  clear hb
  replace m_P := m_P.bl hb_4; replace m_Q := m_Q.bl hb_4; replace hs := hs.bl hb_4
  refine hK _ _ rfl trivial ?_
  clear hK K
  refine sq ?_
  refine .mv ?_
  refine sq ?_
  refine .r0 ?_
  refine sq ?_
  refine .r0 ?_
  refine sq ?_
  refine .mv ?_
  refine sq ?_
  refine .mv ?_
  apply wpSq_end
  refine hK8 _ _ ?_
  refine wp_seq_k ?_
  intro K9 hK9
  refine rg [0, 1, 2, 3, 4, 5, 6, 7] ?_
  refine sq ?_
  refine .mv ?_
  refine sq ?_
  refine .mv ?_
  refine sq ?_
  intro K hK
  have hb := hs.b
  go_big_op
  go_fit (lMul (HA.out.bl stab_n hb) (m_Q.mn BQ.out) hna LQ.out HR.out (by decide) (by decide))
  rintro e w_5 ⟨o_Y, c_Y, rfl, m_Y, hb_5⟩
  clear hb
  replace m_P := m_P.bl hb_5; replace m_Q := m_Q.bl hb_5; replace m_X := m_X.bl hb_5; replace hs := hs.bl hb_5
  rw [← AS.out] at m_Y
  refine hK _ _ rfl trivial ?_
  clear hK K
  refine sq ?_
  refine .mv ?_
  refine sq ?_
  refine .r0 ?_
  refine sq ?_
  refine .r0 ?_
  refine sq ?_
  refine .mv ?_
  refine sq ?_
  refine .mv ?_
  apply wpSq_end
  refine hK9 _ _ ?_
  refine wp_seq_k ?_
  intro K10 hK10
  refine rg [0, 1, 2, 3, 4, 5, 6, 7, 8, 9, 10, 11] ?_
  refine sq ?_
  refine .mv ?_
  refine sq ?_
  refine .r0 ?_
  refine sq ?_
  refine .mv ?_
  refine sq ?_
  refine .mv ?_
  refine sq ?_
  refine .r0 ?_
  refine sq ?_
  refine .r0 ?_
  refine sq ?_
  refine .mv ?_
  refine sq ?_
  refine .mv ?_
  refine sq ?_
  refine .mv ?_
  refine sq ?_
  intro K hK
  go_big_op
  go_fit (msame_any m_X (m_Y.mn BY.out) LY.out (by omega) (gd_rl HY.out) (by decide))
  rintro e w_6 ⟨rfl, hb_6⟩
  replace m_P := m_P.bl hb_6; replace m_X := m_X.bl hb_6; replace m_Y := m_Y.bl hb_6; replace hs := hs.bl hb_6
  refine hK _ _ rfl trivial ?_
  clear hK K
  refine sq ?_
  refine .r0 ?_
  refine sq ?_
  refine .r0 ?_
  apply wpSq_end
  refine hK10 _ _ ?_
  refine cf ?_
  refine wp_skip ?_
  refine hK6 _ _ ?_
  refine wp_seq_k ?_
  intro K11 hK11
  refine wp_seq_k ?_
  intro K12 hK12
  refine rg [0, 1, 2, 3, 4, 5, 6, 7, 8, 9, 10, 11, 12, 13, 14, 15, 16, 17, 18] ?_
  refine sq ?_
  refine .mv ?_
  refine sq ?_
  refine .r0 ?_
  refine sq ?_
  refine .mv ?_
  refine sq ?_
  refine .mv ?_
  refine sq ?_
  refine .r0 ?_
  refine sq ?_
  refine .r0 ?_
  refine sq ?_
  refine .r0 ?_
  refine sq ?_
  refine .mv ?_
  refine sk ?_
  refine sk ?_
  refine sk ?_
  refine sq ?_
  refine .r0 ?_
  refine sq ?_
  refine .mv ?_
  refine sk ?_
  refine sk ?_
  refine sk ?_
  refine sk ?_
  refine sk ?_
  refine sq ?_
  refine .r0 ?_
  apply wpSq_end
  refine hK12 _ _ ?_
  refine cf ?_
  refine wp_skip ?_
  refine hK11 _ _ ?_
  refine wp_seq_k ?_
  intro K13 hK13
  refine rg [0, 1, 2, 3, 4, 5, 6] ?_
  refine sq ?_
  refine .mv ?_
  refine sq ?_
  intro K hK
  have hb := hs.b
  go_big_op
  go_fit (lGram (HA.out.bl stab_n hb) hna HG.out (by decide))
  rintro e w_7 ⟨o_G, c_G, rfl, m_G, hb_7⟩
  clear hb
  replace hs := hs.bl hb_7
  refine hK _ _ rfl trivial ?_
  clear hK K
  refine sq ?_
  refine .mv ?_
  refine sq ?_
  refine .r0 ?_
  refine sq ?_
  refine .r0 ?_
  refine sq ?_
  refine .mv ?_
  refine sq ?_
  refine .mv ?_
  apply wpSq_end
  refine hK13 _ _ ?_
  refine wp_seq_k ?_
  intro K14 hK14
  refine wp_seq_k ?_
  intro K15 hK15
  refine rg [0, 1] ?_
  refine sq ?_
  refine .mv ?_
  refine sq ?_
  refine .r0 ?_
  apply wpSq_end
  refine hK15 _ _ ?_
  refine ct ?_
  refine wp_seq_k ?_
  intro K16 hK16
  refine rg [0, 1, 2, 3, 4, 5, 6] ?_
  refine sq ?_
  refine .mv ?_
  refine sq ?_
  intro K hK
  go_big_op
  go_fit (lAdj (m_G.mn BG.out) LG.out (gd_gram HG.out) (by decide) WG.out)
  rintro e w_8 ⟨o_L, c_L, rfl, m_L, hb_8⟩
  replace m_G := m_G.bl hb_8; replace hs := hs.bl hb_8
  rw [adj_gram] at m_L
  refine hK _ _ rfl trivial ?_
  clear hK K
  refine sq ?_
  refine .mv ?_
  refine sq ?_
  refine .r0 ?_
  refine sq ?_
  refine .r0 ?_
  refine sq ?_
  refine .mv ?_
  refine sq ?_
  refine .mv ?_
  apply wpSq_end
  refine hK16 _ _ ?_
  refine wp_seq_k ?_
  intro K17 hK17
  refine rg [0, 1, 2, 3, 4, 5, 6, 7] ?_
  refine sq ?_
  refine .mv ?_
  refine sq ?_
  refine .r0 ?_
  refine sq ?_
  refine .mv ?_
  refine sq ?_
  refine .mv ?_
  refine sq ?_
  refine .mv ?_
  refine sq ?_
  intro K hK
  go_big_op
  go_fit (msame_any m_G (m_L.mn BG.out) LG.out (by omega) (gd_rl (gd_gram HG.out)) (by decide))
  rintro e w_9 ⟨rfl, hb_9⟩
  replace m_G := m_G.bl hb_9; replace m_L := m_L.bl hb_9; replace hs := hs.bl hb_9
  refine hK _ _ rfl trivial ?_
  clear hK K
  refine sq ?_
  refine .r0 ?_
  refine sq ?_
  refine .r0 ?_
  apply wpSq_end
  refine hK17 _ _ ?_
  refine cf ?_
  refine wp_skip ?_
  refine hK14 _ _ ?_
  refine wp_seq_k ?_
  intro K18 hK18
  refine rg [0, 1, 2, 3, 4, 5, 6, 7, 8] ?_
  refine sq ?_
  refine .mv ?_
  refine sq ?_
  refine .mv ?_
  refine sq ?_
  intro K hK
  have hb := hs.b
  go_big_op
  go_fit (lDot HD.out (HV.out.bl stab_n hb) hnv (by omega) (by decide))
  rintro e w_10 ⟨_, rfl, ⟨n_da, o_da, k_da, c_da, n_db, o_db, k_db, c_db, rfl, d1, d2⟩, hb_10⟩
  clear hb
  clear m_Q m_P m_X m_Y m_G m_L
  replace hs := hs.bl hb_10
  have Ld1 := hide (d1.lenOf (lD.out))
  refine hK _ _ rfl trivial ?_
  clear hK K
  refine sq ?_
  refine .mv ?_
  refine sq ?_
  refine .r0 ?_
  refine sq ?_
  refine .r0 ?_
  refine sq ?_
  refine .al hs ?_; clear hs; intro p_b1 w_11 hs n11 kb_b1
  refine sq ?_
  refine .s4 hs.g0 (fun _ => hs.u0 kb_b1) ?_; clear hs; intro w_12 hs hd12 ho12
  refine sq ?_
  refine .mv ?_
  apply wpSq_end
  refine hK18 _ _ ?_
  refine wp_seq_k ?_
  intro K19 hK19
  refine wp_region_f4 [(0, false), (1, false), (2, false), (3, false), (4, false), (5, false), (6, true), (7, true), (8, false), (9, false), (10, false), (11, false), (12, true), (13, false), (14, false), (15, false)] [] [] (fun _ => default) [99, 99, 99, 99, 0, 99, 99, 99, 99, 99, 99, 0, 99, 99, 99, 99] [] (.c hs.g0 .n) fn fun w_13 n13 => ?_
  replace hs := hs.bl n13
  refine fmv ?_
  refine f0 ?_
  refine fmv ?_
  refine f0 ?_
  refine f4 ?_
  refine fmv ?_
  refine fl fun w_14 n14 => ?_
  replace hs := hs.bl n14
  intro K hK
  have hb := hs.b
  go_big_op
  go_fit (lLen HD.out (HV.out.bl stab_n hb) hnv (by omega) (by decide))
  rintro e w_15 ⟨v_z, rfl, z, hb_15⟩
  clear hb
  replace hs := hs.bl hb_15
  obtain ⟨n_z, o_z, k_z, c_z, rfl⟩ := z.open2
  have Lz := hide (z.lenOf (lD.out))
  refine hK _ _ rfl ⟨hb_15, (And.intro hs.g0 trivial)⟩ ?_
  clear hK K
  refine fl fun w_16 n16 => ?_
  replace hs := hs.bl n16
  intro K hK
  have k10_16 := (((((kb n11).o hd12 ho12).b n13).b n14).b hb_15).b n16
  replace d1 := d1.k k10_16
  have k15_16 := kb n16
  replace z := z.k k15_16
  go_big_op
  go_fit (rsame_zz d1 (z.zn lD.out) (by decide))
  rintro e w_17 ⟨rfl, hb_17⟩
  replace hs := hs.bl hb_17
  refine hK _ _ rfl ⟨hb_17, (And.intro hs.g0 trivial)⟩ ?_
  clear hK K
  refine f0 ?_
  refine fmv ?_
  refine f0 ?_
  refine f4 ?_
  refine fl fun w_18 n18 => ?_
  replace hs := hs.bl n18
  intro K hK
  have k10_18 := (k10_16.b hb_17).b n18
  replace d2 := d2.k k10_18
  go_big_op
  go_fit (rsign0 d2)
  rintro e w_19 ⟨rfl, hb_19⟩
  replace hs := hs.bl hb_19
  refine hK _ _ rfl ⟨hb_19, (And.intro hs.g0 trivial)⟩ ?_
  clear hK K
  refine f0 ?_
  refine f0 ?_
  refine fmv ?_
  refine e0 hs ?_; clear hs; intro w_20 hs n20
  apply wpTail_end
  refine hK19 _ _ ?_
  refine wp_ret ?_
  try dsimp only [Exit.then, Exit.inBlock]
  refine bodyPost_ret (v := (.bool true)) (by simp [results, Try.results7, go_sem]) rfl ?_
  exact ⟨rfl, hs.b⟩
set_option maxHeartbeats 4000000 in
set_option maxRecDepth 20000 in
theorem along_b1 (ha : MN 1048576 w oa A) (hb' : MN 1048576 w ob B) (hc : MN 1048576 w oc C) (hv : SN 1048576 w ov V) (hna : A.length = na) (hnb : B.length = nb) (hnc : C.length = nc) (hnv : V.length = nv) (la : na ≤ 1048576) (lb : nb ≤ 1048576) (lc : nc ≤ 1048576) (lv : nv ≤ 1048576) (h1 : ml2 A B) (h2 : ml2 B C) (d1 : 0 < na) (d2 : nb = 0) :
    Calls Try.prog 7 #[.slice oa na ca, .slice ob nb cb, .slice oc nc cc, .slice ov nv cv] w fun e w' => e = .returned (.bool true) ∧ Below w.heap.size w w' := by
  have d0 : nb = 0 := d2
  have BA := hide ha.bd
  have lB : B.length ≤ 64 := h1.2.1.1
  have BP := hide (show BdM 3000000 (mulM A B) from bdM_up (bd_mulM ha.bd hb'.bd) (by omega))
  have BG := hide (show BdM 3000000 (gramM A) from bdM_up (bd_gramM ha.bd) (by have := h1.1.2.1; omega))
  have lC : C.length ≤ 64 := h2.2.1.1
  have BQ := hide (show BdM 3000000 (mulM B C) from bdM_up (bd_mulM hb'.bd hc.bd) (by omega))
  have BY := hide (show BdM 6000000 (mulM (mulM A B) C) from bdM_up (bd_mulM BP.out hc.bd) (by omega))
  have HY := hide (gd_mulM (ml2_l h1 h2))
  have LY := hide (show (mulM (mulM A B) C).length = na by rw [len_mulM, len_mulM]; exact hna)
  have LP := hide (show (mulM A B).length = na from len_mulM.trans hna)
  have LQ := hide (show (mulM B C).length = nb from len_mulM.trans hnb)
  have LG := hide (show (gramM A).length = na from len_gram.trans hna)
  have WG := hide (show wd (gramM A) = na from wd_gram.trans hna)
  obtain ⟨D, hD⟩ : ∃ D, D = lenS nv fun i => nP (at1 V i) := ⟨_, rfl⟩
  have lD := hide (show (dig D.natAbs).length ≤ 50000000 by rw [hD]; exact bd_len hv hnv (by omega) (by decide))
  have HD := hide hD
  have HA := hide ha
  have HB := hide hb'
  have HC := hide hc
  have HV := hide hv
  clear ha hb' hc hv hD
  have H1 := hide h1
  have H2 := hide h2
  have AS := hide (mul_assocM h1 h2)
  have HL := hide (ml2_l h1 h2)
  have HR := hide (ml2_r h1 h2)
  have HG := hide h1.1
  clear h1 h2 lB lC
  have t1 : ((0 : Int) < na) = True := eq_true (by omega)
  have t2 : ((0 : Int) < nb) = False := eq_false (by omega)
  have t4 : (0 < nb) = False := eq_false (by omega)
  clear d2 d0
  have t5 : (0 < na) = True := eq_true d1
  go_enter Try.func7, Try.ntmps7
  have hs := St.nil w
  refine wp_seq_k ?_
  intro K1 hK1
  refine rg [0] ?_
  refine sq ?_
  refine .mv ?_
  apply wpSq_end
  refine hK1 _ _ ?_
  refine wp_seq_k ?_
  intro K2 hK2
  refine wp_seq_k ?_
  intro K3 hK3
  refine rg [0, 1] ?_
  refine sq ?_
  intro K hK
  go_big_op
  go_fit (awake8_any _)
  rintro e w_1 ⟨rfl, hb_1⟩
  replace hs := hs.bl hb_1
  refine hK _ _ rfl trivial ?_
  clear hK K
  refine sq ?_
  refine .r0 ?_
  apply wpSq_end
  refine hK3 _ _ ?_
  refine cf ?_
  refine wp_skip ?_
  refine hK2 _ _ ?_
  refine wp_seq_k ?_
  intro K4 hK4
  refine rg [0, 1, 2, 3, 4, 5, 6, 7] ?_
  refine sq ?_
  refine .mv ?_
  refine sq ?_
  refine .mv ?_
  refine sq ?_
  intro K hK
  have hb := hs.b
  go_big_op
  go_fit (lMul (HA.out.bl stab_n hb) (HB.out.bl stab_n hb) hna hnb H1.out (by decide) (by decide))
  rintro e w_2 ⟨o_P, c_P, rfl, m_P, hb_2⟩
  clear hb
  replace hs := hs.bl hb_2
  refine hK _ _ rfl trivial ?_
  clear hK K
  refine sq ?_
  refine .mv ?_
  refine sq ?_
  refine .r0 ?_
  refine sq ?_
  refine .r0 ?_
  refine sq ?_
  refine .mv ?_
  refine sq ?_
  refine .mv ?_
  apply wpSq_end
  refine hK4 _ _ ?_
  refine wp_seq_k ?_
  intro K5 hK5
  refine rg [0, 1, 2, 3, 4, 5, 6, 7] ?_
  refine sq ?_
  refine .mv ?_
  refine sq ?_
  refine .mv ?_
  refine sq ?_
  intro K hK
  have hb := hs.b
  go_big_op
  go_fit (lMul (HB.out.bl stab_n hb) (HC.out.bl stab_n hb) hnb hnc H2.out (by decide) (by decide))
  rintro e w_3 ⟨o_Q, c_Q, rfl, m_Q, hb_3⟩
  clear hb
  replace m_P := m_P.bl hb_3; replace hs := hs.bl hb_3
  refine hK _ _ rfl trivial ?_
  clear hK K
  refine sq ?_
  refine .mv ?_
  refine sq ?_
  refine .r0 ?_
  refine sq ?_
  refine .r0 ?_
  refine sq ?_
  refine .mv ?_
  refine sq ?_
  refine .mv ?_
  apply wpSq_end
  refine hK5 _ _ ?_
  refine wp_seq_k ?_
  intro K6 hK6
  refine wp_seq_k ?_
  intro K7 hK7
  refine rg [0, 1, 2, 3, 4, 5] ?_
  refine sq ?_
  refine .mv ?_
  refine sq ?_
  refine .r0 ?_
  refine sq ?_
  refine .mv ?_
  refine sq ?_
  refine .mv ?_
  refine sq ?_
  refine .r0 ?_
  refine sq ?_
  refine .r0 ?_
  apply wpSq_end
  refine hK7 _ _ ?_
  refine ct ?_
  refine wp_seq_k ?_
  intro K8 hK8
  refine rg [0, 1, 2, 3, 4, 5, 6, 7] ?_
  refine sq ?_
  refine .mv ?_
  refine sq ?_
  refine .mv ?_
  refine sq ?_
  intro K hK
  have hb := hs.b
  go_big_op
  go_fit (lMul (m_P.mn BP.out) (HC.out.bl stab_n hb) LP.out hnc HL.out (by decide) (by decide))
  rintro e w_4 ⟨o_X, c_X, rfl, m_X, hb_4⟩
  clear hb
  replace m_P := m_P.bl hb_4; replace m_Q := m_Q.bl hb_4; replace hs := hs.bl hb_4
  refine hK _ _ rfl trivial ?_
  clear hK K
  refine sq ?_
  refine .mv ?_
  refine sq ?_
  refine .r0 ?_
  refine sq ?_
  refine .r0 ?_
  refine sq ?_
  refine .mv ?_
  refine sq ?_
  refine .mv ?_
  apply wpSq_end
  refine hK8 _ _ ?_
  refine wp_seq_k ?_
  intro K9 hK9
  refine rg [0, 1, 2, 3, 4, 5, 6, 7] ?_
  refine sq ?_
  refine .mv ?_
  refine sq ?_
  refine .mv ?_
  refine sq ?_
  intro K hK
  have hb := hs.b
  go_big_op
  go_fit (lMul (HA.out.bl stab_n hb) (m_Q.mn BQ.out) hna LQ.out HR.out (by decide) (by decide))
  rintro e w_5 ⟨o_Y, c_Y, rfl, m_Y, hb_5⟩
  clear hb
  replace m_P := m_P.bl hb_5; replace m_Q := m_Q.bl hb_5; replace m_X := m_X.bl hb_5; replace hs := hs.bl hb_5
  rw [← AS.out] at m_Y
  refine hK _ _ rfl trivial ?_
  clear hK K
  refine sq ?_
  refine .mv ?_
  refine sq ?_
  refine .r0 ?_
  refine sq ?_
  refine .r0 ?_
  refine sq ?_
  refine .mv ?_
  refine sq ?_
  refine .mv ?_
  apply wpSq_end
  refine hK9 _ _ ?_
  refine wp_seq_k ?_
  intro K10 hK10
  refine rg [0, 1, 2, 3, 4, 5, 6, 7, 8, 9, 10, 11] ?_
  refine sq ?_
  refine .mv ?_
  refine sq ?_
  refine .r0 ?_
  refine sq ?_
  refine .mv ?_
  refine sq ?_
  refine .mv ?_
  refine sq ?_
  refine .r0 ?_
  refine sq ?_
  refine .r0 ?_
  refine sq ?_
  refine .mv ?_
  refine sq ?_
  refine .mv ?_
  refine sq ?_
  refine .mv ?_
  refine sq ?_
  intro K hK
  go_big_op
  go_fit (msame_any m_X (m_Y.mn BY.out) LY.out (by omega) (gd_rl HY.out) (by decide))
  rintro e w_6 ⟨rfl, hb_6⟩
  replace m_P := m_P.bl hb_6; replace m_X := m_X.bl hb_6; replace m_Y := m_Y.bl hb_6; replace hs := hs.bl hb_6
  refine hK _ _ rfl trivial ?_
  clear hK K
  refine sq ?_
  refine .r0 ?_
  refine sq ?_
  refine .r0 ?_
  apply wpSq_end
  refine hK10 _ _ ?_
  refine cf ?_
  refine wp_skip ?_
  refine hK6 _ _ ?_
  refine wp_seq_k ?_
  intro K11 hK11
  refine wp_seq_k ?_
  intro K12 hK12
  refine rg [0, 1, 2, 3, 4, 5, 6, 7, 8, 9, 10, 11, 12, 13, 14, 15, 16, 17, 18] ?_
  refine sq ?_
  refine .mv ?_
  refine sq ?_
  refine .r0 ?_
  refine sq ?_
  refine .mv ?_
  refine sq ?_
  refine .mv ?_
  refine sq ?_
  refine .r0 ?_
  refine sq ?_
  refine .r0 ?_
  refine sq ?_
  refine .r0 ?_
  refine sq ?_
  refine .mv ?_
  refine sq ?_
  refine .mv ?_
  refine sq ?_
  refine .r0 ?_
  refine sq ?_
  refine .r0 ?_
  refine sq ?_
  refine .r0 ?_
  refine sq ?_
  refine .mv ?_
  refine sk ?_
  refine sk ?_
  refine sk ?_
  refine sk ?_
  refine sk ?_
  refine sq ?_
  refine .r0 ?_
  apply wpSq_end
  refine hK12 _ _ ?_
  refine cf ?_
  refine wp_skip ?_
  refine hK11 _ _ ?_
  refine wp_seq_k ?_
  intro K13 hK13
  refine rg [0, 1, 2, 3, 4, 5, 6] ?_
  refine sq ?_
  refine .mv ?_
  refine sq ?_
  intro K hK
  have hb := hs.b
  go_big_op
  go_fit (lGram (HA.out.bl stab_n hb) hna HG.out (by decide))
  rintro e w_7 ⟨o_G, c_G, rfl, m_G, hb_7⟩
  clear hb
  replace hs := hs.bl hb_7
  refine hK _ _ rfl trivial ?_
  clear hK K
  refine sq ?_
  refine .mv ?_
  refine sq ?_
  refine .r0 ?_
  refine sq ?_
  refine .r0 ?_
  refine sq ?_
  refine .mv ?_
  refine sq ?_
  refine .mv ?_
  apply wpSq_end
  refine hK13 _ _ ?_
  refine wp_seq_k ?_
  intro K14 hK14
  refine wp_seq_k ?_
  intro K15 hK15
  refine rg [0, 1] ?_
  refine sq ?_
  refine .mv ?_
  refine sq ?_
  refine .r0 ?_
  apply wpSq_end
  refine hK15 _ _ ?_
  refine ct ?_
  refine wp_seq_k ?_
  intro K16 hK16
  refine rg [0, 1, 2, 3, 4, 5, 6] ?_
  refine sq ?_
  refine .mv ?_
  refine sq ?_
  intro K hK
  go_big_op
  go_fit (lAdj (m_G.mn BG.out) LG.out (gd_gram HG.out) (by decide) WG.out)
  rintro e w_8 ⟨o_L, c_L, rfl, m_L, hb_8⟩
  replace m_G := m_G.bl hb_8; replace hs := hs.bl hb_8
  rw [adj_gram] at m_L
  refine hK _ _ rfl trivial ?_
  clear hK K
  refine sq ?_
  refine .mv ?_
  refine sq ?_
  refine .r0 ?_
  refine sq ?_
  refine .r0 ?_
  refine sq ?_
  refine .mv ?_
  refine sq ?_
  refine .mv ?_
  apply wpSq_end
  refine hK16 _ _ ?_
  refine wp_seq_k ?_
  intro K17 hK17
  refine rg [0, 1, 2, 3, 4, 5, 6, 7] ?_
  refine sq ?_
  refine .mv ?_
  refine sq ?_
  refine .r0 ?_
  refine sq ?_
  refine .mv ?_
  refine sq ?_
  refine .mv ?_
  refine sq ?_
  refine .mv ?_
  refine sq ?_
  intro K hK
  go_big_op
  go_fit (msame_any m_G (m_L.mn BG.out) LG.out (by omega) (gd_rl (gd_gram HG.out)) (by decide))
  rintro e w_9 ⟨rfl, hb_9⟩
  replace m_G := m_G.bl hb_9; replace m_L := m_L.bl hb_9; replace hs := hs.bl hb_9
  refine hK _ _ rfl trivial ?_
  clear hK K
  refine sq ?_
  refine .r0 ?_
  refine sq ?_
  refine .r0 ?_
  apply wpSq_end
  refine hK17 _ _ ?_
  refine cf ?_
  refine wp_skip ?_
  refine hK14 _ _ ?_
  refine wp_seq_k ?_
  intro K18 hK18
  refine rg [0, 1, 2, 3, 4, 5, 6, 7, 8] ?_
  refine sq ?_
  refine .mv ?_
  refine sq ?_
  refine .mv ?_
  refine sq ?_
  intro K hK
  have hb := hs.b
  go_big_op
  go_fit (lDot HD.out (HV.out.bl stab_n hb) hnv (by omega) (by decide))
  rintro e w_10 ⟨_, rfl, ⟨n_da, o_da, k_da, c_da, n_db, o_db, k_db, c_db, rfl, d1, d2⟩, hb_10⟩
  clear hb
  clear m_Q m_P m_X m_Y m_G m_L
  replace hs := hs.bl hb_10
  have Ld1 := hide (d1.lenOf (lD.out))
  refine hK _ _ rfl trivial ?_
  clear hK K
  refine sq ?_
  refine .mv ?_
  refine sq ?_
  refine .r0 ?_
  refine sq ?_
  refine .r0 ?_
  refine sq ?_
  refine .al hs ?_; clear hs; intro p_b1 w_11 hs n11 kb_b1
  refine sq ?_
  refine .s4 hs.g0 (fun _ => hs.u0 kb_b1) ?_; clear hs; intro w_12 hs hd12 ho12
  refine sq ?_
  refine .mv ?_
  apply wpSq_end
  refine hK18 _ _ ?_
  refine wp_seq_k ?_
  intro K19 hK19
  refine wp_region_f4 [(0, false), (1, false), (2, false), (3, false), (4, false), (5, false), (6, true), (7, true), (8, false), (9, false), (10, false), (11, false), (12, true), (13, false), (14, false), (15, false)] [] [] (fun _ => default) [99, 99, 99, 99, 0, 99, 99, 99, 99, 99, 99, 0, 99, 99, 99, 99] [] (.c hs.g0 .n) fn fun w_13 n13 => ?_
  replace hs := hs.bl n13
  refine fmv ?_
  refine f0 ?_
  refine fmv ?_
  refine f0 ?_
  refine f4 ?_
  refine fmv ?_
  refine fl fun w_14 n14 => ?_
  replace hs := hs.bl n14
  intro K hK
  have hb := hs.b
  go_big_op
  go_fit (lLen HD.out (HV.out.bl stab_n hb) hnv (by omega) (by decide))
  rintro e w_15 ⟨v_z, rfl, z, hb_15⟩
  clear hb
  replace hs := hs.bl hb_15
  obtain ⟨n_z, o_z, k_z, c_z, rfl⟩ := z.open2
  have Lz := hide (z.lenOf (lD.out))
  refine hK _ _ rfl ⟨hb_15, (And.intro hs.g0 trivial)⟩ ?_
  clear hK K
  refine fl fun w_16 n16 => ?_
  replace hs := hs.bl n16
  intro K hK
  have k10_16 := (((((kb n11).o hd12 ho12).b n13).b n14).b hb_15).b n16
  replace d1 := d1.k k10_16
  have k15_16 := kb n16
  replace z := z.k k15_16
  go_big_op
  go_fit (rsame_zz d1 (z.zn lD.out) (by decide))
  rintro e w_17 ⟨rfl, hb_17⟩
  replace hs := hs.bl hb_17
  refine hK _ _ rfl ⟨hb_17, (And.intro hs.g0 trivial)⟩ ?_
  clear hK K
  refine f0 ?_
  refine fmv ?_
  refine f0 ?_
  refine f4 ?_
  refine fl fun w_18 n18 => ?_
  replace hs := hs.bl n18
  intro K hK
  have k10_18 := (k10_16.b hb_17).b n18
  replace d2 := d2.k k10_18
  go_big_op
  go_fit (rsign0 d2)
  rintro e w_19 ⟨rfl, hb_19⟩
  replace hs := hs.bl hb_19
  refine hK _ _ rfl ⟨hb_19, (And.intro hs.g0 trivial)⟩ ?_
  clear hK K
  refine f0 ?_
  refine f0 ?_
  refine fmv ?_
  refine e0 hs ?_; clear hs; intro w_20 hs n20
  apply wpTail_end
  refine hK19 _ _ ?_
  refine wp_ret ?_
  try dsimp only [Exit.then, Exit.inBlock]
  refine bodyPost_ret (v := (.bool true)) (by simp [results, Try.results7, go_sem]) rfl ?_
  exact ⟨rfl, hs.b⟩
set_option maxHeartbeats 4000000 in
set_option maxRecDepth 20000 in
theorem along_c1 (ha : MN 1048576 w oa A) (hb' : MN 1048576 w ob B) (hc : MN 1048576 w oc C) (hv : SN 1048576 w ov V) (hna : A.length = na) (hnb : B.length = nb) (hnc : C.length = nc) (hnv : V.length = nv) (la : na ≤ 1048576) (lb : nb ≤ 1048576) (lc : nc ≤ 1048576) (lv : nv ≤ 1048576) (h1 : ml2 A B) (h2 : ml2 B C) (d1 : 0 < na) (d2 : 0 < nb) (d3 : wd B = 0) :
    Calls Try.prog 7 #[.slice oa na ca, .slice ob nb cb, .slice oc nc cc, .slice ov nv cv] w fun e w' => e = .returned (.bool true) ∧ Below w.heap.size w w' := by
  obtain ⟨g, off, cur, ty, fz, rfl, x, hr⟩ := hb'.box (by omega)
  obtain ⟨o0, c0, ez, s0⟩ := hr 0 (by omega)
  obtain ⟨mb, hkb⟩ : ∃ mb, wd B = mb := ⟨_, rfl⟩
  rw [wd_0 (by omega), hkb, Nat.add_zero] at ez
  clear s0 hr
  rw [hkb] at d3
  subst d3
  have BA := hide ha.bd
  have lB : B.length ≤ 64 := h1.2.1.1
  have BP := hide (show BdM 3000000 (mulM A B) from bdM_up (bd_mulM ha.bd hb'.bd) (by omega))
  have BG := hide (show BdM 3000000 (gramM A) from bdM_up (bd_gramM ha.bd) (by have := h1.1.2.1; omega))
  have lC : C.length ≤ 64 := h2.2.1.1
  have BQ := hide (show BdM 3000000 (mulM B C) from bdM_up (bd_mulM hb'.bd hc.bd) (by omega))
  have BY := hide (show BdM 6000000 (mulM (mulM A B) C) from bdM_up (bd_mulM BP.out hc.bd) (by omega))
  have HY := hide (gd_mulM (ml2_l h1 h2))
  have LY := hide (show (mulM (mulM A B) C).length = na by rw [len_mulM, len_mulM]; exact hna)
  have LP := hide (show (mulM A B).length = na from len_mulM.trans hna)
  have LQ := hide (show (mulM B C).length = nb from len_mulM.trans hnb)
  have LG := hide (show (gramM A).length = na from len_gram.trans hna)
  have WG := hide (show wd (gramM A) = na from wd_gram.trans hna)
  obtain ⟨D, hD⟩ : ∃ D, D = lenS nv fun i => nP (at1 V i) := ⟨_, rfl⟩
  have lD := hide (show (dig D.natAbs).length ≤ 50000000 by rw [hD]; exact bd_len hv hnv (by omega) (by decide))
  have HD := hide hD
  have HA := hide ha
  have HB := hide hb'
  have HC := hide hc
  have HV := hide hv
  clear ha hb' hc hv hD hkb
  have H1 := hide h1
  have H2 := hide h2
  have AS := hide (mul_assocM h1 h2)
  have HL := hide (ml2_l h1 h2)
  have HR := hide (ml2_r h1 h2)
  have HG := hide h1.1
  clear h1 h2 lB lC
  have t1 : ((0 : Int) < na) = True := eq_true (by omega)
  have t2 : ((0 : Int) < nb) = True := eq_true (by omega)
  go_enter Try.func7, Try.ntmps7
  have hs := St.nil w
  refine wp_seq_k ?_
  intro K1 hK1
  refine rg [0] ?_
  refine sq ?_
  refine .mv ?_
  apply wpSq_end
  refine hK1 _ _ ?_
  refine wp_seq_k ?_
  intro K2 hK2
  refine wp_seq_k ?_
  intro K3 hK3
  refine rg [0, 1] ?_
  refine sq ?_
  intro K hK
  go_big_op
  go_fit (awake8_any _)
  rintro e w_1 ⟨rfl, hb_1⟩
  replace x := x.bl hb_1; replace hs := hs.bl hb_1
  refine hK _ _ rfl trivial ?_
  clear hK K
  refine sq ?_
  refine .r0 ?_
  apply wpSq_end
  refine hK3 _ _ ?_
  refine cf ?_
  refine wp_skip ?_
  refine hK2 _ _ ?_
  refine wp_seq_k ?_
  intro K4 hK4
  refine rg [0, 1, 2, 3, 4, 5, 6, 7] ?_
  refine sq ?_
  refine .mv ?_
  refine sq ?_
  refine .mv ?_
  refine sq ?_
  intro K hK
  have hb := hs.b
  go_big_op
  go_fit (lMul (HA.out.bl stab_n hb) (HB.out.bl stab_n hb) hna hnb H1.out (by decide) (by decide))
  rintro e w_2 ⟨o_P, c_P, rfl, m_P, hb_2⟩
  clear hb
  replace x := x.bl hb_2; replace hs := hs.bl hb_2
  refine hK _ _ rfl trivial ?_
  clear hK K
  refine sq ?_
  refine .mv ?_
  refine sq ?_
  refine .r0 ?_
  refine sq ?_
  refine .r0 ?_
  refine sq ?_
  refine .mv ?_
  refine sq ?_
  refine .mv ?_
  apply wpSq_end
  refine hK4 _ _ ?_
  refine wp_seq_k ?_
  intro K5 hK5
  refine rg [0, 1, 2, 3, 4, 5, 6, 7] ?_
  refine sq ?_
  refine .mv ?_
  refine sq ?_
  refine .mv ?_
  refine sq ?_
  intro K hK
  have hb := hs.b
  go_big_op
  go_fit (lMul (HB.out.bl stab_n hb) (HC.out.bl stab_n hb) hnb hnc H2.out (by decide) (by decide))
  rintro e w_3 ⟨o_Q, c_Q, rfl, m_Q, hb_3⟩
  clear hb
  replace x := x.bl hb_3; replace m_P := m_P.bl hb_3; replace hs := hs.bl hb_3
  refine hK _ _ rfl trivial ?_
  clear hK K
  refine sq ?_
  refine .mv ?_
  refine sq ?_
  refine .r0 ?_
  refine sq ?_
  refine .r0 ?_
  refine sq ?_
  refine .mv ?_
  refine sq ?_
  refine .mv ?_
  apply wpSq_end
  refine hK5 _ _ ?_
  refine wp_seq_k ?_
  intro K6 hK6
  refine wp_seq_k ?_
  intro K7 hK7
  refine rg [0, 1, 2, 3, 4, 5] ?_
  refine sq ?_
  refine .mv ?_
  refine sq ?_
  refine .r0 ?_
  refine sq ?_
  refine .mv ?_
  refine sq ?_
  refine .mv ?_
  refine sq ?_
  refine .r0 ?_
  refine sq ?_
  refine .r0 ?_
  apply wpSq_end
  refine hK7 _ _ ?_
  refine ct ?_
  refine wp_seq_k ?_
  intro K8 hK8
  refine rg [0, 1, 2, 3, 4, 5, 6, 7] ?_
  refine sq ?_
  refine .mv ?_
  refine sq ?_
  refine .mv ?_
  refine sq ?_
  intro K hK
  have hb := hs.b
  go_big_op
  go_fit (lMul (m_P.mn BP.out) (HC.out.bl stab_n hb) LP.out hnc HL.out (by decide) (by decide))
  rintro e w_4 ⟨o_X, c_X, rfl, m_X, hb_4⟩
  clear hb
  replace x := x.bl hb_4; replace m_P := m_P.bl hb_4; replace m_Q := m_Q.bl hb_4; replace hs := hs.bl hb_4
  refine hK _ _ rfl trivial ?_
  clear hK K
  refine sq ?_
  refine .mv ?_
  refine sq ?_
  refine .r0 ?_
  refine sq ?_
  refine .r0 ?_
  refine sq ?_
  refine .mv ?_
  refine sq ?_
  refine .mv ?_
  apply wpSq_end
  refine hK8 _ _ ?_
  refine wp_seq_k ?_
  intro K9 hK9
  refine rg [0, 1, 2, 3, 4, 5, 6, 7] ?_
  refine sq ?_
  refine .mv ?_
  refine sq ?_
  refine .mv ?_
  refine sq ?_
  intro K hK
  have hb := hs.b
  go_big_op
  go_fit (lMul (HA.out.bl stab_n hb) (m_Q.mn BQ.out) hna LQ.out HR.out (by decide) (by decide))
  rintro e w_5 ⟨o_Y, c_Y, rfl, m_Y, hb_5⟩
  clear hb
  replace x := x.bl hb_5; replace m_P := m_P.bl hb_5; replace m_Q := m_Q.bl hb_5; replace m_X := m_X.bl hb_5; replace hs := hs.bl hb_5
  rw [← AS.out] at m_Y
  refine hK _ _ rfl trivial ?_
  clear hK K
  refine sq ?_
  refine .mv ?_
  refine sq ?_
  refine .r0 ?_
  refine sq ?_
  refine .r0 ?_
  refine sq ?_
  refine .mv ?_
  refine sq ?_
  refine .mv ?_
  apply wpSq_end
  refine hK9 _ _ ?_
  refine wp_seq_k ?_
  intro K10 hK10
  refine rg [0, 1, 2, 3, 4, 5, 6, 7, 8, 9, 10, 11] ?_
  refine sq ?_
  refine .mv ?_
  refine sq ?_
  refine .r0 ?_
  refine sq ?_
  refine .mv ?_
  refine sq ?_
  refine .mv ?_
  refine sq ?_
  refine .r0 ?_
  refine sq ?_
  refine .r0 ?_
  refine sq ?_
  refine .mv ?_
  refine sq ?_
  refine .mv ?_
  refine sq ?_
  refine .mv ?_
  refine sq ?_
  intro K hK
  go_big_op
  go_fit (msame_any m_X (m_Y.mn BY.out) LY.out (by omega) (gd_rl HY.out) (by decide))
  rintro e w_6 ⟨rfl, hb_6⟩
  replace x := x.bl hb_6; replace m_P := m_P.bl hb_6; replace m_X := m_X.bl hb_6; replace m_Y := m_Y.bl hb_6; replace hs := hs.bl hb_6
  refine hK _ _ rfl trivial ?_
  clear hK K
  refine sq ?_
  refine .r0 ?_
  refine sq ?_
  refine .r0 ?_
  apply wpSq_end
  refine hK10 _ _ ?_
  refine cf ?_
  refine wp_skip ?_
  refine hK6 _ _ ?_
  refine wp_seq_k ?_
  intro K11 hK11
  refine wp_seq_k ?_
  intro K12 hK12
  refine rg [0, 1, 2, 3, 4, 5, 6, 7, 8, 9, 10, 11, 12, 13, 14, 15, 16, 17, 18] ?_
  refine sq ?_
  refine .mv ?_
  refine sq ?_
  refine .r0 ?_
  refine sq ?_
  refine .mv ?_
  refine sq ?_
  refine .mv ?_
  refine sq ?_
  refine .r0 ?_
  refine sq ?_
  refine .r0 ?_
  refine sq ?_
  refine .r0 ?_
  refine sq ?_
  refine .mv ?_
  refine sq ?_
  refine .mv ?_
  refine sq ?_
  refine .r0 ?_
  refine sq ?_
  refine .r0 ?_
  refine sq ?_
  refine .r0 ?_
  refine sq ?_
  refine .mv ?_
  refine sq ?_
  refine .mv ?_
  refine sq ?_
  refine .r0 ?_
  refine sq ?_
  refine .r1 (x.cell _ ez) ?_
  refine sq ?_
  refine .r0 ?_
  refine sq ?_
  refine .r0 ?_
  refine sq ?_
  refine .r0 ?_
  apply wpSq_end
  refine hK12 _ _ ?_
  refine cf ?_
  refine wp_skip ?_
  refine hK11 _ _ ?_
  refine wp_seq_k ?_
  intro K13 hK13
  refine rg [0, 1, 2, 3, 4, 5, 6] ?_
  refine sq ?_
  refine .mv ?_
  refine sq ?_
  intro K hK
  have hb := hs.b
  go_big_op
  go_fit (lGram (HA.out.bl stab_n hb) hna HG.out (by decide))
  rintro e w_7 ⟨o_G, c_G, rfl, m_G, hb_7⟩
  clear hb
  replace hs := hs.bl hb_7
  refine hK _ _ rfl trivial ?_
  clear hK K
  refine sq ?_
  refine .mv ?_
  refine sq ?_
  refine .r0 ?_
  refine sq ?_
  refine .r0 ?_
  refine sq ?_
  refine .mv ?_
  refine sq ?_
  refine .mv ?_
  apply wpSq_end
  refine hK13 _ _ ?_
  refine wp_seq_k ?_
  intro K14 hK14
  refine wp_seq_k ?_
  intro K15 hK15
  refine rg [0, 1] ?_
  refine sq ?_
  refine .mv ?_
  refine sq ?_
  refine .r0 ?_
  apply wpSq_end
  refine hK15 _ _ ?_
  refine ct ?_
  refine wp_seq_k ?_
  intro K16 hK16
  refine rg [0, 1, 2, 3, 4, 5, 6] ?_
  refine sq ?_
  refine .mv ?_
  refine sq ?_
  intro K hK
  go_big_op
  go_fit (lAdj (m_G.mn BG.out) LG.out (gd_gram HG.out) (by decide) WG.out)
  rintro e w_8 ⟨o_L, c_L, rfl, m_L, hb_8⟩
  replace m_G := m_G.bl hb_8; replace hs := hs.bl hb_8
  rw [adj_gram] at m_L
  refine hK _ _ rfl trivial ?_
  clear hK K
  refine sq ?_
  refine .mv ?_
  refine sq ?_
  refine .r0 ?_
  refine sq ?_
  refine .r0 ?_
  refine sq ?_
  refine .mv ?_
  refine sq ?_
  refine .mv ?_
  apply wpSq_end
  refine hK16 _ _ ?_
  refine wp_seq_k ?_
  intro K17 hK17
  refine rg [0, 1, 2, 3, 4, 5, 6, 7] ?_
  refine sq ?_
  refine .mv ?_
  refine sq ?_
  refine .r0 ?_
  refine sq ?_
  refine .mv ?_
  refine sq ?_
  refine .mv ?_
  refine sq ?_
  refine .mv ?_
  refine sq ?_
  intro K hK
  go_big_op
  go_fit (msame_any m_G (m_L.mn BG.out) LG.out (by omega) (gd_rl (gd_gram HG.out)) (by decide))
  rintro e w_9 ⟨rfl, hb_9⟩
  replace m_G := m_G.bl hb_9; replace m_L := m_L.bl hb_9; replace hs := hs.bl hb_9
  refine hK _ _ rfl trivial ?_
  clear hK K
  refine sq ?_
  refine .r0 ?_
  refine sq ?_
  refine .r0 ?_
  apply wpSq_end
  refine hK17 _ _ ?_
  refine cf ?_
  refine wp_skip ?_
  refine hK14 _ _ ?_
  refine wp_seq_k ?_
  intro K18 hK18
  refine rg [0, 1, 2, 3, 4, 5, 6, 7, 8] ?_
  refine sq ?_
  refine .mv ?_
  refine sq ?_
  refine .mv ?_
  refine sq ?_
  intro K hK
  have hb := hs.b
  go_big_op
  go_fit (lDot HD.out (HV.out.bl stab_n hb) hnv (by omega) (by decide))
  rintro e w_10 ⟨_, rfl, ⟨n_da, o_da, k_da, c_da, n_db, o_db, k_db, c_db, rfl, d1, d2⟩, hb_10⟩
  clear hb
  clear m_Q m_P m_X m_Y m_G m_L
  replace hs := hs.bl hb_10
  have Ld1 := hide (d1.lenOf (lD.out))
  refine hK _ _ rfl trivial ?_
  clear hK K
  refine sq ?_
  refine .mv ?_
  refine sq ?_
  refine .r0 ?_
  refine sq ?_
  refine .r0 ?_
  refine sq ?_
  refine .al hs ?_; clear hs; intro p_b1 w_11 hs n11 kb_b1
  refine sq ?_
  refine .s4 hs.g0 (fun _ => hs.u0 kb_b1) ?_; clear hs; intro w_12 hs hd12 ho12
  refine sq ?_
  refine .mv ?_
  apply wpSq_end
  refine hK18 _ _ ?_
  refine wp_seq_k ?_
  intro K19 hK19
  refine wp_region_f4 [(0, false), (1, false), (2, false), (3, false), (4, false), (5, false), (6, true), (7, true), (8, false), (9, false), (10, false), (11, false), (12, true), (13, false), (14, false), (15, false)] [] [] (fun _ => default) [99, 99, 99, 99, 0, 99, 99, 99, 99, 99, 99, 0, 99, 99, 99, 99] [] (.c hs.g0 .n) fn fun w_13 n13 => ?_
  replace hs := hs.bl n13
  refine fmv ?_
  refine f0 ?_
  refine fmv ?_
  refine f0 ?_
  refine f4 ?_
  refine fmv ?_
  refine fl fun w_14 n14 => ?_
  replace hs := hs.bl n14
  intro K hK
  have hb := hs.b
  go_big_op
  go_fit (lLen HD.out (HV.out.bl stab_n hb) hnv (by omega) (by decide))
  rintro e w_15 ⟨v_z, rfl, z, hb_15⟩
  clear hb
  replace hs := hs.bl hb_15
  obtain ⟨n_z, o_z, k_z, c_z, rfl⟩ := z.open2
  have Lz := hide (z.lenOf (lD.out))
  refine hK _ _ rfl ⟨hb_15, (And.intro hs.g0 trivial)⟩ ?_
  clear hK K
  refine fl fun w_16 n16 => ?_
  replace hs := hs.bl n16
  intro K hK
  have k10_16 := (((((kb n11).o hd12 ho12).b n13).b n14).b hb_15).b n16
  replace d1 := d1.k k10_16
  have k15_16 := kb n16
  replace z := z.k k15_16
  go_big_op
  go_fit (rsame_zz d1 (z.zn lD.out) (by decide))
  rintro e w_17 ⟨rfl, hb_17⟩
  replace hs := hs.bl hb_17
  refine hK _ _ rfl ⟨hb_17, (And.intro hs.g0 trivial)⟩ ?_
  clear hK K
  refine f0 ?_
  refine fmv ?_
  refine f0 ?_
  refine f4 ?_
  refine fl fun w_18 n18 => ?_
  replace hs := hs.bl n18
  intro K hK
  have k10_18 := (k10_16.b hb_17).b n18
  replace d2 := d2.k k10_18
  go_big_op
  go_fit (rsign0 d2)
  rintro e w_19 ⟨rfl, hb_19⟩
  replace hs := hs.bl hb_19
  refine hK _ _ rfl ⟨hb_19, (And.intro hs.g0 trivial)⟩ ?_
  clear hK K
  refine f0 ?_
  refine f0 ?_
  refine fmv ?_
  refine e0 hs ?_; clear hs; intro w_20 hs n20
  apply wpTail_end
  refine hK19 _ _ ?_
  refine wp_ret ?_
  try dsimp only [Exit.then, Exit.inBlock]
  refine bodyPost_ret (v := (.bool true)) (by simp [results, Try.results7, go_sem]) rfl ?_
  exact ⟨rfl, hs.b⟩
set_option maxHeartbeats 4000000 in
set_option maxRecDepth 20000 in
theorem along_d1 (ha : MN 1048576 w oa A) (hb' : MN 1048576 w ob B) (hc : MN 1048576 w oc C) (hv : SN 1048576 w ov V) (hna : A.length = na) (hnb : B.length = nb) (hnc : C.length = nc) (hnv : V.length = nv) (la : na ≤ 1048576) (lb : nb ≤ 1048576) (lc : nc ≤ 1048576) (lv : nv ≤ 1048576) (h1 : ml2 A B) (h2 : ml2 B C) (d1 : 0 < na) (d2 : 0 < nb) (d3 : 0 < wd B) :
    Calls Try.prog 7 #[.slice oa na ca, .slice ob nb cb, .slice oc nc cc, .slice ov nv cv] w fun e w' => e = .returned (.bool true) ∧ Below w.heap.size w w' := by
  obtain ⟨g, off, cur, ty, fz, rfl, x, hr⟩ := hb'.box (by omega)
  obtain ⟨o0, c0, ez, s0⟩ := hr 0 (by omega)
  obtain ⟨mb, hkb⟩ : ∃ mb, wd B = mb := ⟨_, rfl⟩
  rw [wd_0 (by omega), hkb, Nat.add_zero] at ez
  clear s0 hr
  rw [hkb] at d3
  have BA := hide ha.bd
  have lB : B.length ≤ 64 := h1.2.1.1
  have BP := hide (show BdM 3000000 (mulM A B) from bdM_up (bd_mulM ha.bd hb'.bd) (by omega))
  have BG := hide (show BdM 3000000 (gramM A) from bdM_up (bd_gramM ha.bd) (by have := h1.1.2.1; omega))
  have lC : C.length ≤ 64 := h2.2.1.1
  have BQ := hide (show BdM 3000000 (mulM B C) from bdM_up (bd_mulM hb'.bd hc.bd) (by omega))
  have BY := hide (show BdM 6000000 (mulM (mulM A B) C) from bdM_up (bd_mulM BP.out hc.bd) (by omega))
  have HY := hide (gd_mulM (ml2_l h1 h2))
  have LY := hide (show (mulM (mulM A B) C).length = na by rw [len_mulM, len_mulM]; exact hna)
  have LP := hide (show (mulM A B).length = na from len_mulM.trans hna)
  have LQ := hide (show (mulM B C).length = nb from len_mulM.trans hnb)
  have BT := hide (bd_adjM hb'.bd)
  have BU := hide (bd_adjM ha.bd)
  have BS := hide (bd_adjM BP.out)
  have HM := hide (ml2_adj h1 (by omega) (by omega))
  have EM := hide (adj_mul h1 (by omega) (by omega))
  have HKB := hide hkb
  have WP := hide ((ml2_wd h1).trans hkb)
  have LT := hide (show (adjM B).length = mb from len_mkM.trans hkb)
  have LU := hide (show (adjM A).length = nb from len_mkM.trans (h1.2.2.trans hnb))
  have LS := hide (show (adjM (mulM A B)).length = mb from len_mkM.trans WP.out)
  have GS := hide (show gd (adjM (mulM A B)) from gd_mkM (by rw [WP.out, ← hkb]; exact h1.2.1.2.1) (by rw [LP.out, ← hna]; exact h1.1.1))
  have WA := hide (h1.2.2.trans hnb)
  have LG := hide (show (gramM A).length = na from len_gram.trans hna)
  have WG := hide (show wd (gramM A) = na from wd_gram.trans hna)
  obtain ⟨D, hD⟩ : ∃ D, D = lenS nv fun i => nP (at1 V i) := ⟨_, rfl⟩
  have lD := hide (show (dig D.natAbs).length ≤ 50000000 by rw [hD]; exact bd_len hv hnv (by omega) (by decide))
  have HD := hide hD
  have HA := hide ha
  have HB := hide hb'
  have HC := hide hc
  have HV := hide hv
  clear ha hb' hc hv hD hkb
  have H1 := hide h1
  have H2 := hide h2
  have AS := hide (mul_assocM h1 h2)
  have HL := hide (ml2_l h1 h2)
  have HR := hide (ml2_r h1 h2)
  have HG := hide h1.1
  clear h1 h2 lB lC
  have t1 : ((0 : Int) < na) = True := eq_true (by omega)
  have t2 : ((0 : Int) < nb) = True := eq_true (by omega)
  have t3 : ((0 : Int) < mb) = True := eq_true (by omega)
  go_enter Try.func7, Try.ntmps7
  have hs := St.nil w
  refine wp_seq_k ?_
  intro K1 hK1
  refine rg [0] ?_
  refine sq ?_
  refine .mv ?_
  apply wpSq_end
  refine hK1 _ _ ?_
  refine wp_seq_k ?_
  intro K2 hK2
  refine wp_seq_k ?_
  intro K3 hK3
  refine rg [0, 1] ?_
  refine sq ?_
  intro K hK
  go_big_op
  go_fit (awake8_any _)
  rintro e w_1 ⟨rfl, hb_1⟩
  replace x := x.bl hb_1; replace hs := hs.bl hb_1
  refine hK _ _ rfl trivial ?_
  clear hK K
  refine sq ?_
  refine .r0 ?_
  apply wpSq_end
  refine hK3 _ _ ?_
  refine cf ?_
  refine wp_skip ?_
  refine hK2 _ _ ?_
  refine wp_seq_k ?_
  intro K4 hK4
  refine rg [0, 1, 2, 3, 4, 5, 6, 7] ?_
  refine sq ?_
  refine .mv ?_
  refine sq ?_
  refine .mv ?_
  refine sq ?_
  intro K hK
  have hb := hs.b
  go_big_op
  go_fit (lMul (HA.out.bl stab_n hb) (HB.out.bl stab_n hb) hna hnb H1.out (by decide) (by decide))
  rintro e w_2 ⟨o_P, c_P, rfl, m_P, hb_2⟩
  clear hb
  replace x := x.bl hb_2; replace hs := hs.bl hb_2
  refine hK _ _ rfl trivial ?_
  clear hK K
  refine sq ?_
  refine .mv ?_
  refine sq ?_
  refine .r0 ?_
  refine sq ?_
  refine .r0 ?_
  refine sq ?_
  refine .mv ?_
  refine sq ?_
  refine .mv ?_
  apply wpSq_end
  refine hK4 _ _ ?_
  refine wp_seq_k ?_
  intro K5 hK5
  refine rg [0, 1, 2, 3, 4, 5, 6, 7] ?_
  refine sq ?_
  refine .mv ?_
  refine sq ?_
  refine .mv ?_
  refine sq ?_
  intro K hK
  have hb := hs.b
  go_big_op
  go_fit (lMul (HB.out.bl stab_n hb) (HC.out.bl stab_n hb) hnb hnc H2.out (by decide) (by decide))
  rintro e w_3 ⟨o_Q, c_Q, rfl, m_Q, hb_3⟩
  clear hb
  replace x := x.bl hb_3; replace m_P := m_P.bl hb_3; replace hs := hs.bl hb_3
  refine hK _ _ rfl trivial ?_
  clear hK K
  refine sq ?_
  refine .mv ?_
  refine sq ?_
  refine .r0 ?_
  refine sq ?_
  refine .r0 ?_
  refine sq ?_
  refine .mv ?_
  refine sq ?_
  refine .mv ?_
  apply wpSq_end
  refine hK5 _ _ ?_
  refine wp_seq_k ?_
  intro K6 hK6
  refine wp_seq_k ?_
  intro K7 hK7
  refine rg [0, 1, 2, 3, 4, 5] ?_
  refine sq ?_
  refine .mv ?_
  refine sq ?_
  refine .r0 ?_
  refine sq ?_
  refine .mv ?_
  refine sq ?_
  refine .mv ?_
  refine sq ?_
  refine .r0 ?_
  refine sq ?_
  refine .r0 ?_
  apply wpSq_end
  refine hK7 _ _ ?_
  refine ct ?_
  refine wp_seq_k ?_
  intro K8 hK8
  refine rg [0, 1, 2, 3, 4, 5, 6, 7] ?_
  refine sq ?_
  refine .mv ?_
  refine sq ?_
  refine .mv ?_
  refine sq ?_
  intro K hK
  have hb := hs.b
  go_big_op
  go_fit (lMul (m_P.mn BP.out) (HC.out.bl stab_n hb) LP.out hnc HL.out (by decide) (by decide))
  rintro e w_4 ⟨o_X, c_X, rfl, m_X, hb_4⟩
  clear hb
  replace x := x.bl hb_4; replace m_P := m_P.bl hb_4; replace m_Q := m_Q.bl hb_4; replace hs := hs.bl hb_4
  refine hK _ _ rfl trivial ?_
  clear hK K
  refine sq ?_
  refine .mv ?_
  refine sq ?_
  refine .r0 ?_
  refine sq ?_
  refine .r0 ?_
  refine sq ?_
  refine .mv ?_
  refine sq ?_
  refine .mv ?_
  apply wpSq_end
  refine hK8 _ _ ?_
  refine wp_seq_k ?_
  intro K9 hK9
  refine rg [0, 1, 2, 3, 4, 5, 6, 7] ?_
  refine sq ?_
  refine .mv ?_
  refine sq ?_
  refine .mv ?_
  refine sq ?_
  intro K hK
  have hb := hs.b
  go_big_op
  go_fit (lMul (HA.out.bl stab_n hb) (m_Q.mn BQ.out) hna LQ.out HR.out (by decide) (by decide))
  rintro e w_5 ⟨o_Y, c_Y, rfl, m_Y, hb_5⟩
  clear hb
  replace x := x.bl hb_5; replace m_P := m_P.bl hb_5; replace m_Q := m_Q.bl hb_5; replace m_X := m_X.bl hb_5; replace hs := hs.bl hb_5
  rw [← AS.out] at m_Y
  refine hK _ _ rfl trivial ?_
  clear hK K
  refine sq ?_
  refine .mv ?_
  refine sq ?_
  refine .r0 ?_
  refine sq ?_
  refine .r0 ?_
  refine sq ?_
  refine .mv ?_
  refine sq ?_
  refine .mv ?_
  apply wpSq_end
  refine hK9 _ _ ?_
  refine wp_seq_k ?_
  intro K10 hK10
  refine rg [0, 1, 2, 3, 4, 5, 6, 7, 8, 9, 10, 11] ?_
  refine sq ?_
  refine .mv ?_
  refine sq ?_
  refine .r0 ?_
  refine sq ?_
  refine .mv ?_
  refine sq ?_
  refine .mv ?_
  refine sq ?_
  refine .r0 ?_
  refine sq ?_
  refine .r0 ?_
  refine sq ?_
  refine .mv ?_
  refine sq ?_
  refine .mv ?_
  refine sq ?_
  refine .mv ?_
  refine sq ?_
  intro K hK
  go_big_op
  go_fit (msame_any m_X (m_Y.mn BY.out) LY.out (by omega) (gd_rl HY.out) (by decide))
  rintro e w_6 ⟨rfl, hb_6⟩
  replace x := x.bl hb_6; replace m_P := m_P.bl hb_6; replace m_X := m_X.bl hb_6; replace m_Y := m_Y.bl hb_6; replace hs := hs.bl hb_6
  refine hK _ _ rfl trivial ?_
  clear hK K
  refine sq ?_
  refine .r0 ?_
  refine sq ?_
  refine .r0 ?_
  apply wpSq_end
  refine hK10 _ _ ?_
  refine cf ?_
  refine wp_skip ?_
  refine hK6 _ _ ?_
  refine wp_seq_k ?_
  intro K11 hK11
  refine wp_seq_k ?_
  intro K12 hK12
  refine rg [0, 1, 2, 3, 4, 5, 6, 7, 8, 9, 10, 11, 12, 13, 14, 15, 16, 17, 18] ?_
  refine sq ?_
  refine .mv ?_
  refine sq ?_
  refine .r0 ?_
  refine sq ?_
  refine .mv ?_
  refine sq ?_
  refine .mv ?_
  refine sq ?_
  refine .r0 ?_
  refine sq ?_
  refine .r0 ?_
  refine sq ?_
  refine .r0 ?_
  refine sq ?_
  refine .mv ?_
  refine sq ?_
  refine .mv ?_
  refine sq ?_
  refine .r0 ?_
  refine sq ?_
  refine .r0 ?_
  refine sq ?_
  refine .r0 ?_
  refine sq ?_
  refine .mv ?_
  refine sq ?_
  refine .mv ?_
  refine sq ?_
  refine .r0 ?_
  refine sq ?_
  refine .r1 (x.cell _ ez) ?_
  refine sq ?_
  refine .r0 ?_
  refine sq ?_
  refine .r0 ?_
  refine sq ?_
  refine .r0 ?_
  apply wpSq_end
  refine hK12 _ _ ?_
  refine ct ?_
  refine wp_seq_k ?_
  intro K13 hK13
  refine rg [0, 1, 2, 3, 4, 5, 6] ?_
  refine sq ?_
  refine .mv ?_
  refine sq ?_
  intro K hK
  go_big_op
  go_fit (lAdj (m_P.mn BP.out) LP.out (gd_mulM H1.out) (by decide) WP.out)
  rintro e w_7 ⟨o_S, c_S, rfl, m_S, hb_7⟩
  replace x := x.bl hb_7; replace m_P := m_P.bl hb_7; replace hs := hs.bl hb_7
  refine hK _ _ rfl trivial ?_
  clear hK K
  refine sq ?_
  refine .mv ?_
  refine sq ?_
  refine .r0 ?_
  refine sq ?_
  refine .r0 ?_
  refine sq ?_
  refine .mv ?_
  refine sq ?_
  refine .mv ?_
  apply wpSq_end
  refine hK13 _ _ ?_
  refine wp_seq_k ?_
  intro K14 hK14
  refine rg [0, 1, 2, 3, 4, 5, 6] ?_
  refine sq ?_
  refine .mv ?_
  refine sq ?_
  intro K hK
  have hb := hs.b
  go_big_op
  go_fit (lAdj (HB.out.bl stab_n hb) hnb H1.out.2.1 (by decide) HKB.out)
  rintro e w_8 ⟨o_T, c_T, rfl, m_T, hb_8⟩
  clear hb
  replace x := x.bl hb_8; replace m_S := m_S.bl hb_8; replace hs := hs.bl hb_8
  refine hK _ _ rfl trivial ?_
  clear hK K
  refine sq ?_
  refine .mv ?_
  refine sq ?_
  refine .r0 ?_
  refine sq ?_
  refine .r0 ?_
  refine sq ?_
  refine .mv ?_
  refine sq ?_
  refine .mv ?_
  apply wpSq_end
  refine hK14 _ _ ?_
  refine wp_seq_k ?_
  intro K15 hK15
  refine rg [0, 1, 2, 3, 4, 5, 6] ?_
  refine sq ?_
  refine .mv ?_
  refine sq ?_
  intro K hK
  have hb := hs.b
  go_big_op
  go_fit (lAdj (HA.out.bl stab_n hb) hna H1.out.1 (by decide) WA.out)
  rintro e w_9 ⟨o_U, c_U, rfl, m_U, hb_9⟩
  clear hb
  replace x := x.bl hb_9; replace m_S := m_S.bl hb_9; replace m_T := m_T.bl hb_9; replace hs := hs.bl hb_9
  refine hK _ _ rfl trivial ?_
  clear hK K
  refine sq ?_
  refine .mv ?_
  refine sq ?_
  refine .r0 ?_
  refine sq ?_
  refine .r0 ?_
  refine sq ?_
  refine .mv ?_
  refine sq ?_
  refine .mv ?_
  apply wpSq_end
  refine hK15 _ _ ?_
  refine wp_seq_k ?_
  intro K16 hK16
  refine rg [0, 1, 2, 3, 4, 5, 6, 7] ?_
  refine sq ?_
  refine .mv ?_
  refine sq ?_
  refine .mv ?_
  refine sq ?_
  intro K hK
  go_big_op
  go_fit (lMul (m_T.mn BT.out) (m_U.mn BU.out) LT.out LU.out HM.out (by decide) (by decide))
  rintro e w_10 ⟨o_E, c_E, rfl, m_E, hb_10⟩
  replace x := x.bl hb_10; replace m_S := m_S.bl hb_10; replace m_T := m_T.bl hb_10; replace m_U := m_U.bl hb_10; replace hs := hs.bl hb_10
  rw [EM.out] at m_E
  refine hK _ _ rfl trivial ?_
  clear hK K
  refine sq ?_
  refine .mv ?_
  refine sq ?_
  refine .r0 ?_
  refine sq ?_
  refine .r0 ?_
  refine sq ?_
  refine .mv ?_
  refine sq ?_
  refine .mv ?_
  apply wpSq_end
  refine hK16 _ _ ?_
  refine wp_seq_k ?_
  intro K17 hK17
  refine rg [0, 1, 2, 3, 4, 5, 6, 7] ?_
  refine sq ?_
  refine .mv ?_
  refine sq ?_
  refine .r0 ?_
  refine sq ?_
  refine .mv ?_
  refine sq ?_
  refine .mv ?_
  refine sq ?_
  refine .mv ?_
  refine sq ?_
  intro K hK
  go_big_op
  go_fit (msame_any m_S (m_E.mn BS.out) LS.out (by have := GS.out.1; have := LS.out; omega) (gd_rl GS.out) (by decide))
  rintro e w_11 ⟨rfl, hb_11⟩
  clear m_Q m_X m_Y m_P m_T m_U
  replace x := x.bl hb_11; replace m_S := m_S.bl hb_11; replace m_E := m_E.bl hb_11; replace hs := hs.bl hb_11
  refine hK _ _ rfl trivial ?_
  clear hK K
  refine sq ?_
  refine .r0 ?_
  refine sq ?_
  refine .r0 ?_
  apply wpSq_end
  refine hK17 _ _ ?_
  refine cf ?_
  refine wp_skip ?_
  refine hK11 _ _ ?_
  refine wp_seq_k ?_
  intro K18 hK18
  refine rg [0, 1, 2, 3, 4, 5, 6] ?_
  refine sq ?_
  refine .mv ?_
  refine sq ?_
  intro K hK
  have hb := hs.b
  go_big_op
  go_fit (lGram (HA.out.bl stab_n hb) hna HG.out (by decide))
  rintro e w_12 ⟨o_G, c_G, rfl, m_G, hb_12⟩
  clear hb
  replace hs := hs.bl hb_12
  refine hK _ _ rfl trivial ?_
  clear hK K
  refine sq ?_
  refine .mv ?_
  refine sq ?_
  refine .r0 ?_
  refine sq ?_
  refine .r0 ?_
  refine sq ?_
  refine .mv ?_
  refine sq ?_
  refine .mv ?_
  apply wpSq_end
  refine hK18 _ _ ?_
  refine wp_seq_k ?_
  intro K19 hK19
  refine wp_seq_k ?_
  intro K20 hK20
  refine rg [0, 1] ?_
  refine sq ?_
  refine .mv ?_
  refine sq ?_
  refine .r0 ?_
  apply wpSq_end
  refine hK20 _ _ ?_
  refine ct ?_
  refine wp_seq_k ?_
  intro K21 hK21
  refine rg [0, 1, 2, 3, 4, 5, 6] ?_
  refine sq ?_
  refine .mv ?_
  refine sq ?_
  intro K hK
  go_big_op
  go_fit (lAdj (m_G.mn BG.out) LG.out (gd_gram HG.out) (by decide) WG.out)
  rintro e w_13 ⟨o_L, c_L, rfl, m_L, hb_13⟩
  replace m_G := m_G.bl hb_13; replace hs := hs.bl hb_13
  rw [adj_gram] at m_L
  refine hK _ _ rfl trivial ?_
  clear hK K
  refine sq ?_
  refine .mv ?_
  refine sq ?_
  refine .r0 ?_
  refine sq ?_
  refine .r0 ?_
  refine sq ?_
  refine .mv ?_
  refine sq ?_
  refine .mv ?_
  apply wpSq_end
  refine hK21 _ _ ?_
  refine wp_seq_k ?_
  intro K22 hK22
  refine rg [0, 1, 2, 3, 4, 5, 6, 7] ?_
  refine sq ?_
  refine .mv ?_
  refine sq ?_
  refine .r0 ?_
  refine sq ?_
  refine .mv ?_
  refine sq ?_
  refine .mv ?_
  refine sq ?_
  refine .mv ?_
  refine sq ?_
  intro K hK
  go_big_op
  go_fit (msame_any m_G (m_L.mn BG.out) LG.out (by omega) (gd_rl (gd_gram HG.out)) (by decide))
  rintro e w_14 ⟨rfl, hb_14⟩
  replace m_G := m_G.bl hb_14; replace m_L := m_L.bl hb_14; replace hs := hs.bl hb_14
  refine hK _ _ rfl trivial ?_
  clear hK K
  refine sq ?_
  refine .r0 ?_
  refine sq ?_
  refine .r0 ?_
  apply wpSq_end
  refine hK22 _ _ ?_
  refine cf ?_
  refine wp_skip ?_
  refine hK19 _ _ ?_
  refine wp_seq_k ?_
  intro K23 hK23
  refine rg [0, 1, 2, 3, 4, 5, 6, 7, 8] ?_
  refine sq ?_
  refine .mv ?_
  refine sq ?_
  refine .mv ?_
  refine sq ?_
  intro K hK
  have hb := hs.b
  go_big_op
  go_fit (lDot HD.out (HV.out.bl stab_n hb) hnv (by omega) (by decide))
  rintro e w_15 ⟨_, rfl, ⟨n_da, o_da, k_da, c_da, n_db, o_db, k_db, c_db, rfl, d1, d2⟩, hb_15⟩
  clear hb
  replace hs := hs.bl hb_15
  have Ld1 := hide (d1.lenOf (lD.out))
  refine hK _ _ rfl trivial ?_
  clear hK K
  refine sq ?_
  refine .mv ?_
  refine sq ?_
  refine .r0 ?_
  refine sq ?_
  refine .r0 ?_
  refine sq ?_
  refine .al hs ?_; clear hs; intro p_b1 w_16 hs n16 kb_b1
  refine sq ?_
  refine .s4 hs.g0 (fun _ => hs.u0 kb_b1) ?_; clear hs; intro w_17 hs hd17 ho17
  refine sq ?_
  refine .mv ?_
  apply wpSq_end
  refine hK23 _ _ ?_
  refine wp_seq_k ?_
  intro K24 hK24
  refine wp_region_f4 [(0, false), (1, false), (2, false), (3, false), (4, false), (5, false), (6, true), (7, true), (8, false), (9, false), (10, false), (11, false), (12, true), (13, false), (14, false), (15, false)] [] [] (fun _ => default) [99, 99, 99, 99, 0, 99, 99, 99, 99, 99, 99, 0, 99, 99, 99, 99] [] (.c hs.g0 .n) fn fun w_18 n18 => ?_
  replace hs := hs.bl n18
  refine fmv ?_
  refine f0 ?_
  refine fmv ?_
  refine f0 ?_
  refine f4 ?_
  refine fmv ?_
  refine fl fun w_19 n19 => ?_
  replace hs := hs.bl n19
  intro K hK
  have hb := hs.b
  go_big_op
  go_fit (lLen HD.out (HV.out.bl stab_n hb) hnv (by omega) (by decide))
  rintro e w_20 ⟨v_z, rfl, z, hb_20⟩
  clear hb
  replace hs := hs.bl hb_20
  obtain ⟨n_z, o_z, k_z, c_z, rfl⟩ := z.open2
  have Lz := hide (z.lenOf (lD.out))
  refine hK _ _ rfl ⟨hb_20, (And.intro hs.g0 trivial)⟩ ?_
  clear hK K
  refine fl fun w_21 n21 => ?_
  replace hs := hs.bl n21
  intro K hK
  have k15_21 := (((((kb n16).o hd17 ho17).b n18).b n19).b hb_20).b n21
  replace d1 := d1.k k15_21
  have k20_21 := kb n21
  replace z := z.k k20_21
  go_big_op
  go_fit (rsame_zz d1 (z.zn lD.out) (by decide))
  rintro e w_22 ⟨rfl, hb_22⟩
  replace hs := hs.bl hb_22
  refine hK _ _ rfl ⟨hb_22, (And.intro hs.g0 trivial)⟩ ?_
  clear hK K
  refine f0 ?_
  refine fmv ?_
  refine f0 ?_
  refine f4 ?_
  refine fl fun w_23 n23 => ?_
  replace hs := hs.bl n23
  intro K hK
  have k15_23 := (k15_21.b hb_22).b n23
  replace d2 := d2.k k15_23
  go_big_op
  go_fit (rsign0 d2)
  rintro e w_24 ⟨rfl, hb_24⟩
  replace hs := hs.bl hb_24
  refine hK _ _ rfl ⟨hb_24, (And.intro hs.g0 trivial)⟩ ?_
  clear hK K
  refine f0 ?_
  refine f0 ?_
  refine fmv ?_
  refine e0 hs ?_; clear hs; intro w_25 hs n25
  apply wpTail_end
  refine hK24 _ _ ?_
  refine wp_ret ?_
  try dsimp only [Exit.then, Exit.inBlock]
  refine bodyPost_ret (v := (.bool true)) (by simp [results, Try.results7, go_sem]) rfl ?_
  exact ⟨rfl, hs.b⟩
set_option maxHeartbeats 4000000 in
set_option maxRecDepth 20000 in
theorem along_a0 (ha : MN 1048576 w oa A) (hb' : MN 1048576 w ob B) (hc : MN 1048576 w oc C) (hv : SN 1048576 w ov V) (hna : A.length = na) (hnb : B.length = nb) (hnc : C.length = nc) (hnv : V.length = nv) (la : na ≤ 1048576) (lb : nb ≤ 1048576) (lc : nc ≤ 1048576) (lv : nv ≤ 1048576) (h1 : ml2 A B) (h2 : ¬ ml2 B C) (d1 : na = 0) :
    Calls Try.prog 7 #[.slice oa na ca, .slice ob nb cb, .slice oc nc cc, .slice ov nv cv] w fun e w' => e = .returned (.bool true) ∧ Below w.heap.size w w' := by
  have d0 : nb = 0 := by have := h1.2.2; rw [wd_nil (hna.trans d1)] at this; omega
  have BA := hide ha.bd
  have lB : B.length ≤ 64 := h1.2.1.1
  have BP := hide (show BdM 3000000 (mulM A B) from bdM_up (bd_mulM ha.bd hb'.bd) (by omega))
  have BG := hide (show BdM 3000000 (gramM A) from bdM_up (bd_gramM ha.bd) (by have := h1.1.2.1; omega))
  have LP := hide (show (mulM A B).length = na from len_mulM.trans hna)
  have LG := hide (show (gramM A).length = na from len_gram.trans hna)
  have WG := hide (show wd (gramM A) = na from wd_gram.trans hna)
  obtain ⟨D, hD⟩ : ∃ D, D = lenS nv fun i => nP (at1 V i) := ⟨_, rfl⟩
  have lD := hide (show (dig D.natAbs).length ≤ 50000000 by rw [hD]; exact bd_len hv hnv (by omega) (by decide))
  have HD := hide hD
  have HA := hide ha
  have HB := hide hb'
  have HC := hide hc
  have HV := hide hv
  clear ha hb' hc hv hD
  have H1 := hide h1
  have H2 := hide h2
  have HG := hide h1.1
  clear h1 h2 lB
  subst d1 d0
  go_enter Try.func7, Try.ntmps7
  have hs := St.nil w
  refine wp_seq_k ?_
  intro K1 hK1
  refine rg [0] ?_
  refine sq ?_
  refine .mv ?_
  apply wpSq_end
  refine hK1 _ _ ?_
  refine wp_seq_k ?_
  intro K2 hK2
  refine wp_seq_k ?_
  intro K3 hK3
  refine rg [0, 1] ?_
  refine sq ?_
  intro K hK
  go_big_op
  go_fit (awake8_any _)
  rintro e w_1 ⟨rfl, hb_1⟩
  replace hs := hs.bl hb_1
  refine hK _ _ rfl trivial ?_
  clear hK K
  refine sq ?_
  refine .r0 ?_
  apply wpSq_end
  refine hK3 _ _ ?_
  refine cf ?_
  refine wp_skip ?_
  refine hK2 _ _ ?_
  refine wp_seq_k ?_
  intro K4 hK4
  refine rg [0, 1, 2, 3, 4, 5, 6, 7] ?_
  refine sq ?_
  refine .mv ?_
  refine sq ?_
  refine .mv ?_
  refine sq ?_
  intro K hK
  have hb := hs.b
  go_big_op
  go_fit (lMul (HA.out.bl stab_n hb) (HB.out.bl stab_n hb) hna hnb H1.out (by decide) (by decide))
  rintro e w_2 ⟨o_P, c_P, rfl, m_P, hb_2⟩
  clear hb
  replace hs := hs.bl hb_2
  refine hK _ _ rfl trivial ?_
  clear hK K
  refine sq ?_
  refine .mv ?_
  refine sq ?_
  refine .r0 ?_
  refine sq ?_
  refine .r0 ?_
  refine sq ?_
  refine .mv ?_
  refine sq ?_
  refine .mv ?_
  apply wpSq_end
  refine hK4 _ _ ?_
  refine wp_seq_k ?_
  intro K5 hK5
  refine rg [0, 1, 2, 3, 4, 5, 6, 7] ?_
  refine sq ?_
  refine .mv ?_
  refine sq ?_
  refine .mv ?_
  refine sq ?_
  intro K hK
  have hb := hs.b
  go_big_op
  go_fit (mMul_bad (HB.out.bl stab_n hb) (HC.out.bl stab_n hb) hnb hnc H2.out (by omega) (by omega))
  rintro e w_3 ⟨rfl, hb_3⟩
  clear hb
  replace m_P := m_P.bl hb_3; replace hs := hs.bl hb_3
  refine hK _ _ rfl trivial ?_
  clear hK K
  refine sq ?_
  refine .mv ?_
  refine sq ?_
  refine .r0 ?_
  refine sq ?_
  refine .r0 ?_
  refine sq ?_
  refine .mv ?_
  refine sq ?_
  refine .mv ?_
  apply wpSq_end
  refine hK5 _ _ ?_
  refine wp_seq_k ?_
  intro K6 hK6
  refine wp_seq_k ?_
  intro K7 hK7
  refine rg [0, 1, 2, 3, 4, 5] ?_
  refine sq ?_
  refine .mv ?_
  refine sq ?_
  refine .r0 ?_
  refine sq ?_
  refine .mv ?_
  refine sq ?_
  refine .mv ?_
  refine sq ?_
  refine .r0 ?_
  refine sq ?_
  refine .r0 ?_
  apply wpSq_end
  refine hK7 _ _ ?_
  refine cf ?_
  refine wp_skip ?_
  refine hK6 _ _ ?_
  refine wp_seq_k ?_
  intro K8 hK8
  refine wp_seq_k ?_
  intro K9 hK9
  refine rg [0, 1, 2, 3, 4, 5, 6, 7, 8, 9, 10, 11, 12, 13, 14, 15, 16, 17, 18] ?_
  refine sq ?_
  refine .mv ?_
  refine sq ?_
  refine .r0 ?_
  refine sq ?_
  refine .mv ?_
  refine sq ?_
  refine .mv ?_
  refine sq ?_
  refine .r0 ?_
  refine sq ?_
  refine .r0 ?_
  refine sq ?_
  refine .r0 ?_
  refine sq ?_
  refine .mv ?_
  refine sk ?_
  refine sk ?_
  refine sk ?_
  refine sq ?_
  refine .r0 ?_
  refine sq ?_
  refine .mv ?_
  refine sk ?_
  refine sk ?_
  refine sk ?_
  refine sk ?_
  refine sk ?_
  refine sq ?_
  refine .r0 ?_
  apply wpSq_end
  refine hK9 _ _ ?_
  refine cf ?_
  refine wp_skip ?_
  refine hK8 _ _ ?_
  refine wp_seq_k ?_
  intro K10 hK10
  refine rg [0, 1, 2, 3, 4, 5, 6] ?_
  refine sq ?_
  refine .mv ?_
  refine sq ?_
  intro K hK
  have hb := hs.b
  go_big_op
  go_fit (lGram (HA.out.bl stab_n hb) hna HG.out (by decide))
  rintro e w_4 ⟨o_G, c_G, rfl, m_G, hb_4⟩
  clear hb
  replace hs := hs.bl hb_4
  refine hK _ _ rfl trivial ?_
  clear hK K
  refine sq ?_
  refine .mv ?_
  refine sq ?_
  refine .r0 ?_
  refine sq ?_
  refine .r0 ?_
  refine sq ?_
  refine .mv ?_
  refine sq ?_
  refine .mv ?_
  apply wpSq_end
  refine hK10 _ _ ?_
  refine wp_seq_k ?_
  intro K11 hK11
  refine wp_seq_k ?_
  intro K12 hK12
  refine rg [0, 1] ?_
  refine sq ?_
  refine .mv ?_
  refine sq ?_
  refine .r0 ?_
  apply wpSq_end
  refine hK12 _ _ ?_
  refine ct ?_
  refine wp_seq_k ?_
  intro K13 hK13
  refine rg [0, 1, 2, 3, 4, 5, 6] ?_
  refine sq ?_
  refine .mv ?_
  refine sq ?_
  intro K hK
  go_big_op
  go_fit (lAdj (m_G.mn BG.out) LG.out (gd_gram HG.out) (by decide) WG.out)
  rintro e w_5 ⟨o_L, c_L, rfl, m_L, hb_5⟩
  replace m_G := m_G.bl hb_5; replace hs := hs.bl hb_5
  rw [adj_gram] at m_L
  refine hK _ _ rfl trivial ?_
  clear hK K
  refine sq ?_
  refine .mv ?_
  refine sq ?_
  refine .r0 ?_
  refine sq ?_
  refine .r0 ?_
  refine sq ?_
  refine .mv ?_
  refine sq ?_
  refine .mv ?_
  apply wpSq_end
  refine hK13 _ _ ?_
  refine wp_seq_k ?_
  intro K14 hK14
  refine rg [0, 1, 2, 3, 4, 5, 6, 7] ?_
  refine sq ?_
  refine .mv ?_
  refine sq ?_
  refine .r0 ?_
  refine sq ?_
  refine .mv ?_
  refine sq ?_
  refine .mv ?_
  refine sq ?_
  refine .mv ?_
  refine sq ?_
  intro K hK
  go_big_op
  go_fit (msame_any m_G (m_L.mn BG.out) LG.out (by omega) (gd_rl (gd_gram HG.out)) (by decide))
  rintro e w_6 ⟨rfl, hb_6⟩
  replace m_G := m_G.bl hb_6; replace m_L := m_L.bl hb_6; replace hs := hs.bl hb_6
  refine hK _ _ rfl trivial ?_
  clear hK K
  refine sq ?_
  refine .r0 ?_
  refine sq ?_
  refine .r0 ?_
  apply wpSq_end
  refine hK14 _ _ ?_
  refine cf ?_
  refine wp_skip ?_
  refine hK11 _ _ ?_
  refine wp_seq_k ?_
  intro K15 hK15
  refine rg [0, 1, 2, 3, 4, 5, 6, 7, 8] ?_
  refine sq ?_
  refine .mv ?_
  refine sq ?_
  refine .mv ?_
  refine sq ?_
  intro K hK
  have hb := hs.b
  go_big_op
  go_fit (lDot HD.out (HV.out.bl stab_n hb) hnv (by omega) (by decide))
  rintro e w_7 ⟨_, rfl, ⟨n_da, o_da, k_da, c_da, n_db, o_db, k_db, c_db, rfl, d1, d2⟩, hb_7⟩
  clear hb
  replace hs := hs.bl hb_7
  have Ld1 := hide (d1.lenOf (lD.out))
  refine hK _ _ rfl trivial ?_
  clear hK K
  refine sq ?_
  refine .mv ?_
  refine sq ?_
  refine .r0 ?_
  refine sq ?_
  refine .r0 ?_
  refine sq ?_
  refine .al hs ?_; clear hs; intro p_b1 w_8 hs n8 kb_b1
  refine sq ?_
  refine .s4 hs.g0 (fun _ => hs.u0 kb_b1) ?_; clear hs; intro w_9 hs hd9 ho9
  refine sq ?_
  refine .mv ?_
  apply wpSq_end
  refine hK15 _ _ ?_
  refine wp_seq_k ?_
  intro K16 hK16
  refine wp_region_f4 [(0, false), (1, false), (2, false), (3, false), (4, false), (5, false), (6, true), (7, true), (8, false), (9, false), (10, false), (11, false), (12, true), (13, false), (14, false), (15, false)] [] [] (fun _ => default) [99, 99, 99, 99, 0, 99, 99, 99, 99, 99, 99, 0, 99, 99, 99, 99] [] (.c hs.g0 .n) fn fun w_10 n10 => ?_
  replace hs := hs.bl n10
  refine fmv ?_
  refine f0 ?_
  refine fmv ?_
  refine f0 ?_
  refine f4 ?_
  refine fmv ?_
  refine fl fun w_11 n11 => ?_
  replace hs := hs.bl n11
  intro K hK
  have hb := hs.b
  go_big_op
  go_fit (lLen HD.out (HV.out.bl stab_n hb) hnv (by omega) (by decide))
  rintro e w_12 ⟨v_z, rfl, z, hb_12⟩
  clear hb
  replace hs := hs.bl hb_12
  obtain ⟨n_z, o_z, k_z, c_z, rfl⟩ := z.open2
  have Lz := hide (z.lenOf (lD.out))
  refine hK _ _ rfl ⟨hb_12, (And.intro hs.g0 trivial)⟩ ?_
  clear hK K
  refine fl fun w_13 n13 => ?_
  replace hs := hs.bl n13
  intro K hK
  have k7_13 := (((((kb n8).o hd9 ho9).b n10).b n11).b hb_12).b n13
  replace d1 := d1.k k7_13
  have k12_13 := kb n13
  replace z := z.k k12_13
  go_big_op
  go_fit (rsame_zz d1 (z.zn lD.out) (by decide))
  rintro e w_14 ⟨rfl, hb_14⟩
  replace hs := hs.bl hb_14
  refine hK _ _ rfl ⟨hb_14, (And.intro hs.g0 trivial)⟩ ?_
  clear hK K
  refine f0 ?_
  refine fmv ?_
  refine f0 ?_
  refine f4 ?_
  refine fl fun w_15 n15 => ?_
  replace hs := hs.bl n15
  intro K hK
  have k7_15 := (k7_13.b hb_14).b n15
  replace d2 := d2.k k7_15
  go_big_op
  go_fit (rsign0 d2)
  rintro e w_16 ⟨rfl, hb_16⟩
  replace hs := hs.bl hb_16
  refine hK _ _ rfl ⟨hb_16, (And.intro hs.g0 trivial)⟩ ?_
  clear hK K
  refine f0 ?_
  refine f0 ?_
  refine fmv ?_
  refine e0 hs ?_; clear hs; intro w_17 hs n17
  apply wpTail_end
  refine hK16 _ _ ?_
  refine wp_ret ?_
  try dsimp only [Exit.then, Exit.inBlock]
  refine bodyPost_ret (v := (.bool true)) (by simp [results, Try.results7, go_sem]) rfl ?_
  exact ⟨rfl, hs.b⟩
set_option maxHeartbeats 4000000 in
set_option maxRecDepth 20000 in
theorem along_b0 (ha : MN 1048576 w oa A) (hb' : MN 1048576 w ob B) (hc : MN 1048576 w oc C) (hv : SN 1048576 w ov V) (hna : A.length = na) (hnb : B.length = nb) (hnc : C.length = nc) (hnv : V.length = nv) (la : na ≤ 1048576) (lb : nb ≤ 1048576) (lc : nc ≤ 1048576) (lv : nv ≤ 1048576) (h1 : ml2 A B) (h2 : ¬ ml2 B C) (d1 : 0 < na) (d2 : nb = 0) :
    Calls Try.prog 7 #[.slice oa na ca, .slice ob nb cb, .slice oc nc cc, .slice ov nv cv] w fun e w' => e = .returned (.bool true) ∧ Below w.heap.size w w' := by
  have d0 : nb = 0 := d2
  have BA := hide ha.bd
  have lB : B.length ≤ 64 := h1.2.1.1
  have BP := hide (show BdM 3000000 (mulM A B) from bdM_up (bd_mulM ha.bd hb'.bd) (by omega))
  have BG := hide (show BdM 3000000 (gramM A) from bdM_up (bd_gramM ha.bd) (by have := h1.1.2.1; omega))
  have LP := hide (show (mulM A B).length = na from len_mulM.trans hna)
  have LG := hide (show (gramM A).length = na from len_gram.trans hna)
  have WG := hide (show wd (gramM A) = na from wd_gram.trans hna)
  obtain ⟨D, hD⟩ : ∃ D, D = lenS nv fun i => nP (at1 V i) := ⟨_, rfl⟩
  have lD := hide (show (dig D.natAbs).length ≤ 50000000 by rw [hD]; exact bd_len hv hnv (by omega) (by decide))
  have HD := hide hD
  have HA := hide ha
  have HB := hide hb'
  have HC := hide hc
  have HV := hide hv
  clear ha hb' hc hv hD
  have H1 := hide h1
  have H2 := hide h2
  have HG := hide h1.1
  clear h1 h2 lB
  have t1 : ((0 : Int) < na) = True := eq_true (by omega)
  have t2 : ((0 : Int) < nb) = False := eq_false (by omega)
  have t4 : (0 < nb) = False := eq_false (by omega)
  clear d2 d0
  have t5 : (0 < na) = True := eq_true d1
  go_enter Try.func7, Try.ntmps7
  have hs := St.nil w
  refine wp_seq_k ?_
  intro K1 hK1
  refine rg [0] ?_
  refine sq ?_
  refine .mv ?_
  apply wpSq_end
  refine hK1 _ _ ?_
  refine wp_seq_k ?_
  intro K2 hK2
  refine wp_seq_k ?_
  intro K3 hK3
  refine rg [0, 1] ?_
  refine sq ?_
  intro K hK
  go_big_op
  go_fit (awake8_any _)
  rintro e w_1 ⟨rfl, hb_1⟩
  replace hs := hs.bl hb_1
  refine hK _ _ rfl trivial ?_
  clear hK K
  refine sq ?_
  refine .r0 ?_
  apply wpSq_end
  refine hK3 _ _ ?_
  refine cf ?_
  refine wp_skip ?_
  refine hK2 _ _ ?_
  refine wp_seq_k ?_
  intro K4 hK4
  refine rg [0, 1, 2, 3, 4, 5, 6, 7] ?_
  refine sq ?_
  refine .mv ?_
  refine sq ?_
  refine .mv ?_
  refine sq ?_
  intro K hK
  have hb := hs.b
  go_big_op
  go_fit (lMul (HA.out.bl stab_n hb) (HB.out.bl stab_n hb) hna hnb H1.out (by decide) (by decide))
  rintro e w_2 ⟨o_P, c_P, rfl, m_P, hb_2⟩
  clear hb
  replace hs := hs.bl hb_2
  refine hK _ _ rfl trivial ?_
  clear hK K
  refine sq ?_
  refine .mv ?_
  refine sq ?_
  refine .r0 ?_
  refine sq ?_
  refine .r0 ?_
  refine sq ?_
  refine .mv ?_
  refine sq ?_
  refine .mv ?_
  apply wpSq_end
  refine hK4 _ _ ?_
  refine wp_seq_k ?_
  intro K5 hK5
  refine rg [0, 1, 2, 3, 4, 5, 6, 7] ?_
  refine sq ?_
  refine .mv ?_
  refine sq ?_
  refine .mv ?_
  refine sq ?_
  intro K hK
  have hb := hs.b
  go_big_op
  go_fit (mMul_bad (HB.out.bl stab_n hb) (HC.out.bl stab_n hb) hnb hnc H2.out (by omega) (by omega))
  rintro e w_3 ⟨rfl, hb_3⟩
  clear hb
  replace m_P := m_P.bl hb_3; replace hs := hs.bl hb_3
  refine hK _ _ rfl trivial ?_
  clear hK K
  refine sq ?_
  refine .mv ?_
  refine sq ?_
  refine .r0 ?_
  refine sq ?_
  refine .r0 ?_
  refine sq ?_
  refine .mv ?_
  refine sq ?_
  refine .mv ?_
  apply wpSq_end
  refine hK5 _ _ ?_
  refine wp_seq_k ?_
  intro K6 hK6
  refine wp_seq_k ?_
  intro K7 hK7
  refine rg [0, 1, 2, 3, 4, 5] ?_
  refine sq ?_
  refine .mv ?_
  refine sq ?_
  refine .r0 ?_
  refine sq ?_
  refine .mv ?_
  refine sq ?_
  refine .mv ?_
  refine sq ?_
  refine .r0 ?_
  refine sq ?_
  refine .r0 ?_
  apply wpSq_end
  refine hK7 _ _ ?_
  refine cf ?_
  refine wp_skip ?_
  refine hK6 _ _ ?_
  refine wp_seq_k ?_
  intro K8 hK8
  refine wp_seq_k ?_
  intro K9 hK9
  refine rg [0, 1, 2, 3, 4, 5, 6, 7, 8, 9, 10, 11, 12, 13, 14, 15, 16, 17, 18] ?_
  refine sq ?_
  refine .mv ?_
  refine sq ?_
  refine .r0 ?_
  refine sq ?_
  refine .mv ?_
  refine sq ?_
  refine .mv ?_
  refine sq ?_
  refine .r0 ?_
  refine sq ?_
  refine .r0 ?_
  refine sq ?_
  refine .r0 ?_
  refine sq ?_
  refine .mv ?_
  refine sq ?_
  refine .mv ?_
  refine sq ?_
  refine .r0 ?_
  refine sq ?_
  refine .r0 ?_
  refine sq ?_
  refine .r0 ?_
  refine sq ?_
  refine .mv ?_
  refine sk ?_
  refine sk ?_
  refine sk ?_
  refine sk ?_
  refine sk ?_
  refine sq ?_
  refine .r0 ?_
  apply wpSq_end
  refine hK9 _ _ ?_
  refine cf ?_
  refine wp_skip ?_
  refine hK8 _ _ ?_
  refine wp_seq_k ?_
  intro K10 hK10
  refine rg [0, 1, 2, 3, 4, 5, 6] ?_
  refine sq ?_
  refine .mv ?_
  refine sq ?_
  intro K hK
  have hb := hs.b
  go_big_op
  go_fit (lGram (HA.out.bl stab_n hb) hna HG.out (by decide))
  rintro e w_4 ⟨o_G, c_G, rfl, m_G, hb_4⟩
  clear hb
  replace hs := hs.bl hb_4
  refine hK _ _ rfl trivial ?_
  clear hK K
  refine sq ?_
  refine .mv ?_
  refine sq ?_
  refine .r0 ?_
  refine sq ?_
  refine .r0 ?_
  refine sq ?_
  refine .mv ?_
  refine sq ?_
  refine .mv ?_
  apply wpSq_end
  refine hK10 _ _ ?_
  refine wp_seq_k ?_
  intro K11 hK11
  refine wp_seq_k ?_
  intro K12 hK12
  refine rg [0, 1] ?_
  refine sq ?_
  refine .mv ?_
  refine sq ?_
  refine .r0 ?_
  apply wpSq_end
  refine hK12 _ _ ?_
  refine ct ?_
  refine wp_seq_k ?_
  intro K13 hK13
  refine rg [0, 1, 2, 3, 4, 5, 6] ?_
  refine sq ?_
  refine .mv ?_
  refine sq ?_
  intro K hK
  go_big_op
  go_fit (lAdj (m_G.mn BG.out) LG.out (gd_gram HG.out) (by decide) WG.out)
  rintro e w_5 ⟨o_L, c_L, rfl, m_L, hb_5⟩
  replace m_G := m_G.bl hb_5; replace hs := hs.bl hb_5
  rw [adj_gram] at m_L
  refine hK _ _ rfl trivial ?_
  clear hK K
  refine sq ?_
  refine .mv ?_
  refine sq ?_
  refine .r0 ?_
  refine sq ?_
  refine .r0 ?_
  refine sq ?_
  refine .mv ?_
  refine sq ?_
  refine .mv ?_
  apply wpSq_end
  refine hK13 _ _ ?_
  refine wp_seq_k ?_
  intro K14 hK14
  refine rg [0, 1, 2, 3, 4, 5, 6, 7] ?_
  refine sq ?_
  refine .mv ?_
  refine sq ?_
  refine .r0 ?_
  refine sq ?_
  refine .mv ?_
  refine sq ?_
  refine .mv ?_
  refine sq ?_
  refine .mv ?_
  refine sq ?_
  intro K hK
  go_big_op
  go_fit (msame_any m_G (m_L.mn BG.out) LG.out (by omega) (gd_rl (gd_gram HG.out)) (by decide))
  rintro e w_6 ⟨rfl, hb_6⟩
  replace m_G := m_G.bl hb_6; replace m_L := m_L.bl hb_6; replace hs := hs.bl hb_6
  refine hK _ _ rfl trivial ?_
  clear hK K
  refine sq ?_
  refine .r0 ?_
  refine sq ?_
  refine .r0 ?_
  apply wpSq_end
  refine hK14 _ _ ?_
  refine cf ?_
  refine wp_skip ?_
  refine hK11 _ _ ?_
  refine wp_seq_k ?_
  intro K15 hK15
  refine rg [0, 1, 2, 3, 4, 5, 6, 7, 8] ?_
  refine sq ?_
  refine .mv ?_
  refine sq ?_
  refine .mv ?_
  refine sq ?_
  intro K hK
  have hb := hs.b
  go_big_op
  go_fit (lDot HD.out (HV.out.bl stab_n hb) hnv (by omega) (by decide))
  rintro e w_7 ⟨_, rfl, ⟨n_da, o_da, k_da, c_da, n_db, o_db, k_db, c_db, rfl, d1, d2⟩, hb_7⟩
  clear hb
  replace hs := hs.bl hb_7
  have Ld1 := hide (d1.lenOf (lD.out))
  refine hK _ _ rfl trivial ?_
  clear hK K
  refine sq ?_
  refine .mv ?_
  refine sq ?_
  refine .r0 ?_
  refine sq ?_
  refine .r0 ?_
  refine sq ?_
  refine .al hs ?_; clear hs; intro p_b1 w_8 hs n8 kb_b1
  refine sq ?_
  refine .s4 hs.g0 (fun _ => hs.u0 kb_b1) ?_; clear hs; intro w_9 hs hd9 ho9
  refine sq ?_
  refine .mv ?_
  apply wpSq_end
  refine hK15 _ _ ?_
  refine wp_seq_k ?_
  intro K16 hK16
  refine wp_region_f4 [(0, false), (1, false), (2, false), (3, false), (4, false), (5, false), (6, true), (7, true), (8, false), (9, false), (10, false), (11, false), (12, true), (13, false), (14, false), (15, false)] [] [] (fun _ => default) [99, 99, 99, 99, 0, 99, 99, 99, 99, 99, 99, 0, 99, 99, 99, 99] [] (.c hs.g0 .n) fn fun w_10 n10 => ?_
  replace hs := hs.bl n10
  refine fmv ?_
  refine f0 ?_
  refine fmv ?_
  refine f0 ?_
  refine f4 ?_
  refine fmv ?_
  refine fl fun w_11 n11 => ?_
  replace hs := hs.bl n11
  intro K hK
  have hb := hs.b
  go_big_op
  go_fit (lLen HD.out (HV.out.bl stab_n hb) hnv (by omega) (by decide))
  rintro e w_12 ⟨v_z, rfl, z, hb_12⟩
  clear hb
  replace hs := hs.bl hb_12
  obtain ⟨n_z, o_z, k_z, c_z, rfl⟩ := z.open2
  have Lz := hide (z.lenOf (lD.out))
  refine hK _ _ rfl ⟨hb_12, (And.intro hs.g0 trivial)⟩ ?_
  clear hK K
  refine fl fun w_13 n13 => ?_
  replace hs := hs.bl n13
  intro K hK
  have k7_13 := (((((kb n8).o hd9 ho9).b n10).b n11).b hb_12).b n13
  replace d1 := d1.k k7_13
  have k12_13 := kb n13
  replace z := z.k k12_13
  go_big_op
  go_fit (rsame_zz d1 (z.zn lD.out) (by decide))
  rintro e w_14 ⟨rfl, hb_14⟩
  replace hs := hs.bl hb_14
  refine hK _ _ rfl ⟨hb_14, (And.intro hs.g0 trivial)⟩ ?_
  clear hK K
  refine f0 ?_
  refine fmv ?_
  refine f0 ?_
  refine f4 ?_
  refine fl fun w_15 n15 => ?_
  replace hs := hs.bl n15
  intro K hK
  have k7_15 := (k7_13.b hb_14).b n15
  replace d2 := d2.k k7_15
  go_big_op
  go_fit (rsign0 d2)
  rintro e w_16 ⟨rfl, hb_16⟩
  replace hs := hs.bl hb_16
  refine hK _ _ rfl ⟨hb_16, (And.intro hs.g0 trivial)⟩ ?_
  clear hK K
  refine f0 ?_
  refine f0 ?_
  refine fmv ?_
  refine e0 hs ?_; clear hs; intro w_17 hs n17
  apply wpTail_end
  refine hK16 _ _ ?_
  refine wp_ret ?_
  try dsimp only [Exit.then, Exit.inBlock]
  refine bodyPost_ret (v := (.bool true)) (by simp [results, Try.results7, go_sem]) rfl ?_
  exact ⟨rfl, hs.b⟩
set_option maxHeartbeats 4000000 in
set_option maxRecDepth 20000 in
theorem along_c0 (ha : MN 1048576 w oa A) (hb' : MN 1048576 w ob B) (hc : MN 1048576 w oc C) (hv : SN 1048576 w ov V) (hna : A.length = na) (hnb : B.length = nb) (hnc : C.length = nc) (hnv : V.length = nv) (la : na ≤ 1048576) (lb : nb ≤ 1048576) (lc : nc ≤ 1048576) (lv : nv ≤ 1048576) (h1 : ml2 A B) (h2 : ¬ ml2 B C) (d1 : 0 < na) (d2 : 0 < nb) (d3 : wd B = 0) :
    Calls Try.prog 7 #[.slice oa na ca, .slice ob nb cb, .slice oc nc cc, .slice ov nv cv] w fun e w' => e = .returned (.bool true) ∧ Below w.heap.size w w' := by
  obtain ⟨g, off, cur, ty, fz, rfl, x, hr⟩ := hb'.box (by omega)
  obtain ⟨o0, c0, ez, s0⟩ := hr 0 (by omega)
  obtain ⟨mb, hkb⟩ : ∃ mb, wd B = mb := ⟨_, rfl⟩
  rw [wd_0 (by omega), hkb, Nat.add_zero] at ez
  clear s0 hr
  rw [hkb] at d3
  subst d3
  have BA := hide ha.bd
  have lB : B.length ≤ 64 := h1.2.1.1
  have BP := hide (show BdM 3000000 (mulM A B) from bdM_up (bd_mulM ha.bd hb'.bd) (by omega))
  have BG := hide (show BdM 3000000 (gramM A) from bdM_up (bd_gramM ha.bd) (by have := h1.1.2.1; omega))
  have LP := hide (show (mulM A B).length = na from len_mulM.trans hna)
  have LG := hide (show (gramM A).length = na from len_gram.trans hna)
  have WG := hide (show wd (gramM A) = na from wd_gram.trans hna)
  obtain ⟨D, hD⟩ : ∃ D, D = lenS nv fun i => nP (at1 V i) := ⟨_, rfl⟩
  have lD := hide (show (dig D.natAbs).length ≤ 50000000 by rw [hD]; exact bd_len hv hnv (by omega) (by decide))
  have HD := hide hD
  have HA := hide ha
  have HB := hide hb'
  have HC := hide hc
  have HV := hide hv
  clear ha hb' hc hv hD hkb
  have H1 := hide h1
  have H2 := hide h2
  have HG := hide h1.1
  clear h1 h2 lB
  have t1 : ((0 : Int) < na) = True := eq_true (by omega)
  have t2 : ((0 : Int) < nb) = True := eq_true (by omega)
  go_enter Try.func7, Try.ntmps7
  have hs := St.nil w
  refine wp_seq_k ?_
  intro K1 hK1
  refine rg [0] ?_
  refine sq ?_
  refine .mv ?_
  apply wpSq_end
  refine hK1 _ _ ?_
  refine wp_seq_k ?_
  intro K2 hK2
  refine wp_seq_k ?_
  intro K3 hK3
  refine rg [0, 1] ?_
  refine sq ?_
  intro K hK
  go_big_op
  go_fit (awake8_any _)
  rintro e w_1 ⟨rfl, hb_1⟩
  replace x := x.bl hb_1; replace hs := hs.bl hb_1
  refine hK _ _ rfl trivial ?_
  clear hK K
  refine sq ?_
  refine .r0 ?_
  apply wpSq_end
  refine hK3 _ _ ?_
  refine cf ?_
  refine wp_skip ?_
  refine hK2 _ _ ?_
  refine wp_seq_k ?_
  intro K4 hK4
  refine rg [0, 1, 2, 3, 4, 5, 6, 7] ?_
  refine sq ?_
  refine .mv ?_
  refine sq ?_
  refine .mv ?_
  refine sq ?_
  intro K hK
  have hb := hs.b
  go_big_op
  go_fit (lMul (HA.out.bl stab_n hb) (HB.out.bl stab_n hb) hna hnb H1.out (by decide) (by decide))
  rintro e w_2 ⟨o_P, c_P, rfl, m_P, hb_2⟩
  clear hb
  replace x := x.bl hb_2; replace hs := hs.bl hb_2
  refine hK _ _ rfl trivial ?_
  clear hK K
  refine sq ?_
  refine .mv ?_
  refine sq ?_
  refine .r0 ?_
  refine sq ?_
  refine .r0 ?_
  refine sq ?_
  refine .mv ?_
  refine sq ?_
  refine .mv ?_
  apply wpSq_end
  refine hK4 _ _ ?_
  refine wp_seq_k ?_
  intro K5 hK5
  refine rg [0, 1, 2, 3, 4, 5, 6, 7] ?_
  refine sq ?_
  refine .mv ?_
  refine sq ?_
  refine .mv ?_
  refine sq ?_
  intro K hK
  have hb := hs.b
  go_big_op
  go_fit (mMul_bad (HB.out.bl stab_n hb) (HC.out.bl stab_n hb) hnb hnc H2.out (by omega) (by omega))
  rintro e w_3 ⟨rfl, hb_3⟩
  clear hb
  replace x := x.bl hb_3; replace m_P := m_P.bl hb_3; replace hs := hs.bl hb_3
  refine hK _ _ rfl trivial ?_
  clear hK K
  refine sq ?_
  refine .mv ?_
  refine sq ?_
  refine .r0 ?_
  refine sq ?_
  refine .r0 ?_
  refine sq ?_
  refine .mv ?_
  refine sq ?_
  refine .mv ?_
  apply wpSq_end
  refine hK5 _ _ ?_
  refine wp_seq_k ?_
  intro K6 hK6
  refine wp_seq_k ?_
  intro K7 hK7
  refine rg [0, 1, 2, 3, 4, 5] ?_
  refine sq ?_
  refine .mv ?_
  refine sq ?_
  refine .r0 ?_
  refine sq ?_
  refine .mv ?_
  refine sq ?_
  refine .mv ?_
  refine sq ?_
  refine .r0 ?_
  refine sq ?_
  refine .r0 ?_
  apply wpSq_end
  refine hK7 _ _ ?_
  refine cf ?_
  refine wp_skip ?_
  refine hK6 _ _ ?_
  refine wp_seq_k ?_
  intro K8 hK8
  refine wp_seq_k ?_
  intro K9 hK9
  refine rg [0, 1, 2, 3, 4, 5, 6, 7, 8, 9, 10, 11, 12, 13, 14, 15, 16, 17, 18] ?_
  refine sq ?_
  refine .mv ?_
  refine sq ?_
  refine .r0 ?_
  refine sq ?_
  refine .mv ?_
  refine sq ?_
  refine .mv ?_
  refine sq ?_
  refine .r0 ?_
  refine sq ?_
  refine .r0 ?_
  refine sq ?_
  refine .r0 ?_
  refine sq ?_
  refine .mv ?_
  refine sq ?_
  refine .mv ?_
  refine sq ?_
  refine .r0 ?_
  refine sq ?_
  refine .r0 ?_
  refine sq ?_
  refine .r0 ?_
  refine sq ?_
  refine .mv ?_
  refine sq ?_
  refine .mv ?_
  refine sq ?_
  refine .r0 ?_
  refine sq ?_
  refine .r1 (x.cell _ ez) ?_
  refine sq ?_
  refine .r0 ?_
  refine sq ?_
  refine .r0 ?_
  refine sq ?_
  refine .r0 ?_
  apply wpSq_end
  refine hK9 _ _ ?_
  refine cf ?_
  refine wp_skip ?_
  refine hK8 _ _ ?_
  refine wp_seq_k ?_
  intro K10 hK10
  refine rg [0, 1, 2, 3, 4, 5, 6] ?_
  refine sq ?_
  refine .mv ?_
  refine sq ?_
  intro K hK
  have hb := hs.b
  go_big_op
  go_fit (lGram (HA.out.bl stab_n hb) hna HG.out (by decide))
  rintro e w_4 ⟨o_G, c_G, rfl, m_G, hb_4⟩
  clear hb
  replace hs := hs.bl hb_4
  refine hK _ _ rfl trivial ?_
  clear hK K
  refine sq ?_
  refine .mv ?_
  refine sq ?_
  refine .r0 ?_
  refine sq ?_
  refine .r0 ?_
  refine sq ?_
  refine .mv ?_
  refine sq ?_
  refine .mv ?_
  apply wpSq_end
  refine hK10 _ _ ?_
  refine wp_seq_k ?_
  intro K11 hK11
  refine wp_seq_k ?_
  intro K12 hK12
  refine rg [0, 1] ?_
  refine sq ?_
  refine .mv ?_
  refine sq ?_
  refine .r0 ?_
  apply wpSq_end
  refine hK12 _ _ ?_
  refine ct ?_
  refine wp_seq_k ?_
  intro K13 hK13
  refine rg [0, 1, 2, 3, 4, 5, 6] ?_
  refine sq ?_
  refine .mv ?_
  refine sq ?_
  intro K hK
  go_big_op
  go_fit (lAdj (m_G.mn BG.out) LG.out (gd_gram HG.out) (by decide) WG.out)
  rintro e w_5 ⟨o_L, c_L, rfl, m_L, hb_5⟩
  replace m_G := m_G.bl hb_5; replace hs := hs.bl hb_5
  rw [adj_gram] at m_L
  refine hK _ _ rfl trivial ?_
  clear hK K
  refine sq ?_
  refine .mv ?_
  refine sq ?_
  refine .r0 ?_
  refine sq ?_
  refine .r0 ?_
  refine sq ?_
  refine .mv ?_
  refine sq ?_
  refine .mv ?_
  apply wpSq_end
  refine hK13 _ _ ?_
  refine wp_seq_k ?_
  intro K14 hK14
  refine rg [0, 1, 2, 3, 4, 5, 6, 7] ?_
  refine sq ?_
  refine .mv ?_
  refine sq ?_
  refine .r0 ?_
  refine sq ?_
  refine .mv ?_
  refine sq ?_
  refine .mv ?_
  refine sq ?_
  refine .mv ?_
  refine sq ?_
  intro K hK
  go_big_op
  go_fit (msame_any m_G (m_L.mn BG.out) LG.out (by omega) (gd_rl (gd_gram HG.out)) (by decide))
  rintro e w_6 ⟨rfl, hb_6⟩
  replace m_G := m_G.bl hb_6; replace m_L := m_L.bl hb_6; replace hs := hs.bl hb_6
  refine hK _ _ rfl trivial ?_
  clear hK K
  refine sq ?_
  refine .r0 ?_
  refine sq ?_
  refine .r0 ?_
  apply wpSq_end
  refine hK14 _ _ ?_
  refine cf ?_
  refine wp_skip ?_
  refine hK11 _ _ ?_
  refine wp_seq_k ?_
  intro K15 hK15
  refine rg [0, 1, 2, 3, 4, 5, 6, 7, 8] ?_
  refine sq ?_
  refine .mv ?_
  refine sq ?_
  refine .mv ?_
  refine sq ?_
  intro K hK
  have hb := hs.b
  go_big_op
  go_fit (lDot HD.out (HV.out.bl stab_n hb) hnv (by omega) (by decide))
  rintro e w_7 ⟨_, rfl, ⟨n_da, o_da, k_da, c_da, n_db, o_db, k_db, c_db, rfl, d1, d2⟩, hb_7⟩
  clear hb
  replace hs := hs.bl hb_7
  have Ld1 := hide (d1.lenOf (lD.out))
  refine hK _ _ rfl trivial ?_
  clear hK K
  refine sq ?_
  refine .mv ?_
  refine sq ?_
  refine .r0 ?_
  refine sq ?_
  refine .r0 ?_
  refine sq ?_
  refine .al hs ?_; clear hs; intro p_b1 w_8 hs n8 kb_b1
  refine sq ?_
  refine .s4 hs.g0 (fun _ => hs.u0 kb_b1) ?_; clear hs; intro w_9 hs hd9 ho9
  refine sq ?_
  refine .mv ?_
  apply wpSq_end
  refine hK15 _ _ ?_
  refine wp_seq_k ?_
  intro K16 hK16
  refine wp_region_f4 [(0, false), (1, false), (2, false), (3, false), (4, false), (5, false), (6, true), (7, true), (8, false), (9, false), (10, false), (11, false), (12, true), (13, false), (14, false), (15, false)] [] [] (fun _ => default) [99, 99, 99, 99, 0, 99, 99, 99, 99, 99, 99, 0, 99, 99, 99, 99] [] (.c hs.g0 .n) fn fun w_10 n10 => ?_
  replace hs := hs.bl n10
  refine fmv ?_
  refine f0 ?_
  refine fmv ?_
  refine f0 ?_
  refine f4 ?_
  refine fmv ?_
  refine fl fun w_11 n11 => ?_
  replace hs := hs.bl n11
  intro K hK
  have hb := hs.b
  go_big_op
  go_fit (lLen HD.out (HV.out.bl stab_n hb) hnv (by omega) (by decide))
  rintro e w_12 ⟨v_z, rfl, z, hb_12⟩
  clear hb
  replace hs := hs.bl hb_12
  obtain ⟨n_z, o_z, k_z, c_z, rfl⟩ := z.open2
  have Lz := hide (z.lenOf (lD.out))
  refine hK _ _ rfl ⟨hb_12, (And.intro hs.g0 trivial)⟩ ?_
  clear hK K
  refine fl fun w_13 n13 => ?_
  replace hs := hs.bl n13
  intro K hK
  have k7_13 := (((((kb n8).o hd9 ho9).b n10).b n11).b hb_12).b n13
  replace d1 := d1.k k7_13
  have k12_13 := kb n13
  replace z := z.k k12_13
  go_big_op
  go_fit (rsame_zz d1 (z.zn lD.out) (by decide))
  rintro e w_14 ⟨rfl, hb_14⟩
  replace hs := hs.bl hb_14
  refine hK _ _ rfl ⟨hb_14, (And.intro hs.g0 trivial)⟩ ?_
  clear hK K
  refine f0 ?_
  refine fmv ?_
  refine f0 ?_
  refine f4 ?_
  refine fl fun w_15 n15 => ?_
  replace hs := hs.bl n15
  intro K hK
  have k7_15 := (k7_13.b hb_14).b n15
  replace d2 := d2.k k7_15
  go_big_op
  go_fit (rsign0 d2)
  rintro e w_16 ⟨rfl, hb_16⟩
  replace hs := hs.bl hb_16
  refine hK _ _ rfl ⟨hb_16, (And.intro hs.g0 trivial)⟩ ?_
  clear hK K
  refine f0 ?_
  refine f0 ?_
  refine fmv ?_
  refine e0 hs ?_; clear hs; intro w_17 hs n17
  apply wpTail_end
  refine hK16 _ _ ?_
  refine wp_ret ?_
  try dsimp only [Exit.then, Exit.inBlock]
  refine bodyPost_ret (v := (.bool true)) (by simp [results, Try.results7, go_sem]) rfl ?_
  exact ⟨rfl, hs.b⟩
set_option maxHeartbeats 4000000 in
set_option maxRecDepth 20000 in
theorem along_d0 (ha : MN 1048576 w oa A) (hb' : MN 1048576 w ob B) (hc : MN 1048576 w oc C) (hv : SN 1048576 w ov V) (hna : A.length = na) (hnb : B.length = nb) (hnc : C.length = nc) (hnv : V.length = nv) (la : na ≤ 1048576) (lb : nb ≤ 1048576) (lc : nc ≤ 1048576) (lv : nv ≤ 1048576) (h1 : ml2 A B) (h2 : ¬ ml2 B C) (d1 : 0 < na) (d2 : 0 < nb) (d3 : 0 < wd B) :
    Calls Try.prog 7 #[.slice oa na ca, .slice ob nb cb, .slice oc nc cc, .slice ov nv cv] w fun e w' => e = .returned (.bool true) ∧ Below w.heap.size w w' := by
  obtain ⟨g, off, cur, ty, fz, rfl, x, hr⟩ := hb'.box (by omega)
  obtain ⟨o0, c0, ez, s0⟩ := hr 0 (by omega)
  obtain ⟨mb, hkb⟩ : ∃ mb, wd B = mb := ⟨_, rfl⟩
  rw [wd_0 (by omega), hkb, Nat.add_zero] at ez
  clear s0 hr
  rw [hkb] at d3
  have BA := hide ha.bd
  have lB : B.length ≤ 64 := h1.2.1.1
  have BP := hide (show BdM 3000000 (mulM A B) from bdM_up (bd_mulM ha.bd hb'.bd) (by omega))
  have BG := hide (show BdM 3000000 (gramM A) from bdM_up (bd_gramM ha.bd) (by have := h1.1.2.1; omega))
  have LP := hide (show (mulM A B).length = na from len_mulM.trans hna)
  have BT := hide (bd_adjM hb'.bd)
  have BU := hide (bd_adjM ha.bd)
  have BS := hide (bd_adjM BP.out)
  have HM := hide (ml2_adj h1 (by omega) (by omega))
  have EM := hide (adj_mul h1 (by omega) (by omega))
  have HKB := hide hkb
  have WP := hide ((ml2_wd h1).trans hkb)
  have LT := hide (show (adjM B).length = mb from len_mkM.trans hkb)
  have LU := hide (show (adjM A).length = nb from len_mkM.trans (h1.2.2.trans hnb))
  have LS := hide (show (adjM (mulM A B)).length = mb from len_mkM.trans WP.out)
  have GS := hide (show gd (adjM (mulM A B)) from gd_mkM (by rw [WP.out, ← hkb]; exact h1.2.1.2.1) (by rw [LP.out, ← hna]; exact h1.1.1))
  have WA := hide (h1.2.2.trans hnb)
  have LG := hide (show (gramM A).length = na from len_gram.trans hna)
  have WG := hide (show wd (gramM A) = na from wd_gram.trans hna)
  obtain ⟨D, hD⟩ : ∃ D, D = lenS nv fun i => nP (at1 V i) := ⟨_, rfl⟩
  have lD := hide (show (dig D.natAbs).length ≤ 50000000 by rw [hD]; exact bd_len hv hnv (by omega) (by decide))
  have HD := hide hD
  have HA := hide ha
  have HB := hide hb'
  have HC := hide hc
  have HV := hide hv
  clear ha hb' hc hv hD hkb
  have H1 := hide h1
  have H2 := hide h2
  have HG := hide h1.1
  clear h1 h2 lB
  have t1 : ((0 : Int) < na) = True := eq_true (by omega)
  have t2 : ((0 : Int) < nb) = True := eq_true (by omega)
  have t3 : ((0 : Int) < mb) = True := eq_true (by omega)
  go_enter Try.func7, Try.ntmps7
  have hs := St.nil w
  refine wp_seq_k ?_
  intro K1 hK1
  refine rg [0] ?_
  refine sq ?_
  refine .mv ?_
  apply wpSq_end
  refine hK1 _ _ ?_
  refine wp_seq_k ?_
  intro K2 hK2
  refine wp_seq_k ?_
  intro K3 hK3
  refine rg [0, 1] ?_
  refine sq ?_
  intro K hK
  go_big_op
  go_fit (awake8_any _)
  rintro e w_1 ⟨rfl, hb_1⟩
  replace x := x.bl hb_1; replace hs := hs.bl hb_1
  refine hK _ _ rfl trivial ?_
  clear hK K
  refine sq ?_
  refine .r0 ?_
  apply wpSq_end
  refine hK3 _ _ ?_
  refine cf ?_
  refine wp_skip ?_
  refine hK2 _ _ ?_
  refine wp_seq_k ?_
  intro K4 hK4
  refine rg [0, 1, 2, 3, 4, 5, 6, 7] ?_
  refine sq ?_
  refine .mv ?_
  refine sq ?_
  refine .mv ?_
  refine sq ?_
  intro K hK
  have hb := hs.b
  go_big_op
  go_fit (lMul (HA.out.bl stab_n hb) (HB.out.bl stab_n hb) hna hnb H1.out (by decide) (by decide))
  rintro e w_2 ⟨o_P, c_P, rfl, m_P, hb_2⟩
  clear hb
  replace x := x.bl hb_2; replace hs := hs.bl hb_2
  refine hK _ _ rfl trivial ?_
  clear hK K
  refine sq ?_
  refine .mv ?_
  refine sq ?_
  refine .r0 ?_
  refine sq ?_
  refine .r0 ?_
  refine sq ?_
  refine .mv ?_
  refine sq ?_
  refine .mv ?_
  apply wpSq_end
  refine hK4 _ _ ?_
  refine wp_seq_k ?_
  intro K5 hK5
  refine rg [0, 1, 2, 3, 4, 5, 6, 7] ?_
  refine sq ?_
  refine .mv ?_
  refine sq ?_
  refine .mv ?_
  refine sq ?_
  intro K hK
  have hb := hs.b
  go_big_op
  go_fit (mMul_bad (HB.out.bl stab_n hb) (HC.out.bl stab_n hb) hnb hnc H2.out (by omega) (by omega))
  rintro e w_3 ⟨rfl, hb_3⟩
  clear hb
  replace x := x.bl hb_3; replace m_P := m_P.bl hb_3; replace hs := hs.bl hb_3
  refine hK _ _ rfl trivial ?_
  clear hK K
  refine sq ?_
  refine .mv ?_
  refine sq ?_
  refine .r0 ?_
  refine sq ?_
  refine .r0 ?_
  refine sq ?_
  refine .mv ?_
  refine sq ?_
  refine .mv ?_
  apply wpSq_end
  refine hK5 _ _ ?_
  refine wp_seq_k ?_
  intro K6 hK6
  refine wp_seq_k ?_
  intro K7 hK7
  refine rg [0, 1, 2, 3, 4, 5] ?_
  refine sq ?_
  refine .mv ?_
  refine sq ?_
  refine .r0 ?_
  refine sq ?_
  refine .mv ?_
  refine sq ?_
  refine .mv ?_
  refine sq ?_
  refine .r0 ?_
  refine sq ?_
  refine .r0 ?_
  apply wpSq_end
  refine hK7 _ _ ?_
  refine cf ?_
  refine wp_skip ?_
  refine hK6 _ _ ?_
  refine wp_seq_k ?_
  intro K8 hK8
  refine wp_seq_k ?_
  intro K9 hK9
  refine rg [0, 1, 2, 3, 4, 5, 6, 7, 8, 9, 10, 11, 12, 13, 14, 15, 16, 17, 18] ?_
  refine sq ?_
  refine .mv ?_
  refine sq ?_
  refine .r0 ?_
  refine sq ?_
  refine .mv ?_
  refine sq ?_
  refine .mv ?_
  refine sq ?_
  refine .r0 ?_
  refine sq ?_
  refine .r0 ?_
  refine sq ?_
  refine .r0 ?_
  refine sq ?_
  refine .mv ?_
  refine sq ?_
  refine .mv ?_
  refine sq ?_
  refine .r0 ?_
  refine sq ?_
  refine .r0 ?_
  refine sq ?_
  refine .r0 ?_
  refine sq ?_
  refine .mv ?_
  refine sq ?_
  refine .mv ?_
  refine sq ?_
  refine .r0 ?_
  refine sq ?_
  refine .r1 (x.cell _ ez) ?_
  refine sq ?_
  refine .r0 ?_
  refine sq ?_
  refine .r0 ?_
  refine sq ?_
  refine .r0 ?_
  apply wpSq_end
  refine hK9 _ _ ?_
  refine ct ?_
  refine wp_seq_k ?_
  intro K10 hK10
  refine rg [0, 1, 2, 3, 4, 5, 6] ?_
  refine sq ?_
  refine .mv ?_
  refine sq ?_
  intro K hK
  go_big_op
  go_fit (lAdj (m_P.mn BP.out) LP.out (gd_mulM H1.out) (by decide) WP.out)
  rintro e w_4 ⟨o_S, c_S, rfl, m_S, hb_4⟩
  replace x := x.bl hb_4; replace m_P := m_P.bl hb_4; replace hs := hs.bl hb_4
  refine hK _ _ rfl trivial ?_
  clear hK K
  refine sq ?_
  refine .mv ?_
  refine sq ?_
  refine .r0 ?_
  refine sq ?_
  refine .r0 ?_
  refine sq ?_
  refine .mv ?_
  refine sq ?_
  refine .mv ?_
  apply wpSq_end
  refine hK10 _ _ ?_
  refine wp_seq_k ?_
  intro K11 hK11
  refine rg [0, 1, 2, 3, 4, 5, 6] ?_
  refine sq ?_
  refine .mv ?_
  refine sq ?_
  intro K hK
  have hb := hs.b
  go_big_op
  go_fit (lAdj (HB.out.bl stab_n hb) hnb H1.out.2.1 (by decide) HKB.out)
  rintro e w_5 ⟨o_T, c_T, rfl, m_T, hb_5⟩
  clear hb
  replace x := x.bl hb_5; replace m_S := m_S.bl hb_5; replace hs := hs.bl hb_5
  refine hK _ _ rfl trivial ?_
  clear hK K
  refine sq ?_
  refine .mv ?_
  refine sq ?_
  refine .r0 ?_
  refine sq ?_
  refine .r0 ?_
  refine sq ?_
  refine .mv ?_
  refine sq ?_
  refine .mv ?_
  apply wpSq_end
  refine hK11 _ _ ?_
  refine wp_seq_k ?_
  intro K12 hK12
  refine rg [0, 1, 2, 3, 4, 5, 6] ?_
  refine sq ?_
  refine .mv ?_
  refine sq ?_
  intro K hK
  have hb := hs.b
  go_big_op
  go_fit (lAdj (HA.out.bl stab_n hb) hna H1.out.1 (by decide) WA.out)
  rintro e w_6 ⟨o_U, c_U, rfl, m_U, hb_6⟩
  clear hb
  replace x := x.bl hb_6; replace m_S := m_S.bl hb_6; replace m_T := m_T.bl hb_6; replace hs := hs.bl hb_6
  refine hK _ _ rfl trivial ?_
  clear hK K
  refine sq ?_
  refine .mv ?_
  refine sq ?_
  refine .r0 ?_
  refine sq ?_
  refine .r0 ?_
  refine sq ?_
  refine .mv ?_
  refine sq ?_
  refine .mv ?_
  apply wpSq_end
  refine hK12 _ _ ?_
  refine wp_seq_k ?_
  intro K13 hK13
  refine rg [0, 1, 2, 3, 4, 5, 6, 7] ?_
  refine sq ?_
  refine .mv ?_
  refine sq ?_
  refine .mv ?_
  refine sq ?_
  intro K hK
  go_big_op
  go_fit (lMul (m_T.mn BT.out) (m_U.mn BU.out) LT.out LU.out HM.out (by decide) (by decide))
  rintro e w_7 ⟨o_E, c_E, rfl, m_E, hb_7⟩
  replace x := x.bl hb_7; replace m_S := m_S.bl hb_7; replace m_T := m_T.bl hb_7; replace m_U := m_U.bl hb_7; replace hs := hs.bl hb_7
  rw [EM.out] at m_E
  refine hK _ _ rfl trivial ?_
  clear hK K
  refine sq ?_
  refine .mv ?_
  refine sq ?_
  refine .r0 ?_
  refine sq ?_
  refine .r0 ?_
  refine sq ?_
  refine .mv ?_
  refine sq ?_
  refine .mv ?_
  apply wpSq_end
  refine hK13 _ _ ?_
  refine wp_seq_k ?_
  intro K14 hK14
  refine rg [0, 1, 2, 3, 4, 5, 6, 7] ?_
  refine sq ?_
  refine .mv ?_
  refine sq ?_
  refine .r0 ?_
  refine sq ?_
  refine .mv ?_
  refine sq ?_
  refine .mv ?_
  refine sq ?_
  refine .mv ?_
  refine sq ?_
  intro K hK
  go_big_op
  go_fit (msame_any m_S (m_E.mn BS.out) LS.out (by have := GS.out.1; have := LS.out; omega) (gd_rl GS.out) (by decide))
  rintro e w_8 ⟨rfl, hb_8⟩
  replace x := x.bl hb_8; replace m_S := m_S.bl hb_8; replace m_E := m_E.bl hb_8; replace hs := hs.bl hb_8
  refine hK _ _ rfl trivial ?_
  clear hK K
  refine sq ?_
  refine .r0 ?_
  refine sq ?_
  refine .r0 ?_
  apply wpSq_end
  refine hK14 _ _ ?_
  refine cf ?_
  refine wp_skip ?_
  refine hK8 _ _ ?_
  refine wp_seq_k ?_
  intro K15 hK15
  refine rg [0, 1, 2, 3, 4, 5, 6] ?_
  refine sq ?_
  refine .mv ?_
  refine sq ?_
  intro K hK
  have hb := hs.b
  go_big_op
  go_fit (lGram (HA.out.bl stab_n hb) hna HG.out (by decide))
  rintro e w_9 ⟨o_G, c_G, rfl, m_G, hb_9⟩
  clear hb
  replace hs := hs.bl hb_9
  refine hK _ _ rfl trivial ?_
  clear hK K
  refine sq ?_
  refine .mv ?_
  refine sq ?_
  refine .r0 ?_
  refine sq ?_
  refine .r0 ?_
  refine sq ?_
  refine .mv ?_
  refine sq ?_
  refine .mv ?_
  apply wpSq_end
  refine hK15 _ _ ?_
  refine wp_seq_k ?_
  intro K16 hK16
  refine wp_seq_k ?_
  intro K17 hK17
  refine rg [0, 1] ?_
  refine sq ?_
  refine .mv ?_
  refine sq ?_
  refine .r0 ?_
  apply wpSq_end
  refine hK17 _ _ ?_
  refine ct ?_
  refine wp_seq_k ?_
  intro K18 hK18
  refine rg [0, 1, 2, 3, 4, 5, 6] ?_
  refine sq ?_
  refine .mv ?_
  refine sq ?_
  intro K hK
  go_big_op
  go_fit (lAdj (m_G.mn BG.out) LG.out (gd_gram HG.out) (by decide) WG.out)
  rintro e w_10 ⟨o_L, c_L, rfl, m_L, hb_10⟩
  replace m_G := m_G.bl hb_10; replace hs := hs.bl hb_10
  rw [adj_gram] at m_L
  refine hK _ _ rfl trivial ?_
  clear hK K
  refine sq ?_
  refine .mv ?_
  refine sq ?_
  refine .r0 ?_
  refine sq ?_
  refine .r0 ?_
  refine sq ?_
  refine .mv ?_
  refine sq ?_
  refine .mv ?_
  apply wpSq_end
  refine hK18 _ _ ?_
  refine wp_seq_k ?_
  intro K19 hK19
  refine rg [0, 1, 2, 3, 4, 5, 6, 7] ?_
  refine sq ?_
  refine .mv ?_
  refine sq ?_
  refine .r0 ?_
  refine sq ?_
  refine .mv ?_
  refine sq ?_
  refine .mv ?_
  refine sq ?_
  refine .mv ?_
  refine sq ?_
  intro K hK
  go_big_op
  go_fit (msame_any m_G (m_L.mn BG.out) LG.out (by omega) (gd_rl (gd_gram HG.out)) (by decide))
  rintro e w_11 ⟨rfl, hb_11⟩
  replace m_G := m_G.bl hb_11; replace m_L := m_L.bl hb_11; replace hs := hs.bl hb_11
  refine hK _ _ rfl trivial ?_
  clear hK K
  refine sq ?_
  refine .r0 ?_
  refine sq ?_
  refine .r0 ?_
  apply wpSq_end
  refine hK19 _ _ ?_
  refine cf ?_
  refine wp_skip ?_
  refine hK16 _ _ ?_
  refine wp_seq_k ?_
  intro K20 hK20
  refine rg [0, 1, 2, 3, 4, 5, 6, 7, 8] ?_
  refine sq ?_
  refine .mv ?_
  refine sq ?_
  refine .mv ?_
  refine sq ?_
  intro K hK
  have hb := hs.b
  go_big_op
  go_fit (lDot HD.out (HV.out.bl stab_n hb) hnv (by omega) (by decide))
  rintro e w_12 ⟨_, rfl, ⟨n_da, o_da, k_da, c_da, n_db, o_db, k_db, c_db, rfl, d1, d2⟩, hb_12⟩
  clear hb
  clear m_P m_T m_U m_S m_E m_G m_L
  replace hs := hs.bl hb_12
  have Ld1 := hide (d1.lenOf (lD.out))
  refine hK _ _ rfl trivial ?_
  clear hK K
  refine sq ?_
  refine .mv ?_
  refine sq ?_
  refine .r0 ?_
  refine sq ?_
  refine .r0 ?_
  refine sq ?_
  refine .al hs ?_; clear hs; intro p_b1 w_13 hs n13 kb_b1
  refine sq ?_
  refine .s4 hs.g0 (fun _ => hs.u0 kb_b1) ?_; clear hs; intro w_14 hs hd14 ho14
  refine sq ?_
  refine .mv ?_
  apply wpSq_end
  refine hK20 _ _ ?_
  refine wp_seq_k ?_
  intro K21 hK21
  refine wp_region_f4 [(0, false), (1, false), (2, false), (3, false), (4, false), (5, false), (6, true), (7, true), (8, false), (9, false), (10, false), (11, false), (12, true), (13, false), (14, false), (15, false)] [] [] (fun _ => default) [99, 99, 99, 99, 0, 99, 99, 99, 99, 99, 99, 0, 99, 99, 99, 99] [] (.c hs.g0 .n) fn fun w_15 n15 => ?_
  replace hs := hs.bl n15
  refine fmv ?_
  refine f0 ?_
  refine fmv ?_
  refine f0 ?_
  refine f4 ?_
  refine fmv ?_
  refine fl fun w_16 n16 => ?_
  replace hs := hs.bl n16
  intro K hK
  have hb := hs.b
  go_big_op
  go_fit (lLen HD.out (HV.out.bl stab_n hb) hnv (by omega) (by decide))
  rintro e w_17 ⟨v_z, rfl, z, hb_17⟩
  clear hb
  replace hs := hs.bl hb_17
  obtain ⟨n_z, o_z, k_z, c_z, rfl⟩ := z.open2
  have Lz := hide (z.lenOf (lD.out))
  refine hK _ _ rfl ⟨hb_17, (And.intro hs.g0 trivial)⟩ ?_
  clear hK K
  refine fl fun w_18 n18 => ?_
  replace hs := hs.bl n18
  intro K hK
  have k12_18 := (((((kb n13).o hd14 ho14).b n15).b n16).b hb_17).b n18
  replace d1 := d1.k k12_18
  have k17_18 := kb n18
  replace z := z.k k17_18
  go_big_op
  go_fit (rsame_zz d1 (z.zn lD.out) (by decide))
  rintro e w_19 ⟨rfl, hb_19⟩
  replace hs := hs.bl hb_19
  refine hK _ _ rfl ⟨hb_19, (And.intro hs.g0 trivial)⟩ ?_
  clear hK K
  refine f0 ?_
  refine fmv ?_
  refine f0 ?_
  refine f4 ?_
  refine fl fun w_20 n20 => ?_
  replace hs := hs.bl n20
  intro K hK
  have k12_20 := (k12_18.b hb_19).b n20
  replace d2 := d2.k k12_20
  go_big_op
  go_fit (rsign0 d2)
  rintro e w_21 ⟨rfl, hb_21⟩
  replace hs := hs.bl hb_21
  refine hK _ _ rfl ⟨hb_21, (And.intro hs.g0 trivial)⟩ ?_
  clear hK K
  refine f0 ?_
  refine f0 ?_
  refine fmv ?_
  refine e0 hs ?_; clear hs; intro w_22 hs n22
  apply wpTail_end
  refine hK21 _ _ ?_
  refine wp_ret ?_
  try dsimp only [Exit.then, Exit.inBlock]
  refine bodyPost_ret (v := (.bool true)) (by simp [results, Try.results7, go_sem]) rfl ?_
  exact ⟨rfl, hs.b⟩
set_option maxHeartbeats 4000000 in
set_option maxRecDepth 20000 in
theorem along_n1g (ha : MN 1048576 w oa A) (hb' : MN 1048576 w ob B) (hc : MN 1048576 w oc C) (hv : SN 1048576 w ov V) (hna : A.length = na) (hnb : B.length = nb) (hnc : C.length = nc) (hnv : V.length = nv) (la : na ≤ 1048576) (lb : nb ≤ 1048576) (lc : nc ≤ 1048576) (lv : nv ≤ 1048576) (h1 : ¬ ml2 A B) (h2 : ml2 B C) (h4 : gd A) :
    Calls Try.prog 7 #[.slice oa na ca, .slice ob nb cb, .slice oc nc cc, .slice ov nv cv] w fun e w' => e = .returned (.bool true) ∧ Below w.heap.size w w' := by
  have BG := hide (show BdM 3000000 (gramM A) from bdM_up (bd_gramM ha.bd) (by have := h4.2.1; omega))
  have LG := hide (show (gramM A).length = na from len_gram.trans hna)
  have WG := hide (show wd (gramM A) = na from wd_gram.trans hna)
  obtain ⟨D, hD⟩ : ∃ D, D = lenS nv fun i => nP (at1 V i) := ⟨_, rfl⟩
  have lD := hide (show (dig D.natAbs).length ≤ 50000000 by rw [hD]; exact bd_len hv hnv (by omega) (by decide))
  have HD := hide hD
  have HA := hide ha
  have HB := hide hb'
  have HC := hide hc
  have HV := hide hv
  clear ha hb' hc hv hD
  have H1 := hide h1
  have H2 := hide h2
  have HG := hide h4
  clear h1 h2 h4
  go_enter Try.func7, Try.ntmps7
  have hs := St.nil w
  refine wp_seq_k ?_
  intro K1 hK1
  refine rg [0] ?_
  refine sq ?_
  refine .mv ?_
  apply wpSq_end
  refine hK1 _ _ ?_
  refine wp_seq_k ?_
  intro K2 hK2
  refine wp_seq_k ?_
  intro K3 hK3
  refine rg [0, 1] ?_
  refine sq ?_
  intro K hK
  go_big_op
  go_fit (awake8_any _)
  rintro e w_1 ⟨rfl, hb_1⟩
  replace hs := hs.bl hb_1
  refine hK _ _ rfl trivial ?_
  clear hK K
  refine sq ?_
  refine .r0 ?_
  apply wpSq_end
  refine hK3 _ _ ?_
  refine cf ?_
  refine wp_skip ?_
  refine hK2 _ _ ?_
  refine wp_seq_k ?_
  intro K4 hK4
  refine rg [0, 1, 2, 3, 4, 5, 6, 7] ?_
  refine sq ?_
  refine .mv ?_
  refine sq ?_
  refine .mv ?_
  refine sq ?_
  intro K hK
  have hb := hs.b
  go_big_op
  go_fit (mMul_bad (HA.out.bl stab_n hb) (HB.out.bl stab_n hb) hna hnb H1.out (by omega) (by omega))
  rintro e w_2 ⟨rfl, hb_2⟩
  clear hb
  replace hs := hs.bl hb_2
  refine hK _ _ rfl trivial ?_
  clear hK K
  refine sq ?_
  refine .mv ?_
  refine sq ?_
  refine .r0 ?_
  refine sq ?_
  refine .r0 ?_
  refine sq ?_
  refine .mv ?_
  refine sq ?_
  refine .mv ?_
  apply wpSq_end
  refine hK4 _ _ ?_
  refine wp_seq_k ?_
  intro K5 hK5
  refine rg [0, 1, 2, 3, 4, 5, 6, 7] ?_
  refine sq ?_
  refine .mv ?_
  refine sq ?_
  refine .mv ?_
  refine sq ?_
  intro K hK
  have hb := hs.b
  go_big_op
  go_fit (lMul (HB.out.bl stab_n hb) (HC.out.bl stab_n hb) hnb hnc H2.out (by decide) (by decide))
  rintro e w_3 ⟨o_Q, c_Q, rfl, m_Q, hb_3⟩
  clear hb
  replace hs := hs.bl hb_3
  refine hK _ _ rfl trivial ?_
  clear hK K
  refine sq ?_
  refine .mv ?_
  refine sq ?_
  refine .r0 ?_
  refine sq ?_
  refine .r0 ?_
  refine sq ?_
  refine .mv ?_
  refine sq ?_
  refine .mv ?_
  apply wpSq_end
  refine hK5 _ _ ?_
  refine wp_seq_k ?_
  intro K6 hK6
  refine wp_seq_k ?_
  intro K7 hK7
  refine rg [0, 1, 2, 3, 4, 5] ?_
  refine sq ?_
  refine .mv ?_
  refine sq ?_
  refine .r0 ?_
  refine sq ?_
  refine .mv ?_
  refine sk ?_
  refine sk ?_
  refine sq ?_
  refine .r0 ?_
  apply wpSq_end
  refine hK7 _ _ ?_
  refine cf ?_
  refine wp_skip ?_
  refine hK6 _ _ ?_
  refine wp_seq_k ?_
  intro K8 hK8
  refine wp_seq_k ?_
  intro K9 hK9
  refine rg [0, 1, 2, 3, 4, 5, 6, 7, 8, 9, 10, 11, 12, 13, 14, 15, 16, 17, 18] ?_
  refine sq ?_
  refine .mv ?_
  refine sq ?_
  refine .r0 ?_
  refine sq ?_
  refine .mv ?_
  refine sk ?_
  refine sk ?_
  refine sk ?_
  refine sq ?_
  refine .r0 ?_
  refine sq ?_
  refine .mv ?_
  refine sk ?_
  refine sk ?_
  refine sk ?_
  refine sq ?_
  refine .r0 ?_
  refine sq ?_
  refine .mv ?_
  refine sk ?_
  refine sk ?_
  refine sk ?_
  refine sk ?_
  refine sk ?_
  refine sq ?_
  refine .r0 ?_
  apply wpSq_end
  refine hK9 _ _ ?_
  refine cf ?_
  refine wp_skip ?_
  refine hK8 _ _ ?_
  refine wp_seq_k ?_
  intro K10 hK10
  refine rg [0, 1, 2, 3, 4, 5, 6] ?_
  refine sq ?_
  refine .mv ?_
  refine sq ?_
  intro K hK
  have hb := hs.b
  go_big_op
  go_fit (lGram (HA.out.bl stab_n hb) hna HG.out (by decide))
  rintro e w_4 ⟨o_G, c_G, rfl, m_G, hb_4⟩
  clear hb
  replace hs := hs.bl hb_4
  refine hK _ _ rfl trivial ?_
  clear hK K
  refine sq ?_
  refine .mv ?_
  refine sq ?_
  refine .r0 ?_
  refine sq ?_
  refine .r0 ?_
  refine sq ?_
  refine .mv ?_
  refine sq ?_
  refine .mv ?_
  apply wpSq_end
  refine hK10 _ _ ?_
  refine wp_seq_k ?_
  intro K11 hK11
  refine wp_seq_k ?_
  intro K12 hK12
  refine rg [0, 1] ?_
  refine sq ?_
  refine .mv ?_
  refine sq ?_
  refine .r0 ?_
  apply wpSq_end
  refine hK12 _ _ ?_
  refine ct ?_
  refine wp_seq_k ?_
  intro K13 hK13
  refine rg [0, 1, 2, 3, 4, 5, 6] ?_
  refine sq ?_
  refine .mv ?_
  refine sq ?_
  intro K hK
  go_big_op
  go_fit (lAdj (m_G.mn BG.out) LG.out (gd_gram HG.out) (by decide) WG.out)
  rintro e w_5 ⟨o_L, c_L, rfl, m_L, hb_5⟩
  replace m_G := m_G.bl hb_5; replace hs := hs.bl hb_5
  rw [adj_gram] at m_L
  refine hK _ _ rfl trivial ?_
  clear hK K
  refine sq ?_
  refine .mv ?_
  refine sq ?_
  refine .r0 ?_
  refine sq ?_
  refine .r0 ?_
  refine sq ?_
  refine .mv ?_
  refine sq ?_
  refine .mv ?_
  apply wpSq_end
  refine hK13 _ _ ?_
  refine wp_seq_k ?_
  intro K14 hK14
  refine rg [0, 1, 2, 3, 4, 5, 6, 7] ?_
  refine sq ?_
  refine .mv ?_
  refine sq ?_
  refine .r0 ?_
  refine sq ?_
  refine .mv ?_
  refine sq ?_
  refine .mv ?_
  refine sq ?_
  refine .mv ?_
  refine sq ?_
  intro K hK
  go_big_op
  go_fit (msame_any m_G (m_L.mn BG.out) LG.out (by omega) (gd_rl (gd_gram HG.out)) (by decide))
  rintro e w_6 ⟨rfl, hb_6⟩
  replace m_G := m_G.bl hb_6; replace m_L := m_L.bl hb_6; replace hs := hs.bl hb_6
  refine hK _ _ rfl trivial ?_
  clear hK K
  refine sq ?_
  refine .r0 ?_
  refine sq ?_
  refine .r0 ?_
  apply wpSq_end
  refine hK14 _ _ ?_
  refine cf ?_
  refine wp_skip ?_
  refine hK11 _ _ ?_
  refine wp_seq_k ?_
  intro K15 hK15
  refine rg [0, 1, 2, 3, 4, 5, 6, 7, 8] ?_
  refine sq ?_
  refine .mv ?_
  refine sq ?_
  refine .mv ?_
  refine sq ?_
  intro K hK
  have hb := hs.b
  go_big_op
  go_fit (lDot HD.out (HV.out.bl stab_n hb) hnv (by omega) (by decide))
  rintro e w_7 ⟨_, rfl, ⟨n_da, o_da, k_da, c_da, n_db, o_db, k_db, c_db, rfl, d1, d2⟩, hb_7⟩
  clear hb
  replace hs := hs.bl hb_7
  have Ld1 := hide (d1.lenOf (lD.out))
  refine hK _ _ rfl trivial ?_
  clear hK K
  refine sq ?_
  refine .mv ?_
  refine sq ?_
  refine .r0 ?_
  refine sq ?_
  refine .r0 ?_
  refine sq ?_
  refine .al hs ?_; clear hs; intro p_b1 w_8 hs n8 kb_b1
  refine sq ?_
  refine .s4 hs.g0 (fun _ => hs.u0 kb_b1) ?_; clear hs; intro w_9 hs hd9 ho9
  refine sq ?_
  refine .mv ?_
  apply wpSq_end
  refine hK15 _ _ ?_
  refine wp_seq_k ?_
  intro K16 hK16
  refine wp_region_f4 [(0, false), (1, false), (2, false), (3, false), (4, false), (5, false), (6, true), (7, true), (8, false), (9, false), (10, false), (11, false), (12, true), (13, false), (14, false), (15, false)] [] [] (fun _ => default) [99, 99, 99, 99, 0, 99, 99, 99, 99, 99, 99, 0, 99, 99, 99, 99] [] (.c hs.g0 .n) fn fun w_10 n10 => ?_
  replace hs := hs.bl n10
  refine fmv ?_
  refine f0 ?_
  refine fmv ?_
  refine f0 ?_
  refine f4 ?_
  refine fmv ?_
  refine fl fun w_11 n11 => ?_
  replace hs := hs.bl n11
  intro K hK
  have hb := hs.b
  go_big_op
  go_fit (lLen HD.out (HV.out.bl stab_n hb) hnv (by omega) (by decide))
  rintro e w_12 ⟨v_z, rfl, z, hb_12⟩
  clear hb
  replace hs := hs.bl hb_12
  obtain ⟨n_z, o_z, k_z, c_z, rfl⟩ := z.open2
  have Lz := hide (z.lenOf (lD.out))
  refine hK _ _ rfl ⟨hb_12, (And.intro hs.g0 trivial)⟩ ?_
  clear hK K
  refine fl fun w_13 n13 => ?_
  replace hs := hs.bl n13
  intro K hK
  have k7_13 := (((((kb n8).o hd9 ho9).b n10).b n11).b hb_12).b n13
  replace d1 := d1.k k7_13
  have k12_13 := kb n13
  replace z := z.k k12_13
  go_big_op
  go_fit (rsame_zz d1 (z.zn lD.out) (by decide))
  rintro e w_14 ⟨rfl, hb_14⟩
  replace hs := hs.bl hb_14
  refine hK _ _ rfl ⟨hb_14, (And.intro hs.g0 trivial)⟩ ?_
  clear hK K
  refine f0 ?_
  refine fmv ?_
  refine f0 ?_
  refine f4 ?_
  refine fl fun w_15 n15 => ?_
  replace hs := hs.bl n15
  intro K hK
  have k7_15 := (k7_13.b hb_14).b n15
  replace d2 := d2.k k7_15
  go_big_op
  go_fit (rsign0 d2)
  rintro e w_16 ⟨rfl, hb_16⟩
  replace hs := hs.bl hb_16
  refine hK _ _ rfl ⟨hb_16, (And.intro hs.g0 trivial)⟩ ?_
  clear hK K
  refine f0 ?_
  refine f0 ?_
  refine fmv ?_
  refine e0 hs ?_; clear hs; intro w_17 hs n17
  apply wpTail_end
  refine hK16 _ _ ?_
  refine wp_ret ?_
  try dsimp only [Exit.then, Exit.inBlock]
  refine bodyPost_ret (v := (.bool true)) (by simp [results, Try.results7, go_sem]) rfl ?_
  exact ⟨rfl, hs.b⟩
set_option maxHeartbeats 4000000 in
set_option maxRecDepth 20000 in
theorem along_n1h (ha : MN 1048576 w oa A) (hb' : MN 1048576 w ob B) (hc : MN 1048576 w oc C) (hv : SN 1048576 w ov V) (hna : A.length = na) (hnb : B.length = nb) (hnc : C.length = nc) (hnv : V.length = nv) (la : na ≤ 1048576) (lb : nb ≤ 1048576) (lc : nc ≤ 1048576) (lv : nv ≤ 1048576) (h1 : ¬ ml2 A B) (h2 : ml2 B C) (h4 : ¬ gd A) :
    Calls Try.prog 7 #[.slice oa na ca, .slice ob nb cb, .slice oc nc cc, .slice ov nv cv] w fun e w' => e = .returned (.bool true) ∧ Below w.heap.size w w' := by
  obtain ⟨D, hD⟩ : ∃ D, D = lenS nv fun i => nP (at1 V i) := ⟨_, rfl⟩
  have lD := hide (show (dig D.natAbs).length ≤ 50000000 by rw [hD]; exact bd_len hv hnv (by omega) (by decide))
  have HD := hide hD
  have HA := hide ha
  have HB := hide hb'
  have HC := hide hc
  have HV := hide hv
  clear ha hb' hc hv hD
  have H1 := hide h1
  have H2 := hide h2
  have HG := hide h4
  clear h1 h2 h4
  go_enter Try.func7, Try.ntmps7
  have hs := St.nil w
  refine wp_seq_k ?_
  intro K1 hK1
  refine rg [0] ?_
  refine sq ?_
  refine .mv ?_
  apply wpSq_end
  refine hK1 _ _ ?_
  refine wp_seq_k ?_
  intro K2 hK2
  refine wp_seq_k ?_
  intro K3 hK3
  refine rg [0, 1] ?_
  refine sq ?_
  intro K hK
  go_big_op
  go_fit (awake8_any _)
  rintro e w_1 ⟨rfl, hb_1⟩
  replace hs := hs.bl hb_1
  refine hK _ _ rfl trivial ?_
  clear hK K
  refine sq ?_
  refine .r0 ?_
  apply wpSq_end
  refine hK3 _ _ ?_
  refine cf ?_
  refine wp_skip ?_
  refine hK2 _ _ ?_
  refine wp_seq_k ?_
  intro K4 hK4
  refine rg [0, 1, 2, 3, 4, 5, 6, 7] ?_
  refine sq ?_
  refine .mv ?_
  refine sq ?_
  refine .mv ?_
  refine sq ?_
  intro K hK
  have hb := hs.b
  go_big_op
  go_fit (mMul_bad (HA.out.bl stab_n hb) (HB.out.bl stab_n hb) hna hnb H1.out (by omega) (by omega))
  rintro e w_2 ⟨rfl, hb_2⟩
  clear hb
  replace hs := hs.bl hb_2
  refine hK _ _ rfl trivial ?_
  clear hK K
  refine sq ?_
  refine .mv ?_
  refine sq ?_
  refine .r0 ?_
  refine sq ?_
  refine .r0 ?_
  refine sq ?_
  refine .mv ?_
  refine sq ?_
  refine .mv ?_
  apply wpSq_end
  refine hK4 _ _ ?_
  refine wp_seq_k ?_
  intro K5 hK5
  refine rg [0, 1, 2, 3, 4, 5, 6, 7] ?_
  refine sq ?_
  refine .mv ?_
  refine sq ?_
  refine .mv ?_
  refine sq ?_
  intro K hK
  have hb := hs.b
  go_big_op
  go_fit (lMul (HB.out.bl stab_n hb) (HC.out.bl stab_n hb) hnb hnc H2.out (by decide) (by decide))
  rintro e w_3 ⟨o_Q, c_Q, rfl, m_Q, hb_3⟩
  clear hb
  replace hs := hs.bl hb_3
  refine hK _ _ rfl trivial ?_
  clear hK K
  refine sq ?_
  refine .mv ?_
  refine sq ?_
  refine .r0 ?_
  refine sq ?_
  refine .r0 ?_
  refine sq ?_
  refine .mv ?_
  refine sq ?_
  refine .mv ?_
  apply wpSq_end
  refine hK5 _ _ ?_
  refine wp_seq_k ?_
  intro K6 hK6
  refine wp_seq_k ?_
  intro K7 hK7
  refine rg [0, 1, 2, 3, 4, 5] ?_
  refine sq ?_
  refine .mv ?_
  refine sq ?_
  refine .r0 ?_
  refine sq ?_
  refine .mv ?_
  refine sk ?_
  refine sk ?_
  refine sq ?_
  refine .r0 ?_
  apply wpSq_end
  refine hK7 _ _ ?_
  refine cf ?_
  refine wp_skip ?_
  refine hK6 _ _ ?_
  refine wp_seq_k ?_
  intro K8 hK8
  refine wp_seq_k ?_
  intro K9 hK9
  refine rg [0, 1, 2, 3, 4, 5, 6, 7, 8, 9, 10, 11, 12, 13, 14, 15, 16, 17, 18] ?_
  refine sq ?_
  refine .mv ?_
  refine sq ?_
  refine .r0 ?_
  refine sq ?_
  refine .mv ?_
  refine sk ?_
  refine sk ?_
  refine sk ?_
  refine sq ?_
  refine .r0 ?_
  refine sq ?_
  refine .mv ?_
  refine sk ?_
  refine sk ?_
  refine sk ?_
  refine sq ?_
  refine .r0 ?_
  refine sq ?_
  refine .mv ?_
  refine sk ?_
  refine sk ?_
  refine sk ?_
  refine sk ?_
  refine sk ?_
  refine sq ?_
  refine .r0 ?_
  apply wpSq_end
  refine hK9 _ _ ?_
  refine cf ?_
  refine wp_skip ?_
  refine hK8 _ _ ?_
  refine wp_seq_k ?_
  intro K10 hK10
  refine rg [0, 1, 2, 3, 4, 5, 6] ?_
  refine sq ?_
  refine .mv ?_
  refine sq ?_
  intro K hK
  have hb := hs.b
  go_big_op
  go_fit (mGram_bad (HA.out.bl stab_n hb) hna HG.out (by omega))
  rintro e w_4 ⟨rfl, hb_4⟩
  clear hb
  replace hs := hs.bl hb_4
  refine hK _ _ rfl trivial ?_
  clear hK K
  refine sq ?_
  refine .mv ?_
  refine sq ?_
  refine .r0 ?_
  refine sq ?_
  refine .r0 ?_
  refine sq ?_
  refine .mv ?_
  refine sq ?_
  refine .mv ?_
  apply wpSq_end
  refine hK10 _ _ ?_
  refine wp_seq_k ?_
  intro K11 hK11
  refine wp_seq_k ?_
  intro K12 hK12
  refine rg [0, 1] ?_
  refine sq ?_
  refine .mv ?_
  refine sq ?_
  refine .r0 ?_
  apply wpSq_end
  refine hK12 _ _ ?_
  refine cf ?_
  refine wp_skip ?_
  refine hK11 _ _ ?_
  refine wp_seq_k ?_
  intro K13 hK13
  refine rg [0, 1, 2, 3, 4, 5, 6, 7, 8] ?_
  refine sq ?_
  refine .mv ?_
  refine sq ?_
  refine .mv ?_
  refine sq ?_
  intro K hK
  have hb := hs.b
  go_big_op
  go_fit (lDot HD.out (HV.out.bl stab_n hb) hnv (by omega) (by decide))
  rintro e w_5 ⟨_, rfl, ⟨n_da, o_da, k_da, c_da, n_db, o_db, k_db, c_db, rfl, d1, d2⟩, hb_5⟩
  clear hb
  replace hs := hs.bl hb_5
  have Ld1 := hide (d1.lenOf (lD.out))
  refine hK _ _ rfl trivial ?_
  clear hK K
  refine sq ?_
  refine .mv ?_
  refine sq ?_
  refine .r0 ?_
  refine sq ?_
  refine .r0 ?_
  refine sq ?_
  refine .al hs ?_; clear hs; intro p_b1 w_6 hs n6 kb_b1
  refine sq ?_
  refine .s4 hs.g0 (fun _ => hs.u0 kb_b1) ?_; clear hs; intro w_7 hs hd7 ho7
  refine sq ?_
  refine .mv ?_
  apply wpSq_end
  refine hK13 _ _ ?_
  refine wp_seq_k ?_
  intro K14 hK14
  refine wp_region_f4 [(0, false), (1, false), (2, false), (3, false), (4, false), (5, false), (6, true), (7, true), (8, false), (9, false), (10, false), (11, false), (12, true), (13, false), (14, false), (15, false)] [] [] (fun _ => default) [99, 99, 99, 99, 0, 99, 99, 99, 99, 99, 99, 0, 99, 99, 99, 99] [] (.c hs.g0 .n) fn fun w_8 n8 => ?_
  replace hs := hs.bl n8
  refine fmv ?_
  refine f0 ?_
  refine fmv ?_
  refine f0 ?_
  refine f4 ?_
  refine fmv ?_
  refine fl fun w_9 n9 => ?_
  replace hs := hs.bl n9
  intro K hK
  have hb := hs.b
  go_big_op
  go_fit (lLen HD.out (HV.out.bl stab_n hb) hnv (by omega) (by decide))
  rintro e w_10 ⟨v_z, rfl, z, hb_10⟩
  clear hb
  replace hs := hs.bl hb_10
  obtain ⟨n_z, o_z, k_z, c_z, rfl⟩ := z.open2
  have Lz := hide (z.lenOf (lD.out))
  refine hK _ _ rfl ⟨hb_10, (And.intro hs.g0 trivial)⟩ ?_
  clear hK K
  refine fl fun w_11 n11 => ?_
  replace hs := hs.bl n11
  intro K hK
  have k5_11 := (((((kb n6).o hd7 ho7).b n8).b n9).b hb_10).b n11
  replace d1 := d1.k k5_11
  have k10_11 := kb n11
  replace z := z.k k10_11
  go_big_op
  go_fit (rsame_zz d1 (z.zn lD.out) (by decide))
  rintro e w_12 ⟨rfl, hb_12⟩
  replace hs := hs.bl hb_12
  refine hK _ _ rfl ⟨hb_12, (And.intro hs.g0 trivial)⟩ ?_
  clear hK K
  refine f0 ?_
  refine fmv ?_
  refine f0 ?_
  refine f4 ?_
  refine fl fun w_13 n13 => ?_
  replace hs := hs.bl n13
  intro K hK
  have k5_13 := (k5_11.b hb_12).b n13
  replace d2 := d2.k k5_13
  go_big_op
  go_fit (rsign0 d2)
  rintro e w_14 ⟨rfl, hb_14⟩
  replace hs := hs.bl hb_14
  refine hK _ _ rfl ⟨hb_14, (And.intro hs.g0 trivial)⟩ ?_
  clear hK K
  refine f0 ?_
  refine f0 ?_
  refine fmv ?_
  refine e0 hs ?_; clear hs; intro w_15 hs n15
  apply wpTail_end
  refine hK14 _ _ ?_
  refine wp_ret ?_
  try dsimp only [Exit.then, Exit.inBlock]
  refine bodyPost_ret (v := (.bool true)) (by simp [results, Try.results7, go_sem]) rfl ?_
  exact ⟨rfl, hs.b⟩
set_option maxHeartbeats 4000000 in
set_option maxRecDepth 20000 in
theorem along_n0g (ha : MN 1048576 w oa A) (hb' : MN 1048576 w ob B) (hc : MN 1048576 w oc C) (hv : SN 1048576 w ov V) (hna : A.length = na) (hnb : B.length = nb) (hnc : C.length = nc) (hnv : V.length = nv) (la : na ≤ 1048576) (lb : nb ≤ 1048576) (lc : nc ≤ 1048576) (lv : nv ≤ 1048576) (h1 : ¬ ml2 A B) (h2 : ¬ ml2 B C) (h4 : gd A) :
    Calls Try.prog 7 #[.slice oa na ca, .slice ob nb cb, .slice oc nc cc, .slice ov nv cv] w fun e w' => e = .returned (.bool true) ∧ Below w.heap.size w w' := by
  have BG := hide (show BdM 3000000 (gramM A) from bdM_up (bd_gramM ha.bd) (by have := h4.2.1; omega))
  have LG := hide (show (gramM A).length = na from len_gram.trans hna)
  have WG := hide (show wd (gramM A) = na from wd_gram.trans hna)
  obtain ⟨D, hD⟩ : ∃ D, D = lenS nv fun i => nP (at1 V i) := ⟨_, rfl⟩
  have lD := hide (show (dig D.natAbs).length ≤ 50000000 by rw [hD]; exact bd_len hv hnv (by omega) (by decide))
  have HD := hide hD
  have HA := hide ha
  have HB := hide hb'
  have HC := hide hc
  have HV := hide hv
  clear ha hb' hc hv hD
  have H1 := hide h1
  have H2 := hide h2
  have HG := hide h4
  clear h1 h2 h4
  go_enter Try.func7, Try.ntmps7
  have hs := St.nil w
  refine wp_seq_k ?_
  intro K1 hK1
  refine rg [0] ?_
  refine sq ?_
  refine .mv ?_
  apply wpSq_end
  refine hK1 _ _ ?_
  refine wp_seq_k ?_
  intro K2 hK2
  refine wp_seq_k ?_
  intro K3 hK3
  refine rg [0, 1] ?_
  refine sq ?_
  intro K hK
  go_big_op
  go_fit (awake8_any _)
  rintro e w_1 ⟨rfl, hb_1⟩
  replace hs := hs.bl hb_1
  refine hK _ _ rfl trivial ?_
  clear hK K
  refine sq ?_
  refine .r0 ?_
  apply wpSq_end
  refine hK3 _ _ ?_
  refine cf ?_
  refine wp_skip ?_
  refine hK2 _ _ ?_
  refine wp_seq_k ?_
  intro K4 hK4
  refine rg [0, 1, 2, 3, 4, 5, 6, 7] ?_
  refine sq ?_
  refine .mv ?_
  refine sq ?_
  refine .mv ?_
  refine sq ?_
  intro K hK
  have hb := hs.b
  go_big_op
  go_fit (mMul_bad (HA.out.bl stab_n hb) (HB.out.bl stab_n hb) hna hnb H1.out (by omega) (by omega))
  rintro e w_2 ⟨rfl, hb_2⟩
  clear hb
  replace hs := hs.bl hb_2
  refine hK _ _ rfl trivial ?_
  clear hK K
  refine sq ?_
  refine .mv ?_
  refine sq ?_
  refine .r0 ?_
  refine sq ?_
  refine .r0 ?_
  refine sq ?_
  refine .mv ?_
  refine sq ?_
  refine .mv ?_
  apply wpSq_end
  refine hK4 _ _ ?_
  refine wp_seq_k ?_
  intro K5 hK5
  refine rg [0, 1, 2, 3, 4, 5, 6, 7] ?_
  refine sq ?_
  refine .mv ?_
  refine sq ?_
  refine .mv ?_
  refine sq ?_
  intro K hK
  have hb := hs.b
  go_big_op
  go_fit (mMul_bad (HB.out.bl stab_n hb) (HC.out.bl stab_n hb) hnb hnc H2.out (by omega) (by omega))
  rintro e w_3 ⟨rfl, hb_3⟩
  clear hb
  replace hs := hs.bl hb_3
  refine hK _ _ rfl trivial ?_
  clear hK K
  refine sq ?_
  refine .mv ?_
  refine sq ?_
  refine .r0 ?_
  refine sq ?_
  refine .r0 ?_
  refine sq ?_
  refine .mv ?_
  refine sq ?_
  refine .mv ?_
  apply wpSq_end
  refine hK5 _ _ ?_
  refine wp_seq_k ?_
  intro K6 hK6
  refine wp_seq_k ?_
  intro K7 hK7
  refine rg [0, 1, 2, 3, 4, 5] ?_
  refine sq ?_
  refine .mv ?_
  refine sq ?_
  refine .r0 ?_
  refine sq ?_
  refine .mv ?_
  refine sk ?_
  refine sk ?_
  refine sq ?_
  refine .r0 ?_
  apply wpSq_end
  refine hK7 _ _ ?_
  refine cf ?_
  refine wp_skip ?_
  refine hK6 _ _ ?_
  refine wp_seq_k ?_
  intro K8 hK8
  refine wp_seq_k ?_
  intro K9 hK9
  refine rg [0, 1, 2, 3, 4, 5, 6, 7, 8, 9, 10, 11, 12, 13, 14, 15, 16, 17, 18] ?_
  refine sq ?_
  refine .mv ?_
  refine sq ?_
  refine .r0 ?_
  refine sq ?_
  refine .mv ?_
  refine sk ?_
  refine sk ?_
  refine sk ?_
  refine sq ?_
  refine .r0 ?_
  refine sq ?_
  refine .mv ?_
  refine sk ?_
  refine sk ?_
  refine sk ?_
  refine sq ?_
  refine .r0 ?_
  refine sq ?_
  refine .mv ?_
  refine sk ?_
  refine sk ?_
  refine sk ?_
  refine sk ?_
  refine sk ?_
  refine sq ?_
  refine .r0 ?_
  apply wpSq_end
  refine hK9 _ _ ?_
  refine cf ?_
  refine wp_skip ?_
  refine hK8 _ _ ?_
  refine wp_seq_k ?_
  intro K10 hK10
  refine rg [0, 1, 2, 3, 4, 5, 6] ?_
  refine sq ?_
  refine .mv ?_
  refine sq ?_
  intro K hK
  have hb := hs.b
  go_big_op
  go_fit (lGram (HA.out.bl stab_n hb) hna HG.out (by decide))
  rintro e w_4 ⟨o_G, c_G, rfl, m_G, hb_4⟩
  clear hb
  replace hs := hs.bl hb_4
  refine hK _ _ rfl trivial ?_
  clear hK K
  refine sq ?_
  refine .mv ?_
  refine sq ?_
  refine .r0 ?_
  refine sq ?_
  refine .r0 ?_
  refine sq ?_
  refine .mv ?_
  refine sq ?_
  refine .mv ?_
  apply wpSq_end
  refine hK10 _ _ ?_
  refine wp_seq_k ?_
  intro K11 hK11
  refine wp_seq_k ?_
  intro K12 hK12
  refine rg [0, 1] ?_
  refine sq ?_
  refine .mv ?_
  refine sq ?_
  refine .r0 ?_
  apply wpSq_end
  refine hK12 _ _ ?_
  refine ct ?_
  refine wp_seq_k ?_
  intro K13 hK13
  refine rg [0, 1, 2, 3, 4, 5, 6] ?_
  refine sq ?_
  refine .mv ?_
  refine sq ?_
  intro K hK
  go_big_op
  go_fit (lAdj (m_G.mn BG.out) LG.out (gd_gram HG.out) (by decide) WG.out)
  rintro e w_5 ⟨o_L, c_L, rfl, m_L, hb_5⟩
  replace m_G := m_G.bl hb_5; replace hs := hs.bl hb_5
  rw [adj_gram] at m_L
  refine hK _ _ rfl trivial ?_
  clear hK K
  refine sq ?_
  refine .mv ?_
  refine sq ?_
  refine .r0 ?_
  refine sq ?_
  refine .r0 ?_
  refine sq ?_
  refine .mv ?_
  refine sq ?_
  refine .mv ?_
  apply wpSq_end
  refine hK13 _ _ ?_
  refine wp_seq_k ?_
  intro K14 hK14
  refine rg [0, 1, 2, 3, 4, 5, 6, 7] ?_
  refine sq ?_
  refine .mv ?_
  refine sq ?_
  refine .r0 ?_
  refine sq ?_
  refine .mv ?_
  refine sq ?_
  refine .mv ?_
  refine sq ?_
  refine .mv ?_
  refine sq ?_
  intro K hK
  go_big_op
  go_fit (msame_any m_G (m_L.mn BG.out) LG.out (by omega) (gd_rl (gd_gram HG.out)) (by decide))
  rintro e w_6 ⟨rfl, hb_6⟩
  replace m_G := m_G.bl hb_6; replace m_L := m_L.bl hb_6; replace hs := hs.bl hb_6
  refine hK _ _ rfl trivial ?_
  clear hK K
  refine sq ?_
  refine .r0 ?_
  refine sq ?_
  refine .r0 ?_
  apply wpSq_end
  refine hK14 _ _ ?_
  refine cf ?_
  refine wp_skip ?_
  refine hK11 _ _ ?_
  refine wp_seq_k ?_
  intro K15 hK15
  refine rg [0, 1, 2, 3, 4, 5, 6, 7, 8] ?_
  refine sq ?_
  refine .mv ?_
  refine sq ?_
  refine .mv ?_
  refine sq ?_
  intro K hK
  have hb := hs.b
  go_big_op
  go_fit (lDot HD.out (HV.out.bl stab_n hb) hnv (by omega) (by decide))
  rintro e w_7 ⟨_, rfl, ⟨n_da, o_da, k_da, c_da, n_db, o_db, k_db, c_db, rfl, d1, d2⟩, hb_7⟩
  clear hb
  replace hs := hs.bl hb_7
  have Ld1 := hide (d1.lenOf (lD.out))
  refine hK _ _ rfl trivial ?_
  clear hK K
  refine sq ?_
  refine .mv ?_
  refine sq ?_
  refine .r0 ?_
  refine sq ?_
  refine .r0 ?_
  refine sq ?_
  refine .al hs ?_; clear hs; intro p_b1 w_8 hs n8 kb_b1
  refine sq ?_
  refine .s4 hs.g0 (fun _ => hs.u0 kb_b1) ?_; clear hs; intro w_9 hs hd9 ho9
  refine sq ?_
  refine .mv ?_
  apply wpSq_end
  refine hK15 _ _ ?_
  refine wp_seq_k ?_
  intro K16 hK16
  refine wp_region_f4 [(0, false), (1, false), (2, false), (3, false), (4, false), (5, false), (6, true), (7, true), (8, false), (9, false), (10, false), (11, false), (12, true), (13, false), (14, false), (15, false)] [] [] (fun _ => default) [99, 99, 99, 99, 0, 99, 99, 99, 99, 99, 99, 0, 99, 99, 99, 99] [] (.c hs.g0 .n) fn fun w_10 n10 => ?_
  replace hs := hs.bl n10
  refine fmv ?_
  refine f0 ?_
  refine fmv ?_
  refine f0 ?_
  refine f4 ?_
  refine fmv ?_
  refine fl fun w_11 n11 => ?_
  replace hs := hs.bl n11
  intro K hK
  have hb := hs.b
  go_big_op
  go_fit (lLen HD.out (HV.out.bl stab_n hb) hnv (by omega) (by decide))
  rintro e w_12 ⟨v_z, rfl, z, hb_12⟩
  clear hb
  replace hs := hs.bl hb_12
  obtain ⟨n_z, o_z, k_z, c_z, rfl⟩ := z.open2
  have Lz := hide (z.lenOf (lD.out))
  refine hK _ _ rfl ⟨hb_12, (And.intro hs.g0 trivial)⟩ ?_
  clear hK K
  refine fl fun w_13 n13 => ?_
  replace hs := hs.bl n13
  intro K hK
  have k7_13 := (((((kb n8).o hd9 ho9).b n10).b n11).b hb_12).b n13
  replace d1 := d1.k k7_13
  have k12_13 := kb n13
  replace z := z.k k12_13
  go_big_op
  go_fit (rsame_zz d1 (z.zn lD.out) (by decide))
  rintro e w_14 ⟨rfl, hb_14⟩
  replace hs := hs.bl hb_14
  refine hK _ _ rfl ⟨hb_14, (And.intro hs.g0 trivial)⟩ ?_
  clear hK K
  refine f0 ?_
  refine fmv ?_
  refine f0 ?_
  refine f4 ?_
  refine fl fun w_15 n15 => ?_
  replace hs := hs.bl n15
  intro K hK
  have k7_15 := (k7_13.b hb_14).b n15
  replace d2 := d2.k k7_15
  go_big_op
  go_fit (rsign0 d2)
  rintro e w_16 ⟨rfl, hb_16⟩
  replace hs := hs.bl hb_16
  refine hK _ _ rfl ⟨hb_16, (And.intro hs.g0 trivial)⟩ ?_
  clear hK K
  refine f0 ?_
  refine f0 ?_
  refine fmv ?_
  refine e0 hs ?_; clear hs; intro w_17 hs n17
  apply wpTail_end
  refine hK16 _ _ ?_
  refine wp_ret ?_
  try dsimp only [Exit.then, Exit.inBlock]
  refine bodyPost_ret (v := (.bool true)) (by simp [results, Try.results7, go_sem]) rfl ?_
  exact ⟨rfl, hs.b⟩
set_option maxHeartbeats 4000000 in
set_option maxRecDepth 20000 in
theorem along_n0h (ha : MN 1048576 w oa A) (hb' : MN 1048576 w ob B) (hc : MN 1048576 w oc C) (hv : SN 1048576 w ov V) (hna : A.length = na) (hnb : B.length = nb) (hnc : C.length = nc) (hnv : V.length = nv) (la : na ≤ 1048576) (lb : nb ≤ 1048576) (lc : nc ≤ 1048576) (lv : nv ≤ 1048576) (h1 : ¬ ml2 A B) (h2 : ¬ ml2 B C) (h4 : ¬ gd A) :
    Calls Try.prog 7 #[.slice oa na ca, .slice ob nb cb, .slice oc nc cc, .slice ov nv cv] w fun e w' => e = .returned (.bool true) ∧ Below w.heap.size w w' := by
  obtain ⟨D, hD⟩ : ∃ D, D = lenS nv fun i => nP (at1 V i) := ⟨_, rfl⟩
  have lD := hide (show (dig D.natAbs).length ≤ 50000000 by rw [hD]; exact bd_len hv hnv (by omega) (by decide))
  have HD := hide hD
  have HA := hide ha
  have HB := hide hb'
  have HC := hide hc
  have HV := hide hv
  clear ha hb' hc hv hD
  have H1 := hide h1
  have H2 := hide h2
  have HG := hide h4
  clear h1 h2 h4
  go_enter Try.func7, Try.ntmps7
  have hs := St.nil w
  refine wp_seq_k ?_
  intro K1 hK1
  refine rg [0] ?_
  refine sq ?_
  refine .mv ?_
  apply wpSq_end
  refine hK1 _ _ ?_
  refine wp_seq_k ?_
  intro K2 hK2
  refine wp_seq_k ?_
  intro K3 hK3
  refine rg [0, 1] ?_
  refine sq ?_
  intro K hK
  go_big_op
  go_fit (awake8_any _)
  rintro e w_1 ⟨rfl, hb_1⟩
  replace hs := hs.bl hb_1
  refine hK _ _ rfl trivial ?_
  clear hK K
  refine sq ?_
  refine .r0 ?_
  apply wpSq_end
  refine hK3 _ _ ?_
  refine cf ?_
  refine wp_skip ?_
  refine hK2 _ _ ?_
  refine wp_seq_k ?_
  intro K4 hK4
  refine rg [0, 1, 2, 3, 4, 5, 6, 7] ?_
  refine sq ?_
  refine .mv ?_
  refine sq ?_
  refine .mv ?_
  refine sq ?_
  intro K hK
  have hb := hs.b
  go_big_op
  go_fit (mMul_bad (HA.out.bl stab_n hb) (HB.out.bl stab_n hb) hna hnb H1.out (by omega) (by omega))
  rintro e w_2 ⟨rfl, hb_2⟩
  clear hb
  replace hs := hs.bl hb_2
  refine hK _ _ rfl trivial ?_
  clear hK K
  refine sq ?_
  refine .mv ?_
  refine sq ?_
  refine .r0 ?_
  refine sq ?_
  refine .r0 ?_
  refine sq ?_
  refine .mv ?_
  refine sq ?_
  refine .mv ?_
  apply wpSq_end
  refine hK4 _ _ ?_
  refine wp_seq_k ?_
  intro K5 hK5
  refine rg [0, 1, 2, 3, 4, 5, 6, 7] ?_
  refine sq ?_
  refine .mv ?_
  refine sq ?_
  refine .mv ?_
  refine sq ?_
  intro K hK
  have hb := hs.b
  go_big_op
  go_fit (mMul_bad (HB.out.bl stab_n hb) (HC.out.bl stab_n hb) hnb hnc H2.out (by omega) (by omega))
  rintro e w_3 ⟨rfl, hb_3⟩
  clear hb
  replace hs := hs.bl hb_3
  refine hK _ _ rfl trivial ?_
  clear hK K
  refine sq ?_
  refine .mv ?_
  refine sq ?_
  refine .r0 ?_
  refine sq ?_
  refine .r0 ?_
  refine sq ?_
  refine .mv ?_
  refine sq ?_
  refine .mv ?_
  apply wpSq_end
  refine hK5 _ _ ?_
  refine wp_seq_k ?_
  intro K6 hK6
  refine wp_seq_k ?_
  intro K7 hK7
  refine rg [0, 1, 2, 3, 4, 5] ?_
  refine sq ?_
  refine .mv ?_
  refine sq ?_
  refine .r0 ?_
  refine sq ?_
  refine .mv ?_
  refine sk ?_
  refine sk ?_
  refine sq ?_
  refine .r0 ?_
  apply wpSq_end
  refine hK7 _ _ ?_
  refine cf ?_
  refine wp_skip ?_
  refine hK6 _ _ ?_
  refine wp_seq_k ?_
  intro K8 hK8
  refine wp_seq_k ?_
  intro K9 hK9
  refine rg [0, 1, 2, 3, 4, 5, 6, 7, 8, 9, 10, 11, 12, 13, 14, 15, 16, 17, 18] ?_
  refine sq ?_
  refine .mv ?_
  refine sq ?_
  refine .r0 ?_
  refine sq ?_
  refine .mv ?_
  refine sk ?_
  refine sk ?_
  refine sk ?_
  refine sq ?_
  refine .r0 ?_
  refine sq ?_
  refine .mv ?_
  refine sk ?_
  refine sk ?_
  refine sk ?_
  refine sq ?_
  refine .r0 ?_
  refine sq ?_
  refine .mv ?_
  refine sk ?_
  refine sk ?_
  refine sk ?_
  refine sk ?_
  refine sk ?_
  refine sq ?_
  refine .r0 ?_
  apply wpSq_end
  refine hK9 _ _ ?_
  refine cf ?_
  refine wp_skip ?_
  refine hK8 _ _ ?_
  refine wp_seq_k ?_
  intro K10 hK10
  refine rg [0, 1, 2, 3, 4, 5, 6] ?_
  refine sq ?_
  refine .mv ?_
  refine sq ?_
  intro K hK
  have hb := hs.b
  go_big_op
  go_fit (mGram_bad (HA.out.bl stab_n hb) hna HG.out (by omega))
  rintro e w_4 ⟨rfl, hb_4⟩
  clear hb
  replace hs := hs.bl hb_4
  refine hK _ _ rfl trivial ?_
  clear hK K
  refine sq ?_
  refine .mv ?_
  refine sq ?_
  refine .r0 ?_
  refine sq ?_
  refine .r0 ?_
  refine sq ?_
  refine .mv ?_
  refine sq ?_
  refine .mv ?_
  apply wpSq_end
  refine hK10 _ _ ?_
  refine wp_seq_k ?_
  intro K11 hK11
  refine wp_seq_k ?_
  intro K12 hK12
  refine rg [0, 1] ?_
  refine sq ?_
  refine .mv ?_
  refine sq ?_
  refine .r0 ?_
  apply wpSq_end
  refine hK12 _ _ ?_
  refine cf ?_
  refine wp_skip ?_
  refine hK11 _ _ ?_
  refine wp_seq_k ?_
  intro K13 hK13
  refine rg [0, 1, 2, 3, 4, 5, 6, 7, 8] ?_
  refine sq ?_
  refine .mv ?_
  refine sq ?_
  refine .mv ?_
  refine sq ?_
  intro K hK
  have hb := hs.b
  go_big_op
  go_fit (lDot HD.out (HV.out.bl stab_n hb) hnv (by omega) (by decide))
  rintro e w_5 ⟨_, rfl, ⟨n_da, o_da, k_da, c_da, n_db, o_db, k_db, c_db, rfl, d1, d2⟩, hb_5⟩
  clear hb
  replace hs := hs.bl hb_5
  have Ld1 := hide (d1.lenOf (lD.out))
  refine hK _ _ rfl trivial ?_
  clear hK K
  refine sq ?_
  refine .mv ?_
  refine sq ?_
  refine .r0 ?_
  refine sq ?_
  refine .r0 ?_
  refine sq ?_
  refine .al hs ?_; clear hs; intro p_b1 w_6 hs n6 kb_b1
  refine sq ?_
  refine .s4 hs.g0 (fun _ => hs.u0 kb_b1) ?_; clear hs; intro w_7 hs hd7 ho7
  refine sq ?_
  refine .mv ?_
  apply wpSq_end
  refine hK13 _ _ ?_
  refine wp_seq_k ?_
  intro K14 hK14
  refine wp_region_f4 [(0, false), (1, false), (2, false), (3, false), (4, false), (5, false), (6, true), (7, true), (8, false), (9, false), (10, false), (11, false), (12, true), (13, false), (14, false), (15, false)] [] [] (fun _ => default) [99, 99, 99, 99, 0, 99, 99, 99, 99, 99, 99, 0, 99, 99, 99, 99] [] (.c hs.g0 .n) fn fun w_8 n8 => ?_
  replace hs := hs.bl n8
  refine fmv ?_
  refine f0 ?_
  refine fmv ?_
  refine f0 ?_
  refine f4 ?_
  refine fmv ?_
  refine fl fun w_9 n9 => ?_
  replace hs := hs.bl n9
  intro K hK
  have hb := hs.b
  go_big_op
  go_fit (lLen HD.out (HV.out.bl stab_n hb) hnv (by omega) (by decide))
  rintro e w_10 ⟨v_z, rfl, z, hb_10⟩
  clear hb
  replace hs := hs.bl hb_10
  obtain ⟨n_z, o_z, k_z, c_z, rfl⟩ := z.open2
  have Lz := hide (z.lenOf (lD.out))
  refine hK _ _ rfl ⟨hb_10, (And.intro hs.g0 trivial)⟩ ?_
  clear hK K
  refine fl fun w_11 n11 => ?_
  replace hs := hs.bl n11
  intro K hK
  have k5_11 := (((((kb n6).o hd7 ho7).b n8).b n9).b hb_10).b n11
  replace d1 := d1.k k5_11
  have k10_11 := kb n11
  replace z := z.k k10_11
  go_big_op
  go_fit (rsame_zz d1 (z.zn lD.out) (by decide))
  rintro e w_12 ⟨rfl, hb_12⟩
  replace hs := hs.bl hb_12
  refine hK _ _ rfl ⟨hb_12, (And.intro hs.g0 trivial)⟩ ?_
  clear hK K
  refine f0 ?_
  refine fmv ?_
  refine f0 ?_
  refine f4 ?_
  refine fl fun w_13 n13 => ?_
  replace hs := hs.bl n13
  intro K hK
  have k5_13 := (k5_11.b hb_12).b n13
  replace d2 := d2.k k5_13
  go_big_op
  go_fit (rsign0 d2)
  rintro e w_14 ⟨rfl, hb_14⟩
  replace hs := hs.bl hb_14
  refine hK _ _ rfl ⟨hb_14, (And.intro hs.g0 trivial)⟩ ?_
  clear hK K
  refine f0 ?_
  refine f0 ?_
  refine fmv ?_
  refine e0 hs ?_; clear hs; intro w_15 hs n15
  apply wpTail_end
  refine hK14 _ _ ?_
  refine wp_ret ?_
  try dsimp only [Exit.then, Exit.inBlock]
  refine bodyPost_ret (v := (.bool true)) (by simp [results, Try.results7, go_sem]) rfl ?_
  exact ⟨rfl, hs.b⟩
theorem walk_GmatAlong (w : World) (oa : Option Addr) (na ca : Nat) (A : List (List (Int × Int))) (ha : MN 1048576 w oa A) (hna : A.length = na) (la : na ≤ 1048576)
    (ob : Option Addr) (nb cb : Nat) (B : List (List (Int × Int))) (hb' : MN 1048576 w ob B) (hnb : B.length = nb) (lb : nb ≤ 1048576)
    (oc : Option Addr) (nc cc : Nat) (C : List (List (Int × Int))) (hc : MN 1048576 w oc C) (hnc : C.length = nc) (lc : nc ≤ 1048576)
    (ov : Option Addr) (nv cv : Nat) (V : List (Int × Int)) (hv : SN 1048576 w ov V) (hnv : V.length = nv) (lv : nv ≤ 1048576) :
    Calls Try.prog 7 #[.slice oa na ca, .slice ob nb cb, .slice oc nc cc, .slice ov nv cv] w fun e w' => e = .returned (.bool true) ∧ Below w.heap.size w w' := by
  by_cases h1 : ml2 A B
  · have hd : na = 0 ∨ (0 < na ∧ nb = 0) ∨ (0 < na ∧ 0 < nb ∧ wd B = 0) ∨ (0 < na ∧ 0 < nb ∧ 0 < wd B) := by omega
    by_cases h2 : ml2 B C
    · rcases hd with d | ⟨d, f⟩ | ⟨d, f, g⟩ | ⟨d, f, g⟩
      · exact along_a1 ha hb' hc hv hna hnb hnc hnv la lb lc lv h1 h2 d
      · exact along_b1 ha hb' hc hv hna hnb hnc hnv la lb lc lv h1 h2 d f
      · exact along_c1 ha hb' hc hv hna hnb hnc hnv la lb lc lv h1 h2 d f g
      · exact along_d1 ha hb' hc hv hna hnb hnc hnv la lb lc lv h1 h2 d f g
    · rcases hd with d | ⟨d, f⟩ | ⟨d, f, g⟩ | ⟨d, f, g⟩
      · exact along_a0 ha hb' hc hv hna hnb hnc hnv la lb lc lv h1 h2 d
      · exact along_b0 ha hb' hc hv hna hnb hnc hnv la lb lc lv h1 h2 d f
      · exact along_c0 ha hb' hc hv hna hnb hnc hnv la lb lc lv h1 h2 d f g
      · exact along_d0 ha hb' hc hv hna hnb hnc hnv la lb lc lv h1 h2 d f g
  · by_cases h2 : ml2 B C <;> by_cases h4 : gd A
    · exact along_n1g ha hb' hc hv hna hnb hnc hnv la lb lc lv h1 h2 h4
    · exact along_n1h ha hb' hc hv hna hnb hnc hnv la lb lc lv h1 h2 h4
    · exact along_n0g ha hb' hc hv hna hnb hnc hnv la lb lc lv h1 h2 h4
    · exact along_n0h ha hb' hc hv hna hnb hnc hnv la lb lc lv h1 h2 h4
end
end Go.Proofs.Ytajmgjgobgchjaa

