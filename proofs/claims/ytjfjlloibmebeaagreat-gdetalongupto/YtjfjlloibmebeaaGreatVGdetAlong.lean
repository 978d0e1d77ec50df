/- The walk of GdetAlong. -/
import Derived.Test.YtjfjlloibmebeaaGreatB2ToE13
import Derived.Test.YtjfjlloibmebeaaGreatT1ToI7
import Derived.Test.YtjfjlloibmebeaaGreatE14ToRt
namespace Go.Proofs.YtjfjlloibmebeaaGreat
open Go Go.RowKit Dig
set_option linter.unusedVariables false
set_option linter.unusedSimpArgs false
theorem mxmt {K n : Nat} {a : Array Value} {w : World} {v : Value} {M : List (List (Int × Int))} (h : Calls Tryz.prog K a w fun e w' => ∃ o c rs, e = .returned (.tuple #[.slice o n c, v]) ∧ rs.length = n ∧ St w (Mx w.heap.size (.slice o n c) rs) w' ∧ RD w' rs M ∧ Below w.heap.size w w') :
    Calls Tryz.prog K a w fun e w' => ∃ o c, e = .returned (.tuple #[.slice o n c, v]) ∧ MC w' o M ∧ Below w.heap.size w w' :=
  Calls.mono h fun e w' ⟨o, c, rs, h1, h2, h3, h4, h5⟩ => ⟨o, c, h1, Mx.mc0 h3 h2 h4, h5⟩
theorem at2_eq {n k : Nat} {F : Nat → Nat → Int × Int} : Dt.det n (at2 (mkM n n F)) = Dt.det n F := Dt.det_congr fun i hi j hj => at2_mkM hi hj
theorem mulM_adj {n : Nat} {A : List (List (Int × Int))} (h : gd A) (hA : A.length = n) (hk : wd A = n) : eqM (mulM A (mkM n n (adjE n (at2 A)))) (mkM n n fun i j => mP (at2 (mkM n n one2) i j) (Dt.det n (at2 A))) := by
  have h64 : n ≤ 64 := by have := h.1; omega
  have hw : wd (mkM n n (adjE n (at2 A))) = n := wd_mkM (by omega)
  have hw2 : wd (mkM n n fun i j => mP (at2 (mkM n n one2) i j) (Dt.det n (at2 A))) = n := wd_mkM (by omega)
  have hm : ml2 A (mkM n n (adjE n (at2 A))) := ⟨h, gd_mkM h64 h64, by rw [len_mkM]; exact hk⟩
  refine ⟨⟨gd_mulM hm, gd_mkM h64 h64, by rw [len_mulM, len_mkM]; exact hA, by rw [ml2_wd hm, hw, hw2]⟩, fun i hi j hj => ?_⟩
  rw [len_mulM, hA] at hi
  rw [ml2_wd hm, hw] at hj
  rw [at2_mulS hA len_mkM hw hi hj, at2_mkM hi hj, at2_mkM hi hj, Dt.sm_congr (g := fun q => at2 A i q * adjE n (at2 A) q j) fun q hq => by rw [at2_mkM hq hj], adj_mulr hi hj, mP_eq]
  unfold one2
  by_cases c : i = j
  · rw [if_pos c, if_pos c]; show _ = (1 : Int × Int) * _; grind
  · rw [if_neg c, if_neg c]; show _ = (0 : Int × Int) * _; grind
section
variable {w : World} {na nb ca cb l i j : Nat} {oa ob : Option Addr} {A B : List (List (Int × Int))} {vg : Value} {u v a b : Int}
set_option maxHeartbeats 4000000 in
set_option maxRecDepth 20000 in
theorem al_bad (ha : MN 1048576 w oa A) (hna : A.length = na) (la : na ≤ 1048576) (hq : PN w vg u l v l) (h : ¬ (gd A ∧ wd A = na)) :
    Calls Tryz.prog 4 #[.slice oa na ca, .slice ob nb cb, .int .i64 a, .int .i64 b, vg] w fun e w' => e = .returned (.bool true) ∧ Below w.heap.size w w' := by
  have HA := hide ha
  have HG := hide h
  clear ha h
  obtain ⟨n_4a, o_4a, k_4a, c_4a, n_4b, o_4b, k_4b, c_4b, rfl, hq1, hq2⟩ := hq
  go_enter Tryz.func4, Tryz.ntmps4
  have hs := St.nil w
  refine wp_seq_k ?_
  intro K1 hK1
  refine rg [0, 1] ?_
  refine sq ?_
  refine .al hs ?_; clear hs; intro p_b1 w_1 hs n1 kb_b1
  refine sq ?_
  refine .mv ?_
  apply wpSq_end
  refine hK1 _ _ ?_
  refine wp_seq_k ?_
  intro K2 hK2
  refine wp_seq_k ?_
  intro K3 hK3
  refine rg [0, 1] ?_
  refine sq ?_
  intro K hK
  go_big_op
  go_fit (awake9_any _)
  rintro e w_2 ⟨rfl, hb_2⟩
  replace hs := hs.bl hb_2
  refine hK _ _ rfl trivial ?_
  clear hK K
  refine sq ?_
  refine .r0 ?_
  apply wpSq_end
  refine hK3 _ _ ?_
  refine cf ?_
  refine wp_skip ?_
  refine hK2 _ _ ?_
  refine wp_seq_k ?_
  intro K4 hK4
  refine rg [0, 1, 2, 3, 4, 5, 6, 7] ?_
  refine sq ?_
  refine .mv ?_
  refine sq ?_
  intro K hK
  have hb := hs.b
  go_big_op
  go_fit (det_bad (HA.out.bl stab_n hb) hna HG.out (by omega))
  rintro e w_3 ⟨rfl, hb_3⟩
  clear hb
  replace hs := hs.bl hb_3
  refine hK _ _ rfl trivial ?_
  clear hK K
  refine sq ?_
  refine .mv ?_
  refine sq ?_
  refine .r0 ?_
  refine sq ?_
  refine .r0 ?_
  refine sq ?_
  refine .al hs ?_; clear hs; intro p_b2 w_4 hs n4 kb_b2
  refine sq ?_
  refine .s4 hs.g0 (fun _ => hs.u0 kb_b2) ?_; clear hs; intro w_5 hs hd5 ho5
  refine sq ?_
  refine .mv ?_
  apply wpSq_end
  refine hK4 _ _ ?_
  refine wp_seq_k ?_
  intro K5 hK5
  refine wp_seq_k ?_
  intro K6 hK6
  refine rg [0, 1] ?_
  refine sq ?_
  refine .mv ?_
  refine sq ?_
  refine .r0 ?_
  apply wpSq_end
  refine hK6 _ _ ?_
  refine ct ?_
  refine wp_seq_k ?_
  intro K7 hK7
  refine rg [0, 1, 2] ?_
  refine sq ?_
  refine .mv ?_
  refine sq ?_
  refine .r0 ?_
  refine sq ?_
  refine .mv ?_
  apply wpSq_end
  refine hK7 _ _ ?_
  refine wp_ret ?_
  try dsimp only [Exit.then, Exit.inBlock]
  refine bodyPost_ret (v := (.bool true)) (by simp [results, Tryz.results4, go_sem]) rfl ?_
  exact ⟨rfl, hs.b⟩
set_option maxHeartbeats 4000000 in
set_option maxRecDepth 20000 in
theorem al_11 (ha : MN 1048576 w oa A) (hb' : MN 1048576 w ob B) (hq : PN w vg u l v l) (hl : l = 1048576) (hna : A.length = na) (hnb : B.length = nb) (la : na ≤ 1048576) (lb : nb ≤ 1048576) (ta : Tot 1048576 A) (tb : Tot 1048576 B) (h : gd A) (hk : wd A = na) (h2 : gd B ∧ wd B = nb) (h3 : nb = na) (hi : i < na) (hj : j < na) (hij : i ≠ j) :
    Calls Tryz.prog 4 #[.slice oa na ca, .slice ob nb cb, .int .i64 (i : Int), .int .i64 (j : Int), vg] w fun e w' => e = .returned (.bool true) ∧ Below w.heap.size w w' := by
  have n64 : na ≤ 64 := by have := h.1; omega
  have HA := hide ha
  have HB := hide hb'
  have HG := hide h
  have HK := hide hk
  have HM := hide (show MinB na na 1050641 (at2 A) from fun s f g h1 h2 => zl_up (ta.minB (W := na) hna n64 s f g h1 h2) (by omega))
  have HC := hide (show MinB (na + na) (na + na) 1050641 (brd na (at2 A)) from ta.brd hna n64)
  have LD := hide (show zl 1050641 (Dt.det na (at2 A)) from HM.out na id id (fun r hr => ⟨hr, hr⟩) (fun r q h _ => by simp only [id]; omega))
  have BJ := hide (show BdM 1050641 (mkM na na (adjE na (at2 A))) from bdM_mk fun i hi j hj => zl_adjE HC.out hi hj)
  have GJ := hide (show gd (mkM na na (adjE na (at2 A))) from gd_mkM n64 n64)
  have MJ := hide (show ml2 A (mkM na na (adjE na (at2 A))) from ⟨h, GJ.out, by rw [len_mkM]; exact hk⟩)
  have BP := hide (show BdM 3000000 (mulM A (mkM na na (adjE na (at2 A)))) from bdM_up (bd_mulM ha.bd BJ.out) (by rw [len_mkM]; omega))
  have LP := hide (show (mulM A (mkM na na (adjE na (at2 A)))).length = na from len_mulM.trans hna)
  have B1 := hide (show BdM 1 (mkM na na one2) from bdM_mk fun i _ j _ => zl_one2 0 i j)
  have G1 := hide (show gd (mkM na na one2) from gd_mkM n64 n64)
  have W1 := hide (show wd (mkM na na one2) = na from wd_mkM (by omega))
  have BW := hide (show BdM 3000000 (mkM na na fun i j => mP (at2 (mkM na na one2) i j) (Dt.det na (at2 A))) from bdM_mk fun i _ j _ => zl_up (zl_mP (at2_bd B1.out) LD.out) (by omega))
  have HE := hide (mulM_adj h hna hk)
  have HGB := hide h2.1
  have HKB := hide (h2.2.trans h3)
  have HNB := hide (hnb.trans h3)
  have HML := hide (show ml2 A B from ⟨h, h2.1, by rw [hk, hnb, h3]⟩)
  have HMB := hide (show MinB na na 1050641 (at2 B) from fun s f g h4 h5 => zl_up (tb.minB (W := na) (hnb.trans h3) n64 s f g h4 h5) (by omega))
  have LB := hide (show zl 1050641 (Dt.det na (at2 B)) from HMB.out na id id (fun r hr => ⟨hr, hr⟩) (fun r q h _ => by simp only [id]; omega))
  have HMP := hide (show MinB na na 2200000 (at2 (mulM A B)) from fun s f g h4 h5 => zl_up (mulM_minB ta hna n64 (hnb.trans h3) (h2.2.trans h3) HMB.out s f g h4 h5) (by omega))
  have BQ := hide (show BdM 3000000 (mulM A B) from bdM_up (bd_mulM ha.bd hb'.bd) (by omega))
  have LQ := hide (show (mulM A B).length = na from len_mulM.trans hna)
  have GQ := hide (gd_mulM HML.out)
  have WQ := hide (show wd (mulM A B) = na from (ml2_wd HML.out).trans (h2.2.trans h3))
  have LZ := hide (show zl 2200000 (Dt.det na (at2 (mulM A B))) from HMP.out na id id (fun r hr => ⟨hr, hr⟩) (fun r q h _ => by simp only [id]; omega))
  have HDP := hide (show Dt.det na (at2 (mulM A B)) = Dt.det na (at2 A) * Dt.det na (at2 B) from det_mulM hna (hnb.trans h3) (h2.2.trans h3))
  have HD1 := hide (show (Dt.det na (at2 (mulM A B))).1 = (Dt.det na (at2 A)).1 * (Dt.det na (at2 B)).1 - (Dt.det na (at2 A)).2 * (Dt.det na (at2 B)).2 by rw [HDP.out]; rfl)
  have HD2 := hide (show (Dt.det na (at2 (mulM A B))).2 = (Dt.det na (at2 A)).1 * (Dt.det na (at2 B)).2 + (Dt.det na (at2 A)).2 * (Dt.det na (at2 B)).1 by rw [HDP.out]; rfl)
  have LM1 := hide (show (dig ((Dt.det na (at2 A)).1 * (Dt.det na (at2 B)).1 - (Dt.det na (at2 A)).2 * (Dt.det na (at2 B)).2).natAbs).length ≤ 2200000 by rw [← HD1.out]; exact LZ.out.1)
  have LM2 := hide (show (dig ((Dt.det na (at2 A)).1 * (Dt.det na (at2 B)).2 + (Dt.det na (at2 A)).2 * (Dt.det na (at2 B)).1).natAbs).length ≤ 2200000 by rw [← HD2.out]; exact LZ.out.2)
  have t3 : ((na : Int) == (na : Int)) = true := by simp
  have t1 : ((i : Int) != (j : Int)) = true := bne_iff_ne.2 (by omega)
  have HI := hide hi
  have HJ := hide hj
  have HIJ := hide hij
  have GS := hide (show gd (mkM na na fun r => at2 A (swr i j r)) from gd_mkM n64 n64)
  have WS := hide (show wd (mkM na na fun r => at2 A (swr i j r)) = na from wd_mkM (by omega))
  have MS := hide (show MinB na na 1050641 (at2 (mkM na na fun r => at2 A (swr i j r))) from (HM.out.swr hi hj).cong fun i hi j hj => at2_mkM hi hj)
  have BS := hide (show BdM 1048576 (mkM na na fun r => at2 A (swr i j r)) from bdM_mk fun p _ q _ => at2_bd ha.bd)
  have DS := hide (show Dt.det na (at2 (mkM na na fun r => at2 A (swr i j r))) = - Dt.det na (at2 A) by rw [at2_eq (k := 0)]; exact (Dt.alt_det (R := Int × Int) (n := na)).swap hij hi hj (at2 A))
  have DS1 := hide (show (Dt.det na (at2 (mkM na na fun r => at2 A (swr i j r)))).1 = - (Dt.det na (at2 A)).1 by rw [DS.out]; rfl)
  have DS2 := hide (show (Dt.det na (at2 (mkM na na fun r => at2 A (swr i j r)))).2 = - (Dt.det na (at2 A)).2 by rw [DS.out]; rfl)
  have LS := hide (show zl 1050641 (Dt.det na (at2 (mkM na na fun r => at2 A (swr i j r)))) from MS.out na id id (fun r hr => ⟨hr, hr⟩) (fun r q h _ => by simp only [id]; omega))
  obtain ⟨R, hR⟩ : ∃ R, R = rowed (at2 A) i fun q => aP (at2 A i q) (mP (u, v) (at2 A j q)) := ⟨_, rfl⟩
  have HR := hide hR
  have ZQ : zl l (u, v) := by obtain ⟨_, _, _, _, _, _, _, _, _, z1, z2⟩ := hq; exact ⟨z1.len, z2.len⟩
  have GT := hide (show gd (mkM na na R) from gd_mkM n64 n64)
  have WT := hide (show wd (mkM na na R) = na from wd_mkM (by omega))
  have MT := hide (show MinB na na 2200000 (at2 (mkM na na R)) from MinB.cong (F := R) (by rw [hR]; exact fun s f g h4 h5 => zl_up (rowed_minB HM.out hij hi hj ZQ s f g h4 h5) (by omega)) fun i hi j hj => at2_mkM hi hj)
  have BT := hide (show BdM 3000000 (mkM na na R) from bdM_mk fun p hp q hq => by
    have h4 := MT.out.D 0 p hp q hq
    rw [Dt.D_0, at2_mkM hp hq] at h4
    exact zl_up h4 (by omega))
  have DT := hide (show Dt.det na (at2 (mkM na na R)) = Dt.det na (at2 A) by rw [at2_eq (k := 0), hR]; exact det_rowed hij hi hj)
  have LT := hide (show zl 2200000 (Dt.det na (at2 (mkM na na R))) from MT.out na id id (fun r hr => ⟨hr, hr⟩) (fun r q h _ => by simp only [id]; omega))
  clear hR
  clear ha hb' h hk h2 ta tb hij
  subst h3
  obtain ⟨n_4a, o_4a, k_4a, c_4a, n_4b, o_4b, k_4b, c_4b, rfl, hq1, hq2⟩ := hq
  go_enter Tryz.func4, Tryz.ntmps4
  have hs := St.nil w
  refine wp_seq_k ?_
  intro K1 hK1
  refine rg [0, 1] ?_
  refine sq ?_
  refine .al hs ?_; clear hs; intro p_b1 w_1 hs n1 kb_b1
  refine sq ?_
  refine .mv ?_
  apply wpSq_end
  refine hK1 _ _ ?_
  refine wp_seq_k ?_
  intro K2 hK2
  refine wp_seq_k ?_
  intro K3 hK3
  refine rg [0, 1] ?_
  refine sq ?_
  intro K hK
  go_big_op
  go_fit (awake9_any _)
  rintro e w_2 ⟨rfl, hb_2⟩
  replace hs := hs.bl hb_2
  refine hK _ _ rfl trivial ?_
  clear hK K
  refine sq ?_
  refine .r0 ?_
  apply wpSq_end
  refine hK3 _ _ ?_
  refine cf ?_
  refine wp_skip ?_
  refine hK2 _ _ ?_
  refine wp_seq_k ?_
  intro K4 hK4
  refine rg [0, 1, 2, 3, 4, 5, 6, 7] ?_
  refine sq ?_
  refine .mv ?_
  refine sq ?_
  intro K hK
  have hb := hs.b
  go_big_op
  go_fit (det_ok (HA.out.bl stab_n hb) hna HG.out HK.out HM.out (by decide) (by decide))
  rintro e w_3 ⟨_, rfl, ⟨n_xa, o_xa, k_xa, c_xa, n_xb, o_xb, k_xb, c_xb, rfl, x1, x2⟩, hb_3⟩
  clear hb
  replace hs := hs.bl hb_3
  have Lx1 := hide (x1.lenOf (LD.out.1))
  have Lx2 := hide (x2.lenOf (LD.out.2))
  refine hK _ _ rfl trivial ?_
  clear hK K
  refine sq ?_
  refine .mv ?_
  refine sq ?_
  refine .r0 ?_
  refine sq ?_
  refine .r0 ?_
  refine sq ?_
  refine .al hs ?_; clear hs; intro p_b2 w_4 hs n4 kb_b2
  refine sq ?_
  refine .s4 hs.g0 (fun _ => hs.u0 kb_b2) ?_; clear hs; intro w_5 hs hd5 ho5
  refine sq ?_
  refine .mv ?_
  apply wpSq_end
  refine hK4 _ _ ?_
  refine wp_seq_k ?_
  intro K5 hK5
  refine wp_seq_k ?_
  intro K6 hK6
  refine rg [0, 1] ?_
  refine sq ?_
  refine .mv ?_
  refine sq ?_
  refine .r0 ?_
  apply wpSq_end
  refine hK6 _ _ ?_
  refine cf ?_
  refine wp_skip ?_
  refine hK5 _ _ ?_
  refine wp_seq_k ?_
  intro K7 hK7
  refine rg [0, 1, 2, 3, 4, 5, 6, 7] ?_
  refine sq ?_
  refine .mv ?_
  refine sq ?_
  intro K hK
  have hb := hs.b
  go_big_op
  go_fit (det_ok (HB.out.bl stab_n hb) hnb HGB.out HKB.out HMB.out (by decide) (by decide))
  rintro e w_6 ⟨_, rfl, ⟨n_ya, o_ya, k_ya, c_ya, n_yb, o_yb, k_yb, c_yb, rfl, y1, y2⟩, hb_6⟩
  clear hb
  replace hs := hs.bl hb_6
  have Ly1 := hide (y1.lenOf (LB.out.1))
  have Ly2 := hide (y2.lenOf (LB.out.2))
  refine hK _ _ rfl trivial ?_
  clear hK K
  refine sq ?_
  refine .mv ?_
  refine sq ?_
  refine .r0 ?_
  refine sq ?_
  refine .r0 ?_
  refine sq ?_
  refine .al hs ?_; clear hs; intro p_b3 w_7 hs n7 kb_b3
  refine sq ?_
  refine .s4 hs.g0 (fun _ => hs.u0 kb_b3) ?_; clear hs; intro w_8 hs hd8 ho8
  refine sq ?_
  refine .mv ?_
  apply wpSq_end
  refine hK7 _ _ ?_
  refine wp_seq_k ?_
  intro K8 hK8
  refine rg [0, 1, 2, 3, 4, 5, 6, 7] ?_
  refine sq ?_
  refine .mv ?_
  refine sq ?_
  refine .mv ?_
  refine sq ?_
  intro K hK
  have hb := hs.b
  go_big_op
  go_fit (mxmt (mMul_ok (HA.out.bl stab_n hb) (HB.out.bl stab_n hb) hna hnb HML.out (by decide) (by decide)))
  rintro e w_9 ⟨o_P, c_P, rfl, m_P, hb_9⟩
  clear hb
  replace hs := hs.bl hb_9
  refine hK _ _ rfl trivial ?_
  clear hK K
  refine sq ?_
  refine .mv ?_
  refine sq ?_
  refine .r0 ?_
  refine sq ?_
  refine .r0 ?_
  refine sq ?_
  refine .mv ?_
  refine sq ?_
  refine .mv ?_
  apply wpSq_end
  refine hK8 _ _ ?_
  refine wp_seq_k ?_
  intro K9 hK9
  refine wp_seq_k ?_
  intro K10 hK10
  refine rg [0, 1, 2, 3, 4, 5, 6, 7, 8, 9, 10, 11, 12] ?_
  refine sq ?_
  refine .mv ?_
  refine sq ?_
  refine .r0 ?_
  refine sq ?_
  refine .mv ?_
  refine sq ?_
  refine .mv ?_
  refine sq ?_
  refine .r0 ?_
  refine sq ?_
  refine .r0 ?_
  refine sq ?_
  refine .mv ?_
  refine sq ?_
  refine .mv ?_
  refine sq ?_
  refine .r0 ?_
  refine sq ?_
  refine .mv ?_
  refine sq ?_
  refine .r0 ?_
  refine sq ?_
  refine .r0 ?_
  refine sq ?_
  refine .r0 ?_
  apply wpSq_end
  refine hK10 _ _ ?_
  refine ct ?_
  refine wp_seq_k ?_
  intro K11 hK11
  refine rg [0, 1, 2, 3, 4, 5, 6, 7] ?_
  refine sq ?_
  refine .mv ?_
  refine sq ?_
  intro K hK
  go_big_op
  go_fit (det_ok (m_P.mn BQ.out) LQ.out GQ.out WQ.out HMP.out (by decide) (by decide))
  rintro e w_10 ⟨_, rfl, ⟨n_za, o_za, k_za, c_za, n_zb, o_zb, k_zb, c_zb, rfl, z1, z2⟩, hb_10⟩
  replace m_P := m_P.bl hb_10; replace hs := hs.bl hb_10
  have Lz1 := hide (z1.lenOf (LZ.out.1))
  have Lz2 := hide (z2.lenOf (LZ.out.2))
  refine hK _ _ rfl trivial ?_
  clear hK K
  refine sq ?_
  refine .mv ?_
  refine sq ?_
  refine .r0 ?_
  refine sq ?_
  refine .r0 ?_
  refine sq ?_
  refine .al hs ?_; clear hs; intro p_b4 w_11 hs n11 kb_b4
  refine sq ?_
  refine .s4 hs.g0 (fun _ => hs.u0 kb_b4) ?_; clear hs; intro w_12 hs hd12 ho12
  refine sq ?_
  refine .mv ?_
  apply wpSq_end
  refine hK11 _ _ ?_
  refine wp_seq_k ?_
  intro K12 hK12
  refine wp_region_f4 [(0, false), (1, false), (2, false), (3, false), (4, false), (5, false), (6, true), (7, true), (8, false), (9, false)] [] [] (fun _ => default) [99, 99, 99, 0, 1, 2, 99, 99, 99, 99] [] (.c hs.g0 (.c hs.g2 (.c hs.g1 .n))) fn fun w_13 n13 => ?_
  replace hs := hs.bl n13
  refine fmv ?_
  refine f0 ?_
  refine fmv ?_
  refine f4 ?_
  refine f4 ?_
  refine f4 ?_
  refine fl fun w_14 n14 => ?_
  replace hs := hs.bl n14
  intro K hK
  have k3_14 := ((((((((((kb n4).o hd5 ho5).b hb_6).b n7).o hd8 ho8).b hb_9).b hb_10).b n11).o hd12 ho12).b n13).b n14
  replace x1 := x1.k k3_14
  replace x2 := x2.k k3_14
  have k6_14 := (((((((kb n7).o hd8 ho8).b hb_9).b hb_10).b n11).o hd12 ho12).b n13).b n14
  replace y1 := y1.k k6_14
  replace y2 := y2.k k6_14
  go_big_op
  go_fit (gMul_any (.mk' (x1.zn Lx1.out) (x2.zn Lx2.out)) (.mk' (y1.zn Ly1.out) (y2.zn Ly2.out)) (by decide) (by decide) (by decide) (by decide))
  rintro e w_15 ⟨_, rfl, ⟨n_ma, o_ma, k_ma, c_ma, n_mb, o_mb, k_mb, c_mb, rfl, m1, m2⟩, hb_15⟩
  replace hs := hs.bl hb_15
  have Lm1 := hide (m1.lenOf (LM1.out))
  have Lm2 := hide (m2.lenOf (LM2.out))
  refine hK _ _ rfl ⟨hb_15, (And.intro hs.g0 (And.intro hs.g2 (And.intro hs.g1 trivial)))⟩ ?_
  clear hK K
  refine fl fun w_16 n16 => ?_
  replace hs := hs.bl n16
  intro K hK
  have k10_16 := (((((kb n11).o hd12 ho12).b n13).b n14).b hb_15).b n16
  replace z1 := z1.k k10_16
  replace z2 := z2.k k10_16
  have k15_16 := kb n16
  replace m1 := m1.k k15_16
  replace m2 := m2.k k15_16
  go_big_op
  go_fit (gEqual_yes (.mk' (z1.zn Lz1.out) (z2.zn Lz2.out)) (.mk' (m1.zn Lm1.out) (m2.zn Lm2.out)) (by decide) (by decide) (by decide) (by decide) HD1.out HD2.out)
  rintro e w_17 ⟨rfl, hb_17⟩
  replace hs := hs.bl hb_17
  refine hK _ _ rfl ⟨hb_17, (And.intro hs.g0 (And.intro hs.g2 (And.intro hs.g1 trivial)))⟩ ?_
  clear hK K
  refine f0 ?_
  refine f0 ?_
  refine e0 hs ?_; clear hs; intro w_18 hs n18
  apply wpTail_end
  refine hK12 _ _ ?_
  refine cf ?_
  refine wp_skip ?_
  refine hK9 _ _ ?_
  refine wp_seq_k ?_
  intro K13 hK13
  refine rg [0, 1, 2, 3, 4, 5, 6, 7, 8] ?_
  refine sq ?_
  refine .mv ?_
  refine sq ?_
  refine .mv ?_
  refine sq ?_
  refine .mv ?_
  refine sq ?_
  intro K hK
  have hb := hs.b
  go_big_op
  go_fit (mxmt (mSwap_ok (HA.out.bl stab_n hb) hna HG.out HK.out HI.out HJ.out (by decide)))
  rintro e w_19 ⟨o_S, c_S, rfl, m_S, hb_19⟩
  clear hb
  clear m_P m1 m2 y1 y2 z1 z2
  replace hs := hs.bl hb_19
  refine hK _ _ rfl trivial ?_
  clear hK K
  refine sq ?_
  refine .mv ?_
  refine sq ?_
  refine .r0 ?_
  refine sq ?_
  refine .r0 ?_
  refine sq ?_
  refine .mv ?_
  refine sq ?_
  refine .mv ?_
  apply wpSq_end
  refine hK13 _ _ ?_
  refine wp_seq_k ?_
  intro K14 hK14
  refine wp_seq_k ?_
  intro K15 hK15
  refine rg [0, 1, 2, 3, 4, 5, 6] ?_
  refine sq ?_
  refine .mv ?_
  refine sq ?_
  refine .r0 ?_
  refine sq ?_
  refine .mv ?_
  refine sq ?_
  refine .mv ?_
  refine sq ?_
  refine .mv ?_
  refine sq ?_
  refine .r0 ?_
  refine sq ?_
  refine .r0 ?_
  apply wpSq_end
  refine hK15 _ _ ?_
  refine ct ?_
  refine wp_seq_k ?_
  intro K16 hK16
  refine rg [0, 1, 2, 3, 4, 5, 6, 7] ?_
  refine sq ?_
  refine .mv ?_
  refine sq ?_
  intro K hK
  go_big_op
  go_fit (det_ok (m_S.mn BS.out) len_mkM GS.out WS.out MS.out (by decide) (by decide))
  rintro e w_20 ⟨_, rfl, ⟨n_sa, o_sa, k_sa, c_sa, n_sb, o_sb, k_sb, c_sb, rfl, s1, s2⟩, hb_20⟩
  replace m_S := m_S.bl hb_20; replace hs := hs.bl hb_20
  have Ls1 := hide (s1.lenOf (LS.out.1))
  have Ls2 := hide (s2.lenOf (LS.out.2))
  refine hK _ _ rfl trivial ?_
  clear hK K
  refine sq ?_
  refine .mv ?_
  refine sq ?_
  refine .r0 ?_
  refine sq ?_
  refine .r0 ?_
  refine sq ?_
  refine .al hs ?_; clear hs; intro p_b5 w_21 hs n21 kb_b5
  refine sq ?_
  refine .s4 hs.g0 (fun _ => hs.u0 kb_b5) ?_; clear hs; intro w_22 hs hd22 ho22
  refine sq ?_
  refine .mv ?_
  apply wpSq_end
  refine hK16 _ _ ?_
  refine wp_seq_k ?_
  intro K17 hK17
  refine rg [0, 1, 2, 3, 4, 5, 6, 7, 8, 9] ?_
  refine sq ?_
  refine .mv ?_
  refine sq ?_
  refine .mv ?_
  refine sq ?_
  refine .mv ?_
  refine sq ?_
  refine .r4 hs.g4.f4 ?_
  refine sq ?_
  intro K hK
  have hb := hs.b
  have k0_22 := (((((((((((((((((((((kb n1).b hb_2).b hb_3).b n4).o hd5 ho5).b hb_6).b n7).o hd8 ho8).b hb_9).b hb_10).b n11).o hd12 ho12).b n13).b n14).b hb_15).b n16).b hb_17).b n18).b hb_19).b hb_20).b n21).o hd22 ho22
  replace hq1 := hq1.k k0_22
  replace hq2 := hq2.k k0_22
  go_big_op
  go_fit (mxmt (mAddRow_ok (HA.out.bl stab_n hb) (.mk' hq1 hq2) hna HG.out HK.out HI.out HJ.out HIJ.out (by decide) (by omega)))
  rintro e w_23 ⟨o_T, c_T, rfl, m_T, hb_23⟩
  clear hb
  replace hs := hs.bl hb_23
  rw [← HR.out] at m_T
  refine hK _ _ rfl trivial ?_
  clear hK K
  refine sq ?_
  refine .mv ?_
  refine sq ?_
  refine .r0 ?_
  refine sq ?_
  refine .r0 ?_
  refine sq ?_
  refine .mv ?_
  refine sq ?_
  refine .mv ?_
  apply wpSq_end
  refine hK17 _ _ ?_
  refine wp_seq_k ?_
  intro K18 hK18
  refine rg [0, 1, 2, 3, 4, 5, 6, 7] ?_
  refine sq ?_
  refine .mv ?_
  refine sq ?_
  intro K hK
  go_big_op
  go_fit (det_ok (m_T.mn BT.out) len_mkM GT.out WT.out MT.out (by decide) (by decide))
  rintro e w_24 ⟨_, rfl, ⟨n_ta, o_ta, k_ta, c_ta, n_tb, o_tb, k_tb, c_tb, rfl, t1, t2⟩, hb_24⟩
  replace m_T := m_T.bl hb_24; replace hs := hs.bl hb_24
  have Lt1 := hide (t1.lenOf (LT.out.1))
  have Lt2 := hide (t2.lenOf (LT.out.2))
  refine hK _ _ rfl trivial ?_
  clear hK K
  refine sq ?_
  refine .mv ?_
  refine sq ?_
  refine .r0 ?_
  refine sq ?_
  refine .r0 ?_
  refine sq ?_
  refine .al hs ?_; clear hs; intro p_b6 w_25 hs n25 kb_b6
  refine sq ?_
  refine .s4 hs.g0 (fun _ => hs.u0 kb_b6) ?_; clear hs; intro w_26 hs hd26 ho26
  refine sq ?_
  refine .mv ?_
  apply wpSq_end
  refine hK18 _ _ ?_
  refine wp_seq_k ?_
  intro K19 hK19
  refine wp_region_f4 [(0, false), (1, false), (2, false), (3, false), (4, false), (5, false), (6, false), (7, false), (8, false), (9, false), (10, false), (11, false), (12, false), (13, true), (14, true), (15, false), (16, false), (17, false), (18, false), (19, false), (20, true), (21, false), (22, false)] [] [] (fun _ => default) [99, 99, 99, 99, 99, 99, 99, 99, 99, 99, 99, 0, 1, 99, 99, 99, 99, 99, 2, 1, 99, 99, 99] [] (.c hs.g1 (.c hs.g4 (.c hs.g0 .n))) fn fun w_27 n27 => ?_
  replace hs := hs.bl n27
  refine fmv ?_
  refine f0 ?_
  refine fmv ?_
  refine fmv ?_
  refine f0 ?_
  refine f0 ?_
  refine fmv ?_
  refine fmv ?_
  refine f0 ?_
  refine f0 ?_
  refine fmv ?_
  refine f4 ?_
  refine f4 ?_
  refine fl fun w_28 n28 => ?_
  replace hs := hs.bl n28
  intro K hK
  have k14_28 := (((((((((((((kb hb_15).b n16).b hb_17).b n18).b hb_19).b hb_20).b n21).o hd22 ho22).b hb_23).b hb_24).b n25).o hd26 ho26).b n27).b n28
  replace x1 := x1.k k14_28
  replace x2 := x2.k k14_28
  go_big_op
  go_fit (gNeg_any (.mk' (x1.zn Lx1.out) (x2.zn Lx2.out)) (by decide) (by decide))
  rintro e w_29 ⟨_, rfl, ⟨n_ga, o_ga, k_ga, c_ga, n_gb, o_gb, k_gb, c_gb, rfl, g1, g2⟩, hb_29⟩
  replace hs := hs.bl hb_29
  have Lg1 := hide (g1.lenOf (zlen_neg Lx1.out))
  have Lg2 := hide (g2.lenOf (zlen_neg Lx2.out))
  refine hK _ _ rfl ⟨hb_29, (And.intro hs.g1 (And.intro hs.g4 (And.intro hs.g0 trivial)))⟩ ?_
  clear hK K
  refine fl fun w_30 n30 => ?_
  replace hs := hs.bl n30
  intro K hK
  have k20_30 := (((((((((kb n21).o hd22 ho22).b hb_23).b hb_24).b n25).o hd26 ho26).b n27).b n28).b hb_29).b n30
  replace s1 := s1.k k20_30
  replace s2 := s2.k k20_30
  have k29_30 := kb n30
  replace g1 := g1.k k29_30
  replace g2 := g2.k k29_30
  go_big_op
  go_fit (gEqual_yes (.mk' (s1.zn Ls1.out) (s2.zn Ls2.out)) (.mk' (g1.zn Lg1.out) (g2.zn Lg2.out)) (by decide) (by decide) (by decide) (by decide) DS1.out DS2.out)
  rintro e w_31 ⟨rfl, hb_31⟩
  replace hs := hs.bl hb_31
  refine hK _ _ rfl ⟨hb_31, (And.intro hs.g1 (And.intro hs.g4 (And.intro hs.g0 trivial)))⟩ ?_
  clear hK K
  refine f0 ?_
  refine f0 ?_
  refine fmv ?_
  refine f4 ?_
  refine f4 ?_
  refine fl fun w_32 n32 => ?_
  clear m_S hq1 hq2 m_T g1 g2
  replace hs := hs.bl n32
  intro K hK
  have k24_32 := (((((((kb n25).o hd26 ho26).b n27).b n28).b hb_29).b n30).b hb_31).b n32
  replace t1 := t1.k k24_32
  replace t2 := t2.k k24_32
  have k28_32 := (((kb hb_29).b n30).b hb_31).b n32
  replace x1 := x1.k k28_32
  replace x2 := x2.k k28_32
  go_big_op
  go_fit (gEqual_yes (.mk' (t1.zn Lt1.out) (t2.zn Lt2.out)) (.mk' (x1.zn Lx1.out) (x2.zn Lx2.out)) (by decide) (by decide) (by decide) (by decide) (congrArg Prod.fst DT.out) (congrArg Prod.snd DT.out))
  rintro e w_33 ⟨rfl, hb_33⟩
  replace hs := hs.bl hb_33
  refine hK _ _ rfl ⟨hb_33, (And.intro hs.g1 (And.intro hs.g4 (And.intro hs.g0 trivial)))⟩ ?_
  clear hK K
  refine f0 ?_
  refine f0 ?_
  refine e0 hs ?_; clear hs; intro w_34 hs n34
  apply wpTail_end
  refine hK19 _ _ ?_
  refine cf ?_
  refine wp_skip ?_
  refine hK14 _ _ ?_
  refine wp_seq_k ?_
  intro K20 hK20
  refine rg [0, 1, 2, 3, 4, 5, 6] ?_
  refine sq ?_
  refine .mv ?_
  refine sq ?_
  intro K hK
  have hb := hs.b
  go_big_op
  go_fit (mxmt (adjugate_ok (HA.out.bl stab_n hb) hna HG.out HK.out HC.out (by decide) (by decide)))
  rintro e w_35 ⟨o_J, c_J, rfl, m_J, hb_35⟩
  clear hb
  replace hs := hs.bl hb_35
  refine hK _ _ rfl trivial ?_
  clear hK K
  refine sq ?_
  refine .mv ?_
  refine sq ?_
  refine .r0 ?_
  refine sq ?_
  refine .r0 ?_
  refine sq ?_
  refine .mv ?_
  refine sq ?_
  refine .mv ?_
  apply wpSq_end
  refine hK20 _ _ ?_
  refine wp_seq_k ?_
  intro K21 hK21
  refine rg [0, 1, 2, 3, 4, 5, 6, 7] ?_
  refine sq ?_
  refine .mv ?_
  refine sq ?_
  refine .mv ?_
  refine sq ?_
  intro K hK
  have hb := hs.b
  go_big_op
  go_fit (mxmt (mMul_ok (HA.out.bl stab_n hb) (m_J.mn BJ.out) hna len_mkM MJ.out (by decide) (by decide)))
  rintro e w_36 ⟨o_D, c_D, rfl, m_D, hb_36⟩
  clear hb
  replace m_J := m_J.bl hb_36; replace hs := hs.bl hb_36
  refine hK _ _ rfl trivial ?_
  clear hK K
  refine sq ?_
  refine .mv ?_
  refine sq ?_
  refine .r0 ?_
  refine sq ?_
  refine .r0 ?_
  refine sq ?_
  refine .mv ?_
  refine sq ?_
  refine .mv ?_
  apply wpSq_end
  refine hK21 _ _ ?_
  refine wp_seq_k ?_
  intro K22 hK22
  refine rg [0, 1, 2, 3, 4, 5, 6, 7] ?_
  refine sq ?_
  refine .mv ?_
  refine sq ?_
  refine .r0 ?_
  refine sq ?_
  intro K hK
  go_big_op
  go_fit (mxmt (mIdent_ok n64))
  rintro e w_37 ⟨o_O, c_O, rfl, m_O, hb_37⟩
  replace m_D := m_D.bl hb_37; replace hs := hs.bl hb_37
  refine hK _ _ rfl trivial ?_
  clear hK K
  refine sq ?_
  refine .mv ?_
  refine sq ?_
  refine .r0 ?_
  refine sq ?_
  refine .r0 ?_
  refine sq ?_
  refine .mv ?_
  refine sq ?_
  refine .mv ?_
  apply wpSq_end
  refine hK22 _ _ ?_
  refine wp_seq_k ?_
  intro K23 hK23
  refine rg [0, 1, 2, 3, 4, 5, 6, 7] ?_
  refine sq ?_
  refine .mv ?_
  refine sq ?_
  refine .r4 hs.g4.f4 ?_
  refine sq ?_
  intro K hK
  have k32_37 := ((((kb hb_33).b n34).b hb_35).b hb_36).b hb_37
  replace x1 := x1.k k32_37
  replace x2 := x2.k k32_37
  go_big_op
  go_fit (mxmt (mScale_ok (m_O.mn B1.out) (.mk' (x1.zn Lx1.out) (x2.zn Lx2.out)) len_mkM G1.out (by decide) (by decide)))
  rintro e w_38 ⟨o_W, c_W, rfl, m_W, hb_38⟩
  replace m_D := m_D.bl hb_38; replace m_O := m_O.bl hb_38; replace hs := hs.bl hb_38
  rw [W1.out] at m_W
  refine hK _ _ rfl trivial ?_
  clear hK K
  refine sq ?_
  refine .mv ?_
  refine sq ?_
  refine .r0 ?_
  refine sq ?_
  refine .r0 ?_
  refine sq ?_
  refine .mv ?_
  refine sq ?_
  refine .mv ?_
  apply wpSq_end
  refine hK23 _ _ ?_
  refine wp_seq_k ?_
  intro K24 hK24
  refine rg [0, 1, 2, 3, 4, 5, 6, 7, 8, 9, 10, 11, 12, 13, 14, 15, 16, 17, 18, 19] ?_
  refine sq ?_
  refine .mv ?_
  refine sq ?_
  refine .r0 ?_
  refine sq ?_
  refine .mv ?_
  refine sq ?_
  refine .mv ?_
  refine sq ?_
  refine .r0 ?_
  refine sq ?_
  refine .r0 ?_
  refine sq ?_
  refine .mv ?_
  refine sq ?_
  refine .mv ?_
  refine sq ?_
  refine .r0 ?_
  refine sq ?_
  refine .r0 ?_
  refine sq ?_
  refine .mv ?_
  refine sq ?_
  refine .mv ?_
  refine sq ?_
  refine .r0 ?_
  refine sq ?_
  refine .r0 ?_
  refine sq ?_
  refine .mv ?_
  refine sq ?_
  refine .mv ?_
  refine sq ?_
  refine .mv ?_
  refine sq ?_
  intro K hK
  go_big_op
  go_fit (mEqual_any (m_D.mn BP.out) (m_W.mn BW.out) LP.out len_mkM (by omega) (by omega) (by decide) (by decide))
  rintro e w_39 ⟨rfl, hb_39⟩
  clear s1 s2 t1 t2 m_J x1 x2 m_O
  replace m_D := m_D.bl hb_39; replace m_W := m_W.bl hb_39; replace hs := hs.bl hb_39
  rw [decide_eq_true HE.out]
  refine hK _ _ rfl trivial ?_
  clear hK K
  refine sq ?_
  refine .r0 ?_
  refine sq ?_
  refine .mv ?_
  apply wpSq_end
  refine hK24 _ _ ?_
  refine wp_ret ?_
  try dsimp only [Exit.then, Exit.inBlock]
  refine bodyPost_ret (v := (.bool true)) (by simp [results, Tryz.results4, go_sem]) rfl ?_
  exact ⟨rfl, hs.b⟩
set_option maxHeartbeats 4000000 in
set_option maxRecDepth 20000 in
theorem al_12 (ha : MN 1048576 w oa A) (hb' : MN 1048576 w ob B) (hq : PN w vg u l v l) (hl : l = 1048576) (hna : A.length = na) (hnb : B.length = nb) (la : na ≤ 1048576) (lb : nb ≤ 1048576) (ta : Tot 1048576 A) (tb : Tot 1048576 B) (h : gd A) (hk : wd A = na) (h2 : gd B ∧ wd B = nb) (h3 : nb = na) (hi : i < na) :
    Calls Tryz.prog 4 #[.slice oa na ca, .slice ob nb cb, .int .i64 (i : Int), .int .i64 (i : Int), vg] w fun e w' => e = .returned (.bool true) ∧ Below w.heap.size w w' := by
  have n64 : na ≤ 64 := by have := h.1; omega
  have HA := hide ha
  have HB := hide hb'
  have HG := hide h
  have HK := hide hk
  have HM := hide (show MinB na na 1050641 (at2 A) from fun s f g h1 h2 => zl_up (ta.minB (W := na) hna n64 s f g h1 h2) (by omega))
  have HC := hide (show MinB (na + na) (na + na) 1050641 (brd na (at2 A)) from ta.brd hna n64)
  have LD := hide (show zl 1050641 (Dt.det na (at2 A)) from HM.out na id id (fun r hr => ⟨hr, hr⟩) (fun r q h _ => by simp only [id]; omega))
  have BJ := hide (show BdM 1050641 (mkM na na (adjE na (at2 A))) from bdM_mk fun i hi j hj => zl_adjE HC.out hi hj)
  have GJ := hide (show gd (mkM na na (adjE na (at2 A))) from gd_mkM n64 n64)
  have MJ := hide (show ml2 A (mkM na na (adjE na (at2 A))) from ⟨h, GJ.out, by rw [len_mkM]; exact hk⟩)
  have BP := hide (show BdM 3000000 (mulM A (mkM na na (adjE na (at2 A)))) from bdM_up (bd_mulM ha.bd BJ.out) (by rw [len_mkM]; omega))
  have LP := hide (show (mulM A (mkM na na (adjE na (at2 A)))).length = na from len_mulM.trans hna)
  have B1 := hide (show BdM 1 (mkM na na one2) from bdM_mk fun i _ j _ => zl_one2 0 i j)
  have G1 := hide (show gd (mkM na na one2) from gd_mkM n64 n64)
  have W1 := hide (show wd (mkM na na one2) = na from wd_mkM (by omega))
  have BW := hide (show BdM 3000000 (mkM na na fun i j => mP (at2 (mkM na na one2) i j) (Dt.det na (at2 A))) from bdM_mk fun i _ j _ => zl_up (zl_mP (at2_bd B1.out) LD.out) (by omega))
  have HE := hide (mulM_adj h hna hk)
  have HGB := hide h2.1
  have HKB := hide (h2.2.trans h3)
  have HNB := hide (hnb.trans h3)
  have HML := hide (show ml2 A B from ⟨h, h2.1, by rw [hk, hnb, h3]⟩)
  have HMB := hide (show MinB na na 1050641 (at2 B) from fun s f g h4 h5 => zl_up (tb.minB (W := na) (hnb.trans h3) n64 s f g h4 h5) (by omega))
  have LB := hide (show zl 1050641 (Dt.det na (at2 B)) from HMB.out na id id (fun r hr => ⟨hr, hr⟩) (fun r q h _ => by simp only [id]; omega))
  have HMP := hide (show MinB na na 2200000 (at2 (mulM A B)) from fun s f g h4 h5 => zl_up (mulM_minB ta hna n64 (hnb.trans h3) (h2.2.trans h3) HMB.out s f g h4 h5) (by omega))
  have BQ := hide (show BdM 3000000 (mulM A B) from bdM_up (bd_mulM ha.bd hb'.bd) (by omega))
  have LQ := hide (show (mulM A B).length = na from len_mulM.trans hna)
  have GQ := hide (gd_mulM HML.out)
  have WQ := hide (show wd (mulM A B) = na from (ml2_wd HML.out).trans (h2.2.trans h3))
  have LZ := hide (show zl 2200000 (Dt.det na (at2 (mulM A B))) from HMP.out na id id (fun r hr => ⟨hr, hr⟩) (fun r q h _ => by simp only [id]; omega))
  have HDP := hide (show Dt.det na (at2 (mulM A B)) = Dt.det na (at2 A) * Dt.det na (at2 B) from det_mulM hna (hnb.trans h3) (h2.2.trans h3))
  have HD1 := hide (show (Dt.det na (at2 (mulM A B))).1 = (Dt.det na (at2 A)).1 * (Dt.det na (at2 B)).1 - (Dt.det na (at2 A)).2 * (Dt.det na (at2 B)).2 by rw [HDP.out]; rfl)
  have HD2 := hide (show (Dt.det na (at2 (mulM A B))).2 = (Dt.det na (at2 A)).1 * (Dt.det na (at2 B)).2 + (Dt.det na (at2 A)).2 * (Dt.det na (at2 B)).1 by rw [HDP.out]; rfl)
  have LM1 := hide (show (dig ((Dt.det na (at2 A)).1 * (Dt.det na (at2 B)).1 - (Dt.det na (at2 A)).2 * (Dt.det na (at2 B)).2).natAbs).length ≤ 2200000 by rw [← HD1.out]; exact LZ.out.1)
  have LM2 := hide (show (dig ((Dt.det na (at2 A)).1 * (Dt.det na (at2 B)).2 + (Dt.det na (at2 A)).2 * (Dt.det na (at2 B)).1).natAbs).length ≤ 2200000 by rw [← HD2.out]; exact LZ.out.2)
  have t3 : ((na : Int) == (na : Int)) = true := by simp
  have t1 : ((i : Int) != (i : Int)) = false := by simp
  have HI := hide hi
  clear ha hb' h hk h2 ta tb
  subst h3
  obtain ⟨n_4a, o_4a, k_4a, c_4a, n_4b, o_4b, k_4b, c_4b, rfl, hq1, hq2⟩ := hq
  go_enter Tryz.func4, Tryz.ntmps4
  have hs := St.nil w
  refine wp_seq_k ?_
  intro K1 hK1
  refine rg [0, 1] ?_
  refine sq ?_
  refine .al hs ?_; clear hs; intro p_b1 w_1 hs n1 kb_b1
  refine sq ?_
  refine .mv ?_
  apply wpSq_end
  refine hK1 _ _ ?_
  refine wp_seq_k ?_
  intro K2 hK2
  refine wp_seq_k ?_
  intro K3 hK3
  refine rg [0, 1] ?_
  refine sq ?_
  intro K hK
  go_big_op
  go_fit (awake9_any _)
  rintro e w_2 ⟨rfl, hb_2⟩
  replace hs := hs.bl hb_2
  refine hK _ _ rfl trivial ?_
  clear hK K
  refine sq ?_
  refine .r0 ?_
  apply wpSq_end
  refine hK3 _ _ ?_
  refine cf ?_
  refine wp_skip ?_
  refine hK2 _ _ ?_
  refine wp_seq_k ?_
  intro K4 hK4
  refine rg [0, 1, 2, 3, 4, 5, 6, 7] ?_
  refine sq ?_
  refine .mv ?_
  refine sq ?_
  intro K hK
  have hb := hs.b
  go_big_op
  go_fit (det_ok (HA.out.bl stab_n hb) hna HG.out HK.out HM.out (by decide) (by decide))
  rintro e w_3 ⟨_, rfl, ⟨n_xa, o_xa, k_xa, c_xa, n_xb, o_xb, k_xb, c_xb, rfl, x1, x2⟩, hb_3⟩
  clear hb
  replace hs := hs.bl hb_3
  have Lx1 := hide (x1.lenOf (LD.out.1))
  have Lx2 := hide (x2.lenOf (LD.out.2))
  refine hK _ _ rfl trivial ?_
  clear hK K
  refine sq ?_
  refine .mv ?_
  refine sq ?_
  refine .r0 ?_
  refine sq ?_
  refine .r0 ?_
  refine sq ?_
  refine .al hs ?_; clear hs; intro p_b2 w_4 hs n4 kb_b2
  refine sq ?_
  refine .s4 hs.g0 (fun _ => hs.u0 kb_b2) ?_; clear hs; intro w_5 hs hd5 ho5
  refine sq ?_
  refine .mv ?_
  apply wpSq_end
  refine hK4 _ _ ?_
  refine wp_seq_k ?_
  intro K5 hK5
  refine wp_seq_k ?_
  intro K6 hK6
  refine rg [0, 1] ?_
  refine sq ?_
  refine .mv ?_
  refine sq ?_
  refine .r0 ?_
  apply wpSq_end
  refine hK6 _ _ ?_
  refine cf ?_
  refine wp_skip ?_
  refine hK5 _ _ ?_
  refine wp_seq_k ?_
  intro K7 hK7
  refine rg [0, 1, 2, 3, 4, 5, 6, 7] ?_
  refine sq ?_
  refine .mv ?_
  refine sq ?_
  intro K hK
  have hb := hs.b
  go_big_op
  go_fit (det_ok (HB.out.bl stab_n hb) hnb HGB.out HKB.out HMB.out (by decide) (by decide))
  rintro e w_6 ⟨_, rfl, ⟨n_ya, o_ya, k_ya, c_ya, n_yb, o_yb, k_yb, c_yb, rfl, y1, y2⟩, hb_6⟩
  clear hb
  replace hs := hs.bl hb_6
  have Ly1 := hide (y1.lenOf (LB.out.1))
  have Ly2 := hide (y2.lenOf (LB.out.2))
  refine hK _ _ rfl trivial ?_
  clear hK K
  refine sq ?_
  refine .mv ?_
  refine sq ?_
  refine .r0 ?_
  refine sq ?_
  refine .r0 ?_
  refine sq ?_
  refine .al hs ?_; clear hs; intro p_b3 w_7 hs n7 kb_b3
  refine sq ?_
  refine .s4 hs.g0 (fun _ => hs.u0 kb_b3) ?_; clear hs; intro w_8 hs hd8 ho8
  refine sq ?_
  refine .mv ?_
  apply wpSq_end
  refine hK7 _ _ ?_
  refine wp_seq_k ?_
  intro K8 hK8
  refine rg [0, 1, 2, 3, 4, 5, 6, 7] ?_
  refine sq ?_
  refine .mv ?_
  refine sq ?_
  refine .mv ?_
  refine sq ?_
  intro K hK
  have hb := hs.b
  go_big_op
  go_fit (mxmt (mMul_ok (HA.out.bl stab_n hb) (HB.out.bl stab_n hb) hna hnb HML.out (by decide) (by decide)))
  rintro e w_9 ⟨o_P, c_P, rfl, m_P, hb_9⟩
  clear hb
  replace hs := hs.bl hb_9
  refine hK _ _ rfl trivial ?_
  clear hK K
  refine sq ?_
  refine .mv ?_
  refine sq ?_
  refine .r0 ?_
  refine sq ?_
  refine .r0 ?_
  refine sq ?_
  refine .mv ?_
  refine sq ?_
  refine .mv ?_
  apply wpSq_end
  refine hK8 _ _ ?_
  refine wp_seq_k ?_
  intro K9 hK9
  refine wp_seq_k ?_
  intro K10 hK10
  refine rg [0, 1, 2, 3, 4, 5, 6, 7, 8, 9, 10, 11, 12] ?_
  refine sq ?_
  refine .mv ?_
  refine sq ?_
  refine .r0 ?_
  refine sq ?_
  refine .mv ?_
  refine sq ?_
  refine .mv ?_
  refine sq ?_
  refine .r0 ?_
  refine sq ?_
  refine .r0 ?_
  refine sq ?_
  refine .mv ?_
  refine sq ?_
  refine .mv ?_
  refine sq ?_
  refine .r0 ?_
  refine sq ?_
  refine .mv ?_
  refine sq ?_
  refine .r0 ?_
  refine sq ?_
  refine .r0 ?_
  refine sq ?_
  refine .r0 ?_
  apply wpSq_end
  refine hK10 _ _ ?_
  refine ct ?_
  refine wp_seq_k ?_
  intro K11 hK11
  refine rg [0, 1, 2, 3, 4, 5, 6, 7] ?_
  refine sq ?_
  refine .mv ?_
  refine sq ?_
  intro K hK
  go_big_op
  go_fit (det_ok (m_P.mn BQ.out) LQ.out GQ.out WQ.out HMP.out (by decide) (by decide))
  rintro e w_10 ⟨_, rfl, ⟨n_za, o_za, k_za, c_za, n_zb, o_zb, k_zb, c_zb, rfl, z1, z2⟩, hb_10⟩
  replace m_P := m_P.bl hb_10; replace hs := hs.bl hb_10
  have Lz1 := hide (z1.lenOf (LZ.out.1))
  have Lz2 := hide (z2.lenOf (LZ.out.2))
  refine hK _ _ rfl trivial ?_
  clear hK K
  refine sq ?_
  refine .mv ?_
  refine sq ?_
  refine .r0 ?_
  refine sq ?_
  refine .r0 ?_
  refine sq ?_
  refine .al hs ?_; clear hs; intro p_b4 w_11 hs n11 kb_b4
  refine sq ?_
  refine .s4 hs.g0 (fun _ => hs.u0 kb_b4) ?_; clear hs; intro w_12 hs hd12 ho12
  refine sq ?_
  refine .mv ?_
  apply wpSq_end
  refine hK11 _ _ ?_
  refine wp_seq_k ?_
  intro K12 hK12
  refine wp_region_f4 [(0, false), (1, false), (2, false), (3, false), (4, false), (5, false), (6, true), (7, true), (8, false), (9, false)] [] [] (fun _ => default) [99, 99, 99, 0, 1, 2, 99, 99, 99, 99] [] (.c hs.g0 (.c hs.g2 (.c hs.g1 .n))) fn fun w_13 n13 => ?_
  replace hs := hs.bl n13
  refine fmv ?_
  refine f0 ?_
  refine fmv ?_
  refine f4 ?_
  refine f4 ?_
  refine f4 ?_
  refine fl fun w_14 n14 => ?_
  replace hs := hs.bl n14
  intro K hK
  have k3_14 := ((((((((((kb n4).o hd5 ho5).b hb_6).b n7).o hd8 ho8).b hb_9).b hb_10).b n11).o hd12 ho12).b n13).b n14
  replace x1 := x1.k k3_14
  replace x2 := x2.k k3_14
  have k6_14 := (((((((kb n7).o hd8 ho8).b hb_9).b hb_10).b n11).o hd12 ho12).b n13).b n14
  replace y1 := y1.k k6_14
  replace y2 := y2.k k6_14
  go_big_op
  go_fit (gMul_any (.mk' (x1.zn Lx1.out) (x2.zn Lx2.out)) (.mk' (y1.zn Ly1.out) (y2.zn Ly2.out)) (by decide) (by decide) (by decide) (by decide))
  rintro e w_15 ⟨_, rfl, ⟨n_ma, o_ma, k_ma, c_ma, n_mb, o_mb, k_mb, c_mb, rfl, m1, m2⟩, hb_15⟩
  replace hs := hs.bl hb_15
  have Lm1 := hide (m1.lenOf (LM1.out))
  have Lm2 := hide (m2.lenOf (LM2.out))
  refine hK _ _ rfl ⟨hb_15, (And.intro hs.g0 (And.intro hs.g2 (And.intro hs.g1 trivial)))⟩ ?_
  clear hK K
  refine fl fun w_16 n16 => ?_
  replace hs := hs.bl n16
  intro K hK
  have k10_16 := (((((kb n11).o hd12 ho12).b n13).b n14).b hb_15).b n16
  replace z1 := z1.k k10_16
  replace z2 := z2.k k10_16
  have k15_16 := kb n16
  replace m1 := m1.k k15_16
  replace m2 := m2.k k15_16
  go_big_op
  go_fit (gEqual_yes (.mk' (z1.zn Lz1.out) (z2.zn Lz2.out)) (.mk' (m1.zn Lm1.out) (m2.zn Lm2.out)) (by decide) (by decide) (by decide) (by decide) HD1.out HD2.out)
  rintro e w_17 ⟨rfl, hb_17⟩
  replace hs := hs.bl hb_17
  refine hK _ _ rfl ⟨hb_17, (And.intro hs.g0 (And.intro hs.g2 (And.intro hs.g1 trivial)))⟩ ?_
  clear hK K
  refine f0 ?_
  refine f0 ?_
  refine e0 hs ?_; clear hs; intro w_18 hs n18
  apply wpTail_end
  refine hK12 _ _ ?_
  refine cf ?_
  refine wp_skip ?_
  refine hK9 _ _ ?_
  refine wp_seq_k ?_
  intro K13 hK13
  refine rg [0, 1, 2, 3, 4, 5, 6, 7, 8] ?_
  refine sq ?_
  refine .mv ?_
  refine sq ?_
  refine .mv ?_
  refine sq ?_
  refine .mv ?_
  refine sq ?_
  intro K hK
  have hb := hs.b
  go_big_op
  go_fit (mxmt (mSwap_ok (HA.out.bl stab_n hb) hna HG.out HK.out HI.out HI.out (by decide)))
  rintro e w_19 ⟨o_S, c_S, rfl, m_S, hb_19⟩
  clear hb
  clear m_P m1 m2 y1 y2 z1 z2
  replace hs := hs.bl hb_19
  refine hK _ _ rfl trivial ?_
  clear hK K
  refine sq ?_
  refine .mv ?_
  refine sq ?_
  refine .r0 ?_
  refine sq ?_
  refine .r0 ?_
  refine sq ?_
  refine .mv ?_
  refine sq ?_
  refine .mv ?_
  apply wpSq_end
  refine hK13 _ _ ?_
  refine wp_seq_k ?_
  intro K14 hK14
  refine wp_seq_k ?_
  intro K15 hK15
  refine rg [0, 1, 2, 3, 4, 5, 6] ?_
  refine sq ?_
  refine .mv ?_
  refine sq ?_
  refine .r0 ?_
  refine sq ?_
  refine .mv ?_
  refine sq ?_
  refine .mv ?_
  refine sq ?_
  refine .mv ?_
  refine sq ?_
  refine .r0 ?_
  refine sq ?_
  refine .r0 ?_
  apply wpSq_end
  refine hK15 _ _ ?_
  refine cf ?_
  refine wp_skip ?_
  refine hK14 _ _ ?_
  refine wp_seq_k ?_
  intro K16 hK16
  refine rg [0, 1, 2, 3, 4, 5, 6] ?_
  refine sq ?_
  refine .mv ?_
  refine sq ?_
  intro K hK
  have hb := hs.b
  go_big_op
  go_fit (mxmt (adjugate_ok (HA.out.bl stab_n hb) hna HG.out HK.out HC.out (by decide) (by decide)))
  rintro e w_20 ⟨o_J, c_J, rfl, m_J, hb_20⟩
  clear hb
  replace hs := hs.bl hb_20
  refine hK _ _ rfl trivial ?_
  clear hK K
  refine sq ?_
  refine .mv ?_
  refine sq ?_
  refine .r0 ?_
  refine sq ?_
  refine .r0 ?_
  refine sq ?_
  refine .mv ?_
  refine sq ?_
  refine .mv ?_
  apply wpSq_end
  refine hK16 _ _ ?_
  refine wp_seq_k ?_
  intro K17 hK17
  refine rg [0, 1, 2, 3, 4, 5, 6, 7] ?_
  refine sq ?_
  refine .mv ?_
  refine sq ?_
  refine .mv ?_
  refine sq ?_
  intro K hK
  have hb := hs.b
  go_big_op
  go_fit (mxmt (mMul_ok (HA.out.bl stab_n hb) (m_J.mn BJ.out) hna len_mkM MJ.out (by decide) (by decide)))
  rintro e w_21 ⟨o_D, c_D, rfl, m_D, hb_21⟩
  clear hb
  replace m_J := m_J.bl hb_21; replace hs := hs.bl hb_21
  refine hK _ _ rfl trivial ?_
  clear hK K
  refine sq ?_
  refine .mv ?_
  refine sq ?_
  refine .r0 ?_
  refine sq ?_
  refine .r0 ?_
  refine sq ?_
  refine .mv ?_
  refine sq ?_
  refine .mv ?_
  apply wpSq_end
  refine hK17 _ _ ?_
  refine wp_seq_k ?_
  intro K18 hK18
  refine rg [0, 1, 2, 3, 4, 5, 6, 7] ?_
  refine sq ?_
  refine .mv ?_
  refine sq ?_
  refine .r0 ?_
  refine sq ?_
  intro K hK
  go_big_op
  go_fit (mxmt (mIdent_ok n64))
  rintro e w_22 ⟨o_O, c_O, rfl, m_O, hb_22⟩
  replace m_D := m_D.bl hb_22; replace hs := hs.bl hb_22
  refine hK _ _ rfl trivial ?_
  clear hK K
  refine sq ?_
  refine .mv ?_
  refine sq ?_
  refine .r0 ?_
  refine sq ?_
  refine .r0 ?_
  refine sq ?_
  refine .mv ?_
  refine sq ?_
  refine .mv ?_
  apply wpSq_end
  refine hK18 _ _ ?_
  refine wp_seq_k ?_
  intro K19 hK19
  refine rg [0, 1, 2, 3, 4, 5, 6, 7] ?_
  refine sq ?_
  refine .mv ?_
  refine sq ?_
  refine .r4 hs.g2.f4 ?_
  refine sq ?_
  intro K hK
  have k14_22 := (((((((kb hb_15).b n16).b hb_17).b n18).b hb_19).b hb_20).b hb_21).b hb_22
  replace x1 := x1.k k14_22
  replace x2 := x2.k k14_22
  go_big_op
  go_fit (mxmt (mScale_ok (m_O.mn B1.out) (.mk' (x1.zn Lx1.out) (x2.zn Lx2.out)) len_mkM G1.out (by decide) (by decide)))
  rintro e w_23 ⟨o_W, c_W, rfl, m_W, hb_23⟩
  replace m_D := m_D.bl hb_23; replace m_O := m_O.bl hb_23; replace hs := hs.bl hb_23
  rw [W1.out] at m_W
  refine hK _ _ rfl trivial ?_
  clear hK K
  refine sq ?_
  refine .mv ?_
  refine sq ?_
  refine .r0 ?_
  refine sq ?_
  refine .r0 ?_
  refine sq ?_
  refine .mv ?_
  refine sq ?_
  refine .mv ?_
  apply wpSq_end
  refine hK19 _ _ ?_
  refine wp_seq_k ?_
  intro K20 hK20
  refine rg [0, 1, 2, 3, 4, 5, 6, 7, 8, 9, 10, 11, 12, 13, 14, 15, 16, 17, 18, 19] ?_
  refine sq ?_
  refine .mv ?_
  refine sq ?_
  refine .r0 ?_
  refine sq ?_
  refine .mv ?_
  refine sq ?_
  refine .mv ?_
  refine sq ?_
  refine .r0 ?_
  refine sq ?_
  refine .r0 ?_
  refine sq ?_
  refine .mv ?_
  refine sq ?_
  refine .mv ?_
  refine sq ?_
  refine .r0 ?_
  refine sq ?_
  refine .r0 ?_
  refine sq ?_
  refine .mv ?_
  refine sq ?_
  refine .mv ?_
  refine sq ?_
  refine .r0 ?_
  refine sq ?_
  refine .r0 ?_
  refine sq ?_
  refine .mv ?_
  refine sq ?_
  refine .mv ?_
  refine sq ?_
  refine .mv ?_
  refine sq ?_
  intro K hK
  go_big_op
  go_fit (mEqual_any (m_D.mn BP.out) (m_W.mn BW.out) LP.out len_mkM (by omega) (by omega) (by decide) (by decide))
  rintro e w_24 ⟨rfl, hb_24⟩
  clear hq1 hq2 m_S m_J x1 x2 m_O
  replace m_D := m_D.bl hb_24; replace m_W := m_W.bl hb_24; replace hs := hs.bl hb_24
  rw [decide_eq_true HE.out]
  refine hK _ _ rfl trivial ?_
  clear hK K
  refine sq ?_
  refine .r0 ?_
  refine sq ?_
  refine .mv ?_
  apply wpSq_end
  refine hK20 _ _ ?_
  refine wp_ret ?_
  try dsimp only [Exit.then, Exit.inBlock]
  refine bodyPost_ret (v := (.bool true)) (by simp [results, Tryz.results4, go_sem]) rfl ?_
  exact ⟨rfl, hs.b⟩
set_option maxHeartbeats 4000000 in
set_option maxRecDepth 20000 in
theorem al_13 (ha : MN 1048576 w oa A) (hb' : MN 1048576 w ob B) (hq : PN w vg u l v l) (hl : l = 1048576) (hna : A.length = na) (hnb : B.length = nb) (la : na ≤ 1048576) (lb : nb ≤ 1048576) (ta : Tot 1048576 A) (tb : Tot 1048576 B) (h : gd A) (hk : wd A = na) (h2 : gd B ∧ wd B = nb) (h3 : nb = na) (hi : ¬ ((0 ≤ a ∧ a < (na : Int)) ∧ (0 ≤ b ∧ b < (na : Int)))) :
    Calls Tryz.prog 4 #[.slice oa na ca, .slice ob nb cb, .int .i64 a, .int .i64 b, vg] w fun e w' => e = .returned (.bool true) ∧ Below w.heap.size w w' := by
  have n64 : na ≤ 64 := by have := h.1; omega
  have HA := hide ha
  have HB := hide hb'
  have HG := hide h
  have HK := hide hk
  have HM := hide (show MinB na na 1050641 (at2 A) from fun s f g h1 h2 => zl_up (ta.minB (W := na) hna n64 s f g h1 h2) (by omega))
  have HC := hide (show MinB (na + na) (na + na) 1050641 (brd na (at2 A)) from ta.brd hna n64)
  have LD := hide (show zl 1050641 (Dt.det na (at2 A)) from HM.out na id id (fun r hr => ⟨hr, hr⟩) (fun r q h _ => by simp only [id]; omega))
  have BJ := hide (show BdM 1050641 (mkM na na (adjE na (at2 A))) from bdM_mk fun i hi j hj => zl_adjE HC.out hi hj)
  have GJ := hide (show gd (mkM na na (adjE na (at2 A))) from gd_mkM n64 n64)
  have MJ := hide (show ml2 A (mkM na na (adjE na (at2 A))) from ⟨h, GJ.out, by rw [len_mkM]; exact hk⟩)
  have BP := hide (show BdM 3000000 (mulM A (mkM na na (adjE na (at2 A)))) from bdM_up (bd_mulM ha.bd BJ.out) (by rw [len_mkM]; omega))
  have LP := hide (show (mulM A (mkM na na (adjE na (at2 A)))).length = na from len_mulM.trans hna)
  have B1 := hide (show BdM 1 (mkM na na one2) from bdM_mk fun i _ j _ => zl_one2 0 i j)
  have G1 := hide (show gd (mkM na na one2) from gd_mkM n64 n64)
  have W1 := hide (show wd (mkM na na one2) = na from wd_mkM (by omega))
  have BW := hide (show BdM 3000000 (mkM na na fun i j => mP (at2 (mkM na na one2) i j) (Dt.det na (at2 A))) from bdM_mk fun i _ j _ => zl_up (zl_mP (at2_bd B1.out) LD.out) (by omega))
  have HE := hide (mulM_adj h hna hk)
  have HGB := hide h2.1
  have HKB := hide (h2.2.trans h3)
  have HNB := hide (hnb.trans h3)
  have HML := hide (show ml2 A B from ⟨h, h2.1, by rw [hk, hnb, h3]⟩)
  have HMB := hide (show MinB na na 1050641 (at2 B) from fun s f g h4 h5 => zl_up (tb.minB (W := na) (hnb.trans h3) n64 s f g h4 h5) (by omega))
  have LB := hide (show zl 1050641 (Dt.det na (at2 B)) from HMB.out na id id (fun r hr => ⟨hr, hr⟩) (fun r q h _ => by simp only [id]; omega))
  have HMP := hide (show MinB na na 2200000 (at2 (mulM A B)) from fun s f g h4 h5 => zl_up (mulM_minB ta hna n64 (hnb.trans h3) (h2.2.trans h3) HMB.out s f g h4 h5) (by omega))
  have BQ := hide (show BdM 3000000 (mulM A B) from bdM_up (bd_mulM ha.bd hb'.bd) (by omega))
  have LQ := hide (show (mulM A B).length = na from len_mulM.trans hna)
  have GQ := hide (gd_mulM HML.out)
  have WQ := hide (show wd (mulM A B) = na from (ml2_wd HML.out).trans (h2.2.trans h3))
  have LZ := hide (show zl 2200000 (Dt.det na (at2 (mulM A B))) from HMP.out na id id (fun r hr => ⟨hr, hr⟩) (fun r q h _ => by simp only [id]; omega))
  have HDP := hide (show Dt.det na (at2 (mulM A B)) = Dt.det na (at2 A) * Dt.det na (at2 B) from det_mulM hna (hnb.trans h3) (h2.2.trans h3))
  have HD1 := hide (show (Dt.det na (at2 (mulM A B))).1 = (Dt.det na (at2 A)).1 * (Dt.det na (at2 B)).1 - (Dt.det na (at2 A)).2 * (Dt.det na (at2 B)).2 by rw [HDP.out]; rfl)
  have HD2 := hide (show (Dt.det na (at2 (mulM A B))).2 = (Dt.det na (at2 A)).1 * (Dt.det na (at2 B)).2 + (Dt.det na (at2 A)).2 * (Dt.det na (at2 B)).1 by rw [HDP.out]; rfl)
  have LM1 := hide (show (dig ((Dt.det na (at2 A)).1 * (Dt.det na (at2 B)).1 - (Dt.det na (at2 A)).2 * (Dt.det na (at2 B)).2).natAbs).length ≤ 2200000 by rw [← HD1.out]; exact LZ.out.1)
  have LM2 := hide (show (dig ((Dt.det na (at2 A)).1 * (Dt.det na (at2 B)).2 + (Dt.det na (at2 A)).2 * (Dt.det na (at2 B)).1).natAbs).length ≤ 2200000 by rw [← HD2.out]; exact LZ.out.2)
  have t3 : ((na : Int) == (na : Int)) = true := by simp
  have HIA := hide hi
  clear ha hb' h hk h2 ta tb
  subst h3
  obtain ⟨n_4a, o_4a, k_4a, c_4a, n_4b, o_4b, k_4b, c_4b, rfl, hq1, hq2⟩ := hq
  go_enter Tryz.func4, Tryz.ntmps4
  have hs := St.nil w
  refine wp_seq_k ?_
  intro K1 hK1
  refine rg [0, 1] ?_
  refine sq ?_
  refine .al hs ?_; clear hs; intro p_b1 w_1 hs n1 kb_b1
  refine sq ?_
  refine .mv ?_
  apply wpSq_end
  refine hK1 _ _ ?_
  refine wp_seq_k ?_
  intro K2 hK2
  refine wp_seq_k ?_
  intro K3 hK3
  refine rg [0, 1] ?_
  refine sq ?_
  intro K hK
  go_big_op
  go_fit (awake9_any _)
  rintro e w_2 ⟨rfl, hb_2⟩
  replace hs := hs.bl hb_2
  refine hK _ _ rfl trivial ?_
  clear hK K
  refine sq ?_
  refine .r0 ?_
  apply wpSq_end
  refine hK3 _ _ ?_
  refine cf ?_
  refine wp_skip ?_
  refine hK2 _ _ ?_
  refine wp_seq_k ?_
  intro K4 hK4
  refine rg [0, 1, 2, 3, 4, 5, 6, 7] ?_
  refine sq ?_
  refine .mv ?_
  refine sq ?_
  intro K hK
  have hb := hs.b
  go_big_op
  go_fit (det_ok (HA.out.bl stab_n hb) hna HG.out HK.out HM.out (by decide) (by decide))
  rintro e w_3 ⟨_, rfl, ⟨n_xa, o_xa, k_xa, c_xa, n_xb, o_xb, k_xb, c_xb, rfl, x1, x2⟩, hb_3⟩
  clear hb
  replace hs := hs.bl hb_3
  have Lx1 := hide (x1.lenOf (LD.out.1))
  have Lx2 := hide (x2.lenOf (LD.out.2))
  refine hK _ _ rfl trivial ?_
  clear hK K
  refine sq ?_
  refine .mv ?_
  refine sq ?_
  refine .r0 ?_
  refine sq ?_
  refine .r0 ?_
  refine sq ?_
  refine .al hs ?_; clear hs; intro p_b2 w_4 hs n4 kb_b2
  refine sq ?_
  refine .s4 hs.g0 (fun _ => hs.u0 kb_b2) ?_; clear hs; intro w_5 hs hd5 ho5
  refine sq ?_
  refine .mv ?_
  apply wpSq_end
  refine hK4 _ _ ?_
  refine wp_seq_k ?_
  intro K5 hK5
  refine wp_seq_k ?_
  intro K6 hK6
  refine rg [0, 1] ?_
  refine sq ?_
  refine .mv ?_
  refine sq ?_
  refine .r0 ?_
  apply wpSq_end
  refine hK6 _ _ ?_
  refine cf ?_
  refine wp_skip ?_
  refine hK5 _ _ ?_
  refine wp_seq_k ?_
  intro K7 hK7
  refine rg [0, 1, 2, 3, 4, 5, 6, 7] ?_
  refine sq ?_
  refine .mv ?_
  refine sq ?_
  intro K hK
  have hb := hs.b
  go_big_op
  go_fit (det_ok (HB.out.bl stab_n hb) hnb HGB.out HKB.out HMB.out (by decide) (by decide))
  rintro e w_6 ⟨_, rfl, ⟨n_ya, o_ya, k_ya, c_ya, n_yb, o_yb, k_yb, c_yb, rfl, y1, y2⟩, hb_6⟩
  clear hb
  replace hs := hs.bl hb_6
  have Ly1 := hide (y1.lenOf (LB.out.1))
  have Ly2 := hide (y2.lenOf (LB.out.2))
  refine hK _ _ rfl trivial ?_
  clear hK K
  refine sq ?_
  refine .mv ?_
  refine sq ?_
  refine .r0 ?_
  refine sq ?_
  refine .r0 ?_
  refine sq ?_
  refine .al hs ?_; clear hs; intro p_b3 w_7 hs n7 kb_b3
  refine sq ?_
  refine .s4 hs.g0 (fun _ => hs.u0 kb_b3) ?_; clear hs; intro w_8 hs hd8 ho8
  refine sq ?_
  refine .mv ?_
  apply wpSq_end
  refine hK7 _ _ ?_
  refine wp_seq_k ?_
  intro K8 hK8
  refine rg [0, 1, 2, 3, 4, 5, 6, 7] ?_
  refine sq ?_
  refine .mv ?_
  refine sq ?_
  refine .mv ?_
  refine sq ?_
  intro K hK
  have hb := hs.b
  go_big_op
  go_fit (mxmt (mMul_ok (HA.out.bl stab_n hb) (HB.out.bl stab_n hb) hna hnb HML.out (by decide) (by decide)))
  rintro e w_9 ⟨o_P, c_P, rfl, m_P, hb_9⟩
  clear hb
  replace hs := hs.bl hb_9
  refine hK _ _ rfl trivial ?_
  clear hK K
  refine sq ?_
  refine .mv ?_
  refine sq ?_
  refine .r0 ?_
  refine sq ?_
  refine .r0 ?_
  refine sq ?_
  refine .mv ?_
  refine sq ?_
  refine .mv ?_
  apply wpSq_end
  refine hK8 _ _ ?_
  refine wp_seq_k ?_
  intro K9 hK9
  refine wp_seq_k ?_
  intro K10 hK10
  refine rg [0, 1, 2, 3, 4, 5, 6, 7, 8, 9, 10, 11, 12] ?_
  refine sq ?_
  refine .mv ?_
  refine sq ?_
  refine .r0 ?_
  refine sq ?_
  refine .mv ?_
  refine sq ?_
  refine .mv ?_
  refine sq ?_
  refine .r0 ?_
  refine sq ?_
  refine .r0 ?_
  refine sq ?_
  refine .mv ?_
  refine sq ?_
  refine .mv ?_
  refine sq ?_
  refine .r0 ?_
  refine sq ?_
  refine .mv ?_
  refine sq ?_
  refine .r0 ?_
  refine sq ?_
  refine .r0 ?_
  refine sq ?_
  refine .r0 ?_
  apply wpSq_end
  refine hK10 _ _ ?_
  refine ct ?_
  refine wp_seq_k ?_
  intro K11 hK11
  refine rg [0, 1, 2, 3, 4, 5, 6, 7] ?_
  refine sq ?_
  refine .mv ?_
  refine sq ?_
  intro K hK
  go_big_op
  go_fit (det_ok (m_P.mn BQ.out) LQ.out GQ.out WQ.out HMP.out (by decide) (by decide))
  rintro e w_10 ⟨_, rfl, ⟨n_za, o_za, k_za, c_za, n_zb, o_zb, k_zb, c_zb, rfl, z1, z2⟩, hb_10⟩
  replace m_P := m_P.bl hb_10; replace hs := hs.bl hb_10
  have Lz1 := hide (z1.lenOf (LZ.out.1))
  have Lz2 := hide (z2.lenOf (LZ.out.2))
  refine hK _ _ rfl trivial ?_
  clear hK K
  refine sq ?_
  refine .mv ?_
  refine sq ?_
  refine .r0 ?_
  refine sq ?_
  refine .r0 ?_
  refine sq ?_
  refine .al hs ?_; clear hs; intro p_b4 w_11 hs n11 kb_b4
  refine sq ?_
  refine .s4 hs.g0 (fun _ => hs.u0 kb_b4) ?_; clear hs; intro w_12 hs hd12 ho12
  refine sq ?_
  refine .mv ?_
  apply wpSq_end
  refine hK11 _ _ ?_
  refine wp_seq_k ?_
  intro K12 hK12
  refine wp_region_f4 [(0, false), (1, false), (2, false), (3, false), (4, false), (5, false), (6, true), (7, true), (8, false), (9, false)] [] [] (fun _ => default) [99, 99, 99, 0, 1, 2, 99, 99, 99, 99] [] (.c hs.g0 (.c hs.g2 (.c hs.g1 .n))) fn fun w_13 n13 => ?_
  replace hs := hs.bl n13
  refine fmv ?_
  refine f0 ?_
  refine fmv ?_
  refine f4 ?_
  refine f4 ?_
  refine f4 ?_
  refine fl fun w_14 n14 => ?_
  replace hs := hs.bl n14
  intro K hK
  have k3_14 := ((((((((((kb n4).o hd5 ho5).b hb_6).b n7).o hd8 ho8).b hb_9).b hb_10).b n11).o hd12 ho12).b n13).b n14
  replace x1 := x1.k k3_14
  replace x2 := x2.k k3_14
  have k6_14 := (((((((kb n7).o hd8 ho8).b hb_9).b hb_10).b n11).o hd12 ho12).b n13).b n14
  replace y1 := y1.k k6_14
  replace y2 := y2.k k6_14
  go_big_op
  go_fit (gMul_any (.mk' (x1.zn Lx1.out) (x2.zn Lx2.out)) (.mk' (y1.zn Ly1.out) (y2.zn Ly2.out)) (by decide) (by decide) (by decide) (by decide))
  rintro e w_15 ⟨_, rfl, ⟨n_ma, o_ma, k_ma, c_ma, n_mb, o_mb, k_mb, c_mb, rfl, m1, m2⟩, hb_15⟩
  replace hs := hs.bl hb_15
  have Lm1 := hide (m1.lenOf (LM1.out))
  have Lm2 := hide (m2.lenOf (LM2.out))
  refine hK _ _ rfl ⟨hb_15, (And.intro hs.g0 (And.intro hs.g2 (And.intro hs.g1 trivial)))⟩ ?_
  clear hK K
  refine fl fun w_16 n16 => ?_
  replace hs := hs.bl n16
  intro K hK
  have k10_16 := (((((kb n11).o hd12 ho12).b n13).b n14).b hb_15).b n16
  replace z1 := z1.k k10_16
  replace z2 := z2.k k10_16
  have k15_16 := kb n16
  replace m1 := m1.k k15_16
  replace m2 := m2.k k15_16
  go_big_op
  go_fit (gEqual_yes (.mk' (z1.zn Lz1.out) (z2.zn Lz2.out)) (.mk' (m1.zn Lm1.out) (m2.zn Lm2.out)) (by decide) (by decide) (by decide) (by decide) HD1.out HD2.out)
  rintro e w_17 ⟨rfl, hb_17⟩
  replace hs := hs.bl hb_17
  refine hK _ _ rfl ⟨hb_17, (And.intro hs.g0 (And.intro hs.g2 (And.intro hs.g1 trivial)))⟩ ?_
  clear hK K
  refine f0 ?_
  refine f0 ?_
  refine e0 hs ?_; clear hs; intro w_18 hs n18
  apply wpTail_end
  refine hK12 _ _ ?_
  refine cf ?_
  refine wp_skip ?_
  refine hK9 _ _ ?_
  refine wp_seq_k ?_
  intro K13 hK13
  refine rg [0, 1, 2, 3, 4, 5, 6, 7, 8] ?_
  refine sq ?_
  refine .mv ?_
  refine sq ?_
  refine .mv ?_
  refine sq ?_
  refine .mv ?_
  refine sq ?_
  intro K hK
  have hb := hs.b
  go_big_op
  go_fit (mSwap_arg (HA.out.bl stab_n hb) hna HG.out (by decide) HIA.out)
  rintro e w_19 ⟨rfl, hb_19⟩
  clear hb
  clear m_P m1 m2 y1 y2 z1 z2
  replace hs := hs.bl hb_19
  refine hK _ _ rfl trivial ?_
  clear hK K
  refine sq ?_
  refine .mv ?_
  refine sq ?_
  refine .r0 ?_
  refine sq ?_
  refine .r0 ?_
  refine sq ?_
  refine .mv ?_
  refine sq ?_
  refine .mv ?_
  apply wpSq_end
  refine hK13 _ _ ?_
  refine wp_seq_k ?_
  intro K14 hK14
  refine wp_seq_k ?_
  intro K15 hK15
  refine rg [0, 1, 2, 3, 4, 5, 6] ?_
  refine sq ?_
  refine .mv ?_
  refine sq ?_
  refine .r0 ?_
  refine sq ?_
  refine .mv ?_
  refine sk ?_
  refine sk ?_
  refine sk ?_
  refine sq ?_
  refine .r0 ?_
  apply wpSq_end
  refine hK15 _ _ ?_
  refine cf ?_
  refine wp_skip ?_
  refine hK14 _ _ ?_
  refine wp_seq_k ?_
  intro K16 hK16
  refine rg [0, 1, 2, 3, 4, 5, 6] ?_
  refine sq ?_
  refine .mv ?_
  refine sq ?_
  intro K hK
  have hb := hs.b
  go_big_op
  go_fit (mxmt (adjugate_ok (HA.out.bl stab_n hb) hna HG.out HK.out HC.out (by decide) (by decide)))
  rintro e w_20 ⟨o_J, c_J, rfl, m_J, hb_20⟩
  clear hb
  replace hs := hs.bl hb_20
  refine hK _ _ rfl trivial ?_
  clear hK K
  refine sq ?_
  refine .mv ?_
  refine sq ?_
  refine .r0 ?_
  refine sq ?_
  refine .r0 ?_
  refine sq ?_
  refine .mv ?_
  refine sq ?_
  refine .mv ?_
  apply wpSq_end
  refine hK16 _ _ ?_
  refine wp_seq_k ?_
  intro K17 hK17
  refine rg [0, 1, 2, 3, 4, 5, 6, 7] ?_
  refine sq ?_
  refine .mv ?_
  refine sq ?_
  refine .mv ?_
  refine sq ?_
  intro K hK
  have hb := hs.b
  go_big_op
  go_fit (mxmt (mMul_ok (HA.out.bl stab_n hb) (m_J.mn BJ.out) hna len_mkM MJ.out (by decide) (by decide)))
  rintro e w_21 ⟨o_D, c_D, rfl, m_D, hb_21⟩
  clear hb
  replace m_J := m_J.bl hb_21; replace hs := hs.bl hb_21
  refine hK _ _ rfl trivial ?_
  clear hK K
  refine sq ?_
  refine .mv ?_
  refine sq ?_
  refine .r0 ?_
  refine sq ?_
  refine .r0 ?_
  refine sq ?_
  refine .mv ?_
  refine sq ?_
  refine .mv ?_
  apply wpSq_end
  refine hK17 _ _ ?_
  refine wp_seq_k ?_
  intro K18 hK18
  refine rg [0, 1, 2, 3, 4, 5, 6, 7] ?_
  refine sq ?_
  refine .mv ?_
  refine sq ?_
  refine .r0 ?_
  refine sq ?_
  intro K hK
  go_big_op
  go_fit (mxmt (mIdent_ok n64))
  rintro e w_22 ⟨o_O, c_O, rfl, m_O, hb_22⟩
  replace m_D := m_D.bl hb_22; replace hs := hs.bl hb_22
  refine hK _ _ rfl trivial ?_
  clear hK K
  refine sq ?_
  refine .mv ?_
  refine sq ?_
  refine .r0 ?_
  refine sq ?_
  refine .r0 ?_
  refine sq ?_
  refine .mv ?_
  refine sq ?_
  refine .mv ?_
  apply wpSq_end
  refine hK18 _ _ ?_
  refine wp_seq_k ?_
  intro K19 hK19
  refine rg [0, 1, 2, 3, 4, 5, 6, 7] ?_
  refine sq ?_
  refine .mv ?_
  refine sq ?_
  refine .r4 hs.g2.f4 ?_
  refine sq ?_
  intro K hK
  have k14_22 := (((((((kb hb_15).b n16).b hb_17).b n18).b hb_19).b hb_20).b hb_21).b hb_22
  replace x1 := x1.k k14_22
  replace x2 := x2.k k14_22
  go_big_op
  go_fit (mxmt (mScale_ok (m_O.mn B1.out) (.mk' (x1.zn Lx1.out) (x2.zn Lx2.out)) len_mkM G1.out (by decide) (by decide)))
  rintro e w_23 ⟨o_W, c_W, rfl, m_W, hb_23⟩
  replace m_D := m_D.bl hb_23; replace m_O := m_O.bl hb_23; replace hs := hs.bl hb_23
  rw [W1.out] at m_W
  refine hK _ _ rfl trivial ?_
  clear hK K
  refine sq ?_
  refine .mv ?_
  refine sq ?_
  refine .r0 ?_
  refine sq ?_
  refine .r0 ?_
  refine sq ?_
  refine .mv ?_
  refine sq ?_
  refine .mv ?_
  apply wpSq_end
  refine hK19 _ _ ?_
  refine wp_seq_k ?_
  intro K20 hK20
  refine rg [0, 1, 2, 3, 4, 5, 6, 7, 8, 9, 10, 11, 12, 13, 14, 15, 16, 17, 18, 19] ?_
  refine sq ?_
  refine .mv ?_
  refine sq ?_
  refine .r0 ?_
  refine sq ?_
  refine .mv ?_
  refine sq ?_
  refine .mv ?_
  refine sq ?_
  refine .r0 ?_
  refine sq ?_
  refine .r0 ?_
  refine sq ?_
  refine .mv ?_
  refine sq ?_
  refine .mv ?_
  refine sq ?_
  refine .r0 ?_
  refine sq ?_
  refine .r0 ?_
  refine sq ?_
  refine .mv ?_
  refine sq ?_
  refine .mv ?_
  refine sq ?_
  refine .r0 ?_
  refine sq ?_
  refine .r0 ?_
  refine sq ?_
  refine .mv ?_
  refine sq ?_
  refine .mv ?_
  refine sq ?_
  refine .mv ?_
  refine sq ?_
  intro K hK
  go_big_op
  go_fit (mEqual_any (m_D.mn BP.out) (m_W.mn BW.out) LP.out len_mkM (by omega) (by omega) (by decide) (by decide))
  rintro e w_24 ⟨rfl, hb_24⟩
  clear hq1 hq2 m_J x1 x2 m_O
  replace m_D := m_D.bl hb_24; replace m_W := m_W.bl hb_24; replace hs := hs.bl hb_24
  rw [decide_eq_true HE.out]
  refine hK _ _ rfl trivial ?_
  clear hK K
  refine sq ?_
  refine .r0 ?_
  refine sq ?_
  refine .mv ?_
  apply wpSq_end
  refine hK20 _ _ ?_
  refine wp_ret ?_
  try dsimp only [Exit.then, Exit.inBlock]
  refine bodyPost_ret (v := (.bool true)) (by simp [results, Tryz.results4, go_sem]) rfl ?_
  exact ⟨rfl, hs.b⟩
set_option maxHeartbeats 4000000 in
set_option maxRecDepth 20000 in
theorem al_21 (ha : MN 1048576 w oa A) (hb' : MN 1048576 w ob B) (hq : PN w vg u l v l) (hl : l = 1048576) (hna : A.length = na) (hnb : B.length = nb) (la : na ≤ 1048576) (lb : nb ≤ 1048576) (ta : Tot 1048576 A) (tb : Tot 1048576 B) (h : gd A) (hk : wd A = na) (h2 : gd B ∧ wd B = nb) (h3 : nb ≠ na) (hi : i < na) (hj : j < na) (hij : i ≠ j) :
    Calls Tryz.prog 4 #[.slice oa na ca, .slice ob nb cb, .int .i64 (i : Int), .int .i64 (j : Int), vg] w fun e w' => e = .returned (.bool true) ∧ Below w.heap.size w w' := by
  have n64 : na ≤ 64 := by have := h.1; omega
  have HA := hide ha
  have HB := hide hb'
  have HG := hide h
  have HK := hide hk
  have HM := hide (show MinB na na 1050641 (at2 A) from fun s f g h1 h2 => zl_up (ta.minB (W := na) hna n64 s f g h1 h2) (by omega))
  have HC := hide (show MinB (na + na) (na + na) 1050641 (brd na (at2 A)) from ta.brd hna n64)
  have LD := hide (show zl 1050641 (Dt.det na (at2 A)) from HM.out na id id (fun r hr => ⟨hr, hr⟩) (fun r q h _ => by simp only [id]; omega))
  have BJ := hide (show BdM 1050641 (mkM na na (adjE na (at2 A))) from bdM_mk fun i hi j hj => zl_adjE HC.out hi hj)
  have GJ := hide (show gd (mkM na na (adjE na (at2 A))) from gd_mkM n64 n64)
  have MJ := hide (show ml2 A (mkM na na (adjE na (at2 A))) from ⟨h, GJ.out, by rw [len_mkM]; exact hk⟩)
  have BP := hide (show BdM 3000000 (mulM A (mkM na na (adjE na (at2 A)))) from bdM_up (bd_mulM ha.bd BJ.out) (by rw [len_mkM]; omega))
  have LP := hide (show (mulM A (mkM na na (adjE na (at2 A)))).length = na from len_mulM.trans hna)
  have B1 := hide (show BdM 1 (mkM na na one2) from bdM_mk fun i _ j _ => zl_one2 0 i j)
  have G1 := hide (show gd (mkM na na one2) from gd_mkM n64 n64)
  have W1 := hide (show wd (mkM na na one2) = na from wd_mkM (by omega))
  have BW := hide (show BdM 3000000 (mkM na na fun i j => mP (at2 (mkM na na one2) i j) (Dt.det na (at2 A))) from bdM_mk fun i _ j _ => zl_up (zl_mP (at2_bd B1.out) LD.out) (by omega))
  have HE := hide (mulM_adj h hna hk)
  have n65 : nb ≤ 64 := by have := h2.1.1; omega
  have HGB := hide h2.1
  have HKB := hide h2.2
  have HMB := hide (show MinB nb nb 1050641 (at2 B) from fun s f g h4 h5 => zl_up (tb.minB (W := nb) hnb n65 s f g h4 h5) (by omega))
  have HNM := hide (show ¬ ml2 A B from fun c => h3 (by rw [← hnb, ← c.2.2, hk]))
  have t1 : ((i : Int) != (j : Int)) = true := bne_iff_ne.2 (by omega)
  have HI := hide hi
  have HJ := hide hj
  have HIJ := hide hij
  have GS := hide (show gd (mkM na na fun r => at2 A (swr i j r)) from gd_mkM n64 n64)
  have WS := hide (show wd (mkM na na fun r => at2 A (swr i j r)) = na from wd_mkM (by omega))
  have MS := hide (show MinB na na 1050641 (at2 (mkM na na fun r => at2 A (swr i j r))) from (HM.out.swr hi hj).cong fun i hi j hj => at2_mkM hi hj)
  have BS := hide (show BdM 1048576 (mkM na na fun r => at2 A (swr i j r)) from bdM_mk fun p _ q _ => at2_bd ha.bd)
  have DS := hide (show Dt.det na (at2 (mkM na na fun r => at2 A (swr i j r))) = - Dt.det na (at2 A) by rw [at2_eq (k := 0)]; exact (Dt.alt_det (R := Int × Int) (n := na)).swap hij hi hj (at2 A))
  have DS1 := hide (show (Dt.det na (at2 (mkM na na fun r => at2 A (swr i j r)))).1 = - (Dt.det na (at2 A)).1 by rw [DS.out]; rfl)
  have DS2 := hide (show (Dt.det na (at2 (mkM na na fun r => at2 A (swr i j r)))).2 = - (Dt.det na (at2 A)).2 by rw [DS.out]; rfl)
  have LS := hide (show zl 1050641 (Dt.det na (at2 (mkM na na fun r => at2 A (swr i j r)))) from MS.out na id id (fun r hr => ⟨hr, hr⟩) (fun r q h _ => by simp only [id]; omega))
  obtain ⟨R, hR⟩ : ∃ R, R = rowed (at2 A) i fun q => aP (at2 A i q) (mP (u, v) (at2 A j q)) := ⟨_, rfl⟩
  have HR := hide hR
  have ZQ : zl l (u, v) := by obtain ⟨_, _, _, _, _, _, _, _, _, z1, z2⟩ := hq; exact ⟨z1.len, z2.len⟩
  have GT := hide (show gd (mkM na na R) from gd_mkM n64 n64)
  have WT := hide (show wd (mkM na na R) = na from wd_mkM (by omega))
  have MT := hide (show MinB na na 2200000 (at2 (mkM na na R)) from MinB.cong (F := R) (by rw [hR]; exact fun s f g h4 h5 => zl_up (rowed_minB HM.out hij hi hj ZQ s f g h4 h5) (by omega)) fun i hi j hj => at2_mkM hi hj)
  have BT := hide (show BdM 3000000 (mkM na na R) from bdM_mk fun p hp q hq => by
    have h4 := MT.out.D 0 p hp q hq
    rw [Dt.D_0, at2_mkM hp hq] at h4
    exact zl_up h4 (by omega))
  have DT := hide (show Dt.det na (at2 (mkM na na R)) = Dt.det na (at2 A) by rw [at2_eq (k := 0), hR]; exact det_rowed hij hi hj)
  have LT := hide (show zl 2200000 (Dt.det na (at2 (mkM na na R))) from MT.out na id id (fun r hr => ⟨hr, hr⟩) (fun r q h _ => by simp only [id]; omega))
  clear hR
  clear ha hb' h hk h2 ta tb hij h3
  obtain ⟨n_4a, o_4a, k_4a, c_4a, n_4b, o_4b, k_4b, c_4b, rfl, hq1, hq2⟩ := hq
  go_enter Tryz.func4, Tryz.ntmps4
  have hs := St.nil w
  refine wp_seq_k ?_
  intro K1 hK1
  refine rg [0, 1] ?_
  refine sq ?_
  refine .al hs ?_; clear hs; intro p_b1 w_1 hs n1 kb_b1
  refine sq ?_
  refine .mv ?_
  apply wpSq_end
  refine hK1 _ _ ?_
  refine wp_seq_k ?_
  intro K2 hK2
  refine wp_seq_k ?_
  intro K3 hK3
  refine rg [0, 1] ?_
  refine sq ?_
  intro K hK
  go_big_op
  go_fit (awake9_any _)
  rintro e w_2 ⟨rfl, hb_2⟩
  replace hs := hs.bl hb_2
  refine hK _ _ rfl trivial ?_
  clear hK K
  refine sq ?_
  refine .r0 ?_
  apply wpSq_end
  refine hK3 _ _ ?_
  refine cf ?_
  refine wp_skip ?_
  refine hK2 _ _ ?_
  refine wp_seq_k ?_
  intro K4 hK4
  refine rg [0, 1, 2, 3, 4, 5, 6, 7] ?_
  refine sq ?_
  refine .mv ?_
  refine sq ?_
  intro K hK
  have hb := hs.b
  go_big_op
  go_fit (det_ok (HA.out.bl stab_n hb) hna HG.out HK.out HM.out (by decide) (by decide))
  rintro e w_3 ⟨_, rfl, ⟨n_xa, o_xa, k_xa, c_xa, n_xb, o_xb, k_xb, c_xb, rfl, x1, x2⟩, hb_3⟩
  clear hb
  replace hs := hs.bl hb_3
  have Lx1 := hide (x1.lenOf (LD.out.1))
  have Lx2 := hide (x2.lenOf (LD.out.2))
  refine hK _ _ rfl trivial ?_
  clear hK K
  refine sq ?_
  refine .mv ?_
  refine sq ?_
  refine .r0 ?_
  refine sq ?_
  refine .r0 ?_
  refine sq ?_
  refine .al hs ?_; clear hs; intro p_b2 w_4 hs n4 kb_b2
  refine sq ?_
  refine .s4 hs.g0 (fun _ => hs.u0 kb_b2) ?_; clear hs; intro w_5 hs hd5 ho5
  refine sq ?_
  refine .mv ?_
  apply wpSq_end
  refine hK4 _ _ ?_
  refine wp_seq_k ?_
  intro K5 hK5
  refine wp_seq_k ?_
  intro K6 hK6
  refine rg [0, 1] ?_
  refine sq ?_
  refine .mv ?_
  refine sq ?_
  refine .r0 ?_
  apply wpSq_end
  refine hK6 _ _ ?_
  refine cf ?_
  refine wp_skip ?_
  refine hK5 _ _ ?_
  refine wp_seq_k ?_
  intro K7 hK7
  refine rg [0, 1, 2, 3, 4, 5, 6, 7] ?_
  refine sq ?_
  refine .mv ?_
  refine sq ?_
  intro K hK
  have hb := hs.b
  go_big_op
  go_fit (det_ok (HB.out.bl stab_n hb) hnb HGB.out HKB.out HMB.out (by decide) (by decide))
  rintro e w_6 ⟨_, rfl, ⟨n_ya, o_ya, k_ya, c_ya, n_yb, o_yb, k_yb, c_yb, rfl, y1, y2⟩, hb_6⟩
  clear hb
  replace hs := hs.bl hb_6
  refine hK _ _ rfl trivial ?_
  clear hK K
  refine sq ?_
  refine .mv ?_
  refine sq ?_
  refine .r0 ?_
  refine sq ?_
  refine .r0 ?_
  refine sq ?_
  refine .al hs ?_; clear hs; intro p_b3 w_7 hs n7 kb_b3
  refine sq ?_
  refine .s4 hs.g0 (fun _ => hs.u0 kb_b3) ?_; clear hs; intro w_8 hs hd8 ho8
  refine sq ?_
  refine .mv ?_
  apply wpSq_end
  refine hK7 _ _ ?_
  refine wp_seq_k ?_
  intro K8 hK8
  refine rg [0, 1, 2, 3, 4, 5, 6, 7] ?_
  refine sq ?_
  refine .mv ?_
  refine sq ?_
  refine .mv ?_
  refine sq ?_
  intro K hK
  have hb := hs.b
  go_big_op
  go_fit (mMul_bad (HA.out.bl stab_n hb) (HB.out.bl stab_n hb) hna hnb HNM.out (by omega) (by omega))
  rintro e w_9 ⟨rfl, hb_9⟩
  clear hb
  replace hs := hs.bl hb_9
  refine hK _ _ rfl trivial ?_
  clear hK K
  refine sq ?_
  refine .mv ?_
  refine sq ?_
  refine .r0 ?_
  refine sq ?_
  refine .r0 ?_
  refine sq ?_
  refine .mv ?_
  refine sq ?_
  refine .mv ?_
  apply wpSq_end
  refine hK8 _ _ ?_
  refine wp_seq_k ?_
  intro K9 hK9
  refine wp_seq_k ?_
  intro K10 hK10
  refine rg [0, 1, 2, 3, 4, 5, 6, 7, 8, 9, 10, 11, 12] ?_
  refine sq ?_
  refine .mv ?_
  refine sq ?_
  refine .r0 ?_
  refine sq ?_
  refine .mv ?_
  refine sq ?_
  refine .mv ?_
  refine sq ?_
  refine .r0 ?_
  refine sq ?_
  refine .r0 ?_
  refine sq ?_
  refine .mv ?_
  refine sk ?_
  refine sk ?_
  refine sk ?_
  refine sk ?_
  refine sk ?_
  refine sq ?_
  refine .r0 ?_
  apply wpSq_end
  refine hK10 _ _ ?_
  refine cf ?_
  refine wp_skip ?_
  refine hK9 _ _ ?_
  refine wp_seq_k ?_
  intro K11 hK11
  refine rg [0, 1, 2, 3, 4, 5, 6, 7, 8] ?_
  refine sq ?_
  refine .mv ?_
  refine sq ?_
  refine .mv ?_
  refine sq ?_
  refine .mv ?_
  refine sq ?_
  intro K hK
  have hb := hs.b
  go_big_op
  go_fit (mxmt (mSwap_ok (HA.out.bl stab_n hb) hna HG.out HK.out HI.out HJ.out (by decide)))
  rintro e w_10 ⟨o_S, c_S, rfl, m_S, hb_10⟩
  clear hb
  replace hs := hs.bl hb_10
  refine hK _ _ rfl trivial ?_
  clear hK K
  refine sq ?_
  refine .mv ?_
  refine sq ?_
  refine .r0 ?_
  refine sq ?_
  refine .r0 ?_
  refine sq ?_
  refine .mv ?_
  refine sq ?_
  refine .mv ?_
  apply wpSq_end
  refine hK11 _ _ ?_
  refine wp_seq_k ?_
  intro K12 hK12
  refine wp_seq_k ?_
  intro K13 hK13
  refine rg [0, 1, 2, 3, 4, 5, 6] ?_
  refine sq ?_
  refine .mv ?_
  refine sq ?_
  refine .r0 ?_
  refine sq ?_
  refine .mv ?_
  refine sq ?_
  refine .mv ?_
  refine sq ?_
  refine .mv ?_
  refine sq ?_
  refine .r0 ?_
  refine sq ?_
  refine .r0 ?_
  apply wpSq_end
  refine hK13 _ _ ?_
  refine ct ?_
  refine wp_seq_k ?_
  intro K14 hK14
  refine rg [0, 1, 2, 3, 4, 5, 6, 7] ?_
  refine sq ?_
  refine .mv ?_
  refine sq ?_
  intro K hK
  go_big_op
  go_fit (det_ok (m_S.mn BS.out) len_mkM GS.out WS.out MS.out (by decide) (by decide))
  rintro e w_11 ⟨_, rfl, ⟨n_sa, o_sa, k_sa, c_sa, n_sb, o_sb, k_sb, c_sb, rfl, s1, s2⟩, hb_11⟩
  replace m_S := m_S.bl hb_11; replace hs := hs.bl hb_11
  have Ls1 := hide (s1.lenOf (LS.out.1))
  have Ls2 := hide (s2.lenOf (LS.out.2))
  refine hK _ _ rfl trivial ?_
  clear hK K
  refine sq ?_
  refine .mv ?_
  refine sq ?_
  refine .r0 ?_
  refine sq ?_
  refine .r0 ?_
  refine sq ?_
  refine .al hs ?_; clear hs; intro p_b4 w_12 hs n12 kb_b4
  refine sq ?_
  refine .s4 hs.g0 (fun _ => hs.u0 kb_b4) ?_; clear hs; intro w_13 hs hd13 ho13
  refine sq ?_
  refine .mv ?_
  apply wpSq_end
  refine hK14 _ _ ?_
  refine wp_seq_k ?_
  intro K15 hK15
  refine rg [0, 1, 2, 3, 4, 5, 6, 7, 8, 9] ?_
  refine sq ?_
  refine .mv ?_
  refine sq ?_
  refine .mv ?_
  refine sq ?_
  refine .mv ?_
  refine sq ?_
  refine .r4 hs.g3.f4 ?_
  refine sq ?_
  intro K hK
  have hb := hs.b
  have k0_13 := ((((((((((((kb n1).b hb_2).b hb_3).b n4).o hd5 ho5).b hb_6).b n7).o hd8 ho8).b hb_9).b hb_10).b hb_11).b n12).o hd13 ho13
  replace hq1 := hq1.k k0_13
  replace hq2 := hq2.k k0_13
  go_big_op
  go_fit (mxmt (mAddRow_ok (HA.out.bl stab_n hb) (.mk' hq1 hq2) hna HG.out HK.out HI.out HJ.out HIJ.out (by decide) (by omega)))
  rintro e w_14 ⟨o_T, c_T, rfl, m_T, hb_14⟩
  clear hb
  replace hs := hs.bl hb_14
  rw [← HR.out] at m_T
  refine hK _ _ rfl trivial ?_
  clear hK K
  refine sq ?_
  refine .mv ?_
  refine sq ?_
  refine .r0 ?_
  refine sq ?_
  refine .r0 ?_
  refine sq ?_
  refine .mv ?_
  refine sq ?_
  refine .mv ?_
  apply wpSq_end
  refine hK15 _ _ ?_
  refine wp_seq_k ?_
  intro K16 hK16
  refine rg [0, 1, 2, 3, 4, 5, 6, 7] ?_
  refine sq ?_
  refine .mv ?_
  refine sq ?_
  intro K hK
  go_big_op
  go_fit (det_ok (m_T.mn BT.out) len_mkM GT.out WT.out MT.out (by decide) (by decide))
  rintro e w_15 ⟨_, rfl, ⟨n_ta, o_ta, k_ta, c_ta, n_tb, o_tb, k_tb, c_tb, rfl, t1, t2⟩, hb_15⟩
  replace m_T := m_T.bl hb_15; replace hs := hs.bl hb_15
  have Lt1 := hide (t1.lenOf (LT.out.1))
  have Lt2 := hide (t2.lenOf (LT.out.2))
  refine hK _ _ rfl trivial ?_
  clear hK K
  refine sq ?_
  refine .mv ?_
  refine sq ?_
  refine .r0 ?_
  refine sq ?_
  refine .r0 ?_
  refine sq ?_
  refine .al hs ?_; clear hs; intro p_b5 w_16 hs n16 kb_b5
  clear y1 y2 m_S hq1 hq2 m_T
  refine sq ?_
  refine .s4 hs.g0 (fun _ => hs.u0 kb_b5) ?_; clear hs; intro w_17 hs hd17 ho17
  refine sq ?_
  refine .mv ?_
  apply wpSq_end
  refine hK16 _ _ ?_
  refine wp_seq_k ?_
  intro K17 hK17
  refine wp_region_f4 [(0, false), (1, false), (2, false), (3, false), (4, false), (5, false), (6, false), (7, false), (8, false), (9, false), (10, false), (11, false), (12, false), (13, true), (14, true), (15, false), (16, false), (17, false), (18, false), (19, false), (20, true), (21, false), (22, false)] [] [] (fun _ => default) [99, 99, 99, 99, 99, 99, 99, 99, 99, 99, 99, 0, 1, 99, 99, 99, 99, 99, 2, 1, 99, 99, 99] [] (.c hs.g1 (.c hs.g3 (.c hs.g0 .n))) fn fun w_18 n18 => ?_
  replace hs := hs.bl n18
  refine fmv ?_
  refine f0 ?_
  refine fmv ?_
  refine fmv ?_
  refine f0 ?_
  refine f0 ?_
  refine fmv ?_
  refine fmv ?_
  refine f0 ?_
  refine f0 ?_
  refine fmv ?_
  refine f4 ?_
  refine f4 ?_
  refine fl fun w_19 n19 => ?_
  replace hs := hs.bl n19
  intro K hK
  have k3_19 := (((((((((((((((kb n4).o hd5 ho5).b hb_6).b n7).o hd8 ho8).b hb_9).b hb_10).b hb_11).b n12).o hd13 ho13).b hb_14).b hb_15).b n16).o hd17 ho17).b n18).b n19
  replace x1 := x1.k k3_19
  replace x2 := x2.k k3_19
  go_big_op
  go_fit (gNeg_any (.mk' (x1.zn Lx1.out) (x2.zn Lx2.out)) (by decide) (by decide))
  rintro e w_20 ⟨_, rfl, ⟨n_ga, o_ga, k_ga, c_ga, n_gb, o_gb, k_gb, c_gb, rfl, g1, g2⟩, hb_20⟩
  replace hs := hs.bl hb_20
  have Lg1 := hide (g1.lenOf (zlen_neg Lx1.out))
  have Lg2 := hide (g2.lenOf (zlen_neg Lx2.out))
  refine hK _ _ rfl ⟨hb_20, (And.intro hs.g1 (And.intro hs.g3 (And.intro hs.g0 trivial)))⟩ ?_
  clear hK K
  refine fl fun w_21 n21 => ?_
  replace hs := hs.bl n21
  intro K hK
  have k11_21 := (((((((((kb n12).o hd13 ho13).b hb_14).b hb_15).b n16).o hd17 ho17).b n18).b n19).b hb_20).b n21
  replace s1 := s1.k k11_21
  replace s2 := s2.k k11_21
  have k20_21 := kb n21
  replace g1 := g1.k k20_21
  replace g2 := g2.k k20_21
  go_big_op
  go_fit (gEqual_yes (.mk' (s1.zn Ls1.out) (s2.zn Ls2.out)) (.mk' (g1.zn Lg1.out) (g2.zn Lg2.out)) (by decide) (by decide) (by decide) (by decide) DS1.out DS2.out)
  rintro e w_22 ⟨rfl, hb_22⟩
  replace hs := hs.bl hb_22
  refine hK _ _ rfl ⟨hb_22, (And.intro hs.g1 (And.intro hs.g3 (And.intro hs.g0 trivial)))⟩ ?_
  clear hK K
  refine f0 ?_
  refine f0 ?_
  refine fmv ?_
  refine f4 ?_
  refine f4 ?_
  refine fl fun w_23 n23 => ?_
  replace hs := hs.bl n23
  intro K hK
  have k15_23 := (((((((kb n16).o hd17 ho17).b n18).b n19).b hb_20).b n21).b hb_22).b n23
  replace t1 := t1.k k15_23
  replace t2 := t2.k k15_23
  have k19_23 := (((kb hb_20).b n21).b hb_22).b n23
  replace x1 := x1.k k19_23
  replace x2 := x2.k k19_23
  go_big_op
  go_fit (gEqual_yes (.mk' (t1.zn Lt1.out) (t2.zn Lt2.out)) (.mk' (x1.zn Lx1.out) (x2.zn Lx2.out)) (by decide) (by decide) (by decide) (by decide) (congrArg Prod.fst DT.out) (congrArg Prod.snd DT.out))
  rintro e w_24 ⟨rfl, hb_24⟩
  replace hs := hs.bl hb_24
  refine hK _ _ rfl ⟨hb_24, (And.intro hs.g1 (And.intro hs.g3 (And.intro hs.g0 trivial)))⟩ ?_
  clear hK K
  refine f0 ?_
  refine f0 ?_
  refine e0 hs ?_; clear hs; intro w_25 hs n25
  apply wpTail_end
  refine hK17 _ _ ?_
  refine cf ?_
  refine wp_skip ?_
  refine hK12 _ _ ?_
  refine wp_seq_k ?_
  intro K18 hK18
  refine rg [0, 1, 2, 3, 4, 5, 6] ?_
  refine sq ?_
  refine .mv ?_
  refine sq ?_
  intro K hK
  have hb := hs.b
  go_big_op
  go_fit (mxmt (adjugate_ok (HA.out.bl stab_n hb) hna HG.out HK.out HC.out (by decide) (by decide)))
  rintro e w_26 ⟨o_J, c_J, rfl, m_J, hb_26⟩
  clear hb
  clear g1 g2 s1 s2 t1 t2
  replace hs := hs.bl hb_26
  refine hK _ _ rfl trivial ?_
  clear hK K
  refine sq ?_
  refine .mv ?_
  refine sq ?_
  refine .r0 ?_
  refine sq ?_
  refine .r0 ?_
  refine sq ?_
  refine .mv ?_
  refine sq ?_
  refine .mv ?_
  apply wpSq_end
  refine hK18 _ _ ?_
  refine wp_seq_k ?_
  intro K19 hK19
  refine rg [0, 1, 2, 3, 4, 5, 6, 7] ?_
  refine sq ?_
  refine .mv ?_
  refine sq ?_
  refine .mv ?_
  refine sq ?_
  intro K hK
  have hb := hs.b
  go_big_op
  go_fit (mxmt (mMul_ok (HA.out.bl stab_n hb) (m_J.mn BJ.out) hna len_mkM MJ.out (by decide) (by decide)))
  rintro e w_27 ⟨o_D, c_D, rfl, m_D, hb_27⟩
  clear hb
  replace m_J := m_J.bl hb_27; replace hs := hs.bl hb_27
  refine hK _ _ rfl trivial ?_
  clear hK K
  refine sq ?_
  refine .mv ?_
  refine sq ?_
  refine .r0 ?_
  refine sq ?_
  refine .r0 ?_
  refine sq ?_
  refine .mv ?_
  refine sq ?_
  refine .mv ?_
  apply wpSq_end
  refine hK19 _ _ ?_
  refine wp_seq_k ?_
  intro K20 hK20
  refine rg [0, 1, 2, 3, 4, 5, 6, 7] ?_
  refine sq ?_
  refine .mv ?_
  refine sq ?_
  refine .r0 ?_
  refine sq ?_
  intro K hK
  go_big_op
  go_fit (mxmt (mIdent_ok n64))
  rintro e w_28 ⟨o_O, c_O, rfl, m_O, hb_28⟩
  replace m_D := m_D.bl hb_28; replace hs := hs.bl hb_28
  refine hK _ _ rfl trivial ?_
  clear hK K
  refine sq ?_
  refine .mv ?_
  refine sq ?_
  refine .r0 ?_
  refine sq ?_
  refine .r0 ?_
  refine sq ?_
  refine .mv ?_
  refine sq ?_
  refine .mv ?_
  apply wpSq_end
  refine hK20 _ _ ?_
  refine wp_seq_k ?_
  intro K21 hK21
  refine rg [0, 1, 2, 3, 4, 5, 6, 7] ?_
  refine sq ?_
  refine .mv ?_
  refine sq ?_
  refine .r4 hs.g3.f4 ?_
  refine sq ?_
  intro K hK
  have k23_28 := ((((kb hb_24).b n25).b hb_26).b hb_27).b hb_28
  replace x1 := x1.k k23_28
  replace x2 := x2.k k23_28
  go_big_op
  go_fit (mxmt (mScale_ok (m_O.mn B1.out) (.mk' (x1.zn Lx1.out) (x2.zn Lx2.out)) len_mkM G1.out (by decide) (by decide)))
  rintro e w_29 ⟨o_W, c_W, rfl, m_W, hb_29⟩
  replace m_D := m_D.bl hb_29; replace m_O := m_O.bl hb_29; replace hs := hs.bl hb_29
  rw [W1.out] at m_W
  refine hK _ _ rfl trivial ?_
  clear hK K
  refine sq ?_
  refine .mv ?_
  refine sq ?_
  refine .r0 ?_
  refine sq ?_
  refine .r0 ?_
  refine sq ?_
  refine .mv ?_
  refine sq ?_
  refine .mv ?_
  apply wpSq_end
  refine hK21 _ _ ?_
  refine wp_seq_k ?_
  intro K22 hK22
  refine rg [0, 1, 2, 3, 4, 5, 6, 7, 8, 9, 10, 11, 12, 13, 14, 15, 16, 17, 18, 19] ?_
  refine sq ?_
  refine .mv ?_
  refine sq ?_
  refine .r0 ?_
  refine sq ?_
  refine .mv ?_
  refine sq ?_
  refine .mv ?_
  refine sq ?_
  refine .r0 ?_
  refine sq ?_
  refine .r0 ?_
  refine sq ?_
  refine .mv ?_
  refine sq ?_
  refine .mv ?_
  refine sq ?_
  refine .r0 ?_
  refine sq ?_
  refine .r0 ?_
  refine sq ?_
  refine .mv ?_
  refine sq ?_
  refine .mv ?_
  refine sq ?_
  refine .r0 ?_
  refine sq ?_
  refine .r0 ?_
  refine sq ?_
  refine .mv ?_
  refine sq ?_
  refine .mv ?_
  refine sq ?_
  refine .mv ?_
  refine sq ?_
  intro K hK
  go_big_op
  go_fit (mEqual_any (m_D.mn BP.out) (m_W.mn BW.out) LP.out len_mkM (by omega) (by omega) (by decide) (by decide))
  rintro e w_30 ⟨rfl, hb_30⟩
  replace m_D := m_D.bl hb_30; replace m_W := m_W.bl hb_30; replace hs := hs.bl hb_30
  rw [decide_eq_true HE.out]
  refine hK _ _ rfl trivial ?_
  clear hK K
  refine sq ?_
  refine .r0 ?_
  refine sq ?_
  refine .mv ?_
  apply wpSq_end
  refine hK22 _ _ ?_
  refine wp_ret ?_
  try dsimp only [Exit.then, Exit.inBlock]
  refine bodyPost_ret (v := (.bool true)) (by simp [results, Tryz.results4, go_sem]) rfl ?_
  exact ⟨rfl, hs.b⟩
set_option maxHeartbeats 4000000 in
set_option maxRecDepth 20000 in
theorem al_22 (ha : MN 1048576 w oa A) (hb' : MN 1048576 w ob B) (hq : PN w vg u l v l) (hl : l = 1048576) (hna : A.length = na) (hnb : B.length = nb) (la : na ≤ 1048576) (lb : nb ≤ 1048576) (ta : Tot 1048576 A) (tb : Tot 1048576 B) (h : gd A) (hk : wd A = na) (h2 : gd B ∧ wd B = nb) (h3 : nb ≠ na) (hi : i < na) :
    Calls Tryz.prog 4 #[.slice oa na ca, .slice ob nb cb, .int .i64 (i : Int), .int .i64 (i : Int), vg] w fun e w' => e = .returned (.bool true) ∧ Below w.heap.size w w' := by
  have n64 : na ≤ 64 := by have := h.1; omega
  have HA := hide ha
  have HB := hide hb'
  have HG := hide h
  have HK := hide hk
  have HM := hide (show MinB na na 1050641 (at2 A) from fun s f g h1 h2 => zl_up (ta.minB (W := na) hna n64 s f g h1 h2) (by omega))
  have HC := hide (show MinB (na + na) (na + na) 1050641 (brd na (at2 A)) from ta.brd hna n64)
  have LD := hide (show zl 1050641 (Dt.det na (at2 A)) from HM.out na id id (fun r hr => ⟨hr, hr⟩) (fun r q h _ => by simp only [id]; omega))
  have BJ := hide (show BdM 1050641 (mkM na na (adjE na (at2 A))) from bdM_mk fun i hi j hj => zl_adjE HC.out hi hj)
  have GJ := hide (show gd (mkM na na (adjE na (at2 A))) from gd_mkM n64 n64)
  have MJ := hide (show ml2 A (mkM na na (adjE na (at2 A))) from ⟨h, GJ.out, by rw [len_mkM]; exact hk⟩)
  have BP := hide (show BdM 3000000 (mulM A (mkM na na (adjE na (at2 A)))) from bdM_up (bd_mulM ha.bd BJ.out) (by rw [len_mkM]; omega))
  have LP := hide (show (mulM A (mkM na na (adjE na (at2 A)))).length = na from len_mulM.trans hna)
  have B1 := hide (show BdM 1 (mkM na na one2) from bdM_mk fun i _ j _ => zl_one2 0 i j)
  have G1 := hide (show gd (mkM na na one2) from gd_mkM n64 n64)
  have W1 := hide (show wd (mkM na na one2) = na from wd_mkM (by omega))
  have BW := hide (show BdM 3000000 (mkM na na fun i j => mP (at2 (mkM na na one2) i j) (Dt.det na (at2 A))) from bdM_mk fun i _ j _ => zl_up (zl_mP (at2_bd B1.out) LD.out) (by omega))
  have HE := hide (mulM_adj h hna hk)
  have n65 : nb ≤ 64 := by have := h2.1.1; omega
  have HGB := hide h2.1
  have HKB := hide h2.2
  have HMB := hide (show MinB nb nb 1050641 (at2 B) from fun s f g h4 h5 => zl_up (tb.minB (W := nb) hnb n65 s f g h4 h5) (by omega))
  have HNM := hide (show ¬ ml2 A B from fun c => h3 (by rw [← hnb, ← c.2.2, hk]))
  have t1 : ((i : Int) != (i : Int)) = false := by simp
  have HI := hide hi
  clear ha hb' h hk h2 ta tb h3
  obtain ⟨n_4a, o_4a, k_4a, c_4a, n_4b, o_4b, k_4b, c_4b, rfl, hq1, hq2⟩ := hq
  go_enter Tryz.func4, Tryz.ntmps4
  have hs := St.nil w
  refine wp_seq_k ?_
  intro K1 hK1
  refine rg [0, 1] ?_
  refine sq ?_
  refine .al hs ?_; clear hs; intro p_b1 w_1 hs n1 kb_b1
  refine sq ?_
  refine .mv ?_
  apply wpSq_end
  refine hK1 _ _ ?_
  refine wp_seq_k ?_
  intro K2 hK2
  refine wp_seq_k ?_
  intro K3 hK3
  refine rg [0, 1] ?_
  refine sq ?_
  intro K hK
  go_big_op
  go_fit (awake9_any _)
  rintro e w_2 ⟨rfl, hb_2⟩
  replace hs := hs.bl hb_2
  refine hK _ _ rfl trivial ?_
  clear hK K
  refine sq ?_
  refine .r0 ?_
  apply wpSq_end
  refine hK3 _ _ ?_
  refine cf ?_
  refine wp_skip ?_
  refine hK2 _ _ ?_
  refine wp_seq_k ?_
  intro K4 hK4
  refine rg [0, 1, 2, 3, 4, 5, 6, 7] ?_
  refine sq ?_
  refine .mv ?_
  refine sq ?_
  intro K hK
  have hb := hs.b
  go_big_op
  go_fit (det_ok (HA.out.bl stab_n hb) hna HG.out HK.out HM.out (by decide) (by decide))
  rintro e w_3 ⟨_, rfl, ⟨n_xa, o_xa, k_xa, c_xa, n_xb, o_xb, k_xb, c_xb, rfl, x1, x2⟩, hb_3⟩
  clear hb
  replace hs := hs.bl hb_3
  have Lx1 := hide (x1.lenOf (LD.out.1))
  have Lx2 := hide (x2.lenOf (LD.out.2))
  refine hK _ _ rfl trivial ?_
  clear hK K
  refine sq ?_
  refine .mv ?_
  refine sq ?_
  refine .r0 ?_
  refine sq ?_
  refine .r0 ?_
  refine sq ?_
  refine .al hs ?_; clear hs; intro p_b2 w_4 hs n4 kb_b2
  refine sq ?_
  refine .s4 hs.g0 (fun _ => hs.u0 kb_b2) ?_; clear hs; intro w_5 hs hd5 ho5
  refine sq ?_
  refine .mv ?_
  apply wpSq_end
  refine hK4 _ _ ?_
  refine wp_seq_k ?_
  intro K5 hK5
  refine wp_seq_k ?_
  intro K6 hK6
  refine rg [0, 1] ?_
  refine sq ?_
  refine .mv ?_
  refine sq ?_
  refine .r0 ?_
  apply wpSq_end
  refine hK6 _ _ ?_
  refine cf ?_
  refine wp_skip ?_
  refine hK5 _ _ ?_
  refine wp_seq_k ?_
  intro K7 hK7
  refine rg [0, 1, 2, 3, 4, 5, 6, 7] ?_
  refine sq ?_
  refine .mv ?_
  refine sq ?_
  intro K hK
  have hb := hs.b
  go_big_op
  go_fit (det_ok (HB.out.bl stab_n hb) hnb HGB.out HKB.out HMB.out (by decide) (by decide))
  rintro e w_6 ⟨_, rfl, ⟨n_ya, o_ya, k_ya, c_ya, n_yb, o_yb, k_yb, c_yb, rfl, y1, y2⟩, hb_6⟩
  clear hb
  replace hs := hs.bl hb_6
  refine hK _ _ rfl trivial ?_
  clear hK K
  refine sq ?_
  refine .mv ?_
  refine sq ?_
  refine .r0 ?_
  refine sq ?_
  refine .r0 ?_
  refine sq ?_
  refine .al hs ?_; clear hs; intro p_b3 w_7 hs n7 kb_b3
  refine sq ?_
  refine .s4 hs.g0 (fun _ => hs.u0 kb_b3) ?_; clear hs; intro w_8 hs hd8 ho8
  refine sq ?_
  refine .mv ?_
  apply wpSq_end
  refine hK7 _ _ ?_
  refine wp_seq_k ?_
  intro K8 hK8
  refine rg [0, 1, 2, 3, 4, 5, 6, 7] ?_
  refine sq ?_
  refine .mv ?_
  refine sq ?_
  refine .mv ?_
  refine sq ?_
  intro K hK
  have hb := hs.b
  go_big_op
  go_fit (mMul_bad (HA.out.bl stab_n hb) (HB.out.bl stab_n hb) hna hnb HNM.out (by omega) (by omega))
  rintro e w_9 ⟨rfl, hb_9⟩
  clear hb
  replace hs := hs.bl hb_9
  refine hK _ _ rfl trivial ?_
  clear hK K
  refine sq ?_
  refine .mv ?_
  refine sq ?_
  refine .r0 ?_
  refine sq ?_
  refine .r0 ?_
  refine sq ?_
  refine .mv ?_
  refine sq ?_
  refine .mv ?_
  apply wpSq_end
  refine hK8 _ _ ?_
  refine wp_seq_k ?_
  intro K9 hK9
  refine wp_seq_k ?_
  intro K10 hK10
  refine rg [0, 1, 2, 3, 4, 5, 6, 7, 8, 9, 10, 11, 12] ?_
  refine sq ?_
  refine .mv ?_
  refine sq ?_
  refine .r0 ?_
  refine sq ?_
  refine .mv ?_
  refine sq ?_
  refine .mv ?_
  refine sq ?_
  refine .r0 ?_
  refine sq ?_
  refine .r0 ?_
  refine sq ?_
  refine .mv ?_
  refine sk ?_
  refine sk ?_
  refine sk ?_
  refine sk ?_
  refine sk ?_
  refine sq ?_
  refine .r0 ?_
  apply wpSq_end
  refine hK10 _ _ ?_
  refine cf ?_
  refine wp_skip ?_
  refine hK9 _ _ ?_
  refine wp_seq_k ?_
  intro K11 hK11
  refine rg [0, 1, 2, 3, 4, 5, 6, 7, 8] ?_
  refine sq ?_
  refine .mv ?_
  refine sq ?_
  refine .mv ?_
  refine sq ?_
  refine .mv ?_
  refine sq ?_
  intro K hK
  have hb := hs.b
  go_big_op
  go_fit (mxmt (mSwap_ok (HA.out.bl stab_n hb) hna HG.out HK.out HI.out HI.out (by decide)))
  rintro e w_10 ⟨o_S, c_S, rfl, m_S, hb_10⟩
  clear hb
  replace hs := hs.bl hb_10
  refine hK _ _ rfl trivial ?_
  clear hK K
  refine sq ?_
  refine .mv ?_
  refine sq ?_
  refine .r0 ?_
  refine sq ?_
  refine .r0 ?_
  refine sq ?_
  refine .mv ?_
  refine sq ?_
  refine .mv ?_
  apply wpSq_end
  refine hK11 _ _ ?_
  refine wp_seq_k ?_
  intro K12 hK12
  refine wp_seq_k ?_
  intro K13 hK13
  refine rg [0, 1, 2, 3, 4, 5, 6] ?_
  refine sq ?_
  refine .mv ?_
  refine sq ?_
  refine .r0 ?_
  refine sq ?_
  refine .mv ?_
  refine sq ?_
  refine .mv ?_
  refine sq ?_
  refine .mv ?_
  refine sq ?_
  refine .r0 ?_
  refine sq ?_
  refine .r0 ?_
  apply wpSq_end
  refine hK13 _ _ ?_
  refine cf ?_
  refine wp_skip ?_
  refine hK12 _ _ ?_
  refine wp_seq_k ?_
  intro K14 hK14
  refine rg [0, 1, 2, 3, 4, 5, 6] ?_
  refine sq ?_
  refine .mv ?_
  refine sq ?_
  intro K hK
  have hb := hs.b
  go_big_op
  go_fit (mxmt (adjugate_ok (HA.out.bl stab_n hb) hna HG.out HK.out HC.out (by decide) (by decide)))
  rintro e w_11 ⟨o_J, c_J, rfl, m_J, hb_11⟩
  clear hb
  replace hs := hs.bl hb_11
  refine hK _ _ rfl trivial ?_
  clear hK K
  refine sq ?_
  refine .mv ?_
  refine sq ?_
  refine .r0 ?_
  refine sq ?_
  refine .r0 ?_
  refine sq ?_
  refine .mv ?_
  refine sq ?_
  refine .mv ?_
  apply wpSq_end
  refine hK14 _ _ ?_
  refine wp_seq_k ?_
  intro K15 hK15
  refine rg [0, 1, 2, 3, 4, 5, 6, 7] ?_
  refine sq ?_
  refine .mv ?_
  refine sq ?_
  refine .mv ?_
  refine sq ?_
  intro K hK
  have hb := hs.b
  go_big_op
  go_fit (mxmt (mMul_ok (HA.out.bl stab_n hb) (m_J.mn BJ.out) hna len_mkM MJ.out (by decide) (by decide)))
  rintro e w_12 ⟨o_D, c_D, rfl, m_D, hb_12⟩
  clear hb
  replace m_J := m_J.bl hb_12; replace hs := hs.bl hb_12
  refine hK _ _ rfl trivial ?_
  clear hK K
  refine sq ?_
  refine .mv ?_
  refine sq ?_
  refine .r0 ?_
  refine sq ?_
  refine .r0 ?_
  refine sq ?_
  refine .mv ?_
  refine sq ?_
  refine .mv ?_
  apply wpSq_end
  refine hK15 _ _ ?_
  refine wp_seq_k ?_
  intro K16 hK16
  refine rg [0, 1, 2, 3, 4, 5, 6, 7] ?_
  refine sq ?_
  refine .mv ?_
  refine sq ?_
  refine .r0 ?_
  refine sq ?_
  intro K hK
  go_big_op
  go_fit (mxmt (mIdent_ok n64))
  rintro e w_13 ⟨o_O, c_O, rfl, m_O, hb_13⟩
  clear y1 y2 hq1 hq2 m_S m_J
  replace m_D := m_D.bl hb_13; replace hs := hs.bl hb_13
  refine hK _ _ rfl trivial ?_
  clear hK K
  refine sq ?_
  refine .mv ?_
  refine sq ?_
  refine .r0 ?_
  refine sq ?_
  refine .r0 ?_
  refine sq ?_
  refine .mv ?_
  refine sq ?_
  refine .mv ?_
  apply wpSq_end
  refine hK16 _ _ ?_
  refine wp_seq_k ?_
  intro K17 hK17
  refine rg [0, 1, 2, 3, 4, 5, 6, 7] ?_
  refine sq ?_
  refine .mv ?_
  refine sq ?_
  refine .r4 hs.g1.f4 ?_
  refine sq ?_
  intro K hK
  have k3_13 := (((((((((kb n4).o hd5 ho5).b hb_6).b n7).o hd8 ho8).b hb_9).b hb_10).b hb_11).b hb_12).b hb_13
  replace x1 := x1.k k3_13
  replace x2 := x2.k k3_13
  go_big_op
  go_fit (mxmt (mScale_ok (m_O.mn B1.out) (.mk' (x1.zn Lx1.out) (x2.zn Lx2.out)) len_mkM G1.out (by decide) (by decide)))
  rintro e w_14 ⟨o_W, c_W, rfl, m_W, hb_14⟩
  replace m_D := m_D.bl hb_14; replace m_O := m_O.bl hb_14; replace hs := hs.bl hb_14
  rw [W1.out] at m_W
  refine hK _ _ rfl trivial ?_
  clear hK K
  refine sq ?_
  refine .mv ?_
  refine sq ?_
  refine .r0 ?_
  refine sq ?_
  refine .r0 ?_
  refine sq ?_
  refine .mv ?_
  refine sq ?_
  refine .mv ?_
  apply wpSq_end
  refine hK17 _ _ ?_
  refine wp_seq_k ?_
  intro K18 hK18
  refine rg [0, 1, 2, 3, 4, 5, 6, 7, 8, 9, 10, 11, 12, 13, 14, 15, 16, 17, 18, 19] ?_
  refine sq ?_
  refine .mv ?_
  refine sq ?_
  refine .r0 ?_
  refine sq ?_
  refine .mv ?_
  refine sq ?_
  refine .mv ?_
  refine sq ?_
  refine .r0 ?_
  refine sq ?_
  refine .r0 ?_
  refine sq ?_
  refine .mv ?_
  refine sq ?_
  refine .mv ?_
  refine sq ?_
  refine .r0 ?_
  refine sq ?_
  refine .r0 ?_
  refine sq ?_
  refine .mv ?_
  refine sq ?_
  refine .mv ?_
  refine sq ?_
  refine .r0 ?_
  refine sq ?_
  refine .r0 ?_
  refine sq ?_
  refine .mv ?_
  refine sq ?_
  refine .mv ?_
  refine sq ?_
  refine .mv ?_
  refine sq ?_
  intro K hK
  go_big_op
  go_fit (mEqual_any (m_D.mn BP.out) (m_W.mn BW.out) LP.out len_mkM (by omega) (by omega) (by decide) (by decide))
  rintro e w_15 ⟨rfl, hb_15⟩
  replace m_D := m_D.bl hb_15; replace m_W := m_W.bl hb_15; replace hs := hs.bl hb_15
  rw [decide_eq_true HE.out]
  refine hK _ _ rfl trivial ?_
  clear hK K
  refine sq ?_
  refine .r0 ?_
  refine sq ?_
  refine .mv ?_
  apply wpSq_end
  refine hK18 _ _ ?_
  refine wp_ret ?_
  try dsimp only [Exit.then, Exit.inBlock]
  refine bodyPost_ret (v := (.bool true)) (by simp [results, Tryz.results4, go_sem]) rfl ?_
  exact ⟨rfl, hs.b⟩
set_option maxHeartbeats 4000000 in
set_option maxRecDepth 20000 in
theorem al_23 (ha : MN 1048576 w oa A) (hb' : MN 1048576 w ob B) (hq : PN w vg u l v l) (hl : l = 1048576) (hna : A.length = na) (hnb : B.length = nb) (la : na ≤ 1048576) (lb : nb ≤ 1048576) (ta : Tot 1048576 A) (tb : Tot 1048576 B) (h : gd A) (hk : wd A = na) (h2 : gd B ∧ wd B = nb) (h3 : nb ≠ na) (hi : ¬ ((0 ≤ a ∧ a < (na : Int)) ∧ (0 ≤ b ∧ b < (na : Int)))) :
    Calls Tryz.prog 4 #[.slice oa na ca, .slice ob nb cb, .int .i64 a, .int .i64 b, vg] w fun e w' => e = .returned (.bool true) ∧ Below w.heap.size w w' := by
  have n64 : na ≤ 64 := by have := h.1; omega
  have HA := hide ha
  have HB := hide hb'
  have HG := hide h
  have HK := hide hk
  have HM := hide (show MinB na na 1050641 (at2 A) from fun s f g h1 h2 => zl_up (ta.minB (W := na) hna n64 s f g h1 h2) (by omega))
  have HC := hide (show MinB (na + na) (na + na) 1050641 (brd na (at2 A)) from ta.brd hna n64)
  have LD := hide (show zl 1050641 (Dt.det na (at2 A)) from HM.out na id id (fun r hr => ⟨hr, hr⟩) (fun r q h _ => by simp only [id]; omega))
  have BJ := hide (show BdM 1050641 (mkM na na (adjE na (at2 A))) from bdM_mk fun i hi j hj => zl_adjE HC.out hi hj)
  have GJ := hide (show gd (mkM na na (adjE na (at2 A))) from gd_mkM n64 n64)
  have MJ := hide (show ml2 A (mkM na na (adjE na (at2 A))) from ⟨h, GJ.out, by rw [len_mkM]; exact hk⟩)
  have BP := hide (show BdM 3000000 (mulM A (mkM na na (adjE na (at2 A)))) from bdM_up (bd_mulM ha.bd BJ.out) (by rw [len_mkM]; omega))
  have LP := hide (show (mulM A (mkM na na (adjE na (at2 A)))).length = na from len_mulM.trans hna)
  have B1 := hide (show BdM 1 (mkM na na one2) from bdM_mk fun i _ j _ => zl_one2 0 i j)
  have G1 := hide (show gd (mkM na na one2) from gd_mkM n64 n64)
  have W1 := hide (show wd (mkM na na one2) = na from wd_mkM (by omega))
  have BW := hide (show BdM 3000000 (mkM na na fun i j => mP (at2 (mkM na na one2) i j) (Dt.det na (at2 A))) from bdM_mk fun i _ j _ => zl_up (zl_mP (at2_bd B1.out) LD.out) (by omega))
  have HE := hide (mulM_adj h hna hk)
  have n65 : nb ≤ 64 := by have := h2.1.1; omega
  have HGB := hide h2.1
  have HKB := hide h2.2
  have HMB := hide (show MinB nb nb 1050641 (at2 B) from fun s f g h4 h5 => zl_up (tb.minB (W := nb) hnb n65 s f g h4 h5) (by omega))
  have HNM := hide (show ¬ ml2 A B from fun c => h3 (by rw [← hnb, ← c.2.2, hk]))
  have HIA := hide hi
  clear ha hb' h hk h2 ta tb h3
  obtain ⟨n_4a, o_4a, k_4a, c_4a, n_4b, o_4b, k_4b, c_4b, rfl, hq1, hq2⟩ := hq
  go_enter Tryz.func4, Tryz.ntmps4
  have hs := St.nil w
  refine wp_seq_k ?_
  intro K1 hK1
  refine rg [0, 1] ?_
  refine sq ?_
  refine .al hs ?_; clear hs; intro p_b1 w_1 hs n1 kb_b1
  refine sq ?_
  refine .mv ?_
  apply wpSq_end
  refine hK1 _ _ ?_
  refine wp_seq_k ?_
  intro K2 hK2
  refine wp_seq_k ?_
  intro K3 hK3
  refine rg [0, 1] ?_
  refine sq ?_
  intro K hK
  go_big_op
  go_fit (awake9_any _)
  rintro e w_2 ⟨rfl, hb_2⟩
  replace hs := hs.bl hb_2
  refine hK _ _ rfl trivial ?_
  clear hK K
  refine sq ?_
  refine .r0 ?_
  apply wpSq_end
  refine hK3 _ _ ?_
  refine cf ?_
  refine wp_skip ?_
  refine hK2 _ _ ?_
  refine wp_seq_k ?_
  intro K4 hK4
  refine rg [0, 1, 2, 3, 4, 5, 6, 7] ?_
  refine sq ?_
  refine .mv ?_
  refine sq ?_
  intro K hK
  have hb := hs.b
  go_big_op
  go_fit (det_ok (HA.out.bl stab_n hb) hna HG.out HK.out HM.out (by decide) (by decide))
  rintro e w_3 ⟨_, rfl, ⟨n_xa, o_xa, k_xa, c_xa, n_xb, o_xb, k_xb, c_xb, rfl, x1, x2⟩, hb_3⟩
  clear hb
  replace hs := hs.bl hb_3
  have Lx1 := hide (x1.lenOf (LD.out.1))
  have Lx2 := hide (x2.lenOf (LD.out.2))
  refine hK _ _ rfl trivial ?_
  clear hK K
  refine sq ?_
  refine .mv ?_
  refine sq ?_
  refine .r0 ?_
  refine sq ?_
  refine .r0 ?_
  refine sq ?_
  refine .al hs ?_; clear hs; intro p_b2 w_4 hs n4 kb_b2
  refine sq ?_
  refine .s4 hs.g0 (fun _ => hs.u0 kb_b2) ?_; clear hs; intro w_5 hs hd5 ho5
  refine sq ?_
  refine .mv ?_
  apply wpSq_end
  refine hK4 _ _ ?_
  refine wp_seq_k ?_
  intro K5 hK5
  refine wp_seq_k ?_
  intro K6 hK6
  refine rg [0, 1] ?_
  refine sq ?_
  refine .mv ?_
  refine sq ?_
  refine .r0 ?_
  apply wpSq_end
  refine hK6 _ _ ?_
  refine cf ?_
  refine wp_skip ?_
  refine hK5 _ _ ?_
  refine wp_seq_k ?_
  intro K7 hK7
  refine rg [0, 1, 2, 3, 4, 5, 6, 7] ?_
  refine sq ?_
  refine .mv ?_
  refine sq ?_
  intro K hK
  have hb := hs.b
  go_big_op
  go_fit (det_ok (HB.out.bl stab_n hb) hnb HGB.out HKB.out HMB.out (by decide) (by decide))
  rintro e w_6 ⟨_, rfl, ⟨n_ya, o_ya, k_ya, c_ya, n_yb, o_yb, k_yb, c_yb, rfl, y1, y2⟩, hb_6⟩
  clear hb
  replace hs := hs.bl hb_6
  refine hK _ _ rfl trivial ?_
  clear hK K
  refine sq ?_
  refine .mv ?_
  refine sq ?_
  refine .r0 ?_
  refine sq ?_
  refine .r0 ?_
  refine sq ?_
  refine .al hs ?_; clear hs; intro p_b3 w_7 hs n7 kb_b3
  refine sq ?_
  refine .s4 hs.g0 (fun _ => hs.u0 kb_b3) ?_; clear hs; intro w_8 hs hd8 ho8
  refine sq ?_
  refine .mv ?_
  apply wpSq_end
  refine hK7 _ _ ?_
  refine wp_seq_k ?_
  intro K8 hK8
  refine rg [0, 1, 2, 3, 4, 5, 6, 7] ?_
  refine sq ?_
  refine .mv ?_
  refine sq ?_
  refine .mv ?_
  refine sq ?_
  intro K hK
  have hb := hs.b
  go_big_op
  go_fit (mMul_bad (HA.out.bl stab_n hb) (HB.out.bl stab_n hb) hna hnb HNM.out (by omega) (by omega))
  rintro e w_9 ⟨rfl, hb_9⟩
  clear hb
  replace hs := hs.bl hb_9
  refine hK _ _ rfl trivial ?_
  clear hK K
  refine sq ?_
  refine .mv ?_
  refine sq ?_
  refine .r0 ?_
  refine sq ?_
  refine .r0 ?_
  refine sq ?_
  refine .mv ?_
  refine sq ?_
  refine .mv ?_
  apply wpSq_end
  refine hK8 _ _ ?_
  refine wp_seq_k ?_
  intro K9 hK9
  refine wp_seq_k ?_
  intro K10 hK10
  refine rg [0, 1, 2, 3, 4, 5, 6, 7, 8, 9, 10, 11, 12] ?_
  refine sq ?_
  refine .mv ?_
  refine sq ?_
  refine .r0 ?_
  refine sq ?_
  refine .mv ?_
  refine sq ?_
  refine .mv ?_
  refine sq ?_
  refine .r0 ?_
  refine sq ?_
  refine .r0 ?_
  refine sq ?_
  refine .mv ?_
  refine sk ?_
  refine sk ?_
  refine sk ?_
  refine sk ?_
  refine sk ?_
  refine sq ?_
  refine .r0 ?_
  apply wpSq_end
  refine hK10 _ _ ?_
  refine cf ?_
  refine wp_skip ?_
  refine hK9 _ _ ?_
  refine wp_seq_k ?_
  intro K11 hK11
  refine rg [0, 1, 2, 3, 4, 5, 6, 7, 8] ?_
  refine sq ?_
  refine .mv ?_
  refine sq ?_
  refine .mv ?_
  refine sq ?_
  refine .mv ?_
  refine sq ?_
  intro K hK
  have hb := hs.b
  go_big_op
  go_fit (mSwap_arg (HA.out.bl stab_n hb) hna HG.out (by decide) HIA.out)
  rintro e w_10 ⟨rfl, hb_10⟩
  clear hb
  replace hs := hs.bl hb_10
  refine hK _ _ rfl trivial ?_
  clear hK K
  refine sq ?_
  refine .mv ?_
  refine sq ?_
  refine .r0 ?_
  refine sq ?_
  refine .r0 ?_
  refine sq ?_
  refine .mv ?_
  refine sq ?_
  refine .mv ?_
  apply wpSq_end
  refine hK11 _ _ ?_
  refine wp_seq_k ?_
  intro K12 hK12
  refine wp_seq_k ?_
  intro K13 hK13
  refine rg [0, 1, 2, 3, 4, 5, 6] ?_
  refine sq ?_
  refine .mv ?_
  refine sq ?_
  refine .r0 ?_
  refine sq ?_
  refine .mv ?_
  refine sk ?_
  refine sk ?_
  refine sk ?_
  refine sq ?_
  refine .r0 ?_
  apply wpSq_end
  refine hK13 _ _ ?_
  refine cf ?_
  refine wp_skip ?_
  refine hK12 _ _ ?_
  refine wp_seq_k ?_
  intro K14 hK14
  refine rg [0, 1, 2, 3, 4, 5, 6] ?_
  refine sq ?_
  refine .mv ?_
  refine sq ?_
  intro K hK
  have hb := hs.b
  go_big_op
  go_fit (mxmt (adjugate_ok (HA.out.bl stab_n hb) hna HG.out HK.out HC.out (by decide) (by decide)))
  rintro e w_11 ⟨o_J, c_J, rfl, m_J, hb_11⟩
  clear hb
  replace hs := hs.bl hb_11
  refine hK _ _ rfl trivial ?_
  clear hK K
  refine sq ?_
  refine .mv ?_
  refine sq ?_
  refine .r0 ?_
  refine sq ?_
  refine .r0 ?_
  refine sq ?_
  refine .mv ?_
  refine sq ?_
  refine .mv ?_
  apply wpSq_end
  refine hK14 _ _ ?_
  refine wp_seq_k ?_
  intro K15 hK15
  refine rg [0, 1, 2, 3, 4, 5, 6, 7] ?_
  refine sq ?_
  refine .mv ?_
  refine sq ?_
  refine .mv ?_
  refine sq ?_
  intro K hK
  have hb := hs.b
  go_big_op
  go_fit (mxmt (mMul_ok (HA.out.bl stab_n hb) (m_J.mn BJ.out) hna len_mkM MJ.out (by decide) (by decide)))
  rintro e w_12 ⟨o_D, c_D, rfl, m_D, hb_12⟩
  clear hb
  replace m_J := m_J.bl hb_12; replace hs := hs.bl hb_12
  refine hK _ _ rfl trivial ?_
  clear hK K
  refine sq ?_
  refine .mv ?_
  refine sq ?_
  refine .r0 ?_
  refine sq ?_
  refine .r0 ?_
  refine sq ?_
  refine .mv ?_
  refine sq ?_
  refine .mv ?_
  apply wpSq_end
  refine hK15 _ _ ?_
  refine wp_seq_k ?_
  intro K16 hK16
  refine rg [0, 1, 2, 3, 4, 5, 6, 7] ?_
  refine sq ?_
  refine .mv ?_
  refine sq ?_
  refine .r0 ?_
  refine sq ?_
  intro K hK
  go_big_op
  go_fit (mxmt (mIdent_ok n64))
  rintro e w_13 ⟨o_O, c_O, rfl, m_O, hb_13⟩
  replace m_D := m_D.bl hb_13; replace hs := hs.bl hb_13
  refine hK _ _ rfl trivial ?_
  clear hK K
  refine sq ?_
  refine .mv ?_
  refine sq ?_
  refine .r0 ?_
  refine sq ?_
  refine .r0 ?_
  refine sq ?_
  refine .mv ?_
  refine sq ?_
  refine .mv ?_
  apply wpSq_end
  refine hK16 _ _ ?_
  refine wp_seq_k ?_
  intro K17 hK17
  refine rg [0, 1, 2, 3, 4, 5, 6, 7] ?_
  refine sq ?_
  refine .mv ?_
  refine sq ?_
  refine .r4 hs.g1.f4 ?_
  refine sq ?_
  intro K hK
  have k3_13 := (((((((((kb n4).o hd5 ho5).b hb_6).b n7).o hd8 ho8).b hb_9).b hb_10).b hb_11).b hb_12).b hb_13
  replace x1 := x1.k k3_13
  replace x2 := x2.k k3_13
  go_big_op
  go_fit (mxmt (mScale_ok (m_O.mn B1.out) (.mk' (x1.zn Lx1.out) (x2.zn Lx2.out)) len_mkM G1.out (by decide) (by decide)))
  rintro e w_14 ⟨o_W, c_W, rfl, m_W, hb_14⟩
  replace m_D := m_D.bl hb_14; replace m_O := m_O.bl hb_14; replace hs := hs.bl hb_14
  rw [W1.out] at m_W
  refine hK _ _ rfl trivial ?_
  clear hK K
  refine sq ?_
  refine .mv ?_
  refine sq ?_
  refine .r0 ?_
  refine sq ?_
  refine .r0 ?_
  refine sq ?_
  refine .mv ?_
  refine sq ?_
  refine .mv ?_
  apply wpSq_end
  refine hK17 _ _ ?_
  refine wp_seq_k ?_
  intro K18 hK18
  refine rg [0, 1, 2, 3, 4, 5, 6, 7, 8, 9, 10, 11, 12, 13, 14, 15, 16, 17, 18, 19] ?_
  refine sq ?_
  refine .mv ?_
  refine sq ?_
  refine .r0 ?_
  refine sq ?_
  refine .mv ?_
  refine sq ?_
  refine .mv ?_
  refine sq ?_
  refine .r0 ?_
  refine sq ?_
  refine .r0 ?_
  refine sq ?_
  refine .mv ?_
  refine sq ?_
  refine .mv ?_
  refine sq ?_
  refine .r0 ?_
  refine sq ?_
  refine .r0 ?_
  refine sq ?_
  refine .mv ?_
  refine sq ?_
  refine .mv ?_
  refine sq ?_
  refine .r0 ?_
  refine sq ?_
  refine .r0 ?_
  refine sq ?_
  refine .mv ?_
  refine sq ?_
  refine .mv ?_
  refine sq ?_
  refine .mv ?_
  refine sq ?_
  intro K hK
  go_big_op
  go_fit (mEqual_any (m_D.mn BP.out) (m_W.mn BW.out) LP.out len_mkM (by omega) (by omega) (by decide) (by decide))
  rintro e w_15 ⟨rfl, hb_15⟩
  clear y1 y2 hq1 hq2 m_J x1 x2 m_O
  replace m_D := m_D.bl hb_15; replace m_W := m_W.bl hb_15; replace hs := hs.bl hb_15
  rw [decide_eq_true HE.out]
  refine hK _ _ rfl trivial ?_
  clear hK K
  refine sq ?_
  refine .r0 ?_
  refine sq ?_
  refine .mv ?_
  apply wpSq_end
  refine hK18 _ _ ?_
  refine wp_ret ?_
  try dsimp only [Exit.then, Exit.inBlock]
  refine bodyPost_ret (v := (.bool true)) (by simp [results, Tryz.results4, go_sem]) rfl ?_
  exact ⟨rfl, hs.b⟩
set_option maxHeartbeats 4000000 in
set_option maxRecDepth 20000 in
theorem al_31 (ha : MN 1048576 w oa A) (hb' : MN 1048576 w ob B) (hq : PN w vg u l v l) (hl : l = 1048576) (hna : A.length = na) (hnb : B.length = nb) (la : na ≤ 1048576) (lb : nb ≤ 1048576) (ta : Tot 1048576 A) (tb : Tot 1048576 B) (h : gd A) (hk : wd A = na) (h2 : gd B ∧ nb = na) (h3 : wd B ≠ nb) (hi : i < na) (hj : j < na) (hij : i ≠ j) :
    Calls Tryz.prog 4 #[.slice oa na ca, .slice ob nb cb, .int .i64 (i : Int), .int .i64 (j : Int), vg] w fun e w' => e = .returned (.bool true) ∧ Below w.heap.size w w' := by
  have n64 : na ≤ 64 := by have := h.1; omega
  have HA := hide ha
  have HB := hide hb'
  have HG := hide h
  have HK := hide hk
  have HM := hide (show MinB na na 1050641 (at2 A) from fun s f g h1 h2 => zl_up (ta.minB (W := na) hna n64 s f g h1 h2) (by omega))
  have HC := hide (show MinB (na + na) (na + na) 1050641 (brd na (at2 A)) from ta.brd hna n64)
  have LD := hide (show zl 1050641 (Dt.det na (at2 A)) from HM.out na id id (fun r hr => ⟨hr, hr⟩) (fun r q h _ => by simp only [id]; omega))
  have BJ := hide (show BdM 1050641 (mkM na na (adjE na (at2 A))) from bdM_mk fun i hi j hj => zl_adjE HC.out hi hj)
  have GJ := hide (show gd (mkM na na (adjE na (at2 A))) from gd_mkM n64 n64)
  have MJ := hide (show ml2 A (mkM na na (adjE na (at2 A))) from ⟨h, GJ.out, by rw [len_mkM]; exact hk⟩)
  have BP := hide (show BdM 3000000 (mulM A (mkM na na (adjE na (at2 A)))) from bdM_up (bd_mulM ha.bd BJ.out) (by rw [len_mkM]; omega))
  have LP := hide (show (mulM A (mkM na na (adjE na (at2 A)))).length = na from len_mulM.trans hna)
  have B1 := hide (show BdM 1 (mkM na na one2) from bdM_mk fun i _ j _ => zl_one2 0 i j)
  have G1 := hide (show gd (mkM na na one2) from gd_mkM n64 n64)
  have W1 := hide (show wd (mkM na na one2) = na from wd_mkM (by omega))
  have BW := hide (show BdM 3000000 (mkM na na fun i j => mP (at2 (mkM na na one2) i j) (Dt.det na (at2 A))) from bdM_mk fun i _ j _ => zl_up (zl_mP (at2_bd B1.out) LD.out) (by omega))
  have HE := hide (mulM_adj h hna hk)
  have HNB := hide (show ¬ (gd B ∧ wd B = nb) from fun c => h3 c.2)
  have HML := hide (show ml2 A B from ⟨h, h2.1, by rw [hk, hnb, h2.2]⟩)
  have t1 : ((i : Int) != (j : Int)) = true := bne_iff_ne.2 (by omega)
  have HI := hide hi
  have HJ := hide hj
  have HIJ := hide hij
  have GS := hide (show gd (mkM na na fun r => at2 A (swr i j r)) from gd_mkM n64 n64)
  have WS := hide (show wd (mkM na na fun r => at2 A (swr i j r)) = na from wd_mkM (by omega))
  have MS := hide (show MinB na na 1050641 (at2 (mkM na na fun r => at2 A (swr i j r))) from (HM.out.swr hi hj).cong fun i hi j hj => at2_mkM hi hj)
  have BS := hide (show BdM 1048576 (mkM na na fun r => at2 A (swr i j r)) from bdM_mk fun p _ q _ => at2_bd ha.bd)
  have DS := hide (show Dt.det na (at2 (mkM na na fun r => at2 A (swr i j r))) = - Dt.det na (at2 A) by rw [at2_eq (k := 0)]; exact (Dt.alt_det (R := Int × Int) (n := na)).swap hij hi hj (at2 A))
  have DS1 := hide (show (Dt.det na (at2 (mkM na na fun r => at2 A (swr i j r)))).1 = - (Dt.det na (at2 A)).1 by rw [DS.out]; rfl)
  have DS2 := hide (show (Dt.det na (at2 (mkM na na fun r => at2 A (swr i j r)))).2 = - (Dt.det na (at2 A)).2 by rw [DS.out]; rfl)
  have LS := hide (show zl 1050641 (Dt.det na (at2 (mkM na na fun r => at2 A (swr i j r)))) from MS.out na id id (fun r hr => ⟨hr, hr⟩) (fun r q h _ => by simp only [id]; omega))
  obtain ⟨R, hR⟩ : ∃ R, R = rowed (at2 A) i fun q => aP (at2 A i q) (mP (u, v) (at2 A j q)) := ⟨_, rfl⟩
  have HR := hide hR
  have ZQ : zl l (u, v) := by obtain ⟨_, _, _, _, _, _, _, _, _, z1, z2⟩ := hq; exact ⟨z1.len, z2.len⟩
  have GT := hide (show gd (mkM na na R) from gd_mkM n64 n64)
  have WT := hide (show wd (mkM na na R) = na from wd_mkM (by omega))
  have MT := hide (show MinB na na 2200000 (at2 (mkM na na R)) from MinB.cong (F := R) (by rw [hR]; exact fun s f g h4 h5 => zl_up (rowed_minB HM.out hij hi hj ZQ s f g h4 h5) (by omega)) fun i hi j hj => at2_mkM hi hj)
  have BT := hide (show BdM 3000000 (mkM na na R) from bdM_mk fun p hp q hq => by
    have h4 := MT.out.D 0 p hp q hq
    rw [Dt.D_0, at2_mkM hp hq] at h4
    exact zl_up h4 (by omega))
  have DT := hide (show Dt.det na (at2 (mkM na na R)) = Dt.det na (at2 A) by rw [at2_eq (k := 0), hR]; exact det_rowed hij hi hj)
  have LT := hide (show zl 2200000 (Dt.det na (at2 (mkM na na R))) from MT.out na id id (fun r hr => ⟨hr, hr⟩) (fun r q h _ => by simp only [id]; omega))
  clear hR
  clear ha hb' h hk h2 ta tb hij h3
  obtain ⟨n_4a, o_4a, k_4a, c_4a, n_4b, o_4b, k_4b, c_4b, rfl, hq1, hq2⟩ := hq
  go_enter Tryz.func4, Tryz.ntmps4
  have hs := St.nil w
  refine wp_seq_k ?_
  intro K1 hK1
  refine rg [0, 1] ?_
  refine sq ?_
  refine .al hs ?_; clear hs; intro p_b1 w_1 hs n1 kb_b1
  refine sq ?_
  refine .mv ?_
  apply wpSq_end
  refine hK1 _ _ ?_
  refine wp_seq_k ?_
  intro K2 hK2
  refine wp_seq_k ?_
  intro K3 hK3
  refine rg [0, 1] ?_
  refine sq ?_
  intro K hK
  go_big_op
  go_fit (awake9_any _)
  rintro e w_2 ⟨rfl, hb_2⟩
  replace hs := hs.bl hb_2
  refine hK _ _ rfl trivial ?_
  clear hK K
  refine sq ?_
  refine .r0 ?_
  apply wpSq_end
  refine hK3 _ _ ?_
  refine cf ?_
  refine wp_skip ?_
  refine hK2 _ _ ?_
  refine wp_seq_k ?_
  intro K4 hK4
  refine rg [0, 1, 2, 3, 4, 5, 6, 7] ?_
  refine sq ?_
  refine .mv ?_
  refine sq ?_
  intro K hK
  have hb := hs.b
  go_big_op
  go_fit (det_ok (HA.out.bl stab_n hb) hna HG.out HK.out HM.out (by decide) (by decide))
  rintro e w_3 ⟨_, rfl, ⟨n_xa, o_xa, k_xa, c_xa, n_xb, o_xb, k_xb, c_xb, rfl, x1, x2⟩, hb_3⟩
  clear hb
  replace hs := hs.bl hb_3
  have Lx1 := hide (x1.lenOf (LD.out.1))
  have Lx2 := hide (x2.lenOf (LD.out.2))
  refine hK _ _ rfl trivial ?_
  clear hK K
  refine sq ?_
  refine .mv ?_
  refine sq ?_
  refine .r0 ?_
  refine sq ?_
  refine .r0 ?_
  refine sq ?_
  refine .al hs ?_; clear hs; intro p_b2 w_4 hs n4 kb_b2
  refine sq ?_
  refine .s4 hs.g0 (fun _ => hs.u0 kb_b2) ?_; clear hs; intro w_5 hs hd5 ho5
  refine sq ?_
  refine .mv ?_
  apply wpSq_end
  refine hK4 _ _ ?_
  refine wp_seq_k ?_
  intro K5 hK5
  refine wp_seq_k ?_
  intro K6 hK6
  refine rg [0, 1] ?_
  refine sq ?_
  refine .mv ?_
  refine sq ?_
  refine .r0 ?_
  apply wpSq_end
  refine hK6 _ _ ?_
  refine cf ?_
  refine wp_skip ?_
  refine hK5 _ _ ?_
  refine wp_seq_k ?_
  intro K7 hK7
  refine rg [0, 1, 2, 3, 4, 5, 6, 7] ?_
  refine sq ?_
  refine .mv ?_
  refine sq ?_
  intro K hK
  have hb := hs.b
  go_big_op
  go_fit (det_bad (HB.out.bl stab_n hb) hnb HNB.out (by omega))
  rintro e w_6 ⟨rfl, hb_6⟩
  clear hb
  replace hs := hs.bl hb_6
  refine hK _ _ rfl trivial ?_
  clear hK K
  refine sq ?_
  refine .mv ?_
  refine sq ?_
  refine .r0 ?_
  refine sq ?_
  refine .r0 ?_
  refine sq ?_
  refine .al hs ?_; clear hs; intro p_b3 w_7 hs n7 kb_b3
  refine sq ?_
  refine .s4 hs.g0 (fun _ => hs.u0 kb_b3) ?_; clear hs; intro w_8 hs hd8 ho8
  refine sq ?_
  refine .mv ?_
  apply wpSq_end
  refine hK7 _ _ ?_
  refine wp_seq_k ?_
  intro K8 hK8
  refine rg [0, 1, 2, 3, 4, 5, 6, 7] ?_
  refine sq ?_
  refine .mv ?_
  refine sq ?_
  refine .mv ?_
  refine sq ?_
  intro K hK
  have hb := hs.b
  go_big_op
  go_fit (mxmt (mMul_ok (HA.out.bl stab_n hb) (HB.out.bl stab_n hb) hna hnb HML.out (by decide) (by decide)))
  rintro e w_9 ⟨o_P, c_P, rfl, m_P, hb_9⟩
  clear hb
  replace hs := hs.bl hb_9
  refine hK _ _ rfl trivial ?_
  clear hK K
  refine sq ?_
  refine .mv ?_
  refine sq ?_
  refine .r0 ?_
  refine sq ?_
  refine .r0 ?_
  refine sq ?_
  refine .mv ?_
  refine sq ?_
  refine .mv ?_
  apply wpSq_end
  refine hK8 _ _ ?_
  refine wp_seq_k ?_
  intro K9 hK9
  refine wp_seq_k ?_
  intro K10 hK10
  refine rg [0, 1, 2, 3, 4, 5, 6, 7, 8, 9, 10, 11, 12] ?_
  refine sq ?_
  refine .mv ?_
  refine sq ?_
  refine .r0 ?_
  refine sq ?_
  refine .mv ?_
  refine sk ?_
  refine sk ?_
  refine sq ?_
  refine .r0 ?_
  refine sq ?_
  refine .mv ?_
  refine sk ?_
  refine sk ?_
  refine sk ?_
  refine sk ?_
  refine sk ?_
  refine sq ?_
  refine .r0 ?_
  apply wpSq_end
  refine hK10 _ _ ?_
  refine cf ?_
  refine wp_skip ?_
  refine hK9 _ _ ?_
  refine wp_seq_k ?_
  intro K11 hK11
  refine rg [0, 1, 2, 3, 4, 5, 6, 7, 8] ?_
  refine sq ?_
  refine .mv ?_
  refine sq ?_
  refine .mv ?_
  refine sq ?_
  refine .mv ?_
  refine sq ?_
  intro K hK
  have hb := hs.b
  go_big_op
  go_fit (mxmt (mSwap_ok (HA.out.bl stab_n hb) hna HG.out HK.out HI.out HJ.out (by decide)))
  rintro e w_10 ⟨o_S, c_S, rfl, m_S, hb_10⟩
  clear hb
  replace hs := hs.bl hb_10
  refine hK _ _ rfl trivial ?_
  clear hK K
  refine sq ?_
  refine .mv ?_
  refine sq ?_
  refine .r0 ?_
  refine sq ?_
  refine .r0 ?_
  refine sq ?_
  refine .mv ?_
  refine sq ?_
  refine .mv ?_
  apply wpSq_end
  refine hK11 _ _ ?_
  refine wp_seq_k ?_
  intro K12 hK12
  refine wp_seq_k ?_
  intro K13 hK13
  refine rg [0, 1, 2, 3, 4, 5, 6] ?_
  refine sq ?_
  refine .mv ?_
  refine sq ?_
  refine .r0 ?_
  refine sq ?_
  refine .mv ?_
  refine sq ?_
  refine .mv ?_
  refine sq ?_
  refine .mv ?_
  refine sq ?_
  refine .r0 ?_
  refine sq ?_
  refine .r0 ?_
  apply wpSq_end
  refine hK13 _ _ ?_
  refine ct ?_
  refine wp_seq_k ?_
  intro K14 hK14
  refine rg [0, 1, 2, 3, 4, 5, 6, 7] ?_
  refine sq ?_
  refine .mv ?_
  refine sq ?_
  intro K hK
  go_big_op
  go_fit (det_ok (m_S.mn BS.out) len_mkM GS.out WS.out MS.out (by decide) (by decide))
  rintro e w_11 ⟨_, rfl, ⟨n_sa, o_sa, k_sa, c_sa, n_sb, o_sb, k_sb, c_sb, rfl, s1, s2⟩, hb_11⟩
  replace m_S := m_S.bl hb_11; replace hs := hs.bl hb_11
  have Ls1 := hide (s1.lenOf (LS.out.1))
  have Ls2 := hide (s2.lenOf (LS.out.2))
  refine hK _ _ rfl trivial ?_
  clear hK K
  refine sq ?_
  refine .mv ?_
  refine sq ?_
  refine .r0 ?_
  refine sq ?_
  refine .r0 ?_
  refine sq ?_
  refine .al hs ?_; clear hs; intro p_b4 w_12 hs n12 kb_b4
  refine sq ?_
  refine .s4 hs.g0 (fun _ => hs.u0 kb_b4) ?_; clear hs; intro w_13 hs hd13 ho13
  refine sq ?_
  refine .mv ?_
  apply wpSq_end
  refine hK14 _ _ ?_
  refine wp_seq_k ?_
  intro K15 hK15
  refine rg [0, 1, 2, 3, 4, 5, 6, 7, 8, 9] ?_
  refine sq ?_
  refine .mv ?_
  refine sq ?_
  refine .mv ?_
  refine sq ?_
  refine .mv ?_
  refine sq ?_
  refine .r4 hs.g3.f4 ?_
  refine sq ?_
  intro K hK
  have hb := hs.b
  have k0_13 := ((((((((((((kb n1).b hb_2).b hb_3).b n4).o hd5 ho5).b hb_6).b n7).o hd8 ho8).b hb_9).b hb_10).b hb_11).b n12).o hd13 ho13
  replace hq1 := hq1.k k0_13
  replace hq2 := hq2.k k0_13
  go_big_op
  go_fit (mxmt (mAddRow_ok (HA.out.bl stab_n hb) (.mk' hq1 hq2) hna HG.out HK.out HI.out HJ.out HIJ.out (by decide) (by omega)))
  rintro e w_14 ⟨o_T, c_T, rfl, m_T, hb_14⟩
  clear hb
  replace hs := hs.bl hb_14
  rw [← HR.out] at m_T
  refine hK _ _ rfl trivial ?_
  clear hK K
  refine sq ?_
  refine .mv ?_
  refine sq ?_
  refine .r0 ?_
  refine sq ?_
  refine .r0 ?_
  refine sq ?_
  refine .mv ?_
  refine sq ?_
  refine .mv ?_
  apply wpSq_end
  refine hK15 _ _ ?_
  refine wp_seq_k ?_
  intro K16 hK16
  refine rg [0, 1, 2, 3, 4, 5, 6, 7] ?_
  refine sq ?_
  refine .mv ?_
  refine sq ?_
  intro K hK
  go_big_op
  go_fit (det_ok (m_T.mn BT.out) len_mkM GT.out WT.out MT.out (by decide) (by decide))
  rintro e w_15 ⟨_, rfl, ⟨n_ta, o_ta, k_ta, c_ta, n_tb, o_tb, k_tb, c_tb, rfl, t1, t2⟩, hb_15⟩
  replace m_T := m_T.bl hb_15; replace hs := hs.bl hb_15
  have Lt1 := hide (t1.lenOf (LT.out.1))
  have Lt2 := hide (t2.lenOf (LT.out.2))
  refine hK _ _ rfl trivial ?_
  clear hK K
  refine sq ?_
  refine .mv ?_
  refine sq ?_
  refine .r0 ?_
  refine sq ?_
  refine .r0 ?_
  refine sq ?_
  refine .al hs ?_; clear hs; intro p_b5 w_16 hs n16 kb_b5
  refine sq ?_
  refine .s4 hs.g0 (fun _ => hs.u0 kb_b5) ?_; clear hs; intro w_17 hs hd17 ho17
  refine sq ?_
  refine .mv ?_
  apply wpSq_end
  refine hK16 _ _ ?_
  refine wp_seq_k ?_
  intro K17 hK17
  refine wp_region_f4 [(0, false), (1, false), (2, false), (3, false), (4, false), (5, false), (6, false), (7, false), (8, false), (9, false), (10, false), (11, false), (12, false), (13, true), (14, true), (15, false), (16, false), (17, false), (18, false), (19, false), (20, true), (21, false), (22, false)] [] [] (fun _ => default) [99, 99, 99, 99, 99, 99, 99, 99, 99, 99, 99, 0, 1, 99, 99, 99, 99, 99, 2, 1, 99, 99, 99] [] (.c hs.g1 (.c hs.g3 (.c hs.g0 .n))) fn fun w_18 n18 => ?_
  replace hs := hs.bl n18
  refine fmv ?_
  refine f0 ?_
  refine fmv ?_
  refine fmv ?_
  refine f0 ?_
  refine f0 ?_
  refine fmv ?_
  refine fmv ?_
  refine f0 ?_
  refine f0 ?_
  refine fmv ?_
  refine f4 ?_
  refine f4 ?_
  refine fl fun w_19 n19 => ?_
  replace hs := hs.bl n19
  intro K hK
  have k3_19 := (((((((((((((((kb n4).o hd5 ho5).b hb_6).b n7).o hd8 ho8).b hb_9).b hb_10).b hb_11).b n12).o hd13 ho13).b hb_14).b hb_15).b n16).o hd17 ho17).b n18).b n19
  replace x1 := x1.k k3_19
  replace x2 := x2.k k3_19
  go_big_op
  go_fit (gNeg_any (.mk' (x1.zn Lx1.out) (x2.zn Lx2.out)) (by decide) (by decide))
  rintro e w_20 ⟨_, rfl, ⟨n_ga, o_ga, k_ga, c_ga, n_gb, o_gb, k_gb, c_gb, rfl, g1, g2⟩, hb_20⟩
  replace hs := hs.bl hb_20
  have Lg1 := hide (g1.lenOf (zlen_neg Lx1.out))
  have Lg2 := hide (g2.lenOf (zlen_neg Lx2.out))
  refine hK _ _ rfl ⟨hb_20, (And.intro hs.g1 (And.intro hs.g3 (And.intro hs.g0 trivial)))⟩ ?_
  clear hK K
  refine fl fun w_21 n21 => ?_
  replace hs := hs.bl n21
  intro K hK
  have k11_21 := (((((((((kb n12).o hd13 ho13).b hb_14).b hb_15).b n16).o hd17 ho17).b n18).b n19).b hb_20).b n21
  replace s1 := s1.k k11_21
  replace s2 := s2.k k11_21
  have k20_21 := kb n21
  replace g1 := g1.k k20_21
  replace g2 := g2.k k20_21
  go_big_op
  go_fit (gEqual_yes (.mk' (s1.zn Ls1.out) (s2.zn Ls2.out)) (.mk' (g1.zn Lg1.out) (g2.zn Lg2.out)) (by decide) (by decide) (by decide) (by decide) DS1.out DS2.out)
  rintro e w_22 ⟨rfl, hb_22⟩
  replace hs := hs.bl hb_22
  refine hK _ _ rfl ⟨hb_22, (And.intro hs.g1 (And.intro hs.g3 (And.intro hs.g0 trivial)))⟩ ?_
  clear hK K
  refine f0 ?_
  refine f0 ?_
  refine fmv ?_
  refine f4 ?_
  refine f4 ?_
  refine fl fun w_23 n23 => ?_
  clear m_P m_S hq1 hq2 m_T g1 g2
  replace hs := hs.bl n23
  intro K hK
  have k15_23 := (((((((kb n16).o hd17 ho17).b n18).b n19).b hb_20).b n21).b hb_22).b n23
  replace t1 := t1.k k15_23
  replace t2 := t2.k k15_23
  have k19_23 := (((kb hb_20).b n21).b hb_22).b n23
  replace x1 := x1.k k19_23
  replace x2 := x2.k k19_23
  go_big_op
  go_fit (gEqual_yes (.mk' (t1.zn Lt1.out) (t2.zn Lt2.out)) (.mk' (x1.zn Lx1.out) (x2.zn Lx2.out)) (by decide) (by decide) (by decide) (by decide) (congrArg Prod.fst DT.out) (congrArg Prod.snd DT.out))
  rintro e w_24 ⟨rfl, hb_24⟩
  replace hs := hs.bl hb_24
  refine hK _ _ rfl ⟨hb_24, (And.intro hs.g1 (And.intro hs.g3 (And.intro hs.g0 trivial)))⟩ ?_
  clear hK K
  refine f0 ?_
  refine f0 ?_
  refine e0 hs ?_; clear hs; intro w_25 hs n25
  apply wpTail_end
  refine hK17 _ _ ?_
  refine cf ?_
  refine wp_skip ?_
  refine hK12 _ _ ?_
  refine wp_seq_k ?_
  intro K18 hK18
  refine rg [0, 1, 2, 3, 4, 5, 6] ?_
  refine sq ?_
  refine .mv ?_
  refine sq ?_
  intro K hK
  have hb := hs.b
  go_big_op
  go_fit (mxmt (adjugate_ok (HA.out.bl stab_n hb) hna HG.out HK.out HC.out (by decide) (by decide)))
  rintro e w_26 ⟨o_J, c_J, rfl, m_J, hb_26⟩
  clear hb
  replace hs := hs.bl hb_26
  refine hK _ _ rfl trivial ?_
  clear hK K
  refine sq ?_
  refine .mv ?_
  refine sq ?_
  refine .r0 ?_
  refine sq ?_
  refine .r0 ?_
  refine sq ?_
  refine .mv ?_
  refine sq ?_
  refine .mv ?_
  apply wpSq_end
  refine hK18 _ _ ?_
  refine wp_seq_k ?_
  intro K19 hK19
  refine rg [0, 1, 2, 3, 4, 5, 6, 7] ?_
  refine sq ?_
  refine .mv ?_
  refine sq ?_
  refine .mv ?_
  refine sq ?_
  intro K hK
  have hb := hs.b
  go_big_op
  go_fit (mxmt (mMul_ok (HA.out.bl stab_n hb) (m_J.mn BJ.out) hna len_mkM MJ.out (by decide) (by decide)))
  rintro e w_27 ⟨o_D, c_D, rfl, m_D, hb_27⟩
  clear hb
  replace m_J := m_J.bl hb_27; replace hs := hs.bl hb_27
  refine hK _ _ rfl trivial ?_
  clear hK K
  refine sq ?_
  refine .mv ?_
  refine sq ?_
  refine .r0 ?_
  refine sq ?_
  refine .r0 ?_
  refine sq ?_
  refine .mv ?_
  refine sq ?_
  refine .mv ?_
  apply wpSq_end
  refine hK19 _ _ ?_
  refine wp_seq_k ?_
  intro K20 hK20
  refine rg [0, 1, 2, 3, 4, 5, 6, 7] ?_
  refine sq ?_
  refine .mv ?_
  refine sq ?_
  refine .r0 ?_
  refine sq ?_
  intro K hK
  go_big_op
  go_fit (mxmt (mIdent_ok n64))
  rintro e w_28 ⟨o_O, c_O, rfl, m_O, hb_28⟩
  replace m_D := m_D.bl hb_28; replace hs := hs.bl hb_28
  refine hK _ _ rfl trivial ?_
  clear hK K
  refine sq ?_
  refine .mv ?_
  refine sq ?_
  refine .r0 ?_
  refine sq ?_
  refine .r0 ?_
  refine sq ?_
  refine .mv ?_
  refine sq ?_
  refine .mv ?_
  apply wpSq_end
  refine hK20 _ _ ?_
  refine wp_seq_k ?_
  intro K21 hK21
  refine rg [0, 1, 2, 3, 4, 5, 6, 7] ?_
  refine sq ?_
  refine .mv ?_
  refine sq ?_
  refine .r4 hs.g3.f4 ?_
  refine sq ?_
  intro K hK
  have k23_28 := ((((kb hb_24).b n25).b hb_26).b hb_27).b hb_28
  replace x1 := x1.k k23_28
  replace x2 := x2.k k23_28
  go_big_op
  go_fit (mxmt (mScale_ok (m_O.mn B1.out) (.mk' (x1.zn Lx1.out) (x2.zn Lx2.out)) len_mkM G1.out (by decide) (by decide)))
  rintro e w_29 ⟨o_W, c_W, rfl, m_W, hb_29⟩
  replace m_D := m_D.bl hb_29; replace m_O := m_O.bl hb_29; replace hs := hs.bl hb_29
  rw [W1.out] at m_W
  refine hK _ _ rfl trivial ?_
  clear hK K
  refine sq ?_
  refine .mv ?_
  refine sq ?_
  refine .r0 ?_
  refine sq ?_
  refine .r0 ?_
  refine sq ?_
  refine .mv ?_
  refine sq ?_
  refine .mv ?_
  apply wpSq_end
  refine hK21 _ _ ?_
  refine wp_seq_k ?_
  intro K22 hK22
  refine rg [0, 1, 2, 3, 4, 5, 6, 7, 8, 9, 10, 11, 12, 13, 14, 15, 16, 17, 18, 19] ?_
  refine sq ?_
  refine .mv ?_
  refine sq ?_
  refine .r0 ?_
  refine sq ?_
  refine .mv ?_
  refine sq ?_
  refine .mv ?_
  refine sq ?_
  refine .r0 ?_
  refine sq ?_
  refine .r0 ?_
  refine sq ?_
  refine .mv ?_
  refine sq ?_
  refine .mv ?_
  refine sq ?_
  refine .r0 ?_
  refine sq ?_
  refine .r0 ?_
  refine sq ?_
  refine .mv ?_
  refine sq ?_
  refine .mv ?_
  refine sq ?_
  refine .r0 ?_
  refine sq ?_
  refine .r0 ?_
  refine sq ?_
  refine .mv ?_
  refine sq ?_
  refine .mv ?_
  refine sq ?_
  refine .mv ?_
  refine sq ?_
  intro K hK
  go_big_op
  go_fit (mEqual_any (m_D.mn BP.out) (m_W.mn BW.out) LP.out len_mkM (by omega) (by omega) (by decide) (by decide))
  rintro e w_30 ⟨rfl, hb_30⟩
  clear s1 s2 t1 t2 m_J x1 x2 m_O
  replace m_D := m_D.bl hb_30; replace m_W := m_W.bl hb_30; replace hs := hs.bl hb_30
  rw [decide_eq_true HE.out]
  refine hK _ _ rfl trivial ?_
  clear hK K
  refine sq ?_
  refine .r0 ?_
  refine sq ?_
  refine .mv ?_
  apply wpSq_end
  refine hK22 _ _ ?_
  refine wp_ret ?_
  try dsimp only [Exit.then, Exit.inBlock]
  refine bodyPost_ret (v := (.bool true)) (by simp [results, Tryz.results4, go_sem]) rfl ?_
  exact ⟨rfl, hs.b⟩
set_option maxHeartbeats 4000000 in
set_option maxRecDepth 20000 in
theorem al_32 (ha : MN 1048576 w oa A) (hb' : MN 1048576 w ob B) (hq : PN w vg u l v l) (hl : l = 1048576) (hna : A.length = na) (hnb : B.length = nb) (la : na ≤ 1048576) (lb : nb ≤ 1048576) (ta : Tot 1048576 A) (tb : Tot 1048576 B) (h : gd A) (hk : wd A = na) (h2 : gd B ∧ nb = na) (h3 : wd B ≠ nb) (hi : i < na) :
    Calls Tryz.prog 4 #[.slice oa na ca, .slice ob nb cb, .int .i64 (i : Int), .int .i64 (i : Int), vg] w fun e w' => e = .returned (.bool true) ∧ Below w.heap.size w w' := by
  have n64 : na ≤ 64 := by have := h.1; omega
  have HA := hide ha
  have HB := hide hb'
  have HG := hide h
  have HK := hide hk
  have HM := hide (show MinB na na 1050641 (at2 A) from fun s f g h1 h2 => zl_up (ta.minB (W := na) hna n64 s f g h1 h2) (by omega))
  have HC := hide (show MinB (na + na) (na + na) 1050641 (brd na (at2 A)) from ta.brd hna n64)
  have LD := hide (show zl 1050641 (Dt.det na (at2 A)) from HM.out na id id (fun r hr => ⟨hr, hr⟩) (fun r q h _ => by simp only [id]; omega))
  have BJ := hide (show BdM 1050641 (mkM na na (adjE na (at2 A))) from bdM_mk fun i hi j hj => zl_adjE HC.out hi hj)
  have GJ := hide (show gd (mkM na na (adjE na (at2 A))) from gd_mkM n64 n64)
  have MJ := hide (show ml2 A (mkM na na (adjE na (at2 A))) from ⟨h, GJ.out, by rw [len_mkM]; exact hk⟩)
  have BP := hide (show BdM 3000000 (mulM A (mkM na na (adjE na (at2 A)))) from bdM_up (bd_mulM ha.bd BJ.out) (by rw [len_mkM]; omega))
  have LP := hide (show (mulM A (mkM na na (adjE na (at2 A)))).length = na from len_mulM.trans hna)
  have B1 := hide (show BdM 1 (mkM na na one2) from bdM_mk fun i _ j _ => zl_one2 0 i j)
  have G1 := hide (show gd (mkM na na one2) from gd_mkM n64 n64)
  have W1 := hide (show wd (mkM na na one2) = na from wd_mkM (by omega))
  have BW := hide (show BdM 3000000 (mkM na na fun i j => mP (at2 (mkM na na one2) i j) (Dt.det na (at2 A))) from bdM_mk fun i _ j _ => zl_up (zl_mP (at2_bd B1.out) LD.out) (by omega))
  have HE := hide (mulM_adj h hna hk)
  have HNB := hide (show ¬ (gd B ∧ wd B = nb) from fun c => h3 c.2)
  have HML := hide (show ml2 A B from ⟨h, h2.1, by rw [hk, hnb, h2.2]⟩)
  have t1 : ((i : Int) != (i : Int)) = false := by simp
  have HI := hide hi
  clear ha hb' h hk h2 ta tb h3
  obtain ⟨n_4a, o_4a, k_4a, c_4a, n_4b, o_4b, k_4b, c_4b, rfl, hq1, hq2⟩ := hq
  go_enter Tryz.func4, Tryz.ntmps4
  have hs := St.nil w
  refine wp_seq_k ?_
  intro K1 hK1
  refine rg [0, 1] ?_
  refine sq ?_
  refine .al hs ?_; clear hs; intro p_b1 w_1 hs n1 kb_b1
  refine sq ?_
  refine .mv ?_
  apply wpSq_end
  refine hK1 _ _ ?_
  refine wp_seq_k ?_
  intro K2 hK2
  refine wp_seq_k ?_
  intro K3 hK3
  refine rg [0, 1] ?_
  refine sq ?_
  intro K hK
  go_big_op
  go_fit (awake9_any _)
  rintro e w_2 ⟨rfl, hb_2⟩
  replace hs := hs.bl hb_2
  refine hK _ _ rfl trivial ?_
  clear hK K
  refine sq ?_
  refine .r0 ?_
  apply wpSq_end
  refine hK3 _ _ ?_
  refine cf ?_
  refine wp_skip ?_
  refine hK2 _ _ ?_
  refine wp_seq_k ?_
  intro K4 hK4
  refine rg [0, 1, 2, 3, 4, 5, 6, 7] ?_
  refine sq ?_
  refine .mv ?_
  refine sq ?_
  intro K hK
  have hb := hs.b
  go_big_op
  go_fit (det_ok (HA.out.bl stab_n hb) hna HG.out HK.out HM.out (by decide) (by decide))
  rintro e w_3 ⟨_, rfl, ⟨n_xa, o_xa, k_xa, c_xa, n_xb, o_xb, k_xb, c_xb, rfl, x1, x2⟩, hb_3⟩
  clear hb
  replace hs := hs.bl hb_3
  have Lx1 := hide (x1.lenOf (LD.out.1))
  have Lx2 := hide (x2.lenOf (LD.out.2))
  refine hK _ _ rfl trivial ?_
  clear hK K
  refine sq ?_
  refine .mv ?_
  refine sq ?_
  refine .r0 ?_
  refine sq ?_
  refine .r0 ?_
  refine sq ?_
  refine .al hs ?_; clear hs; intro p_b2 w_4 hs n4 kb_b2
  refine sq ?_
  refine .s4 hs.g0 (fun _ => hs.u0 kb_b2) ?_; clear hs; intro w_5 hs hd5 ho5
  refine sq ?_
  refine .mv ?_
  apply wpSq_end
  refine hK4 _ _ ?_
  refine wp_seq_k ?_
  intro K5 hK5
  refine wp_seq_k ?_
  intro K6 hK6
  refine rg [0, 1] ?_
  refine sq ?_
  refine .mv ?_
  refine sq ?_
  refine .r0 ?_
  apply wpSq_end
  refine hK6 _ _ ?_
  refine cf ?_
  refine wp_skip ?_
  refine hK5 _ _ ?_
  refine wp_seq_k ?_
  intro K7 hK7
  refine rg [0, 1, 2, 3, 4, 5, 6, 7] ?_
  refine sq ?_
  refine .mv ?_
  refine sq ?_
  intro K hK
  have hb := hs.b
  go_big_op
  go_fit (det_bad (HB.out.bl stab_n hb) hnb HNB.out (by omega))
  rintro e w_6 ⟨rfl, hb_6⟩
  clear hb
  replace hs := hs.bl hb_6
  refine hK _ _ rfl trivial ?_
  clear hK K
  refine sq ?_
  refine .mv ?_
  refine sq ?_
  refine .r0 ?_
  refine sq ?_
  refine .r0 ?_
  refine sq ?_
  refine .al hs ?_; clear hs; intro p_b3 w_7 hs n7 kb_b3
  refine sq ?_
  refine .s4 hs.g0 (fun _ => hs.u0 kb_b3) ?_; clear hs; intro w_8 hs hd8 ho8
  refine sq ?_
  refine .mv ?_
  apply wpSq_end
  refine hK7 _ _ ?_
  refine wp_seq_k ?_
  intro K8 hK8
  refine rg [0, 1, 2, 3, 4, 5, 6, 7] ?_
  refine sq ?_
  refine .mv ?_
  refine sq ?_
  refine .mv ?_
  refine sq ?_
  intro K hK
  have hb := hs.b
  go_big_op
  go_fit (mxmt (mMul_ok (HA.out.bl stab_n hb) (HB.out.bl stab_n hb) hna hnb HML.out (by decide) (by decide)))
  rintro e w_9 ⟨o_P, c_P, rfl, m_P, hb_9⟩
  clear hb
  replace hs := hs.bl hb_9
  refine hK _ _ rfl trivial ?_
  clear hK K
  refine sq ?_
  refine .mv ?_
  refine sq ?_
  refine .r0 ?_
  refine sq ?_
  refine .r0 ?_
  refine sq ?_
  refine .mv ?_
  refine sq ?_
  refine .mv ?_
  apply wpSq_end
  refine hK8 _ _ ?_
  refine wp_seq_k ?_
  intro K9 hK9
  refine wp_seq_k ?_
  intro K10 hK10
  refine rg [0, 1, 2, 3, 4, 5, 6, 7, 8, 9, 10, 11, 12] ?_
  refine sq ?_
  refine .mv ?_
  refine sq ?_
  refine .r0 ?_
  refine sq ?_
  refine .mv ?_
  refine sk ?_
  refine sk ?_
  refine sq ?_
  refine .r0 ?_
  refine sq ?_
  refine .mv ?_
  refine sk ?_
  refine sk ?_
  refine sk ?_
  refine sk ?_
  refine sk ?_
  refine sq ?_
  refine .r0 ?_
  apply wpSq_end
  refine hK10 _ _ ?_
  refine cf ?_
  refine wp_skip ?_
  refine hK9 _ _ ?_
  refine wp_seq_k ?_
  intro K11 hK11
  refine rg [0, 1, 2, 3, 4, 5, 6, 7, 8] ?_
  refine sq ?_
  refine .mv ?_
  refine sq ?_
  refine .mv ?_
  refine sq ?_
  refine .mv ?_
  refine sq ?_
  intro K hK
  have hb := hs.b
  go_big_op
  go_fit (mxmt (mSwap_ok (HA.out.bl stab_n hb) hna HG.out HK.out HI.out HI.out (by decide)))
  rintro e w_10 ⟨o_S, c_S, rfl, m_S, hb_10⟩
  clear hb
  replace hs := hs.bl hb_10
  refine hK _ _ rfl trivial ?_
  clear hK K
  refine sq ?_
  refine .mv ?_
  refine sq ?_
  refine .r0 ?_
  refine sq ?_
  refine .r0 ?_
  refine sq ?_
  refine .mv ?_
  refine sq ?_
  refine .mv ?_
  apply wpSq_end
  refine hK11 _ _ ?_
  refine wp_seq_k ?_
  intro K12 hK12
  refine wp_seq_k ?_
  intro K13 hK13
  refine rg [0, 1, 2, 3, 4, 5, 6] ?_
  refine sq ?_
  refine .mv ?_
  refine sq ?_
  refine .r0 ?_
  refine sq ?_
  refine .mv ?_
  refine sq ?_
  refine .mv ?_
  refine sq ?_
  refine .mv ?_
  refine sq ?_
  refine .r0 ?_
  refine sq ?_
  refine .r0 ?_
  apply wpSq_end
  refine hK13 _ _ ?_
  refine cf ?_
  refine wp_skip ?_
  refine hK12 _ _ ?_
  refine wp_seq_k ?_
  intro K14 hK14
  refine rg [0, 1, 2, 3, 4, 5, 6] ?_
  refine sq ?_
  refine .mv ?_
  refine sq ?_
  intro K hK
  have hb := hs.b
  go_big_op
  go_fit (mxmt (adjugate_ok (HA.out.bl stab_n hb) hna HG.out HK.out HC.out (by decide) (by decide)))
  rintro e w_11 ⟨o_J, c_J, rfl, m_J, hb_11⟩
  clear hb
  replace hs := hs.bl hb_11
  refine hK _ _ rfl trivial ?_
  clear hK K
  refine sq ?_
  refine .mv ?_
  refine sq ?_
  refine .r0 ?_
  refine sq ?_
  refine .r0 ?_
  refine sq ?_
  refine .mv ?_
  refine sq ?_
  refine .mv ?_
  apply wpSq_end
  refine hK14 _ _ ?_
  refine wp_seq_k ?_
  intro K15 hK15
  refine rg [0, 1, 2, 3, 4, 5, 6, 7] ?_
  refine sq ?_
  refine .mv ?_
  refine sq ?_
  refine .mv ?_
  refine sq ?_
  intro K hK
  have hb := hs.b
  go_big_op
  go_fit (mxmt (mMul_ok (HA.out.bl stab_n hb) (m_J.mn BJ.out) hna len_mkM MJ.out (by decide) (by decide)))
  rintro e w_12 ⟨o_D, c_D, rfl, m_D, hb_12⟩
  clear hb
  replace m_J := m_J.bl hb_12; replace hs := hs.bl hb_12
  refine hK _ _ rfl trivial ?_
  clear hK K
  refine sq ?_
  refine .mv ?_
  refine sq ?_
  refine .r0 ?_
  refine sq ?_
  refine .r0 ?_
  refine sq ?_
  refine .mv ?_
  refine sq ?_
  refine .mv ?_
  apply wpSq_end
  refine hK15 _ _ ?_
  refine wp_seq_k ?_
  intro K16 hK16
  refine rg [0, 1, 2, 3, 4, 5, 6, 7] ?_
  refine sq ?_
  refine .mv ?_
  refine sq ?_
  refine .r0 ?_
  refine sq ?_
  intro K hK
  go_big_op
  go_fit (mxmt (mIdent_ok n64))
  rintro e w_13 ⟨o_O, c_O, rfl, m_O, hb_13⟩
  replace m_D := m_D.bl hb_13; replace hs := hs.bl hb_13
  refine hK _ _ rfl trivial ?_
  clear hK K
  refine sq ?_
  refine .mv ?_
  refine sq ?_
  refine .r0 ?_
  refine sq ?_
  refine .r0 ?_
  refine sq ?_
  refine .mv ?_
  refine sq ?_
  refine .mv ?_
  apply wpSq_end
  refine hK16 _ _ ?_
  refine wp_seq_k ?_
  intro K17 hK17
  refine rg [0, 1, 2, 3, 4, 5, 6, 7] ?_
  refine sq ?_
  refine .mv ?_
  refine sq ?_
  refine .r4 hs.g1.f4 ?_
  refine sq ?_
  intro K hK
  have k3_13 := (((((((((kb n4).o hd5 ho5).b hb_6).b n7).o hd8 ho8).b hb_9).b hb_10).b hb_11).b hb_12).b hb_13
  replace x1 := x1.k k3_13
  replace x2 := x2.k k3_13
  go_big_op
  go_fit (mxmt (mScale_ok (m_O.mn B1.out) (.mk' (x1.zn Lx1.out) (x2.zn Lx2.out)) len_mkM G1.out (by decide) (by decide)))
  rintro e w_14 ⟨o_W, c_W, rfl, m_W, hb_14⟩
  replace m_D := m_D.bl hb_14; replace m_O := m_O.bl hb_14; replace hs := hs.bl hb_14
  rw [W1.out] at m_W
  refine hK _ _ rfl trivial ?_
  clear hK K
  refine sq ?_
  refine .mv ?_
  refine sq ?_
  refine .r0 ?_
  refine sq ?_
  refine .r0 ?_
  refine sq ?_
  refine .mv ?_
  refine sq ?_
  refine .mv ?_
  apply wpSq_end
  refine hK17 _ _ ?_
  refine wp_seq_k ?_
  intro K18 hK18
  refine rg [0, 1, 2, 3, 4, 5, 6, 7, 8, 9, 10, 11, 12, 13, 14, 15, 16, 17, 18, 19] ?_
  refine sq ?_
  refine .mv ?_
  refine sq ?_
  refine .r0 ?_
  refine sq ?_
  refine .mv ?_
  refine sq ?_
  refine .mv ?_
  refine sq ?_
  refine .r0 ?_
  refine sq ?_
  refine .r0 ?_
  refine sq ?_
  refine .mv ?_
  refine sq ?_
  refine .mv ?_
  refine sq ?_
  refine .r0 ?_
  refine sq ?_
  refine .r0 ?_
  refine sq ?_
  refine .mv ?_
  refine sq ?_
  refine .mv ?_
  refine sq ?_
  refine .r0 ?_
  refine sq ?_
  refine .r0 ?_
  refine sq ?_
  refine .mv ?_
  refine sq ?_
  refine .mv ?_
  refine sq ?_
  refine .mv ?_
  refine sq ?_
  intro K hK
  go_big_op
  go_fit (mEqual_any (m_D.mn BP.out) (m_W.mn BW.out) LP.out len_mkM (by omega) (by omega) (by decide) (by decide))
  rintro e w_15 ⟨rfl, hb_15⟩
  clear m_P hq1 hq2 m_S m_J x1 x2 m_O
  replace m_D := m_D.bl hb_15; replace m_W := m_W.bl hb_15; replace hs := hs.bl hb_15
  rw [decide_eq_true HE.out]
  refine hK _ _ rfl trivial ?_
  clear hK K
  refine sq ?_
  refine .r0 ?_
  refine sq ?_
  refine .mv ?_
  apply wpSq_end
  refine hK18 _ _ ?_
  refine wp_ret ?_
  try dsimp only [Exit.then, Exit.inBlock]
  refine bodyPost_ret (v := (.bool true)) (by simp [results, Tryz.results4, go_sem]) rfl ?_
  exact ⟨rfl, hs.b⟩
set_option maxHeartbeats 4000000 in
set_option maxRecDepth 20000 in
theorem al_33 (ha : MN 1048576 w oa A) (hb' : MN 1048576 w ob B) (hq : PN w vg u l v l) (hl : l = 1048576) (hna : A.length = na) (hnb : B.length = nb) (la : na ≤ 1048576) (lb : nb ≤ 1048576) (ta : Tot 1048576 A) (tb : Tot 1048576 B) (h : gd A) (hk : wd A = na) (h2 : gd B ∧ nb = na) (h3 : wd B ≠ nb) (hi : ¬ ((0 ≤ a ∧ a < (na : Int)) ∧ (0 ≤ b ∧ b < (na : Int)))) :
    Calls Tryz.prog 4 #[.slice oa na ca, .slice ob nb cb, .int .i64 a, .int .i64 b, vg] w fun e w' => e = .returned (.bool true) ∧ Below w.heap.size w w' := by
  have n64 : na ≤ 64 := by have := h.1; omega
  have HA := hide ha
  have HB := hide hb'
  have HG := hide h
  have HK := hide hk
  have HM := hide (show MinB na na 1050641 (at2 A) from fun s f g h1 h2 => zl_up (ta.minB (W := na) hna n64 s f g h1 h2) (by omega))
  have HC := hide (show MinB (na + na) (na + na) 1050641 (brd na (at2 A)) from ta.brd hna n64)
  have LD := hide (show zl 1050641 (Dt.det na (at2 A)) from HM.out na id id (fun r hr => ⟨hr, hr⟩) (fun r q h _ => by simp only [id]; omega))
  have BJ := hide (show BdM 1050641 (mkM na na (adjE na (at2 A))) from bdM_mk fun i hi j hj => zl_adjE HC.out hi hj)
  have GJ := hide (show gd (mkM na na (adjE na (at2 A))) from gd_mkM n64 n64)
  have MJ := hide (show ml2 A (mkM na na (adjE na (at2 A))) from ⟨h, GJ.out, by rw [len_mkM]; exact hk⟩)
  have BP := hide (show BdM 3000000 (mulM A (mkM na na (adjE na (at2 A)))) from bdM_up (bd_mulM ha.bd BJ.out) (by rw [len_mkM]; omega))
  have LP := hide (show (mulM A (mkM na na (adjE na (at2 A)))).length = na from len_mulM.trans hna)
  have B1 := hide (show BdM 1 (mkM na na one2) from bdM_mk fun i _ j _ => zl_one2 0 i j)
  have G1 := hide (show gd (mkM na na one2) from gd_mkM n64 n64)
  have W1 := hide (show wd (mkM na na one2) = na from wd_mkM (by omega))
  have BW := hide (show BdM 3000000 (mkM na na fun i j => mP (at2 (mkM na na one2) i j) (Dt.det na (at2 A))) from bdM_mk fun i _ j _ => zl_up (zl_mP (at2_bd B1.out) LD.out) (by omega))
  have HE := hide (mulM_adj h hna hk)
  have HNB := hide (show ¬ (gd B ∧ wd B = nb) from fun c => h3 c.2)
  have HML := hide (show ml2 A B from ⟨h, h2.1, by rw [hk, hnb, h2.2]⟩)
  have HIA := hide hi
  clear ha hb' h hk h2 ta tb h3
  obtain ⟨n_4a, o_4a, k_4a, c_4a, n_4b, o_4b, k_4b, c_4b, rfl, hq1, hq2⟩ := hq
  go_enter Tryz.func4, Tryz.ntmps4
  have hs := St.nil w
  refine wp_seq_k ?_
  intro K1 hK1
  refine rg [0, 1] ?_
  refine sq ?_
  refine .al hs ?_; clear hs; intro p_b1 w_1 hs n1 kb_b1
  refine sq ?_
  refine .mv ?_
  apply wpSq_end
  refine hK1 _ _ ?_
  refine wp_seq_k ?_
  intro K2 hK2
  refine wp_seq_k ?_
  intro K3 hK3
  refine rg [0, 1] ?_
  refine sq ?_
  intro K hK
  go_big_op
  go_fit (awake9_any _)
  rintro e w_2 ⟨rfl, hb_2⟩
  replace hs := hs.bl hb_2
  refine hK _ _ rfl trivial ?_
  clear hK K
  refine sq ?_
  refine .r0 ?_
  apply wpSq_end
  refine hK3 _ _ ?_
  refine cf ?_
  refine wp_skip ?_
  refine hK2 _ _ ?_
  refine wp_seq_k ?_
  intro K4 hK4
  refine rg [0, 1, 2, 3, 4, 5, 6, 7] ?_
  refine sq ?_
  refine .mv ?_
  refine sq ?_
  intro K hK
  have hb := hs.b
  go_big_op
  go_fit (det_ok (HA.out.bl stab_n hb) hna HG.out HK.out HM.out (by decide) (by decide))
  rintro e w_3 ⟨_, rfl, ⟨n_xa, o_xa, k_xa, c_xa, n_xb, o_xb, k_xb, c_xb, rfl, x1, x2⟩, hb_3⟩
  clear hb
  replace hs := hs.bl hb_3
  have Lx1 := hide (x1.lenOf (LD.out.1))
  have Lx2 := hide (x2.lenOf (LD.out.2))
  refine hK _ _ rfl trivial ?_
  clear hK K
  refine sq ?_
  refine .mv ?_
  refine sq ?_
  refine .r0 ?_
  refine sq ?_
  refine .r0 ?_
  refine sq ?_
  refine .al hs ?_; clear hs; intro p_b2 w_4 hs n4 kb_b2
  refine sq ?_
  refine .s4 hs.g0 (fun _ => hs.u0 kb_b2) ?_; clear hs; intro w_5 hs hd5 ho5
  refine sq ?_
  refine .mv ?_
  apply wpSq_end
  refine hK4 _ _ ?_
  refine wp_seq_k ?_
  intro K5 hK5
  refine wp_seq_k ?_
  intro K6 hK6
  refine rg [0, 1] ?_
  refine sq ?_
  refine .mv ?_
  refine sq ?_
  refine .r0 ?_
  apply wpSq_end
  refine hK6 _ _ ?_
  refine cf ?_
  refine wp_skip ?_
  refine hK5 _ _ ?_
  refine wp_seq_k ?_
  intro K7 hK7
  refine rg [0, 1, 2, 3, 4, 5, 6, 7] ?_
  refine sq ?_
  refine .mv ?_
  refine sq ?_
  intro K hK
  have hb := hs.b
  go_big_op
  go_fit (det_bad (HB.out.bl stab_n hb) hnb HNB.out (by omega))
  rintro e w_6 ⟨rfl, hb_6⟩
  clear hb
  replace hs := hs.bl hb_6
  refine hK _ _ rfl trivial ?_
  clear hK K
  refine sq ?_
  refine .mv ?_
  refine sq ?_
  refine .r0 ?_
  refine sq ?_
  refine .r0 ?_
  refine sq ?_
  refine .al hs ?_; clear hs; intro p_b3 w_7 hs n7 kb_b3
  refine sq ?_
  refine .s4 hs.g0 (fun _ => hs.u0 kb_b3) ?_; clear hs; intro w_8 hs hd8 ho8
  refine sq ?_
  refine .mv ?_
  apply wpSq_end
  refine hK7 _ _ ?_
  refine wp_seq_k ?_
  intro K8 hK8
  refine rg [0, 1, 2, 3, 4, 5, 6, 7] ?_
  refine sq ?_
  refine .mv ?_
  refine sq ?_
  refine .mv ?_
  refine sq ?_
  intro K hK
  have hb := hs.b
  go_big_op
  go_fit (mxmt (mMul_ok (HA.out.bl stab_n hb) (HB.out.bl stab_n hb) hna hnb HML.out (by decide) (by decide)))
  rintro e w_9 ⟨o_P, c_P, rfl, m_P, hb_9⟩
  clear hb
  replace hs := hs.bl hb_9
  refine hK _ _ rfl trivial ?_
  clear hK K
  refine sq ?_
  refine .mv ?_
  refine sq ?_
  refine .r0 ?_
  refine sq ?_
  refine .r0 ?_
  refine sq ?_
  refine .mv ?_
  refine sq ?_
  refine .mv ?_
  apply wpSq_end
  refine hK8 _ _ ?_
  refine wp_seq_k ?_
  intro K9 hK9
  refine wp_seq_k ?_
  intro K10 hK10
  refine rg [0, 1, 2, 3, 4, 5, 6, 7, 8, 9, 10, 11, 12] ?_
  refine sq ?_
  refine .mv ?_
  refine sq ?_
  refine .r0 ?_
  refine sq ?_
  refine .mv ?_
  refine sk ?_
  refine sk ?_
  refine sq ?_
  refine .r0 ?_
  refine sq ?_
  refine .mv ?_
  refine sk ?_
  refine sk ?_
  refine sk ?_
  refine sk ?_
  refine sk ?_
  refine sq ?_
  refine .r0 ?_
  apply wpSq_end
  refine hK10 _ _ ?_
  refine cf ?_
  refine wp_skip ?_
  refine hK9 _ _ ?_
  refine wp_seq_k ?_
  intro K11 hK11
  refine rg [0, 1, 2, 3, 4, 5, 6, 7, 8] ?_
  refine sq ?_
  refine .mv ?_
  refine sq ?_
  refine .mv ?_
  refine sq ?_
  refine .mv ?_
  refine sq ?_
  intro K hK
  have hb := hs.b
  go_big_op
  go_fit (mSwap_arg (HA.out.bl stab_n hb) hna HG.out (by decide) HIA.out)
  rintro e w_10 ⟨rfl, hb_10⟩
  clear hb
  replace hs := hs.bl hb_10
  refine hK _ _ rfl trivial ?_
  clear hK K
  refine sq ?_
  refine .mv ?_
  refine sq ?_
  refine .r0 ?_
  refine sq ?_
  refine .r0 ?_
  refine sq ?_
  refine .mv ?_
  refine sq ?_
  refine .mv ?_
  apply wpSq_end
  refine hK11 _ _ ?_
  refine wp_seq_k ?_
  intro K12 hK12
  refine wp_seq_k ?_
  intro K13 hK13
  refine rg [0, 1, 2, 3, 4, 5, 6] ?_
  refine sq ?_
  refine .mv ?_
  refine sq ?_
  refine .r0 ?_
  refine sq ?_
  refine .mv ?_
  refine sk ?_
  refine sk ?_
  refine sk ?_
  refine sq ?_
  refine .r0 ?_
  apply wpSq_end
  refine hK13 _ _ ?_
  refine cf ?_
  refine wp_skip ?_
  refine hK12 _ _ ?_
  refine wp_seq_k ?_
  intro K14 hK14
  refine rg [0, 1, 2, 3, 4, 5, 6] ?_
  refine sq ?_
  refine .mv ?_
  refine sq ?_
  intro K hK
  have hb := hs.b
  go_big_op
  go_fit (mxmt (adjugate_ok (HA.out.bl stab_n hb) hna HG.out HK.out HC.out (by decide) (by decide)))
  rintro e w_11 ⟨o_J, c_J, rfl, m_J, hb_11⟩
  clear hb
  replace hs := hs.bl hb_11
  refine hK _ _ rfl trivial ?_
  clear hK K
  refine sq ?_
  refine .mv ?_
  refine sq ?_
  refine .r0 ?_
  refine sq ?_
  refine .r0 ?_
  refine sq ?_
  refine .mv ?_
  refine sq ?_
  refine .mv ?_
  apply wpSq_end
  refine hK14 _ _ ?_
  refine wp_seq_k ?_
  intro K15 hK15
  refine rg [0, 1, 2, 3, 4, 5, 6, 7] ?_
  refine sq ?_
  refine .mv ?_
  refine sq ?_
  refine .mv ?_
  refine sq ?_
  intro K hK
  have hb := hs.b
  go_big_op
  go_fit (mxmt (mMul_ok (HA.out.bl stab_n hb) (m_J.mn BJ.out) hna len_mkM MJ.out (by decide) (by decide)))
  rintro e w_12 ⟨o_D, c_D, rfl, m_D, hb_12⟩
  clear hb
  replace m_J := m_J.bl hb_12; replace hs := hs.bl hb_12
  refine hK _ _ rfl trivial ?_
  clear hK K
  refine sq ?_
  refine .mv ?_
  refine sq ?_
  refine .r0 ?_
  refine sq ?_
  refine .r0 ?_
  refine sq ?_
  refine .mv ?_
  refine sq ?_
  refine .mv ?_
  apply wpSq_end
  refine hK15 _ _ ?_
  refine wp_seq_k ?_
  intro K16 hK16
  refine rg [0, 1, 2, 3, 4, 5, 6, 7] ?_
  refine sq ?_
  refine .mv ?_
  refine sq ?_
  refine .r0 ?_
  refine sq ?_
  intro K hK
  go_big_op
  go_fit (mxmt (mIdent_ok n64))
  rintro e w_13 ⟨o_O, c_O, rfl, m_O, hb_13⟩
  replace m_D := m_D.bl hb_13; replace hs := hs.bl hb_13
  refine hK _ _ rfl trivial ?_
  clear hK K
  refine sq ?_
  refine .mv ?_
  refine sq ?_
  refine .r0 ?_
  refine sq ?_
  refine .r0 ?_
  refine sq ?_
  refine .mv ?_
  refine sq ?_
  refine .mv ?_
  apply wpSq_end
  refine hK16 _ _ ?_
  refine wp_seq_k ?_
  intro K17 hK17
  refine rg [0, 1, 2, 3, 4, 5, 6, 7] ?_
  refine sq ?_
  refine .mv ?_
  refine sq ?_
  refine .r4 hs.g1.f4 ?_
  refine sq ?_
  intro K hK
  have k3_13 := (((((((((kb n4).o hd5 ho5).b hb_6).b n7).o hd8 ho8).b hb_9).b hb_10).b hb_11).b hb_12).b hb_13
  replace x1 := x1.k k3_13
  replace x2 := x2.k k3_13
  go_big_op
  go_fit (mxmt (mScale_ok (m_O.mn B1.out) (.mk' (x1.zn Lx1.out) (x2.zn Lx2.out)) len_mkM G1.out (by decide) (by decide)))
  rintro e w_14 ⟨o_W, c_W, rfl, m_W, hb_14⟩
  replace m_D := m_D.bl hb_14; replace m_O := m_O.bl hb_14; replace hs := hs.bl hb_14
  rw [W1.out] at m_W
  refine hK _ _ rfl trivial ?_
  clear hK K
  refine sq ?_
  refine .mv ?_
  refine sq ?_
  refine .r0 ?_
  refine sq ?_
  refine .r0 ?_
  refine sq ?_
  refine .mv ?_
  refine sq ?_
  refine .mv ?_
  apply wpSq_end
  refine hK17 _ _ ?_
  refine wp_seq_k ?_
  intro K18 hK18
  refine rg [0, 1, 2, 3, 4, 5, 6, 7, 8, 9, 10, 11, 12, 13, 14, 15, 16, 17, 18, 19] ?_
  refine sq ?_
  refine .mv ?_
  refine sq ?_
  refine .r0 ?_
  refine sq ?_
  refine .mv ?_
  refine sq ?_
  refine .mv ?_
  refine sq ?_
  refine .r0 ?_
  refine sq ?_
  refine .r0 ?_
  refine sq ?_
  refine .mv ?_
  refine sq ?_
  refine .mv ?_
  refine sq ?_
  refine .r0 ?_
  refine sq ?_
  refine .r0 ?_
  refine sq ?_
  refine .mv ?_
  refine sq ?_
  refine .mv ?_
  refine sq ?_
  refine .r0 ?_
  refine sq ?_
  refine .r0 ?_
  refine sq ?_
  refine .mv ?_
  refine sq ?_
  refine .mv ?_
  refine sq ?_
  refine .mv ?_
  refine sq ?_
  intro K hK
  go_big_op
  go_fit (mEqual_any (m_D.mn BP.out) (m_W.mn BW.out) LP.out len_mkM (by omega) (by omega) (by decide) (by decide))
  rintro e w_15 ⟨rfl, hb_15⟩
  clear m_P hq1 hq2 m_J x1 x2 m_O
  replace m_D := m_D.bl hb_15; replace m_W := m_W.bl hb_15; replace hs := hs.bl hb_15
  rw [decide_eq_true HE.out]
  refine hK _ _ rfl trivial ?_
  clear hK K
  refine sq ?_
  refine .r0 ?_
  refine sq ?_
  refine .mv ?_
  apply wpSq_end
  refine hK18 _ _ ?_
  refine wp_ret ?_
  try dsimp only [Exit.then, Exit.inBlock]
  refine bodyPost_ret (v := (.bool true)) (by simp [results, Tryz.results4, go_sem]) rfl ?_
  exact ⟨rfl, hs.b⟩
set_option maxHeartbeats 4000000 in
set_option maxRecDepth 20000 in
theorem al_41 (ha : MN 1048576 w oa A) (hb' : MN 1048576 w ob B) (hq : PN w vg u l v l) (hl : l = 1048576) (hna : A.length = na) (hnb : B.length = nb) (la : na ≤ 1048576) (lb : nb ≤ 1048576) (ta : Tot 1048576 A) (tb : Tot 1048576 B) (h : gd A) (hk : wd A = na) (h2 : ¬ (gd B ∧ wd B = nb)) (h3 : ¬ (gd B ∧ nb = na)) (hi : i < na) (hj : j < na) (hij : i ≠ j) :
    Calls Tryz.prog 4 #[.slice oa na ca, .slice ob nb cb, .int .i64 (i : Int), .int .i64 (j : Int), vg] w fun e w' => e = .returned (.bool true) ∧ Below w.heap.size w w' := by
  have n64 : na ≤ 64 := by have := h.1; omega
  have HA := hide ha
  have HB := hide hb'
  have HG := hide h
  have HK := hide hk
  have HM := hide (show MinB na na 1050641 (at2 A) from fun s f g h1 h2 => zl_up (ta.minB (W := na) hna n64 s f g h1 h2) (by omega))
  have HC := hide (show MinB (na + na) (na + na) 1050641 (brd na (at2 A)) from ta.brd hna n64)
  have LD := hide (show zl 1050641 (Dt.det na (at2 A)) from HM.out na id id (fun r hr => ⟨hr, hr⟩) (fun r q h _ => by simp only [id]; omega))
  have BJ := hide (show BdM 1050641 (mkM na na (adjE na (at2 A))) from bdM_mk fun i hi j hj => zl_adjE HC.out hi hj)
  have GJ := hide (show gd (mkM na na (adjE na (at2 A))) from gd_mkM n64 n64)
  have MJ := hide (show ml2 A (mkM na na (adjE na (at2 A))) from ⟨h, GJ.out, by rw [len_mkM]; exact hk⟩)
  have BP := hide (show BdM 3000000 (mulM A (mkM na na (adjE na (at2 A)))) from bdM_up (bd_mulM ha.bd BJ.out) (by rw [len_mkM]; omega))
  have LP := hide (show (mulM A (mkM na na (adjE na (at2 A)))).length = na from len_mulM.trans hna)
  have B1 := hide (show BdM 1 (mkM na na one2) from bdM_mk fun i _ j _ => zl_one2 0 i j)
  have G1 := hide (show gd (mkM na na one2) from gd_mkM n64 n64)
  have W1 := hide (show wd (mkM na na one2) = na from wd_mkM (by omega))
  have BW := hide (show BdM 3000000 (mkM na na fun i j => mP (at2 (mkM na na one2) i j) (Dt.det na (at2 A))) from bdM_mk fun i _ j _ => zl_up (zl_mP (at2_bd B1.out) LD.out) (by omega))
  have HE := hide (mulM_adj h hna hk)
  have HNB := hide h2
  have HNM := hide (show ¬ ml2 A B from fun c => h3 ⟨c.2.1, by rw [← hnb, ← c.2.2, hk]⟩)
  have t1 : ((i : Int) != (j : Int)) = true := bne_iff_ne.2 (by omega)
  have HI := hide hi
  have HJ := hide hj
  have HIJ := hide hij
  have GS := hide (show gd (mkM na na fun r => at2 A (swr i j r)) from gd_mkM n64 n64)
  have WS := hide (show wd (mkM na na fun r => at2 A (swr i j r)) = na from wd_mkM (by omega))
  have MS := hide (show MinB na na 1050641 (at2 (mkM na na fun r => at2 A (swr i j r))) from (HM.out.swr hi hj).cong fun i hi j hj => at2_mkM hi hj)
  have BS := hide (show BdM 1048576 (mkM na na fun r => at2 A (swr i j r)) from bdM_mk fun p _ q _ => at2_bd ha.bd)
  have DS := hide (show Dt.det na (at2 (mkM na na fun r => at2 A (swr i j r))) = - Dt.det na (at2 A) by rw [at2_eq (k := 0)]; exact (Dt.alt_det (R := Int × Int) (n := na)).swap hij hi hj (at2 A))
  have DS1 := hide (show (Dt.det na (at2 (mkM na na fun r => at2 A (swr i j r)))).1 = - (Dt.det na (at2 A)).1 by rw [DS.out]; rfl)
  have DS2 := hide (show (Dt.det na (at2 (mkM na na fun r => at2 A (swr i j r)))).2 = - (Dt.det na (at2 A)).2 by rw [DS.out]; rfl)
  have LS := hide (show zl 1050641 (Dt.det na (at2 (mkM na na fun r => at2 A (swr i j r)))) from MS.out na id id (fun r hr => ⟨hr, hr⟩) (fun r q h _ => by simp only [id]; omega))
  obtain ⟨R, hR⟩ : ∃ R, R = rowed (at2 A) i fun q => aP (at2 A i q) (mP (u, v) (at2 A j q)) := ⟨_, rfl⟩
  have HR := hide hR
  have ZQ : zl l (u, v) := by obtain ⟨_, _, _, _, _, _, _, _, _, z1, z2⟩ := hq; exact ⟨z1.len, z2.len⟩
  have GT := hide (show gd (mkM na na R) from gd_mkM n64 n64)
  have WT := hide (show wd (mkM na na R) = na from wd_mkM (by omega))
  have MT := hide (show MinB na na 2200000 (at2 (mkM na na R)) from MinB.cong (F := R) (by rw [hR]; exact fun s f g h4 h5 => zl_up (rowed_minB HM.out hij hi hj ZQ s f g h4 h5) (by omega)) fun i hi j hj => at2_mkM hi hj)
  have BT := hide (show BdM 3000000 (mkM na na R) from bdM_mk fun p hp q hq => by
    have h4 := MT.out.D 0 p hp q hq
    rw [Dt.D_0, at2_mkM hp hq] at h4
    exact zl_up h4 (by omega))
  have DT := hide (show Dt.det na (at2 (mkM na na R)) = Dt.det na (at2 A) by rw [at2_eq (k := 0), hR]; exact det_rowed hij hi hj)
  have LT := hide (show zl 2200000 (Dt.det na (at2 (mkM na na R))) from MT.out na id id (fun r hr => ⟨hr, hr⟩) (fun r q h _ => by simp only [id]; omega))
  clear hR
  clear ha hb' h hk h2 ta tb hij h3
  obtain ⟨n_4a, o_4a, k_4a, c_4a, n_4b, o_4b, k_4b, c_4b, rfl, hq1, hq2⟩ := hq
  go_enter Tryz.func4, Tryz.ntmps4
  have hs := St.nil w
  refine wp_seq_k ?_
  intro K1 hK1
  refine rg [0, 1] ?_
  refine sq ?_
  refine .al hs ?_; clear hs; intro p_b1 w_1 hs n1 kb_b1
  refine sq ?_
  refine .mv ?_
  apply wpSq_end
  refine hK1 _ _ ?_
  refine wp_seq_k ?_
  intro K2 hK2
  refine wp_seq_k ?_
  intro K3 hK3
  refine rg [0, 1] ?_
  refine sq ?_
  intro K hK
  go_big_op
  go_fit (awake9_any _)
  rintro e w_2 ⟨rfl, hb_2⟩
  replace hs := hs.bl hb_2
  refine hK _ _ rfl trivial ?_
  clear hK K
  refine sq ?_
  refine .r0 ?_
  apply wpSq_end
  refine hK3 _ _ ?_
  refine cf ?_
  refine wp_skip ?_
  refine hK2 _ _ ?_
  refine wp_seq_k ?_
  intro K4 hK4
  refine rg [0, 1, 2, 3, 4, 5, 6, 7] ?_
  refine sq ?_
  refine .mv ?_
  refine sq ?_
  intro K hK
  have hb := hs.b
  go_big_op
  go_fit (det_ok (HA.out.bl stab_n hb) hna HG.out HK.out HM.out (by decide) (by decide))
  rintro e w_3 ⟨_, rfl, ⟨n_xa, o_xa, k_xa, c_xa, n_xb, o_xb, k_xb, c_xb, rfl, x1, x2⟩, hb_3⟩
  clear hb
  replace hs := hs.bl hb_3
  have Lx1 := hide (x1.lenOf (LD.out.1))
  have Lx2 := hide (x2.lenOf (LD.out.2))
  refine hK _ _ rfl trivial ?_
  clear hK K
  refine sq ?_
  refine .mv ?_
  refine sq ?_
  refine .r0 ?_
  refine sq ?_
  refine .r0 ?_
  refine sq ?_
  refine .al hs ?_; clear hs; intro p_b2 w_4 hs n4 kb_b2
  refine sq ?_
  refine .s4 hs.g0 (fun _ => hs.u0 kb_b2) ?_; clear hs; intro w_5 hs hd5 ho5
  refine sq ?_
  refine .mv ?_
  apply wpSq_end
  refine hK4 _ _ ?_
  refine wp_seq_k ?_
  intro K5 hK5
  refine wp_seq_k ?_
  intro K6 hK6
  refine rg [0, 1] ?_
  refine sq ?_
  refine .mv ?_
  refine sq ?_
  refine .r0 ?_
  apply wpSq_end
  refine hK6 _ _ ?_
  refine cf ?_
  refine wp_skip ?_
  refine hK5 _ _ ?_
  refine wp_seq_k ?_
  intro K7 hK7
  refine rg [0, 1, 2, 3, 4, 5, 6, 7] ?_
  refine sq ?_
  refine .mv ?_
  refine sq ?_
  intro K hK
  have hb := hs.b
  go_big_op
  go_fit (det_bad (HB.out.bl stab_n hb) hnb HNB.out (by omega))
  rintro e w_6 ⟨rfl, hb_6⟩
  clear hb
  replace hs := hs.bl hb_6
  refine hK _ _ rfl trivial ?_
  clear hK K
  refine sq ?_
  refine .mv ?_
  refine sq ?_
  refine .r0 ?_
  refine sq ?_
  refine .r0 ?_
  refine sq ?_
  refine .al hs ?_; clear hs; intro p_b3 w_7 hs n7 kb_b3
  refine sq ?_
  refine .s4 hs.g0 (fun _ => hs.u0 kb_b3) ?_; clear hs; intro w_8 hs hd8 ho8
  refine sq ?_
  refine .mv ?_
  apply wpSq_end
  refine hK7 _ _ ?_
  refine wp_seq_k ?_
  intro K8 hK8
  refine rg [0, 1, 2, 3, 4, 5, 6, 7] ?_
  refine sq ?_
  refine .mv ?_
  refine sq ?_
  refine .mv ?_
  refine sq ?_
  intro K hK
  have hb := hs.b
  go_big_op
  go_fit (mMul_bad (HA.out.bl stab_n hb) (HB.out.bl stab_n hb) hna hnb HNM.out (by omega) (by omega))
  rintro e w_9 ⟨rfl, hb_9⟩
  clear hb
  replace hs := hs.bl hb_9
  refine hK _ _ rfl trivial ?_
  clear hK K
  refine sq ?_
  refine .mv ?_
  refine sq ?_
  refine .r0 ?_
  refine sq ?_
  refine .r0 ?_
  refine sq ?_
  refine .mv ?_
  refine sq ?_
  refine .mv ?_
  apply wpSq_end
  refine hK8 _ _ ?_
  refine wp_seq_k ?_
  intro K9 hK9
  refine wp_seq_k ?_
  intro K10 hK10
  refine rg [0, 1, 2, 3, 4, 5, 6, 7, 8, 9, 10, 11, 12] ?_
  refine sq ?_
  refine .mv ?_
  refine sq ?_
  refine .r0 ?_
  refine sq ?_
  refine .mv ?_
  refine sk ?_
  refine sk ?_
  refine sq ?_
  refine .r0 ?_
  refine sq ?_
  refine .mv ?_
  refine sk ?_
  refine sk ?_
  refine sk ?_
  refine sk ?_
  refine sk ?_
  refine sq ?_
  refine .r0 ?_
  apply wpSq_end
  refine hK10 _ _ ?_
  refine cf ?_
  refine wp_skip ?_
  refine hK9 _ _ ?_
  refine wp_seq_k ?_
  intro K11 hK11
  refine rg [0, 1, 2, 3, 4, 5, 6, 7, 8] ?_
  refine sq ?_
  refine .mv ?_
  refine sq ?_
  refine .mv ?_
  refine sq ?_
  refine .mv ?_
  refine sq ?_
  intro K hK
  have hb := hs.b
  go_big_op
  go_fit (mxmt (mSwap_ok (HA.out.bl stab_n hb) hna HG.out HK.out HI.out HJ.out (by decide)))
  rintro e w_10 ⟨o_S, c_S, rfl, m_S, hb_10⟩
  clear hb
  replace hs := hs.bl hb_10
  refine hK _ _ rfl trivial ?_
  clear hK K
  refine sq ?_
  refine .mv ?_
  refine sq ?_
  refine .r0 ?_
  refine sq ?_
  refine .r0 ?_
  refine sq ?_
  refine .mv ?_
  refine sq ?_
  refine .mv ?_
  apply wpSq_end
  refine hK11 _ _ ?_
  refine wp_seq_k ?_
  intro K12 hK12
  refine wp_seq_k ?_
  intro K13 hK13
  refine rg [0, 1, 2, 3, 4, 5, 6] ?_
  refine sq ?_
  refine .mv ?_
  refine sq ?_
  refine .r0 ?_
  refine sq ?_
  refine .mv ?_
  refine sq ?_
  refine .mv ?_
  refine sq ?_
  refine .mv ?_
  refine sq ?_
  refine .r0 ?_
  refine sq ?_
  refine .r0 ?_
  apply wpSq_end
  refine hK13 _ _ ?_
  refine ct ?_
  refine wp_seq_k ?_
  intro K14 hK14
  refine rg [0, 1, 2, 3, 4, 5, 6, 7] ?_
  refine sq ?_
  refine .mv ?_
  refine sq ?_
  intro K hK
  go_big_op
  go_fit (det_ok (m_S.mn BS.out) len_mkM GS.out WS.out MS.out (by decide) (by decide))
  rintro e w_11 ⟨_, rfl, ⟨n_sa, o_sa, k_sa, c_sa, n_sb, o_sb, k_sb, c_sb, rfl, s1, s2⟩, hb_11⟩
  replace m_S := m_S.bl hb_11; replace hs := hs.bl hb_11
  have Ls1 := hide (s1.lenOf (LS.out.1))
  have Ls2 := hide (s2.lenOf (LS.out.2))
  refine hK _ _ rfl trivial ?_
  clear hK K
  refine sq ?_
  refine .mv ?_
  refine sq ?_
  refine .r0 ?_
  refine sq ?_
  refine .r0 ?_
  refine sq ?_
  refine .al hs ?_; clear hs; intro p_b4 w_12 hs n12 kb_b4
  refine sq ?_
  refine .s4 hs.g0 (fun _ => hs.u0 kb_b4) ?_; clear hs; intro w_13 hs hd13 ho13
  refine sq ?_
  refine .mv ?_
  apply wpSq_end
  refine hK14 _ _ ?_
  refine wp_seq_k ?_
  intro K15 hK15
  refine rg [0, 1, 2, 3, 4, 5, 6, 7, 8, 9] ?_
  refine sq ?_
  refine .mv ?_
  refine sq ?_
  refine .mv ?_
  refine sq ?_
  refine .mv ?_
  refine sq ?_
  refine .r4 hs.g3.f4 ?_
  refine sq ?_
  intro K hK
  have hb := hs.b
  have k0_13 := ((((((((((((kb n1).b hb_2).b hb_3).b n4).o hd5 ho5).b hb_6).b n7).o hd8 ho8).b hb_9).b hb_10).b hb_11).b n12).o hd13 ho13
  replace hq1 := hq1.k k0_13
  replace hq2 := hq2.k k0_13
  go_big_op
  go_fit (mxmt (mAddRow_ok (HA.out.bl stab_n hb) (.mk' hq1 hq2) hna HG.out HK.out HI.out HJ.out HIJ.out (by decide) (by omega)))
  rintro e w_14 ⟨o_T, c_T, rfl, m_T, hb_14⟩
  clear hb
  replace hs := hs.bl hb_14
  rw [← HR.out] at m_T
  refine hK _ _ rfl trivial ?_
  clear hK K
  refine sq ?_
  refine .mv ?_
  refine sq ?_
  refine .r0 ?_
  refine sq ?_
  refine .r0 ?_
  refine sq ?_
  refine .mv ?_
  refine sq ?_
  refine .mv ?_
  apply wpSq_end
  refine hK15 _ _ ?_
  refine wp_seq_k ?_
  intro K16 hK16
  refine rg [0, 1, 2, 3, 4, 5, 6, 7] ?_
  refine sq ?_
  refine .mv ?_
  refine sq ?_
  intro K hK
  go_big_op
  go_fit (det_ok (m_T.mn BT.out) len_mkM GT.out WT.out MT.out (by decide) (by decide))
  rintro e w_15 ⟨_, rfl, ⟨n_ta, o_ta, k_ta, c_ta, n_tb, o_tb, k_tb, c_tb, rfl, t1, t2⟩, hb_15⟩
  replace m_T := m_T.bl hb_15; replace hs := hs.bl hb_15
  have Lt1 := hide (t1.lenOf (LT.out.1))
  have Lt2 := hide (t2.lenOf (LT.out.2))
  refine hK _ _ rfl trivial ?_
  clear hK K
  refine sq ?_
  refine .mv ?_
  refine sq ?_
  refine .r0 ?_
  refine sq ?_
  refine .r0 ?_
  refine sq ?_
  refine .al hs ?_; clear hs; intro p_b5 w_16 hs n16 kb_b5
  refine sq ?_
  refine .s4 hs.g0 (fun _ => hs.u0 kb_b5) ?_; clear hs; intro w_17 hs hd17 ho17
  refine sq ?_
  refine .mv ?_
  apply wpSq_end
  refine hK16 _ _ ?_
  refine wp_seq_k ?_
  intro K17 hK17
  refine wp_region_f4 [(0, false), (1, false), (2, false), (3, false), (4, false), (5, false), (6, false), (7, false), (8, false), (9, false), (10, false), (11, false), (12, false), (13, true), (14, true), (15, false), (16, false), (17, false), (18, false), (19, false), (20, true), (21, false), (22, false)] [] [] (fun _ => default) [99, 99, 99, 99, 99, 99, 99, 99, 99, 99, 99, 0, 1, 99, 99, 99, 99, 99, 2, 1, 99, 99, 99] [] (.c hs.g1 (.c hs.g3 (.c hs.g0 .n))) fn fun w_18 n18 => ?_
  replace hs := hs.bl n18
  refine fmv ?_
  refine f0 ?_
  refine fmv ?_
  refine fmv ?_
  refine f0 ?_
  refine f0 ?_
  refine fmv ?_
  refine fmv ?_
  refine f0 ?_
  refine f0 ?_
  refine fmv ?_
  refine f4 ?_
  refine f4 ?_
  refine fl fun w_19 n19 => ?_
  replace hs := hs.bl n19
  intro K hK
  have k3_19 := (((((((((((((((kb n4).o hd5 ho5).b hb_6).b n7).o hd8 ho8).b hb_9).b hb_10).b hb_11).b n12).o hd13 ho13).b hb_14).b hb_15).b n16).o hd17 ho17).b n18).b n19
  replace x1 := x1.k k3_19
  replace x2 := x2.k k3_19
  go_big_op
  go_fit (gNeg_any (.mk' (x1.zn Lx1.out) (x2.zn Lx2.out)) (by decide) (by decide))
  rintro e w_20 ⟨_, rfl, ⟨n_ga, o_ga, k_ga, c_ga, n_gb, o_gb, k_gb, c_gb, rfl, g1, g2⟩, hb_20⟩
  replace hs := hs.bl hb_20
  have Lg1 := hide (g1.lenOf (zlen_neg Lx1.out))
  have Lg2 := hide (g2.lenOf (zlen_neg Lx2.out))
  refine hK _ _ rfl ⟨hb_20, (And.intro hs.g1 (And.intro hs.g3 (And.intro hs.g0 trivial)))⟩ ?_
  clear hK K
  refine fl fun w_21 n21 => ?_
  replace hs := hs.bl n21
  intro K hK
  have k11_21 := (((((((((kb n12).o hd13 ho13).b hb_14).b hb_15).b n16).o hd17 ho17).b n18).b n19).b hb_20).b n21
  replace s1 := s1.k k11_21
  replace s2 := s2.k k11_21
  have k20_21 := kb n21
  replace g1 := g1.k k20_21
  replace g2 := g2.k k20_21
  go_big_op
  go_fit (gEqual_yes (.mk' (s1.zn Ls1.out) (s2.zn Ls2.out)) (.mk' (g1.zn Lg1.out) (g2.zn Lg2.out)) (by decide) (by decide) (by decide) (by decide) DS1.out DS2.out)
  rintro e w_22 ⟨rfl, hb_22⟩
  replace hs := hs.bl hb_22
  refine hK _ _ rfl ⟨hb_22, (And.intro hs.g1 (And.intro hs.g3 (And.intro hs.g0 trivial)))⟩ ?_
  clear hK K
  refine f0 ?_
  refine f0 ?_
  refine fmv ?_
  refine f4 ?_
  refine f4 ?_
  refine fl fun w_23 n23 => ?_
  clear m_S hq1 hq2 m_T g1 g2
  replace hs := hs.bl n23
  intro K hK
  have k15_23 := (((((((kb n16).o hd17 ho17).b n18).b n19).b hb_20).b n21).b hb_22).b n23
  replace t1 := t1.k k15_23
  replace t2 := t2.k k15_23
  have k19_23 := (((kb hb_20).b n21).b hb_22).b n23
  replace x1 := x1.k k19_23
  replace x2 := x2.k k19_23
  go_big_op
  go_fit (gEqual_yes (.mk' (t1.zn Lt1.out) (t2.zn Lt2.out)) (.mk' (x1.zn Lx1.out) (x2.zn Lx2.out)) (by decide) (by decide) (by decide) (by decide) (congrArg Prod.fst DT.out) (congrArg Prod.snd DT.out))
  rintro e w_24 ⟨rfl, hb_24⟩
  replace hs := hs.bl hb_24
  refine hK _ _ rfl ⟨hb_24, (And.intro hs.g1 (And.intro hs.g3 (And.intro hs.g0 trivial)))⟩ ?_
  clear hK K
  refine f0 ?_
  refine f0 ?_
  refine e0 hs ?_; clear hs; intro w_25 hs n25
  apply wpTail_end
  refine hK17 _ _ ?_
  refine cf ?_
  refine wp_skip ?_
  refine hK12 _ _ ?_
  refine wp_seq_k ?_
  intro K18 hK18
  refine rg [0, 1, 2, 3, 4, 5, 6] ?_
  refine sq ?_
  refine .mv ?_
  refine sq ?_
  intro K hK
  have hb := hs.b
  go_big_op
  go_fit (mxmt (adjugate_ok (HA.out.bl stab_n hb) hna HG.out HK.out HC.out (by decide) (by decide)))
  rintro e w_26 ⟨o_J, c_J, rfl, m_J, hb_26⟩
  clear hb
  replace hs := hs.bl hb_26
  refine hK _ _ rfl trivial ?_
  clear hK K
  refine sq ?_
  refine .mv ?_
  refine sq ?_
  refine .r0 ?_
  refine sq ?_
  refine .r0 ?_
  refine sq ?_
  refine .mv ?_
  refine sq ?_
  refine .mv ?_
  apply wpSq_end
  refine hK18 _ _ ?_
  refine wp_seq_k ?_
  intro K19 hK19
  refine rg [0, 1, 2, 3, 4, 5, 6, 7] ?_
  refine sq ?_
  refine .mv ?_
  refine sq ?_
  refine .mv ?_
  refine sq ?_
  intro K hK
  have hb := hs.b
  go_big_op
  go_fit (mxmt (mMul_ok (HA.out.bl stab_n hb) (m_J.mn BJ.out) hna len_mkM MJ.out (by decide) (by decide)))
  rintro e w_27 ⟨o_D, c_D, rfl, m_D, hb_27⟩
  clear hb
  replace m_J := m_J.bl hb_27; replace hs := hs.bl hb_27
  refine hK _ _ rfl trivial ?_
  clear hK K
  refine sq ?_
  refine .mv ?_
  refine sq ?_
  refine .r0 ?_
  refine sq ?_
  refine .r0 ?_
  refine sq ?_
  refine .mv ?_
  refine sq ?_
  refine .mv ?_
  apply wpSq_end
  refine hK19 _ _ ?_
  refine wp_seq_k ?_
  intro K20 hK20
  refine rg [0, 1, 2, 3, 4, 5, 6, 7] ?_
  refine sq ?_
  refine .mv ?_
  refine sq ?_
  refine .r0 ?_
  refine sq ?_
  intro K hK
  go_big_op
  go_fit (mxmt (mIdent_ok n64))
  rintro e w_28 ⟨o_O, c_O, rfl, m_O, hb_28⟩
  replace m_D := m_D.bl hb_28; replace hs := hs.bl hb_28
  refine hK _ _ rfl trivial ?_
  clear hK K
  refine sq ?_
  refine .mv ?_
  refine sq ?_
  refine .r0 ?_
  refine sq ?_
  refine .r0 ?_
  refine sq ?_
  refine .mv ?_
  refine sq ?_
  refine .mv ?_
  apply wpSq_end
  refine hK20 _ _ ?_
  refine wp_seq_k ?_
  intro K21 hK21
  refine rg [0, 1, 2, 3, 4, 5, 6, 7] ?_
  refine sq ?_
  refine .mv ?_
  refine sq ?_
  refine .r4 hs.g3.f4 ?_
  refine sq ?_
  intro K hK
  have k23_28 := ((((kb hb_24).b n25).b hb_26).b hb_27).b hb_28
  replace x1 := x1.k k23_28
  replace x2 := x2.k k23_28
  go_big_op
  go_fit (mxmt (mScale_ok (m_O.mn B1.out) (.mk' (x1.zn Lx1.out) (x2.zn Lx2.out)) len_mkM G1.out (by decide) (by decide)))
  rintro e w_29 ⟨o_W, c_W, rfl, m_W, hb_29⟩
  replace m_D := m_D.bl hb_29; replace m_O := m_O.bl hb_29; replace hs := hs.bl hb_29
  rw [W1.out] at m_W
  refine hK _ _ rfl trivial ?_
  clear hK K
  refine sq ?_
  refine .mv ?_
  refine sq ?_
  refine .r0 ?_
  refine sq ?_
  refine .r0 ?_
  refine sq ?_
  refine .mv ?_
  refine sq ?_
  refine .mv ?_
  apply wpSq_end
  refine hK21 _ _ ?_
  refine wp_seq_k ?_
  intro K22 hK22
  refine rg [0, 1, 2, 3, 4, 5, 6, 7, 8, 9, 10, 11, 12, 13, 14, 15, 16, 17, 18, 19] ?_
  refine sq ?_
  refine .mv ?_
  refine sq ?_
  refine .r0 ?_
  refine sq ?_
  refine .mv ?_
  refine sq ?_
  refine .mv ?_
  refine sq ?_
  refine .r0 ?_
  refine sq ?_
  refine .r0 ?_
  refine sq ?_
  refine .mv ?_
  refine sq ?_
  refine .mv ?_
  refine sq ?_
  refine .r0 ?_
  refine sq ?_
  refine .r0 ?_
  refine sq ?_
  refine .mv ?_
  refine sq ?_
  refine .mv ?_
  refine sq ?_
  refine .r0 ?_
  refine sq ?_
  refine .r0 ?_
  refine sq ?_
  refine .mv ?_
  refine sq ?_
  refine .mv ?_
  refine sq ?_
  refine .mv ?_
  refine sq ?_
  intro K hK
  go_big_op
  go_fit (mEqual_any (m_D.mn BP.out) (m_W.mn BW.out) LP.out len_mkM (by omega) (by omega) (by decide) (by decide))
  rintro e w_30 ⟨rfl, hb_30⟩
  clear s1 s2 t1 t2 m_J x1 x2 m_O
  replace m_D := m_D.bl hb_30; replace m_W := m_W.bl hb_30; replace hs := hs.bl hb_30
  rw [decide_eq_true HE.out]
  refine hK _ _ rfl trivial ?_
  clear hK K
  refine sq ?_
  refine .r0 ?_
  refine sq ?_
  refine .mv ?_
  apply wpSq_end
  refine hK22 _ _ ?_
  refine wp_ret ?_
  try dsimp only [Exit.then, Exit.inBlock]
  refine bodyPost_ret (v := (.bool true)) (by simp [results, Tryz.results4, go_sem]) rfl ?_
  exact ⟨rfl, hs.b⟩
set_option maxHeartbeats 4000000 in
set_option maxRecDepth 20000 in
theorem al_42 (ha : MN 1048576 w oa A) (hb' : MN 1048576 w ob B) (hq : PN w vg u l v l) (hl : l = 1048576) (hna : A.length = na) (hnb : B.length = nb) (la : na ≤ 1048576) (lb : nb ≤ 1048576) (ta : Tot 1048576 A) (tb : Tot 1048576 B) (h : gd A) (hk : wd A = na) (h2 : ¬ (gd B ∧ wd B = nb)) (h3 : ¬ (gd B ∧ nb = na)) (hi : i < na) :
    Calls Tryz.prog 4 #[.slice oa na ca, .slice ob nb cb, .int .i64 (i : Int), .int .i64 (i : Int), vg] w fun e w' => e = .returned (.bool true) ∧ Below w.heap.size w w' := by
  have n64 : na ≤ 64 := by have := h.1; omega
  have HA := hide ha
  have HB := hide hb'
  have HG := hide h
  have HK := hide hk
  have HM := hide (show MinB na na 1050641 (at2 A) from fun s f g h1 h2 => zl_up (ta.minB (W := na) hna n64 s f g h1 h2) (by omega))
  have HC := hide (show MinB (na + na) (na + na) 1050641 (brd na (at2 A)) from ta.brd hna n64)
  have LD := hide (show zl 1050641 (Dt.det na (at2 A)) from HM.out na id id (fun r hr => ⟨hr, hr⟩) (fun r q h _ => by simp only [id]; omega))
  have BJ := hide (show BdM 1050641 (mkM na na (adjE na (at2 A))) from bdM_mk fun i hi j hj => zl_adjE HC.out hi hj)
  have GJ := hide (show gd (mkM na na (adjE na (at2 A))) from gd_mkM n64 n64)
  have MJ := hide (show ml2 A (mkM na na (adjE na (at2 A))) from ⟨h, GJ.out, by rw [len_mkM]; exact hk⟩)
  have BP := hide (show BdM 3000000 (mulM A (mkM na na (adjE na (at2 A)))) from bdM_up (bd_mulM ha.bd BJ.out) (by rw [len_mkM]; omega))
  have LP := hide (show (mulM A (mkM na na (adjE na (at2 A)))).length = na from len_mulM.trans hna)
  have B1 := hide (show BdM 1 (mkM na na one2) from bdM_mk fun i _ j _ => zl_one2 0 i j)
  have G1 := hide (show gd (mkM na na one2) from gd_mkM n64 n64)
  have W1 := hide (show wd (mkM na na one2) = na from wd_mkM (by omega))
  have BW := hide (show BdM 3000000 (mkM na na fun i j => mP (at2 (mkM na na one2) i j) (Dt.det na (at2 A))) from bdM_mk fun i _ j _ => zl_up (zl_mP (at2_bd B1.out) LD.out) (by omega))
  have HE := hide (mulM_adj h hna hk)
  have HNB := hide h2
  have HNM := hide (show ¬ ml2 A B from fun c => h3 ⟨c.2.1, by rw [← hnb, ← c.2.2, hk]⟩)
  have t1 : ((i : Int) != (i : Int)) = false := by simp
  have HI := hide hi
  clear ha hb' h hk h2 ta tb h3
  obtain ⟨n_4a, o_4a, k_4a, c_4a, n_4b, o_4b, k_4b, c_4b, rfl, hq1, hq2⟩ := hq
  go_enter Tryz.func4, Tryz.ntmps4
  have hs := St.nil w
  refine wp_seq_k ?_
  intro K1 hK1
  refine rg [0, 1] ?_
  refine sq ?_
  refine .al hs ?_; clear hs; intro p_b1 w_1 hs n1 kb_b1
  refine sq ?_
  refine .mv ?_
  apply wpSq_end
  refine hK1 _ _ ?_
  refine wp_seq_k ?_
  intro K2 hK2
  refine wp_seq_k ?_
  intro K3 hK3
  refine rg [0, 1] ?_
  refine sq ?_
  intro K hK
  go_big_op
  go_fit (awake9_any _)
  rintro e w_2 ⟨rfl, hb_2⟩
  replace hs := hs.bl hb_2
  refine hK _ _ rfl trivial ?_
  clear hK K
  refine sq ?_
  refine .r0 ?_
  apply wpSq_end
  refine hK3 _ _ ?_
  refine cf ?_
  refine wp_skip ?_
  refine hK2 _ _ ?_
  refine wp_seq_k ?_
  intro K4 hK4
  refine rg [0, 1, 2, 3, 4, 5, 6, 7] ?_
  refine sq ?_
  refine .mv ?_
  refine sq ?_
  intro K hK
  have hb := hs.b
  go_big_op
  go_fit (det_ok (HA.out.bl stab_n hb) hna HG.out HK.out HM.out (by decide) (by decide))
  rintro e w_3 ⟨_, rfl, ⟨n_xa, o_xa, k_xa, c_xa, n_xb, o_xb, k_xb, c_xb, rfl, x1, x2⟩, hb_3⟩
  clear hb
  replace hs := hs.bl hb_3
  have Lx1 := hide (x1.lenOf (LD.out.1))
  have Lx2 := hide (x2.lenOf (LD.out.2))
  refine hK _ _ rfl trivial ?_
  clear hK K
  refine sq ?_
  refine .mv ?_
  refine sq ?_
  refine .r0 ?_
  refine sq ?_
  refine .r0 ?_
  refine sq ?_
  refine .al hs ?_; clear hs; intro p_b2 w_4 hs n4 kb_b2
  refine sq ?_
  refine .s4 hs.g0 (fun _ => hs.u0 kb_b2) ?_; clear hs; intro w_5 hs hd5 ho5
  refine sq ?_
  refine .mv ?_
  apply wpSq_end
  refine hK4 _ _ ?_
  refine wp_seq_k ?_
  intro K5 hK5
  refine wp_seq_k ?_
  intro K6 hK6
  refine rg [0, 1] ?_
  refine sq ?_
  refine .mv ?_
  refine sq ?_
  refine .r0 ?_
  apply wpSq_end
  refine hK6 _ _ ?_
  refine cf ?_
  refine wp_skip ?_
  refine hK5 _ _ ?_
  refine wp_seq_k ?_
  intro K7 hK7
  refine rg [0, 1, 2, 3, 4, 5, 6, 7] ?_
  refine sq ?_
  refine .mv ?_
  refine sq ?_
  intro K hK
  have hb := hs.b
  go_big_op
  go_fit (det_bad (HB.out.bl stab_n hb) hnb HNB.out (by omega))
  rintro e w_6 ⟨rfl, hb_6⟩
  clear hb
  replace hs := hs.bl hb_6
  refine hK _ _ rfl trivial ?_
  clear hK K
  refine sq ?_
  refine .mv ?_
  refine sq ?_
  refine .r0 ?_
  refine sq ?_
  refine .r0 ?_
  refine sq ?_
  refine .al hs ?_; clear hs; intro p_b3 w_7 hs n7 kb_b3
  refine sq ?_
  refine .s4 hs.g0 (fun _ => hs.u0 kb_b3) ?_; clear hs; intro w_8 hs hd8 ho8
  refine sq ?_
  refine .mv ?_
  apply wpSq_end
  refine hK7 _ _ ?_
  refine wp_seq_k ?_
  intro K8 hK8
  refine rg [0, 1, 2, 3, 4, 5, 6, 7] ?_
  refine sq ?_
  refine .mv ?_
  refine sq ?_
  refine .mv ?_
  refine sq ?_
  intro K hK
  have hb := hs.b
  go_big_op
  go_fit (mMul_bad (HA.out.bl stab_n hb) (HB.out.bl stab_n hb) hna hnb HNM.out (by omega) (by omega))
  rintro e w_9 ⟨rfl, hb_9⟩
  clear hb
  replace hs := hs.bl hb_9
  refine hK _ _ rfl trivial ?_
  clear hK K
  refine sq ?_
  refine .mv ?_
  refine sq ?_
  refine .r0 ?_
  refine sq ?_
  refine .r0 ?_
  refine sq ?_
  refine .mv ?_
  refine sq ?_
  refine .mv ?_
  apply wpSq_end
  refine hK8 _ _ ?_
  refine wp_seq_k ?_
  intro K9 hK9
  refine wp_seq_k ?_
  intro K10 hK10
  refine rg [0, 1, 2, 3, 4, 5, 6, 7, 8, 9, 10, 11, 12] ?_
  refine sq ?_
  refine .mv ?_
  refine sq ?_
  refine .r0 ?_
  refine sq ?_
  refine .mv ?_
  refine sk ?_
  refine sk ?_
  refine sq ?_
  refine .r0 ?_
  refine sq ?_
  refine .mv ?_
  refine sk ?_
  refine sk ?_
  refine sk ?_
  refine sk ?_
  refine sk ?_
  refine sq ?_
  refine .r0 ?_
  apply wpSq_end
  refine hK10 _ _ ?_
  refine cf ?_
  refine wp_skip ?_
  refine hK9 _ _ ?_
  refine wp_seq_k ?_
  intro K11 hK11
  refine rg [0, 1, 2, 3, 4, 5, 6, 7, 8] ?_
  refine sq ?_
  refine .mv ?_
  refine sq ?_
  refine .mv ?_
  refine sq ?_
  refine .mv ?_
  refine sq ?_
  intro K hK
  have hb := hs.b
  go_big_op
  go_fit (mxmt (mSwap_ok (HA.out.bl stab_n hb) hna HG.out HK.out HI.out HI.out (by decide)))
  rintro e w_10 ⟨o_S, c_S, rfl, m_S, hb_10⟩
  clear hb
  replace hs := hs.bl hb_10
  refine hK _ _ rfl trivial ?_
  clear hK K
  refine sq ?_
  refine .mv ?_
  refine sq ?_
  refine .r0 ?_
  refine sq ?_
  refine .r0 ?_
  refine sq ?_
  refine .mv ?_
  refine sq ?_
  refine .mv ?_
  apply wpSq_end
  refine hK11 _ _ ?_
  refine wp_seq_k ?_
  intro K12 hK12
  refine wp_seq_k ?_
  intro K13 hK13
  refine rg [0, 1, 2, 3, 4, 5, 6] ?_
  refine sq ?_
  refine .mv ?_
  refine sq ?_
  refine .r0 ?_
  refine sq ?_
  refine .mv ?_
  refine sq ?_
  refine .mv ?_
  refine sq ?_
  refine .mv ?_
  refine sq ?_
  refine .r0 ?_
  refine sq ?_
  refine .r0 ?_
  apply wpSq_end
  refine hK13 _ _ ?_
  refine cf ?_
  refine wp_skip ?_
  refine hK12 _ _ ?_
  refine wp_seq_k ?_
  intro K14 hK14
  refine rg [0, 1, 2, 3, 4, 5, 6] ?_
  refine sq ?_
  refine .mv ?_
  refine sq ?_
  intro K hK
  have hb := hs.b
  go_big_op
  go_fit (mxmt (adjugate_ok (HA.out.bl stab_n hb) hna HG.out HK.out HC.out (by decide) (by decide)))
  rintro e w_11 ⟨o_J, c_J, rfl, m_J, hb_11⟩
  clear hb
  replace hs := hs.bl hb_11
  refine hK _ _ rfl trivial ?_
  clear hK K
  refine sq ?_
  refine .mv ?_
  refine sq ?_
  refine .r0 ?_
  refine sq ?_
  refine .r0 ?_
  refine sq ?_
  refine .mv ?_
  refine sq ?_
  refine .mv ?_
  apply wpSq_end
  refine hK14 _ _ ?_
  refine wp_seq_k ?_
  intro K15 hK15
  refine rg [0, 1, 2, 3, 4, 5, 6, 7] ?_
  refine sq ?_
  refine .mv ?_
  refine sq ?_
  refine .mv ?_
  refine sq ?_
  intro K hK
  have hb := hs.b
  go_big_op
  go_fit (mxmt (mMul_ok (HA.out.bl stab_n hb) (m_J.mn BJ.out) hna len_mkM MJ.out (by decide) (by decide)))
  rintro e w_12 ⟨o_D, c_D, rfl, m_D, hb_12⟩
  clear hb
  replace m_J := m_J.bl hb_12; replace hs := hs.bl hb_12
  refine hK _ _ rfl trivial ?_
  clear hK K
  refine sq ?_
  refine .mv ?_
  refine sq ?_
  refine .r0 ?_
  refine sq ?_
  refine .r0 ?_
  refine sq ?_
  refine .mv ?_
  refine sq ?_
  refine .mv ?_
  apply wpSq_end
  refine hK15 _ _ ?_
  refine wp_seq_k ?_
  intro K16 hK16
  refine rg [0, 1, 2, 3, 4, 5, 6, 7] ?_
  refine sq ?_
  refine .mv ?_
  refine sq ?_
  refine .r0 ?_
  refine sq ?_
  intro K hK
  go_big_op
  go_fit (mxmt (mIdent_ok n64))
  rintro e w_13 ⟨o_O, c_O, rfl, m_O, hb_13⟩
  replace m_D := m_D.bl hb_13; replace hs := hs.bl hb_13
  refine hK _ _ rfl trivial ?_
  clear hK K
  refine sq ?_
  refine .mv ?_
  refine sq ?_
  refine .r0 ?_
  refine sq ?_
  refine .r0 ?_
  refine sq ?_
  refine .mv ?_
  refine sq ?_
  refine .mv ?_
  apply wpSq_end
  refine hK16 _ _ ?_
  refine wp_seq_k ?_
  intro K17 hK17
  refine rg [0, 1, 2, 3, 4, 5, 6, 7] ?_
  refine sq ?_
  refine .mv ?_
  refine sq ?_
  refine .r4 hs.g1.f4 ?_
  refine sq ?_
  intro K hK
  have k3_13 := (((((((((kb n4).o hd5 ho5).b hb_6).b n7).o hd8 ho8).b hb_9).b hb_10).b hb_11).b hb_12).b hb_13
  replace x1 := x1.k k3_13
  replace x2 := x2.k k3_13
  go_big_op
  go_fit (mxmt (mScale_ok (m_O.mn B1.out) (.mk' (x1.zn Lx1.out) (x2.zn Lx2.out)) len_mkM G1.out (by decide) (by decide)))
  rintro e w_14 ⟨o_W, c_W, rfl, m_W, hb_14⟩
  replace m_D := m_D.bl hb_14; replace m_O := m_O.bl hb_14; replace hs := hs.bl hb_14
  rw [W1.out] at m_W
  refine hK _ _ rfl trivial ?_
  clear hK K
  refine sq ?_
  refine .mv ?_
  refine sq ?_
  refine .r0 ?_
  refine sq ?_
  refine .r0 ?_
  refine sq ?_
  refine .mv ?_
  refine sq ?_
  refine .mv ?_
  apply wpSq_end
  refine hK17 _ _ ?_
  refine wp_seq_k ?_
  intro K18 hK18
  refine rg [0, 1, 2, 3, 4, 5, 6, 7, 8, 9, 10, 11, 12, 13, 14, 15, 16, 17, 18, 19] ?_
  refine sq ?_
  refine .mv ?_
  refine sq ?_
  refine .r0 ?_
  refine sq ?_
  refine .mv ?_
  refine sq ?_
  refine .mv ?_
  refine sq ?_
  refine .r0 ?_
  refine sq ?_
  refine .r0 ?_
  refine sq ?_
  refine .mv ?_
  refine sq ?_
  refine .mv ?_
  refine sq ?_
  refine .r0 ?_
  refine sq ?_
  refine .r0 ?_
  refine sq ?_
  refine .mv ?_
  refine sq ?_
  refine .mv ?_
  refine sq ?_
  refine .r0 ?_
  refine sq ?_
  refine .r0 ?_
  refine sq ?_
  refine .mv ?_
  refine sq ?_
  refine .mv ?_
  refine sq ?_
  refine .mv ?_
  refine sq ?_
  intro K hK
  go_big_op
  go_fit (mEqual_any (m_D.mn BP.out) (m_W.mn BW.out) LP.out len_mkM (by omega) (by omega) (by decide) (by decide))
  rintro e w_15 ⟨rfl, hb_15⟩
  clear hq1 hq2 m_S m_J x1 x2 m_O
  replace m_D := m_D.bl hb_15; replace m_W := m_W.bl hb_15; replace hs := hs.bl hb_15
  rw [decide_eq_true HE.out]
  refine hK _ _ rfl trivial ?_
  clear hK K
  refine sq ?_
  refine .r0 ?_
  refine sq ?_
  refine .mv ?_
  apply wpSq_end
  refine hK18 _ _ ?_
  refine wp_ret ?_
  try dsimp only [Exit.then, Exit.inBlock]
  refine bodyPost_ret (v := (.bool true)) (by simp [results, Tryz.results4, go_sem]) rfl ?_
  exact ⟨rfl, hs.b⟩
set_option maxHeartbeats 4000000 in
set_option maxRecDepth 20000 in
theorem al_43 (ha : MN 1048576 w oa A) (hb' : MN 1048576 w ob B) (hq : PN w vg u l v l) (hl : l = 1048576) (hna : A.length = na) (hnb : B.length = nb) (la : na ≤ 1048576) (lb : nb ≤ 1048576) (ta : Tot 1048576 A) (tb : Tot 1048576 B) (h : gd A) (hk : wd A = na) (h2 : ¬ (gd B ∧ wd B = nb)) (h3 : ¬ (gd B ∧ nb = na)) (hi : ¬ ((0 ≤ a ∧ a < (na : Int)) ∧ (0 ≤ b ∧ b < (na : Int)))) :
    Calls Tryz.prog 4 #[.slice oa na ca, .slice ob nb cb, .int .i64 a, .int .i64 b, vg] w fun e w' => e = .returned (.bool true) ∧ Below w.heap.size w w' := by
  have n64 : na ≤ 64 := by have := h.1; omega
  have HA := hide ha
  have HB := hide hb'
  have HG := hide h
  have HK := hide hk
  have HM := hide (show MinB na na 1050641 (at2 A) from fun s f g h1 h2 => zl_up (ta.minB (W := na) hna n64 s f g h1 h2) (by omega))
  have HC := hide (show MinB (na + na) (na + na) 1050641 (brd na (at2 A)) from ta.brd hna n64)
  have LD := hide (show zl 1050641 (Dt.det na (at2 A)) from HM.out na id id (fun r hr => ⟨hr, hr⟩) (fun r q h _ => by simp only [id]; omega))
  have BJ := hide (show BdM 1050641 (mkM na na (adjE na (at2 A))) from bdM_mk fun i hi j hj => zl_adjE HC.out hi hj)
  have GJ := hide (show gd (mkM na na (adjE na (at2 A))) from gd_mkM n64 n64)
  have MJ := hide (show ml2 A (mkM na na (adjE na (at2 A))) from ⟨h, GJ.out, by rw [len_mkM]; exact hk⟩)
  have BP := hide (show BdM 3000000 (mulM A (mkM na na (adjE na (at2 A)))) from bdM_up (bd_mulM ha.bd BJ.out) (by rw [len_mkM]; omega))
  have LP := hide (show (mulM A (mkM na na (adjE na (at2 A)))).length = na from len_mulM.trans hna)
  have B1 := hide (show BdM 1 (mkM na na one2) from bdM_mk fun i _ j _ => zl_one2 0 i j)
  have G1 := hide (show gd (mkM na na one2) from gd_mkM n64 n64)
  have W1 := hide (show wd (mkM na na one2) = na from wd_mkM (by omega))
  have BW := hide (show BdM 3000000 (mkM na na fun i j => mP (at2 (mkM na na one2) i j) (Dt.det na (at2 A))) from bdM_mk fun i _ j _ => zl_up (zl_mP (at2_bd B1.out) LD.out) (by omega))
  have HE := hide (mulM_adj h hna hk)
  have HNB := hide h2
  have HNM := hide (show ¬ ml2 A B from fun c => h3 ⟨c.2.1, by rw [← hnb, ← c.2.2, hk]⟩)
  have HIA := hide hi
  clear ha hb' h hk h2 ta tb h3
  obtain ⟨n_4a, o_4a, k_4a, c_4a, n_4b, o_4b, k_4b, c_4b, rfl, hq1, hq2⟩ := hq
  go_enter Tryz.func4, Tryz.ntmps4
  have hs := St.nil w
  refine wp_seq_k ?_
  intro K1 hK1
  refine rg [0, 1] ?_
  refine sq ?_
  refine .al hs ?_; clear hs; intro p_b1 w_1 hs n1 kb_b1
  refine sq ?_
  refine .mv ?_
  apply wpSq_end
  refine hK1 _ _ ?_
  refine wp_seq_k ?_
  intro K2 hK2
  refine wp_seq_k ?_
  intro K3 hK3
  refine rg [0, 1] ?_
  refine sq ?_
  intro K hK
  go_big_op
  go_fit (awake9_any _)
  rintro e w_2 ⟨rfl, hb_2⟩
  replace hs := hs.bl hb_2
  refine hK _ _ rfl trivial ?_
  clear hK K
  refine sq ?_
  refine .r0 ?_
  apply wpSq_end
  refine hK3 _ _ ?_
  refine cf ?_
  refine wp_skip ?_
  refine hK2 _ _ ?_
  refine wp_seq_k ?_
  intro K4 hK4
  refine rg [0, 1, 2, 3, 4, 5, 6, 7] ?_
  refine sq ?_
  refine .mv ?_
  refine sq ?_
  intro K hK
  have hb := hs.b
  go_big_op
  go_fit (det_ok (HA.out.bl stab_n hb) hna HG.out HK.out HM.out (by decide) (by decide))
  rintro e w_3 ⟨_, rfl, ⟨n_xa, o_xa, k_xa, c_xa, n_xb, o_xb, k_xb, c_xb, rfl, x1, x2⟩, hb_3⟩
  clear hb
  replace hs := hs.bl hb_3
  have Lx1 := hide (x1.lenOf (LD.out.1))
  have Lx2 := hide (x2.lenOf (LD.out.2))
  refine hK _ _ rfl trivial ?_
  clear hK K
  refine sq ?_
  refine .mv ?_
  refine sq ?_
  refine .r0 ?_
  refine sq ?_
  refine .r0 ?_
  refine sq ?_
  refine .al hs ?_; clear hs; intro p_b2 w_4 hs n4 kb_b2
  refine sq ?_
  refine .s4 hs.g0 (fun _ => hs.u0 kb_b2) ?_; clear hs; intro w_5 hs hd5 ho5
  refine sq ?_
  refine .mv ?_
  apply wpSq_end
  refine hK4 _ _ ?_
  refine wp_seq_k ?_
  intro K5 hK5
  refine wp_seq_k ?_
  intro K6 hK6
  refine rg [0, 1] ?_
  refine sq ?_
  refine .mv ?_
  refine sq ?_
  refine .r0 ?_
  apply wpSq_end
  refine hK6 _ _ ?_
  refine cf ?_
  refine wp_skip ?_
  refine hK5 _ _ ?_
  refine wp_seq_k ?_
  intro K7 hK7
  refine rg [0, 1, 2, 3, 4, 5, 6, 7] ?_
  refine sq ?_
  refine .mv ?_
  refine sq ?_
  intro K hK
  have hb := hs.b
  go_big_op
  go_fit (det_bad (HB.out.bl stab_n hb) hnb HNB.out (by omega))
  rintro e w_6 ⟨rfl, hb_6⟩
  clear hb
  replace hs := hs.bl hb_6
  refine hK _ _ rfl trivial ?_
  clear hK K
  refine sq ?_
  refine .mv ?_
  refine sq ?_
  refine .r0 ?_
  refine sq ?_
  refine .r0 ?_
  refine sq ?_
  refine .al hs ?_; clear hs; intro p_b3 w_7 hs n7 kb_b3
  refine sq ?_
  refine .s4 hs.g0 (fun _ => hs.u0 kb_b3) ?_; clear hs; intro w_8 hs hd8 ho8
  refine sq ?_
  refine .mv ?_
  apply wpSq_end
  refine hK7 _ _ ?_
  refine wp_seq_k ?_
  intro K8 hK8
  refine rg [0, 1, 2, 3, 4, 5, 6, 7] ?_
  refine sq ?_
  refine .mv ?_
  refine sq ?_
  refine .mv ?_
  refine sq ?_
  intro K hK
  have hb := hs.b
  go_big_op
  go_fit (mMul_bad (HA.out.bl stab_n hb) (HB.out.bl stab_n hb) hna hnb HNM.out (by omega) (by omega))
  rintro e w_9 ⟨rfl, hb_9⟩
  clear hb
  replace hs := hs.bl hb_9
  refine hK _ _ rfl trivial ?_
  clear hK K
  refine sq ?_
  refine .mv ?_
  refine sq ?_
  refine .r0 ?_
  refine sq ?_
  refine .r0 ?_
  refine sq ?_
  refine .mv ?_
  refine sq ?_
  refine .mv ?_
  apply wpSq_end
  refine hK8 _ _ ?_
  refine wp_seq_k ?_
  intro K9 hK9
  refine wp_seq_k ?_
  intro K10 hK10
  refine rg [0, 1, 2, 3, 4, 5, 6, 7, 8, 9, 10, 11, 12] ?_
  refine sq ?_
  refine .mv ?_
  refine sq ?_
  refine .r0 ?_
  refine sq ?_
  refine .mv ?_
  refine sk ?_
  refine sk ?_
  refine sq ?_
  refine .r0 ?_
  refine sq ?_
  refine .mv ?_
  refine sk ?_
  refine sk ?_
  refine sk ?_
  refine sk ?_
  refine sk ?_
  refine sq ?_
  refine .r0 ?_
  apply wpSq_end
  refine hK10 _ _ ?_
  refine cf ?_
  refine wp_skip ?_
  refine hK9 _ _ ?_
  refine wp_seq_k ?_
  intro K11 hK11
  refine rg [0, 1, 2, 3, 4, 5, 6, 7, 8] ?_
  refine sq ?_
  refine .mv ?_
  refine sq ?_
  refine .mv ?_
  refine sq ?_
  refine .mv ?_
  refine sq ?_
  intro K hK
  have hb := hs.b
  go_big_op
  go_fit (mSwap_arg (HA.out.bl stab_n hb) hna HG.out (by decide) HIA.out)
  rintro e w_10 ⟨rfl, hb_10⟩
  clear hb
  replace hs := hs.bl hb_10
  refine hK _ _ rfl trivial ?_
  clear hK K
  refine sq ?_
  refine .mv ?_
  refine sq ?_
  refine .r0 ?_
  refine sq ?_
  refine .r0 ?_
  refine sq ?_
  refine .mv ?_
  refine sq ?_
  refine .mv ?_
  apply wpSq_end
  refine hK11 _ _ ?_
  refine wp_seq_k ?_
  intro K12 hK12
  refine wp_seq_k ?_
  intro K13 hK13
  refine rg [0, 1, 2, 3, 4, 5, 6] ?_
  refine sq ?_
  refine .mv ?_
  refine sq ?_
  refine .r0 ?_
  refine sq ?_
  refine .mv ?_
  refine sk ?_
  refine sk ?_
  refine sk ?_
  refine sq ?_
  refine .r0 ?_
  apply wpSq_end
  refine hK13 _ _ ?_
  refine cf ?_
  refine wp_skip ?_
  refine hK12 _ _ ?_
  refine wp_seq_k ?_
  intro K14 hK14
  refine rg [0, 1, 2, 3, 4, 5, 6] ?_
  refine sq ?_
  refine .mv ?_
  refine sq ?_
  intro K hK
  have hb := hs.b
  go_big_op
  go_fit (mxmt (adjugate_ok (HA.out.bl stab_n hb) hna HG.out HK.out HC.out (by decide) (by decide)))
  rintro e w_11 ⟨o_J, c_J, rfl, m_J, hb_11⟩
  clear hb
  replace hs := hs.bl hb_11
  refine hK _ _ rfl trivial ?_
  clear hK K
  refine sq ?_
  refine .mv ?_
  refine sq ?_
  refine .r0 ?_
  refine sq ?_
  refine .r0 ?_
  refine sq ?_
  refine .mv ?_
  refine sq ?_
  refine .mv ?_
  apply wpSq_end
  refine hK14 _ _ ?_
  refine wp_seq_k ?_
  intro K15 hK15
  refine rg [0, 1, 2, 3, 4, 5, 6, 7] ?_
  refine sq ?_
  refine .mv ?_
  refine sq ?_
  refine .mv ?_
  refine sq ?_
  intro K hK
  have hb := hs.b
  go_big_op
  go_fit (mxmt (mMul_ok (HA.out.bl stab_n hb) (m_J.mn BJ.out) hna len_mkM MJ.out (by decide) (by decide)))
  rintro e w_12 ⟨o_D, c_D, rfl, m_D, hb_12⟩
  clear hb
  replace m_J := m_J.bl hb_12; replace hs := hs.bl hb_12
  refine hK _ _ rfl trivial ?_
  clear hK K
  refine sq ?_
  refine .mv ?_
  refine sq ?_
  refine .r0 ?_
  refine sq ?_
  refine .r0 ?_
  refine sq ?_
  refine .mv ?_
  refine sq ?_
  refine .mv ?_
  apply wpSq_end
  refine hK15 _ _ ?_
  refine wp_seq_k ?_
  intro K16 hK16
  refine rg [0, 1, 2, 3, 4, 5, 6, 7] ?_
  refine sq ?_
  refine .mv ?_
  refine sq ?_
  refine .r0 ?_
  refine sq ?_
  intro K hK
  go_big_op
  go_fit (mxmt (mIdent_ok n64))
  rintro e w_13 ⟨o_O, c_O, rfl, m_O, hb_13⟩
  replace m_D := m_D.bl hb_13; replace hs := hs.bl hb_13
  refine hK _ _ rfl trivial ?_
  clear hK K
  refine sq ?_
  refine .mv ?_
  refine sq ?_
  refine .r0 ?_
  refine sq ?_
  refine .r0 ?_
  refine sq ?_
  refine .mv ?_
  refine sq ?_
  refine .mv ?_
  apply wpSq_end
  refine hK16 _ _ ?_
  refine wp_seq_k ?_
  intro K17 hK17
  refine rg [0, 1, 2, 3, 4, 5, 6, 7] ?_
  refine sq ?_
  refine .mv ?_
  refine sq ?_
  refine .r4 hs.g1.f4 ?_
  refine sq ?_
  intro K hK
  have k3_13 := (((((((((kb n4).o hd5 ho5).b hb_6).b n7).o hd8 ho8).b hb_9).b hb_10).b hb_11).b hb_12).b hb_13
  replace x1 := x1.k k3_13
  replace x2 := x2.k k3_13
  go_big_op
  go_fit (mxmt (mScale_ok (m_O.mn B1.out) (.mk' (x1.zn Lx1.out) (x2.zn Lx2.out)) len_mkM G1.out (by decide) (by decide)))
  rintro e w_14 ⟨o_W, c_W, rfl, m_W, hb_14⟩
  replace m_D := m_D.bl hb_14; replace m_O := m_O.bl hb_14; replace hs := hs.bl hb_14
  rw [W1.out] at m_W
  refine hK _ _ rfl trivial ?_
  clear hK K
  refine sq ?_
  refine .mv ?_
  refine sq ?_
  refine .r0 ?_
  refine sq ?_
  refine .r0 ?_
  refine sq ?_
  refine .mv ?_
  refine sq ?_
  refine .mv ?_
  apply wpSq_end
  refine hK17 _ _ ?_
  refine wp_seq_k ?_
  intro K18 hK18
  refine rg [0, 1, 2, 3, 4, 5, 6, 7, 8, 9, 10, 11, 12, 13, 14, 15, 16, 17, 18, 19] ?_
  refine sq ?_
  refine .mv ?_
  refine sq ?_
  refine .r0 ?_
  refine sq ?_
  refine .mv ?_
  refine sq ?_
  refine .mv ?_
  refine sq ?_
  refine .r0 ?_
  refine sq ?_
  refine .r0 ?_
  refine sq ?_
  refine .mv ?_
  refine sq ?_
  refine .mv ?_
  refine sq ?_
  refine .r0 ?_
  refine sq ?_
  refine .r0 ?_
  refine sq ?_
  refine .mv ?_
  refine sq ?_
  refine .mv ?_
  refine sq ?_
  refine .r0 ?_
  refine sq ?_
  refine .r0 ?_
  refine sq ?_
  refine .mv ?_
  refine sq ?_
  refine .mv ?_
  refine sq ?_
  refine .mv ?_
  refine sq ?_
  intro K hK
  go_big_op
  go_fit (mEqual_any (m_D.mn BP.out) (m_W.mn BW.out) LP.out len_mkM (by omega) (by omega) (by decide) (by decide))
  rintro e w_15 ⟨rfl, hb_15⟩
  clear hq1 hq2 m_J x1 x2 m_O
  replace m_D := m_D.bl hb_15; replace m_W := m_W.bl hb_15; replace hs := hs.bl hb_15
  rw [decide_eq_true HE.out]
  refine hK _ _ rfl trivial ?_
  clear hK K
  refine sq ?_
  refine .r0 ?_
  refine sq ?_
  refine .mv ?_
  apply wpSq_end
  refine hK18 _ _ ?_
  refine wp_ret ?_
  try dsimp only [Exit.then, Exit.inBlock]
  refine bodyPost_ret (v := (.bool true)) (by simp [results, Tryz.results4, go_sem]) rfl ?_
  exact ⟨rfl, hs.b⟩
end
theorem walk_GdetAlong (w : World) (oa : Option Addr) (na ca : Nat) (A : List (List (Int × Int))) (ha : MN 1048576 w oa A) (hna : A.length = na) (la : na ≤ 1048576) (ta : Tot 1048576 A)
    (ob : Option Addr) (nb cb : Nat) (B : List (List (Int × Int))) (hb' : MN 1048576 w ob B) (hnb : B.length = nb) (lb : nb ≤ 1048576) (tb : Tot 1048576 B)
    (a : Int) (a1 : -9223372036854775808 ≤ a) (a2 : a ≤ 9223372036854775807) (b : Int) (b1 : -9223372036854775808 ≤ b) (b2 : b ≤ 9223372036854775807)
    (n1 : Bool) (s1 : Value) (xs : List Nat) (h1 : Rd w s1 xs) (l1 : xs.length ≤ 1048576) (n2 : Bool) (s2 : Value) (ys : List Nat) (h2 : Rd w s2 ys) (l2 : ys.length ≤ 1048576) :
    Calls Tryz.prog 4 #[.slice oa na ca, .slice ob nb cb, .int .i64 a, .int .i64 b, .agg #[.bool n1, s1, .bool n2, s2]] w fun e w' => e = .returned (.bool true) ∧ Below w.heap.size w w' := by
  have hq := PN.of_rd n1 n2 h1 l1 h2 l2
  by_cases h : gd A ∧ wd A = na
  · obtain ⟨hg, hk⟩ := h
    have hij : (∃ i j : Nat, a = (i : Int) ∧ b = (j : Int) ∧ i < na ∧ j < na ∧ i ≠ j) ∨ (∃ i : Nat, a = (i : Int) ∧ b = (i : Int) ∧ i < na) ∨ ¬ ((0 ≤ a ∧ a < (na : Int)) ∧ (0 ≤ b ∧ b < (na : Int))) := by
      by_cases c : (0 ≤ a ∧ a < (na : Int)) ∧ (0 ≤ b ∧ b < (na : Int))
      · by_cases e : a = b
        · exact .inr (.inl ⟨a.toNat, by omega, by omega, by omega⟩)
        · exact .inl ⟨a.toNat, b.toNat, by omega, by omega, by omega, by omega, by omega⟩
      · exact .inr (.inr c)
    have hB : ((gd B ∧ wd B = nb) ∧ nb = na) ∨ ((gd B ∧ wd B = nb) ∧ nb ≠ na) ∨ ((gd B ∧ nb = na) ∧ wd B ≠ nb) ∨ (¬ (gd B ∧ wd B = nb) ∧ ¬ (gd B ∧ nb = na)) := by
      by_cases c1 : gd B ∧ wd B = nb <;> by_cases c2 : nb = na
      · exact .inl ⟨c1, c2⟩
      · exact .inr (.inl ⟨c1, c2⟩)
      · by_cases c3 : gd B
        · exact .inr (.inr (.inl ⟨⟨c3, c2⟩, fun e => c1 ⟨c3, e⟩⟩))
        · exact .inr (.inr (.inr ⟨c1, fun e => c3 e.1⟩))
      · exact .inr (.inr (.inr ⟨c1, fun e => c2 e.2⟩))
    rcases hij with ⟨i, j, rfl, rfl, hi, hj, hij⟩ | ⟨i, rfl, rfl, hi⟩ | hi <;> rcases hB with ⟨h2, h3⟩ | ⟨h2, h3⟩ | ⟨h2, h3⟩ | ⟨h2, h3⟩
    · exact al_11 ha hb' hq rfl hna hnb la lb ta tb hg hk h2 h3 hi hj hij
    · exact al_21 ha hb' hq rfl hna hnb la lb ta tb hg hk h2 h3 hi hj hij
    · exact al_31 ha hb' hq rfl hna hnb la lb ta tb hg hk h2 h3 hi hj hij
    · exact al_41 ha hb' hq rfl hna hnb la lb ta tb hg hk h2 h3 hi hj hij
    · exact al_12 ha hb' hq rfl hna hnb la lb ta tb hg hk h2 h3 hi
    · exact al_22 ha hb' hq rfl hna hnb la lb ta tb hg hk h2 h3 hi
    · exact al_32 ha hb' hq rfl hna hnb la lb ta tb hg hk h2 h3 hi
    · exact al_42 ha hb' hq rfl hna hnb la lb ta tb hg hk h2 h3 hi
    · exact al_13 ha hb' hq rfl hna hnb la lb ta tb hg hk h2 h3 hi
    · exact al_23 ha hb' hq rfl hna hnb la lb ta tb hg hk h2 h3 hi
    · exact al_33 ha hb' hq rfl hna hnb la lb ta tb hg hk h2 h3 hi
    · exact al_43 ha hb' hq rfl hna hnb la lb ta tb hg hk h2 h3 hi
  · exact al_bad ha hna la hq h
end Go.Proofs.YtjfjlloibmebeaaGreat

