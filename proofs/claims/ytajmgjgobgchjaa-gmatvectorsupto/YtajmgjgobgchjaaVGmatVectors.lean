/- The walk of GmatVectors. -/
import Derived.Test.YtajmgjgobgchjaaO3ToO4
namespace Go.Proofs.Ytajmgjgobgchjaa
open Go Go.RowKit Dig
set_option linter.unusedVariables false
section
variable {w : World} {nv nu nm cv cu cm : Nat} {ov ou om : Option Addr} {V U : List (Int × Int)} {M : List (List (Int × Int))}
set_option maxHeartbeats 4000000 in
set_option maxRecDepth 20000 in
theorem vectors_eok (hv : SN 1048576 w ov V) (hu : SN 1048576 w ou U) (hm : MN 1048576 w om M) (hnv : V.length = nv) (hnu : U.length = nv) (hnm : M.length = nv) (lv : nv ≤ 1048576) (lu : nv ≤ 1048576) (lm : nv ≤ 1048576) (h2 : gd M) :
    Calls Try.prog 6 #[.slice ov nv cv, .slice ou nv cu, .slice om nv cm] w fun e w' => e = .returned (.bool true) ∧ Below w.heap.size w w' := by
  obtain ⟨L, hL⟩ : ∃ L, L = lenS nv fun i => nP (at1 V i) := ⟨_, rfl⟩
  have lL := hide (show (dig L.natAbs).length ≤ 50000000 by rw [hL]; exact bd_len hv hnv (by omega) (by decide))
  have HL := hide hL
  obtain ⟨D, hD⟩ : ∃ D, D = sumP nv fun i => mP (at1 V i) (cP (at1 U i)) := ⟨_, rfl⟩
  have lD := hide (dot_bd hD hv hu)
  have HD := hide hD
  clear hD
  have t1 : ((nv : Int) != (nv : Int)) = false := by simp
  obtain ⟨k, hk⟩ : ∃ k, wd M = k := ⟨_, rfl⟩
  have l64 : nv ≤ 64 := by have := h2.1; omega
  have k64 : k ≤ 64 := by have := h2.2.1; omega
  have HK := hide hk
  have BT := hide (rwT_bd (i := nv) (k := k) hv.bd hm.bd)
  clear hk
  have HV := hide hv
  have HU := hide hu
  have HM := hide hm
  have H2 := hide h2
  clear hv hu hm hL h2
  go_enter Try.func6, Try.ntmps6
  have hs := St.nil w
  refine wp_seq_k ?_
  intro K1 hK1
  refine rg [0] ?_
  refine sq ?_
  refine .mv ?_
  apply wpSq_end
  refine hK1 _ _ ?_
  refine wp_seq_k ?_
  intro K2 hK2
  refine rg [0, 1, 2, 3, 4, 5, 6, 7] ?_
  refine sq ?_
  refine .mv ?_
  refine sq ?_
  refine .mv ?_
  refine sq ?_
  intro K hK
  have hb := hs.b
  go_big_op
  go_fit (mTimes_ok (HV.out.bl stab_n hb) (HM.out.bl stab_n hb) hnv hnm H2.out HK.out (by decide) (by decide))
  rintro e w_1 ⟨o_T, c_T, xs_T, rfl, L_T, d_T, hb_1⟩
  clear hb
  replace hs := hs.la hb_1 L_T
  refine hK _ _ rfl trivial ?_
  clear hK K
  refine sq ?_
  refine .mv ?_
  refine sq ?_
  refine .r0 ?_
  refine sq ?_
  refine .r0 ?_
  refine sq ?_
  refine .mv ?_
  refine sq ?_
  refine .mv ?_
  apply wpSq_end
  refine hK2 _ _ ?_
  refine wp_seq_k ?_
  intro K3 hK3
  refine rg [0, 1, 2, 3, 4, 5, 6, 7, 8] ?_
  refine sq ?_
  refine .mv ?_
  refine sq ?_
  refine .mv ?_
  refine sq ?_
  intro K hK
  have hb := hs.b
  go_big_op
  go_fit (lDot2 HD.out (HV.out.bl stab_n hb) (HU.out.bl stab_n hb) hnv hnu (by omega) (by decide) (by decide))
  rintro e w_2 ⟨_, rfl, ⟨n_da, o_da, k_da, c_da, n_db, o_db, k_db, c_db, rfl, d1, d2⟩, hb_2⟩
  clear hb
  replace hs := hs.bl hb_2
  have Ld1 := hide (d1.lenOf (lD.out.1))
  have Ld2 := hide (d2.lenOf (lD.out.2))
  refine hK _ _ rfl trivial ?_
  clear hK K
  refine sq ?_
  refine .mv ?_
  refine sq ?_
  refine .r0 ?_
  refine sq ?_
  refine .r0 ?_
  refine sq ?_
  refine .al hs ?_; clear hs; intro p_b1 w_3 hs n3 kb_b1
  refine sq ?_
  refine .s4 hs.g0 (fun _ => hs.u0 kb_b1) ?_; clear hs; intro w_4 hs hd4 ho4
  refine sq ?_
  refine .mv ?_
  apply wpSq_end
  refine hK3 _ _ ?_
  refine wp_seq_k ?_
  intro K4 hK4
  refine wp_seq_k ?_
  intro K5 hK5
  refine rg [0, 1, 2, 3, 4, 5, 6, 7, 8, 9] ?_
  refine sq ?_
  intro K hK
  go_big_op
  go_fit (awake8_any _)
  rintro e w_5 ⟨rfl, hb_5⟩
  replace hs := hs.bl hb_5
  refine hK _ _ rfl trivial ?_
  clear hK K
  refine sq ?_
  refine .r0 ?_
  refine sq ?_
  refine .mv ?_
  refine sq ?_
  refine .mv ?_
  refine sq ?_
  intro K hK
  have hb := hs.b
  go_big_op
  go_fit (lLen HL.out (HV.out.bl stab_n hb) hnv (by omega) (by decide))
  rintro e w_6 ⟨v_x, rfl, x, hb_6⟩
  clear hb
  replace hs := hs.bl hb_6
  obtain ⟨n_x, o_x, k_x, c_x, rfl⟩ := x.open2
  have Lx := hide (x.lenOf (lL.out))
  refine hK _ _ rfl trivial ?_
  clear hK K
  refine sq ?_
  refine .mv ?_
  refine sq ?_
  intro K hK
  have hb := hs.b
  go_big_op
  go_fit (rLen8 HL.out (HV.out.bl stab_n hb) hnv (by omega) (by decide))
  rintro e w_7 ⟨v_y, rfl, y, hb_7⟩
  clear hb
  replace hs := hs.bl hb_7
  obtain ⟨n_y, o_y, k_y, c_y, rfl⟩ := y.open2
  have Ly := hide (y.lenOf (lL.out))
  refine hK _ _ rfl trivial ?_
  clear hK K
  refine sq ?_
  intro K hK
  have k6_7 := kb hb_7
  replace x := x.k k6_7
  go_big_op
  go_fit (rsame_zz x (y.zn lL.out) (by decide))
  rintro e w_8 ⟨rfl, hb_8⟩
  replace hs := hs.bl hb_8
  refine hK _ _ rfl trivial ?_
  clear hK K
  refine sq ?_
  refine .r0 ?_
  refine sq ?_
  refine .r0 ?_
  apply wpSq_end
  refine hK5 _ _ ?_
  refine cf ?_
  refine wp_skip ?_
  refine hK4 _ _ ?_
  refine wp_seq_k ?_
  intro K6 hK6
  refine wp_seq_k ?_
  intro K7 hK7
  refine rg [0, 1, 2, 3, 4] ?_
  refine sq ?_
  refine .mv ?_
  refine sq ?_
  refine .r0 ?_
  refine sq ?_
  refine .mv ?_
  refine sq ?_
  refine .r0 ?_
  refine sq ?_
  refine .r0 ?_
  apply wpSq_end
  refine hK7 _ _ ?_
  refine cf ?_
  refine wp_seq_k ?_
  intro K8 hK8
  refine wp_region_f4 [(0, false), (1, false), (2, false), (3, false), (4, false), (5, false), (6, true), (7, true), (8, false), (9, false)] [] [] (fun _ => default) [99, 99, 99, 0, 99, 99, 99, 99, 99, 99] [] (.c hs.g0 .n) fn fun w_9 n9 => ?_
  replace hs := hs.bl n9
  refine fmv ?_
  refine f0 ?_
  refine fmv ?_
  refine f4 ?_
  refine fmv ?_
  refine fmv ?_
  refine fl fun w_10 n10 => ?_
  replace hs := hs.bl n10
  intro K hK
  have hb := hs.b
  go_big_op
  go_fit (rDot8 HD.out (HV.out.bl stab_n hb) (HU.out.bl stab_n hb) hnv hnu (by omega) (by decide) (by decide))
  rintro e w_11 ⟨_, rfl, ⟨n_za, o_za, k_za, c_za, n_zb, o_zb, k_zb, c_zb, rfl, z1, z2⟩, hb_11⟩
  clear hb
  replace hs := hs.bl hb_11
  have Lz1 := hide (z1.lenOf (lD.out.1))
  have Lz2 := hide (z2.lenOf (lD.out.2))
  refine hK _ _ rfl ⟨hb_11, (And.intro hs.g0 trivial)⟩ ?_
  clear hK K
  refine fl fun w_12 n12 => ?_
  replace hs := hs.bl n12
  intro K hK
  have k2_12 := (((((((((kb n3).o hd4 ho4).b hb_5).b hb_6).b hb_7).b hb_8).b n9).b n10).b hb_11).b n12
  replace d1 := d1.k k2_12
  replace d2 := d2.k k2_12
  have k11_12 := kb n12
  replace z1 := z1.k k11_12
  replace z2 := z2.k k11_12
  go_big_op
  go_fit (rgSame_any (.mk' d1 d2) (.mk' (z1.zn lD.out.1) (z2.zn lD.out.2)) (by omega) (by omega))
  rintro e w_13 ⟨rfl, hb_13⟩
  replace hs := hs.bl hb_13
  refine hK _ _ rfl ⟨hb_13, (And.intro hs.g0 trivial)⟩ ?_
  clear hK K
  refine f0 ?_
  refine f0 ?_
  refine e0 hs ?_; clear hs; intro w_14 hs n14
  apply wpTail_end
  refine hK8 _ _ ?_
  refine cf ?_
  refine wp_skip ?_
  refine hK6 _ _ ?_
  refine wp_seq_k ?_
  intro K9 hK9
  refine wp_seq_k ?_
  intro K10 hK10
  refine rg [0, 1, 2, 3, 4, 5, 6, 7, 8, 9] ?_
  refine sq ?_
  refine .mv ?_
  refine sq ?_
  intro K hK
  have hb := hs.b
  go_big_op
  go_fit (rGood_any (HM.out.bl stab_n hb) hnm (by omega))
  rintro e w_15 ⟨rfl, hb_15⟩
  clear hb
  clear x y z1 z2 d1 d2
  replace hs := hs.bl hb_15
  rw [decide_eq_true H2.out]
  refine hK _ _ rfl trivial ?_
  clear hK K
  refine sq ?_
  refine .r0 ?_
  refine sq ?_
  refine .mv ?_
  refine sq ?_
  refine .mv ?_
  refine sq ?_
  refine .r0 ?_
  refine sq ?_
  refine .mv ?_
  refine sq ?_
  refine .r0 ?_
  refine sq ?_
  refine .r0 ?_
  refine sq ?_
  refine .r0 ?_
  apply wpSq_end
  refine hK10 _ _ ?_
  refine cf ?_
  refine wp_skip ?_
  refine hK9 _ _ ?_
  refine wp_seq_k ?_
  intro K11 hK11
  refine rg [0, 1, 2, 3, 4, 5, 6, 7, 8] ?_
  refine sq ?_
  refine .mv ?_
  refine sq ?_
  refine .mv ?_
  refine sq ?_
  refine .mv ?_
  refine sq ?_
  refine .mv ?_
  refine sq ?_
  refine .mv ?_
  refine sq ?_
  intro K hK
  have hb := hs.b
  go_big_op
  go_fit (rCols_any (HM.out.bl stab_n hb) hnm HK.out)
  rintro e w_16 ⟨rfl, hb_16⟩
  clear hb
  replace hs := hs.bl hb_16
  refine hK _ _ rfl trivial ?_
  clear hK K
  refine sq ?_
  intro K hK
  have hb := hs.b
  go_big_op
  go_fit (rTimes8 (HV.out.bl stab_n hb) (HM.out.bl stab_n hb) hnv hnm H2.out HK.out (by decide) (by decide))
  rintro e w_17 ⟨o_R, c_R, rfl, m_R, hb_17⟩
  clear hb
  replace hs := hs.bl hb_17
  refine hK _ _ rfl trivial ?_
  clear hK K
  refine sq ?_
  intro K hK
  have k1_17 := (((((((((((((((kb hb_2).b n3).o hd4 ho4).b hb_5).b hb_6).b hb_7).b hb_8).b n9).b n10).b hb_11).b n12).b hb_13).b n14).b hb_15).b hb_16).b hb_17
  replace d_T := d_T.k k1_17
  go_big_op
  go_fit (list_yes (Lst.sc hs.1.2.1.1 d_T).2 (SV.sn m_R BT.out) rwT_len (by omega) (by omega))
  rintro e w_18 ⟨rfl, hb_18⟩
  replace m_R := m_R.bl hb_18; replace hs := hs.bl hb_18
  refine hK _ _ rfl trivial ?_
  clear hK K
  refine sq ?_
  refine .mv ?_
  apply wpSq_end
  refine hK11 _ _ ?_
  refine wp_ret ?_
  try dsimp only [Exit.then, Exit.inBlock]
  refine bodyPost_ret (v := (.bool true)) (by simp [results, Try.results6, go_sem]) rfl ?_
  exact ⟨rfl, hs.b⟩
set_option maxHeartbeats 4000000 in
set_option maxRecDepth 20000 in
theorem vectors_ene (hv : SN 1048576 w ov V) (hu : SN 1048576 w ou U) (hm : MN 1048576 w om M) (hnv : V.length = nv) (hnu : U.length = nv) (hnm : M.length = nm) (lv : nv ≤ 1048576) (lu : nv ≤ 1048576) (lm : nm ≤ 1048576) (h2 : gd M) (h3 : nv ≠ nm) :
    Calls Try.prog 6 #[.slice ov nv cv, .slice ou nv cu, .slice om nm cm] w fun e w' => e = .returned (.bool true) ∧ Below w.heap.size w w' := by
  obtain ⟨L, hL⟩ : ∃ L, L = lenS nv fun i => nP (at1 V i) := ⟨_, rfl⟩
  have lL := hide (show (dig L.natAbs).length ≤ 50000000 by rw [hL]; exact bd_len hv hnv (by omega) (by decide))
  have HL := hide hL
  obtain ⟨D, hD⟩ : ∃ D, D = sumP nv fun i => mP (at1 V i) (cP (at1 U i)) := ⟨_, rfl⟩
  have lD := hide (dot_bd hD hv hu)
  have HD := hide hD
  clear hD
  have t1 : ((nv : Int) != (nv : Int)) = false := by simp
  have t2 : ((nv : Int) != (nm : Int)) = true := bne_iff_ne.2 (by omega)
  have HV := hide hv
  have HU := hide hu
  have HM := hide hm
  have H2 := hide h2
  clear hv hu hm hL h2
  have H3 := hide h3
  clear h3
  go_enter Try.func6, Try.ntmps6
  have hs := St.nil w
  refine wp_seq_k ?_
  intro K1 hK1
  refine rg [0] ?_
  refine sq ?_
  refine .mv ?_
  apply wpSq_end
  refine hK1 _ _ ?_
  refine wp_seq_k ?_
  intro K2 hK2
  refine rg [0, 1, 2, 3, 4, 5, 6, 7] ?_
  refine sq ?_
  refine .mv ?_
  refine sq ?_
  refine .mv ?_
  refine sq ?_
  intro K hK
  have hb := hs.b
  go_big_op
  go_fit (mTimes_bad (HM.out.bl stab_n hb) hnm (fun c ↦ H3.out c.2) (by omega) (by omega))
  rintro e w_1 ⟨rfl, hb_1⟩
  clear hb
  replace hs := hs.bl hb_1
  refine hK _ _ rfl trivial ?_
  clear hK K
  refine sq ?_
  refine .mv ?_
  refine sq ?_
  refine .r0 ?_
  refine sq ?_
  refine .r0 ?_
  refine sq ?_
  refine .mv ?_
  refine sq ?_
  refine .mv ?_
  apply wpSq_end
  refine hK2 _ _ ?_
  refine wp_seq_k ?_
  intro K3 hK3
  refine rg [0, 1, 2, 3, 4, 5, 6, 7, 8] ?_
  refine sq ?_
  refine .mv ?_
  refine sq ?_
  refine .mv ?_
  refine sq ?_
  intro K hK
  have hb := hs.b
  go_big_op
  go_fit (lDot2 HD.out (HV.out.bl stab_n hb) (HU.out.bl stab_n hb) hnv hnu (by omega) (by decide) (by decide))
  rintro e w_2 ⟨_, rfl, ⟨n_da, o_da, k_da, c_da, n_db, o_db, k_db, c_db, rfl, d1, d2⟩, hb_2⟩
  clear hb
  replace hs := hs.bl hb_2
  have Ld1 := hide (d1.lenOf (lD.out.1))
  have Ld2 := hide (d2.lenOf (lD.out.2))
  refine hK _ _ rfl trivial ?_
  clear hK K
  refine sq ?_
  refine .mv ?_
  refine sq ?_
  refine .r0 ?_
  refine sq ?_
  refine .r0 ?_
  refine sq ?_
  refine .al hs ?_; clear hs; intro p_b1 w_3 hs n3 kb_b1
  refine sq ?_
  refine .s4 hs.g0 (fun _ => hs.u0 kb_b1) ?_; clear hs; intro w_4 hs hd4 ho4
  refine sq ?_
  refine .mv ?_
  apply wpSq_end
  refine hK3 _ _ ?_
  refine wp_seq_k ?_
  intro K4 hK4
  refine wp_seq_k ?_
  intro K5 hK5
  refine rg [0, 1, 2, 3, 4, 5, 6, 7, 8, 9] ?_
  refine sq ?_
  intro K hK
  go_big_op
  go_fit (awake8_any _)
  rintro e w_5 ⟨rfl, hb_5⟩
  replace hs := hs.bl hb_5
  refine hK _ _ rfl trivial ?_
  clear hK K
  refine sq ?_
  refine .r0 ?_
  refine sq ?_
  refine .mv ?_
  refine sq ?_
  refine .mv ?_
  refine sq ?_
  intro K hK
  have hb := hs.b
  go_big_op
  go_fit (lLen HL.out (HV.out.bl stab_n hb) hnv (by omega) (by decide))
  rintro e w_6 ⟨v_x, rfl, x, hb_6⟩
  clear hb
  replace hs := hs.bl hb_6
  obtain ⟨n_x, o_x, k_x, c_x, rfl⟩ := x.open2
  have Lx := hide (x.lenOf (lL.out))
  refine hK _ _ rfl trivial ?_
  clear hK K
  refine sq ?_
  refine .mv ?_
  refine sq ?_
  intro K hK
  have hb := hs.b
  go_big_op
  go_fit (rLen8 HL.out (HV.out.bl stab_n hb) hnv (by omega) (by decide))
  rintro e w_7 ⟨v_y, rfl, y, hb_7⟩
  clear hb
  replace hs := hs.bl hb_7
  obtain ⟨n_y, o_y, k_y, c_y, rfl⟩ := y.open2
  have Ly := hide (y.lenOf (lL.out))
  refine hK _ _ rfl trivial ?_
  clear hK K
  refine sq ?_
  intro K hK
  have k6_7 := kb hb_7
  replace x := x.k k6_7
  go_big_op
  go_fit (rsame_zz x (y.zn lL.out) (by decide))
  rintro e w_8 ⟨rfl, hb_8⟩
  replace hs := hs.bl hb_8
  refine hK _ _ rfl trivial ?_
  clear hK K
  refine sq ?_
  refine .r0 ?_
  refine sq ?_
  refine .r0 ?_
  apply wpSq_end
  refine hK5 _ _ ?_
  refine cf ?_
  refine wp_skip ?_
  refine hK4 _ _ ?_
  refine wp_seq_k ?_
  intro K6 hK6
  refine wp_seq_k ?_
  intro K7 hK7
  refine rg [0, 1, 2, 3, 4] ?_
  refine sq ?_
  refine .mv ?_
  refine sq ?_
  refine .r0 ?_
  refine sq ?_
  refine .mv ?_
  refine sq ?_
  refine .r0 ?_
  refine sq ?_
  refine .r0 ?_
  apply wpSq_end
  refine hK7 _ _ ?_
  refine cf ?_
  refine wp_seq_k ?_
  intro K8 hK8
  refine wp_region_f4 [(0, false), (1, false), (2, false), (3, false), (4, false), (5, false), (6, true), (7, true), (8, false), (9, false)] [] [] (fun _ => default) [99, 99, 99, 0, 99, 99, 99, 99, 99, 99] [] (.c hs.g0 .n) fn fun w_9 n9 => ?_
  replace hs := hs.bl n9
  refine fmv ?_
  refine f0 ?_
  refine fmv ?_
  refine f4 ?_
  refine fmv ?_
  refine fmv ?_
  refine fl fun w_10 n10 => ?_
  replace hs := hs.bl n10
  intro K hK
  have hb := hs.b
  go_big_op
  go_fit (rDot8 HD.out (HV.out.bl stab_n hb) (HU.out.bl stab_n hb) hnv hnu (by omega) (by decide) (by decide))
  rintro e w_11 ⟨_, rfl, ⟨n_za, o_za, k_za, c_za, n_zb, o_zb, k_zb, c_zb, rfl, z1, z2⟩, hb_11⟩
  clear hb
  replace hs := hs.bl hb_11
  have Lz1 := hide (z1.lenOf (lD.out.1))
  have Lz2 := hide (z2.lenOf (lD.out.2))
  refine hK _ _ rfl ⟨hb_11, (And.intro hs.g0 trivial)⟩ ?_
  clear hK K
  refine fl fun w_12 n12 => ?_
  replace hs := hs.bl n12
  intro K hK
  have k2_12 := (((((((((kb n3).o hd4 ho4).b hb_5).b hb_6).b hb_7).b hb_8).b n9).b n10).b hb_11).b n12
  replace d1 := d1.k k2_12
  replace d2 := d2.k k2_12
  have k11_12 := kb n12
  replace z1 := z1.k k11_12
  replace z2 := z2.k k11_12
  go_big_op
  go_fit (rgSame_any (.mk' d1 d2) (.mk' (z1.zn lD.out.1) (z2.zn lD.out.2)) (by omega) (by omega))
  rintro e w_13 ⟨rfl, hb_13⟩
  replace hs := hs.bl hb_13
  refine hK _ _ rfl ⟨hb_13, (And.intro hs.g0 trivial)⟩ ?_
  clear hK K
  refine f0 ?_
  refine f0 ?_
  refine e0 hs ?_; clear hs; intro w_14 hs n14
  apply wpTail_end
  refine hK8 _ _ ?_
  refine cf ?_
  refine wp_skip ?_
  refine hK6 _ _ ?_
  refine wp_seq_k ?_
  intro K9 hK9
  refine wp_seq_k ?_
  intro K10 hK10
  refine rg [0, 1, 2, 3, 4, 5, 6, 7, 8, 9] ?_
  refine sq ?_
  refine .mv ?_
  refine sq ?_
  intro K hK
  have hb := hs.b
  go_big_op
  go_fit (rGood_any (HM.out.bl stab_n hb) hnm (by omega))
  rintro e w_15 ⟨rfl, hb_15⟩
  clear hb
  clear x y z1 z2 d1 d2
  replace hs := hs.bl hb_15
  rw [decide_eq_true H2.out]
  refine hK _ _ rfl trivial ?_
  clear hK K
  refine sq ?_
  refine .r0 ?_
  refine sq ?_
  refine .mv ?_
  refine sq ?_
  refine .mv ?_
  refine sq ?_
  refine .r0 ?_
  refine sq ?_
  refine .mv ?_
  refine sq ?_
  refine .r0 ?_
  refine sq ?_
  refine .r0 ?_
  refine sq ?_
  refine .r0 ?_
  apply wpSq_end
  refine hK10 _ _ ?_
  refine ct ?_
  refine wp_seq_k ?_
  intro K11 hK11
  refine rg [0, 1, 2, 3, 4] ?_
  refine sq ?_
  refine .mv ?_
  refine sq ?_
  refine .mv ?_
  refine sq ?_
  refine .mv ?_
  refine sq ?_
  intro K hK
  go_big_op
  go_fit (list_no 4 (by decide) rfl)
  rintro e w_16 ⟨rfl, hb_16⟩
  replace hs := hs.bl hb_16
  refine hK _ _ rfl trivial ?_
  clear hK K
  refine sq ?_
  refine .mv ?_
  apply wpSq_end
  refine hK11 _ _ ?_
  refine wp_ret ?_
  try dsimp only [Exit.then, Exit.inBlock]
  refine bodyPost_ret (v := (.bool true)) (by simp [results, Try.results6, go_sem]) rfl ?_
  exact ⟨rfl, hs.b⟩
set_option maxHeartbeats 4000000 in
set_option maxRecDepth 20000 in
theorem vectors_ebad (hv : SN 1048576 w ov V) (hu : SN 1048576 w ou U) (hm : MN 1048576 w om M) (hnv : V.length = nv) (hnu : U.length = nv) (hnm : M.length = nm) (lv : nv ≤ 1048576) (lu : nv ≤ 1048576) (lm : nm ≤ 1048576) (h2 : ¬ gd M) :
    Calls Try.prog 6 #[.slice ov nv cv, .slice ou nv cu, .slice om nm cm] w fun e w' => e = .returned (.bool true) ∧ Below w.heap.size w w' := by
  obtain ⟨L, hL⟩ : ∃ L, L = lenS nv fun i => nP (at1 V i) := ⟨_, rfl⟩
  have lL := hide (show (dig L.natAbs).length ≤ 50000000 by rw [hL]; exact bd_len hv hnv (by omega) (by decide))
  have HL := hide hL
  obtain ⟨D, hD⟩ : ∃ D, D = sumP nv fun i => mP (at1 V i) (cP (at1 U i)) := ⟨_, rfl⟩
  have lD := hide (dot_bd hD hv hu)
  have HD := hide hD
  clear hD
  have t1 : ((nv : Int) != (nv : Int)) = false := by simp
  have HV := hide hv
  have HU := hide hu
  have HM := hide hm
  have H2 := hide h2
  clear hv hu hm hL h2
  go_enter Try.func6, Try.ntmps6
  have hs := St.nil w
  refine wp_seq_k ?_
  intro K1 hK1
  refine rg [0] ?_
  refine sq ?_
  refine .mv ?_
  apply wpSq_end
  refine hK1 _ _ ?_
  refine wp_seq_k ?_
  intro K2 hK2
  refine rg [0, 1, 2, 3, 4, 5, 6, 7] ?_
  refine sq ?_
  refine .mv ?_
  refine sq ?_
  refine .mv ?_
  refine sq ?_
  intro K hK
  have hb := hs.b
  go_big_op
  go_fit (mTimes_bad (HM.out.bl stab_n hb) hnm (fun c ↦ H2.out c.1) (by omega) (by omega))
  rintro e w_1 ⟨rfl, hb_1⟩
  clear hb
  replace hs := hs.bl hb_1
  refine hK _ _ rfl trivial ?_
  clear hK K
  refine sq ?_
  refine .mv ?_
  refine sq ?_
  refine .r0 ?_
  refine sq ?_
  refine .r0 ?_
  refine sq ?_
  refine .mv ?_
  refine sq ?_
  refine .mv ?_
  apply wpSq_end
  refine hK2 _ _ ?_
  refine wp_seq_k ?_
  intro K3 hK3
  refine rg [0, 1, 2, 3, 4, 5, 6, 7, 8] ?_
  refine sq ?_
  refine .mv ?_
  refine sq ?_
  refine .mv ?_
  refine sq ?_
  intro K hK
  have hb := hs.b
  go_big_op
  go_fit (lDot2 HD.out (HV.out.bl stab_n hb) (HU.out.bl stab_n hb) hnv hnu (by omega) (by decide) (by decide))
  rintro e w_2 ⟨_, rfl, ⟨n_da, o_da, k_da, c_da, n_db, o_db, k_db, c_db, rfl, d1, d2⟩, hb_2⟩
  clear hb
  replace hs := hs.bl hb_2
  have Ld1 := hide (d1.lenOf (lD.out.1))
  have Ld2 := hide (d2.lenOf (lD.out.2))
  refine hK _ _ rfl trivial ?_
  clear hK K
  refine sq ?_
  refine .mv ?_
  refine sq ?_
  refine .r0 ?_
  refine sq ?_
  refine .r0 ?_
  refine sq ?_
  refine .al hs ?_; clear hs; intro p_b1 w_3 hs n3 kb_b1
  refine sq ?_
  refine .s4 hs.g0 (fun _ => hs.u0 kb_b1) ?_; clear hs; intro w_4 hs hd4 ho4
  refine sq ?_
  refine .mv ?_
  apply wpSq_end
  refine hK3 _ _ ?_
  refine wp_seq_k ?_
  intro K4 hK4
  refine wp_seq_k ?_
  intro K5 hK5
  refine rg [0, 1, 2, 3, 4, 5, 6, 7, 8, 9] ?_
  refine sq ?_
  intro K hK
  go_big_op
  go_fit (awake8_any _)
  rintro e w_5 ⟨rfl, hb_5⟩
  replace hs := hs.bl hb_5
  refine hK _ _ rfl trivial ?_
  clear hK K
  refine sq ?_
  refine .r0 ?_
  refine sq ?_
  refine .mv ?_
  refine sq ?_
  refine .mv ?_
  refine sq ?_
  intro K hK
  have hb := hs.b
  go_big_op
  go_fit (lLen HL.out (HV.out.bl stab_n hb) hnv (by omega) (by decide))
  rintro e w_6 ⟨v_x, rfl, x, hb_6⟩
  clear hb
  replace hs := hs.bl hb_6
  obtain ⟨n_x, o_x, k_x, c_x, rfl⟩ := x.open2
  have Lx := hide (x.lenOf (lL.out))
  refine hK _ _ rfl trivial ?_
  clear hK K
  refine sq ?_
  refine .mv ?_
  refine sq ?_
  intro K hK
  have hb := hs.b
  go_big_op
  go_fit (rLen8 HL.out (HV.out.bl stab_n hb) hnv (by omega) (by decide))
  rintro e w_7 ⟨v_y, rfl, y, hb_7⟩
  clear hb
  replace hs := hs.bl hb_7
  obtain ⟨n_y, o_y, k_y, c_y, rfl⟩ := y.open2
  have Ly := hide (y.lenOf (lL.out))
  refine hK _ _ rfl trivial ?_
  clear hK K
  refine sq ?_
  intro K hK
  have k6_7 := kb hb_7
  replace x := x.k k6_7
  go_big_op
  go_fit (rsame_zz x (y.zn lL.out) (by decide))
  rintro e w_8 ⟨rfl, hb_8⟩
  replace hs := hs.bl hb_8
  refine hK _ _ rfl trivial ?_
  clear hK K
  refine sq ?_
  refine .r0 ?_
  refine sq ?_
  refine .r0 ?_
  apply wpSq_end
  refine hK5 _ _ ?_
  refine cf ?_
  refine wp_skip ?_
  refine hK4 _ _ ?_
  refine wp_seq_k ?_
  intro K6 hK6
  refine wp_seq_k ?_
  intro K7 hK7
  refine rg [0, 1, 2, 3, 4] ?_
  refine sq ?_
  refine .mv ?_
  refine sq ?_
  refine .r0 ?_
  refine sq ?_
  refine .mv ?_
  refine sq ?_
  refine .r0 ?_
  refine sq ?_
  refine .r0 ?_
  apply wpSq_end
  refine hK7 _ _ ?_
  refine cf ?_
  refine wp_seq_k ?_
  intro K8 hK8
  refine wp_region_f4 [(0, false), (1, false), (2, false), (3, false), (4, false), (5, false), (6, true), (7, true), (8, false), (9, false)] [] [] (fun _ => default) [99, 99, 99, 0, 99, 99, 99, 99, 99, 99] [] (.c hs.g0 .n) fn fun w_9 n9 => ?_
  replace hs := hs.bl n9
  refine fmv ?_
  refine f0 ?_
  refine fmv ?_
  refine f4 ?_
  refine fmv ?_
  refine fmv ?_
  refine fl fun w_10 n10 => ?_
  replace hs := hs.bl n10
  intro K hK
  have hb := hs.b
  go_big_op
  go_fit (rDot8 HD.out (HV.out.bl stab_n hb) (HU.out.bl stab_n hb) hnv hnu (by omega) (by decide) (by decide))
  rintro e w_11 ⟨_, rfl, ⟨n_za, o_za, k_za, c_za, n_zb, o_zb, k_zb, c_zb, rfl, z1, z2⟩, hb_11⟩
  clear hb
  replace hs := hs.bl hb_11
  have Lz1 := hide (z1.lenOf (lD.out.1))
  have Lz2 := hide (z2.lenOf (lD.out.2))
  refine hK _ _ rfl ⟨hb_11, (And.intro hs.g0 trivial)⟩ ?_
  clear hK K
  refine fl fun w_12 n12 => ?_
  replace hs := hs.bl n12
  intro K hK
  have k2_12 := (((((((((kb n3).o hd4 ho4).b hb_5).b hb_6).b hb_7).b hb_8).b n9).b n10).b hb_11).b n12
  replace d1 := d1.k k2_12
  replace d2 := d2.k k2_12
  have k11_12 := kb n12
  replace z1 := z1.k k11_12
  replace z2 := z2.k k11_12
  go_big_op
  go_fit (rgSame_any (.mk' d1 d2) (.mk' (z1.zn lD.out.1) (z2.zn lD.out.2)) (by omega) (by omega))
  rintro e w_13 ⟨rfl, hb_13⟩
  replace hs := hs.bl hb_13
  refine hK _ _ rfl ⟨hb_13, (And.intro hs.g0 trivial)⟩ ?_
  clear hK K
  refine f0 ?_
  refine f0 ?_
  refine e0 hs ?_; clear hs; intro w_14 hs n14
  apply wpTail_end
  refine hK8 _ _ ?_
  refine cf ?_
  refine wp_skip ?_
  refine hK6 _ _ ?_
  refine wp_seq_k ?_
  intro K9 hK9
  refine wp_seq_k ?_
  intro K10 hK10
  refine rg [0, 1, 2, 3, 4, 5, 6, 7, 8, 9] ?_
  refine sq ?_
  refine .mv ?_
  refine sq ?_
  intro K hK
  have hb := hs.b
  go_big_op
  go_fit (rGood_any (HM.out.bl stab_n hb) hnm (by omega))
  rintro e w_15 ⟨rfl, hb_15⟩
  clear hb
  clear x y z1 z2 d1 d2
  replace hs := hs.bl hb_15
  rw [decide_eq_false H2.out]
  refine hK _ _ rfl trivial ?_
  clear hK K
  refine sq ?_
  refine .r0 ?_
  refine sq ?_
  refine .mv ?_
  refine sk ?_
  refine sk ?_
  refine sk ?_
  refine sk ?_
  refine sk ?_
  refine sq ?_
  refine .r0 ?_
  apply wpSq_end
  refine hK10 _ _ ?_
  refine ct ?_
  refine wp_seq_k ?_
  intro K11 hK11
  refine rg [0, 1, 2, 3, 4] ?_
  refine sq ?_
  refine .mv ?_
  refine sq ?_
  refine .mv ?_
  refine sq ?_
  refine .mv ?_
  refine sq ?_
  intro K hK
  go_big_op
  go_fit (list_no 4 (by decide) rfl)
  rintro e w_16 ⟨rfl, hb_16⟩
  replace hs := hs.bl hb_16
  refine hK _ _ rfl trivial ?_
  clear hK K
  refine sq ?_
  refine .mv ?_
  apply wpSq_end
  refine hK11 _ _ ?_
  refine wp_ret ?_
  try dsimp only [Exit.then, Exit.inBlock]
  refine bodyPost_ret (v := (.bool true)) (by simp [results, Try.results6, go_sem]) rfl ?_
  exact ⟨rfl, hs.b⟩
set_option maxHeartbeats 4000000 in
set_option maxRecDepth 20000 in
theorem vectors_nok (hv : SN 1048576 w ov V) (hu : SN 1048576 w ou U) (hm : MN 1048576 w om M) (hnv : V.length = nv) (hnu : U.length = nu) (hnm : M.length = nv) (lv : nv ≤ 1048576) (lu : nu ≤ 1048576) (lm : nv ≤ 1048576) (h1 : nv ≠ nu) (h2 : gd M) :
    Calls Try.prog 6 #[.slice ov nv cv, .slice ou nu cu, .slice om nv cm] w fun e w' => e = .returned (.bool true) ∧ Below w.heap.size w w' := by
  obtain ⟨L, hL⟩ : ∃ L, L = lenS nv fun i => nP (at1 V i) := ⟨_, rfl⟩
  have lL := hide (show (dig L.natAbs).length ≤ 50000000 by rw [hL]; exact bd_len hv hnv (by omega) (by decide))
  have HL := hide hL
  have t1 : ((nv : Int) != (nu : Int)) = true := bne_iff_ne.2 (by omega)
  obtain ⟨k, hk⟩ : ∃ k, wd M = k := ⟨_, rfl⟩
  have l64 : nv ≤ 64 := by have := h2.1; omega
  have k64 : k ≤ 64 := by have := h2.2.1; omega
  have HK := hide hk
  have BT := hide (rwT_bd (i := nv) (k := k) hv.bd hm.bd)
  clear hk
  have t2 : ((nv : Int) != (nv : Int)) = false := by simp
  have HV := hide hv
  have HU := hide hu
  have HM := hide hm
  have H2 := hide h2
  clear hv hu hm hL h2
  have H1 := hide h1
  clear h1
  go_enter Try.func6, Try.ntmps6
  have hs := St.nil w
  refine wp_seq_k ?_
  intro K1 hK1
  refine rg [0] ?_
  refine sq ?_
  refine .mv ?_
  apply wpSq_end
  refine hK1 _ _ ?_
  refine wp_seq_k ?_
  intro K2 hK2
  refine rg [0, 1, 2, 3, 4, 5, 6, 7] ?_
  refine sq ?_
  refine .mv ?_
  refine sq ?_
  refine .mv ?_
  refine sq ?_
  intro K hK
  have hb := hs.b
  go_big_op
  go_fit (mTimes_ok (HV.out.bl stab_n hb) (HM.out.bl stab_n hb) hnv hnm H2.out HK.out (by decide) (by decide))
  rintro e w_1 ⟨o_T, c_T, xs_T, rfl, L_T, d_T, hb_1⟩
  clear hb
  replace hs := hs.la hb_1 L_T
  refine hK _ _ rfl trivial ?_
  clear hK K
  refine sq ?_
  refine .mv ?_
  refine sq ?_
  refine .r0 ?_
  refine sq ?_
  refine .r0 ?_
  refine sq ?_
  refine .mv ?_
  refine sq ?_
  refine .mv ?_
  apply wpSq_end
  refine hK2 _ _ ?_
  refine wp_seq_k ?_
  intro K3 hK3
  refine rg [0, 1, 2, 3, 4, 5, 6, 7, 8] ?_
  refine sq ?_
  refine .mv ?_
  refine sq ?_
  refine .mv ?_
  refine sq ?_
  intro K hK
  go_big_op
  go_fit (mDot_bad H1.out (by omega) (by omega))
  rintro e w_2 ⟨rfl, hb_2⟩
  replace hs := hs.bl hb_2
  refine hK _ _ rfl trivial ?_
  clear hK K
  refine sq ?_
  refine .mv ?_
  refine sq ?_
  refine .r0 ?_
  refine sq ?_
  refine .r0 ?_
  refine sq ?_
  refine .al hs ?_; clear hs; intro p_b1 w_3 hs n3 kb_b1
  refine sq ?_
  refine .s4 hs.g0 (fun _ => hs.u0 kb_b1) ?_; clear hs; intro w_4 hs hd4 ho4
  refine sq ?_
  refine .mv ?_
  apply wpSq_end
  refine hK3 _ _ ?_
  refine wp_seq_k ?_
  intro K4 hK4
  refine wp_seq_k ?_
  intro K5 hK5
  refine rg [0, 1, 2, 3, 4, 5, 6, 7, 8, 9] ?_
  refine sq ?_
  intro K hK
  go_big_op
  go_fit (awake8_any _)
  rintro e w_5 ⟨rfl, hb_5⟩
  replace hs := hs.bl hb_5
  refine hK _ _ rfl trivial ?_
  clear hK K
  refine sq ?_
  refine .r0 ?_
  refine sq ?_
  refine .mv ?_
  refine sq ?_
  refine .mv ?_
  refine sq ?_
  intro K hK
  have hb := hs.b
  go_big_op
  go_fit (lLen HL.out (HV.out.bl stab_n hb) hnv (by omega) (by decide))
  rintro e w_6 ⟨v_x, rfl, x, hb_6⟩
  clear hb
  replace hs := hs.bl hb_6
  obtain ⟨n_x, o_x, k_x, c_x, rfl⟩ := x.open2
  have Lx := hide (x.lenOf (lL.out))
  refine hK _ _ rfl trivial ?_
  clear hK K
  refine sq ?_
  refine .mv ?_
  refine sq ?_
  intro K hK
  have hb := hs.b
  go_big_op
  go_fit (rLen8 HL.out (HV.out.bl stab_n hb) hnv (by omega) (by decide))
  rintro e w_7 ⟨v_y, rfl, y, hb_7⟩
  clear hb
  replace hs := hs.bl hb_7
  obtain ⟨n_y, o_y, k_y, c_y, rfl⟩ := y.open2
  have Ly := hide (y.lenOf (lL.out))
  refine hK _ _ rfl trivial ?_
  clear hK K
  refine sq ?_
  intro K hK
  have k6_7 := kb hb_7
  replace x := x.k k6_7
  go_big_op
  go_fit (rsame_zz x (y.zn lL.out) (by decide))
  rintro e w_8 ⟨rfl, hb_8⟩
  replace hs := hs.bl hb_8
  refine hK _ _ rfl trivial ?_
  clear hK K
  refine sq ?_
  refine .r0 ?_
  refine sq ?_
  refine .r0 ?_
  apply wpSq_end
  refine hK5 _ _ ?_
  refine cf ?_
  refine wp_skip ?_
  refine hK4 _ _ ?_
  refine wp_seq_k ?_
  intro K6 hK6
  refine wp_seq_k ?_
  intro K7 hK7
  refine rg [0, 1, 2, 3, 4] ?_
  refine sq ?_
  refine .mv ?_
  refine sq ?_
  refine .r0 ?_
  refine sq ?_
  refine .mv ?_
  refine sq ?_
  refine .r0 ?_
  refine sq ?_
  refine .r0 ?_
  apply wpSq_end
  refine hK7 _ _ ?_
  refine ct ?_
  refine wp_seq_k ?_
  intro K8 hK8
  refine rg [0, 1, 2, 3, 4, 5, 6] ?_
  refine sq ?_
  refine .mv ?_
  refine sq ?_
  refine .r0 ?_
  refine sq ?_
  refine .mv ?_
  refine sq ?_
  refine .r4 hs.g0.f4 ?_
  refine sq ?_
  intro K hK
  go_big_op
  go_fit (rgZero8 _)
  rintro e w_9 ⟨rfl, hb_9⟩
  replace hs := hs.bl hb_9
  refine hK _ _ rfl trivial ?_
  clear hK K
  refine sq ?_
  refine .r0 ?_
  refine sq ?_
  refine .r0 ?_
  apply wpSq_end
  refine hK8 _ _ ?_
  refine cf ?_
  refine wp_skip ?_
  refine hK6 _ _ ?_
  refine wp_seq_k ?_
  intro K9 hK9
  refine wp_seq_k ?_
  intro K10 hK10
  refine rg [0, 1, 2, 3, 4, 5, 6, 7, 8, 9] ?_
  refine sq ?_
  refine .mv ?_
  refine sq ?_
  intro K hK
  have hb := hs.b
  go_big_op
  go_fit (rGood_any (HM.out.bl stab_n hb) hnm (by omega))
  rintro e w_10 ⟨rfl, hb_10⟩
  clear hb
  replace hs := hs.bl hb_10
  rw [decide_eq_true H2.out]
  refine hK _ _ rfl trivial ?_
  clear hK K
  refine sq ?_
  refine .r0 ?_
  refine sq ?_
  refine .mv ?_
  refine sq ?_
  refine .mv ?_
  refine sq ?_
  refine .r0 ?_
  refine sq ?_
  refine .mv ?_
  refine sq ?_
  refine .r0 ?_
  refine sq ?_
  refine .r0 ?_
  refine sq ?_
  refine .r0 ?_
  apply wpSq_end
  refine hK10 _ _ ?_
  refine cf ?_
  refine wp_skip ?_
  refine hK9 _ _ ?_
  refine wp_seq_k ?_
  intro K11 hK11
  refine rg [0, 1, 2, 3, 4, 5, 6, 7, 8] ?_
  refine sq ?_
  refine .mv ?_
  refine sq ?_
  refine .mv ?_
  refine sq ?_
  refine .mv ?_
  refine sq ?_
  refine .mv ?_
  refine sq ?_
  refine .mv ?_
  refine sq ?_
  intro K hK
  have hb := hs.b
  go_big_op
  go_fit (rCols_any (HM.out.bl stab_n hb) hnm HK.out)
  rintro e w_11 ⟨rfl, hb_11⟩
  clear hb
  replace hs := hs.bl hb_11
  refine hK _ _ rfl trivial ?_
  clear hK K
  refine sq ?_
  intro K hK
  have hb := hs.b
  go_big_op
  go_fit (rTimes8 (HV.out.bl stab_n hb) (HM.out.bl stab_n hb) hnv hnm H2.out HK.out (by decide) (by decide))
  rintro e w_12 ⟨o_R, c_R, rfl, m_R, hb_12⟩
  clear hb
  replace hs := hs.bl hb_12
  refine hK _ _ rfl trivial ?_
  clear hK K
  refine sq ?_
  intro K hK
  have k1_12 := ((((((((((kb hb_2).b n3).o hd4 ho4).b hb_5).b hb_6).b hb_7).b hb_8).b hb_9).b hb_10).b hb_11).b hb_12
  replace d_T := d_T.k k1_12
  go_big_op
  go_fit (list_yes (Lst.sc hs.1.2.1.1 d_T).2 (SV.sn m_R BT.out) rwT_len (by omega) (by omega))
  rintro e w_13 ⟨rfl, hb_13⟩
  replace m_R := m_R.bl hb_13; replace hs := hs.bl hb_13
  refine hK _ _ rfl trivial ?_
  clear hK K
  refine sq ?_
  refine .mv ?_
  apply wpSq_end
  refine hK11 _ _ ?_
  refine wp_ret ?_
  try dsimp only [Exit.then, Exit.inBlock]
  refine bodyPost_ret (v := (.bool true)) (by simp [results, Try.results6, go_sem]) rfl ?_
  exact ⟨rfl, hs.b⟩
set_option maxHeartbeats 4000000 in
set_option maxRecDepth 20000 in
theorem vectors_nne (hv : SN 1048576 w ov V) (hu : SN 1048576 w ou U) (hm : MN 1048576 w om M) (hnv : V.length = nv) (hnu : U.length = nu) (hnm : M.length = nm) (lv : nv ≤ 1048576) (lu : nu ≤ 1048576) (lm : nm ≤ 1048576) (h1 : nv ≠ nu) (h2 : gd M) (h3 : nv ≠ nm) :
    Calls Try.prog 6 #[.slice ov nv cv, .slice ou nu cu, .slice om nm cm] w fun e w' => e = .returned (.bool true) ∧ Below w.heap.size w w' := by
  obtain ⟨L, hL⟩ : ∃ L, L = lenS nv fun i => nP (at1 V i) := ⟨_, rfl⟩
  have lL := hide (show (dig L.natAbs).length ≤ 50000000 by rw [hL]; exact bd_len hv hnv (by omega) (by decide))
  have HL := hide hL
  have t1 : ((nv : Int) != (nu : Int)) = true := bne_iff_ne.2 (by omega)
  have t2 : ((nv : Int) != (nm : Int)) = true := bne_iff_ne.2 (by omega)
  have HV := hide hv
  have HU := hide hu
  have HM := hide hm
  have H2 := hide h2
  clear hv hu hm hL h2
  have H3 := hide h3
  clear h3
  have H1 := hide h1
  clear h1
  go_enter Try.func6, Try.ntmps6
  have hs := St.nil w
  refine wp_seq_k ?_
  intro K1 hK1
  refine rg [0] ?_
  refine sq ?_
  refine .mv ?_
  apply wpSq_end
  refine hK1 _ _ ?_
  refine wp_seq_k ?_
  intro K2 hK2
  refine rg [0, 1, 2, 3, 4, 5, 6, 7] ?_
  refine sq ?_
  refine .mv ?_
  refine sq ?_
  refine .mv ?_
  refine sq ?_
  intro K hK
  have hb := hs.b
  go_big_op
  go_fit (mTimes_bad (HM.out.bl stab_n hb) hnm (fun c ↦ H3.out c.2) (by omega) (by omega))
  rintro e w_1 ⟨rfl, hb_1⟩
  clear hb
  replace hs := hs.bl hb_1
  refine hK _ _ rfl trivial ?_
  clear hK K
  refine sq ?_
  refine .mv ?_
  refine sq ?_
  refine .r0 ?_
  refine sq ?_
  refine .r0 ?_
  refine sq ?_
  refine .mv ?_
  refine sq ?_
  refine .mv ?_
  apply wpSq_end
  refine hK2 _ _ ?_
  refine wp_seq_k ?_
  intro K3 hK3
  refine rg [0, 1, 2, 3, 4, 5, 6, 7, 8] ?_
  refine sq ?_
  refine .mv ?_
  refine sq ?_
  refine .mv ?_
  refine sq ?_
  intro K hK
  go_big_op
  go_fit (mDot_bad H1.out (by omega) (by omega))
  rintro e w_2 ⟨rfl, hb_2⟩
  replace hs := hs.bl hb_2
  refine hK _ _ rfl trivial ?_
  clear hK K
  refine sq ?_
  refine .mv ?_
  refine sq ?_
  refine .r0 ?_
  refine sq ?_
  refine .r0 ?_
  refine sq ?_
  refine .al hs ?_; clear hs; intro p_b1 w_3 hs n3 kb_b1
  refine sq ?_
  refine .s4 hs.g0 (fun _ => hs.u0 kb_b1) ?_; clear hs; intro w_4 hs hd4 ho4
  refine sq ?_
  refine .mv ?_
  apply wpSq_end
  refine hK3 _ _ ?_
  refine wp_seq_k ?_
  intro K4 hK4
  refine wp_seq_k ?_
  intro K5 hK5
  refine rg [0, 1, 2, 3, 4, 5, 6, 7, 8, 9] ?_
  refine sq ?_
  intro K hK
  go_big_op
  go_fit (awake8_any _)
  rintro e w_5 ⟨rfl, hb_5⟩
  replace hs := hs.bl hb_5
  refine hK _ _ rfl trivial ?_
  clear hK K
  refine sq ?_
  refine .r0 ?_
  refine sq ?_
  refine .mv ?_
  refine sq ?_
  refine .mv ?_
  refine sq ?_
  intro K hK
  have hb := hs.b
  go_big_op
  go_fit (lLen HL.out (HV.out.bl stab_n hb) hnv (by omega) (by decide))
  rintro e w_6 ⟨v_x, rfl, x, hb_6⟩
  clear hb
  replace hs := hs.bl hb_6
  obtain ⟨n_x, o_x, k_x, c_x, rfl⟩ := x.open2
  have Lx := hide (x.lenOf (lL.out))
  refine hK _ _ rfl trivial ?_
  clear hK K
  refine sq ?_
  refine .mv ?_
  refine sq ?_
  intro K hK
  have hb := hs.b
  go_big_op
  go_fit (rLen8 HL.out (HV.out.bl stab_n hb) hnv (by omega) (by decide))
  rintro e w_7 ⟨v_y, rfl, y, hb_7⟩
  clear hb
  replace hs := hs.bl hb_7
  obtain ⟨n_y, o_y, k_y, c_y, rfl⟩ := y.open2
  have Ly := hide (y.lenOf (lL.out))
  refine hK _ _ rfl trivial ?_
  clear hK K
  refine sq ?_
  intro K hK
  have k6_7 := kb hb_7
  replace x := x.k k6_7
  go_big_op
  go_fit (rsame_zz x (y.zn lL.out) (by decide))
  rintro e w_8 ⟨rfl, hb_8⟩
  replace hs := hs.bl hb_8
  refine hK _ _ rfl trivial ?_
  clear hK K
  refine sq ?_
  refine .r0 ?_
  refine sq ?_
  refine .r0 ?_
  apply wpSq_end
  refine hK5 _ _ ?_
  refine cf ?_
  refine wp_skip ?_
  refine hK4 _ _ ?_
  refine wp_seq_k ?_
  intro K6 hK6
  refine wp_seq_k ?_
  intro K7 hK7
  refine rg [0, 1, 2, 3, 4] ?_
  refine sq ?_
  refine .mv ?_
  refine sq ?_
  refine .r0 ?_
  refine sq ?_
  refine .mv ?_
  refine sq ?_
  refine .r0 ?_
  refine sq ?_
  refine .r0 ?_
  apply wpSq_end
  refine hK7 _ _ ?_
  refine ct ?_
  refine wp_seq_k ?_
  intro K8 hK8
  refine rg [0, 1, 2, 3, 4, 5, 6] ?_
  refine sq ?_
  refine .mv ?_
  refine sq ?_
  refine .r0 ?_
  refine sq ?_
  refine .mv ?_
  refine sq ?_
  refine .r4 hs.g0.f4 ?_
  refine sq ?_
  intro K hK
  go_big_op
  go_fit (rgZero8 _)
  rintro e w_9 ⟨rfl, hb_9⟩
  replace hs := hs.bl hb_9
  refine hK _ _ rfl trivial ?_
  clear hK K
  refine sq ?_
  refine .r0 ?_
  refine sq ?_
  refine .r0 ?_
  apply wpSq_end
  refine hK8 _ _ ?_
  refine cf ?_
  refine wp_skip ?_
  refine hK6 _ _ ?_
  refine wp_seq_k ?_
  intro K9 hK9
  refine wp_seq_k ?_
  intro K10 hK10
  refine rg [0, 1, 2, 3, 4, 5, 6, 7, 8, 9] ?_
  refine sq ?_
  refine .mv ?_
  refine sq ?_
  intro K hK
  have hb := hs.b
  go_big_op
  go_fit (rGood_any (HM.out.bl stab_n hb) hnm (by omega))
  rintro e w_10 ⟨rfl, hb_10⟩
  clear hb
  replace hs := hs.bl hb_10
  rw [decide_eq_true H2.out]
  refine hK _ _ rfl trivial ?_
  clear hK K
  refine sq ?_
  refine .r0 ?_
  refine sq ?_
  refine .mv ?_
  refine sq ?_
  refine .mv ?_
  refine sq ?_
  refine .r0 ?_
  refine sq ?_
  refine .mv ?_
  refine sq ?_
  refine .r0 ?_
  refine sq ?_
  refine .r0 ?_
  refine sq ?_
  refine .r0 ?_
  apply wpSq_end
  refine hK10 _ _ ?_
  refine ct ?_
  refine wp_seq_k ?_
  intro K11 hK11
  refine rg [0, 1, 2, 3, 4] ?_
  refine sq ?_
  refine .mv ?_
  refine sq ?_
  refine .mv ?_
  refine sq ?_
  refine .mv ?_
  refine sq ?_
  intro K hK
  go_big_op
  go_fit (list_no 4 (by decide) rfl)
  rintro e w_11 ⟨rfl, hb_11⟩
  replace hs := hs.bl hb_11
  refine hK _ _ rfl trivial ?_
  clear hK K
  refine sq ?_
  refine .mv ?_
  apply wpSq_end
  refine hK11 _ _ ?_
  refine wp_ret ?_
  try dsimp only [Exit.then, Exit.inBlock]
  refine bodyPost_ret (v := (.bool true)) (by simp [results, Try.results6, go_sem]) rfl ?_
  exact ⟨rfl, hs.b⟩
set_option maxHeartbeats 4000000 in
set_option maxRecDepth 20000 in
theorem vectors_nbad (hv : SN 1048576 w ov V) (hu : SN 1048576 w ou U) (hm : MN 1048576 w om M) (hnv : V.length = nv) (hnu : U.length = nu) (hnm : M.length = nm) (lv : nv ≤ 1048576) (lu : nu ≤ 1048576) (lm : nm ≤ 1048576) (h1 : nv ≠ nu) (h2 : ¬ gd M) :
    Calls Try.prog 6 #[.slice ov nv cv, .slice ou nu cu, .slice om nm cm] w fun e w' => e = .returned (.bool true) ∧ Below w.heap.size w w' := by
  obtain ⟨L, hL⟩ : ∃ L, L = lenS nv fun i => nP (at1 V i) := ⟨_, rfl⟩
  have lL := hide (show (dig L.natAbs).length ≤ 50000000 by rw [hL]; exact bd_len hv hnv (by omega) (by decide))
  have HL := hide hL
  have t1 : ((nv : Int) != (nu : Int)) = true := bne_iff_ne.2 (by omega)
  have HV := hide hv
  have HU := hide hu
  have HM := hide hm
  have H2 := hide h2
  clear hv hu hm hL h2
  have H1 := hide h1
  clear h1
  go_enter Try.func6, Try.ntmps6
  have hs := St.nil w
  refine wp_seq_k ?_
  intro K1 hK1
  refine rg [0] ?_
  refine sq ?_
  refine .mv ?_
  apply wpSq_end
  refine hK1 _ _ ?_
  refine wp_seq_k ?_
  intro K2 hK2
  refine rg [0, 1, 2, 3, 4, 5, 6, 7] ?_
  refine sq ?_
  refine .mv ?_
  refine sq ?_
  refine .mv ?_
  refine sq ?_
  intro K hK
  have hb := hs.b
  go_big_op
  go_fit (mTimes_bad (HM.out.bl stab_n hb) hnm (fun c ↦ H2.out c.1) (by omega) (by omega))
  rintro e w_1 ⟨rfl, hb_1⟩
  clear hb
  replace hs := hs.bl hb_1
  refine hK _ _ rfl trivial ?_
  clear hK K
  refine sq ?_
  refine .mv ?_
  refine sq ?_
  refine .r0 ?_
  refine sq ?_
  refine .r0 ?_
  refine sq ?_
  refine .mv ?_
  refine sq ?_
  refine .mv ?_
  apply wpSq_end
  refine hK2 _ _ ?_
  refine wp_seq_k ?_
  intro K3 hK3
  refine rg [0, 1, 2, 3, 4, 5, 6, 7, 8] ?_
  refine sq ?_
  refine .mv ?_
  refine sq ?_
  refine .mv ?_
  refine sq ?_
  intro K hK
  go_big_op
  go_fit (mDot_bad H1.out (by omega) (by omega))
  rintro e w_2 ⟨rfl, hb_2⟩
  replace hs := hs.bl hb_2
  refine hK _ _ rfl trivial ?_
  clear hK K
  refine sq ?_
  refine .mv ?_
  refine sq ?_
  refine .r0 ?_
  refine sq ?_
  refine .r0 ?_
  refine sq ?_
  refine .al hs ?_; clear hs; intro p_b1 w_3 hs n3 kb_b1
  refine sq ?_
  refine .s4 hs.g0 (fun _ => hs.u0 kb_b1) ?_; clear hs; intro w_4 hs hd4 ho4
  refine sq ?_
  refine .mv ?_
  apply wpSq_end
  refine hK3 _ _ ?_
  refine wp_seq_k ?_
  intro K4 hK4
  refine wp_seq_k ?_
  intro K5 hK5
  refine rg [0, 1, 2, 3, 4, 5, 6, 7, 8, 9] ?_
  refine sq ?_
  intro K hK
  go_big_op
  go_fit (awake8_any _)
  rintro e w_5 ⟨rfl, hb_5⟩
  replace hs := hs.bl hb_5
  refine hK _ _ rfl trivial ?_
  clear hK K
  refine sq ?_
  refine .r0 ?_
  refine sq ?_
  refine .mv ?_
  refine sq ?_
  refine .mv ?_
  refine sq ?_
  intro K hK
  have hb := hs.b
  go_big_op
  go_fit (lLen HL.out (HV.out.bl stab_n hb) hnv (by omega) (by decide))
  rintro e w_6 ⟨v_x, rfl, x, hb_6⟩
  clear hb
  replace hs := hs.bl hb_6
  obtain ⟨n_x, o_x, k_x, c_x, rfl⟩ := x.open2
  have Lx := hide (x.lenOf (lL.out))
  refine hK _ _ rfl trivial ?_
  clear hK K
  refine sq ?_
  refine .mv ?_
  refine sq ?_
  intro K hK
  have hb := hs.b
  go_big_op
  go_fit (rLen8 HL.out (HV.out.bl stab_n hb) hnv (by omega) (by decide))
  rintro e w_7 ⟨v_y, rfl, y, hb_7⟩
  clear hb
  replace hs := hs.bl hb_7
  obtain ⟨n_y, o_y, k_y, c_y, rfl⟩ := y.open2
  have Ly := hide (y.lenOf (lL.out))
  refine hK _ _ rfl trivial ?_
  clear hK K
  refine sq ?_
  intro K hK
  have k6_7 := kb hb_7
  replace x := x.k k6_7
  go_big_op
  go_fit (rsame_zz x (y.zn lL.out) (by decide))
  rintro e w_8 ⟨rfl, hb_8⟩
  replace hs := hs.bl hb_8
  refine hK _ _ rfl trivial ?_
  clear hK K
  refine sq ?_
  refine .r0 ?_
  refine sq ?_
  refine .r0 ?_
  apply wpSq_end
  refine hK5 _ _ ?_
  refine cf ?_
  refine wp_skip ?_
  refine hK4 _ _ ?_
  refine wp_seq_k ?_
  intro K6 hK6
  refine wp_seq_k ?_
  intro K7 hK7
  refine rg [0, 1, 2, 3, 4] ?_
  refine sq ?_
  refine .mv ?_
  refine sq ?_
  refine .r0 ?_
  refine sq ?_
  refine .mv ?_
  refine sq ?_
  refine .r0 ?_
  refine sq ?_
  refine .r0 ?_
  apply wpSq_end
  refine hK7 _ _ ?_
  refine ct ?_
  refine wp_seq_k ?_
  intro K8 hK8
  refine rg [0, 1, 2, 3, 4, 5, 6] ?_
  refine sq ?_
  refine .mv ?_
  refine sq ?_
  refine .r0 ?_
  refine sq ?_
  refine .mv ?_
  refine sq ?_
  refine .r4 hs.g0.f4 ?_
  refine sq ?_
  intro K hK
  go_big_op
  go_fit (rgZero8 _)
  rintro e w_9 ⟨rfl, hb_9⟩
  replace hs := hs.bl hb_9
  refine hK _ _ rfl trivial ?_
  clear hK K
  refine sq ?_
  refine .r0 ?_
  refine sq ?_
  refine .r0 ?_
  apply wpSq_end
  refine hK8 _ _ ?_
  refine cf ?_
  refine wp_skip ?_
  refine hK6 _ _ ?_
  refine wp_seq_k ?_
  intro K9 hK9
  refine wp_seq_k ?_
  intro K10 hK10
  refine rg [0, 1, 2, 3, 4, 5, 6, 7, 8, 9] ?_
  refine sq ?_
  refine .mv ?_
  refine sq ?_
  intro K hK
  have hb := hs.b
  go_big_op
  go_fit (rGood_any (HM.out.bl stab_n hb) hnm (by omega))
  rintro e w_10 ⟨rfl, hb_10⟩
  clear hb
  replace hs := hs.bl hb_10
  rw [decide_eq_false H2.out]
  refine hK _ _ rfl trivial ?_
  clear hK K
  refine sq ?_
  refine .r0 ?_
  refine sq ?_
  refine .mv ?_
  refine sk ?_
  refine sk ?_
  refine sk ?_
  refine sk ?_
  refine sk ?_
  refine sq ?_
  refine .r0 ?_
  apply wpSq_end
  refine hK10 _ _ ?_
  refine ct ?_
  refine wp_seq_k ?_
  intro K11 hK11
  refine rg [0, 1, 2, 3, 4] ?_
  refine sq ?_
  refine .mv ?_
  refine sq ?_
  refine .mv ?_
  refine sq ?_
  refine .mv ?_
  refine sq ?_
  intro K hK
  go_big_op
  go_fit (list_no 4 (by decide) rfl)
  rintro e w_11 ⟨rfl, hb_11⟩
  replace hs := hs.bl hb_11
  refine hK _ _ rfl trivial ?_
  clear hK K
  refine sq ?_
  refine .mv ?_
  apply wpSq_end
  refine hK11 _ _ ?_
  refine wp_ret ?_
  try dsimp only [Exit.then, Exit.inBlock]
  refine bodyPost_ret (v := (.bool true)) (by simp [results, Try.results6, go_sem]) rfl ?_
  exact ⟨rfl, hs.b⟩
theorem walk_GmatVectors (w : World) (ov : Option Addr) (nv cv : Nat) (V : List (Int × Int)) (hv : SN 1048576 w ov V) (hnv : V.length = nv) (lv : nv ≤ 1048576)
    (ou : Option Addr) (nu cu : Nat) (U : List (Int × Int)) (hu : SN 1048576 w ou U) (hnu : U.length = nu) (lu : nu ≤ 1048576)
    (om : Option Addr) (nm cm : Nat) (M : List (List (Int × Int))) (hm : MN 1048576 w om M) (hnm : M.length = nm) (lm : nm ≤ 1048576) :
    Calls Try.prog 6 #[.slice ov nv cv, .slice ou nu cu, .slice om nm cm] w fun e w' => e = .returned (.bool true) ∧ Below w.heap.size w w' := by
  by_cases h1 : nv = nu
  · subst h1
    by_cases h2 : gd M
    · by_cases h3 : nv = nm
      · subst h3; exact vectors_eok hv hu hm hnv hnu hnm lv lu lm h2
      · exact vectors_ene hv hu hm hnv hnu hnm lv lu lm h2 h3
    · exact vectors_ebad hv hu hm hnv hnu hnm lv lu lm h2
  · by_cases h2 : gd M
    · by_cases h3 : nv = nm
      · subst h3; exact vectors_nok hv hu hm hnv hnu hnm lv lu lm h1 h2
      · exact vectors_nne hv hu hm hnv hnu hnm lv lu lm h1 h2 h3
    · exact vectors_nbad hv hu hm hnv hnu hnm lv lu lm h1 h2
end
end Go.Proofs.Ytajmgjgobgchjaa

