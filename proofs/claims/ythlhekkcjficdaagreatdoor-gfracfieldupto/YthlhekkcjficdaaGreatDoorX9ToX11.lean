/- gfrac: the law's first look. -/
import Derived.Test.YthlhekkcjficdaaGreatDoorX5ToX8

namespace Go.Proofs.YthlhekkcjficdaaGreatDoor
open Go Go.RowKit Dig
set_option linter.unusedVariables false
theorem qts_12 : qts 1 2 = ⟨#[49, 47, 50]⟩ := by
  have h1 : qN 1 2 = 1 := by decide
  have h2 : qD 1 2 = 2 := by decide
  unfold qts
  rw [h1, h2, if_neg (by decide)]
  unfold zts ztx
  rw [if_neg (by decide), if_neg (by decide), show Int.natAbs 1 = 1 from rfl, show Int.natAbs 2 = 2 from rfl, dec1 1 (by decide), dec1 2 (by decide)]
  rfl
theorem qts_34 : qts (-3) 4 = ⟨#[45, 51, 47, 52]⟩ := by
  have h1 : qN (-3) 4 = -3 := by decide
  have h2 : qD (-3) 4 = 4 := by decide
  unfold qts
  rw [h1, h2, if_neg (by decide)]
  unfold zts ztx
  rw [if_pos (by decide), if_neg (by decide), show Int.natAbs (-3) = 3 from rfl, show Int.natAbs 4 = 4 from rfl, dec1 3 (by decide), dec1 4 (by decide)]
  rfl
section
variable {w : World} {va vb : Value} {l m k n : Nat}
set_option maxHeartbeats 4000000 in
set_option maxRecDepth 20000 in
theorem gfText_a (ha : CN w va 1 l 2 m (-3) k 4 n) (hl : l ≤ 10000000) (hm : m ≤ 10000000) (hk : k ≤ 10000000) (hn : n ≤ 10000000) (htab : Lib.TabIs Tryz.prog w p10 .u64 Lib.pow10Tab) :
    Calls Tryz.prog 22 #[va] w fun e w' => e = .returned (.tuple #[.string ⟨#[49, 47, 50, 45, 51, 47, 52, 105]⟩, .int .i64 0]) ∧ Below w.heap.size w w' := by
  have htabs := Lib.tabBelow_of_tabIs htab
  have HR := hide qts_12
  have HI := hide qts_34
  have HM := hide (show minusB ⟨#[45, 51, 47, 52]⟩ = true from by decide +kernel)
  obtain ⟨n_0a, o_0a, k_0a, c_0a, n_0b, o_0b, k_0b, c_0b, n_0c, o_0c, k_0c, c_0c, n_0d, o_0d, k_0d, c_0d, rfl, ha1, ha2, ha3, ha4⟩ := ha
  go_enter Tryz.func22, Tryz.ntmps22
  have hs := St.nil w
  refine wp_seq_k ?_
  intro K1 hK1
  refine rg [0, 1, 2] ?_
  refine sq ?_
  refine .al hs ?_; clear hs; intro p_b1 w_1 hs n1 kb_b1
  refine sq ?_
  refine .mv ?_
  refine sq ?_
  refine .mv ?_
  apply wpSq_end
  refine hK1 _ _ ?_
  refine wp_seq_k ?_
  intro K2 hK2
  refine rg [0, 1, 2, 3, 4, 5, 6, 7, 8] ?_
  refine sq ?_
  refine .r0 ?_
  refine sq ?_
  intro K hK
  have x_b1 := hs.g0
  have k0_1 := kb n1
  replace ha1 := ha1.k k0_1
  replace ha2 := ha2.k k0_1
  replace ha3 := ha3.k k0_1
  replace ha4 := ha4.k k0_1
  have hb := hs.b
  go_big_op
  go_fit (bothstring_ok (fun _ _ ↦ by kernel_rfl) (fun w1 h ↦ HR.out ▸ ctext1_ok (.mk' (x_b1.bl h) (ha1.bl h) (ha2.bl h) (ha3.bl h) (ha4.bl h)) hl hm hk hn (by decide) (htabs _ (hb.trans (h.mono hb.size)))) (fun w1 h ↦ HI.out ▸ ctext2_ok (.mk' (x_b1.bl h) (ha1.bl h) (ha2.bl h) (ha3.bl h) (ha4.bl h)) hl hm hk hn (by decide) (htabs _ (hb.trans (h.mono hb.size)))))
  rintro e w_2 ⟨rfl, hb_2⟩
  clear x_b1 hb
  replace hs := hs.bl hb_2
  refine hK _ _ rfl trivial ?_
  clear hK K
  refine sq ?_
  refine .mv ?_
  refine sq ?_
  refine .r0 ?_
  refine sq ?_
  refine .r0 ?_
  refine sq ?_
  refine .r0 ?_
  refine sq ?_
  refine .mv ?_
  refine sq ?_
  refine .mv ?_
  refine sq ?_
  refine .mv ?_
  apply wpSq_end
  refine hK2 _ _ ?_
  refine wp_seq_k ?_
  intro K3 hK3
  refine wp_seq_k ?_
  intro K4 hK4
  refine rg [0, 1, 2, 3, 4, 5] ?_
  refine sq ?_
  refine .mv ?_
  refine sq ?_
  refine .r0 ?_
  refine sq ?_
  refine .mv ?_
  refine sq ?_
  refine .mv ?_
  refine sq ?_
  refine .r0 ?_
  refine sq ?_
  refine .r0 ?_
  apply wpSq_end
  refine hK4 _ _ ?_
  refine cf ?_
  refine wp_skip ?_
  refine hK3 _ _ ?_
  refine wp_seq_k ?_
  intro K5 hK5
  refine rg [0, 1] ?_
  refine sq ?_
  refine .mv ?_
  refine sq ?_
  refine .mv ?_
  apply wpSq_end
  refine hK5 _ _ ?_
  refine wp_seq_k ?_
  intro K6 hK6
  refine wp_seq_k ?_
  intro K7 hK7
  refine rg [0, 1] ?_
  refine sq ?_
  refine .mv ?_
  refine sq ?_
  refine .r0 ?_
  apply wpSq_end
  refine hK7 _ _ ?_
  refine ct ?_
  refine rg [0, 1, 2] ?_
  refine sq ?_
  refine .mv ?_
  refine sq ?_
  refine .mv ?_
  refine sq ?_
  refine .mv ?_
  apply wpSq_end
  refine hK6 _ _ ?_
  refine wp_seq_k ?_
  intro K8 hK8
  refine rg [0, 1, 2, 3, 4, 5, 6] ?_
  refine sq ?_
  refine .mv ?_
  refine sq ?_
  intro K hK
  go_big_op
  go_fit (scut1 _ _ (by decide) HM.out)
  rintro e w_3 ⟨rfl, e_3⟩
  (first | rw [e_3] | rw [← e_3]); clear e_3 w_3
  refine hK _ _ rfl trivial ?_
  clear hK K
  refine sq ?_
  refine .mv ?_
  refine sq ?_
  refine .r0 ?_
  refine sq ?_
  refine .r0 ?_
  refine sq ?_
  refine .mv ?_
  refine sq ?_
  refine .mv ?_
  apply wpSq_end
  refine hK8 _ _ ?_
  refine wp_seq_k ?_
  intro K9 hK9
  refine wp_seq_k ?_
  intro K10 hK10
  refine rg [0] ?_
  refine sq ?_
  refine .mv ?_
  apply wpSq_end
  refine hK10 _ _ ?_
  refine ct ?_
  refine rg [0] ?_
  refine sq ?_
  refine .mv ?_
  apply wpSq_end
  refine hK9 _ _ ?_
  refine wp_seq_k ?_
  intro K11 hK11
  refine wp_seq_k ?_
  intro K12 hK12
  refine rg [0, 1] ?_
  refine sq ?_
  refine .mv ?_
  refine sq ?_
  refine .r0 ?_
  apply wpSq_end
  refine hK12 _ _ ?_
  refine wp_cond_false (congrArg Value.bool (show _ = false from (by decide +kernel))) ?_
  refine wp_skip ?_
  refine hK11 _ _ ?_
  refine wp_seq_k ?_
  intro K13 hK13
  refine rg [0, 1, 2, 3, 4, 5, 6, 7] ?_
  refine sq ?_
  refine .mv ?_
  refine sq ?_
  refine .mv ?_
  refine sq ?_
  refine .r0 ?_
  refine sq ?_
  refine .mv ?_
  refine sq ?_
  refine .r0 ?_
  refine sq ?_
  refine .r0 ?_
  refine sq ?_
  refine .mv ?_
  refine sq ?_
  refine .mv ?_
  apply wpSq_end
  refine hK13 _ _ ?_
  refine wp_ret ?_
  try dsimp only [Exit.then, Exit.inBlock]
  refine bodyPost_ret (v := (.tuple #[.string (⟨#[49, 47, 50]⟩ ++ ⟨#[45]⟩ ++ ByteArray.extract ⟨#[45, 51, 47, 52]⟩ 1 4 ++ ⟨#[105]⟩), .int .i64 0])) (by simp [results, Tryz.results22, go_sem]) rfl ?_
  have hb := hs.b
  exact ⟨by kernel_rfl, hb⟩
end
end Go.Proofs.YthlhekkcjficdaaGreatDoor


/- gfrac: the law's first look. -/
namespace Go.Proofs.YthlhekkcjficdaaGreatDoor
open Go Go.RowKit Dig
set_option linter.unusedVariables false
theorem aw_1 : ((rv 1 1 * rv 1 1 - rv 0 1 * -rv 1 1) / (rv 1 1 * rv 1 1 + rv 1 1 * rv 1 1)) = rv 1 2 := by decide +kernel
theorem aw_2 : ((rv 1 1 * -rv 1 1 + rv 0 1 * rv 1 1) / (rv 1 1 * rv 1 1 + rv 1 1 * rv 1 1)) = rv (-1) 2 := by decide +kernel
theorem aw_3 : (rv 1 2).num = 1 ∧ ((rv 1 2).den : Int) = 2 ∧ (rv (-1) 2).num = -1 ∧ ((rv (-1) 2).den : Int) = 2 := by decide +kernel
set_option maxHeartbeats 4000000 in
set_option maxRecDepth 20000 in
theorem awake7_any (w : World) (htab : Lib.TabIs Tryz.prog w p10 .u64 Lib.pow10Tab) :
    Calls Tryz.prog 13 #[] w fun e w' => e = .returned (.bool true) ∧ Below w.heap.size w w' := by
  have htabs := Lib.tabBelow_of_tabIs htab
  have L := fun (n : Int) (h : n.natAbs ≤ 100) => zlen_i n (by omega) (by omega)
  have L0 := hide (L 0 (by decide))
  have L1 := hide (L 1 (by decide))
  have L2 := hide (L 2 (by decide))
  have L3 := hide (L (-3) (by decide))
  have L4 := hide (L 4 (by decide))
  have L5 := hide (L (-1) (by decide))
  obtain ⟨A, hA⟩ : ∃ A, rv 1 2 = A := ⟨_, rfl⟩
  obtain ⟨B, hB⟩ : ∃ B, rv (-1) 2 = B := ⟨_, rfl⟩
  have HE := hide (show _ ∧ _ from ⟨aw_1.trans hA, aw_2.trans hB⟩)
  have HN := hide (show A.num = 1 ∧ (A.den : Int) = 2 ∧ B.num = -1 ∧ (B.den : Int) = 2 from hA ▸ hB ▸ aw_3)
  have HL := hide (show ((dig A.num.natAbs).length ≤ 2 ∧ (dig (A.den : Int).natAbs).length ≤ 2) ∧ ((dig B.num.natAbs).length ≤ 2 ∧ (dig (B.den : Int).natAbs).length ≤ 2) from by rw [HN.out.1, HN.out.2.1, HN.out.2.2.1, HN.out.2.2.2]; exact ⟨⟨L1.out, L2.out⟩, L5.out, L2.out⟩)
  clear L hA hB
  go_enter Tryz.func13, Tryz.ntmps13
  have hs := St.nil w
  refine wp_seq_k ?_
  intro K1 hK1
  refine rg [0] ?_
  refine sq ?_
  refine .mv ?_
  apply wpSq_end
  refine hK1 _ _ ?_
  refine wp_seq_k ?_
  intro K2 hK2
  refine rg [0, 1, 2, 3, 4, 5, 6, 7, 8] ?_
  refine sq ?_
  intro K hK
  go_big_op
  go_fit (c7_any 1 1 0 1 _ (by decide) (by decide) (by decide) (by decide) (by decide) (by decide) (by decide) (by decide))
  rintro e w_1 ⟨_, rfl, ⟨n_a1, o_a1, k_a1, c_a1, n_a2, o_a2, k_a2, c_a2, n_a3, o_a3, k_a3, c_a3, n_a4, o_a4, k_a4, c_a4, rfl, a1, a2, a3, a4⟩, hb_1⟩
  replace hs := hs.bl hb_1
  have La1 := hide (a1.lenOf (L1.out))
  have La2 := hide (a2.lenOf (L1.out))
  have La3 := hide (a3.lenOf (L0.out))
  have La4 := hide (a4.lenOf (L1.out))
  refine hK _ _ rfl trivial ?_
  clear hK K
  refine sq ?_
  intro K hK
  go_big_op
  go_fit (c7_any 1 1 1 1 _ (by decide) (by decide) (by decide) (by decide) (by decide) (by decide) (by decide) (by decide))
  rintro e w_2 ⟨_, rfl, ⟨n_b1, o_b1, k_b1, c_b1, n_b2, o_b2, k_b2, c_b2, n_b3, o_b3, k_b3, c_b3, n_b4, o_b4, k_b4, c_b4, rfl, b1, b2, b3, b4⟩, hb_2⟩
  replace hs := hs.bl hb_2
  have Lb1 := hide (b1.lenOf (L1.out))
  have Lb2 := hide (b2.lenOf (L1.out))
  have Lb3 := hide (b3.lenOf (L1.out))
  have Lb4 := hide (b4.lenOf (L1.out))
  refine hK _ _ rfl trivial ?_
  clear hK K
  refine sq ?_
  intro K hK
  have k1_2 := kb hb_2
  replace a1 := a1.k k1_2
  replace a2 := a2.k k1_2
  replace a3 := a3.k k1_2
  replace a4 := a4.k k1_2
  go_big_op
  go_fit (gfQuo_ok (CN.mk' (a1.zn La1.out) (a2.zn La2.out) (a3.zn La3.out) (a4.zn La4.out)) (CN.mk' (b1.zn Lb1.out) (b2.zn Lb2.out) (b3.zn Lb3.out) (b4.zn Lb4.out)) (by omega) (by omega) (by omega) (by omega) (by omega) (by omega) (by omega) (by omega) (by decide) (by decide) (by decide) (by decide) (by decide))
  rintro e w_3 ⟨_, rfl, ⟨n_c1, o_c1, k_c1, c_c1, n_c2, o_c2, k_c2, c_c2, n_c3, o_c3, k_c3, c_c3, n_c4, o_c4, k_c4, c_c4, rfl, c1, c2, c3, c4⟩, hb_3⟩
  replace hs := hs.bl hb_3
  rw [HE.out.1] at c1 c2
  rw [HE.out.2] at c3 c4
  refine hK _ _ rfl trivial ?_
  clear hK K
  refine sq ?_
  refine .mv ?_
  refine sq ?_
  refine .r0 ?_
  refine sq ?_
  refine .r0 ?_
  refine sq ?_
  refine .al hs ?_; clear hs; intro p_b1 w_4 hs n4 kb_b1
  clear a1 a2 a3 a4 b1 b2 b3 b4
  refine sq ?_
  intro K hK
  have xs := hs.g0
  have d0 : w_4.cell? ⟨p_b1, 0, none⟩ = some (.bool false) := hs.g0.cell 0 rfl
  have d1 : w_4.cell? ⟨p_b1, 1, none⟩ = some (.slice none 0 0) := hs.g0.cell 1 rfl
  have d2 : w_4.cell? ⟨p_b1, 2, none⟩ = some (.bool false) := hs.g0.cell 2 rfl
  have d3 : w_4.cell? ⟨p_b1, 3, none⟩ = some (.slice none 0 0) := hs.g0.cell 3 rfl
  have d4 : w_4.cell? ⟨p_b1, 4, none⟩ = some (.bool false) := hs.g0.cell 4 rfl
  have d5 : w_4.cell? ⟨p_b1, 5, none⟩ = some (.slice none 0 0) := hs.g0.cell 5 rfl
  have d6 : w_4.cell? ⟨p_b1, 6, none⟩ = some (.bool false) := hs.g0.cell 6 rfl
  have d7 : w_4.cell? ⟨p_b1, 7, none⟩ = some (.slice none 0 0) := hs.g0.cell 7 rfl
  have f0 := xs.free 0; have f1 := xs.free 1; have f2 := xs.free 2; have f3 := xs.free 3; have f4 := xs.free 4; have f5 := xs.free 5; have f6 := xs.free 6; have f7 := xs.free 7
  go_big_op
  have hd5 := xs.nod rfl rfl
  obtain ⟨w_5_0, eW, xs_0, ho_0⟩ : ∃ w', ((((w_4.setCell ⟨p_b1, 0, none⟩ (.bool n_c1)).setCell ⟨p_b1, 1, none⟩ (.slice o_c1 k_c1 c_c1)).setCell ⟨p_b1, 2, none⟩ (.bool n_c2)).setCell ⟨p_b1, 3, none⟩ (.slice o_c2 k_c2 c_c2)) = w' ∧ Bs w' p_b1 #[.bool n_c1, .slice o_c1 k_c1 c_c1, .bool n_c2, .slice o_c2 k_c2 c_c2, .bool false, .slice none 0 0, .bool false, .slice none 0 0] 28 ∧ Only p_b1 w_4 w' := xs.setN [(0, .bool n_c1), (1, .slice o_c1 k_c1 c_c1), (2, .bool n_c2), (3, .slice o_c2 k_c2 c_c2)]
  rw [eW]; clear eW
  obtain ⟨w_5, eW, xs', ho_4⟩ : ∃ w', ((((w_5_0.setCell ⟨p_b1, 4, none⟩ (.bool n_c3)).setCell ⟨p_b1, 5, none⟩ (.slice o_c3 k_c3 c_c3)).setCell ⟨p_b1, 6, none⟩ (.bool n_c4)).setCell ⟨p_b1, 7, none⟩ (.slice o_c4 k_c4 c_c4)) = w' ∧ Bs w' p_b1 #[.bool n_c1, .slice o_c1 k_c1 c_c1, .bool n_c2, .slice o_c2 k_c2 c_c2, .bool n_c3, .slice o_c3 k_c3 c_c3, .bool n_c4, .slice o_c4 k_c4 c_c4] 28 ∧ Only p_b1 w_5_0 w' := xs_0.setN [(4, .bool n_c3), (5, .slice o_c3 k_c3 c_c3), (6, .bool n_c4), (7, .slice o_c4 k_c4 c_c4)]
  rw [eW]; clear eW xs_0
  have ho5 := (ho_0.trans ho_4)
  clear ho_0 ho_4 d0 d1 d2 d3 d4 d5 d6 d7 f0 f1 f2 f3 f4 f5 f6 f7 xs
  replace hs := hs.u0 kb_b1 xs' ho5; clear xs'
  refine hK _ _ rfl trivial ?_; clear hK K
  refine sq ?_
  refine .mv ?_
  apply wpSq_end
  refine hK2 _ _ ?_
  refine wp_seq_k ?_
  intro K3 hK3
  refine rg [0, 1, 2, 3, 4, 5, 6] ?_
  refine sq ?_
  intro K hK
  go_big_op
  go_fit (c7_any 1 2 (-3) 4 _ (by decide) (by decide) (by decide) (by decide) (by decide) (by decide) (by decide) (by decide))
  rintro e w_6 ⟨_, rfl, ⟨n_d1, o_d1, k_d1, c_d1, n_d2, o_d2, k_d2, c_d2, n_d3, o_d3, k_d3, c_d3, n_d4, o_d4, k_d4, c_d4, rfl, d1, d2, d3, d4⟩, hb_6⟩
  replace hs := hs.bl hb_6
  have Ld1 := hide (d1.lenOf (L1.out))
  have Ld2 := hide (d2.lenOf (L2.out))
  have Ld3 := hide (d3.lenOf (L3.out))
  have Ld4 := hide (d4.lenOf (L4.out))
  refine hK _ _ rfl trivial ?_
  clear hK K
  refine sq ?_
  intro K hK
  have hb := hs.b
  go_big_op
  go_fit (gfText_a (.mk' (d1.zn L1.out) (d2.zn L2.out) (d3.zn L3.out) (d4.zn L4.out)) (by decide) (by decide) (by decide) (by decide) (htabs _ hb))
  rintro e w_7 ⟨rfl, hb_7⟩
  clear hb
  replace hs := hs.bl hb_7
  refine hK _ _ rfl trivial ?_
  clear hK K
  refine sq ?_
  refine .mv ?_
  refine sq ?_
  refine .r0 ?_
  refine sq ?_
  refine .r0 ?_
  refine sq ?_
  refine .mv ?_
  refine sq ?_
  refine .mv ?_
  apply wpSq_end
  refine hK3 _ _ ?_
  refine wp_seq_k ?_
  intro K4 hK4
  refine wp_region_f4 [(0, false), (1, false), (2, true), (3, true), (4, false), (5, false), (6, false), (7, false), (8, false), (9, false), (10, false), (11, false), (12, false)] [] [] (fun _ => default) [0, 99, 99, 99, 99, 99, 99, 99, 99, 99, 99, 99, 99] [] (.c hs.g0 .n) fn fun w_8 n8 => ?_
  replace hs := hs.bl n8
  apply wpFl_ld rfl rfl; (case h1 => intro w' hC K hK; have c0 := Bs.cell hC 0 rfl; have c1 := Bs.cell hC 1 rfl; have c2 := Bs.cell hC 2 rfl; have c3 := Bs.cell hC 3 rfl; have c4 := Bs.cell hC 4 rfl; have c5 := Bs.cell hC 5 rfl; have c6 := Bs.cell hC 6 rfl; have c7 := Bs.cell hC 7 rfl; go_big_op; exact hK); iterate 4 kernel_rfl
  refine fmv ?_
  refine fl fun w_9 n9 => ?_
  replace hs := hs.bl n9
  intro K hK
  go_big_op
  go_fit (c7_any 1 2 (-1) 2 _ (by decide) (by decide) (by decide) (by decide) (by decide) (by decide) (by decide) (by decide))
  rintro e w_10 ⟨_, rfl, ⟨n_q1, o_q1, k_q1, c_q1, n_q2, o_q2, k_q2, c_q2, n_q3, o_q3, k_q3, c_q3, n_q4, o_q4, k_q4, c_q4, rfl, q1, q2, q3, q4⟩, hb_10⟩
  replace hs := hs.bl hb_10
  rw [← HN.out.1] at q1
  rw [← HN.out.2.1] at q2
  rw [← HN.out.2.2.1] at q3
  rw [← HN.out.2.2.2] at q4
  refine hK _ _ rfl ⟨hb_10, (And.intro hs.g0 trivial)⟩ ?_
  clear hK K
  refine fl fun w_11 n11 => ?_
  replace hs := hs.bl n11
  intro K hK
  have k3_11 := (((((((kb n4).o hd5 ho5).b hb_6).b hb_7).b n8).b n9).b hb_10).b n11
  replace c1 := c1.k k3_11
  replace c2 := c2.k k3_11
  replace c3 := c3.k k3_11
  replace c4 := c4.k k3_11
  have k10_11 := kb n11
  replace q1 := q1.k k10_11
  replace q2 := q2.k k10_11
  replace q3 := q3.k k10_11
  replace q4 := q4.k k10_11
  go_big_op
  go_fit (told7_ok (.mk' c1 c2 c3 c4) (.mk' (q1.zn HL.out.1.1) (q2.zn HL.out.1.2) (q3.zn HL.out.2.1) (q4.zn HL.out.2.2)) (by decide) (by decide) (by decide) (by decide))
  rintro e w_12 ⟨rfl, hb_12⟩
  replace hs := hs.bl hb_12
  refine hK _ _ rfl ⟨hb_12, (And.intro hs.g0 trivial)⟩ ?_
  clear hK K
  refine fmv ?_
  refine fmv ?_
  refine f0 ?_
  refine f0 ?_
  refine fmv ?_
  refine fmv ?_
  refine f0 ?_
  refine f0 ?_
  refine fmv ?_
  refine e0 hs ?_; clear hs; intro w_13 hs n13
  clear d1 d2 d3 d4 q1 q2 q3 q4
  apply wpTail_end
  refine hK4 _ _ ?_
  refine wp_ret ?_
  try dsimp only [Exit.then, Exit.inBlock]
  refine bodyPost_ret (v := (.bool true)) (by simp [results, Tryz.results13, go_sem]) rfl ?_
  have hb := hs.b
  exact ⟨rfl, hb⟩
end Go.Proofs.YthlhekkcjficdaaGreatDoor


/- What GfracField asks besides. -/
namespace Go.Proofs.YthlhekkcjficdaaGreatDoor
open Go Go.RowKit Dig
set_option linter.unusedVariables false
section
variable {w : World} {va vb : Value} {x y u v p q s t : Int} {l m k n l2 m2 k2 n2 : Nat}
theorem fMul_r (ha : PN w va x l y m) (hq : PN w vb u k v n) (hl : l ≤ 10000000) (hm : m ≤ 10000000) (hk : k ≤ 10000000) (hn : n ≤ 10000000) (hy : y ≠ 0) (hv : v ≠ 0) :
    Calls Tryz.prog 48 #[va, vb] w fun e w' => ∃ r, e = .returned (.tuple #[r, .int .i64 0]) ∧ PC w' r (rv x y * rv u v).num (rv x y * rv u v).den ∧ Below w.heap.size w w' := by
  have h0 := Int.mul_ne_zero hy hv
  have := fMul_any ha hq hl hm hk hn h0
  rw [(q_eq h0 (rv_mul x y u v)).1, (q_eq h0 (rv_mul x y u v)).2] at this
  exact this
theorem rfsame_raw (ha : PC w va (rv x y).num (rv x y).den) (hq : PN w vb x l y m) (hl : l ≤ 44000000) (hm : m ≤ 44000000) (h0 : y ≠ 0) :
    Calls Tryz.prog 14 #[va, vb] w fun e w' => e = .returned (.bool true) ∧ Below w.heap.size w w' :=
  rfsame_any (by rw [(q_num h0).1, (q_num h0).2]; exact ha) hq hl hm h0
set_option maxHeartbeats 4000000 in
set_option maxRecDepth 20000 in
theorem r7Same_raw (ha : CC w va (rv x y).num (rv x y).den (rv u v).num (rv u v).den) (hq : CN w vb x l y m u k v n) (hl : l ≤ 44000000) (hm : m ≤ 44000000) (hk : k ≤ 44000000) (hn : n ≤ 44000000) (hy : y ≠ 0) (hv : v ≠ 0) :
    Calls Tryz.prog 88 #[va, vb] w fun e w' => e = .returned (.bool true) ∧ Below w.heap.size w w' := by
  have HY := hide (And.intro hy hv)
  clear hy hv
  obtain ⟨n_0a, o_0a, k_0a, c_0a, n_0b, o_0b, k_0b, c_0b, n_0c, o_0c, k_0c, c_0c, n_0d, o_0d, k_0d, c_0d, rfl, ha1, ha2, ha3, ha4⟩ := ha
  obtain ⟨n_1a, o_1a, k_1a, c_1a, n_1b, o_1b, k_1b, c_1b, n_1c, o_1c, k_1c, c_1c, n_1d, o_1d, k_1d, c_1d, rfl, hq1, hq2, hq3, hq4⟩ := hq
  go_enter Tryz.func88, Tryz.ntmps88
  have hs := St.nil w
  refine wp_seq_k ?_
  intro K1 hK1
  refine rg [0, 1, 2] ?_
  refine sq ?_
  refine .al hs ?_; clear hs; intro p_b1 w_1 hs n1 kb_b1
  refine sq ?_
  refine .al hs ?_; clear hs; intro p_b2 w_2 hs n2 kb_b2
  refine sq ?_
  refine .mv ?_
  apply wpSq_end
  refine hK1 _ _ ?_
  refine wp_seq_k ?_
  intro K2 hK2
  refine rg [0, 1, 2, 3, 4, 5, 6, 7, 8, 9, 10, 11, 12] ?_
  refine sq ?_
  refine .r0 ?_
  refine sq ?_
  refine .r4 ⟨hs.g1.cell 0 rfl, hs.g1.cell 1 rfl, hs.g1.cell 2 rfl, hs.g1.cell 3 rfl⟩ ?_
  refine sq ?_
  refine .r0 ?_
  refine sq ?_
  refine .r4 ⟨hs.g0.cell 0 rfl, hs.g0.cell 1 rfl, hs.g0.cell 2 rfl, hs.g0.cell 3 rfl⟩ ?_
  refine sq ?_
  intro K hK
  have k0_2 := (kb n1).b n2
  replace ha1 := ha1.k k0_2
  replace ha2 := ha2.k k0_2
  replace hq1 := hq1.k k0_2
  replace hq2 := hq2.k k0_2
  go_big_op
  go_fit (rfsame_raw (.mk' ha1 ha2) (.mk' hq1 hq2) hl hm HY.out.1)
  rintro e w_3 ⟨rfl, hb_3⟩
  replace hs := hs.bl hb_3
  refine hK _ _ rfl trivial ?_
  clear hK K
  refine sq ?_
  refine .mv ?_
  refine sq ?_
  refine .r0 ?_
  refine sq ?_
  refine .r4 ⟨hs.g1.cell 4 rfl, hs.g1.cell 5 rfl, hs.g1.cell 6 rfl, hs.g1.cell 7 rfl⟩ ?_
  refine sq ?_
  refine .r0 ?_
  refine sq ?_
  refine .r4 ⟨hs.g0.cell 4 rfl, hs.g0.cell 5 rfl, hs.g0.cell 6 rfl, hs.g0.cell 7 rfl⟩ ?_
  refine sq ?_
  intro K hK
  have k0_3 := k0_2.b hb_3
  replace ha3 := ha3.k k0_3
  replace ha4 := ha4.k k0_3
  replace hq3 := hq3.k k0_3
  replace hq4 := hq4.k k0_3
  go_big_op
  go_fit (rfsame_raw (.mk' ha3 ha4) (.mk' hq3 hq4) hk hn HY.out.2)
  rintro e w_4 ⟨rfl, hb_4⟩
  replace hs := hs.bl hb_4
  refine hK _ _ rfl trivial ?_
  clear hK K
  refine sq ?_
  refine .r0 ?_
  refine sq ?_
  refine .mv ?_
  apply wpSq_end
  refine hK2 _ _ ?_
  refine wp_ret ?_
  try dsimp only [Exit.then, Exit.inBlock]
  refine bodyPost_ret (v := (.bool true)) (by simp [results, Tryz.results88, go_sem]) rfl ?_
  have hb := hs.b
  exact ⟨rfl, hb⟩
set_option maxHeartbeats 4000000 in
set_option maxRecDepth 20000 in
theorem is7_raw (ha : CC w va (rv x y).num (rv x y).den (rv u v).num (rv u v).den) (hq : CN w vb x l y m u k v n) (hl : l ≤ 44000000) (hm : m ≤ 44000000) (hk : k ≤ 44000000) (hn : n ≤ 44000000) (hy : y ≠ 0) (hv : v ≠ 0) :
    Calls Tryz.prog 35 #[va, vb] w fun e w' => e = .returned (.bool true) ∧ Below w.heap.size w w' := by
  have HY := hide (And.intro hy hv)
  clear hy hv
  obtain ⟨n_0a, o_0a, k_0a, c_0a, n_0b, o_0b, k_0b, c_0b, n_0c, o_0c, k_0c, c_0c, n_0d, o_0d, k_0d, c_0d, rfl, ha1, ha2, ha3, ha4⟩ := ha
  obtain ⟨n_1a, o_1a, k_1a, c_1a, n_1b, o_1b, k_1b, c_1b, n_1c, o_1c, k_1c, c_1c, n_1d, o_1d, k_1d, c_1d, rfl, hq1, hq2, hq3, hq4⟩ := hq
  go_enter Tryz.func35, Tryz.ntmps35
  have hs := St.nil w
  refine wp_seq_k ?_
  intro K1 hK1
  refine rg [0, 1, 2] ?_
  refine sq ?_
  refine .al hs ?_; clear hs; intro p_b1 w_1 hs n1 kb_b1
  refine sq ?_
  refine .al hs ?_; clear hs; intro p_b2 w_2 hs n2 kb_b2
  refine sq ?_
  refine .mv ?_
  apply wpSq_end
  refine hK1 _ _ ?_
  refine wp_seq_k ?_
  intro K2 hK2
  refine rg [0, 1, 2, 3] ?_
  refine sq ?_
  intro K hK
  have d0 : w_2.cell? ⟨p_b1, 0, none⟩ = some (.bool n_0a) := hs.g1.cell 0 rfl
  have d1 : w_2.cell? ⟨p_b1, 1, none⟩ = some (.slice o_0a k_0a c_0a) := hs.g1.cell 1 rfl
  have d2 : w_2.cell? ⟨p_b1, 2, none⟩ = some (.bool n_0b) := hs.g1.cell 2 rfl
  have d3 : w_2.cell? ⟨p_b1, 3, none⟩ = some (.slice o_0b k_0b c_0b) := hs.g1.cell 3 rfl
  have d4 : w_2.cell? ⟨p_b1, 4, none⟩ = some (.bool n_0c) := hs.g1.cell 4 rfl
  have d5 : w_2.cell? ⟨p_b1, 5, none⟩ = some (.slice o_0c k_0c c_0c) := hs.g1.cell 5 rfl
  have d6 : w_2.cell? ⟨p_b1, 6, none⟩ = some (.bool n_0d) := hs.g1.cell 6 rfl
  have d7 : w_2.cell? ⟨p_b1, 7, none⟩ = some (.slice o_0d k_0d c_0d) := hs.g1.cell 7 rfl
  go_big_op; refine hK _ _ rfl trivial ?_; clear hK K d0 d1 d2 d3 d4 d5 d6 d7
  refine sq ?_
  intro K hK
  have d0 : w_2.cell? ⟨p_b2, 0, none⟩ = some (.bool n_1a) := hs.g0.cell 0 rfl
  have d1 : w_2.cell? ⟨p_b2, 1, none⟩ = some (.slice o_1a k_1a c_1a) := hs.g0.cell 1 rfl
  have d2 : w_2.cell? ⟨p_b2, 2, none⟩ = some (.bool n_1b) := hs.g0.cell 2 rfl
  have d3 : w_2.cell? ⟨p_b2, 3, none⟩ = some (.slice o_1b k_1b c_1b) := hs.g0.cell 3 rfl
  have d4 : w_2.cell? ⟨p_b2, 4, none⟩ = some (.bool n_1c) := hs.g0.cell 4 rfl
  have d5 : w_2.cell? ⟨p_b2, 5, none⟩ = some (.slice o_1c k_1c c_1c) := hs.g0.cell 5 rfl
  have d6 : w_2.cell? ⟨p_b2, 6, none⟩ = some (.bool n_1d) := hs.g0.cell 6 rfl
  have d7 : w_2.cell? ⟨p_b2, 7, none⟩ = some (.slice o_1d k_1d c_1d) := hs.g0.cell 7 rfl
  go_big_op; refine hK _ _ rfl trivial ?_; clear hK K d0 d1 d2 d3 d4 d5 d6 d7
  refine sq ?_
  intro K hK
  have k0_2 := (kb n1).b n2
  replace ha1 := ha1.k k0_2
  replace ha2 := ha2.k k0_2
  replace ha3 := ha3.k k0_2
  replace ha4 := ha4.k k0_2
  replace hq1 := hq1.k k0_2
  replace hq2 := hq2.k k0_2
  replace hq3 := hq3.k k0_2
  replace hq4 := hq4.k k0_2
  go_big_op
  go_fit (r7Same_raw (.mk' ha1 ha2 ha3 ha4) (.mk' hq1 hq2 hq3 hq4) hl hm hk hn HY.out.1 HY.out.2)
  rintro e w_3 ⟨rfl, hb_3⟩
  replace hs := hs.bl hb_3
  refine hK _ _ rfl trivial ?_
  clear hK K
  refine sq ?_
  refine .mv ?_
  apply wpSq_end
  refine hK2 _ _ ?_
  refine wp_ret ?_
  try dsimp only [Exit.then, Exit.inBlock]
  refine bodyPost_ret (v := (.bool true)) (by simp [results, Tryz.results35, go_sem]) rfl ?_
  have hb := hs.b
  exact ⟨rfl, hb⟩
set_option maxHeartbeats 4000000 in
set_option maxRecDepth 20000 in
theorem rfI_any (a : Int) (w : World) (h1 : -9223372036854775808 ≤ a) (h2 : a ≤ 9223372036854775807) :
    Calls Tryz.prog 50 #[.int .i64 a] w fun e w' => ∃ r, e = .returned r ∧ PC w' r a 1 ∧ Below w.heap.size w w' := by
  go_enter Tryz.func50, Tryz.ntmps50
  have hs := St.nil w
  refine wp_seq_k ?_
  intro K1 hK1
  refine rg [0] ?_
  refine sq ?_
  refine .al hs ?_; clear hs; intro p_b1 w_1 hs n1 kb_b1
  apply wpSq_end
  refine hK1 _ _ ?_
  refine wp_seq_k ?_
  intro K2 hK2
  refine rg [0, 1, 2, 3, 4] ?_
  refine sq ?_
  refine .mv ?_
  refine sq ?_
  intro K hK
  go_big_op
  go_fit (ri_any a _ h1 h2)
  rintro e w_2 ⟨v_ra, rfl, ra, hb_2⟩
  replace hs := hs.bl hb_2
  replace ra := ra.rd
  obtain ⟨n_ra, o_ra, k_ra, c_ra, rfl⟩ := ra.open2
  refine hK _ _ rfl trivial ?_
  clear hK K
  refine sq ?_
  intro K hK
  go_big_op
  go_fit (ri_any 1 _ (by decide) (by decide))
  rintro e w_3 ⟨v_rb, rfl, rb, hb_3⟩
  replace hs := hs.bl hb_3
  replace rb := rb.rd
  obtain ⟨n_rb, o_rb, k_rb, c_rb, rfl⟩ := rb.open2
  refine hK _ _ rfl trivial ?_
  clear hK K
  refine sq ?_
  refine .r0 ?_
  refine sq ?_
  refine .s4 hs.g0 (fun _ => hs.u0 kb_b1) ?_; clear hs; intro w_4 hs hd4 ho4
  apply wpSq_end
  refine hK2 _ _ ?_
  refine wp_ret ?_
  try dsimp only [Exit.then, Exit.inBlock]
  obtain ⟨r0_0, r0_1, r0_2, r0_3⟩ := hs.g0.f4
  refine bodyPost_ret (v := (.agg #[.bool n_ra, .slice o_ra k_ra c_ra, .bool n_rb, .slice o_rb k_rb c_rb])) (by simp [results, Tryz.results50, go_sem, r0_0, r0_1, r0_2, r0_3]) rfl ?_
  have k2_4 := (kb hb_3).o hd4 ho4
  replace ra := ra.k k2_4
  have k3_4 := ko hd4 ho4
  replace rb := rb.k k3_4
  exact ⟨_, rfl, .mk' ra rb, hs.b⟩
end
end Go.Proofs.YthlhekkcjficdaaGreatDoor

