/- GresCrts: the law's walk. -/
import Derived.Test.YtbiiglcfdphmaaaGreatH8ToH11
namespace Go.Proofs.YtbiiglcfdphmaaaGreat
open Go Go.RowKit Dig
set_option maxHeartbeats 8000000
set_option maxRecDepth 20000
set_option linter.unusedVariables false
section
variable {w : World} {va vb vc vd : Value} {x y u v a b p q : Int} {l m k n : Nat}
theorem gcrts_zero1 (ha : PN w va x 1048576 y 1048576) (hq : PN w vb 0 1048576 0 1048576) (hc : PN w vc a 1048576 b 1048576) (hd : PN w vd p 1048576 q 1048576) :
    Calls Tryz.prog 5 #[va, vb, vc, vd] w fun e w' => e = .returned (.bool true) ∧ Below w.heap.size w w' := by
  obtain ⟨n_0a, o_0a, k_0a, c_0a, n_0b, o_0b, k_0b, c_0b, rfl, ha1, ha2⟩ := ha
  obtain ⟨n_1a, o_1a, k_1a, c_1a, n_1b, o_1b, k_1b, c_1b, rfl, hq1, hq2⟩ := hq
  obtain ⟨n_2a, o_2a, k_2a, c_2a, n_2b, o_2b, k_2b, c_2b, rfl, hc1, hc2⟩ := hc
  obtain ⟨n_3a, o_3a, k_3a, c_3a, n_3b, o_3b, k_3b, c_3b, rfl, hd1, hd2⟩ := hd
  go_enter Tryz.func5, Tryz.ntmps5
  have hs := St.nil w
  refine wp_seq_k ?_
  intro K1 hK1
  refine rg [0, 1, 2, 3, 4] ?_
  refine sq ?_
  refine .al hs ?_; clear hs; intro p_b1 w_1 hs n1 kb_b1
  refine sq ?_
  refine .al hs ?_; clear hs; intro p_b2 w_2 hs n2 kb_b2
  refine sq ?_
  refine .al hs ?_; clear hs; intro p_b3 w_3 hs n3 kb_b3
  refine sq ?_
  refine .al hs ?_; clear hs; intro p_b4 w_4 hs n4 kb_b4
  refine sq ?_
  refine .mv ?_
  apply wpSq_end
  refine hK1 _ _ ?_
  refine wp_seq_k ?_
  intro K2 hK2
  refine rg [0, 1, 2, 3, 4, 5, 6, 7, 8, 9, 10] ?_
  refine sq ?_
  refine .r4 hs.g3.f4 ?_
  refine sq ?_
  refine .r4 hs.g2.f4 ?_
  refine sq ?_
  refine .r4 hs.g1.f4 ?_
  refine sq ?_
  refine .r4 hs.g0.f4 ?_
  refine sq ?_
  intro K hK
  have k0_4 := (((kb n1).b n2).b n3).b n4
  replace ha1 := ha1.k k0_4
  replace ha2 := ha2.k k0_4
  replace hq1 := hq1.k k0_4
  replace hq2 := hq2.k k0_4
  replace hc1 := hc1.k k0_4
  replace hc2 := hc2.k k0_4
  replace hd1 := hd1.k k0_4
  replace hd2 := hd2.k k0_4
  go_big_op
  go_fit (gCrt_zero1 (.mk' ha1 ha2) (.mk' hq1 hq2) (.mk' hc1 hc2) (.mk' hd1 hd2) (by omega) (by omega) (by omega) (by omega) (by omega) (by omega))
  rintro e w_5 ⟨rfl, hb_5⟩
  replace hs := hs.bl hb_5
  refine hK _ _ rfl trivial ?_
  clear hK K
  refine sq ?_
  refine .mv ?_
  refine sq ?_
  refine .r0 ?_
  refine sq ?_
  refine .r0 ?_
  refine sq ?_
  refine .al hs ?_; clear hs; intro p_b5 w_6 hs n6 kb_b5
  refine sq ?_
  refine .s4 hs.g0 (fun _ => hs.u0 kb_b5) ?_; clear hs; intro w_7 hs hd7 ho7
  refine sq ?_
  refine .mv ?_
  apply wpSq_end
  refine hK2 _ _ ?_
  refine wp_seq_k ?_
  intro K3 hK3
  refine wp_seq_k ?_
  intro K4 hK4
  refine rg [0, 1] ?_
  refine sq ?_
  intro K hK
  go_big_op
  go_fit (awake5_any _)
  rintro e w_8 ⟨rfl, hb_8⟩
  replace hs := hs.bl hb_8
  refine hK _ _ rfl trivial ?_
  clear hK K
  refine sq ?_
  refine .r0 ?_
  apply wpSq_end
  refine hK4 _ _ ?_
  refine cf ?_
  refine wp_skip ?_
  refine hK3 _ _ ?_
  refine wp_seq_k ?_
  intro K5 hK5
  refine wp_seq_k ?_
  intro K6 hK6
  refine rg [0, 1, 2, 3, 4, 5] ?_
  refine sq ?_
  refine .r4 hs.g3.f4 ?_
  refine sq ?_
  intro K hK
  have k4_8 := (((kb hb_5).b n6).o hd7 ho7).b hb_8
  replace hq1 := hq1.k k4_8
  replace hq2 := hq2.k k4_8
  go_big_op
  go_fit (rgNull_yes (.mk' hq1 hq2) (by omega) (by omega))
  rintro e w_9 ⟨rfl, hb_9⟩
  replace hs := hs.bl hb_9
  refine hK _ _ rfl trivial ?_
  clear hK K
  refine sq ?_
  refine .mv ?_
  refine sk ?_
  refine sk ?_
  refine sq ?_
  refine .r0 ?_
  apply wpSq_end
  refine hK6 _ _ ?_
  refine ct ?_
  refine wp_seq_k ?_
  intro K7 hK7
  refine rg [0, 1, 2, 3, 4] ?_
  refine sq ?_
  refine .r4 hs.g0.f4 ?_
  refine sq ?_
  refine .mv ?_
  refine sq ?_
  refine .r4 hs.g0.f4 ?_
  refine sq ?_
  intro K hK
  go_big_op
  go_fit (told_5 _)
  rintro e w_10 ⟨rfl, hb_10⟩
  replace hs := hs.bl hb_10
  refine hK _ _ rfl trivial ?_
  clear hK K
  refine sq ?_
  refine .mv ?_
  apply wpSq_end
  refine hK7 _ _ ?_
  refine wp_ret ?_
  try dsimp only [Exit.then, Exit.inBlock]
  refine bodyPost_ret (v := (.bool true)) (by simp [results, Tryz.results5, go_sem]) rfl ?_
  have hb := hs.b
  exact ⟨rfl, hb⟩
theorem gcrts_zero2 (ha : PN w va x 1048576 y 1048576) (hq : PN w vb u 1048576 v 1048576) (hc : PN w vc a 1048576 b 1048576) (hd : PN w vd 0 1048576 0 1048576) (h0 : gN u v ≠ 0) :
    Calls Tryz.prog 5 #[va, vb, vc, vd] w fun e w' => e = .returned (.bool true) ∧ Below w.heap.size w w' := by
  have HD := hide (decide_eq_false (p := u = 0 ∧ v = 0) (fun c => h0 (gN_zero.2 c)))
  have HH := hide h0
  clear h0
  obtain ⟨n_0a, o_0a, k_0a, c_0a, n_0b, o_0b, k_0b, c_0b, rfl, ha1, ha2⟩ := ha
  obtain ⟨n_1a, o_1a, k_1a, c_1a, n_1b, o_1b, k_1b, c_1b, rfl, hq1, hq2⟩ := hq
  obtain ⟨n_2a, o_2a, k_2a, c_2a, n_2b, o_2b, k_2b, c_2b, rfl, hc1, hc2⟩ := hc
  obtain ⟨n_3a, o_3a, k_3a, c_3a, n_3b, o_3b, k_3b, c_3b, rfl, hd1, hd2⟩ := hd
  go_enter Tryz.func5, Tryz.ntmps5
  have hs := St.nil w
  refine wp_seq_k ?_
  intro K1 hK1
  refine rg [0, 1, 2, 3, 4] ?_
  refine sq ?_
  refine .al hs ?_; clear hs; intro p_b1 w_1 hs n1 kb_b1
  refine sq ?_
  refine .al hs ?_; clear hs; intro p_b2 w_2 hs n2 kb_b2
  refine sq ?_
  refine .al hs ?_; clear hs; intro p_b3 w_3 hs n3 kb_b3
  refine sq ?_
  refine .al hs ?_; clear hs; intro p_b4 w_4 hs n4 kb_b4
  refine sq ?_
  refine .mv ?_
  apply wpSq_end
  refine hK1 _ _ ?_
  refine wp_seq_k ?_
  intro K2 hK2
  refine rg [0, 1, 2, 3, 4, 5, 6, 7, 8, 9, 10] ?_
  refine sq ?_
  refine .r4 hs.g3.f4 ?_
  refine sq ?_
  refine .r4 hs.g2.f4 ?_
  refine sq ?_
  refine .r4 hs.g1.f4 ?_
  refine sq ?_
  refine .r4 hs.g0.f4 ?_
  refine sq ?_
  intro K hK
  have k0_4 := (((kb n1).b n2).b n3).b n4
  replace ha1 := ha1.k k0_4
  replace ha2 := ha2.k k0_4
  replace hq1 := hq1.k k0_4
  replace hq2 := hq2.k k0_4
  replace hc1 := hc1.k k0_4
  replace hc2 := hc2.k k0_4
  replace hd1 := hd1.k k0_4
  replace hd2 := hd2.k k0_4
  go_big_op
  go_fit (gCrt_zero2 (.mk' ha1 ha2) (.mk' hq1 hq2) (.mk' hc1 hc2) (.mk' hd1 hd2) (by omega) (by omega) (by omega) (by omega) (by omega) (by omega) HH.out)
  rintro e w_5 ⟨rfl, hb_5⟩
  replace hs := hs.bl hb_5
  refine hK _ _ rfl trivial ?_
  clear hK K
  refine sq ?_
  refine .mv ?_
  refine sq ?_
  refine .r0 ?_
  refine sq ?_
  refine .r0 ?_
  refine sq ?_
  refine .al hs ?_; clear hs; intro p_b5 w_6 hs n6 kb_b5
  refine sq ?_
  refine .s4 hs.g0 (fun _ => hs.u0 kb_b5) ?_; clear hs; intro w_7 hs hd7 ho7
  refine sq ?_
  refine .mv ?_
  apply wpSq_end
  refine hK2 _ _ ?_
  refine wp_seq_k ?_
  intro K3 hK3
  refine wp_seq_k ?_
  intro K4 hK4
  refine rg [0, 1] ?_
  refine sq ?_
  intro K hK
  go_big_op
  go_fit (awake5_any _)
  rintro e w_8 ⟨rfl, hb_8⟩
  replace hs := hs.bl hb_8
  refine hK _ _ rfl trivial ?_
  clear hK K
  refine sq ?_
  refine .r0 ?_
  apply wpSq_end
  refine hK4 _ _ ?_
  refine cf ?_
  refine wp_skip ?_
  refine hK3 _ _ ?_
  refine wp_seq_k ?_
  intro K5 hK5
  refine wp_seq_k ?_
  intro K6 hK6
  refine rg [0, 1, 2, 3, 4, 5] ?_
  refine sq ?_
  refine .r4 hs.g3.f4 ?_
  refine sq ?_
  intro K hK
  have k4_8 := (((kb hb_5).b n6).o hd7 ho7).b hb_8
  replace hq1 := hq1.k k4_8
  replace hq2 := hq2.k k4_8
  go_big_op
  go_fit (rgNull_any (.mk' hq1 hq2) (by omega) (by omega))
  rintro e w_9 ⟨rfl, hb_9⟩
  replace hs := hs.bl hb_9
  rw [HD.out]
  refine hK _ _ rfl trivial ?_
  clear hK K
  refine sq ?_
  refine .mv ?_
  refine sq ?_
  refine .r4 hs.g1.f4 ?_
  refine sq ?_
  intro K hK
  have k4_9 := k4_8.b hb_9
  replace hd1 := hd1.k k4_9
  replace hd2 := hd2.k k4_9
  go_big_op
  go_fit (rgNull_yes (.mk' hd1 hd2) (by omega) (by omega))
  rintro e w_10 ⟨rfl, hb_10⟩
  replace hs := hs.bl hb_10
  refine hK _ _ rfl trivial ?_
  clear hK K
  refine sq ?_
  refine .r0 ?_
  apply wpSq_end
  refine hK6 _ _ ?_
  refine ct ?_
  refine wp_seq_k ?_
  intro K7 hK7
  refine rg [0, 1, 2, 3, 4] ?_
  refine sq ?_
  refine .r4 hs.g0.f4 ?_
  refine sq ?_
  refine .mv ?_
  refine sq ?_
  refine .r4 hs.g0.f4 ?_
  refine sq ?_
  intro K hK
  go_big_op
  go_fit (told_5 _)
  rintro e w_11 ⟨rfl, hb_11⟩
  replace hs := hs.bl hb_11
  refine hK _ _ rfl trivial ?_
  clear hK K
  refine sq ?_
  refine .mv ?_
  apply wpSq_end
  refine hK7 _ _ ?_
  refine wp_ret ?_
  try dsimp only [Exit.then, Exit.inBlock]
  refine bodyPost_ret (v := (.bool true)) (by simp [results, Tryz.results5, go_sem]) rfl ?_
  have hb := hs.b
  exact ⟨rfl, hb⟩
theorem gcrts_none (ha : PN w va x 1048576 y 1048576) (hq : PN w vb u 1048576 v 1048576) (hc : PN w vc a 1048576 b 1048576) (hd : PN w vd p 1048576 q 1048576) (h0 : gN u v ≠ 0) (h1 : gN p q ≠ 0) (hI : ¬ gInv u v p q) :
    Calls Tryz.prog 5 #[va, vb, vc, vd] w fun e w' => e = .returned (.bool true) ∧ Below w.heap.size w w' := by
  have HD := hide (decide_eq_false (p := u = 0 ∧ v = 0) (fun c => h0 (gN_zero.2 c)))
  have HE := hide (decide_eq_false (p := p = 0 ∧ q = 0) (fun c => h1 (gN_zero.2 c)))
  have HH := hide (And.intro h0 (And.intro h1 hI))
  clear h0 h1 hI
  obtain ⟨n_0a, o_0a, k_0a, c_0a, n_0b, o_0b, k_0b, c_0b, rfl, ha1, ha2⟩ := ha
  obtain ⟨n_1a, o_1a, k_1a, c_1a, n_1b, o_1b, k_1b, c_1b, rfl, hq1, hq2⟩ := hq
  obtain ⟨n_2a, o_2a, k_2a, c_2a, n_2b, o_2b, k_2b, c_2b, rfl, hc1, hc2⟩ := hc
  obtain ⟨n_3a, o_3a, k_3a, c_3a, n_3b, o_3b, k_3b, c_3b, rfl, hd1, hd2⟩ := hd
  go_enter Tryz.func5, Tryz.ntmps5
  have hs := St.nil w
  refine wp_seq_k ?_
  intro K1 hK1
  refine rg [0, 1, 2, 3, 4] ?_
  refine sq ?_
  refine .al hs ?_; clear hs; intro p_b1 w_1 hs n1 kb_b1
  refine sq ?_
  refine .al hs ?_; clear hs; intro p_b2 w_2 hs n2 kb_b2
  refine sq ?_
  refine .al hs ?_; clear hs; intro p_b3 w_3 hs n3 kb_b3
  refine sq ?_
  refine .al hs ?_; clear hs; intro p_b4 w_4 hs n4 kb_b4
  refine sq ?_
  refine .mv ?_
  apply wpSq_end
  refine hK1 _ _ ?_
  refine wp_seq_k ?_
  intro K2 hK2
  refine rg [0, 1, 2, 3, 4, 5, 6, 7, 8, 9, 10] ?_
  refine sq ?_
  refine .r4 hs.g3.f4 ?_
  refine sq ?_
  refine .r4 hs.g2.f4 ?_
  refine sq ?_
  refine .r4 hs.g1.f4 ?_
  refine sq ?_
  refine .r4 hs.g0.f4 ?_
  refine sq ?_
  intro K hK
  have k0_4 := (((kb n1).b n2).b n3).b n4
  replace ha1 := ha1.k k0_4
  replace ha2 := ha2.k k0_4
  replace hq1 := hq1.k k0_4
  replace hq2 := hq2.k k0_4
  replace hc1 := hc1.k k0_4
  replace hc2 := hc2.k k0_4
  replace hd1 := hd1.k k0_4
  replace hd2 := hd2.k k0_4
  go_big_op
  go_fit (gCrt_none (.mk' ha1 ha2) (.mk' hq1 hq2) (.mk' hc1 hc2) (.mk' hd1 hd2) (by omega) (by omega) (by omega) (by omega) (by omega) (by omega) HH.out.1 HH.out.2.1 HH.out.2.2)
  rintro e w_5 ⟨rfl, hb_5⟩
  replace hs := hs.bl hb_5
  refine hK _ _ rfl trivial ?_
  clear hK K
  refine sq ?_
  refine .mv ?_
  refine sq ?_
  refine .r0 ?_
  refine sq ?_
  refine .r0 ?_
  refine sq ?_
  refine .al hs ?_; clear hs; intro p_b5 w_6 hs n6 kb_b5
  refine sq ?_
  refine .s4 hs.g0 (fun _ => hs.u0 kb_b5) ?_; clear hs; intro w_7 hs hd7 ho7
  refine sq ?_
  refine .mv ?_
  apply wpSq_end
  refine hK2 _ _ ?_
  refine wp_seq_k ?_
  intro K3 hK3
  refine wp_seq_k ?_
  intro K4 hK4
  refine rg [0, 1] ?_
  refine sq ?_
  intro K hK
  go_big_op
  go_fit (awake5_any _)
  rintro e w_8 ⟨rfl, hb_8⟩
  replace hs := hs.bl hb_8
  refine hK _ _ rfl trivial ?_
  clear hK K
  refine sq ?_
  refine .r0 ?_
  apply wpSq_end
  refine hK4 _ _ ?_
  refine cf ?_
  refine wp_skip ?_
  refine hK3 _ _ ?_
  refine wp_seq_k ?_
  intro K5 hK5
  refine wp_seq_k ?_
  intro K6 hK6
  refine rg [0, 1, 2, 3, 4, 5] ?_
  refine sq ?_
  refine .r4 hs.g3.f4 ?_
  refine sq ?_
  intro K hK
  have k4_8 := (((kb hb_5).b n6).o hd7 ho7).b hb_8
  replace hq1 := hq1.k k4_8
  replace hq2 := hq2.k k4_8
  go_big_op
  go_fit (rgNull_any (.mk' hq1 hq2) (by omega) (by omega))
  rintro e w_9 ⟨rfl, hb_9⟩
  replace hs := hs.bl hb_9
  rw [HD.out]
  refine hK _ _ rfl trivial ?_
  clear hK K
  refine sq ?_
  refine .mv ?_
  refine sq ?_
  refine .r4 hs.g1.f4 ?_
  refine sq ?_
  intro K hK
  have k4_9 := k4_8.b hb_9
  replace hd1 := hd1.k k4_9
  replace hd2 := hd2.k k4_9
  go_big_op
  go_fit (rgNull_any (.mk' hd1 hd2) (by omega) (by omega))
  rintro e w_10 ⟨rfl, hb_10⟩
  replace hs := hs.bl hb_10
  rw [HE.out]
  refine hK _ _ rfl trivial ?_
  clear hK K
  refine sq ?_
  refine .r0 ?_
  apply wpSq_end
  refine hK6 _ _ ?_
  refine cf ?_
  refine wp_skip ?_
  refine hK5 _ _ ?_
  refine wp_seq_k ?_
  intro K7 hK7
  refine wp_seq_k ?_
  intro K8 hK8
  refine rg [0, 1, 2, 3] ?_
  refine sq ?_
  refine .r4 hs.g3.f4 ?_
  refine sq ?_
  refine .r4 hs.g1.f4 ?_
  refine sq ?_
  intro K hK
  have k8_10 := (kb hb_9).b hb_10
  replace hq1 := hq1.k k8_10
  replace hq2 := hq2.k k8_10
  have k9_10 := kb hb_10
  replace hd1 := hd1.k k9_10
  replace hd2 := hd2.k k9_10
  go_big_op
  go_fit (rone_no (L := 1048576) (.mk' hq1 hq2) (.mk' hd1 hd2) (by omega) HH.out.2.2)
  rintro e w_11 ⟨rfl, hb_11⟩
  replace hs := hs.bl hb_11
  refine hK _ _ rfl trivial ?_
  clear hK K
  refine sq ?_
  refine .r0 ?_
  apply wpSq_end
  refine hK8 _ _ ?_
  refine ct ?_
  refine wp_seq_k ?_
  intro K9 hK9
  refine rg [0, 1, 2, 3, 4] ?_
  refine sq ?_
  refine .r4 hs.g0.f4 ?_
  refine sq ?_
  refine .mv ?_
  refine sq ?_
  refine .r4 hs.g0.f4 ?_
  refine sq ?_
  intro K hK
  go_big_op
  go_fit (told_10 _)
  rintro e w_12 ⟨rfl, hb_12⟩
  replace hs := hs.bl hb_12
  refine hK _ _ rfl trivial ?_
  clear hK K
  refine sq ?_
  refine .mv ?_
  apply wpSq_end
  refine hK9 _ _ ?_
  refine wp_ret ?_
  try dsimp only [Exit.then, Exit.inBlock]
  refine bodyPost_ret (v := (.bool true)) (by simp [results, Tryz.results5, go_sem]) rfl ?_
  have hb := hs.b
  exact ⟨rfl, hb⟩
theorem gcrts_some (ha : PN w va x 1048576 y 1048576) (hq : PN w vb u 1048576 v 1048576) (hc : PN w vc a 1048576 b 1048576) (hd : PN w vd p 1048576 q 1048576) (h0 : gN u v ≠ 0) (h1 : gN p q ≠ 0) (hI : gInv u v p q) :
    Calls Tryz.prog 5 #[va, vb, vc, vd] w fun e w' => e = .returned (.bool true) ∧ Below w.heap.size w w' := by
  have HD := hide (decide_eq_false (p := u = 0 ∧ v = 0) (fun c => h0 (gN_zero.2 c)))
  have HE := hide (decide_eq_false (p := p = 0 ∧ q = 0) (fun c => h1 (gN_zero.2 c)))
  have lP1 := zlen_sub (zlen_mul hq.len1 hd.len1) (zlen_mul hq.len2 hd.len2)
  have lP2 := zlen_add (zlen_mul hq.len1 hd.len2) (zlen_mul hq.len2 hd.len1)
  have LV := hide (show (dig (cR1 x y u v a b p q).natAbs).length ≤ 9000000 ∧ (dig (cR2 x y u v a b p q).natAbs).length ≤ 9000000 from by
    unfold cR1 cR2
    exact res_len (L := 8999999) (gN_prod h0 h1) (Nat.le_trans lP1 (by omega)) (Nat.le_trans lP2 (by omega)))
  have HH := hide (And.intro h0 (And.intro h1 hI))
  clear h0 h1 hI lP1 lP2
  obtain ⟨n_0a, o_0a, k_0a, c_0a, n_0b, o_0b, k_0b, c_0b, rfl, ha1, ha2⟩ := ha
  obtain ⟨n_1a, o_1a, k_1a, c_1a, n_1b, o_1b, k_1b, c_1b, rfl, hq1, hq2⟩ := hq
  obtain ⟨n_2a, o_2a, k_2a, c_2a, n_2b, o_2b, k_2b, c_2b, rfl, hc1, hc2⟩ := hc
  obtain ⟨n_3a, o_3a, k_3a, c_3a, n_3b, o_3b, k_3b, c_3b, rfl, hd1, hd2⟩ := hd
  go_enter Tryz.func5, Tryz.ntmps5
  have hs := St.nil w
  refine wp_seq_k ?_
  intro K1 hK1
  refine rg [0, 1, 2, 3, 4] ?_
  refine sq ?_
  refine .al hs ?_; clear hs; intro p_b1 w_1 hs n1 kb_b1
  refine sq ?_
  refine .al hs ?_; clear hs; intro p_b2 w_2 hs n2 kb_b2
  refine sq ?_
  refine .al hs ?_; clear hs; intro p_b3 w_3 hs n3 kb_b3
  refine sq ?_
  refine .al hs ?_; clear hs; intro p_b4 w_4 hs n4 kb_b4
  refine sq ?_
  refine .mv ?_
  apply wpSq_end
  refine hK1 _ _ ?_
  refine wp_seq_k ?_
  intro K2 hK2
  refine rg [0, 1, 2, 3, 4, 5, 6, 7, 8, 9, 10] ?_
  refine sq ?_
  refine .r4 hs.g3.f4 ?_
  refine sq ?_
  refine .r4 hs.g2.f4 ?_
  refine sq ?_
  refine .r4 hs.g1.f4 ?_
  refine sq ?_
  refine .r4 hs.g0.f4 ?_
  refine sq ?_
  intro K hK
  have k0_4 := (((kb n1).b n2).b n3).b n4
  replace ha1 := ha1.k k0_4
  replace ha2 := ha2.k k0_4
  replace hq1 := hq1.k k0_4
  replace hq2 := hq2.k k0_4
  replace hc1 := hc1.k k0_4
  replace hc2 := hc2.k k0_4
  replace hd1 := hd1.k k0_4
  replace hd2 := hd2.k k0_4
  go_big_op
  go_fit (gCrt_any (.mk' ha1 ha2) (.mk' hq1 hq2) (.mk' hc1 hc2) (.mk' hd1 hd2) (by omega) (by omega) (by omega) (by omega) (by omega) (by omega) HH.out.1 HH.out.2.1 HH.out.2.2)
  rintro e w_5 ⟨_, rfl, ⟨n_ca, o_ca, k_ca, c_ca, n_cb, o_cb, k_cb, c_cb, rfl, c1, c2⟩, hb_5⟩
  replace hs := hs.bl hb_5
  refine hK _ _ rfl trivial ?_
  clear hK K
  refine sq ?_
  refine .mv ?_
  refine sq ?_
  refine .r0 ?_
  refine sq ?_
  refine .r0 ?_
  refine sq ?_
  refine .al hs ?_; clear hs; intro p_b5 w_6 hs n6 kb_b5
  refine sq ?_
  refine .s4 hs.g0 (fun _ => hs.u0 kb_b5) ?_; clear hs; intro w_7 hs hd7 ho7
  refine sq ?_
  refine .mv ?_
  apply wpSq_end
  refine hK2 _ _ ?_
  refine wp_seq_k ?_
  intro K3 hK3
  refine wp_seq_k ?_
  intro K4 hK4
  refine rg [0, 1] ?_
  refine sq ?_
  intro K hK
  go_big_op
  go_fit (awake5_any _)
  rintro e w_8 ⟨rfl, hb_8⟩
  replace hs := hs.bl hb_8
  refine hK _ _ rfl trivial ?_
  clear hK K
  refine sq ?_
  refine .r0 ?_
  apply wpSq_end
  refine hK4 _ _ ?_
  refine cf ?_
  refine wp_skip ?_
  refine hK3 _ _ ?_
  refine wp_seq_k ?_
  intro K5 hK5
  refine wp_seq_k ?_
  intro K6 hK6
  refine rg [0, 1, 2, 3, 4, 5] ?_
  refine sq ?_
  refine .r4 hs.g3.f4 ?_
  refine sq ?_
  intro K hK
  have k4_8 := (((kb hb_5).b n6).o hd7 ho7).b hb_8
  replace hq1 := hq1.k k4_8
  replace hq2 := hq2.k k4_8
  go_big_op
  go_fit (rgNull_any (.mk' hq1 hq2) (by omega) (by omega))
  rintro e w_9 ⟨rfl, hb_9⟩
  replace hs := hs.bl hb_9
  rw [HD.out]
  refine hK _ _ rfl trivial ?_
  clear hK K
  refine sq ?_
  refine .mv ?_
  refine sq ?_
  refine .r4 hs.g1.f4 ?_
  refine sq ?_
  intro K hK
  have k4_9 := k4_8.b hb_9
  replace hd1 := hd1.k k4_9
  replace hd2 := hd2.k k4_9
  go_big_op
  go_fit (rgNull_any (.mk' hd1 hd2) (by omega) (by omega))
  rintro e w_10 ⟨rfl, hb_10⟩
  replace hs := hs.bl hb_10
  rw [HE.out]
  refine hK _ _ rfl trivial ?_
  clear hK K
  refine sq ?_
  refine .r0 ?_
  apply wpSq_end
  refine hK6 _ _ ?_
  refine cf ?_
  refine wp_skip ?_
  refine hK5 _ _ ?_
  refine wp_seq_k ?_
  intro K7 hK7
  refine wp_seq_k ?_
  intro K8 hK8
  refine rg [0, 1, 2, 3] ?_
  refine sq ?_
  refine .r4 hs.g3.f4 ?_
  refine sq ?_
  refine .r4 hs.g1.f4 ?_
  refine sq ?_
  intro K hK
  have k8_10 := (kb hb_9).b hb_10
  replace hq1 := hq1.k k8_10
  replace hq2 := hq2.k k8_10
  have k9_10 := kb hb_10
  replace hd1 := hd1.k k9_10
  replace hd2 := hd2.k k9_10
  go_big_op
  go_fit (rone_yes (L := 1048576) (.mk' hq1 hq2) (.mk' hd1 hd2) (by omega) HH.out.2.2)
  rintro e w_11 ⟨rfl, hb_11⟩
  replace hs := hs.bl hb_11
  refine hK _ _ rfl trivial ?_
  clear hK K
  refine sq ?_
  refine .r0 ?_
  apply wpSq_end
  refine hK8 _ _ ?_
  refine cf ?_
  refine wp_skip ?_
  refine hK7 _ _ ?_
  refine wp_seq_k ?_
  intro K9 hK9
  refine wp_region_f4 [(0, false), (1, false), (2, false), (3, false), (4, false), (5, false), (6, true), (7, true), (8, false)] [] [] (fun _ => default) [0, 99, 1, 2, 3, 4, 99, 99, 99] [] (.c hs.g0 (.c hs.g4 (.c hs.g3 (.c hs.g2 (.c hs.g1 .n))))) fn fun w_12 n12 => ?_
  replace hs := hs.bl n12
  refine f4 ?_
  refine fmv ?_
  refine f4 ?_
  refine f4 ?_
  refine f4 ?_
  refine f4 ?_
  refine fl fun w_13 n13 => ?_
  replace hs := hs.bl n13
  intro K hK
  have k4_13 := (((k4_9.b hb_10).b hb_11).b n12).b n13
  replace ha1 := ha1.k k4_13
  replace ha2 := ha2.k k4_13
  have k10_13 := ((kb hb_11).b n12).b n13
  replace hq1 := hq1.k k10_13
  replace hq2 := hq2.k k10_13
  replace hc1 := hc1.k k4_13
  replace hc2 := hc2.k k4_13
  replace hd1 := hd1.k k10_13
  replace hd2 := hd2.k k10_13
  go_big_op
  go_fit (rcrt_any (L := 1048576) (.mk' ha1 ha2) (.mk' hq1 hq2) (.mk' hc1 hc2) (.mk' hd1 hd2) (by omega) HH.out.1 HH.out.2.1)
  rintro e w_14 ⟨_, rfl, ⟨n_da, o_da, k_da, c_da, n_db, o_db, k_db, c_db, rfl, d1, d2⟩, hb_14⟩
  replace hs := hs.bl hb_14
  have Ld1 := hide (d1.lenOf (LV.out.1))
  have Ld2 := hide (d2.lenOf (LV.out.2))
  refine hK _ _ rfl ⟨hb_14, (And.intro hs.g0 (And.intro hs.g4 (And.intro hs.g3 (And.intro hs.g2 (And.intro hs.g1 trivial)))))⟩ ?_
  clear hK K
  refine fl fun w_15 n15 => ?_
  replace hs := hs.bl n15
  intro K hK
  have k5_15 := (((((((((kb n6).o hd7 ho7).b hb_8).b hb_9).b hb_10).b hb_11).b n12).b n13).b hb_14).b n15
  replace c1 := c1.k k5_15
  replace c2 := c2.k k5_15
  have k14_15 := kb n15
  replace d1 := d1.k k14_15
  replace d2 := d2.k k14_15
  go_big_op
  go_fit (told_ok (.mk' c1 c2) (.mk' (d1.zn Ld1.out) (d2.zn Ld2.out)) (by omega) (by omega))
  rintro e w_16 ⟨rfl, hb_16⟩
  replace hs := hs.bl hb_16
  refine hK _ _ rfl ⟨hb_16, (And.intro hs.g0 (And.intro hs.g4 (And.intro hs.g3 (And.intro hs.g2 (And.intro hs.g1 trivial)))))⟩ ?_
  clear hK K
  refine fmv ?_
  refine e0 hs ?_; clear hs; intro w_17 hs n17
  apply wpTail_end
  refine hK9 _ _ ?_
  refine wp_ret ?_
  try dsimp only [Exit.then, Exit.inBlock]
  refine bodyPost_ret (v := (.bool true)) (by simp [results, Tryz.results5, go_sem]) rfl ?_
  have hb := hs.b
  exact ⟨rfl, hb⟩
end
theorem walk_GresCrts (w : World) (n1 : Bool) (s1 : Value) (xs : List Nat) (h1 : Rd w s1 xs) (l1 : xs.length ≤ 1048576) (n2 : Bool) (s2 : Value) (ys : List Nat) (h2 : Rd w s2 ys) (l2 : ys.length ≤ 1048576)
    (n3 : Bool) (s3 : Value) (us : List Nat) (h3 : Rd w s3 us) (l3 : us.length ≤ 1048576) (n4 : Bool) (s4 : Value) (vs : List Nat) (h4 : Rd w s4 vs) (l4 : vs.length ≤ 1048576)
    (n5 : Bool) (s5 : Value) (ts : List Nat) (h5 : Rd w s5 ts) (l5 : ts.length ≤ 1048576) (n6 : Bool) (s6 : Value) (bs : List Nat) (h6 : Rd w s6 bs) (l6 : bs.length ≤ 1048576)
    (n7 : Bool) (s7 : Value) (ps : List Nat) (h7 : Rd w s7 ps) (l7 : ps.length ≤ 1048576) (n8 : Bool) (s8 : Value) (qs : List Nat) (h8 : Rd w s8 qs) (l8 : qs.length ≤ 1048576) :
    Calls Tryz.prog 5 #[.agg #[.bool n1, s1, .bool n2, s2], .agg #[.bool n3, s3, .bool n4, s4], .agg #[.bool n5, s5, .bool n6, s6], .agg #[.bool n7, s7, .bool n8, s8]] w fun e w' => e = .returned (.bool true) ∧ Below w.heap.size w w' := by
  have ha := PN.of_rd n1 n2 h1 l1 h2 l2
  have hq := PN.of_rd n3 n4 h3 l3 h4 l4
  have hc := PN.of_rd n5 n6 h5 l5 h6 l6
  have hd := PN.of_rd n7 n8 h7 l7 h8 l8
  by_cases h0 : gN (zv n3 us) (zv n4 vs) = 0
  · obtain ⟨e1, e2⟩ := gN_zero.1 h0
    rw [e1, e2] at hq; exact gcrts_zero1 ha hq hc hd
  · by_cases h1 : gN (zv n7 ps) (zv n8 qs) = 0
    · obtain ⟨e1, e2⟩ := gN_zero.1 h1
      rw [e1, e2] at hd; exact gcrts_zero2 ha hq hc hd h0
    · by_cases hI : gInv (zv n3 us) (zv n4 vs) (zv n7 ps) (zv n8 qs)
      · exact gcrts_some ha hq hc hd h0 h1 hI
      · exact gcrts_none ha hq hc hd h0 h1 hI
end Go.Proofs.YtbiiglcfdphmaaaGreat
