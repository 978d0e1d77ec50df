/- The walk of GintTexts. -/
import Derived.Test.YtlomgfgedkkhkaaGreatDoorG10ToKz
namespace Go.Proofs.YtlomgfgedkkhkaaGreatDoor
open Go Go.RowKit Dig
set_option linter.unusedVariables false
section
variable {w : World} {va : Value} {x y X Y : Int} {s : ByteArray}
set_option maxHeartbeats 4000000 in
set_option maxRecDepth 20000 in
theorem rp_long (w : World) (hl : 65536 < s.size) (hs2 : s.size ≤ 1048576) : Calls Tryz.prog 21 #[.string s] w fun e w' => e = .returned (.tuple #[.agg #[.bool false, .slice none 0 0, .bool false, .slice none 0 0], .int .i64 12]) ∧ Below w.heap.size w w' := by
  have hs1 : (65536 < (s.size : Int)) = True := eq_true (by omega)
  go_enter Tryz.func21, Tryz.ntmps21
  have hs := St.nil w
  refine wp_seq_k ?_
  intro K1 hK1
  refine rg [0, 1] ?_
  refine sq ?_
  refine .al hs ?_; clear hs; intro p_b1 w_1 hs n1 kb_b1
  refine sq ?_
  refine .mv ?_
  apply wpSq_end
  refine hK1 _ _ ?_
  refine wp_seq_k ?_
  intro K2 hK2
  refine wp_seq_k ?_
  intro K3 hK3
  refine rg [0, 1, 2] ?_
  refine sq ?_
  refine .mv ?_
  refine sq ?_
  refine .r0 ?_
  refine sq ?_
  refine .r0 ?_
  apply wpSq_end
  refine hK3 _ _ ?_
  refine ct ?_
  refine wp_seq_k ?_
  intro K4 hK4
  refine rg [0, 1, 2] ?_
  refine sq ?_
  refine .r0 ?_
  refine sq ?_
  refine .s4 hs.g0 (fun _ => hs.u0 kb_b1) ?_; clear hs; intro w_2 hs hd2 ho2
  refine sq ?_
  refine .mv ?_
  apply wpSq_end
  refine hK4 _ _ ?_
  refine wp_ret ?_
  try dsimp only [Exit.then, Exit.inBlock]
  obtain ⟨r0_0, r0_1, r0_2, r0_3⟩ := hs.g0.f4
  refine bodyPost_ret (v := (.tuple #[(.agg #[.bool false, .slice none 0 0, .bool false, .slice none 0 0]), (.int .i64 12)])) (by simp [results, Tryz.results21, go_sem, r0_0, r0_1, r0_2, r0_3]) rfl ?_
  have hb := hs.b
  exact ⟨rfl, hb⟩
set_option maxHeartbeats 8000000 in
set_option maxRecDepth 20000 in
theorem gtexts_long (ha : PN w va x 1048576 y 1048576) (hl : 65536 < s.size) (hs2 : s.size ≤ 1048576) (htab : Lib.TabIs Tryz.prog w p10 .u64 Lib.pow10Tab) :
    Calls Tryz.prog 4 #[va, .string s] w fun e w' => e = .returned (.bool true) ∧ Below w.heap.size w w' := by
  have htabs := Lib.tabBelow_of_tabIs htab
  obtain ⟨G, hG⟩ : ∃ G, gts x y = G := ⟨_, rfl⟩
  have HG := hide hG
  have qG : (G.toList != G.toList) = false := by simp
  clear hG
  obtain ⟨n_0a, o_0a, k_0a, c_0a, n_0b, o_0b, k_0b, c_0b, rfl, ha1, ha2⟩ := ha
  go_enter Tryz.func4, Tryz.ntmps4
  have hs := St.nil w
  refine wp_seq_k ?_
  intro K1 hK1
  refine rg [0, 1] ?_
  refine sq ?_
  refine .al hs ?_; clear hs; intro p_b1 w_1 hs n1 kb_b1
  refine sq ?_
  refine .mv ?_
  apply wpSq_end
  refine hK1 _ _ ?_
  refine wp_seq_k ?_
  intro K2 hK2
  refine rg [0, 1, 2, 3, 4, 5, 6, 7] ?_
  refine sq ?_
  refine .mv ?_
  refine sq ?_
  intro K hK
  go_big_op
  go_fit (gparse_long s _ hl)
  rintro e w_2 ⟨rfl, hb_2⟩
  replace hs := hs.bl hb_2
  refine hK _ _ rfl trivial ?_
  clear hK K
  refine sq ?_
  refine .mv ?_
  refine sq ?_
  refine .r0 ?_
  refine sq ?_
  refine .r0 ?_
  refine sq ?_
  refine .al hs ?_; clear hs; intro p_b2 w_3 hs n3 kb_b2
  refine sq ?_
  refine .s4 hs.g0 (fun _ => hs.u0 kb_b2) ?_; clear hs; intro w_4 hs hd4 ho4
  refine sq ?_
  refine .mv ?_
  apply wpSq_end
  refine hK2 _ _ ?_
  refine wp_seq_k ?_
  intro K3 hK3
  refine rg [0, 1, 2, 3, 4, 5, 6, 7] ?_
  refine sq ?_
  refine .mv ?_
  refine sq ?_
  intro K hK
  go_big_op
  go_fit (rp_long _ hl hs2)
  rintro e w_5 ⟨rfl, hb_5⟩
  replace hs := hs.bl hb_5
  refine hK _ _ rfl trivial ?_
  clear hK K
  refine sq ?_
  refine .mv ?_
  refine sq ?_
  refine .r0 ?_
  refine sq ?_
  refine .r0 ?_
  refine sq ?_
  refine .al hs ?_; clear hs; intro p_b3 w_6 hs n6 kb_b3
  refine sq ?_
  refine .s4 hs.g0 (fun _ => hs.u0 kb_b3) ?_; clear hs; intro w_7 hs hd7 ho7
  refine sq ?_
  refine .mv ?_
  apply wpSq_end
  refine hK3 _ _ ?_
  refine wp_seq_k ?_
  intro K4 hK4
  refine wp_seq_k ?_
  intro K5 hK5
  refine wp_region_f4 [(0, true), (1, false), (2, false), (3, false), (5, false), (4, true), (6, true), (7, false), (8, false)] [] [] (fun _ => default) [99, 99, 99, 0, 99, 0, 99, 99, 99] [] (.c hs.g2 .n) fn fun w_8 n8 => ?_
  replace hs := hs.bl n8
  refine fl fun w_9 n9 => ?_
  replace hs := hs.bl n9
  intro K hK
  have hb := hs.b
  go_big_op
  go_fit (gawake_any _ (htabs _ hb))
  rintro e w_10 ⟨rfl, hb_10⟩
  clear hb
  replace hs := hs.bl hb_10
  refine hK _ _ rfl ⟨hb_10, (And.intro hs.g2 trivial)⟩ ?_
  clear hK K
  refine f0 ?_
  refine fmv ?_
  refine f4 ?_
  refine f4 ?_
  refine fl fun w_11 n11 => ?_
  replace hs := hs.bl n11
  intro K hK
  have k0_11 := ((((((((((kb n1).b hb_2).b n3).o hd4 ho4).b hb_5).b n6).o hd7 ho7).b n8).b n9).b hb_10).b n11
  replace ha1 := ha1.k k0_11
  replace ha2 := ha2.k k0_11
  have hb := hs.b
  go_big_op
  go_fit (gText_any (.mk' ha1 ha2) (by decide) (by decide) (htabs _ hb))
  rintro e w_12 ⟨rfl, hb_12⟩
  clear hb
  replace hs := hs.bl hb_12
  rw [HG.out]
  refine hK _ _ rfl ⟨hb_12, (And.intro hs.g2 trivial)⟩ ?_
  clear hK K
  refine fl fun w_13 n13 => ?_
  replace hs := hs.bl n13
  intro K hK
  have k11_13 := (kb hb_12).b n13
  replace ha1 := ha1.k k11_13
  replace ha2 := ha2.k k11_13
  go_big_op
  go_fit (rText_any (.mk' ha1 ha2) (by decide) (by decide))
  rintro e w_14 ⟨rfl, hb_14⟩
  replace hs := hs.bl hb_14
  rw [HG.out]
  refine hK _ _ rfl ⟨hb_14, (And.intro hs.g2 trivial)⟩ ?_
  clear hK K
  refine f0 ?_
  refine f0 ?_
  refine e0 hs ?_; clear hs; intro w_15 hs n15
  apply wpTail_end
  refine hK5 _ _ ?_
  refine cf ?_
  refine wp_skip ?_
  refine hK4 _ _ ?_
  refine wp_seq_k ?_
  intro K6 hK6
  refine wp_seq_k ?_
  intro K7 hK7
  refine rg [0, 1] ?_
  refine sq ?_
  refine .mv ?_
  refine sq ?_
  refine .r0 ?_
  apply wpSq_end
  refine hK7 _ _ ?_
  refine ct ?_
  refine wp_seq_k ?_
  intro K8 hK8
  refine rg [0, 1, 2, 3, 4, 5, 6, 7] ?_
  refine sq ?_
  refine .mv ?_
  refine sq ?_
  refine .mv ?_
  refine sq ?_
  refine .r0 ?_
  refine sq ?_
  refine .mv ?_
  refine sq ?_
  refine .r4 hs.g1.f4 ?_
  refine sq ?_
  intro K hK
  go_big_op
  go_fit (rgZero4_any _)
  rintro e w_16 ⟨rfl, hb_16⟩
  replace hs := hs.bl hb_16
  refine hK _ _ rfl trivial ?_
  clear hK K
  refine sq ?_
  refine .r0 ?_
  refine sq ?_
  refine .mv ?_
  apply wpSq_end
  refine hK8 _ _ ?_
  refine wp_ret ?_
  try dsimp only [Exit.then, Exit.inBlock]
  refine bodyPost_ret (v := (.bool true)) (by simp [results, Tryz.results4, go_sem]) rfl ?_
  have hb := hs.b
  exact ⟨rfl, hb⟩
set_option maxHeartbeats 8000000 in
set_option maxRecDepth 20000 in
theorem gtexts_no (ha : PN w va x 1048576 y 1048576) (hP : PgC s none) (hR : RfC s none) (htab : Lib.TabIs Tryz.prog w p10 .u64 Lib.pow10Tab) :
    Calls Tryz.prog 4 #[va, .string s] w fun e w' => e = .returned (.bool true) ∧ Below w.heap.size w w' := by
  have htabs := Lib.tabBelow_of_tabIs htab
  have HP := hide hP
  have HR := hide hR
  obtain ⟨G, hG⟩ : ∃ G, gts x y = G := ⟨_, rfl⟩
  have HG := hide hG
  have qG : (G.toList != G.toList) = false := by simp
  clear hG hP hR
  obtain ⟨n_0a, o_0a, k_0a, c_0a, n_0b, o_0b, k_0b, c_0b, rfl, ha1, ha2⟩ := ha
  go_enter Tryz.func4, Tryz.ntmps4
  have hs := St.nil w
  refine wp_seq_k ?_
  intro K1 hK1
  refine rg [0, 1] ?_
  refine sq ?_
  refine .al hs ?_; clear hs; intro p_b1 w_1 hs n1 kb_b1
  refine sq ?_
  refine .mv ?_
  apply wpSq_end
  refine hK1 _ _ ?_
  refine wp_seq_k ?_
  intro K2 hK2
  refine rg [0, 1, 2, 3, 4, 5, 6, 7] ?_
  refine sq ?_
  refine .mv ?_
  refine sq ?_
  intro K hK
  go_big_op
  go_fit (HP.out _)
  rintro e w_2 ⟨rfl, hb_2⟩
  replace hs := hs.bl hb_2
  refine hK _ _ rfl trivial ?_
  clear hK K
  refine sq ?_
  refine .mv ?_
  refine sq ?_
  refine .r0 ?_
  refine sq ?_
  refine .r0 ?_
  refine sq ?_
  refine .al hs ?_; clear hs; intro p_b2 w_3 hs n3 kb_b2
  refine sq ?_
  refine .s4 hs.g0 (fun _ => hs.u0 kb_b2) ?_; clear hs; intro w_4 hs hd4 ho4
  refine sq ?_
  refine .mv ?_
  apply wpSq_end
  refine hK2 _ _ ?_
  refine wp_seq_k ?_
  intro K3 hK3
  refine rg [0, 1, 2, 3, 4, 5, 6, 7] ?_
  refine sq ?_
  refine .mv ?_
  refine sq ?_
  intro K hK
  go_big_op
  go_fit (HR.out _)
  rintro e w_5 ⟨rfl, hb_5⟩
  replace hs := hs.bl hb_5
  refine hK _ _ rfl trivial ?_
  clear hK K
  refine sq ?_
  refine .mv ?_
  refine sq ?_
  refine .r0 ?_
  refine sq ?_
  refine .r0 ?_
  refine sq ?_
  refine .al hs ?_; clear hs; intro p_b3 w_6 hs n6 kb_b3
  refine sq ?_
  refine .s4 hs.g0 (fun _ => hs.u0 kb_b3) ?_; clear hs; intro w_7 hs hd7 ho7
  refine sq ?_
  refine .mv ?_
  apply wpSq_end
  refine hK3 _ _ ?_
  refine wp_seq_k ?_
  intro K4 hK4
  refine wp_seq_k ?_
  intro K5 hK5
  refine wp_region_f4 [(0, true), (1, false), (2, false), (3, false), (5, false), (4, true), (6, true), (7, false), (8, false)] [] [] (fun _ => default) [99, 99, 99, 0, 99, 0, 99, 99, 99] [] (.c hs.g2 .n) fn fun w_8 n8 => ?_
  replace hs := hs.bl n8
  refine fl fun w_9 n9 => ?_
  replace hs := hs.bl n9
  intro K hK
  have hb := hs.b
  go_big_op
  go_fit (gawake_any _ (htabs _ hb))
  rintro e w_10 ⟨rfl, hb_10⟩
  clear hb
  replace hs := hs.bl hb_10
  refine hK _ _ rfl ⟨hb_10, (And.intro hs.g2 trivial)⟩ ?_
  clear hK K
  refine f0 ?_
  refine fmv ?_
  refine f4 ?_
  refine f4 ?_
  refine fl fun w_11 n11 => ?_
  replace hs := hs.bl n11
  intro K hK
  have k0_11 := ((((((((((kb n1).b hb_2).b n3).o hd4 ho4).b hb_5).b n6).o hd7 ho7).b n8).b n9).b hb_10).b n11
  replace ha1 := ha1.k k0_11
  replace ha2 := ha2.k k0_11
  have hb := hs.b
  go_big_op
  go_fit (gText_any (.mk' ha1 ha2) (by decide) (by decide) (htabs _ hb))
  rintro e w_12 ⟨rfl, hb_12⟩
  clear hb
  replace hs := hs.bl hb_12
  rw [HG.out]
  refine hK _ _ rfl ⟨hb_12, (And.intro hs.g2 trivial)⟩ ?_
  clear hK K
  refine fl fun w_13 n13 => ?_
  replace hs := hs.bl n13
  intro K hK
  have k11_13 := (kb hb_12).b n13
  replace ha1 := ha1.k k11_13
  replace ha2 := ha2.k k11_13
  go_big_op
  go_fit (rText_any (.mk' ha1 ha2) (by decide) (by decide))
  rintro e w_14 ⟨rfl, hb_14⟩
  replace hs := hs.bl hb_14
  rw [HG.out]
  refine hK _ _ rfl ⟨hb_14, (And.intro hs.g2 trivial)⟩ ?_
  clear hK K
  refine f0 ?_
  refine f0 ?_
  refine e0 hs ?_; clear hs; intro w_15 hs n15
  apply wpTail_end
  refine hK5 _ _ ?_
  refine cf ?_
  refine wp_skip ?_
  refine hK4 _ _ ?_
  refine wp_seq_k ?_
  intro K6 hK6
  refine wp_seq_k ?_
  intro K7 hK7
  refine rg [0, 1] ?_
  refine sq ?_
  refine .mv ?_
  refine sq ?_
  refine .r0 ?_
  apply wpSq_end
  refine hK7 _ _ ?_
  refine ct ?_
  refine wp_seq_k ?_
  intro K8 hK8
  refine rg [0, 1, 2, 3, 4, 5, 6, 7] ?_
  refine sq ?_
  refine .mv ?_
  refine sq ?_
  refine .mv ?_
  refine sq ?_
  refine .r0 ?_
  refine sq ?_
  refine .mv ?_
  refine sq ?_
  refine .r4 hs.g1.f4 ?_
  refine sq ?_
  intro K hK
  go_big_op
  go_fit (rgZero4_any _)
  rintro e w_16 ⟨rfl, hb_16⟩
  replace hs := hs.bl hb_16
  refine hK _ _ rfl trivial ?_
  clear hK K
  refine sq ?_
  refine .r0 ?_
  refine sq ?_
  refine .mv ?_
  apply wpSq_end
  refine hK8 _ _ ?_
  refine wp_ret ?_
  try dsimp only [Exit.then, Exit.inBlock]
  refine bodyPost_ret (v := (.bool true)) (by simp [results, Tryz.results4, go_sem]) rfl ?_
  have hb := hs.b
  exact ⟨rfl, hb⟩
set_option maxHeartbeats 8000000 in
set_option maxRecDepth 20000 in
theorem gtexts_yes (ha : PN w va x 1048576 y 1048576) (hP : PgC s (some (X, Y))) (hR : RfC s (some (X, Y))) (hX : (dig X.natAbs).length ≤ 8192) (hY : (dig Y.natAbs).length ≤ 8192) (htab : Lib.TabIs Tryz.prog w p10 .u64 Lib.pow10Tab) :
    Calls Tryz.prog 4 #[va, .string s] w fun e w' => e = .returned (.bool true) ∧ Below w.heap.size w w' := by
  have htabs := Lib.tabBelow_of_tabIs htab
  have HP := hide hP
  have HR := hide hR
  obtain ⟨G, hG⟩ : ∃ G, gts x y = G := ⟨_, rfl⟩
  have HG := hide hG
  have qG : (G.toList != G.toList) = false := by simp
  clear hG hP hR
  obtain ⟨n_0a, o_0a, k_0a, c_0a, n_0b, o_0b, k_0b, c_0b, rfl, ha1, ha2⟩ := ha
  go_enter Tryz.func4, Tryz.ntmps4
  have hs := St.nil w
  refine wp_seq_k ?_
  intro K1 hK1
  refine rg [0, 1] ?_
  refine sq ?_
  refine .al hs ?_; clear hs; intro p_b1 w_1 hs n1 kb_b1
  refine sq ?_
  refine .mv ?_
  apply wpSq_end
  refine hK1 _ _ ?_
  refine wp_seq_k ?_
  intro K2 hK2
  refine rg [0, 1, 2, 3, 4, 5, 6, 7] ?_
  refine sq ?_
  refine .mv ?_
  refine sq ?_
  intro K hK
  go_big_op
  go_fit (HP.out _)
  rintro e w_2 ⟨_, rfl, ⟨n_fa, o_fa, k_fa, c_fa, n_fb, o_fb, k_fb, c_fb, rfl, f1, f2⟩, hb_2⟩
  replace hs := hs.bl hb_2
  refine hK _ _ rfl trivial ?_
  clear hK K
  refine sq ?_
  refine .mv ?_
  refine sq ?_
  refine .r0 ?_
  refine sq ?_
  refine .r0 ?_
  refine sq ?_
  refine .al hs ?_; clear hs; intro p_b2 w_3 hs n3 kb_b2
  refine sq ?_
  refine .s4 hs.g0 (fun _ => hs.u0 kb_b2) ?_; clear hs; intro w_4 hs hd4 ho4
  refine sq ?_
  refine .mv ?_
  apply wpSq_end
  refine hK2 _ _ ?_
  refine wp_seq_k ?_
  intro K3 hK3
  refine rg [0, 1, 2, 3, 4, 5, 6, 7] ?_
  refine sq ?_
  refine .mv ?_
  refine sq ?_
  intro K hK
  go_big_op
  go_fit (HR.out _)
  rintro e w_5 ⟨_, rfl, ⟨n_ga, o_ga, k_ga, c_ga, n_gb, o_gb, k_gb, c_gb, rfl, g1, g2⟩, hb_5⟩
  replace hs := hs.bl hb_5
  refine hK _ _ rfl trivial ?_
  clear hK K
  refine sq ?_
  refine .mv ?_
  refine sq ?_
  refine .r0 ?_
  refine sq ?_
  refine .r0 ?_
  refine sq ?_
  refine .al hs ?_; clear hs; intro p_b3 w_6 hs n6 kb_b3
  refine sq ?_
  refine .s4 hs.g0 (fun _ => hs.u0 kb_b3) ?_; clear hs; intro w_7 hs hd7 ho7
  refine sq ?_
  refine .mv ?_
  apply wpSq_end
  refine hK3 _ _ ?_
  refine wp_seq_k ?_
  intro K4 hK4
  refine wp_seq_k ?_
  intro K5 hK5
  refine wp_region_f4 [(0, true), (1, false), (2, false), (3, false), (5, false), (4, true), (6, true), (7, false), (8, false)] [] [] (fun _ => default) [99, 99, 99, 0, 99, 0, 99, 99, 99] [] (.c hs.g2 .n) fn fun w_8 n8 => ?_
  replace hs := hs.bl n8
  refine fl fun w_9 n9 => ?_
  replace hs := hs.bl n9
  intro K hK
  have hb := hs.b
  go_big_op
  go_fit (gawake_any _ (htabs _ hb))
  rintro e w_10 ⟨rfl, hb_10⟩
  clear hb
  replace hs := hs.bl hb_10
  refine hK _ _ rfl ⟨hb_10, (And.intro hs.g2 trivial)⟩ ?_
  clear hK K
  refine f0 ?_
  refine fmv ?_
  refine f4 ?_
  refine f4 ?_
  refine fl fun w_11 n11 => ?_
  replace hs := hs.bl n11
  intro K hK
  have k0_11 := ((((((((((kb n1).b hb_2).b n3).o hd4 ho4).b hb_5).b n6).o hd7 ho7).b n8).b n9).b hb_10).b n11
  replace ha1 := ha1.k k0_11
  replace ha2 := ha2.k k0_11
  have hb := hs.b
  go_big_op
  go_fit (gText_any (.mk' ha1 ha2) (by decide) (by decide) (htabs _ hb))
  rintro e w_12 ⟨rfl, hb_12⟩
  clear hb
  replace hs := hs.bl hb_12
  rw [HG.out]
  refine hK _ _ rfl ⟨hb_12, (And.intro hs.g2 trivial)⟩ ?_
  clear hK K
  refine fl fun w_13 n13 => ?_
  replace hs := hs.bl n13
  intro K hK
  have k11_13 := (kb hb_12).b n13
  replace ha1 := ha1.k k11_13
  replace ha2 := ha2.k k11_13
  go_big_op
  go_fit (rText_any (.mk' ha1 ha2) (by decide) (by decide))
  rintro e w_14 ⟨rfl, hb_14⟩
  replace hs := hs.bl hb_14
  rw [HG.out]
  refine hK _ _ rfl ⟨hb_14, (And.intro hs.g2 trivial)⟩ ?_
  clear hK K
  refine f0 ?_
  refine f0 ?_
  refine e0 hs ?_; clear hs; intro w_15 hs n15
  apply wpTail_end
  refine hK5 _ _ ?_
  refine cf ?_
  refine wp_skip ?_
  refine hK4 _ _ ?_
  refine wp_seq_k ?_
  intro K6 hK6
  refine wp_seq_k ?_
  intro K7 hK7
  refine rg [0, 1] ?_
  refine sq ?_
  refine .mv ?_
  refine sq ?_
  refine .r0 ?_
  apply wpSq_end
  refine hK7 _ _ ?_
  refine cf ?_
  refine wp_skip ?_
  refine hK6 _ _ ?_
  refine wp_seq_k ?_
  intro K8 hK8
  refine rg [0, 1, 2, 3, 4, 5, 6, 7] ?_
  refine sq ?_
  refine .mv ?_
  refine sq ?_
  refine .r0 ?_
  refine sq ?_
  refine .mv ?_
  refine sq ?_
  refine .r4 hs.g1.f4 ?_
  refine sq ?_
  refine .r4 hs.g0.f4 ?_
  refine sq ?_
  intro K hK
  have k2_15 := ((((((((((((kb n3).o hd4 ho4).b hb_5).b n6).o hd7 ho7).b n8).b n9).b hb_10).b n11).b hb_12).b n13).b hb_14).b n15
  replace f1 := f1.k k2_15
  replace f2 := f2.k k2_15
  have k5_15 := (((((((((kb n6).o hd7 ho7).b n8).b n9).b hb_10).b n11).b hb_12).b n13).b hb_14).b n15
  replace g1 := g1.k k5_15
  replace g2 := g2.k k5_15
  go_big_op
  go_fit (gis_any (.mk' f1 f2) (.mk' (g1.zn hX) (g2.zn hY)) (by decide) (by decide))
  rintro e w_16 ⟨rfl, hb_16⟩
  replace hs := hs.bl hb_16
  refine hK _ _ rfl trivial ?_
  clear hK K
  refine sq ?_
  refine .r0 ?_
  refine sq ?_
  refine .mv ?_
  apply wpSq_end
  refine hK8 _ _ ?_
  refine wp_ret ?_
  try dsimp only [Exit.then, Exit.inBlock]
  refine bodyPost_ret (v := (.bool true)) (by simp [results, Tryz.results4, go_sem]) rfl ?_
  have hb := hs.b
  exact ⟨rfl, hb⟩
end
theorem walk_GintTexts (w : World) (n1 : Bool) (s1 : Value) (xs : List Nat) (h1 : Rd w s1 xs) (l1 : xs.length ≤ 1048576) (n2 : Bool) (s2 : Value) (ys : List Nat) (h2 : Rd w s2 ys) (l2 : ys.length ≤ 1048576) (s : ByteArray) (hs : s.size ≤ 1048576) (htab : Lib.TabIs Tryz.prog w p10 .u64 Lib.pow10Tab) :
    Calls Tryz.prog 4 #[.agg #[.bool n1, s1, .bool n2, s2], .string s] w fun e w' => e = .returned (.bool true) ∧ Below w.heap.size w w' := by
  have ha := PN.of_rd n1 n2 h1 l1 h2 l2
  rcases Nat.lt_or_ge 65536 s.size with hl | hl
  · exact gtexts_long ha hl hs htab
  · obtain ⟨o, hP, hR, hlen⟩ := both_c hl
    cases o with
    | none => exact gtexts_no ha hP hR htab
    | some p =>
      obtain ⟨X, Y⟩ := p
      obtain ⟨hX, hY⟩ := hlen X Y rfl
      exact gtexts_yes ha hP hR hX hY htab
end Go.Proofs.YtlomgfgedkkhkaaGreatDoor

