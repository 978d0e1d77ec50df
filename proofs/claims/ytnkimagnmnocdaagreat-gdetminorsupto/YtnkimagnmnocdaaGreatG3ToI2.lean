/- The reference's Gaussian integers; the law's is and g. -/
import Derived.Test.YtnkimagnmnocdaaGreatG1ToG2
import Derived.Test.YtnkimagnmnocdaaGreatY8
import Derived.Test.YtnkimagnmnocdaaGreatWkToMt
import Derived.OrdersIn
import Derived.RangeFuncFrom
import Derived.RangeFuncNested
import Derived.RangeFuncBound

namespace Go.Proofs.YtnkimagnmnocdaaGreat
open Go Go.RowKit Dig
set_option maxHeartbeats 4000000
set_option maxRecDepth 20000
set_option linter.unusedVariables false
section
variable {w : World} {va vb : Value} {x y u v : Int} {l m k n : Nat}
theorem rgAdd_any (ha : PN w va x l y m) (hq : PN w vb u k v n) (hl : l ≤ 100000000) (hm : m ≤ 100000000) (hk : k ≤ 100000000) (hn : n ≤ 100000000) :
    Calls Tryz.prog 146 #[va, vb] w fun e w' => ∃ r, e = .returned r ∧ PC w' r (x + u) (y + v) ∧ Below w.heap.size w w' := by
  obtain ⟨n_0a, o_0a, k_0a, c_0a, n_0b, o_0b, k_0b, c_0b, rfl, ha1, ha2⟩ := ha
  obtain ⟨n_1a, o_1a, k_1a, c_1a, n_1b, o_1b, k_1b, c_1b, rfl, hq1, hq2⟩ := hq
  go_enter Tryz.func146, Tryz.ntmps146
  have hs := St.nil w
  refine wp_seq_k ?_
  intro K1 hK1
  refine rg [0, 1, 2] ?_
  refine sq ?_
  refine .al hs ?_; clear hs; intro p_b1 w_1 hs n1 kb_b1
  refine sq ?_
  refine .al hs ?_; clear hs; intro p_b2 w_2 hs n2 kb_b2
  refine sq ?_
  refine .al hs ?_; clear hs; intro p_b3 w_3 hs n3 kb_b3
  apply wpSq_end
  refine hK1 _ _ ?_
  refine wp_seq_k ?_
  intro K2 hK2
  refine wp_region_f4 [(0, false), (1, false), (2, false), (3, false), (5, false), (6, false), (7, false), (8, false), (4, true), (9, true), (10, false)] [11] [] (fun _ => default) [99, 0, 99, 1, 99, 99, 0, 99, 1, 99, 99, 99] [] (.c hs.g2 (.c hs.g1 .n)) fn fun w_4 n4 => ?_
  replace hs := hs.bl n4
  refine f0 ?_
  refine f4 ?_
  refine f0 ?_
  refine f4 ?_
  refine f0 ?_
  refine f4 ?_
  refine f0 ?_
  refine f4 ?_
  refine fl fun w_5 n5 => ?_
  replace hs := hs.bl n5
  intro K hK
  have k0_5 := ((((kb n1).b n2).b n3).b n4).b n5
  replace ha1 := ha1.k k0_5
  replace hq1 := hq1.k k0_5
  go_big_op
  go_fit (rzadd_any ha1 hq1 (by omega) (by omega) )
  rintro e w_6 ⟨v_g1, rfl, g1, hb_6⟩
  replace hs := hs.bl hb_6
  replace g1 := g1.rd
  obtain ⟨n_g1, o_g1, k_g1, c_g1, rfl⟩ := g1.open2
  refine hK _ _ rfl ⟨hb_6, (And.intro hs.g2 (And.intro hs.g1 trivial))⟩ ?_
  clear hK K
  refine fl fun w_7 n7 => ?_
  replace hs := hs.bl n7
  intro K hK
  have k0_7 := (k0_5.b hb_6).b n7
  replace ha2 := ha2.k k0_7
  replace hq2 := hq2.k k0_7
  go_big_op
  go_fit (rzadd_any ha2 hq2 (by omega) (by omega) )
  rintro e w_8 ⟨v_g2, rfl, g2, hb_8⟩
  replace hs := hs.bl hb_8
  replace g2 := g2.rd
  obtain ⟨n_g2, o_g2, k_g2, c_g2, rfl⟩ := g2.open2
  refine hK _ _ rfl ⟨hb_8, (And.intro hs.g2 (And.intro hs.g1 trivial))⟩ ?_
  clear hK K
  refine f0 ?_
  refine e0 hs ?_; clear hs; intro w_9 hs n9
  refine tl ?_
  refine .s4 hs.g0 (fun _ => hs.u0 kb_b3) ?_ (e := fun _ hs => (And.intro hs.g2 (And.intro hs.g1 True.intro))); clear hs; intro w_10 hs hd10 ho10
  apply wpTail_end
  refine hK2 _ _ ?_
  refine wp_ret ?_
  try dsimp only [Exit.then, Exit.inBlock]
  obtain ⟨r0_0, r0_1, r0_2, r0_3⟩ := hs.g0.f4
  refine bodyPost_ret (v := (.agg #[.bool n_g1, .slice o_g1 k_g1 c_g1, .bool n_g2, .slice o_g2 k_g2 c_g2])) (by simp [results, Tryz.results146, go_sem, r0_0, r0_1, r0_2, r0_3]) rfl ?_
  have k6_10 := (((kb n7).b hb_8).b n9).o hd10 ho10
  replace g1 := g1.k k6_10
  have k8_10 := (kb n9).o hd10 ho10
  replace g2 := g2.k k8_10
  exact ⟨_, rfl, .mk' g1 g2, hs.b⟩
theorem rgSub_any (ha : PN w va x l y m) (hq : PN w vb u k v n) (hl : l ≤ 100000000) (hm : m ≤ 100000000) (hk : k ≤ 100000000) (hn : n ≤ 100000000) :
    Calls Tryz.prog 120 #[va, vb] w fun e w' => ∃ r, e = .returned r ∧ PC w' r (x - u) (y - v) ∧ Below w.heap.size w w' := by
  obtain ⟨n_0a, o_0a, k_0a, c_0a, n_0b, o_0b, k_0b, c_0b, rfl, ha1, ha2⟩ := ha
  obtain ⟨n_1a, o_1a, k_1a, c_1a, n_1b, o_1b, k_1b, c_1b, rfl, hq1, hq2⟩ := hq
  go_enter Tryz.func120, Tryz.ntmps120
  have hs := St.nil w
  refine wp_seq_k ?_
  intro K1 hK1
  refine rg [0, 1, 2] ?_
  refine sq ?_
  refine .al hs ?_; clear hs; intro p_b1 w_1 hs n1 kb_b1
  refine sq ?_
  refine .al hs ?_; clear hs; intro p_b2 w_2 hs n2 kb_b2
  refine sq ?_
  refine .al hs ?_; clear hs; intro p_b3 w_3 hs n3 kb_b3
  apply wpSq_end
  refine hK1 _ _ ?_
  refine wp_seq_k ?_
  intro K2 hK2
  refine wp_region_f4 [(0, false), (1, false), (2, false), (3, false), (5, false), (6, false), (7, false), (8, false), (4, true), (9, true), (10, false)] [11] [] (fun _ => default) [99, 0, 99, 1, 99, 99, 0, 99, 1, 99, 99, 99] [] (.c hs.g2 (.c hs.g1 .n)) fn fun w_4 n4 => ?_
  replace hs := hs.bl n4
  refine f0 ?_
  refine f4 ?_
  refine f0 ?_
  refine f4 ?_
  refine f0 ?_
  refine f4 ?_
  refine f0 ?_
  refine f4 ?_
  refine fl fun w_5 n5 => ?_
  replace hs := hs.bl n5
  intro K hK
  have k0_5 := ((((kb n1).b n2).b n3).b n4).b n5
  replace ha1 := ha1.k k0_5
  replace hq1 := hq1.k k0_5
  go_big_op
  go_fit (rzsub_any ha1 hq1 (by omega) (by omega) )
  rintro e w_6 ⟨v_g1, rfl, g1, hb_6⟩
  replace hs := hs.bl hb_6
  replace g1 := g1.rd
  obtain ⟨n_g1, o_g1, k_g1, c_g1, rfl⟩ := g1.open2
  refine hK _ _ rfl ⟨hb_6, (And.intro hs.g2 (And.intro hs.g1 trivial))⟩ ?_
  clear hK K
  refine fl fun w_7 n7 => ?_
  replace hs := hs.bl n7
  intro K hK
  have k0_7 := (k0_5.b hb_6).b n7
  replace ha2 := ha2.k k0_7
  replace hq2 := hq2.k k0_7
  go_big_op
  go_fit (rzsub_any ha2 hq2 (by omega) (by omega) )
  rintro e w_8 ⟨v_g2, rfl, g2, hb_8⟩
  replace hs := hs.bl hb_8
  replace g2 := g2.rd
  obtain ⟨n_g2, o_g2, k_g2, c_g2, rfl⟩ := g2.open2
  refine hK _ _ rfl ⟨hb_8, (And.intro hs.g2 (And.intro hs.g1 trivial))⟩ ?_
  clear hK K
  refine f0 ?_
  refine e0 hs ?_; clear hs; intro w_9 hs n9
  refine tl ?_
  refine .s4 hs.g0 (fun _ => hs.u0 kb_b3) ?_ (e := fun _ hs => (And.intro hs.g2 (And.intro hs.g1 True.intro))); clear hs; intro w_10 hs hd10 ho10
  apply wpTail_end
  refine hK2 _ _ ?_
  refine wp_ret ?_
  try dsimp only [Exit.then, Exit.inBlock]
  obtain ⟨r0_0, r0_1, r0_2, r0_3⟩ := hs.g0.f4
  refine bodyPost_ret (v := (.agg #[.bool n_g1, .slice o_g1 k_g1 c_g1, .bool n_g2, .slice o_g2 k_g2 c_g2])) (by simp [results, Tryz.results120, go_sem, r0_0, r0_1, r0_2, r0_3]) rfl ?_
  have k6_10 := (((kb n7).b hb_8).b n9).o hd10 ho10
  replace g1 := g1.k k6_10
  have k8_10 := (kb n9).o hd10 ho10
  replace g2 := g2.k k8_10
  exact ⟨_, rfl, .mk' g1 g2, hs.b⟩
theorem rgMul_any (ha : PN w va x l y m) (hq : PN w vb u k v n) (hl : l ≤ 40000000) (hm : m ≤ 40000000) (hk : k ≤ 40000000) (hn : n ≤ 40000000) :
    Calls Tryz.prog 56 #[va, vb] w fun e w' => ∃ r, e = .returned r ∧ PC w' r (x * u - y * v) (x * v + y * u) ∧ Below w.heap.size w w' := by
  obtain ⟨n_0a, o_0a, k_0a, c_0a, n_0b, o_0b, k_0b, c_0b, rfl, ha1, ha2⟩ := ha
  obtain ⟨n_1a, o_1a, k_1a, c_1a, n_1b, o_1b, k_1b, c_1b, rfl, hq1, hq2⟩ := hq
  go_enter Tryz.func56, Tryz.ntmps56
  have hs := St.nil w
  refine wp_seq_k ?_
  intro K1 hK1
  refine rg [0, 1, 2] ?_
  refine sq ?_
  refine .al hs ?_; clear hs; intro p_b1 w_1 hs n1 kb_b1
  refine sq ?_
  refine .al hs ?_; clear hs; intro p_b2 w_2 hs n2 kb_b2
  refine sq ?_
  refine .al hs ?_; clear hs; intro p_b3 w_3 hs n3 kb_b3
  apply wpSq_end
  refine hK1 _ _ ?_
  refine wp_seq_k ?_
  intro K2 hK2
  refine wp_region_f4 [(0, false), (1, false), (2, false), (3, false), (5, false), (6, false), (7, false), (8, false), (4, true), (9, true), (10, true)] [12] [11] (fun j => (.cells #[.bool false, .slice none 0 0] 26)) [99, 0, 99, 1, 99, 99, 0, 99, 1, 99, 99, 99, 99] [] (.c hs.g2 (.c hs.g1 .n)) (fm fn) fun w_4 n4 => ?_
  replace hs := hs.bl n4
  have hlB := hs.lt; have hkB := hs.k
  refine f0 ?_
  refine f4 ?_
  refine f0 ?_
  refine f4 ?_
  refine f0 ?_
  refine f4 ?_
  refine f0 ?_
  refine f4 ?_
  refine fl fun w_5 n5 => ?_
  replace hs := hs.bl n5
  intro K hK
  have k0_5 := ((((kb n1).b n2).b n3).b n4).b n5
  replace ha1 := ha1.k k0_5
  replace hq1 := hq1.k k0_5
  go_big_op
  go_fit (rzmul_any ha1 hq1 (by omega) (by omega) )
  rintro e w_6 ⟨v_g1, rfl, g1, hb_6⟩
  replace hs := hs.bl hb_6
  replace g1 := g1.rd
  obtain ⟨n_g1, o_g1, k_g1, c_g1, rfl⟩ := g1.open2
  have Lg1 := hide (g1.lenOf (zlen_mul (ha1.len) (hq1.len)))
  refine hK _ _ rfl ⟨hb_6, (And.intro hs.g2 (And.intro hs.g1 trivial))⟩ ?_
  clear hK K
  refine fl fun w_7 n7 => ?_
  replace hs := hs.bl n7
  intro K hK
  have k0_7 := (k0_5.b hb_6).b n7
  replace ha2 := ha2.k k0_7
  replace hq2 := hq2.k k0_7
  go_big_op
  go_fit (rzmul_any ha2 hq2 (by omega) (by omega) )
  rintro e w_8 ⟨v_g2, rfl, g2, hb_8⟩
  replace hs := hs.bl hb_8
  replace g2 := g2.rd
  obtain ⟨n_g2, o_g2, k_g2, c_g2, rfl⟩ := g2.open2
  have Lg2 := hide (g2.lenOf (zlen_mul (ha2.len) (hq2.len)))
  refine hK _ _ rfl ⟨hb_8, (And.intro hs.g2 (And.intro hs.g1 trivial))⟩ ?_
  clear hK K
  refine fl fun w_9 n9 => ?_
  replace hs := hs.bl n9
  intro K hK
  have k6_9 := ((kb n7).b hb_8).b n9
  replace g1 := g1.k k6_9
  have k8_9 := kb n9
  replace g2 := g2.k k8_9
  go_big_op
  go_fit (rzsub_any (g1.zn Lg1.out) (g2.zn Lg2.out) (by omega) (by omega) )
  rintro e w_10 ⟨v_g3, rfl, g3, hb_10⟩
  replace hs := hs.bl hb_10
  replace g3 := g3.rd
  obtain ⟨n_g3, o_g3, k_g3, c_g3, rfl⟩ := g3.open2
  refine hK _ _ rfl ⟨hb_10, (And.intro hs.g2 (And.intro hs.g1 trivial))⟩ ?_
  clear hK K
  refine e1 hs hlB hkB ?_; clear hs hlB hkB; intro w_11 p_b4 hs n11 kb_b4
  refine tl ?_
  refine .s2 hs.g0 (fun _ => hs.u0 kb_b4) ?_ (e := fun _ hs => (And.intro hs.g3 (And.intro hs.g2 True.intro))); clear hs; intro w_12 hs hd12 ho12
  apply wpTail_end
  refine hK2 _ _ ?_
  refine wp_seq_k ?_
  intro K3 hK3
  refine wp_region_f4 [(0, false), (1, false), (2, false), (3, false), (4, false), (6, false), (7, false), (8, false), (9, false), (5, true), (10, true), (11, true), (12, false)] [13] [] (fun _ => default) [0, 99, 1, 99, 2, 99, 99, 1, 99, 2, 99, 99, 99, 99] [] (.c hs.g0 (.c hs.g3 (.c hs.g2 .n))) fn fun w_13 n13 => ?_
  replace hs := hs.bl n13
  refine f2 ?_
  refine f0 ?_
  refine f4 ?_
  refine f0 ?_
  refine f4 ?_
  refine f0 ?_
  refine f4 ?_
  refine f0 ?_
  refine f4 ?_
  refine fl fun w_14 n14 => ?_
  replace hs := hs.bl n14
  intro K hK
  have k5_14 := ((((((((kb hb_6).b n7).b hb_8).b n9).b hb_10).b n11).o hd12 ho12).b n13).b n14
  replace ha1 := ha1.k k5_14
  have k7_14 := ((((((kb hb_8).b n9).b hb_10).b n11).o hd12 ho12).b n13).b n14
  replace hq2 := hq2.k k7_14
  go_big_op
  go_fit (rzmul_any ha1 hq2 (by omega) (by omega) )
  rintro e w_15 ⟨v_g4, rfl, g4, hb_15⟩
  replace hs := hs.bl hb_15
  replace g4 := g4.rd
  obtain ⟨n_g4, o_g4, k_g4, c_g4, rfl⟩ := g4.open2
  have Lg4 := hide (g4.lenOf (zlen_mul (ha1.len) (hq2.len)))
  refine hK _ _ rfl ⟨hb_15, (And.intro hs.g0 (And.intro hs.g3 (And.intro hs.g2 trivial)))⟩ ?_
  clear hK K
  refine fl fun w_16 n16 => ?_
  replace hs := hs.bl n16
  intro K hK
  have k7_16 := (k7_14.b hb_15).b n16
  replace ha2 := ha2.k k7_16
  have k5_16 := (k5_14.b hb_15).b n16
  replace hq1 := hq1.k k5_16
  go_big_op
  go_fit (rzmul_any ha2 hq1 (by omega) (by omega) )
  rintro e w_17 ⟨v_g5, rfl, g5, hb_17⟩
  replace hs := hs.bl hb_17
  replace g5 := g5.rd
  obtain ⟨n_g5, o_g5, k_g5, c_g5, rfl⟩ := g5.open2
  have Lg5 := hide (g5.lenOf (zlen_mul (ha2.len) (hq1.len)))
  refine hK _ _ rfl ⟨hb_17, (And.intro hs.g0 (And.intro hs.g3 (And.intro hs.g2 trivial)))⟩ ?_
  clear hK K
  refine fl fun w_18 n18 => ?_
  replace hs := hs.bl n18
  intro K hK
  have k15_18 := ((kb n16).b hb_17).b n18
  replace g4 := g4.k k15_18
  have k17_18 := kb n18
  replace g5 := g5.k k17_18
  go_big_op
  go_fit (rzadd_any (g4.zn Lg4.out) (g5.zn Lg5.out) (by omega) (by omega) )
  rintro e w_19 ⟨v_g6, rfl, g6, hb_19⟩
  replace hs := hs.bl hb_19
  replace g6 := g6.rd
  obtain ⟨n_g6, o_g6, k_g6, c_g6, rfl⟩ := g6.open2
  refine hK _ _ rfl ⟨hb_19, (And.intro hs.g0 (And.intro hs.g3 (And.intro hs.g2 trivial)))⟩ ?_
  clear hK K
  refine f0 ?_
  refine e0 hs ?_; clear hs; intro w_20 hs n20
  refine tl ?_
  refine .s4 hs.g1 (fun _ => hs.u1 kb_b3) ?_ (e := fun _ hs => (And.intro hs.g0 (And.intro hs.g3 (And.intro hs.g2 True.intro)))); clear hs; intro w_21 hs hd21 ho21
  apply wpTail_end
  refine hK3 _ _ ?_
  refine wp_ret ?_
  try dsimp only [Exit.then, Exit.inBlock]
  obtain ⟨r0_0, r0_1, r0_2, r0_3⟩ := hs.g1.f4
  refine bodyPost_ret (v := (.agg #[.bool n_g3, .slice o_g3 k_g3 c_g3, .bool n_g6, .slice o_g6 k_g6 c_g6])) (by simp [results, Tryz.results56, go_sem, r0_0, r0_1, r0_2, r0_3]) rfl ?_
  have k10_21 := ((((((((((kb n11).o hd12 ho12).b n13).b n14).b hb_15).b n16).b hb_17).b n18).b hb_19).b n20).o hd21 ho21
  replace g3 := g3.k k10_21
  have k19_21 := (kb n20).o hd21 ho21
  replace g6 := g6.k k19_21
  exact ⟨_, rfl, .mk' g3 g6, hs.b⟩
theorem rgConj_any (ha : PN w va x l y m) (hl : l ≤ 100000000) (hm : m ≤ 100000000) :
    Calls Tryz.prog 80 #[va] w fun e w' => ∃ r, e = .returned r ∧ PC w' r x (-y) ∧ Below w.heap.size w w' := by
  obtain ⟨n_0a, o_0a, k_0a, c_0a, n_0b, o_0b, k_0b, c_0b, rfl, ha1, ha2⟩ := ha
  go_enter Tryz.func80, Tryz.ntmps80
  have hs := St.nil w
  refine wp_seq_k ?_
  intro K1 hK1
  refine rg [0, 1] ?_
  refine sq ?_
  refine .al hs ?_; clear hs; intro p_b1 w_1 hs n1 kb_b1
  refine sq ?_
  refine .al hs ?_; clear hs; intro p_b2 w_2 hs n2 kb_b2
  apply wpSq_end
  refine hK1 _ _ ?_
  refine wp_seq_k ?_
  intro K2 hK2
  refine wp_region_f4 [(0, false), (1, false), (3, false), (4, false), (2, true), (5, true), (6, false)] [7] [] (fun _ => default) [99, 0, 99, 99, 0, 99, 99, 99] [] (.c hs.g1 .n) fn fun w_3 n3 => ?_
  replace hs := hs.bl n3
  refine f0 ?_
  refine f4 ?_
  refine f0 ?_
  refine f4 ?_
  refine fl fun w_4 n4 => ?_
  replace hs := hs.bl n4
  intro K hK
  have k0_4 := (((kb n1).b n2).b n3).b n4
  replace ha1 := ha1.k k0_4
  go_big_op
  go_fit (rnorm_any ha1 (by omega) )
  rintro e w_5 ⟨v_g1, rfl, g1, hb_5⟩
  replace hs := hs.bl hb_5
  replace g1 := g1.rd
  obtain ⟨n_g1, o_g1, k_g1, c_g1, rfl⟩ := g1.open2
  refine hK _ _ rfl ⟨hb_5, (And.intro hs.g1 trivial)⟩ ?_
  clear hK K
  refine fl fun w_6 n6 => ?_
  replace hs := hs.bl n6
  intro K hK
  have k0_6 := (k0_4.b hb_5).b n6
  replace ha2 := ha2.k k0_6
  go_big_op
  go_fit (rneg_any ha2 (by omega) )
  rintro e w_7 ⟨v_g2, rfl, g2, hb_7⟩
  replace hs := hs.bl hb_7
  replace g2 := g2.rd
  obtain ⟨n_g2, o_g2, k_g2, c_g2, rfl⟩ := g2.open2
  refine hK _ _ rfl ⟨hb_7, (And.intro hs.g1 trivial)⟩ ?_
  clear hK K
  refine f0 ?_
  refine e0 hs ?_; clear hs; intro w_8 hs n8
  refine tl ?_
  refine .s4 hs.g0 (fun _ => hs.u0 kb_b2) ?_ (e := fun _ hs => (And.intro hs.g1 True.intro)); clear hs; intro w_9 hs hd9 ho9
  apply wpTail_end
  refine hK2 _ _ ?_
  refine wp_ret ?_
  try dsimp only [Exit.then, Exit.inBlock]
  obtain ⟨r0_0, r0_1, r0_2, r0_3⟩ := hs.g0.f4
  refine bodyPost_ret (v := (.agg #[.bool n_g1, .slice o_g1 k_g1 c_g1, .bool n_g2, .slice o_g2 k_g2 c_g2])) (by simp [results, Tryz.results80, go_sem, r0_0, r0_1, r0_2, r0_3]) rfl ?_
  have k5_9 := (((kb n6).b hb_7).b n8).o hd9 ho9
  replace g1 := g1.k k5_9
  have k7_9 := (kb n8).o hd9 ho9
  replace g2 := g2.k k7_9
  exact ⟨_, rfl, .mk' g1 g2, hs.b⟩
theorem rgCanonical_any (ha : PN w va x l y m) (hl : l ≤ 100000000) (hm : m ≤ 100000000) :
    Calls Tryz.prog 77 #[va] w fun e w' => ∃ r, e = .returned r ∧ PC w' r x y ∧ Below w.heap.size w w' := by
  obtain ⟨n_0a, o_0a, k_0a, c_0a, n_0b, o_0b, k_0b, c_0b, rfl, ha1, ha2⟩ := ha
  go_enter Tryz.func77, Tryz.ntmps77
  have hs := St.nil w
  refine wp_seq_k ?_
  intro K1 hK1
  refine rg [0, 1] ?_
  refine sq ?_
  refine .al hs ?_; clear hs; intro p_b1 w_1 hs n1 kb_b1
  refine sq ?_
  refine .al hs ?_; clear hs; intro p_b2 w_2 hs n2 kb_b2
  apply wpSq_end
  refine hK1 _ _ ?_
  refine wp_seq_k ?_
  intro K2 hK2
  refine wp_region_f4 [(0, false), (1, false), (3, false), (4, false), (2, true), (5, true), (6, false)] [7] [] (fun _ => default) [99, 0, 99, 99, 0, 99, 99, 99] [] (.c hs.g1 .n) fn fun w_3 n3 => ?_
  replace hs := hs.bl n3
  refine f0 ?_
  refine f4 ?_
  refine f0 ?_
  refine f4 ?_
  refine fl fun w_4 n4 => ?_
  replace hs := hs.bl n4
  intro K hK
  have k0_4 := (((kb n1).b n2).b n3).b n4
  replace ha1 := ha1.k k0_4
  go_big_op
  go_fit (rnorm_any ha1 (by omega) )
  rintro e w_5 ⟨v_g1, rfl, g1, hb_5⟩
  replace hs := hs.bl hb_5
  replace g1 := g1.rd
  obtain ⟨n_g1, o_g1, k_g1, c_g1, rfl⟩ := g1.open2
  refine hK _ _ rfl ⟨hb_5, (And.intro hs.g1 trivial)⟩ ?_
  clear hK K
  refine fl fun w_6 n6 => ?_
  replace hs := hs.bl n6
  intro K hK
  have k0_6 := (k0_4.b hb_5).b n6
  replace ha2 := ha2.k k0_6
  go_big_op
  go_fit (rnorm_any ha2 (by omega) )
  rintro e w_7 ⟨v_g2, rfl, g2, hb_7⟩
  replace hs := hs.bl hb_7
  replace g2 := g2.rd
  obtain ⟨n_g2, o_g2, k_g2, c_g2, rfl⟩ := g2.open2
  refine hK _ _ rfl ⟨hb_7, (And.intro hs.g1 trivial)⟩ ?_
  clear hK K
  refine f0 ?_
  refine e0 hs ?_; clear hs; intro w_8 hs n8
  refine tl ?_
  refine .s4 hs.g0 (fun _ => hs.u0 kb_b2) ?_ (e := fun _ hs => (And.intro hs.g1 True.intro)); clear hs; intro w_9 hs hd9 ho9
  apply wpTail_end
  refine hK2 _ _ ?_
  refine wp_ret ?_
  try dsimp only [Exit.then, Exit.inBlock]
  obtain ⟨r0_0, r0_1, r0_2, r0_3⟩ := hs.g0.f4
  refine bodyPost_ret (v := (.agg #[.bool n_g1, .slice o_g1 k_g1 c_g1, .bool n_g2, .slice o_g2 k_g2 c_g2])) (by simp [results, Tryz.results77, go_sem, r0_0, r0_1, r0_2, r0_3]) rfl ?_
  have k5_9 := (((kb n6).b hb_7).b n8).o hd9 ho9
  replace g1 := g1.k k5_9
  have k7_9 := (kb n8).o hd9 ho9
  replace g2 := g2.k k7_9
  exact ⟨_, rfl, .mk' g1 g2, hs.b⟩
theorem rgNorm_any (ha : PN w va x l y m) (hl : l ≤ 40000000) (hm : m ≤ 40000000) :
    Calls Tryz.prog 144 #[va] w fun e w' => ∃ r, e = .returned r ∧ ZC w' r (gN x y) ∧ Below w.heap.size w w' := by
  unfold gN
  obtain ⟨n_0a, o_0a, k_0a, c_0a, n_0b, o_0b, k_0b, c_0b, rfl, ha1, ha2⟩ := ha
  go_enter Tryz.func144, Tryz.ntmps144
  have hs := St.nil w
  refine wp_seq_k ?_
  intro K1 hK1
  refine rg [0, 1] ?_
  refine sq ?_
  refine .al hs ?_; clear hs; intro p_b1 w_1 hs n1 kb_b1
  refine sq ?_
  refine .al hs ?_; clear hs; intro p_b2 w_2 hs n2 kb_b2
  apply wpSq_end
  refine hK1 _ _ ?_
  refine wp_seq_k ?_
  intro K2 hK2
  refine wp_region_f4 [(0, false), (1, false), (2, false), (3, false), (5, false), (6, false), (7, false), (8, false), (4, true), (9, true), (10, true)] [11] [] (fun _ => default) [99, 0, 99, 0, 99, 99, 0, 99, 0, 99, 99, 99] [] (.c hs.g1 .n) fn fun w_3 n3 => ?_
  replace hs := hs.bl n3
  refine f0 ?_
  refine f4 ?_
  refine f0 ?_
  refine f4 ?_
  refine f0 ?_
  refine f4 ?_
  refine f0 ?_
  refine f4 ?_
  refine fl fun w_4 n4 => ?_
  replace hs := hs.bl n4
  intro K hK
  have k0_4 := (((kb n1).b n2).b n3).b n4
  replace ha1 := ha1.k k0_4
  go_big_op
  go_fit (rzmul_any ha1 ha1 (by omega) (by omega) )
  rintro e w_5 ⟨v_g1, rfl, g1, hb_5⟩
  replace hs := hs.bl hb_5
  replace g1 := g1.rd
  obtain ⟨n_g1, o_g1, k_g1, c_g1, rfl⟩ := g1.open2
  have Lg1 := hide (g1.lenOf (zlen_mul (ha1.len) (ha1.len)))
  refine hK _ _ rfl ⟨hb_5, (And.intro hs.g1 trivial)⟩ ?_
  clear hK K
  refine fl fun w_6 n6 => ?_
  replace hs := hs.bl n6
  intro K hK
  have k0_6 := (k0_4.b hb_5).b n6
  replace ha2 := ha2.k k0_6
  go_big_op
  go_fit (rzmul_any ha2 ha2 (by omega) (by omega) )
  rintro e w_7 ⟨v_g2, rfl, g2, hb_7⟩
  replace hs := hs.bl hb_7
  replace g2 := g2.rd
  obtain ⟨n_g2, o_g2, k_g2, c_g2, rfl⟩ := g2.open2
  have Lg2 := hide (g2.lenOf (zlen_mul (ha2.len) (ha2.len)))
  refine hK _ _ rfl ⟨hb_7, (And.intro hs.g1 trivial)⟩ ?_
  clear hK K
  refine fl fun w_8 n8 => ?_
  replace hs := hs.bl n8
  intro K hK
  have k5_8 := ((kb n6).b hb_7).b n8
  replace g1 := g1.k k5_8
  have k7_8 := kb n8
  replace g2 := g2.k k7_8
  go_big_op
  go_fit (rzadd_any (g1.zn Lg1.out) (g2.zn Lg2.out) (by omega) (by omega) )
  rintro e w_9 ⟨v_g3, rfl, g3, hb_9⟩
  replace hs := hs.bl hb_9
  replace g3 := g3.rd
  obtain ⟨n_g3, o_g3, k_g3, c_g3, rfl⟩ := g3.open2
  refine hK _ _ rfl ⟨hb_9, (And.intro hs.g1 trivial)⟩ ?_
  clear hK K
  refine e0 hs ?_; clear hs; intro w_10 hs n10
  refine tl ?_
  refine .s2 hs.g0 (fun _ => hs.u0 kb_b2) ?_ (e := fun _ hs => (And.intro hs.g1 True.intro)); clear hs; intro w_11 hs hd11 ho11
  apply wpTail_end
  refine hK2 _ _ ?_
  refine wp_ret ?_
  try dsimp only [Exit.then, Exit.inBlock]
  obtain ⟨r0_0, r0_1⟩ := hs.g0.f2
  refine bodyPost_ret (v := (.agg #[.bool n_g3, .slice o_g3 k_g3 c_g3])) (by simp [results, Tryz.results144, go_sem, r0_0, r0_1]) rfl ?_
  have k9_11 := (kb n10).o hd11 ho11
  replace g3 := g3.k k9_11
  exact ⟨_, rfl, g3, hs.b⟩
theorem rgSame_any (ha : PC w va x y) (hq : PN w vb x l y m) (hl : l ≤ 100000000) (hm : m ≤ 100000000) :
    Calls Tryz.prog 53 #[va, vb] w fun e w' => e = .returned (.bool true) ∧ Below w.heap.size w w' := by
  obtain ⟨n_0a, o_0a, k_0a, c_0a, n_0b, o_0b, k_0b, c_0b, rfl, ha1, ha2⟩ := ha
  obtain ⟨n_1a, o_1a, k_1a, c_1a, n_1b, o_1b, k_1b, c_1b, rfl, hq1, hq2⟩ := hq
  go_enter Tryz.func53, Tryz.ntmps53
  have hs := St.nil w
  refine wp_seq_k ?_
  intro K1 hK1
  refine rg [0, 1, 2] ?_
  refine sq ?_
  refine .al hs ?_; clear hs; intro p_b1 w_1 hs n1 kb_b1
  refine sq ?_
  refine .al hs ?_; clear hs; intro p_b2 w_2 hs n2 kb_b2
  refine sq ?_
  refine .mv ?_
  apply wpSq_end
  refine hK1 _ _ ?_
  refine wp_seq_k ?_
  intro K2 hK2
  refine rg [0, 1, 2, 3, 4, 5, 6, 7, 8, 9, 10, 11, 12] ?_
  refine sq ?_
  refine .r0 ?_
  refine sq ?_
  refine .r4 hs.g1.f4 ?_
  refine sq ?_
  refine .r0 ?_
  refine sq ?_
  refine .r4 hs.g0.f4 ?_
  refine sq ?_
  intro K hK
  have k0_2 := (kb n1).b n2
  replace ha1 := ha1.k k0_2
  replace hq1 := hq1.k k0_2
  go_big_op
  go_fit (rsame_zz ha1 hq1 (by omega) )
  rintro e w_3 ⟨rfl, hb_3⟩
  replace hs := hs.bl hb_3
  refine hK _ _ rfl trivial ?_
  clear hK K
  refine sq ?_
  refine .mv ?_
  refine sq ?_
  refine .r0 ?_
  refine sq ?_
  refine .r4 hs.g1.f4 ?_
  refine sq ?_
  refine .r0 ?_
  refine sq ?_
  refine .r4 hs.g0.f4 ?_
  refine sq ?_
  intro K hK
  have k0_3 := k0_2.b hb_3
  replace ha2 := ha2.k k0_3
  replace hq2 := hq2.k k0_3
  go_big_op
  go_fit (rsame_zz ha2 hq2 (by omega) )
  rintro e w_4 ⟨rfl, hb_4⟩
  replace hs := hs.bl hb_4
  refine hK _ _ rfl trivial ?_
  clear hK K
  refine sq ?_
  refine .r0 ?_
  refine sq ?_
  refine .mv ?_
  apply wpSq_end
  refine hK2 _ _ ?_
  refine wp_ret ?_
  try dsimp only [Exit.then, Exit.inBlock]
  refine bodyPost_ret (v := (.bool true)) (by simp [results, Tryz.results53, go_sem]) rfl ?_
  have hb := hs.b
  exact ⟨rfl, hb⟩
theorem rgI_any (a b : Int) (w : World) (h1 : -9223372036854775808 ≤ a) (h2 : a ≤ 9223372036854775807) (h3 : -9223372036854775808 ≤ b) (h4 : b ≤ 9223372036854775807) :
    Calls Tryz.prog 55 #[.int .i64 a, .int .i64 b] w fun e w' => ∃ r, e = .returned r ∧ PC w' r a b ∧ Below w.heap.size w w' := by
  go_enter Tryz.func55, Tryz.ntmps55
  have hs := St.nil w
  refine wp_seq_k ?_
  intro K1 hK1
  refine rg [0] ?_
  refine sq ?_
  refine .al hs ?_; clear hs; intro p_b1 w_1 hs n1 kb_b1
  apply wpSq_end
  refine hK1 _ _ ?_
  refine wp_seq_k ?_
  intro K2 hK2
  refine rg [0, 1, 2, 3, 4, 5] ?_
  refine sq ?_
  refine .mv ?_
  refine sq ?_
  intro K hK
  go_big_op
  go_fit (ri_any a _ h1 h2)
  rintro e w_2 ⟨v_g1, rfl, g1, hb_2⟩
  replace hs := hs.bl hb_2
  replace g1 := g1.rd
  obtain ⟨n_g1, o_g1, k_g1, c_g1, rfl⟩ := g1.open2
  refine hK _ _ rfl trivial ?_
  clear hK K
  refine sq ?_
  refine .mv ?_
  refine sq ?_
  intro K hK
  go_big_op
  go_fit (ri_any b _ h3 h4)
  rintro e w_3 ⟨v_g2, rfl, g2, hb_3⟩
  replace hs := hs.bl hb_3
  replace g2 := g2.rd
  obtain ⟨n_g2, o_g2, k_g2, c_g2, rfl⟩ := g2.open2
  refine hK _ _ rfl trivial ?_
  clear hK K
  refine sq ?_
  refine .r0 ?_
  refine sq ?_
  refine .s4 hs.g0 (fun _ => hs.u0 kb_b1) ?_; clear hs; intro w_4 hs hd4 ho4
  apply wpSq_end
  refine hK2 _ _ ?_
  refine wp_ret ?_
  try dsimp only [Exit.then, Exit.inBlock]
  obtain ⟨r0_0, r0_1, r0_2, r0_3⟩ := hs.g0.f4
  refine bodyPost_ret (v := (.agg #[.bool n_g1, .slice o_g1 k_g1 c_g1, .bool n_g2, .slice o_g2 k_g2 c_g2])) (by simp [results, Tryz.results55, go_sem, r0_0, r0_1, r0_2, r0_3]) rfl ?_
  have k2_4 := (kb hb_3).o hd4 ho4
  replace g1 := g1.k k2_4
  have k3_4 := ko hd4 ho4
  replace g2 := g2.k k3_4
  exact ⟨_, rfl, .mk' g1 g2, hs.b⟩
theorem gFrom_any (a b : Int) (w : World) (h1 : -9223372036854775808 ≤ a) (h2 : a ≤ 9223372036854775807) (h3 : -9223372036854775808 ≤ b) (h4 : b ≤ 9223372036854775807) :
    Calls Tryz.prog 39 #[.int .i64 a, .int .i64 b] w fun e w' => ∃ r, e = .returned r ∧ PC w' r a b ∧ Below w.heap.size w w' := by
  go_enter Tryz.func39, Tryz.ntmps39
  have hs := St.nil w
  refine wp_seq_k ?_
  intro K1 hK1
  refine rg [0] ?_
  refine sq ?_
  refine .al hs ?_; clear hs; intro p_b1 w_1 hs n1 kb_b1
  apply wpSq_end
  refine hK1 _ _ ?_
  refine wp_seq_k ?_
  intro K2 hK2
  refine rg [0, 1, 2, 3, 4, 5] ?_
  refine sq ?_
  refine .mv ?_
  refine sq ?_
  intro K hK
  go_big_op
  go_fit (from_any a _ h1 h2)
  rintro e w_2 ⟨v_g1, rfl, g1, hb_2⟩
  replace hs := hs.bl hb_2
  replace g1 := g1.rd
  obtain ⟨n_g1, o_g1, k_g1, c_g1, rfl⟩ := g1.open2
  refine hK _ _ rfl trivial ?_
  clear hK K
  refine sq ?_
  refine .mv ?_
  refine sq ?_
  intro K hK
  go_big_op
  go_fit (from_any b _ h3 h4)
  rintro e w_3 ⟨v_g2, rfl, g2, hb_3⟩
  replace hs := hs.bl hb_3
  replace g2 := g2.rd
  obtain ⟨n_g2, o_g2, k_g2, c_g2, rfl⟩ := g2.open2
  refine hK _ _ rfl trivial ?_
  clear hK K
  refine sq ?_
  refine .r0 ?_
  refine sq ?_
  refine .s4 hs.g0 (fun _ => hs.u0 kb_b1) ?_; clear hs; intro w_4 hs hd4 ho4
  apply wpSq_end
  refine hK2 _ _ ?_
  refine wp_ret ?_
  try dsimp only [Exit.then, Exit.inBlock]
  obtain ⟨r0_0, r0_1, r0_2, r0_3⟩ := hs.g0.f4
  refine bodyPost_ret (v := (.agg #[.bool n_g1, .slice o_g1 k_g1 c_g1, .bool n_g2, .slice o_g2 k_g2 c_g2])) (by simp [results, Tryz.results39, go_sem, r0_0, r0_1, r0_2, r0_3]) rfl ?_
  have k2_4 := (kb hb_3).o hd4 ho4
  replace g1 := g1.k k2_4
  have k3_4 := ko hd4 ho4
  replace g2 := g2.k k3_4
  exact ⟨_, rfl, .mk' g1 g2, hs.b⟩
theorem rgNull_yes (ha : PN w va 0 l 0 m) (hl : l ≤ 100000000) (hm : m ≤ 100000000) :
    Calls Tryz.prog 119 #[va] w fun e w' => e = .returned (.bool true) ∧ Below w.heap.size w w' := by
  obtain ⟨n_0a, o_0a, k_0a, c_0a, n_0b, o_0b, k_0b, c_0b, rfl, ha1, ha2⟩ := ha
  go_enter Tryz.func119, Tryz.ntmps119
  have hs := St.nil w
  refine wp_seq_k ?_
  intro K1 hK1
  refine rg [0, 1] ?_
  refine sq ?_
  refine .al hs ?_; clear hs; intro p_b1 w_1 hs n1 kb_b1
  refine sq ?_
  refine .mv ?_
  apply wpSq_end
  refine hK1 _ _ ?_
  refine wp_seq_k ?_
  intro K2 hK2
  refine rg [0, 1, 2, 3, 4, 5, 6, 7, 8, 9, 10] ?_
  refine sq ?_
  refine .r0 ?_
  refine sq ?_
  refine .r4 hs.g0.f4 ?_
  refine sq ?_
  intro K hK
  have k0_1 := kb n1
  replace ha1 := ha1.k k0_1
  go_big_op
  go_fit (rzsign_any ha1 (by omega) )
  rintro e w_2 ⟨rfl, hb_2⟩
  replace hs := hs.bl hb_2
  refine hK _ _ rfl trivial ?_
  clear hK K
  refine sq ?_
  refine .r0 ?_
  refine sq ?_
  refine .mv ?_
  refine sq ?_
  refine .r0 ?_
  refine sq ?_
  refine .r4 hs.g0.f4 ?_
  refine sq ?_
  intro K hK
  have k0_2 := k0_1.b hb_2
  replace ha2 := ha2.k k0_2
  go_big_op
  go_fit (rzsign_any ha2 (by omega) )
  rintro e w_3 ⟨rfl, hb_3⟩
  replace hs := hs.bl hb_3
  refine hK _ _ rfl trivial ?_
  clear hK K
  refine sq ?_
  refine .r0 ?_
  refine sq ?_
  refine .r0 ?_
  refine sq ?_
  refine .mv ?_
  apply wpSq_end
  refine hK2 _ _ ?_
  refine wp_ret ?_
  try dsimp only [Exit.then, Exit.inBlock]
  refine bodyPost_ret (v := (.bool true)) (by simp [results, Tryz.results119, go_sem]) rfl ?_
  have hb := hs.b
  exact ⟨rfl, hb⟩
theorem rgNull_no1 (ha : PN w va x l y m) (hl : l ≤ 100000000) (hm : m ≤ 100000000) (h : x ≠ 0) :
    Calls Tryz.prog 119 #[va] w fun e w' => e = .returned (.bool false) ∧ Below w.heap.size w w' := by
  have H0 : (x.sign == 0) = false := by simpa using h
  obtain ⟨S, hS⟩ : ∃ S, x.sign = S := ⟨_, rfl⟩
  rw [hS] at H0
  have HS := hide hS
  clear h hS
  obtain ⟨n_0a, o_0a, k_0a, c_0a, n_0b, o_0b, k_0b, c_0b, rfl, ha1, ha2⟩ := ha
  go_enter Tryz.func119, Tryz.ntmps119
  have hs := St.nil w
  refine wp_seq_k ?_
  intro K1 hK1
  refine rg [0, 1] ?_
  refine sq ?_
  refine .al hs ?_; clear hs; intro p_b1 w_1 hs n1 kb_b1
  refine sq ?_
  refine .mv ?_
  apply wpSq_end
  refine hK1 _ _ ?_
  refine wp_seq_k ?_
  intro K2 hK2
  refine rg [0, 1, 2, 3, 4, 5, 6, 7, 8, 9, 10] ?_
  refine sq ?_
  refine .r0 ?_
  refine sq ?_
  refine .r4 hs.g0.f4 ?_
  refine sq ?_
  intro K hK
  have k0_1 := kb n1
  replace ha1 := ha1.k k0_1
  go_big_op
  go_fit (rzsign_any ha1 (by omega) )
  rintro e w_2 ⟨rfl, hb_2⟩
  replace hs := hs.bl hb_2
  rw [HS.out]
  refine hK _ _ rfl trivial ?_
  clear hK K
  refine sq ?_
  refine .r0 ?_
  refine sq ?_
  refine .mv ?_
  refine sk ?_
  refine sk ?_
  refine sk ?_
  refine sk ?_
  refine sq ?_
  refine .r0 ?_
  refine sq ?_
  refine .mv ?_
  apply wpSq_end
  refine hK2 _ _ ?_
  refine wp_ret ?_
  try dsimp only [Exit.then, Exit.inBlock]
  refine bodyPost_ret (v := (.bool false)) (by simp [results, Tryz.results119, go_sem]) rfl ?_
  have hb := hs.b
  exact ⟨rfl, hb⟩
theorem rgNull_no2 (ha : PN w va 0 l y m) (hl : l ≤ 100000000) (hm : m ≤ 100000000) (h : y ≠ 0) :
    Calls Tryz.prog 119 #[va] w fun e w' => e = .returned (.bool false) ∧ Below w.heap.size w w' := by
  have H0 : (y.sign == 0) = false := by simpa using h
  obtain ⟨S, hS⟩ : ∃ S, y.sign = S := ⟨_, rfl⟩
  rw [hS] at H0
  have HS := hide hS
  clear h hS
  obtain ⟨n_0a, o_0a, k_0a, c_0a, n_0b, o_0b, k_0b, c_0b, rfl, ha1, ha2⟩ := ha
  go_enter Tryz.func119, Tryz.ntmps119
  have hs := St.nil w
  refine wp_seq_k ?_
  intro K1 hK1
  refine rg [0, 1] ?_
  refine sq ?_
  refine .al hs ?_; clear hs; intro p_b1 w_1 hs n1 kb_b1
  refine sq ?_
  refine .mv ?_
  apply wpSq_end
  refine hK1 _ _ ?_
  refine wp_seq_k ?_
  intro K2 hK2
  refine rg [0, 1, 2, 3, 4, 5, 6, 7, 8, 9, 10] ?_
  refine sq ?_
  refine .r0 ?_
  refine sq ?_
  refine .r4 hs.g0.f4 ?_
  refine sq ?_
  intro K hK
  have k0_1 := kb n1
  replace ha1 := ha1.k k0_1
  go_big_op
  go_fit (rzsign_any ha1 (by omega) )
  rintro e w_2 ⟨rfl, hb_2⟩
  replace hs := hs.bl hb_2
  refine hK _ _ rfl trivial ?_
  clear hK K
  refine sq ?_
  refine .r0 ?_
  refine sq ?_
  refine .mv ?_
  refine sq ?_
  refine .r0 ?_
  refine sq ?_
  refine .r4 hs.g0.f4 ?_
  refine sq ?_
  intro K hK
  have k0_2 := k0_1.b hb_2
  replace ha2 := ha2.k k0_2
  go_big_op
  go_fit (rzsign_any ha2 (by omega) )
  rintro e w_3 ⟨rfl, hb_3⟩
  replace hs := hs.bl hb_3
  rw [HS.out]
  refine hK _ _ rfl trivial ?_
  clear hK K
  refine sq ?_
  refine .r0 ?_
  refine sq ?_
  refine .r0 ?_
  refine sq ?_
  refine .mv ?_
  apply wpSq_end
  refine hK2 _ _ ?_
  refine wp_ret ?_
  try dsimp only [Exit.then, Exit.inBlock]
  refine bodyPost_ret (v := (.bool false)) (by simp [results, Tryz.results119, go_sem]) rfl ?_
  have hb := hs.b
  exact ⟨rfl, hb⟩
theorem rgNull_any (ha : PN w va x l y m) (hl : l ≤ 100000000) (hm : m ≤ 100000000) :
    Calls Tryz.prog 119 #[va] w fun e w' => e = .returned (.bool (decide (x = 0 ∧ y = 0))) ∧ Below w.heap.size w w' := by
  by_cases h : x = 0
  · by_cases h2 : y = 0
    · rw [decide_eq_true (And.intro h h2)]
      subst h h2
      exact rgNull_yes ha hl hm
    · rw [decide_eq_false (fun c => h2 c.2)]
      subst h
      exact rgNull_no2 ha hl hm h2
  · rw [decide_eq_false (fun c => h c.1)]; exact rgNull_no1 ha hl hm h
end
end Go.Proofs.YtnkimagnmnocdaaGreat

/- The reference's matrices: Good, Cols, List, Same. -/
namespace Go.Proofs.YtnkimagnmnocdaaGreat
open Go Go.RowKit Dig
set_option linter.unusedVariables false
section
variable {w : World} {l n k cm c1 c2 : Nat} {om o1 o2 : Option Addr} {Ms : List (List (Int × Int))} {ps : List (Int × Int)}
end
end Go.Proofs.YtnkimagnmnocdaaGreat

/- The reference's Good and Cols. -/
namespace Go.Proofs.YtnkimagnmnocdaaGreat
open Go Go.RowKit Dig
set_option maxHeartbeats 4000000
set_option maxRecDepth 20000
set_option linter.unusedVariables false
section
variable {w : World} {l n k cm : Nat} {om : Option Addr} {Ms : List (List (Int × Int))}
theorem rCols_any (hm : MN l w om Ms) (hn : Ms.length = n) (hk : wd Ms = k) :
    Calls Tryz.prog 16 #[.slice om n cm] w fun e w' => e = .returned (.int .i64 (k : Int)) ∧ Below w.heap.size w w' := by
  rcases Nat.eq_zero_or_pos n with h0 | h0
  · have hk0 : 0 = k := by rw [← hk, wd_nil (hn.trans h0)]
    subst hk0 h0
    clear hk hn hm
    go_enter Tryz.func16, Tryz.ntmps16
    have hs := St.nil w
    refine wp_seq_k ?_
    intro K1 hK1
    refine rg [0] ?_
    refine sq ?_
    refine .mv ?_
    apply wpSq_end
    refine hK1 _ _ ?_
    refine wp_seq_k ?_
    intro K2 hK2
    refine wp_seq_k ?_
    intro K3 hK3
    refine rg [0, 1, 2] ?_
    refine sq ?_
    refine .mv ?_
    refine sq ?_
    refine .r0 ?_
    refine sq ?_
    refine .r0 ?_
    apply wpSq_end
    refine hK3 _ _ ?_
    refine ct ?_
    refine wp_seq_k ?_
    intro K4 hK4
    refine rg [0] ?_
    refine sq ?_
    refine .mv ?_
    apply wpSq_end
    refine hK4 _ _ ?_
    refine wp_ret ?_
    try dsimp only [Exit.then, Exit.inBlock]
    refine bodyPost_ret (v := (.int .i64 0)) (by simp [results, Tryz.results16, go_sem]) rfl ?_
    exact ⟨rfl, hs.b⟩
  · obtain ⟨g, off, cur, ty, fz, rfl, x, hr⟩ := hm.box (by omega)
    obtain ⟨o0, c0, e0, s0⟩ := hr 0 (by omega)
    rw [wd_0 (by omega), hk, Nat.add_zero] at e0
    clear hm hr s0 hk hn
    go_enter Tryz.func16, Tryz.ntmps16
    have hs := St.nil w
    refine wp_seq_k ?_
    intro K1 hK1
    refine rg [0] ?_
    refine sq ?_
    refine .mv ?_
    apply wpSq_end
    refine hK1 _ _ ?_
    refine wp_seq_k ?_
    intro K2 hK2
    refine wp_seq_k ?_
    intro K3 hK3
    refine rg [0, 1, 2] ?_
    refine sq ?_
    refine .mv ?_
    refine sq ?_
    refine .r0 ?_
    refine sq ?_
    refine .r0 ?_
    apply wpSq_end
    refine hK3 _ _ ?_
    refine cf ?_
    refine wp_skip ?_
    refine hK2 _ _ ?_
    refine wp_seq_k ?_
    intro K4 hK4
    refine rg [0, 1, 2, 3, 4] ?_
    refine sq ?_
    refine .mv ?_
    refine sq ?_
    refine .r0 ?_
    refine sq ?_
    refine .r1 (x.cell _ e0) ?_
    refine sq ?_
    refine .r0 ?_
    refine sq ?_
    refine .mv ?_
    apply wpSq_end
    refine hK4 _ _ ?_
    refine wp_ret ?_
    try dsimp only [Exit.then, Exit.inBlock]
    refine bodyPost_ret (v := (.int .i64 ((k : Nat) : Int))) (by simp [results, Tryz.results16, go_sem]) rfl ?_
    exact ⟨rfl, hs.b⟩
theorem rGood_any (hm : MN l w om Ms) (hn : Ms.length = n) (hl : n ≤ 1000000000) :
    Calls Tryz.prog 13 #[.slice om n cm] w fun e w' => e = .returned (.bool (decide (gd Ms))) ∧ Below w.heap.size w w' := by
  obtain ⟨k, hk⟩ : ∃ k, wd Ms = k := ⟨_, rfl⟩
  have HG := hide (show (n ≤ 64 ∧ k ≤ 64 ∧ ∀ r ∈ Ms, r.length = k) ↔ gd Ms by unfold gd; rw [hk, hn])
  have HM := hide hm
  by_cases hn64 : 64 < n
  · have hg : decide (gd Ms) = false := decide_eq_false fun h => by have := (HG.out.2 h).1; omega
    have Hg := hide hg
    clear hg hm
    go_enter Tryz.func13, Tryz.ntmps13
    have hs := St.nil w
    refine wp_seq_k ?_
    intro K1 hK1
    refine rg [0] ?_
    refine sq ?_
    refine .mv ?_
    apply wpSq_end
    refine hK1 _ _ ?_
    refine wp_seq_k ?_
    intro K2 hK2
    refine wp_seq_k ?_
    intro K3 hK3
    refine rg [0, 1, 2] ?_
    refine sq ?_
    refine .mv ?_
    refine sq ?_
    refine .r0 ?_
    refine sq ?_
    refine .r0 ?_
    apply wpSq_end
    refine hK3 _ _ ?_
    refine ct ?_
    refine wp_seq_k ?_
    intro K4 hK4
    refine rg [0] ?_
    refine sq ?_
    refine .mv ?_
    apply wpSq_end
    refine hK4 _ _ ?_
    refine wp_ret ?_
    try dsimp only [Exit.then, Exit.inBlock]
    refine bodyPost_ret (v := (.bool false)) (by simp [results, Tryz.results13, go_sem]) rfl ?_
    exact ⟨by rw [Hg.out], hs.b⟩
  · have H0 := hide (show 0 < n → ∃ g off cur ty fz o0 c0, om = some ⟨g, off, none⟩ ∧ Bs w g cur ty fz ∧ Rws (RN l) w cur off Ms ∧ cur[off]? = some (.slice o0 k c0) from fun h0 => by
      obtain ⟨g, off, cur, ty, fz, e, x, hr⟩ := hm.box (by omega)
      obtain ⟨o0, c0, ez0, s0⟩ := hr 0 (by omega)
      rw [wd_0 (by omega), hk, Nat.add_zero] at ez0
      exact ⟨g, off, cur, ty, fz, o0, c0, e, x, hr, ez0⟩)
    have HK := hide hk
    clear hm hk
    go_enter Tryz.func13, Tryz.ntmps13
    have hs := St.nil w
    refine wp_seq_k ?_
    intro K1 hK1
    refine rg [0] ?_
    refine sq ?_
    refine .mv ?_
    apply wpSq_end
    refine hK1 _ _ ?_
    refine wp_seq_k ?_
    intro K2 hK2
    refine wp_seq_k ?_
    intro K3 hK3
    refine rg [0, 1, 2] ?_
    refine sq ?_
    refine .mv ?_
    refine sq ?_
    refine .r0 ?_
    refine sq ?_
    refine .r0 ?_
    apply wpSq_end
    refine hK3 _ _ ?_
    refine cf ?_
    refine wp_skip ?_
    refine hK2 _ _ ?_
    refine wp_seq_k ?_
    intro K4 hK4
    refine wp_seq_k ?_
    intro K5 hK5
    refine rg [0] ?_
    refine sq ?_
    refine .mv ?_
    apply wpSq_end
    refine hK5 _ _ ?_
    refine wp_block ?_
    have hd1 := hs.2.1
    go_loopg [3] n (fun kk s3 wr => ∃ i : Nat, s3 = .int .i64 (i : Int) ∧ i + kk = n ∧ Hid (∀ j (hj : j < Ms.length), j < i → Ms[j].length = k ∧ k ≤ 64) ∧ St w [] wr)
    case atStart => exact ⟨0, rfl, by omega, hide fun j _ h => absurd h (Nat.not_lt_zero j), hs⟩
    case round =>
    clear hs
    obtain ⟨i, rfl, hik, HJ, hs⟩ := hrel
    by_cases hi : i < n
    · obtain ⟨g, off, cur, ty, fz, o0, c0, rfl, x, hr, ez0⟩ := H0.out (by omega)
      obtain ⟨oi, ci, ei, si⟩ := hr i (by omega)
      have x1 := x.bl hs.b
      have HI := hide (show ∀ k', Ms[i].length = k' → k' = k → k' ≤ 64 → ∀ j (hj : j < Ms.length), j < i + 1 → Ms[j].length = k ∧ k ≤ 64 from fun k' e1 e2 e3 j hj h => by
        rcases Nat.lt_succ_iff_lt_or_eq.1 h with h | h
        · exact HJ.out j hj h
        · subst h; omega)
      have HN := hide (show (Ms[i].length ≠ k ∨ 64 < k) → decide (gd Ms) = false from fun h => decide_eq_false fun hg => by
        have := (HG.out.2 hg).2.2 _ (List.getElem_mem (show i < Ms.length by omega))
        have := (HG.out.2 hg).2.1
        omega)
      obtain ⟨kr, hkr⟩ : ∃ kr, Ms[i].length = kr := ⟨_, rfl⟩
      rw [hkr] at ei HN
      replace HI := hide (HI.out kr hkr)
      clear hkr si x hr
      by_cases hkk : kr = k
      · by_cases h64 : 64 < kr
        · have Hg := hide (HN.out (Or.inr (by omega)))
          have t3 : ((kr : Int) != (k : Int)) = false := by rw [hkk]; simp
          have t4 : ((64 : Int) < (kr : Int)) = True := eq_true (by omega)
          clear hkk
          refine wp_seq_k ?_
          intro K6 hK6
          refine wp_seq_k ?_
          intro K7 hK7
          refine rg [0, 1, 2, 3] ?_
          refine sq ?_
          refine .mv ?_
          refine sq ?_
          refine .mv ?_
          refine sq ?_
          refine .r0 ?_
          refine sq ?_
          refine .r0 ?_
          apply wpSq_end
          refine hK7 _ _ ?_
          refine ct ?_
          refine wp_skip ?_
          refine hK6 _ _ ?_
          refine wp_seq_k ?_
          intro K8 hK8
          refine wp_block ?_
          refine wp_seq_k ?_
          intro K9 hK9
          refine wp_region_f4 [(0, false), (1, false), (2, false), (3, false), (4, false), (5, false), (6, false), (7, false), (8, false), (9, false), (10, false), (11, false), (12, false), (13, false), (14, false), (15, false), (16, false), (17, false)] [] [] (fun _ => default) [99, 99, 99, 0, 99, 99, 99, 0, 99, 99, 99, 99, 99, 99, 0, 99, 99, 99] [] (.c x1 .n) fn fun w_2 n2 => ?_
          replace x1 := x1.bl n2; replace hs := hs.bl n2
          refine fmv ?_
          refine fmv ?_
          refine f0 ?_
          apply wpFl_ld rfl rfl; (case h1 => intro w' hC K hK; have c0 := Bs.cell hC ((off + i)) ei; go_big_op; exact hK); iterate 4 kernel_rfl
          refine fb ?_
          refine fmv ?_
          refine f0 ?_
          apply wpFl_ld rfl rfl; (case h1 => intro w' hC K hK; have c0 := Bs.cell hC (off) ez0; go_big_op; exact hK); iterate 4 kernel_rfl
          refine fb ?_
          refine f0 ?_
          refine fmv ?_
          refine fmv ?_
          refine fmv ?_
          refine f0 ?_
          apply wpFl_ld rfl rfl; (case h1 => intro w' hC K hK; have c0 := Bs.cell hC ((off + i)) ei; go_big_op; exact hK); iterate 4 kernel_rfl
          refine fb ?_
          refine f0 ?_
          refine f0 ?_
          refine e0 hs ?_; clear hs; intro w_3 hs n3
          replace x1 := x1.bl n3
          apply wpTail_end
          refine hK9 _ _ ?_
          refine ct ?_
          refine wp_seq_k ?_
          intro K10 hK10
          refine rg [0] ?_
          refine sq ?_
          refine .mv ?_
          apply wpSq_end
          refine hK10 _ _ ?_
          refine wp_ret ?_
          try dsimp only [Exit.then, Exit.inBlock]
          refine bodyPost_ret (v := (.bool false)) (by simp [results, Tryz.results13, go_sem]) rfl ?_
          exact ⟨by rw [Hg.out], hs.b⟩
        · have HI2 := hide (HI.out hkk (by omega))
          have t3 : ((kr : Int) != (k : Int)) = false := by rw [hkk]; simp
          have t4 : ((64 : Int) < (kr : Int)) = False := eq_false (by omega)
          clear hkk
          refine wp_seq_k ?_
          intro K6 hK6
          refine wp_seq_k ?_
          intro K7 hK7
          refine rg [0, 1, 2, 3] ?_
          refine sq ?_
          refine .mv ?_
          refine sq ?_
          refine .mv ?_
          refine sq ?_
          refine .r0 ?_
          refine sq ?_
          refine .r0 ?_
          apply wpSq_end
          refine hK7 _ _ ?_
          refine ct ?_
          refine wp_skip ?_
          refine hK6 _ _ ?_
          refine wp_seq_k ?_
          intro K8 hK8
          refine wp_block ?_
          refine wp_seq_k ?_
          intro K9 hK9
          refine wp_region_f4 [(0, false), (1, false), (2, false), (3, false), (4, false), (5, false), (6, false), (7, false), (8, false), (9, false), (10, false), (11, false), (12, false), (13, false), (14, false), (15, false), (16, false), (17, false)] [] [] (fun _ => default) [99, 99, 99, 0, 99, 99, 99, 0, 99, 99, 99, 99, 99, 99, 0, 99, 99, 99] [] (.c x1 .n) fn fun w_2 n2 => ?_
          replace x1 := x1.bl n2; replace hs := hs.bl n2
          refine fmv ?_
          refine fmv ?_
          refine f0 ?_
          apply wpFl_ld rfl rfl; (case h1 => intro w' hC K hK; have c0 := Bs.cell hC ((off + i)) ei; go_big_op; exact hK); iterate 4 kernel_rfl
          refine fb ?_
          refine fmv ?_
          refine f0 ?_
          apply wpFl_ld rfl rfl; (case h1 => intro w' hC K hK; have c0 := Bs.cell hC (off) ez0; go_big_op; exact hK); iterate 4 kernel_rfl
          refine fb ?_
          refine f0 ?_
          refine fmv ?_
          refine fmv ?_
          refine fmv ?_
          refine f0 ?_
          apply wpFl_ld rfl rfl; (case h1 => intro w' hC K hK; have c0 := Bs.cell hC ((off + i)) ei; go_big_op; exact hK); iterate 4 kernel_rfl
          refine fb ?_
          refine f0 ?_
          refine f0 ?_
          refine e0 hs ?_; clear hs; intro w_3 hs n3
          replace x1 := x1.bl n3
          apply wpTail_end
          refine hK9 _ _ ?_
          refine cf ?_
          refine wp_skip ?_
          refine hK8 _ _ ?_
          refine rg [0, 1, 2] ?_
          refine sq ?_
          refine .mv ?_
          refine sq ?_
          refine .r0 ?_
          refine sq ?_
          refine .mv ?_
          apply wpSq_end
          refine ‹∀ (a' : Act) (w' : World), Handed _ _ a' w' → _› _ _ ?_
          go_roundg (gk - 1)
          case rel => exact ⟨i + 1, by rfl, by omega, HI2, hs⟩
          case measure => omega
      · have Hg := hide (HN.out (Or.inl hkk))
        have t3 : ((kr : Int) != (k : Int)) = true := bne_iff_ne.2 (by omega)
        refine wp_seq_k ?_
        intro K6 hK6
        refine wp_seq_k ?_
        intro K7 hK7
        refine rg [0, 1, 2, 3] ?_
        refine sq ?_
        refine .mv ?_
        refine sq ?_
        refine .mv ?_
        refine sq ?_
        refine .r0 ?_
        refine sq ?_
        refine .r0 ?_
        apply wpSq_end
        refine hK7 _ _ ?_
        refine ct ?_
        refine wp_skip ?_
        refine hK6 _ _ ?_
        refine wp_seq_k ?_
        intro K8 hK8
        refine wp_block ?_
        refine wp_seq_k ?_
        intro K9 hK9
        refine wp_region_f4 [(0, false), (1, false), (2, false), (3, false), (4, false), (5, false), (6, false), (7, false), (8, false), (9, false), (10, false), (11, false), (12, false), (13, false), (14, false), (15, false), (16, false), (17, false)] [] [] (fun _ => default) [99, 99, 99, 0, 99, 99, 99, 0, 99, 99, 99, 99, 99, 99, 0, 99, 99, 99] [] (.c x1 .n) fn fun w_2 n2 => ?_
        replace x1 := x1.bl n2; replace hs := hs.bl n2
        refine fmv ?_
        refine fmv ?_
        refine f0 ?_
        apply wpFl_ld rfl rfl; (case h1 => intro w' hC K hK; have c0 := Bs.cell hC ((off + i)) ei; go_big_op; exact hK); iterate 4 kernel_rfl
        refine fb ?_
        refine fmv ?_
        refine f0 ?_
        apply wpFl_ld rfl rfl; (case h1 => intro w' hC K hK; have c0 := Bs.cell hC (off) ez0; go_big_op; exact hK); iterate 4 kernel_rfl
        refine fb ?_
        refine f0 ?_
        refine fmv ?_
        refine fk ?_
        refine fk ?_
        refine fk ?_
        refine fk ?_
        refine fk ?_
        refine fk ?_
        refine f0 ?_
        refine e0 hs ?_; clear hs; intro w_3 hs n3
        replace x1 := x1.bl n3
        apply wpTail_end
        refine hK9 _ _ ?_
        refine ct ?_
        refine wp_seq_k ?_
        intro K10 hK10
        refine rg [0] ?_
        refine sq ?_
        refine .mv ?_
        apply wpSq_end
        refine hK10 _ _ ?_
        refine wp_ret ?_
        try dsimp only [Exit.then, Exit.inBlock]
        refine bodyPost_ret (v := (.bool false)) (by simp [results, Tryz.results13, go_sem]) rfl ?_
        exact ⟨by rw [Hg.out], hs.b⟩
    · have HX := hide hi
      have Hg := hide (show decide (gd Ms) = true from decide_eq_true (HG.out.1 (by
        refine ⟨by omega, ?_, fun r hr => by
          obtain ⟨j, hj, rfl⟩ := List.getElem_of_mem hr
          exact (HJ.out j hj (by omega)).1⟩
        rcases Nat.eq_zero_or_pos n with h0 | h0
        · rw [← HK.out, wd_nil (by omega)]; omega
        · exact (HJ.out 0 (by omega) (by omega)).2)))
      refine wp_seq_k ?_
      intro K6 hK6
      refine wp_seq_k ?_
      intro K7 hK7
      refine rg [0, 1, 2, 3] ?_
      refine sq ?_
      refine .mv ?_
      refine sq ?_
      refine .mv ?_
      refine sq ?_
      refine .r0 ?_
      refine sq ?_
      refine .r0 ?_
      apply wpSq_end
      refine hK7 _ _ ?_
      refine cf ?_
      refine wp_exit ?_
      refine hK4 _ _ ?_
      refine wp_seq_k ?_
      intro K8 hK8
      refine rg [0] ?_
      refine sq ?_
      refine .mv ?_
      apply wpSq_end
      refine hK8 _ _ ?_
      refine wp_ret ?_
      try dsimp only [Exit.then, Exit.inBlock]
      refine bodyPost_ret (v := (.bool true)) (by simp [results, Tryz.results13, go_sem]) rfl ?_
      exact ⟨by rw [Hg.out], hs.b⟩
end
end Go.Proofs.YtnkimagnmnocdaaGreat

/- A range over a function: a round's body walked by the same steps as everywhere; the loop's law, by a count of rounds. -/
namespace Go.Proofs.YtnkimagnmnocdaaGreat
open Go Go.RowKit Dig
set_option linter.unusedVariables false
abbrev FR (lr : Nat) : Fence := FW (some lr)
section
variable {P : Program} {o : Oper} {a : Act} {w : World} {lr m : Nat} {l : List Oper}
theorem rgR {id : Nat} {Q : Exit → Act → World → Prop} (plan : List Nat) (h : wpSq P l (Q .normal) plan a w) (hp : List.range l.length = plan := by kernel_rfl) : (Code.region id l.toArray false).wpIn (FR lr) m P Q a w := wpIn_region_sq plan hp h
theorem wp_region_f4R {id : Nat} {Q : Exit → Act → World → Prop} (plan1 : List (Nat × Bool)) (plan2 : List Nat) (F0 : List Nat) (ob : Nat → Obj) (CL : List Nat) (bad : List (Nat × Nat)) {bs : List BkT} (hC : AllB bs w) (hl : ∀ j ∈ F0, Lays P l ob j)
    (h : ∀ w', Below w.heap.size w w' → wpFl P l (AllB bs) (bs.map BG) CL ob F0 w'.heap.size (wpTail P l (bs.map BG) bad (Q .normal) plan2) plan1 a w')
    (hm : P.follows .mixedOrders = true := by kernel_rfl) (hs : Region.noSelect l.toArray = true := by kernel_rfl)
    (hlen : plan1.length + F0.length + plan2.length = l.length := by kernel_rfl) (hok : flOK .any l plan2 (plan1.length + F0.length) (Array.replicate l.length false) plan1 F0 = true := by kernel_rfl) (hpa : planApart l F0 plan1 = true := by kernel_rfl) (hwt : waits .any l CL bad plan1 = true := by kernel_rfl) (hnb : notBad bad plan1 F0 = true := by kernel_rfl) (hsu : sundry l F0 = true := by kernel_rfl) (hnd : F0.Nodup := by decide) : (Code.region id l.toArray true).wpIn (FR lr) m P Q a w :=
  wpIn_region_any hm (wpAnyIn_of_x (fun _ _ hq => hq) _ _ _ _ (wpX_region_fl plan1 plan2 F0 ob CL bad (AllB bs) (bs.map BG) hs hlen hok hpa hwt hnb hsu hnd hl (fun _ _ hC => hC.alloc) (fun _ hC => hC.get) (hC.bl (Below.refl _ _).drew) (h _ (Below.refl _ _).drew)))
end
def Cm (w w' : World) : Prop := ∀ (p : Nat) (c : Array Value) (t : TypeId) (z : Nat × Nat), w.heap[p]? = some (Obj.cells c t z) → w'.heap[p]? = some (Obj.cells c t z)
theorem Cm.cell {w w' : World} (h : Cm w w') {p : Addr} {v : Value} (hv : w.cell? p = some v) : w'.cell? p = some v := by
  unfold World.cell? at hv ⊢
  split at hv
  · rename_i c t z hh
    rw [h _ _ _ _ hh]; exact hv
  · cases hv
theorem Cm.kp {w w' : World} (h : Cm w w') : Kp w w' := fun oa ds hc => by
  by_cases hne : ds = []
  · exact .inl hne
  · obtain ⟨c, off, e, hx⟩ := hc.resolve_left hne
    exact .inr ⟨c, off, e, fun i hi => h.cell (hx i hi)⟩
theorem Cm.of_below {w w' : World} (h : Below w.heap.size w w') : Cm w w' := fun p c t z hp => by
  rw [h.block p (by rcases Nat.lt_or_ge p w.heap.size with h1 | h1; exact h1; rw [Array.getElem?_eq_none h1] at hp; cases hp)]; exact hp
theorem Cm.po {w : World} {l : Nat} {o : Obj} (o' : Obj) (h : w.heap[l]? = some o) (ho : o.isCells = false) : Cm w (w.putObj l o') := fun p c t z hp => by
  rw [World.putObj_heap_other (fun e => by subst e; rw [h] at hp; cases hp; cases ho)]; exact hp
def ob (l : Nat) (o : Obj) : En := (some l, fun w => w.heap[l]? = some o)
theorem Ok.ob {w : World} {l : Nat} {o : Obj} (h : w.heap[l]? = some o) : Ok (Go.Proofs.YtnkimagnmnocdaaGreat.ob l o) w := by
  refine ⟨h, fun k hk => ?_, fun w' hk _ => ?_⟩
  · obtain rfl : l = k := by simpa [Go.Proofs.YtnkimagnmnocdaaGreat.ob] using hk
    exact (Array.getElem?_eq_some_iff.1 h).1
  · show w'.heap[l]? = _
    rw [hk l rfl]; exact h
section
variable {w0 w : World} {bs : List En} {l : Nat} {o : Obj} {e : En}
theorem St.at (h : St w0 bs w) {i : Nat} (hi : bs[i]? = some e) : Ok e w := by
  have key : ∀ {bs : List En} {i : Nat}, AllE bs w → bs[i]? = some e → Ok e w := by
    intro bs
    induction bs with
    | nil => intro i _ hi; simp at hi
    | cons b t ih =>
      intro i hA hi
      cases i with
      | zero => obtain rfl : b = e := by simpa using hi
                exact hA.1
      | succ i => exact ih hA.2 (by simpa using hi)
  exact key h.1 hi
theorem St.obj (h : St w0 bs w) (i : Nat) (hi : bs[i]? = some (ob l o) := by rfl) : w.heap[l]? = some o := (h.at hi).1
theorem St.po (h : St w0 bs w) (i : Nat) (o' : Obj) (hl : Hid (w0.heap.size ≤ l)) (hi : bs[i]? = some (ob l o) := by rfl) : St w0 (bs.set i (ob l o')) (w.putObj l o') := by
  have hlt : l < w.heap.size := (Array.getElem?_eq_some_iff.1 (h.obj i hi)).1
  refine h.st i hi (fun k _ hne => World.putObj_heap_other (fun e => hne (by rw [e]; rfl))) (by rw [World.putObj_size]; exact Nat.le_refl _) (Ok.ob (World.putObj_heap_same hlt)) (fun k hk => .inl hk) ?_
  refine ⟨h.b.os, h.b.tape, h.b.output, by rw [World.putObj_size]; exact h.k, fun k hk => ?_⟩
  rw [World.putObj_heap_other (fun e => by have : w0.heap.size ≤ l := hl; omega)]
  exact h.b.block k hk
theorem St.ao (h : St w0 bs w) (o : Obj) : St w0 (ob w.heap.size o :: bs) (w.alloc o) := by
  refine .cons (Ok.ob (World.alloc_heap_new w o)) (fun f hf k hk hc => ?_) (h.bl ((Below.refl _ w).alloc (Nat.le_refl _) o))
  have h1 := h.lt f hf k hc
  obtain rfl : w.heap.size = k := by simpa [ob] using hk
  exact Nat.lt_irrefl _ h1
end
theorem St.app2 {w0 w w' : World} {bs : List En} {p q : Nat} {cs ds : Array Value} {ty t2 : TypeId} (hs : St w0 bs w) (h : St w [bx p cs ty, bx q ds t2] w') (k1 : Hid (w.heap.size ≤ p)) (k2 : Hid (w.heap.size ≤ q)) : St w0 (bx p cs ty :: bx q ds t2 :: bs) w' :=
  hs.app h fun e he k hk => by
    simp only [List.mem_cons, List.not_mem_nil, or_false] at he
    rcases he with rfl | rfl
    · obtain rfl : p = k := by simpa [bx] using hk
      exact k1
    · obtain rfl : q = k := by simpa [bx] using hk
      exact k2
def ItN (P : Program) (gf : Nat) (lb : Array Value) (n : Nat) (encs : Nat → Array Value) (R : World → Prop) : Prop :=
  ∀ (l : Nat) (J Jx : Nat → World → Prop) (W : World), (∀ k A B, J k A → Below A.heap.size A B → J k B) → (∀ k A B, Jx k A → Below A.heap.size A B → Jx k B) → (∀ k W1, J k W1 → R W1) → (∀ k W1, Jx k W1 → R W1) →
    (∀ k W1, k < n → J k W1 → YieldAt Fence.wide 0 P l (encs k) W1 fun e W' => (e = .returned (.bool true) ∧ J (k + 1) W') ∨ (e = .returned (.bool false) ∧ Jx k W')) →
    J 0 W → Calls P gf (#[.func (.yield l) #[] #[]] ++ lb) W fun e W' => (∃ v, e = .returned v) ∧ (J n W' ∨ ∃ k, k < n ∧ Jx k W')
theorem er_none {P : Program} {w : World} {l : Nat} {r : Loop} (h : w.heap[l]? = some (.loop r)) : (Instr.endRound l none).run P w = .ok (.bool true) (w.putObj l (.loop { r with state := .ready, pending := none })) := run_endRound none h
theorem er_some {P : Program} {w : World} {l : Nat} {r : Loop} {c : Code} (h : w.heap[l]? = some (.loop r)) : (Instr.endRound l (some c)).run P w = .ok (.bool false) (w.putObj l (.loop { r with state := .done, pending := some c })) := run_endRound (some c) h
def rPost {X : Type} (w0 : World) (bs : X → List En) (F : X → World → Prop) (I : Nat → X → Prop) (Ix : Code → Nat → X → Prop) (E : List En) (k : Nat) : Exit → Act → World → Prop
  | .normal, _, W => ∃ x, I (k + 1) x ∧ St w0 (E ++ bs x) W ∧ F x W
  | .ret, _, W => ∃ x, Ix .ret k x ∧ St w0 (E ++ bs x) W ∧ F x W
  | .exit id, _, W => ∃ x, Ix (.exit id) k x ∧ St w0 (E ++ bs x) W ∧ F x W
  | .goto t, _, W => ∃ x, Ix (.goto t) k x ∧ St w0 (E ++ bs x) W ∧ F x W
  | _, _, _ => False
section
variable {P : Program} {g : Operand} {ps : Array Tmp} {assign body : Code} {a : Act} {w w0 : World} {gf : Nat} {lb : Array Value} {n : Nat} {encs : Nat → Array Value} {R : World → Prop} {X : Type} {bs : X → List En} {F : X → World → Prop} {I : Nat → X → Prop} {Ix : Code → Nat → X → Prop}
theorem rounds_ok {fn : FuncId} {l : Nat} {E : List En} {rd : LoopState → Option Code → Obj} {tm : Array Value} {df : Nat}
    (hrd : rd = fun st pe => .loop { state := st, pending := pe, fn, tmps := tm, params := ps, assign, body, defers := df }) (hl : Hid (w0.heap.size ≤ l))
    (hps : ∀ k, k < n → (encs k).size = ps.size) (hF : ∀ x A B, F x A → Cm A B → F x B)
    (hround : ∀ r k x W, k < n → I k x → St w0 (ob l (.loop r) :: E ++ bs x) W → F x W →
      assign.wpIn (FR l) 0 P (Exit.then (fun a1 w1 => ∃ bs1 i, St w0 bs1 w1 ∧ bs1[i]? = some (ob l (.loop r)) ∧ ∀ r' w2, St w0 (bs1.set i (ob l (.loop r'))) w2 → Cm w1 w2 → body.wpIn (FR l) 0 P (rPost w0 bs F I Ix (ob l (.loop r') :: E) k) a1 w2) (fun _ _ _ => False))
        { tmps := (ps.zip (encs k)).foldl (fun t (p, v) => t.setIfInBounds p v) tm, defers := [] } W) :
    ∀ k W1, k < n → (∃ x, I k x ∧ St w0 (ob l (rd .ready none) :: E ++ bs x) W1 ∧ F x W1) →
      YieldAt Fence.wide 0 P l (encs k) W1 fun e W' => (e = .returned (.bool true) ∧ ∃ x, I (k + 1) x ∧ St w0 (ob l (rd .ready none) :: E ++ bs x) W' ∧ F x W') ∨
        (e = .returned (.bool false) ∧ ∃ c x, Ix c k x ∧ St w0 (ob l (rd .done (some c)) :: E ++ bs x) W' ∧ F x W') := by
  subst hrd
  rintro k W1 hk ⟨x, hI, hs, hf⟩
  have hy := run_yield (P := P) (args := encs k) (hs.obj 0) (hps k hk)
  refine ⟨fn, _, assign, body, hy, roundIn_of_wpIn trivial ?_⟩
  refine wpIn_mono (hround _ k x W1 hk hI hs hf) ?_
  rintro e a1 w1 hq
  cases e with
  | normal =>
    obtain ⟨bs1, i, hs1, hi, hb⟩ := hq
    have ho := hs1.obj i hi
    refine ⟨_, run_beginRound ho rfl, ?_⟩
    refine wpIn_mono (hb _ _ (hs1.po i _ hl hi) (Cm.po _ ho rfl)) ?_
    rintro e a2 w2 hp
    cases e with
    | normal =>
      obtain ⟨x', hI', hs', hf'⟩ := hp
      have ho := hs'.obj 0
      exact ⟨_, _, er_none ho, .inl ⟨rfl, x', hI', hs'.po 0 (Obj.loop { state := .ready, pending := none, fn, tmps := tm, params := ps, assign, body, defers := df }) hl, hF _ _ _ hf' (Cm.po _ ho rfl)⟩⟩
    | ret =>
      obtain ⟨x', hI', hs', hf'⟩ := hp
      have ho := hs'.obj 0
      exact ⟨_, _, er_some ho, .inr ⟨rfl, .ret, x', hI', hs'.po 0 (Obj.loop { state := .done, pending := some (.ret), fn, tmps := tm, params := ps, assign, body, defers := df }) hl, hF _ _ _ hf' (Cm.po _ ho rfl)⟩⟩
    | exit id =>
      obtain ⟨x', hI', hs', hf'⟩ := hp
      have ho := hs'.obj 0
      exact ⟨_, _, er_some ho, .inr ⟨rfl, .exit id, x', hI', hs'.po 0 (Obj.loop { state := .done, pending := some (.exit id), fn, tmps := tm, params := ps, assign, body, defers := df }) hl, hF _ _ _ hf' (Cm.po _ ho rfl)⟩⟩
    | goto t =>
      obtain ⟨x', hI', hs', hf'⟩ := hp
      have ho := hs'.obj 0
      exact ⟨_, _, er_some ho, .inr ⟨rfl, .goto t, x', hI', hs'.po 0 (Obj.loop { state := .done, pending := some (.goto t), fn, tmps := tm, params := ps, assign, body, defers := df }) hl, hF _ _ _ hf' (Cm.po _ ho rfl)⟩⟩
    | panic c => exact hp.elim
    | outgrown => exact hp.elim
  | exit id => exact hq.elim
  | goto t => exact hq.elim
  | ret => exact hq.elim
  | panic c => exact hq.elim
  | outgrown => exact hq.elim
theorem wp_rangeN {Q : Exit → Act → World → Prop} (I : Nat → X → Prop) (Ix : Code → Nat → X → Prop) (bs : X → List En) (F : X → World → Prop) (hit : ItN P gf lb n encs R) (x0 : X) (h0 : I 0 x0) (hs : St w0 (bs x0) w) (hf0 : F x0 w)
    (hR : ∀ x W, St w0 (bs x) W → F x W → R W) (hF : ∀ x A B, F x A → Cm A B → F x B)
    (hround : ∀ l D r d k x W, k < n → I k x → St w0 (ob l (.loop r) :: ob D d :: bs x) W → F x W →
      assign.wpIn (FR l) 0 P (Exit.then (fun a1 w1 => ∃ bs1 i, St w0 bs1 w1 ∧ bs1[i]? = some (ob l (.loop r)) ∧ ∀ r' w2, St w0 (bs1.set i (ob l (.loop r'))) w2 → Cm w1 w2 → body.wpIn (FR l) 0 P (rPost w0 bs F I Ix (ob l (.loop r') :: [ob D d]) k) a1 w2) (fun _ _ _ => False))
        { tmps := (ps.zip (encs k)).foldl (fun t (p, v) => t.setIfInBounds p v) a.tmps, defers := [] } W)
    (hdone : ∀ l D r x W, Hid (w0.heap.size ≤ D) → I n x → St w0 (ob l r :: ob D (.deferred (some [])) :: bs x) W → F x W → Q .normal { a with defers := { target := .collected D, args := #[] } :: a.defers } W)
    (hstop : ∀ l D r c k x W, k < n → Hid (w0.heap.size ≤ D) → Ix c k x → St w0 (ob l r :: ob D (.deferred (some [])) :: bs x) W → F x W → c.wp P Q { a with defers := { target := .collected D, args := #[] } :: a.defers } W)
    (hg : a.eval g = .func (.func gf) #[] lb := by rfl) (eg : ∀ args w, (callFunc gf args).run P w = .ok (.enter gf args) w := by exact fun _ _ => by kernel_rfl) (hps : ∀ k, k < n → (encs k).size = ps.size := by exact fun _ _ => rfl) :
    (Code.rangeFunc g ps assign body).wp P Q a w := by
  refine (wpIn_wide (n := 0)).1 (wpIn_rangeFunc ?_)
  intro fn _
  obtain ⟨rd, hrd⟩ : ∃ rd : LoopState → Option Code → Obj, rd = fun st pe => .loop { state := st, pending := pe, fn, tmps := a.tmps, params := ps, assign, body, defers := w.heap.size } := ⟨_, rfl⟩
  have s1 := (hs.ao (.deferred (some []))).ao (rd .ready none)
  rw [World.size_alloc] at s1
  have c1 : Cm w ((w.alloc (.deferred (some []))).alloc (rd .ready none)) := Cm.of_below (((Below.refl _ w).alloc (Nat.le_refl _) _).alloc (by simp) _)
  obtain ⟨W1, hW1⟩ : ∃ W1, (w.alloc (.deferred (some []))).alloc (rd .ready none) = W1 := ⟨_, rfl⟩
  rw [hW1] at s1 c1
  have hk := hs.k
  refine ⟨w.heap.size + 1, [{ target := .collected w.heap.size, args := #[] }], W1, { target := .fn (.func gf) lb, args := #[.func (.yield (w.heap.size + 1)) #[] #[]] }, W1, gf,
    #[.func (.yield (w.heap.size + 1)) #[] #[]] ++ lb, W1, ?_, ?_, fun _ _ => trivial, ?_, fun h => (by cases h), callsIn_wide.2 ?_⟩
  · rw [← hW1, hrd]; exact run_enterLoop_outer _ _ _ _ _
  · simp only [resolve, hg]
    simp [go_sem]
  · simp [invoke, go_sem, eg]
  · refine (hit (w.heap.size + 1)
      (fun k W => ∃ x, I k x ∧ St w0 (ob (w.heap.size + 1) (rd .ready none) :: [ob w.heap.size (.deferred (some []))] ++ bs x) W ∧ F x W)
      (fun k W => ∃ c x, Ix c k x ∧ St w0 (ob (w.heap.size + 1) (rd .done (some c)) :: [ob w.heap.size (.deferred (some []))] ++ bs x) W ∧ F x W) W1
      (fun k A B ⟨x, h1, h2, h3⟩ hb => ⟨x, h1, h2.bl hb, hF _ _ _ h3 (Cm.of_below hb)⟩)
      (fun k A B ⟨c, x, h1, h2, h3⟩ hb => ⟨c, x, h1, h2.bl hb, hF _ _ _ h3 (Cm.of_below hb)⟩)
      (fun k W ⟨x, h1, h2, h3⟩ => hR x W (h2.sub (List.sublist_append_right _ _)) h3) (fun k W ⟨c, x, h1, h2, h3⟩ => hR x W (h2.sub (List.sublist_append_right _ _)) h3)
      (rounds_ok hrd (show w0.heap.size ≤ _ by omega) hps hF fun r k x W hk hI hs hf => hround _ _ r _ k x W hk hI hs hf) ⟨x0, h0, s1, hF _ _ _ hf0 c1⟩).mono ?_
    rintro e W2 ⟨⟨v, rfl⟩, (⟨x, hI, hs2, hf2⟩ | ⟨k, hk, c, x, hI, hs2, hf2⟩)⟩
    · subst hrd
      have ho := hs2.obj 0
      exact ⟨none, _, run_endLoop ho (by simp), hdone _ _ _ x _ (show w0.heap.size ≤ w.heap.size from hs.k) hI (hs2.po 0 _ (show w0.heap.size ≤ _ by omega)) (hF _ _ _ hf2 (Cm.po _ ho rfl))⟩
    · subst hrd
      have ho := hs2.obj 0
      exact ⟨some c, _, run_endLoop ho (by simp), wpIn_wide.2 (hstop _ _ _ c k x _ hk (show w0.heap.size ≤ w.heap.size from hs.k) hI (hs2.po 0 _ (show w0.heap.size ≤ _ by omega)) (hF _ _ _ hf2 (Cm.po _ ho rfl)))⟩
end
theorem calls_of_marks {P : Program} {f : FuncId} {fn : Func} {c : Code} {args : Array Value} {w : World} {R : Ending → World → Prop} (hf : P.funcs[f]? = some fn) (hb : fn.body = some c)
    (h : c.wp P (bodyPostM Fence.wide 0 P fn R) { tmps := args ++ Array.replicate (fn.ntmps - args.size) undef, defers := [] } w) : Calls P f args w R :=
  (callsIn_wide (n := 0)).1 (callsIn_of_wp_marks hf hb trivial (wpIn_wide.2 h))
theorem ret_mark {P : Program} {fn : Func} {R : Ending → World → Prop} {tmps : Array Value} {w : World} {D : Nat} (hD : w.heap[D]? = some (.deferred (some []))) (h : ∀ w2, w.putObj D (.deferred none) = w2 → ∃ v, (results fn tmps).run P w2 = .ok v w2 ∧ R (.returned v) w2) :
    LeavesInM Fence.wide 0 P fn tmps R [{ target := .collected D, args := #[] }] .returning w :=
  ⟨by simp, .inl ⟨_, _, rfl, run_takeDeferred hD, h _ rfl⟩⟩
end Go.Proofs.YtnkimagnmnocdaaGreat

/- Calls of yield; gmat.beside's iterators. -/
namespace Go.Proofs.YtnkimagnmnocdaaGreat
open Go Go.RowKit Dig
set_option linter.unusedVariables false
section
variable {P : Program} {l : List Oper} {o : Oper} {a : Act} {w : World} {Q : Act → World → Prop} {k : Nat} {rest : List Nat} {ly : Nat} {args : Array Value} {Gs : List (World → Prop)} {bad : List (Nat × Nat)}
theorem Calm.yield {next : Value → World → Prop} (h : YieldAt Fence.wide 0 P ly args w fun e w' => ∃ v, e = .returned v ∧ next v w') (ho : ∀ w, (execOp a.eval o).run P w = (Instr.yield ly args).run P w) : Calm P o a w next := by
  obtain ⟨fn, tmps, asg, bd, hy, hR⟩ := h
  unfold Calm
  rw [ho, hy]; exact hR
theorem tlY {a' : Value → Act} (h : YieldAt Fence.wide 0 P ly args w fun e w' => ∃ v, e = .returned v ∧ keepL bad k 0 Gs w' ∧ wpTail P l Gs bad Q rest (a' v) w') (ho : ∀ w, (execOp a.eval o).run P w = (Instr.yield ly args).run P w) (hi : nthO l k = some o := by rfl) (hw : Region.wanted o (yielded l.toArray a.tmps) = true := by kernel_rfl) (hp : ∀ v', a.put o.dst v' = a' v' := by intro v'; unfold Act.put; simp only [List.setIfInBounds_toArray, List.set_cons_succ, List.set_cons_zero]; rfl) : wpTail P l Gs bad Q (k :: rest) a w :=
  ⟨o, hi, by rw [if_pos hw]; exact Calm.yield (h.mono fun e w' ⟨v, h1, h2, h3⟩ => ⟨v, h1, .of_l h2, by rw [hp]; exact h3⟩) ho⟩
theorem tlP (h : Stp P o a w bot (fun w' => w' = w) (wpTail P l Gs bad Q rest)) (hi : nthO l k = some o := by rfl) (hw : Region.wanted o (yielded l.toArray a.tmps) = true := by kernel_rfl) : wpTail P l Gs bad Q (k :: rest) a w := by
  refine ⟨o, hi, ?_⟩
  rw [if_pos hw]
  have h := h (fun a' w' => a'.defers = a.defers ∧ w' = w ∧ wpTail P l Gs bad Q rest a' w') (fun a' w' h1 h2 h3 => ⟨h1, h2, h3⟩)
  unfold Oper.wp at h
  unfold Calm
  generalize (execOp a.eval o).run P w = r at *
  have hk : ∀ w', w' = w → Keeps Gs bad k w w' := fun w' e => by subst e; exact Keeps.refl _ _ _ _
  cases r with
  | ok n w2 =>
    cases n <;> simp only [Oper.upon] at h ⊢
    case value => exact ⟨hk _ h.2.1, h.2.2⟩
    case skip => exact ⟨hk _ h.2.1, h.2.2⟩
    case defer =>
      have h1 := h.1
      unfold Act.put at h1
      split at h1 <;> simp at h1
    case enter =>
      refine h.mono fun e w'' he => ?_
      cases e with
      | returned v => exact ⟨v, rfl, hk _ he.2.1, he.2.2⟩
      | panicked c => exact he.elim
      | outgrown => obtain ⟨_, _, hf⟩ := he; exact hf.elim
    case row => exact Rows.mono h fun v w'' he => ⟨hk _ he.2.1, he.2.2⟩
  | halt x w2 => cases x <;> simp only [Oper.upon, bot] at h
end
def cg (cur : Array Value) (j : Nat) : Value := (cur[j]?).getD undef
theorem cg_eq {cur : Array Value} {j : Nat} {v : Value} (h : cur[j]? = some v) : cg cur j = v := by rw [cg, h]; rfl
def enG (cur : Array Value) (off i : Nat) : Value := .agg #[cg cur (off + i * 4), cg cur (off + i * 4 + 1), cg cur (off + i * 4 + 2), cg cur (off + i * 4 + 3)]
def IsG (cur : Array Value) (off n : Nat) : Prop := ∀ i, i < n → ∃ n1 o1 k1 c1 n2 o2 k2 c2, cur[off + i * 4]? = some (.bool n1) ∧ cur[off + i * 4 + 1]? = some (.slice o1 k1 c1) ∧ cur[off + i * 4 + 2]? = some (.bool n2) ∧ cur[off + i * 4 + 3]? = some (.slice o2 k2 c2)
section
variable {p1 p2 n m c1 c2 g1 g2 off1 off2 : Nat} {cur1 cur2 : Array Value} {t1 t2 t3 t4 : TypeId} {fz1 fz2 : Nat × Nat}
set_option maxHeartbeats 4000000 in
set_option maxRecDepth 20000 in
theorem besideGG (hn : 0 < n) (hl : n ≤ 1000000000) (hnm : n ≤ m) (i1 : IsG cur1 off1 n) (i2 : IsG cur2 off2 n) :
    ItN Tryz.prog 167 #[.pointer (some ⟨p1, 0, none⟩), .pointer (some ⟨p2, 0, none⟩)] n (fun i => #[enG cur1 off1 i, enG cur2 off2 i])
      fun W => Bs W p1 #[.slice (some ⟨g1, off1, none⟩) n c1] 52 ∧ Bs W p2 #[.slice (some ⟨g2, off2, none⟩) m c2] 52 ∧ Bs W g1 cur1 t1 fz1 ∧ Bs W g2 cur2 t2 fz2 := by
  intro l J Jx w hJ hJx hR hRx hY h0
  show Calls _ _ #[.func (.yield l) #[] #[], .pointer (some ⟨p1, 0, none⟩), .pointer (some ⟨p2, 0, none⟩)] w _
  obtain ⟨x1, x2, y1, y2⟩ := hR _ _ h0
  have HY := hide hY
  have HR := hide hR
  have HX := hide hRx
  have I1 := hide i1
  have I2 := hide i2
  have HJ := hide hJ
  clear hY hR hRx i1 i2 hJ
  go_enter Tryz.func167, Tryz.ntmps167
  have hs := St.nil w
  have lt_ba := x1.lt
  have x1z := x1
  have lt_bb := x2.lt
  have x2z := x2
  refine wp_seq_k ?_
  intro K1 hK1
  refine rg [0, 1, 2] ?_
  refine sq ?_
  refine .r1 x1.f1 ?_
  refine sq ?_
  refine .r0 ?_
  refine sq ?_
  refine .mv ?_
  apply wpSq_end
  refine hK1 _ _ ?_
  refine wp_block ?_
  have hb := hs.b
  have hd1 := hs.2.1
  go_loopg [8] n (fun kk s8 wr => ∃ i : Nat, s8 = .int .i64 (i : Int) ∧ i + kk = n ∧ J i wr)
  case atStart => exact ⟨0, rfl, by omega, HJ.out _ _ _ h0 hb⟩
  case round =>
  clear x1 x2 hb hs
  obtain ⟨i, rfl, hik, hJi⟩ := hrel
  have hs := St.nil wr
  by_cases hi : i < n
  · obtain ⟨x1, x2, y1, y2⟩ := HR.out _ _ hJi
    have lt_ba := x1.lt
    have lt_bb := x2.lt
    have lt_kA := y1.lt
    have lt_kB := y2.lt
    obtain ⟨n1, o1, k1, q1, n2, o2, k2, q2, e1, e2, e3, e4⟩ := I1.out i hi
    obtain ⟨n3, o3, k3, q3, n4, o4, k4, q4, e5, e6, e7, e8⟩ := I2.out i hi
    have HYi := hide (show ∀ W1, J i W1 → _ from fun W1 h => HY.out i W1 hi h)
    simp only [enG, cg_eq e1, cg_eq e2, cg_eq e3, cg_eq e4, cg_eq e5, cg_eq e6, cg_eq e7, cg_eq e8] at HYi
    have hi2 : i < m := by omega
    refine wp_seq_k ?_
    intro K2 hK2
    refine rg [0] ?_
    refine sq ?_
    refine .r0 ?_
    apply wpSq_end
    refine hK2 _ _ ?_
    refine wp_seq_k ?_
    intro K3 hK3
    refine ct ?_
    refine wp_skip ?_
    refine hK3 _ _ ?_
    refine wp_seq_k ?_
    intro K4 hK4
    refine wp_block ?_
    refine wp_seq_k ?_
    intro K5 hK5
    refine rg [0, 1, 2, 3, 4, 5] ?_
    refine sq ?_
    refine .mv ?_
    refine sq ?_
    refine .r0 ?_
    refine sq ?_
    refine .r4 ⟨y1.cell _ e1, y1.cell _ e2, y1.cell _ e3, y1.cell _ e4⟩ ?_
    refine sq ?_
    refine .al hs ?_; clear hs; intro p_b1 w_2 hs n2 kb_b1
    replace x1 := x1.bl n2; replace x2 := x2.bl n2; replace y1 := y1.bl n2; replace y2 := y2.bl n2
    refine sq ?_
    refine .mv ?_
    refine sq ?_
    refine .s4 hs.g0 (fun _ => hs.u0 kb_b1) ?_; clear hs; intro w_3 hs hd3 ho3
    replace x1 := x1.frame ho3 (Nat.ne_of_lt (Nat.lt_of_lt_of_le lt_ba kb_b1)); replace x2 := x2.frame ho3 (Nat.ne_of_lt (Nat.lt_of_lt_of_le lt_bb kb_b1)); replace y1 := y1.frame ho3 (Nat.ne_of_lt (Nat.lt_of_lt_of_le lt_kA kb_b1)); replace y2 := y2.frame ho3 (Nat.ne_of_lt (Nat.lt_of_lt_of_le lt_kB kb_b1))
    apply wpSq_end
    refine hK5 _ _ ?_
    refine wp_seq_k ?_
    intro K6 hK6
    refine wp_region_f4 [(0, false), (1, false), (2, false), (3, false), (4, false), (5, false)] [6, 7] [] (fun _ => default) [99, 0, 1, 99, 99, 2, 99, 99] [(6, 0)] (.c hs.g0 (.c x2 (.c y2 .n))) fn fun w_4 n4 => ?_
    replace x1 := x1.bl n4; replace x2 := x2.bl n4; replace y1 := y1.bl n4; replace y2 := y2.bl n4; replace hs := hs.bl n4
    refine fmv ?_
    refine f4 ?_
    refine f1 ?_
    refine fmv ?_
    refine f0 ?_
    apply wpFl_ld rfl rfl; (case h1 => intro w' hC K hK; have c0 := Bs.cell hC ((off2 + i * 4)) e5; have c1 := Bs.cell hC ((off2 + i * 4) + 1) e6; have c2 := Bs.cell hC ((off2 + i * 4) + 2) e7; have c3 := Bs.cell hC ((off2 + i * 4) + 3) e8; go_big_op; exact hK); iterate 4 kernel_rfl
    refine e0 hs ?_; clear hs; intro w_5 hs n5
    replace x1 := x1.bl n5; replace x2 := x2.bl n5; replace y1 := y1.bl n5; replace y2 := y2.bl n5
    have hb := hs.b
    refine tlY (YieldAt.mono ((HYi.out _ (HJ.out _ _ _ hJi hb))) fun e w_6 hY => ?_) (fun _ => by kernel_rfl)
    clear x1 x2 y1 y2 hb hs
    have hs := St.nil w_6
    rcases hY with ⟨rfl, hJ1⟩ | ⟨rfl, hx⟩
    · obtain ⟨x1, x2, y1, y2⟩ := HR.out _ _ hJ1
      refine ⟨_, rfl, (And.intro True.intro (And.intro x2 (And.intro y2 True.intro))), ?_⟩
      refine tlP ?_
      refine .r0 ?_ (e := rfl)
      apply wpTail_end
      refine hK6 _ _ ?_
      refine cf ?_
      refine wp_skip ?_
      refine hK4 _ _ ?_
      refine rg [0, 1] ?_
      refine sq ?_
      refine .r0 ?_
      refine sq ?_
      refine .mv ?_
      apply wpSq_end
      have hb := hs.b
      refine ‹∀ (a' : Act) (w' : World), Handed _ _ a' w' → _› _ _ ?_
      go_roundg (gk - 1)
      case rel => exact ⟨i + 1, by rfl, by omega, HJ.out _ _ _ hJ1 hb⟩
      case measure => omega
    · obtain ⟨x1, x2, y1, y2⟩ := HX.out _ _ hx
      refine ⟨_, rfl, (And.intro True.intro (And.intro x2 (And.intro y2 True.intro))), ?_⟩
      refine tlP ?_
      refine .r0 ?_ (e := rfl)
      apply wpTail_end
      refine hK6 _ _ ?_
      refine ct ?_
      refine wp_ret ?_
      try dsimp only [Exit.then, Exit.inBlock]
      refine bodyPost_ret (results_none rfl _ _ _) rfl ?_
      have hb := hs.b
      exact ⟨⟨_, rfl⟩, .inr ⟨i, hi, hJx _ _ _ hx hb⟩⟩
  · obtain rfl : n = i := by omega
    have HX := hide hi
    refine wp_seq_k ?_
    intro K2 hK2
    refine rg [0] ?_
    refine sq ?_
    refine .r0 ?_
    apply wpSq_end
    refine hK2 _ _ ?_
    refine wp_seq_k ?_
    intro K3 hK3
    refine cf ?_
    refine wp_exit ?_
    try simp only [Exit.then, Exit.inBlock, if_true]
    refine bodyPost_end (results_none rfl _ _ _) rfl ?_
    have hb := hs.b
    exact ⟨⟨_, rfl⟩, .inl (HJ.out _ _ _ hJi hb)⟩
end
end Go.Proofs.YtnkimagnmnocdaaGreat

/- gmat.beside; its iterators, of no rounds too. -/
namespace Go.Proofs.YtnkimagnmnocdaaGreat
open Go Go.RowKit Dig
set_option maxHeartbeats 4000000
set_option maxRecDepth 20000
set_option linter.unusedVariables false
section
variable {p1 p2 n m c1 c2 g1 g2 off1 off2 : Nat} {cur1 cur2 : Array Value} {t1 t2 t3 t4 : TypeId} {fz1 fz2 : Nat × Nat} {o1 o2 : Option Addr} {w : World} {encs : Nat → Array Value}
theorem beside0GG : ItN Tryz.prog 167 #[.pointer (some ⟨p1, 0, none⟩), .pointer (some ⟨p2, 0, none⟩)] 0 encs fun W => Bs W p1 #[.slice o1 0 c1] 52 := by
  intro l J Jx w hJ hJx hR hRx hY h0
  show Calls _ _ #[.func (.yield l) #[] #[], .pointer (some ⟨p1, 0, none⟩), .pointer (some ⟨p2, 0, none⟩)] w _
  have x1 := hR _ _ h0
  have HJ := hide hJ
  clear hY hR hRx hJ
  go_enter Tryz.func167, Tryz.ntmps167
  have hs := St.nil w
  have lt_ba := x1.lt
  have x1z := x1
  refine wp_seq_k ?_
  intro K1 hK1
  refine rg [0, 1, 2] ?_
  refine sq ?_
  refine .r1 x1.f1 ?_
  refine sq ?_
  refine .r0 ?_
  refine sq ?_
  refine .mv ?_
  apply wpSq_end
  refine hK1 _ _ ?_
  refine wp_block ?_
  have hb := hs.b
  have hd1 := hs.2.1
  go_loopg [8] 0 (fun kk s8 wr => s8 = .int .i64 0 ∧ J 0 wr)
  case atStart => exact ⟨rfl, HJ.out _ _ _ h0 hb⟩
  case round =>
  clear x1 hb hs
  obtain ⟨rfl, hJi⟩ := hrel
  have hs := St.nil wr
  refine wp_seq_k ?_
  intro K2 hK2
  refine rg [0] ?_
  refine sq ?_
  refine .r0 ?_
  apply wpSq_end
  refine hK2 _ _ ?_
  refine wp_seq_k ?_
  intro K3 hK3
  refine cf ?_
  refine wp_exit ?_
  try simp only [Exit.then, Exit.inBlock, if_true]
  refine bodyPost_end (results_none rfl _ _ _) rfl ?_
  have hb := hs.b
  exact ⟨⟨_, rfl⟩, .inl (HJ.out _ _ _ hJi hb)⟩
theorem mkBesideGG : Calls Tryz.prog 105 #[.slice o1 n c1, .slice o2 m c2] w fun e w' => ∃ p1 p2, e = .returned (.func (.func 167) #[] #[.pointer (some ⟨p1, 0, none⟩), .pointer (some ⟨p2, 0, none⟩)]) ∧ Hid (w.heap.size ≤ p1) ∧ Hid (w.heap.size ≤ p2) ∧
      St w [bx p1 #[.slice o1 n c1] 52, bx p2 #[.slice o2 m c2] 52] w' ∧ Below w.heap.size w w' := by
  go_enter Tryz.func105, Tryz.ntmps105
  have hs := St.nil w
  refine wp_seq_k ?_
  intro K1 hK1
  refine rg [0, 1, 2] ?_
  refine sq ?_
  refine .al hs ?_; clear hs; intro p_b1 w_1 hs n1 kb_b1
  refine sq ?_
  refine .al hs ?_; clear hs; intro p_b2 w_2 hs n2 kb_b2
  refine sq ?_
  refine .mv ?_
  apply wpSq_end
  refine hK1 _ _ ?_
  refine wp_seq_k ?_
  intro K2 hK2
  refine rg [0, 1] ?_
  refine sq ?_
  refine .r0 ?_
  refine sq ?_
  refine .mv ?_
  apply wpSq_end
  refine hK2 _ _ ?_
  refine wp_ret ?_
  try dsimp only [Exit.then, Exit.inBlock]
  refine bodyPost_ret (v := (.func (.func 167) #[] #[(.pointer (some ⟨p_b1, 0, none⟩)), (.pointer (some ⟨p_b2, 0, none⟩))])) (by simp [results, Tryz.results105, go_sem]) rfl ?_
  exact ⟨_, _, rfl, kb_b1, kb_b2, hs.perm (List.Perm.swap _ _ _), hs.b⟩
theorem SV.blk {l : Nat} {o : Option Addr} {ps : List (Int × Int)} (h : SN l w o ps) : ∃ g off cur ty fz, (0 < ps.length → o = some ⟨g, off, none⟩ ∧ Bs w g cur ty fz) ∧ Els (RN l) w cur off ps := by
  rcases Nat.eq_zero_or_pos ps.length with h0 | h0
  · exact ⟨0, 0, #[], 0, (0, 0), fun h => absurd h (by omega), fun i hi => absurd hi (by omega)⟩
  · obtain ⟨g, off, cur, ty, fz, e, x, d⟩ := h.box h0
    exact ⟨g, off, cur, ty, fz, fun _ => ⟨e, x⟩, d⟩
theorem Els.isG {l off : Nat} {cur : Array Value} {ps : List (Int × Int)} (h : Els (RN l) w cur off ps) : IsG cur off ps.length := fun i hi => by
  obtain ⟨n1, o1, k1, c1, n2, o2, k2, c2, e1, e2, e3, e4, _, _⟩ := h i hi
  exact ⟨n1, o1, k1, c1, n2, o2, k2, c2, e1, e2, e3, e4⟩
theorem itGG (hl : n ≤ 1000000000) (i1 : IsG cur1 off1 n) (i2 : IsG cur2 off2 n) (h1 : 0 < n → o1 = some ⟨g1, off1, none⟩) (h2 : 0 < n → o2 = some ⟨g2, off2, none⟩) :
    ItN Tryz.prog 167 #[.pointer (some ⟨p1, 0, none⟩), .pointer (some ⟨p2, 0, none⟩)] n (fun i => #[enG cur1 off1 i, enG cur2 off2 i])
      fun W => Bs W p1 #[.slice o1 n c1] 52 ∧ Bs W p2 #[.slice o2 n c2] 52 ∧ (0 < n → Bs W g1 cur1 t1 fz1 ∧ Bs W g2 cur2 t2 fz2) := by
  rcases Nat.eq_zero_or_pos n with h0 | h0
  · subst h0
    intro l J Jx w hJ hJx hR hRx hY hI
    exact beside0GG l J Jx w hJ hJx (fun k W h => (hR k W h).1) (fun k W h => (hRx k W h).1) hY hI
  · obtain rfl := h1 h0
    obtain rfl := h2 h0
    intro l J Jx w hJ hJx hR hRx hY hI
    exact besideGG h0 hl (Nat.le_refl _) i1 i2 l J Jx w hJ hJx (fun k W h => ⟨(hR k W h).1, (hR k W h).2.1, (hR k W h).2.2 h0⟩) (fun k W h => ⟨(hRx k W h).1, (hRx k W h).2.1, (hRx k W h).2.2 h0⟩) hY hI
end
end Go.Proofs.YtnkimagnmnocdaaGreat
