/- The reference's Gaussian integers; the law's is and g. -/
import Derived.Test.YtjfjlloibmebeaaGreatM2ToG2
import Derived.Test.YtjfjlloibmebeaaGreatY8
import Derived.Test.YtjfjlloibmebeaaGreatWkToM1
import Derived.OrdersIn
import Derived.RangeFuncFrom
import Derived.RangeFuncNested
import Derived.RangeFuncBound

namespace Go.Proofs.YtjfjlloibmebeaaGreat
open Go Go.RowKit Dig
set_option maxHeartbeats 4000000
set_option maxRecDepth 20000
set_option linter.unusedVariables false
section
variable {w : World} {va vb : Value} {x y u v : Int} {l m k n : Nat}
theorem rgSub_any (ha : PN w va x l y m) (hq : PN w vb u k v n) (hl : l ≤ 100000000) (hm : m ≤ 100000000) (hk : k ≤ 100000000) (hn : n ≤ 100000000) :
   Calls Tryz.prog 190 #[va, vb] w fun e w' => ∃ r, e = .returned r ∧ PC w' r (x - u) (y - v) ∧ Below w.heap.size w w' := by
 obtain ⟨n_0a, o_0a, k_0a, c_0a, n_0b, o_0b, k_0b, c_0b, rfl, ha1, ha2⟩ := ha
 obtain ⟨n_1a, o_1a, k_1a, c_1a, n_1b, o_1b, k_1b, c_1b, rfl, hq1, hq2⟩ := hq
 go_enter Tryz.func190, Tryz.ntmps190
 have hs := St.nil w
 refine wp_seq_k fun K1 hK1 => rg [0, 1, 2] ?_
 refine sq ?_
 refine .al hs ?_; clear hs; intro p_b1 w_1 hs n1 kb_b1
 refine sq ?_
 refine .al hs ?_; clear hs; intro p_b2 w_2 hs n2 kb_b2
 refine sq ?_
 refine .al hs ?_; clear hs; intro p_b3 w_3 hs n3 kb_b3
 apply wpSq_end
 refine hK1 _ _ ?_
 refine wp_seq_k ?_
 intro K2 hK2
 refine wp_region_f4 [(0, false), (1, false), (2, false), (3, false), (5, false), (6, false), (7, false), (8, false), (4, true), (9, true), (10, false)] [11] [] (fun _ => default) [99, 0, 99, 1, 99, 99, 0, 99, 1, 99, 99, 99] [] (.c hs.g2 (.c hs.g1 .n)) fn fun w_4 n4 => ?_
 replace hs := hs.bl n4
 refine f0 ?_
 refine f4 ?_
 refine f0 ?_
 refine f4 ?_
 refine f0 ?_
 refine f4 ?_
 refine f0 ?_
 refine f4 ?_
 refine fl fun w_5 n5 => ?_
 replace hs := hs.bl n5
 intro K hK
 have k0_5 := ((((kb n1).b n2).b n3).b n4).b n5
 replace ha1 := ha1.k k0_5
 replace hq1 := hq1.k k0_5
 go_big_op
 go_fit (rzsub_any ha1 hq1 (by omega) (by omega) )
 rintro e w_6 ⟨v_g1, rfl, g1, hb_6⟩
 replace hs := hs.bl hb_6
 replace g1 := g1.rd
 obtain ⟨n_g1, o_g1, k_g1, c_g1, rfl⟩ := g1.open2
 refine hK _ _ rfl ⟨hb_6, (And.intro hs.g2 (And.intro hs.g1 trivial))⟩ ?_
 clear hK K
 refine fl fun w_7 n7 => ?_
 replace hs := hs.bl n7
 intro K hK
 have k0_7 := (k0_5.b hb_6).b n7
 replace ha2 := ha2.k k0_7
 replace hq2 := hq2.k k0_7
 go_big_op
 go_fit (rzsub_any ha2 hq2 (by omega) (by omega) )
 rintro e w_8 ⟨v_g2, rfl, g2, hb_8⟩
 replace hs := hs.bl hb_8
 replace g2 := g2.rd
 obtain ⟨n_g2, o_g2, k_g2, c_g2, rfl⟩ := g2.open2
 refine hK _ _ rfl ⟨hb_8, (And.intro hs.g2 (And.intro hs.g1 trivial))⟩ ?_
 clear hK K
 refine f0 ?_
 refine e0 hs ?_; clear hs; intro w_9 hs n9
 refine tl ?_
 refine .s4 hs.g0 (fun _ => hs.u0 kb_b3) ?_ (e := fun _ hs => (And.intro hs.g2 (And.intro hs.g1 True.intro))); clear hs; intro w_10 hs hd10 ho10
 apply wpTail_end
 refine hK2 _ _ ?_
 refine wp_ret ?_
 try dsimp only [Exit.then, Exit.inBlock]
 obtain ⟨r0_0, r0_1, r0_2, r0_3⟩ := hs.g0.f4
 refine bodyPost_ret (v := (.agg #[.bool n_g1, .slice o_g1 k_g1 c_g1, .bool n_g2, .slice o_g2 k_g2 c_g2])) (by simp [results, Tryz.results190, go_sem, r0_0, r0_1, r0_2, r0_3]) rfl ?_
 have k6_10 := (((kb n7).b hb_8).b n9).o hd10 ho10
 replace g1 := g1.k k6_10
 have k8_10 := (kb n9).o hd10 ho10
 replace g2 := g2.k k8_10
 exact ⟨_, rfl, .mk' g1 g2, hs.b⟩
theorem rgMul_any (ha : PN w va x l y m) (hq : PN w vb u k v n) (hl : l ≤ 40000000) (hm : m ≤ 40000000) (hk : k ≤ 40000000) (hn : n ≤ 40000000) :
   Calls Tryz.prog 125 #[va, vb] w fun e w' => ∃ r, e = .returned r ∧ PC w' r (x * u - y * v) (x * v + y * u) ∧ Below w.heap.size w w' := by
 obtain ⟨n_0a, o_0a, k_0a, c_0a, n_0b, o_0b, k_0b, c_0b, rfl, ha1, ha2⟩ := ha
 obtain ⟨n_1a, o_1a, k_1a, c_1a, n_1b, o_1b, k_1b, c_1b, rfl, hq1, hq2⟩ := hq
 go_enter Tryz.func125, Tryz.ntmps125
 have hs := St.nil w
 refine wp_seq_k fun K1 hK1 => rg [0, 1, 2] ?_
 refine sq ?_
 refine .al hs ?_; clear hs; intro p_b1 w_1 hs n1 kb_b1
 refine sq ?_
 refine .al hs ?_; clear hs; intro p_b2 w_2 hs n2 kb_b2
 refine sq ?_
 refine .al hs ?_; clear hs; intro p_b3 w_3 hs n3 kb_b3
 apply wpSq_end
 refine hK1 _ _ ?_
 refine wp_seq_k ?_
 intro K2 hK2
 refine wp_region_f4 [(0, false), (1, false), (2, false), (3, false), (5, false), (6, false), (7, false), (8, false), (4, true), (9, true), (10, true)] [12] [11] (fun j => (.cells #[.bool false, .slice none 0 0] 36)) [99, 0, 99, 1, 99, 99, 0, 99, 1, 99, 99, 99, 99] [] (.c hs.g2 (.c hs.g1 .n)) (fm fn) fun w_4 n4 => ?_
 replace hs := hs.bl n4
 have hlB := hs.lt; have hkB := hs.k
 refine f0 ?_
 refine f4 ?_
 refine f0 ?_
 refine f4 ?_
 refine f0 ?_
 refine f4 ?_
 refine f0 ?_
 refine f4 ?_
 refine fl fun w_5 n5 => ?_
 replace hs := hs.bl n5
 intro K hK
 have k0_5 := ((((kb n1).b n2).b n3).b n4).b n5
 replace ha1 := ha1.k k0_5
 replace hq1 := hq1.k k0_5
 go_big_op
 go_fit (rzmul_any ha1 hq1 (by omega) (by omega) )
 rintro e w_6 ⟨v_g1, rfl, g1, hb_6⟩
 replace hs := hs.bl hb_6
 replace g1 := g1.rd
 obtain ⟨n_g1, o_g1, k_g1, c_g1, rfl⟩ := g1.open2
 have Lg1 := hide (g1.lenOf (zlen_mul (ha1.len) (hq1.len)))
 refine hK _ _ rfl ⟨hb_6, (And.intro hs.g2 (And.intro hs.g1 trivial))⟩ ?_
 clear hK K
 refine fl fun w_7 n7 => ?_
 replace hs := hs.bl n7
 intro K hK
 have k0_7 := (k0_5.b hb_6).b n7
 replace ha2 := ha2.k k0_7
 replace hq2 := hq2.k k0_7
 go_big_op
 go_fit (rzmul_any ha2 hq2 (by omega) (by omega) )
 rintro e w_8 ⟨v_g2, rfl, g2, hb_8⟩
 replace hs := hs.bl hb_8
 replace g2 := g2.rd
 obtain ⟨n_g2, o_g2, k_g2, c_g2, rfl⟩ := g2.open2
 have Lg2 := hide (g2.lenOf (zlen_mul (ha2.len) (hq2.len)))
 refine hK _ _ rfl ⟨hb_8, (And.intro hs.g2 (And.intro hs.g1 trivial))⟩ ?_
 clear hK K
 refine fl fun w_9 n9 => ?_
 replace hs := hs.bl n9
 intro K hK
 have k6_9 := ((kb n7).b hb_8).b n9
 replace g1 := g1.k k6_9
 have k8_9 := kb n9
 replace g2 := g2.k k8_9
 go_big_op
 go_fit (rzsub_any (g1.zn Lg1.out) (g2.zn Lg2.out) (by omega) (by omega) )
 rintro e w_10 ⟨v_g3, rfl, g3, hb_10⟩
 replace hs := hs.bl hb_10
 replace g3 := g3.rd
 obtain ⟨n_g3, o_g3, k_g3, c_g3, rfl⟩ := g3.open2
 refine hK _ _ rfl ⟨hb_10, (And.intro hs.g2 (And.intro hs.g1 trivial))⟩ ?_
 clear hK K
 refine e1 hs hlB hkB ?_; clear hs hlB hkB; intro w_11 p_b4 hs n11 kb_b4
 refine tl ?_
 refine .s2 hs.g0 (fun _ => hs.u0 kb_b4) ?_ (e := fun _ hs => (And.intro hs.g3 (And.intro hs.g2 True.intro))); clear hs; intro w_12 hs hd12 ho12
 apply wpTail_end
 refine hK2 _ _ ?_
 refine wp_seq_k ?_
 intro K3 hK3
 refine wp_region_f4 [(0, false), (1, false), (2, false), (3, false), (4, false), (6, false), (7, false), (8, false), (9, false), (5, true), (10, true), (11, true), (12, false)] [13] [] (fun _ => default) [0, 99, 1, 99, 2, 99, 99, 1, 99, 2, 99, 99, 99, 99] [] (.c hs.g0 (.c hs.g3 (.c hs.g2 .n))) fn fun w_13 n13 => ?_
 replace hs := hs.bl n13
 refine f2 ?_
 refine f0 ?_
 refine f4 ?_
 refine f0 ?_
 refine f4 ?_
 refine f0 ?_
 refine f4 ?_
 refine f0 ?_
 refine f4 ?_
 refine fl fun w_14 n14 => ?_
 replace hs := hs.bl n14
 intro K hK
 have k5_14 := ((((((((kb hb_6).b n7).b hb_8).b n9).b hb_10).b n11).o hd12 ho12).b n13).b n14
 replace ha1 := ha1.k k5_14
 have k7_14 := ((((((kb hb_8).b n9).b hb_10).b n11).o hd12 ho12).b n13).b n14
 replace hq2 := hq2.k k7_14
 go_big_op
 go_fit (rzmul_any ha1 hq2 (by omega) (by omega) )
 rintro e w_15 ⟨v_g4, rfl, g4, hb_15⟩
 replace hs := hs.bl hb_15
 replace g4 := g4.rd
 obtain ⟨n_g4, o_g4, k_g4, c_g4, rfl⟩ := g4.open2
 have Lg4 := hide (g4.lenOf (zlen_mul (ha1.len) (hq2.len)))
 refine hK _ _ rfl ⟨hb_15, (And.intro hs.g0 (And.intro hs.g3 (And.intro hs.g2 trivial)))⟩ ?_
 clear hK K
 refine fl fun w_16 n16 => ?_
 replace hs := hs.bl n16
 intro K hK
 have k7_16 := (k7_14.b hb_15).b n16
 replace ha2 := ha2.k k7_16
 have k5_16 := (k5_14.b hb_15).b n16
 replace hq1 := hq1.k k5_16
 go_big_op
 go_fit (rzmul_any ha2 hq1 (by omega) (by omega) )
 rintro e w_17 ⟨v_g5, rfl, g5, hb_17⟩
 replace hs := hs.bl hb_17
 replace g5 := g5.rd
 obtain ⟨n_g5, o_g5, k_g5, c_g5, rfl⟩ := g5.open2
 have Lg5 := hide (g5.lenOf (zlen_mul (ha2.len) (hq1.len)))
 refine hK _ _ rfl ⟨hb_17, (And.intro hs.g0 (And.intro hs.g3 (And.intro hs.g2 trivial)))⟩ ?_
 clear hK K
 refine fl fun w_18 n18 => ?_
 replace hs := hs.bl n18
 intro K hK
 have k15_18 := ((kb n16).b hb_17).b n18
 replace g4 := g4.k k15_18
 have k17_18 := kb n18
 replace g5 := g5.k k17_18
 go_big_op
 go_fit (rzadd_any (g4.zn Lg4.out) (g5.zn Lg5.out) (by omega) (by omega) )
 rintro e w_19 ⟨v_g6, rfl, g6, hb_19⟩
 replace hs := hs.bl hb_19
 replace g6 := g6.rd
 obtain ⟨n_g6, o_g6, k_g6, c_g6, rfl⟩ := g6.open2
 refine hK _ _ rfl ⟨hb_19, (And.intro hs.g0 (And.intro hs.g3 (And.intro hs.g2 trivial)))⟩ ?_
 clear hK K
 refine f0 ?_
 refine e0 hs ?_; clear hs; intro w_20 hs n20
 refine tl ?_
 refine .s4 hs.g1 (fun _ => hs.u1 kb_b3) ?_ (e := fun _ hs => (And.intro hs.g0 (And.intro hs.g3 (And.intro hs.g2 True.intro)))); clear hs; intro w_21 hs hd21 ho21
 apply wpTail_end
 refine hK3 _ _ ?_
 refine wp_ret ?_
 try dsimp only [Exit.then, Exit.inBlock]
 obtain ⟨r0_0, r0_1, r0_2, r0_3⟩ := hs.g1.f4
 refine bodyPost_ret (v := (.agg #[.bool n_g3, .slice o_g3 k_g3 c_g3, .bool n_g6, .slice o_g6 k_g6 c_g6])) (by simp [results, Tryz.results125, go_sem, r0_0, r0_1, r0_2, r0_3]) rfl ?_
 have k10_21 := ((((((((((kb n11).o hd12 ho12).b n13).b n14).b hb_15).b n16).b hb_17).b n18).b hb_19).b n20).o hd21 ho21
 replace g3 := g3.k k10_21
 have k19_21 := (kb n20).o hd21 ho21
 replace g6 := g6.k k19_21
 exact ⟨_, rfl, .mk' g3 g6, hs.b⟩
theorem rgNeg_any (ha : PN w va x l y m) (hl : l ≤ 100000000) (hm : m ≤ 100000000) :
   Calls Tryz.prog 94 #[va] w fun e w' => ∃ r, e = .returned r ∧ PC w' r (-x) (-y) ∧ Below w.heap.size w w' := by
 obtain ⟨n_0a, o_0a, k_0a, c_0a, n_0b, o_0b, k_0b, c_0b, rfl, ha1, ha2⟩ := ha
 go_enter Tryz.func94, Tryz.ntmps94
 have hs := St.nil w
 refine wp_seq_k fun K1 hK1 => rg [0, 1] ?_
 refine sq ?_
 refine .al hs ?_; clear hs; intro p_b1 w_1 hs n1 kb_b1
 refine sq ?_
 refine .al hs ?_; clear hs; intro p_b2 w_2 hs n2 kb_b2
 apply wpSq_end
 refine hK1 _ _ ?_
 refine wp_seq_k ?_
 intro K2 hK2
 refine wp_region_f4 [(0, false), (1, false), (3, false), (4, false), (2, true), (5, true), (6, false)] [7] [] (fun _ => default) [99, 0, 99, 99, 0, 99, 99, 99] [] (.c hs.g1 .n) fn fun w_3 n3 => ?_
 replace hs := hs.bl n3
 refine f0 ?_
 refine f4 ?_
 refine f0 ?_
 refine f4 ?_
 refine fl fun w_4 n4 => ?_
 replace hs := hs.bl n4
 intro K hK
 have k0_4 := (((kb n1).b n2).b n3).b n4
 replace ha1 := ha1.k k0_4
 go_big_op
 go_fit (rneg_any ha1 (by omega) )
 rintro e w_5 ⟨v_g1, rfl, g1, hb_5⟩
 replace hs := hs.bl hb_5
 replace g1 := g1.rd
 obtain ⟨n_g1, o_g1, k_g1, c_g1, rfl⟩ := g1.open2
 refine hK _ _ rfl ⟨hb_5, (And.intro hs.g1 trivial)⟩ ?_
 clear hK K
 refine fl fun w_6 n6 => ?_
 replace hs := hs.bl n6
 intro K hK
 have k0_6 := (k0_4.b hb_5).b n6
 replace ha2 := ha2.k k0_6
 go_big_op
 go_fit (rneg_any ha2 (by omega) )
 rintro e w_7 ⟨v_g2, rfl, g2, hb_7⟩
 replace hs := hs.bl hb_7
 replace g2 := g2.rd
 obtain ⟨n_g2, o_g2, k_g2, c_g2, rfl⟩ := g2.open2
 refine hK _ _ rfl ⟨hb_7, (And.intro hs.g1 trivial)⟩ ?_
 clear hK K
 refine f0 ?_
 refine e0 hs ?_; clear hs; intro w_8 hs n8
 refine tl ?_
 refine .s4 hs.g0 (fun _ => hs.u0 kb_b2) ?_ (e := fun _ hs => (And.intro hs.g1 True.intro)); clear hs; intro w_9 hs hd9 ho9
 apply wpTail_end
 refine hK2 _ _ ?_
 refine wp_ret ?_
 try dsimp only [Exit.then, Exit.inBlock]
 obtain ⟨r0_0, r0_1, r0_2, r0_3⟩ := hs.g0.f4
 refine bodyPost_ret (v := (.agg #[.bool n_g1, .slice o_g1 k_g1 c_g1, .bool n_g2, .slice o_g2 k_g2 c_g2])) (by simp [results, Tryz.results94, go_sem, r0_0, r0_1, r0_2, r0_3]) rfl ?_
 have k5_9 := (((kb n6).b hb_7).b n8).o hd9 ho9
 replace g1 := g1.k k5_9
 have k7_9 := (kb n8).o hd9 ho9
 replace g2 := g2.k k7_9
 exact ⟨_, rfl, .mk' g1 g2, hs.b⟩
theorem rgConj_any (ha : PN w va x l y m) (hl : l ≤ 100000000) (hm : m ≤ 100000000) :
   Calls Tryz.prog 98 #[va] w fun e w' => ∃ r, e = .returned r ∧ PC w' r x (-y) ∧ Below w.heap.size w w' := by
 obtain ⟨n_0a, o_0a, k_0a, c_0a, n_0b, o_0b, k_0b, c_0b, rfl, ha1, ha2⟩ := ha
 go_enter Tryz.func98, Tryz.ntmps98
 have hs := St.nil w
 refine wp_seq_k fun K1 hK1 => rg [0, 1] ?_
 refine sq ?_
 refine .al hs ?_; clear hs; intro p_b1 w_1 hs n1 kb_b1
 refine sq ?_
 refine .al hs ?_; clear hs; intro p_b2 w_2 hs n2 kb_b2
 apply wpSq_end
 refine hK1 _ _ ?_
 refine wp_seq_k ?_
 intro K2 hK2
 refine wp_region_f4 [(0, false), (1, false), (3, false), (4, false), (2, true), (5, true), (6, false)] [7] [] (fun _ => default) [99, 0, 99, 99, 0, 99, 99, 99] [] (.c hs.g1 .n) fn fun w_3 n3 => ?_
 replace hs := hs.bl n3
 refine f0 ?_
 refine f4 ?_
 refine f0 ?_
 refine f4 ?_
 refine fl fun w_4 n4 => ?_
 replace hs := hs.bl n4
 intro K hK
 have k0_4 := (((kb n1).b n2).b n3).b n4
 replace ha1 := ha1.k k0_4
 go_big_op
 go_fit (rnorm_any ha1 (by omega) )
 rintro e w_5 ⟨v_g1, rfl, g1, hb_5⟩
 replace hs := hs.bl hb_5
 replace g1 := g1.rd
 obtain ⟨n_g1, o_g1, k_g1, c_g1, rfl⟩ := g1.open2
 refine hK _ _ rfl ⟨hb_5, (And.intro hs.g1 trivial)⟩ ?_
 clear hK K
 refine fl fun w_6 n6 => ?_
 replace hs := hs.bl n6
 intro K hK
 have k0_6 := (k0_4.b hb_5).b n6
 replace ha2 := ha2.k k0_6
 go_big_op
 go_fit (rneg_any ha2 (by omega) )
 rintro e w_7 ⟨v_g2, rfl, g2, hb_7⟩
 replace hs := hs.bl hb_7
 replace g2 := g2.rd
 obtain ⟨n_g2, o_g2, k_g2, c_g2, rfl⟩ := g2.open2
 refine hK _ _ rfl ⟨hb_7, (And.intro hs.g1 trivial)⟩ ?_
 clear hK K
 refine f0 ?_
 refine e0 hs ?_; clear hs; intro w_8 hs n8
 refine tl ?_
 refine .s4 hs.g0 (fun _ => hs.u0 kb_b2) ?_ (e := fun _ hs => (And.intro hs.g1 True.intro)); clear hs; intro w_9 hs hd9 ho9
 apply wpTail_end
 refine hK2 _ _ ?_
 refine wp_ret ?_
 try dsimp only [Exit.then, Exit.inBlock]
 obtain ⟨r0_0, r0_1, r0_2, r0_3⟩ := hs.g0.f4
 refine bodyPost_ret (v := (.agg #[.bool n_g1, .slice o_g1 k_g1 c_g1, .bool n_g2, .slice o_g2 k_g2 c_g2])) (by simp [results, Tryz.results98, go_sem, r0_0, r0_1, r0_2, r0_3]) rfl ?_
 have k5_9 := (((kb n6).b hb_7).b n8).o hd9 ho9
 replace g1 := g1.k k5_9
 have k7_9 := (kb n8).o hd9 ho9
 replace g2 := g2.k k7_9
 exact ⟨_, rfl, .mk' g1 g2, hs.b⟩
theorem rgCanonical_any (ha : PN w va x l y m) (hl : l ≤ 100000000) (hm : m ≤ 100000000) :
   Calls Tryz.prog 95 #[va] w fun e w' => ∃ r, e = .returned r ∧ PC w' r x y ∧ Below w.heap.size w w' := by
 obtain ⟨n_0a, o_0a, k_0a, c_0a, n_0b, o_0b, k_0b, c_0b, rfl, ha1, ha2⟩ := ha
 go_enter Tryz.func95, Tryz.ntmps95
 have hs := St.nil w
 refine wp_seq_k fun K1 hK1 => rg [0, 1] ?_
 refine sq ?_
 refine .al hs ?_; clear hs; intro p_b1 w_1 hs n1 kb_b1
 refine sq ?_
 refine .al hs ?_; clear hs; intro p_b2 w_2 hs n2 kb_b2
 apply wpSq_end
 refine hK1 _ _ ?_
 refine wp_seq_k ?_
 intro K2 hK2
 refine wp_region_f4 [(0, false), (1, false), (3, false), (4, false), (2, true), (5, true), (6, false)] [7] [] (fun _ => default) [99, 0, 99, 99, 0, 99, 99, 99] [] (.c hs.g1 .n) fn fun w_3 n3 => ?_
 replace hs := hs.bl n3
 refine f0 ?_
 refine f4 ?_
 refine f0 ?_
 refine f4 ?_
 refine fl fun w_4 n4 => ?_
 replace hs := hs.bl n4
 intro K hK
 have k0_4 := (((kb n1).b n2).b n3).b n4
 replace ha1 := ha1.k k0_4
 go_big_op
 go_fit (rnorm_any ha1 (by omega) )
 rintro e w_5 ⟨v_g1, rfl, g1, hb_5⟩
 replace hs := hs.bl hb_5
 replace g1 := g1.rd
 obtain ⟨n_g1, o_g1, k_g1, c_g1, rfl⟩ := g1.open2
 refine hK _ _ rfl ⟨hb_5, (And.intro hs.g1 trivial)⟩ ?_
 clear hK K
 refine fl fun w_6 n6 => ?_
 replace hs := hs.bl n6
 intro K hK
 have k0_6 := (k0_4.b hb_5).b n6
 replace ha2 := ha2.k k0_6
 go_big_op
 go_fit (rnorm_any ha2 (by omega) )
 rintro e w_7 ⟨v_g2, rfl, g2, hb_7⟩
 replace hs := hs.bl hb_7
 replace g2 := g2.rd
 obtain ⟨n_g2, o_g2, k_g2, c_g2, rfl⟩ := g2.open2
 refine hK _ _ rfl ⟨hb_7, (And.intro hs.g1 trivial)⟩ ?_
 clear hK K
 refine f0 ?_
 refine e0 hs ?_; clear hs; intro w_8 hs n8
 refine tl ?_
 refine .s4 hs.g0 (fun _ => hs.u0 kb_b2) ?_ (e := fun _ hs => (And.intro hs.g1 True.intro)); clear hs; intro w_9 hs hd9 ho9
 apply wpTail_end
 refine hK2 _ _ ?_
 refine wp_ret ?_
 try dsimp only [Exit.then, Exit.inBlock]
 obtain ⟨r0_0, r0_1, r0_2, r0_3⟩ := hs.g0.f4
 refine bodyPost_ret (v := (.agg #[.bool n_g1, .slice o_g1 k_g1 c_g1, .bool n_g2, .slice o_g2 k_g2 c_g2])) (by simp [results, Tryz.results95, go_sem, r0_0, r0_1, r0_2, r0_3]) rfl ?_
 have k5_9 := (((kb n6).b hb_7).b n8).o hd9 ho9
 replace g1 := g1.k k5_9
 have k7_9 := (kb n8).o hd9 ho9
 replace g2 := g2.k k7_9
 exact ⟨_, rfl, .mk' g1 g2, hs.b⟩
theorem rgNorm_any (ha : PN w va x l y m) (hl : l ≤ 40000000) (hm : m ≤ 40000000) :
   Calls Tryz.prog 152 #[va] w fun e w' => ∃ r, e = .returned r ∧ ZC w' r (gN x y) ∧ Below w.heap.size w w' := by
 unfold gN
 obtain ⟨n_0a, o_0a, k_0a, c_0a, n_0b, o_0b, k_0b, c_0b, rfl, ha1, ha2⟩ := ha
 go_enter Tryz.func152, Tryz.ntmps152
 have hs := St.nil w
 refine wp_seq_k fun K1 hK1 => rg [0, 1] ?_
 refine sq ?_
 refine .al hs ?_; clear hs; intro p_b1 w_1 hs n1 kb_b1
 refine sq ?_
 refine .al hs ?_; clear hs; intro p_b2 w_2 hs n2 kb_b2
 apply wpSq_end
 refine hK1 _ _ ?_
 refine wp_seq_k ?_
 intro K2 hK2
 refine wp_region_f4 [(0, false), (1, false), (2, false), (3, false), (5, false), (6, false), (7, false), (8, false), (4, true), (9, true), (10, true)] [11] [] (fun _ => default) [99, 0, 99, 0, 99, 99, 0, 99, 0, 99, 99, 99] [] (.c hs.g1 .n) fn fun w_3 n3 => ?_
 replace hs := hs.bl n3
 refine f0 ?_
 refine f4 ?_
 refine f0 ?_
 refine f4 ?_
 refine f0 ?_
 refine f4 ?_
 refine f0 ?_
 refine f4 ?_
 refine fl fun w_4 n4 => ?_
 replace hs := hs.bl n4
 intro K hK
 have k0_4 := (((kb n1).b n2).b n3).b n4
 replace ha1 := ha1.k k0_4
 go_big_op
 go_fit (rzmul_any ha1 ha1 (by omega) (by omega) )
 rintro e w_5 ⟨v_g1, rfl, g1, hb_5⟩
 replace hs := hs.bl hb_5
 replace g1 := g1.rd
 obtain ⟨n_g1, o_g1, k_g1, c_g1, rfl⟩ := g1.open2
 have Lg1 := hide (g1.lenOf (zlen_mul (ha1.len) (ha1.len)))
 refine hK _ _ rfl ⟨hb_5, (And.intro hs.g1 trivial)⟩ ?_
 clear hK K
 refine fl fun w_6 n6 => ?_
 replace hs := hs.bl n6
 intro K hK
 have k0_6 := (k0_4.b hb_5).b n6
 replace ha2 := ha2.k k0_6
 go_big_op
 go_fit (rzmul_any ha2 ha2 (by omega) (by omega) )
 rintro e w_7 ⟨v_g2, rfl, g2, hb_7⟩
 replace hs := hs.bl hb_7
 replace g2 := g2.rd
 obtain ⟨n_g2, o_g2, k_g2, c_g2, rfl⟩ := g2.open2
 have Lg2 := hide (g2.lenOf (zlen_mul (ha2.len) (ha2.len)))
 refine hK _ _ rfl ⟨hb_7, (And.intro hs.g1 trivial)⟩ ?_
 clear hK K
 refine fl fun w_8 n8 => ?_
 replace hs := hs.bl n8
 intro K hK
 have k5_8 := ((kb n6).b hb_7).b n8
 replace g1 := g1.k k5_8
 have k7_8 := kb n8
 replace g2 := g2.k k7_8
 go_big_op
 go_fit (rzadd_any (g1.zn Lg1.out) (g2.zn Lg2.out) (by omega) (by omega) )
 rintro e w_9 ⟨v_g3, rfl, g3, hb_9⟩
 replace hs := hs.bl hb_9
 replace g3 := g3.rd
 obtain ⟨n_g3, o_g3, k_g3, c_g3, rfl⟩ := g3.open2
 refine hK _ _ rfl ⟨hb_9, (And.intro hs.g1 trivial)⟩ ?_
 clear hK K
 refine e0 hs ?_; clear hs; intro w_10 hs n10
 refine tl ?_
 refine .s2 hs.g0 (fun _ => hs.u0 kb_b2) ?_ (e := fun _ hs => (And.intro hs.g1 True.intro)); clear hs; intro w_11 hs hd11 ho11
 apply wpTail_end
 refine hK2 _ _ ?_
 refine wp_ret ?_
 try dsimp only [Exit.then, Exit.inBlock]
 obtain ⟨r0_0, r0_1⟩ := hs.g0.f2
 refine bodyPost_ret (v := (.agg #[.bool n_g3, .slice o_g3 k_g3 c_g3])) (by simp [results, Tryz.results152, go_sem, r0_0, r0_1]) rfl ?_
 have k9_11 := (kb n10).o hd11 ho11
 replace g3 := g3.k k9_11
 exact ⟨_, rfl, g3, hs.b⟩
theorem rgSame_any (ha : PC w va x y) (hq : PN w vb x l y m) (hl : l ≤ 100000000) (hm : m ≤ 100000000) :
   Calls Tryz.prog 156 #[va, vb] w fun e w' => e = .returned (.bool true) ∧ Below w.heap.size w w' := by
 obtain ⟨n_0a, o_0a, k_0a, c_0a, n_0b, o_0b, k_0b, c_0b, rfl, ha1, ha2⟩ := ha
 obtain ⟨n_1a, o_1a, k_1a, c_1a, n_1b, o_1b, k_1b, c_1b, rfl, hq1, hq2⟩ := hq
 go_enter Tryz.func156, Tryz.ntmps156
 have hs := St.nil w
 refine wp_seq_k fun K1 hK1 => rg [0, 1, 2] ?_
 refine sq ?_
 refine .al hs ?_; clear hs; intro p_b1 w_1 hs n1 kb_b1
 refine sq ?_
 refine .al hs ?_; clear hs; intro p_b2 w_2 hs n2 kb_b2
 refine sm ?_
 apply wpSq_end
 refine hK1 _ _ ?_
 refine wp_seq_k fun K2 hK2 => rg [0, 1, 2, 3, 4, 5, 6, 7, 8, 9, 10, 11, 12] ?_
 refine sr ?_
 refine sq ?_
 refine .r4 hs.g1.f4 ?_
 refine sr ?_
 refine sq ?_
 refine .r4 hs.g0.f4 ?_
 refine sq ?_
 intro K hK
 have k0_2 := (kb n1).b n2
 replace ha1 := ha1.k k0_2
 replace hq1 := hq1.k k0_2
 go_big_op
 go_fit (rsame_zz ha1 hq1 (by omega) )
 rintro e w_3 ⟨rfl, hb_3⟩
 replace hs := hs.bl hb_3
 refine hK _ _ rfl trivial ?_
 clear hK K
 refine sm ?_
 refine sr ?_
 refine sq ?_
 refine .r4 hs.g1.f4 ?_
 refine sr ?_
 refine sq ?_
 refine .r4 hs.g0.f4 ?_
 refine sq ?_
 intro K hK
 have k0_3 := k0_2.b hb_3
 replace ha2 := ha2.k k0_3
 replace hq2 := hq2.k k0_3
 go_big_op
 go_fit (rsame_zz ha2 hq2 (by omega) )
 rintro e w_4 ⟨rfl, hb_4⟩
 replace hs := hs.bl hb_4
 refine hK _ _ rfl trivial ?_
 clear hK K
 refine sr ?_
 refine sm ?_
 apply wpSq_end
 refine hK2 _ _ ?_
 refine wp_ret ?_
 try dsimp only [Exit.then, Exit.inBlock]
 refine bodyPost_ret (v := (.bool true)) (by simp [results, Tryz.results156, go_sem]) rfl ?_
 have hb := hs.b
 exact ⟨rfl, hb⟩
theorem rgI_any (a b : Int) (w : World) (h1 : -9223372036854775808 ≤ a) (h2 : a ≤ 9223372036854775807) (h3 : -9223372036854775808 ≤ b) (h4 : b ≤ 9223372036854775807) :
   Calls Tryz.prog 141 #[.int .i64 a, .int .i64 b] w fun e w' => ∃ r, e = .returned r ∧ PC w' r a b ∧ Below w.heap.size w w' := by
 go_enter Tryz.func141, Tryz.ntmps141
 have hs := St.nil w
 refine wp_seq_k fun K1 hK1 => rg [0] ?_
 refine sq ?_
 refine .al hs ?_; clear hs; intro p_b1 w_1 hs n1 kb_b1
 apply wpSq_end
 refine hK1 _ _ ?_
 refine wp_seq_k fun K2 hK2 => rg [0, 1, 2, 3, 4, 5] ?_
 refine sm ?_
 refine sq ?_
 intro K hK
 go_big_op
 go_fit (ri_any a _ h1 h2)
 rintro e w_2 ⟨v_g1, rfl, g1, hb_2⟩
 replace hs := hs.bl hb_2
 replace g1 := g1.rd
 obtain ⟨n_g1, o_g1, k_g1, c_g1, rfl⟩ := g1.open2
 refine hK _ _ rfl trivial ?_
 clear hK K
 refine sm ?_
 refine sq ?_
 intro K hK
 go_big_op
 go_fit (ri_any b _ h3 h4)
 rintro e w_3 ⟨v_g2, rfl, g2, hb_3⟩
 replace hs := hs.bl hb_3
 replace g2 := g2.rd
 obtain ⟨n_g2, o_g2, k_g2, c_g2, rfl⟩ := g2.open2
 refine hK _ _ rfl trivial ?_
 clear hK K
 refine sr ?_
 refine sq ?_
 refine .s4 hs.g0 (fun _ => hs.u0 kb_b1) ?_; clear hs; intro w_4 hs hd4 ho4
 apply wpSq_end
 refine hK2 _ _ ?_
 refine wp_ret ?_
 try dsimp only [Exit.then, Exit.inBlock]
 obtain ⟨r0_0, r0_1, r0_2, r0_3⟩ := hs.g0.f4
 refine bodyPost_ret (v := (.agg #[.bool n_g1, .slice o_g1 k_g1 c_g1, .bool n_g2, .slice o_g2 k_g2 c_g2])) (by simp [results, Tryz.results141, go_sem, r0_0, r0_1, r0_2, r0_3]) rfl ?_
 have k2_4 := (kb hb_3).o hd4 ho4
 replace g1 := g1.k k2_4
 have k3_4 := ko hd4 ho4
 replace g2 := g2.k k3_4
 exact ⟨_, rfl, .mk' g1 g2, hs.b⟩
theorem gFrom_any (a b : Int) (w : World) (h1 : -9223372036854775808 ≤ a) (h2 : a ≤ 9223372036854775807) (h3 : -9223372036854775808 ≤ b) (h4 : b ≤ 9223372036854775807) :
   Calls Tryz.prog 39 #[.int .i64 a, .int .i64 b] w fun e w' => ∃ r, e = .returned r ∧ PC w' r a b ∧ Below w.heap.size w w' := by
 go_enter Tryz.func39, Tryz.ntmps39
 have hs := St.nil w
 refine wp_seq_k fun K1 hK1 => rg [0] ?_
 refine sq ?_
 refine .al hs ?_; clear hs; intro p_b1 w_1 hs n1 kb_b1
 apply wpSq_end
 refine hK1 _ _ ?_
 refine wp_seq_k fun K2 hK2 => rg [0, 1, 2, 3, 4, 5] ?_
 refine sm ?_
 refine sq ?_
 intro K hK
 go_big_op
 go_fit (from_any a _ h1 h2)
 rintro e w_2 ⟨v_g1, rfl, g1, hb_2⟩
 replace hs := hs.bl hb_2
 replace g1 := g1.rd
 obtain ⟨n_g1, o_g1, k_g1, c_g1, rfl⟩ := g1.open2
 refine hK _ _ rfl trivial ?_
 clear hK K
 refine sm ?_
 refine sq ?_
 intro K hK
 go_big_op
 go_fit (from_any b _ h3 h4)
 rintro e w_3 ⟨v_g2, rfl, g2, hb_3⟩
 replace hs := hs.bl hb_3
 replace g2 := g2.rd
 obtain ⟨n_g2, o_g2, k_g2, c_g2, rfl⟩ := g2.open2
 refine hK _ _ rfl trivial ?_
 clear hK K
 refine sr ?_
 refine sq ?_
 refine .s4 hs.g0 (fun _ => hs.u0 kb_b1) ?_; clear hs; intro w_4 hs hd4 ho4
 apply wpSq_end
 refine hK2 _ _ ?_
 refine wp_ret ?_
 try dsimp only [Exit.then, Exit.inBlock]
 obtain ⟨r0_0, r0_1, r0_2, r0_3⟩ := hs.g0.f4
 refine bodyPost_ret (v := (.agg #[.bool n_g1, .slice o_g1 k_g1 c_g1, .bool n_g2, .slice o_g2 k_g2 c_g2])) (by simp [results, Tryz.results39, go_sem, r0_0, r0_1, r0_2, r0_3]) rfl ?_
 have k2_4 := (kb hb_3).o hd4 ho4
 replace g1 := g1.k k2_4
 have k3_4 := ko hd4 ho4
 replace g2 := g2.k k3_4
 exact ⟨_, rfl, .mk' g1 g2, hs.b⟩
theorem rgNull_yes (ha : PN w va 0 l 0 m) (hl : l ≤ 100000000) (hm : m ≤ 100000000) :
   Calls Tryz.prog 150 #[va] w fun e w' => e = .returned (.bool true) ∧ Below w.heap.size w w' := by
 obtain ⟨n_0a, o_0a, k_0a, c_0a, n_0b, o_0b, k_0b, c_0b, rfl, ha1, ha2⟩ := ha
 go_enter Tryz.func150, Tryz.ntmps150
 have hs := St.nil w
 refine wp_seq_k fun K1 hK1 => rg [0, 1] ?_
 refine sq ?_
 refine .al hs ?_; clear hs; intro p_b1 w_1 hs n1 kb_b1
 refine sm ?_
 apply wpSq_end
 refine hK1 _ _ ?_
 refine wp_seq_k fun K2 hK2 => rg [0, 1, 2, 3, 4, 5, 6, 7, 8, 9, 10] ?_
 refine sr ?_
 refine sq ?_
 refine .r4 hs.g0.f4 ?_
 refine sq ?_
 intro K hK
 have k0_1 := kb n1
 replace ha1 := ha1.k k0_1
 go_big_op
 go_fit (rzsign_any ha1 (by omega) )
 rintro e w_2 ⟨rfl, hb_2⟩
 replace hs := hs.bl hb_2
 refine hK _ _ rfl trivial ?_
 clear hK K
 refine sr ?_
 refine sm ?_
 refine sr ?_
 refine sq ?_
 refine .r4 hs.g0.f4 ?_
 refine sq ?_
 intro K hK
 have k0_2 := k0_1.b hb_2
 replace ha2 := ha2.k k0_2
 go_big_op
 go_fit (rzsign_any ha2 (by omega) )
 rintro e w_3 ⟨rfl, hb_3⟩
 replace hs := hs.bl hb_3
 refine hK _ _ rfl trivial ?_
 clear hK K
 refine sr ?_
 refine sr ?_
 refine sm ?_
 apply wpSq_end
 refine hK2 _ _ ?_
 refine wp_ret ?_
 try dsimp only [Exit.then, Exit.inBlock]
 refine bodyPost_ret (v := (.bool true)) (by simp [results, Tryz.results150, go_sem]) rfl ?_
 have hb := hs.b
 exact ⟨rfl, hb⟩
theorem rgNull_no1 (ha : PN w va x l y m) (hl : l ≤ 100000000) (hm : m ≤ 100000000) (h : x ≠ 0) :
   Calls Tryz.prog 150 #[va] w fun e w' => e = .returned (.bool false) ∧ Below w.heap.size w w' := by
 have H0 : (x.sign == 0) = false := by simpa using h
 obtain ⟨S, hS⟩ : ∃ S, x.sign = S := ⟨_, rfl⟩
 rw [hS] at H0
 have HS := hide hS
 clear h hS
 obtain ⟨n_0a, o_0a, k_0a, c_0a, n_0b, o_0b, k_0b, c_0b, rfl, ha1, ha2⟩ := ha
 go_enter Tryz.func150, Tryz.ntmps150
 have hs := St.nil w
 refine wp_seq_k fun K1 hK1 => rg [0, 1] ?_
 refine sq ?_
 refine .al hs ?_; clear hs; intro p_b1 w_1 hs n1 kb_b1
 refine sm ?_
 apply wpSq_end
 refine hK1 _ _ ?_
 refine wp_seq_k fun K2 hK2 => rg [0, 1, 2, 3, 4, 5, 6, 7, 8, 9, 10] ?_
 refine sr ?_
 refine sq ?_
 refine .r4 hs.g0.f4 ?_
 refine sq ?_
 intro K hK
 have k0_1 := kb n1
 replace ha1 := ha1.k k0_1
 go_big_op
 go_fit (rzsign_any ha1 (by omega) )
 rintro e w_2 ⟨rfl, hb_2⟩
 replace hs := hs.bl hb_2
 rw [HS.out]
 refine hK _ _ rfl trivial ?_
 clear hK K
 refine sr ?_
 refine sm ?_
 refine sk ?_
 refine sk ?_
 refine sk ?_
 refine sk ?_
 refine sr ?_
 refine sm ?_
 apply wpSq_end
 refine hK2 _ _ ?_
 refine wp_ret ?_
 try dsimp only [Exit.then, Exit.inBlock]
 refine bodyPost_ret (v := (.bool false)) (by simp [results, Tryz.results150, go_sem]) rfl ?_
 have hb := hs.b
 exact ⟨rfl, hb⟩
theorem rgNull_no2 (ha : PN w va 0 l y m) (hl : l ≤ 100000000) (hm : m ≤ 100000000) (h : y ≠ 0) :
   Calls Tryz.prog 150 #[va] w fun e w' => e = .returned (.bool false) ∧ Below w.heap.size w w' := by
 have H0 : (y.sign == 0) = false := by simpa using h
 obtain ⟨S, hS⟩ : ∃ S, y.sign = S := ⟨_, rfl⟩
 rw [hS] at H0
 have HS := hide hS
 clear h hS
 obtain ⟨n_0a, o_0a, k_0a, c_0a, n_0b, o_0b, k_0b, c_0b, rfl, ha1, ha2⟩ := ha
 go_enter Tryz.func150, Tryz.ntmps150
 have hs := St.nil w
 refine wp_seq_k fun K1 hK1 => rg [0, 1] ?_
 refine sq ?_
 refine .al hs ?_; clear hs; intro p_b1 w_1 hs n1 kb_b1
 refine sm ?_
 apply wpSq_end
 refine hK1 _ _ ?_
 refine wp_seq_k fun K2 hK2 => rg [0, 1, 2, 3, 4, 5, 6, 7, 8, 9, 10] ?_
 refine sr ?_
 refine sq ?_
 refine .r4 hs.g0.f4 ?_
 refine sq ?_
 intro K hK
 have k0_1 := kb n1
 replace ha1 := ha1.k k0_1
 go_big_op
 go_fit (rzsign_any ha1 (by omega) )
 rintro e w_2 ⟨rfl, hb_2⟩
 replace hs := hs.bl hb_2
 refine hK _ _ rfl trivial ?_
 clear hK K
 refine sr ?_
 refine sm ?_
 refine sr ?_
 refine sq ?_
 refine .r4 hs.g0.f4 ?_
 refine sq ?_
 intro K hK
 have k0_2 := k0_1.b hb_2
 replace ha2 := ha2.k k0_2
 go_big_op
 go_fit (rzsign_any ha2 (by omega) )
 rintro e w_3 ⟨rfl, hb_3⟩
 replace hs := hs.bl hb_3
 rw [HS.out]
 refine hK _ _ rfl trivial ?_
 clear hK K
 refine sr ?_
 refine sr ?_
 refine sm ?_
 apply wpSq_end
 refine hK2 _ _ ?_
 refine wp_ret ?_
 try dsimp only [Exit.then, Exit.inBlock]
 refine bodyPost_ret (v := (.bool false)) (by simp [results, Tryz.results150, go_sem]) rfl ?_
 have hb := hs.b
 exact ⟨rfl, hb⟩
theorem rgNull_any (ha : PN w va x l y m) (hl : l ≤ 100000000) (hm : m ≤ 100000000) :
   Calls Tryz.prog 150 #[va] w fun e w' => e = .returned (.bool (decide (x = 0 ∧ y = 0))) ∧ Below w.heap.size w w' := by
 by_cases h : x = 0
 · by_cases h2 : y = 0
   · rw [decide_eq_true (And.intro h h2)]
     subst h h2
     exact rgNull_yes ha hl hm
   · rw [decide_eq_false (fun c => h2 c.2)]
     subst h
     exact rgNull_no2 ha hl hm h2
 · rw [decide_eq_false (fun c => h c.1)]; exact rgNull_no1 ha hl hm h
end
end Go.Proofs.YtjfjlloibmebeaaGreat

/- The reference's matrices: Good, Cols, List, Same. -/
namespace Go.Proofs.YtjfjlloibmebeaaGreat
open Go Go.RowKit Dig
set_option maxHeartbeats 4000000
set_option maxRecDepth 20000
set_option linter.unusedVariables false
theorem SV.opC {w : World} {o : Option Addr} {ps : List (Int × Int)} {j : Nat} (h : SC w o ps) (hj : j < ps.length) :
   ∃ g off cur ty fz n1 o1 k1 c1 n2 o2 k2 c2, o = some ⟨g, off, none⟩ ∧ Bs w g cur ty fz ∧ cur[off + j * 4]? = some (.bool n1) ∧ cur[off + j * 4 + 1]? = some (.slice o1 k1 c1) ∧ cur[off + j * 4 + 2]? = some (.bool n2) ∧ cur[off + j * 4 + 3]? = some (.slice o2 k2 c2) ∧
     ZC w (.agg #[.bool n1, .slice o1 k1 c1]) (at1 ps j).1 ∧ ZC w (.agg #[.bool n2, .slice o2 k2 c2]) (at1 ps j).2 := by
 obtain ⟨g, off, cur, ty, fz, rfl, x, hr⟩ := h.box (by omega)
 obtain ⟨n1, o1, k1, c1, n2, o2, k2, c2, e1, e2, e3, e4, h1, h2⟩ := hr j hj
 rw [← at1_eq hj] at h1 h2
 exact ⟨g, off, cur, ty, fz, n1, o1, k1, c1, n2, o2, k2, c2, rfl, x, e1, e2, e3, e4, h1, h2⟩
theorem MV.rowC {w : World} {om : Option Addr} {Ms : List (List (Int × Int))} {i : Nat} (h : MC w om Ms) (hi : i < Ms.length) :
   ∃ g off cur ty fz oi ci, om = some ⟨g, off, none⟩ ∧ Bs w g cur ty fz ∧ cur[off + i]? = some (.slice oi (rw_ Ms i).length ci) ∧ SC w oi (rw_ Ms i) := by
 obtain ⟨g, off, cur, ty, fz, rfl, x, hr⟩ := h.box (by omega)
 obtain ⟨o, c, e, hs⟩ := hr i hi
 rw [← rw_eq hi] at e hs
 exact ⟨g, off, cur, ty, fz, o, c, rfl, x, e, hs⟩
section
variable {w : World} {l n k cm c1 c2 : Nat} {om o1 o2 : Option Addr} {Ms : List (List (Int × Int))} {ps : List (Int × Int)}
theorem vsame_any (h1 : SC w o1 ps) (h2 : SN l w o2 ps) (hn : ps.length = n) (hl : n ≤ 1000000000) (hl2 : l ≤ 100000000) :
   Calls Tryz.prog 68 #[.slice o1 n c1, .slice o2 n c2] w fun e w' => e = .returned (.bool true) ∧ Below w.heap.size w w' := by
 have H1 := hide h1
 have H2 := hide h2
 clear h1 h2
 have t1 : ((n : Int) != (n : Int)) = false := by simp
 go_enter Tryz.func68, Tryz.ntmps68
 have hs := St.nil w
 refine wp_seq_k fun K1 hK1 => rg [0] ?_
 refine sm ?_
 apply wpSq_end
 refine hK1 _ _ ?_
 refine wp_seq_k ?_
 intro K2 hK2
 refine wp_seq_k fun K3 hK3 => rg [0, 1, 2, 3, 4] ?_
 refine sm ?_
 refine sr ?_
 refine sm ?_
 refine sr ?_
 refine sr ?_
 apply wpSq_end
 refine hK3 _ _ ?_
 refine cf ?_
 refine wp_skip ?_
 refine hK2 _ _ ?_
 refine wp_seq_k ?_
 intro K4 hK4
 refine wp_seq_k fun K5 hK5 => rg [0] ?_
 refine sm ?_
 apply wpSq_end
 refine hK5 _ _ ?_
 refine wp_block ?_
 have hd1 := hs.2.1
 go_loopg [5] n (fun kk s5 wr => ∃ i : Nat, s5 = .int .i64 (i : Int) ∧ i + kk = n ∧ St w [] wr)
 case atStart => exact ⟨0, rfl, by omega, hs⟩
 case round =>
 clear hs
 obtain ⟨i, rfl, hik, hs⟩ := hrel
 by_cases hi : i < n
 · obtain ⟨g1, off1, cur1, ty1, fz1, a1, a2, a3, a4, a5, a6, a7, a8, rfl, x1, e1, e2, e3, e4, z1, z2⟩ := H1.out.opC (j := i) (by omega)
   obtain ⟨g2, off2, cur2, ty2, fz2, d1, d2, d3, d4, d5, d6, d7, d8, rfl, x2, e5, e6, e7, e8, z3, z4⟩ := H2.out.op (j := i) (by omega)
   replace z1 : ZC wr (.agg #[.bool a1, .slice a2 a3 a4]) (at1 ps i).1 := z1.bl hs.b
   replace z2 : ZC wr (.agg #[.bool a5, .slice a6 a7 a8]) (at1 ps i).2 := z2.bl hs.b
   replace z3 : ZN wr (.agg #[.bool d1, .slice d2 d3 d4]) (at1 ps i).1 l := z3.bl hs.b
   replace z4 : ZN wr (.agg #[.bool d5, .slice d6 d7 d8]) (at1 ps i).2 l := z4.bl hs.b
   replace x1 := x1.bl hs.b
   replace x2 := x2.bl hs.b
   have Lz1 := hide z3.len
   have Lz2 := hide z4.len
   generalize at1 ps i = p at *
   refine wp_seq_k ?_
   intro K6 hK6
   refine wp_seq_k fun K7 hK7 => rg [0, 1, 2, 3] ?_
   refine sm ?_
   refine sm ?_
   refine sr ?_
   refine sr ?_
   apply wpSq_end
   refine hK7 _ _ ?_
   refine ct ?_
   refine wp_skip ?_
   refine hK6 _ _ ?_
   refine wp_seq_k ?_
   intro K8 hK8
   refine wp_block ?_
   refine wp_seq_k ?_
   intro K9 hK9
   refine wp_region_f4 [(0, false), (1, false), (2, false), (3, false), (4, false), (5, false), (6, false), (7, false), (8, true), (9, false)] [] [] (fun _ => default) [99, 99, 99, 0, 99, 99, 99, 1, 99, 99] [] (.c x1 (.c x2 .n)) fn fun w_2 n2 => ?_
   replace x1 := x1.bl n2; replace x2 := x2.bl n2; replace hs := hs.bl n2
   refine fmv ?_
   refine fmv ?_
   refine f0 ?_
   apply wpFl_ld rfl rfl; (case h1 => intro w' hC K hK; have c0 := Bs.cell hC ((off1 + i * 4)) e1; have c1 := Bs.cell hC ((off1 + i * 4) + 1) e2; have c2 := Bs.cell hC ((off1 + i * 4) + 2) e3; have c3 := Bs.cell hC ((off1 + i * 4) + 3) e4; go_big_op; exact hK); iterate 4 kernel_rfl
   refine fmv ?_
   refine fmv ?_
   refine f0 ?_
   apply wpFl_ld rfl rfl; (case h1 => intro w' hC K hK; have c0 := Bs.cell hC ((off2 + i * 4)) e5; have c1 := Bs.cell hC ((off2 + i * 4) + 1) e6; have c2 := Bs.cell hC ((off2 + i * 4) + 2) e7; have c3 := Bs.cell hC ((off2 + i * 4) + 3) e8; go_big_op; exact hK); iterate 4 kernel_rfl
   refine fl fun w_3 n3 => ?_
   replace x1 := x1.bl n3; replace x2 := x2.bl n3; replace hs := hs.bl n3
   intro K hK
   have k0_2 := (kb n2).b n3
   replace z1 := z1.k k0_2
   replace z2 := z2.k k0_2
   replace z3 := z3.k k0_2
   replace z4 := z4.k k0_2
   go_big_op
   go_fit (rgSame_any (PC.mk' z1 z2) (PN.mk' z3 z4) (by omega) (by omega) )
   rintro e w_4 ⟨rfl, hb_4⟩
   replace x1 := x1.bl hb_4; replace x2 := x2.bl hb_4; replace hs := hs.bl hb_4
   refine hK _ _ rfl ⟨hb_4, (And.intro x1 (And.intro x2 trivial))⟩ ?_
   clear hK K
   refine f0 ?_
   refine e0 hs ?_; clear hs; intro w_5 hs n5
   replace x1 := x1.bl n5; replace x2 := x2.bl n5
   apply wpTail_end
   refine hK9 _ _ ?_
   refine cf ?_
   refine wp_skip ?_
   refine hK8 _ _ ?_
   refine rg [0, 1, 2] ?_
   refine sm ?_
   refine sr ?_
   refine sm ?_
   apply wpSq_end
   refine ‹∀ (a' : Act) (w' : World), Handed _ _ a' w' → _› _ _ ?_
   go_roundg (gk - 1)
   case rel => exact ⟨i + 1, by rfl, by omega, hs⟩
   case measure => omega
 · have HX := hide hi
   refine wp_seq_k ?_
   intro K6 hK6
   refine wp_seq_k fun K7 hK7 => rg [0, 1, 2, 3] ?_
   refine sm ?_
   refine sm ?_
   refine sr ?_
   refine sr ?_
   apply wpSq_end
   refine hK7 _ _ ?_
   refine cf ?_
   refine wp_exit ?_
   refine hK4 _ _ ?_
   refine wp_seq_k fun K8 hK8 => rg [0] ?_
   refine sm ?_
   apply wpSq_end
   refine hK8 _ _ ?_
   refine wp_ret ?_
   try dsimp only [Exit.then, Exit.inBlock]
   refine bodyPost_ret (v := (.bool true)) (by simp [results, Tryz.results68, go_sem]) rfl ?_
   exact ⟨rfl, hs.b⟩
theorem msame_any (h1 : MC w o1 Ms) (h2 : MN l w o2 Ms) (hn : Ms.length = n) (hl : n ≤ 1000000000) (hr : ∀ r ∈ Ms, r.length ≤ 1000000000) (hl2 : l ≤ 100000000) :
   Calls Tryz.prog 66 #[.slice o1 n c1, .slice o2 n c2] w fun e w' => e = .returned (.bool true) ∧ Below w.heap.size w w' := by
 have H1 := hide h1
 have H2 := hide h2
 have HR := hide (show ∀ i, i < n → (rw_ Ms i).length ≤ 1000000000 from fun i hi => by rw [rw_eq (by omega)]; exact hr _ (List.getElem_mem _))
 clear h1 h2 hr
 have t1 : ((n : Int) != (n : Int)) = false := by simp
 go_enter Tryz.func66, Tryz.ntmps66
 have hs := St.nil w
 refine wp_seq_k fun K1 hK1 => rg [0] ?_
 refine sm ?_
 apply wpSq_end
 refine hK1 _ _ ?_
 refine wp_seq_k ?_
 intro K2 hK2
 refine wp_seq_k fun K3 hK3 => rg [0, 1, 2, 3, 4] ?_
 refine sm ?_
 refine sr ?_
 refine sm ?_
 refine sr ?_
 refine sr ?_
 apply wpSq_end
 refine hK3 _ _ ?_
 refine cf ?_
 refine wp_skip ?_
 refine hK2 _ _ ?_
 refine wp_seq_k ?_
 intro K4 hK4
 refine wp_seq_k fun K5 hK5 => rg [0] ?_
 refine sm ?_
 apply wpSq_end
 refine hK5 _ _ ?_
 refine wp_block ?_
 have hd1 := hs.2.1
 go_loopg [5] n (fun kk s5 wr => ∃ i : Nat, s5 = .int .i64 (i : Int) ∧ i + kk = n ∧ St w [] wr)
 case atStart => exact ⟨0, rfl, by omega, hs⟩
 case round =>
 clear hs
 obtain ⟨i, rfl, hik, hs⟩ := hrel
 by_cases hi : i < n
 · obtain ⟨g1, off1, cur1, ty1, fz1, oi, ci, rfl, x1, e1, s1⟩ := H1.out.rowC (i := i) (by omega)
   obtain ⟨g2, off2, cur2, ty2, fz2, oj, cj, rfl, x2, e2, s2⟩ := H2.out.row (i := i) (by omega)
   replace x1 := x1.bl hs.b
   replace x2 := x2.bl hs.b
   have HS1 := hide s1
   have HS2 := hide s2
   have hk := HR.out i hi
   obtain ⟨u, hu⟩ : ∃ u, (rw_ Ms i).length = u := ⟨_, rfl⟩
   rw [hu] at e1 e2 hk
   have HU := hide hu
   clear s1 s2 hu
   generalize rw_ Ms i = p at *
   refine wp_seq_k ?_
   intro K6 hK6
   refine wp_seq_k fun K7 hK7 => rg [0, 1, 2, 3] ?_
   refine sm ?_
   refine sm ?_
   refine sr ?_
   refine sr ?_
   apply wpSq_end
   refine hK7 _ _ ?_
   refine ct ?_
   refine wp_skip ?_
   refine hK6 _ _ ?_
   refine wp_seq_k ?_
   intro K8 hK8
   refine wp_block ?_
   refine wp_seq_k ?_
   intro K9 hK9
   refine wp_region_f4 [(0, false), (1, false), (2, false), (3, false), (4, false), (5, false), (6, false), (7, false), (8, true), (9, false)] [] [] (fun _ => default) [99, 99, 99, 0, 99, 99, 99, 1, 99, 99] [] (.c x1 (.c x2 .n)) fn fun w_2 n2 => ?_
   replace x1 := x1.bl n2; replace x2 := x2.bl n2; replace hs := hs.bl n2
   refine fmv ?_
   refine fmv ?_
   refine f0 ?_
   apply wpFl_ld rfl rfl; (case h1 => intro w' hC K hK; have c0 := Bs.cell hC ((off1 + i)) e1; go_big_op; exact hK); iterate 4 kernel_rfl
   refine fmv ?_
   refine fmv ?_
   refine f0 ?_
   apply wpFl_ld rfl rfl; (case h1 => intro w' hC K hK; have c0 := Bs.cell hC ((off2 + i)) e2; go_big_op; exact hK); iterate 4 kernel_rfl
   refine fl fun w_3 n3 => ?_
   replace x1 := x1.bl n3; replace x2 := x2.bl n3; replace hs := hs.bl n3
   intro K hK
   have hb := hs.b
   go_big_op
   go_fit (vsame_any (HS1.out.bl stab_c hb) (HS2.out.bl stab_n hb) HU.out hk hl2)
   rintro e w_4 ⟨rfl, hb_4⟩
   clear hb
   replace x1 := x1.bl hb_4; replace x2 := x2.bl hb_4; replace hs := hs.bl hb_4
   refine hK _ _ rfl ⟨hb_4, (And.intro x1 (And.intro x2 trivial))⟩ ?_
   clear hK K
   refine f0 ?_
   refine e0 hs ?_; clear hs; intro w_5 hs n5
   replace x1 := x1.bl n5; replace x2 := x2.bl n5
   apply wpTail_end
   refine hK9 _ _ ?_
   refine cf ?_
   refine wp_skip ?_
   refine hK8 _ _ ?_
   refine rg [0, 1, 2] ?_
   refine sm ?_
   refine sr ?_
   refine sm ?_
   apply wpSq_end
   refine ‹∀ (a' : Act) (w' : World), Handed _ _ a' w' → _› _ _ ?_
   go_roundg (gk - 1)
   case rel => exact ⟨i + 1, by rfl, by omega, hs⟩
   case measure => omega
 · have HX := hide hi
   refine wp_seq_k ?_
   intro K6 hK6
   refine wp_seq_k fun K7 hK7 => rg [0, 1, 2, 3] ?_
   refine sm ?_
   refine sm ?_
   refine sr ?_
   refine sr ?_
   apply wpSq_end
   refine hK7 _ _ ?_
   refine cf ?_
   refine wp_exit ?_
   refine hK4 _ _ ?_
   refine wp_seq_k fun K8 hK8 => rg [0] ?_
   refine sm ?_
   apply wpSq_end
   refine hK8 _ _ ?_
   refine wp_ret ?_
   try dsimp only [Exit.then, Exit.inBlock]
   refine bodyPost_ret (v := (.bool true)) (by simp [results, Tryz.results66, go_sem]) rfl ?_
   exact ⟨rfl, hs.b⟩
end
end Go.Proofs.YtjfjlloibmebeaaGreat

/- The reference's Good and Cols. -/
namespace Go.Proofs.YtjfjlloibmebeaaGreat
open Go Go.RowKit Dig
set_option maxHeartbeats 4000000
set_option maxRecDepth 20000
set_option linter.unusedVariables false
section
variable {w : World} {l n k cm : Nat} {om : Option Addr} {Ms : List (List (Int × Int))}
theorem rCols_any (hm : MN l w om Ms) (hn : Ms.length = n) (hk : wd Ms = k) :
   Calls Tryz.prog 21 #[.slice om n cm] w fun e w' => e = .returned (.int .i64 (k : Int)) ∧ Below w.heap.size w w' := by
 rcases Nat.eq_zero_or_pos n with h0 | h0
 · have hk0 : 0 = k := by rw [← hk, wd_nil (hn.trans h0)]
   subst hk0 h0
   clear hk hn hm
   go_enter Tryz.func21, Tryz.ntmps21
   have hs := St.nil w
   refine wp_seq_k fun K1 hK1 => rg [0] ?_
   refine sm ?_
   apply wpSq_end
   refine hK1 _ _ ?_
   refine wp_seq_k ?_
   intro K2 hK2
   refine wp_seq_k fun K3 hK3 => rg [0, 1, 2] ?_
   refine sm ?_
   refine sr ?_
   refine sr ?_
   apply wpSq_end
   refine hK3 _ _ ?_
   refine ct ?_
   refine wp_seq_k fun K4 hK4 => rg [0] ?_
   refine sm ?_
   apply wpSq_end
   refine hK4 _ _ ?_
   refine wp_ret ?_
   try dsimp only [Exit.then, Exit.inBlock]
   refine bodyPost_ret (v := (.int .i64 0)) (by simp [results, Tryz.results21, go_sem]) rfl ?_
   exact ⟨rfl, hs.b⟩
 · obtain ⟨g, off, cur, ty, fz, rfl, x, hr⟩ := hm.box (by omega)
   obtain ⟨o0, c0, e0, s0⟩ := hr 0 (by omega)
   rw [wd_0 (by omega), hk, Nat.add_zero] at e0
   clear hm hr s0 hk hn
   go_enter Tryz.func21, Tryz.ntmps21
   have hs := St.nil w
   refine wp_seq_k fun K1 hK1 => rg [0] ?_
   refine sm ?_
   apply wpSq_end
   refine hK1 _ _ ?_
   refine wp_seq_k ?_
   intro K2 hK2
   refine wp_seq_k fun K3 hK3 => rg [0, 1, 2] ?_
   refine sm ?_
   refine sr ?_
   refine sr ?_
   apply wpSq_end
   refine hK3 _ _ ?_
   refine cf ?_
   refine wp_skip ?_
   refine hK2 _ _ ?_
   refine wp_seq_k fun K4 hK4 => rg [0, 1, 2, 3, 4] ?_
   refine sm ?_
   refine sr ?_
   refine sq ?_
   refine .r1 (x.cell _ e0) ?_
   refine sr ?_
   refine sm ?_
   apply wpSq_end
   refine hK4 _ _ ?_
   refine wp_ret ?_
   try dsimp only [Exit.then, Exit.inBlock]
   refine bodyPost_ret (v := (.int .i64 ((k : Nat) : Int))) (by simp [results, Tryz.results21, go_sem]) rfl ?_
   exact ⟨rfl, hs.b⟩
theorem rGood_any (hm : MN l w om Ms) (hn : Ms.length = n) (hl : n ≤ 1000000000) :
   Calls Tryz.prog 20 #[.slice om n cm] w fun e w' => e = .returned (.bool (decide (gd Ms))) ∧ Below w.heap.size w w' := by
 obtain ⟨k, hk⟩ : ∃ k, wd Ms = k := ⟨_, rfl⟩
 have HG := hide (show (n ≤ 64 ∧ k ≤ 64 ∧ ∀ r ∈ Ms, r.length = k) ↔ gd Ms by unfold gd; rw [hk, hn])
 have HM := hide hm
 by_cases hn64 : 64 < n
 · have hg : decide (gd Ms) = false := decide_eq_false fun h => by have := (HG.out.2 h).1; omega
   have Hg := hide hg
   clear hg hm
   go_enter Tryz.func20, Tryz.ntmps20
   have hs := St.nil w
   refine wp_seq_k fun K1 hK1 => rg [0] ?_
   refine sm ?_
   apply wpSq_end
   refine hK1 _ _ ?_
   refine wp_seq_k ?_
   intro K2 hK2
   refine wp_seq_k fun K3 hK3 => rg [0, 1, 2] ?_
   refine sm ?_
   refine sr ?_
   refine sr ?_
   apply wpSq_end
   refine hK3 _ _ ?_
   refine ct ?_
   refine wp_seq_k fun K4 hK4 => rg [0] ?_
   refine sm ?_
   apply wpSq_end
   refine hK4 _ _ ?_
   refine wp_ret ?_
   try dsimp only [Exit.then, Exit.inBlock]
   refine bodyPost_ret (v := (.bool false)) (by simp [results, Tryz.results20, go_sem]) rfl ?_
   exact ⟨by rw [Hg.out], hs.b⟩
 · have H0 := hide (show 0 < n → ∃ g off cur ty fz o0 c0, om = some ⟨g, off, none⟩ ∧ Bs w g cur ty fz ∧ Rws (RN l) w cur off Ms ∧ cur[off]? = some (.slice o0 k c0) from fun h0 => by
     obtain ⟨g, off, cur, ty, fz, e, x, hr⟩ := hm.box (by omega)
     obtain ⟨o0, c0, ez0, s0⟩ := hr 0 (by omega)
     rw [wd_0 (by omega), hk, Nat.add_zero] at ez0
     exact ⟨g, off, cur, ty, fz, o0, c0, e, x, hr, ez0⟩)
   have HK := hide hk
   clear hm hk
   go_enter Tryz.func20, Tryz.ntmps20
   have hs := St.nil w
   refine wp_seq_k fun K1 hK1 => rg [0] ?_
   refine sm ?_
   apply wpSq_end
   refine hK1 _ _ ?_
   refine wp_seq_k ?_
   intro K2 hK2
   refine wp_seq_k fun K3 hK3 => rg [0, 1, 2] ?_
   refine sm ?_
   refine sr ?_
   refine sr ?_
   apply wpSq_end
   refine hK3 _ _ ?_
   refine cf ?_
   refine wp_skip ?_
   refine hK2 _ _ ?_
   refine wp_seq_k ?_
   intro K4 hK4
   refine wp_seq_k fun K5 hK5 => rg [0] ?_
   refine sm ?_
   apply wpSq_end
   refine hK5 _ _ ?_
   refine wp_block ?_
   have hd1 := hs.2.1
   go_loopg [3] n (fun kk s3 wr => ∃ i : Nat, s3 = .int .i64 (i : Int) ∧ i + kk = n ∧ Hid (∀ j (hj : j < Ms.length), j < i → Ms[j].length = k ∧ k ≤ 64) ∧ St w [] wr)
   case atStart => exact ⟨0, rfl, by omega, hide fun j _ h => absurd h (Nat.not_lt_zero j), hs⟩
   case round =>
   clear hs
   obtain ⟨i, rfl, hik, HJ, hs⟩ := hrel
   by_cases hi : i < n
   · obtain ⟨g, off, cur, ty, fz, o0, c0, rfl, x, hr, ez0⟩ := H0.out (by omega)
     obtain ⟨oi, ci, ei, si⟩ := hr i (by omega)
     have x1 := x.bl hs.b
     have HI := hide (show ∀ k', Ms[i].length = k' → k' = k → k' ≤ 64 → ∀ j (hj : j < Ms.length), j < i + 1 → Ms[j].length = k ∧ k ≤ 64 from fun k' e1 e2 e3 j hj h => by
       rcases Nat.lt_succ_iff_lt_or_eq.1 h with h | h
       · exact HJ.out j hj h
       · subst h; omega)
     have HN := hide (show (Ms[i].length ≠ k ∨ 64 < k) → decide (gd Ms) = false from fun h => decide_eq_false fun hg => by
       have := (HG.out.2 hg).2.2 _ (List.getElem_mem (show i < Ms.length by omega))
       have := (HG.out.2 hg).2.1
       omega)
     obtain ⟨kr, hkr⟩ : ∃ kr, Ms[i].length = kr := ⟨_, rfl⟩
     rw [hkr] at ei HN
     replace HI := hide (HI.out kr hkr)
     clear hkr si x hr
     by_cases hkk : kr = k
     · by_cases h64 : 64 < kr
       · have Hg := hide (HN.out (Or.inr (by omega)))
         have t3 : ((kr : Int) != (k : Int)) = false := by rw [hkk]; simp
         have t4 : ((64 : Int) < (kr : Int)) = True := eq_true (by omega)
         clear hkk
         refine wp_seq_k ?_
         intro K6 hK6
         refine wp_seq_k fun K7 hK7 => rg [0, 1, 2, 3] ?_
         refine sm ?_
         refine sm ?_
         refine sr ?_
         refine sr ?_
         apply wpSq_end
         refine hK7 _ _ ?_
         refine ct ?_
         refine wp_skip ?_
         refine hK6 _ _ ?_
         refine wp_seq_k ?_
         intro K8 hK8
         refine wp_block ?_
         refine wp_seq_k ?_
         intro K9 hK9
         refine wp_region_f4 [(0, false), (1, false), (2, false), (3, false), (4, false), (5, false), (6, false), (7, false), (8, false), (9, false), (10, false), (11, false), (12, false), (13, false), (14, false), (15, false), (16, false), (17, false)] [] [] (fun _ => default) [99, 99, 99, 0, 99, 99, 99, 0, 99, 99, 99, 99, 99, 99, 0, 99, 99, 99] [] (.c x1 .n) fn fun w_2 n2 => ?_
         replace x1 := x1.bl n2; replace hs := hs.bl n2
         refine fmv ?_
         refine fmv ?_
         refine f0 ?_
         apply wpFl_ld rfl rfl; (case h1 => intro w' hC K hK; have c0 := Bs.cell hC ((off + i)) ei; go_big_op; exact hK); iterate 4 kernel_rfl
         refine fb ?_
         refine fmv ?_
         refine f0 ?_
         apply wpFl_ld rfl rfl; (case h1 => intro w' hC K hK; have c0 := Bs.cell hC (off) ez0; go_big_op; exact hK); iterate 4 kernel_rfl
         refine fb ?_
         refine f0 ?_
         refine fmv ?_
         refine fmv ?_
         refine fmv ?_
         refine f0 ?_
         apply wpFl_ld rfl rfl; (case h1 => intro w' hC K hK; have c0 := Bs.cell hC ((off + i)) ei; go_big_op; exact hK); iterate 4 kernel_rfl
         refine fb ?_
         refine f0 ?_
         refine f0 ?_
         refine e0 hs ?_; clear hs; intro w_3 hs n3
         replace x1 := x1.bl n3
         apply wpTail_end
         refine hK9 _ _ ?_
         refine ct ?_
         refine wp_seq_k fun K10 hK10 => rg [0] ?_
         refine sm ?_
         apply wpSq_end
         refine hK10 _ _ ?_
         refine wp_ret ?_
         try dsimp only [Exit.then, Exit.inBlock]
         refine bodyPost_ret (v := (.bool false)) (by simp [results, Tryz.results20, go_sem]) rfl ?_
         exact ⟨by rw [Hg.out], hs.b⟩
       · have HI2 := hide (HI.out hkk (by omega))
         have t3 : ((kr : Int) != (k : Int)) = false := by rw [hkk]; simp
         have t4 : ((64 : Int) < (kr : Int)) = False := eq_false (by omega)
         clear hkk
         refine wp_seq_k ?_
         intro K6 hK6
         refine wp_seq_k fun K7 hK7 => rg [0, 1, 2, 3] ?_
         refine sm ?_
         refine sm ?_
         refine sr ?_
         refine sr ?_
         apply wpSq_end
         refine hK7 _ _ ?_
         refine ct ?_
         refine wp_skip ?_
         refine hK6 _ _ ?_
         refine wp_seq_k ?_
         intro K8 hK8
         refine wp_block ?_
         refine wp_seq_k ?_
         intro K9 hK9
         refine wp_region_f4 [(0, false), (1, false), (2, false), (3, false), (4, false), (5, false), (6, false), (7, false), (8, false), (9, false), (10, false), (11, false), (12, false), (13, false), (14, false), (15, false), (16, false), (17, false)] [] [] (fun _ => default) [99, 99, 99, 0, 99, 99, 99, 0, 99, 99, 99, 99, 99, 99, 0, 99, 99, 99] [] (.c x1 .n) fn fun w_2 n2 => ?_
         replace x1 := x1.bl n2; replace hs := hs.bl n2
         refine fmv ?_
         refine fmv ?_
         refine f0 ?_
         apply wpFl_ld rfl rfl; (case h1 => intro w' hC K hK; have c0 := Bs.cell hC ((off + i)) ei; go_big_op; exact hK); iterate 4 kernel_rfl
         refine fb ?_
         refine fmv ?_
         refine f0 ?_
         apply wpFl_ld rfl rfl; (case h1 => intro w' hC K hK; have c0 := Bs.cell hC (off) ez0; go_big_op; exact hK); iterate 4 kernel_rfl
         refine fb ?_
         refine f0 ?_
         refine fmv ?_
         refine fmv ?_
         refine fmv ?_
         refine f0 ?_
         apply wpFl_ld rfl rfl; (case h1 => intro w' hC K hK; have c0 := Bs.cell hC ((off + i)) ei; go_big_op; exact hK); iterate 4 kernel_rfl
         refine fb ?_
         refine f0 ?_
         refine f0 ?_
         refine e0 hs ?_; clear hs; intro w_3 hs n3
         replace x1 := x1.bl n3
         apply wpTail_end
         refine hK9 _ _ ?_
         refine cf ?_
         refine wp_skip ?_
         refine hK8 _ _ ?_
         refine rg [0, 1, 2] ?_
         refine sm ?_
         refine sr ?_
         refine sm ?_
         apply wpSq_end
         refine ‹∀ (a' : Act) (w' : World), Handed _ _ a' w' → _› _ _ ?_
         go_roundg (gk - 1)
         case rel => exact ⟨i + 1, by rfl, by omega, HI2, hs⟩
         case measure => omega
     · have Hg := hide (HN.out (Or.inl hkk))
       have t3 : ((kr : Int) != (k : Int)) = true := bne_iff_ne.2 (by omega)
       refine wp_seq_k ?_
       intro K6 hK6
       refine wp_seq_k fun K7 hK7 => rg [0, 1, 2, 3] ?_
       refine sm ?_
       refine sm ?_
       refine sr ?_
       refine sr ?_
       apply wpSq_end
       refine hK7 _ _ ?_
       refine ct ?_
       refine wp_skip ?_
       refine hK6 _ _ ?_
       refine wp_seq_k ?_
       intro K8 hK8
       refine wp_block ?_
       refine wp_seq_k ?_
       intro K9 hK9
       refine wp_region_f4 [(0, false), (1, false), (2, false), (3, false), (4, false), (5, false), (6, false), (7, false), (8, false), (9, false), (10, false), (11, false), (12, false), (13, false), (14, false), (15, false), (16, false), (17, false)] [] [] (fun _ => default) [99, 99, 99, 0, 99, 99, 99, 0, 99, 99, 99, 99, 99, 99, 0, 99, 99, 99] [] (.c x1 .n) fn fun w_2 n2 => ?_
       replace x1 := x1.bl n2; replace hs := hs.bl n2
       refine fmv ?_
       refine fmv ?_
       refine f0 ?_
       apply wpFl_ld rfl rfl; (case h1 => intro w' hC K hK; have c0 := Bs.cell hC ((off + i)) ei; go_big_op; exact hK); iterate 4 kernel_rfl
       refine fb ?_
       refine fmv ?_
       refine f0 ?_
       apply wpFl_ld rfl rfl; (case h1 => intro w' hC K hK; have c0 := Bs.cell hC (off) ez0; go_big_op; exact hK); iterate 4 kernel_rfl
       refine fb ?_
       refine f0 ?_
       refine fmv ?_
       refine fk ?_
       refine fk ?_
       refine fk ?_
       refine fk ?_
       refine fk ?_
       refine fk ?_
       refine f0 ?_
       refine e0 hs ?_; clear hs; intro w_3 hs n3
       replace x1 := x1.bl n3
       apply wpTail_end
       refine hK9 _ _ ?_
       refine ct ?_
       refine wp_seq_k fun K10 hK10 => rg [0] ?_
       refine sm ?_
       apply wpSq_end
       refine hK10 _ _ ?_
       refine wp_ret ?_
       try dsimp only [Exit.then, Exit.inBlock]
       refine bodyPost_ret (v := (.bool false)) (by simp [results, Tryz.results20, go_sem]) rfl ?_
       exact ⟨by rw [Hg.out], hs.b⟩
   · have HX := hide hi
     have Hg := hide (show decide (gd Ms) = true from decide_eq_true (HG.out.1 (by
       refine ⟨by omega, ?_, fun r hr => by
         obtain ⟨j, hj, rfl⟩ := List.getElem_of_mem hr
         exact (HJ.out j hj (by omega)).1⟩
       rcases Nat.eq_zero_or_pos n with h0 | h0
       · rw [← HK.out, wd_nil (by omega)]; omega
       · exact (HJ.out 0 (by omega) (by omega)).2)))
     refine wp_seq_k ?_
     intro K6 hK6
     refine wp_seq_k fun K7 hK7 => rg [0, 1, 2, 3] ?_
     refine sm ?_
     refine sm ?_
     refine sr ?_
     refine sr ?_
     apply wpSq_end
     refine hK7 _ _ ?_
     refine cf ?_
     refine wp_exit ?_
     refine hK4 _ _ ?_
     refine wp_seq_k fun K8 hK8 => rg [0] ?_
     refine sm ?_
     apply wpSq_end
     refine hK8 _ _ ?_
     refine wp_ret ?_
     try dsimp only [Exit.then, Exit.inBlock]
     refine bodyPost_ret (v := (.bool true)) (by simp [results, Tryz.results20, go_sem]) rfl ?_
     exact ⟨by rw [Hg.out], hs.b⟩
end
end Go.Proofs.YtjfjlloibmebeaaGreat

/- A range over a function: a round's body walked by the same steps as everywhere; the loop's law, by a count of rounds. -/
namespace Go.Proofs.YtjfjlloibmebeaaGreat
open Go Go.RowKit Dig
set_option linter.unusedVariables false
section
variable {P : Program} {o : Oper} {a : Act} {w : World} {lr m : Nat} {l : List Oper}
end
section
variable {w0 w : World} {bs : List En} {l : Nat} {o : Obj} {e : En}
end
section
variable {P : Program} {g : Operand} {ps : Array Tmp} {assign body : Code} {a : Act} {w w0 : World} {gf : Nat} {lb : Array Value} {n : Nat} {encs : Nat → Array Value} {R : World → Prop} {X : Type} {bs : X → List En} {F : X → World → Prop} {I : Nat → X → Prop} {Ix : Code → Nat → X → Prop}
end
end Go.Proofs.YtjfjlloibmebeaaGreat

/- Calls of yield; gmat.beside's iterators. -/
namespace Go.Proofs.YtjfjlloibmebeaaGreat
open Go Go.RowKit Dig
set_option linter.unusedVariables false
section
variable {P : Program} {l : List Oper} {o : Oper} {a : Act} {w : World} {Q : Act → World → Prop} {k : Nat} {rest : List Nat} {ly : Nat} {args : Array Value} {Gs : List (World → Prop)} {bad : List (Nat × Nat)}
end
section
variable {p1 p2 n m c1 c2 g1 g2 off1 off2 : Nat} {cur1 cur2 : Array Value} {t1 t2 t3 t4 : TypeId} {fz1 fz2 : Nat × Nat}
end
end Go.Proofs.YtjfjlloibmebeaaGreat

/- gmat.beside; its iterators, of no rounds too. -/
namespace Go.Proofs.YtjfjlloibmebeaaGreat
open Go Go.RowKit Dig
set_option linter.unusedVariables false
section
variable {p1 p2 n m c1 c2 g1 g2 off1 off2 : Nat} {cur1 cur2 : Array Value} {t1 t2 t3 t4 : TypeId} {fz1 fz2 : Nat × Nat} {o1 o2 : Option Addr} {w : World} {encs : Nat → Array Value}
end
end Go.Proofs.YtjfjlloibmebeaaGreat

/- gint: Turn, timesI, Canon; the reference's. -/
namespace Go.Proofs.YtjfjlloibmebeaaGreat
open Go Go.RowKit Dig
set_option linter.unusedVariables false
section
variable {w : World} {va vb : Value} {x y u v : Int} {l m k n : Nat}
end
end Go.Proofs.YtjfjlloibmebeaaGreat

/- gmat: Add, Sub, Scale, Trans, Adj, Ident, Size; copied. -/
namespace Go.Proofs.YtjfjlloibmebeaaGreat
open Go Go.RowKit Dig
set_option linter.unusedVariables false
section
variable {w : World} {l la lb i j n na nb cm ca cb pa pb pm pf pg k : Nat} {om oa ob : Option Addr} {Ms A B : List (List (Int × Int))} {va : Value} {x y u v : Int}
set_option maxHeartbeats 4000000 in
set_option maxRecDepth 20000 in
theorem scale1 (xa : Bs w pa #[.slice oa na ca] 23) {gn1 gn2 : Bool} {go1 go2 : Option Addr} {gk1 gk2 gc1 gc2 : Nat} (xg : Bs w pg #[.bool gn1, .slice go1 gk1 gc1, .bool gn2, .slice go2 gk2 gc2] 38) (ha : MN la w oa A)
   (hg1 : ZN w (.agg #[.bool gn1, .slice go1 gk1 gc1]) u lb) (hg2 : ZN w (.agg #[.bool gn2, .slice go2 gk2 gc2]) v lb)
   (hna : A.length = na) (hi : i < na) (hj : j < (rw_ A i).length) (hla : la ≤ 40000000) (hlb : lb ≤ 40000000) :
   Calls Tryz.prog 113 (#[.int .i64 (i : Int), .int .i64 (j : Int)] ++ #[.pointer (some ⟨pa, 0, none⟩), .pointer (some ⟨pg, 0, none⟩)]) w fun e w' => ∃ r, e = .returned r ∧ PC w' r (mP (at2 A i j) (u, v)).1 (mP (at2 A i j) (u, v)).2 ∧ Below w.heap.size w w' := by
 show Calls _ _ #[.int .i64 (i : Int), .int .i64 (j : Int), .pointer (some ⟨pa, 0, none⟩), .pointer (some ⟨pg, 0, none⟩)] w _
 obtain ⟨g, off, cur, ty, fz, g2, off2, cur2, ty2, fz2, ci, n1, o1, k1, c1, n2, o2, k2, c2, rfl, x, e, x2, e1, e2, e3, e4, z1, z2⟩ := ha.op (by omega) hj
 obtain ⟨ua, hua⟩ : ∃ ua, (rw_ A i).length = ua := ⟨_, rfl⟩
 rw [hua] at e hj
 clear ha hna hua
 generalize at2 A i j = p at *
 go_enter Tryz.func113, Tryz.ntmps113
 have hs := St.nil w
 have lt_ba := xa.lt
 have xaz := xa
 have lt_bg := xg.lt
 have xgz := xg
 have lt_kA := x.lt
 have xz := x
 have lt_kRA := x2.lt
 have x2z := x2
 refine wp_seq_k fun K1 hK1 => rg [0] ?_
 refine sq ?_
 refine .al hs ?_; clear hs; intro p_b1 w_1 hs n1 kb_b1
 replace xa := xa.bl n1; replace xg := xg.bl n1; replace x := x.bl n1; replace x2 := x2.bl n1
 apply wpSq_end
 refine hK1 _ _ ?_
 refine wp_seq_k ?_
 intro K2 hK2
 refine wp_region_f4 [(0, false), (1, false), (2, false), (3, false), (4, false), (5, false), (6, false), (7, false), (8, true)] [9] [] (fun _ => default) [0, 99, 99, 1, 99, 99, 2, 3, 99, 99] [] (.c xa (.c x (.c x2 (.c xg .n)))) fn fun w_2 n2 => ?_
 replace xa := xa.bl n2; replace xg := xg.bl n2; replace x := x.bl n2; replace x2 := x2.bl n2; replace hs := hs.bl n2
 refine f1 ?_
 refine fmv ?_
 refine f0 ?_
 apply wpFl_ld rfl rfl; (case h1 => intro w' hC K hK; have c0 := Bs.cell hC ((off + i)) e; go_big_op; exact hK); iterate 4 kernel_rfl
 refine fmv ?_
 refine f0 ?_
 apply wpFl_ld rfl rfl; (case h1 => intro w' hC K hK; have c0 := Bs.cell hC ((off2 + j * 4)) e1; have c1 := Bs.cell hC ((off2 + j * 4) + 1) e2; have c2 := Bs.cell hC ((off2 + j * 4) + 2) e3; have c3 := Bs.cell hC ((off2 + j * 4) + 3) e4; go_big_op; exact hK); iterate 4 kernel_rfl
 refine f4 ?_
 refine fl fun w_3 n3 => ?_
 replace xa := xa.bl n3; replace xg := xg.bl n3; replace x := x.bl n3; replace x2 := x2.bl n3; replace hs := hs.bl n3
 intro K hK
 have k0_3 := ((kb n1).b n2).b n3
 replace z1 := z1.k k0_3
 replace z2 := z2.k k0_3
 replace hg1 := hg1.k k0_3
 replace hg2 := hg2.k k0_3
 go_big_op
 go_fit (gMul_any (PN.mk' z1 z2) (PN.mk' hg1 hg2) (by omega) (by omega) (by omega) (by omega) )
 rintro e w_4 ⟨_, rfl, ⟨n_va, o_va, k_va, c_va, n_vb, o_vb, k_vb, c_vb, rfl, v1, v2⟩, hb_4⟩
 replace xa := xa.bl hb_4; replace xg := xg.bl hb_4; replace x := x.bl hb_4; replace x2 := x2.bl hb_4; replace hs := hs.bl hb_4
 refine hK _ _ rfl ⟨hb_4, (And.intro xa (And.intro x (And.intro x2 (And.intro xg trivial))))⟩ ?_
 clear hK K
 refine e0 hs ?_; clear hs; intro w_5 hs n5
 replace xa := xa.bl n5; replace xg := xg.bl n5; replace x := x.bl n5; replace x2 := x2.bl n5
 refine tl ?_
 refine .s4o hs.g0 (fun _ => hs.u0 kb_b1) ?_ (e := fun _ hs hO => (And.intro (xaz.bl hs.b) (And.intro (x.frame hO (Nat.ne_of_lt (Nat.lt_of_lt_of_le lt_kA kb_b1))) (And.intro (x2.frame hO (Nat.ne_of_lt (Nat.lt_of_lt_of_le lt_kRA kb_b1))) (And.intro (xgz.bl hs.b) True.intro))))); clear hs; intro w_6 hs hd6 ho6
 replace xa := xa.frame ho6 (Nat.ne_of_lt (Nat.lt_of_lt_of_le lt_ba kb_b1)); replace xg := xg.frame ho6 (Nat.ne_of_lt (Nat.lt_of_lt_of_le lt_bg kb_b1)); replace x := x.frame ho6 (Nat.ne_of_lt (Nat.lt_of_lt_of_le lt_kA kb_b1)); replace x2 := x2.frame ho6 (Nat.ne_of_lt (Nat.lt_of_lt_of_le lt_kRA kb_b1))
 apply wpTail_end
 refine hK2 _ _ ?_
 refine wp_ret ?_
 try dsimp only [Exit.then, Exit.inBlock]
 obtain ⟨r0_0, r0_1, r0_2, r0_3⟩ := hs.g0.f4
 refine bodyPost_ret (v := (.agg #[.bool n_va, .slice o_va k_va c_va, .bool n_vb, .slice o_vb k_vb c_vb])) (by simp [results, Tryz.results113, go_sem, r0_0, r0_1, r0_2, r0_3]) rfl ?_
 have k4_6 := (kb n5).o hd6 ho6
 replace v1 := v1.k k4_6
 replace v2 := v2.k k4_6
 exact ⟨_, rfl, .mk' v1 v2, hs.b⟩
end
end Go.Proofs.YtjfjlloibmebeaaGreat
