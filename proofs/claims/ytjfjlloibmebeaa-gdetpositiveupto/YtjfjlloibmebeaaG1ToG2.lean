/- gint: sums, products, norms, order. -/
import Derived.Test.YtjfjlloibmebeaaWkToMt

namespace Go.Proofs.Ytjfjlloibmebeaa
open Go Go.RowKit Dig
set_option linter.unusedVariables false

/-- The norm. -/
def gN (x y : Int) : Int := x * x + y * y
theorem mul_self_nonneg' (x : Int) : 0 ≤ x * x := by
  rcases Int.le_total 0 x with h | h
  · exact Int.mul_nonneg h h
  · exact Int.mul_nonneg_of_nonpos_of_nonpos h h
section
variable {w : World} {va vb : Value} {x y u v : Int} {l m k n : Nat}

set_option maxHeartbeats 4000000 in
set_option maxRecDepth 20000 in
theorem gAdd_any (ha : PN w va x l y m) (hq : PN w vb u k v n) (hl : l ≤ 100000000) (hm : m ≤ 100000000) (hk : k ≤ 100000000) (hn : n ≤ 100000000) :
    Calls Try.prog 74 #[va, vb] w fun e w' => ∃ r, e = .returned r ∧ PC w' r (x + u) (y + v) ∧ Below w.heap.size w w' := by
  obtain ⟨n_0a, o_0a, k_0a, c_0a, n_0b, o_0b, k_0b, c_0b, rfl, ha1, ha2⟩ := ha
  obtain ⟨n_1a, o_1a, k_1a, c_1a, n_1b, o_1b, k_1b, c_1b, rfl, hq1, hq2⟩ := hq
  go_enter Try.func74, Try.ntmps74
  have hs := St.nil w
  refine wp_seq_k ?_
  intro K1 hK1
  refine rg [0, 1, 2] ?_
  refine sq ?_
  refine .al hs ?_; clear hs; intro p_b1 w_1 hs n1 kb_b1
  refine sq ?_
  refine .al hs ?_; clear hs; intro p_b2 w_2 hs n2 kb_b2
  refine sq ?_
  refine .al hs ?_; clear hs; intro p_b3 w_3 hs n3 kb_b3
  apply wpSq_end
  refine hK1 _ _ ?_
  refine wp_seq_k ?_
  intro K2 hK2
  refine wp_region_f4 [(0, false), (1, false), (2, false), (3, false), (5, false), (6, false), (7, false), (8, false), (4, true), (9, true), (10, false)] [11] [] (fun _ => default) [99, 0, 99, 1, 99, 99, 0, 99, 1, 99, 99, 99] [] (.c hs.g2 (.c hs.g1 .n)) fn fun w_4 n4 => ?_
  replace hs := hs.bl n4
  refine f0 ?_
  refine f4 ?_
  refine f0 ?_
  refine f4 ?_
  refine f0 ?_
  refine f4 ?_
  refine f0 ?_
  refine f4 ?_
  refine fl fun w_5 n5 => ?_
  replace hs := hs.bl n5
  intro K hK
  have k0_5 := ((((kb n1).b n2).b n3).b n4).b n5
  replace ha1 := ha1.k k0_5
  replace hq1 := hq1.k k0_5
  go_big_op
  go_fit (zadd_any ha1 hq1 (by omega) (by omega) )
  rintro e w_6 ⟨v_g1, rfl, g1, hb_6⟩
  replace hs := hs.bl hb_6
  replace g1 := g1.rd
  obtain ⟨n_g1, o_g1, k_g1, c_g1, rfl⟩ := g1.open2
  have Lg1 := hide (g1.lenOf (zlen_add (ha1.len) (hq1.len)))
  refine hK _ _ rfl ⟨hb_6, (And.intro hs.g2 (And.intro hs.g1 trivial))⟩ ?_
  clear hK K
  refine fl fun w_7 n7 => ?_
  replace hs := hs.bl n7
  intro K hK
  have k0_7 := (k0_5.b hb_6).b n7
  replace ha2 := ha2.k k0_7
  replace hq2 := hq2.k k0_7
  go_big_op
  go_fit (zadd_any ha2 hq2 (by omega) (by omega) )
  rintro e w_8 ⟨v_g2, rfl, g2, hb_8⟩
  replace hs := hs.bl hb_8
  replace g2 := g2.rd
  obtain ⟨n_g2, o_g2, k_g2, c_g2, rfl⟩ := g2.open2
  have Lg2 := hide (g2.lenOf (zlen_add (ha2.len) (hq2.len)))
  refine hK _ _ rfl ⟨hb_8, (And.intro hs.g2 (And.intro hs.g1 trivial))⟩ ?_
  clear hK K
  refine f0 ?_
  refine e0 hs ?_; clear hs; intro w_9 hs n9
  refine tl ?_
  refine .s4 hs.g0 (fun _ => hs.u0 kb_b3) ?_ (e := fun _ hs => (And.intro hs.g2 (And.intro hs.g1 True.intro))); clear hs; intro w_10 hs hd10 ho10
  apply wpTail_end
  refine hK2 _ _ ?_
  refine wp_ret ?_
  try dsimp only [Exit.then, Exit.inBlock]
  obtain ⟨r0_0, r0_1, r0_2, r0_3⟩ := hs.g0.f4
  refine bodyPost_ret (v := (.agg #[.bool n_g1, .slice o_g1 k_g1 c_g1, .bool n_g2, .slice o_g2 k_g2 c_g2])) (by simp [results, Try.results74, go_sem, r0_0, r0_1, r0_2, r0_3]) rfl ?_
  have k6_10 := (((kb n7).b hb_8).b n9).o hd10 ho10
  replace g1 := g1.k k6_10
  have k8_10 := (kb n9).o hd10 ho10
  replace g2 := g2.k k8_10
  exact ⟨_, rfl, .mk' g1 g2, hs.b⟩
set_option maxHeartbeats 4000000 in
set_option maxRecDepth 20000 in
theorem gSub_any (ha : PN w va x l y m) (hq : PN w vb u k v n) (hl : l ≤ 100000000) (hm : m ≤ 100000000) (hk : k ≤ 100000000) (hn : n ≤ 100000000) :
    Calls Try.prog 48 #[va, vb] w fun e w' => ∃ r, e = .returned r ∧ PC w' r (x - u) (y - v) ∧ Below w.heap.size w w' := by
  obtain ⟨n_0a, o_0a, k_0a, c_0a, n_0b, o_0b, k_0b, c_0b, rfl, ha1, ha2⟩ := ha
  obtain ⟨n_1a, o_1a, k_1a, c_1a, n_1b, o_1b, k_1b, c_1b, rfl, hq1, hq2⟩ := hq
  go_enter Try.func48, Try.ntmps48
  have hs := St.nil w
  refine wp_seq_k ?_
  intro K1 hK1
  refine rg [0, 1, 2] ?_
  refine sq ?_
  refine .al hs ?_; clear hs; intro p_b1 w_1 hs n1 kb_b1
  refine sq ?_
  refine .al hs ?_; clear hs; intro p_b2 w_2 hs n2 kb_b2
  refine sq ?_
  refine .al hs ?_; clear hs; intro p_b3 w_3 hs n3 kb_b3
  apply wpSq_end
  refine hK1 _ _ ?_
  refine wp_seq_k ?_
  intro K2 hK2
  refine wp_region_f4 [(0, false), (1, false), (2, false), (3, false), (5, false), (6, false), (7, false), (8, false), (4, true), (9, true), (10, false)] [11] [] (fun _ => default) [99, 0, 99, 1, 99, 99, 0, 99, 1, 99, 99, 99] [] (.c hs.g2 (.c hs.g1 .n)) fn fun w_4 n4 => ?_
  replace hs := hs.bl n4
  refine f0 ?_
  refine f4 ?_
  refine f0 ?_
  refine f4 ?_
  refine f0 ?_
  refine f4 ?_
  refine f0 ?_
  refine f4 ?_
  refine fl fun w_5 n5 => ?_
  replace hs := hs.bl n5
  intro K hK
  have k0_5 := ((((kb n1).b n2).b n3).b n4).b n5
  replace ha1 := ha1.k k0_5
  replace hq1 := hq1.k k0_5
  go_big_op
  go_fit (zsub_any ha1 hq1 (by omega) (by omega) )
  rintro e w_6 ⟨v_g1, rfl, g1, hb_6⟩
  replace hs := hs.bl hb_6
  replace g1 := g1.rd
  obtain ⟨n_g1, o_g1, k_g1, c_g1, rfl⟩ := g1.open2
  have Lg1 := hide (g1.lenOf (zlen_sub (ha1.len) (hq1.len)))
  refine hK _ _ rfl ⟨hb_6, (And.intro hs.g2 (And.intro hs.g1 trivial))⟩ ?_
  clear hK K
  refine fl fun w_7 n7 => ?_
  replace hs := hs.bl n7
  intro K hK
  have k0_7 := (k0_5.b hb_6).b n7
  replace ha2 := ha2.k k0_7
  replace hq2 := hq2.k k0_7
  go_big_op
  go_fit (zsub_any ha2 hq2 (by omega) (by omega) )
  rintro e w_8 ⟨v_g2, rfl, g2, hb_8⟩
  replace hs := hs.bl hb_8
  replace g2 := g2.rd
  obtain ⟨n_g2, o_g2, k_g2, c_g2, rfl⟩ := g2.open2
  have Lg2 := hide (g2.lenOf (zlen_sub (ha2.len) (hq2.len)))
  refine hK _ _ rfl ⟨hb_8, (And.intro hs.g2 (And.intro hs.g1 trivial))⟩ ?_
  clear hK K
  refine f0 ?_
  refine e0 hs ?_; clear hs; intro w_9 hs n9
  refine tl ?_
  refine .s4 hs.g0 (fun _ => hs.u0 kb_b3) ?_ (e := fun _ hs => (And.intro hs.g2 (And.intro hs.g1 True.intro))); clear hs; intro w_10 hs hd10 ho10
  apply wpTail_end
  refine hK2 _ _ ?_
  refine wp_ret ?_
  try dsimp only [Exit.then, Exit.inBlock]
  obtain ⟨r0_0, r0_1, r0_2, r0_3⟩ := hs.g0.f4
  refine bodyPost_ret (v := (.agg #[.bool n_g1, .slice o_g1 k_g1 c_g1, .bool n_g2, .slice o_g2 k_g2 c_g2])) (by simp [results, Try.results48, go_sem, r0_0, r0_1, r0_2, r0_3]) rfl ?_
  have k6_10 := (((kb n7).b hb_8).b n9).o hd10 ho10
  replace g1 := g1.k k6_10
  have k8_10 := (kb n9).o hd10 ho10
  replace g2 := g2.k k8_10
  exact ⟨_, rfl, .mk' g1 g2, hs.b⟩
set_option maxHeartbeats 4000000 in
set_option maxRecDepth 20000 in
theorem gMul_any (ha : PN w va x l y m) (hq : PN w vb u k v n) (hl : l ≤ 40000000) (hm : m ≤ 40000000) (hk : k ≤ 40000000) (hn : n ≤ 40000000) :
    Calls Try.prog 49 #[va, vb] w fun e w' => ∃ r, e = .returned r ∧ PC w' r (x * u - y * v) (x * v + y * u) ∧ Below w.heap.size w w' := by
  obtain ⟨n_0a, o_0a, k_0a, c_0a, n_0b, o_0b, k_0b, c_0b, rfl, ha1, ha2⟩ := ha
  obtain ⟨n_1a, o_1a, k_1a, c_1a, n_1b, o_1b, k_1b, c_1b, rfl, hq1, hq2⟩ := hq
  go_enter Try.func49, Try.ntmps49
  have hs := St.nil w
  refine wp_seq_k ?_
  intro K1 hK1
  refine rg [0, 1, 2] ?_
  refine sq ?_
  refine .al hs ?_; clear hs; intro p_b1 w_1 hs n1 kb_b1
  refine sq ?_
  refine .al hs ?_; clear hs; intro p_b2 w_2 hs n2 kb_b2
  refine sq ?_
  refine .al hs ?_; clear hs; intro p_b3 w_3 hs n3 kb_b3
  apply wpSq_end
  refine hK1 _ _ ?_
  refine wp_seq_k ?_
  intro K2 hK2
  refine wp_region_f4 [(0, false), (1, false), (2, false), (3, false), (5, false), (6, false), (7, false), (8, false), (11, false), (12, false), (13, false), (14, false), (16, false), (17, false), (18, false), (19, false), (4, true), (9, true), (10, true), (15, true), (20, true), (21, true), (22, false)] [23] [] (fun _ => default) [99, 0, 99, 1, 99, 99, 0, 99, 1, 99, 99, 99, 0, 99, 1, 99, 99, 0, 99, 1, 99, 99, 99, 99] [] (.c hs.g2 (.c hs.g1 .n)) fn fun w_4 n4 => ?_
  replace hs := hs.bl n4
  refine f0 ?_
  refine f4 ?_
  refine f0 ?_
  refine f4 ?_
  refine f0 ?_
  refine f4 ?_
  refine f0 ?_
  refine f4 ?_
  refine f0 ?_
  refine f4 ?_
  refine f0 ?_
  refine f4 ?_
  refine f0 ?_
  refine f4 ?_
  refine f0 ?_
  refine f4 ?_
  refine fl fun w_5 n5 => ?_
  replace hs := hs.bl n5
  intro K hK
  have k0_5 := ((((kb n1).b n2).b n3).b n4).b n5
  replace ha1 := ha1.k k0_5
  replace hq1 := hq1.k k0_5
  go_big_op
  go_fit (zmul_any ha1 hq1 (by omega) (by omega) )
  rintro e w_6 ⟨v_g1, rfl, g1, hb_6⟩
  replace hs := hs.bl hb_6
  replace g1 := g1.rd
  obtain ⟨n_g1, o_g1, k_g1, c_g1, rfl⟩ := g1.open2
  have Lg1 := hide (g1.lenOf (zlen_mul (ha1.len) (hq1.len)))
  refine hK _ _ rfl ⟨hb_6, (And.intro hs.g2 (And.intro hs.g1 trivial))⟩ ?_
  clear hK K
  refine fl fun w_7 n7 => ?_
  replace hs := hs.bl n7
  intro K hK
  have k0_7 := (k0_5.b hb_6).b n7
  replace ha2 := ha2.k k0_7
  replace hq2 := hq2.k k0_7
  go_big_op
  go_fit (zmul_any ha2 hq2 (by omega) (by omega) )
  rintro e w_8 ⟨v_g2, rfl, g2, hb_8⟩
  replace hs := hs.bl hb_8
  replace g2 := g2.rd
  obtain ⟨n_g2, o_g2, k_g2, c_g2, rfl⟩ := g2.open2
  have Lg2 := hide (g2.lenOf (zlen_mul (ha2.len) (hq2.len)))
  refine hK _ _ rfl ⟨hb_8, (And.intro hs.g2 (And.intro hs.g1 trivial))⟩ ?_
  clear hK K
  refine fl fun w_9 n9 => ?_
  replace hs := hs.bl n9
  intro K hK
  have k6_9 := ((kb n7).b hb_8).b n9
  replace g1 := g1.k k6_9
  have k8_9 := kb n9
  replace g2 := g2.k k8_9
  go_big_op
  go_fit (zsub_any (g1.zn Lg1.out) (g2.zn Lg2.out) (by omega) (by omega) )
  rintro e w_10 ⟨v_g3, rfl, g3, hb_10⟩
  replace hs := hs.bl hb_10
  replace g3 := g3.rd
  obtain ⟨n_g3, o_g3, k_g3, c_g3, rfl⟩ := g3.open2
  have Lg3 := hide (g3.lenOf (zlen_sub (Lg1.out) (Lg2.out)))
  refine hK _ _ rfl ⟨hb_10, (And.intro hs.g2 (And.intro hs.g1 trivial))⟩ ?_
  clear hK K
  refine fl fun w_11 n11 => ?_
  replace hs := hs.bl n11
  intro K hK
  have k5_11 := (((((kb hb_6).b n7).b hb_8).b n9).b hb_10).b n11
  replace ha1 := ha1.k k5_11
  have k7_11 := (((kb hb_8).b n9).b hb_10).b n11
  replace hq2 := hq2.k k7_11
  go_big_op
  go_fit (zmul_any ha1 hq2 (by omega) (by omega) )
  rintro e w_12 ⟨v_g4, rfl, g4, hb_12⟩
  replace hs := hs.bl hb_12
  replace g4 := g4.rd
  obtain ⟨n_g4, o_g4, k_g4, c_g4, rfl⟩ := g4.open2
  have Lg4 := hide (g4.lenOf (zlen_mul (ha1.len) (hq2.len)))
  refine hK _ _ rfl ⟨hb_12, (And.intro hs.g2 (And.intro hs.g1 trivial))⟩ ?_
  clear hK K
  refine fl fun w_13 n13 => ?_
  replace hs := hs.bl n13
  intro K hK
  have k7_13 := (k7_11.b hb_12).b n13
  replace ha2 := ha2.k k7_13
  have k5_13 := (k5_11.b hb_12).b n13
  replace hq1 := hq1.k k5_13
  go_big_op
  go_fit (zmul_any ha2 hq1 (by omega) (by omega) )
  rintro e w_14 ⟨v_g5, rfl, g5, hb_14⟩
  replace hs := hs.bl hb_14
  replace g5 := g5.rd
  obtain ⟨n_g5, o_g5, k_g5, c_g5, rfl⟩ := g5.open2
  have Lg5 := hide (g5.lenOf (zlen_mul (ha2.len) (hq1.len)))
  refine hK _ _ rfl ⟨hb_14, (And.intro hs.g2 (And.intro hs.g1 trivial))⟩ ?_
  clear hK K
  refine fl fun w_15 n15 => ?_
  replace hs := hs.bl n15
  intro K hK
  have k12_15 := ((kb n13).b hb_14).b n15
  replace g4 := g4.k k12_15
  have k14_15 := kb n15
  replace g5 := g5.k k14_15
  go_big_op
  go_fit (zadd_any (g4.zn Lg4.out) (g5.zn Lg5.out) (by omega) (by omega) )
  rintro e w_16 ⟨v_g6, rfl, g6, hb_16⟩
  replace hs := hs.bl hb_16
  replace g6 := g6.rd
  obtain ⟨n_g6, o_g6, k_g6, c_g6, rfl⟩ := g6.open2
  have Lg6 := hide (g6.lenOf (zlen_add (Lg4.out) (Lg5.out)))
  refine hK _ _ rfl ⟨hb_16, (And.intro hs.g2 (And.intro hs.g1 trivial))⟩ ?_
  clear hK K
  refine f0 ?_
  refine e0 hs ?_; clear hs; intro w_17 hs n17
  refine tl ?_
  refine .s4 hs.g0 (fun _ => hs.u0 kb_b3) ?_ (e := fun _ hs => (And.intro hs.g2 (And.intro hs.g1 True.intro))); clear hs; intro w_18 hs hd18 ho18
  apply wpTail_end
  refine hK2 _ _ ?_
  refine wp_ret ?_
  try dsimp only [Exit.then, Exit.inBlock]
  obtain ⟨r0_0, r0_1, r0_2, r0_3⟩ := hs.g0.f4
  refine bodyPost_ret (v := (.agg #[.bool n_g3, .slice o_g3 k_g3 c_g3, .bool n_g6, .slice o_g6 k_g6 c_g6])) (by simp [results, Try.results49, go_sem, r0_0, r0_1, r0_2, r0_3]) rfl ?_
  have k10_18 := (((((((kb n11).b hb_12).b n13).b hb_14).b n15).b hb_16).b n17).o hd18 ho18
  replace g3 := g3.k k10_18
  have k16_18 := (kb n17).o hd18 ho18
  replace g6 := g6.k k16_18
  exact ⟨_, rfl, .mk' g3 g6, hs.b⟩
set_option maxHeartbeats 4000000 in
set_option maxRecDepth 20000 in
theorem gNeg_any (ha : PN w va x l y m) (hl : l ≤ 100000000) (hm : m ≤ 100000000) :
    Calls Try.prog 65 #[va] w fun e w' => ∃ r, e = .returned r ∧ PC w' r (-x) (-y) ∧ Below w.heap.size w w' := by
  obtain ⟨n_0a, o_0a, k_0a, c_0a, n_0b, o_0b, k_0b, c_0b, rfl, ha1, ha2⟩ := ha
  go_enter Try.func65, Try.ntmps65
  have hs := St.nil w
  refine wp_seq_k ?_
  intro K1 hK1
  refine rg [0, 1] ?_
  refine sq ?_
  refine .al hs ?_; clear hs; intro p_b1 w_1 hs n1 kb_b1
  refine sq ?_
  refine .al hs ?_; clear hs; intro p_b2 w_2 hs n2 kb_b2
  apply wpSq_end
  refine hK1 _ _ ?_
  refine wp_seq_k ?_
  intro K2 hK2
  refine wp_region_f4 [(0, false), (1, false), (3, false), (4, false), (2, true), (5, true), (6, false)] [7] [] (fun _ => default) [99, 0, 99, 99, 0, 99, 99, 99] [] (.c hs.g1 .n) fn fun w_3 n3 => ?_
  replace hs := hs.bl n3
  refine f0 ?_
  refine f4 ?_
  refine f0 ?_
  refine f4 ?_
  refine fl fun w_4 n4 => ?_
  replace hs := hs.bl n4
  intro K hK
  have k0_4 := (((kb n1).b n2).b n3).b n4
  replace ha1 := ha1.k k0_4
  go_big_op
  go_fit (zneg_any ha1 (by omega) )
  rintro e w_5 ⟨v_g1, rfl, g1, hb_5⟩
  replace hs := hs.bl hb_5
  replace g1 := g1.rd
  obtain ⟨n_g1, o_g1, k_g1, c_g1, rfl⟩ := g1.open2
  have Lg1 := hide (g1.lenOf (zlen_neg (ha1.len)))
  refine hK _ _ rfl ⟨hb_5, (And.intro hs.g1 trivial)⟩ ?_
  clear hK K
  refine fl fun w_6 n6 => ?_
  replace hs := hs.bl n6
  intro K hK
  have k0_6 := (k0_4.b hb_5).b n6
  replace ha2 := ha2.k k0_6
  go_big_op
  go_fit (zneg_any ha2 (by omega) )
  rintro e w_7 ⟨v_g2, rfl, g2, hb_7⟩
  replace hs := hs.bl hb_7
  replace g2 := g2.rd
  obtain ⟨n_g2, o_g2, k_g2, c_g2, rfl⟩ := g2.open2
  have Lg2 := hide (g2.lenOf (zlen_neg (ha2.len)))
  refine hK _ _ rfl ⟨hb_7, (And.intro hs.g1 trivial)⟩ ?_
  clear hK K
  refine f0 ?_
  refine e0 hs ?_; clear hs; intro w_8 hs n8
  refine tl ?_
  refine .s4 hs.g0 (fun _ => hs.u0 kb_b2) ?_ (e := fun _ hs => (And.intro hs.g1 True.intro)); clear hs; intro w_9 hs hd9 ho9
  apply wpTail_end
  refine hK2 _ _ ?_
  refine wp_ret ?_
  try dsimp only [Exit.then, Exit.inBlock]
  obtain ⟨r0_0, r0_1, r0_2, r0_3⟩ := hs.g0.f4
  refine bodyPost_ret (v := (.agg #[.bool n_g1, .slice o_g1 k_g1 c_g1, .bool n_g2, .slice o_g2 k_g2 c_g2])) (by simp [results, Try.results65, go_sem, r0_0, r0_1, r0_2, r0_3]) rfl ?_
  have k5_9 := (((kb n6).b hb_7).b n8).o hd9 ho9
  replace g1 := g1.k k5_9
  have k7_9 := (kb n8).o hd9 ho9
  replace g2 := g2.k k7_9
  exact ⟨_, rfl, .mk' g1 g2, hs.b⟩
set_option maxHeartbeats 4000000 in
set_option maxRecDepth 20000 in
theorem gConj_any (ha : PN w va x l y m) (hl : l ≤ 100000000) (hm : m ≤ 100000000) :
    Calls Try.prog 75 #[va] w fun e w' => ∃ r, e = .returned r ∧ PC w' r x (-y) ∧ Below w.heap.size w w' := by
  have E := hide (Int.add_zero x)
  obtain ⟨n_0a, o_0a, k_0a, c_0a, n_0b, o_0b, k_0b, c_0b, rfl, ha1, ha2⟩ := ha
  go_enter Try.func75, Try.ntmps75
  have hs := St.nil w
  refine wp_seq_k ?_
  intro K1 hK1
  refine rg [0, 1] ?_
  refine sq ?_
  refine .al hs ?_; clear hs; intro p_b1 w_1 hs n1 kb_b1
  refine sq ?_
  refine .al hs ?_; clear hs; intro p_b2 w_2 hs n2 kb_b2
  apply wpSq_end
  refine hK1 _ _ ?_
  refine wp_seq_k ?_
  intro K2 hK2
  refine wp_region_f4 [(0, false), (1, false), (2, false), (4, false), (5, false), (3, true), (6, true), (7, false)] [8] [] (fun _ => default) [99, 0, 99, 99, 99, 0, 99, 99, 99] [] (.c hs.g1 .n) fn fun w_3 n3 => ?_
  replace hs := hs.bl n3
  refine f0 ?_
  refine f4 ?_
  refine f0 ?_
  refine f0 ?_
  refine f4 ?_
  refine fl fun w_4 n4 => ?_
  replace hs := hs.bl n4
  intro K hK
  have k0_4 := (((kb n1).b n2).b n3).b n4
  replace ha1 := ha1.k k0_4
  go_big_op
  go_fit (zadd_any ha1 ((zc_zero w_4).zn zlen_0) (by omega) (by omega) )
  rintro e w_5 ⟨v_g1, rfl, g1, hb_5⟩
  replace hs := hs.bl hb_5
  replace g1 := g1.rd
  obtain ⟨n_g1, o_g1, k_g1, c_g1, rfl⟩ := g1.open2
  have Lg1 := hide (g1.lenOf (zlen_add (ha1.len) (zlen_0)))
  rw [E.out] at g1
  refine hK _ _ rfl ⟨hb_5, (And.intro hs.g1 trivial)⟩ ?_
  clear hK K
  refine fl fun w_6 n6 => ?_
  replace hs := hs.bl n6
  intro K hK
  have k0_6 := (k0_4.b hb_5).b n6
  replace ha2 := ha2.k k0_6
  go_big_op
  go_fit (zneg_any ha2 (by omega) )
  rintro e w_7 ⟨v_g2, rfl, g2, hb_7⟩
  replace hs := hs.bl hb_7
  replace g2 := g2.rd
  obtain ⟨n_g2, o_g2, k_g2, c_g2, rfl⟩ := g2.open2
  have Lg2 := hide (g2.lenOf (zlen_neg (ha2.len)))
  refine hK _ _ rfl ⟨hb_7, (And.intro hs.g1 trivial)⟩ ?_
  clear hK K
  refine f0 ?_
  refine e0 hs ?_; clear hs; intro w_8 hs n8
  refine tl ?_
  refine .s4 hs.g0 (fun _ => hs.u0 kb_b2) ?_ (e := fun _ hs => (And.intro hs.g1 True.intro)); clear hs; intro w_9 hs hd9 ho9
  apply wpTail_end
  refine hK2 _ _ ?_
  refine wp_ret ?_
  try dsimp only [Exit.then, Exit.inBlock]
  obtain ⟨r0_0, r0_1, r0_2, r0_3⟩ := hs.g0.f4
  refine bodyPost_ret (v := (.agg #[.bool n_g1, .slice o_g1 k_g1 c_g1, .bool n_g2, .slice o_g2 k_g2 c_g2])) (by simp [results, Try.results75, go_sem, r0_0, r0_1, r0_2, r0_3]) rfl ?_
  have k5_9 := (((kb n6).b hb_7).b n8).o hd9 ho9
  replace g1 := g1.k k5_9
  have k7_9 := (kb n8).o hd9 ho9
  replace g2 := g2.k k7_9
  exact ⟨_, rfl, .mk' g1 g2, hs.b⟩
set_option maxHeartbeats 4000000 in
set_option maxRecDepth 20000 in
theorem gNorm_any (ha : PN w va x l y m) (hl : l ≤ 40000000) (hm : m ≤ 40000000) :
    Calls Try.prog 13 #[va] w fun e w' => ∃ r, e = .returned r ∧ ZC w' r (gN x y) ∧ Below w.heap.size w w' := by
  unfold gN
  obtain ⟨n_0a, o_0a, k_0a, c_0a, n_0b, o_0b, k_0b, c_0b, rfl, ha1, ha2⟩ := ha
  go_enter Try.func13, Try.ntmps13
  have hs := St.nil w
  refine wp_seq_k ?_
  intro K1 hK1
  refine rg [0, 1] ?_
  refine sq ?_
  refine .al hs ?_; clear hs; intro p_b1 w_1 hs n1 kb_b1
  refine sq ?_
  refine .al hs ?_; clear hs; intro p_b2 w_2 hs n2 kb_b2
  apply wpSq_end
  refine hK1 _ _ ?_
  refine wp_seq_k ?_
  intro K2 hK2
  refine wp_region_f4 [(0, false), (1, false), (2, false), (3, false), (5, false), (6, false), (7, false), (8, false), (4, true), (9, true), (10, true)] [11] [] (fun _ => default) [99, 0, 99, 0, 99, 99, 0, 99, 0, 99, 99, 99] [] (.c hs.g1 .n) fn fun w_3 n3 => ?_
  replace hs := hs.bl n3
  refine f0 ?_
  refine f4 ?_
  refine f0 ?_
  refine f4 ?_
  refine f0 ?_
  refine f4 ?_
  refine f0 ?_
  refine f4 ?_
  refine fl fun w_4 n4 => ?_
  replace hs := hs.bl n4
  intro K hK
  have k0_4 := (((kb n1).b n2).b n3).b n4
  replace ha1 := ha1.k k0_4
  go_big_op
  go_fit (zmul_any ha1 ha1 (by omega) (by omega) )
  rintro e w_5 ⟨v_g1, rfl, g1, hb_5⟩
  replace hs := hs.bl hb_5
  replace g1 := g1.rd
  obtain ⟨n_g1, o_g1, k_g1, c_g1, rfl⟩ := g1.open2
  have Lg1 := hide (g1.lenOf (zlen_mul (ha1.len) (ha1.len)))
  refine hK _ _ rfl ⟨hb_5, (And.intro hs.g1 trivial)⟩ ?_
  clear hK K
  refine fl fun w_6 n6 => ?_
  replace hs := hs.bl n6
  intro K hK
  have k0_6 := (k0_4.b hb_5).b n6
  replace ha2 := ha2.k k0_6
  go_big_op
  go_fit (zmul_any ha2 ha2 (by omega) (by omega) )
  rintro e w_7 ⟨v_g2, rfl, g2, hb_7⟩
  replace hs := hs.bl hb_7
  replace g2 := g2.rd
  obtain ⟨n_g2, o_g2, k_g2, c_g2, rfl⟩ := g2.open2
  have Lg2 := hide (g2.lenOf (zlen_mul (ha2.len) (ha2.len)))
  refine hK _ _ rfl ⟨hb_7, (And.intro hs.g1 trivial)⟩ ?_
  clear hK K
  refine fl fun w_8 n8 => ?_
  replace hs := hs.bl n8
  intro K hK
  have k5_8 := ((kb n6).b hb_7).b n8
  replace g1 := g1.k k5_8
  have k7_8 := kb n8
  replace g2 := g2.k k7_8
  go_big_op
  go_fit (zadd_any (g1.zn Lg1.out) (g2.zn Lg2.out) (by omega) (by omega) )
  rintro e w_9 ⟨v_g3, rfl, g3, hb_9⟩
  replace hs := hs.bl hb_9
  replace g3 := g3.rd
  obtain ⟨n_g3, o_g3, k_g3, c_g3, rfl⟩ := g3.open2
  have Lg3 := hide (g3.lenOf (zlen_add (Lg1.out) (Lg2.out)))
  refine hK _ _ rfl ⟨hb_9, (And.intro hs.g1 trivial)⟩ ?_
  clear hK K
  refine e0 hs ?_; clear hs; intro w_10 hs n10
  refine tl ?_
  refine .s2 hs.g0 (fun _ => hs.u0 kb_b2) ?_ (e := fun _ hs => (And.intro hs.g1 True.intro)); clear hs; intro w_11 hs hd11 ho11
  apply wpTail_end
  refine hK2 _ _ ?_
  refine wp_ret ?_
  try dsimp only [Exit.then, Exit.inBlock]
  obtain ⟨r0_0, r0_1⟩ := hs.g0.f2
  refine bodyPost_ret (v := (.agg #[.bool n_g3, .slice o_g3 k_g3 c_g3])) (by simp [results, Try.results13, go_sem, r0_0, r0_1]) rfl ?_
  have k9_11 := (kb n10).o hd11 ho11
  replace g3 := g3.k k9_11
  exact ⟨_, rfl, g3, hs.b⟩
theorem zcmp_ne {x u : Int} (h : x ≠ u) : (zcmp x u == 0) = false := by
  unfold zcmp
  by_cases h2 : x < u
  · rw [if_pos h2]; rfl
  · rw [if_neg h2, if_neg h]; rfl
set_option maxHeartbeats 4000000 in
set_option maxRecDepth 20000 in
theorem gEqual_yes (ha : PN w va x l y m) (hq : PN w vb u k v n) (hl : l ≤ 100000000) (hm : m ≤ 100000000) (hk : k ≤ 100000000) (hn : n ≤ 100000000) (h1 : x = u) (h2 : y = v) :
    Calls Try.prog 50 #[va, vb] w fun e w' => e = .returned (.bool true) ∧ Below w.heap.size w w' := by
  have H1 := hide (zcmp_eq h1)
  have H2 := hide (zcmp_eq h2)
  clear h1 h2
  obtain ⟨n_0a, o_0a, k_0a, c_0a, n_0b, o_0b, k_0b, c_0b, rfl, ha1, ha2⟩ := ha
  obtain ⟨n_1a, o_1a, k_1a, c_1a, n_1b, o_1b, k_1b, c_1b, rfl, hq1, hq2⟩ := hq
  go_enter Try.func50, Try.ntmps50
  have hs := St.nil w
  refine wp_seq_k ?_
  intro K1 hK1
  refine rg [0, 1, 2] ?_
  refine sq ?_
  refine .al hs ?_; clear hs; intro p_b1 w_1 hs n1 kb_b1
  refine sq ?_
  refine .al hs ?_; clear hs; intro p_b2 w_2 hs n2 kb_b2
  refine sq ?_
  refine .mv ?_
  apply wpSq_end
  refine hK1 _ _ ?_
  refine wp_seq_k ?_
  intro K2 hK2
  refine rg [0, 1, 2, 3, 4, 5, 6, 7, 8, 9, 10, 11, 12, 13, 14] ?_
  refine sq ?_
  refine .r0 ?_
  refine sq ?_
  refine .r4 hs.g1.f4 ?_
  refine sq ?_
  refine .r0 ?_
  refine sq ?_
  refine .r4 hs.g0.f4 ?_
  refine sq ?_
  intro K hK
  have k0_2 := (kb n1).b n2
  replace ha1 := ha1.k k0_2
  replace hq1 := hq1.k k0_2
  go_big_op
  go_fit (zcmp_any ha1 hq1 (by omega) (by omega) )
  rintro e w_3 ⟨rfl, hb_3⟩
  replace hs := hs.bl hb_3
  rw [H1.out]
  refine hK _ _ rfl trivial ?_
  clear hK K
  refine sq ?_
  refine .r0 ?_
  refine sq ?_
  refine .mv ?_
  refine sq ?_
  refine .r0 ?_
  refine sq ?_
  refine .r4 hs.g1.f4 ?_
  refine sq ?_
  refine .r0 ?_
  refine sq ?_
  refine .r4 hs.g0.f4 ?_
  refine sq ?_
  intro K hK
  have k0_3 := k0_2.b hb_3
  replace ha2 := ha2.k k0_3
  replace hq2 := hq2.k k0_3
  go_big_op
  go_fit (zcmp_any ha2 hq2 (by omega) (by omega) )
  rintro e w_4 ⟨rfl, hb_4⟩
  replace hs := hs.bl hb_4
  rw [H2.out]
  refine hK _ _ rfl trivial ?_
  clear hK K
  refine sq ?_
  refine .r0 ?_
  refine sq ?_
  refine .r0 ?_
  refine sq ?_
  refine .mv ?_
  apply wpSq_end
  refine hK2 _ _ ?_
  refine wp_ret ?_
  try dsimp only [Exit.then, Exit.inBlock]
  refine bodyPost_ret (v := (.bool true)) (by simp [results, Try.results50, go_sem]) rfl ?_
  have hb := hs.b
  exact ⟨rfl, hb⟩
set_option maxHeartbeats 4000000 in
set_option maxRecDepth 20000 in
theorem gEqual_no1 (ha : PN w va x l y m) (hq : PN w vb u k v n) (hl : l ≤ 100000000) (hm : m ≤ 100000000) (hk : k ≤ 100000000) (hn : n ≤ 100000000) (h1 : x ≠ u) :
    Calls Try.prog 50 #[va, vb] w fun e w' => e = .returned (.bool false) ∧ Below w.heap.size w w' := by
  have h := zcmp_ne h1
  obtain ⟨C, hC⟩ : ∃ C, zcmp x u = C := ⟨_, rfl⟩
  rw [hC] at h
  have HC := hide hC
  clear h1 hC
  obtain ⟨n_0a, o_0a, k_0a, c_0a, n_0b, o_0b, k_0b, c_0b, rfl, ha1, ha2⟩ := ha
  obtain ⟨n_1a, o_1a, k_1a, c_1a, n_1b, o_1b, k_1b, c_1b, rfl, hq1, hq2⟩ := hq
  go_enter Try.func50, Try.ntmps50
  have hs := St.nil w
  refine wp_seq_k ?_
  intro K1 hK1
  refine rg [0, 1, 2] ?_
  refine sq ?_
  refine .al hs ?_; clear hs; intro p_b1 w_1 hs n1 kb_b1
  refine sq ?_
  refine .al hs ?_; clear hs; intro p_b2 w_2 hs n2 kb_b2
  refine sq ?_
  refine .mv ?_
  apply wpSq_end
  refine hK1 _ _ ?_
  refine wp_seq_k ?_
  intro K2 hK2
  refine rg [0, 1, 2, 3, 4, 5, 6, 7, 8, 9, 10, 11, 12, 13, 14] ?_
  refine sq ?_
  refine .r0 ?_
  refine sq ?_
  refine .r4 hs.g1.f4 ?_
  refine sq ?_
  refine .r0 ?_
  refine sq ?_
  refine .r4 hs.g0.f4 ?_
  refine sq ?_
  intro K hK
  have k0_2 := (kb n1).b n2
  replace ha1 := ha1.k k0_2
  replace hq1 := hq1.k k0_2
  go_big_op
  go_fit (zcmp_any ha1 hq1 (by omega) (by omega) )
  rintro e w_3 ⟨rfl, hb_3⟩
  replace hs := hs.bl hb_3
  rw [HC.out]
  refine hK _ _ rfl trivial ?_
  clear hK K
  refine sq ?_
  refine .r0 ?_
  refine sq ?_
  refine .mv ?_
  refine sk ?_
  refine sk ?_
  refine sk ?_
  refine sk ?_
  refine sk ?_
  refine sk ?_
  refine sq ?_
  refine .r0 ?_
  refine sq ?_
  refine .mv ?_
  apply wpSq_end
  refine hK2 _ _ ?_
  refine wp_ret ?_
  try dsimp only [Exit.then, Exit.inBlock]
  refine bodyPost_ret (v := (.bool false)) (by simp [results, Try.results50, go_sem]) rfl ?_
  have hb := hs.b
  exact ⟨rfl, hb⟩
set_option maxHeartbeats 4000000 in
set_option maxRecDepth 20000 in
theorem gEqual_no2 (ha : PN w va x l y m) (hq : PN w vb u k v n) (hl : l ≤ 100000000) (hm : m ≤ 100000000) (hk : k ≤ 100000000) (hn : n ≤ 100000000) (h1 : x = u) (h2 : y ≠ v) :
    Calls Try.prog 50 #[va, vb] w fun e w' => e = .returned (.bool false) ∧ Below w.heap.size w w' := by
  have H1 := hide (zcmp_eq h1)
  have h := zcmp_ne h2
  obtain ⟨C, hC⟩ : ∃ C, zcmp y v = C := ⟨_, rfl⟩
  rw [hC] at h
  have HC := hide hC
  clear h1 h2 hC
  obtain ⟨n_0a, o_0a, k_0a, c_0a, n_0b, o_0b, k_0b, c_0b, rfl, ha1, ha2⟩ := ha
  obtain ⟨n_1a, o_1a, k_1a, c_1a, n_1b, o_1b, k_1b, c_1b, rfl, hq1, hq2⟩ := hq
  go_enter Try.func50, Try.ntmps50
  have hs := St.nil w
  refine wp_seq_k ?_
  intro K1 hK1
  refine rg [0, 1, 2] ?_
  refine sq ?_
  refine .al hs ?_; clear hs; intro p_b1 w_1 hs n1 kb_b1
  refine sq ?_
  refine .al hs ?_; clear hs; intro p_b2 w_2 hs n2 kb_b2
  refine sq ?_
  refine .mv ?_
  apply wpSq_end
  refine hK1 _ _ ?_
  refine wp_seq_k ?_
  intro K2 hK2
  refine rg [0, 1, 2, 3, 4, 5, 6, 7, 8, 9, 10, 11, 12, 13, 14] ?_
  refine sq ?_
  refine .r0 ?_
  refine sq ?_
  refine .r4 hs.g1.f4 ?_
  refine sq ?_
  refine .r0 ?_
  refine sq ?_
  refine .r4 hs.g0.f4 ?_
  refine sq ?_
  intro K hK
  have k0_2 := (kb n1).b n2
  replace ha1 := ha1.k k0_2
  replace hq1 := hq1.k k0_2
  go_big_op
  go_fit (zcmp_any ha1 hq1 (by omega) (by omega) )
  rintro e w_3 ⟨rfl, hb_3⟩
  replace hs := hs.bl hb_3
  rw [H1.out]
  refine hK _ _ rfl trivial ?_
  clear hK K
  refine sq ?_
  refine .r0 ?_
  refine sq ?_
  refine .mv ?_
  refine sq ?_
  refine .r0 ?_
  refine sq ?_
  refine .r4 hs.g1.f4 ?_
  refine sq ?_
  refine .r0 ?_
  refine sq ?_
  refine .r4 hs.g0.f4 ?_
  refine sq ?_
  intro K hK
  have k0_3 := k0_2.b hb_3
  replace ha2 := ha2.k k0_3
  replace hq2 := hq2.k k0_3
  go_big_op
  go_fit (zcmp_any ha2 hq2 (by omega) (by omega) )
  rintro e w_4 ⟨rfl, hb_4⟩
  replace hs := hs.bl hb_4
  rw [HC.out]
  refine hK _ _ rfl trivial ?_
  clear hK K
  refine sq ?_
  refine .r0 ?_
  refine sq ?_
  refine .r0 ?_
  refine sq ?_
  refine .mv ?_
  apply wpSq_end
  refine hK2 _ _ ?_
  refine wp_ret ?_
  try dsimp only [Exit.then, Exit.inBlock]
  refine bodyPost_ret (v := (.bool false)) (by simp [results, Try.results50, go_sem]) rfl ?_
  have hb := hs.b
  exact ⟨rfl, hb⟩
/-- Two numbers are one just where their parts are. -/
theorem gEqual_any (ha : PN w va x l y m) (hq : PN w vb u k v n) (hl : l ≤ 100000000) (hm : m ≤ 100000000) (hk : k ≤ 100000000) (hn : n ≤ 100000000) :
    Calls Try.prog 50 #[va, vb] w fun e w' => e = .returned (.bool (decide (x = u ∧ y = v))) ∧ Below w.heap.size w w' := by
  by_cases h : x = u
  · by_cases h2 : y = v
    · rw [decide_eq_true (And.intro h h2)]; exact gEqual_yes ha hq hl hm hk hn h h2
    · rw [decide_eq_false (fun c => h2 c.2)]; exact gEqual_no2 ha hq hl hm hk hn h h2
  · rw [decide_eq_false (fun c => h c.1)]; exact gEqual_no1 ha hq hl hm hk hn h
end
end Go.Proofs.Ytjfjlloibmebeaa


/- gmat.build, at numbers and at rows. -/
namespace Go.Proofs.Ytjfjlloibmebeaa
open Go Go.RowKit Dig
set_option linter.unusedVariables false

theorem setL_app {ys zs : List Value} {i : Nat} {z0 z1 z2 z3 c0 c1 c2 c3 : Value} (h : ys.length = i * 4) :
    setL (ys ++ z0 :: z1 :: z2 :: z3 :: zs) [(i * 4, c0), (i * 4 + 1, c1), (i * 4 + 2, c2), (i * 4 + 3, c3)] = (ys ++ [c0, c1, c2, c3]) ++ zs := by
  simp only [setL]
  rw [List.set_append_right _ _ (by omega), show i * 4 - ys.length = 0 by omega, List.set_cons_zero, List.set_append_right _ _ (by omega), show i * 4 + 1 - ys.length = 1 by omega, List.set_cons_succ, List.set_cons_zero,
    List.set_append_right _ _ (by omega), show i * 4 + 2 - ys.length = 2 by omega, List.set_cons_succ, List.set_cons_succ, List.set_cons_zero, List.set_append_right _ _ (by omega), show i * 4 + 3 - ys.length = 3 by omega, List.set_cons_succ, List.set_cons_succ, List.set_cons_succ, List.set_cons_zero]
  simp
theorem four_of {zs : List Value} (h : 4 ≤ zs.length) : ∃ z0 z1 z2 z3 ws, zs = z0 :: z1 :: z2 :: z3 :: ws := by
  match zs, h with
  | a :: b :: c :: d :: ws, _ => exact ⟨a, b, c, d, ws, rfl⟩
theorem mapr_succ {α : Type} (F : Nat → α) (i : Nat) : (List.range (i + 1)).map F = (List.range i).map F ++ [F i] := by rw [List.range_succ, List.map_append]; rfl
/-- A function that is called comes to be entered, whatever its arguments. -/
def Ent1 (f : Nat) (caps : Array Value) : Prop := ∀ v w1, Sem.run Try.prog (callFunc f (#[v] ++ caps)) w1 = .ok (.enter f (#[v] ++ caps)) w1
def Ent2 (f : Nat) (caps : Array Value) : Prop := ∀ v u w1, Sem.run Try.prog (callFunc f (#[v, u] ++ caps)) w1 = .ok (.enter f (#[v, u] ++ caps)) w1
section
variable {w : World} {f n : Nat} {caps : Array Value}
def TelG (w : World) (f : Nat) (caps : Array Value) (n : Nat) (F : Nat → Int × Int) : Prop :=
  ∀ (i : Nat) (w1 : World), i < n → Below w.heap.size w w1 → Calls Try.prog f (#[.int .i64 (i : Int)] ++ caps) w1 fun e w2 => ∃ v, e = .returned v ∧ PC w2 v (F i).1 (F i).2 ∧ Below w1.heap.size w1 w2
def TelL (w : World) (f : Nat) (caps : Array Value) (n : Nat) (F : Nat → List (Int × Int)) : Prop :=
  ∀ (i : Nat) (w1 : World), i < n → Below w.heap.size w w1 → Calls Try.prog f (#[.int .i64 (i : Int)] ++ caps) w1 fun e w2 => ∃ o c xs, e = .returned (.slice o (F i).length c) ∧ Lst w2 w1.heap.size 41 4 (.slice o (F i).length c) (F i).length xs ∧ GD w2 xs (F i) ∧ Below w1.heap.size w1 w2
theorem TelG.at {w w' : World} {F : Nat → Int × Int} (h : TelG w f caps n F) (hb : Below w.heap.size w w') : TelG w' f caps n F := fun i w1 hi h1 => h i w1 hi (hb.trans (h1.mono hb.size))
theorem TelL.at {w w' : World} {F : Nat → List (Int × Int)} (h : TelL w f caps n F) (hb : Below w.heap.size w w') : TelL w' f caps n F := fun i w1 hi h1 => h i w1 hi (hb.trans (h1.mono hb.size))
set_option maxHeartbeats 4000000 in
set_option maxRecDepth 20000 in
theorem buildG_any {F : Nat → Int × Int} (hf : Ent1 f caps) (h : TelG w f caps n F) (hn : n ≤ 1000000) :
    Calls Try.prog 71 #[.int .i64 (n : Int), .func (.func f) #[] caps] w fun e w' => ∃ o c xs, e = .returned (.slice o n c) ∧ Lst w' w.heap.size 41 4 (.slice o n c) n xs ∧ GD w' xs ((List.range n).map F) ∧ Below w.heap.size w w' := by
  unfold Ent1 at hf
  go_enter Try.func71, Try.ntmps71
  have hs := St.nil w
  refine wp_seq_k ?_
  intro K1 hK1
  refine rg [0] ?_
  refine sq ?_
  refine .mv ?_
  apply wpSq_end
  refine hK1 _ _ ?_
  refine wp_seq_k ?_
  intro K2 hK2
  refine rg [0, 1, 2] ?_
  refine sq ?_
  refine .mv ?_
  refine sq ?_
  refine .mk (n := n) hs ?_ (by first | rfl | omega) (by omega); clear hs; intro g_l xs_l w_1 hs e_l n1 kb_l
  refine sq ?_
  refine .mv ?_
  apply wpSq_end
  refine hK2 _ _ ?_
  refine wp_seq_k ?_
  intro K3 hK3
  refine wp_seq_k ?_
  intro K4 hK4
  refine rg [0, 1, 2] ?_
  refine sq ?_
  refine .mv ?_
  refine sq ?_
  refine .r0 ?_
  refine sq ?_
  refine .mv ?_
  apply wpSq_end
  refine hK4 _ _ ?_
  refine wp_block ?_
  have hd2 := hs.2.1
  go_loopg [11] n (fun k s11 wr => ∃ (i : Nat) (ys zs : List Value), s11 = .int .i64 (i : Int) ∧ i + k = n ∧ St w [ls w.heap.size 41 4 (.slice (some ⟨g_l, 0, none⟩) n n) n (ys ++ zs)] wr ∧ ys.length = i * 4 ∧ GD wr ys ((List.range i).map F))
  case atStart => exact ⟨0, [], xs_l, rfl, by omega, hs, rfl, GD.nil _⟩
  case round =>
  clear hs
  obtain ⟨i, ys, zs, rfl, hik, hs, hyl, hd⟩ := hrel
  have hlen := hs.1.1.1.1.1
  rw [List.length_append, hyl] at hlen
  by_cases hi : i < n
  · obtain ⟨z0, z1, z2, z3, ws, rfl⟩ := four_of (zs := zs) (by omega)
    refine wp_seq_k ?_
    intro K5 hK5
    refine rg [0] ?_
    refine sq ?_
    refine .r0 ?_
    apply wpSq_end
    refine hK5 _ _ ?_
    refine wp_seq_k ?_
    intro K6 hK6
    refine ct ?_
    refine wp_skip ?_
    refine hK6 _ _ ?_
    refine wp_seq_k ?_
    intro K7 hK7
    refine wp_block ?_
    refine wp_seq_k ?_
    intro K8 hK8
    refine rg [0, 1] ?_
    refine sq ?_
    refine .mv ?_
    refine sq ?_
    refine .mv ?_
    apply wpSq_end
    refine hK8 _ _ ?_
    refine rg [0, 1, 2, 3, 4, 5, 6] ?_
    refine sq ?_
    refine .mv ?_
    refine sq ?_
    refine .mv ?_
    refine sq ?_
    refine .mv ?_
    refine sq ?_
    refine .mv ?_
    refine sq ?_
    intro K hK
    have hb := hs.b
    go_big_op
    go_fit (h i _ hi hb)
    rintro e w_3 ⟨_, rfl, ⟨n_va, o_va, k_va, c_va, n_vb, o_vb, k_vb, c_vb, rfl, v1, v2⟩, hb_3⟩
    clear hb
    replace hs := hs.bl hb_3
    refine hK _ _ rfl trivial ?_
    clear hK K
    refine sq ?_
    refine .r0 ?_
    refine sq ?_
    refine .i4 0 hs (j := i) (by omega) ?_; clear hs; intro w_4 hs kp4 hd4 ho4 hw4; simp only [List.set_cons_zero] at hs
    apply wpSq_end
    refine hK7 _ _ ?_
    refine rg [0, 1] ?_
    refine sq ?_
    refine .r0 ?_
    refine sq ?_
    refine .mv ?_
    apply wpSq_end
    have k0_2 := (kb hb_3).t kp4
    replace hd := hd.k k0_2
    have k1_2 := kp4
    replace v1 := v1.k k1_2
    replace v2 := v2.k k1_2
    refine ‹∀ (a' : Act) (w' : World), Handed _ _ a' w' → _› _ _ ?_
    rw [setL_app hyl] at hs
    go_roundg (gk - 1)
    case rel => exact ⟨i + 1, _, ws, by rfl, by omega, hs, by simp; omega, by rw [mapr_succ]; exact hd.snoc (.mk' v1 v2)⟩
    case measure => omega
  · obtain rfl : n = i := by omega
    obtain rfl : zs = [] := List.eq_nil_of_length_eq_zero (by omega)
    rw [List.append_nil] at hs
    have HX := hide hi
    refine wp_seq_k ?_
    intro K5 hK5
    refine rg [0] ?_
    refine sq ?_
    refine .r0 ?_
    apply wpSq_end
    refine hK5 _ _ ?_
    refine wp_seq_k ?_
    intro K6 hK6
    refine cf ?_
    refine wp_exit ?_
    refine hK3 _ _ ?_
    refine wp_seq_k ?_
    intro K7 hK7
    refine rg [0, 1] ?_
    refine sq ?_
    refine .mv ?_
    refine sq ?_
    refine .mv ?_
    apply wpSq_end
    refine hK7 _ _ ?_
    refine wp_ret ?_
    try dsimp only [Exit.then, Exit.inBlock]
    refine bodyPost_ret (v := (.slice (some ⟨g_l, 0, none⟩) n n)) (by simp [results, Try.results71, go_sem]) rfl ?_
    exact ⟨_, _, _, rfl, hs.1.1.1, hd, hs.b⟩
end
end Go.Proofs.Ytjfjlloibmebeaa


/- gmat.build at rows; gmat.matrix. -/
namespace Go.Proofs.Ytjfjlloibmebeaa
open Go Go.RowKit Dig
set_option linter.unusedVariables false

theorem set_mid {α : Type} {ys zs : List α} {z c : α} {i : Nat} (h : ys.length = i) : (ys ++ z :: zs).set i c = (ys ++ [c]) ++ zs := by
  rw [List.set_append_right _ _ (by omega), show i - ys.length = 0 by omega, List.set_cons_zero]; simp
theorem Rw.len {B : Nat} (rs : List Rw) : (rs.map (Rw.e B)).length = rs.length := List.length_map ..
section
variable {w : World} {f n : Nat} {caps : Array Value}
set_option maxHeartbeats 4000000 in
set_option maxRecDepth 20000 in
theorem buildL_any {F : Nat → List (Int × Int)} (hf : Ent1 f caps) (h : TelL w f caps n F) (hn : n ≤ 1000000) :
    Calls Try.prog 69 #[.int .i64 (n : Int), .func (.func f) #[] caps] w fun e w' => ∃ o c rs, e = .returned (.slice o n c) ∧ rs.length = n ∧ St w (Mx w.heap.size (.slice o n c) rs) w' ∧ RD w' rs ((List.range n).map F) ∧ Below w.heap.size w w' := by
  unfold Ent1 at hf
  go_enter Try.func69, Try.ntmps69
  have hs := St.nil w
  refine wp_seq_k ?_
  intro K1 hK1
  refine rg [0] ?_
  refine sq ?_
  refine .mv ?_
  apply wpSq_end
  refine hK1 _ _ ?_
  refine wp_seq_k ?_
  intro K2 hK2
  refine rg [0, 1, 2] ?_
  refine sq ?_
  refine .mv ?_
  refine sq ?_
  refine .mk (n := n) hs ?_ (by first | rfl | omega) (by omega); clear hs; intro g_l xs_l w_1 hs e_l n1 kb_l
  refine sq ?_
  refine .mv ?_
  apply wpSq_end
  refine hK2 _ _ ?_
  refine wp_seq_k ?_
  intro K3 hK3
  refine wp_seq_k ?_
  intro K4 hK4
  refine rg [0, 1, 2] ?_
  refine sq ?_
  refine .mv ?_
  refine sq ?_
  refine .r0 ?_
  refine sq ?_
  refine .mv ?_
  apply wpSq_end
  refine hK4 _ _ ?_
  refine wp_block ?_
  have hd2 := hs.2.1
  go_loopg [11] n (fun k s11 wr => ∃ (i : Nat) (rs : List Rw) (zs : List Value), s11 = .int .i64 (i : Int) ∧ i + k = n ∧ St w (ls w.heap.size 39 1 (.slice (some ⟨g_l, 0, none⟩) n n) n (rs.map (·.v) ++ zs) :: rs.map (Rw.e w.heap.size)) wr ∧ rs.length = i ∧ RD wr rs ((List.range i).map F))
  case atStart => exact ⟨0, [], xs_l, rfl, by omega, hs, rfl, trivial⟩
  case round =>
  clear hs
  obtain ⟨i, rs, zs, rfl, hik, hs, hyl, hd⟩ := hrel
  have hlen := hs.1.1.1.1.1
  rw [List.length_append, List.length_map, hyl] at hlen
  by_cases hi : i < n
  · obtain ⟨z0, ws, rfl⟩ : ∃ z0 ws, zs = z0 :: ws := List.exists_cons_of_length_pos (by omega)
    refine wp_seq_k ?_
    intro K5 hK5
    refine rg [0] ?_
    refine sq ?_
    refine .r0 ?_
    apply wpSq_end
    refine hK5 _ _ ?_
    refine wp_seq_k ?_
    intro K6 hK6
    refine ct ?_
    refine wp_skip ?_
    refine hK6 _ _ ?_
    refine wp_seq_k ?_
    intro K7 hK7
    refine wp_block ?_
    refine wp_seq_k ?_
    intro K8 hK8
    refine rg [0, 1] ?_
    refine sq ?_
    refine .mv ?_
    refine sq ?_
    refine .mv ?_
    apply wpSq_end
    refine hK8 _ _ ?_
    refine rg [0, 1, 2, 3, 4, 5, 6] ?_
    refine sq ?_
    refine .mv ?_
    refine sq ?_
    refine .mv ?_
    refine sq ?_
    refine .mv ?_
    refine sq ?_
    refine .mv ?_
    refine sq ?_
    intro K hK
    have hb := hs.b
    go_big_op
    go_fit (h i _ hi hb)
    rintro e w_3 ⟨o_r, c_r, xs_r, rfl, L_r, d_r, hb_3⟩
    clear hb
    replace hs := hs.la hb_3 L_r
    refine hK _ _ rfl trivial ?_
    clear hK K
    refine sq ?_
    refine .r0 ?_
    refine sq ?_
    refine .i1 1 hs (j := i) (by omega) ?_; clear hs; intro w_4 hs kp4 hd4 ho4 hw4; simp only [List.set_cons_succ, List.set_cons_zero] at hs
    apply wpSq_end
    refine hK7 _ _ ?_
    refine rg [0, 1] ?_
    refine sq ?_
    refine .r0 ?_
    refine sq ?_
    refine .mv ?_
    apply wpSq_end
    have k0_2 := (kb hb_3).t kp4
    replace hd := hd.k k0_2
    have k1_2 := kp4
    replace d_r := d_r.k k1_2
    refine ‹∀ (a' : Act) (w' : World), Handed _ _ a' w' → _› _ _ ?_
    rw [set_mid (by rw [List.length_map]; exact hyl)] at hs
    have hs := hs.perm (cs := ls w.heap.size 39 1 (.slice (some ⟨g_l, 0, none⟩) n n) n ((rs ++ [(⟨.slice o_r (F i).length c_r, (F i).length, xs_r⟩ : Rw)]).map (·.v) ++ ws) :: (rs ++ [(⟨.slice o_r (F i).length c_r, (F i).length, xs_r⟩ : Rw)]).map (Rw.e w.heap.size)) (by
      rw [List.map_append, List.map_append]
      exact (List.Perm.swap _ _ _).trans (List.Perm.cons _ (List.perm_append_singleton _ _).symm))
    go_roundg (gk - 1)
    case rel => exact ⟨i + 1, _, ws, by rfl, by omega, hs, by simp; omega, by rw [mapr_succ]; exact hd.snoc rfl d_r⟩
    case measure => omega
  · obtain rfl : n = i := by omega
    obtain rfl : zs = [] := List.eq_nil_of_length_eq_zero (by omega)
    rw [List.append_nil] at hs
    have HX := hide hi
    refine wp_seq_k ?_
    intro K5 hK5
    refine rg [0] ?_
    refine sq ?_
    refine .r0 ?_
    apply wpSq_end
    refine hK5 _ _ ?_
    refine wp_seq_k ?_
    intro K6 hK6
    refine cf ?_
    refine wp_exit ?_
    refine hK3 _ _ ?_
    refine wp_seq_k ?_
    intro K7 hK7
    refine rg [0, 1] ?_
    refine sq ?_
    refine .mv ?_
    refine sq ?_
    refine .mv ?_
    apply wpSq_end
    refine hK7 _ _ ?_
    refine wp_ret ?_
    try dsimp only [Exit.then, Exit.inBlock]
    refine bodyPost_ret (v := (.slice (some ⟨g_l, 0, none⟩) n n)) (by simp [results, Try.results69, go_sem]) rfl ?_
    exact ⟨_, _, rs, rfl, hyl, (by unfold Mx; rw [hyl]; exact hs), hd, hs.b⟩
def Tel2 (w : World) (f : Nat) (caps : Array Value) (r c : Nat) (F : Nat → Nat → Int × Int) : Prop :=
  ∀ (i j : Nat) (w1 : World), i < r → j < c → Below w.heap.size w w1 → Calls Try.prog f (#[.int .i64 (i : Int), .int .i64 (j : Int)] ++ caps) w1 fun e w2 => ∃ v, e = .returned v ∧ PC w2 v (F i j).1 (F i j).2 ∧ Below w1.heap.size w1 w2
theorem Tel2.at {w w' : World} {r c : Nat} {F : Nat → Nat → Int × Int} (h : Tel2 w f caps r c F) (hb : Below w.heap.size w w') : Tel2 w' f caps r c F := fun i j w1 hi hj h1 => h i j w1 hi hj (hb.trans (h1.mono hb.size))
set_option maxHeartbeats 4000000 in
set_option maxRecDepth 20000 in
theorem matrix11 {r c pn pi : Nat} {i j : Nat} {F : Nat → Nat → Int × Int} (hf : Ent2 f caps) (h : Tel2 w f caps r c F) (hi : i < r) (hj : j < c) (x1 : Bs w pn #[.func (.func f) #[] caps] 48) (x2 : Bs w pi #[.int .i64 (i : Int)] 3) :
    Calls Try.prog 72 (#[.int .i64 (j : Int)] ++ #[.pointer (some ⟨pn, 0, none⟩), .pointer (some ⟨pi, 0, none⟩)]) w fun e w' => ∃ v, e = .returned v ∧ PC w' v (F i j).1 (F i j).2 ∧ Below w.heap.size w w' := by
  unfold Ent2 at hf
  show Calls _ _ #[.int .i64 (j : Int), .pointer (some ⟨pn, 0, none⟩), .pointer (some ⟨pi, 0, none⟩)] w _
  go_enter Try.func72, Try.ntmps72
  have hs := St.nil w
  have lt_bn := x1.lt
  have x1z := x1
  have lt_bi := x2.lt
  have x2z := x2
  refine wp_seq_k ?_
  intro K1 hK1
  refine rg [0] ?_
  refine sq ?_
  refine .al hs ?_; clear hs; intro p_b1 w_1 hs n1 kb_b1
  replace x1 := x1.bl n1; replace x2 := x2.bl n1
  apply wpSq_end
  refine hK1 _ _ ?_
  refine wp_seq_k ?_
  intro K2 hK2
  refine rg [0, 1, 2, 3, 4] ?_
  refine sq ?_
  refine .r1 x1.f1 ?_
  refine sq ?_
  refine .r1 x2.f1 ?_
  refine sq ?_
  refine .mv ?_
  refine sq ?_
  intro K hK
  have hb := hs.b
  go_big_op
  go_fit (h i j _ hi hj hb)
  rintro e w_2 ⟨_, rfl, ⟨n_va, o_va, k_va, c_va, n_vb, o_vb, k_vb, c_vb, rfl, v1, v2⟩, hb_2⟩
  clear hb
  replace hs := hs.bl hb_2
  refine hK _ _ rfl trivial ?_
  clear hK K
  refine sq ?_
  refine .s4 hs.g0 (fun _ => hs.u0 kb_b1) ?_; clear hs; intro w_3 hs hd3 ho3
  apply wpSq_end
  refine hK2 _ _ ?_
  refine wp_ret ?_
  try dsimp only [Exit.then, Exit.inBlock]
  obtain ⟨r0_0, r0_1, r0_2, r0_3⟩ := hs.g0.f4
  refine bodyPost_ret (v := (.agg #[.bool n_va, .slice o_va k_va c_va, .bool n_vb, .slice o_vb k_vb c_vb])) (by simp [results, Try.results72, go_sem, r0_0, r0_1, r0_2, r0_3]) rfl ?_
  have k2_3 := ko hd3 ho3
  replace v1 := v1.k k2_3
  replace v2 := v2.k k2_3
  exact ⟨_, rfl, .mk' v1 v2, hs.b⟩
set_option maxHeartbeats 4000000 in
set_option maxRecDepth 20000 in
theorem matrix1 {r c pn pc : Nat} {i : Nat} {F : Nat → Nat → Int × Int} (hf : Ent2 f caps) (h : Tel2 w f caps r c F) (hi : i < r) (hc : c ≤ 1000000) (x1 : Bs w pn #[.func (.func f) #[] caps] 48) (x2 : Bs w pc #[.int .i64 (c : Int)] 3) :
    Calls Try.prog 70 (#[.int .i64 (i : Int)] ++ #[.pointer (some ⟨pc, 0, none⟩), .pointer (some ⟨pn, 0, none⟩)]) w fun e w' => ∃ o cc xs, e = .returned (.slice o c cc) ∧ Lst w' w.heap.size 41 4 (.slice o c cc) c xs ∧ GD w' xs ((List.range c).map (F i)) ∧ Below w.heap.size w w' := by
  show Calls _ _ #[.int .i64 (i : Int), .pointer (some ⟨pc, 0, none⟩), .pointer (some ⟨pn, 0, none⟩)] w _
  go_enter Try.func70, Try.ntmps70
  have hs := St.nil w
  have lt_bc := x2.lt
  have x2z := x2
  have lt_bn := x1.lt
  have x1z := x1
  refine wp_seq_k ?_
  intro K1 hK1
  refine rg [0, 1] ?_
  refine sq ?_
  refine .al hs ?_; clear hs; intro p_b1 w_1 hs n1 kb_b1
  replace x2 := x2.bl n1; replace x1 := x1.bl n1
  refine sq ?_
  refine .mv ?_
  apply wpSq_end
  refine hK1 _ _ ?_
  refine wp_seq_k ?_
  intro K2 hK2
  refine rg [0, 1, 2, 3] ?_
  refine sq ?_
  refine .r1 x2.f1 ?_
  refine sq ?_
  refine .r0 ?_
  refine sq ?_
  intro K hK
  have hb := hs.b
  have x_b1 := hs.g0
  go_big_op
  go_fit (buildG_any (fun _ _ ↦ by kernel_rfl) (fun j w1 hj h1 ↦ matrix11 hf (h.at (hb.trans (h1.mono hb.size))) hi hj (x1.bl h1) (x_b1.bl h1)) hc)
  rintro e w_2 ⟨o_r, c_r, xs_r, rfl, L_r, d_r, hb_2⟩
  clear hb x_b1
  replace x1 := x1.bl hb_2
  replace hs := hs.la hb_2 L_r
  refine hK _ _ rfl trivial ?_
  clear hK K
  refine sq ?_
  refine .mv ?_
  apply wpSq_end
  refine hK2 _ _ ?_
  refine wp_ret ?_
  try dsimp only [Exit.then, Exit.inBlock]
  refine bodyPost_ret (v := (.slice o_r c c_r)) (by simp [results, Try.results70, go_sem]) rfl ?_
  exact ⟨_, _, _, rfl, hs.1.1.1, d_r, hs.b⟩
set_option maxHeartbeats 4000000 in
set_option maxRecDepth 20000 in
/-- A matrix of numbers that a closure tells by their places. -/
theorem matrix_any {r c : Nat} {F : Nat → Nat → Int × Int} (hf : Ent2 f caps) (h : Tel2 w f caps r c F) (hr : r ≤ 1000000) (hc : c ≤ 1000000) :
    Calls Try.prog 42 #[.int .i64 (r : Int), .int .i64 (c : Int), .func (.func f) #[] caps] w fun e w' => ∃ o cc rs, e = .returned (.slice o r cc) ∧ rs.length = r ∧ St w (Mx w.heap.size (.slice o r cc) rs) w' ∧ RD w' rs ((List.range r).map fun i => (List.range c).map (F i)) ∧ Below w.heap.size w w' := by
  go_enter Try.func42, Try.ntmps42
  have hs := St.nil w
  refine wp_seq_k ?_
  intro K1 hK1
  refine rg [0, 1, 2] ?_
  refine sq ?_
  refine .al hs ?_; clear hs; intro p_b1 w_1 hs n1 kb_b1
  refine sq ?_
  refine .al hs ?_; clear hs; intro p_b2 w_2 hs n2 kb_b2
  refine sq ?_
  refine .mv ?_
  apply wpSq_end
  refine hK1 _ _ ?_
  refine wp_seq_k ?_
  intro K2 hK2
  refine rg [0, 1, 2, 3] ?_
  refine sq ?_
  refine .mv ?_
  refine sq ?_
  refine .r0 ?_
  refine sq ?_
  intro K hK
  have hb := hs.b
  have x_b2 := hs.g0
  have x_b1 := hs.g1
  go_big_op
  go_fit (buildL_any (F := fun i ↦ (List.range c).map (F i)) (fun _ _ ↦ by kernel_rfl) (fun i w1 hi h1 ↦ by have := matrix1 hf (h.at (hb.trans (h1.mono hb.size))) hi hc (x_b2.bl h1) (x_b1.bl h1); simpa using this) hr)
  rintro e w_3 ⟨o_r, c_r, rs_r, rfl, hl_r, hs_r, d_r, hb_3⟩
  clear hb x_b2 x_b1
  replace hs := hs.mx hl_r hs_r; simp only [List.cons_append, List.nil_append] at hs
  refine hK _ _ rfl trivial ?_
  clear hK K
  refine sq ?_
  refine .mv ?_
  apply wpSq_end
  refine hK2 _ _ ?_
  refine wp_ret ?_
  try dsimp only [Exit.then, Exit.inBlock]
  refine bodyPost_ret (v := (.slice o_r r c_r)) (by simp [results, Try.results42, go_sem]) rfl ?_
  exact ⟨_, _, _, rfl, hl_r, (by unfold Mx; rw [hl_r]; exact hs.sub (.cons_cons _ (.cons _ (.cons _ (List.Sublist.refl _))))), d_r, hs.b⟩
end
end Go.Proofs.Ytjfjlloibmebeaa


/- gmat.width, Good, isOneSize. -/
namespace Go.Proofs.Ytjfjlloibmebeaa
open Go Go.RowKit Dig
set_option linter.unusedVariables false

/-- How many numbers the first row has. -/
def wd (Ms : List (List (Int × Int))) : Nat := (Ms.headD []).length
def gd (Ms : List (List (Int × Int))) : Prop := Ms.length ≤ 64 ∧ wd Ms ≤ 64 ∧ ∀ r ∈ Ms, r.length = wd Ms
instance (Ms : List (List (Int × Int))) : Decidable (gd Ms) := inferInstanceAs (Decidable (_ ∧ _ ∧ _))
theorem wd_0 {Ms : List (List (Int × Int))} (h : 0 < Ms.length) : Ms[0].length = wd Ms := by
  match Ms, h with
  | r :: Ms, _ => rfl
theorem wd_nil {Ms : List (List (Int × Int))} (h : Ms.length = 0) : wd Ms = 0 := by rw [List.eq_nil_of_length_eq_zero h]; rfl
section
variable {w : World} {l : Nat} {om : Option Addr} {n k cm : Nat} {Ms : List (List (Int × Int))}
set_option maxHeartbeats 4000000 in
set_option maxRecDepth 20000 in
theorem width_any (hm : MN l w om Ms) (hn : Ms.length = n) (hk : wd Ms = k) :
    Calls Try.prog 68 #[.slice om n cm] w fun e w' => e = .returned (.int .i64 (k : Int)) ∧ Below w.heap.size w w' := by
  rcases Nat.eq_zero_or_pos n with h0 | h0
  · have hk0 : 0 = k := by rw [← hk, wd_nil (hn.trans h0)]
    subst hk0 h0
    clear hk hn hm
    go_enter Try.func68, Try.ntmps68
    have hs := St.nil w
    refine wp_seq_k ?_
    intro K1 hK1
    refine rg [0] ?_
    refine sq ?_
    refine .mv ?_
    apply wpSq_end
    refine hK1 _ _ ?_
    refine wp_seq_k ?_
    intro K2 hK2
    refine wp_seq_k ?_
    intro K3 hK3
    refine rg [0, 1, 2] ?_
    refine sq ?_
    refine .mv ?_
    refine sq ?_
    refine .r0 ?_
    refine sq ?_
    refine .r0 ?_
    apply wpSq_end
    refine hK3 _ _ ?_
    refine ct ?_
    refine wp_seq_k ?_
    intro K4 hK4
    refine rg [0] ?_
    refine sq ?_
    refine .mv ?_
    apply wpSq_end
    refine hK4 _ _ ?_
    refine wp_ret ?_
    try dsimp only [Exit.then, Exit.inBlock]
    refine bodyPost_ret (v := (.int .i64 0)) (by simp [results, Try.results68, go_sem]) rfl ?_
    exact ⟨rfl, hs.b⟩
  · obtain ⟨g, off, cur, ty, fz, rfl, x, hr⟩ := hm.box (by omega)
    obtain ⟨o0, c0, e0, s0⟩ := hr 0 (by omega)
    rw [wd_0 (by omega), hk, Nat.add_zero] at e0
    clear hm hr s0 hk hn
    go_enter Try.func68, Try.ntmps68
    have hs := St.nil w
    refine wp_seq_k ?_
    intro K1 hK1
    refine rg [0] ?_
    refine sq ?_
    refine .mv ?_
    apply wpSq_end
    refine hK1 _ _ ?_
    refine wp_seq_k ?_
    intro K2 hK2
    refine wp_seq_k ?_
    intro K3 hK3
    refine rg [0, 1, 2] ?_
    refine sq ?_
    refine .mv ?_
    refine sq ?_
    refine .r0 ?_
    refine sq ?_
    refine .r0 ?_
    apply wpSq_end
    refine hK3 _ _ ?_
    refine cf ?_
    refine wp_skip ?_
    refine hK2 _ _ ?_
    refine wp_seq_k ?_
    intro K4 hK4
    refine rg [0, 1, 2, 3, 4] ?_
    refine sq ?_
    refine .mv ?_
    refine sq ?_
    refine .r0 ?_
    refine sq ?_
    refine .r1 (x.cell _ e0) ?_
    refine sq ?_
    refine .r0 ?_
    refine sq ?_
    refine .mv ?_
    apply wpSq_end
    refine hK4 _ _ ?_
    refine wp_ret ?_
    try dsimp only [Exit.then, Exit.inBlock]
    refine bodyPost_ret (v := (.int .i64 ((k : Nat) : Int))) (by simp [results, Try.results68, go_sem]) rfl ?_
    exact ⟨rfl, hs.b⟩
set_option maxHeartbeats 4000000 in
set_option maxRecDepth 20000 in
theorem good_any (hm : MN l w om Ms) (hn : Ms.length = n) (hl : n ≤ 1000000000) :
    Calls Try.prog 41 #[.slice om n cm] w fun e w' => e = .returned (.bool (decide (gd Ms))) ∧ Below w.heap.size w w' := by
  obtain ⟨k, hk⟩ : ∃ k, wd Ms = k := ⟨_, rfl⟩
  have hw := fun (w' : World) (hb : Below w.heap.size w w') => width_any (cm := cm) (hm.bl stab_n hb) hn hk
  have HG := hide (show (n ≤ 64 ∧ k ≤ 64 ∧ ∀ r ∈ Ms, r.length = k) ↔ gd Ms by unfold gd; rw [hk, hn])
  by_cases hn64 : 64 < n
  · have hg : decide (gd Ms) = false := decide_eq_false fun h => by have := (HG.out.2 h).1; omega
    have Hg := hide hg
    clear hg
    have t1 : ((64 : Int) < (n : Int)) = True := eq_true (by omega)
    go_enter Try.func41, Try.ntmps41
    have hs := St.nil w
    refine wp_seq_k ?_
    intro K1 hK1
    refine rg [0] ?_
    refine sq ?_
    refine .mv ?_
    apply wpSq_end
    refine hK1 _ _ ?_
    refine wp_seq_k ?_
    intro K2 hK2
    refine wp_seq_k ?_
    intro K3 hK3
    refine rg [0, 1, 2, 3, 4, 5, 6, 7] ?_
    refine sq ?_
    refine .mv ?_
    refine sq ?_
    refine .r0 ?_
    refine sq ?_
    refine .r0 ?_
    refine sq ?_
    refine .mv ?_
    refine sk ?_
    refine sk ?_
    refine sk ?_
    refine sq ?_
    refine .r0 ?_
    apply wpSq_end
    refine hK3 _ _ ?_
    refine ct ?_
    refine wp_seq_k ?_
    intro K4 hK4
    refine rg [0] ?_
    refine sq ?_
    refine .mv ?_
    apply wpSq_end
    refine hK4 _ _ ?_
    refine wp_ret ?_
    try dsimp only [Exit.then, Exit.inBlock]
    refine bodyPost_ret (v := (.bool false)) (by simp [results, Try.results41, go_sem]) rfl ?_
    exact ⟨by rw [Hg.out], hs.b⟩
  · by_cases hk64 : 64 < k
    · have hg : decide (gd Ms) = false := decide_eq_false fun h => by have := (HG.out.2 h).2.1; omega
      have Hg := hide hg
      clear hg
      have t1 : ((64 : Int) < (n : Int)) = False := eq_false (by omega)
      have t2 : ((64 : Int) < (k : Int)) = True := eq_true (by omega)
      go_enter Try.func41, Try.ntmps41
      have hs := St.nil w
      refine wp_seq_k ?_
      intro K1 hK1
      refine rg [0] ?_
      refine sq ?_
      refine .mv ?_
      apply wpSq_end
      refine hK1 _ _ ?_
      refine wp_seq_k ?_
      intro K2 hK2
      refine wp_seq_k ?_
      intro K3 hK3
      refine rg [0, 1, 2, 3, 4, 5, 6, 7] ?_
      refine sq ?_
      refine .mv ?_
      refine sq ?_
      refine .r0 ?_
      refine sq ?_
      refine .r0 ?_
      refine sq ?_
      refine .mv ?_
      refine sq ?_
      refine .mv ?_
      refine sq ?_
      intro K hK
      have hb := hs.b
      go_big_op
      go_fit (hw _ hb)
      rintro e w_1 ⟨rfl, hb_1⟩
      clear hb
      replace hs := hs.bl hb_1
      refine hK _ _ rfl trivial ?_
      clear hK K
      refine sq ?_
      refine .r0 ?_
      refine sq ?_
      refine .r0 ?_
      apply wpSq_end
      refine hK3 _ _ ?_
      refine ct ?_
      refine wp_seq_k ?_
      intro K4 hK4
      refine rg [0] ?_
      refine sq ?_
      refine .mv ?_
      apply wpSq_end
      refine hK4 _ _ ?_
      refine wp_ret ?_
      try dsimp only [Exit.then, Exit.inBlock]
      refine bodyPost_ret (v := (.bool false)) (by simp [results, Try.results41, go_sem]) rfl ?_
      exact ⟨by rw [Hg.out], hs.b⟩
    · have X : n = 0 ∨ ∃ g off cur ty fz, om = some ⟨g, off, none⟩ ∧ Bs w g cur ty fz ∧ Rws (RN l) w cur off Ms := hm.imp (fun e => by rw [← hn, e]; rfl) id
      have t1 : ((64 : Int) < (n : Int)) = False := eq_false (by omega)
      have t2 : ((64 : Int) < (k : Int)) = False := eq_false (by omega)
      go_enter Try.func41, Try.ntmps41
      have hs := St.nil w
      refine wp_seq_k ?_
      intro K1 hK1
      refine rg [0] ?_
      refine sq ?_
      refine .mv ?_
      apply wpSq_end
      refine hK1 _ _ ?_
      refine wp_seq_k ?_
      intro K2 hK2
      refine wp_seq_k ?_
      intro K3 hK3
      refine rg [0, 1, 2, 3, 4, 5, 6, 7] ?_
      refine sq ?_
      refine .mv ?_
      refine sq ?_
      refine .r0 ?_
      refine sq ?_
      refine .r0 ?_
      refine sq ?_
      refine .mv ?_
      refine sq ?_
      refine .mv ?_
      refine sq ?_
      intro K hK
      have hb := hs.b
      go_big_op
      go_fit (hw _ hb)
      rintro e w_1 ⟨rfl, hb_1⟩
      clear hb
      replace hs := hs.bl hb_1
      refine hK _ _ rfl trivial ?_
      clear hK K
      refine sq ?_
      refine .r0 ?_
      refine sq ?_
      refine .r0 ?_
      apply wpSq_end
      refine hK3 _ _ ?_
      refine cf ?_
      refine wp_skip ?_
      refine hK2 _ _ ?_
      refine wp_seq_k ?_
      intro K4 hK4
      refine wp_seq_k ?_
      intro K5 hK5
      refine rg [0, 1, 2] ?_
      refine sq ?_
      refine .mv ?_
      refine sq ?_
      refine .r0 ?_
      refine sq ?_
      refine .mv ?_
      apply wpSq_end
      refine hK5 _ _ ?_
      refine wp_block ?_
      have hd2 := hs.2.1
      go_loopg [15] n (fun kk s15 wr => ∃ i : Nat, s15 = .int .i64 (i : Int) ∧ i + kk = n ∧ Hid (∀ j (hj : j < Ms.length), j < i → Ms[j].length = k) ∧ St w [] wr)
      case atStart => exact ⟨0, rfl, by omega, hide fun j _ h => absurd h (Nat.not_lt_zero j), hs⟩
      case round =>
      clear hs
      obtain ⟨i, rfl, hik, HJ, hs⟩ := hrel
      by_cases hi : i < n
      · obtain ⟨g, off, cur, ty, fz, rfl, x, hr⟩ := X.resolve_left (by omega)
        obtain ⟨oi, ci, ei, si⟩ := hr i (by omega)
        have x1 := x.bl hs.b
        have HI := hide (show ∀ k', Ms[i].length = k' → k' = k → ∀ j (hj : j < Ms.length), j < i + 1 → Ms[j].length = k from fun k' e1 e2 j hj h => by
          rcases Nat.lt_succ_iff_lt_or_eq.1 h with h | h
          · exact HJ.out j hj h
          · subst h; omega)
        have HN := hide (show Ms[i].length ≠ k → decide (gd Ms) = false from fun h => decide_eq_false fun hg => h ((HG.out.2 hg).2.2 _ (List.getElem_mem _)))
        obtain ⟨kr, hkr⟩ : ∃ kr, Ms[i].length = kr := ⟨_, rfl⟩
        rw [hkr] at ei HN
        replace HI := hide (HI.out kr hkr)
        clear hkr si X
        refine wp_seq_k ?_
        intro K6 hK6
        refine rg [0] ?_
        refine sq ?_
        refine .r0 ?_
        apply wpSq_end
        refine hK6 _ _ ?_
        refine wp_seq_k ?_
        intro K7 hK7
        refine ct ?_
        refine wp_skip ?_
        refine hK7 _ _ ?_
        refine wp_seq_k ?_
        intro K8 hK8
        refine wp_block ?_
        refine wp_seq_k ?_
        intro K9 hK9
        refine rg [0, 1, 2] ?_
        refine sq ?_
        refine .r0 ?_
        refine sq ?_
        refine .r1 (x1.cell _ ei) ?_
        refine sq ?_
        refine .mv ?_
        apply wpSq_end
        refine hK9 _ _ ?_
        refine wp_seq_k ?_
        intro K10 hK10
        refine rg [0, 1, 2, 3, 4] ?_
        refine sq ?_
        refine .mv ?_
        refine sq ?_
        refine .r0 ?_
        refine sq ?_
        refine .mv ?_
        refine sq ?_
        intro K hK
        have hb := hs.b
        go_big_op
        go_fit (hw _ hb)
        rintro e w_3 ⟨rfl, hb_3⟩
        clear hb
        replace x1 := x1.bl hb_3; replace hs := hs.bl hb_3
        refine hK _ _ rfl trivial ?_
        clear hK K
        refine sq ?_
        refine .r0 ?_
        apply wpSq_end
        refine hK10 _ _ ?_
        by_cases hkk : kr = k
        · have HK := hide hkk
          have t3 : ((kr : Int) != (k : Int)) = false := by rw [hkk]; simp
          refine cf ?_
          refine wp_skip ?_
          refine hK8 _ _ ?_
          refine rg [0, 1] ?_
          refine sq ?_
          refine .r0 ?_
          refine sq ?_
          refine .mv ?_
          apply wpSq_end
          refine ‹∀ (a' : Act) (w' : World), Handed _ _ a' w' → _› _ _ ?_
          go_roundg (gk - 1)
          case rel => exact ⟨i + 1, by rfl, by omega, hide (HI.out hkk), hs⟩
          case measure => omega
        · have Hg := hide (HN.out hkk)
          have t3 : ((kr : Int) != (k : Int)) = true := bne_iff_ne.2 (by omega)
          refine ct ?_
          refine wp_seq_k ?_
          intro K11 hK11
          refine rg [0] ?_
          refine sq ?_
          refine .mv ?_
          apply wpSq_end
          refine hK11 _ _ ?_
          refine wp_ret ?_
          try dsimp only [Exit.then, Exit.inBlock]
          refine bodyPost_ret (v := (.bool false)) (by simp [results, Try.results41, go_sem]) rfl ?_
          exact ⟨by rw [Hg.out], hs.b⟩
      · have HX := hide hi
        have Hg := hide (show decide (gd Ms) = true from decide_eq_true (HG.out.1 ⟨by omega, by omega, fun r hr => by
          obtain ⟨j, hj, rfl⟩ := List.getElem_of_mem hr
          exact HJ.out j hj (by omega)⟩))
        refine wp_seq_k ?_
        intro K6 hK6
        refine rg [0] ?_
        refine sq ?_
        refine .r0 ?_
        apply wpSq_end
        refine hK6 _ _ ?_
        refine wp_seq_k ?_
        intro K7 hK7
        refine cf ?_
        refine wp_exit ?_
        refine hK4 _ _ ?_
        refine wp_seq_k ?_
        intro K8 hK8
        refine rg [0] ?_
        refine sq ?_
        refine .mv ?_
        apply wpSq_end
        refine hK8 _ _ ?_
        refine wp_ret ?_
        try dsimp only [Exit.then, Exit.inBlock]
        refine bodyPost_ret (v := (.bool true)) (by simp [results, Try.results41, go_sem]) rfl ?_
        exact ⟨by rw [Hg.out], hs.b⟩
theorem good_yes (hm : MN l w om Ms) (hn : Ms.length = n) (hl : n ≤ 1000000000) (h : gd Ms) :
    Calls Try.prog 41 #[.slice om n cm] w fun e w' => e = .returned (.bool true) ∧ Below w.heap.size w w' := by
  have := good_any (cm := cm) hm hn hl; rw [decide_eq_true h] at this; exact this
theorem good_no (hm : MN l w om Ms) (hn : Ms.length = n) (hl : n ≤ 1000000000) (h : ¬ gd Ms) :
    Calls Try.prog 41 #[.slice om n cm] w fun e w' => e = .returned (.bool false) ∧ Below w.heap.size w w' := by
  have := good_any (cm := cm) hm hn hl; rw [decide_eq_false h] at this; exact this
/-- Two of one size. -/
def os2 (A B : List (List (Int × Int))) : Prop := gd A ∧ gd B ∧ A.length = B.length ∧ wd A = wd B
instance (A B : List (List (Int × Int))) : Decidable (os2 A B) := inferInstanceAs (Decidable (_ ∧ _ ∧ _ ∧ _))
variable {la lb na nb ca cb : Nat} {oa ob : Option Addr} {A B : List (List (Int × Int))}
end
end Go.Proofs.Ytjfjlloibmebeaa


/- gmat's closures that read matrices: sums, multiples, what is turned, copied; the one of ones. -/
namespace Go.Proofs.Ytjfjlloibmebeaa
open Go Go.RowKit Dig
set_option linter.unusedVariables false

def aP (p q : Int × Int) : Int × Int := (p.1 + q.1, p.2 + q.2)
def sP (p q : Int × Int) : Int × Int := (p.1 - q.1, p.2 - q.2)
def mP (p q : Int × Int) : Int × Int := (p.1 * q.1 - p.2 * q.2, p.1 * q.2 + p.2 * q.1)
def cP (p : Int × Int) : Int × Int := (p.1, -p.2)
def rw_ (Ms : List (List (Int × Int))) (i : Nat) : List (Int × Int) := Ms.getD i []
def at1 (ps : List (Int × Int)) (j : Nat) : Int × Int := ps.getD j (0, 0)
def at2 (Ms : List (List (Int × Int))) (i j : Nat) : Int × Int := at1 (rw_ Ms i) j
def mkM (r c : Nat) (F : Nat → Nat → Int × Int) : List (List (Int × Int)) := (List.range r).map fun i => (List.range c).map (F i)
theorem rw_eq {Ms : List (List (Int × Int))} {i : Nat} (hi : i < Ms.length) : rw_ Ms i = Ms[i] := by simp [rw_, List.getD, hi]
theorem at1_eq {ps : List (Int × Int)} {i : Nat} (hi : i < ps.length) : at1 ps i = ps[i] := by simp [at1, List.getD, hi]
theorem SV.op {l : Nat} {w : World} {o : Option Addr} {ps : List (Int × Int)} {j : Nat} (h : SN l w o ps) (hj : j < ps.length) :
    ∃ g off cur ty fz n1 o1 k1 c1 n2 o2 k2 c2, o = some ⟨g, off, none⟩ ∧ Bs w g cur ty fz ∧ cur[off + j * 4]? = some (.bool n1) ∧ cur[off + j * 4 + 1]? = some (.slice o1 k1 c1) ∧ cur[off + j * 4 + 2]? = some (.bool n2) ∧ cur[off + j * 4 + 3]? = some (.slice o2 k2 c2) ∧
      ZN w (.agg #[.bool n1, .slice o1 k1 c1]) (at1 ps j).1 l ∧ ZN w (.agg #[.bool n2, .slice o2 k2 c2]) (at1 ps j).2 l := by
  obtain ⟨g, off, cur, ty, fz, rfl, x, hr⟩ := h.box (by omega)
  obtain ⟨n1, o1, k1, c1, n2, o2, k2, c2, e1, e2, e3, e4, h1, h2⟩ := hr j hj
  rw [← at1_eq hj] at h1 h2
  exact ⟨g, off, cur, ty, fz, n1, o1, k1, c1, n2, o2, k2, c2, rfl, x, e1, e2, e3, e4, h1, h2⟩
theorem MV.row {l : Nat} {w : World} {om : Option Addr} {Ms : List (List (Int × Int))} {i : Nat} (h : MN l w om Ms) (hi : i < Ms.length) :
    ∃ g off cur ty fz oi ci, om = some ⟨g, off, none⟩ ∧ Bs w g cur ty fz ∧ cur[off + i]? = some (.slice oi (rw_ Ms i).length ci) ∧ SN l w oi (rw_ Ms i) := by
  obtain ⟨g, off, cur, ty, fz, rfl, x, hr⟩ := h.box (by omega)
  obtain ⟨o, c, e, hs⟩ := hr i hi
  rw [← rw_eq hi] at e hs
  exact ⟨g, off, cur, ty, fz, o, c, rfl, x, e, hs⟩
theorem MV.op {l : Nat} {w : World} {om : Option Addr} {Ms : List (List (Int × Int))} {i j : Nat} (h : MN l w om Ms) (hi : i < Ms.length) (hj : j < (rw_ Ms i).length) :
    ∃ g off cur ty fz g2 off2 cur2 ty2 fz2 ci n1 o1 k1 c1 n2 o2 k2 c2, om = some ⟨g, off, none⟩ ∧ Bs w g cur ty fz ∧ cur[off + i]? = some (.slice (some ⟨g2, off2, none⟩) (rw_ Ms i).length ci) ∧ Bs w g2 cur2 ty2 fz2 ∧
      cur2[off2 + j * 4]? = some (.bool n1) ∧ cur2[off2 + j * 4 + 1]? = some (.slice o1 k1 c1) ∧ cur2[off2 + j * 4 + 2]? = some (.bool n2) ∧ cur2[off2 + j * 4 + 3]? = some (.slice o2 k2 c2) ∧
      ZN w (.agg #[.bool n1, .slice o1 k1 c1]) (at2 Ms i j).1 l ∧ ZN w (.agg #[.bool n2, .slice o2 k2 c2]) (at2 Ms i j).2 l := by
  obtain ⟨g, off, cur, ty, fz, oi, ci, rfl, x, e, hs⟩ := h.row hi
  obtain ⟨g2, off2, cur2, ty2, fz2, n1, o1, k1, c1, n2, o2, k2, c2, rfl, x2, r⟩ := hs.op hj
  exact ⟨g, off, cur, ty, fz, g2, off2, cur2, ty2, fz2, ci, n1, o1, k1, c1, n2, o2, k2, c2, rfl, x, e, x2, r⟩
section
variable {w : World} {l la lb i j n na nb cm ca cb pa pb pm pf : Nat} {om oa ob : Option Addr} {Ms A B : List (List (Int × Int))}
end
end Go.Proofs.Ytjfjlloibmebeaa


/- gint: RoundDiv, Exact. -/
namespace Go.Proofs.Ytjfjlloibmebeaa
open Go Go.RowKit Dig
set_option linter.unusedVariables false

theorem gN_zero {u v : Int} : gN u v = 0 ↔ u = 0 ∧ v = 0 := by
  unfold gN
  have h1 := mul_self_nonneg' u
  have h2 := mul_self_nonneg' v
  constructor
  · intro h
    have e1 : u * u = 0 := by omega
    have e2 : v * v = 0 := by omega
    exact ⟨(Int.mul_eq_zero.1 e1).elim id id, (Int.mul_eq_zero.1 e2).elim id id⟩
  · rintro ⟨rfl, rfl⟩; rfl
section
variable {w : World} {va vb : Value} {x y u v : Int} {l m k n : Nat}
end
end Go.Proofs.Ytjfjlloibmebeaa

