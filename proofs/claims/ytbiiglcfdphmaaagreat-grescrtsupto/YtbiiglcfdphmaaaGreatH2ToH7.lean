/- gres.residue and one; the reference's Reduce; a modulus of 0. -/
import Derived.Test.YtbiiglcfdphmaaaGreatG8ToPx
import Derived.Test.YtbiiglcfdphmaaaGreatG14ToH2a
import Derived.Defers
import Derived.Recover
import Derived.WalkLawsBesides

namespace Go.Proofs.YtbiiglcfdphmaaaGreat
open Go Go.RowKit Dig
set_option maxHeartbeats 4000000
set_option maxRecDepth 20000
set_option linter.unusedVariables false
theorem res_len {x y u v : Int} {L : Nat} (h0 : gN u v ≠ 0) (h3 : (dig u.natAbs).length ≤ L) (h4 : (dig v.natAbs).length ≤ L) : (dig (gR1 x y u v).natAbs).length ≤ L + 1 ∧ (dig (gR2 x y u v).natAbs).length ≤ L + 1 := by
  refine len_norm (a1 := u) (a2 := v) (b1 := u) (b2 := v) ?_ h3 h4 h3 h4
  have := gR_half (x := x) (y := y) h0
  have := gN_nonneg (gR1 x y u v) (gR2 x y u v)
  have := gN_nonneg u v
  omega
theorem res_len1 {x y u v : Int} {L : Nat} (h0 : gN u v ≠ 0) (h3 : (dig u.natAbs).length ≤ L) (h4 : (dig v.natAbs).length ≤ L) : (dig (gR1 x y u v).natAbs).length ≤ L + 1 := (res_len h0 h3 h4).1
theorem res_len2 {x y u v : Int} {L : Nat} (h0 : gN u v ≠ 0) (h3 : (dig u.natAbs).length ≤ L) (h4 : (dig v.natAbs).length ≤ L) : (dig (gR2 x y u v).natAbs).length ≤ L + 1 := (res_len h0 h3 h4).2
section
variable {w : World} {va vb : Value} {x y u v : Int} {l m k n : Nat}
theorem rgRoundB (ha : PN w va x l y m) (hq : PN w vb u k v n) (hl : l ≤ 9000000) (hm : m ≤ 9000000) (hk : k ≤ 4500000) (hn : n ≤ 4500000) (h0 : gN u v ≠ 0) :
    Calls Tryz.prog 78 #[va, vb] w fun e w' => ∃ r s, e = .returned (.tuple #[r, s]) ∧ PC w' r (gQ1 x y u v) (gQ2 x y u v) ∧ PC w' s (gR1 x y u v) (gR2 x y u v) ∧ Below w.heap.size w w' := by
  have H0 := hide h0
  clear h0
  unfold gR1 gR2 gQ1 gQ2 gT1 gT2
  obtain ⟨n_0a, o_0a, k_0a, c_0a, n_0b, o_0b, k_0b, c_0b, rfl, ha1, ha2⟩ := ha
  obtain ⟨n_1a, o_1a, k_1a, c_1a, n_1b, o_1b, k_1b, c_1b, rfl, hq1, hq2⟩ := hq
  go_enter Tryz.func78, Tryz.ntmps78
  have hs := St.nil w
  refine wp_seq_k ?_
  intro K1 hK1
  refine rg [0, 1, 2, 3] ?_
  refine sq ?_
  refine .al hs ?_; clear hs; intro p_b1 w_1 hs n1 kb_b1
  refine sq ?_
  refine .al hs ?_; clear hs; intro p_b2 w_2 hs n2 kb_b2
  refine sq ?_
  refine .al hs ?_; clear hs; intro p_b3 w_3 hs n3 kb_b3
  refine sq ?_
  refine .al hs ?_; clear hs; intro p_b4 w_4 hs n4 kb_b4
  apply wpSq_end
  refine hK1 _ _ ?_
  refine wp_seq_k ?_
  intro K2 hK2
  refine rg [0, 1, 2, 3] ?_
  refine sq ?_
  refine .r4 hs.g2.f4 ?_
  refine sq ?_
  intro K hK
  have k0_4 := (((kb n1).b n2).b n3).b n4
  replace hq1 := hq1.k k0_4
  replace hq2 := hq2.k k0_4
  go_big_op
  go_fit (rgNorm_any (PN.mk' hq1 hq2) (by omega) (by omega) )
  rintro e w_5 ⟨v_g2, rfl, g2, hb_5⟩
  replace hs := hs.bl hb_5
  obtain ⟨n_g2, o_g2, k_g2, c_g2, rfl⟩ := g2.open2
  have Lg2 := hide (g2.lenOf (zlen_add (zlen_mul (hq1.len) (hq1.len)) (zlen_mul (hq2.len) (hq2.len))))
  refine hK _ _ rfl trivial ?_
  clear hK K
  refine sq ?_
  refine .al hs ?_; clear hs; intro p_b5 w_6 hs n6 kb_b5
  refine sq ?_
  refine .s2 hs.g0 (fun _ => hs.u0 kb_b5) ?_; clear hs; intro w_7 hs hd7 ho7
  apply wpSq_end
  refine hK2 _ _ ?_
  refine wp_seq_k ?_
  intro K3 hK3
  refine wp_region_f4 [(0, false), (1, false), (2, true), (3, true)] [5] [4] (fun j => (.cells #[.bool false, .slice none 0 0, .bool false, .slice none 0 0] 26)) [0, 1, 99, 99, 99, 99] [] (.c hs.g4 (.c hs.g3 .n)) (fm fn) fun w_8 n8 => ?_
  replace hs := hs.bl n8
  have hlB := hs.lt; have hkB := hs.k
  refine f4 ?_
  refine f4 ?_
  refine fl fun w_9 n9 => ?_
  replace hs := hs.bl n9
  intro K hK
  have k4_9 := ((((kb hb_5).b n6).o hd7 ho7).b n8).b n9
  replace hq1 := hq1.k k4_9
  replace hq2 := hq2.k k4_9
  go_big_op
  go_fit (rgConj_any (PN.mk' hq1 hq2) (by omega) (by omega) )
  rintro e w_10 ⟨_, rfl, ⟨n_g1a, o_g1a, k_g1a, c_g1a, n_g1b, o_g1b, k_g1b, c_g1b, rfl, g11, g12⟩, hb_10⟩
  replace hs := hs.bl hb_10
  have Lg11 := hide (g11.lenOf ((hq1.len)))
  have Lg12 := hide (g12.lenOf (zlen_neg (hq2.len)))
  refine hK _ _ rfl ⟨hb_10, (And.intro hs.g4 (And.intro hs.g3 trivial))⟩ ?_
  clear hK K
  refine fl fun w_11 n11 => ?_
  replace hs := hs.bl n11
  intro K hK
  have k0_11 := ((((((k0_4.b hb_5).b n6).o hd7 ho7).b n8).b n9).b hb_10).b n11
  replace ha1 := ha1.k k0_11
  replace ha2 := ha2.k k0_11
  have k10_11 := kb n11
  replace g11 := g11.k k10_11
  replace g12 := g12.k k10_11
  go_big_op
  go_fit (rgMul_any (PN.mk' ha1 ha2) (PN.mk' (g11.zn Lg11.out) (g12.zn Lg12.out)) (by omega) (by omega) (by omega) (by omega) )
  rintro e w_12 ⟨_, rfl, ⟨n_g0a, o_g0a, k_g0a, c_g0a, n_g0b, o_g0b, k_g0b, c_g0b, rfl, g01, g02⟩, hb_12⟩
  replace hs := hs.bl hb_12
  have Lg01 := hide (g01.lenOf (zlen_sub (zlen_mul (ha1.len) (Lg11.out)) (zlen_mul (ha2.len) (Lg12.out))))
  have Lg02 := hide (g02.lenOf (zlen_add (zlen_mul (ha1.len) (Lg12.out)) (zlen_mul (ha2.len) (Lg11.out))))
  refine hK _ _ rfl ⟨hb_12, (And.intro hs.g4 (And.intro hs.g3 trivial))⟩ ?_
  clear hK K
  refine e1 hs hlB hkB ?_; clear hs hlB hkB; intro w_13 p_b6 hs n13 kb_b6
  refine tl ?_
  refine .s4 hs.g0 (fun _ => hs.u0 kb_b6) ?_ (e := fun _ hs => (And.intro hs.g5 (And.intro hs.g4 True.intro))); clear hs; intro w_14 hs hd14 ho14
  apply wpTail_end
  refine hK3 _ _ ?_
  refine wp_seq_k ?_
  intro K4 hK4
  refine rg [0, 1, 2, 3, 4, 5, 6, 7, 8, 9, 10] ?_
  refine sq ?_
  refine .r0 ?_
  refine sq ?_
  refine .r4 hs.g0.f4 ?_
  refine sq ?_
  refine .r2 hs.g1.f2 ?_
  refine sq ?_
  intro K hK
  have k12_14 := (kb n13).o hd14 ho14
  replace g01 := g01.k k12_14
  have k5_14 := ((((((((kb n6).o hd7 ho7).b n8).b n9).b hb_10).b n11).b hb_12).b n13).o hd14 ho14
  replace g2 := g2.k k5_14
  go_big_op
  go_fit (rround_big (g01.zn Lg01.out) (g2.zn Lg2.out) (by omega) (by omega) H0.out)
  rintro e w_15 ⟨v_g3, v_g4, rfl, g3, g4, hb_15⟩
  replace hs := hs.bl hb_15
  obtain ⟨n_g3, o_g3, k_g3, c_g3, rfl⟩ := g3.open2
  obtain ⟨n_g4, o_g4, k_g4, c_g4, rfl⟩ := g4.open2
  have Lg3 := hide (g3.lenOf (rnd_len (H0.out) (Lg01.out)))
  refine hK _ _ rfl trivial ?_
  clear hK K
  refine sq ?_
  refine .mv ?_
  refine sq ?_
  refine .r0 ?_
  refine sq ?_
  refine .r0 ?_
  refine sq ?_
  refine .al hs ?_; clear hs; intro p_b7 w_16 hs n16 kb_b7
  refine sq ?_
  refine .al hs ?_; clear hs; intro p_b8 w_17 hs n17 kb_b8
  refine sq ?_
  refine .s2 hs.g1 (fun _ => hs.u1 kb_b7) ?_; clear hs; intro w_18 hs hd18 ho18
  refine sq ?_
  refine .s2 hs.g0 (fun _ => hs.u0 kb_b8) ?_; clear hs; intro w_19 hs hd19 ho19
  apply wpSq_end
  refine hK4 _ _ ?_
  refine wp_seq_k ?_
  intro K5 hK5
  refine rg [0, 1, 2, 3, 4, 5, 6, 7, 8, 9, 10] ?_
  refine sq ?_
  refine .r0 ?_
  refine sq ?_
  refine .r4 hs.g2.f4 ?_
  refine sq ?_
  refine .r2 hs.g3.f2 ?_
  refine sq ?_
  intro K hK
  have k12_19 := ((((k12_14.b hb_15).b n16).b n17).o hd18 ho18).o hd19 ho19
  replace g02 := g02.k k12_19
  have k14_19 := ((((kb hb_15).b n16).b n17).o hd18 ho18).o hd19 ho19
  replace g2 := g2.k k14_19
  go_big_op
  go_fit (rround_big (g02.zn Lg02.out) (g2.zn Lg2.out) (by omega) (by omega) H0.out)
  rintro e w_20 ⟨v_g5, v_g6, rfl, g5, g6, hb_20⟩
  replace hs := hs.bl hb_20
  obtain ⟨n_g5, o_g5, k_g5, c_g5, rfl⟩ := g5.open2
  obtain ⟨n_g6, o_g6, k_g6, c_g6, rfl⟩ := g6.open2
  have Lg5 := hide (g5.lenOf (rnd_len (H0.out) (Lg02.out)))
  refine hK _ _ rfl trivial ?_
  clear hK K
  refine sq ?_
  refine .mv ?_
  refine sq ?_
  refine .r0 ?_
  refine sq ?_
  refine .r0 ?_
  refine sq ?_
  refine .al hs ?_; clear hs; intro p_b9 w_21 hs n21 kb_b9
  clear g11 g12 g01 g4 g2 g02
  refine sq ?_
  refine .al hs ?_; clear hs; intro p_b10 w_22 hs n22 kb_b10
  refine sq ?_
  refine .s2 hs.g1 (fun _ => hs.u1 kb_b9) ?_; clear hs; intro w_23 hs hd23 ho23
  refine sq ?_
  refine .s2 hs.g0 (fun _ => hs.u0 kb_b10) ?_; clear hs; intro w_24 hs hd24 ho24
  apply wpSq_end
  refine hK5 _ _ ?_
  refine wp_seq_k ?_
  intro K6 hK6
  refine rg [0, 1, 2, 3, 4] ?_
  refine sq ?_
  refine .r2 hs.g3.f2 ?_
  refine sq ?_
  refine .r2 hs.g1.f2 ?_
  refine sq ?_
  refine .r0 ?_
  refine sq ?_
  refine .al hs ?_; clear hs; intro p_b11 w_25 hs n25 kb_b11
  refine sq ?_
  refine .s4 hs.g0 (fun _ => hs.u0 kb_b11) ?_; clear hs; intro w_26 hs hd26 ho26
  apply wpSq_end
  refine hK6 _ _ ?_
  refine wp_seq_k ?_
  intro K7 hK7
  refine wp_region_f4 [(0, false), (1, false), (2, false), (3, false), (4, true), (5, true)] [6, 7] [] (fun _ => default) [0, 1, 0, 2, 99, 99, 99, 99] [] (.c hs.g0 (.c hs.g10 (.c hs.g9 .n))) fn fun w_27 n27 => ?_
  replace hs := hs.bl n27
  refine f4 ?_
  refine f4 ?_
  refine f4 ?_
  refine f4 ?_
  refine fl fun w_28 n28 => ?_
  replace hs := hs.bl n28
  intro K hK
  have k15_28 := ((((((((((((kb n16).b n17).o hd18 ho18).o hd19 ho19).b hb_20).b n21).b n22).o hd23 ho23).o hd24 ho24).b n25).o hd26 ho26).b n27).b n28
  replace g3 := g3.k k15_28
  have k20_28 := (((((((kb n21).b n22).o hd23 ho23).o hd24 ho24).b n25).o hd26 ho26).b n27).b n28
  replace g5 := g5.k k20_28
  have k9_28 := ((((((((((((((((((kb hb_10).b n11).b hb_12).b n13).o hd14 ho14).b hb_15).b n16).b n17).o hd18 ho18).o hd19 ho19).b hb_20).b n21).b n22).o hd23 ho23).o hd24 ho24).b n25).o hd26 ho26).b n27).b n28
  replace hq1 := hq1.k k9_28
  replace hq2 := hq2.k k9_28
  go_big_op
  go_fit (rgMul_any (PN.mk' (g3.zn Lg3.out) (g5.zn Lg5.out)) (PN.mk' hq1 hq2) (by omega) (by omega) (by omega) (by omega) )
  rintro e w_29 ⟨_, rfl, ⟨n_g7a, o_g7a, k_g7a, c_g7a, n_g7b, o_g7b, k_g7b, c_g7b, rfl, g71, g72⟩, hb_29⟩
  replace hs := hs.bl hb_29
  have Lg71 := hide (g71.lenOf (zlen_sub (zlen_mul (Lg3.out) (hq1.len)) (zlen_mul (Lg5.out) (hq2.len))))
  have Lg72 := hide (g72.lenOf (zlen_add (zlen_mul (Lg3.out) (hq2.len)) (zlen_mul (Lg5.out) (hq1.len))))
  refine hK _ _ rfl ⟨hb_29, (And.intro hs.g0 (And.intro hs.g10 (And.intro hs.g9 trivial)))⟩ ?_
  clear hK K
  refine fl fun w_30 n30 => ?_
  replace hs := hs.bl n30
  intro K hK
  have k11_30 := ((((((((((((((((((kb hb_12).b n13).o hd14 ho14).b hb_15).b n16).b n17).o hd18 ho18).o hd19 ho19).b hb_20).b n21).b n22).o hd23 ho23).o hd24 ho24).b n25).o hd26 ho26).b n27).b n28).b hb_29).b n30
  replace ha1 := ha1.k k11_30
  replace ha2 := ha2.k k11_30
  have k29_30 := kb n30
  replace g71 := g71.k k29_30
  replace g72 := g72.k k29_30
  go_big_op
  go_fit (rgSub_any (PN.mk' ha1 ha2) (PN.mk' (g71.zn Lg71.out) (g72.zn Lg72.out)) (by omega) (by omega) (by omega) (by omega) )
  rintro e w_31 ⟨_, rfl, ⟨n_g8a, o_g8a, k_g8a, c_g8a, n_g8b, o_g8b, k_g8b, c_g8b, rfl, g81, g82⟩, hb_31⟩
  replace hs := hs.bl hb_31
  refine hK _ _ rfl ⟨hb_31, (And.intro hs.g0 (And.intro hs.g10 (And.intro hs.g9 trivial)))⟩ ?_
  clear hK K
  refine e0 hs ?_; clear hs; intro w_32 hs n32
  refine tl ?_
  refine .s4 hs.g8 (fun _ => hs.u8 kb_b3) ?_ (e := fun _ hs => (And.intro hs.g0 (And.intro hs.g10 (And.intro hs.g9 True.intro)))); clear hs; intro w_33 hs hd33 ho33
  refine tl ?_
  refine .s4 hs.g7 (fun _ => hs.u7 kb_b4) ?_ (e := fun _ hs => (And.intro hs.g0 (And.intro hs.g10 (And.intro hs.g9 True.intro)))); clear hs; intro w_34 hs hd34 ho34
  apply wpTail_end
  refine hK7 _ _ ?_
  refine wp_ret ?_
  try dsimp only [Exit.then, Exit.inBlock]
  obtain ⟨r0_0, r0_1, r0_2, r0_3⟩ := hs.g8.f4
  obtain ⟨r4_0, r4_1, r4_2, r4_3⟩ := hs.g7.f4
  refine bodyPost_ret (v := (.tuple #[(.agg #[.bool n_g3, .slice o_g3 k_g3 c_g3, .bool n_g5, .slice o_g5 k_g5 c_g5]), (.agg #[.bool n_g8a, .slice o_g8a k_g8a c_g8a, .bool n_g8b, .slice o_g8b k_g8b c_g8b])])) (by simp [results, Tryz.results78, go_sem, r0_0, r0_1, r0_2, r0_3, r4_0, r4_1, r4_2, r4_3]) rfl ?_
  have k28_34 := (((((kb hb_29).b n30).b hb_31).b n32).o hd33 ho33).o hd34 ho34
  replace g3 := g3.k k28_34
  replace g5 := g5.k k28_34
  have k31_34 := ((kb n32).o hd33 ho33).o hd34 ho34
  replace g81 := g81.k k31_34
  replace g82 := g82.k k31_34
  exact ⟨_, _, rfl, .mk' g3 g5, .mk' g81 g82, hs.b⟩
theorem gRoundB (ha : PN w va x l y m) (hq : PN w vb u k v n) (hl : l ≤ 9000000) (hm : m ≤ 9000000) (hk : k ≤ 4500000) (hn : n ≤ 4500000) (h0 : gN u v ≠ 0) :
    Calls Tryz.prog 130 #[va, vb] w fun e w' => ∃ r s, e = .returned (.tuple #[r, s, .int .i64 0]) ∧ PC w' r (gQ1 x y u v) (gQ2 x y u v) ∧ PC w' s (gR1 x y u v) (gR2 x y u v) ∧ Below w.heap.size w w' := by
  have H0 := hide h0
  clear h0
  unfold gR1 gR2 gQ1 gQ2
  obtain ⟨n_0a, o_0a, k_0a, c_0a, n_0b, o_0b, k_0b, c_0b, rfl, ha1, ha2⟩ := ha
  obtain ⟨n_1a, o_1a, k_1a, c_1a, n_1b, o_1b, k_1b, c_1b, rfl, hq1, hq2⟩ := hq
  go_enter Tryz.func130, Tryz.ntmps130
  have hs := St.nil w
  refine wp_seq_k ?_
  intro K1 hK1
  refine rg [0, 1, 2, 3, 4] ?_
  refine sq ?_
  refine .al hs ?_; clear hs; intro p_b1 w_1 hs n1 kb_b1
  refine sq ?_
  refine .al hs ?_; clear hs; intro p_b2 w_2 hs n2 kb_b2
  refine sq ?_
  refine .al hs ?_; clear hs; intro p_b3 w_3 hs n3 kb_b3
  refine sq ?_
  refine .al hs ?_; clear hs; intro p_b4 w_4 hs n4 kb_b4
  refine sq ?_
  refine .mv ?_
  apply wpSq_end
  refine hK1 _ _ ?_
  refine wp_seq_k ?_
  intro K2 hK2
  refine rg [0, 1, 2, 3, 4, 5, 6, 7, 8, 9] ?_
  refine sq ?_
  refine .r4 hs.g3.f4 ?_
  refine sq ?_
  refine .r4 hs.g2.f4 ?_
  refine sq ?_
  intro K hK
  have k0_4 := (((kb n1).b n2).b n3).b n4
  replace ha1 := ha1.k k0_4
  replace ha2 := ha2.k k0_4
  replace hq1 := hq1.k k0_4
  replace hq2 := hq2.k k0_4
  go_big_op
  go_fit (overNorm_any (PN.mk' ha1 ha2) (PN.mk' hq1 hq2) (by omega) (by omega) (by omega) (by omega) )
  rintro e w_5 ⟨_, v_g2, rfl, ⟨n_g1a, o_g1a, k_g1a, c_g1a, n_g1b, o_g1b, k_g1b, c_g1b, rfl, g11, g12⟩, g2, hb_5⟩
  replace hs := hs.bl hb_5
  obtain ⟨n_g2, o_g2, k_g2, c_g2, rfl⟩ := g2.open2
  have Lg11 := hide (g11.lenOf (zlen_gT1 (ha1.len) (ha2.len) (hq1.len) (hq2.len)))
  have Lg12 := hide (g12.lenOf (zlen_gT2 (ha1.len) (ha2.len) (hq1.len) (hq2.len)))
  have Lg2 := hide (g2.lenOf (zlen_gN (hq1.len) (hq2.len)))
  refine hK _ _ rfl trivial ?_
  clear hK K
  refine sq ?_
  refine .mv ?_
  refine sq ?_
  refine .r0 ?_
  refine sq ?_
  refine .r0 ?_
  refine sq ?_
  refine .al hs ?_; clear hs; intro p_b5 w_6 hs n6 kb_b5
  refine sq ?_
  refine .al hs ?_; clear hs; intro p_b6 w_7 hs n7 kb_b6
  refine sq ?_
  refine .s4 hs.g1 (fun _ => hs.u1 kb_b5) ?_; clear hs; intro w_8 hs hd8 ho8
  refine sq ?_
  refine .s2 hs.g0 (fun _ => hs.u0 kb_b6) ?_; clear hs; intro w_9 hs hd9 ho9
  apply wpSq_end
  refine hK2 _ _ ?_
  refine wp_seq_k ?_
  intro K3 hK3
  refine rg [0, 1, 2, 3, 4, 5, 6, 7, 8, 9, 10, 11, 12] ?_
  refine sq ?_
  refine .r0 ?_
  refine sq ?_
  refine .r4 hs.g1.f4 ?_
  refine sq ?_
  refine .r2 hs.g0.f2 ?_
  refine sq ?_
  intro K hK
  have k5_9 := (((kb n6).b n7).o hd8 ho8).o hd9 ho9
  replace g11 := g11.k k5_9
  replace g2 := g2.k k5_9
  go_big_op
  go_fit (rdiv_any (g11.zn Lg11.out) (g2.zn Lg2.out) (by omega) (by omega) H0.out)
  rintro e w_10 ⟨v_g3, v_g4, rfl, g3, g4, hb_10⟩
  replace hs := hs.bl hb_10
  replace g3 := g3.rd
  obtain ⟨n_g3, o_g3, k_g3, c_g3, rfl⟩ := g3.open2
  replace g4 := g4.rd
  obtain ⟨n_g4, o_g4, k_g4, c_g4, rfl⟩ := g4.open2
  have Lg3 := hide (g3.lenOf (rnd_len (H0.out) (Lg11.out)))
  refine hK _ _ rfl trivial ?_
  clear hK K
  refine sq ?_
  refine .mv ?_
  refine sq ?_
  refine .r0 ?_
  refine sq ?_
  refine .r0 ?_
  refine sq ?_
  refine .r0 ?_
  refine sq ?_
  refine .al hs ?_; clear hs; intro p_b7 w_11 hs n11 kb_b7
  refine sq ?_
  refine .al hs ?_; clear hs; intro p_b8 w_12 hs n12 kb_b8
  refine sq ?_
  refine .s2 hs.g1 (fun _ => hs.u1 kb_b7) ?_; clear hs; intro w_13 hs hd13 ho13
  refine sq ?_
  refine .s2 hs.g0 (fun _ => hs.u0 kb_b8) ?_; clear hs; intro w_14 hs hd14 ho14
  refine sq ?_
  refine .mv ?_
  apply wpSq_end
  refine hK3 _ _ ?_
  refine wp_seq_k ?_
  intro K4 hK4
  refine wp_seq_k ?_
  intro K5 hK5
  refine rg [0, 1] ?_
  refine sq ?_
  refine .mv ?_
  refine sq ?_
  refine .r0 ?_
  apply wpSq_end
  refine hK5 _ _ ?_
  refine cf ?_
  refine wp_skip ?_
  refine hK4 _ _ ?_
  refine wp_seq_k ?_
  intro K6 hK6
  refine rg [0, 1, 2, 3, 4, 5, 6, 7, 8, 9, 10, 11, 12] ?_
  refine sq ?_
  refine .r0 ?_
  refine sq ?_
  refine .r4 hs.g3.f4 ?_
  refine sq ?_
  refine .r2 hs.g2.f2 ?_
  refine sq ?_
  intro K hK
  have k5_14 := ((((k5_9.b hb_10).b n11).b n12).o hd13 ho13).o hd14 ho14
  replace g12 := g12.k k5_14
  have k9_14 := ((((kb hb_10).b n11).b n12).o hd13 ho13).o hd14 ho14
  replace g2 := g2.k k9_14
  go_big_op
  go_fit (rdiv_any (g12.zn Lg12.out) (g2.zn Lg2.out) (by omega) (by omega) H0.out)
  rintro e w_15 ⟨v_g5, v_g6, rfl, g5, g6, hb_15⟩
  replace hs := hs.bl hb_15
  replace g5 := g5.rd
  obtain ⟨n_g5, o_g5, k_g5, c_g5, rfl⟩ := g5.open2
  replace g6 := g6.rd
  obtain ⟨n_g6, o_g6, k_g6, c_g6, rfl⟩ := g6.open2
  have Lg5 := hide (g5.lenOf (rnd_len (H0.out) (Lg12.out)))
  refine hK _ _ rfl trivial ?_
  clear hK K
  refine sq ?_
  refine .mv ?_
  refine sq ?_
  refine .r0 ?_
  refine sq ?_
  refine .r0 ?_
  refine sq ?_
  refine .r0 ?_
  refine sq ?_
  refine .al hs ?_; clear hs; intro p_b9 w_16 hs n16 kb_b9
  refine sq ?_
  refine .al hs ?_; clear hs; intro p_b10 w_17 hs n17 kb_b10
  refine sq ?_
  refine .s2 hs.g1 (fun _ => hs.u1 kb_b9) ?_; clear hs; intro w_18 hs hd18 ho18
  refine sq ?_
  refine .s2 hs.g0 (fun _ => hs.u0 kb_b10) ?_; clear hs; intro w_19 hs hd19 ho19
  refine sq ?_
  refine .mv ?_
  apply wpSq_end
  refine hK6 _ _ ?_
  refine wp_seq_k ?_
  intro K7 hK7
  refine rg [0, 1, 2, 3] ?_
  refine sq ?_
  refine .r2 hs.g3.f2 ?_
  refine sq ?_
  refine .r2 hs.g1.f2 ?_
  refine sq ?_
  refine .r0 ?_
  refine sq ?_
  refine .s4 hs.g7 (fun _ => hs.u7 kb_b3) ?_; clear hs; intro w_20 hs hd20 ho20
  apply wpSq_end
  refine hK7 _ _ ?_
  refine wp_seq_k ?_
  intro K8 hK8
  refine wp_region_f4 [(0, false), (1, false), (2, false), (3, false), (4, true), (5, true)] [6, 7, 8] [] (fun _ => default) [0, 1, 0, 2, 99, 99, 99, 99, 99] [(6, 0), (7, 0)] (.c hs.g7 (.c hs.g9 (.c hs.g8 .n))) fn fun w_21 n21 => ?_
  replace hs := hs.bl n21
  refine f4 ?_
  refine f4 ?_
  refine f4 ?_
  refine f4 ?_
  refine fl fun w_22 n22 => ?_
  replace hs := hs.bl n22
  intro K hK
  have k10_22 := (((((((((((kb n11).b n12).o hd13 ho13).o hd14 ho14).b hb_15).b n16).b n17).o hd18 ho18).o hd19 ho19).o hd20 ho20).b n21).b n22
  replace g3 := g3.k k10_22
  have k15_22 := ((((((kb n16).b n17).o hd18 ho18).o hd19 ho19).o hd20 ho20).b n21).b n22
  replace g5 := g5.k k15_22
  have k4_22 := (((((((((((((((((kb hb_5).b n6).b n7).o hd8 ho8).o hd9 ho9).b hb_10).b n11).b n12).o hd13 ho13).o hd14 ho14).b hb_15).b n16).b n17).o hd18 ho18).o hd19 ho19).o hd20 ho20).b n21).b n22
  replace hq1 := hq1.k k4_22
  replace hq2 := hq2.k k4_22
  go_big_op
  go_fit (gMul_any (PN.mk' (g3.zn Lg3.out) (g5.zn Lg5.out)) (PN.mk' hq1 hq2) (by omega) (by omega) (by omega) (by omega) )
  rintro e w_23 ⟨_, rfl, ⟨n_g7a, o_g7a, k_g7a, c_g7a, n_g7b, o_g7b, k_g7b, c_g7b, rfl, g71, g72⟩, hb_23⟩
  replace hs := hs.bl hb_23
  have Lg71 := hide (g71.lenOf (zlen_sub (zlen_mul (Lg3.out) (hq1.len)) (zlen_mul (Lg5.out) (hq2.len))))
  have Lg72 := hide (g72.lenOf (zlen_add (zlen_mul (Lg3.out) (hq2.len)) (zlen_mul (Lg5.out) (hq1.len))))
  refine hK _ _ rfl ⟨hb_23, (And.intro hs.g7 (And.intro hs.g9 (And.intro hs.g8 trivial)))⟩ ?_
  clear hK K
  refine fl fun w_24 n24 => ?_
  replace hs := hs.bl n24
  intro K hK
  have k4_24 := (k4_22.b hb_23).b n24
  replace ha1 := ha1.k k4_24
  replace ha2 := ha2.k k4_24
  have k23_24 := kb n24
  replace g71 := g71.k k23_24
  replace g72 := g72.k k23_24
  go_big_op
  go_fit (gSub_any (PN.mk' ha1 ha2) (PN.mk' (g71.zn Lg71.out) (g72.zn Lg72.out)) (by omega) (by omega) (by omega) (by omega) )
  rintro e w_25 ⟨_, rfl, ⟨n_g8a, o_g8a, k_g8a, c_g8a, n_g8b, o_g8b, k_g8b, c_g8b, rfl, g81, g82⟩, hb_25⟩
  replace hs := hs.bl hb_25
  refine hK _ _ rfl ⟨hb_25, (And.intro hs.g7 (And.intro hs.g9 (And.intro hs.g8 trivial)))⟩ ?_
  clear hK K
  refine e0 hs ?_; clear hs; intro w_26 hs n26
  clear g11 g4 g12 g2 g6 g71 g72
  refine tl ?_
  refine .s4 hs.g7 (fun _ => hs.u7 kb_b3) ?_ (e := fun _ hs => (And.intro True.intro (And.intro hs.g9 (And.intro hs.g8 True.intro)))); clear hs; intro w_27 hs hd27 ho27
  refine tl ?_
  refine .s4 hs.g6 (fun _ => hs.u6 kb_b4) ?_ (e := fun _ hs => (And.intro True.intro (And.intro hs.g9 (And.intro hs.g8 True.intro)))); clear hs; intro w_28 hs hd28 ho28
  refine tl ?_
  refine .mv ?_ (e := (And.intro hs.g7 (And.intro hs.g9 (And.intro hs.g8 True.intro))))
  apply wpTail_end
  refine hK8 _ _ ?_
  refine wp_ret ?_
  try dsimp only [Exit.then, Exit.inBlock]
  obtain ⟨r0_0, r0_1, r0_2, r0_3⟩ := hs.g7.f4
  obtain ⟨r4_0, r4_1, r4_2, r4_3⟩ := hs.g6.f4
  refine bodyPost_ret (v := (.tuple #[(.agg #[.bool n_g3, .slice o_g3 k_g3 c_g3, .bool n_g5, .slice o_g5 k_g5 c_g5]), (.agg #[.bool n_g8a, .slice o_g8a k_g8a c_g8a, .bool n_g8b, .slice o_g8b k_g8b c_g8b]), (.int .i64 0)])) (by simp [results, Tryz.results130, go_sem, r0_0, r0_1, r0_2, r0_3, r4_0, r4_1, r4_2, r4_3]) rfl ?_
  have k22_28 := (((((kb hb_23).b n24).b hb_25).b n26).o hd27 ho27).o hd28 ho28
  replace g3 := g3.k k22_28
  replace g5 := g5.k k22_28
  have k25_28 := ((kb n26).o hd27 ho27).o hd28 ho28
  replace g81 := g81.k k25_28
  replace g82 := g82.k k25_28
  exact ⟨_, _, rfl, .mk' g3 g5, .mk' g81 g82, hs.b⟩
theorem rres_any {L : Nat} (ha : PN w va x l y m) (hq : PN w vb u L v L) (hl : l ≤ 9000000) (hm : m ≤ 9000000) (hk : L ≤ 4500000) (h0 : gN u v ≠ 0) :
    Calls Tryz.prog 50 #[va, vb] w fun e w' => ∃ r, e = .returned r ∧ PC w' r (gR1 x y u v) (gR2 x y u v) ∧ Below w.heap.size w w' := by
  have H0 := hide h0
  clear h0
  obtain ⟨n_0a, o_0a, k_0a, c_0a, n_0b, o_0b, k_0b, c_0b, rfl, ha1, ha2⟩ := ha
  obtain ⟨n_1a, o_1a, k_1a, c_1a, n_1b, o_1b, k_1b, c_1b, rfl, hq1, hq2⟩ := hq
  go_enter Tryz.func50, Tryz.ntmps50
  have hs := St.nil w
  refine wp_seq_k ?_
  intro K1 hK1
  refine rg [0, 1, 2] ?_
  refine sq ?_
  refine .al hs ?_; clear hs; intro p_b1 w_1 hs n1 kb_b1
  refine sq ?_
  refine .al hs ?_; clear hs; intro p_b2 w_2 hs n2 kb_b2
  refine sq ?_
  refine .al hs ?_; clear hs; intro p_b3 w_3 hs n3 kb_b3
  apply wpSq_end
  refine hK1 _ _ ?_
  refine wp_seq_k ?_
  intro K2 hK2
  refine rg [0, 1, 2, 3, 4, 5, 6, 7, 8, 9] ?_
  refine sq ?_
  refine .r4 hs.g2.f4 ?_
  refine sq ?_
  refine .r4 hs.g1.f4 ?_
  refine sq ?_
  intro K hK
  have k0_3 := ((kb n1).b n2).b n3
  replace ha1 := ha1.k k0_3
  replace ha2 := ha2.k k0_3
  replace hq1 := hq1.k k0_3
  replace hq2 := hq2.k k0_3
  go_big_op
  go_fit (rgRoundB (PN.mk' ha1 ha2) (PN.mk' hq1 hq2) (by omega) (by omega) (by omega) (by omega) H0.out)
  rintro e w_4 ⟨_, _, rfl, ⟨n_qa, o_qa, k_qa, c_qa, n_qb, o_qb, k_qb, c_qb, rfl, q1, q2⟩, ⟨n_ra, o_ra, k_ra, c_ra, n_rb, o_rb, k_rb, c_rb, rfl, r1, r2⟩, hb_4⟩
  replace hs := hs.bl hb_4
  refine hK _ _ rfl trivial ?_
  clear hK K
  refine sq ?_
  refine .mv ?_
  refine sq ?_
  refine .r0 ?_
  refine sq ?_
  refine .r0 ?_
  refine sq ?_
  refine .al hs ?_; clear hs; intro p_b4 w_5 hs n5 kb_b4
  refine sq ?_
  refine .al hs ?_; clear hs; intro p_b5 w_6 hs n6 kb_b5
  refine sq ?_
  refine .s4 hs.g1 (fun _ => hs.u1 kb_b4) ?_; clear hs; intro w_7 hs hd7 ho7
  refine sq ?_
  refine .s4 hs.g0 (fun _ => hs.u0 kb_b5) ?_; clear hs; intro w_8 hs hd8 ho8
  clear ha1 ha2 hq1 hq2 q1 q2
  apply wpSq_end
  refine hK2 _ _ ?_
  refine wp_seq_k ?_
  intro K3 hK3
  refine rg [0, 1] ?_
  refine sq ?_
  refine .r4 hs.g0.f4 ?_
  refine sq ?_
  refine .s4 hs.g2 (fun _ => hs.u2 kb_b3) ?_; clear hs; intro w_9 hs hd9 ho9
  apply wpSq_end
  refine hK3 _ _ ?_
  refine wp_ret ?_
  try dsimp only [Exit.then, Exit.inBlock]
  obtain ⟨r0_0, r0_1, r0_2, r0_3⟩ := hs.g2.f4
  refine bodyPost_ret (v := (.agg #[.bool n_ra, .slice o_ra k_ra c_ra, .bool n_rb, .slice o_rb k_rb c_rb])) (by simp [results, Tryz.results50, go_sem, r0_0, r0_1, r0_2, r0_3]) rfl ?_
  have k4_9 := ((((kb n5).b n6).o hd7 ho7).o hd8 ho8).o hd9 ho9
  replace r1 := r1.k k4_9
  replace r2 := r2.k k4_9
  exact ⟨_, rfl, .mk' r1 r2, hs.b⟩
theorem res_any {L : Nat} (ha : PN w va x l y m) (hq : PN w vb u L v L) (hl : l ≤ 9000000) (hm : m ≤ 9000000) (hk : L ≤ 4500000) (h0 : gN u v ≠ 0) :
    Calls Tryz.prog 86 #[va, vb] w fun e w' => ∃ r, e = .returned r ∧ PC w' r (gR1 x y u v) (gR2 x y u v) ∧ Below w.heap.size w w' := by
  have H0 := hide h0
  clear h0
  obtain ⟨n_0a, o_0a, k_0a, c_0a, n_0b, o_0b, k_0b, c_0b, rfl, ha1, ha2⟩ := ha
  obtain ⟨n_1a, o_1a, k_1a, c_1a, n_1b, o_1b, k_1b, c_1b, rfl, hq1, hq2⟩ := hq
  go_enter Tryz.func86, Tryz.ntmps86
  have hs := St.nil w
  refine wp_seq_k ?_
  intro K1 hK1
  refine rg [0, 1, 2] ?_
  refine sq ?_
  refine .al hs ?_; clear hs; intro p_b1 w_1 hs n1 kb_b1
  refine sq ?_
  refine .al hs ?_; clear hs; intro p_b2 w_2 hs n2 kb_b2
  refine sq ?_
  refine .al hs ?_; clear hs; intro p_b3 w_3 hs n3 kb_b3
  apply wpSq_end
  refine hK1 _ _ ?_
  refine wp_seq_k ?_
  intro K2 hK2
  refine rg [0, 1, 2, 3, 4, 5, 6, 7, 8, 9, 10, 11] ?_
  refine sq ?_
  refine .r4 hs.g2.f4 ?_
  refine sq ?_
  refine .r4 hs.g1.f4 ?_
  refine sq ?_
  intro K hK
  have k0_3 := ((kb n1).b n2).b n3
  replace ha1 := ha1.k k0_3
  replace ha2 := ha2.k k0_3
  replace hq1 := hq1.k k0_3
  replace hq2 := hq2.k k0_3
  go_big_op
  go_fit (gRoundB (PN.mk' ha1 ha2) (PN.mk' hq1 hq2) (by omega) (by omega) (by omega) (by omega) H0.out)
  rintro e w_4 ⟨_, _, rfl, ⟨n_qa, o_qa, k_qa, c_qa, n_qb, o_qb, k_qb, c_qb, rfl, q1, q2⟩, ⟨n_ra, o_ra, k_ra, c_ra, n_rb, o_rb, k_rb, c_rb, rfl, r1, r2⟩, hb_4⟩
  replace hs := hs.bl hb_4
  refine hK _ _ rfl trivial ?_
  clear hK K
  refine sq ?_
  refine .mv ?_
  refine sq ?_
  refine .r0 ?_
  refine sq ?_
  refine .r0 ?_
  refine sq ?_
  refine .r0 ?_
  refine sq ?_
  refine .al hs ?_; clear hs; intro p_b4 w_5 hs n5 kb_b4
  refine sq ?_
  refine .al hs ?_; clear hs; intro p_b5 w_6 hs n6 kb_b5
  refine sq ?_
  refine .s4 hs.g1 (fun _ => hs.u1 kb_b4) ?_; clear hs; intro w_7 hs hd7 ho7
  refine sq ?_
  refine .s4 hs.g0 (fun _ => hs.u0 kb_b5) ?_; clear hs; intro w_8 hs hd8 ho8
  clear ha1 ha2 hq1 hq2 q1 q2
  refine sq ?_
  refine .mv ?_
  apply wpSq_end
  refine hK2 _ _ ?_
  refine wp_seq_k ?_
  intro K3 hK3
  refine wp_seq_k ?_
  intro K4 hK4
  refine rg [0, 1] ?_
  refine sq ?_
  refine .mv ?_
  refine sq ?_
  refine .r0 ?_
  apply wpSq_end
  refine hK4 _ _ ?_
  refine cf ?_
  refine wp_skip ?_
  refine hK3 _ _ ?_
  refine wp_seq_k ?_
  intro K5 hK5
  refine rg [0, 1] ?_
  refine sq ?_
  refine .r4 hs.g0.f4 ?_
  refine sq ?_
  refine .s4 hs.g2 (fun _ => hs.u2 kb_b3) ?_; clear hs; intro w_9 hs hd9 ho9
  apply wpSq_end
  refine hK5 _ _ ?_
  refine wp_ret ?_
  try dsimp only [Exit.then, Exit.inBlock]
  obtain ⟨r0_0, r0_1, r0_2, r0_3⟩ := hs.g2.f4
  refine bodyPost_ret (v := (.agg #[.bool n_ra, .slice o_ra k_ra c_ra, .bool n_rb, .slice o_rb k_rb c_rb])) (by simp [results, Tryz.results86, go_sem, r0_0, r0_1, r0_2, r0_3]) rfl ?_
  have k4_9 := ((((kb n5).b n6).o hd7 ho7).o hd8 ho8).o hd9 ho9
  replace r1 := r1.k k4_9
  replace r2 := r2.k k4_9
  exact ⟨_, rfl, .mk' r1 r2, hs.b⟩
theorem res_zero (ha : PN w va x l y m) (hq : PN w vb 0 k 0 n) (hl : l ≤ 9000000) (hm : m ≤ 9000000) (hk : k ≤ 4500000) (hn : n ≤ 4500000) :
    Calls Tryz.prog 86 #[va, vb] w fun e w' => e = .panicked [{ v := .iface 28 (.int .i64 5), recovered := false }] ∧ Below w.heap.size w w' := by
  obtain ⟨n_0a, o_0a, k_0a, c_0a, n_0b, o_0b, k_0b, c_0b, rfl, ha1, ha2⟩ := ha
  obtain ⟨n_1a, o_1a, k_1a, c_1a, n_1b, o_1b, k_1b, c_1b, rfl, hq1, hq2⟩ := hq
  go_enter Tryz.func86, Tryz.ntmps86
  have hs := St.nil w
  obtain ⟨IX, hIX⟩ : ∃ I : Pn.PX, ∀ ch w', I.X ch w' ↔ (ch = [{ v := .iface 28 (.int .i64 5), recovered := false }] ∧ Below w.heap.size w w') := ⟨⟨_⟩, fun _ _ => Iff.rfl⟩
  refine wp_seq_k ?_
  intro K1 hK1
  refine Pn.rg [0, 1, 2] (fun ch a' w' hd hx => And.intro hd (And.intro (congrArg Ending.panicked ((hIX ch w').1 hx).1) ((hIX ch w').1 hx).2)) ?_
  refine Pn.sq ?_
  refine .al hs ?_; clear hs; intro p_b1 w_1 hs n1 kb_b1
  refine Pn.sq ?_
  refine .al hs ?_; clear hs; intro p_b2 w_2 hs n2 kb_b2
  refine Pn.sq ?_
  refine .al hs ?_; clear hs; intro p_b3 w_3 hs n3 kb_b3
  apply Pn.wpSq_end
  refine hK1 _ _ ?_
  refine wp_seq_k ?_
  intro K2 hK2
  refine Pn.rg [0, 1, 2, 3, 4, 5, 6, 7, 8, 9, 10, 11] (fun ch a' w' hd hx => And.intro hd (And.intro (congrArg Ending.panicked ((hIX ch w').1 hx).1) ((hIX ch w').1 hx).2)) ?_
  refine Pn.sq ?_
  refine .r4 hs.g2.f4 ?_
  refine Pn.sq ?_
  refine .r4 hs.g1.f4 ?_
  refine Pn.sq ?_
  intro K hK
  have k0_3 := ((kb n1).b n2).b n3
  replace ha1 := ha1.k k0_3
  replace ha2 := ha2.k k0_3
  replace hq1 := hq1.k k0_3
  replace hq2 := hq2.k k0_3
  go_big_op
  go_fit (gRound_zero (PN.mk' ha1 ha2) (PN.mk' hq1 hq2) (by omega) (by omega) (by omega) (by omega) )
  rintro e w_4 ⟨rfl, hb_4⟩
  replace hs := hs.bl hb_4
  refine hK _ _ rfl trivial ?_
  clear hK K
  refine Pn.sq ?_
  refine .mv ?_
  refine Pn.sq ?_
  refine .r0 ?_
  refine Pn.sq ?_
  refine .r0 ?_
  refine Pn.sq ?_
  refine .r0 ?_
  refine Pn.sq ?_
  refine .al hs ?_; clear hs; intro p_b4 w_5 hs n5 kb_b4
  refine Pn.sq ?_
  refine .al hs ?_; clear hs; intro p_b5 w_6 hs n6 kb_b5
  refine Pn.sq ?_
  refine .s4 hs.g1 (fun _ => hs.u1 kb_b4) ?_; clear hs; intro w_7 hs hd7 ho7
  refine Pn.sq ?_
  refine .s4 hs.g0 (fun _ => hs.u0 kb_b5) ?_; clear hs; intro w_8 hs hd8 ho8
  refine Pn.sq ?_
  refine .mv ?_
  apply Pn.wpSq_end
  refine hK2 _ _ ?_
  refine wp_seq_k ?_
  intro K3 hK3
  refine wp_seq_k ?_
  intro K4 hK4
  refine Pn.rg [0, 1] (fun ch a' w' hd hx => And.intro hd (And.intro (congrArg Ending.panicked ((hIX ch w').1 hx).1) ((hIX ch w').1 hx).2)) ?_
  refine Pn.sq ?_
  refine .mv ?_
  refine Pn.sq ?_
  refine .r0 ?_
  apply Pn.wpSq_end
  refine hK4 _ _ ?_
  refine ct ?_
  refine Pn.rg [0, 1, 2] (fun ch a' w' hd hx => And.intro hd (And.intro (congrArg Ending.panicked ((hIX ch w').1 hx).1) ((hIX ch w').1 hx).2)) ?_
  refine Pn.sq ?_
  refine .mv ?_
  refine Pn.sq ?_
  refine .r0 ?_
  refine Pn.sq ?_
  intro K hK
  clear hK
  go_big_op
  exact (hIX _ _).2 ⟨rfl, hs.b⟩
end
end Go.Proofs.YtbiiglcfdphmaaaGreat

/- gres.answer: what a call tells, or the error that is thrown within it. -/
namespace Go.Proofs.YtbiiglcfdphmaaaGreat
open Go Go.RowKit Dig
set_option linter.unusedVariables false
theorem run_assert (t : TypeId) (k : Int) (w : World) : (Instr.typeAssert (.iface 28 (.int .i64 k)) t 28 false).run Tryz.prog w = .ok (.int .i64 k) w := by kernel_rfl
theorem catchG_panicking (p : Nat) (x k : Int) (w : World) (hx : Bs w p #[.int .i64 x] 28) :
    CallsD Tryz.prog 84 #[.pointer (some ⟨p, 0, none⟩)] (.panicking [{ v := .iface 28 (.int .i64 k), recovered := false }]) w fun e u' w' =>
      e = .returned (.tuple #[]) ∧ u' = .panicking [{ v := .iface 28 (.int .i64 k), recovered := true }] ∧ w' = w.setCell ⟨p, 0, none⟩ (.int .i64 k) := by
  have hc := hx.f1
  have hz := hx.free 0
  refine callsD_of_wpS Tryz.func84 rfl fun c₀ cs hu => ?_
  apply wpS_seq
  apply wpS_region
  simp [wpOpsS, go_sem, recoverD, hu, Tryz.ntmps84, Exit.thenS]
  apply wpS_seq
  apply wpS_region
  simp [wpOpsS, go_sem, Exit.thenS]
  refine wpS_cond (t := true) (by simp [Act.eval, Array.replicate]) ?_
  simp only [if_true]
  apply wpS_region
  simp [wpOpsS, go_sem, run_assert, hc, hz, bodyPostS, results, Tryz.results84]
theorem catchG_idle (p : Nat) (w : World) :
    CallsD Tryz.prog 84 #[.pointer (some ⟨p, 0, none⟩)] .returning w fun e u' w' => e = .returned (.tuple #[]) ∧ u' = .returning ∧ w' = w := by
  refine callsD_of_wpS Tryz.func84 rfl fun c₀ cs hu => ?_
  apply wpS_seq
  apply wpS_region
  simp [wpOpsS, go_sem, recoverD, hu, Tryz.ntmps84, Exit.thenS]
  apply wpS_seq
  apply wpS_region
  simp [wpOpsS, go_sem, Exit.thenS]
  refine wpS_cond (t := false) (by simp [Act.eval, Array.replicate]) ?_
  simp only [Bool.false_eq_true, if_false]
  refine wpS_of_wp (wp_skip ?_)
  cases c₀
  simp_all [bodyPostS, results, Tryz.results84]
end Go.Proofs.YtbiiglcfdphmaaaGreat

/- gres.answer: what a call tells, or the error that is thrown within it. -/
namespace Go.Proofs.YtbiiglcfdphmaaaGreat
open Go Go.RowKit Dig
set_option maxHeartbeats 4000000
set_option maxRecDepth 20000
set_option linter.unusedVariables false
theorem ansG_ok {w : World} {f : Nat} {caps : Array Value} {x y : Int} (hf : ∀ w1, Sem.run Tryz.prog (callFunc f caps) w1 = .ok (.enter f caps) w1) (hc : ∀ w1, Below w.heap.size w w1 → Calls Tryz.prog f caps w1 fun e w2 => ∃ r, e = .returned r ∧ PC w2 r x y ∧ Below w1.heap.size w1 w2) :
    Calls Tryz.prog 40 #[.func (.func f) #[] caps] w fun e w' => ∃ r, e = .returned (.tuple #[r, .int .i64 0]) ∧ PC w' r x y ∧ Below w.heap.size w w' := by
  have hmf : ∀ (fn : Fn) (first cap : Array Value) (w : World), (Instr.makeFunc fn first cap).run Tryz.prog w = .ok (.func fn first cap) w := fun _ _ _ _ => rfl
  go_enter_defers Tryz.func40, Tryz.ntmps40
  have hb := Below.refl w.heap.size w
  refine wp_seq_k ?_
  intro K1 hK1
  refine wp_region_sq [0, 1] (by kernel_rfl) ?_
  refine sc fun K hK => ?_
  go_big_op
  obtain ⟨p_b1, w_1, eP, eW, x_b1, hn, kb_b1⟩ := newBox w #[.bool false, .slice none 0 0, .bool false, .slice none 0 0] 26 hb.size
  rw [eW, eP]
  clear eW eP
  replace hb := tm hb hn
  refine hK _ _ rfl ?_; clear hK K hn
  refine sc fun K hK => ?_
  go_big_op
  have lt_b1 := x_b1.lt
  obtain ⟨p_b2, w_2, eP, eW, x_b2, hn, kb_b2⟩ := newBox w_1 #[.int .i64 0] 28 hb.size
  have ne_b1_b2 : Hid (p_b1 ≠ p_b2) := Nat.ne_of_lt (eP ▸ lt_b1)
  rw [eW, eP]
  clear eW eP lt_b1
  replace x_b1 := x_b1.bl hn
  replace hb := tm hb hn
  refine hK _ _ rfl ?_; clear hK K hn
  apply wpSq_end
  refine hK1 _ _ ?_
  clear hK1 K1
  refine wp_seq_k ?_
  intro K2 hK2
  refine wp_region ?_
  simp [wpOps, go_sem]
  refine Or.inl (Or.inl ?_)
  refine hK2 _ _ ?_
  clear hK2 K2
  refine wp_seq_k ?_
  intro K3 hK3
  refine wp_region_sq [0, 1, 2, 3] (by kernel_rfl) ?_
  refine sc fun K hK => ?_
  go_big_move; refine hK _ _ rfl ?_; clear hK K
  refine sc fun K hK => ?_
  go_big_op
  go_fit (hc _ hb)
  rintro e w_3 ⟨_, rfl, ⟨n_ga, o_ga, k_ga, c_ga, n_gb, o_gb, k_gb, c_gb, rfl, g1, g2⟩, hb_3⟩
  replace x_b1 := x_b1.bl hb_3; replace x_b2 := x_b2.bl hb_3; replace hb := tm hb hb_3
  refine hK _ _ rfl ?_
  clear hK K hb_3
  refine sc fun K hK => ?_
  obtain ⟨d0, d1, d2, d3⟩ := x_b1.f4
  have f0 := x_b1.free 0; have f1 := x_b1.free 1; have f2 := x_b1.free 2; have f3 := x_b1.free 3
  go_big_op
  have hnd := x_b1.nod rfl rfl
  obtain ⟨w_4, eW, x_b1', ho⟩ : ∃ w', ((((w_3.setCell ⟨p_b1, 0, none⟩ (.bool n_ga)).setCell ⟨p_b1, 1, none⟩ (.slice o_ga k_ga c_ga)).setCell ⟨p_b1, 2, none⟩ (.bool n_gb)).setCell ⟨p_b1, 3, none⟩ (.slice o_gb k_gb c_gb)) = w' ∧ Bs w' p_b1 #[.bool n_ga, .slice o_ga k_ga c_ga, .bool n_gb, .slice o_gb k_gb c_gb] 26 ∧ Only p_b1 w_3 w' := x_b1.setN [(0, .bool n_ga), (1, .slice o_ga k_ga c_ga), (2, .bool n_gb), (3, .slice o_gb k_gb c_gb)]
  rw [eW]; clear eW d0 d1 d2 d3 f0 f1 f2 f3 x_b1
  replace x_b2 := x_b2.frame' ho ne_b1_b2; replace g1 := g1.fr hnd ho; replace g2 := g2.fr hnd ho; replace hb := belowOnly hb ho kb_b1
  refine hK _ _ rfl ?_; clear hK K ho hnd
  refine sc fun K hK => ?_
  have d0 := x_b2.f1
  have f0 := x_b2.free 0
  go_big_op
  have hnd := x_b2.nod rfl rfl
  obtain ⟨w_5, eW, x_b2', ho⟩ : ∃ w', (w_4.setCell ⟨p_b2, 0, none⟩ (.int .i64 0)) = w' ∧ Bs w' p_b2 #[.int .i64 0] 28 ∧ Only p_b2 w_4 w' := x_b2.setN [(0, .int .i64 0)]
  rw [eW]; clear eW d0 f0 x_b2
  replace x_b1' := x_b1'.frame ho ne_b1_b2; replace g1 := g1.fr hnd ho; replace g2 := g2.fr hnd ho; replace hb := belowOnly hb ho kb_b2
  refine hK _ _ rfl ?_; clear hK K ho hnd
  apply wpSq_end
  refine hK3 _ _ ?_
  refine wp_ret ?_
  try dsimp only [Exit.then, Exit.inBlock]
  refine leaves_cons (f := 84) (args := #[.pointer (some ⟨p_b2, 0, none⟩)]) (by simp) (by simp [go_sem]) ?_
  refine (catchG_idle p_b2 _).mono ?_
  rintro e u' w'' ⟨rfl, rfl, rfl⟩
  obtain ⟨d0, d1, d2, d3⟩ := x_b1'.f4
  have d4 := x_b2'.f1
  simp only [Leaves, settle]
  exact ⟨_, by simp [results, Tryz.results40, go_sem, d0, d1, d2, d3, d4], _, rfl, .mk' g1 g2, hb⟩
theorem ansG_bad {w : World} {f : Nat} {caps : Array Value} {k : Int} (hf : ∀ w1, Sem.run Tryz.prog (callFunc f caps) w1 = .ok (.enter f caps) w1) (hc : ∀ w1, Below w.heap.size w w1 → Calls Tryz.prog f caps w1 fun e w2 => e = .panicked [{ v := .iface 28 (.int .i64 k), recovered := false }] ∧ Below w1.heap.size w1 w2) :
    Calls Tryz.prog 40 #[.func (.func f) #[] caps] w fun e w' => e = .returned (.tuple #[.agg #[.bool false, .slice none 0 0, .bool false, .slice none 0 0], .int .i64 k]) ∧ Below w.heap.size w w' := by
  have hmf : ∀ (fn : Fn) (first cap : Array Value) (w : World), (Instr.makeFunc fn first cap).run Tryz.prog w = .ok (.func fn first cap) w := fun _ _ _ _ => rfl
  go_enter_defers Tryz.func40, Tryz.ntmps40
  have hb := Below.refl w.heap.size w
  refine wp_seq_k ?_
  intro K1 hK1
  refine wp_region_sq [0, 1] (by kernel_rfl) ?_
  refine sc fun K hK => ?_
  go_big_op
  obtain ⟨p_b1, w_1, eP, eW, x_b1, hn, kb_b1⟩ := newBox w #[.bool false, .slice none 0 0, .bool false, .slice none 0 0] 26 hb.size
  rw [eW, eP]
  clear eW eP
  replace hb := tm hb hn
  refine hK _ _ rfl ?_; clear hK K hn
  refine sc fun K hK => ?_
  go_big_op
  have lt_b1 := x_b1.lt
  obtain ⟨p_b2, w_2, eP, eW, x_b2, hn, kb_b2⟩ := newBox w_1 #[.int .i64 0] 28 hb.size
  have ne_b1_b2 : Hid (p_b1 ≠ p_b2) := Nat.ne_of_lt (eP ▸ lt_b1)
  rw [eW, eP]
  clear eW eP lt_b1
  replace x_b1 := x_b1.bl hn
  replace hb := tm hb hn
  refine hK _ _ rfl ?_; clear hK K hn
  apply wpSq_end
  refine hK1 _ _ ?_
  clear hK1 K1
  refine wp_seq_k ?_
  intro K2 hK2
  refine wp_region ?_
  simp [wpOps, go_sem]
  refine Or.inl (Or.inl ?_)
  refine hK2 _ _ ?_
  clear hK2 K2
  refine wp_seq_k ?_
  intro K3 hK3
  refine wp_region ?_
  simp [wpOps, go_sem, hf]
  refine Or.inl (Or.inl ?_)
  go_fit (hc _ hb)
  rintro e w_3 ⟨rfl, hb_3⟩
  replace x_b1 := x_b1.bl hb_3; replace x_b2 := x_b2.bl hb_3; replace hb := tm hb hb_3
  try dsimp only [Exit.then, Exit.inBlock]
  refine leaves_cons (f := 84) (args := #[.pointer (some ⟨p_b2, 0, none⟩)]) (by simp) (by simp [go_sem]) ?_
  refine (catchG_panicking p_b2 0 k _ x_b2).mono ?_
  rintro e u' w'' ⟨rfl, rfl, rfl⟩
  obtain ⟨w_5, eW, x_b2', ho⟩ : ∃ w', (w_3.setCell ⟨p_b2, 0, none⟩ (.int .i64 k)) = w' ∧ Bs w' p_b2 #[.int .i64 k] 28 ∧ Only p_b2 w_3 w' := x_b2.setN [(0, .int .i64 k)]
  rw [eW]; clear eW x_b2
  replace x_b1 := x_b1.frame ho ne_b1_b2; replace hb := belowOnly hb ho kb_b2
  obtain ⟨d0, d1, d2, d3⟩ := x_b1.f4
  have d4 := x_b2'.f1
  simp [Leaves, settle, results, Tryz.results40, go_sem, d0, d1, d2, d3, d4]
  exact hb
end Go.Proofs.YtbiiglcfdphmaaaGreat

/- gres: Reduce, Mul, Inverse: what lies within. -/
namespace Go.Proofs.YtbiiglcfdphmaaaGreat
open Go Go.RowKit Dig
set_option linter.unusedVariables false
def BP (w : World) (p : Nat) (x : Int) (l : Nat) (y : Int) (m : Nat) : Prop :=
  ∃ n1 o1 k1 c1 n2 o2 k2 c2, Bs w p #[.bool n1, .slice o1 k1 c1, .bool n2, .slice o2 k2 c2] 26 ∧ ZN w (.agg #[.bool n1, .slice o1 k1 c1]) x l ∧ ZN w (.agg #[.bool n2, .slice o2 k2 c2]) y m
theorem BP.mk' {w : World} {p : Nat} {n1 n2 : Bool} {o1 o2 : Option Addr} {k1 c1 k2 c2 : Nat} {x y : Int} {l m : Nat} (hb : Bs w p #[.bool n1, .slice o1 k1 c1, .bool n2, .slice o2 k2 c2] 26) (h1 : ZN w (.agg #[.bool n1, .slice o1 k1 c1]) x l) (h2 : ZN w (.agg #[.bool n2, .slice o2 k2 c2]) y m) : BP w p x l y m :=
  ⟨_, _, _, _, _, _, _, _, hb, h1, h2⟩
section
variable {w : World} {va vb : Value} {x y u v : Int} {l m k n : Nat}
set_option maxHeartbeats 8000000 in
set_option maxRecDepth 20000 in
theorem inverse_any {L : Nat} (ha : PN w va x l y m) (hq : PN w vb u L v L) (hl : l ≤ 9000000) (hm : m ≤ 9000000) (hk : L ≤ 2190000) (h0 : gN u v ≠ 0) (hI : gInv x y u v) :
    Calls Tryz.prog 42 #[va, vb] w fun e w' => ∃ r, e = .returned r ∧ PC w' r (gV x y u v).1 (gV x y u v).2 ∧ Below w.heap.size w w' := by
  have H0 := hide h0
  have tR := res_len (x := x) (y := y) h0 hq.len1 hq.len2
  have hV : gV (gR1 x y u v) (gR2 x y u v) u v = gV x y u v := gV_cg h0 (gCg.res x y u v).symm hI
  have hU := (unit_inv (gR1 x y u v) (gR2 x y u v) u v).2 (hI.cg (gCg.res x y u v).symm)
  rw [← hV]
  unfold gV
  obtain ⟨R1, hR1⟩ : ∃ R, gR1 x y u v = R := ⟨_, rfl⟩
  obtain ⟨R2, hR2⟩ : ∃ R, gR2 x y u v = R := ⟨_, rfl⟩
  rw [hR1, hR2] at hU tR
  rw [hR1, hR2]
  have hfin := fin_gi R1 R2 u v
  obtain ⟨F, hF⟩ : ∃ F, (GS.start R1 R2 u v).fin = F := ⟨_, rfl⟩
  rw [hF] at hU hfin
  rw [hF]
  dsimp only [gVo]
  have lr := len_norm (x := F.r1) (y := F.r2) (Int.le_trans hfin.1.nr (by have := gN_nonneg R1 R2; have := gN_nonneg u v; omega)) tR.1 tR.2 (Nat.le_succ_of_le hq.len1) (Nat.le_succ_of_le hq.len2)
  have lx := len_norm hfin.1.nx tR.1 tR.2 (Nat.le_succ_of_le hq.len1) (Nat.le_succ_of_le hq.len2)
  have l1 := zlen_turn lr.1 lr.2 (kq F.r1 F.r2)
  have l2 := zlen_turn lx.1 lx.2 (kq F.r1 F.r2)
  have hn := turn_norm (kq_lt F.r1 F.r2) F.r1 F.r2
  rw [hU] at hn
  obtain ⟨D1, hD1⟩ : ∃ D, (turn (kq F.r1 F.r2) (F.r1, F.r2)).1 = D := ⟨_, rfl⟩
  obtain ⟨D2, hD2⟩ : ∃ D, (turn (kq F.r1 F.r2) (F.r1, F.r2)).2 = D := ⟨_, rfl⟩
  obtain ⟨S1, hS1⟩ : ∃ D, (turn (kq F.r1 F.r2) (F.x1, F.x2)).1 = D := ⟨_, rfl⟩
  obtain ⟨S2, hS2⟩ : ∃ D, (turn (kq F.r1 F.r2) (F.x1, F.x2)).2 = D := ⟨_, rfl⟩
  rw [hS1, hS2]
  rw [hD1, hD2] at hn l1
  rw [hS1, hS2] at l2
  have HN := hide hn
  have HR := hide (And.intro hR1 hR2)
  have TR := hide tR
  have L1 := hide l1
  have L2 := hide l2
  have EQ := hide (And.intro hF (And.intro (And.intro hD1 hD2) (And.intro hS1 hS2)))
  clear hn hR1 hR2 tR l1 l2 hF hD1 hD2 hS1 hS2 hU hV hfin lr lx h0 hI
  obtain ⟨n_0a, o_0a, k_0a, c_0a, n_0b, o_0b, k_0b, c_0b, rfl, ha1, ha2⟩ := ha
  obtain ⟨n_1a, o_1a, k_1a, c_1a, n_1b, o_1b, k_1b, c_1b, rfl, hq1, hq2⟩ := hq
  go_enter Tryz.func42, Tryz.ntmps42
  have hs := St.nil w
  refine wp_seq_k ?_
  intro K1 hK1
  refine rg [0, 1, 2] ?_
  refine sq ?_
  refine .al hs ?_; clear hs; intro p_b1 w_1 hs n1 kb_b1
  refine sq ?_
  refine .al hs ?_; clear hs; intro p_b2 w_2 hs n2 kb_b2
  refine sq ?_
  refine .al hs ?_; clear hs; intro p_b3 w_3 hs n3 kb_b3
  apply wpSq_end
  refine hK1 _ _ ?_
  refine wp_seq_k ?_
  intro K2 hK2
  refine wp_region_f4 [(0, false), (1, false), (3, false), (2, true), (4, true), (5, false), (6, false), (7, false), (8, false)] [12, 13, 14] [9, 10, 11] (fun j => if j = 9 then (.cells #[.bool false, .slice none 0 0, .bool false, .slice none 0 0] 26) else if j = 10 then (.cells #[.bool false, .slice none 0 0, .bool false, .slice none 0 0] 26) else (.cells #[.bool false, .slice none 0 0, .bool false, .slice none 0 0] 26)) [0, 1, 99, 1, 99, 99, 99, 99, 99, 99, 99, 99, 99, 99, 99] [] (.c hs.g2 (.c hs.g1 .n)) (fm (fm (fm fn))) fun w_4 n4 => ?_
  replace hs := hs.bl n4
  have hlB := hs.lt; have hkB := hs.k
  refine f4 ?_
  refine f4 ?_
  refine f4 ?_
  refine fl fun w_5 n5 => ?_
  replace hs := hs.bl n5
  intro K hK
  have k0_5 := ((((kb n1).b n2).b n3).b n4).b n5
  replace ha1 := ha1.k k0_5
  replace ha2 := ha2.k k0_5
  replace hq1 := hq1.k k0_5
  replace hq2 := hq2.k k0_5
  go_big_op
  go_fit (res_any (PN.mk' ha1 ha2) (PN.mk' hq1 hq2) (by omega) (by omega) (by omega) H0.out)
  rintro e w_6 ⟨_, rfl, ⟨n_ra, o_ra, k_ra, c_ra, n_rb, o_rb, k_rb, c_rb, rfl, r1, r2⟩, hb_6⟩
  replace hs := hs.bl hb_6
  have Lr1 := hide (r1.lenOf (res_len1 (H0.out) (hq1.len) (hq2.len)))
  have Lr2 := hide (r2.lenOf (res_len2 (H0.out) (hq1.len) (hq2.len)))
  rw [HR.out.1] at r1
  rw [HR.out.2] at r2
  refine hK _ _ rfl ⟨hb_6, (And.intro hs.g2 (And.intro hs.g1 trivial))⟩ ?_
  clear hK K
  have Lr1 := hide (r1.lenOf (TR.out.1))
  have Lr2 := hide (r2.lenOf (TR.out.2))
  refine fl fun w_7 n7 => ?_
  replace hs := hs.bl n7
  intro K hK
  have k6_7 := kb n7
  replace r1 := r1.k k6_7
  replace r2 := r2.k k6_7
  have k5_7 := (kb hb_6).b n7
  replace hq1 := hq1.k k5_7
  replace hq2 := hq2.k k5_7
  go_big_op
  go_fit (gxgcd_any (L := L + 1) (.mk' (r1.zn Lr1.out) (r2.zn Lr2.out)) (.mk' (hq1.mono (Nat.le_succ _)) (hq2.mono (Nat.le_succ _))) (by omega))
  rintro e w_8 ⟨_, _, _, rfl, ⟨n_da, o_da, k_da, c_da, n_db, o_db, k_db, c_db, rfl, d1, d2⟩, ⟨n_sa, o_sa, k_sa, c_sa, n_sb, o_sb, k_sb, c_sb, rfl, s1, s2⟩, ⟨n_ta, o_ta, k_ta, c_ta, n_tb, o_tb, k_tb, c_tb, rfl, t1, t2⟩, hb_8⟩
  replace hs := hs.bl hb_8
  rw [EQ.out.1, EQ.out.2.1.1] at d1
  rw [EQ.out.1, EQ.out.2.1.2] at d2
  rw [EQ.out.1, EQ.out.2.2.1] at s1
  rw [EQ.out.1, EQ.out.2.2.2] at s2
  refine hK _ _ rfl ⟨hb_8, (And.intro hs.g2 (And.intro hs.g1 trivial))⟩ ?_
  clear hK K
  refine fmv ?_
  refine f0 ?_
  refine f0 ?_
  refine f0 ?_
  refine e3 hs hlB hkB ?_; clear hs hlB hkB; intro w_9 p_b4 p_b5 p_b6 hs n9 kb_b4 kb_b5 kb_b6
  refine tl ?_
  refine .s4 hs.g0 (fun _ => hs.u0 kb_b4) ?_ (e := fun _ hs => (And.intro hs.g5 (And.intro hs.g4 True.intro))); clear hs; intro w_10 hs hd10 ho10
  refine tl ?_
  refine .s4 hs.g1 (fun _ => hs.u1 kb_b5) ?_ (e := fun _ hs => (And.intro hs.g5 (And.intro hs.g4 True.intro))); clear hs; intro w_11 hs hd11 ho11
  refine tl ?_
  refine .s4 hs.g2 (fun _ => hs.u2 kb_b6) ?_ (e := fun _ hs => (And.intro hs.g5 (And.intro hs.g4 True.intro))); clear hs; intro w_12 hs hd12 ho12
  apply wpTail_end
  refine hK2 _ _ ?_
  refine wp_seq_k ?_
  intro K3 hK3
  refine wp_seq_k ?_
  intro K4 hK4
  refine rg [0, 1, 2] ?_
  refine sq ?_
  refine .r4 hs.g0.f4 ?_
  have Ld1 := hide (d1.lenOf (L1.out.1))
  have Ld2 := hide (d2.lenOf (L1.out.2))
  have Ls1 := hide (s1.lenOf (L2.out.1))
  have Ls2 := hide (s2.lenOf (L2.out.2))
  refine sq ?_
  intro K hK
  have k8_12 := (((kb n9).o hd10 ho10).o hd11 ho11).o hd12 ho12
  replace d1 := d1.k k8_12
  replace d2 := d2.k k8_12
  go_big_op
  go_fit (gUnit_yes (.mk' (d1.zn Ld1.out) (d2.zn Ld2.out)) (by omega) (by omega) HN.out)
  rintro e w_13 ⟨rfl, hb_13⟩
  clear r1 r2 ha1 ha2 t1 t2
  replace hs := hs.bl hb_13
  refine hK _ _ rfl trivial ?_
  clear hK K
  refine sq ?_
  refine .r0 ?_
  apply wpSq_end
  refine hK4 _ _ ?_
  refine cf ?_
  refine wp_skip ?_
  refine hK3 _ _ ?_
  refine wp_seq_k ?_
  intro K5 hK5
  refine rg [0, 1, 2, 3] ?_
  refine sq ?_
  refine .r4 hs.g1.f4 ?_
  refine sq ?_
  refine .r4 hs.g4.f4 ?_
  refine sq ?_
  intro K hK
  have k8_13 := k8_12.b hb_13
  replace s1 := s1.k k8_13
  replace s2 := s2.k k8_13
  have k7_13 := (((((kb hb_8).b n9).o hd10 ho10).o hd11 ho11).o hd12 ho12).b hb_13
  replace hq1 := hq1.k k7_13
  replace hq2 := hq2.k k7_13
  go_big_op
  go_fit (res_any (PN.mk' (s1.zn Ls1.out) (s2.zn Ls2.out)) (PN.mk' hq1 hq2) (by omega) (by omega) (by omega) H0.out)
  rintro e w_14 ⟨_, rfl, ⟨n_qa, o_qa, k_qa, c_qa, n_qb, o_qb, k_qb, c_qb, rfl, q1, q2⟩, hb_14⟩
  replace hs := hs.bl hb_14
  refine hK _ _ rfl trivial ?_
  clear hK K
  refine sq ?_
  refine .s4 hs.g3 (fun _ => hs.u3 kb_b3) ?_; clear hs; intro w_15 hs hd15 ho15
  clear d1 d2 hq1 hq2 s1 s2
  apply wpSq_end
  refine hK5 _ _ ?_
  refine wp_ret ?_
  try dsimp only [Exit.then, Exit.inBlock]
  obtain ⟨r0_0, r0_1, r0_2, r0_3⟩ := hs.g3.f4
  refine bodyPost_ret (v := (.agg #[.bool n_qa, .slice o_qa k_qa c_qa, .bool n_qb, .slice o_qb k_qb c_qb])) (by simp [results, Tryz.results42, go_sem, r0_0, r0_1, r0_2, r0_3]) rfl ?_
  have k14_15 := ko hd15 ho15
  replace q1 := q1.k k14_15
  replace q2 := q2.k k14_15
  exact ⟨_, rfl, .mk' q1 q2, hs.b⟩
end
end Go.Proofs.YtbiiglcfdphmaaaGreat

/- gres.inverse: where there is none; closures and calls of Reduce, Mul, Inverse. -/
namespace Go.Proofs.YtbiiglcfdphmaaaGreat
open Go Go.RowKit Dig
set_option maxHeartbeats 8000000
set_option maxRecDepth 20000
set_option linter.unusedVariables false
section
variable {w : World} {va vb vc : Value} {x y u v a b : Int} {l m k n s t : Nat}
theorem inverse_none {L : Nat} (ha : PN w va x l y m) (hq : PN w vb u L v L) (hl : l ≤ 9000000) (hm : m ≤ 9000000) (hk : L ≤ 2190000) (h0 : gN u v ≠ 0) (hI : ¬ gInv x y u v) :
    Calls Tryz.prog 42 #[va, vb] w fun e w' => e = .panicked [{ v := .iface 28 (.int .i64 10), recovered := false }] ∧ Below w.heap.size w w' := by
  have H0 := hide h0
  have tR := res_len (x := x) (y := y) h0 hq.len1 hq.len2
  have hU : ¬ gN (GS.start (gR1 x y u v) (gR2 x y u v) u v).fin.r1 (GS.start (gR1 x y u v) (gR2 x y u v) u v).fin.r2 = 1 := fun h => hI (((unit_inv _ _ _ _).1 h).cg (gCg.res x y u v))
  obtain ⟨R1, hR1⟩ : ∃ R, gR1 x y u v = R := ⟨_, rfl⟩
  obtain ⟨R2, hR2⟩ : ∃ R, gR2 x y u v = R := ⟨_, rfl⟩
  rw [hR1, hR2] at hU tR
  have hfin := fin_gi R1 R2 u v
  obtain ⟨F, hF⟩ : ∃ F, (GS.start R1 R2 u v).fin = F := ⟨_, rfl⟩
  rw [hF] at hU hfin
  have lr := len_norm (x := F.r1) (y := F.r2) (Int.le_trans hfin.1.nr (by have := gN_nonneg R1 R2; have := gN_nonneg u v; omega)) tR.1 tR.2 (Nat.le_succ_of_le hq.len1) (Nat.le_succ_of_le hq.len2)
  have lx := len_norm hfin.1.nx tR.1 tR.2 (Nat.le_succ_of_le hq.len1) (Nat.le_succ_of_le hq.len2)
  have l1 := zlen_turn lr.1 lr.2 (kq F.r1 F.r2)
  have l2 := zlen_turn lx.1 lx.2 (kq F.r1 F.r2)
  have hn := turn_norm (kq_lt F.r1 F.r2) F.r1 F.r2
  rw [← hn] at hU
  obtain ⟨D1, hD1⟩ : ∃ D, (turn (kq F.r1 F.r2) (F.r1, F.r2)).1 = D := ⟨_, rfl⟩
  obtain ⟨D2, hD2⟩ : ∃ D, (turn (kq F.r1 F.r2) (F.r1, F.r2)).2 = D := ⟨_, rfl⟩
  rw [hD1, hD2] at hU l1
  have HN := hide hU
  have HR := hide (And.intro hR1 hR2)
  have TR := hide tR
  have L1 := hide l1
  have L2 := hide l2
  have EQ := hide (And.intro hF (And.intro hD1 hD2))
  clear hn hR1 hR2 tR l1 l2 hF hD1 hD2 hU hfin lr lx h0 hI
  obtain ⟨n_0a, o_0a, k_0a, c_0a, n_0b, o_0b, k_0b, c_0b, rfl, ha1, ha2⟩ := ha
  obtain ⟨n_1a, o_1a, k_1a, c_1a, n_1b, o_1b, k_1b, c_1b, rfl, hq1, hq2⟩ := hq
  go_enter Tryz.func42, Tryz.ntmps42
  have hs := St.nil w
  obtain ⟨IX, hIX⟩ : ∃ I : Pn.PX, ∀ ch w', I.X ch w' ↔ (ch = [{ v := .iface 28 (.int .i64 10), recovered := false }] ∧ Below w.heap.size w w') := ⟨⟨_⟩, fun _ _ => Iff.rfl⟩
  refine wp_seq_k ?_
  intro K1 hK1
  refine Pn.rg [0, 1, 2] (fun ch a' w' hd hx => And.intro hd (And.intro (congrArg Ending.panicked ((hIX ch w').1 hx).1) ((hIX ch w').1 hx).2)) ?_
  refine Pn.sq ?_
  refine .al hs ?_; clear hs; intro p_b1 w_1 hs n1 kb_b1
  refine Pn.sq ?_
  refine .al hs ?_; clear hs; intro p_b2 w_2 hs n2 kb_b2
  refine Pn.sq ?_
  refine .al hs ?_; clear hs; intro p_b3 w_3 hs n3 kb_b3
  apply Pn.wpSq_end
  refine hK1 _ _ ?_
  refine wp_seq_k ?_
  intro K2 hK2
  refine Pn.wp_region_f4 [(0, false), (1, false), (3, false), (2, true), (4, true), (5, false), (6, false), (7, false), (8, false)] [12, 13, 14] [9, 10, 11] (fun j => if j = 9 then (.cells #[.bool false, .slice none 0 0, .bool false, .slice none 0 0] 26) else if j = 10 then (.cells #[.bool false, .slice none 0 0, .bool false, .slice none 0 0] 26) else (.cells #[.bool false, .slice none 0 0, .bool false, .slice none 0 0] 26)) [0, 1, 99, 1, 99, 99, 99, 99, 99, 99, 99, 99, 99, 99, 99] [] (.c hs.g2 (.c hs.g1 .n)) (fm (fm (fm fn))) (fun ch a' w' hd hx => And.intro hd (And.intro (congrArg Ending.panicked ((hIX ch w').1 hx).1) ((hIX ch w').1 hx).2)) fun w_4 n4 => ?_
  replace hs := hs.bl n4
  have hlB := hs.lt; have hkB := hs.k
  refine Pn.f4 ?_
  refine Pn.f4 ?_
  refine Pn.f4 ?_
  refine Pn.fl fun w_5 n5 => ?_
  replace hs := hs.bl n5
  intro K hK
  have k0_5 := ((((kb n1).b n2).b n3).b n4).b n5
  replace ha1 := ha1.k k0_5
  replace ha2 := ha2.k k0_5
  replace hq1 := hq1.k k0_5
  replace hq2 := hq2.k k0_5
  go_big_op
  go_fit (res_any (PN.mk' ha1 ha2) (PN.mk' hq1 hq2) (by omega) (by omega) (by omega) H0.out)
  rintro e w_6 ⟨_, rfl, ⟨n_ra, o_ra, k_ra, c_ra, n_rb, o_rb, k_rb, c_rb, rfl, r1, r2⟩, hb_6⟩
  replace hs := hs.bl hb_6
  have Lr1 := hide (r1.lenOf (res_len1 (H0.out) (hq1.len) (hq2.len)))
  have Lr2 := hide (r2.lenOf (res_len2 (H0.out) (hq1.len) (hq2.len)))
  rw [HR.out.1] at r1
  rw [HR.out.2] at r2
  refine hK _ _ rfl ⟨hb_6, (And.intro hs.g2 (And.intro hs.g1 trivial))⟩ ?_
  clear hK K
  have Lr1 := hide (r1.lenOf (TR.out.1))
  have Lr2 := hide (r2.lenOf (TR.out.2))
  refine Pn.fl fun w_7 n7 => ?_
  replace hs := hs.bl n7
  intro K hK
  have k6_7 := kb n7
  replace r1 := r1.k k6_7
  replace r2 := r2.k k6_7
  have k5_7 := (kb hb_6).b n7
  replace hq1 := hq1.k k5_7
  replace hq2 := hq2.k k5_7
  go_big_op
  go_fit (gxgcd_any (L := L + 1) (.mk' (r1.zn Lr1.out) (r2.zn Lr2.out)) (.mk' (hq1.mono (Nat.le_succ _)) (hq2.mono (Nat.le_succ _))) (by omega))
  rintro e w_8 ⟨_, _, _, rfl, ⟨n_da, o_da, k_da, c_da, n_db, o_db, k_db, c_db, rfl, d1, d2⟩, ⟨n_sa, o_sa, k_sa, c_sa, n_sb, o_sb, k_sb, c_sb, rfl, s1, s2⟩, ⟨n_ta, o_ta, k_ta, c_ta, n_tb, o_tb, k_tb, c_tb, rfl, t1, t2⟩, hb_8⟩
  replace hs := hs.bl hb_8
  rw [EQ.out.1, EQ.out.2.1] at d1
  rw [EQ.out.1, EQ.out.2.2] at d2
  rw [EQ.out.1] at s1
  rw [EQ.out.1] at s2
  refine hK _ _ rfl ⟨hb_8, (And.intro hs.g2 (And.intro hs.g1 trivial))⟩ ?_
  clear hK K
  refine Pn.fmv ?_
  refine Pn.f0 ?_
  refine Pn.f0 ?_
  refine Pn.f0 ?_
  refine Pn.e3 hs hlB hkB ?_; clear hs hlB hkB; intro w_9 p_b4 p_b5 p_b6 hs n9 kb_b4 kb_b5 kb_b6
  refine Pn.tl ?_
  refine .s4 hs.g0 (fun _ => hs.u0 kb_b4) ?_ (e := fun _ hs => (And.intro hs.g5 (And.intro hs.g4 True.intro))); clear hs; intro w_10 hs hd10 ho10
  refine Pn.tl ?_
  refine .s4 hs.g1 (fun _ => hs.u1 kb_b5) ?_ (e := fun _ hs => (And.intro hs.g5 (And.intro hs.g4 True.intro))); clear hs; intro w_11 hs hd11 ho11
  refine Pn.tl ?_
  refine .s4 hs.g2 (fun _ => hs.u2 kb_b6) ?_ (e := fun _ hs => (And.intro hs.g5 (And.intro hs.g4 True.intro))); clear hs; intro w_12 hs hd12 ho12
  apply Pn.wpTail_end
  refine hK2 _ _ ?_
  refine wp_seq_k ?_
  intro K3 hK3
  refine wp_seq_k ?_
  intro K4 hK4
  refine Pn.rg [0, 1, 2] (fun ch a' w' hd hx => And.intro hd (And.intro (congrArg Ending.panicked ((hIX ch w').1 hx).1) ((hIX ch w').1 hx).2)) ?_
  refine Pn.sq ?_
  refine .r4 hs.g0.f4 ?_
  have Ld1 := hide (d1.lenOf (L1.out.1))
  have Ld2 := hide (d2.lenOf (L1.out.2))
  refine Pn.sq ?_
  intro K hK
  have k8_12 := (((kb n9).o hd10 ho10).o hd11 ho11).o hd12 ho12
  replace d1 := d1.k k8_12
  replace d2 := d2.k k8_12
  go_big_op
  go_fit (gUnit_no (.mk' (d1.zn Ld1.out) (d2.zn Ld2.out)) (by omega) (by omega) HN.out)
  rintro e w_13 ⟨rfl, hb_13⟩
  clear r1 r2 ha1 ha2 t1 t2
  replace hs := hs.bl hb_13
  refine hK _ _ rfl trivial ?_
  clear hK K
  refine Pn.sq ?_
  refine .r0 ?_
  apply Pn.wpSq_end
  refine hK4 _ _ ?_
  refine ct ?_
  refine Pn.rg [0, 1] (fun ch a' w' hd hx => And.intro hd (And.intro (congrArg Ending.panicked ((hIX ch w').1 hx).1) ((hIX ch w').1 hx).2)) ?_
  refine Pn.sq ?_
  refine .r0 ?_
  refine Pn.sq ?_
  intro K hK
  clear hK
  go_big_op
  exact (hIX _ _).2 ⟨rfl, hs.b⟩
theorem reduce1_any {p q L : Nat} (hp : BP w p x l y m) (hq : BP w q u L v L) (hl : l ≤ 9000000) (hm : m ≤ 9000000) (hk : L ≤ 4500000) (h0 : gN u v ≠ 0) :
    Calls Tryz.prog 88 #[.pointer (some ⟨p, 0, none⟩), .pointer (some ⟨q, 0, none⟩)] w fun e w' => ∃ r, e = .returned r ∧ PC w' r (gR1 x y u v) (gR2 x y u v) ∧ Below w.heap.size w w' := by
  have H0 := hide h0
  clear h0
  obtain ⟨an1, ao1, ak1, ac1, an2, ao2, ak2, ac2, xa, a1, a2⟩ := hp
  obtain ⟨bn1, bo1, bk1, bc1, bn2, bo2, bk2, bc2, xb, b1, b2⟩ := hq
  go_enter Tryz.func88, Tryz.ntmps88
  have hs := St.nil w
  have lt_xa := xa.lt
  have lt_xb := xb.lt
  refine wp_seq_k ?_
  intro K1 hK1
  refine rg [0] ?_
  refine sq ?_
  refine .al hs ?_; clear hs; intro p_b1 w_1 hs n1 kb_b1
  replace xa := xa.bl n1; replace xb := xb.bl n1
  apply wpSq_end
  refine hK1 _ _ ?_
  refine wp_seq_k ?_
  intro K2 hK2
  refine rg [0, 1, 2, 3] ?_
  refine sq ?_
  refine .r4 xa.f4 ?_
  refine sq ?_
  refine .r4 xb.f4 ?_
  refine sq ?_
  intro K hK
  have k0_1 := kb n1
  replace a1 := a1.k k0_1
  replace a2 := a2.k k0_1
  replace b1 := b1.k k0_1
  replace b2 := b2.k k0_1
  go_big_op
  go_fit (res_any (PN.mk' a1 a2) (PN.mk' b1 b2) (by omega) (by omega) (by omega) H0.out)
  rintro e w_2 ⟨_, rfl, ⟨n_ra, o_ra, k_ra, c_ra, n_rb, o_rb, k_rb, c_rb, rfl, r1, r2⟩, hb_2⟩
  replace hs := hs.bl hb_2
  refine hK _ _ rfl trivial ?_
  clear hK K
  refine sq ?_
  refine .s4 hs.g0 (fun _ => hs.u0 kb_b1) ?_; clear hs; intro w_3 hs hd3 ho3
  clear xa xb a1 a2 b1 b2
  apply wpSq_end
  refine hK2 _ _ ?_
  refine wp_ret ?_
  try dsimp only [Exit.then, Exit.inBlock]
  obtain ⟨r0_0, r0_1, r0_2, r0_3⟩ := hs.g0.f4
  refine bodyPost_ret (v := (.agg #[.bool n_ra, .slice o_ra k_ra c_ra, .bool n_rb, .slice o_rb k_rb c_rb])) (by simp [results, Tryz.results88, go_sem, r0_0, r0_1, r0_2, r0_3]) rfl ?_
  have k2_3 := ko hd3 ho3
  replace r1 := r1.k k2_3
  replace r2 := r2.k k2_3
  exact ⟨_, rfl, .mk' r1 r2, hs.b⟩
theorem gReduce_any {L : Nat} (ha : PN w va x l y m) (hq : PN w vb u L v L) (hl : l ≤ 9000000) (hm : m ≤ 9000000) (hk : L ≤ 4500000) (h0 : gN u v ≠ 0) :
    Calls Tryz.prog 43 #[va, vb] w fun e w' => ∃ r, e = .returned (.tuple #[r, .int .i64 0]) ∧ PC w' r (gR1 x y u v) (gR2 x y u v) ∧ Below w.heap.size w w' := by
  have H0 := hide h0
  clear h0
  obtain ⟨n_0a, o_0a, k_0a, c_0a, n_0b, o_0b, k_0b, c_0b, rfl, ha1, ha2⟩ := ha
  obtain ⟨n_1a, o_1a, k_1a, c_1a, n_1b, o_1b, k_1b, c_1b, rfl, hq1, hq2⟩ := hq
  go_enter Tryz.func43, Tryz.ntmps43
  have hs := St.nil w
  refine wp_seq_k ?_
  intro K1 hK1
  refine rg [0, 1, 2, 3] ?_
  refine sq ?_
  refine .al hs ?_; clear hs; intro p_b1 w_1 hs n1 kb_b1
  refine sq ?_
  refine .al hs ?_; clear hs; intro p_b2 w_2 hs n2 kb_b2
  refine sq ?_
  refine .al hs ?_; clear hs; intro p_b3 w_3 hs n3 kb_b3
  refine sq ?_
  refine .mv ?_
  apply wpSq_end
  refine hK1 _ _ ?_
  refine wp_seq_k ?_
  intro K2 hK2
  refine rg [0, 1, 2, 3, 4, 5] ?_
  refine sq ?_
  refine .r0 ?_
  refine sq ?_
  intro K hK
  have x_b1 := hs.g2
  have k0_3 := ((kb n1).b n2).b n3
  replace ha1 := ha1.k k0_3
  replace ha2 := ha2.k k0_3
  have x_b2 := hs.g1
  replace hq1 := hq1.k k0_3
  replace hq2 := hq2.k k0_3
  go_big_op
  go_fit (ansG_ok (fun _ ↦ by kernel_rfl) (fun w1 h ↦ reduce1_any (.mk' (x_b1.bl h) (ha1.bl h) (ha2.bl h)) (.mk' (x_b2.bl h) (hq1.bl h) (hq2.bl h)) hl hm hk H0.out))
  rintro e w_4 ⟨_, rfl, ⟨n_ra, o_ra, k_ra, c_ra, n_rb, o_rb, k_rb, c_rb, rfl, r1, r2⟩, hb_4⟩
  clear x_b1 x_b2
  replace hs := hs.bl hb_4
  refine hK _ _ rfl trivial ?_
  clear hK K
  refine sq ?_
  refine .r0 ?_
  refine sq ?_
  refine .r0 ?_
  refine sq ?_
  refine .s4 hs.g0 (fun _ => hs.u0 kb_b3) ?_; clear hs; intro w_5 hs hd5 ho5
  refine sq ?_
  refine .mv ?_
  apply wpSq_end
  refine hK2 _ _ ?_
  refine wp_ret ?_
  try dsimp only [Exit.then, Exit.inBlock]
  obtain ⟨r0_0, r0_1, r0_2, r0_3⟩ := hs.g0.f4
  refine bodyPost_ret (v := (.tuple #[(.agg #[.bool n_ra, .slice o_ra k_ra c_ra, .bool n_rb, .slice o_rb k_rb c_rb]), (.int .i64 0)])) (by simp [results, Tryz.results43, go_sem, r0_0, r0_1, r0_2, r0_3]) rfl ?_
  have k4_5 := ko hd5 ho5
  replace r1 := r1.k k4_5
  replace r2 := r2.k k4_5
  exact ⟨_, rfl, .mk' r1 r2, hs.b⟩
end
end Go.Proofs.YtbiiglcfdphmaaaGreat

/- Two residues as one: plain mathematics; how long sums and products are. -/
namespace Go.Proofs.YtbiiglcfdphmaaaGreat
open Go Go.RowKit Dig
set_option linter.unusedVariables false
theorem mul_tight2 {x y p q : Int} {L M : Nat} (h1 : (dig x.natAbs).length ≤ L) (h2 : (dig y.natAbs).length ≤ L) (h3 : (dig p.natAbs).length ≤ M) (h4 : (dig q.natAbs).length ≤ M) :
    (dig (x * p - y * q).natAbs).length ≤ L + M + 1 ∧ (dig (x * q + y * p).natAbs).length ≤ L + M + 1 := by
  have bd : ∀ (z : Int) (l : Nat), (dig z.natAbs).length ≤ l → -(pw l : Int) ≤ z ∧ z ≤ (pw l : Int) := by
    intro z l hz
    have := Nat.lt_of_lt_of_le (lt_pw_dig z.natAbs) (pw_mono hz)
    omega
  have b1 := abs_mul_le (bd _ _ h1) (bd _ _ h3)
  have b2 := abs_mul_le (bd _ _ h2) (bd _ _ h4)
  have b3 := abs_mul_le (bd _ _ h1) (bd _ _ h4)
  have b4 := abs_mul_le (bd _ _ h2) (bd _ _ h3)
  have hp : 0 < (pw L : Int) * (pw M : Int) := by have := pw_pos L; have := pw_pos M; exact Int.mul_pos (by omega) (by omega)
  have hpw : ((pw (L + M + 1) : Nat) : Int) = (pw L : Int) * (pw M : Int) * 4294967296 := by
    rw [pw_add, pw_add]; push_cast; rfl
  exact ⟨dig_length_le (by omega), dig_length_le (by omega)⟩
theorem mul_tightL {x y p q : Int} {L M : Nat} (h1 : (dig x.natAbs).length ≤ L) (h2 : (dig y.natAbs).length ≤ L) (h3 : (dig p.natAbs).length ≤ M) (h4 : (dig q.natAbs).length ≤ M) : (dig (x * p - y * q).natAbs).length ≤ L + M + 1 := (mul_tight2 h1 h2 h3 h4).1
theorem mul_tightR {x y p q : Int} {L M : Nat} (h1 : (dig x.natAbs).length ≤ L) (h2 : (dig y.natAbs).length ≤ L) (h3 : (dig p.natAbs).length ≤ M) (h4 : (dig q.natAbs).length ≤ M) : (dig (x * q + y * p).natAbs).length ≤ L + M + 1 := (mul_tight2 h1 h2 h3 h4).2
theorem gCg.eq {u v x y x' y' X Y X' Y' : Int} (h : gCg u v x y x' y') (h1 : x = X) (h2 : y = Y) (h3 : x' = X') (h4 : y' = Y') : gCg u v X Y X' Y' := by rw [← h1, ← h2, ← h3, ← h4]; exact h
theorem gCg.times {u v p q a b a' b' : Int} (h : gCg p q a b a' b') : gCg (u * p - v * q) (u * q + v * p) (u * a - v * b) (u * b + v * a) (u * a' - v * b') (u * b' + v * a') := by
  obtain ⟨c, d, h1, h2⟩ := h
  subst h1 h2
  exact ⟨c, d, by grind, by grind⟩
def cK1 (x y u v a b p q : Int) : Int := (a - x) * (gV u v p q).1 - (b - y) * (gV u v p q).2
def cK2 (x y u v a b p q : Int) : Int := (a - x) * (gV u v p q).2 + (b - y) * (gV u v p q).1
def cC1 (x y u v a b p q : Int) : Int := x + (u * cK1 x y u v a b p q - v * cK2 x y u v a b p q)
def cC2 (x y u v a b p q : Int) : Int := y + (u * cK2 x y u v a b p q + v * cK1 x y u v a b p q)
def cR1 (x y u v a b p q : Int) : Int := gR1 (cC1 x y u v a b p q) (cC2 x y u v a b p q) (u * p - v * q) (u * q + v * p)
def cR2 (x y u v a b p q : Int) : Int := gR2 (cC1 x y u v a b p q) (cC2 x y u v a b p q) (u * p - v * q) (u * q + v * p)
theorem crt_way {x y u v a b p q A1 A2 B1 B2 T1 T2 : Int} (h : gInv u v p q) (hA : gCg u v A1 A2 x y) (hB : gCg p q B1 B2 a b)
    (hT : gCg p q T1 T2 ((B1 - A1) * (gV u v p q).1 - (B2 - A2) * (gV u v p q).2) ((B1 - A1) * (gV u v p q).2 + (B2 - A2) * (gV u v p q).1)) :
    gCg (u * p - v * q) (u * q + v * p) (cC1 x y u v a b p q) (cC2 x y u v a b p q) (A1 + (T1 * u - T2 * v)) (A2 + (T1 * v + T2 * u)) := by
  have h1 := gV_makes h
  unfold cC1 cC2 cK1 cK2
  generalize (gV u v p q).1 = I1 at *
  generalize (gV u v p q).2 = I2 at *
  obtain ⟨c, d, e1, e2⟩ := hA
  -- D I is the same as (b - A) I
  have k1 := (hB.sub (gCg.refl p q A1 A2)).mul (gCg.refl p q I1 I2)
  -- (b - A) I = (b - a) I + c m I, and m I is the same as 1
  have k2 := (gCg.refl p q c d).mul h1
  have k3 := (gCg.refl p q ((a - x) * I1 - (b - y) * I2) ((a - x) * I2 + (b - y) * I1)).add k2
  have k4 := (hT.trans k1).trans (k3.eq (X := (a - A1) * I1 - (b - A2) * I2) (Y := (a - A1) * I2 + (b - A2) * I1) (by clear h h1 hB hT k1 k2 k3; subst e1 e2; grind) (by clear h h1 hB hT k1 k2 k3; subst e1 e2; grind) rfl rfl)
  have k5 := (gCg.refl (u * p - v * q) (u * q + v * p) A1 A2).add (k4.times (u := u) (v := v))
  clear h h1 hB hT k1 k2 k3 k4
  exact k5.symm.eq (by clear k5; subst e1 e2; grind) (by clear k5; subst e1 e2; grind) (by clear k5; grind) (by clear k5; grind)
end Go.Proofs.YtbiiglcfdphmaaaGreat
