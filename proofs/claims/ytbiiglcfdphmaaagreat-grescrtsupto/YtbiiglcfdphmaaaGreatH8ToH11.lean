/- gres: Mul, Inverse, Crt, Count. -/
import Derived.Test.YtbiiglcfdphmaaaGreatH2ToH7

namespace Go.Proofs.YtbiiglcfdphmaaaGreat
open Go Go.RowKit Dig
set_option linter.unusedVariables false
section
variable {w : World} {va vb vc vd : Value} {x y u v a b c d : Int} {l m k n s t : Nat}
end
end Go.Proofs.YtbiiglcfdphmaaaGreat

/- gres.Crt. -/
namespace Go.Proofs.YtbiiglcfdphmaaaGreat
open Go Go.RowKit Dig
set_option maxHeartbeats 8000000
set_option maxRecDepth 20000
set_option linter.unusedVariables false
theorem gN_prod {u v p q : Int} (h : gN u v ≠ 0) (h' : gN p q ≠ 0) : gN (u * p - v * q) (u * q + v * p) ≠ 0 := by
  rw [gN_mul]; exact Int.mul_ne_zero h h'
section
variable {w : World} {va vb vc vd : Value} {x y u v a b p q : Int} {l m k n s t K M : Nat}
theorem both_any (ha : PN w va x l y m) (hq : PN w vb u K v K) (hc : PN w vc a s b t) (hd : PN w vd p M q M) (hl : l ≤ 2200000) (hm : m ≤ 2200000) (hsz : s ≤ 2200000) (ht : t ≤ 2200000) (hKK : K ≤ 1100000) (hMM : M ≤ 1100000) (h0 : gN u v ≠ 0) (h1 : gN p q ≠ 0) (hI : gInv u v p q) :
    Calls Tryz.prog 52 #[va, vb, vc, vd] w fun e w' => ∃ r, e = .returned r ∧ PC w' r (cR1 x y u v a b p q) (cR2 x y u v a b p q) ∧ Below w.heap.size w w' := by
  have hw := (crt_way hI (gCg.res x y u v) (gCg.res a b p q) (gCg.res _ _ p q)).one (gN_prod h0 h1)
  unfold cR1 cR2
  rw [← hw.1, ← hw.2]
  clear hw
  have lV : (dig (gV u v p q).1.natAbs).length ≤ M + 1 ∧ (dig (gV u v p q).2.natAbs).length ≤ M + 1 := res_len h1 hd.len1 hd.len2
  obtain ⟨I1, hI1⟩ : ∃ I, (gV u v p q).1 = I := ⟨_, rfl⟩
  obtain ⟨I2, hI2⟩ : ∃ I, (gV u v p q).2 = I := ⟨_, rfl⟩
  rw [hI1, hI2] at lV
  rw [hI1, hI2]
  obtain ⟨A1, hA1⟩ : ∃ I, gR1 x y u v = I := ⟨_, rfl⟩
  obtain ⟨A2, hA2⟩ : ∃ I, gR2 x y u v = I := ⟨_, rfl⟩
  obtain ⟨B1, hB1⟩ : ∃ I, gR1 a b p q = I := ⟨_, rfl⟩
  obtain ⟨B2, hB2⟩ : ∃ I, gR2 a b p q = I := ⟨_, rfl⟩
  have lA := res_len (x := x) (y := y) h0 hq.len1 hq.len2
  have lB := res_len (x := a) (y := b) h1 hd.len1 hd.len2
  rw [hA1, hA2] at lA
  rw [hB1, hB2] at lB
  rw [hA1, hA2, hB1, hB2]
  have lT := res_len (x := (B1 - A1) * I1 - (B2 - A2) * I2) (y := (B1 - A1) * I2 + (B2 - A2) * I1) h1 hd.len1 hd.len2
  obtain ⟨T1, hT1⟩ : ∃ I, gR1 ((B1 - A1) * I1 - (B2 - A2) * I2) ((B1 - A1) * I2 + (B2 - A2) * I1) p q = I := ⟨_, rfl⟩
  obtain ⟨T2, hT2⟩ : ∃ I, gR2 ((B1 - A1) * I1 - (B2 - A2) * I2) ((B1 - A1) * I2 + (B2 - A2) * I1) p q = I := ⟨_, rfl⟩
  rw [hT1, hT2] at lT
  rw [hT1, hT2]
  have HA := hide (And.intro hA1 hA2)
  have HB := hide (And.intro hB1 hB2)
  have HI := hide (And.intro hI1 hI2)
  have HT := hide (And.intro hT1 hT2)
  have LA := hide lA
  have LB := hide lB
  have LI := hide lV
  have LT := hide lT
  have HH := hide (And.intro (And.intro h0 h1) (And.intro hI (gN_prod h0 h1)))
  clear hA1 hA2 hB1 hB2 hI1 hI2 hT1 hT2 lA lB lV lT h0 h1 hI
  obtain ⟨n_0a, o_0a, k_0a, c_0a, n_0b, o_0b, k_0b, c_0b, rfl, ha1, ha2⟩ := ha
  obtain ⟨n_1a, o_1a, k_1a, c_1a, n_1b, o_1b, k_1b, c_1b, rfl, hq1, hq2⟩ := hq
  obtain ⟨n_2a, o_2a, k_2a, c_2a, n_2b, o_2b, k_2b, c_2b, rfl, hc1, hc2⟩ := hc
  obtain ⟨n_3a, o_3a, k_3a, c_3a, n_3b, o_3b, k_3b, c_3b, rfl, hd1, hd2⟩ := hd
  go_enter Tryz.func52, Tryz.ntmps52
  have hs := St.nil w
  refine wp_seq_k ?_
  intro K1 hK1
  refine rg [0, 1, 2, 3, 4] ?_
  refine sq ?_
  refine .al hs ?_; clear hs; intro p_b1 w_1 hs n1 kb_b1
  refine sq ?_
  refine .al hs ?_; clear hs; intro p_b2 w_2 hs n2 kb_b2
  refine sq ?_
  refine .al hs ?_; clear hs; intro p_b3 w_3 hs n3 kb_b3
  refine sq ?_
  refine .al hs ?_; clear hs; intro p_b4 w_4 hs n4 kb_b4
  refine sq ?_
  refine .al hs ?_; clear hs; intro p_b5 w_5 hs n5 kb_b5
  apply wpSq_end
  refine hK1 _ _ ?_
  refine wp_seq_k ?_
  intro K2 hK2
  refine wp_region_f4 [(0, false), (1, false), (3, false), (4, false), (2, true), (5, true)] [8, 9] [6, 7] (fun j => if j = 6 then (.cells #[.bool false, .slice none 0 0, .bool false, .slice none 0 0] 26) else (.cells #[.bool false, .slice none 0 0, .bool false, .slice none 0 0] 26)) [0, 1, 99, 2, 3, 99, 99, 99, 99, 99] [] (.c hs.g4 (.c hs.g3 (.c hs.g2 (.c hs.g1 .n)))) (fm (fm fn)) fun w_6 n6 => ?_
  replace hs := hs.bl n6
  have hlB := hs.lt; have hkB := hs.k
  refine f4 ?_
  refine f4 ?_
  refine f4 ?_
  refine f4 ?_
  refine fl fun w_7 n7 => ?_
  replace hs := hs.bl n7
  intro K hK
  have k0_7 := ((((((kb n1).b n2).b n3).b n4).b n5).b n6).b n7
  replace ha1 := ha1.k k0_7
  replace ha2 := ha2.k k0_7
  replace hq1 := hq1.k k0_7
  replace hq2 := hq2.k k0_7
  go_big_op
  go_fit (res_any (PN.mk' ha1 ha2) (PN.mk' hq1 hq2) (by omega) (by omega) (by omega) HH.out.1.1)
  rintro e w_8 ⟨_, rfl, ⟨n_fa, o_fa, k_fa, c_fa, n_fb, o_fb, k_fb, c_fb, rfl, f1, f2⟩, hb_8⟩
  replace hs := hs.bl hb_8
  have Lf1 := hide (f1.lenOf (res_len1 (HH.out.1.1) (hq1.len) (hq2.len)))
  have Lf2 := hide (f2.lenOf (res_len2 (HH.out.1.1) (hq1.len) (hq2.len)))
  rw [HA.out.1] at f1
  rw [HA.out.2] at f2
  refine hK _ _ rfl ⟨hb_8, (And.intro hs.g4 (And.intro hs.g3 (And.intro hs.g2 (And.intro hs.g1 trivial))))⟩ ?_
  clear hK K
  have Lf1 := hide (f1.lenOf (LA.out.1))
  have Lf2 := hide (f2.lenOf (LA.out.2))
  refine fl fun w_9 n9 => ?_
  replace hs := hs.bl n9
  intro K hK
  have k0_9 := (k0_7.b hb_8).b n9
  replace hc1 := hc1.k k0_9
  replace hc2 := hc2.k k0_9
  replace hd1 := hd1.k k0_9
  replace hd2 := hd2.k k0_9
  go_big_op
  go_fit (res_any (PN.mk' hc1 hc2) (PN.mk' hd1 hd2) (by omega) (by omega) (by omega) HH.out.1.2)
  rintro e w_10 ⟨_, rfl, ⟨n_ga, o_ga, k_ga, c_ga, n_gb, o_gb, k_gb, c_gb, rfl, g1, g2⟩, hb_10⟩
  replace hs := hs.bl hb_10
  have Lg1 := hide (g1.lenOf (res_len1 (HH.out.1.2) (hd1.len) (hd2.len)))
  have Lg2 := hide (g2.lenOf (res_len2 (HH.out.1.2) (hd1.len) (hd2.len)))
  rw [HB.out.1] at g1
  rw [HB.out.2] at g2
  refine hK _ _ rfl ⟨hb_10, (And.intro hs.g4 (And.intro hs.g3 (And.intro hs.g2 (And.intro hs.g1 trivial))))⟩ ?_
  clear hK K
  refine e2 hs hlB hkB ?_; clear hs hlB hkB; intro w_11 p_b6 p_b7 hs n11 kb_b6 kb_b7
  refine tl ?_
  refine .s4 hs.g0 (fun _ => hs.u0 kb_b6) ?_ (e := fun _ hs => (And.intro hs.g6 (And.intro hs.g5 (And.intro hs.g4 (And.intro hs.g3 True.intro))))); clear hs; intro w_12 hs hd12 ho12
  refine tl ?_
  refine .s4 hs.g1 (fun _ => hs.u1 kb_b7) ?_ (e := fun _ hs => (And.intro hs.g6 (And.intro hs.g5 (And.intro hs.g4 (And.intro hs.g3 True.intro))))); clear hs; intro w_13 hs hd13 ho13
  apply wpTail_end
  refine hK2 _ _ ?_
  refine wp_seq_k ?_
  intro K3 hK3
  refine wp_region_f4 [(0, false), (1, false), (3, false), (4, false), (7, false), (2, true), (5, true), (6, true), (8, true)] [10] [9] (fun j => (.cells #[.bool false, .slice none 0 0, .bool false, .slice none 0 0] 26)) [0, 1, 99, 2, 3, 99, 99, 3, 99, 99, 99] [] (.c hs.g1 (.c hs.g0 (.c hs.g5 (.c hs.g3 .n)))) (fm fn) fun w_14 n14 => ?_
  replace hs := hs.bl n14
  have hlB := hs.lt; have hkB := hs.k
  refine f4 ?_
  refine f4 ?_
  refine f4 ?_
  refine f4 ?_
  refine f4 ?_
  have Lg1 := hide (g1.lenOf (LB.out.1))
  have Lg2 := hide (g2.lenOf (LB.out.2))
  refine fl fun w_15 n15 => ?_
  replace hs := hs.bl n15
  intro K hK
  have k10_15 := ((((kb n11).o hd12 ho12).o hd13 ho13).b n14).b n15
  replace g1 := g1.k k10_15
  replace g2 := g2.k k10_15
  have k8_15 := ((((((kb n9).b hb_10).b n11).o hd12 ho12).o hd13 ho13).b n14).b n15
  replace f1 := f1.k k8_15
  replace f2 := f2.k k8_15
  go_big_op
  go_fit (gSub_any (PN.mk' (g1.zn Lg1.out) (g2.zn Lg2.out)) (PN.mk' (f1.zn Lf1.out) (f2.zn Lf2.out)) (by omega) (by omega) (by omega) (by omega) )
  rintro e w_16 ⟨_, rfl, ⟨n_ha, o_ha, k_ha, c_ha, n_hb, o_hb, k_hb, c_hb, rfl, h1, h2⟩, hb_16⟩
  replace hs := hs.bl hb_16
  have Lh1 := hide (h1.lenOf (zlen_sub (Lg1.out) (Lf1.out)))
  have Lh2 := hide (h2.lenOf (zlen_sub (Lg2.out) (Lf2.out)))
  refine hK _ _ rfl ⟨hb_16, (And.intro hs.g1 (And.intro hs.g0 (And.intro hs.g5 (And.intro hs.g3 trivial))))⟩ ?_
  clear hK K
  refine fl fun w_17 n17 => ?_
  replace hs := hs.bl n17
  intro K hK
  have k7_17 := (((((((((kb hb_8).b n9).b hb_10).b n11).o hd12 ho12).o hd13 ho13).b n14).b n15).b hb_16).b n17
  replace hq1 := hq1.k k7_17
  replace hq2 := hq2.k k7_17
  have k9_17 := (((((((kb hb_10).b n11).o hd12 ho12).o hd13 ho13).b n14).b n15).b hb_16).b n17
  replace hd1 := hd1.k k9_17
  replace hd2 := hd2.k k9_17
  go_big_op
  go_fit (inverse_any (.mk' hq1 hq2) (.mk' hd1 hd2) (by omega) (by omega) (by omega) HH.out.1.2 HH.out.2.1)
  rintro e w_18 ⟨_, rfl, ⟨n_ia, o_ia, k_ia, c_ia, n_ib, o_ib, k_ib, c_ib, rfl, i1, i2⟩, hb_18⟩
  replace hs := hs.bl hb_18
  rw [HI.out.1] at i1
  rw [HI.out.2] at i2
  refine hK _ _ rfl ⟨hb_18, (And.intro hs.g1 (And.intro hs.g0 (And.intro hs.g5 (And.intro hs.g3 trivial))))⟩ ?_
  clear hK K
  have Li1 := hide (i1.lenOf (LI.out.1))
  have Li2 := hide (i2.lenOf (LI.out.2))
  refine fl fun w_19 n19 => ?_
  replace hs := hs.bl n19
  intro K hK
  have k16_19 := ((kb n17).b hb_18).b n19
  replace h1 := h1.k k16_19
  replace h2 := h2.k k16_19
  have k18_19 := kb n19
  replace i1 := i1.k k18_19
  replace i2 := i2.k k18_19
  go_big_op
  go_fit (gMul_any (PN.mk' (h1.zn Lh1.out) (h2.zn Lh2.out)) (PN.mk' (i1.zn Li1.out) (i2.zn Li2.out)) (by omega) (by omega) (by omega) (by omega) )
  rintro e w_20 ⟨_, rfl, ⟨n_ja, o_ja, k_ja, c_ja, n_jb, o_jb, k_jb, c_jb, rfl, j1, j2⟩, hb_20⟩
  replace hs := hs.bl hb_20
  have Lj1 := hide (j1.lenOf (zlen_sub (zlen_mul (Lh1.out) (Li1.out)) (zlen_mul (Lh2.out) (Li2.out))))
  have Lj2 := hide (j2.lenOf (zlen_add (zlen_mul (Lh1.out) (Li2.out)) (zlen_mul (Lh2.out) (Li1.out))))
  refine hK _ _ rfl ⟨hb_20, (And.intro hs.g1 (And.intro hs.g0 (And.intro hs.g5 (And.intro hs.g3 trivial))))⟩ ?_
  clear hK K
  refine fl fun w_21 n21 => ?_
  clear ha1 ha2 hc1 hc2 h1 h2 i1 i2
  replace hs := hs.bl n21
  intro K hK
  have k20_21 := kb n21
  replace j1 := j1.k k20_21
  replace j2 := j2.k k20_21
  have k17_21 := (((kb hb_18).b n19).b hb_20).b n21
  replace hd1 := hd1.k k17_21
  replace hd2 := hd2.k k17_21
  go_big_op
  go_fit (res_any (PN.mk' (j1.zn Lj1.out) (j2.zn Lj2.out)) (PN.mk' hd1 hd2) (by omega) (by omega) (by omega) HH.out.1.2)
  rintro e w_22 ⟨_, rfl, ⟨n_oa, o_oa, k_oa, c_oa, n_ob, o_ob, k_ob, c_ob, rfl, o1, o2⟩, hb_22⟩
  replace hs := hs.bl hb_22
  have Lo1 := hide (o1.lenOf (res_len1 (HH.out.1.2) (hd1.len) (hd2.len)))
  have Lo2 := hide (o2.lenOf (res_len2 (HH.out.1.2) (hd1.len) (hd2.len)))
  rw [HT.out.1] at o1
  rw [HT.out.2] at o2
  refine hK _ _ rfl ⟨hb_22, (And.intro hs.g1 (And.intro hs.g0 (And.intro hs.g5 (And.intro hs.g3 trivial))))⟩ ?_
  clear hK K
  refine e1 hs hlB hkB ?_; clear hs hlB hkB; intro w_23 p_b8 hs n23 kb_b8
  refine tl ?_
  refine .s4 hs.g0 (fun _ => hs.u0 kb_b8) ?_ (e := fun _ hs => (And.intro hs.g2 (And.intro hs.g1 (And.intro hs.g6 (And.intro hs.g4 True.intro))))); clear hs; intro w_24 hs hd24 ho24
  apply wpTail_end
  refine hK3 _ _ ?_
  refine wp_seq_k ?_
  intro K4 hK4
  refine wp_region_f4 [(0, false), (1, false), (2, false), (5, false), (6, false), (3, true), (4, true), (7, true), (8, true)] [9] [] (fun _ => default) [0, 1, 2, 99, 99, 2, 3, 99, 99, 99] [] (.c hs.g1 (.c hs.g0 (.c hs.g6 (.c hs.g4 .n)))) fn fun w_25 n25 => ?_
  replace hs := hs.bl n25
  refine f4 ?_
  refine f4 ?_
  refine f4 ?_
  refine f4 ?_
  refine f4 ?_
  have Lo1 := hide (o1.lenOf (LT.out.1))
  have Lo2 := hide (o2.lenOf (LT.out.2))
  refine fl fun w_26 n26 => ?_
  replace hs := hs.bl n26
  intro K hK
  have k22_26 := (((kb n23).o hd24 ho24).b n25).b n26
  replace o1 := o1.k k22_26
  replace o2 := o2.k k22_26
  have k17_26 := ((((k17_21.b hb_22).b n23).o hd24 ho24).b n25).b n26
  replace hq1 := hq1.k k17_26
  replace hq2 := hq2.k k17_26
  go_big_op
  go_fit (gMul_any (PN.mk' (o1.zn Lo1.out) (o2.zn Lo2.out)) (PN.mk' hq1 hq2) (by omega) (by omega) (by omega) (by omega) )
  rintro e w_27 ⟨_, rfl, ⟨n_ra, o_ra, k_ra, c_ra, n_rb, o_rb, k_rb, c_rb, rfl, r1, r2⟩, hb_27⟩
  replace hs := hs.bl hb_27
  have Lr1 := hide (r1.lenOf (zlen_sub (zlen_mul (Lo1.out) (hq1.len)) (zlen_mul (Lo2.out) (hq2.len))))
  have Lr2 := hide (r2.lenOf (zlen_add (zlen_mul (Lo1.out) (hq2.len)) (zlen_mul (Lo2.out) (hq1.len))))
  refine hK _ _ rfl ⟨hb_27, (And.intro hs.g1 (And.intro hs.g0 (And.intro hs.g6 (And.intro hs.g4 trivial))))⟩ ?_
  clear hK K
  refine fl fun w_28 n28 => ?_
  replace hs := hs.bl n28
  intro K hK
  have k15_28 := ((((((((((((kb hb_16).b n17).b hb_18).b n19).b hb_20).b n21).b hb_22).b n23).o hd24 ho24).b n25).b n26).b hb_27).b n28
  replace f1 := f1.k k15_28
  replace f2 := f2.k k15_28
  have k27_28 := kb n28
  replace r1 := r1.k k27_28
  replace r2 := r2.k k27_28
  go_big_op
  go_fit (gAdd_any (PN.mk' (f1.zn Lf1.out) (f2.zn Lf2.out)) (PN.mk' (r1.zn Lr1.out) (r2.zn Lr2.out)) (by omega) (by omega) (by omega) (by omega) )
  rintro e w_29 ⟨_, rfl, ⟨n_za, o_za, k_za, c_za, n_zb, o_zb, k_zb, c_zb, rfl, z1, z2⟩, hb_29⟩
  replace hs := hs.bl hb_29
  have Lz1 := hide (z1.lenOf (zlen_add (Lf1.out) (Lr1.out)))
  have Lz2 := hide (z2.lenOf (zlen_add (Lf2.out) (Lr2.out)))
  refine hK _ _ rfl ⟨hb_29, (And.intro hs.g1 (And.intro hs.g0 (And.intro hs.g6 (And.intro hs.g4 trivial))))⟩ ?_
  clear hK K
  refine fl fun w_30 n30 => ?_
  clear j1 j2 g1 g2 r1 r2
  replace hs := hs.bl n30
  intro K hK
  have k26_30 := (((kb hb_27).b n28).b hb_29).b n30
  replace hq1 := hq1.k k26_30
  replace hq2 := hq2.k k26_30
  have k21_30 := ((((((((kb hb_22).b n23).o hd24 ho24).b n25).b n26).b hb_27).b n28).b hb_29).b n30
  replace hd1 := hd1.k k21_30
  replace hd2 := hd2.k k21_30
  go_big_op
  go_fit (gMul_any (PN.mk' hq1 hq2) (PN.mk' hd1 hd2) (by omega) (by omega) (by omega) (by omega) )
  rintro e w_31 ⟨_, rfl, ⟨n_ea, o_ea, k_ea, c_ea, n_eb, o_eb, k_eb, c_eb, rfl, e1, e2⟩, hb_31⟩
  replace hs := hs.bl hb_31
  have Le1 := hide (e1.lenOf (zlen_sub (zlen_mul (hq1.len) (hd1.len)) (zlen_mul (hq2.len) (hd2.len))))
  have Le2 := hide (e2.lenOf (zlen_add (zlen_mul (hq1.len) (hd2.len)) (zlen_mul (hq2.len) (hd1.len))))
  refine hK _ _ rfl ⟨hb_31, (And.intro hs.g1 (And.intro hs.g0 (And.intro hs.g6 (And.intro hs.g4 trivial))))⟩ ?_
  clear hK K
  refine fl fun w_32 n32 => ?_
  replace hs := hs.bl n32
  intro K hK
  have k29_32 := ((kb n30).b hb_31).b n32
  replace z1 := z1.k k29_32
  replace z2 := z2.k k29_32
  have k31_32 := kb n32
  replace e1 := e1.k k31_32
  replace e2 := e2.k k31_32
  go_big_op
  go_fit (res_any (PN.mk' (z1.zn Lz1.out) (z2.zn Lz2.out)) (PN.mk' (e1.zn Le1.out) (e2.zn Le2.out)) (by omega) (by omega) (by omega) HH.out.2.2)
  rintro e w_33 ⟨_, rfl, ⟨n_da, o_da, k_da, c_da, n_db, o_db, k_db, c_db, rfl, d1, d2⟩, hb_33⟩
  replace hs := hs.bl hb_33
  refine hK _ _ rfl ⟨hb_33, (And.intro hs.g1 (And.intro hs.g0 (And.intro hs.g6 (And.intro hs.g4 trivial))))⟩ ?_
  clear hK K
  refine e0 hs ?_; clear hs; intro w_34 hs n34
  refine tl ?_
  refine .s4 hs.g3 (fun _ => hs.u3 kb_b5) ?_ (e := fun _ hs => (And.intro hs.g1 (And.intro hs.g0 (And.intro hs.g6 (And.intro hs.g4 True.intro))))); clear hs; intro w_35 hs hd35 ho35
  apply wpTail_end
  refine hK4 _ _ ?_
  refine wp_ret ?_
  try dsimp only [Exit.then, Exit.inBlock]
  obtain ⟨r0_0, r0_1, r0_2, r0_3⟩ := hs.g3.f4
  refine bodyPost_ret (v := (.agg #[.bool n_da, .slice o_da k_da c_da, .bool n_db, .slice o_db k_db c_db])) (by simp [results, Tryz.results52, go_sem, r0_0, r0_1, r0_2, r0_3]) rfl ?_
  have k33_35 := (kb n34).o hd35 ho35
  replace d1 := d1.k k33_35
  replace d2 := d2.k k33_35
  exact ⟨_, rfl, .mk' d1 d2, hs.b⟩
theorem both_none (ha : PN w va x l y m) (hq : PN w vb u K v K) (hc : PN w vc a s b t) (hd : PN w vd p M q M) (hl : l ≤ 2200000) (hm : m ≤ 2200000) (hsz : s ≤ 2200000) (ht : t ≤ 2200000) (hKK : K ≤ 1100000) (hMM : M ≤ 1100000) (h0 : gN u v ≠ 0) (h1 : gN p q ≠ 0) (hI : ¬ gInv u v p q) :
    Calls Tryz.prog 52 #[va, vb, vc, vd] w fun e w' => e = .panicked [{ v := .iface 28 (.int .i64 10), recovered := false }] ∧ Below w.heap.size w w' := by
  have HH := hide (And.intro (And.intro h0 h1) hI)
  clear h0 h1 hI
  obtain ⟨n_0a, o_0a, k_0a, c_0a, n_0b, o_0b, k_0b, c_0b, rfl, ha1, ha2⟩ := ha
  obtain ⟨n_1a, o_1a, k_1a, c_1a, n_1b, o_1b, k_1b, c_1b, rfl, hq1, hq2⟩ := hq
  obtain ⟨n_2a, o_2a, k_2a, c_2a, n_2b, o_2b, k_2b, c_2b, rfl, hc1, hc2⟩ := hc
  obtain ⟨n_3a, o_3a, k_3a, c_3a, n_3b, o_3b, k_3b, c_3b, rfl, hd1, hd2⟩ := hd
  go_enter Tryz.func52, Tryz.ntmps52
  have hs := St.nil w
  obtain ⟨IX, hIX⟩ : ∃ I : Pn.PX, ∀ ch w', I.X ch w' ↔ (ch = [{ v := .iface 28 (.int .i64 10), recovered := false }] ∧ Below w.heap.size w w') := ⟨⟨_⟩, fun _ _ => Iff.rfl⟩
  refine wp_seq_k ?_
  intro K1 hK1
  refine Pn.rg [0, 1, 2, 3, 4] (fun ch a' w' hd hx => And.intro hd (And.intro (congrArg Ending.panicked ((hIX ch w').1 hx).1) ((hIX ch w').1 hx).2)) ?_
  refine Pn.sq ?_
  refine .al hs ?_; clear hs; intro p_b1 w_1 hs n1 kb_b1
  refine Pn.sq ?_
  refine .al hs ?_; clear hs; intro p_b2 w_2 hs n2 kb_b2
  refine Pn.sq ?_
  refine .al hs ?_; clear hs; intro p_b3 w_3 hs n3 kb_b3
  refine Pn.sq ?_
  refine .al hs ?_; clear hs; intro p_b4 w_4 hs n4 kb_b4
  refine Pn.sq ?_
  refine .al hs ?_; clear hs; intro p_b5 w_5 hs n5 kb_b5
  apply Pn.wpSq_end
  refine hK1 _ _ ?_
  refine wp_seq_k ?_
  intro K2 hK2
  refine Pn.wp_region_f4 [(0, false), (1, false), (3, false), (4, false), (2, true), (5, true)] [8, 9] [6, 7] (fun j => if j = 6 then (.cells #[.bool false, .slice none 0 0, .bool false, .slice none 0 0] 26) else (.cells #[.bool false, .slice none 0 0, .bool false, .slice none 0 0] 26)) [0, 1, 99, 2, 3, 99, 99, 99, 99, 99] [] (.c hs.g4 (.c hs.g3 (.c hs.g2 (.c hs.g1 .n)))) (fm (fm fn)) (fun ch a' w' hd hx => And.intro hd (And.intro (congrArg Ending.panicked ((hIX ch w').1 hx).1) ((hIX ch w').1 hx).2)) fun w_6 n6 => ?_
  replace hs := hs.bl n6
  have hlB := hs.lt; have hkB := hs.k
  refine Pn.f4 ?_
  refine Pn.f4 ?_
  refine Pn.f4 ?_
  refine Pn.f4 ?_
  refine Pn.fl fun w_7 n7 => ?_
  replace hs := hs.bl n7
  intro K hK
  have k0_7 := ((((((kb n1).b n2).b n3).b n4).b n5).b n6).b n7
  replace ha1 := ha1.k k0_7
  replace ha2 := ha2.k k0_7
  replace hq1 := hq1.k k0_7
  replace hq2 := hq2.k k0_7
  go_big_op
  go_fit (res_any (PN.mk' ha1 ha2) (PN.mk' hq1 hq2) (by omega) (by omega) (by omega) HH.out.1.1)
  rintro e w_8 ⟨_, rfl, ⟨n_fa, o_fa, k_fa, c_fa, n_fb, o_fb, k_fb, c_fb, rfl, f1, f2⟩, hb_8⟩
  replace hs := hs.bl hb_8
  have Lf1 := hide (f1.lenOf (res_len1 (HH.out.1.1) (hq1.len) (hq2.len)))
  have Lf2 := hide (f2.lenOf (res_len2 (HH.out.1.1) (hq1.len) (hq2.len)))
  refine hK _ _ rfl ⟨hb_8, (And.intro hs.g4 (And.intro hs.g3 (And.intro hs.g2 (And.intro hs.g1 trivial))))⟩ ?_
  clear hK K
  refine Pn.fl fun w_9 n9 => ?_
  replace hs := hs.bl n9
  intro K hK
  have k0_9 := (k0_7.b hb_8).b n9
  replace hc1 := hc1.k k0_9
  replace hc2 := hc2.k k0_9
  replace hd1 := hd1.k k0_9
  replace hd2 := hd2.k k0_9
  go_big_op
  go_fit (res_any (PN.mk' hc1 hc2) (PN.mk' hd1 hd2) (by omega) (by omega) (by omega) HH.out.1.2)
  rintro e w_10 ⟨_, rfl, ⟨n_ga, o_ga, k_ga, c_ga, n_gb, o_gb, k_gb, c_gb, rfl, g1, g2⟩, hb_10⟩
  replace hs := hs.bl hb_10
  have Lg1 := hide (g1.lenOf (res_len1 (HH.out.1.2) (hd1.len) (hd2.len)))
  have Lg2 := hide (g2.lenOf (res_len2 (HH.out.1.2) (hd1.len) (hd2.len)))
  refine hK _ _ rfl ⟨hb_10, (And.intro hs.g4 (And.intro hs.g3 (And.intro hs.g2 (And.intro hs.g1 trivial))))⟩ ?_
  clear hK K
  refine Pn.e2 hs hlB hkB ?_; clear hs hlB hkB; intro w_11 p_b6 p_b7 hs n11 kb_b6 kb_b7
  refine Pn.tl ?_
  refine .s4 hs.g0 (fun _ => hs.u0 kb_b6) ?_ (e := fun _ hs => (And.intro hs.g6 (And.intro hs.g5 (And.intro hs.g4 (And.intro hs.g3 True.intro))))); clear hs; intro w_12 hs hd12 ho12
  refine Pn.tl ?_
  refine .s4 hs.g1 (fun _ => hs.u1 kb_b7) ?_ (e := fun _ hs => (And.intro hs.g6 (And.intro hs.g5 (And.intro hs.g4 (And.intro hs.g3 True.intro))))); clear hs; intro w_13 hs hd13 ho13
  apply Pn.wpTail_end
  refine hK2 _ _ ?_
  refine wp_seq_k ?_
  intro K3 hK3
  refine Pn.wp_region_f4 [(0, false), (1, false), (3, false), (4, false), (7, false), (2, true), (5, true), (6, true), (8, true)] [10] [9] (fun j => (.cells #[.bool false, .slice none 0 0, .bool false, .slice none 0 0] 26)) [0, 1, 99, 2, 3, 99, 99, 3, 99, 99, 99] [] (.c hs.g1 (.c hs.g0 (.c hs.g5 (.c hs.g3 .n)))) (fm fn) (fun ch a' w' hd hx => And.intro hd (And.intro (congrArg Ending.panicked ((hIX ch w').1 hx).1) ((hIX ch w').1 hx).2)) fun w_14 n14 => ?_
  replace hs := hs.bl n14
  have hlB := hs.lt; have hkB := hs.k
  refine Pn.f4 ?_
  refine Pn.f4 ?_
  refine Pn.f4 ?_
  refine Pn.f4 ?_
  refine Pn.f4 ?_
  refine Pn.fl fun w_15 n15 => ?_
  replace hs := hs.bl n15
  intro K hK
  have k10_15 := ((((kb n11).o hd12 ho12).o hd13 ho13).b n14).b n15
  replace g1 := g1.k k10_15
  replace g2 := g2.k k10_15
  have k8_15 := ((((((kb n9).b hb_10).b n11).o hd12 ho12).o hd13 ho13).b n14).b n15
  replace f1 := f1.k k8_15
  replace f2 := f2.k k8_15
  go_big_op
  go_fit (gSub_any (PN.mk' (g1.zn Lg1.out) (g2.zn Lg2.out)) (PN.mk' (f1.zn Lf1.out) (f2.zn Lf2.out)) (by omega) (by omega) (by omega) (by omega) )
  rintro e w_16 ⟨_, rfl, ⟨n_ha, o_ha, k_ha, c_ha, n_hb, o_hb, k_hb, c_hb, rfl, h1, h2⟩, hb_16⟩
  replace hs := hs.bl hb_16
  refine hK _ _ rfl ⟨hb_16, (And.intro hs.g1 (And.intro hs.g0 (And.intro hs.g5 (And.intro hs.g3 trivial))))⟩ ?_
  clear hK K
  refine Pn.fl fun w_17 n17 => ?_
  replace hs := hs.bl n17
  intro K hK
  have k7_17 := (((((((((kb hb_8).b n9).b hb_10).b n11).o hd12 ho12).o hd13 ho13).b n14).b n15).b hb_16).b n17
  replace hq1 := hq1.k k7_17
  replace hq2 := hq2.k k7_17
  have k9_17 := (((((((kb hb_10).b n11).o hd12 ho12).o hd13 ho13).b n14).b n15).b hb_16).b n17
  replace hd1 := hd1.k k9_17
  replace hd2 := hd2.k k9_17
  clear hK
  go_big_op
  go_fit (inverse_none (.mk' hq1 hq2) (.mk' hd1 hd2) (by omega) (by omega) (by omega) HH.out.1.2 HH.out.2)
  rintro e w_18 ⟨rfl, hb_18⟩
  exact (hIX _ _).2 ⟨rfl, hs.b.trans (hb_18.mono hs.k)⟩
theorem both_zero1 (ha : PN w va x l y m) (hq : PN w vb 0 K 0 K) (hc : PN w vc a s b t) (hd : PN w vd p M q M) (hl : l ≤ 2200000) (hm : m ≤ 2200000) (hsz : s ≤ 2200000) (ht : t ≤ 2200000) (hKK : K ≤ 1100000) (hMM : M ≤ 1100000) :
    Calls Tryz.prog 52 #[va, vb, vc, vd] w fun e w' => e = .panicked [{ v := .iface 28 (.int .i64 5), recovered := false }] ∧ Below w.heap.size w w' := by
  obtain ⟨n_0a, o_0a, k_0a, c_0a, n_0b, o_0b, k_0b, c_0b, rfl, ha1, ha2⟩ := ha
  obtain ⟨n_1a, o_1a, k_1a, c_1a, n_1b, o_1b, k_1b, c_1b, rfl, hq1, hq2⟩ := hq
  obtain ⟨n_2a, o_2a, k_2a, c_2a, n_2b, o_2b, k_2b, c_2b, rfl, hc1, hc2⟩ := hc
  obtain ⟨n_3a, o_3a, k_3a, c_3a, n_3b, o_3b, k_3b, c_3b, rfl, hd1, hd2⟩ := hd
  go_enter Tryz.func52, Tryz.ntmps52
  have hs := St.nil w
  obtain ⟨IX, hIX⟩ : ∃ I : Pn.PX, ∀ ch w', I.X ch w' ↔ (ch = [{ v := .iface 28 (.int .i64 5), recovered := false }] ∧ Below w.heap.size w w') := ⟨⟨_⟩, fun _ _ => Iff.rfl⟩
  refine wp_seq_k ?_
  intro K1 hK1
  refine Pn.rg [0, 1, 2, 3, 4] (fun ch a' w' hd hx => And.intro hd (And.intro (congrArg Ending.panicked ((hIX ch w').1 hx).1) ((hIX ch w').1 hx).2)) ?_
  refine Pn.sq ?_
  refine .al hs ?_; clear hs; intro p_b1 w_1 hs n1 kb_b1
  refine Pn.sq ?_
  refine .al hs ?_; clear hs; intro p_b2 w_2 hs n2 kb_b2
  refine Pn.sq ?_
  refine .al hs ?_; clear hs; intro p_b3 w_3 hs n3 kb_b3
  refine Pn.sq ?_
  refine .al hs ?_; clear hs; intro p_b4 w_4 hs n4 kb_b4
  refine Pn.sq ?_
  refine .al hs ?_; clear hs; intro p_b5 w_5 hs n5 kb_b5
  apply Pn.wpSq_end
  refine hK1 _ _ ?_
  refine wp_seq_k ?_
  intro K2 hK2
  refine Pn.wp_region_f4 [(0, false), (1, false), (3, false), (4, false), (2, true), (5, true)] [8, 9] [6, 7] (fun j => if j = 6 then (.cells #[.bool false, .slice none 0 0, .bool false, .slice none 0 0] 26) else (.cells #[.bool false, .slice none 0 0, .bool false, .slice none 0 0] 26)) [0, 1, 99, 2, 3, 99, 99, 99, 99, 99] [] (.c hs.g4 (.c hs.g3 (.c hs.g2 (.c hs.g1 .n)))) (fm (fm fn)) (fun ch a' w' hd hx => And.intro hd (And.intro (congrArg Ending.panicked ((hIX ch w').1 hx).1) ((hIX ch w').1 hx).2)) fun w_6 n6 => ?_
  replace hs := hs.bl n6
  have hlB := hs.lt; have hkB := hs.k
  refine Pn.f4 ?_
  refine Pn.f4 ?_
  refine Pn.f4 ?_
  refine Pn.f4 ?_
  refine Pn.fl fun w_7 n7 => ?_
  replace hs := hs.bl n7
  intro K hK
  have k0_7 := ((((((kb n1).b n2).b n3).b n4).b n5).b n6).b n7
  replace ha1 := ha1.k k0_7
  replace ha2 := ha2.k k0_7
  replace hq1 := hq1.k k0_7
  replace hq2 := hq2.k k0_7
  clear hK
  go_big_op
  go_fit (res_zero (.mk' ha1 ha2) (.mk' hq1 hq2) (by omega) (by omega) (by omega) (by omega))
  rintro e w_8 ⟨rfl, hb_8⟩
  exact (hIX _ _).2 ⟨rfl, hs.b.trans (hb_8.mono hs.k)⟩
theorem both_zero2 (ha : PN w va x l y m) (hq : PN w vb u K v K) (hc : PN w vc a s b t) (hd : PN w vd 0 M 0 M) (hl : l ≤ 2200000) (hm : m ≤ 2200000) (hsz : s ≤ 2200000) (ht : t ≤ 2200000) (hKK : K ≤ 1100000) (hMM : M ≤ 1100000) (h0 : gN u v ≠ 0) :
    Calls Tryz.prog 52 #[va, vb, vc, vd] w fun e w' => e = .panicked [{ v := .iface 28 (.int .i64 5), recovered := false }] ∧ Below w.heap.size w w' := by
  have HH := hide h0
  clear h0
  obtain ⟨n_0a, o_0a, k_0a, c_0a, n_0b, o_0b, k_0b, c_0b, rfl, ha1, ha2⟩ := ha
  obtain ⟨n_1a, o_1a, k_1a, c_1a, n_1b, o_1b, k_1b, c_1b, rfl, hq1, hq2⟩ := hq
  obtain ⟨n_2a, o_2a, k_2a, c_2a, n_2b, o_2b, k_2b, c_2b, rfl, hc1, hc2⟩ := hc
  obtain ⟨n_3a, o_3a, k_3a, c_3a, n_3b, o_3b, k_3b, c_3b, rfl, hd1, hd2⟩ := hd
  go_enter Tryz.func52, Tryz.ntmps52
  have hs := St.nil w
  obtain ⟨IX, hIX⟩ : ∃ I : Pn.PX, ∀ ch w', I.X ch w' ↔ (ch = [{ v := .iface 28 (.int .i64 5), recovered := false }] ∧ Below w.heap.size w w') := ⟨⟨_⟩, fun _ _ => Iff.rfl⟩
  refine wp_seq_k ?_
  intro K1 hK1
  refine Pn.rg [0, 1, 2, 3, 4] (fun ch a' w' hd hx => And.intro hd (And.intro (congrArg Ending.panicked ((hIX ch w').1 hx).1) ((hIX ch w').1 hx).2)) ?_
  refine Pn.sq ?_
  refine .al hs ?_; clear hs; intro p_b1 w_1 hs n1 kb_b1
  refine Pn.sq ?_
  refine .al hs ?_; clear hs; intro p_b2 w_2 hs n2 kb_b2
  refine Pn.sq ?_
  refine .al hs ?_; clear hs; intro p_b3 w_3 hs n3 kb_b3
  refine Pn.sq ?_
  refine .al hs ?_; clear hs; intro p_b4 w_4 hs n4 kb_b4
  refine Pn.sq ?_
  refine .al hs ?_; clear hs; intro p_b5 w_5 hs n5 kb_b5
  apply Pn.wpSq_end
  refine hK1 _ _ ?_
  refine wp_seq_k ?_
  intro K2 hK2
  refine Pn.wp_region_f4 [(0, false), (1, false), (3, false), (4, false), (2, true), (5, true)] [8, 9] [6, 7] (fun j => if j = 6 then (.cells #[.bool false, .slice none 0 0, .bool false, .slice none 0 0] 26) else (.cells #[.bool false, .slice none 0 0, .bool false, .slice none 0 0] 26)) [0, 1, 99, 2, 3, 99, 99, 99, 99, 99] [] (.c hs.g4 (.c hs.g3 (.c hs.g2 (.c hs.g1 .n)))) (fm (fm fn)) (fun ch a' w' hd hx => And.intro hd (And.intro (congrArg Ending.panicked ((hIX ch w').1 hx).1) ((hIX ch w').1 hx).2)) fun w_6 n6 => ?_
  replace hs := hs.bl n6
  have hlB := hs.lt; have hkB := hs.k
  refine Pn.f4 ?_
  refine Pn.f4 ?_
  refine Pn.f4 ?_
  refine Pn.f4 ?_
  refine Pn.fl fun w_7 n7 => ?_
  replace hs := hs.bl n7
  intro K hK
  have k0_7 := ((((((kb n1).b n2).b n3).b n4).b n5).b n6).b n7
  replace ha1 := ha1.k k0_7
  replace ha2 := ha2.k k0_7
  replace hq1 := hq1.k k0_7
  replace hq2 := hq2.k k0_7
  go_big_op
  go_fit (res_any (PN.mk' ha1 ha2) (PN.mk' hq1 hq2) (by omega) (by omega) (by omega) HH.out)
  rintro e w_8 ⟨_, rfl, ⟨n_fa, o_fa, k_fa, c_fa, n_fb, o_fb, k_fb, c_fb, rfl, f1, f2⟩, hb_8⟩
  replace hs := hs.bl hb_8
  refine hK _ _ rfl ⟨hb_8, (And.intro hs.g4 (And.intro hs.g3 (And.intro hs.g2 (And.intro hs.g1 trivial))))⟩ ?_
  clear hK K
  refine Pn.fl fun w_9 n9 => ?_
  replace hs := hs.bl n9
  intro K hK
  have k0_9 := (k0_7.b hb_8).b n9
  replace hc1 := hc1.k k0_9
  replace hc2 := hc2.k k0_9
  replace hd1 := hd1.k k0_9
  replace hd2 := hd2.k k0_9
  clear hK
  go_big_op
  go_fit (res_zero (.mk' hc1 hc2) (.mk' hd1 hd2) (by omega) (by omega) (by omega) (by omega))
  rintro e w_10 ⟨rfl, hb_10⟩
  exact (hIX _ _).2 ⟨rfl, hs.b.trans (hb_10.mono hs.k)⟩
theorem crt1_any {p1 p2 p3 p4 : Nat} (ha : BP w p1 x l y m) (hq : BP w p2 u K v K) (hc : BP w p3 a s b t) (hd : BP w p4 p M q M) (hl : l ≤ 2200000) (hm : m ≤ 2200000) (hsz : s ≤ 2200000) (ht : t ≤ 2200000) (hKK : K ≤ 1100000) (hMM : M ≤ 1100000) (h0 : gN u v ≠ 0) (h1 : gN p q ≠ 0) (hI : gInv u v p q) :
    Calls Tryz.prog 51 #[.pointer (some ⟨p1, 0, none⟩), .pointer (some ⟨p2, 0, none⟩), .pointer (some ⟨p3, 0, none⟩), .pointer (some ⟨p4, 0, none⟩)] w fun e w' => ∃ r, e = .returned r ∧ PC w' r (cR1 x y u v a b p q) (cR2 x y u v a b p q) ∧ Below w.heap.size w w' := by
  obtain ⟨an1, ao1, ak1, ac1, an2, ao2, ak2, ac2, xa, a1, a2⟩ := ha
  obtain ⟨en1, eo1, ek1, ec1, en2, eo2, ek2, ec2, xe, e1, e2⟩ := hq
  obtain ⟨cn1, co1, ck1, cc1, cn2, co2, ck2, cc2, xc, c1, c2⟩ := hc
  obtain ⟨fn1, fo1, fk1, fc1, fn2, fo2, fk2, fc2, xf, f1, f2⟩ := hd
  have HH := hide (And.intro h0 (And.intro h1 hI))
  clear h0 h1 hI
  go_enter Tryz.func51, Tryz.ntmps51
  have hs := St.nil w
  have lt_xa := xa.lt
  have lt_xe := xe.lt
  have lt_xc := xc.lt
  have lt_xf := xf.lt
  refine wp_seq_k ?_
  intro K1 hK1
  refine rg [0] ?_
  refine sq ?_
  refine .al hs ?_; clear hs; intro p_b1 w_1 hs n1 kb_b1
  replace xa := xa.bl n1; replace xe := xe.bl n1; replace xc := xc.bl n1; replace xf := xf.bl n1
  apply wpSq_end
  refine hK1 _ _ ?_
  refine wp_seq_k ?_
  intro K2 hK2
  refine rg [0, 1, 2, 3, 4, 5] ?_
  refine sq ?_
  refine .r4 xa.f4 ?_
  refine sq ?_
  refine .r4 xe.f4 ?_
  refine sq ?_
  refine .r4 xc.f4 ?_
  refine sq ?_
  refine .r4 xf.f4 ?_
  refine sq ?_
  intro K hK
  have k0_1 := kb n1
  replace a1 := a1.k k0_1
  replace a2 := a2.k k0_1
  replace e1 := e1.k k0_1
  replace e2 := e2.k k0_1
  replace c1 := c1.k k0_1
  replace c2 := c2.k k0_1
  replace f1 := f1.k k0_1
  replace f2 := f2.k k0_1
  go_big_op
  go_fit (both_any (.mk' a1 a2) (.mk' e1 e2) (.mk' c1 c2) (.mk' f1 f2) hl hm hsz ht hKK hMM HH.out.1 HH.out.2.1 HH.out.2.2)
  rintro e w_2 ⟨_, rfl, ⟨n_ra, o_ra, k_ra, c_ra, n_rb, o_rb, k_rb, c_rb, rfl, r1, r2⟩, hb_2⟩
  replace hs := hs.bl hb_2
  refine hK _ _ rfl trivial ?_
  clear hK K
  refine sq ?_
  refine .s4 hs.g0 (fun _ => hs.u0 kb_b1) ?_; clear hs; intro w_3 hs hd3 ho3
  clear xa xe xc xf a1 a2 e1 e2 c1 c2 f1 f2
  apply wpSq_end
  refine hK2 _ _ ?_
  refine wp_ret ?_
  try dsimp only [Exit.then, Exit.inBlock]
  obtain ⟨r0_0, r0_1, r0_2, r0_3⟩ := hs.g0.f4
  refine bodyPost_ret (v := (.agg #[.bool n_ra, .slice o_ra k_ra c_ra, .bool n_rb, .slice o_rb k_rb c_rb])) (by simp [results, Tryz.results51, go_sem, r0_0, r0_1, r0_2, r0_3]) rfl ?_
  have k2_3 := ko hd3 ho3
  replace r1 := r1.k k2_3
  replace r2 := r2.k k2_3
  exact ⟨_, rfl, .mk' r1 r2, hs.b⟩
theorem crt1_none {p1 p2 p3 p4 : Nat} (ha : BP w p1 x l y m) (hq : BP w p2 u K v K) (hc : BP w p3 a s b t) (hd : BP w p4 p M q M) (hl : l ≤ 2200000) (hm : m ≤ 2200000) (hsz : s ≤ 2200000) (ht : t ≤ 2200000) (hKK : K ≤ 1100000) (hMM : M ≤ 1100000) (h0 : gN u v ≠ 0) (h1 : gN p q ≠ 0) (hI : ¬ gInv u v p q) :
    Calls Tryz.prog 51 #[.pointer (some ⟨p1, 0, none⟩), .pointer (some ⟨p2, 0, none⟩), .pointer (some ⟨p3, 0, none⟩), .pointer (some ⟨p4, 0, none⟩)] w fun e w' => e = .panicked [{ v := .iface 28 (.int .i64 10), recovered := false }] ∧ Below w.heap.size w w' := by
  obtain ⟨an1, ao1, ak1, ac1, an2, ao2, ak2, ac2, xa, a1, a2⟩ := ha
  obtain ⟨en1, eo1, ek1, ec1, en2, eo2, ek2, ec2, xe, e1, e2⟩ := hq
  obtain ⟨cn1, co1, ck1, cc1, cn2, co2, ck2, cc2, xc, c1, c2⟩ := hc
  obtain ⟨fn1, fo1, fk1, fc1, fn2, fo2, fk2, fc2, xf, f1, f2⟩ := hd
  have HH := hide (And.intro h0 (And.intro h1 hI))
  clear h0 h1 hI
  go_enter Tryz.func51, Tryz.ntmps51
  have hs := St.nil w
  have lt_xa := xa.lt
  have lt_xe := xe.lt
  have lt_xc := xc.lt
  have lt_xf := xf.lt
  obtain ⟨IX, hIX⟩ : ∃ I : Pn.PX, ∀ ch w', I.X ch w' ↔ (ch = [{ v := .iface 28 (.int .i64 10), recovered := false }] ∧ Below w.heap.size w w') := ⟨⟨_⟩, fun _ _ => Iff.rfl⟩
  refine wp_seq_k ?_
  intro K1 hK1
  refine Pn.rg [0] (fun ch a' w' hd hx => And.intro hd (And.intro (congrArg Ending.panicked ((hIX ch w').1 hx).1) ((hIX ch w').1 hx).2)) ?_
  refine Pn.sq ?_
  refine .al hs ?_; clear hs; intro p_b1 w_1 hs n1 kb_b1
  replace xa := xa.bl n1; replace xe := xe.bl n1; replace xc := xc.bl n1; replace xf := xf.bl n1
  apply Pn.wpSq_end
  refine hK1 _ _ ?_
  refine wp_seq_k ?_
  intro K2 hK2
  refine Pn.rg [0, 1, 2, 3, 4, 5] (fun ch a' w' hd hx => And.intro hd (And.intro (congrArg Ending.panicked ((hIX ch w').1 hx).1) ((hIX ch w').1 hx).2)) ?_
  refine Pn.sq ?_
  refine .r4 xa.f4 ?_
  refine Pn.sq ?_
  refine .r4 xe.f4 ?_
  refine Pn.sq ?_
  refine .r4 xc.f4 ?_
  refine Pn.sq ?_
  refine .r4 xf.f4 ?_
  refine Pn.sq ?_
  intro K hK
  have k0_1 := kb n1
  replace a1 := a1.k k0_1
  replace a2 := a2.k k0_1
  replace e1 := e1.k k0_1
  replace e2 := e2.k k0_1
  replace c1 := c1.k k0_1
  replace c2 := c2.k k0_1
  replace f1 := f1.k k0_1
  replace f2 := f2.k k0_1
  clear hK
  go_big_op
  go_fit (both_none (.mk' a1 a2) (.mk' e1 e2) (.mk' c1 c2) (.mk' f1 f2) hl hm hsz ht hKK hMM HH.out.1 HH.out.2.1 HH.out.2.2)
  rintro e w_2 ⟨rfl, hb_2⟩
  exact (hIX _ _).2 ⟨rfl, hs.b.trans (hb_2.mono hs.k)⟩
theorem crt1_zero1 {p1 p2 p3 p4 : Nat} (ha : BP w p1 x l y m) (hq : BP w p2 0 K 0 K) (hc : BP w p3 a s b t) (hd : BP w p4 p M q M) (hl : l ≤ 2200000) (hm : m ≤ 2200000) (hsz : s ≤ 2200000) (ht : t ≤ 2200000) (hKK : K ≤ 1100000) (hMM : M ≤ 1100000) :
    Calls Tryz.prog 51 #[.pointer (some ⟨p1, 0, none⟩), .pointer (some ⟨p2, 0, none⟩), .pointer (some ⟨p3, 0, none⟩), .pointer (some ⟨p4, 0, none⟩)] w fun e w' => e = .panicked [{ v := .iface 28 (.int .i64 5), recovered := false }] ∧ Below w.heap.size w w' := by
  obtain ⟨an1, ao1, ak1, ac1, an2, ao2, ak2, ac2, xa, a1, a2⟩ := ha
  obtain ⟨en1, eo1, ek1, ec1, en2, eo2, ek2, ec2, xe, e1, e2⟩ := hq
  obtain ⟨cn1, co1, ck1, cc1, cn2, co2, ck2, cc2, xc, c1, c2⟩ := hc
  obtain ⟨fn1, fo1, fk1, fc1, fn2, fo2, fk2, fc2, xf, f1, f2⟩ := hd
  go_enter Tryz.func51, Tryz.ntmps51
  have hs := St.nil w
  have lt_xa := xa.lt
  have lt_xe := xe.lt
  have lt_xc := xc.lt
  have lt_xf := xf.lt
  obtain ⟨IX, hIX⟩ : ∃ I : Pn.PX, ∀ ch w', I.X ch w' ↔ (ch = [{ v := .iface 28 (.int .i64 5), recovered := false }] ∧ Below w.heap.size w w') := ⟨⟨_⟩, fun _ _ => Iff.rfl⟩
  refine wp_seq_k ?_
  intro K1 hK1
  refine Pn.rg [0] (fun ch a' w' hd hx => And.intro hd (And.intro (congrArg Ending.panicked ((hIX ch w').1 hx).1) ((hIX ch w').1 hx).2)) ?_
  refine Pn.sq ?_
  refine .al hs ?_; clear hs; intro p_b1 w_1 hs n1 kb_b1
  replace xa := xa.bl n1; replace xe := xe.bl n1; replace xc := xc.bl n1; replace xf := xf.bl n1
  apply Pn.wpSq_end
  refine hK1 _ _ ?_
  refine wp_seq_k ?_
  intro K2 hK2
  refine Pn.rg [0, 1, 2, 3, 4, 5] (fun ch a' w' hd hx => And.intro hd (And.intro (congrArg Ending.panicked ((hIX ch w').1 hx).1) ((hIX ch w').1 hx).2)) ?_
  refine Pn.sq ?_
  refine .r4 xa.f4 ?_
  refine Pn.sq ?_
  refine .r4 xe.f4 ?_
  refine Pn.sq ?_
  refine .r4 xc.f4 ?_
  refine Pn.sq ?_
  refine .r4 xf.f4 ?_
  refine Pn.sq ?_
  intro K hK
  have k0_1 := kb n1
  replace a1 := a1.k k0_1
  replace a2 := a2.k k0_1
  replace e1 := e1.k k0_1
  replace e2 := e2.k k0_1
  replace c1 := c1.k k0_1
  replace c2 := c2.k k0_1
  replace f1 := f1.k k0_1
  replace f2 := f2.k k0_1
  clear hK
  go_big_op
  go_fit (both_zero1 (.mk' a1 a2) (.mk' e1 e2) (.mk' c1 c2) (.mk' f1 f2) hl hm hsz ht hKK hMM)
  rintro e w_2 ⟨rfl, hb_2⟩
  exact (hIX _ _).2 ⟨rfl, hs.b.trans (hb_2.mono hs.k)⟩
theorem crt1_zero2 {p1 p2 p3 p4 : Nat} (ha : BP w p1 x l y m) (hq : BP w p2 u K v K) (hc : BP w p3 a s b t) (hd : BP w p4 0 M 0 M) (hl : l ≤ 2200000) (hm : m ≤ 2200000) (hsz : s ≤ 2200000) (ht : t ≤ 2200000) (hKK : K ≤ 1100000) (hMM : M ≤ 1100000) (h0 : gN u v ≠ 0) :
    Calls Tryz.prog 51 #[.pointer (some ⟨p1, 0, none⟩), .pointer (some ⟨p2, 0, none⟩), .pointer (some ⟨p3, 0, none⟩), .pointer (some ⟨p4, 0, none⟩)] w fun e w' => e = .panicked [{ v := .iface 28 (.int .i64 5), recovered := false }] ∧ Below w.heap.size w w' := by
  obtain ⟨an1, ao1, ak1, ac1, an2, ao2, ak2, ac2, xa, a1, a2⟩ := ha
  obtain ⟨en1, eo1, ek1, ec1, en2, eo2, ek2, ec2, xe, e1, e2⟩ := hq
  obtain ⟨cn1, co1, ck1, cc1, cn2, co2, ck2, cc2, xc, c1, c2⟩ := hc
  obtain ⟨fn1, fo1, fk1, fc1, fn2, fo2, fk2, fc2, xf, f1, f2⟩ := hd
  have HH := hide h0
  clear h0
  go_enter Tryz.func51, Tryz.ntmps51
  have hs := St.nil w
  have lt_xa := xa.lt
  have lt_xe := xe.lt
  have lt_xc := xc.lt
  have lt_xf := xf.lt
  obtain ⟨IX, hIX⟩ : ∃ I : Pn.PX, ∀ ch w', I.X ch w' ↔ (ch = [{ v := .iface 28 (.int .i64 5), recovered := false }] ∧ Below w.heap.size w w') := ⟨⟨_⟩, fun _ _ => Iff.rfl⟩
  refine wp_seq_k ?_
  intro K1 hK1
  refine Pn.rg [0] (fun ch a' w' hd hx => And.intro hd (And.intro (congrArg Ending.panicked ((hIX ch w').1 hx).1) ((hIX ch w').1 hx).2)) ?_
  refine Pn.sq ?_
  refine .al hs ?_; clear hs; intro p_b1 w_1 hs n1 kb_b1
  replace xa := xa.bl n1; replace xe := xe.bl n1; replace xc := xc.bl n1; replace xf := xf.bl n1
  apply Pn.wpSq_end
  refine hK1 _ _ ?_
  refine wp_seq_k ?_
  intro K2 hK2
  refine Pn.rg [0, 1, 2, 3, 4, 5] (fun ch a' w' hd hx => And.intro hd (And.intro (congrArg Ending.panicked ((hIX ch w').1 hx).1) ((hIX ch w').1 hx).2)) ?_
  refine Pn.sq ?_
  refine .r4 xa.f4 ?_
  refine Pn.sq ?_
  refine .r4 xe.f4 ?_
  refine Pn.sq ?_
  refine .r4 xc.f4 ?_
  refine Pn.sq ?_
  refine .r4 xf.f4 ?_
  refine Pn.sq ?_
  intro K hK
  have k0_1 := kb n1
  replace a1 := a1.k k0_1
  replace a2 := a2.k k0_1
  replace e1 := e1.k k0_1
  replace e2 := e2.k k0_1
  replace c1 := c1.k k0_1
  replace c2 := c2.k k0_1
  replace f1 := f1.k k0_1
  replace f2 := f2.k k0_1
  clear hK
  go_big_op
  go_fit (both_zero2 (.mk' a1 a2) (.mk' e1 e2) (.mk' c1 c2) (.mk' f1 f2) hl hm hsz ht hKK hMM HH.out)
  rintro e w_2 ⟨rfl, hb_2⟩
  exact (hIX _ _).2 ⟨rfl, hs.b.trans (hb_2.mono hs.k)⟩
theorem gCrt_any (ha : PN w va x l y m) (hq : PN w vb u K v K) (hc : PN w vc a s b t) (hd : PN w vd p M q M) (hl : l ≤ 2200000) (hm : m ≤ 2200000) (hsz : s ≤ 2200000) (ht : t ≤ 2200000) (hKK : K ≤ 1100000) (hMM : M ≤ 1100000) (h0 : gN u v ≠ 0) (h1 : gN p q ≠ 0) (hI : gInv u v p q) :
    Calls Tryz.prog 18 #[va, vb, vc, vd] w fun e w' => ∃ r, e = .returned (.tuple #[r, .int .i64 0]) ∧ PC w' r (cR1 x y u v a b p q) (cR2 x y u v a b p q) ∧ Below w.heap.size w w' := by
  have HH := hide (And.intro h0 (And.intro h1 hI))
  clear h0 h1 hI
  obtain ⟨n_0a, o_0a, k_0a, c_0a, n_0b, o_0b, k_0b, c_0b, rfl, ha1, ha2⟩ := ha
  obtain ⟨n_1a, o_1a, k_1a, c_1a, n_1b, o_1b, k_1b, c_1b, rfl, hq1, hq2⟩ := hq
  obtain ⟨n_2a, o_2a, k_2a, c_2a, n_2b, o_2b, k_2b, c_2b, rfl, hc1, hc2⟩ := hc
  obtain ⟨n_3a, o_3a, k_3a, c_3a, n_3b, o_3b, k_3b, c_3b, rfl, hd1, hd2⟩ := hd
  go_enter Tryz.func18, Tryz.ntmps18
  have hs := St.nil w
  refine wp_seq_k ?_
  intro K1 hK1
  refine rg [0, 1, 2, 3, 4, 5] ?_
  refine sq ?_
  refine .al hs ?_; clear hs; intro p_b1 w_1 hs n1 kb_b1
  refine sq ?_
  refine .al hs ?_; clear hs; intro p_b2 w_2 hs n2 kb_b2
  refine sq ?_
  refine .al hs ?_; clear hs; intro p_b3 w_3 hs n3 kb_b3
  refine sq ?_
  refine .al hs ?_; clear hs; intro p_b4 w_4 hs n4 kb_b4
  refine sq ?_
  refine .al hs ?_; clear hs; intro p_b5 w_5 hs n5 kb_b5
  refine sq ?_
  refine .mv ?_
  apply wpSq_end
  refine hK1 _ _ ?_
  refine wp_seq_k ?_
  intro K2 hK2
  refine rg [0, 1, 2, 3, 4, 5] ?_
  refine sq ?_
  refine .r0 ?_
  refine sq ?_
  intro K hK
  have x_b1 := hs.g4
  have k0_5 := ((((kb n1).b n2).b n3).b n4).b n5
  replace ha1 := ha1.k k0_5
  replace ha2 := ha2.k k0_5
  have x_b2 := hs.g3
  replace hq1 := hq1.k k0_5
  replace hq2 := hq2.k k0_5
  have x_b3 := hs.g2
  replace hc1 := hc1.k k0_5
  replace hc2 := hc2.k k0_5
  have x_b4 := hs.g1
  replace hd1 := hd1.k k0_5
  replace hd2 := hd2.k k0_5
  go_big_op
  go_fit (ansG_ok (fun _ ↦ by kernel_rfl) (fun w1 h ↦ crt1_any (.mk' (x_b1.bl h) (ha1.bl h) (ha2.bl h)) (.mk' (x_b2.bl h) (hq1.bl h) (hq2.bl h)) (.mk' (x_b3.bl h) (hc1.bl h) (hc2.bl h)) (.mk' (x_b4.bl h) (hd1.bl h) (hd2.bl h)) hl hm hsz ht hKK hMM HH.out.1 HH.out.2.1 HH.out.2.2))
  rintro e w_6 ⟨_, rfl, ⟨n_ra, o_ra, k_ra, c_ra, n_rb, o_rb, k_rb, c_rb, rfl, r1, r2⟩, hb_6⟩
  clear x_b1 x_b2 x_b3 x_b4
  replace hs := hs.bl hb_6
  refine hK _ _ rfl trivial ?_
  clear hK K
  refine sq ?_
  refine .r0 ?_
  refine sq ?_
  refine .r0 ?_
  refine sq ?_
  refine .s4 hs.g0 (fun _ => hs.u0 kb_b5) ?_; clear hs; intro w_7 hs hd7 ho7
  clear ha1 ha2 hq1 hq2 hc1 hc2 hd1 hd2
  refine sq ?_
  refine .mv ?_
  apply wpSq_end
  refine hK2 _ _ ?_
  refine wp_ret ?_
  try dsimp only [Exit.then, Exit.inBlock]
  obtain ⟨r0_0, r0_1, r0_2, r0_3⟩ := hs.g0.f4
  refine bodyPost_ret (v := (.tuple #[(.agg #[.bool n_ra, .slice o_ra k_ra c_ra, .bool n_rb, .slice o_rb k_rb c_rb]), (.int .i64 0)])) (by simp [results, Tryz.results18, go_sem, r0_0, r0_1, r0_2, r0_3]) rfl ?_
  have k6_7 := ko hd7 ho7
  replace r1 := r1.k k6_7
  replace r2 := r2.k k6_7
  exact ⟨_, rfl, .mk' r1 r2, hs.b⟩
theorem gCrt_none (ha : PN w va x l y m) (hq : PN w vb u K v K) (hc : PN w vc a s b t) (hd : PN w vd p M q M) (hl : l ≤ 2200000) (hm : m ≤ 2200000) (hsz : s ≤ 2200000) (ht : t ≤ 2200000) (hKK : K ≤ 1100000) (hMM : M ≤ 1100000) (h0 : gN u v ≠ 0) (h1 : gN p q ≠ 0) (hI : ¬ gInv u v p q) :
    Calls Tryz.prog 18 #[va, vb, vc, vd] w fun e w' => e = .returned (.tuple #[.agg #[.bool false, .slice none 0 0, .bool false, .slice none 0 0], .int .i64 10]) ∧ Below w.heap.size w w' := by
  have HH := hide (And.intro h0 (And.intro h1 hI))
  clear h0 h1 hI
  obtain ⟨n_0a, o_0a, k_0a, c_0a, n_0b, o_0b, k_0b, c_0b, rfl, ha1, ha2⟩ := ha
  obtain ⟨n_1a, o_1a, k_1a, c_1a, n_1b, o_1b, k_1b, c_1b, rfl, hq1, hq2⟩ := hq
  obtain ⟨n_2a, o_2a, k_2a, c_2a, n_2b, o_2b, k_2b, c_2b, rfl, hc1, hc2⟩ := hc
  obtain ⟨n_3a, o_3a, k_3a, c_3a, n_3b, o_3b, k_3b, c_3b, rfl, hd1, hd2⟩ := hd
  go_enter Tryz.func18, Tryz.ntmps18
  have hs := St.nil w
  refine wp_seq_k ?_
  intro K1 hK1
  refine rg [0, 1, 2, 3, 4, 5] ?_
  refine sq ?_
  refine .al hs ?_; clear hs; intro p_b1 w_1 hs n1 kb_b1
  refine sq ?_
  refine .al hs ?_; clear hs; intro p_b2 w_2 hs n2 kb_b2
  refine sq ?_
  refine .al hs ?_; clear hs; intro p_b3 w_3 hs n3 kb_b3
  refine sq ?_
  refine .al hs ?_; clear hs; intro p_b4 w_4 hs n4 kb_b4
  refine sq ?_
  refine .al hs ?_; clear hs; intro p_b5 w_5 hs n5 kb_b5
  refine sq ?_
  refine .mv ?_
  apply wpSq_end
  refine hK1 _ _ ?_
  refine wp_seq_k ?_
  intro K2 hK2
  refine rg [0, 1, 2, 3, 4, 5] ?_
  refine sq ?_
  refine .r0 ?_
  refine sq ?_
  intro K hK
  have x_b1 := hs.g4
  have k0_5 := ((((kb n1).b n2).b n3).b n4).b n5
  replace ha1 := ha1.k k0_5
  replace ha2 := ha2.k k0_5
  have x_b2 := hs.g3
  replace hq1 := hq1.k k0_5
  replace hq2 := hq2.k k0_5
  have x_b3 := hs.g2
  replace hc1 := hc1.k k0_5
  replace hc2 := hc2.k k0_5
  have x_b4 := hs.g1
  replace hd1 := hd1.k k0_5
  replace hd2 := hd2.k k0_5
  go_big_op
  go_fit (ansG_bad (fun _ ↦ by kernel_rfl) (fun w1 h ↦ crt1_none (.mk' (x_b1.bl h) (ha1.bl h) (ha2.bl h)) (.mk' (x_b2.bl h) (hq1.bl h) (hq2.bl h)) (.mk' (x_b3.bl h) (hc1.bl h) (hc2.bl h)) (.mk' (x_b4.bl h) (hd1.bl h) (hd2.bl h)) hl hm hsz ht hKK hMM HH.out.1 HH.out.2.1 HH.out.2.2))
  rintro e w_6 ⟨rfl, hb_6⟩
  clear x_b1 x_b2 x_b3 x_b4
  replace hs := hs.bl hb_6
  refine hK _ _ rfl trivial ?_
  clear hK K
  refine sq ?_
  refine .r0 ?_
  refine sq ?_
  refine .r0 ?_
  refine sq ?_
  refine .s4 hs.g0 (fun _ => hs.u0 kb_b5) ?_; clear hs; intro w_7 hs hd7 ho7
  clear ha1 ha2 hq1 hq2 hc1 hc2 hd1 hd2
  refine sq ?_
  refine .mv ?_
  apply wpSq_end
  refine hK2 _ _ ?_
  refine wp_ret ?_
  try dsimp only [Exit.then, Exit.inBlock]
  obtain ⟨r0_0, r0_1, r0_2, r0_3⟩ := hs.g0.f4
  refine bodyPost_ret (v := (.tuple #[(.agg #[.bool false, .slice none 0 0, .bool false, .slice none 0 0]), (.int .i64 10)])) (by simp [results, Tryz.results18, go_sem, r0_0, r0_1, r0_2, r0_3]) rfl ?_
  have hb := hs.b
  exact ⟨rfl, hb⟩
theorem gCrt_zero1 (ha : PN w va x l y m) (hq : PN w vb 0 K 0 K) (hc : PN w vc a s b t) (hd : PN w vd p M q M) (hl : l ≤ 2200000) (hm : m ≤ 2200000) (hsz : s ≤ 2200000) (ht : t ≤ 2200000) (hKK : K ≤ 1100000) (hMM : M ≤ 1100000) :
    Calls Tryz.prog 18 #[va, vb, vc, vd] w fun e w' => e = .returned (.tuple #[.agg #[.bool false, .slice none 0 0, .bool false, .slice none 0 0], .int .i64 5]) ∧ Below w.heap.size w w' := by
  obtain ⟨n_0a, o_0a, k_0a, c_0a, n_0b, o_0b, k_0b, c_0b, rfl, ha1, ha2⟩ := ha
  obtain ⟨n_1a, o_1a, k_1a, c_1a, n_1b, o_1b, k_1b, c_1b, rfl, hq1, hq2⟩ := hq
  obtain ⟨n_2a, o_2a, k_2a, c_2a, n_2b, o_2b, k_2b, c_2b, rfl, hc1, hc2⟩ := hc
  obtain ⟨n_3a, o_3a, k_3a, c_3a, n_3b, o_3b, k_3b, c_3b, rfl, hd1, hd2⟩ := hd
  go_enter Tryz.func18, Tryz.ntmps18
  have hs := St.nil w
  refine wp_seq_k ?_
  intro K1 hK1
  refine rg [0, 1, 2, 3, 4, 5] ?_
  refine sq ?_
  refine .al hs ?_; clear hs; intro p_b1 w_1 hs n1 kb_b1
  refine sq ?_
  refine .al hs ?_; clear hs; intro p_b2 w_2 hs n2 kb_b2
  refine sq ?_
  refine .al hs ?_; clear hs; intro p_b3 w_3 hs n3 kb_b3
  refine sq ?_
  refine .al hs ?_; clear hs; intro p_b4 w_4 hs n4 kb_b4
  refine sq ?_
  refine .al hs ?_; clear hs; intro p_b5 w_5 hs n5 kb_b5
  refine sq ?_
  refine .mv ?_
  apply wpSq_end
  refine hK1 _ _ ?_
  refine wp_seq_k ?_
  intro K2 hK2
  refine rg [0, 1, 2, 3, 4, 5] ?_
  refine sq ?_
  refine .r0 ?_
  refine sq ?_
  intro K hK
  have x_b1 := hs.g4
  have k0_5 := ((((kb n1).b n2).b n3).b n4).b n5
  replace ha1 := ha1.k k0_5
  replace ha2 := ha2.k k0_5
  have x_b2 := hs.g3
  replace hq1 := hq1.k k0_5
  replace hq2 := hq2.k k0_5
  have x_b3 := hs.g2
  replace hc1 := hc1.k k0_5
  replace hc2 := hc2.k k0_5
  have x_b4 := hs.g1
  replace hd1 := hd1.k k0_5
  replace hd2 := hd2.k k0_5
  go_big_op
  go_fit (ansG_bad (fun _ ↦ by kernel_rfl) (fun w1 h ↦ crt1_zero1 (.mk' (x_b1.bl h) (ha1.bl h) (ha2.bl h)) (.mk' (x_b2.bl h) (hq1.bl h) (hq2.bl h)) (.mk' (x_b3.bl h) (hc1.bl h) (hc2.bl h)) (.mk' (x_b4.bl h) (hd1.bl h) (hd2.bl h)) hl hm hsz ht hKK hMM))
  rintro e w_6 ⟨rfl, hb_6⟩
  clear x_b1 x_b2 x_b3 x_b4
  replace hs := hs.bl hb_6
  refine hK _ _ rfl trivial ?_
  clear hK K
  refine sq ?_
  refine .r0 ?_
  refine sq ?_
  refine .r0 ?_
  refine sq ?_
  refine .s4 hs.g0 (fun _ => hs.u0 kb_b5) ?_; clear hs; intro w_7 hs hd7 ho7
  clear ha1 ha2 hq1 hq2 hc1 hc2 hd1 hd2
  refine sq ?_
  refine .mv ?_
  apply wpSq_end
  refine hK2 _ _ ?_
  refine wp_ret ?_
  try dsimp only [Exit.then, Exit.inBlock]
  obtain ⟨r0_0, r0_1, r0_2, r0_3⟩ := hs.g0.f4
  refine bodyPost_ret (v := (.tuple #[(.agg #[.bool false, .slice none 0 0, .bool false, .slice none 0 0]), (.int .i64 5)])) (by simp [results, Tryz.results18, go_sem, r0_0, r0_1, r0_2, r0_3]) rfl ?_
  have hb := hs.b
  exact ⟨rfl, hb⟩
theorem gCrt_zero2 (ha : PN w va x l y m) (hq : PN w vb u K v K) (hc : PN w vc a s b t) (hd : PN w vd 0 M 0 M) (hl : l ≤ 2200000) (hm : m ≤ 2200000) (hsz : s ≤ 2200000) (ht : t ≤ 2200000) (hKK : K ≤ 1100000) (hMM : M ≤ 1100000) (h0 : gN u v ≠ 0) :
    Calls Tryz.prog 18 #[va, vb, vc, vd] w fun e w' => e = .returned (.tuple #[.agg #[.bool false, .slice none 0 0, .bool false, .slice none 0 0], .int .i64 5]) ∧ Below w.heap.size w w' := by
  have HH := hide h0
  clear h0
  obtain ⟨n_0a, o_0a, k_0a, c_0a, n_0b, o_0b, k_0b, c_0b, rfl, ha1, ha2⟩ := ha
  obtain ⟨n_1a, o_1a, k_1a, c_1a, n_1b, o_1b, k_1b, c_1b, rfl, hq1, hq2⟩ := hq
  obtain ⟨n_2a, o_2a, k_2a, c_2a, n_2b, o_2b, k_2b, c_2b, rfl, hc1, hc2⟩ := hc
  obtain ⟨n_3a, o_3a, k_3a, c_3a, n_3b, o_3b, k_3b, c_3b, rfl, hd1, hd2⟩ := hd
  go_enter Tryz.func18, Tryz.ntmps18
  have hs := St.nil w
  refine wp_seq_k ?_
  intro K1 hK1
  refine rg [0, 1, 2, 3, 4, 5] ?_
  refine sq ?_
  refine .al hs ?_; clear hs; intro p_b1 w_1 hs n1 kb_b1
  refine sq ?_
  refine .al hs ?_; clear hs; intro p_b2 w_2 hs n2 kb_b2
  refine sq ?_
  refine .al hs ?_; clear hs; intro p_b3 w_3 hs n3 kb_b3
  refine sq ?_
  refine .al hs ?_; clear hs; intro p_b4 w_4 hs n4 kb_b4
  refine sq ?_
  refine .al hs ?_; clear hs; intro p_b5 w_5 hs n5 kb_b5
  refine sq ?_
  refine .mv ?_
  apply wpSq_end
  refine hK1 _ _ ?_
  refine wp_seq_k ?_
  intro K2 hK2
  refine rg [0, 1, 2, 3, 4, 5] ?_
  refine sq ?_
  refine .r0 ?_
  refine sq ?_
  intro K hK
  have x_b1 := hs.g4
  have k0_5 := ((((kb n1).b n2).b n3).b n4).b n5
  replace ha1 := ha1.k k0_5
  replace ha2 := ha2.k k0_5
  have x_b2 := hs.g3
  replace hq1 := hq1.k k0_5
  replace hq2 := hq2.k k0_5
  have x_b3 := hs.g2
  replace hc1 := hc1.k k0_5
  replace hc2 := hc2.k k0_5
  have x_b4 := hs.g1
  replace hd1 := hd1.k k0_5
  replace hd2 := hd2.k k0_5
  go_big_op
  go_fit (ansG_bad (fun _ ↦ by kernel_rfl) (fun w1 h ↦ crt1_zero2 (.mk' (x_b1.bl h) (ha1.bl h) (ha2.bl h)) (.mk' (x_b2.bl h) (hq1.bl h) (hq2.bl h)) (.mk' (x_b3.bl h) (hc1.bl h) (hc2.bl h)) (.mk' (x_b4.bl h) (hd1.bl h) (hd2.bl h)) hl hm hsz ht hKK hMM HH.out))
  rintro e w_6 ⟨rfl, hb_6⟩
  clear x_b1 x_b2 x_b3 x_b4
  replace hs := hs.bl hb_6
  refine hK _ _ rfl trivial ?_
  clear hK K
  refine sq ?_
  refine .r0 ?_
  refine sq ?_
  refine .r0 ?_
  refine sq ?_
  refine .s4 hs.g0 (fun _ => hs.u0 kb_b5) ?_; clear hs; intro w_7 hs hd7 ho7
  clear ha1 ha2 hq1 hq2 hc1 hc2 hd1 hd2
  refine sq ?_
  refine .mv ?_
  apply wpSq_end
  refine hK2 _ _ ?_
  refine wp_ret ?_
  try dsimp only [Exit.then, Exit.inBlock]
  obtain ⟨r0_0, r0_1, r0_2, r0_3⟩ := hs.g0.f4
  refine bodyPost_ret (v := (.tuple #[(.agg #[.bool false, .slice none 0 0, .bool false, .slice none 0 0]), (.int .i64 5)])) (by simp [results, Tryz.results18, go_sem, r0_0, r0_1, r0_2, r0_3]) rfl ?_
  have hb := hs.b
  exact ⟨rfl, hb⟩
end
end Go.Proofs.YtbiiglcfdphmaaaGreat

/- The law's is, told, g, awake; the reference's One, Inverse, Crt. -/
namespace Go.Proofs.YtbiiglcfdphmaaaGreat
open Go Go.RowKit Dig
set_option maxHeartbeats 8000000
set_option maxRecDepth 20000
set_option linter.unusedVariables false
section
variable {w : World} {va vb vc vd : Value} {x y u v a b p q : Int} {l m k n s t K M : Nat}
theorem g5is_any (ha : PC w va x y) (hq : PN w vb x l y m) (hl : l ≤ 90000000) (hm : m ≤ 90000000) :
    Calls Tryz.prog 46 #[va, vb] w fun e w' => e = .returned (.bool true) ∧ Below w.heap.size w w' := by
  obtain ⟨n_0a, o_0a, k_0a, c_0a, n_0b, o_0b, k_0b, c_0b, rfl, ha1, ha2⟩ := ha
  obtain ⟨n_1a, o_1a, k_1a, c_1a, n_1b, o_1b, k_1b, c_1b, rfl, hq1, hq2⟩ := hq
  go_enter Tryz.func46, Tryz.ntmps46
  have hs := St.nil w
  refine wp_seq_k ?_
  intro K1 hK1
  refine rg [0, 1, 2] ?_
  refine sq ?_
  refine .al hs ?_; clear hs; intro p_b1 w_1 hs n1 kb_b1
  refine sq ?_
  refine .al hs ?_; clear hs; intro p_b2 w_2 hs n2 kb_b2
  refine sq ?_
  refine .mv ?_
  apply wpSq_end
  refine hK1 _ _ ?_
  refine wp_seq_k ?_
  intro K2 hK2
  refine rg [0, 1, 2, 3] ?_
  refine sq ?_
  refine .r4 hs.g1.f4 ?_
  refine sq ?_
  refine .r4 hs.g0.f4 ?_
  refine sq ?_
  intro K hK
  have k0_2 := (kb n1).b n2
  replace ha1 := ha1.k k0_2
  replace ha2 := ha2.k k0_2
  replace hq1 := hq1.k k0_2
  replace hq2 := hq2.k k0_2
  go_big_op
  go_fit (rgSame_any (PC.mk' ha1 ha2) (PN.mk' hq1 hq2) (by omega) (by omega) )
  rintro e w_3 ⟨rfl, hb_3⟩
  replace hs := hs.bl hb_3
  refine hK _ _ rfl trivial ?_
  clear hK K
  refine sq ?_
  refine .mv ?_
  apply wpSq_end
  refine hK2 _ _ ?_
  refine wp_ret ?_
  try dsimp only [Exit.then, Exit.inBlock]
  refine bodyPost_ret (v := (.bool true)) (by simp [results, Tryz.results46, go_sem]) rfl ?_
  have hb := hs.b
  exact ⟨rfl, hb⟩
theorem told_ok (ha : PC w va x y) (hq : PN w vb x l y m) (hl : l ≤ 80000000) (hm : m ≤ 80000000) :
    Calls Tryz.prog 15 #[va, .int .i64 0, vb, .int .i64 0] w fun e w' => e = .returned (.bool true) ∧ Below w.heap.size w w' := by
  obtain ⟨n_0a, o_0a, k_0a, c_0a, n_0b, o_0b, k_0b, c_0b, rfl, ha1, ha2⟩ := ha
  obtain ⟨n_2a, o_2a, k_2a, c_2a, n_2b, o_2b, k_2b, c_2b, rfl, hq1, hq2⟩ := hq
  go_enter Tryz.func15, Tryz.ntmps15
  have hs := St.nil w
  refine wp_seq_k ?_
  intro K1 hK1
  refine rg [0, 1, 2] ?_
  refine sq ?_
  refine .al hs ?_; clear hs; intro p_b1 w_1 hs n1 kb_b1
  refine sq ?_
  refine .al hs ?_; clear hs; intro p_b2 w_2 hs n2 kb_b2
  refine sq ?_
  refine .mv ?_
  apply wpSq_end
  refine hK1 _ _ ?_
  refine wp_seq_k ?_
  intro K2 hK2
  refine wp_seq_k ?_
  intro K3 hK3
  refine rg [0, 1] ?_
  refine sq ?_
  refine .mv ?_
  refine sq ?_
  refine .r0 ?_
  apply wpSq_end
  refine hK3 _ _ ?_
  refine cf ?_
  refine wp_skip ?_
  refine hK2 _ _ ?_
  refine wp_seq_k ?_
  intro K4 hK4
  refine rg [0, 1, 2, 3, 4, 5, 6, 7] ?_
  refine sq ?_
  refine .mv ?_
  refine sq ?_
  refine .r0 ?_
  refine sq ?_
  refine .mv ?_
  refine sq ?_
  refine .r4 hs.g1.f4 ?_
  refine sq ?_
  refine .r4 hs.g0.f4 ?_
  refine sq ?_
  intro K hK
  have k0_2 := (kb n1).b n2
  replace ha1 := ha1.k k0_2
  replace ha2 := ha2.k k0_2
  replace hq1 := hq1.k k0_2
  replace hq2 := hq2.k k0_2
  go_big_op
  go_fit (g5is_any (PC.mk' ha1 ha2) (PN.mk' hq1 hq2) (by omega) (by omega) )
  rintro e w_3 ⟨rfl, hb_3⟩
  replace hs := hs.bl hb_3
  refine hK _ _ rfl trivial ?_
  clear hK K
  refine sq ?_
  refine .r0 ?_
  refine sq ?_
  refine .mv ?_
  apply wpSq_end
  refine hK4 _ _ ?_
  refine wp_ret ?_
  try dsimp only [Exit.then, Exit.inBlock]
  refine bodyPost_ret (v := (.bool true)) (by simp [results, Tryz.results15, go_sem]) rfl ?_
  have hb := hs.b
  exact ⟨rfl, hb⟩
theorem told_5 (w : World) :
    Calls Tryz.prog 15 #[.agg #[.bool false, .slice none 0 0, .bool false, .slice none 0 0], .int .i64 5, .agg #[.bool false, .slice none 0 0, .bool false, .slice none 0 0], .int .i64 5] w fun e w' => e = .returned (.bool true) ∧ Below w.heap.size w w' := by
  go_enter Tryz.func15, Tryz.ntmps15
  have hs := St.nil w
  refine wp_seq_k ?_
  intro K1 hK1
  refine rg [0, 1, 2] ?_
  refine sq ?_
  refine .al hs ?_; clear hs; intro p_b1 w_1 hs n1 kb_b1
  refine sq ?_
  refine .al hs ?_; clear hs; intro p_b2 w_2 hs n2 kb_b2
  refine sq ?_
  refine .mv ?_
  apply wpSq_end
  refine hK1 _ _ ?_
  refine wp_seq_k ?_
  intro K2 hK2
  refine wp_seq_k ?_
  intro K3 hK3
  refine rg [0, 1] ?_
  refine sq ?_
  refine .mv ?_
  refine sq ?_
  refine .r0 ?_
  apply wpSq_end
  refine hK3 _ _ ?_
  refine ct ?_
  refine wp_seq_k ?_
  intro K4 hK4
  refine rg [0, 1, 2, 3, 4, 5, 6, 7] ?_
  refine sq ?_
  refine .mv ?_
  refine sq ?_
  refine .mv ?_
  refine sq ?_
  refine .r0 ?_
  refine sq ?_
  refine .mv ?_
  refine sq ?_
  refine .r4 hs.g1.f4 ?_
  refine sq ?_
  intro K hK
  go_big_op
  go_fit (rgZero_any _)
  rintro e w_3 ⟨rfl, hb_3⟩
  replace hs := hs.bl hb_3
  refine hK _ _ rfl trivial ?_
  clear hK K
  refine sq ?_
  refine .r0 ?_
  refine sq ?_
  refine .mv ?_
  apply wpSq_end
  refine hK4 _ _ ?_
  refine wp_ret ?_
  try dsimp only [Exit.then, Exit.inBlock]
  refine bodyPost_ret (v := (.bool true)) (by simp [results, Tryz.results15, go_sem]) rfl ?_
  have hb := hs.b
  exact ⟨rfl, hb⟩
theorem told_10 (w : World) :
    Calls Tryz.prog 15 #[.agg #[.bool false, .slice none 0 0, .bool false, .slice none 0 0], .int .i64 10, .agg #[.bool false, .slice none 0 0, .bool false, .slice none 0 0], .int .i64 10] w fun e w' => e = .returned (.bool true) ∧ Below w.heap.size w w' := by
  go_enter Tryz.func15, Tryz.ntmps15
  have hs := St.nil w
  refine wp_seq_k ?_
  intro K1 hK1
  refine rg [0, 1, 2] ?_
  refine sq ?_
  refine .al hs ?_; clear hs; intro p_b1 w_1 hs n1 kb_b1
  refine sq ?_
  refine .al hs ?_; clear hs; intro p_b2 w_2 hs n2 kb_b2
  refine sq ?_
  refine .mv ?_
  apply wpSq_end
  refine hK1 _ _ ?_
  refine wp_seq_k ?_
  intro K2 hK2
  refine wp_seq_k ?_
  intro K3 hK3
  refine rg [0, 1] ?_
  refine sq ?_
  refine .mv ?_
  refine sq ?_
  refine .r0 ?_
  apply wpSq_end
  refine hK3 _ _ ?_
  refine ct ?_
  refine wp_seq_k ?_
  intro K4 hK4
  refine rg [0, 1, 2, 3, 4, 5, 6, 7] ?_
  refine sq ?_
  refine .mv ?_
  refine sq ?_
  refine .mv ?_
  refine sq ?_
  refine .r0 ?_
  refine sq ?_
  refine .mv ?_
  refine sq ?_
  refine .r4 hs.g1.f4 ?_
  refine sq ?_
  intro K hK
  go_big_op
  go_fit (rgZero_any _)
  rintro e w_3 ⟨rfl, hb_3⟩
  replace hs := hs.bl hb_3
  refine hK _ _ rfl trivial ?_
  clear hK K
  refine sq ?_
  refine .r0 ?_
  refine sq ?_
  refine .mv ?_
  apply wpSq_end
  refine hK4 _ _ ?_
  refine wp_ret ?_
  try dsimp only [Exit.then, Exit.inBlock]
  refine bodyPost_ret (v := (.bool true)) (by simp [results, Tryz.results15, go_sem]) rfl ?_
  have hb := hs.b
  exact ⟨rfl, hb⟩
theorem g5_any (a b : Int) (w : World) (h1 : -9223372036854775808 ≤ a) (h2 : a ≤ 9223372036854775807) (h3 : -9223372036854775808 ≤ b) (h4 : b ≤ 9223372036854775807) :
    Calls Tryz.prog 44 #[.int .i64 a, .int .i64 b] w fun e w' => ∃ r, e = .returned r ∧ PC w' r a b ∧ Below w.heap.size w w' := by
  go_enter Tryz.func44, Tryz.ntmps44
  have hs := St.nil w
  refine wp_seq_k ?_
  intro K1 hK1
  refine rg [0] ?_
  refine sq ?_
  refine .al hs ?_; clear hs; intro p_b1 w_1 hs n1 kb_b1
  apply wpSq_end
  refine hK1 _ _ ?_
  refine wp_seq_k ?_
  intro K2 hK2
  refine rg [0, 1, 2, 3] ?_
  refine sq ?_
  refine .mv ?_
  refine sq ?_
  refine .mv ?_
  refine sq ?_
  intro K hK
  go_big_op
  go_fit (rgI_any a b _ h1 h2 h3 h4)
  rintro e w_2 ⟨_, rfl, ⟨n_ra, o_ra, k_ra, c_ra, n_rb, o_rb, k_rb, c_rb, rfl, r1, r2⟩, hb_2⟩
  replace hs := hs.bl hb_2
  refine hK _ _ rfl trivial ?_
  clear hK K
  refine sq ?_
  refine .s4 hs.g0 (fun _ => hs.u0 kb_b1) ?_; clear hs; intro w_3 hs hd3 ho3
  apply wpSq_end
  refine hK2 _ _ ?_
  refine wp_ret ?_
  try dsimp only [Exit.then, Exit.inBlock]
  obtain ⟨r0_0, r0_1, r0_2, r0_3⟩ := hs.g0.f4
  refine bodyPost_ret (v := (.agg #[.bool n_ra, .slice o_ra k_ra c_ra, .bool n_rb, .slice o_rb k_rb c_rb])) (by simp [results, Tryz.results44, go_sem, r0_0, r0_1, r0_2, r0_3]) rfl ?_
  have k2_3 := ko hd3 ho3
  replace r1 := r1.k k2_3
  replace r2 := r2.k k2_3
  exact ⟨_, rfl, .mk' r1 r2, hs.b⟩
theorem zlen_small {z : Int} (h : z.natAbs < 4294967296) : (dig z.natAbs).length ≤ 1 := dig_length_le (by rw [show pw 1 = 4294967296 from rfl]; exact h)
theorem awake5_any (w : World) :
    Calls Tryz.prog 14 #[] w fun e w' => e = .returned (.bool true) ∧ Below w.heap.size w w' := by
  have E1 := hide (show gR1 7 3 2 0 = -1 by decide)
  have E2 := hide (show gR2 7 3 2 0 = -1 by decide)
  go_enter Tryz.func14, Tryz.ntmps14
  have hs := St.nil w
  refine wp_seq_k ?_
  intro K1 hK1
  refine rg [0] ?_
  refine sq ?_
  refine .mv ?_
  apply wpSq_end
  refine hK1 _ _ ?_
  refine wp_seq_k ?_
  intro K2 hK2
  refine rg [0, 1, 2, 3, 4, 5, 6, 7, 8] ?_
  refine sq ?_
  intro K hK
  go_big_op
  go_fit (g5_any 7 3 _ (by decide) (by decide) (by decide) (by decide))
  rintro e w_1 ⟨_, rfl, ⟨n_aa, o_aa, k_aa, c_aa, n_ab, o_ab, k_ab, c_ab, rfl, a1, a2⟩, hb_1⟩
  replace hs := hs.bl hb_1
  have La1 := hide (a1.lenOf (zlen_small (z := 7) (by decide)))
  have La2 := hide (a2.lenOf (zlen_small (z := 3) (by decide)))
  refine hK _ _ rfl trivial ?_
  clear hK K
  refine sq ?_
  intro K hK
  go_big_op
  go_fit (g5_any 2 0 _ (by decide) (by decide) (by decide) (by decide))
  rintro e w_2 ⟨_, rfl, ⟨n_ba, o_ba, k_ba, c_ba, n_bb, o_bb, k_bb, c_bb, rfl, b1, b2⟩, hb_2⟩
  replace hs := hs.bl hb_2
  have Lb1 := hide (b1.lenOf (zlen_small (z := 2) (by decide)))
  have Lb2 := hide (b2.lenOf (zlen_small (z := 0) (by decide)))
  refine hK _ _ rfl trivial ?_
  clear hK K
  refine sq ?_
  intro K hK
  have k1_2 := kb hb_2
  replace a1 := a1.k k1_2
  replace a2 := a2.k k1_2
  go_big_op
  go_fit (gReduce_any (.mk' (a1.zn La1.out) (a2.zn La2.out)) (.mk' (b1.zn Lb1.out) (b2.zn Lb2.out)) (by omega) (by omega) (by omega) (by decide))
  rintro e w_3 ⟨_, rfl, ⟨n_ca, o_ca, k_ca, c_ca, n_cb, o_cb, k_cb, c_cb, rfl, c1, c2⟩, hb_3⟩
  replace hs := hs.bl hb_3
  rw [E1.out] at c1
  rw [E2.out] at c2
  refine hK _ _ rfl trivial ?_
  clear hK K
  refine sq ?_
  refine .mv ?_
  refine sq ?_
  refine .r0 ?_
  refine sq ?_
  refine .r0 ?_
  refine sq ?_
  refine .al hs ?_; clear hs; intro p_b1 w_4 hs n4 kb_b1
  refine sq ?_
  refine .s4 hs.g0 (fun _ => hs.u0 kb_b1) ?_; clear hs; intro w_5 hs hd5 ho5
  refine sq ?_
  refine .mv ?_
  apply wpSq_end
  refine hK2 _ _ ?_
  refine wp_seq_k ?_
  intro K3 hK3
  refine wp_region_f4 [(0, false), (1, false), (2, true), (3, true), (4, false)] [] [] (fun _ => default) [0, 99, 99, 99, 99] [] (.c hs.g0 .n) fn fun w_6 n6 => ?_
  replace hs := hs.bl n6
  refine f4 ?_
  refine fmv ?_
  refine fl fun w_7 n7 => ?_
  replace hs := hs.bl n7
  intro K hK
  go_big_op
  go_fit (g5_any (-1) (-1) _ (by decide) (by decide) (by decide) (by decide))
  rintro e w_8 ⟨_, rfl, ⟨n_da, o_da, k_da, c_da, n_db, o_db, k_db, c_db, rfl, d1, d2⟩, hb_8⟩
  replace hs := hs.bl hb_8
  have Ld1 := hide (d1.lenOf (zlen_small (z := -1) (by decide)))
  have Ld2 := hide (d2.lenOf (zlen_small (z := -1) (by decide)))
  refine hK _ _ rfl ⟨hb_8, (And.intro hs.g0 trivial)⟩ ?_
  clear hK K
  refine fl fun w_9 n9 => ?_
  replace hs := hs.bl n9
  intro K hK
  have k3_9 := (((((kb n4).o hd5 ho5).b n6).b n7).b hb_8).b n9
  replace c1 := c1.k k3_9
  replace c2 := c2.k k3_9
  have k8_9 := kb n9
  replace d1 := d1.k k8_9
  replace d2 := d2.k k8_9
  go_big_op
  go_fit (told_ok (.mk' c1 c2) (.mk' (d1.zn Ld1.out) (d2.zn Ld2.out)) (by omega) (by omega))
  rintro e w_10 ⟨rfl, hb_10⟩
  replace hs := hs.bl hb_10
  refine hK _ _ rfl ⟨hb_10, (And.intro hs.g0 trivial)⟩ ?_
  clear hK K
  refine fmv ?_
  refine e0 hs ?_; clear hs; intro w_11 hs n11
  clear a1 a2 b1 b2 d1 d2
  apply wpTail_end
  refine hK3 _ _ ?_
  refine wp_ret ?_
  try dsimp only [Exit.then, Exit.inBlock]
  refine bodyPost_ret (v := (.bool true)) (by simp [results, Tryz.results14, go_sem]) rfl ?_
  have hb := hs.b
  exact ⟨rfl, hb⟩
theorem rggcd_any {L : Nat} (ha : PN w va x L y L) (hq : PN w vb u L v L) (hL : L + 1 ≤ 1900000) :
    Calls Tryz.prog 48 #[va, vb] w fun e w' => ∃ r, e = .returned r ∧ PC w' r (turn (kq (GS.start x y u v).fin.r1 (GS.start x y u v).fin.r2) ((GS.start x y u v).fin.r1, (GS.start x y u v).fin.r2)).1 (turn (kq (GS.start x y u v).fin.r1 (GS.start x y u v).fin.r2) ((GS.start x y u v).fin.r1, (GS.start x y u v).fin.r2)).2 ∧ Below w.heap.size w w' := by
  have hfin := fin_gi x y u v
  obtain ⟨F, hF⟩ : ∃ F, (GS.start x y u v).fin = F := ⟨_, rfl⟩
  rw [hF] at hfin
  rw [hF]
  have lr := len_norm (x := F.r1) (y := F.r2) (Int.le_trans hfin.1.nr (by have := gN_nonneg x y; have := gN_nonneg u v; omega)) ha.len1 ha.len2 hq.len1 hq.len2
  have L1 := hide (zlen_turn lr.1 lr.2 (kq F.r1 F.r2))
  have HF := hide hF
  clear hF lr hfin
  obtain ⟨n_0a, o_0a, k_0a, c_0a, n_0b, o_0b, k_0b, c_0b, rfl, ha1, ha2⟩ := ha
  obtain ⟨n_1a, o_1a, k_1a, c_1a, n_1b, o_1b, k_1b, c_1b, rfl, hq1, hq2⟩ := hq
  go_enter Tryz.func48, Tryz.ntmps48
  have hs := St.nil w
  refine wp_seq_k ?_
  intro K1 hK1
  refine rg [0, 1, 2] ?_
  refine sq ?_
  refine .al hs ?_; clear hs; intro p_b1 w_1 hs n1 kb_b1
  refine sq ?_
  refine .al hs ?_; clear hs; intro p_b2 w_2 hs n2 kb_b2
  refine sq ?_
  refine .al hs ?_; clear hs; intro p_b3 w_3 hs n3 kb_b3
  apply wpSq_end
  refine hK1 _ _ ?_
  refine wp_seq_k ?_
  intro K2 hK2
  refine rg [0, 1, 2, 3, 4, 5, 6, 7, 8, 9, 10, 11, 12] ?_
  refine sq ?_
  refine .r4 hs.g2.f4 ?_
  refine sq ?_
  refine .r4 hs.g1.f4 ?_
  refine sq ?_
  intro K hK
  have k0_3 := ((kb n1).b n2).b n3
  replace ha1 := ha1.k k0_3
  replace ha2 := ha2.k k0_3
  replace hq1 := hq1.k k0_3
  replace hq2 := hq2.k k0_3
  go_big_op
  go_fit (rgxgcd_any (L := L) (.mk' ha1 ha2) (.mk' hq1 hq2) hL)
  rintro e w_4 ⟨_, _, _, rfl, ⟨n_da, o_da, k_da, c_da, n_db, o_db, k_db, c_db, rfl, d1, d2⟩, ⟨n_sa, o_sa, k_sa, c_sa, n_sb, o_sb, k_sb, c_sb, rfl, s1, s2⟩, ⟨n_ta, o_ta, k_ta, c_ta, n_tb, o_tb, k_tb, c_tb, rfl, t1, t2⟩, hb_4⟩
  replace hs := hs.bl hb_4
  rw [HF.out] at d1 d2 s1 s2 t1 t2
  refine hK _ _ rfl trivial ?_
  clear hK K
  refine sq ?_
  refine .mv ?_
  refine sq ?_
  refine .r0 ?_
  refine sq ?_
  refine .r0 ?_
  refine sq ?_
  refine .r0 ?_
  refine sq ?_
  refine .al hs ?_; clear hs; intro p_b4 w_5 hs n5 kb_b4
  refine sq ?_
  refine .al hs ?_; clear hs; intro p_b5 w_6 hs n6 kb_b5
  refine sq ?_
  refine .al hs ?_; clear hs; intro p_b6 w_7 hs n7 kb_b6
  refine sq ?_
  refine .s4 hs.g2 (fun _ => hs.u2 kb_b4) ?_; clear hs; intro w_8 hs hd8 ho8
  refine sq ?_
  refine .s4 hs.g1 (fun _ => hs.u1 kb_b5) ?_; clear hs; intro w_9 hs hd9 ho9
  refine sq ?_
  refine .s4 hs.g0 (fun _ => hs.u0 kb_b6) ?_; clear hs; intro w_10 hs hd10 ho10
  clear ha1 ha2 hq1 hq2 s1 s2
  apply wpSq_end
  refine hK2 _ _ ?_
  refine wp_seq_k ?_
  intro K3 hK3
  refine rg [0, 1] ?_
  refine sq ?_
  refine .r4 hs.g2.f4 ?_
  refine sq ?_
  refine .s4 hs.g3 (fun _ => hs.u3 kb_b3) ?_; clear hs; intro w_11 hs hd11 ho11
  apply wpSq_end
  refine hK3 _ _ ?_
  refine wp_ret ?_
  try dsimp only [Exit.then, Exit.inBlock]
  obtain ⟨r0_0, r0_1, r0_2, r0_3⟩ := hs.g3.f4
  refine bodyPost_ret (v := (.agg #[.bool n_da, .slice o_da k_da c_da, .bool n_db, .slice o_db k_db c_db])) (by simp [results, Tryz.results48, go_sem, r0_0, r0_1, r0_2, r0_3]) rfl ?_
  have k4_11 := ((((((kb n5).b n6).b n7).o hd8 ho8).o hd9 ho9).o hd10 ho10).o hd11 ho11
  replace d1 := d1.k k4_11
  replace d2 := d2.k k4_11
  exact ⟨_, rfl, .mk' d1 d2, hs.b⟩
theorem rone_yes {L : Nat} (ha : PN w va x L y L) (hq : PN w vb u L v L) (hL : L + 1 ≤ 1900000) (hI : gInv x y u v) :
    Calls Tryz.prog 16 #[va, vb] w fun e w' => e = .returned (.bool true) ∧ Below w.heap.size w w' := by
  have hfin := fin_gi x y u v
  have hU := (unit_inv x y u v).2 hI
  obtain ⟨F, hF⟩ : ∃ F, (GS.start x y u v).fin = F := ⟨_, rfl⟩
  rw [hF] at hU hfin
  have lr := len_norm (x := F.r1) (y := F.r2) (Int.le_trans hfin.1.nr (by have := gN_nonneg x y; have := gN_nonneg u v; omega)) ha.len1 ha.len2 hq.len1 hq.len2
  have l1 := zlen_turn lr.1 lr.2 (kq F.r1 F.r2)
  have hn := turn_norm (kq_lt F.r1 F.r2) F.r1 F.r2
  rw [hU] at hn
  have HN := hide hn
  have HF := hide hF
  have L1 := hide l1
  clear hn hU hF l1 lr hfin hI
  obtain ⟨n_0a, o_0a, k_0a, c_0a, n_0b, o_0b, k_0b, c_0b, rfl, ha1, ha2⟩ := ha
  obtain ⟨n_1a, o_1a, k_1a, c_1a, n_1b, o_1b, k_1b, c_1b, rfl, hq1, hq2⟩ := hq
  go_enter Tryz.func16, Tryz.ntmps16
  have hs := St.nil w
  refine wp_seq_k ?_
  intro K1 hK1
  refine rg [0, 1, 2] ?_
  refine sq ?_
  refine .al hs ?_; clear hs; intro p_b1 w_1 hs n1 kb_b1
  refine sq ?_
  refine .al hs ?_; clear hs; intro p_b2 w_2 hs n2 kb_b2
  refine sq ?_
  refine .mv ?_
  apply wpSq_end
  refine hK1 _ _ ?_
  refine wp_seq_k ?_
  intro K2 hK2
  refine rg [0, 1, 2, 3, 4] ?_
  refine sq ?_
  refine .r4 hs.g1.f4 ?_
  refine sq ?_
  refine .r4 hs.g0.f4 ?_
  refine sq ?_
  intro K hK
  have k0_2 := (kb n1).b n2
  replace ha1 := ha1.k k0_2
  replace ha2 := ha2.k k0_2
  replace hq1 := hq1.k k0_2
  replace hq2 := hq2.k k0_2
  go_big_op
  go_fit (rggcd_any (L := L) (.mk' ha1 ha2) (.mk' hq1 hq2) hL)
  rintro e w_3 ⟨_, rfl, ⟨n_da, o_da, k_da, c_da, n_db, o_db, k_db, c_db, rfl, d1, d2⟩, hb_3⟩
  replace hs := hs.bl hb_3
  rw [HF.out] at d1
  rw [HF.out] at d2
  refine hK _ _ rfl trivial ?_
  clear hK K
  have Ld1 := hide (d1.lenOf (L1.out.1))
  have Ld2 := hide (d2.lenOf (L1.out.2))
  refine sq ?_
  intro K hK
  go_big_op
  go_fit (rgUnit_yes (.mk' (d1.zn Ld1.out) (d2.zn Ld2.out)) (by omega) (by omega) HN.out)
  rintro e w_4 ⟨rfl, hb_4⟩
  replace hs := hs.bl hb_4
  refine hK _ _ rfl trivial ?_
  clear hK K
  refine sq ?_
  refine .mv ?_
  apply wpSq_end
  refine hK2 _ _ ?_
  refine wp_ret ?_
  try dsimp only [Exit.then, Exit.inBlock]
  refine bodyPost_ret (v := (.bool true)) (by simp [results, Tryz.results16, go_sem]) rfl ?_
  have hb := hs.b
  exact ⟨rfl, hb⟩
theorem rone_no {L : Nat} (ha : PN w va x L y L) (hq : PN w vb u L v L) (hL : L + 1 ≤ 1900000) (hI : ¬ gInv x y u v) :
    Calls Tryz.prog 16 #[va, vb] w fun e w' => e = .returned (.bool false) ∧ Below w.heap.size w w' := by
  have hfin := fin_gi x y u v
  have hU : ¬ gN (GS.start x y u v).fin.r1 (GS.start x y u v).fin.r2 = 1 := fun h => hI ((unit_inv x y u v).1 h)
  obtain ⟨F, hF⟩ : ∃ F, (GS.start x y u v).fin = F := ⟨_, rfl⟩
  rw [hF] at hU hfin
  have lr := len_norm (x := F.r1) (y := F.r2) (Int.le_trans hfin.1.nr (by have := gN_nonneg x y; have := gN_nonneg u v; omega)) ha.len1 ha.len2 hq.len1 hq.len2
  have l1 := zlen_turn lr.1 lr.2 (kq F.r1 F.r2)
  have hn := turn_norm (kq_lt F.r1 F.r2) F.r1 F.r2
  rw [← hn] at hU
  have HN := hide hU
  have HF := hide hF
  have L1 := hide l1
  clear hn hU hF l1 lr hfin hI
  obtain ⟨n_0a, o_0a, k_0a, c_0a, n_0b, o_0b, k_0b, c_0b, rfl, ha1, ha2⟩ := ha
  obtain ⟨n_1a, o_1a, k_1a, c_1a, n_1b, o_1b, k_1b, c_1b, rfl, hq1, hq2⟩ := hq
  go_enter Tryz.func16, Tryz.ntmps16
  have hs := St.nil w
  refine wp_seq_k ?_
  intro K1 hK1
  refine rg [0, 1, 2] ?_
  refine sq ?_
  refine .al hs ?_; clear hs; intro p_b1 w_1 hs n1 kb_b1
  refine sq ?_
  refine .al hs ?_; clear hs; intro p_b2 w_2 hs n2 kb_b2
  refine sq ?_
  refine .mv ?_
  apply wpSq_end
  refine hK1 _ _ ?_
  refine wp_seq_k ?_
  intro K2 hK2
  refine rg [0, 1, 2, 3, 4] ?_
  refine sq ?_
  refine .r4 hs.g1.f4 ?_
  refine sq ?_
  refine .r4 hs.g0.f4 ?_
  refine sq ?_
  intro K hK
  have k0_2 := (kb n1).b n2
  replace ha1 := ha1.k k0_2
  replace ha2 := ha2.k k0_2
  replace hq1 := hq1.k k0_2
  replace hq2 := hq2.k k0_2
  go_big_op
  go_fit (rggcd_any (L := L) (.mk' ha1 ha2) (.mk' hq1 hq2) hL)
  rintro e w_3 ⟨_, rfl, ⟨n_da, o_da, k_da, c_da, n_db, o_db, k_db, c_db, rfl, d1, d2⟩, hb_3⟩
  replace hs := hs.bl hb_3
  rw [HF.out] at d1
  rw [HF.out] at d2
  refine hK _ _ rfl trivial ?_
  clear hK K
  have Ld1 := hide (d1.lenOf (L1.out.1))
  have Ld2 := hide (d2.lenOf (L1.out.2))
  refine sq ?_
  intro K hK
  go_big_op
  go_fit (rgUnit_no (.mk' (d1.zn Ld1.out) (d2.zn Ld2.out)) (by omega) (by omega) HN.out)
  rintro e w_4 ⟨rfl, hb_4⟩
  replace hs := hs.bl hb_4
  refine hK _ _ rfl trivial ?_
  clear hK K
  refine sq ?_
  refine .mv ?_
  apply wpSq_end
  refine hK2 _ _ ?_
  refine wp_ret ?_
  try dsimp only [Exit.then, Exit.inBlock]
  refine bodyPost_ret (v := (.bool false)) (by simp [results, Tryz.results16, go_sem]) rfl ?_
  have hb := hs.b
  exact ⟨rfl, hb⟩
theorem rinv_any {L : Nat} (ha : PN w va x L y L) (hq : PN w vb u L v L) (hL : L + 1 ≤ 1900000) (h0 : gN u v ≠ 0) :
    Calls Tryz.prog 17 #[va, vb] w fun e w' => ∃ r, e = .returned r ∧ PC w' r (gV x y u v).1 (gV x y u v).2 ∧ Below w.heap.size w w' := by
  have hfin := fin_gi x y u v
  unfold gV
  obtain ⟨F, hF⟩ : ∃ F, (GS.start x y u v).fin = F := ⟨_, rfl⟩
  rw [hF] at hfin
  rw [hF]
  dsimp only [gVo]
  have lx := len_norm hfin.1.nx ha.len1 ha.len2 hq.len1 hq.len2
  have L2 := hide (zlen_turn lx.1 lx.2 (kq F.r1 F.r2))
  have HF := hide (And.intro hF h0)
  clear hF lx hfin h0
  obtain ⟨n_0a, o_0a, k_0a, c_0a, n_0b, o_0b, k_0b, c_0b, rfl, ha1, ha2⟩ := ha
  obtain ⟨n_1a, o_1a, k_1a, c_1a, n_1b, o_1b, k_1b, c_1b, rfl, hq1, hq2⟩ := hq
  go_enter Tryz.func17, Tryz.ntmps17
  have hs := St.nil w
  refine wp_seq_k ?_
  intro K1 hK1
  refine rg [0, 1, 2] ?_
  refine sq ?_
  refine .al hs ?_; clear hs; intro p_b1 w_1 hs n1 kb_b1
  refine sq ?_
  refine .al hs ?_; clear hs; intro p_b2 w_2 hs n2 kb_b2
  refine sq ?_
  refine .al hs ?_; clear hs; intro p_b3 w_3 hs n3 kb_b3
  apply wpSq_end
  refine hK1 _ _ ?_
  refine wp_seq_k ?_
  intro K2 hK2
  refine rg [0, 1, 2, 3, 4, 5, 6, 7, 8, 9, 10, 11, 12] ?_
  refine sq ?_
  refine .r4 hs.g2.f4 ?_
  refine sq ?_
  refine .r4 hs.g1.f4 ?_
  refine sq ?_
  intro K hK
  have k0_3 := ((kb n1).b n2).b n3
  replace ha1 := ha1.k k0_3
  replace ha2 := ha2.k k0_3
  replace hq1 := hq1.k k0_3
  replace hq2 := hq2.k k0_3
  go_big_op
  go_fit (rgxgcd_any (L := L) (.mk' ha1 ha2) (.mk' hq1 hq2) hL)
  rintro e w_4 ⟨_, _, _, rfl, ⟨n_da, o_da, k_da, c_da, n_db, o_db, k_db, c_db, rfl, d1, d2⟩, ⟨n_sa, o_sa, k_sa, c_sa, n_sb, o_sb, k_sb, c_sb, rfl, s1, s2⟩, ⟨n_ta, o_ta, k_ta, c_ta, n_tb, o_tb, k_tb, c_tb, rfl, t1, t2⟩, hb_4⟩
  replace hs := hs.bl hb_4
  rw [HF.out.1] at d1 d2 s1 s2 t1 t2
  refine hK _ _ rfl trivial ?_
  clear hK K
  refine sq ?_
  refine .mv ?_
  refine sq ?_
  refine .r0 ?_
  refine sq ?_
  refine .r0 ?_
  refine sq ?_
  refine .r0 ?_
  refine sq ?_
  refine .al hs ?_; clear hs; intro p_b4 w_5 hs n5 kb_b4
  refine sq ?_
  refine .al hs ?_; clear hs; intro p_b5 w_6 hs n6 kb_b5
  refine sq ?_
  refine .al hs ?_; clear hs; intro p_b6 w_7 hs n7 kb_b6
  refine sq ?_
  refine .s4 hs.g2 (fun _ => hs.u2 kb_b4) ?_; clear hs; intro w_8 hs hd8 ho8
  refine sq ?_
  refine .s4 hs.g1 (fun _ => hs.u1 kb_b5) ?_; clear hs; intro w_9 hs hd9 ho9
  refine sq ?_
  refine .s4 hs.g0 (fun _ => hs.u0 kb_b6) ?_; clear hs; intro w_10 hs hd10 ho10
  apply wpSq_end
  refine hK2 _ _ ?_
  refine wp_seq_k ?_
  intro K3 hK3
  refine rg [0, 1, 2, 3] ?_
  refine sq ?_
  refine .r4 hs.g1.f4 ?_
  refine sq ?_
  refine .r4 hs.g4.f4 ?_
  have Ls1 := hide (s1.lenOf (L2.out.1))
  have Ls2 := hide (s2.lenOf (L2.out.2))
  refine sq ?_
  intro K hK
  have k4_10 := (((((kb n5).b n6).b n7).o hd8 ho8).o hd9 ho9).o hd10 ho10
  replace s1 := s1.k k4_10
  replace s2 := s2.k k4_10
  have k3_10 := ((((((kb hb_4).b n5).b n6).b n7).o hd8 ho8).o hd9 ho9).o hd10 ho10
  replace hq1 := hq1.k k3_10
  replace hq2 := hq2.k k3_10
  go_big_op
  go_fit (rres_any (PN.mk' (s1.zn Ls1.out) (s2.zn Ls2.out)) (PN.mk' hq1 hq2) (by omega) (by omega) (by omega) HF.out.2)
  rintro e w_11 ⟨_, rfl, ⟨n_ra, o_ra, k_ra, c_ra, n_rb, o_rb, k_rb, c_rb, rfl, r1, r2⟩, hb_11⟩
  clear ha1 ha2 d1 d2 t1 t2
  replace hs := hs.bl hb_11
  refine hK _ _ rfl trivial ?_
  clear hK K
  refine sq ?_
  refine .s4 hs.g3 (fun _ => hs.u3 kb_b3) ?_; clear hs; intro w_12 hs hd12 ho12
  apply wpSq_end
  refine hK3 _ _ ?_
  refine wp_ret ?_
  try dsimp only [Exit.then, Exit.inBlock]
  obtain ⟨r0_0, r0_1, r0_2, r0_3⟩ := hs.g3.f4
  refine bodyPost_ret (v := (.agg #[.bool n_ra, .slice o_ra k_ra c_ra, .bool n_rb, .slice o_rb k_rb c_rb])) (by simp [results, Tryz.results17, go_sem, r0_0, r0_1, r0_2, r0_3]) rfl ?_
  have k11_12 := ko hd12 ho12
  replace r1 := r1.k k11_12
  replace r2 := r2.k k11_12
  exact ⟨_, rfl, .mk' r1 r2, hs.b⟩
end
end Go.Proofs.YtbiiglcfdphmaaaGreat

/- The reference's Crt. -/
namespace Go.Proofs.YtbiiglcfdphmaaaGreat
open Go Go.RowKit Dig
set_option linter.unusedVariables false
section
variable {w : World} {va vb vc vd : Value} {x y u v a b p q : Int} {l m k n s t K M : Nat}
set_option maxHeartbeats 8000000 in
set_option maxRecDepth 20000 in
theorem rcrt_any {L : Nat} (ha : PN w va x L y L) (hq : PN w vb u L v L) (hc : PN w vc a L b L) (hd : PN w vd p L q L) (hL : L ≤ 1048576) (h0 : gN u v ≠ 0) (h1 : gN p q ≠ 0) :
    Calls Tryz.prog 19 #[va, vb, vc, vd] w fun e w' => ∃ r, e = .returned r ∧ PC w' r (cR1 x y u v a b p q) (cR2 x y u v a b p q) ∧ Below w.heap.size w w' := by
  unfold cR1 cR2 cC1 cC2 cK1 cK2
  have lV : (dig (gV u v p q).1.natAbs).length ≤ L + 1 ∧ (dig (gV u v p q).2.natAbs).length ≤ L + 1 := res_len h1 hd.len1 hd.len2
  obtain ⟨I1, hI1⟩ : ∃ I, (gV u v p q).1 = I := ⟨_, rfl⟩
  obtain ⟨I2, hI2⟩ : ∃ I, (gV u v p q).2 = I := ⟨_, rfl⟩
  rw [hI1, hI2] at lV
  rw [hI1, hI2]
  have HI := hide (And.intro hI1 hI2)
  have LI := hide lV
  have HH := hide (And.intro h1 (gN_mul u v p q ▸ Int.mul_ne_zero h0 h1 : gN (u * p - v * q) (u * q + v * p) ≠ 0))
  clear hI1 hI2 lV h0 h1
  obtain ⟨n_0a, o_0a, k_0a, c_0a, n_0b, o_0b, k_0b, c_0b, rfl, ha1, ha2⟩ := ha
  obtain ⟨n_1a, o_1a, k_1a, c_1a, n_1b, o_1b, k_1b, c_1b, rfl, hq1, hq2⟩ := hq
  obtain ⟨n_2a, o_2a, k_2a, c_2a, n_2b, o_2b, k_2b, c_2b, rfl, hc1, hc2⟩ := hc
  obtain ⟨n_3a, o_3a, k_3a, c_3a, n_3b, o_3b, k_3b, c_3b, rfl, hd1, hd2⟩ := hd
  go_enter Tryz.func19, Tryz.ntmps19
  have hs := St.nil w
  refine wp_seq_k ?_
  intro K1 hK1
  refine rg [0, 1, 2, 3, 4] ?_
  refine sq ?_
  refine .al hs ?_; clear hs; intro p_b1 w_1 hs n1 kb_b1
  refine sq ?_
  refine .al hs ?_; clear hs; intro p_b2 w_2 hs n2 kb_b2
  refine sq ?_
  refine .al hs ?_; clear hs; intro p_b3 w_3 hs n3 kb_b3
  refine sq ?_
  refine .al hs ?_; clear hs; intro p_b4 w_4 hs n4 kb_b4
  refine sq ?_
  refine .al hs ?_; clear hs; intro p_b5 w_5 hs n5 kb_b5
  apply wpSq_end
  refine hK1 _ _ ?_
  refine wp_seq_k ?_
  intro K2 hK2
  refine wp_region_f4 [(0, false), (1, false), (3, false), (4, false), (2, true), (5, true), (6, true)] [8] [7] (fun j => (.cells #[.bool false, .slice none 0 0, .bool false, .slice none 0 0] 26)) [0, 1, 99, 2, 3, 99, 99, 99, 99] [] (.c hs.g2 (.c hs.g4 (.c hs.g3 (.c hs.g1 .n)))) (fm fn) fun w_6 n6 => ?_
  replace hs := hs.bl n6
  have hlB := hs.lt; have hkB := hs.k
  refine f4 ?_
  refine f4 ?_
  refine f4 ?_
  refine f4 ?_
  refine fl fun w_7 n7 => ?_
  replace hs := hs.bl n7
  intro K hK
  have k0_7 := ((((((kb n1).b n2).b n3).b n4).b n5).b n6).b n7
  replace hc1 := hc1.k k0_7
  replace hc2 := hc2.k k0_7
  replace ha1 := ha1.k k0_7
  replace ha2 := ha2.k k0_7
  go_big_op
  go_fit (rgSub_any (PN.mk' hc1 hc2) (PN.mk' ha1 ha2) (by omega) (by omega) (by omega) (by omega) )
  rintro e w_8 ⟨_, rfl, ⟨n_ha, o_ha, k_ha, c_ha, n_hb, o_hb, k_hb, c_hb, rfl, h1, h2⟩, hb_8⟩
  replace hs := hs.bl hb_8
  have Lh1 := hide (h1.lenOf (zlen_sub (hc1.len) (ha1.len)))
  have Lh2 := hide (h2.lenOf (zlen_sub (hc2.len) (ha2.len)))
  refine hK _ _ rfl ⟨hb_8, (And.intro hs.g2 (And.intro hs.g4 (And.intro hs.g3 (And.intro hs.g1 trivial))))⟩ ?_
  clear hK K
  refine fl fun w_9 n9 => ?_
  replace hs := hs.bl n9
  intro K hK
  have k0_9 := (k0_7.b hb_8).b n9
  replace hq1 := hq1.k k0_9
  replace hq2 := hq2.k k0_9
  replace hd1 := hd1.k k0_9
  replace hd2 := hd2.k k0_9
  go_big_op
  go_fit (rinv_any (L := L) (.mk' hq1 hq2) (.mk' hd1 hd2) (by omega) HH.out.1)
  rintro e w_10 ⟨_, rfl, ⟨n_ia, o_ia, k_ia, c_ia, n_ib, o_ib, k_ib, c_ib, rfl, i1, i2⟩, hb_10⟩
  replace hs := hs.bl hb_10
  rw [HI.out.1] at i1
  rw [HI.out.2] at i2
  refine hK _ _ rfl ⟨hb_10, (And.intro hs.g2 (And.intro hs.g4 (And.intro hs.g3 (And.intro hs.g1 trivial))))⟩ ?_
  clear hK K
  have Li1 := hide (i1.lenOf (LI.out.1))
  have Li2 := hide (i2.lenOf (LI.out.2))
  refine fl fun w_11 n11 => ?_
  replace hs := hs.bl n11
  intro K hK
  have k8_11 := ((kb n9).b hb_10).b n11
  replace h1 := h1.k k8_11
  replace h2 := h2.k k8_11
  have k10_11 := kb n11
  replace i1 := i1.k k10_11
  replace i2 := i2.k k10_11
  go_big_op
  go_fit (rgMul_any (PN.mk' (h1.zn Lh1.out) (h2.zn Lh2.out)) (PN.mk' (i1.zn Li1.out) (i2.zn Li2.out)) (by omega) (by omega) (by omega) (by omega) )
  rintro e w_12 ⟨_, rfl, ⟨n_ja, o_ja, k_ja, c_ja, n_jb, o_jb, k_jb, c_jb, rfl, j1, j2⟩, hb_12⟩
  replace hs := hs.bl hb_12
  have Lj1 := hide (j1.lenOf (zlen_sub (zlen_mul (Lh1.out) (Li1.out)) (zlen_mul (Lh2.out) (Li2.out))))
  have Lj2 := hide (j2.lenOf (zlen_add (zlen_mul (Lh1.out) (Li2.out)) (zlen_mul (Lh2.out) (Li1.out))))
  refine hK _ _ rfl ⟨hb_12, (And.intro hs.g2 (And.intro hs.g4 (And.intro hs.g3 (And.intro hs.g1 trivial))))⟩ ?_
  clear hK K
  refine e1 hs hlB hkB ?_; clear hs hlB hkB; intro w_13 p_b6 hs n13 kb_b6
  refine tl ?_
  refine .s4 hs.g0 (fun _ => hs.u0 kb_b6) ?_ (e := fun _ hs => (And.intro hs.g3 (And.intro hs.g5 (And.intro hs.g4 (And.intro hs.g2 True.intro))))); clear hs; intro w_14 hs hd14 ho14
  apply wpTail_end
  refine hK2 _ _ ?_
  refine wp_seq_k ?_
  intro K3 hK3
  refine wp_region_f4 [(0, false), (1, false), (2, false), (5, false), (6, false), (3, true), (4, true), (7, true), (8, true)] [9] [] (fun _ => default) [0, 1, 2, 99, 99, 1, 3, 99, 99, 99] [] (.c hs.g5 (.c hs.g4 (.c hs.g0 (.c hs.g2 .n)))) fn fun w_15 n15 => ?_
  clear h1 h2 i1 i2 hc1 hc2
  replace hs := hs.bl n15
  refine f4 ?_
  refine f4 ?_
  refine f4 ?_
  refine f4 ?_
  refine f4 ?_
  have Lj1 := hide (j1.lenOf ((mul_tightL Lh1.out Lh2.out Li1.out Li2.out)))
  have Lj2 := hide (j2.lenOf ((mul_tightR Lh1.out Lh2.out Li1.out Li2.out)))
  refine fl fun w_16 n16 => ?_
  replace hs := hs.bl n16
  intro K hK
  have k9_16 := ((((((kb hb_10).b n11).b hb_12).b n13).o hd14 ho14).b n15).b n16
  replace hq1 := hq1.k k9_16
  replace hq2 := hq2.k k9_16
  have k12_16 := (((kb n13).o hd14 ho14).b n15).b n16
  replace j1 := j1.k k12_16
  replace j2 := j2.k k12_16
  go_big_op
  go_fit (rgMul_any (PN.mk' hq1 hq2) (PN.mk' (j1.zn Lj1.out) (j2.zn Lj2.out)) (by omega) (by omega) (by omega) (by omega) )
  rintro e w_17 ⟨_, rfl, ⟨n_oa, o_oa, k_oa, c_oa, n_ob, o_ob, k_ob, c_ob, rfl, o1, o2⟩, hb_17⟩
  replace hs := hs.bl hb_17
  have Lo1 := hide (o1.lenOf (zlen_sub (zlen_mul (hq1.len) (Lj1.out)) (zlen_mul (hq2.len) (Lj2.out))))
  have Lo2 := hide (o2.lenOf (zlen_add (zlen_mul (hq1.len) (Lj2.out)) (zlen_mul (hq2.len) (Lj1.out))))
  refine hK _ _ rfl ⟨hb_17, (And.intro hs.g5 (And.intro hs.g4 (And.intro hs.g0 (And.intro hs.g2 trivial))))⟩ ?_
  clear hK K
  have Lo1 := hide (o1.lenOf ((mul_tightL hq1.len hq2.len Lj1.out Lj2.out)))
  have Lo2 := hide (o2.lenOf ((mul_tightR hq1.len hq2.len Lj1.out Lj2.out)))
  refine fl fun w_18 n18 => ?_
  replace hs := hs.bl n18
  intro K hK
  have k7_18 := ((((((((((kb hb_8).b n9).b hb_10).b n11).b hb_12).b n13).o hd14 ho14).b n15).b n16).b hb_17).b n18
  replace ha1 := ha1.k k7_18
  replace ha2 := ha2.k k7_18
  have k17_18 := kb n18
  replace o1 := o1.k k17_18
  replace o2 := o2.k k17_18
  go_big_op
  go_fit (rgAdd_any (PN.mk' ha1 ha2) (PN.mk' (o1.zn Lo1.out) (o2.zn Lo2.out)) (by omega) (by omega) (by omega) (by omega) )
  rintro e w_19 ⟨_, rfl, ⟨n_za, o_za, k_za, c_za, n_zb, o_zb, k_zb, c_zb, rfl, z1, z2⟩, hb_19⟩
  replace hs := hs.bl hb_19
  have Lz1 := hide (z1.lenOf (zlen_add (ha1.len) (Lo1.out)))
  have Lz2 := hide (z2.lenOf (zlen_add (ha2.len) (Lo2.out)))
  refine hK _ _ rfl ⟨hb_19, (And.intro hs.g5 (And.intro hs.g4 (And.intro hs.g0 (And.intro hs.g2 trivial))))⟩ ?_
  clear hK K
  refine fl fun w_20 n20 => ?_
  replace hs := hs.bl n20
  intro K hK
  have k16_20 := (((kb hb_17).b n18).b hb_19).b n20
  replace hq1 := hq1.k k16_20
  replace hq2 := hq2.k k16_20
  have k9_20 := (((k9_16.b hb_17).b n18).b hb_19).b n20
  replace hd1 := hd1.k k9_20
  replace hd2 := hd2.k k9_20
  go_big_op
  go_fit (rgMul_any (PN.mk' hq1 hq2) (PN.mk' hd1 hd2) (by omega) (by omega) (by omega) (by omega) )
  rintro e w_21 ⟨_, rfl, ⟨n_ea, o_ea, k_ea, c_ea, n_eb, o_eb, k_eb, c_eb, rfl, e1, e2⟩, hb_21⟩
  replace hs := hs.bl hb_21
  have Le1 := hide (e1.lenOf (zlen_sub (zlen_mul (hq1.len) (hd1.len)) (zlen_mul (hq2.len) (hd2.len))))
  have Le2 := hide (e2.lenOf (zlen_add (zlen_mul (hq1.len) (hd2.len)) (zlen_mul (hq2.len) (hd1.len))))
  refine hK _ _ rfl ⟨hb_21, (And.intro hs.g5 (And.intro hs.g4 (And.intro hs.g0 (And.intro hs.g2 trivial))))⟩ ?_
  clear hK K
  refine fl fun w_22 n22 => ?_
  replace hs := hs.bl n22
  intro K hK
  have k19_22 := ((kb n20).b hb_21).b n22
  replace z1 := z1.k k19_22
  replace z2 := z2.k k19_22
  have k21_22 := kb n22
  replace e1 := e1.k k21_22
  replace e2 := e2.k k21_22
  go_big_op
  go_fit (rres_any (PN.mk' (z1.zn Lz1.out) (z2.zn Lz2.out)) (PN.mk' (e1.zn Le1.out) (e2.zn Le2.out)) (by omega) (by omega) (by omega) HH.out.2)
  rintro e w_23 ⟨_, rfl, ⟨n_da, o_da, k_da, c_da, n_db, o_db, k_db, c_db, rfl, d1, d2⟩, hb_23⟩
  replace hs := hs.bl hb_23
  refine hK _ _ rfl ⟨hb_23, (And.intro hs.g5 (And.intro hs.g4 (And.intro hs.g0 (And.intro hs.g2 trivial))))⟩ ?_
  clear hK K
  refine e0 hs ?_; clear hs; intro w_24 hs n24
  clear o1 o2 z1 z2 e1 e2
  refine tl ?_
  refine .s4 hs.g1 (fun _ => hs.u1 kb_b5) ?_ (e := fun _ hs => (And.intro hs.g5 (And.intro hs.g4 (And.intro hs.g0 (And.intro hs.g2 True.intro))))); clear hs; intro w_25 hs hd25 ho25
  apply wpTail_end
  refine hK3 _ _ ?_
  refine wp_ret ?_
  try dsimp only [Exit.then, Exit.inBlock]
  obtain ⟨r0_0, r0_1, r0_2, r0_3⟩ := hs.g1.f4
  refine bodyPost_ret (v := (.agg #[.bool n_da, .slice o_da k_da c_da, .bool n_db, .slice o_db k_db c_db])) (by simp [results, Tryz.results19, go_sem, r0_0, r0_1, r0_2, r0_3]) rfl ?_
  have k23_25 := (kb n24).o hd25 ho25
  replace d1 := d1.k k23_25
  replace d2 := d2.k k23_25
  exact ⟨_, rfl, .mk' d1 d2, hs.b⟩
end
end Go.Proofs.YtbiiglcfdphmaaaGreat
