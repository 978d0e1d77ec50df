/- GintGcds: the law's walk. -/
import Derived.Test.YtgjainmfilkjmaaGreatDoorG15ToG19
import Derived.Test.YtgjainmfilkjmaaGreatDoorT1ToG9
namespace Go.Proofs.YtgjainmfilkjmaaGreatDoor
open Go Go.RowKit Dig
set_option linter.unusedVariables false

section
variable {w : World} {va vb : Value} {x y u v : Int}
set_option maxHeartbeats 8000000 in
set_option maxRecDepth 20000 in
theorem ggcds_any (ha : PN w va x 1048576 y 1048576) (hq : PN w vb u 1048576 v 1048576) (htab : Lib.TabIs Tryz.prog w p10 .u64 Lib.pow10Tab) :
    Calls Tryz.prog 4 #[va, vb] w fun e w' => e = .returned (.bool true) ∧ Below w.heap.size w w' := by
  have htabs := Lib.tabBelow_of_tabIs htab
  have hfin := GI.fin _ (GI.start x y u v) (Nat.le_refl _)
  obtain ⟨F, hF⟩ : ∃ F, (GS.start x y u v).fin = F := ⟨_, rfl⟩
  rw [hF] at hfin
  have HF := hide hF
  have lr := len_norm (x := F.r1) (y := F.r2) (Int.le_trans hfin.1.nr (by have := gN_nonneg x y; have := gN_nonneg u v; omega)) ha.len1 ha.len2 hq.len1 hq.len2
  have lx := len_norm hfin.1.nx ha.len1 ha.len2 hq.len1 hq.len2
  have ly := len_norm hfin.1.ny ha.len1 ha.len2 hq.len1 hq.len2
  have l1 := zlen_turn lr.1 lr.2 (kq F.r1 F.r2)
  have l2 := zlen_turn lx.1 lx.2 (kq F.r1 F.r2)
  have l3 := zlen_turn ly.1 ly.2 (kq F.r1 F.r2)
  obtain ⟨D1, hD1⟩ : ∃ D, (turn (kq F.r1 F.r2) (F.r1, F.r2)).1 = D := ⟨_, rfl⟩
  obtain ⟨D2, hD2⟩ : ∃ D, (turn (kq F.r1 F.r2) (F.r1, F.r2)).2 = D := ⟨_, rfl⟩
  obtain ⟨S1, hS1⟩ : ∃ D, (turn (kq F.r1 F.r2) (F.x1, F.x2)).1 = D := ⟨_, rfl⟩
  obtain ⟨S2, hS2⟩ : ∃ D, (turn (kq F.r1 F.r2) (F.x1, F.x2)).2 = D := ⟨_, rfl⟩
  obtain ⟨T1, hT1⟩ : ∃ D, (turn (kq F.r1 F.r2) (F.y1, F.y2)).1 = D := ⟨_, rfl⟩
  obtain ⟨T2, hT2⟩ : ∃ D, (turn (kq F.r1 F.r2) (F.y1, F.y2)).2 = D := ⟨_, rfl⟩
  rw [hD1, hD2] at l1
  rw [hS1, hS2] at l2
  rw [hT1, hT2] at l3
  have EQ := hide (And.intro (And.intro hD1 hD2) (And.intro (And.intro hS1 hS2) (And.intro hT1 hT2)))
  have LD := hide l1
  have LS := hide l2
  have LT := hide l3
  clear hfin hF lr lx ly l1 l2 l3 hD1 hD2 hS1 hS2 hT1 hT2
  obtain ⟨n_0a, o_0a, k_0a, c_0a, n_0b, o_0b, k_0b, c_0b, rfl, ha1, ha2⟩ := ha
  obtain ⟨n_1a, o_1a, k_1a, c_1a, n_1b, o_1b, k_1b, c_1b, rfl, hq1, hq2⟩ := hq
  go_enter Tryz.func4, Tryz.ntmps4
  have hs := St.nil w
  refine wp_seq_k ?_
  intro K1 hK1
  refine rg [0, 1, 2] ?_
  refine sq ?_
  refine .al hs ?_; clear hs; intro p_b1 w_1 hs n1 kb_b1
  refine sq ?_
  refine .al hs ?_; clear hs; intro p_b2 w_2 hs n2 kb_b2
  refine sq ?_
  refine .mv ?_
  apply wpSq_end
  refine hK1 _ _ ?_
  refine wp_seq_k ?_
  intro K2 hK2
  refine rg [0, 1, 2, 3, 4, 5, 6, 7, 8, 9, 10, 11, 12] ?_
  refine sq ?_
  refine .r4 hs.g1.f4 ?_
  refine sq ?_
  refine .r4 hs.g0.f4 ?_
  refine sq ?_
  intro K hK
  have k0_2 := (kb n1).b n2
  replace ha1 := ha1.k k0_2
  replace ha2 := ha2.k k0_2
  replace hq1 := hq1.k k0_2
  replace hq2 := hq2.k k0_2
  go_big_op
  go_fit (gxgcd_any (L := 1048576) (PN.mk' ha1 ha2) (PN.mk' hq1 hq2) (by decide))
  rintro e w_3 ⟨_, _, _, rfl, ⟨n_da, o_da, k_da, c_da, n_db, o_db, k_db, c_db, rfl, d1, d2⟩, ⟨n_sa, o_sa, k_sa, c_sa, n_sb, o_sb, k_sb, c_sb, rfl, s1, s2⟩, ⟨n_ta, o_ta, k_ta, c_ta, n_tb, o_tb, k_tb, c_tb, rfl, t1, t2⟩, hb_3⟩
  replace hs := hs.bl hb_3
  rw [HF.out, EQ.out.1.1] at d1
  rw [HF.out, EQ.out.1.2] at d2
  rw [HF.out, EQ.out.2.1.1] at s1
  rw [HF.out, EQ.out.2.1.2] at s2
  rw [HF.out, EQ.out.2.2.1] at t1
  rw [HF.out, EQ.out.2.2.2] at t2
  refine hK _ _ rfl trivial ?_
  clear hK K
  refine sq ?_
  refine .mv ?_
  refine sq ?_
  refine .r0 ?_
  refine sq ?_
  refine .r0 ?_
  refine sq ?_
  refine .r0 ?_
  refine sq ?_
  refine .al hs ?_; clear hs; intro p_b3 w_4 hs n4 kb_b3
  refine sq ?_
  refine .al hs ?_; clear hs; intro p_b4 w_5 hs n5 kb_b4
  refine sq ?_
  refine .al hs ?_; clear hs; intro p_b5 w_6 hs n6 kb_b5
  refine sq ?_
  refine .s4 hs.g2 (fun _ => hs.u2 kb_b3) ?_; clear hs; intro w_7 hs hd7 ho7
  refine sq ?_
  refine .s4 hs.g1 (fun _ => hs.u1 kb_b4) ?_; clear hs; intro w_8 hs hd8 ho8
  refine sq ?_
  refine .s4 hs.g0 (fun _ => hs.u0 kb_b5) ?_; clear hs; intro w_9 hs hd9 ho9
  apply wpSq_end
  refine hK2 _ _ ?_
  refine wp_seq_k ?_
  intro K3 hK3
  refine rg [0, 1, 2, 3, 4, 5, 6, 7, 8, 9, 10, 11, 12] ?_
  refine sq ?_
  refine .r4 hs.g4.f4 ?_
  refine sq ?_
  refine .r4 hs.g3.f4 ?_
  refine sq ?_
  intro K hK
  have k2_9 := ((((((kb hb_3).b n4).b n5).b n6).o hd7 ho7).o hd8 ho8).o hd9 ho9
  replace ha1 := ha1.k k2_9
  replace ha2 := ha2.k k2_9
  replace hq1 := hq1.k k2_9
  replace hq2 := hq2.k k2_9
  go_big_op
  go_fit (rgxgcd_any (L := 1048576) (PN.mk' ha1 ha2) (PN.mk' hq1 hq2) (by decide))
  rintro e w_10 ⟨_, _, _, rfl, ⟨n_ea, o_ea, k_ea, c_ea, n_eb, o_eb, k_eb, c_eb, rfl, e1, e2⟩, ⟨n_ja, o_ja, k_ja, c_ja, n_jb, o_jb, k_jb, c_jb, rfl, j1, j2⟩, ⟨n_oa, o_oa, k_oa, c_oa, n_ob, o_ob, k_ob, c_ob, rfl, o1, o2⟩, hb_10⟩
  replace hs := hs.bl hb_10
  rw [HF.out, EQ.out.1.1] at e1
  rw [HF.out, EQ.out.1.2] at e2
  rw [HF.out, EQ.out.2.1.1] at j1
  rw [HF.out, EQ.out.2.1.2] at j2
  rw [HF.out, EQ.out.2.2.1] at o1
  rw [HF.out, EQ.out.2.2.2] at o2
  refine hK _ _ rfl trivial ?_
  clear hK K
  refine sq ?_
  refine .mv ?_
  refine sq ?_
  refine .r0 ?_
  refine sq ?_
  refine .r0 ?_
  refine sq ?_
  refine .r0 ?_
  refine sq ?_
  refine .al hs ?_; clear hs; intro p_b6 w_11 hs n11 kb_b6
  refine sq ?_
  refine .al hs ?_; clear hs; intro p_b7 w_12 hs n12 kb_b7
  refine sq ?_
  refine .al hs ?_; clear hs; intro p_b8 w_13 hs n13 kb_b8
  refine sq ?_
  refine .s4 hs.g2 (fun _ => hs.u2 kb_b6) ?_; clear hs; intro w_14 hs hd14 ho14
  refine sq ?_
  refine .s4 hs.g1 (fun _ => hs.u1 kb_b7) ?_; clear hs; intro w_15 hs hd15 ho15
  refine sq ?_
  refine .s4 hs.g0 (fun _ => hs.u0 kb_b8) ?_; clear hs; intro w_16 hs hd16 ho16
  apply wpSq_end
  refine hK3 _ _ ?_
  refine wp_seq_k ?_
  intro K4 hK4
  refine wp_region_f4 [(0, true), (1, false), (2, false), (3, false), (5, false), (4, true), (6, true), (7, false), (8, false), (9, false), (10, false), (11, true), (12, false), (13, false), (14, false), (15, false), (16, true), (17, false), (18, false), (19, false), (20, false), (21, true), (22, false), (23, false)] [] [] (fun _ => default) [99, 99, 0, 1, 99, 2, 99, 99, 99, 3, 2, 99, 99, 99, 4, 5, 99, 99, 99, 6, 7, 99, 99, 99] [] (.c hs.g7 (.c hs.g6 (.c hs.g2 (.c hs.g5 (.c hs.g4 (.c hs.g1 (.c hs.g3 (.c hs.g0 .n)))))))) fn fun w_17 n17 => ?_
  replace hs := hs.bl n17
  have Le1 := hide (e1.lenOf (LD.out.1))
  have Le2 := hide (e2.lenOf (LD.out.2))
  have Lj1 := hide (j1.lenOf (LS.out.1))
  have Lj2 := hide (j2.lenOf (LS.out.2))
  have Lo1 := hide (o1.lenOf (LT.out.1))
  have Lo2 := hide (o2.lenOf (LT.out.2))
  refine fl fun w_18 n18 => ?_
  replace hs := hs.bl n18
  intro K hK
  have hb := hs.b
  go_big_op
  go_fit (gawake_any _ (htabs _ hb))
  rintro e w_19 ⟨rfl, hb_19⟩
  clear hb
  replace hs := hs.bl hb_19
  refine hK _ _ rfl ⟨hb_19, (And.intro hs.g7 (And.intro hs.g6 (And.intro hs.g2 (And.intro hs.g5 (And.intro hs.g4 (And.intro hs.g1 (And.intro hs.g3 (And.intro hs.g0 trivial))))))))⟩ ?_
  clear hK K
  refine fmv ?_
  refine f4 ?_
  refine f4 ?_
  refine f4 ?_
  refine fl fun w_20 n20 => ?_
  replace hs := hs.bl n20
  intro K hK
  have k9_20 := ((((((((((kb hb_10).b n11).b n12).b n13).o hd14 ho14).o hd15 ho15).o hd16 ho16).b n17).b n18).b hb_19).b n20
  replace ha1 := ha1.k k9_20
  replace ha2 := ha2.k k9_20
  replace hq1 := hq1.k k9_20
  replace hq2 := hq2.k k9_20
  go_big_op
  go_fit (ggcd_any (L := 1048576) (PN.mk' ha1 ha2) (PN.mk' hq1 hq2) (by decide))
  rintro e w_21 ⟨_, rfl, ⟨n_ma, o_ma, k_ma, c_ma, n_mb, o_mb, k_mb, c_mb, rfl, m1, m2⟩, hb_21⟩
  replace hs := hs.bl hb_21
  rw [HF.out, EQ.out.1.1] at m1
  rw [HF.out, EQ.out.1.2] at m2
  refine hK _ _ rfl ⟨hb_21, (And.intro hs.g7 (And.intro hs.g6 (And.intro hs.g2 (And.intro hs.g5 (And.intro hs.g4 (And.intro hs.g1 (And.intro hs.g3 (And.intro hs.g0 trivial))))))))⟩ ?_
  clear hK K
  refine fl fun w_22 n22 => ?_
  replace hs := hs.bl n22
  intro K hK
  have k21_22 := kb n22
  replace m1 := m1.k k21_22
  replace m2 := m2.k k21_22
  have k10_22 := (((((((((((kb n11).b n12).b n13).o hd14 ho14).o hd15 ho15).o hd16 ho16).b n17).b n18).b hb_19).b n20).b hb_21).b n22
  replace e1 := e1.k k10_22
  replace e2 := e2.k k10_22
  go_big_op
  go_fit (gis_any (PC.mk' m1 m2) (PN.mk' (e1.zn Le1.out) (e2.zn Le2.out)) (by omega) (by omega) )
  rintro e w_23 ⟨rfl, hb_23⟩
  replace hs := hs.bl hb_23
  refine hK _ _ rfl ⟨hb_23, (And.intro hs.g7 (And.intro hs.g6 (And.intro hs.g2 (And.intro hs.g5 (And.intro hs.g4 (And.intro hs.g1 (And.intro hs.g3 (And.intro hs.g0 trivial))))))))⟩ ?_
  clear hK K
  refine f0 ?_
  refine fmv ?_
  refine f4 ?_
  refine f4 ?_
  refine fl fun w_24 n24 => ?_
  replace hs := hs.bl n24
  intro K hK
  have k3_24 := ((((((((((((((((((((kb n4).b n5).b n6).o hd7 ho7).o hd8 ho8).o hd9 ho9).b hb_10).b n11).b n12).b n13).o hd14 ho14).o hd15 ho15).o hd16 ho16).b n17).b n18).b hb_19).b n20).b hb_21).b n22).b hb_23).b n24
  replace d1 := d1.k k3_24
  replace d2 := d2.k k3_24
  have k22_24 := (kb hb_23).b n24
  replace e1 := e1.k k22_24
  replace e2 := e2.k k22_24
  go_big_op
  go_fit (gis_any (PC.mk' d1 d2) (PN.mk' (e1.zn Le1.out) (e2.zn Le2.out)) (by omega) (by omega) )
  rintro e w_25 ⟨rfl, hb_25⟩
  replace hs := hs.bl hb_25
  refine hK _ _ rfl ⟨hb_25, (And.intro hs.g7 (And.intro hs.g6 (And.intro hs.g2 (And.intro hs.g5 (And.intro hs.g4 (And.intro hs.g1 (And.intro hs.g3 (And.intro hs.g0 trivial))))))))⟩ ?_
  clear hK K
  refine f0 ?_
  refine fmv ?_
  refine f4 ?_
  refine f4 ?_
  refine fl fun w_26 n26 => ?_
  replace hs := hs.bl n26
  intro K hK
  have k3_26 := (k3_24.b hb_25).b n26
  replace s1 := s1.k k3_26
  replace s2 := s2.k k3_26
  have k10_26 := (((k10_22.b hb_23).b n24).b hb_25).b n26
  replace j1 := j1.k k10_26
  replace j2 := j2.k k10_26
  go_big_op
  go_fit (gis_any (PC.mk' s1 s2) (PN.mk' (j1.zn Lj1.out) (j2.zn Lj2.out)) (by omega) (by omega) )
  rintro e w_27 ⟨rfl, hb_27⟩
  replace hs := hs.bl hb_27
  refine hK _ _ rfl ⟨hb_27, (And.intro hs.g7 (And.intro hs.g6 (And.intro hs.g2 (And.intro hs.g5 (And.intro hs.g4 (And.intro hs.g1 (And.intro hs.g3 (And.intro hs.g0 trivial))))))))⟩ ?_
  clear hK K
  refine f0 ?_
  refine fmv ?_
  refine f4 ?_
  refine f4 ?_
  refine fl fun w_28 n28 => ?_
  replace hs := hs.bl n28
  intro K hK
  have k3_28 := (k3_26.b hb_27).b n28
  replace t1 := t1.k k3_28
  replace t2 := t2.k k3_28
  have k10_28 := (k10_26.b hb_27).b n28
  replace o1 := o1.k k10_28
  replace o2 := o2.k k10_28
  go_big_op
  go_fit (gis_any (PC.mk' t1 t2) (PN.mk' (o1.zn Lo1.out) (o2.zn Lo2.out)) (by omega) (by omega) )
  rintro e w_29 ⟨rfl, hb_29⟩
  replace hs := hs.bl hb_29
  refine hK _ _ rfl ⟨hb_29, (And.intro hs.g7 (And.intro hs.g6 (And.intro hs.g2 (And.intro hs.g5 (And.intro hs.g4 (And.intro hs.g1 (And.intro hs.g3 (And.intro hs.g0 trivial))))))))⟩ ?_
  clear hK K
  refine f0 ?_
  refine fmv ?_
  refine e0 hs ?_; clear hs; intro w_30 hs n30
  apply wpTail_end
  refine hK4 _ _ ?_
  refine wp_ret ?_
  try dsimp only [Exit.then, Exit.inBlock]
  refine bodyPost_ret (v := (.bool true)) (by simp [results, Tryz.results4, go_sem]) rfl ?_
  have hb := hs.b
  exact ⟨rfl, hb⟩
end
theorem walk_GintGcds (w : World) (n1 : Bool) (s1 : Value) (xs : List Nat) (h1 : Rd w s1 xs) (l1 : xs.length ≤ 1048576) (n2 : Bool) (s2 : Value) (ys : List Nat) (h2 : Rd w s2 ys) (l2 : ys.length ≤ 1048576)
    (n3 : Bool) (s3 : Value) (us : List Nat) (h3 : Rd w s3 us) (l3 : us.length ≤ 1048576) (n4 : Bool) (s4 : Value) (vs : List Nat) (h4 : Rd w s4 vs) (l4 : vs.length ≤ 1048576) (htab : Lib.TabIs Tryz.prog w p10 .u64 Lib.pow10Tab) :
    Calls Tryz.prog 4 #[.agg #[.bool n1, s1, .bool n2, s2], .agg #[.bool n3, s3, .bool n4, s4]] w fun e w' => e = .returned (.bool true) ∧ Below w.heap.size w w' :=
  ggcds_any (PN.of_rd n1 n2 h1 l1 h2 l2) (PN.of_rd n3 n4 h3 l3 h4 l4) htab
end Go.Proofs.YtgjainmfilkjmaaGreatDoor

