/- gint.Xgcd. -/
import Derived.Test.YtbiiglcfdphmaaaGreatG11ToG13
import Derived.Test.YtbiiglcfdphmaaaGreatG8ToPx
import Derived.Test.YtbiiglcfdphmaaaGreatY8

namespace Go.Proofs.YtbiiglcfdphmaaaGreat
open Go Go.RowKit Dig
set_option maxHeartbeats 8000000
set_option maxRecDepth 20000
set_option linter.unusedVariables false
def SC (w : World) (v : Value) (z1 z2 z3 z4 z5 z6 : Int) : Prop :=
  ∃ n1 o1 k1 c1 n2 o2 k2 c2 n3 o3 k3 c3 n4 o4 k4 c4 n5 o5 k5 c5 n6 o6 k6 c6, v = .agg #[.bool n1, .slice o1 k1 c1, .bool n2, .slice o2 k2 c2, .bool n3, .slice o3 k3 c3, .bool n4, .slice o4 k4 c4, .bool n5, .slice o5 k5 c5, .bool n6, .slice o6 k6 c6] ∧ ZC w (.agg #[.bool n1, .slice o1 k1 c1]) z1 ∧ ZC w (.agg #[.bool n2, .slice o2 k2 c2]) z2 ∧ ZC w (.agg #[.bool n3, .slice o3 k3 c3]) z3 ∧ ZC w (.agg #[.bool n4, .slice o4 k4 c4]) z4 ∧ ZC w (.agg #[.bool n5, .slice o5 k5 c5]) z5 ∧ ZC w (.agg #[.bool n6, .slice o6 k6 c6]) z6
theorem SC.mk' {w : World} {n1 n2 n3 n4 n5 n6 : Bool} {o1 o2 o3 o4 o5 o6 : Option Addr} {k1 c1 k2 c2 k3 c3 k4 c4 k5 c5 k6 c6 : Nat} {z1 z2 z3 z4 z5 z6 : Int} (h1 : ZC w (.agg #[.bool n1, .slice o1 k1 c1]) z1) (h2 : ZC w (.agg #[.bool n2, .slice o2 k2 c2]) z2) (h3 : ZC w (.agg #[.bool n3, .slice o3 k3 c3]) z3) (h4 : ZC w (.agg #[.bool n4, .slice o4 k4 c4]) z4) (h5 : ZC w (.agg #[.bool n5, .slice o5 k5 c5]) z5) (h6 : ZC w (.agg #[.bool n6, .slice o6 k6 c6]) z6) : SC w (.agg #[.bool n1, .slice o1 k1 c1, .bool n2, .slice o2 k2 c2, .bool n3, .slice o3 k3 c3, .bool n4, .slice o4 k4 c4, .bool n5, .slice o5 k5 c5, .bool n6, .slice o6 k6 c6]) z1 z2 z3 z4 z5 z6 :=
  ⟨_, _, _, _, _, _, _, _, _, _, _, _, _, _, _, _, _, _, _, _, _, _, _, _, rfl, h1, h2, h3, h4, h5, h6⟩
section
variable {w : World} {va vb : Value} {x y u v : Int} {l m k n : Nat}
theorem isZero_yes (ha : PN w va 0 l 0 m) (hl : l ≤ 100000000) (hm : m ≤ 100000000) :
    Calls Tryz.prog 127 #[va] w fun e w' => e = .returned (.bool true) ∧ Below w.heap.size w w' := by
  obtain ⟨n_0a, o_0a, k_0a, c_0a, n_0b, o_0b, k_0b, c_0b, rfl, ha1, ha2⟩ := ha
  go_enter Tryz.func127, Tryz.ntmps127
  have hs := St.nil w
  refine wp_seq_k ?_
  intro K1 hK1
  refine rg [0, 1] ?_
  refine sq ?_
  refine .al hs ?_; clear hs; intro p_b1 w_1 hs n1 kb_b1
  refine sq ?_
  refine .mv ?_
  apply wpSq_end
  refine hK1 _ _ ?_
  refine wp_seq_k ?_
  intro K2 hK2
  refine rg [0, 1, 2, 3, 4, 5, 6, 7, 8, 9, 10] ?_
  refine sq ?_
  refine .r0 ?_
  refine sq ?_
  refine .r4 hs.g0.f4 ?_
  refine sq ?_
  intro K hK
  have k0_1 := kb n1
  replace ha1 := ha1.k k0_1
  go_big_op
  go_fit (zsign_any ha1 (by omega) )
  rintro e w_2 ⟨rfl, hb_2⟩
  replace hs := hs.bl hb_2
  refine hK _ _ rfl trivial ?_
  clear hK K
  refine sq ?_
  refine .r0 ?_
  refine sq ?_
  refine .mv ?_
  refine sq ?_
  refine .r0 ?_
  refine sq ?_
  refine .r4 hs.g0.f4 ?_
  refine sq ?_
  intro K hK
  have k0_2 := k0_1.b hb_2
  replace ha2 := ha2.k k0_2
  go_big_op
  go_fit (zsign_any ha2 (by omega) )
  rintro e w_3 ⟨rfl, hb_3⟩
  replace hs := hs.bl hb_3
  refine hK _ _ rfl trivial ?_
  clear hK K
  refine sq ?_
  refine .r0 ?_
  refine sq ?_
  refine .r0 ?_
  refine sq ?_
  refine .mv ?_
  apply wpSq_end
  refine hK2 _ _ ?_
  refine wp_ret ?_
  try dsimp only [Exit.then, Exit.inBlock]
  refine bodyPost_ret (v := (.bool true)) (by simp [results, Tryz.results127, go_sem]) rfl ?_
  have hb := hs.b
  exact ⟨rfl, hb⟩
theorem isZero_no1 (ha : PN w va x l y m) (hl : l ≤ 100000000) (hm : m ≤ 100000000) (h : x ≠ 0) :
    Calls Tryz.prog 127 #[va] w fun e w' => e = .returned (.bool false) ∧ Below w.heap.size w w' := by
  have H0 : (x.sign == 0) = false := by simpa using h
  obtain ⟨S, hS⟩ : ∃ S, x.sign = S := ⟨_, rfl⟩
  rw [hS] at H0
  have HS := hide hS
  clear h hS
  obtain ⟨n_0a, o_0a, k_0a, c_0a, n_0b, o_0b, k_0b, c_0b, rfl, ha1, ha2⟩ := ha
  go_enter Tryz.func127, Tryz.ntmps127
  have hs := St.nil w
  refine wp_seq_k ?_
  intro K1 hK1
  refine rg [0, 1] ?_
  refine sq ?_
  refine .al hs ?_; clear hs; intro p_b1 w_1 hs n1 kb_b1
  refine sq ?_
  refine .mv ?_
  apply wpSq_end
  refine hK1 _ _ ?_
  refine wp_seq_k ?_
  intro K2 hK2
  refine rg [0, 1, 2, 3, 4, 5, 6, 7, 8, 9, 10] ?_
  refine sq ?_
  refine .r0 ?_
  refine sq ?_
  refine .r4 hs.g0.f4 ?_
  refine sq ?_
  intro K hK
  have k0_1 := kb n1
  replace ha1 := ha1.k k0_1
  go_big_op
  go_fit (zsign_any ha1 (by omega) )
  rintro e w_2 ⟨rfl, hb_2⟩
  replace hs := hs.bl hb_2
  rw [HS.out]
  refine hK _ _ rfl trivial ?_
  clear hK K
  refine sq ?_
  refine .r0 ?_
  refine sq ?_
  refine .mv ?_
  refine sk ?_
  refine sk ?_
  refine sk ?_
  refine sk ?_
  refine sq ?_
  refine .r0 ?_
  refine sq ?_
  refine .mv ?_
  apply wpSq_end
  refine hK2 _ _ ?_
  refine wp_ret ?_
  try dsimp only [Exit.then, Exit.inBlock]
  refine bodyPost_ret (v := (.bool false)) (by simp [results, Tryz.results127, go_sem]) rfl ?_
  have hb := hs.b
  exact ⟨rfl, hb⟩
theorem isZero_no2 (ha : PN w va 0 l y m) (hl : l ≤ 100000000) (hm : m ≤ 100000000) (h : y ≠ 0) :
    Calls Tryz.prog 127 #[va] w fun e w' => e = .returned (.bool false) ∧ Below w.heap.size w w' := by
  have H0 : (y.sign == 0) = false := by simpa using h
  obtain ⟨S, hS⟩ : ∃ S, y.sign = S := ⟨_, rfl⟩
  rw [hS] at H0
  have HS := hide hS
  clear h hS
  obtain ⟨n_0a, o_0a, k_0a, c_0a, n_0b, o_0b, k_0b, c_0b, rfl, ha1, ha2⟩ := ha
  go_enter Tryz.func127, Tryz.ntmps127
  have hs := St.nil w
  refine wp_seq_k ?_
  intro K1 hK1
  refine rg [0, 1] ?_
  refine sq ?_
  refine .al hs ?_; clear hs; intro p_b1 w_1 hs n1 kb_b1
  refine sq ?_
  refine .mv ?_
  apply wpSq_end
  refine hK1 _ _ ?_
  refine wp_seq_k ?_
  intro K2 hK2
  refine rg [0, 1, 2, 3, 4, 5, 6, 7, 8, 9, 10] ?_
  refine sq ?_
  refine .r0 ?_
  refine sq ?_
  refine .r4 hs.g0.f4 ?_
  refine sq ?_
  intro K hK
  have k0_1 := kb n1
  replace ha1 := ha1.k k0_1
  go_big_op
  go_fit (zsign_any ha1 (by omega) )
  rintro e w_2 ⟨rfl, hb_2⟩
  replace hs := hs.bl hb_2
  refine hK _ _ rfl trivial ?_
  clear hK K
  refine sq ?_
  refine .r0 ?_
  refine sq ?_
  refine .mv ?_
  refine sq ?_
  refine .r0 ?_
  refine sq ?_
  refine .r4 hs.g0.f4 ?_
  refine sq ?_
  intro K hK
  have k0_2 := k0_1.b hb_2
  replace ha2 := ha2.k k0_2
  go_big_op
  go_fit (zsign_any ha2 (by omega) )
  rintro e w_3 ⟨rfl, hb_3⟩
  replace hs := hs.bl hb_3
  rw [HS.out]
  refine hK _ _ rfl trivial ?_
  clear hK K
  refine sq ?_
  refine .r0 ?_
  refine sq ?_
  refine .r0 ?_
  refine sq ?_
  refine .mv ?_
  apply wpSq_end
  refine hK2 _ _ ?_
  refine wp_ret ?_
  try dsimp only [Exit.then, Exit.inBlock]
  refine bodyPost_ret (v := (.bool false)) (by simp [results, Tryz.results127, go_sem]) rfl ?_
  have hb := hs.b
  exact ⟨rfl, hb⟩
theorem isZero_no (ha : PN w va x l y m) (hl : l ≤ 100000000) (hm : m ≤ 100000000) (h : gN x y ≠ 0) :
    Calls Tryz.prog 127 #[va] w fun e w' => e = .returned (.bool false) ∧ Below w.heap.size w w' := by
  by_cases hx : x = 0
  · subst hx
    exact isZero_no2 ha hl hm (fun c => h (gN_zero.2 ⟨rfl, c⟩))
  · exact isZero_no1 ha hl hm hx
end
end Go.Proofs.YtbiiglcfdphmaaaGreat

/- gint: one sum of both less a multiple of another. -/
namespace Go.Proofs.YtbiiglcfdphmaaaGreat
open Go Go.RowKit Dig
set_option linter.unusedVariables false
section
variable {w : World} {va vb : Value} {x y u v : Int} {l m k n : Nat}
set_option maxHeartbeats 8000000 in
set_option maxRecDepth 20000 in
theorem less_any {q1 q2 : Int} {an1 bn1 an2 bn2 an3 bn3 an4 bn4 an5 bn5 an6 bn6 : Bool} {ao1 bo1 ao2 bo2 ao3 bo3 ao4 bo4 ao5 bo5 ao6 bo6 : Option Addr} {ak1 ac1 bk1 bc1 ak2 ac2 bk2 bc2 ak3 ac3 bk3 bc3 ak4 ac4 bk4 bc4 ak5 ac5 bk5 bc5 ak6 ac6 bk6 bc6 : Nat} {a1 a2 a3 a4 a5 a6 b1 b2 b3 b4 b5 b6 : Int} {L : Nat} (hL : L ≤ 9000000)
    (ha1 : ZN w (.agg #[.bool an1, .slice ao1 ak1 ac1]) a1 L) (ha2 : ZN w (.agg #[.bool an2, .slice ao2 ak2 ac2]) a2 L) (ha3 : ZN w (.agg #[.bool an3, .slice ao3 ak3 ac3]) a3 L) (ha4 : ZN w (.agg #[.bool an4, .slice ao4 ak4 ac4]) a4 L) (ha5 : ZN w (.agg #[.bool an5, .slice ao5 ak5 ac5]) a5 L) (ha6 : ZN w (.agg #[.bool an6, .slice ao6 ak6 ac6]) a6 L) (hc1 : ZN w (.agg #[.bool bn1, .slice bo1 bk1 bc1]) b1 L) (hc2 : ZN w (.agg #[.bool bn2, .slice bo2 bk2 bc2]) b2 L) (hc3 : ZN w (.agg #[.bool bn3, .slice bo3 bk3 bc3]) b3 L) (hc4 : ZN w (.agg #[.bool bn4, .slice bo4 bk4 bc4]) b4 L) (hc5 : ZN w (.agg #[.bool bn5, .slice bo5 bk5 bc5]) b5 L) (hc6 : ZN w (.agg #[.bool bn6, .slice bo6 bk6 bc6]) b6 L) (hq : PN w vb q1 l q2 m) (hl : l ≤ 9000000) (hm : m ≤ 9000000) :
    Calls Tryz.prog 129 #[.agg #[.bool an1, .slice ao1 ak1 ac1, .bool an2, .slice ao2 ak2 ac2, .bool an3, .slice ao3 ak3 ac3, .bool an4, .slice ao4 ak4 ac4, .bool an5, .slice ao5 ak5 ac5, .bool an6, .slice ao6 ak6 ac6], vb, .agg #[.bool bn1, .slice bo1 bk1 bc1, .bool bn2, .slice bo2 bk2 bc2, .bool bn3, .slice bo3 bk3 bc3, .bool bn4, .slice bo4 bk4 bc4, .bool bn5, .slice bo5 bk5 bc5, .bool bn6, .slice bo6 bk6 bc6]] w fun e w' => ∃ r, e = .returned r ∧ SC w' r (a1 - (q1 * b1 - q2 * b2)) (a2 - (q1 * b2 + q2 * b1)) (a3 - (q1 * b3 - q2 * b4)) (a4 - (q1 * b4 + q2 * b3)) (a5 - (q1 * b5 - q2 * b6)) (a6 - (q1 * b6 + q2 * b5)) ∧ Below w.heap.size w w' := by
  obtain ⟨n_1a, o_1a, k_1a, c_1a, n_1b, o_1b, k_1b, c_1b, rfl, hq1, hq2⟩ := hq
  go_enter Tryz.func129, Tryz.ntmps129
  have hs := St.nil w
  refine wp_seq_k ?_
  intro K1 hK1
  refine rg [0, 1, 2, 3] ?_
  refine sq ?_
  refine .al hs ?_; clear hs; intro p_b1 w_1 hs n1 kb_b1
  refine sq ?_
  refine .al hs ?_; clear hs; intro p_b2 w_2 hs n2 kb_b2
  refine sq ?_
  refine .al hs ?_; clear hs; intro p_b3 w_3 hs n3 kb_b3
  refine sq ?_
  refine .al hs ?_; clear hs; intro p_b4 w_4 hs n4 kb_b4
  apply wpSq_end
  refine hK1 _ _ ?_
  refine wp_seq_k ?_
  intro K2 hK2
  refine wp_region_f4 [(0, false), (1, false), (2, false), (3, false), (4, false), (7, false), (8, false), (9, false), (10, false), (11, false), (14, false), (15, false), (16, false), (17, false), (18, false), (5, true), (6, true), (12, true), (13, true), (19, true), (20, true), (21, false)] [22] [] (fun _ => default) [99, 0, 1, 99, 2, 99, 99, 99, 0, 1, 99, 2, 99, 99, 99, 0, 1, 99, 2, 99, 99, 99, 99] [] (.c hs.g3 (.c hs.g2 (.c hs.g1 .n))) fn fun w_5 n5 => ?_
  replace hs := hs.bl n5
  refine f0 ?_
  apply wpFl_ld rfl rfl; (case h1 => intro w' hC K hK; have c0 := Bs.cell hC 0 rfl; have c1 := Bs.cell hC 1 rfl; have c2 := Bs.cell hC 2 rfl; have c3 := Bs.cell hC 3 rfl; go_big_op; exact hK); iterate 4 kernel_rfl
  refine f4 ?_
  refine f0 ?_
  apply wpFl_ld rfl rfl; (case h1 => intro w' hC K hK; have c0 := Bs.cell hC 0 rfl; have c1 := Bs.cell hC 1 rfl; have c2 := Bs.cell hC 2 rfl; have c3 := Bs.cell hC 3 rfl; go_big_op; exact hK); iterate 4 kernel_rfl
  refine f0 ?_
  apply wpFl_ld rfl rfl; (case h1 => intro w' hC K hK; have c4 := Bs.cell hC 4 rfl; have c5 := Bs.cell hC 5 rfl; have c6 := Bs.cell hC 6 rfl; have c7 := Bs.cell hC 7 rfl; go_big_op; exact hK); iterate 4 kernel_rfl
  refine f4 ?_
  refine f0 ?_
  apply wpFl_ld rfl rfl; (case h1 => intro w' hC K hK; have c4 := Bs.cell hC 4 rfl; have c5 := Bs.cell hC 5 rfl; have c6 := Bs.cell hC 6 rfl; have c7 := Bs.cell hC 7 rfl; go_big_op; exact hK); iterate 4 kernel_rfl
  refine f0 ?_
  apply wpFl_ld rfl rfl; (case h1 => intro w' hC K hK; have c8 := Bs.cell hC 8 rfl; have c9 := Bs.cell hC 9 rfl; have c10 := Bs.cell hC 10 rfl; have c11 := Bs.cell hC 11 rfl; go_big_op; exact hK); iterate 4 kernel_rfl
  refine f4 ?_
  refine f0 ?_
  apply wpFl_ld rfl rfl; (case h1 => intro w' hC K hK; have c8 := Bs.cell hC 8 rfl; have c9 := Bs.cell hC 9 rfl; have c10 := Bs.cell hC 10 rfl; have c11 := Bs.cell hC 11 rfl; go_big_op; exact hK); iterate 4 kernel_rfl
  refine fl fun w_6 n6 => ?_
  replace hs := hs.bl n6
  intro K hK
  have k0_6 := (((((kb n1).b n2).b n3).b n4).b n5).b n6
  replace hq1 := hq1.k k0_6
  replace hq2 := hq2.k k0_6
  replace hc1 := hc1.k k0_6
  replace hc2 := hc2.k k0_6
  go_big_op
  go_fit (gMul_any (PN.mk' hq1 hq2) (PN.mk' hc1 hc2) (by omega) (by omega) (by omega) (by omega) )
  rintro e w_7 ⟨_, rfl, ⟨n_ga, o_ga, k_ga, c_ga, n_gb, o_gb, k_gb, c_gb, rfl, g1, g2⟩, hb_7⟩
  replace hs := hs.bl hb_7
  have Lg1 := hide (g1.lenOf (zlen_sub (zlen_mul (hq1.len) (hc1.len)) (zlen_mul (hq2.len) (hc2.len))))
  have Lg2 := hide (g2.lenOf (zlen_add (zlen_mul (hq1.len) (hc2.len)) (zlen_mul (hq2.len) (hc1.len))))
  refine hK _ _ rfl ⟨hb_7, (And.intro hs.g3 (And.intro hs.g2 (And.intro hs.g1 trivial)))⟩ ?_
  clear hK K
  refine fl fun w_8 n8 => ?_
  replace hs := hs.bl n8
  intro K hK
  have k0_8 := (k0_6.b hb_7).b n8
  replace ha1 := ha1.k k0_8
  replace ha2 := ha2.k k0_8
  have k7_8 := kb n8
  replace g1 := g1.k k7_8
  replace g2 := g2.k k7_8
  go_big_op
  go_fit (gSub_any (PN.mk' ha1 ha2) (PN.mk' (g1.zn Lg1.out) (g2.zn Lg2.out)) (by omega) (by omega) (by omega) (by omega) )
  rintro e w_9 ⟨_, rfl, ⟨n_ha, o_ha, k_ha, c_ha, n_hb, o_hb, k_hb, c_hb, rfl, h1, h2⟩, hb_9⟩
  replace hs := hs.bl hb_9
  refine hK _ _ rfl ⟨hb_9, (And.intro hs.g3 (And.intro hs.g2 (And.intro hs.g1 trivial)))⟩ ?_
  clear hK K
  refine fl fun w_10 n10 => ?_
  replace hs := hs.bl n10
  intro K hK
  have k6_10 := (((kb hb_7).b n8).b hb_9).b n10
  replace hq1 := hq1.k k6_10
  replace hq2 := hq2.k k6_10
  have k0_10 := (k0_8.b hb_9).b n10
  replace hc3 := hc3.k k0_10
  replace hc4 := hc4.k k0_10
  go_big_op
  go_fit (gMul_any (PN.mk' hq1 hq2) (PN.mk' hc3 hc4) (by omega) (by omega) (by omega) (by omega) )
  rintro e w_11 ⟨_, rfl, ⟨n_ia, o_ia, k_ia, c_ia, n_ib, o_ib, k_ib, c_ib, rfl, i1, i2⟩, hb_11⟩
  replace hs := hs.bl hb_11
  have Li1 := hide (i1.lenOf (zlen_sub (zlen_mul (hq1.len) (hc3.len)) (zlen_mul (hq2.len) (hc4.len))))
  have Li2 := hide (i2.lenOf (zlen_add (zlen_mul (hq1.len) (hc4.len)) (zlen_mul (hq2.len) (hc3.len))))
  refine hK _ _ rfl ⟨hb_11, (And.intro hs.g3 (And.intro hs.g2 (And.intro hs.g1 trivial)))⟩ ?_
  clear hK K
  refine fl fun w_12 n12 => ?_
  replace hs := hs.bl n12
  intro K hK
  have k0_12 := (k0_10.b hb_11).b n12
  replace ha3 := ha3.k k0_12
  replace ha4 := ha4.k k0_12
  have k11_12 := kb n12
  replace i1 := i1.k k11_12
  replace i2 := i2.k k11_12
  go_big_op
  go_fit (gSub_any (PN.mk' ha3 ha4) (PN.mk' (i1.zn Li1.out) (i2.zn Li2.out)) (by omega) (by omega) (by omega) (by omega) )
  rintro e w_13 ⟨_, rfl, ⟨n_ja, o_ja, k_ja, c_ja, n_jb, o_jb, k_jb, c_jb, rfl, j1, j2⟩, hb_13⟩
  replace hs := hs.bl hb_13
  refine hK _ _ rfl ⟨hb_13, (And.intro hs.g3 (And.intro hs.g2 (And.intro hs.g1 trivial)))⟩ ?_
  clear hK K
  refine fl fun w_14 n14 => ?_
  replace hs := hs.bl n14
  intro K hK
  have k10_14 := (((kb hb_11).b n12).b hb_13).b n14
  replace hq1 := hq1.k k10_14
  replace hq2 := hq2.k k10_14
  have k0_14 := (k0_12.b hb_13).b n14
  replace hc5 := hc5.k k0_14
  replace hc6 := hc6.k k0_14
  go_big_op
  go_fit (gMul_any (PN.mk' hq1 hq2) (PN.mk' hc5 hc6) (by omega) (by omega) (by omega) (by omega) )
  rintro e w_15 ⟨_, rfl, ⟨n_oa, o_oa, k_oa, c_oa, n_ob, o_ob, k_ob, c_ob, rfl, o1, o2⟩, hb_15⟩
  replace hs := hs.bl hb_15
  have Lo1 := hide (o1.lenOf (zlen_sub (zlen_mul (hq1.len) (hc5.len)) (zlen_mul (hq2.len) (hc6.len))))
  have Lo2 := hide (o2.lenOf (zlen_add (zlen_mul (hq1.len) (hc6.len)) (zlen_mul (hq2.len) (hc5.len))))
  refine hK _ _ rfl ⟨hb_15, (And.intro hs.g3 (And.intro hs.g2 (And.intro hs.g1 trivial)))⟩ ?_
  clear hK K
  refine fl fun w_16 n16 => ?_
  replace hs := hs.bl n16
  intro K hK
  have k0_16 := (k0_14.b hb_15).b n16
  replace ha5 := ha5.k k0_16
  replace ha6 := ha6.k k0_16
  have k15_16 := kb n16
  replace o1 := o1.k k15_16
  replace o2 := o2.k k15_16
  go_big_op
  go_fit (gSub_any (PN.mk' ha5 ha6) (PN.mk' (o1.zn Lo1.out) (o2.zn Lo2.out)) (by omega) (by omega) (by omega) (by omega) )
  rintro e w_17 ⟨_, rfl, ⟨n_pa, o_pa, k_pa, c_pa, n_pb, o_pb, k_pb, c_pb, rfl, p1, p2⟩, hb_17⟩
  replace hs := hs.bl hb_17
  refine hK _ _ rfl ⟨hb_17, (And.intro hs.g3 (And.intro hs.g2 (And.intro hs.g1 trivial)))⟩ ?_
  clear hK K
  refine f0 ?_
  refine e0 hs ?_; clear hs; intro w_18 hs n18
  clear g1 g2 i1 i2 o1 o2
  refine tl ?_
  intro K hK
  have xs := hs.g0
  have d0 : w_18.cell? ⟨p_b4, 0, none⟩ = some (.bool false) := hs.g0.cell 0 rfl
  have d1 : w_18.cell? ⟨p_b4, 1, none⟩ = some (.slice none 0 0) := hs.g0.cell 1 rfl
  have d2 : w_18.cell? ⟨p_b4, 2, none⟩ = some (.bool false) := hs.g0.cell 2 rfl
  have d3 : w_18.cell? ⟨p_b4, 3, none⟩ = some (.slice none 0 0) := hs.g0.cell 3 rfl
  have d4 : w_18.cell? ⟨p_b4, 4, none⟩ = some (.bool false) := hs.g0.cell 4 rfl
  have d5 : w_18.cell? ⟨p_b4, 5, none⟩ = some (.slice none 0 0) := hs.g0.cell 5 rfl
  have d6 : w_18.cell? ⟨p_b4, 6, none⟩ = some (.bool false) := hs.g0.cell 6 rfl
  have d7 : w_18.cell? ⟨p_b4, 7, none⟩ = some (.slice none 0 0) := hs.g0.cell 7 rfl
  have d8 : w_18.cell? ⟨p_b4, 8, none⟩ = some (.bool false) := hs.g0.cell 8 rfl
  have d9 : w_18.cell? ⟨p_b4, 9, none⟩ = some (.slice none 0 0) := hs.g0.cell 9 rfl
  have d10 : w_18.cell? ⟨p_b4, 10, none⟩ = some (.bool false) := hs.g0.cell 10 rfl
  have d11 : w_18.cell? ⟨p_b4, 11, none⟩ = some (.slice none 0 0) := hs.g0.cell 11 rfl
  have f0 := xs.free 0; have f1 := xs.free 1; have f2 := xs.free 2; have f3 := xs.free 3; have f4 := xs.free 4; have f5 := xs.free 5; have f6 := xs.free 6; have f7 := xs.free 7; have f8 := xs.free 8; have f9 := xs.free 9; have f10 := xs.free 10; have f11 := xs.free 11
  go_big_op
  have hd19 := xs.nod rfl rfl
  obtain ⟨w_19_0, eW, xs_0, ho_0⟩ : ∃ w', ((((w_18.setCell ⟨p_b4, 0, none⟩ (.bool n_ha)).setCell ⟨p_b4, 1, none⟩ (.slice o_ha k_ha c_ha)).setCell ⟨p_b4, 2, none⟩ (.bool n_hb)).setCell ⟨p_b4, 3, none⟩ (.slice o_hb k_hb c_hb)) = w' ∧ Bs w' p_b4 #[.bool n_ha, .slice o_ha k_ha c_ha, .bool n_hb, .slice o_hb k_hb c_hb, .bool false, .slice none 0 0, .bool false, .slice none 0 0, .bool false, .slice none 0 0, .bool false, .slice none 0 0] 122 ∧ Only p_b4 w_18 w' := xs.setN [(0, .bool n_ha), (1, .slice o_ha k_ha c_ha), (2, .bool n_hb), (3, .slice o_hb k_hb c_hb)]
  rw [eW]; clear eW
  obtain ⟨w_19_4, eW, xs_4, ho_4⟩ : ∃ w', ((((w_19_0.setCell ⟨p_b4, 4, none⟩ (.bool n_ja)).setCell ⟨p_b4, 5, none⟩ (.slice o_ja k_ja c_ja)).setCell ⟨p_b4, 6, none⟩ (.bool n_jb)).setCell ⟨p_b4, 7, none⟩ (.slice o_jb k_jb c_jb)) = w' ∧ Bs w' p_b4 #[.bool n_ha, .slice o_ha k_ha c_ha, .bool n_hb, .slice o_hb k_hb c_hb, .bool n_ja, .slice o_ja k_ja c_ja, .bool n_jb, .slice o_jb k_jb c_jb, .bool false, .slice none 0 0, .bool false, .slice none 0 0] 122 ∧ Only p_b4 w_19_0 w' := xs_0.setN [(4, .bool n_ja), (5, .slice o_ja k_ja c_ja), (6, .bool n_jb), (7, .slice o_jb k_jb c_jb)]
  rw [eW]; clear eW xs_0
  obtain ⟨w_19, eW, xs', ho_8⟩ : ∃ w', ((((w_19_4.setCell ⟨p_b4, 8, none⟩ (.bool n_pa)).setCell ⟨p_b4, 9, none⟩ (.slice o_pa k_pa c_pa)).setCell ⟨p_b4, 10, none⟩ (.bool n_pb)).setCell ⟨p_b4, 11, none⟩ (.slice o_pb k_pb c_pb)) = w' ∧ Bs w' p_b4 #[.bool n_ha, .slice o_ha k_ha c_ha, .bool n_hb, .slice o_hb k_hb c_hb, .bool n_ja, .slice o_ja k_ja c_ja, .bool n_jb, .slice o_jb k_jb c_jb, .bool n_pa, .slice o_pa k_pa c_pa, .bool n_pb, .slice o_pb k_pb c_pb] 122 ∧ Only p_b4 w_19_4 w' := xs_4.setN [(8, .bool n_pa), (9, .slice o_pa k_pa c_pa), (10, .bool n_pb), (11, .slice o_pb k_pb c_pb)]
  rw [eW]; clear eW xs_4
  have ho19 := ((ho_0.trans ho_4).trans ho_8)
  clear ho_0 ho_4 ho_8 d0 d1 d2 d3 d4 d5 d6 d7 d8 d9 d10 d11 f0 f1 f2 f3 f4 f5 f6 f7 f8 f9 f10 f11 xs
  replace hs := hs.u0 kb_b4 xs' ho19; clear xs'
  refine hK _ _ rfl (And.intro hs.g3 (And.intro hs.g2 (And.intro hs.g1 True.intro))) ?_; clear hK K
  apply wpTail_end
  refine hK2 _ _ ?_
  refine wp_ret ?_
  try dsimp only [Exit.then, Exit.inBlock]
  have r0_0 : w_19.cell? ⟨p_b4, 0, none⟩ = some (.bool n_ha) := hs.g0.cell 0 rfl
  have r0_1 : w_19.cell? ⟨p_b4, 1, none⟩ = some (.slice o_ha k_ha c_ha) := hs.g0.cell 1 rfl
  have r0_2 : w_19.cell? ⟨p_b4, 2, none⟩ = some (.bool n_hb) := hs.g0.cell 2 rfl
  have r0_3 : w_19.cell? ⟨p_b4, 3, none⟩ = some (.slice o_hb k_hb c_hb) := hs.g0.cell 3 rfl
  have r0_4 : w_19.cell? ⟨p_b4, 4, none⟩ = some (.bool n_ja) := hs.g0.cell 4 rfl
  have r0_5 : w_19.cell? ⟨p_b4, 5, none⟩ = some (.slice o_ja k_ja c_ja) := hs.g0.cell 5 rfl
  have r0_6 : w_19.cell? ⟨p_b4, 6, none⟩ = some (.bool n_jb) := hs.g0.cell 6 rfl
  have r0_7 : w_19.cell? ⟨p_b4, 7, none⟩ = some (.slice o_jb k_jb c_jb) := hs.g0.cell 7 rfl
  have r0_8 : w_19.cell? ⟨p_b4, 8, none⟩ = some (.bool n_pa) := hs.g0.cell 8 rfl
  have r0_9 : w_19.cell? ⟨p_b4, 9, none⟩ = some (.slice o_pa k_pa c_pa) := hs.g0.cell 9 rfl
  have r0_10 : w_19.cell? ⟨p_b4, 10, none⟩ = some (.bool n_pb) := hs.g0.cell 10 rfl
  have r0_11 : w_19.cell? ⟨p_b4, 11, none⟩ = some (.slice o_pb k_pb c_pb) := hs.g0.cell 11 rfl
  refine bodyPost_ret (v := (.agg #[.bool n_ha, .slice o_ha k_ha c_ha, .bool n_hb, .slice o_hb k_hb c_hb, .bool n_ja, .slice o_ja k_ja c_ja, .bool n_jb, .slice o_jb k_jb c_jb, .bool n_pa, .slice o_pa k_pa c_pa, .bool n_pb, .slice o_pb k_pb c_pb])) (by simp [results, Tryz.results129, go_sem, r0_0, r0_1, r0_2, r0_3, r0_4, r0_5, r0_6, r0_7, r0_8, r0_9, r0_10, r0_11]) rfl ?_
  have k9_19 := (((((((((kb n10).b hb_11).b n12).b hb_13).b n14).b hb_15).b n16).b hb_17).b n18).o hd19 ho19
  replace h1 := h1.k k9_19
  replace h2 := h2.k k9_19
  have k13_19 := (((((kb n14).b hb_15).b n16).b hb_17).b n18).o hd19 ho19
  replace j1 := j1.k k13_19
  replace j2 := j2.k k13_19
  have k17_19 := (kb n18).o hd19 ho19
  replace p1 := p1.k k17_19
  replace p2 := p2.k k17_19
  exact ⟨_, rfl, .mk' h1 h2 j1 j2 p1 p2, hs.b⟩
end
end Go.Proofs.YtbiiglcfdphmaaaGreat

/- gint.Xgcd. -/
namespace Go.Proofs.YtbiiglcfdphmaaaGreat
open Go Go.RowKit Dig
set_option linter.unusedVariables false
def BN (L : Nat) (w : World) (p : Nat) (ty : TypeId) (z1 z2 z3 z4 z5 z6 : Int) : Prop :=
  ∃ n1 o1 k1 c1 n2 o2 k2 c2 n3 o3 k3 c3 n4 o4 k4 c4 n5 o5 k5 c5 n6 o6 k6 c6, Bs w p #[.bool n1, .slice o1 k1 c1, .bool n2, .slice o2 k2 c2, .bool n3, .slice o3 k3 c3, .bool n4, .slice o4 k4 c4, .bool n5, .slice o5 k5 c5, .bool n6, .slice o6 k6 c6] ty ∧ ZN w (.agg #[.bool n1, .slice o1 k1 c1]) z1 L ∧ ZN w (.agg #[.bool n2, .slice o2 k2 c2]) z2 L ∧ ZN w (.agg #[.bool n3, .slice o3 k3 c3]) z3 L ∧ ZN w (.agg #[.bool n4, .slice o4 k4 c4]) z4 L ∧ ZN w (.agg #[.bool n5, .slice o5 k5 c5]) z5 L ∧ ZN w (.agg #[.bool n6, .slice o6 k6 c6]) z6 L
theorem GS.step_s1 (t : GS) : t.r1 - (gQ1 t.r1 t.r2 t.s1 t.s2 * t.s1 - gQ2 t.r1 t.r2 t.s1 t.s2 * t.s2) = t.step.s1 := rfl
theorem GS.step_s2 (t : GS) : t.r2 - (gQ1 t.r1 t.r2 t.s1 t.s2 * t.s2 + gQ2 t.r1 t.r2 t.s1 t.s2 * t.s1) = t.step.s2 := rfl
theorem GS.step_u1 (t : GS) : t.x1 - (gQ1 t.r1 t.r2 t.s1 t.s2 * t.u1 - gQ2 t.r1 t.r2 t.s1 t.s2 * t.u2) = t.step.u1 := rfl
theorem GS.step_u2 (t : GS) : t.x2 - (gQ1 t.r1 t.r2 t.s1 t.s2 * t.u2 + gQ2 t.r1 t.r2 t.s1 t.s2 * t.u1) = t.step.u2 := rfl
theorem GS.step_v1 (t : GS) : t.y1 - (gQ1 t.r1 t.r2 t.s1 t.s2 * t.v1 - gQ2 t.r1 t.r2 t.s1 t.s2 * t.v2) = t.step.v1 := rfl
theorem GS.step_v2 (t : GS) : t.y2 - (gQ1 t.r1 t.r2 t.s1 t.s2 * t.v2 + gQ2 t.r1 t.r2 t.s1 t.s2 * t.v1) = t.step.v2 := rfl
theorem BN.mk' {L : Nat} {w : World} {p : Nat} {ty : TypeId} {n1 n2 n3 n4 n5 n6 : Bool} {o1 o2 o3 o4 o5 o6 : Option Addr} {k1 c1 k2 c2 k3 c3 k4 c4 k5 c5 k6 c6 : Nat} {z1 z2 z3 z4 z5 z6 : Int} (hb : Bs w p #[.bool n1, .slice o1 k1 c1, .bool n2, .slice o2 k2 c2, .bool n3, .slice o3 k3 c3, .bool n4, .slice o4 k4 c4, .bool n5, .slice o5 k5 c5, .bool n6, .slice o6 k6 c6] ty) (h1 : ZN w (.agg #[.bool n1, .slice o1 k1 c1]) z1 L) (h2 : ZN w (.agg #[.bool n2, .slice o2 k2 c2]) z2 L) (h3 : ZN w (.agg #[.bool n3, .slice o3 k3 c3]) z3 L) (h4 : ZN w (.agg #[.bool n4, .slice o4 k4 c4]) z4 L) (h5 : ZN w (.agg #[.bool n5, .slice o5 k5 c5]) z5 L) (h6 : ZN w (.agg #[.bool n6, .slice o6 k6 c6]) z6 L) : BN L w p ty z1 z2 z3 z4 z5 z6 :=
  ⟨_, _, _, _, _, _, _, _, _, _, _, _, _, _, _, _, _, _, _, _, _, _, _, _, hb, h1, h2, h3, h4, h5, h6⟩
section
variable {w : World} {va vb : Value} {x y u v : Int} {l m k n : Nat}
set_option maxHeartbeats 8000000 in
set_option maxRecDepth 20000 in
theorem gxgcd_any {L : Nat} (ha : PN w va x L y L) (hq : PN w vb u L v L) (hL : L + 1 ≤ 2200000) :
    Calls Tryz.prog 85 #[va, vb] w fun e w' => ∃ v1 v2 v3, e = .returned (.tuple #[v1, v2, v3]) ∧ PC w' v1 (turn (kq (GS.start x y u v).fin.r1 (GS.start x y u v).fin.r2) ((GS.start x y u v).fin.r1, (GS.start x y u v).fin.r2)).1 (turn (kq (GS.start x y u v).fin.r1 (GS.start x y u v).fin.r2) ((GS.start x y u v).fin.r1, (GS.start x y u v).fin.r2)).2 ∧
      PC w' v2 (turn (kq (GS.start x y u v).fin.r1 (GS.start x y u v).fin.r2) ((GS.start x y u v).fin.x1, (GS.start x y u v).fin.x2)).1 (turn (kq (GS.start x y u v).fin.r1 (GS.start x y u v).fin.r2) ((GS.start x y u v).fin.x1, (GS.start x y u v).fin.x2)).2 ∧
      PC w' v3 (turn (kq (GS.start x y u v).fin.r1 (GS.start x y u v).fin.r2) ((GS.start x y u v).fin.y1, (GS.start x y u v).fin.y2)).1 (turn (kq (GS.start x y u v).fin.r1 (GS.start x y u v).fin.r2) ((GS.start x y u v).fin.y1, (GS.start x y u v).fin.y2)).2 ∧ Below w.heap.size w w' := by
  have LL := hide (And.intro (And.intro ha.len1 ha.len2) (And.intro hq.len1 hq.len2))
  have hst : GI x y u v (GS.start x y u v) := GI.start x y u v
  have HST := hide hst
  have L1 := hide (show (dig (Int.natAbs 1)).length ≤ L + 1 by rw [show (dig (Int.natAbs 1)).length = 1 by decide]; omega)
  have L0 := hide (show (dig (Int.natAbs 0)).length ≤ L + 1 by rw [show (dig (Int.natAbs 0)).length = 0 by decide]; omega)
  obtain ⟨F, hF⟩ : ∃ F, (GS.start x y u v).fin = F := ⟨_, rfl⟩
  rw [hF]
  have HF := hide hF
  have HM := hide (kq_mod F.r1 F.r2)
  obtain ⟨N, hN⟩ : ∃ N, (gN u v).toNat = N := ⟨_, rfl⟩
  have HN := hide hN
  clear hst hF hN
  obtain ⟨n_0a, o_0a, k_0a, c_0a, n_0b, o_0b, k_0b, c_0b, rfl, ha1, ha2⟩ := ha
  obtain ⟨n_1a, o_1a, k_1a, c_1a, n_1b, o_1b, k_1b, c_1b, rfl, hq1, hq2⟩ := hq
  go_enter Tryz.func85, Tryz.ntmps85
  have hs := St.nil w
  refine wp_seq_k ?_
  intro K1 hK1
  refine rg [0, 1, 2, 3, 4] ?_
  refine sq ?_
  refine .al hs ?_; clear hs; intro p_b1 w_1 hs n1 kb_b1
  refine sq ?_
  refine .al hs ?_; clear hs; intro p_b2 w_2 hs n2 kb_b2
  refine sq ?_
  refine .al hs ?_; clear hs; intro p_b3 w_3 hs n3 kb_b3
  refine sq ?_
  refine .al hs ?_; clear hs; intro p_b4 w_4 hs n4 kb_b4
  refine sq ?_
  refine .al hs ?_; clear hs; intro p_b5 w_5 hs n5 kb_b5
  apply wpSq_end
  refine hK1 _ _ ?_
  refine wp_seq_k ?_
  intro K2 hK2
  refine wp_region_f4 [(0, false), (2, false), (4, false), (5, false), (1, true), (3, false), (6, true), (7, false)] [10, 11] [8, 9] (fun j => if j = 8 then (.cells #[.bool false, .slice none 0 0, .bool false, .slice none 0 0, .bool false, .slice none 0 0, .bool false, .slice none 0 0, .bool false, .slice none 0 0, .bool false, .slice none 0 0] 122) else (.cells #[.bool false, .slice none 0 0, .bool false, .slice none 0 0, .bool false, .slice none 0 0, .bool false, .slice none 0 0, .bool false, .slice none 0 0, .bool false, .slice none 0 0] 122)) [0, 99, 99, 99, 1, 99, 99, 99, 99, 99, 99, 99] [] (.c hs.g4 (.c hs.g3 .n)) (fm (fm fn)) fun w_6 n6 => ?_
  replace hs := hs.bl n6
  have hlB := hs.lt; have hkB := hs.k
  refine f4 ?_
  refine f0 ?_
  refine f4 ?_
  refine f0 ?_
  refine fl fun w_7 n7 => ?_
  replace hs := hs.bl n7
  intro K hK
  go_big_op
  go_fit (gFrom_any 1 0 _ (by decide) (by decide) (by decide) (by decide))
  rintro e w_8 ⟨_, rfl, ⟨n_ca, o_ca, k_ca, c_ca, n_cb, o_cb, k_cb, c_cb, rfl, c1, c2⟩, hb_8⟩
  replace hs := hs.bl hb_8
  refine hK _ _ rfl ⟨hb_8, (And.intro hs.g4 (And.intro hs.g3 trivial))⟩ ?_
  clear hK K
  refine f0 ?_
  refine fl fun w_9 n9 => ?_
  replace hs := hs.bl n9
  intro K hK
  go_big_op
  go_fit (gFrom_any 1 0 _ (by decide) (by decide) (by decide) (by decide))
  rintro e w_10 ⟨_, rfl, ⟨n_da, o_da, k_da, c_da, n_db, o_db, k_db, c_db, rfl, d1, d2⟩, hb_10⟩
  replace hs := hs.bl hb_10
  refine hK _ _ rfl ⟨hb_10, (And.intro hs.g4 (And.intro hs.g3 trivial))⟩ ?_
  clear hK K
  refine f0 ?_
  refine e2 hs hlB hkB ?_; clear hs hlB hkB; intro w_11 p_b6 p_b7 hs n11 kb_b6 kb_b7
  refine tl ?_
  intro K hK
  have xs := hs.g0
  have d0 : w_11.cell? ⟨p_b6, 0, none⟩ = some (.bool false) := hs.g0.cell 0 rfl
  have d1 : w_11.cell? ⟨p_b6, 1, none⟩ = some (.slice none 0 0) := hs.g0.cell 1 rfl
  have d2 : w_11.cell? ⟨p_b6, 2, none⟩ = some (.bool false) := hs.g0.cell 2 rfl
  have d3 : w_11.cell? ⟨p_b6, 3, none⟩ = some (.slice none 0 0) := hs.g0.cell 3 rfl
  have d4 : w_11.cell? ⟨p_b6, 4, none⟩ = some (.bool false) := hs.g0.cell 4 rfl
  have d5 : w_11.cell? ⟨p_b6, 5, none⟩ = some (.slice none 0 0) := hs.g0.cell 5 rfl
  have d6 : w_11.cell? ⟨p_b6, 6, none⟩ = some (.bool false) := hs.g0.cell 6 rfl
  have d7 : w_11.cell? ⟨p_b6, 7, none⟩ = some (.slice none 0 0) := hs.g0.cell 7 rfl
  have d8 : w_11.cell? ⟨p_b6, 8, none⟩ = some (.bool false) := hs.g0.cell 8 rfl
  have d9 : w_11.cell? ⟨p_b6, 9, none⟩ = some (.slice none 0 0) := hs.g0.cell 9 rfl
  have d10 : w_11.cell? ⟨p_b6, 10, none⟩ = some (.bool false) := hs.g0.cell 10 rfl
  have d11 : w_11.cell? ⟨p_b6, 11, none⟩ = some (.slice none 0 0) := hs.g0.cell 11 rfl
  have f0 := xs.free 0; have f1 := xs.free 1; have f2 := xs.free 2; have f3 := xs.free 3; have f4 := xs.free 4; have f5 := xs.free 5; have f6 := xs.free 6; have f7 := xs.free 7; have f8 := xs.free 8; have f9 := xs.free 9; have f10 := xs.free 10; have f11 := xs.free 11
  go_big_op
  have hd12 := xs.nod rfl rfl
  obtain ⟨w_12_0, eW, xs_0, ho_0⟩ : ∃ w', ((((w_11.setCell ⟨p_b6, 0, none⟩ (.bool n_0a)).setCell ⟨p_b6, 1, none⟩ (.slice o_0a k_0a c_0a)).setCell ⟨p_b6, 2, none⟩ (.bool n_0b)).setCell ⟨p_b6, 3, none⟩ (.slice o_0b k_0b c_0b)) = w' ∧ Bs w' p_b6 #[.bool n_0a, .slice o_0a k_0a c_0a, .bool n_0b, .slice o_0b k_0b c_0b, .bool false, .slice none 0 0, .bool false, .slice none 0 0, .bool false, .slice none 0 0, .bool false, .slice none 0 0] 122 ∧ Only p_b6 w_11 w' := xs.setN [(0, .bool n_0a), (1, .slice o_0a k_0a c_0a), (2, .bool n_0b), (3, .slice o_0b k_0b c_0b)]
  rw [eW]; clear eW
  obtain ⟨w_12_4, eW, xs_4, ho_4⟩ : ∃ w', ((((w_12_0.setCell ⟨p_b6, 4, none⟩ (.bool n_ca)).setCell ⟨p_b6, 5, none⟩ (.slice o_ca k_ca c_ca)).setCell ⟨p_b6, 6, none⟩ (.bool n_cb)).setCell ⟨p_b6, 7, none⟩ (.slice o_cb k_cb c_cb)) = w' ∧ Bs w' p_b6 #[.bool n_0a, .slice o_0a k_0a c_0a, .bool n_0b, .slice o_0b k_0b c_0b, .bool n_ca, .slice o_ca k_ca c_ca, .bool n_cb, .slice o_cb k_cb c_cb, .bool false, .slice none 0 0, .bool false, .slice none 0 0] 122 ∧ Only p_b6 w_12_0 w' := xs_0.setN [(4, .bool n_ca), (5, .slice o_ca k_ca c_ca), (6, .bool n_cb), (7, .slice o_cb k_cb c_cb)]
  rw [eW]; clear eW xs_0
  obtain ⟨w_12, eW, xs', ho_8⟩ : ∃ w', ((((w_12_4.setCell ⟨p_b6, 8, none⟩ (.bool false)).setCell ⟨p_b6, 9, none⟩ (.slice none 0 0)).setCell ⟨p_b6, 10, none⟩ (.bool false)).setCell ⟨p_b6, 11, none⟩ (.slice none 0 0)) = w' ∧ Bs w' p_b6 #[.bool n_0a, .slice o_0a k_0a c_0a, .bool n_0b, .slice o_0b k_0b c_0b, .bool n_ca, .slice o_ca k_ca c_ca, .bool n_cb, .slice o_cb k_cb c_cb, .bool false, .slice none 0 0, .bool false, .slice none 0 0] 122 ∧ Only p_b6 w_12_4 w' := xs_4.setN [(8, .bool false), (9, .slice none 0 0), (10, .bool false), (11, .slice none 0 0)]
  rw [eW]; clear eW xs_4
  have ho12 := ((ho_0.trans ho_4).trans ho_8)
  clear ho_0 ho_4 ho_8 d0 d1 d2 d3 d4 d5 d6 d7 d8 d9 d10 d11 f0 f1 f2 f3 f4 f5 f6 f7 f8 f9 f10 f11 xs
  replace hs := hs.u0 kb_b6 xs' ho12; clear xs'
  refine hK _ _ rfl (And.intro hs.g6 (And.intro hs.g5 True.intro)) ?_; clear hK K
  refine tl ?_
  intro K hK
  have xs := hs.g1
  have d0 : w_12.cell? ⟨p_b7, 0, none⟩ = some (.bool false) := hs.g1.cell 0 rfl
  have d1 : w_12.cell? ⟨p_b7, 1, none⟩ = some (.slice none 0 0) := hs.g1.cell 1 rfl
  have d2 : w_12.cell? ⟨p_b7, 2, none⟩ = some (.bool false) := hs.g1.cell 2 rfl
  have d3 : w_12.cell? ⟨p_b7, 3, none⟩ = some (.slice none 0 0) := hs.g1.cell 3 rfl
  have d4 : w_12.cell? ⟨p_b7, 4, none⟩ = some (.bool false) := hs.g1.cell 4 rfl
  have d5 : w_12.cell? ⟨p_b7, 5, none⟩ = some (.slice none 0 0) := hs.g1.cell 5 rfl
  have d6 : w_12.cell? ⟨p_b7, 6, none⟩ = some (.bool false) := hs.g1.cell 6 rfl
  have d7 : w_12.cell? ⟨p_b7, 7, none⟩ = some (.slice none 0 0) := hs.g1.cell 7 rfl
  have d8 : w_12.cell? ⟨p_b7, 8, none⟩ = some (.bool false) := hs.g1.cell 8 rfl
  have d9 : w_12.cell? ⟨p_b7, 9, none⟩ = some (.slice none 0 0) := hs.g1.cell 9 rfl
  have d10 : w_12.cell? ⟨p_b7, 10, none⟩ = some (.bool false) := hs.g1.cell 10 rfl
  have d11 : w_12.cell? ⟨p_b7, 11, none⟩ = some (.slice none 0 0) := hs.g1.cell 11 rfl
  have f0 := xs.free 0; have f1 := xs.free 1; have f2 := xs.free 2; have f3 := xs.free 3; have f4 := xs.free 4; have f5 := xs.free 5; have f6 := xs.free 6; have f7 := xs.free 7; have f8 := xs.free 8; have f9 := xs.free 9; have f10 := xs.free 10; have f11 := xs.free 11
  go_big_op
  have hd13 := xs.nod rfl rfl
  obtain ⟨w_13_0, eW, xs_0, ho_0⟩ : ∃ w', ((((w_12.setCell ⟨p_b7, 0, none⟩ (.bool n_1a)).setCell ⟨p_b7, 1, none⟩ (.slice o_1a k_1a c_1a)).setCell ⟨p_b7, 2, none⟩ (.bool n_1b)).setCell ⟨p_b7, 3, none⟩ (.slice o_1b k_1b c_1b)) = w' ∧ Bs w' p_b7 #[.bool n_1a, .slice o_1a k_1a c_1a, .bool n_1b, .slice o_1b k_1b c_1b, .bool false, .slice none 0 0, .bool false, .slice none 0 0, .bool false, .slice none 0 0, .bool false, .slice none 0 0] 122 ∧ Only p_b7 w_12 w' := xs.setN [(0, .bool n_1a), (1, .slice o_1a k_1a c_1a), (2, .bool n_1b), (3, .slice o_1b k_1b c_1b)]
  rw [eW]; clear eW
  obtain ⟨w_13_4, eW, xs_4, ho_4⟩ : ∃ w', ((((w_13_0.setCell ⟨p_b7, 4, none⟩ (.bool false)).setCell ⟨p_b7, 5, none⟩ (.slice none 0 0)).setCell ⟨p_b7, 6, none⟩ (.bool false)).setCell ⟨p_b7, 7, none⟩ (.slice none 0 0)) = w' ∧ Bs w' p_b7 #[.bool n_1a, .slice o_1a k_1a c_1a, .bool n_1b, .slice o_1b k_1b c_1b, .bool false, .slice none 0 0, .bool false, .slice none 0 0, .bool false, .slice none 0 0, .bool false, .slice none 0 0] 122 ∧ Only p_b7 w_13_0 w' := xs_0.setN [(4, .bool false), (5, .slice none 0 0), (6, .bool false), (7, .slice none 0 0)]
  rw [eW]; clear eW xs_0
  obtain ⟨w_13, eW, xs', ho_8⟩ : ∃ w', ((((w_13_4.setCell ⟨p_b7, 8, none⟩ (.bool n_da)).setCell ⟨p_b7, 9, none⟩ (.slice o_da k_da c_da)).setCell ⟨p_b7, 10, none⟩ (.bool n_db)).setCell ⟨p_b7, 11, none⟩ (.slice o_db k_db c_db)) = w' ∧ Bs w' p_b7 #[.bool n_1a, .slice o_1a k_1a c_1a, .bool n_1b, .slice o_1b k_1b c_1b, .bool false, .slice none 0 0, .bool false, .slice none 0 0, .bool n_da, .slice o_da k_da c_da, .bool n_db, .slice o_db k_db c_db] 122 ∧ Only p_b7 w_13_4 w' := xs_4.setN [(8, .bool n_da), (9, .slice o_da k_da c_da), (10, .bool n_db), (11, .slice o_db k_db c_db)]
  rw [eW]; clear eW xs_4
  have ho13 := ((ho_0.trans ho_4).trans ho_8)
  clear ho_0 ho_4 ho_8 d0 d1 d2 d3 d4 d5 d6 d7 d8 d9 d10 d11 f0 f1 f2 f3 f4 f5 f6 f7 f8 f9 f10 f11 xs
  replace hs := hs.u1 kb_b7 xs' ho13; clear xs'
  refine hK _ _ rfl (And.intro hs.g6 (And.intro hs.g5 True.intro)) ?_; clear hK K
  apply wpTail_end
  refine hK2 _ _ ?_
  refine wp_seq_k ?_
  intro K3 hK3
  refine wp_block ?_
  have x_b6 := hs.g0
  have k0_13 := ((((((((((((kb n1).b n2).b n3).b n4).b n5).b n6).b n7).b hb_8).b n9).b hb_10).b n11).o hd12 ho12).o hd13 ho13
  replace ha1 := ha1.k k0_13
  replace ha2 := ha2.k k0_13
  have k8_13 := ((((kb n9).b hb_10).b n11).o hd12 ho12).o hd13 ho13
  replace c1 := c1.k k8_13
  replace c2 := c2.k k8_13
  have x_b7 := hs.g1
  replace hq1 := hq1.k k0_13
  replace hq2 := hq2.k k0_13
  have k10_13 := ((kb n11).o hd12 ho12).o hd13 ho13
  replace d1 := d1.k k10_13
  replace d2 := d2.k k10_13
  have x_b3 := hs.g4
  have x_b4 := hs.g3
  have x_b5 := hs.g2
  have hb := hs.b
  have hd14 := hs.2.1
  go_loopg [] N (fun k wr => ∃ t : GS, Hid (GI x y u v t ∧ t.fin = F ∧ (gN t.s1 t.s2).toNat ≤ k) ∧ BN (L + 1) wr p_b6 122 t.r1 t.r2 t.x1 t.x2 t.y1 t.y2 ∧ BN (L + 1) wr p_b7 122 t.s1 t.s2 t.u1 t.u2 t.v1 t.v2 ∧ Bs wr p_b3 #[.bool false, .slice none 0 0, .bool false, .slice none 0 0] 26 ∧ Bs wr p_b4 #[.bool false, .slice none 0 0, .bool false, .slice none 0 0] 26 ∧ Bs wr p_b5 #[.bool false, .slice none 0 0, .bool false, .slice none 0 0] 26 ∧ Below w.heap.size w wr)
  case atStart =>
    exact ⟨GS.start x y u v, hide ⟨HST.out, HF.out, by rw [← HN.out]; exact Nat.le_refl _⟩,
      ⟨_, _, _, _, _, _, _, _, _, _, _, _, _, _, _, _, _, _, _, _, _, _, _, _, x_b6, ha1.mono (Nat.le_succ _), ha2.mono (Nat.le_succ _), c1.zn L1.out, c2.zn L0.out, (zc_zero w_13).zn L0.out, (zc_zero w_13).zn L0.out⟩,
      ⟨_, _, _, _, _, _, _, _, _, _, _, _, _, _, _, _, _, _, _, _, _, _, _, _, x_b7, hq1.mono (Nat.le_succ _), hq2.mono (Nat.le_succ _), (zc_zero w_13).zn L0.out, (zc_zero w_13).zn L0.out, d1.zn L1.out, d2.zn L0.out⟩, x_b3, x_b4, x_b5, hb⟩
  case round =>
  clear ha1 ha2 hq1 hq2 c1 c2 d1 d2 x_b6 x_b7 x_b3 x_b4 x_b5 hb hs
  obtain ⟨t, HT, ⟨an1, ao1, ak1, ac1, an2, ao2, ak2, ac2, an3, ao3, ak3, ac3, an4, ao4, ak4, ac4, an5, ao5, ak5, ac5, an6, ao6, ak6, ac6, x_b6, a1, a2, a3, a4, a5, a6⟩, ⟨bn1, bo1, bk1, bc1, bn2, bo2, bk2, bc2, bn3, bo3, bk3, bc3, bn4, bo4, bk4, bc4, bn5, bo5, bk5, bc5, bn6, bo6, bk6, bc6, x_b7, b1, b2, b3, b4, b5, b6⟩, x_b3, x_b4, x_b5, hb⟩ := hrel
  by_cases h0 : gN t.s1 t.s2 = 0
  · have hs := gN_zero.1 h0
    have hft : t = F := by rw [← HT.out.2.1]; exact (fin_done h0).symm
    have HK := hide (show kq t.r1 t.r2 = kq F.r1 F.r2 by rw [hft])
    have HFT := hide hft
    rw [hs.1] at b1
    rw [hs.2] at b2
    clear h0 hs hft
    have hs := St.re (.c x_b6 (.c x_b7 (.c x_b5 (.c x_b4 (.c x_b3 .n))))) hd14 (.cons_cons _ (.cons_cons _ (.cons_cons _ (.cons_cons _ (.cons_cons _ (.cons _ (.cons _ .slnil))))))) hb
    refine wp_seq_k ?_
    intro K4 hK4
    refine wp_seq_k ?_
    intro K5 hK5
    refine rg [0, 1, 2, 3] ?_
    refine sq ?_
    refine .r0 ?_
    refine sq ?_
    refine .r4 ⟨hs.g1.cell 0 rfl, hs.g1.cell 1 rfl, hs.g1.cell 2 rfl, hs.g1.cell 3 rfl⟩ ?_
    refine sq ?_
    intro K hK
    go_big_op
    go_fit (isZero_yes (PN.mk' b1 b2) (by omega) (by omega))
    rintro e w_15 ⟨rfl, hb_15⟩
    clear hb x_b6 x_b7 x_b3 x_b4 x_b5
    replace hs := hs.bl hb_15
    refine hK _ _ rfl trivial ?_
    clear hK K
    refine sq ?_
    refine .r0 ?_
    apply wpSq_end
    refine hK5 _ _ ?_
    refine cf ?_
    refine wp_exit ?_
    refine hK3 _ _ ?_
    refine wp_seq_k ?_
    intro K6 hK6
    refine rg [0, 1, 2, 3, 4, 5, 6, 7] ?_
    refine sq ?_
    refine .r0 ?_
    refine sq ?_
    refine .r4 ⟨hs.g0.cell 0 rfl, hs.g0.cell 1 rfl, hs.g0.cell 2 rfl, hs.g0.cell 3 rfl⟩ ?_
    refine sq ?_
    intro K hK
    have k0_1 := kb hb_15
    replace a1 := a1.k k0_1
    replace a2 := a2.k k0_1
    go_big_op
    go_fit (gCanon_any (PN.mk' a1 a2) (by omega) (by omega))
    rintro e w_16 ⟨_, rfl, ⟨n_ea, o_ea, k_ea, c_ea, n_eb, o_eb, k_eb, c_eb, rfl, e1, e2⟩, hb_16⟩
    replace hs := hs.bl hb_16
    refine hK _ _ rfl trivial ?_
    clear hK K
    refine sq ?_
    refine .mv ?_
    refine sq ?_
    refine .r0 ?_
    refine sq ?_
    refine .r0 ?_
    refine sq ?_
    refine .s4 hs.g4 (fun _ => hs.u4 kb_b3) ?_; clear hs; intro w_17 hs hd17 ho17
    refine sq ?_
    refine .mv ?_
    apply wpSq_end
    refine hK6 _ _ ?_
    refine wp_seq_k ?_
    intro K7 hK7
    refine wp_region_f4 [(0, false), (1, false), (2, false), (3, false), (5, false), (6, false), (7, false), (4, true), (8, true)] [9, 10, 11] [] (fun _ => default) [0, 99, 1, 99, 99, 99, 1, 99, 99, 99, 99, 99] [(9, 0), (10, 0), (11, 0)] (.c hs.g4 (.c hs.g0 .n)) fn fun w_18 n18 => ?_
    replace hs := hs.bl n18
    refine f4 ?_
    refine f0 ?_
    apply wpFl_ld rfl rfl; (case h1 => intro w' hC K hK; have c4 := Bs.cell hC 4 rfl; have c5 := Bs.cell hC 5 rfl; have c6 := Bs.cell hC 6 rfl; have c7 := Bs.cell hC 7 rfl; go_big_op; exact hK); iterate 4 kernel_rfl
    refine fmv ?_
    refine f0 ?_
    apply wpFl_ld rfl rfl; (case h1 => intro w' hC K hK; have c8 := Bs.cell hC 8 rfl; have c9 := Bs.cell hC 9 rfl; have c10 := Bs.cell hC 10 rfl; have c11 := Bs.cell hC 11 rfl; go_big_op; exact hK); iterate 4 kernel_rfl
    refine fmv ?_
    refine fl fun w_19 n19 => ?_
    replace hs := hs.bl n19
    intro K hK
    have k0_5 := (((k0_1.b hb_16).o hd17 ho17).b n18).b n19
    replace a3 := a3.k k0_5
    replace a4 := a4.k k0_5
    go_big_op
    go_fit (gTurn_any ((kq t.r1 t.r2 : Nat) : Int) (PN.mk' a3 a4) (by omega) (by omega))
    rintro e w_20 ⟨_, rfl, ⟨n_fa, o_fa, k_fa, c_fa, n_fb, o_fb, k_fb, c_fb, rfl, f1, f2⟩, hb_20⟩
    replace hs := hs.bl hb_20
    rw [HK.out, HM.out] at f1 f2
    refine hK _ _ rfl ⟨hb_20, (And.intro hs.g4 (And.intro hs.g0 trivial))⟩ ?_
    clear hK K
    refine fl fun w_21 n21 => ?_
    replace hs := hs.bl n21
    intro K hK
    have k0_7 := (k0_5.b hb_20).b n21
    replace a5 := a5.k k0_7
    replace a6 := a6.k k0_7
    go_big_op
    go_fit (gTurn_any ((kq t.r1 t.r2 : Nat) : Int) (PN.mk' a5 a6) (by omega) (by omega))
    rintro e w_22 ⟨_, rfl, ⟨n_ga, o_ga, k_ga, c_ga, n_gb, o_gb, k_gb, c_gb, rfl, g1, g2⟩, hb_22⟩
    replace hs := hs.bl hb_22
    rw [HK.out, HM.out] at g1 g2
    refine hK _ _ rfl ⟨hb_22, (And.intro hs.g4 (And.intro hs.g0 trivial))⟩ ?_
    clear hK K
    refine e0 hs ?_; clear hs; intro w_23 hs n23
    refine tl ?_
    refine .s4 hs.g4 (fun _ => hs.u4 kb_b3) ?_ (e := fun _ hs => (And.intro True.intro (And.intro hs.g0 True.intro))); clear hs; intro w_24 hs hd24 ho24
    refine tl ?_
    refine .s4 hs.g3 (fun _ => hs.u3 kb_b4) ?_ (e := fun _ hs => (And.intro True.intro (And.intro hs.g0 True.intro))); clear hs; intro w_25 hs hd25 ho25
    refine tl ?_
    refine .s4 hs.g2 (fun _ => hs.u2 kb_b5) ?_ (e := fun _ hs => (And.intro True.intro (And.intro hs.g0 True.intro))); clear hs; intro w_26 hs hd26 ho26
    apply wpTail_end
    refine hK7 _ _ ?_
    refine wp_ret ?_
    have k2_12 := (((((((((ko hd17 ho17).b n18).b n19).b hb_20).b n21).b hb_22).b n23).o hd24 ho24).o hd25 ho25).o hd26 ho26
    replace e1 := e1.k k2_12
    replace e2 := e2.k k2_12
    rw [HK.out] at e1 e2
    have k6_12 := (((((kb n21).b hb_22).b n23).o hd24 ho24).o hd25 ho25).o hd26 ho26
    replace f1 := f1.k k6_12
    replace f2 := f2.k k6_12
    have k8_12 := (((kb n23).o hd24 ho24).o hd25 ho25).o hd26 ho26
    replace g1 := g1.k k8_12
    replace g2 := g2.k k8_12
    rw [HFT.out] at e1 e2 f1 f2 g1 g2
    try dsimp only [Exit.then, Exit.inBlock]
    obtain ⟨r0_0, r0_1, r0_2, r0_3⟩ := hs.g4.f4
    obtain ⟨r4_0, r4_1, r4_2, r4_3⟩ := hs.g3.f4
    obtain ⟨r8_0, r8_1, r8_2, r8_3⟩ := hs.g2.f4
    refine bodyPost_ret (v := (.tuple #[(.agg #[.bool n_ea, .slice o_ea k_ea c_ea, .bool n_eb, .slice o_eb k_eb c_eb]), (.agg #[.bool n_fa, .slice o_fa k_fa c_fa, .bool n_fb, .slice o_fb k_fb c_fb]), (.agg #[.bool n_ga, .slice o_ga k_ga c_ga, .bool n_gb, .slice o_gb k_gb c_gb])])) (by simp [results, Tryz.results85, go_sem, r0_0, r0_1, r0_2, r0_3, r4_0, r4_1, r4_2, r4_3, r8_0, r8_1, r8_2, r8_3]) rfl ?_
    exact ⟨_, _, _, rfl, .mk' e1 e2, .mk' f1 f2, .mk' g1 g2, hs.b⟩
  · have H0 := hide h0
    have HI := hide (HT.out.1.step h0)
    have HL := hide (step_less h0)
    have HP := hide (gN_pos h0)
    clear h0
    have hs := St.re (.c x_b6 (.c x_b7 (.c x_b5 (.c x_b4 (.c x_b3 .n))))) hd14 (.cons_cons _ (.cons_cons _ (.cons_cons _ (.cons_cons _ (.cons_cons _ (.cons _ (.cons _ .slnil))))))) hb
    refine wp_seq_k ?_
    intro K4 hK4
    refine wp_seq_k ?_
    intro K5 hK5
    refine rg [0, 1, 2, 3] ?_
    refine sq ?_
    refine .r0 ?_
    refine sq ?_
    refine .r4 ⟨hs.g1.cell 0 rfl, hs.g1.cell 1 rfl, hs.g1.cell 2 rfl, hs.g1.cell 3 rfl⟩ ?_
    refine sq ?_
    intro K hK
    go_big_op
    go_fit (isZero_no (PN.mk' b1 b2) (by omega) (by omega) H0.out)
    rintro e w_15 ⟨rfl, hb_15⟩
    clear hb x_b6 x_b7 x_b3 x_b4 x_b5
    replace hs := hs.bl hb_15
    refine hK _ _ rfl trivial ?_
    clear hK K
    refine sq ?_
    refine .r0 ?_
    apply wpSq_end
    refine hK5 _ _ ?_
    refine ct ?_
    refine wp_skip ?_
    refine hK4 _ _ ?_
    refine wp_block ?_
    refine wp_seq_k ?_
    intro K6 hK6
    refine rg [0, 1, 2, 3, 4, 5, 6] ?_
    refine sq ?_
    refine .r0 ?_
    refine sq ?_
    refine .r4 ⟨hs.g0.cell 0 rfl, hs.g0.cell 1 rfl, hs.g0.cell 2 rfl, hs.g0.cell 3 rfl⟩ ?_
    refine sq ?_
    refine .r0 ?_
    refine sq ?_
    refine .r4 ⟨hs.g1.cell 0 rfl, hs.g1.cell 1 rfl, hs.g1.cell 2 rfl, hs.g1.cell 3 rfl⟩ ?_
    refine sq ?_
    intro K hK
    have k0_1 := kb hb_15
    replace a1 := a1.k k0_1
    replace a2 := a2.k k0_1
    replace b1 := b1.k k0_1
    replace b2 := b2.k k0_1
    go_big_op
    go_fit (quot_any (PN.mk' a1 a2) (PN.mk' b1 b2) (by omega) (by omega) (by omega) (by omega) H0.out)
    rintro e w_16 ⟨_, rfl, ⟨n_qa, o_qa, k_qa, c_qa, n_qb, o_qb, k_qb, c_qb, rfl, q1, q2⟩, hb_16⟩
    replace hs := hs.bl hb_16
    have Lq1 := hide (q1.lenOf (rnd_len H0.out (zlen_gT1 a1.len a2.len b1.len b2.len)))
    have Lq2 := hide (q2.lenOf (rnd_len H0.out (zlen_gT2 a1.len a2.len b1.len b2.len)))
    refine hK _ _ rfl trivial ?_
    clear hK K
    refine sq ?_
    refine .al hs ?_; clear hs; intro p_b8 w_17 hs n17 kb_b8
    refine sq ?_
    refine .s4 hs.g0 (fun _ => hs.u0 kb_b8) ?_; clear hs; intro w_18 hs hd18 ho18
    apply wpSq_end
    refine hK6 _ _ ?_
    refine wp_region_f4 [(0, false), (1, false), (2, false), (3, false), (4, true)] [5, 6] [] (fun _ => default) [0, 1, 2, 0, 99, 99, 99] [(5, 1), (6, 1), (6, 0)] (.c hs.g2 (.c hs.g1 (.c hs.g0 .n))) fn fun w_19 n19 => ?_
    replace hs := hs.bl n19
    apply wpFl_ld rfl rfl; (case h1 => intro w' hC K hK; have c0 := Bs.cell hC 0 rfl; have c1 := Bs.cell hC 1 rfl; have c2 := Bs.cell hC 2 rfl; have c3 := Bs.cell hC 3 rfl; have c4 := Bs.cell hC 4 rfl; have c5 := Bs.cell hC 5 rfl; have c6 := Bs.cell hC 6 rfl; have c7 := Bs.cell hC 7 rfl; have c8 := Bs.cell hC 8 rfl; have c9 := Bs.cell hC 9 rfl; have c10 := Bs.cell hC 10 rfl; have c11 := Bs.cell hC 11 rfl; go_big_op; exact hK); iterate 4 kernel_rfl
    apply wpFl_ld rfl rfl; (case h1 => intro w' hC K hK; have c0 := Bs.cell hC 0 rfl; have c1 := Bs.cell hC 1 rfl; have c2 := Bs.cell hC 2 rfl; have c3 := Bs.cell hC 3 rfl; have c4 := Bs.cell hC 4 rfl; have c5 := Bs.cell hC 5 rfl; have c6 := Bs.cell hC 6 rfl; have c7 := Bs.cell hC 7 rfl; have c8 := Bs.cell hC 8 rfl; have c9 := Bs.cell hC 9 rfl; have c10 := Bs.cell hC 10 rfl; have c11 := Bs.cell hC 11 rfl; go_big_op; exact hK); iterate 4 kernel_rfl
    refine f4 ?_
    apply wpFl_ld rfl rfl; (case h1 => intro w' hC K hK; have c0 := Bs.cell hC 0 rfl; have c1 := Bs.cell hC 1 rfl; have c2 := Bs.cell hC 2 rfl; have c3 := Bs.cell hC 3 rfl; have c4 := Bs.cell hC 4 rfl; have c5 := Bs.cell hC 5 rfl; have c6 := Bs.cell hC 6 rfl; have c7 := Bs.cell hC 7 rfl; have c8 := Bs.cell hC 8 rfl; have c9 := Bs.cell hC 9 rfl; have c10 := Bs.cell hC 10 rfl; have c11 := Bs.cell hC 11 rfl; go_big_op; exact hK); iterate 4 kernel_rfl
    refine fl fun w_20 n20 => ?_
    replace hs := hs.bl n20
    intro K hK
    have k1_6 := ((((kb hb_16).b n17).o hd18 ho18).b n19).b n20
    replace a1 := a1.k k1_6
    replace a2 := a2.k k1_6
    have k0_6 := ((((k0_1.b hb_16).b n17).o hd18 ho18).b n19).b n20
    replace a3 := a3.k k0_6
    replace a4 := a4.k k0_6
    replace a5 := a5.k k0_6
    replace a6 := a6.k k0_6
    replace b1 := b1.k k1_6
    replace b2 := b2.k k1_6
    replace b3 := b3.k k0_6
    replace b4 := b4.k k0_6
    replace b5 := b5.k k0_6
    replace b6 := b6.k k0_6
    have k2_6 := (((kb n17).o hd18 ho18).b n19).b n20
    replace q1 := q1.k k2_6
    replace q2 := q2.k k2_6
    go_big_op
    go_fit (less_any (L := L + 1) (by omega) a1 a2 a3 a4 a5 a6 b1 b2 b3 b4 b5 b6 (.mk' (q1.zn Lq1.out) (q2.zn Lq2.out)) (by omega) (by omega))
    rintro e w_21 ⟨_, rfl, ⟨n_g1, o_g1, k_g1, c_g1, n_g2, o_g2, k_g2, c_g2, n_g3, o_g3, k_g3, c_g3, n_g4, o_g4, k_g4, c_g4, n_g5, o_g5, k_g5, c_g5, n_g6, o_g6, k_g6, c_g6, rfl, g1, g2, g3, g4, g5, g6⟩, hb_21⟩
    replace hs := hs.bl hb_21
    refine hK _ _ rfl ⟨hb_21, (And.intro hs.g2 (And.intro hs.g1 (And.intro hs.g0 trivial)))⟩ ?_
    clear hK K
    refine e0 hs ?_; clear hs; intro w_22 hs n22
    refine tl ?_
    intro K hK
    have xs := hs.g1
    have d0 : w_22.cell? ⟨p_b6, 0, none⟩ = some (.bool an1) := hs.g1.cell 0 rfl
    have d1 : w_22.cell? ⟨p_b6, 1, none⟩ = some (.slice ao1 ak1 ac1) := hs.g1.cell 1 rfl
    have d2 : w_22.cell? ⟨p_b6, 2, none⟩ = some (.bool an2) := hs.g1.cell 2 rfl
    have d3 : w_22.cell? ⟨p_b6, 3, none⟩ = some (.slice ao2 ak2 ac2) := hs.g1.cell 3 rfl
    have d4 : w_22.cell? ⟨p_b6, 4, none⟩ = some (.bool an3) := hs.g1.cell 4 rfl
    have d5 : w_22.cell? ⟨p_b6, 5, none⟩ = some (.slice ao3 ak3 ac3) := hs.g1.cell 5 rfl
    have d6 : w_22.cell? ⟨p_b6, 6, none⟩ = some (.bool an4) := hs.g1.cell 6 rfl
    have d7 : w_22.cell? ⟨p_b6, 7, none⟩ = some (.slice ao4 ak4 ac4) := hs.g1.cell 7 rfl
    have d8 : w_22.cell? ⟨p_b6, 8, none⟩ = some (.bool an5) := hs.g1.cell 8 rfl
    have d9 : w_22.cell? ⟨p_b6, 9, none⟩ = some (.slice ao5 ak5 ac5) := hs.g1.cell 9 rfl
    have d10 : w_22.cell? ⟨p_b6, 10, none⟩ = some (.bool an6) := hs.g1.cell 10 rfl
    have d11 : w_22.cell? ⟨p_b6, 11, none⟩ = some (.slice ao6 ak6 ac6) := hs.g1.cell 11 rfl
    have f0 := xs.free 0; have f1 := xs.free 1; have f2 := xs.free 2; have f3 := xs.free 3; have f4 := xs.free 4; have f5 := xs.free 5; have f6 := xs.free 6; have f7 := xs.free 7; have f8 := xs.free 8; have f9 := xs.free 9; have f10 := xs.free 10; have f11 := xs.free 11
    go_big_op
    have hd23 := xs.nod rfl rfl
    obtain ⟨w_23_0, eW, xs_0, ho_0⟩ : ∃ w', ((((w_22.setCell ⟨p_b6, 0, none⟩ (.bool bn1)).setCell ⟨p_b6, 1, none⟩ (.slice bo1 bk1 bc1)).setCell ⟨p_b6, 2, none⟩ (.bool bn2)).setCell ⟨p_b6, 3, none⟩ (.slice bo2 bk2 bc2)) = w' ∧ Bs w' p_b6 #[.bool bn1, .slice bo1 bk1 bc1, .bool bn2, .slice bo2 bk2 bc2, .bool an3, .slice ao3 ak3 ac3, .bool an4, .slice ao4 ak4 ac4, .bool an5, .slice ao5 ak5 ac5, .bool an6, .slice ao6 ak6 ac6] 122 ∧ Only p_b6 w_22 w' := xs.setN [(0, .bool bn1), (1, .slice bo1 bk1 bc1), (2, .bool bn2), (3, .slice bo2 bk2 bc2)]
    rw [eW]; clear eW
    obtain ⟨w_23_4, eW, xs_4, ho_4⟩ : ∃ w', ((((w_23_0.setCell ⟨p_b6, 4, none⟩ (.bool bn3)).setCell ⟨p_b6, 5, none⟩ (.slice bo3 bk3 bc3)).setCell ⟨p_b6, 6, none⟩ (.bool bn4)).setCell ⟨p_b6, 7, none⟩ (.slice bo4 bk4 bc4)) = w' ∧ Bs w' p_b6 #[.bool bn1, .slice bo1 bk1 bc1, .bool bn2, .slice bo2 bk2 bc2, .bool bn3, .slice bo3 bk3 bc3, .bool bn4, .slice bo4 bk4 bc4, .bool an5, .slice ao5 ak5 ac5, .bool an6, .slice ao6 ak6 ac6] 122 ∧ Only p_b6 w_23_0 w' := xs_0.setN [(4, .bool bn3), (5, .slice bo3 bk3 bc3), (6, .bool bn4), (7, .slice bo4 bk4 bc4)]
    rw [eW]; clear eW xs_0
    obtain ⟨w_23, eW, xs', ho_8⟩ : ∃ w', ((((w_23_4.setCell ⟨p_b6, 8, none⟩ (.bool bn5)).setCell ⟨p_b6, 9, none⟩ (.slice bo5 bk5 bc5)).setCell ⟨p_b6, 10, none⟩ (.bool bn6)).setCell ⟨p_b6, 11, none⟩ (.slice bo6 bk6 bc6)) = w' ∧ Bs w' p_b6 #[.bool bn1, .slice bo1 bk1 bc1, .bool bn2, .slice bo2 bk2 bc2, .bool bn3, .slice bo3 bk3 bc3, .bool bn4, .slice bo4 bk4 bc4, .bool bn5, .slice bo5 bk5 bc5, .bool bn6, .slice bo6 bk6 bc6] 122 ∧ Only p_b6 w_23_4 w' := xs_4.setN [(8, .bool bn5), (9, .slice bo5 bk5 bc5), (10, .bool bn6), (11, .slice bo6 bk6 bc6)]
    rw [eW]; clear eW xs_4
    have ho23 := ((ho_0.trans ho_4).trans ho_8)
    clear ho_0 ho_4 ho_8 d0 d1 d2 d3 d4 d5 d6 d7 d8 d9 d10 d11 f0 f1 f2 f3 f4 f5 f6 f7 f8 f9 f10 f11 xs
    replace hs := hs.u1 kb_b6 xs' ho23; clear xs'
    clear a1 a2 a3 a4 a5 a6
    refine hK _ _ rfl (And.intro hs.g2 (And.intro True.intro (And.intro hs.g0 True.intro))) ?_; clear hK K
    refine tl ?_
    intro K hK
    have xs := hs.g2
    have d0 : w_23.cell? ⟨p_b7, 0, none⟩ = some (.bool bn1) := hs.g2.cell 0 rfl
    have d1 : w_23.cell? ⟨p_b7, 1, none⟩ = some (.slice bo1 bk1 bc1) := hs.g2.cell 1 rfl
    have d2 : w_23.cell? ⟨p_b7, 2, none⟩ = some (.bool bn2) := hs.g2.cell 2 rfl
    have d3 : w_23.cell? ⟨p_b7, 3, none⟩ = some (.slice bo2 bk2 bc2) := hs.g2.cell 3 rfl
    have d4 : w_23.cell? ⟨p_b7, 4, none⟩ = some (.bool bn3) := hs.g2.cell 4 rfl
    have d5 : w_23.cell? ⟨p_b7, 5, none⟩ = some (.slice bo3 bk3 bc3) := hs.g2.cell 5 rfl
    have d6 : w_23.cell? ⟨p_b7, 6, none⟩ = some (.bool bn4) := hs.g2.cell 6 rfl
    have d7 : w_23.cell? ⟨p_b7, 7, none⟩ = some (.slice bo4 bk4 bc4) := hs.g2.cell 7 rfl
    have d8 : w_23.cell? ⟨p_b7, 8, none⟩ = some (.bool bn5) := hs.g2.cell 8 rfl
    have d9 : w_23.cell? ⟨p_b7, 9, none⟩ = some (.slice bo5 bk5 bc5) := hs.g2.cell 9 rfl
    have d10 : w_23.cell? ⟨p_b7, 10, none⟩ = some (.bool bn6) := hs.g2.cell 10 rfl
    have d11 : w_23.cell? ⟨p_b7, 11, none⟩ = some (.slice bo6 bk6 bc6) := hs.g2.cell 11 rfl
    have f0 := xs.free 0; have f1 := xs.free 1; have f2 := xs.free 2; have f3 := xs.free 3; have f4 := xs.free 4; have f5 := xs.free 5; have f6 := xs.free 6; have f7 := xs.free 7; have f8 := xs.free 8; have f9 := xs.free 9; have f10 := xs.free 10; have f11 := xs.free 11
    go_big_op
    have hd24 := xs.nod rfl rfl
    obtain ⟨w_24_0, eW, xs_0, ho_0⟩ : ∃ w', ((((w_23.setCell ⟨p_b7, 0, none⟩ (.bool n_g1)).setCell ⟨p_b7, 1, none⟩ (.slice o_g1 k_g1 c_g1)).setCell ⟨p_b7, 2, none⟩ (.bool n_g2)).setCell ⟨p_b7, 3, none⟩ (.slice o_g2 k_g2 c_g2)) = w' ∧ Bs w' p_b7 #[.bool n_g1, .slice o_g1 k_g1 c_g1, .bool n_g2, .slice o_g2 k_g2 c_g2, .bool bn3, .slice bo3 bk3 bc3, .bool bn4, .slice bo4 bk4 bc4, .bool bn5, .slice bo5 bk5 bc5, .bool bn6, .slice bo6 bk6 bc6] 122 ∧ Only p_b7 w_23 w' := xs.setN [(0, .bool n_g1), (1, .slice o_g1 k_g1 c_g1), (2, .bool n_g2), (3, .slice o_g2 k_g2 c_g2)]
    rw [eW]; clear eW
    obtain ⟨w_24_4, eW, xs_4, ho_4⟩ : ∃ w', ((((w_24_0.setCell ⟨p_b7, 4, none⟩ (.bool n_g3)).setCell ⟨p_b7, 5, none⟩ (.slice o_g3 k_g3 c_g3)).setCell ⟨p_b7, 6, none⟩ (.bool n_g4)).setCell ⟨p_b7, 7, none⟩ (.slice o_g4 k_g4 c_g4)) = w' ∧ Bs w' p_b7 #[.bool n_g1, .slice o_g1 k_g1 c_g1, .bool n_g2, .slice o_g2 k_g2 c_g2, .bool n_g3, .slice o_g3 k_g3 c_g3, .bool n_g4, .slice o_g4 k_g4 c_g4, .bool bn5, .slice bo5 bk5 bc5, .bool bn6, .slice bo6 bk6 bc6] 122 ∧ Only p_b7 w_24_0 w' := xs_0.setN [(4, .bool n_g3), (5, .slice o_g3 k_g3 c_g3), (6, .bool n_g4), (7, .slice o_g4 k_g4 c_g4)]
    rw [eW]; clear eW xs_0
    obtain ⟨w_24, eW, xs', ho_8⟩ : ∃ w', ((((w_24_4.setCell ⟨p_b7, 8, none⟩ (.bool n_g5)).setCell ⟨p_b7, 9, none⟩ (.slice o_g5 k_g5 c_g5)).setCell ⟨p_b7, 10, none⟩ (.bool n_g6)).setCell ⟨p_b7, 11, none⟩ (.slice o_g6 k_g6 c_g6)) = w' ∧ Bs w' p_b7 #[.bool n_g1, .slice o_g1 k_g1 c_g1, .bool n_g2, .slice o_g2 k_g2 c_g2, .bool n_g3, .slice o_g3 k_g3 c_g3, .bool n_g4, .slice o_g4 k_g4 c_g4, .bool n_g5, .slice o_g5 k_g5 c_g5, .bool n_g6, .slice o_g6 k_g6 c_g6] 122 ∧ Only p_b7 w_24_4 w' := xs_4.setN [(8, .bool n_g5), (9, .slice o_g5 k_g5 c_g5), (10, .bool n_g6), (11, .slice o_g6 k_g6 c_g6)]
    rw [eW]; clear eW xs_4
    have ho24 := ((ho_0.trans ho_4).trans ho_8)
    clear ho_0 ho_4 ho_8 d0 d1 d2 d3 d4 d5 d6 d7 d8 d9 d10 d11 f0 f1 f2 f3 f4 f5 f6 f7 f8 f9 f10 f11 xs
    replace hs := hs.u2 kb_b7 xs' ho24; clear xs'
    refine hK _ _ rfl (And.intro True.intro (And.intro True.intro (And.intro hs.g0 True.intro))) ?_; clear hK K
    apply wpTail_end
    have k7_10 := ((kb n22).o hd23 ho23).o hd24 ho24
    replace g1 := g1.k k7_10
    replace g2 := g2.k k7_10
    replace g3 := g3.k k7_10
    replace g4 := g4.k k7_10
    replace g5 := g5.k k7_10
    replace g6 := g6.k k7_10
    have x_b6 := hs.g1
    have k6_10 := (((kb hb_21).b n22).o hd23 ho23).o hd24 ho24
    replace b1 := b1.k k6_10
    replace b2 := b2.k k6_10
    replace b3 := b3.k k6_10
    replace b4 := b4.k k6_10
    replace b5 := b5.k k6_10
    replace b6 := b6.k k6_10
    have x_b7 := hs.g2
    have x_b3 := hs.g5
    have x_b4 := hs.g4
    have x_b5 := hs.g3
    have hb := hs.b
    refine ‹∀ (a' : Act) (w' : World), Handed _ _ a' w' → _› _ _ ?_
    go_roundg (gN t.step.s1 t.step.s2).toNat
    case rel =>
      have i1 := len_norm (Int.le_trans HI.out.ns (by have := gN_nonneg x y; have := gN_nonneg u v; omega)) LL.out.1.1 LL.out.1.2 LL.out.2.1 LL.out.2.2
      have i2 := len_norm HI.out.nu LL.out.1.1 LL.out.1.2 LL.out.2.1 LL.out.2.2
      have i3 := len_norm HI.out.nv LL.out.1.1 LL.out.1.2 LL.out.2.1 LL.out.2.2
      rw [GS.step_s1] at g1
      rw [GS.step_s2] at g2
      rw [GS.step_u1] at g3
      rw [GS.step_u2] at g4
      rw [GS.step_v1] at g5
      rw [GS.step_v2] at g6
      refine ⟨t.step, hide ⟨HI.out, (fin_step H0.out).trans HT.out.2.1, Nat.le_refl _⟩, BN.mk' x_b6 b1 b2 b3 b4 b5 b6, BN.mk' x_b7 (g1.zn i1.1) (g2.zn i1.2) (g3.zn i2.1) (g4.zn i2.2) (g5.zn i3.1) (g6.zn i3.2), x_b3, x_b4, x_b5, hb⟩
    case measure =>
      have h1 := HT.out.2.2
      have h2 := HL.out
      have h3 := HP.out
      have h4 := gN_nonneg t.step.s1 t.step.s2
      omega
end
end Go.Proofs.YtbiiglcfdphmaaaGreat

/- gint.Gcd. -/
namespace Go.Proofs.YtbiiglcfdphmaaaGreat
open Go Go.RowKit Dig
set_option linter.unusedVariables false
def BM (L : Nat) (w : World) (p : Nat) (ty : TypeId) (z1 z2 : Int) : Prop :=
  ∃ n1 o1 k1 c1 n2 o2 k2 c2, Bs w p #[.bool n1, .slice o1 k1 c1, .bool n2, .slice o2 k2 c2] ty ∧ ZN w (.agg #[.bool n1, .slice o1 k1 c1]) z1 L ∧ ZN w (.agg #[.bool n2, .slice o2 k2 c2]) z2 L
theorem BM.mk' {L : Nat} {w : World} {p : Nat} {ty : TypeId} {n1 n2 : Bool} {o1 o2 : Option Addr} {k1 c1 k2 c2 : Nat} {z1 z2 : Int} (hb : Bs w p #[.bool n1, .slice o1 k1 c1, .bool n2, .slice o2 k2 c2] ty) (h1 : ZN w (.agg #[.bool n1, .slice o1 k1 c1]) z1 L) (h2 : ZN w (.agg #[.bool n2, .slice o2 k2 c2]) z2 L) : BM L w p ty z1 z2 :=
  ⟨_, _, _, _, _, _, _, _, hb, h1, h2⟩
section
variable {w : World} {va vb : Value} {x y u v : Int} {l m k n : Nat}
end
end Go.Proofs.YtbiiglcfdphmaaaGreat

/- The reference's Xgcd. -/
namespace Go.Proofs.YtbiiglcfdphmaaaGreat
open Go Go.RowKit Dig
set_option linter.unusedVariables false
section
variable {w : World} {va vb : Value} {x y u v : Int} {l m k n : Nat}
set_option maxHeartbeats 8000000 in
set_option maxRecDepth 20000 in
theorem rgxgcd_any {L : Nat} (ha : PN w va x L y L) (hq : PN w vb u L v L) (hL : L + 1 ≤ 1900000) :
    Calls Tryz.prog 49 #[va, vb] w fun e w' => ∃ v1 v2 v3, e = .returned (.tuple #[v1, v2, v3]) ∧ PC w' v1 (turn (kq (GS.start x y u v).fin.r1 (GS.start x y u v).fin.r2) ((GS.start x y u v).fin.r1, (GS.start x y u v).fin.r2)).1 (turn (kq (GS.start x y u v).fin.r1 (GS.start x y u v).fin.r2) ((GS.start x y u v).fin.r1, (GS.start x y u v).fin.r2)).2 ∧
      PC w' v2 (turn (kq (GS.start x y u v).fin.r1 (GS.start x y u v).fin.r2) ((GS.start x y u v).fin.x1, (GS.start x y u v).fin.x2)).1 (turn (kq (GS.start x y u v).fin.r1 (GS.start x y u v).fin.r2) ((GS.start x y u v).fin.x1, (GS.start x y u v).fin.x2)).2 ∧
      PC w' v3 (turn (kq (GS.start x y u v).fin.r1 (GS.start x y u v).fin.r2) ((GS.start x y u v).fin.y1, (GS.start x y u v).fin.y2)).1 (turn (kq (GS.start x y u v).fin.r1 (GS.start x y u v).fin.r2) ((GS.start x y u v).fin.y1, (GS.start x y u v).fin.y2)).2 ∧ Below w.heap.size w w' := by
  have LL := hide (And.intro (And.intro ha.len1 ha.len2) (And.intro hq.len1 hq.len2))
  have hst : GI x y u v (GS.start x y u v) := GI.start x y u v
  have HST := hide hst
  have L1 := hide (show (dig (Int.natAbs 1)).length ≤ L + 1 by rw [show (dig (Int.natAbs 1)).length = 1 by decide]; omega)
  have L0 := hide (show (dig (Int.natAbs 0)).length ≤ L + 1 by rw [show (dig (Int.natAbs 0)).length = 0 by decide]; omega)
  obtain ⟨F, hF⟩ : ∃ F, (GS.start x y u v).fin = F := ⟨_, rfl⟩
  rw [hF]
  have HF := hide hF
  have HM := hide (kq_mod F.r1 F.r2)
  obtain ⟨N, hN⟩ : ∃ N, (gN u v).toNat = N := ⟨_, rfl⟩
  have HN := hide hN
  clear hst hF hN
  obtain ⟨n_0a, o_0a, k_0a, c_0a, n_0b, o_0b, k_0b, c_0b, rfl, ha1, ha2⟩ := ha
  obtain ⟨n_1a, o_1a, k_1a, c_1a, n_1b, o_1b, k_1b, c_1b, rfl, hq1, hq2⟩ := hq
  go_enter Tryz.func49, Tryz.ntmps49
  have hs := St.nil w
  refine wp_seq_k ?_
  intro K1 hK1
  refine rg [0, 1, 2, 3, 4] ?_
  refine sq ?_
  refine .al hs ?_; clear hs; intro p_b1 w_1 hs n1 kb_b1
  refine sq ?_
  refine .al hs ?_; clear hs; intro p_b2 w_2 hs n2 kb_b2
  refine sq ?_
  refine .al hs ?_; clear hs; intro p_b3 w_3 hs n3 kb_b3
  refine sq ?_
  refine .al hs ?_; clear hs; intro p_b4 w_4 hs n4 kb_b4
  refine sq ?_
  refine .al hs ?_; clear hs; intro p_b5 w_5 hs n5 kb_b5
  apply wpSq_end
  refine hK1 _ _ ?_
  refine wp_seq_k ?_
  intro K2 hK2
  refine wp_region_f4 [(0, false), (2, false), (1, true), (3, true)] [6, 7] [4, 5] (fun j => if j = 4 then (.cells #[.bool false, .slice none 0 0, .bool false, .slice none 0 0] 26) else (.cells #[.bool false, .slice none 0 0, .bool false, .slice none 0 0] 26)) [0, 99, 1, 99, 99, 99, 99, 99] [] (.c hs.g4 (.c hs.g3 .n)) (fm (fm fn)) fun w_6 n6 => ?_
  replace hs := hs.bl n6
  have hlB := hs.lt; have hkB := hs.k
  refine f4 ?_
  refine f4 ?_
  refine fl fun w_7 n7 => ?_
  replace hs := hs.bl n7
  intro K hK
  have k0_7 := ((((((kb n1).b n2).b n3).b n4).b n5).b n6).b n7
  replace ha1 := ha1.k k0_7
  replace ha2 := ha2.k k0_7
  go_big_op
  go_fit (rgCanonical_any (PN.mk' ha1 ha2) (by omega) (by omega) )
  rintro e w_8 ⟨_, rfl, ⟨n_ca, o_ca, k_ca, c_ca, n_cb, o_cb, k_cb, c_cb, rfl, c1, c2⟩, hb_8⟩
  replace hs := hs.bl hb_8
  refine hK _ _ rfl ⟨hb_8, (And.intro hs.g4 (And.intro hs.g3 trivial))⟩ ?_
  clear hK K
  refine fl fun w_9 n9 => ?_
  replace hs := hs.bl n9
  intro K hK
  have k0_9 := (k0_7.b hb_8).b n9
  replace hq1 := hq1.k k0_9
  replace hq2 := hq2.k k0_9
  go_big_op
  go_fit (rgCanonical_any (PN.mk' hq1 hq2) (by omega) (by omega) )
  rintro e w_10 ⟨_, rfl, ⟨n_da, o_da, k_da, c_da, n_db, o_db, k_db, c_db, rfl, d1, d2⟩, hb_10⟩
  replace hs := hs.bl hb_10
  refine hK _ _ rfl ⟨hb_10, (And.intro hs.g4 (And.intro hs.g3 trivial))⟩ ?_
  clear hK K
  refine e2 hs hlB hkB ?_; clear hs hlB hkB; intro w_11 p_b6 p_b7 hs n11 kb_b6 kb_b7
  refine tl ?_
  refine .s4 hs.g0 (fun _ => hs.u0 kb_b6) ?_ (e := fun _ hs => (And.intro hs.g6 (And.intro hs.g5 True.intro))); clear hs; intro w_12 hs hd12 ho12
  refine tl ?_
  refine .s4 hs.g1 (fun _ => hs.u1 kb_b7) ?_ (e := fun _ hs => (And.intro hs.g6 (And.intro hs.g5 True.intro))); clear hs; intro w_13 hs hd13 ho13
  apply wpTail_end
  refine hK2 _ _ ?_
  refine wp_seq_k ?_
  intro K3 hK3
  refine rg [0, 1, 2, 3, 4, 5] ?_
  refine sq ?_
  intro K hK
  go_big_op
  go_fit (rgI_any 1 0 _ (by decide) (by decide) (by decide) (by decide))
  rintro e w_14 ⟨_, rfl, ⟨n_ea, o_ea, k_ea, c_ea, n_eb, o_eb, k_eb, c_eb, rfl, e1, e2⟩, hb_14⟩
  replace hs := hs.bl hb_14
  refine hK _ _ rfl trivial ?_
  clear hK K
  refine sq ?_
  intro K hK
  go_big_op
  go_fit (rgI_any 0 0 _ (by decide) (by decide) (by decide) (by decide))
  rintro e w_15 ⟨_, rfl, ⟨n_fa, o_fa, k_fa, c_fa, n_fb, o_fb, k_fb, c_fb, rfl, f1, f2⟩, hb_15⟩
  replace hs := hs.bl hb_15
  refine hK _ _ rfl trivial ?_
  clear hK K
  refine sq ?_
  refine .al hs ?_; clear hs; intro p_b8 w_16 hs n16 kb_b8
  refine sq ?_
  refine .al hs ?_; clear hs; intro p_b9 w_17 hs n17 kb_b9
  refine sq ?_
  refine .s4 hs.g1 (fun _ => hs.u1 kb_b8) ?_; clear hs; intro w_18 hs hd18 ho18
  refine sq ?_
  refine .s4 hs.g0 (fun _ => hs.u0 kb_b9) ?_; clear hs; intro w_19 hs hd19 ho19
  apply wpSq_end
  refine hK3 _ _ ?_
  refine wp_seq_k ?_
  intro K4 hK4
  refine rg [0, 1, 2, 3, 4, 5] ?_
  refine sq ?_
  intro K hK
  go_big_op
  go_fit (rgI_any 0 0 _ (by decide) (by decide) (by decide) (by decide))
  rintro e w_20 ⟨_, rfl, ⟨n_ga, o_ga, k_ga, c_ga, n_gb, o_gb, k_gb, c_gb, rfl, g1, g2⟩, hb_20⟩
  replace hs := hs.bl hb_20
  have Lg1 := hide (g1.lenOf (L0.out))
  have Lg2 := hide (g2.lenOf (L0.out))
  refine hK _ _ rfl trivial ?_
  clear hK K
  refine sq ?_
  intro K hK
  go_big_op
  go_fit (rgI_any 1 0 _ (by decide) (by decide) (by decide) (by decide))
  rintro e w_21 ⟨_, rfl, ⟨n_ja, o_ja, k_ja, c_ja, n_jb, o_jb, k_jb, c_jb, rfl, j1, j2⟩, hb_21⟩
  replace hs := hs.bl hb_21
  have Lj1 := hide (j1.lenOf (L1.out))
  have Lj2 := hide (j2.lenOf (L0.out))
  refine hK _ _ rfl trivial ?_
  clear hK K
  refine sq ?_
  refine .al hs ?_; clear hs; intro p_b10 w_22 hs n22 kb_b10
  refine sq ?_
  refine .al hs ?_; clear hs; intro p_b11 w_23 hs n23 kb_b11
  refine sq ?_
  refine .s4 hs.g1 (fun _ => hs.u1 kb_b10) ?_; clear hs; intro w_24 hs hd24 ho24
  refine sq ?_
  refine .s4 hs.g0 (fun _ => hs.u0 kb_b11) ?_; clear hs; intro w_25 hs hd25 ho25
  apply wpSq_end
  refine hK4 _ _ ?_
  refine wp_seq_k ?_
  intro K5 hK5
  refine wp_block ?_
  have x_b6 := hs.g4
  have k8_25 := ((((((((((((((((kb n9).b hb_10).b n11).o hd12 ho12).o hd13 ho13).b hb_14).b hb_15).b n16).b n17).o hd18 ho18).o hd19 ho19).b hb_20).b hb_21).b n22).b n23).o hd24 ho24).o hd25 ho25
  replace c1 := c1.k k8_25
  replace c2 := c2.k k8_25
  have x_b7 := hs.g5
  have k10_25 := ((((((((((((((kb n11).o hd12 ho12).o hd13 ho13).b hb_14).b hb_15).b n16).b n17).o hd18 ho18).o hd19 ho19).b hb_20).b hb_21).b n22).b n23).o hd24 ho24).o hd25 ho25
  replace d1 := d1.k k10_25
  replace d2 := d2.k k10_25
  have x_b8 := hs.g3
  have k14_25 := ((((((((((kb hb_15).b n16).b n17).o hd18 ho18).o hd19 ho19).b hb_20).b hb_21).b n22).b n23).o hd24 ho24).o hd25 ho25
  replace e1 := e1.k k14_25
  replace e2 := e2.k k14_25
  have x_b9 := hs.g2
  have k15_25 := (((((((((kb n16).b n17).o hd18 ho18).o hd19 ho19).b hb_20).b hb_21).b n22).b n23).o hd24 ho24).o hd25 ho25
  replace f1 := f1.k k15_25
  replace f2 := f2.k k15_25
  have x_b10 := hs.g1
  have k20_25 := ((((kb hb_21).b n22).b n23).o hd24 ho24).o hd25 ho25
  replace g1 := g1.k k20_25
  replace g2 := g2.k k20_25
  have x_b11 := hs.g0
  have k21_25 := (((kb n22).b n23).o hd24 ho24).o hd25 ho25
  replace j1 := j1.k k21_25
  replace j2 := j2.k k21_25
  have x_b3 := hs.g8
  have x_b4 := hs.g7
  have x_b5 := hs.g6
  have hb := hs.b
  have hd26 := hs.2.1
  go_loopg [] N (fun k wr => ∃ t : GS, Hid (GI x y u v t ∧ t.fin = F ∧ (gN t.s1 t.s2).toNat ≤ k) ∧ BM (L + 1) wr p_b6 26 t.r1 t.r2 ∧ BM (L + 1) wr p_b7 26 t.s1 t.s2 ∧ BM (L + 1) wr p_b8 26 t.x1 t.x2 ∧ BM (L + 1) wr p_b9 26 t.u1 t.u2 ∧ BM (L + 1) wr p_b10 26 t.y1 t.y2 ∧ BM (L + 1) wr p_b11 26 t.v1 t.v2 ∧ Bs wr p_b3 #[.bool false, .slice none 0 0, .bool false, .slice none 0 0] 26 ∧ Bs wr p_b4 #[.bool false, .slice none 0 0, .bool false, .slice none 0 0] 26 ∧ Bs wr p_b5 #[.bool false, .slice none 0 0, .bool false, .slice none 0 0] 26 ∧ Below w.heap.size w wr)
  case atStart =>
    exact ⟨GS.start x y u v, hide ⟨HST.out, HF.out, by rw [← HN.out]; exact Nat.le_refl _⟩,
      BM.mk' x_b6 (c1.zn (Nat.le_succ_of_le LL.out.1.1)) (c2.zn (Nat.le_succ_of_le LL.out.1.2)), BM.mk' x_b7 (d1.zn (Nat.le_succ_of_le LL.out.2.1)) (d2.zn (Nat.le_succ_of_le LL.out.2.2)),
      BM.mk' x_b8 (e1.zn L1.out) (e2.zn L0.out), BM.mk' x_b9 (f1.zn L0.out) (f2.zn L0.out), BM.mk' x_b10 (g1.zn L0.out) (g2.zn L0.out), BM.mk' x_b11 (j1.zn L1.out) (j2.zn L0.out), x_b3, x_b4, x_b5, hb⟩
  case round =>
  clear c1 c2 d1 d2 e1 e2 f1 f2 g1 g2 j1 j2 ha1 ha2 hq1 hq2 x_b6 x_b7 x_b8 x_b9 x_b10 x_b11 x_b3 x_b4 x_b5 hb hs
  obtain ⟨t, HT, ⟨an1, ao1, ak1, ac1, an2, ao2, ak2, ac2, x_b6, a1, a2⟩, ⟨bn1, bo1, bk1, bc1, bn2, bo2, bk2, bc2, x_b7, b1, b2⟩, ⟨an3, ao3, ak3, ac3, an4, ao4, ak4, ac4, x_b8, a3, a4⟩, ⟨bn3, bo3, bk3, bc3, bn4, bo4, bk4, bc4, x_b9, b3, b4⟩, ⟨an5, ao5, ak5, ac5, an6, ao6, ak6, ac6, x_b10, a5, a6⟩, ⟨bn5, bo5, bk5, bc5, bn6, bo6, bk6, bc6, x_b11, b5, b6⟩, x_b3, x_b4, x_b5, hb⟩ := hrel
  by_cases h0 : gN t.s1 t.s2 = 0
  · have hs := gN_zero.1 h0
    have hft : t = F := by rw [← HT.out.2.1]; exact (fin_done h0).symm
    have HK := hide (show kq t.r1 t.r2 = kq F.r1 F.r2 by rw [hft])
    have HFT := hide hft
    rw [hs.1] at b1
    rw [hs.2] at b2
    clear h0 hs hft
    have hs := St.re (.c x_b11 (.c x_b10 (.c x_b9 (.c x_b8 (.c x_b6 (.c x_b7 (.c x_b5 (.c x_b4 (.c x_b3 .n))))))))) hd26 (.cons_cons _ (.cons_cons _ (.cons_cons _ (.cons_cons _ (.cons_cons _ (.cons_cons _ (.cons_cons _ (.cons_cons _ (.cons_cons _ (.cons _ (.cons _ .slnil))))))))))) hb
    refine wp_seq_k ?_
    intro K6 hK6
    refine wp_seq_k ?_
    intro K7 hK7
    refine rg [0, 1, 2] ?_
    refine sq ?_
    refine .r4 hs.g5.f4 ?_
    refine sq ?_
    intro K hK
    go_big_op
    go_fit (rgNull_yes (PN.mk' b1 b2) (by omega) (by omega))
    rintro e w_27 ⟨rfl, hb_27⟩
    clear hb x_b6 x_b7 x_b8 x_b9 x_b10 x_b11 x_b3 x_b4 x_b5
    replace hs := hs.bl hb_27
    refine hK _ _ rfl trivial ?_
    clear hK K
    refine sq ?_
    refine .r0 ?_
    apply wpSq_end
    refine hK7 _ _ ?_
    refine cf ?_
    refine wp_exit ?_
    refine hK5 _ _ ?_
    refine wp_seq_k ?_
    intro K8 hK8
    refine rg [0, 1, 2, 3, 4, 5, 6, 7] ?_
    refine sq ?_
    refine .r4 hs.g4.f4 ?_
    refine sq ?_
    intro K hK
    have k0_1 := kb hb_27
    replace a1 := a1.k k0_1
    replace a2 := a2.k k0_1
    go_big_op
    go_fit (rgCanon_any (PN.mk' a1 a2) (by omega) (by omega))
    rintro e w_28 ⟨_, rfl, ⟨n_ea, o_ea, k_ea, c_ea, n_eb, o_eb, k_eb, c_eb, rfl, e1, e2⟩, hb_28⟩
    replace hs := hs.bl hb_28
    refine hK _ _ rfl trivial ?_
    clear hK K
    refine sq ?_
    refine .mv ?_
    refine sq ?_
    refine .r0 ?_
    refine sq ?_
    refine .r0 ?_
    refine sq ?_
    refine .al hs ?_; clear hs; intro p_b12 w_29 hs n29 kb_b12
    refine sq ?_
    refine .s4 hs.g0 (fun _ => hs.u0 kb_b12) ?_; clear hs; intro w_30 hs hd30 ho30
    refine sq ?_
    refine .mv ?_
    apply wpSq_end
    refine hK8 _ _ ?_
    refine wp_seq_k ?_
    intro K9 hK9
    refine wp_region_f4 [(0, false), (1, false), (2, false), (4, false), (5, false), (3, true), (6, true)] [7, 8, 9] [] (fun _ => default) [0, 1, 99, 99, 2, 99, 99, 99, 99, 99] [] (.c hs.g0 (.c hs.g4 (.c hs.g2 .n))) fn fun w_31 n31 => ?_
    replace hs := hs.bl n31
    refine f4 ?_
    refine f4 ?_
    refine fmv ?_
    refine f4 ?_
    refine fmv ?_
    refine fl fun w_32 n32 => ?_
    replace hs := hs.bl n32
    intro K hK
    have k0_6 := ((((k0_1.b hb_28).b n29).o hd30 ho30).b n31).b n32
    replace a3 := a3.k k0_6
    replace a4 := a4.k k0_6
    go_big_op
    go_fit (rgTurn_any ((kq t.r1 t.r2 : Nat) : Int) (PN.mk' a3 a4) (by omega) (by omega))
    rintro e w_33 ⟨_, rfl, ⟨n_fa, o_fa, k_fa, c_fa, n_fb, o_fb, k_fb, c_fb, rfl, f1, f2⟩, hb_33⟩
    replace hs := hs.bl hb_33
    rw [HK.out, HM.out] at f1 f2
    refine hK _ _ rfl ⟨hb_33, (And.intro hs.g0 (And.intro hs.g4 (And.intro hs.g2 trivial)))⟩ ?_
    clear hK K
    refine fl fun w_34 n34 => ?_
    replace hs := hs.bl n34
    intro K hK
    have k0_8 := (k0_6.b hb_33).b n34
    replace a5 := a5.k k0_8
    replace a6 := a6.k k0_8
    go_big_op
    go_fit (rgTurn_any ((kq t.r1 t.r2 : Nat) : Int) (PN.mk' a5 a6) (by omega) (by omega))
    rintro e w_35 ⟨_, rfl, ⟨n_ga, o_ga, k_ga, c_ga, n_gb, o_gb, k_gb, c_gb, rfl, g1, g2⟩, hb_35⟩
    replace hs := hs.bl hb_35
    rw [HK.out, HM.out] at g1 g2
    refine hK _ _ rfl ⟨hb_35, (And.intro hs.g0 (And.intro hs.g4 (And.intro hs.g2 trivial)))⟩ ?_
    clear hK K
    refine e0 hs ?_; clear hs; intro w_36 hs n36
    refine tl ?_
    refine .s4 hs.g9 (fun _ => hs.u9 kb_b3) ?_ (e := fun _ hs => (And.intro hs.g0 (And.intro hs.g4 (And.intro hs.g2 True.intro)))); clear hs; intro w_37 hs hd37 ho37
    refine tl ?_
    refine .s4 hs.g8 (fun _ => hs.u8 kb_b4) ?_ (e := fun _ hs => (And.intro hs.g0 (And.intro hs.g4 (And.intro hs.g2 True.intro)))); clear hs; intro w_38 hs hd38 ho38
    refine tl ?_
    refine .s4 hs.g7 (fun _ => hs.u7 kb_b5) ?_ (e := fun _ hs => (And.intro hs.g0 (And.intro hs.g4 (And.intro hs.g2 True.intro)))); clear hs; intro w_39 hs hd39 ho39
    apply wpTail_end
    refine hK9 _ _ ?_
    refine wp_ret ?_
    have k2_13 := ((((((((((kb n29).o hd30 ho30).b n31).b n32).b hb_33).b n34).b hb_35).b n36).o hd37 ho37).o hd38 ho38).o hd39 ho39
    replace e1 := e1.k k2_13
    replace e2 := e2.k k2_13
    rw [HK.out] at e1 e2
    have k7_13 := (((((kb n34).b hb_35).b n36).o hd37 ho37).o hd38 ho38).o hd39 ho39
    replace f1 := f1.k k7_13
    replace f2 := f2.k k7_13
    have k9_13 := (((kb n36).o hd37 ho37).o hd38 ho38).o hd39 ho39
    replace g1 := g1.k k9_13
    replace g2 := g2.k k9_13
    rw [HFT.out] at e1 e2 f1 f2 g1 g2
    try dsimp only [Exit.then, Exit.inBlock]
    obtain ⟨r0_0, r0_1, r0_2, r0_3⟩ := hs.g9.f4
    obtain ⟨r4_0, r4_1, r4_2, r4_3⟩ := hs.g8.f4
    obtain ⟨r8_0, r8_1, r8_2, r8_3⟩ := hs.g7.f4
    refine bodyPost_ret (v := (.tuple #[(.agg #[.bool n_ea, .slice o_ea k_ea c_ea, .bool n_eb, .slice o_eb k_eb c_eb]), (.agg #[.bool n_fa, .slice o_fa k_fa c_fa, .bool n_fb, .slice o_fb k_fb c_fb]), (.agg #[.bool n_ga, .slice o_ga k_ga c_ga, .bool n_gb, .slice o_gb k_gb c_gb])])) (by simp [results, Tryz.results49, go_sem, r0_0, r0_1, r0_2, r0_3, r4_0, r4_1, r4_2, r4_3, r8_0, r8_1, r8_2, r8_3]) rfl ?_
    exact ⟨_, _, _, rfl, .mk' e1 e2, .mk' f1 f2, .mk' g1 g2, hs.b⟩
  · have H0 := hide h0
    have HI := hide (HT.out.1.step h0)
    have HL := hide (step_less h0)
    have HP := hide (gN_pos h0)
    have HD := hide (decide_eq_false (p := t.s1 = 0 ∧ t.s2 = 0) (fun c => h0 (gN_zero.2 c)))
    clear h0
    have hs := St.re (.c x_b11 (.c x_b10 (.c x_b9 (.c x_b8 (.c x_b6 (.c x_b7 (.c x_b5 (.c x_b4 (.c x_b3 .n))))))))) hd26 (.cons_cons _ (.cons_cons _ (.cons_cons _ (.cons_cons _ (.cons_cons _ (.cons_cons _ (.cons_cons _ (.cons_cons _ (.cons_cons _ (.cons _ (.cons _ .slnil))))))))))) hb
    refine wp_seq_k ?_
    intro K6 hK6
    refine wp_seq_k ?_
    intro K7 hK7
    refine rg [0, 1, 2] ?_
    refine sq ?_
    refine .r4 hs.g5.f4 ?_
    refine sq ?_
    intro K hK
    go_big_op
    go_fit (rgNull_any (PN.mk' b1 b2) (by omega) (by omega))
    rintro e w_27 ⟨rfl, hb_27⟩
    clear hb x_b6 x_b7 x_b8 x_b9 x_b10 x_b11 x_b3 x_b4 x_b5
    replace hs := hs.bl hb_27
    rw [HD.out]
    refine hK _ _ rfl trivial ?_
    clear hK K
    refine sq ?_
    refine .r0 ?_
    apply wpSq_end
    refine hK7 _ _ ?_
    refine ct ?_
    refine wp_skip ?_
    refine hK6 _ _ ?_
    refine wp_block ?_
    refine wp_seq_k ?_
    intro K8 hK8
    refine rg [0, 1, 2, 3, 4, 5, 6, 7, 8, 9] ?_
    refine sq ?_
    refine .r4 hs.g4.f4 ?_
    refine sq ?_
    refine .r4 hs.g5.f4 ?_
    refine sq ?_
    intro K hK
    have k0_1 := kb hb_27
    replace a1 := a1.k k0_1
    replace a2 := a2.k k0_1
    replace b1 := b1.k k0_1
    replace b2 := b2.k k0_1
    go_big_op
    go_fit (rgRound_any (PN.mk' a1 a2) (PN.mk' b1 b2) (by omega) (by omega) (by omega) (by omega) H0.out)
    rintro e w_28 ⟨_, _, rfl, ⟨n_qa, o_qa, k_qa, c_qa, n_qb, o_qb, k_qb, c_qb, rfl, q1, q2⟩, ⟨n_ra, o_ra, k_ra, c_ra, n_rb, o_rb, k_rb, c_rb, rfl, r1, r2⟩, hb_28⟩
    replace hs := hs.bl hb_28
    have Lq1 := hide (q1.lenOf (rnd_len (H0.out) (zlen_gT1 (a1.len) (a2.len) (b1.len) (b2.len))))
    have Lq2 := hide (q2.lenOf (rnd_len (H0.out) (zlen_gT2 (a1.len) (a2.len) (b1.len) (b2.len))))
    refine hK _ _ rfl trivial ?_
    clear hK K
    refine sq ?_
    refine .mv ?_
    refine sq ?_
    refine .r0 ?_
    refine sq ?_
    refine .r0 ?_
    refine sq ?_
    refine .al hs ?_; clear hs; intro p_b12 w_29 hs n29 kb_b12
    refine sq ?_
    refine .al hs ?_; clear hs; intro p_b13 w_30 hs n30 kb_b13
    refine sq ?_
    refine .s4 hs.g1 (fun _ => hs.u1 kb_b12) ?_; clear hs; intro w_31 hs hd31 ho31
    refine sq ?_
    refine .s4 hs.g0 (fun _ => hs.u0 kb_b13) ?_; clear hs; intro w_32 hs hd32 ho32
    apply wpSq_end
    refine hK8 _ _ ?_
    refine wp_seq_k ?_
    intro K9 hK9
    refine wp_region_f4 [(0, false), (1, false)] [2, 3] [] (fun _ => default) [0, 1, 99, 99] [(3, 0)] (.c hs.g7 (.c hs.g0 .n)) fn fun w_33 n33 => ?_
    replace hs := hs.bl n33
    refine f4 ?_
    refine f4 ?_
    refine e0 hs ?_; clear hs; intro w_34 hs n34
    refine tl ?_
    refine .s4 hs.g6 (fun _ => hs.u6 kb_b6) ?_ (e := fun _ hs => (And.intro hs.g7 (And.intro hs.g0 True.intro))); clear hs; intro w_35 hs hd35 ho35
    refine tl ?_
    refine .s4 hs.g7 (fun _ => hs.u7 kb_b7) ?_ (e := fun _ hs => (And.intro True.intro (And.intro hs.g0 True.intro))); clear hs; intro w_36 hs hd36 ho36
    apply wpTail_end
    refine hK9 _ _ ?_
    refine wp_seq_k ?_
    intro K10 hK10
    refine wp_region_f4 [(0, false), (1, false), (2, false), (3, false), (4, true), (5, true)] [6, 7] [] (fun _ => default) [0, 1, 2, 0, 99, 99, 99, 99] [(6, 1), (7, 1), (7, 0)] (.c hs.g4 (.c hs.g5 (.c hs.g1 .n))) fn fun w_37 n37 => ?_
    replace hs := hs.bl n37
    refine f4 ?_
    refine f4 ?_
    refine f4 ?_
    refine f4 ?_
    refine fl fun w_38 n38 => ?_
    replace hs := hs.bl n38
    intro K hK
    have k2_12 := (((((((((kb n29).b n30).o hd31 ho31).o hd32 ho32).b n33).b n34).o hd35 ho35).o hd36 ho36).b n37).b n38
    replace q1 := q1.k k2_12
    replace q2 := q2.k k2_12
    have k0_12 := ((((((((((k0_1.b hb_28).b n29).b n30).o hd31 ho31).o hd32 ho32).b n33).b n34).o hd35 ho35).o hd36 ho36).b n37).b n38
    replace b3 := b3.k k0_12
    replace b4 := b4.k k0_12
    go_big_op
    go_fit (rgMul_any (PN.mk' (q1.zn Lq1.out) (q2.zn Lq2.out)) (PN.mk' b3 b4) (by omega) (by omega) (by omega) (by omega) )
    rintro e w_39 ⟨_, rfl, ⟨n_ma, o_ma, k_ma, c_ma, n_mb, o_mb, k_mb, c_mb, rfl, m1, m2⟩, hb_39⟩
    replace hs := hs.bl hb_39
    have Lm1 := hide (m1.lenOf (zlen_sub (zlen_mul (Lq1.out) (b3.len)) (zlen_mul (Lq2.out) (b4.len))))
    have Lm2 := hide (m2.lenOf (zlen_add (zlen_mul (Lq1.out) (b4.len)) (zlen_mul (Lq2.out) (b3.len))))
    refine hK _ _ rfl ⟨hb_39, (And.intro hs.g4 (And.intro hs.g5 (And.intro hs.g1 trivial)))⟩ ?_
    clear hK K
    refine fl fun w_40 n40 => ?_
    replace hs := hs.bl n40
    intro K hK
    have k0_14 := (k0_12.b hb_39).b n40
    replace a3 := a3.k k0_14
    replace a4 := a4.k k0_14
    have k13_14 := kb n40
    replace m1 := m1.k k13_14
    replace m2 := m2.k k13_14
    go_big_op
    go_fit (rgSub_any (PN.mk' a3 a4) (PN.mk' (m1.zn Lm1.out) (m2.zn Lm2.out)) (by omega) (by omega) (by omega) (by omega) )
    rintro e w_41 ⟨_, rfl, ⟨n_ga, o_ga, k_ga, c_ga, n_gb, o_gb, k_gb, c_gb, rfl, g1, g2⟩, hb_41⟩
    replace hs := hs.bl hb_41
    have Lg1 := hide (g1.lenOf (zlen_sub (a3.len) (Lm1.out)))
    have Lg2 := hide (g2.lenOf (zlen_sub (a4.len) (Lm2.out)))
    refine hK _ _ rfl ⟨hb_41, (And.intro hs.g4 (And.intro hs.g5 (And.intro hs.g1 trivial)))⟩ ?_
    clear hK K
    refine e0 hs ?_; clear hs; intro w_42 hs n42
    refine tl ?_
    refine .s4 hs.g5 (fun _ => hs.u5 kb_b8) ?_ (e := fun _ hs => (And.intro hs.g4 (And.intro True.intro (And.intro hs.g1 True.intro)))); clear hs; intro w_43 hs hd43 ho43
    clear a1 a2 m1 m2 a3 a4
    refine tl ?_
    refine .s4 hs.g4 (fun _ => hs.u4 kb_b9) ?_ (e := fun _ hs => (And.intro True.intro (And.intro True.intro (And.intro hs.g1 True.intro)))); clear hs; intro w_44 hs hd44 ho44
    apply wpTail_end
    refine hK10 _ _ ?_
    refine wp_region_f4 [(0, false), (1, false), (2, false), (3, false), (4, true), (5, true)] [6, 7] [] (fun _ => default) [0, 1, 2, 0, 99, 99, 99, 99] [(6, 1), (7, 1), (7, 0)] (.c hs.g2 (.c hs.g3 (.c hs.g1 .n))) fn fun w_45 n45 => ?_
    replace hs := hs.bl n45
    refine f4 ?_
    refine f4 ?_
    refine f4 ?_
    refine f4 ?_
    refine fl fun w_46 n46 => ?_
    replace hs := hs.bl n46
    intro K hK
    have k12_20 := (((((((kb hb_39).b n40).b hb_41).b n42).o hd43 ho43).o hd44 ho44).b n45).b n46
    replace q1 := q1.k k12_20
    replace q2 := q2.k k12_20
    have k0_20 := (((((k0_14.b hb_41).b n42).o hd43 ho43).o hd44 ho44).b n45).b n46
    replace b5 := b5.k k0_20
    replace b6 := b6.k k0_20
    go_big_op
    go_fit (rgMul_any (PN.mk' (q1.zn Lq1.out) (q2.zn Lq2.out)) (PN.mk' b5 b6) (by omega) (by omega) (by omega) (by omega) )
    rintro e w_47 ⟨_, rfl, ⟨n_oa, o_oa, k_oa, c_oa, n_ob, o_ob, k_ob, c_ob, rfl, o1, o2⟩, hb_47⟩
    replace hs := hs.bl hb_47
    have Lo1 := hide (o1.lenOf (zlen_sub (zlen_mul (Lq1.out) (b5.len)) (zlen_mul (Lq2.out) (b6.len))))
    have Lo2 := hide (o2.lenOf (zlen_add (zlen_mul (Lq1.out) (b6.len)) (zlen_mul (Lq2.out) (b5.len))))
    refine hK _ _ rfl ⟨hb_47, (And.intro hs.g2 (And.intro hs.g3 (And.intro hs.g1 trivial)))⟩ ?_
    clear hK K
    refine fl fun w_48 n48 => ?_
    replace hs := hs.bl n48
    intro K hK
    have k0_22 := (k0_20.b hb_47).b n48
    replace a5 := a5.k k0_22
    replace a6 := a6.k k0_22
    have k21_22 := kb n48
    replace o1 := o1.k k21_22
    replace o2 := o2.k k21_22
    go_big_op
    go_fit (rgSub_any (PN.mk' a5 a6) (PN.mk' (o1.zn Lo1.out) (o2.zn Lo2.out)) (by omega) (by omega) (by omega) (by omega) )
    rintro e w_49 ⟨_, rfl, ⟨n_ja, o_ja, k_ja, c_ja, n_jb, o_jb, k_jb, c_jb, rfl, j1, j2⟩, hb_49⟩
    replace hs := hs.bl hb_49
    have Lj1 := hide (j1.lenOf (zlen_sub (a5.len) (Lo1.out)))
    have Lj2 := hide (j2.lenOf (zlen_sub (a6.len) (Lo2.out)))
    refine hK _ _ rfl ⟨hb_49, (And.intro hs.g2 (And.intro hs.g3 (And.intro hs.g1 trivial)))⟩ ?_
    clear hK K
    refine e0 hs ?_; clear hs; intro w_50 hs n50
    refine tl ?_
    refine .s4 hs.g3 (fun _ => hs.u3 kb_b10) ?_ (e := fun _ hs => (And.intro hs.g2 (And.intro True.intro (And.intro hs.g1 True.intro)))); clear hs; intro w_51 hs hd51 ho51
    refine tl ?_
    refine .s4 hs.g2 (fun _ => hs.u2 kb_b11) ?_ (e := fun _ hs => (And.intro True.intro (And.intro True.intro (And.intro hs.g1 True.intro)))); clear hs; intro w_52 hs hd52 ho52
    apply wpTail_end
    have k2_26 := (((((((((((((k2_12.b hb_39).b n40).b hb_41).b n42).o hd43 ho43).o hd44 ho44).b n45).b n46).b hb_47).b n48).b hb_49).b n50).o hd51 ho51).o hd52 ho52
    replace r1 := r1.k k2_26
    replace r2 := r2.k k2_26
    have k15_26 := ((((((((((kb n42).o hd43 ho43).o hd44 ho44).b n45).b n46).b hb_47).b n48).b hb_49).b n50).o hd51 ho51).o hd52 ho52
    replace g1 := g1.k k15_26
    replace g2 := g2.k k15_26
    have k23_26 := ((kb n50).o hd51 ho51).o hd52 ho52
    replace j1 := j1.k k23_26
    replace j2 := j2.k k23_26
    have x_b6 := hs.g6
    have k1_26 := ((((((((((((((((((((((((kb hb_28).b n29).b n30).o hd31 ho31).o hd32 ho32).b n33).b n34).o hd35 ho35).o hd36 ho36).b n37).b n38).b hb_39).b n40).b hb_41).b n42).o hd43 ho43).o hd44 ho44).b n45).b n46).b hb_47).b n48).b hb_49).b n50).o hd51 ho51).o hd52 ho52
    replace b1 := b1.k k1_26
    replace b2 := b2.k k1_26
    have x_b7 := hs.g7
    have x_b8 := hs.g5
    have k12_26 := (((((k12_20.b hb_47).b n48).b hb_49).b n50).o hd51 ho51).o hd52 ho52
    replace b3 := b3.k k12_26
    replace b4 := b4.k k12_26
    have x_b9 := hs.g4
    have x_b10 := hs.g3
    have k20_26 := (((((kb hb_47).b n48).b hb_49).b n50).o hd51 ho51).o hd52 ho52
    replace b5 := b5.k k20_26
    replace b6 := b6.k k20_26
    have x_b11 := hs.g2
    have x_b3 := hs.g10
    have x_b4 := hs.g9
    have x_b5 := hs.g8
    have hb := hs.b
    refine ‹∀ (a' : Act) (w' : World), Handed _ _ a' w' → _› _ _ ?_
    go_roundg (gN t.step.s1 t.step.s2).toNat
    case rel =>
      have i1 := len_norm (Int.le_trans HI.out.ns (by have := gN_nonneg x y; have := gN_nonneg u v; omega)) LL.out.1.1 LL.out.1.2 LL.out.2.1 LL.out.2.2
      have i2 := len_norm HI.out.nu LL.out.1.1 LL.out.1.2 LL.out.2.1 LL.out.2.2
      have i3 := len_norm HI.out.nv LL.out.1.1 LL.out.1.2 LL.out.2.1 LL.out.2.2
      rw [gR1, GS.step_s1] at r1
      rw [gR2, GS.step_s2] at r2
      rw [GS.step_u1] at g1
      rw [GS.step_u2] at g2
      rw [GS.step_v1] at j1
      rw [GS.step_v2] at j2
      refine ⟨t.step, hide ⟨HI.out, (fin_step H0.out).trans HT.out.2.1, Nat.le_refl _⟩, BM.mk' x_b6 b1 b2, BM.mk' x_b7 (r1.zn i1.1) (r2.zn i1.2), BM.mk' x_b8 b3 b4, BM.mk' x_b9 (g1.zn i2.1) (g2.zn i2.2), BM.mk' x_b10 b5 b6, BM.mk' x_b11 (j1.zn i3.1) (j2.zn i3.2), x_b3, x_b4, x_b5, hb⟩
    case measure =>
      have h1 := HT.out.2.2
      have h2 := HL.out
      have h3 := HP.out
      have h4 := gN_nonneg t.step.s1 t.step.s2
      omega
end
end Go.Proofs.YtbiiglcfdphmaaaGreat

/- The reference's Round of longer numbers. -/
namespace Go.Proofs.YtbiiglcfdphmaaaGreat
open Go Go.RowKit Dig
set_option linter.unusedVariables false
set_option maxHeartbeats 4000000 in
set_option maxRecDepth 20000 in
theorem rround_big {w : World} {va vb : Value} {x y : Int} {l m : Nat} (ha : ZN w va x l) (hb' : ZN w vb y m) (hl : l ≤ 40000000) (hm : m ≤ 20000000) (h0 : y ≠ 0) :
    Calls Tryz.prog 124 #[va, vb] w fun e w' => ∃ v1 v2, e = .returned (.tuple #[v1, v2]) ∧ ZC w' v1 (rnd x y) ∧ ZC w' v2 (x - rnd x y * y) ∧ Below w.heap.size w w' := by
  have LX2 := hide (zlen_add ha.len ha.len)
  have LS := hide (show (dig (x + x + y).natAbs).length ≤ l + 1 + m + 1 from zlen_add (show (dig (x + x).natAbs).length ≤ l + 1 by
    have := add_len x.natAbs
    rw [val_dig] at this
    rw [show (x + x).natAbs = x.natAbs + x.natAbs by omega]
    have := ha.len
    omega) hb'.len)
  have LY := hide (show (dig (y + y).natAbs).length ≤ m + 1 by
    have := add_len y.natAbs
    rw [val_dig] at this
    rw [show (y + y).natAbs = y.natAbs + y.natAbs by omega]
    have := hb'.len
    omega)
  have LN := hide (rnd_len h0 ha.len)
  have LM := hide (zlen_mul LN.out hb'.len)
  have EN := hide (show (x + x + y).fdiv (y + y) = rnd x y by unfold rnd; rw [show x + x + y = 2 * x + y by omega, show y + y = 2 * y by omega])
  have H0 := hide (show y + y ≠ 0 by omega)
  clear h0
  obtain ⟨na, oa, ca, xs, rfl, hca, _, _, hxl⟩ := ha.open_
  obtain ⟨nb, ob, cb, ys, rfl, hcb, _, _, hyl⟩ := hb'.open_
  go_enter Tryz.func124, Tryz.ntmps124
  have hb := Below.refl w.heap.size w
  have hp := Bk.new w na (.slice oa xs.length ca)
  replace ha := ha.alloc (.cells #[.bool na, (.slice oa xs.length ca)] 24)
  replace hb' := hb'.alloc (.cells #[.bool na, (.slice oa xs.length ca)] 24)
  replace hb := hb.alloc hb.size (.cells #[.bool na, (.slice oa xs.length ca)] 24)
  have hq := Bk.new (w.alloc (.cells #[.bool na, (.slice oa xs.length ca)] 24)) nb (.slice ob ys.length cb)
  simp only [Bk.size_alloc] at hq
  replace ha := ha.alloc (.cells #[.bool nb, (.slice ob ys.length cb)] 24)
  replace hb' := hb'.alloc (.cells #[.bool nb, (.slice ob ys.length cb)] 24)
  replace hp := hp.alloc (.cells #[.bool nb, (.slice ob ys.length cb)] 24)
  replace hb := hb.alloc hb.size (.cells #[.bool nb, (.slice ob ys.length cb)] 24)
  have hz1 := Bk.new ((w.alloc (.cells #[.bool na, (.slice oa xs.length ca)] 24)).alloc (.cells #[.bool nb, (.slice ob ys.length cb)] 24)) false (.slice none 0 0)
  simp only [Bk.size_alloc] at hz1
  replace ha := ha.alloc (.cells #[.bool false, (.slice none 0 0)] 24)
  replace hb' := hb'.alloc (.cells #[.bool false, (.slice none 0 0)] 24)
  replace hp := hp.alloc (.cells #[.bool false, (.slice none 0 0)] 24)
  replace hq := hq.alloc (.cells #[.bool false, (.slice none 0 0)] 24)
  replace hb := hb.alloc hb.size (.cells #[.bool false, (.slice none 0 0)] 24)
  have hz2 := Bk.new (((w.alloc (.cells #[.bool na, (.slice oa xs.length ca)] 24)).alloc (.cells #[.bool nb, (.slice ob ys.length cb)] 24)).alloc (.cells #[.bool false, (.slice none 0 0)] 24)) false (.slice none 0 0)
  simp only [Bk.size_alloc] at hz2
  replace ha := ha.alloc (.cells #[.bool false, (.slice none 0 0)] 24)
  replace hb' := hb'.alloc (.cells #[.bool false, (.slice none 0 0)] 24)
  replace hp := hp.alloc (.cells #[.bool false, (.slice none 0 0)] 24)
  replace hq := hq.alloc (.cells #[.bool false, (.slice none 0 0)] 24)
  replace hz1 := hz1.alloc (.cells #[.bool false, (.slice none 0 0)] 24)
  replace hb := hb.alloc hb.size (.cells #[.bool false, (.slice none 0 0)] 24)
  replace ha := ha.drew
  replace hb' := hb'.drew
  replace hp := hp.drew
  replace hq := hq.drew
  replace hz1 := hz1.drew
  replace hz2 := hz2.drew
  replace hb := hb.drew
  have lt_hp := hp.lt
  have lt_hq := hq.lt
  have lt_hz1 := hz1.lt
  have lt_hz2 := hz2.lt
  have kb0 := hb.size
  go_wp2_with fail
  refine wp_region_fl [(0, false), (2, false), (4, false), (1, true), (3, true), (5, true), (6, true), (7, false), (8, false), (9, false)] [12, 13] [10, 11] (fun _ => obZ) [0, 99, 1, 99, 1, 99, 99, 99, 99, 99, 99, 99, 99, 99] [] (fun w' => w'.cell? ⟨w.heap.size, 0, none⟩ = some (.bool na) ∧ w'.cell? ⟨w.heap.size, 1, none⟩ = some (.slice oa xs.length ca) ∧ w'.cell? ⟨w.heap.size + 1, 0, none⟩ = some (.bool nb) ∧ w'.cell? ⟨w.heap.size + 1, 1, none⟩ = some (.slice ob ys.length cb)) [fun w' => w'.cell? ⟨w.heap.size, 0, none⟩ = some (.bool na) ∧ w'.cell? ⟨w.heap.size, 1, none⟩ = some (.slice oa xs.length ca), fun w' => w'.cell? ⟨w.heap.size + 1, 0, none⟩ = some (.bool nb) ∧ w'.cell? ⟨w.heap.size + 1, 1, none⟩ = some (.slice ob ys.length cb)] (by kernel_rfl) (by kernel_rfl) (by kernel_rfl) (by kernel_rfl) (by kernel_rfl) (by kernel_rfl) (by kernel_rfl) (by kernel_rfl) (by decide) (by intro j hj; simp only [List.mem_cons, List.not_mem_nil, or_false] at hj; rcases hj with rfl | rfl; all_goals exact ⟨_, rfl, rfl, fun ρ w => run_alloc_z w⟩) (by intro w' o hC; obtain ⟨c0, c1, c2, c3⟩ := hC; exact ⟨cell_alloc c0 o, cell_alloc c1 o, cell_alloc c2 o, cell_alloc c3 o⟩) (by intro w' hC G hG; obtain ⟨c0, c1, c2, c3⟩ := hC; simp only [List.mem_cons, List.not_mem_nil, or_false] at hG; rcases hG with rfl | rfl <;> first | exact ⟨c0, c1⟩ | exact ⟨c2, c3⟩) ⟨hp.facts.1, hp.facts.2.1, hq.facts.1, hq.facts.2.1⟩ ?_
  apply wpFl_ld
  case hG => rfl
  case hi => rfl
  case h1 => intro w' hC K hK; obtain ⟨c0, c1⟩ := hC; (first | go_big_move | go_big_op); exact hK
  case hw => kernel_rfl
  case hv => kernel_rfl
  case hb => kernel_rfl
  case hp => kernel_rfl
  apply wpFl_ld
  case hG => rfl
  case hi => rfl
  case h1 => intro w' hC K hK; obtain ⟨c0, c1⟩ := hC; (first | go_big_move | go_big_op); exact hK
  case hw => kernel_rfl
  case hv => kernel_rfl
  case hb => kernel_rfl
  case hp => kernel_rfl
  apply wpFl_ld
  case hG => rfl
  case hi => rfl
  case h1 => intro w' hC K hK; obtain ⟨c0, c1⟩ := hC; (first | go_big_move | go_big_op); exact hK
  case hw => kernel_rfl
  case hv => kernel_rfl
  case hb => kernel_rfl
  case hp => kernel_rfl
  apply wpFl_call
  case hi => rfl
  case hw => kernel_rfl
  case h =>
  intro w_1 hn hC
  clear hC
  replace ha := ha.below hn (Nat.le_refl _)
  replace hb' := hb'.below hn (Nat.le_refl _)
  replace hp := hp.below hn (Nat.le_refl _)
  replace hq := hq.below hn (Nat.le_refl _)
  replace hz1 := hz1.below hn (Nat.le_refl _)
  replace hz2 := hz2.below hn (Nat.le_refl _)
  replace hb := tm hb hn
  clear hn
  intro K hK
  have kb_2 := hb.size
  go_big_op
  go_fit (twice_any ha (by omega))
  rintro e w_2 ⟨v1, rfl, g1, hb_2⟩
  replace ha := ha.below hb_2 (Nat.le_refl _)
  replace hb' := hb'.below hb_2 (Nat.le_refl _)
  replace hp := hp.below hb_2 (Nat.le_refl _)
  replace hq := hq.below hb_2 (Nat.le_refl _)
  replace hz1 := hz1.below hb_2 (Nat.le_refl _)
  replace hz2 := hz2.below hb_2 (Nat.le_refl _)
  replace hb := tm hb hb_2
  refine hK _ _ rfl hb_2 ⟨hp.facts.1, hp.facts.2.1, hq.facts.1, hq.facts.2.1⟩ ?_
  clear hK K hb_2
  apply wpFl_call
  case hi => rfl
  case hw => kernel_rfl
  case h =>
  intro w_3 hn hC
  clear hC
  replace ha := ha.below hn (Nat.le_refl _)
  replace hb' := hb'.below hn (Nat.le_refl _)
  replace hp := hp.below hn (Nat.le_refl _)
  replace hq := hq.below hn (Nat.le_refl _)
  replace hz1 := hz1.below hn (Nat.le_refl _)
  replace hz2 := hz2.below hn (Nat.le_refl _)
  replace g1 := g1.below hn (Nat.le_refl _)
  replace hb := tm hb hn
  clear hn
  intro K hK
  have kb_4 := hb.size
  go_big_op
  go_fit (rzadd_any (g1.zn LX2.out) hb' (by omega) (by omega))
  rintro e w_4 ⟨v2, rfl, g2, hb_4⟩
  replace ha := ha.below hb_4 (Nat.le_refl _)
  replace hb' := hb'.below hb_4 (Nat.le_refl _)
  replace hp := hp.below hb_4 (Nat.le_refl _)
  replace hq := hq.below hb_4 (Nat.le_refl _)
  replace hz1 := hz1.below hb_4 (Nat.le_refl _)
  replace hz2 := hz2.below hb_4 (Nat.le_refl _)
  replace g1 := g1.below hb_4 (Nat.le_refl _)
  replace hb := tm hb hb_4
  refine hK _ _ rfl hb_4 ⟨hp.facts.1, hp.facts.2.1, hq.facts.1, hq.facts.2.1⟩ ?_
  clear hK K hb_4
  replace g2 := g2.rd
  clear g1
  apply wpFl_call
  case hi => rfl
  case hw => kernel_rfl
  case h =>
  intro w_5 hn hC
  clear hC
  replace ha := ha.below hn (Nat.le_refl _)
  replace hb' := hb'.below hn (Nat.le_refl _)
  replace hp := hp.below hn (Nat.le_refl _)
  replace hq := hq.below hn (Nat.le_refl _)
  replace hz1 := hz1.below hn (Nat.le_refl _)
  replace hz2 := hz2.below hn (Nat.le_refl _)
  replace g2 := g2.below hn (Nat.le_refl _)
  replace hb := tm hb hn
  clear hn
  intro K hK
  have kb_6 := hb.size
  go_big_op
  go_fit (twice_any hb' (by omega))
  rintro e w_6 ⟨v3, rfl, g3, hb_6⟩
  replace ha := ha.below hb_6 (Nat.le_refl _)
  replace hb' := hb'.below hb_6 (Nat.le_refl _)
  replace hp := hp.below hb_6 (Nat.le_refl _)
  replace hq := hq.below hb_6 (Nat.le_refl _)
  replace hz1 := hz1.below hb_6 (Nat.le_refl _)
  replace hz2 := hz2.below hb_6 (Nat.le_refl _)
  replace g2 := g2.below hb_6 (Nat.le_refl _)
  replace hb := tm hb hb_6
  refine hK _ _ rfl hb_6 ⟨hp.facts.1, hp.facts.2.1, hq.facts.1, hq.facts.2.1⟩ ?_
  clear hK K hb_6
  apply wpFl_call
  case hi => rfl
  case hw => kernel_rfl
  case h =>
  intro w_7 hn hC
  clear hC
  replace ha := ha.below hn (Nat.le_refl _)
  replace hb' := hb'.below hn (Nat.le_refl _)
  replace hp := hp.below hn (Nat.le_refl _)
  replace hq := hq.below hn (Nat.le_refl _)
  replace hz1 := hz1.below hn (Nat.le_refl _)
  replace hz2 := hz2.below hn (Nat.le_refl _)
  replace g2 := g2.below hn (Nat.le_refl _)
  replace g3 := g3.below hn (Nat.le_refl _)
  replace hb := tm hb hn
  clear hn
  intro K hK
  have kb_8 := hb.size
  go_big_op
  go_fit (rfloor_any (g2.zn LS.out) (g3.zn LY.out) (by omega) (by omega) H0.out)
  rintro e w_8 ⟨v4, v5, rfl, g4, g5, hb_8⟩
  replace ha := ha.below hb_8 (Nat.le_refl _)
  replace hb' := hb'.below hb_8 (Nat.le_refl _)
  replace hp := hp.below hb_8 (Nat.le_refl _)
  replace hq := hq.below hb_8 (Nat.le_refl _)
  replace hz1 := hz1.below hb_8 (Nat.le_refl _)
  replace hz2 := hz2.below hb_8 (Nat.le_refl _)
  replace g2 := g2.below hb_8 (Nat.le_refl _)
  replace g3 := g3.below hb_8 (Nat.le_refl _)
  replace hb := tm hb hb_8
  refine hK _ _ rfl hb_8 ⟨hp.facts.1, hp.facts.2.1, hq.facts.1, hq.facts.2.1⟩ ?_
  clear hK K hb_8
  rw [EN.out] at g4
  clear g2
  clear g3
  apply wpFl_ld
  case hG => rfl
  case hi => rfl
  case h1 => intro w' hC K hK; clear hC; (first | go_big_move | go_big_op); exact hK
  case hw => kernel_rfl
  case hv => kernel_rfl
  case hb => kernel_rfl
  case hp => kernel_rfl
  apply wpFl_ld
  case hG => rfl
  case hi => rfl
  case h1 => intro w' hC K hK; clear hC; (first | go_big_move | go_big_op); exact hK
  case hw => kernel_rfl
  case hv => kernel_rfl
  case hb => kernel_rfl
  case hp => kernel_rfl
  apply wpFl_ld
  case hG => rfl
  case hi => rfl
  case h1 => intro w' hC K hK; clear hC; (first | go_big_move | go_big_op); exact hK
  case hw => kernel_rfl
  case hv => kernel_rfl
  case hb => kernel_rfl
  case hp => kernel_rfl
  apply wpFl_end
  case ha => intro pt; simp only [putF, nthO, Act.put, ptr, List.setIfInBounds_toArray, List.set_cons_succ, List.set_cons_zero]; rfl
  case h =>
  intro w_9 pt hn hC hF hD
  clear hC
  replace ha := ha.below hn (Nat.le_refl _)
  replace hb' := hb'.below hn (Nat.le_refl _)
  replace hp := hp.below hn (Nat.le_refl _)
  replace hq := hq.below hn (Nat.le_refl _)
  replace hz1 := hz1.below hn (Nat.le_refl _)
  replace hz2 := hz2.below hn (Nat.le_refl _)
  replace g4 := g4.below hn (Nat.le_refl _)
  replace g5 := g5.below hn (Nat.le_refl _)
  replace hb := tm hb hn
  clear hn
  obtain ⟨kB_hz3, hz3⟩ := hF 10 (by decide)
  replace hz3 := obZ_bk hz3
  obtain ⟨kB_hz4, hz4⟩ := hF 11 (by decide)
  replace hz4 := obZ_bk hz4
  have ne_hz3_hz4 := hD 10 (by decide) 11 (by decide) (by decide)
  clear hF hD
  generalize pt 10 = p_hz3 at *
  generalize pt 11 = p_hz4 at *
  clear pt
  have kb_hz3 := Nat.le_trans kb0 kB_hz3
  have ne_hp_hz3 : w.heap.size ≠ p_hz3 := Nat.ne_of_lt (Nat.lt_of_lt_of_le lt_hp kB_hz3)
  have ne_hq_hz3 : w.heap.size + 1 ≠ p_hz3 := Nat.ne_of_lt (Nat.lt_of_lt_of_le lt_hq kB_hz3)
  have ne_hz1_hz3 : w.heap.size + 1 + 1 ≠ p_hz3 := Nat.ne_of_lt (Nat.lt_of_lt_of_le lt_hz1 kB_hz3)
  have ne_hz2_hz3 : w.heap.size + 1 + 1 + 1 ≠ p_hz3 := Nat.ne_of_lt (Nat.lt_of_lt_of_le lt_hz2 kB_hz3)
  clear kB_hz3
  have kb_hz4 := Nat.le_trans kb0 kB_hz4
  have ne_hp_hz4 : w.heap.size ≠ p_hz4 := Nat.ne_of_lt (Nat.lt_of_lt_of_le lt_hp kB_hz4)
  have ne_hq_hz4 : w.heap.size + 1 ≠ p_hz4 := Nat.ne_of_lt (Nat.lt_of_lt_of_le lt_hq kB_hz4)
  have ne_hz1_hz4 : w.heap.size + 1 + 1 ≠ p_hz4 := Nat.ne_of_lt (Nat.lt_of_lt_of_le lt_hz1 kB_hz4)
  have ne_hz2_hz4 : w.heap.size + 1 + 1 + 1 ≠ p_hz4 := Nat.ne_of_lt (Nat.lt_of_lt_of_le lt_hz2 kB_hz4)
  clear kB_hz4
  clear lt_hp
  clear lt_hq
  clear lt_hz1
  clear lt_hz2
  clear kb0
  obtain ⟨sb_hz3, o_hz3, n_hz3, c_hz3, rfl⟩ := g4.open2
  apply wpTail_call
  case hi => rfl
  case hw => kernel_rfl
  case h =>
  intro K hK
  have c9_ := hz3.facts
  go_big_op
  have ho := Bk.only w_9 (p_hz3) sb_hz3 (.slice o_hz3 n_hz3 c_hz3)
  have hbx_ := hz3.bx
  replace ha := ha.frame hbx_ ho
  replace hb' := hb'.frame hbx_ ho
  replace hp := hp.frame ho (by first | assumption | (apply Ne.symm; assumption) | (simp; done) | omega)
  replace hq := hq.frame ho (by first | assumption | (apply Ne.symm; assumption) | (simp; done) | omega)
  replace hz1 := hz1.frame ho (by first | assumption | (apply Ne.symm; assumption) | (simp; done) | omega)
  replace hz2 := hz2.frame ho (by first | assumption | (apply Ne.symm; assumption) | (simp; done) | omega)
  replace g4 := g4.frame hbx_ ho
  replace g5 := g5.frame hbx_ ho
  replace hz4 := hz4.frame ho (by first | assumption | (apply Ne.symm; assumption) | (simp; done) | omega)
  replace hz3 := hz3.store sb_hz3 (.slice o_hz3 n_hz3 c_hz3)
  replace hb := (hb.setCell (p := ⟨p_hz3, 0, none⟩) (show w.heap.size ≤ p_hz3 by first | assumption | (simp; done) | omega) (.bool sb_hz3)).setCell (p := ⟨p_hz3, 1, none⟩) (show w.heap.size ≤ p_hz3 by first | assumption | (simp; done) | omega) (.slice o_hz3 n_hz3 c_hz3)
  refine hK _ _ rfl (And.intro (And.intro hp.facts.1 hp.facts.2.1) (And.intro (And.intro hq.facts.1 hq.facts.2.1) True.intro)) ?_
  clear hK K hbx_ ho c9_
  obtain ⟨sb_hz4, o_hz4, n_hz4, c_hz4, rfl⟩ := g5.open2
  apply wpTail_call
  case hi => rfl
  case hw => kernel_rfl
  case h =>
  intro K hK
  have c9_ := hz4.facts
  go_big_op
  have ho := Bk.only ((w_9.setCell ⟨p_hz3, 0, none⟩ (.bool sb_hz3)).setCell ⟨p_hz3, 1, none⟩ (.slice o_hz3 n_hz3 c_hz3)) (p_hz4) sb_hz4 (.slice o_hz4 n_hz4 c_hz4)
  have hbx_ := hz4.bx
  replace ha := ha.frame hbx_ ho
  replace hb' := hb'.frame hbx_ ho
  replace hp := hp.frame ho (by first | assumption | (apply Ne.symm; assumption) | (simp; done) | omega)
  replace hq := hq.frame ho (by first | assumption | (apply Ne.symm; assumption) | (simp; done) | omega)
  replace hz1 := hz1.frame ho (by first | assumption | (apply Ne.symm; assumption) | (simp; done) | omega)
  replace hz2 := hz2.frame ho (by first | assumption | (apply Ne.symm; assumption) | (simp; done) | omega)
  replace g4 := g4.frame hbx_ ho
  replace g5 := g5.frame hbx_ ho
  replace hz3 := hz3.frame ho (by first | assumption | (apply Ne.symm; assumption) | (simp; done) | omega)
  replace hz4 := hz4.store sb_hz4 (.slice o_hz4 n_hz4 c_hz4)
  replace hb := (hb.setCell (p := ⟨p_hz4, 0, none⟩) (show w.heap.size ≤ p_hz4 by first | assumption | (simp; done) | omega) (.bool sb_hz4)).setCell (p := ⟨p_hz4, 1, none⟩) (show w.heap.size ≤ p_hz4 by first | assumption | (simp; done) | omega) (.slice o_hz4 n_hz4 c_hz4)
  refine hK _ _ rfl (And.intro (And.intro hp.facts.1 hp.facts.2.1) (And.intro (And.intro hq.facts.1 hq.facts.2.1) True.intro)) ?_
  clear hK K hbx_ ho c9_
  apply wpTail_end
  replace ha := ha.drew
  replace hb' := hb'.drew
  replace hp := hp.drew
  replace hq := hq.drew
  replace hz1 := hz1.drew
  replace hz2 := hz2.drew
  replace g4 := g4.drew
  replace g5 := g5.drew
  replace hz3 := hz3.drew
  replace hz4 := hz4.drew
  replace hb := hb.drew
  have lt_hp := hp.lt
  have lt_hq := hq.lt
  have lt_hz1 := hz1.lt
  have lt_hz2 := hz2.lt
  have lt_hz3 := hz3.lt
  have lt_hz4 := hz4.lt
  have kb0 := hb.size
  go_wp2_with fail
  refine wp_region_fl [(0, false), (1, false), (2, false), (3, false), (4, true), (5, true)] [6, 7] [] (fun _ => obZ) [2, 0, 2, 1, 99, 99, 99, 99] [] (fun w' => w'.cell? ⟨w.heap.size, 0, none⟩ = some (.bool na) ∧ w'.cell? ⟨w.heap.size, 1, none⟩ = some (.slice oa xs.length ca) ∧ w'.cell? ⟨w.heap.size + 1, 0, none⟩ = some (.bool nb) ∧ w'.cell? ⟨w.heap.size + 1, 1, none⟩ = some (.slice ob ys.length cb) ∧ w'.cell? ⟨p_hz3, 0, none⟩ = some (.bool sb_hz3) ∧ w'.cell? ⟨p_hz3, 1, none⟩ = some (.slice o_hz3 n_hz3 c_hz3)) [fun w' => w'.cell? ⟨w.heap.size, 0, none⟩ = some (.bool na) ∧ w'.cell? ⟨w.heap.size, 1, none⟩ = some (.slice oa xs.length ca), fun w' => w'.cell? ⟨w.heap.size + 1, 0, none⟩ = some (.bool nb) ∧ w'.cell? ⟨w.heap.size + 1, 1, none⟩ = some (.slice ob ys.length cb), fun w' => w'.cell? ⟨p_hz3, 0, none⟩ = some (.bool sb_hz3) ∧ w'.cell? ⟨p_hz3, 1, none⟩ = some (.slice o_hz3 n_hz3 c_hz3)] (by kernel_rfl) (by kernel_rfl) (by kernel_rfl) (by kernel_rfl) (by kernel_rfl) (by kernel_rfl) (by kernel_rfl) (by kernel_rfl) (by decide) (by intro j hj; cases hj) (by intro w' o hC; obtain ⟨c0, c1, c2, c3, c4, c5⟩ := hC; exact ⟨cell_alloc c0 o, cell_alloc c1 o, cell_alloc c2 o, cell_alloc c3 o, cell_alloc c4 o, cell_alloc c5 o⟩) (by intro w' hC G hG; obtain ⟨c0, c1, c2, c3, c4, c5⟩ := hC; simp only [List.mem_cons, List.not_mem_nil, or_false] at hG; rcases hG with rfl | rfl | rfl <;> first | exact ⟨c0, c1⟩ | exact ⟨c2, c3⟩ | exact ⟨c4, c5⟩) ⟨hp.facts.1, hp.facts.2.1, hq.facts.1, hq.facts.2.1, hz3.facts.1, hz3.facts.2.1⟩ ?_
  apply wpFl_ld
  case hG => rfl
  case hi => rfl
  case h1 => intro w' hC K hK; obtain ⟨c0, c1⟩ := hC; (first | go_big_move | go_big_op); exact hK
  case hw => kernel_rfl
  case hv => kernel_rfl
  case hb => kernel_rfl
  case hp => kernel_rfl
  apply wpFl_ld
  case hG => rfl
  case hi => rfl
  case h1 => intro w' hC K hK; obtain ⟨c0, c1⟩ := hC; (first | go_big_move | go_big_op); exact hK
  case hw => kernel_rfl
  case hv => kernel_rfl
  case hb => kernel_rfl
  case hp => kernel_rfl
  apply wpFl_ld
  case hG => rfl
  case hi => rfl
  case h1 => intro w' hC K hK; obtain ⟨c0, c1⟩ := hC; (first | go_big_move | go_big_op); exact hK
  case hw => kernel_rfl
  case hv => kernel_rfl
  case hb => kernel_rfl
  case hp => kernel_rfl
  apply wpFl_ld
  case hG => rfl
  case hi => rfl
  case h1 => intro w' hC K hK; obtain ⟨c0, c1⟩ := hC; (first | go_big_move | go_big_op); exact hK
  case hw => kernel_rfl
  case hv => kernel_rfl
  case hb => kernel_rfl
  case hp => kernel_rfl
  apply wpFl_call
  case hi => rfl
  case hw => kernel_rfl
  case h =>
  intro w_10 hn hC
  clear hC
  replace ha := ha.below hn (Nat.le_refl _)
  replace hb' := hb'.below hn (Nat.le_refl _)
  replace hp := hp.below hn (Nat.le_refl _)
  replace hq := hq.below hn (Nat.le_refl _)
  replace hz1 := hz1.below hn (Nat.le_refl _)
  replace hz2 := hz2.below hn (Nat.le_refl _)
  replace g4 := g4.below hn (Nat.le_refl _)
  replace g5 := g5.below hn (Nat.le_refl _)
  replace hz3 := hz3.below hn (Nat.le_refl _)
  replace hz4 := hz4.below hn (Nat.le_refl _)
  replace hb := tm hb hn
  clear hn
  intro K hK
  have kb_11 := hb.size
  go_big_op
  go_fit (rzmul_any (g4.zn LN.out) hb' (by omega) (by omega))
  rintro e w_11 ⟨v6, rfl, g6, hb_11⟩
  replace ha := ha.below hb_11 (Nat.le_refl _)
  replace hb' := hb'.below hb_11 (Nat.le_refl _)
  replace hp := hp.below hb_11 (Nat.le_refl _)
  replace hq := hq.below hb_11 (Nat.le_refl _)
  replace hz1 := hz1.below hb_11 (Nat.le_refl _)
  replace hz2 := hz2.below hb_11 (Nat.le_refl _)
  replace g4 := g4.below hb_11 (Nat.le_refl _)
  replace g5 := g5.below hb_11 (Nat.le_refl _)
  replace hz3 := hz3.below hb_11 (Nat.le_refl _)
  replace hz4 := hz4.below hb_11 (Nat.le_refl _)
  replace hb := tm hb hb_11
  refine hK _ _ rfl hb_11 ⟨hp.facts.1, hp.facts.2.1, hq.facts.1, hq.facts.2.1, hz3.facts.1, hz3.facts.2.1⟩ ?_
  clear hK K hb_11
  replace g6 := g6.rd
  apply wpFl_call
  case hi => rfl
  case hw => kernel_rfl
  case h =>
  intro w_12 hn hC
  clear hC
  replace ha := ha.below hn (Nat.le_refl _)
  replace hb' := hb'.below hn (Nat.le_refl _)
  replace hp := hp.below hn (Nat.le_refl _)
  replace hq := hq.below hn (Nat.le_refl _)
  replace hz1 := hz1.below hn (Nat.le_refl _)
  replace hz2 := hz2.below hn (Nat.le_refl _)
  replace g4 := g4.below hn (Nat.le_refl _)
  replace g5 := g5.below hn (Nat.le_refl _)
  replace hz3 := hz3.below hn (Nat.le_refl _)
  replace hz4 := hz4.below hn (Nat.le_refl _)
  replace g6 := g6.below hn (Nat.le_refl _)
  replace hb := tm hb hn
  clear hn
  intro K hK
  have kb_13 := hb.size
  go_big_op
  go_fit (rzsub_any ha (g6.zn LM.out) (by omega) (by omega))
  rintro e w_13 ⟨v7, rfl, g7, hb_13⟩
  replace ha := ha.below hb_13 (Nat.le_refl _)
  replace hb' := hb'.below hb_13 (Nat.le_refl _)
  replace hp := hp.below hb_13 (Nat.le_refl _)
  replace hq := hq.below hb_13 (Nat.le_refl _)
  replace hz1 := hz1.below hb_13 (Nat.le_refl _)
  replace hz2 := hz2.below hb_13 (Nat.le_refl _)
  replace g4 := g4.below hb_13 (Nat.le_refl _)
  replace g5 := g5.below hb_13 (Nat.le_refl _)
  replace hz3 := hz3.below hb_13 (Nat.le_refl _)
  replace hz4 := hz4.below hb_13 (Nat.le_refl _)
  replace g6 := g6.below hb_13 (Nat.le_refl _)
  replace hb := tm hb hb_13
  refine hK _ _ rfl hb_13 ⟨hp.facts.1, hp.facts.2.1, hq.facts.1, hq.facts.2.1, hz3.facts.1, hz3.facts.2.1⟩ ?_
  clear hK K hb_13
  replace g7 := g7.rd
  apply wpFl_end
  case ha => intro pt; simp only [putF]; rfl
  case h =>
  intro w_14 pt hn hC hF hD
  clear hC
  replace ha := ha.below hn (Nat.le_refl _)
  replace hb' := hb'.below hn (Nat.le_refl _)
  replace hp := hp.below hn (Nat.le_refl _)
  replace hq := hq.below hn (Nat.le_refl _)
  replace hz1 := hz1.below hn (Nat.le_refl _)
  replace hz2 := hz2.below hn (Nat.le_refl _)
  replace g4 := g4.below hn (Nat.le_refl _)
  replace g5 := g5.below hn (Nat.le_refl _)
  replace hz3 := hz3.below hn (Nat.le_refl _)
  replace hz4 := hz4.below hn (Nat.le_refl _)
  replace g6 := g6.below hn (Nat.le_refl _)
  replace g7 := g7.below hn (Nat.le_refl _)
  replace hb := tm hb hn
  clear hn
  clear hF hD
  clear lt_hp
  clear lt_hq
  clear lt_hz1
  clear lt_hz2
  clear lt_hz3
  clear lt_hz4
  clear kb0
  apply wpTail_call
  case hi => rfl
  case hw => kernel_rfl
  case h =>
  intro K hK
  have c9_ := hz1.facts
  go_big_op
  have ho := Bk.only w_14 (w.heap.size + 1 + 1) sb_hz3 (.slice o_hz3 n_hz3 c_hz3)
  have hbx_ := hz1.bx
  replace ha := ha.frame hbx_ ho
  replace hb' := hb'.frame hbx_ ho
  replace hp := hp.frame ho (by first | assumption | (apply Ne.symm; assumption) | (simp; done) | omega)
  replace hq := hq.frame ho (by first | assumption | (apply Ne.symm; assumption) | (simp; done) | omega)
  replace hz2 := hz2.frame ho (by first | assumption | (apply Ne.symm; assumption) | (simp; done) | omega)
  replace g4 := g4.frame hbx_ ho
  replace g5 := g5.frame hbx_ ho
  replace hz3 := hz3.frame ho (by first | assumption | (apply Ne.symm; assumption) | (simp; done) | omega)
  replace hz4 := hz4.frame ho (by first | assumption | (apply Ne.symm; assumption) | (simp; done) | omega)
  replace g6 := g6.frame hbx_ ho
  replace g7 := g7.frame hbx_ ho
  replace hz1 := hz1.store sb_hz3 (.slice o_hz3 n_hz3 c_hz3)
  replace hb := (hb.setCell (p := ⟨w.heap.size + 1 + 1, 0, none⟩) (show w.heap.size ≤ w.heap.size + 1 + 1 by first | assumption | (simp; done) | omega) (.bool sb_hz3)).setCell (p := ⟨w.heap.size + 1 + 1, 1, none⟩) (show w.heap.size ≤ w.heap.size + 1 + 1 by first | assumption | (simp; done) | omega) (.slice o_hz3 n_hz3 c_hz3)
  refine hK _ _ rfl (And.intro (And.intro hp.facts.1 hp.facts.2.1) (And.intro (And.intro hq.facts.1 hq.facts.2.1) (And.intro (And.intro hz3.facts.1 hz3.facts.2.1) True.intro))) ?_
  clear hK K hbx_ ho c9_
  obtain ⟨sb_hz2, o_hz2, n_hz2, c_hz2, rfl⟩ := g7.open2
  apply wpTail_call
  case hi => rfl
  case hw => kernel_rfl
  case h =>
  intro K hK
  have c9_ := hz2.facts
  go_big_op
  have ho := Bk.only ((w_14.setCell ⟨w.heap.size + 1 + 1, 0, none⟩ (.bool sb_hz3)).setCell ⟨w.heap.size + 1 + 1, 1, none⟩ (.slice o_hz3 n_hz3 c_hz3)) (w.heap.size + 1 + 1 + 1) sb_hz2 (.slice o_hz2 n_hz2 c_hz2)
  have hbx_ := hz2.bx
  replace ha := ha.frame hbx_ ho
  replace hb' := hb'.frame hbx_ ho
  replace hp := hp.frame ho (by first | assumption | (apply Ne.symm; assumption) | (simp; done) | omega)
  replace hq := hq.frame ho (by first | assumption | (apply Ne.symm; assumption) | (simp; done) | omega)
  replace hz1 := hz1.frame ho (by first | assumption | (apply Ne.symm; assumption) | (simp; done) | omega)
  replace g4 := g4.frame hbx_ ho
  replace g5 := g5.frame hbx_ ho
  replace hz3 := hz3.frame ho (by first | assumption | (apply Ne.symm; assumption) | (simp; done) | omega)
  replace hz4 := hz4.frame ho (by first | assumption | (apply Ne.symm; assumption) | (simp; done) | omega)
  replace g6 := g6.frame hbx_ ho
  replace g7 := g7.frame hbx_ ho
  replace hz2 := hz2.store sb_hz2 (.slice o_hz2 n_hz2 c_hz2)
  replace hb := (hb.setCell (p := ⟨w.heap.size + 1 + 1 + 1, 0, none⟩) (show w.heap.size ≤ w.heap.size + 1 + 1 + 1 by first | assumption | (simp; done) | omega) (.bool sb_hz2)).setCell (p := ⟨w.heap.size + 1 + 1 + 1, 1, none⟩) (show w.heap.size ≤ w.heap.size + 1 + 1 + 1 by first | assumption | (simp; done) | omega) (.slice o_hz2 n_hz2 c_hz2)
  refine hK _ _ rfl (And.intro (And.intro hp.facts.1 hp.facts.2.1) (And.intro (And.intro hq.facts.1 hq.facts.2.1) (And.intro (And.intro hz3.facts.1 hz3.facts.2.1) True.intro))) ?_
  clear hK K hbx_ ho c9_
  apply wpTail_end
  have f1 := hz1.facts
  have f2 := hz2.facts
  go_wp2
  refine bodyPost_ret (v := .tuple #[.agg #[.bool sb_hz3, .slice o_hz3 n_hz3 c_hz3], .agg #[.bool sb_hz2, .slice o_hz2 n_hz2 c_hz2]]) (by simp [results, Tryz.results124, go_sem, f1.1, f1.2.1, f2.1, f2.2.1]) rfl ?_
  exact ⟨_, _, rfl, g4, g7, hb⟩
end Go.Proofs.YtbiiglcfdphmaaaGreat
