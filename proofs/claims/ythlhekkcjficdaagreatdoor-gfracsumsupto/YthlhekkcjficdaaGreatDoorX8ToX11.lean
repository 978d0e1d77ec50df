/- gfrac's reference: Mul, Conj, Norm, Quo, Null. -/
import Derived.Test.YthlhekkcjficdaaGreatDoorX6ToX7

namespace Go.Proofs.YthlhekkcjficdaaGreatDoor
open Go Go.RowKit Dig
set_option linter.unusedVariables false
section
variable {x y u v p q s t : Int} {l m k n l2 m2 k2 n2 : Nat}
theorem r7s_len (hy : y ≠ 0) (hv : v ≠ 0) (hq : q ≠ 0) (ht : t ≠ 0) (h1 : (dig x.natAbs).length ≤ l) (h2 : (dig y.natAbs).length ≤ m) (h3 : (dig u.natAbs).length ≤ k) (h4 : (dig v.natAbs).length ≤ n) (h5 : (dig p.natAbs).length ≤ l2) (h6 : (dig q.natAbs).length ≤ m2) (h7 : (dig s.natAbs).length ≤ k2) (h8 : (dig t.natAbs).length ≤ n2) :
    ((dig (rv x y + rv p q).num.natAbs).length ≤ (l + m2) + (l2 + m) + 1 ∧ (dig ((rv x y + rv p q).den : Int).natAbs).length ≤ m + m2 ∧ (dig (rv u v + rv s t).num.natAbs).length ≤ (k + n2) + (k2 + n) + 1 ∧ (dig ((rv u v + rv s t).den : Int).natAbs).length ≤ n + n2) ∧
    ((dig (rv x y - rv p q).num.natAbs).length ≤ (l + m2) + (l2 + m) + 1 ∧ (dig ((rv x y - rv p q).den : Int).natAbs).length ≤ m + m2 ∧ (dig (rv u v - rv s t).num.natAbs).length ≤ (k + n2) + (k2 + n) + 1 ∧ (dig ((rv u v - rv s t).den : Int).natAbs).length ≤ n + n2) := by
  have a1 := r_len (Int.mul_ne_zero hy hq) (rv_opAdd (x := x) (u := p) hy hq) (zlen_opAdd (zlen_mul h1 h6) (zlen_mul h5 h2)) (zlen_mul h2 h6)
  have a2 := r_len (Int.mul_ne_zero hv ht) (rv_opAdd (x := u) (u := s) hv ht) (zlen_opAdd (zlen_mul h3 h8) (zlen_mul h7 h4)) (zlen_mul h4 h8)
  have a3 := r_len (Int.mul_ne_zero hy hq) (rv_opSub (x := x) (u := p) hy hq) (zlen_opSub (zlen_mul h1 h6) (zlen_mul h5 h2)) (zlen_mul h2 h6)
  have a4 := r_len (Int.mul_ne_zero hv ht) (rv_opSub (x := u) (u := s) hv ht) (zlen_opSub (zlen_mul h3 h8) (zlen_mul h7 h4)) (zlen_mul h4 h8)
  exact ⟨⟨a1.1, a1.2, a2.1, a2.2⟩, a3.1, a3.2, a4.1, a4.2⟩
theorem r7m_len (hy : y ≠ 0) (hv : v ≠ 0) (hq : q ≠ 0) (ht : t ≠ 0) (h1 : (dig x.natAbs).length ≤ l) (h2 : (dig y.natAbs).length ≤ m) (h3 : (dig u.natAbs).length ≤ k) (h4 : (dig v.natAbs).length ≤ n) (h5 : (dig p.natAbs).length ≤ l2) (h6 : (dig q.natAbs).length ≤ m2) (h7 : (dig s.natAbs).length ≤ k2) (h8 : (dig t.natAbs).length ≤ n2) :
    (dig (rv x y * rv p q - rv u v * rv s t).num.natAbs).length ≤ ((l + l2) + (n + n2)) + ((k + k2) + (m + m2)) + 1 ∧ (dig ((rv x y * rv p q - rv u v * rv s t).den : Int).natAbs).length ≤ (m + m2) + (n + n2) ∧ (dig (rv x y * rv s t + rv u v * rv p q).num.natAbs).length ≤ ((l + k2) + (n + m2)) + ((k + l2) + (m + n2)) + 1 ∧ (dig ((rv x y * rv s t + rv u v * rv p q).den : Int).natAbs).length ≤ (m + n2) + (n + m2) := by
  have y1 := Int.mul_ne_zero hy hq
  have y2 := Int.mul_ne_zero hv ht
  have y3 := Int.mul_ne_zero hy ht
  have y4 := Int.mul_ne_zero hv hq
  have a1 := r_len (Int.mul_ne_zero y1 y2) (rv_opSub (x := x * p) (u := u * s) y1 y2) (zlen_opSub (zlen_mul (zlen_mul h1 h5) (zlen_mul h4 h8)) (zlen_mul (zlen_mul h3 h7) (zlen_mul h2 h6))) (zlen_mul (zlen_mul h2 h6) (zlen_mul h4 h8))
  have a2 := r_len (Int.mul_ne_zero y3 y4) (rv_opAdd (x := x * s) (u := u * p) y3 y4) (zlen_opAdd (zlen_mul (zlen_mul h1 h7) (zlen_mul h4 h6)) (zlen_mul (zlen_mul h3 h5) (zlen_mul h2 h8))) (zlen_mul (zlen_mul h2 h8) (zlen_mul h4 h6))
  simp only [rv_mul] at a1 a2
  exact ⟨a1.1, a1.2, a2.1, a2.2⟩
theorem r7n_len (hy : y ≠ 0) (hv : v ≠ 0) (h1 : (dig x.natAbs).length ≤ l) (h2 : (dig y.natAbs).length ≤ m) (h3 : (dig u.natAbs).length ≤ k) (h4 : (dig v.natAbs).length ≤ n) :
    (dig (rv x y * rv x y + rv u v * rv u v).num.natAbs).length ≤ ((l + l) + (n + n)) + ((k + k) + (m + m)) + 1 ∧ (dig ((rv x y * rv x y + rv u v * rv u v).den : Int).natAbs).length ≤ (m + m) + (n + n) := by
  have y1 := Int.mul_ne_zero hy hy
  have y2 := Int.mul_ne_zero hv hv
  have a1 := r_len (Int.mul_ne_zero y1 y2) (rv_opAdd (x := x * x) (u := u * u) y1 y2) (zlen_opAdd (zlen_mul (zlen_mul h1 h1) (zlen_mul h4 h4)) (zlen_mul (zlen_mul h3 h3) (zlen_mul h2 h2))) (zlen_mul (zlen_mul h2 h2) (zlen_mul h4 h4))
  simp only [rv_mul] at a1
  exact a1
theorem norm_ne (hq : q ≠ 0) (ht : t ≠ 0) (h : ¬ (p = 0 ∧ s = 0)) : rv p q * rv p q + rv s t * rv s t ≠ 0 := by
  have e := norm_rv (X := p * t) (Y := s * q) (D := q * t) (Int.mul_ne_zero hq ht)
  rw [rv_scale hq ht, show q * t = t * q from Int.mul_comm _ _, rv_scale ht hq] at e
  rw [← e]
  intro h0
  have h1 := gN_zero.1 ((rv_nul (Int.mul_ne_zero (Int.mul_ne_zero ht hq) (Int.mul_ne_zero ht hq))).1 h0)
  exact h ⟨(Int.mul_eq_zero.1 h1.1).resolve_right ht, (Int.mul_eq_zero.1 h1.2).resolve_right hq⟩
theorem num_ne {r : Rat} (h : r ≠ 0) : r.num ≠ 0 := fun h0 => h (by rw [← rv_self r, h0]; exact (rv_nul (den_ne r)).2 rfl)
end
section
variable {w : World} {va vb : Value} {x y u v p q s t : Int} {l m k n l2 m2 k2 n2 : Nat}
set_option maxHeartbeats 4000000 in
set_option maxRecDepth 20000 in
theorem r7Mul_ok (ha : CN w va x l y m u k v n) (hq : CN w vb p l2 q m2 s k2 t n2) (hl : l ≤ 2200000) (hm : m ≤ 2200000) (hk : k ≤ 2200000) (hn : n ≤ 2200000) (hl2 : l2 ≤ 2200000) (hm2 : m2 ≤ 2200000) (hk2 : k2 ≤ 2200000) (hn2 : n2 ≤ 2200000) (hy : y ≠ 0) (hv : v ≠ 0) (hq0 : q ≠ 0) (ht : t ≠ 0) :
    Calls Tryz.prog 31 #[va, vb] w fun e w' => ∃ r, e = .returned r ∧ CC w' r (rv x y * rv p q - rv u v * rv s t).num (rv x y * rv p q - rv u v * rv s t).den (rv x y * rv s t + rv u v * rv p q).num (rv x y * rv s t + rv u v * rv p q).den ∧ Below w.heap.size w w' := by
  have HY := hide (And.intro hy hv)
  have HQ := hide (And.intro hq0 ht)
  have HD := hide den_ne
  clear hy hv hq0 ht
  obtain ⟨n_0a, o_0a, k_0a, c_0a, n_0b, o_0b, k_0b, c_0b, n_0c, o_0c, k_0c, c_0c, n_0d, o_0d, k_0d, c_0d, rfl, ha1, ha2, ha3, ha4⟩ := ha
  obtain ⟨n_1a, o_1a, k_1a, c_1a, n_1b, o_1b, k_1b, c_1b, n_1c, o_1c, k_1c, c_1c, n_1d, o_1d, k_1d, c_1d, rfl, hq1, hq2, hq3, hq4⟩ := hq
  go_enter Tryz.func31, Tryz.ntmps31
  have hs := St.nil w
  refine wp_seq_k ?_
  intro K1 hK1
  refine rg [0, 1, 2] ?_
  refine sq ?_
  refine .al hs ?_; clear hs; intro p_b1 w_1 hs n1 kb_b1
  refine sq ?_
  refine .al hs ?_; clear hs; intro p_b2 w_2 hs n2 kb_b2
  refine sq ?_
  refine .al hs ?_; clear hs; intro p_b3 w_3 hs n3 kb_b3
  apply wpSq_end
  refine hK1 _ _ ?_
  refine wp_seq_k ?_
  intro K2 hK2
  refine wp_region_f4 [(0, false), (1, false), (2, false), (3, false), (5, false), (6, false), (7, false), (8, false), (4, true), (9, true), (10, true)] [12] [11] (fun j => (.cells #[.bool false, .slice none 0 0, .bool false, .slice none 0 0] 26)) [99, 0, 99, 1, 99, 99, 0, 99, 1, 99, 99, 99, 99] [] (.c hs.g2 (.c hs.g1 .n)) (fm fn) fun w_4 n4 => ?_
  replace hs := hs.bl n4
  have hlB := hs.lt; have hkB := hs.k
  refine f0 ?_
  apply wpFl_ld rfl rfl; (case h1 => intro w' hC K hK; have c0 := Bs.cell hC 0 rfl; have c1 := Bs.cell hC 1 rfl; have c2 := Bs.cell hC 2 rfl; have c3 := Bs.cell hC 3 rfl; go_big_op; exact hK); iterate 4 kernel_rfl
  refine f0 ?_
  apply wpFl_ld rfl rfl; (case h1 => intro w' hC K hK; have c0 := Bs.cell hC 0 rfl; have c1 := Bs.cell hC 1 rfl; have c2 := Bs.cell hC 2 rfl; have c3 := Bs.cell hC 3 rfl; go_big_op; exact hK); iterate 4 kernel_rfl
  refine f0 ?_
  apply wpFl_ld rfl rfl; (case h1 => intro w' hC K hK; have c4 := Bs.cell hC 4 rfl; have c5 := Bs.cell hC 5 rfl; have c6 := Bs.cell hC 6 rfl; have c7 := Bs.cell hC 7 rfl; go_big_op; exact hK); iterate 4 kernel_rfl
  refine f0 ?_
  apply wpFl_ld rfl rfl; (case h1 => intro w' hC K hK; have c4 := Bs.cell hC 4 rfl; have c5 := Bs.cell hC 5 rfl; have c6 := Bs.cell hC 6 rfl; have c7 := Bs.cell hC 7 rfl; go_big_op; exact hK); iterate 4 kernel_rfl
  refine fl fun w_5 n5 => ?_
  replace hs := hs.bl n5
  intro K hK
  have k0_5 := ((((kb n1).b n2).b n3).b n4).b n5
  replace ha1 := ha1.k k0_5
  replace ha2 := ha2.k k0_5
  replace hq1 := hq1.k k0_5
  replace hq2 := hq2.k k0_5
  go_big_op
  go_fit (rfMul_r (PN.mk' ha1 ha2) (PN.mk' hq1 hq2) (by omega) (by omega) (by omega) (by omega) HY.out.1 HQ.out.1)
  rintro e w_6 ⟨_, rfl, ⟨n_gaa, o_gaa, k_gaa, c_gaa, n_gab, o_gab, k_gab, c_gab, rfl, ga1, ga2⟩, hb_6⟩
  replace hs := hs.bl hb_6
  have Lga1 := hide (ga1.lenOf ((r_len (Int.mul_ne_zero (HY.out.1) (HQ.out.1)) (rv_mul _ _ _ _) (zlen_mul (ha1.len) (hq1.len)) (zlen_mul (ha2.len) (hq2.len))).1))
  have Lga2 := hide (ga2.lenOf ((r_len (Int.mul_ne_zero (HY.out.1) (HQ.out.1)) (rv_mul _ _ _ _) (zlen_mul (ha1.len) (hq1.len)) (zlen_mul (ha2.len) (hq2.len))).2))
  refine hK _ _ rfl ⟨hb_6, (And.intro hs.g2 (And.intro hs.g1 trivial))⟩ ?_
  clear hK K
  refine fl fun w_7 n7 => ?_
  replace hs := hs.bl n7
  intro K hK
  have k0_7 := (k0_5.b hb_6).b n7
  replace ha3 := ha3.k k0_7
  replace ha4 := ha4.k k0_7
  replace hq3 := hq3.k k0_7
  replace hq4 := hq4.k k0_7
  go_big_op
  go_fit (rfMul_r (PN.mk' ha3 ha4) (PN.mk' hq3 hq4) (by omega) (by omega) (by omega) (by omega) HY.out.2 HQ.out.2)
  rintro e w_8 ⟨_, rfl, ⟨n_gba, o_gba, k_gba, c_gba, n_gbb, o_gbb, k_gbb, c_gbb, rfl, gb1, gb2⟩, hb_8⟩
  replace hs := hs.bl hb_8
  have Lgb1 := hide (gb1.lenOf ((r_len (Int.mul_ne_zero (HY.out.2) (HQ.out.2)) (rv_mul _ _ _ _) (zlen_mul (ha3.len) (hq3.len)) (zlen_mul (ha4.len) (hq4.len))).1))
  have Lgb2 := hide (gb2.lenOf ((r_len (Int.mul_ne_zero (HY.out.2) (HQ.out.2)) (rv_mul _ _ _ _) (zlen_mul (ha3.len) (hq3.len)) (zlen_mul (ha4.len) (hq4.len))).2))
  refine hK _ _ rfl ⟨hb_8, (And.intro hs.g2 (And.intro hs.g1 trivial))⟩ ?_
  clear hK K
  refine fl fun w_9 n9 => ?_
  replace hs := hs.bl n9
  intro K hK
  have k6_9 := ((kb n7).b hb_8).b n9
  replace ga1 := ga1.k k6_9
  replace ga2 := ga2.k k6_9
  have k8_9 := kb n9
  replace gb1 := gb1.k k8_9
  replace gb2 := gb2.k k8_9
  go_big_op
  go_fit (rfSub_r (PN.mk' (ga1.zn Lga1.out) (ga2.zn Lga2.out)) (PN.mk' (gb1.zn Lgb1.out) (gb2.zn Lgb2.out)) (by omega) (by omega) (by omega) (by omega) (HD.out _) (HD.out _))
  rintro e w_10 ⟨_, rfl, ⟨n_gca, o_gca, k_gca, c_gca, n_gcb, o_gcb, k_gcb, c_gcb, rfl, gc1, gc2⟩, hb_10⟩
  replace hs := hs.bl hb_10
  have Lgc1 := hide (gc1.lenOf ((r_len (Int.mul_ne_zero ((HD.out _)) ((HD.out _))) (rv_opSub ((HD.out _)) ((HD.out _))) (zlen_opSub (zlen_mul (Lga1.out) (Lgb2.out)) (zlen_mul (Lgb1.out) (Lga2.out))) (zlen_mul (Lga2.out) (Lgb2.out))).1))
  have Lgc2 := hide (gc2.lenOf ((r_len (Int.mul_ne_zero ((HD.out _)) ((HD.out _))) (rv_opSub ((HD.out _)) ((HD.out _))) (zlen_opSub (zlen_mul (Lga1.out) (Lgb2.out)) (zlen_mul (Lgb1.out) (Lga2.out))) (zlen_mul (Lga2.out) (Lgb2.out))).2))
  simp only [rv_nd] at gc1 gc2
  refine hK _ _ rfl ⟨hb_10, (And.intro hs.g2 (And.intro hs.g1 trivial))⟩ ?_
  clear hK K
  refine e1 hs hlB hkB ?_; clear hs hlB hkB; intro w_11 p_b4 hs n11 kb_b4
  refine tl ?_
  refine .s4 hs.g0 (fun _ => hs.u0 kb_b4) ?_ (e := fun _ hs => (And.intro hs.g3 (And.intro hs.g2 True.intro))); clear hs; intro w_12 hs hd12 ho12
  apply wpTail_end
  refine hK2 _ _ ?_
  refine wp_seq_k ?_
  intro K3 hK3
  refine wp_region_f4 [(0, false), (1, false), (2, false), (3, false), (4, false), (6, false), (7, false), (8, false), (9, false), (5, true), (10, true), (11, true), (12, false)] [13] [] (fun _ => default) [0, 99, 1, 99, 2, 99, 99, 1, 99, 2, 99, 99, 99, 99] [] (.c hs.g0 (.c hs.g3 (.c hs.g2 .n))) fn fun w_13 n13 => ?_
  replace hs := hs.bl n13
  refine f4 ?_
  refine f0 ?_
  apply wpFl_ld rfl rfl; (case h1 => intro w' hC K hK; have c0 := Bs.cell hC 0 rfl; have c1 := Bs.cell hC 1 rfl; have c2 := Bs.cell hC 2 rfl; have c3 := Bs.cell hC 3 rfl; go_big_op; exact hK); iterate 4 kernel_rfl
  refine f0 ?_
  apply wpFl_ld rfl rfl; (case h1 => intro w' hC K hK; have c4 := Bs.cell hC 4 rfl; have c5 := Bs.cell hC 5 rfl; have c6 := Bs.cell hC 6 rfl; have c7 := Bs.cell hC 7 rfl; go_big_op; exact hK); iterate 4 kernel_rfl
  refine f0 ?_
  apply wpFl_ld rfl rfl; (case h1 => intro w' hC K hK; have c4 := Bs.cell hC 4 rfl; have c5 := Bs.cell hC 5 rfl; have c6 := Bs.cell hC 6 rfl; have c7 := Bs.cell hC 7 rfl; go_big_op; exact hK); iterate 4 kernel_rfl
  refine f0 ?_
  apply wpFl_ld rfl rfl; (case h1 => intro w' hC K hK; have c0 := Bs.cell hC 0 rfl; have c1 := Bs.cell hC 1 rfl; have c2 := Bs.cell hC 2 rfl; have c3 := Bs.cell hC 3 rfl; go_big_op; exact hK); iterate 4 kernel_rfl
  refine fl fun w_14 n14 => ?_
  replace hs := hs.bl n14
  intro K hK
  have k5_14 := ((((((((kb hb_6).b n7).b hb_8).b n9).b hb_10).b n11).o hd12 ho12).b n13).b n14
  replace ha1 := ha1.k k5_14
  replace ha2 := ha2.k k5_14
  have k7_14 := ((((((kb hb_8).b n9).b hb_10).b n11).o hd12 ho12).b n13).b n14
  replace hq3 := hq3.k k7_14
  replace hq4 := hq4.k k7_14
  go_big_op
  go_fit (rfMul_r (PN.mk' ha1 ha2) (PN.mk' hq3 hq4) (by omega) (by omega) (by omega) (by omega) HY.out.1 HQ.out.2)
  rintro e w_15 ⟨_, rfl, ⟨n_gda, o_gda, k_gda, c_gda, n_gdb, o_gdb, k_gdb, c_gdb, rfl, gd1, gd2⟩, hb_15⟩
  replace hs := hs.bl hb_15
  have Lgd1 := hide (gd1.lenOf ((r_len (Int.mul_ne_zero (HY.out.1) (HQ.out.2)) (rv_mul _ _ _ _) (zlen_mul (ha1.len) (hq3.len)) (zlen_mul (ha2.len) (hq4.len))).1))
  have Lgd2 := hide (gd2.lenOf ((r_len (Int.mul_ne_zero (HY.out.1) (HQ.out.2)) (rv_mul _ _ _ _) (zlen_mul (ha1.len) (hq3.len)) (zlen_mul (ha2.len) (hq4.len))).2))
  refine hK _ _ rfl ⟨hb_15, (And.intro hs.g0 (And.intro hs.g3 (And.intro hs.g2 trivial)))⟩ ?_
  clear hK K
  refine fl fun w_16 n16 => ?_
  replace hs := hs.bl n16
  intro K hK
  have k7_16 := (k7_14.b hb_15).b n16
  replace ha3 := ha3.k k7_16
  replace ha4 := ha4.k k7_16
  have k5_16 := (k5_14.b hb_15).b n16
  replace hq1 := hq1.k k5_16
  replace hq2 := hq2.k k5_16
  go_big_op
  go_fit (rfMul_r (PN.mk' ha3 ha4) (PN.mk' hq1 hq2) (by omega) (by omega) (by omega) (by omega) HY.out.2 HQ.out.1)
  rintro e w_17 ⟨_, rfl, ⟨n_gea, o_gea, k_gea, c_gea, n_geb, o_geb, k_geb, c_geb, rfl, ge1, ge2⟩, hb_17⟩
  replace hs := hs.bl hb_17
  have Lge1 := hide (ge1.lenOf ((r_len (Int.mul_ne_zero (HY.out.2) (HQ.out.1)) (rv_mul _ _ _ _) (zlen_mul (ha3.len) (hq1.len)) (zlen_mul (ha4.len) (hq2.len))).1))
  have Lge2 := hide (ge2.lenOf ((r_len (Int.mul_ne_zero (HY.out.2) (HQ.out.1)) (rv_mul _ _ _ _) (zlen_mul (ha3.len) (hq1.len)) (zlen_mul (ha4.len) (hq2.len))).2))
  refine hK _ _ rfl ⟨hb_17, (And.intro hs.g0 (And.intro hs.g3 (And.intro hs.g2 trivial)))⟩ ?_
  clear hK K
  refine fl fun w_18 n18 => ?_
  replace hs := hs.bl n18
  intro K hK
  have k15_18 := ((kb n16).b hb_17).b n18
  replace gd1 := gd1.k k15_18
  replace gd2 := gd2.k k15_18
  have k17_18 := kb n18
  replace ge1 := ge1.k k17_18
  replace ge2 := ge2.k k17_18
  go_big_op
  go_fit (rfAdd_r (PN.mk' (gd1.zn Lgd1.out) (gd2.zn Lgd2.out)) (PN.mk' (ge1.zn Lge1.out) (ge2.zn Lge2.out)) (by omega) (by omega) (by omega) (by omega) (HD.out _) (HD.out _))
  rintro e w_19 ⟨_, rfl, ⟨n_gfa, o_gfa, k_gfa, c_gfa, n_gfb, o_gfb, k_gfb, c_gfb, rfl, gf1, gf2⟩, hb_19⟩
  replace hs := hs.bl hb_19
  have Lgf1 := hide (gf1.lenOf ((r_len (Int.mul_ne_zero ((HD.out _)) ((HD.out _))) (rv_opAdd ((HD.out _)) ((HD.out _))) (zlen_opAdd (zlen_mul (Lgd1.out) (Lge2.out)) (zlen_mul (Lge1.out) (Lgd2.out))) (zlen_mul (Lgd2.out) (Lge2.out))).1))
  have Lgf2 := hide (gf2.lenOf ((r_len (Int.mul_ne_zero ((HD.out _)) ((HD.out _))) (rv_opAdd ((HD.out _)) ((HD.out _))) (zlen_opAdd (zlen_mul (Lgd1.out) (Lge2.out)) (zlen_mul (Lge1.out) (Lgd2.out))) (zlen_mul (Lgd2.out) (Lge2.out))).2))
  simp only [rv_nd] at gf1 gf2
  refine hK _ _ rfl ⟨hb_19, (And.intro hs.g0 (And.intro hs.g3 (And.intro hs.g2 trivial)))⟩ ?_
  clear hK K
  refine f0 ?_
  refine e0 hs ?_; clear hs; intro w_20 hs n20
  clear ga1 ga2 gb1 gb2 gd1 gd2 ge1 ge2
  refine tl ?_
  intro K hK
  have xs := hs.g1
  have d0 : w_20.cell? ⟨p_b3, 0, none⟩ = some (.bool false) := hs.g1.cell 0 rfl
  have d1 : w_20.cell? ⟨p_b3, 1, none⟩ = some (.slice none 0 0) := hs.g1.cell 1 rfl
  have d2 : w_20.cell? ⟨p_b3, 2, none⟩ = some (.bool false) := hs.g1.cell 2 rfl
  have d3 : w_20.cell? ⟨p_b3, 3, none⟩ = some (.slice none 0 0) := hs.g1.cell 3 rfl
  have d4 : w_20.cell? ⟨p_b3, 4, none⟩ = some (.bool false) := hs.g1.cell 4 rfl
  have d5 : w_20.cell? ⟨p_b3, 5, none⟩ = some (.slice none 0 0) := hs.g1.cell 5 rfl
  have d6 : w_20.cell? ⟨p_b3, 6, none⟩ = some (.bool false) := hs.g1.cell 6 rfl
  have d7 : w_20.cell? ⟨p_b3, 7, none⟩ = some (.slice none 0 0) := hs.g1.cell 7 rfl
  have f0 := xs.free 0; have f1 := xs.free 1; have f2 := xs.free 2; have f3 := xs.free 3; have f4 := xs.free 4; have f5 := xs.free 5; have f6 := xs.free 6; have f7 := xs.free 7
  go_big_op
  have hd21 := xs.nod rfl rfl
  obtain ⟨w_21_0, eW, xs_0, ho_0⟩ : ∃ w', ((((w_20.setCell ⟨p_b3, 0, none⟩ (.bool n_gca)).setCell ⟨p_b3, 1, none⟩ (.slice o_gca k_gca c_gca)).setCell ⟨p_b3, 2, none⟩ (.bool n_gcb)).setCell ⟨p_b3, 3, none⟩ (.slice o_gcb k_gcb c_gcb)) = w' ∧ Bs w' p_b3 #[.bool n_gca, .slice o_gca k_gca c_gca, .bool n_gcb, .slice o_gcb k_gcb c_gcb, .bool false, .slice none 0 0, .bool false, .slice none 0 0] 28 ∧ Only p_b3 w_20 w' := xs.setN [(0, .bool n_gca), (1, .slice o_gca k_gca c_gca), (2, .bool n_gcb), (3, .slice o_gcb k_gcb c_gcb)]
  rw [eW]; clear eW
  obtain ⟨w_21, eW, xs', ho_4⟩ : ∃ w', ((((w_21_0.setCell ⟨p_b3, 4, none⟩ (.bool n_gfa)).setCell ⟨p_b3, 5, none⟩ (.slice o_gfa k_gfa c_gfa)).setCell ⟨p_b3, 6, none⟩ (.bool n_gfb)).setCell ⟨p_b3, 7, none⟩ (.slice o_gfb k_gfb c_gfb)) = w' ∧ Bs w' p_b3 #[.bool n_gca, .slice o_gca k_gca c_gca, .bool n_gcb, .slice o_gcb k_gcb c_gcb, .bool n_gfa, .slice o_gfa k_gfa c_gfa, .bool n_gfb, .slice o_gfb k_gfb c_gfb] 28 ∧ Only p_b3 w_21_0 w' := xs_0.setN [(4, .bool n_gfa), (5, .slice o_gfa k_gfa c_gfa), (6, .bool n_gfb), (7, .slice o_gfb k_gfb c_gfb)]
  rw [eW]; clear eW xs_0
  have ho21 := (ho_0.trans ho_4)
  clear ho_0 ho_4 d0 d1 d2 d3 d4 d5 d6 d7 f0 f1 f2 f3 f4 f5 f6 f7 xs
  replace hs := hs.u1 kb_b3 xs' ho21; clear xs'
  refine hK _ _ rfl (And.intro hs.g0 (And.intro hs.g3 (And.intro hs.g2 True.intro))) ?_; clear hK K
  apply wpTail_end
  refine hK3 _ _ ?_
  refine wp_ret ?_
  try dsimp only [Exit.then, Exit.inBlock]
  have r0_0 : w_21.cell? ⟨p_b3, 0, none⟩ = some (.bool n_gca) := hs.g1.cell 0 rfl
  have r0_1 : w_21.cell? ⟨p_b3, 1, none⟩ = some (.slice o_gca k_gca c_gca) := hs.g1.cell 1 rfl
  have r0_2 : w_21.cell? ⟨p_b3, 2, none⟩ = some (.bool n_gcb) := hs.g1.cell 2 rfl
  have r0_3 : w_21.cell? ⟨p_b3, 3, none⟩ = some (.slice o_gcb k_gcb c_gcb) := hs.g1.cell 3 rfl
  have r0_4 : w_21.cell? ⟨p_b3, 4, none⟩ = some (.bool n_gfa) := hs.g1.cell 4 rfl
  have r0_5 : w_21.cell? ⟨p_b3, 5, none⟩ = some (.slice o_gfa k_gfa c_gfa) := hs.g1.cell 5 rfl
  have r0_6 : w_21.cell? ⟨p_b3, 6, none⟩ = some (.bool n_gfb) := hs.g1.cell 6 rfl
  have r0_7 : w_21.cell? ⟨p_b3, 7, none⟩ = some (.slice o_gfb k_gfb c_gfb) := hs.g1.cell 7 rfl
  refine bodyPost_ret (v := (.agg #[.bool n_gca, .slice o_gca k_gca c_gca, .bool n_gcb, .slice o_gcb k_gcb c_gcb, .bool n_gfa, .slice o_gfa k_gfa c_gfa, .bool n_gfb, .slice o_gfb k_gfb c_gfb])) (by simp [results, Tryz.results31, go_sem, r0_0, r0_1, r0_2, r0_3, r0_4, r0_5, r0_6, r0_7]) rfl ?_
  have k10_21 := ((((((((((kb n11).o hd12 ho12).b n13).b n14).b hb_15).b n16).b hb_17).b n18).b hb_19).b n20).o hd21 ho21
  replace gc1 := gc1.k k10_21
  replace gc2 := gc2.k k10_21
  have k19_21 := (kb n20).o hd21 ho21
  replace gf1 := gf1.k k19_21
  replace gf2 := gf2.k k19_21
  exact ⟨_, rfl, .mk' gc1 gc2 gf1 gf2, hs.b⟩
set_option maxHeartbeats 4000000 in
set_option maxRecDepth 20000 in
theorem r7Conj_ok (ha : CN w va x l y m u k v n) (hl : l ≤ 2200000) (hm : m ≤ 2200000) (hk : k ≤ 2200000) (hn : n ≤ 2200000) (hy : y ≠ 0) (hv : v ≠ 0) :
    Calls Tryz.prog 42 #[va] w fun e w' => ∃ r, e = .returned r ∧ CC w' r (rv x y).num (rv x y).den (-rv u v).num (-rv u v).den ∧ Below w.heap.size w w' := by
  have HY := hide (And.intro hy hv)
  clear hy hv
  obtain ⟨n_0a, o_0a, k_0a, c_0a, n_0b, o_0b, k_0b, c_0b, n_0c, o_0c, k_0c, c_0c, n_0d, o_0d, k_0d, c_0d, rfl, ha1, ha2, ha3, ha4⟩ := ha
  go_enter Tryz.func42, Tryz.ntmps42
  have hs := St.nil w
  refine wp_seq_k ?_
  intro K1 hK1
  refine rg [0, 1] ?_
  refine sq ?_
  refine .al hs ?_; clear hs; intro p_b1 w_1 hs n1 kb_b1
  refine sq ?_
  refine .al hs ?_; clear hs; intro p_b2 w_2 hs n2 kb_b2
  apply wpSq_end
  refine hK1 _ _ ?_
  refine wp_seq_k ?_
  intro K2 hK2
  refine wp_region_f4 [(0, false), (1, false), (3, false), (4, false), (2, true), (5, true), (6, false)] [7] [] (fun _ => default) [99, 0, 99, 99, 0, 99, 99, 99] [] (.c hs.g1 .n) fn fun w_3 n3 => ?_
  replace hs := hs.bl n3
  refine f0 ?_
  apply wpFl_ld rfl rfl; (case h1 => intro w' hC K hK; have c0 := Bs.cell hC 0 rfl; have c1 := Bs.cell hC 1 rfl; have c2 := Bs.cell hC 2 rfl; have c3 := Bs.cell hC 3 rfl; go_big_op; exact hK); iterate 4 kernel_rfl
  refine f0 ?_
  apply wpFl_ld rfl rfl; (case h1 => intro w' hC K hK; have c4 := Bs.cell hC 4 rfl; have c5 := Bs.cell hC 5 rfl; have c6 := Bs.cell hC 6 rfl; have c7 := Bs.cell hC 7 rfl; go_big_op; exact hK); iterate 4 kernel_rfl
  refine fl fun w_4 n4 => ?_
  replace hs := hs.bl n4
  intro K hK
  have k0_4 := (((kb n1).b n2).b n3).b n4
  replace ha1 := ha1.k k0_4
  replace ha2 := ha2.k k0_4
  go_big_op
  go_fit (rfnorm_r (PN.mk' ha1 ha2) (by omega) (by omega) HY.out.1)
  rintro e w_5 ⟨_, rfl, ⟨n_gaa, o_gaa, k_gaa, c_gaa, n_gab, o_gab, k_gab, c_gab, rfl, ga1, ga2⟩, hb_5⟩
  replace hs := hs.bl hb_5
  have Lga1 := hide (ga1.lenOf ((r_len (HY.out.1) rfl (ha1.len) (ha2.len)).1))
  have Lga2 := hide (ga2.lenOf ((r_len (HY.out.1) rfl (ha1.len) (ha2.len)).2))
  refine hK _ _ rfl ⟨hb_5, (And.intro hs.g1 trivial)⟩ ?_
  clear hK K
  refine fl fun w_6 n6 => ?_
  replace hs := hs.bl n6
  intro K hK
  have k0_6 := (k0_4.b hb_5).b n6
  replace ha3 := ha3.k k0_6
  replace ha4 := ha4.k k0_6
  go_big_op
  go_fit (rfNeg_r (PN.mk' ha3 ha4) (by omega) (by omega) HY.out.2)
  rintro e w_7 ⟨_, rfl, ⟨n_gba, o_gba, k_gba, c_gba, n_gbb, o_gbb, k_gbb, c_gbb, rfl, gb1, gb2⟩, hb_7⟩
  replace hs := hs.bl hb_7
  have Lgb1 := hide (gb1.lenOf ((r_len (HY.out.2) (rv_neg1 _ _) (zlen_neg (ha3.len)) (ha4.len)).1))
  have Lgb2 := hide (gb2.lenOf ((r_len (HY.out.2) (rv_neg1 _ _) (zlen_neg (ha3.len)) (ha4.len)).2))
  refine hK _ _ rfl ⟨hb_7, (And.intro hs.g1 trivial)⟩ ?_
  clear hK K
  refine f0 ?_
  refine e0 hs ?_; clear hs; intro w_8 hs n8
  refine tl ?_
  intro K hK
  have xs := hs.g0
  have d0 : w_8.cell? ⟨p_b2, 0, none⟩ = some (.bool false) := hs.g0.cell 0 rfl
  have d1 : w_8.cell? ⟨p_b2, 1, none⟩ = some (.slice none 0 0) := hs.g0.cell 1 rfl
  have d2 : w_8.cell? ⟨p_b2, 2, none⟩ = some (.bool false) := hs.g0.cell 2 rfl
  have d3 : w_8.cell? ⟨p_b2, 3, none⟩ = some (.slice none 0 0) := hs.g0.cell 3 rfl
  have d4 : w_8.cell? ⟨p_b2, 4, none⟩ = some (.bool false) := hs.g0.cell 4 rfl
  have d5 : w_8.cell? ⟨p_b2, 5, none⟩ = some (.slice none 0 0) := hs.g0.cell 5 rfl
  have d6 : w_8.cell? ⟨p_b2, 6, none⟩ = some (.bool false) := hs.g0.cell 6 rfl
  have d7 : w_8.cell? ⟨p_b2, 7, none⟩ = some (.slice none 0 0) := hs.g0.cell 7 rfl
  have f0 := xs.free 0; have f1 := xs.free 1; have f2 := xs.free 2; have f3 := xs.free 3; have f4 := xs.free 4; have f5 := xs.free 5; have f6 := xs.free 6; have f7 := xs.free 7
  go_big_op
  have hd9 := xs.nod rfl rfl
  obtain ⟨w_9_0, eW, xs_0, ho_0⟩ : ∃ w', ((((w_8.setCell ⟨p_b2, 0, none⟩ (.bool n_gaa)).setCell ⟨p_b2, 1, none⟩ (.slice o_gaa k_gaa c_gaa)).setCell ⟨p_b2, 2, none⟩ (.bool n_gab)).setCell ⟨p_b2, 3, none⟩ (.slice o_gab k_gab c_gab)) = w' ∧ Bs w' p_b2 #[.bool n_gaa, .slice o_gaa k_gaa c_gaa, .bool n_gab, .slice o_gab k_gab c_gab, .bool false, .slice none 0 0, .bool false, .slice none 0 0] 28 ∧ Only p_b2 w_8 w' := xs.setN [(0, .bool n_gaa), (1, .slice o_gaa k_gaa c_gaa), (2, .bool n_gab), (3, .slice o_gab k_gab c_gab)]
  rw [eW]; clear eW
  obtain ⟨w_9, eW, xs', ho_4⟩ : ∃ w', ((((w_9_0.setCell ⟨p_b2, 4, none⟩ (.bool n_gba)).setCell ⟨p_b2, 5, none⟩ (.slice o_gba k_gba c_gba)).setCell ⟨p_b2, 6, none⟩ (.bool n_gbb)).setCell ⟨p_b2, 7, none⟩ (.slice o_gbb k_gbb c_gbb)) = w' ∧ Bs w' p_b2 #[.bool n_gaa, .slice o_gaa k_gaa c_gaa, .bool n_gab, .slice o_gab k_gab c_gab, .bool n_gba, .slice o_gba k_gba c_gba, .bool n_gbb, .slice o_gbb k_gbb c_gbb] 28 ∧ Only p_b2 w_9_0 w' := xs_0.setN [(4, .bool n_gba), (5, .slice o_gba k_gba c_gba), (6, .bool n_gbb), (7, .slice o_gbb k_gbb c_gbb)]
  rw [eW]; clear eW xs_0
  have ho9 := (ho_0.trans ho_4)
  clear ho_0 ho_4 d0 d1 d2 d3 d4 d5 d6 d7 f0 f1 f2 f3 f4 f5 f6 f7 xs
  replace hs := hs.u0 kb_b2 xs' ho9; clear xs'
  refine hK _ _ rfl (And.intro hs.g1 True.intro) ?_; clear hK K
  apply wpTail_end
  refine hK2 _ _ ?_
  refine wp_ret ?_
  try dsimp only [Exit.then, Exit.inBlock]
  have r0_0 : w_9.cell? ⟨p_b2, 0, none⟩ = some (.bool n_gaa) := hs.g0.cell 0 rfl
  have r0_1 : w_9.cell? ⟨p_b2, 1, none⟩ = some (.slice o_gaa k_gaa c_gaa) := hs.g0.cell 1 rfl
  have r0_2 : w_9.cell? ⟨p_b2, 2, none⟩ = some (.bool n_gab) := hs.g0.cell 2 rfl
  have r0_3 : w_9.cell? ⟨p_b2, 3, none⟩ = some (.slice o_gab k_gab c_gab) := hs.g0.cell 3 rfl
  have r0_4 : w_9.cell? ⟨p_b2, 4, none⟩ = some (.bool n_gba) := hs.g0.cell 4 rfl
  have r0_5 : w_9.cell? ⟨p_b2, 5, none⟩ = some (.slice o_gba k_gba c_gba) := hs.g0.cell 5 rfl
  have r0_6 : w_9.cell? ⟨p_b2, 6, none⟩ = some (.bool n_gbb) := hs.g0.cell 6 rfl
  have r0_7 : w_9.cell? ⟨p_b2, 7, none⟩ = some (.slice o_gbb k_gbb c_gbb) := hs.g0.cell 7 rfl
  refine bodyPost_ret (v := (.agg #[.bool n_gaa, .slice o_gaa k_gaa c_gaa, .bool n_gab, .slice o_gab k_gab c_gab, .bool n_gba, .slice o_gba k_gba c_gba, .bool n_gbb, .slice o_gbb k_gbb c_gbb])) (by simp [results, Tryz.results42, go_sem, r0_0, r0_1, r0_2, r0_3, r0_4, r0_5, r0_6, r0_7]) rfl ?_
  have k5_9 := (((kb n6).b hb_7).b n8).o hd9 ho9
  replace ga1 := ga1.k k5_9
  replace ga2 := ga2.k k5_9
  have k7_9 := (kb n8).o hd9 ho9
  replace gb1 := gb1.k k7_9
  replace gb2 := gb2.k k7_9
  exact ⟨_, rfl, .mk' ga1 ga2 gb1 gb2, hs.b⟩
set_option maxHeartbeats 4000000 in
set_option maxRecDepth 20000 in
theorem r7Norm_ok (ha : CN w va x l y m u k v n) (hl : l ≤ 2200000) (hm : m ≤ 2200000) (hk : k ≤ 2200000) (hn : n ≤ 2200000) (hy : y ≠ 0) (hv : v ≠ 0) :
    Calls Tryz.prog 43 #[va] w fun e w' => ∃ r, e = .returned r ∧ PC w' r (rv x y * rv x y + rv u v * rv u v).num (rv x y * rv x y + rv u v * rv u v).den ∧ Below w.heap.size w w' := by
  have HY := hide (And.intro hy hv)
  have HD := hide den_ne
  clear hy hv
  obtain ⟨n_0a, o_0a, k_0a, c_0a, n_0b, o_0b, k_0b, c_0b, n_0c, o_0c, k_0c, c_0c, n_0d, o_0d, k_0d, c_0d, rfl, ha1, ha2, ha3, ha4⟩ := ha
  go_enter Tryz.func43, Tryz.ntmps43
  have hs := St.nil w
  refine wp_seq_k ?_
  intro K1 hK1
  refine rg [0, 1] ?_
  refine sq ?_
  refine .al hs ?_; clear hs; intro p_b1 w_1 hs n1 kb_b1
  refine sq ?_
  refine .al hs ?_; clear hs; intro p_b2 w_2 hs n2 kb_b2
  apply wpSq_end
  refine hK1 _ _ ?_
  refine wp_seq_k ?_
  intro K2 hK2
  refine wp_region_f4 [(0, false), (1, false), (2, false), (3, false), (5, false), (6, false), (7, false), (8, false), (4, true), (9, true), (10, true)] [11] [] (fun _ => default) [99, 0, 99, 0, 99, 99, 0, 99, 0, 99, 99, 99] [] (.c hs.g1 .n) fn fun w_3 n3 => ?_
  replace hs := hs.bl n3
  refine f0 ?_
  apply wpFl_ld rfl rfl; (case h1 => intro w' hC K hK; have c0 := Bs.cell hC 0 rfl; have c1 := Bs.cell hC 1 rfl; have c2 := Bs.cell hC 2 rfl; have c3 := Bs.cell hC 3 rfl; go_big_op; exact hK); iterate 4 kernel_rfl
  refine f0 ?_
  apply wpFl_ld rfl rfl; (case h1 => intro w' hC K hK; have c0 := Bs.cell hC 0 rfl; have c1 := Bs.cell hC 1 rfl; have c2 := Bs.cell hC 2 rfl; have c3 := Bs.cell hC 3 rfl; go_big_op; exact hK); iterate 4 kernel_rfl
  refine f0 ?_
  apply wpFl_ld rfl rfl; (case h1 => intro w' hC K hK; have c4 := Bs.cell hC 4 rfl; have c5 := Bs.cell hC 5 rfl; have c6 := Bs.cell hC 6 rfl; have c7 := Bs.cell hC 7 rfl; go_big_op; exact hK); iterate 4 kernel_rfl
  refine f0 ?_
  apply wpFl_ld rfl rfl; (case h1 => intro w' hC K hK; have c4 := Bs.cell hC 4 rfl; have c5 := Bs.cell hC 5 rfl; have c6 := Bs.cell hC 6 rfl; have c7 := Bs.cell hC 7 rfl; go_big_op; exact hK); iterate 4 kernel_rfl
  refine fl fun w_4 n4 => ?_
  replace hs := hs.bl n4
  intro K hK
  have k0_4 := (((kb n1).b n2).b n3).b n4
  replace ha1 := ha1.k k0_4
  replace ha2 := ha2.k k0_4
  go_big_op
  go_fit (rfMul_r (PN.mk' ha1 ha2) (PN.mk' ha1 ha2) (by omega) (by omega) (by omega) (by omega) HY.out.1 HY.out.1)
  rintro e w_5 ⟨_, rfl, ⟨n_gaa, o_gaa, k_gaa, c_gaa, n_gab, o_gab, k_gab, c_gab, rfl, ga1, ga2⟩, hb_5⟩
  replace hs := hs.bl hb_5
  have Lga1 := hide (ga1.lenOf ((r_len (Int.mul_ne_zero (HY.out.1) (HY.out.1)) (rv_mul _ _ _ _) (zlen_mul (ha1.len) (ha1.len)) (zlen_mul (ha2.len) (ha2.len))).1))
  have Lga2 := hide (ga2.lenOf ((r_len (Int.mul_ne_zero (HY.out.1) (HY.out.1)) (rv_mul _ _ _ _) (zlen_mul (ha1.len) (ha1.len)) (zlen_mul (ha2.len) (ha2.len))).2))
  refine hK _ _ rfl ⟨hb_5, (And.intro hs.g1 trivial)⟩ ?_
  clear hK K
  refine fl fun w_6 n6 => ?_
  replace hs := hs.bl n6
  intro K hK
  have k0_6 := (k0_4.b hb_5).b n6
  replace ha3 := ha3.k k0_6
  replace ha4 := ha4.k k0_6
  go_big_op
  go_fit (rfMul_r (PN.mk' ha3 ha4) (PN.mk' ha3 ha4) (by omega) (by omega) (by omega) (by omega) HY.out.2 HY.out.2)
  rintro e w_7 ⟨_, rfl, ⟨n_gba, o_gba, k_gba, c_gba, n_gbb, o_gbb, k_gbb, c_gbb, rfl, gb1, gb2⟩, hb_7⟩
  replace hs := hs.bl hb_7
  have Lgb1 := hide (gb1.lenOf ((r_len (Int.mul_ne_zero (HY.out.2) (HY.out.2)) (rv_mul _ _ _ _) (zlen_mul (ha3.len) (ha3.len)) (zlen_mul (ha4.len) (ha4.len))).1))
  have Lgb2 := hide (gb2.lenOf ((r_len (Int.mul_ne_zero (HY.out.2) (HY.out.2)) (rv_mul _ _ _ _) (zlen_mul (ha3.len) (ha3.len)) (zlen_mul (ha4.len) (ha4.len))).2))
  refine hK _ _ rfl ⟨hb_7, (And.intro hs.g1 trivial)⟩ ?_
  clear hK K
  refine fl fun w_8 n8 => ?_
  replace hs := hs.bl n8
  intro K hK
  have k5_8 := ((kb n6).b hb_7).b n8
  replace ga1 := ga1.k k5_8
  replace ga2 := ga2.k k5_8
  have k7_8 := kb n8
  replace gb1 := gb1.k k7_8
  replace gb2 := gb2.k k7_8
  go_big_op
  go_fit (rfAdd_r (PN.mk' (ga1.zn Lga1.out) (ga2.zn Lga2.out)) (PN.mk' (gb1.zn Lgb1.out) (gb2.zn Lgb2.out)) (by omega) (by omega) (by omega) (by omega) (HD.out _) (HD.out _))
  rintro e w_9 ⟨_, rfl, ⟨n_gca, o_gca, k_gca, c_gca, n_gcb, o_gcb, k_gcb, c_gcb, rfl, gc1, gc2⟩, hb_9⟩
  replace hs := hs.bl hb_9
  have Lgc1 := hide (gc1.lenOf ((r_len (Int.mul_ne_zero ((HD.out _)) ((HD.out _))) (rv_opAdd ((HD.out _)) ((HD.out _))) (zlen_opAdd (zlen_mul (Lga1.out) (Lgb2.out)) (zlen_mul (Lgb1.out) (Lga2.out))) (zlen_mul (Lga2.out) (Lgb2.out))).1))
  have Lgc2 := hide (gc2.lenOf ((r_len (Int.mul_ne_zero ((HD.out _)) ((HD.out _))) (rv_opAdd ((HD.out _)) ((HD.out _))) (zlen_opAdd (zlen_mul (Lga1.out) (Lgb2.out)) (zlen_mul (Lgb1.out) (Lga2.out))) (zlen_mul (Lga2.out) (Lgb2.out))).2))
  simp only [rv_nd] at gc1 gc2
  refine hK _ _ rfl ⟨hb_9, (And.intro hs.g1 trivial)⟩ ?_
  clear hK K
  refine e0 hs ?_; clear hs; intro w_10 hs n10
  refine tl ?_
  refine .s4 hs.g0 (fun _ => hs.u0 kb_b2) ?_ (e := fun _ hs => (And.intro hs.g1 True.intro)); clear hs; intro w_11 hs hd11 ho11
  apply wpTail_end
  refine hK2 _ _ ?_
  refine wp_ret ?_
  try dsimp only [Exit.then, Exit.inBlock]
  obtain ⟨r0_0, r0_1, r0_2, r0_3⟩ := hs.g0.f4
  refine bodyPost_ret (v := (.agg #[.bool n_gca, .slice o_gca k_gca c_gca, .bool n_gcb, .slice o_gcb k_gcb c_gcb])) (by simp [results, Tryz.results43, go_sem, r0_0, r0_1, r0_2, r0_3]) rfl ?_
  have k9_11 := (kb n10).o hd11 ho11
  replace gc1 := gc1.k k9_11
  replace gc2 := gc2.k k9_11
  exact ⟨_, rfl, .mk' gc1 gc2, hs.b⟩
set_option maxHeartbeats 4000000 in
set_option maxRecDepth 20000 in
theorem r7Over_ok (ha : CN w va x l y m u k v n) (hq : PN w vb p l2 q m2) (hl : l ≤ 10000000) (hm : m ≤ 10000000) (hk : k ≤ 10000000) (hn : n ≤ 10000000) (hl2 : l2 ≤ 10000000) (hm2 : m2 ≤ 10000000) (hy : y ≠ 0) (hv : v ≠ 0) (hp : p ≠ 0) :
    Calls Tryz.prog 87 #[va, vb] w fun e w' => ∃ r, e = .returned r ∧ CC w' r (rv x y / rv p q).num (rv x y / rv p q).den (rv u v / rv p q).num (rv u v / rv p q).den ∧ Below w.heap.size w w' := by
  have HY := hide (And.intro hy hv)
  have HP := hide hp
  clear hy hv hp
  obtain ⟨n_0a, o_0a, k_0a, c_0a, n_0b, o_0b, k_0b, c_0b, n_0c, o_0c, k_0c, c_0c, n_0d, o_0d, k_0d, c_0d, rfl, ha1, ha2, ha3, ha4⟩ := ha
  obtain ⟨n_1a, o_1a, k_1a, c_1a, n_1b, o_1b, k_1b, c_1b, rfl, hq1, hq2⟩ := hq
  go_enter Tryz.func87, Tryz.ntmps87
  have hs := St.nil w
  refine wp_seq_k ?_
  intro K1 hK1
  refine rg [0, 1, 2] ?_
  refine sq ?_
  refine .al hs ?_; clear hs; intro p_b1 w_1 hs n1 kb_b1
  refine sq ?_
  refine .al hs ?_; clear hs; intro p_b2 w_2 hs n2 kb_b2
  refine sq ?_
  refine .al hs ?_; clear hs; intro p_b3 w_3 hs n3 kb_b3
  apply wpSq_end
  refine hK1 _ _ ?_
  refine wp_seq_k ?_
  intro K2 hK2
  refine wp_region_f4 [(0, false), (1, false), (2, false), (4, false), (5, false), (6, false), (3, true), (7, true), (8, false)] [9] [] (fun _ => default) [99, 0, 1, 99, 99, 0, 1, 99, 99, 99] [] (.c hs.g2 (.c hs.g1 .n)) fn fun w_4 n4 => ?_
  replace hs := hs.bl n4
  refine f0 ?_
  apply wpFl_ld rfl rfl; (case h1 => intro w' hC K hK; have c0 := Bs.cell hC 0 rfl; have c1 := Bs.cell hC 1 rfl; have c2 := Bs.cell hC 2 rfl; have c3 := Bs.cell hC 3 rfl; go_big_op; exact hK); iterate 4 kernel_rfl
  refine f4 ?_
  refine f0 ?_
  apply wpFl_ld rfl rfl; (case h1 => intro w' hC K hK; have c4 := Bs.cell hC 4 rfl; have c5 := Bs.cell hC 5 rfl; have c6 := Bs.cell hC 6 rfl; have c7 := Bs.cell hC 7 rfl; go_big_op; exact hK); iterate 4 kernel_rfl
  refine f4 ?_
  refine fl fun w_5 n5 => ?_
  replace hs := hs.bl n5
  intro K hK
  have k0_5 := ((((kb n1).b n2).b n3).b n4).b n5
  replace ha1 := ha1.k k0_5
  replace ha2 := ha2.k k0_5
  replace hq1 := hq1.k k0_5
  replace hq2 := hq2.k k0_5
  go_big_op
  go_fit (rfQuo_r (PN.mk' ha1 ha2) (PN.mk' hq1 hq2) (by omega) (by omega) (by omega) (by omega) HP.out HY.out.1)
  rintro e w_6 ⟨_, rfl, ⟨n_gaa, o_gaa, k_gaa, c_gaa, n_gab, o_gab, k_gab, c_gab, rfl, ga1, ga2⟩, hb_6⟩
  replace hs := hs.bl hb_6
  have Lga1 := hide (ga1.lenOf ((r_len (Int.mul_ne_zero (HP.out) (HY.out.1)) (rv_quo _ _ _ _) (zlen_mul (ha1.len) (hq2.len)) (zlen_mul (hq1.len) (ha2.len))).1))
  have Lga2 := hide (ga2.lenOf ((r_len (Int.mul_ne_zero (HP.out) (HY.out.1)) (rv_quo _ _ _ _) (zlen_mul (ha1.len) (hq2.len)) (zlen_mul (hq1.len) (ha2.len))).2))
  refine hK _ _ rfl ⟨hb_6, (And.intro hs.g2 (And.intro hs.g1 trivial))⟩ ?_
  clear hK K
  refine fl fun w_7 n7 => ?_
  replace hs := hs.bl n7
  intro K hK
  have k0_7 := (k0_5.b hb_6).b n7
  replace ha3 := ha3.k k0_7
  replace ha4 := ha4.k k0_7
  have k5_7 := (kb hb_6).b n7
  replace hq1 := hq1.k k5_7
  replace hq2 := hq2.k k5_7
  go_big_op
  go_fit (rfQuo_r (PN.mk' ha3 ha4) (PN.mk' hq1 hq2) (by omega) (by omega) (by omega) (by omega) HP.out HY.out.2)
  rintro e w_8 ⟨_, rfl, ⟨n_gba, o_gba, k_gba, c_gba, n_gbb, o_gbb, k_gbb, c_gbb, rfl, gb1, gb2⟩, hb_8⟩
  replace hs := hs.bl hb_8
  have Lgb1 := hide (gb1.lenOf ((r_len (Int.mul_ne_zero (HP.out) (HY.out.2)) (rv_quo _ _ _ _) (zlen_mul (ha3.len) (hq2.len)) (zlen_mul (hq1.len) (ha4.len))).1))
  have Lgb2 := hide (gb2.lenOf ((r_len (Int.mul_ne_zero (HP.out) (HY.out.2)) (rv_quo _ _ _ _) (zlen_mul (ha3.len) (hq2.len)) (zlen_mul (hq1.len) (ha4.len))).2))
  refine hK _ _ rfl ⟨hb_8, (And.intro hs.g2 (And.intro hs.g1 trivial))⟩ ?_
  clear hK K
  refine f0 ?_
  refine e0 hs ?_; clear hs; intro w_9 hs n9
  refine tl ?_
  intro K hK
  have xs := hs.g0
  have d0 : w_9.cell? ⟨p_b3, 0, none⟩ = some (.bool false) := hs.g0.cell 0 rfl
  have d1 : w_9.cell? ⟨p_b3, 1, none⟩ = some (.slice none 0 0) := hs.g0.cell 1 rfl
  have d2 : w_9.cell? ⟨p_b3, 2, none⟩ = some (.bool false) := hs.g0.cell 2 rfl
  have d3 : w_9.cell? ⟨p_b3, 3, none⟩ = some (.slice none 0 0) := hs.g0.cell 3 rfl
  have d4 : w_9.cell? ⟨p_b3, 4, none⟩ = some (.bool false) := hs.g0.cell 4 rfl
  have d5 : w_9.cell? ⟨p_b3, 5, none⟩ = some (.slice none 0 0) := hs.g0.cell 5 rfl
  have d6 : w_9.cell? ⟨p_b3, 6, none⟩ = some (.bool false) := hs.g0.cell 6 rfl
  have d7 : w_9.cell? ⟨p_b3, 7, none⟩ = some (.slice none 0 0) := hs.g0.cell 7 rfl
  have f0 := xs.free 0; have f1 := xs.free 1; have f2 := xs.free 2; have f3 := xs.free 3; have f4 := xs.free 4; have f5 := xs.free 5; have f6 := xs.free 6; have f7 := xs.free 7
  go_big_op
  have hd10 := xs.nod rfl rfl
  obtain ⟨w_10_0, eW, xs_0, ho_0⟩ : ∃ w', ((((w_9.setCell ⟨p_b3, 0, none⟩ (.bool n_gaa)).setCell ⟨p_b3, 1, none⟩ (.slice o_gaa k_gaa c_gaa)).setCell ⟨p_b3, 2, none⟩ (.bool n_gab)).setCell ⟨p_b3, 3, none⟩ (.slice o_gab k_gab c_gab)) = w' ∧ Bs w' p_b3 #[.bool n_gaa, .slice o_gaa k_gaa c_gaa, .bool n_gab, .slice o_gab k_gab c_gab, .bool false, .slice none 0 0, .bool false, .slice none 0 0] 28 ∧ Only p_b3 w_9 w' := xs.setN [(0, .bool n_gaa), (1, .slice o_gaa k_gaa c_gaa), (2, .bool n_gab), (3, .slice o_gab k_gab c_gab)]
  rw [eW]; clear eW
  obtain ⟨w_10, eW, xs', ho_4⟩ : ∃ w', ((((w_10_0.setCell ⟨p_b3, 4, none⟩ (.bool n_gba)).setCell ⟨p_b3, 5, none⟩ (.slice o_gba k_gba c_gba)).setCell ⟨p_b3, 6, none⟩ (.bool n_gbb)).setCell ⟨p_b3, 7, none⟩ (.slice o_gbb k_gbb c_gbb)) = w' ∧ Bs w' p_b3 #[.bool n_gaa, .slice o_gaa k_gaa c_gaa, .bool n_gab, .slice o_gab k_gab c_gab, .bool n_gba, .slice o_gba k_gba c_gba, .bool n_gbb, .slice o_gbb k_gbb c_gbb] 28 ∧ Only p_b3 w_10_0 w' := xs_0.setN [(4, .bool n_gba), (5, .slice o_gba k_gba c_gba), (6, .bool n_gbb), (7, .slice o_gbb k_gbb c_gbb)]
  rw [eW]; clear eW xs_0
  have ho10 := (ho_0.trans ho_4)
  clear ho_0 ho_4 d0 d1 d2 d3 d4 d5 d6 d7 f0 f1 f2 f3 f4 f5 f6 f7 xs
  replace hs := hs.u0 kb_b3 xs' ho10; clear xs'
  refine hK _ _ rfl (And.intro hs.g2 (And.intro hs.g1 True.intro)) ?_; clear hK K
  apply wpTail_end
  refine hK2 _ _ ?_
  refine wp_ret ?_
  try dsimp only [Exit.then, Exit.inBlock]
  have r0_0 : w_10.cell? ⟨p_b3, 0, none⟩ = some (.bool n_gaa) := hs.g0.cell 0 rfl
  have r0_1 : w_10.cell? ⟨p_b3, 1, none⟩ = some (.slice o_gaa k_gaa c_gaa) := hs.g0.cell 1 rfl
  have r0_2 : w_10.cell? ⟨p_b3, 2, none⟩ = some (.bool n_gab) := hs.g0.cell 2 rfl
  have r0_3 : w_10.cell? ⟨p_b3, 3, none⟩ = some (.slice o_gab k_gab c_gab) := hs.g0.cell 3 rfl
  have r0_4 : w_10.cell? ⟨p_b3, 4, none⟩ = some (.bool n_gba) := hs.g0.cell 4 rfl
  have r0_5 : w_10.cell? ⟨p_b3, 5, none⟩ = some (.slice o_gba k_gba c_gba) := hs.g0.cell 5 rfl
  have r0_6 : w_10.cell? ⟨p_b3, 6, none⟩ = some (.bool n_gbb) := hs.g0.cell 6 rfl
  have r0_7 : w_10.cell? ⟨p_b3, 7, none⟩ = some (.slice o_gbb k_gbb c_gbb) := hs.g0.cell 7 rfl
  refine bodyPost_ret (v := (.agg #[.bool n_gaa, .slice o_gaa k_gaa c_gaa, .bool n_gab, .slice o_gab k_gab c_gab, .bool n_gba, .slice o_gba k_gba c_gba, .bool n_gbb, .slice o_gbb k_gbb c_gbb])) (by simp [results, Tryz.results87, go_sem, r0_0, r0_1, r0_2, r0_3, r0_4, r0_5, r0_6, r0_7]) rfl ?_
  have k6_10 := (((kb n7).b hb_8).b n9).o hd10 ho10
  replace ga1 := ga1.k k6_10
  replace ga2 := ga2.k k6_10
  have k8_10 := (kb n9).o hd10 ho10
  replace gb1 := gb1.k k8_10
  replace gb2 := gb2.k k8_10
  exact ⟨_, rfl, .mk' ga1 ga2 gb1 gb2, hs.b⟩
set_option maxHeartbeats 4000000 in
set_option maxRecDepth 20000 in
theorem r7Quo_ok (ha : CN w va x l y m u k v n) (hq : CN w vb p l2 q m2 s k2 t n2) (hl : l ≤ 1048576) (hm : m ≤ 1048576) (hk : k ≤ 1048576) (hn : n ≤ 1048576) (hl2 : l2 ≤ 1048576) (hm2 : m2 ≤ 1048576) (hk2 : k2 ≤ 1048576) (hn2 : n2 ≤ 1048576) (hy : y ≠ 0) (hv : v ≠ 0) (hq0 : q ≠ 0) (ht : t ≠ 0) (h0 : ¬ (p = 0 ∧ s = 0)) :
    Calls Tryz.prog 33 #[va, vb] w fun e w' => ∃ r, e = .returned r ∧ CN w' r ((rv x y * rv p q - rv u v * -rv s t) / (rv p q * rv p q + rv s t * rv s t)).num 20000000 ((rv x y * rv p q - rv u v * -rv s t) / (rv p q * rv p q + rv s t * rv s t)).den 20000000 ((rv x y * -rv s t + rv u v * rv p q) / (rv p q * rv p q + rv s t * rv s t)).num 20000000 ((rv x y * -rv s t + rv u v * rv p q) / (rv p q * rv p q + rv s t * rv s t)).den 20000000 ∧ Below w.heap.size w w' := by
  have HY := hide (And.intro hy hv)
  have HQ := hide (And.intro hq0 ht)
  have HD := hide den_ne
  have HN := hide (num_ne (norm_ne hq0 ht h0))
  clear hy hv hq0 ht h0
  obtain ⟨n_0a, o_0a, k_0a, c_0a, n_0b, o_0b, k_0b, c_0b, n_0c, o_0c, k_0c, c_0c, n_0d, o_0d, k_0d, c_0d, rfl, ha1, ha2, ha3, ha4⟩ := ha
  obtain ⟨n_1a, o_1a, k_1a, c_1a, n_1b, o_1b, k_1b, c_1b, n_1c, o_1c, k_1c, c_1c, n_1d, o_1d, k_1d, c_1d, rfl, hq1, hq2, hq3, hq4⟩ := hq
  go_enter Tryz.func33, Tryz.ntmps33
  have hs := St.nil w
  refine wp_seq_k ?_
  intro K1 hK1
  refine rg [0, 1, 2] ?_
  refine sq ?_
  refine .al hs ?_; clear hs; intro p_b1 w_1 hs n1 kb_b1
  refine sq ?_
  refine .al hs ?_; clear hs; intro p_b2 w_2 hs n2 kb_b2
  refine sq ?_
  refine .al hs ?_; clear hs; intro p_b3 w_3 hs n3 kb_b3
  apply wpSq_end
  refine hK1 _ _ ?_
  refine wp_seq_k ?_
  intro K2 hK2
  refine wp_region_f4 [(0, false), (1, false), (4, false), (2, true), (3, true), (5, true), (6, true)] [7] [] (fun _ => default) [0, 1, 99, 99, 1, 99, 99, 99] [] (.c hs.g2 (.c hs.g1 .n)) fn fun w_4 n4 => ?_
  replace hs := hs.bl n4
  apply wpFl_ld rfl rfl; (case h1 => intro w' hC K hK; have c0 := Bs.cell hC 0 rfl; have c1 := Bs.cell hC 1 rfl; have c2 := Bs.cell hC 2 rfl; have c3 := Bs.cell hC 3 rfl; have c4 := Bs.cell hC 4 rfl; have c5 := Bs.cell hC 5 rfl; have c6 := Bs.cell hC 6 rfl; have c7 := Bs.cell hC 7 rfl; go_big_op; exact hK); iterate 4 kernel_rfl
  apply wpFl_ld rfl rfl; (case h1 => intro w' hC K hK; have c0 := Bs.cell hC 0 rfl; have c1 := Bs.cell hC 1 rfl; have c2 := Bs.cell hC 2 rfl; have c3 := Bs.cell hC 3 rfl; have c4 := Bs.cell hC 4 rfl; have c5 := Bs.cell hC 5 rfl; have c6 := Bs.cell hC 6 rfl; have c7 := Bs.cell hC 7 rfl; go_big_op; exact hK); iterate 4 kernel_rfl
  apply wpFl_ld rfl rfl; (case h1 => intro w' hC K hK; have c0 := Bs.cell hC 0 rfl; have c1 := Bs.cell hC 1 rfl; have c2 := Bs.cell hC 2 rfl; have c3 := Bs.cell hC 3 rfl; have c4 := Bs.cell hC 4 rfl; have c5 := Bs.cell hC 5 rfl; have c6 := Bs.cell hC 6 rfl; have c7 := Bs.cell hC 7 rfl; go_big_op; exact hK); iterate 4 kernel_rfl
  refine fl fun w_5 n5 => ?_
  replace hs := hs.bl n5
  intro K hK
  have k0_5 := ((((kb n1).b n2).b n3).b n4).b n5
  replace hq1 := hq1.k k0_5
  replace hq2 := hq2.k k0_5
  replace hq3 := hq3.k k0_5
  replace hq4 := hq4.k k0_5
  go_big_op
  go_fit (r7Conj_ok (CN.mk' hq1 hq2 hq3 hq4) (by omega) (by omega) (by omega) (by omega) HQ.out.1 HQ.out.2)
  rintro e w_6 ⟨_, rfl, ⟨n_ga1, o_ga1, k_ga1, c_ga1, n_ga2, o_ga2, k_ga2, c_ga2, n_ga3, o_ga3, k_ga3, c_ga3, n_ga4, o_ga4, k_ga4, c_ga4, rfl, ga1, ga2, ga3, ga4⟩, hb_6⟩
  replace hs := hs.bl hb_6
  have Lga1 := hide (ga1.lenOf ((r_len (HQ.out.1) rfl (hq1.len) (hq2.len)).1))
  have Lga2 := hide (ga2.lenOf ((r_len (HQ.out.1) rfl (hq1.len) (hq2.len)).2))
  have Lga3 := hide (ga3.lenOf ((r_len (HQ.out.2) (rv_neg1 _ _) (zlen_neg (hq3.len)) (hq4.len)).1))
  have Lga4 := hide (ga4.lenOf ((r_len (HQ.out.2) (rv_neg1 _ _) (zlen_neg (hq3.len)) (hq4.len)).2))
  refine hK _ _ rfl ⟨hb_6, (And.intro hs.g2 (And.intro hs.g1 trivial))⟩ ?_
  clear hK K
  refine fl fun w_7 n7 => ?_
  replace hs := hs.bl n7
  intro K hK
  have k0_7 := (k0_5.b hb_6).b n7
  replace ha1 := ha1.k k0_7
  replace ha2 := ha2.k k0_7
  replace ha3 := ha3.k k0_7
  replace ha4 := ha4.k k0_7
  have k6_7 := kb n7
  replace ga1 := ga1.k k6_7
  replace ga2 := ga2.k k6_7
  replace ga3 := ga3.k k6_7
  replace ga4 := ga4.k k6_7
  go_big_op
  go_fit (r7Mul_ok (CN.mk' ha1 ha2 ha3 ha4) (CN.mk' (ga1.zn Lga1.out) (ga2.zn Lga2.out) (ga3.zn Lga3.out) (ga4.zn Lga4.out)) (by omega) (by omega) (by omega) (by omega) (by omega) (by omega) (by omega) (by omega) HY.out.1 HY.out.2 (HD.out _) (HD.out _))
  rintro e w_8 ⟨_, rfl, ⟨n_gb1, o_gb1, k_gb1, c_gb1, n_gb2, o_gb2, k_gb2, c_gb2, n_gb3, o_gb3, k_gb3, c_gb3, n_gb4, o_gb4, k_gb4, c_gb4, rfl, gb1, gb2, gb3, gb4⟩, hb_8⟩
  replace hs := hs.bl hb_8
  have Lgb1 := hide (gb1.lenOf ((r7m_len (HY.out.1) (HY.out.2) ((HD.out _)) ((HD.out _)) (ha1.len) (ha2.len) (ha3.len) (ha4.len) (Lga1.out) (Lga2.out) (Lga3.out) (Lga4.out)).1))
  have Lgb2 := hide (gb2.lenOf ((r7m_len (HY.out.1) (HY.out.2) ((HD.out _)) ((HD.out _)) (ha1.len) (ha2.len) (ha3.len) (ha4.len) (Lga1.out) (Lga2.out) (Lga3.out) (Lga4.out)).2.1))
  have Lgb3 := hide (gb3.lenOf ((r7m_len (HY.out.1) (HY.out.2) ((HD.out _)) ((HD.out _)) (ha1.len) (ha2.len) (ha3.len) (ha4.len) (Lga1.out) (Lga2.out) (Lga3.out) (Lga4.out)).2.2.1))
  have Lgb4 := hide (gb4.lenOf ((r7m_len (HY.out.1) (HY.out.2) ((HD.out _)) ((HD.out _)) (ha1.len) (ha2.len) (ha3.len) (ha4.len) (Lga1.out) (Lga2.out) (Lga3.out) (Lga4.out)).2.2.2))
  simp only [rv_nd] at gb1 gb2 gb3 gb4 Lgb1 Lgb2 Lgb3 Lgb4
  refine hK _ _ rfl ⟨hb_8, (And.intro hs.g2 (And.intro hs.g1 trivial))⟩ ?_
  clear hK K
  refine fl fun w_9 n9 => ?_
  replace hs := hs.bl n9
  intro K hK
  have k5_9 := (((kb hb_6).b n7).b hb_8).b n9
  replace hq1 := hq1.k k5_9
  replace hq2 := hq2.k k5_9
  replace hq3 := hq3.k k5_9
  replace hq4 := hq4.k k5_9
  go_big_op
  go_fit (r7Norm_ok (CN.mk' hq1 hq2 hq3 hq4) (by omega) (by omega) (by omega) (by omega) HQ.out.1 HQ.out.2)
  rintro e w_10 ⟨_, rfl, ⟨n_gca, o_gca, k_gca, c_gca, n_gcb, o_gcb, k_gcb, c_gcb, rfl, gc1, gc2⟩, hb_10⟩
  replace hs := hs.bl hb_10
  have Lgc1 := hide (gc1.lenOf ((r7n_len (HQ.out.1) (HQ.out.2) (hq1.len) (hq2.len) (hq3.len) (hq4.len)).1))
  have Lgc2 := hide (gc2.lenOf ((r7n_len (HQ.out.1) (HQ.out.2) (hq1.len) (hq2.len) (hq3.len) (hq4.len)).2))
  refine hK _ _ rfl ⟨hb_10, (And.intro hs.g2 (And.intro hs.g1 trivial))⟩ ?_
  clear hK K
  refine fl fun w_11 n11 => ?_
  replace hs := hs.bl n11
  intro K hK
  have k8_11 := ((kb n9).b hb_10).b n11
  replace gb1 := gb1.k k8_11
  replace gb2 := gb2.k k8_11
  replace gb3 := gb3.k k8_11
  replace gb4 := gb4.k k8_11
  have k10_11 := kb n11
  replace gc1 := gc1.k k10_11
  replace gc2 := gc2.k k10_11
  go_big_op
  go_fit (r7Over_ok (.mk' (gb1.zn Lgb1.out) (gb2.zn Lgb2.out) (gb3.zn Lgb3.out) (gb4.zn Lgb4.out)) (.mk' (gc1.zn Lgc1.out) (gc2.zn Lgc2.out)) (by omega) (by omega) (by omega) (by omega) (by omega) (by omega) (HD.out _) (HD.out _) HN.out)
  rintro e w_12 ⟨_, rfl, ⟨n_r1, o_r1, k_r1, c_r1, n_r2, o_r2, k_r2, c_r2, n_r3, o_r3, k_r3, c_r3, n_r4, o_r4, k_r4, c_r4, rfl, r1, r2, r3, r4⟩, hb_12⟩
  replace hs := hs.bl hb_12
  have Lr1 := hide (r1.lenOf ((r_len (Int.mul_ne_zero HN.out (HD.out _)) (rv_quo _ _ _ _) (zlen_mul Lgb1.out Lgc2.out) (zlen_mul Lgc1.out Lgb2.out)).1))
  have Lr2 := hide (r2.lenOf ((r_len (Int.mul_ne_zero HN.out (HD.out _)) (rv_quo _ _ _ _) (zlen_mul Lgb1.out Lgc2.out) (zlen_mul Lgc1.out Lgb2.out)).2))
  have Lr3 := hide (r3.lenOf ((r_len (Int.mul_ne_zero HN.out (HD.out _)) (rv_quo _ _ _ _) (zlen_mul Lgb3.out Lgc2.out) (zlen_mul Lgc1.out Lgb4.out)).1))
  have Lr4 := hide (r4.lenOf ((r_len (Int.mul_ne_zero HN.out (HD.out _)) (rv_quo _ _ _ _) (zlen_mul Lgb3.out Lgc2.out) (zlen_mul Lgc1.out Lgb4.out)).2))
  simp only [rv_nd] at r1 r2 r3 r4 Lr1 Lr2 Lr3 Lr4
  refine hK _ _ rfl ⟨hb_12, (And.intro hs.g2 (And.intro hs.g1 trivial))⟩ ?_
  clear hK K
  refine e0 hs ?_; clear hs; intro w_13 hs n13
  clear ga1 ga2 ga3 ga4 gb1 gb2 gb3 gb4 gc1 gc2
  refine tl ?_
  intro K hK
  have xs := hs.g0
  have d0 : w_13.cell? ⟨p_b3, 0, none⟩ = some (.bool false) := hs.g0.cell 0 rfl
  have d1 : w_13.cell? ⟨p_b3, 1, none⟩ = some (.slice none 0 0) := hs.g0.cell 1 rfl
  have d2 : w_13.cell? ⟨p_b3, 2, none⟩ = some (.bool false) := hs.g0.cell 2 rfl
  have d3 : w_13.cell? ⟨p_b3, 3, none⟩ = some (.slice none 0 0) := hs.g0.cell 3 rfl
  have d4 : w_13.cell? ⟨p_b3, 4, none⟩ = some (.bool false) := hs.g0.cell 4 rfl
  have d5 : w_13.cell? ⟨p_b3, 5, none⟩ = some (.slice none 0 0) := hs.g0.cell 5 rfl
  have d6 : w_13.cell? ⟨p_b3, 6, none⟩ = some (.bool false) := hs.g0.cell 6 rfl
  have d7 : w_13.cell? ⟨p_b3, 7, none⟩ = some (.slice none 0 0) := hs.g0.cell 7 rfl
  have f0 := xs.free 0; have f1 := xs.free 1; have f2 := xs.free 2; have f3 := xs.free 3; have f4 := xs.free 4; have f5 := xs.free 5; have f6 := xs.free 6; have f7 := xs.free 7
  go_big_op
  have hd14 := xs.nod rfl rfl
  obtain ⟨w_14_0, eW, xs_0, ho_0⟩ : ∃ w', ((((w_13.setCell ⟨p_b3, 0, none⟩ (.bool n_r1)).setCell ⟨p_b3, 1, none⟩ (.slice o_r1 k_r1 c_r1)).setCell ⟨p_b3, 2, none⟩ (.bool n_r2)).setCell ⟨p_b3, 3, none⟩ (.slice o_r2 k_r2 c_r2)) = w' ∧ Bs w' p_b3 #[.bool n_r1, .slice o_r1 k_r1 c_r1, .bool n_r2, .slice o_r2 k_r2 c_r2, .bool false, .slice none 0 0, .bool false, .slice none 0 0] 28 ∧ Only p_b3 w_13 w' := xs.setN [(0, .bool n_r1), (1, .slice o_r1 k_r1 c_r1), (2, .bool n_r2), (3, .slice o_r2 k_r2 c_r2)]
  rw [eW]; clear eW
  obtain ⟨w_14, eW, xs', ho_4⟩ : ∃ w', ((((w_14_0.setCell ⟨p_b3, 4, none⟩ (.bool n_r3)).setCell ⟨p_b3, 5, none⟩ (.slice o_r3 k_r3 c_r3)).setCell ⟨p_b3, 6, none⟩ (.bool n_r4)).setCell ⟨p_b3, 7, none⟩ (.slice o_r4 k_r4 c_r4)) = w' ∧ Bs w' p_b3 #[.bool n_r1, .slice o_r1 k_r1 c_r1, .bool n_r2, .slice o_r2 k_r2 c_r2, .bool n_r3, .slice o_r3 k_r3 c_r3, .bool n_r4, .slice o_r4 k_r4 c_r4] 28 ∧ Only p_b3 w_14_0 w' := xs_0.setN [(4, .bool n_r3), (5, .slice o_r3 k_r3 c_r3), (6, .bool n_r4), (7, .slice o_r4 k_r4 c_r4)]
  rw [eW]; clear eW xs_0
  have ho14 := (ho_0.trans ho_4)
  clear ho_0 ho_4 d0 d1 d2 d3 d4 d5 d6 d7 f0 f1 f2 f3 f4 f5 f6 f7 xs
  replace hs := hs.u0 kb_b3 xs' ho14; clear xs'
  refine hK _ _ rfl (And.intro hs.g2 (And.intro hs.g1 True.intro)) ?_; clear hK K
  apply wpTail_end
  refine hK2 _ _ ?_
  refine wp_ret ?_
  try dsimp only [Exit.then, Exit.inBlock]
  have r0_0 : w_14.cell? ⟨p_b3, 0, none⟩ = some (.bool n_r1) := hs.g0.cell 0 rfl
  have r0_1 : w_14.cell? ⟨p_b3, 1, none⟩ = some (.slice o_r1 k_r1 c_r1) := hs.g0.cell 1 rfl
  have r0_2 : w_14.cell? ⟨p_b3, 2, none⟩ = some (.bool n_r2) := hs.g0.cell 2 rfl
  have r0_3 : w_14.cell? ⟨p_b3, 3, none⟩ = some (.slice o_r2 k_r2 c_r2) := hs.g0.cell 3 rfl
  have r0_4 : w_14.cell? ⟨p_b3, 4, none⟩ = some (.bool n_r3) := hs.g0.cell 4 rfl
  have r0_5 : w_14.cell? ⟨p_b3, 5, none⟩ = some (.slice o_r3 k_r3 c_r3) := hs.g0.cell 5 rfl
  have r0_6 : w_14.cell? ⟨p_b3, 6, none⟩ = some (.bool n_r4) := hs.g0.cell 6 rfl
  have r0_7 : w_14.cell? ⟨p_b3, 7, none⟩ = some (.slice o_r4 k_r4 c_r4) := hs.g0.cell 7 rfl
  refine bodyPost_ret (v := (.agg #[.bool n_r1, .slice o_r1 k_r1 c_r1, .bool n_r2, .slice o_r2 k_r2 c_r2, .bool n_r3, .slice o_r3 k_r3 c_r3, .bool n_r4, .slice o_r4 k_r4 c_r4])) (by simp [results, Tryz.results33, go_sem, r0_0, r0_1, r0_2, r0_3, r0_4, r0_5, r0_6, r0_7]) rfl ?_
  have k12_14 := (kb n13).o hd14 ho14
  replace r1 := r1.k k12_14
  replace r2 := r2.k k12_14
  replace r3 := r3.k k12_14
  replace r4 := r4.k k12_14
  exact ⟨_, rfl, .mk' (r1.zn (Nat.le_trans Lr1.out (by omega))) (r2.zn (Nat.le_trans Lr2.out (by omega))) (r3.zn (Nat.le_trans Lr3.out (by omega))) (r4.zn (Nat.le_trans Lr4.out (by omega))), hs.b⟩
set_option maxHeartbeats 4000000 in
set_option maxRecDepth 20000 in
theorem r7Null_yes (ha : CN w va x l y m u k v n) (hl : l ≤ 10000000) (hm : m ≤ 10000000) (hk : k ≤ 10000000) (hn : n ≤ 10000000) (h1 : x = 0) (h2 : u = 0) :
    Calls Tryz.prog 32 #[va] w fun e w' => e = .returned (.bool true) ∧ Below w.heap.size w w' := by
  have HC := hide (show x.sign * y.sign = 0 from by rw [h1]; exact Int.zero_mul _)
  have HD := hide (show u.sign * v.sign = 0 from by rw [h2]; exact Int.zero_mul _)
  clear h1 h2
  obtain ⟨n_0a, o_0a, k_0a, c_0a, n_0b, o_0b, k_0b, c_0b, n_0c, o_0c, k_0c, c_0c, n_0d, o_0d, k_0d, c_0d, rfl, ha1, ha2, ha3, ha4⟩ := ha
  go_enter Tryz.func32, Tryz.ntmps32
  have hs := St.nil w
  refine wp_seq_k ?_
  intro K1 hK1
  refine rg [0, 1] ?_
  refine sq ?_
  refine .al hs ?_; clear hs; intro p_b1 w_1 hs n1 kb_b1
  refine sq ?_
  refine .mv ?_
  apply wpSq_end
  refine hK1 _ _ ?_
  refine wp_seq_k ?_
  intro K2 hK2
  refine rg [0, 1, 2, 3, 4, 5, 6, 7, 8, 9, 10] ?_
  refine sq ?_
  refine .r0 ?_
  refine sq ?_
  refine .r4 ⟨hs.g0.cell 0 rfl, hs.g0.cell 1 rfl, hs.g0.cell 2 rfl, hs.g0.cell 3 rfl⟩ ?_
  refine sq ?_
  intro K hK
  have k0_1 := kb n1
  replace ha1 := ha1.k k0_1
  replace ha2 := ha2.k k0_1
  go_big_op
  go_fit (rfSign_any (.mk' ha1 ha2) (by omega) (by omega))
  rintro e w_2 ⟨rfl, hb_2⟩
  replace hs := hs.bl hb_2
  rw [HC.out]
  refine hK _ _ rfl trivial ?_
  clear hK K
  refine sq ?_
  refine .r0 ?_
  refine sq ?_
  refine .mv ?_
  refine sq ?_
  refine .r0 ?_
  refine sq ?_
  refine .r4 ⟨hs.g0.cell 4 rfl, hs.g0.cell 5 rfl, hs.g0.cell 6 rfl, hs.g0.cell 7 rfl⟩ ?_
  refine sq ?_
  intro K hK
  have k0_2 := k0_1.b hb_2
  replace ha3 := ha3.k k0_2
  replace ha4 := ha4.k k0_2
  go_big_op
  go_fit (rfSign_any (.mk' ha3 ha4) (by omega) (by omega))
  rintro e w_3 ⟨rfl, hb_3⟩
  replace hs := hs.bl hb_3
  rw [HD.out]
  refine hK _ _ rfl trivial ?_
  clear hK K
  refine sq ?_
  refine .r0 ?_
  refine sq ?_
  refine .r0 ?_
  refine sq ?_
  refine .mv ?_
  apply wpSq_end
  refine hK2 _ _ ?_
  refine wp_ret ?_
  try dsimp only [Exit.then, Exit.inBlock]
  refine bodyPost_ret (v := (.bool true)) (by simp [results, Tryz.results32, go_sem]) rfl ?_
  have hb := hs.b
  exact ⟨rfl, hb⟩
set_option maxHeartbeats 4000000 in
set_option maxRecDepth 20000 in
theorem r7Null_no1 (ha : CN w va x l y m u k v n) (hl : l ≤ 10000000) (hm : m ≤ 10000000) (hk : k ≤ 10000000) (hn : n ≤ 10000000) (h1 : x ≠ 0) (h2 : y ≠ 0) :
    Calls Tryz.prog 32 #[va] w fun e w' => e = .returned (.bool false) ∧ Below w.heap.size w w' := by
  obtain ⟨C, hC⟩ : ∃ C, x.sign * y.sign = C := ⟨_, rfl⟩
  have HC := hide hC
  have h5 : (C == 0) = false := by rw [← hC]; simp [h1, h2]
  have h6 : (C = 0) = False := by rw [← hC]; simp [h1, h2]
  clear hC h1 h2
  obtain ⟨n_0a, o_0a, k_0a, c_0a, n_0b, o_0b, k_0b, c_0b, n_0c, o_0c, k_0c, c_0c, n_0d, o_0d, k_0d, c_0d, rfl, ha1, ha2, ha3, ha4⟩ := ha
  go_enter Tryz.func32, Tryz.ntmps32
  have hs := St.nil w
  refine wp_seq_k ?_
  intro K1 hK1
  refine rg [0, 1] ?_
  refine sq ?_
  refine .al hs ?_; clear hs; intro p_b1 w_1 hs n1 kb_b1
  refine sq ?_
  refine .mv ?_
  apply wpSq_end
  refine hK1 _ _ ?_
  refine wp_seq_k ?_
  intro K2 hK2
  refine rg [0, 1, 2, 3, 4, 5, 6, 7, 8, 9, 10] ?_
  refine sq ?_
  refine .r0 ?_
  refine sq ?_
  refine .r4 ⟨hs.g0.cell 0 rfl, hs.g0.cell 1 rfl, hs.g0.cell 2 rfl, hs.g0.cell 3 rfl⟩ ?_
  refine sq ?_
  intro K hK
  have k0_1 := kb n1
  replace ha1 := ha1.k k0_1
  replace ha2 := ha2.k k0_1
  go_big_op
  go_fit (rfSign_any (.mk' ha1 ha2) (by omega) (by omega))
  rintro e w_2 ⟨rfl, hb_2⟩
  replace hs := hs.bl hb_2
  rw [HC.out]
  refine hK _ _ rfl trivial ?_
  clear hK K
  refine sq ?_
  refine .r0 ?_
  refine sq ?_
  refine .mv ?_
  refine sk ?_
  refine sk ?_
  refine sk ?_
  refine sk ?_
  refine sq ?_
  refine .r0 ?_
  refine sq ?_
  refine .mv ?_
  apply wpSq_end
  refine hK2 _ _ ?_
  refine wp_ret ?_
  try dsimp only [Exit.then, Exit.inBlock]
  refine bodyPost_ret (v := (.bool false)) (by simp [results, Tryz.results32, go_sem]) rfl ?_
  have hb := hs.b
  exact ⟨rfl, hb⟩
set_option maxHeartbeats 4000000 in
set_option maxRecDepth 20000 in
theorem r7Null_no2 (ha : CN w va x l y m u k v n) (hl : l ≤ 10000000) (hm : m ≤ 10000000) (hk : k ≤ 10000000) (hn : n ≤ 10000000) (h1 : x = 0) (h2 : u ≠ 0) (h3 : v ≠ 0) :
    Calls Tryz.prog 32 #[va] w fun e w' => e = .returned (.bool false) ∧ Below w.heap.size w w' := by
  have HC := hide (show x.sign * y.sign = 0 from by rw [h1]; exact Int.zero_mul _)
  obtain ⟨D, hD⟩ : ∃ D, u.sign * v.sign = D := ⟨_, rfl⟩
  have HD := hide hD
  have h5 : (D == 0) = false := by rw [← hD]; simp [h2, h3]
  have h6 : (D = 0) = False := by rw [← hD]; simp [h2, h3]
  clear hD h2 h3
  clear h1
  obtain ⟨n_0a, o_0a, k_0a, c_0a, n_0b, o_0b, k_0b, c_0b, n_0c, o_0c, k_0c, c_0c, n_0d, o_0d, k_0d, c_0d, rfl, ha1, ha2, ha3, ha4⟩ := ha
  go_enter Tryz.func32, Tryz.ntmps32
  have hs := St.nil w
  refine wp_seq_k ?_
  intro K1 hK1
  refine rg [0, 1] ?_
  refine sq ?_
  refine .al hs ?_; clear hs; intro p_b1 w_1 hs n1 kb_b1
  refine sq ?_
  refine .mv ?_
  apply wpSq_end
  refine hK1 _ _ ?_
  refine wp_seq_k ?_
  intro K2 hK2
  refine rg [0, 1, 2, 3, 4, 5, 6, 7, 8, 9, 10] ?_
  refine sq ?_
  refine .r0 ?_
  refine sq ?_
  refine .r4 ⟨hs.g0.cell 0 rfl, hs.g0.cell 1 rfl, hs.g0.cell 2 rfl, hs.g0.cell 3 rfl⟩ ?_
  refine sq ?_
  intro K hK
  have k0_1 := kb n1
  replace ha1 := ha1.k k0_1
  replace ha2 := ha2.k k0_1
  go_big_op
  go_fit (rfSign_any (.mk' ha1 ha2) (by omega) (by omega))
  rintro e w_2 ⟨rfl, hb_2⟩
  replace hs := hs.bl hb_2
  rw [HC.out]
  refine hK _ _ rfl trivial ?_
  clear hK K
  refine sq ?_
  refine .r0 ?_
  refine sq ?_
  refine .mv ?_
  refine sq ?_
  refine .r0 ?_
  refine sq ?_
  refine .r4 ⟨hs.g0.cell 4 rfl, hs.g0.cell 5 rfl, hs.g0.cell 6 rfl, hs.g0.cell 7 rfl⟩ ?_
  refine sq ?_
  intro K hK
  have k0_2 := k0_1.b hb_2
  replace ha3 := ha3.k k0_2
  replace ha4 := ha4.k k0_2
  go_big_op
  go_fit (rfSign_any (.mk' ha3 ha4) (by omega) (by omega))
  rintro e w_3 ⟨rfl, hb_3⟩
  replace hs := hs.bl hb_3
  rw [HD.out]
  refine hK _ _ rfl trivial ?_
  clear hK K
  refine sq ?_
  refine .r0 ?_
  refine sq ?_
  refine .r0 ?_
  refine sq ?_
  refine .mv ?_
  apply wpSq_end
  refine hK2 _ _ ?_
  refine wp_ret ?_
  try dsimp only [Exit.then, Exit.inBlock]
  refine bodyPost_ret (v := (.bool false)) (by simp [results, Tryz.results32, go_sem]) rfl ?_
  have hb := hs.b
  exact ⟨rfl, hb⟩
end
end Go.Proofs.YthlhekkcjficdaaGreatDoor


/- gfrac: the law's first look. -/
namespace Go.Proofs.YthlhekkcjficdaaGreatDoor
open Go Go.RowKit Dig
set_option linter.unusedVariables false
theorem qts_12 : qts 1 2 = ⟨#[49, 47, 50]⟩ := by
  have h1 : qN 1 2 = 1 := by decide
  have h2 : qD 1 2 = 2 := by decide
  unfold qts
  rw [h1, h2, if_neg (by decide)]
  unfold zts ztx
  rw [if_neg (by decide), if_neg (by decide), show Int.natAbs 1 = 1 from rfl, show Int.natAbs 2 = 2 from rfl, dec1 1 (by decide), dec1 2 (by decide)]
  rfl
theorem qts_34 : qts (-3) 4 = ⟨#[45, 51, 47, 52]⟩ := by
  have h1 : qN (-3) 4 = -3 := by decide
  have h2 : qD (-3) 4 = 4 := by decide
  unfold qts
  rw [h1, h2, if_neg (by decide)]
  unfold zts ztx
  rw [if_pos (by decide), if_neg (by decide), show Int.natAbs (-3) = 3 from rfl, show Int.natAbs 4 = 4 from rfl, dec1 3 (by decide), dec1 4 (by decide)]
  rfl
section
variable {w : World} {va vb : Value} {l m k n : Nat}
set_option maxHeartbeats 4000000 in
set_option maxRecDepth 20000 in
theorem gfText_a (ha : CN w va 1 l 2 m (-3) k 4 n) (hl : l ≤ 10000000) (hm : m ≤ 10000000) (hk : k ≤ 10000000) (hn : n ≤ 10000000) (htab : Lib.TabIs Tryz.prog w p10 .u64 Lib.pow10Tab) :
    Calls Tryz.prog 22 #[va] w fun e w' => e = .returned (.tuple #[.string ⟨#[49, 47, 50, 45, 51, 47, 52, 105]⟩, .int .i64 0]) ∧ Below w.heap.size w w' := by
  have htabs := Lib.tabBelow_of_tabIs htab
  have HR := hide qts_12
  have HI := hide qts_34
  have HM := hide (show minusB ⟨#[45, 51, 47, 52]⟩ = true from by decide +kernel)
  obtain ⟨n_0a, o_0a, k_0a, c_0a, n_0b, o_0b, k_0b, c_0b, n_0c, o_0c, k_0c, c_0c, n_0d, o_0d, k_0d, c_0d, rfl, ha1, ha2, ha3, ha4⟩ := ha
  go_enter Tryz.func22, Tryz.ntmps22
  have hs := St.nil w
  refine wp_seq_k ?_
  intro K1 hK1
  refine rg [0, 1, 2] ?_
  refine sq ?_
  refine .al hs ?_; clear hs; intro p_b1 w_1 hs n1 kb_b1
  refine sq ?_
  refine .mv ?_
  refine sq ?_
  refine .mv ?_
  apply wpSq_end
  refine hK1 _ _ ?_
  refine wp_seq_k ?_
  intro K2 hK2
  refine rg [0, 1, 2, 3, 4, 5, 6, 7, 8] ?_
  refine sq ?_
  refine .r0 ?_
  refine sq ?_
  intro K hK
  have x_b1 := hs.g0
  have k0_1 := kb n1
  replace ha1 := ha1.k k0_1
  replace ha2 := ha2.k k0_1
  replace ha3 := ha3.k k0_1
  replace ha4 := ha4.k k0_1
  have hb := hs.b
  go_big_op
  go_fit (bothstring_ok (fun _ _ ↦ by kernel_rfl) (fun w1 h ↦ HR.out ▸ ctext1_ok (.mk' (x_b1.bl h) (ha1.bl h) (ha2.bl h) (ha3.bl h) (ha4.bl h)) hl hm hk hn (by decide) (htabs _ (hb.trans (h.mono hb.size)))) (fun w1 h ↦ HI.out ▸ ctext2_ok (.mk' (x_b1.bl h) (ha1.bl h) (ha2.bl h) (ha3.bl h) (ha4.bl h)) hl hm hk hn (by decide) (htabs _ (hb.trans (h.mono hb.size)))))
  rintro e w_2 ⟨rfl, hb_2⟩
  clear x_b1 hb
  replace hs := hs.bl hb_2
  refine hK _ _ rfl trivial ?_
  clear hK K
  refine sq ?_
  refine .mv ?_
  refine sq ?_
  refine .r0 ?_
  refine sq ?_
  refine .r0 ?_
  refine sq ?_
  refine .r0 ?_
  refine sq ?_
  refine .mv ?_
  refine sq ?_
  refine .mv ?_
  refine sq ?_
  refine .mv ?_
  apply wpSq_end
  refine hK2 _ _ ?_
  refine wp_seq_k ?_
  intro K3 hK3
  refine wp_seq_k ?_
  intro K4 hK4
  refine rg [0, 1, 2, 3, 4, 5] ?_
  refine sq ?_
  refine .mv ?_
  refine sq ?_
  refine .r0 ?_
  refine sq ?_
  refine .mv ?_
  refine sq ?_
  refine .mv ?_
  refine sq ?_
  refine .r0 ?_
  refine sq ?_
  refine .r0 ?_
  apply wpSq_end
  refine hK4 _ _ ?_
  refine cf ?_
  refine wp_skip ?_
  refine hK3 _ _ ?_
  refine wp_seq_k ?_
  intro K5 hK5
  refine rg [0, 1] ?_
  refine sq ?_
  refine .mv ?_
  refine sq ?_
  refine .mv ?_
  apply wpSq_end
  refine hK5 _ _ ?_
  refine wp_seq_k ?_
  intro K6 hK6
  refine wp_seq_k ?_
  intro K7 hK7
  refine rg [0, 1] ?_
  refine sq ?_
  refine .mv ?_
  refine sq ?_
  refine .r0 ?_
  apply wpSq_end
  refine hK7 _ _ ?_
  refine ct ?_
  refine rg [0, 1, 2] ?_
  refine sq ?_
  refine .mv ?_
  refine sq ?_
  refine .mv ?_
  refine sq ?_
  refine .mv ?_
  apply wpSq_end
  refine hK6 _ _ ?_
  refine wp_seq_k ?_
  intro K8 hK8
  refine rg [0, 1, 2, 3, 4, 5, 6] ?_
  refine sq ?_
  refine .mv ?_
  refine sq ?_
  intro K hK
  go_big_op
  go_fit (scut1 _ _ (by decide) HM.out)
  rintro e w_3 ⟨rfl, e_3⟩
  (first | rw [e_3] | rw [← e_3]); clear e_3 w_3
  refine hK _ _ rfl trivial ?_
  clear hK K
  refine sq ?_
  refine .mv ?_
  refine sq ?_
  refine .r0 ?_
  refine sq ?_
  refine .r0 ?_
  refine sq ?_
  refine .mv ?_
  refine sq ?_
  refine .mv ?_
  apply wpSq_end
  refine hK8 _ _ ?_
  refine wp_seq_k ?_
  intro K9 hK9
  refine wp_seq_k ?_
  intro K10 hK10
  refine rg [0] ?_
  refine sq ?_
  refine .mv ?_
  apply wpSq_end
  refine hK10 _ _ ?_
  refine ct ?_
  refine rg [0] ?_
  refine sq ?_
  refine .mv ?_
  apply wpSq_end
  refine hK9 _ _ ?_
  refine wp_seq_k ?_
  intro K11 hK11
  refine wp_seq_k ?_
  intro K12 hK12
  refine rg [0, 1] ?_
  refine sq ?_
  refine .mv ?_
  refine sq ?_
  refine .r0 ?_
  apply wpSq_end
  refine hK12 _ _ ?_
  refine wp_cond_false (congrArg Value.bool (show _ = false from (by decide +kernel))) ?_
  refine wp_skip ?_
  refine hK11 _ _ ?_
  refine wp_seq_k ?_
  intro K13 hK13
  refine rg [0, 1, 2, 3, 4, 5, 6, 7] ?_
  refine sq ?_
  refine .mv ?_
  refine sq ?_
  refine .mv ?_
  refine sq ?_
  refine .r0 ?_
  refine sq ?_
  refine .mv ?_
  refine sq ?_
  refine .r0 ?_
  refine sq ?_
  refine .r0 ?_
  refine sq ?_
  refine .mv ?_
  refine sq ?_
  refine .mv ?_
  apply wpSq_end
  refine hK13 _ _ ?_
  refine wp_ret ?_
  try dsimp only [Exit.then, Exit.inBlock]
  refine bodyPost_ret (v := (.tuple #[.string (⟨#[49, 47, 50]⟩ ++ ⟨#[45]⟩ ++ ByteArray.extract ⟨#[45, 51, 47, 52]⟩ 1 4 ++ ⟨#[105]⟩), .int .i64 0])) (by simp [results, Tryz.results22, go_sem]) rfl ?_
  have hb := hs.b
  exact ⟨by kernel_rfl, hb⟩
end
end Go.Proofs.YthlhekkcjficdaaGreatDoor


/- gfrac: the law's first look. -/
namespace Go.Proofs.YthlhekkcjficdaaGreatDoor
open Go Go.RowKit Dig
set_option linter.unusedVariables false
theorem aw_1 : ((rv 1 1 * rv 1 1 - rv 0 1 * -rv 1 1) / (rv 1 1 * rv 1 1 + rv 1 1 * rv 1 1)) = rv 1 2 := by decide +kernel
theorem aw_2 : ((rv 1 1 * -rv 1 1 + rv 0 1 * rv 1 1) / (rv 1 1 * rv 1 1 + rv 1 1 * rv 1 1)) = rv (-1) 2 := by decide +kernel
theorem aw_3 : (rv 1 2).num = 1 ∧ ((rv 1 2).den : Int) = 2 ∧ (rv (-1) 2).num = -1 ∧ ((rv (-1) 2).den : Int) = 2 := by decide +kernel
set_option maxHeartbeats 4000000 in
set_option maxRecDepth 20000 in
theorem awake7_any (w : World) (htab : Lib.TabIs Tryz.prog w p10 .u64 Lib.pow10Tab) :
    Calls Tryz.prog 13 #[] w fun e w' => e = .returned (.bool true) ∧ Below w.heap.size w w' := by
  have htabs := Lib.tabBelow_of_tabIs htab
  have L := fun (n : Int) (h : n.natAbs ≤ 100) => zlen_i n (by omega) (by omega)
  have L0 := hide (L 0 (by decide))
  have L1 := hide (L 1 (by decide))
  have L2 := hide (L 2 (by decide))
  have L3 := hide (L (-3) (by decide))
  have L4 := hide (L 4 (by decide))
  have L5 := hide (L (-1) (by decide))
  obtain ⟨A, hA⟩ : ∃ A, rv 1 2 = A := ⟨_, rfl⟩
  obtain ⟨B, hB⟩ : ∃ B, rv (-1) 2 = B := ⟨_, rfl⟩
  have HE := hide (show _ ∧ _ from ⟨aw_1.trans hA, aw_2.trans hB⟩)
  have HN := hide (show A.num = 1 ∧ (A.den : Int) = 2 ∧ B.num = -1 ∧ (B.den : Int) = 2 from hA ▸ hB ▸ aw_3)
  have HL := hide (show ((dig A.num.natAbs).length ≤ 2 ∧ (dig (A.den : Int).natAbs).length ≤ 2) ∧ ((dig B.num.natAbs).length ≤ 2 ∧ (dig (B.den : Int).natAbs).length ≤ 2) from by rw [HN.out.1, HN.out.2.1, HN.out.2.2.1, HN.out.2.2.2]; exact ⟨⟨L1.out, L2.out⟩, L5.out, L2.out⟩)
  clear L hA hB
  go_enter Tryz.func13, Tryz.ntmps13
  have hs := St.nil w
  refine wp_seq_k ?_
  intro K1 hK1
  refine rg [0] ?_
  refine sq ?_
  refine .mv ?_
  apply wpSq_end
  refine hK1 _ _ ?_
  refine wp_seq_k ?_
  intro K2 hK2
  refine rg [0, 1, 2, 3, 4, 5, 6, 7, 8] ?_
  refine sq ?_
  intro K hK
  go_big_op
  go_fit (c7_any 1 1 0 1 _ (by decide) (by decide) (by decide) (by decide) (by decide) (by decide) (by decide) (by decide))
  rintro e w_1 ⟨_, rfl, ⟨n_a1, o_a1, k_a1, c_a1, n_a2, o_a2, k_a2, c_a2, n_a3, o_a3, k_a3, c_a3, n_a4, o_a4, k_a4, c_a4, rfl, a1, a2, a3, a4⟩, hb_1⟩
  replace hs := hs.bl hb_1
  have La1 := hide (a1.lenOf (L1.out))
  have La2 := hide (a2.lenOf (L1.out))
  have La3 := hide (a3.lenOf (L0.out))
  have La4 := hide (a4.lenOf (L1.out))
  refine hK _ _ rfl trivial ?_
  clear hK K
  refine sq ?_
  intro K hK
  go_big_op
  go_fit (c7_any 1 1 1 1 _ (by decide) (by decide) (by decide) (by decide) (by decide) (by decide) (by decide) (by decide))
  rintro e w_2 ⟨_, rfl, ⟨n_b1, o_b1, k_b1, c_b1, n_b2, o_b2, k_b2, c_b2, n_b3, o_b3, k_b3, c_b3, n_b4, o_b4, k_b4, c_b4, rfl, b1, b2, b3, b4⟩, hb_2⟩
  replace hs := hs.bl hb_2
  have Lb1 := hide (b1.lenOf (L1.out))
  have Lb2 := hide (b2.lenOf (L1.out))
  have Lb3 := hide (b3.lenOf (L1.out))
  have Lb4 := hide (b4.lenOf (L1.out))
  refine hK _ _ rfl trivial ?_
  clear hK K
  refine sq ?_
  intro K hK
  have k1_2 := kb hb_2
  replace a1 := a1.k k1_2
  replace a2 := a2.k k1_2
  replace a3 := a3.k k1_2
  replace a4 := a4.k k1_2
  go_big_op
  go_fit (gfQuo_ok (CN.mk' (a1.zn La1.out) (a2.zn La2.out) (a3.zn La3.out) (a4.zn La4.out)) (CN.mk' (b1.zn Lb1.out) (b2.zn Lb2.out) (b3.zn Lb3.out) (b4.zn Lb4.out)) (by omega) (by omega) (by omega) (by omega) (by omega) (by omega) (by omega) (by omega) (by decide) (by decide) (by decide) (by decide) (by decide))
  rintro e w_3 ⟨_, rfl, ⟨n_c1, o_c1, k_c1, c_c1, n_c2, o_c2, k_c2, c_c2, n_c3, o_c3, k_c3, c_c3, n_c4, o_c4, k_c4, c_c4, rfl, c1, c2, c3, c4⟩, hb_3⟩
  replace hs := hs.bl hb_3
  rw [HE.out.1] at c1 c2
  rw [HE.out.2] at c3 c4
  refine hK _ _ rfl trivial ?_
  clear hK K
  refine sq ?_
  refine .mv ?_
  refine sq ?_
  refine .r0 ?_
  refine sq ?_
  refine .r0 ?_
  refine sq ?_
  refine .al hs ?_; clear hs; intro p_b1 w_4 hs n4 kb_b1
  clear a1 a2 a3 a4 b1 b2 b3 b4
  refine sq ?_
  intro K hK
  have xs := hs.g0
  have d0 : w_4.cell? ⟨p_b1, 0, none⟩ = some (.bool false) := hs.g0.cell 0 rfl
  have d1 : w_4.cell? ⟨p_b1, 1, none⟩ = some (.slice none 0 0) := hs.g0.cell 1 rfl
  have d2 : w_4.cell? ⟨p_b1, 2, none⟩ = some (.bool false) := hs.g0.cell 2 rfl
  have d3 : w_4.cell? ⟨p_b1, 3, none⟩ = some (.slice none 0 0) := hs.g0.cell 3 rfl
  have d4 : w_4.cell? ⟨p_b1, 4, none⟩ = some (.bool false) := hs.g0.cell 4 rfl
  have d5 : w_4.cell? ⟨p_b1, 5, none⟩ = some (.slice none 0 0) := hs.g0.cell 5 rfl
  have d6 : w_4.cell? ⟨p_b1, 6, none⟩ = some (.bool false) := hs.g0.cell 6 rfl
  have d7 : w_4.cell? ⟨p_b1, 7, none⟩ = some (.slice none 0 0) := hs.g0.cell 7 rfl
  have f0 := xs.free 0; have f1 := xs.free 1; have f2 := xs.free 2; have f3 := xs.free 3; have f4 := xs.free 4; have f5 := xs.free 5; have f6 := xs.free 6; have f7 := xs.free 7
  go_big_op
  have hd5 := xs.nod rfl rfl
  obtain ⟨w_5_0, eW, xs_0, ho_0⟩ : ∃ w', ((((w_4.setCell ⟨p_b1, 0, none⟩ (.bool n_c1)).setCell ⟨p_b1, 1, none⟩ (.slice o_c1 k_c1 c_c1)).setCell ⟨p_b1, 2, none⟩ (.bool n_c2)).setCell ⟨p_b1, 3, none⟩ (.slice o_c2 k_c2 c_c2)) = w' ∧ Bs w' p_b1 #[.bool n_c1, .slice o_c1 k_c1 c_c1, .bool n_c2, .slice o_c2 k_c2 c_c2, .bool false, .slice none 0 0, .bool false, .slice none 0 0] 28 ∧ Only p_b1 w_4 w' := xs.setN [(0, .bool n_c1), (1, .slice o_c1 k_c1 c_c1), (2, .bool n_c2), (3, .slice o_c2 k_c2 c_c2)]
  rw [eW]; clear eW
  obtain ⟨w_5, eW, xs', ho_4⟩ : ∃ w', ((((w_5_0.setCell ⟨p_b1, 4, none⟩ (.bool n_c3)).setCell ⟨p_b1, 5, none⟩ (.slice o_c3 k_c3 c_c3)).setCell ⟨p_b1, 6, none⟩ (.bool n_c4)).setCell ⟨p_b1, 7, none⟩ (.slice o_c4 k_c4 c_c4)) = w' ∧ Bs w' p_b1 #[.bool n_c1, .slice o_c1 k_c1 c_c1, .bool n_c2, .slice o_c2 k_c2 c_c2, .bool n_c3, .slice o_c3 k_c3 c_c3, .bool n_c4, .slice o_c4 k_c4 c_c4] 28 ∧ Only p_b1 w_5_0 w' := xs_0.setN [(4, .bool n_c3), (5, .slice o_c3 k_c3 c_c3), (6, .bool n_c4), (7, .slice o_c4 k_c4 c_c4)]
  rw [eW]; clear eW xs_0
  have ho5 := (ho_0.trans ho_4)
  clear ho_0 ho_4 d0 d1 d2 d3 d4 d5 d6 d7 f0 f1 f2 f3 f4 f5 f6 f7 xs
  replace hs := hs.u0 kb_b1 xs' ho5; clear xs'
  refine hK _ _ rfl trivial ?_; clear hK K
  refine sq ?_
  refine .mv ?_
  apply wpSq_end
  refine hK2 _ _ ?_
  refine wp_seq_k ?_
  intro K3 hK3
  refine rg [0, 1, 2, 3, 4, 5, 6] ?_
  refine sq ?_
  intro K hK
  go_big_op
  go_fit (c7_any 1 2 (-3) 4 _ (by decide) (by decide) (by decide) (by decide) (by decide) (by decide) (by decide) (by decide))
  rintro e w_6 ⟨_, rfl, ⟨n_d1, o_d1, k_d1, c_d1, n_d2, o_d2, k_d2, c_d2, n_d3, o_d3, k_d3, c_d3, n_d4, o_d4, k_d4, c_d4, rfl, d1, d2, d3, d4⟩, hb_6⟩
  replace hs := hs.bl hb_6
  have Ld1 := hide (d1.lenOf (L1.out))
  have Ld2 := hide (d2.lenOf (L2.out))
  have Ld3 := hide (d3.lenOf (L3.out))
  have Ld4 := hide (d4.lenOf (L4.out))
  refine hK _ _ rfl trivial ?_
  clear hK K
  refine sq ?_
  intro K hK
  have hb := hs.b
  go_big_op
  go_fit (gfText_a (.mk' (d1.zn L1.out) (d2.zn L2.out) (d3.zn L3.out) (d4.zn L4.out)) (by decide) (by decide) (by decide) (by decide) (htabs _ hb))
  rintro e w_7 ⟨rfl, hb_7⟩
  clear hb
  replace hs := hs.bl hb_7
  refine hK _ _ rfl trivial ?_
  clear hK K
  refine sq ?_
  refine .mv ?_
  refine sq ?_
  refine .r0 ?_
  refine sq ?_
  refine .r0 ?_
  refine sq ?_
  refine .mv ?_
  refine sq ?_
  refine .mv ?_
  apply wpSq_end
  refine hK3 _ _ ?_
  refine wp_seq_k ?_
  intro K4 hK4
  refine wp_region_f4 [(0, false), (1, false), (2, true), (3, true), (4, false), (5, false), (6, false), (7, false), (8, false), (9, false), (10, false), (11, false), (12, false)] [] [] (fun _ => default) [0, 99, 99, 99, 99, 99, 99, 99, 99, 99, 99, 99, 99] [] (.c hs.g0 .n) fn fun w_8 n8 => ?_
  replace hs := hs.bl n8
  apply wpFl_ld rfl rfl; (case h1 => intro w' hC K hK; have c0 := Bs.cell hC 0 rfl; have c1 := Bs.cell hC 1 rfl; have c2 := Bs.cell hC 2 rfl; have c3 := Bs.cell hC 3 rfl; have c4 := Bs.cell hC 4 rfl; have c5 := Bs.cell hC 5 rfl; have c6 := Bs.cell hC 6 rfl; have c7 := Bs.cell hC 7 rfl; go_big_op; exact hK); iterate 4 kernel_rfl
  refine fmv ?_
  refine fl fun w_9 n9 => ?_
  replace hs := hs.bl n9
  intro K hK
  go_big_op
  go_fit (c7_any 1 2 (-1) 2 _ (by decide) (by decide) (by decide) (by decide) (by decide) (by decide) (by decide) (by decide))
  rintro e w_10 ⟨_, rfl, ⟨n_q1, o_q1, k_q1, c_q1, n_q2, o_q2, k_q2, c_q2, n_q3, o_q3, k_q3, c_q3, n_q4, o_q4, k_q4, c_q4, rfl, q1, q2, q3, q4⟩, hb_10⟩
  replace hs := hs.bl hb_10
  rw [← HN.out.1] at q1
  rw [← HN.out.2.1] at q2
  rw [← HN.out.2.2.1] at q3
  rw [← HN.out.2.2.2] at q4
  refine hK _ _ rfl ⟨hb_10, (And.intro hs.g0 trivial)⟩ ?_
  clear hK K
  refine fl fun w_11 n11 => ?_
  replace hs := hs.bl n11
  intro K hK
  have k3_11 := (((((((kb n4).o hd5 ho5).b hb_6).b hb_7).b n8).b n9).b hb_10).b n11
  replace c1 := c1.k k3_11
  replace c2 := c2.k k3_11
  replace c3 := c3.k k3_11
  replace c4 := c4.k k3_11
  have k10_11 := kb n11
  replace q1 := q1.k k10_11
  replace q2 := q2.k k10_11
  replace q3 := q3.k k10_11
  replace q4 := q4.k k10_11
  go_big_op
  go_fit (told7_ok (.mk' c1 c2 c3 c4) (.mk' (q1.zn HL.out.1.1) (q2.zn HL.out.1.2) (q3.zn HL.out.2.1) (q4.zn HL.out.2.2)) (by decide) (by decide) (by decide) (by decide))
  rintro e w_12 ⟨rfl, hb_12⟩
  replace hs := hs.bl hb_12
  refine hK _ _ rfl ⟨hb_12, (And.intro hs.g0 trivial)⟩ ?_
  clear hK K
  refine fmv ?_
  refine fmv ?_
  refine f0 ?_
  refine f0 ?_
  refine fmv ?_
  refine fmv ?_
  refine f0 ?_
  refine f0 ?_
  refine fmv ?_
  refine e0 hs ?_; clear hs; intro w_13 hs n13
  clear d1 d2 d3 d4 q1 q2 q3 q4
  apply wpTail_end
  refine hK4 _ _ ?_
  refine wp_ret ?_
  try dsimp only [Exit.then, Exit.inBlock]
  refine bodyPost_ret (v := (.bool true)) (by simp [results, Tryz.results13, go_sem]) rfl ?_
  have hb := hs.b
  exact ⟨rfl, hb⟩
end Go.Proofs.YthlhekkcjficdaaGreatDoor


/- What GfracField asks besides. -/
namespace Go.Proofs.YthlhekkcjficdaaGreatDoor
open Go Go.RowKit Dig
set_option linter.unusedVariables false
section
variable {w : World} {va vb : Value} {x y u v p q s t : Int} {l m k n l2 m2 k2 n2 : Nat}
end
end Go.Proofs.YthlhekkcjficdaaGreatDoor

