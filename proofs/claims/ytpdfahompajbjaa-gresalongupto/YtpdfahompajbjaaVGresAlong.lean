/- GresAlong: the law's walk. -/
import Derived.Test.YtpdfahompajbjaaH8ToH10
namespace Go.Proofs.Ytpdfahompajbjaa
open Go Go.RowKit Dig
set_option linter.unusedVariables false

theorem i64_and_15 (n : Int) : bits .and .i64 n 15 = n % 16 := by
  have h1 : (BitVec.ofInt 64 15).toNat = 2 ^ 4 - 1 := by decide
  have key : (BitVec.ofInt 64 n &&& BitVec.ofInt 64 15).toNat = (n % ((2 ^ 64 : Nat) : Int)).toNat % 2 ^ 4 := by
    rw [BitVec.toNat_and, BitVec.toNat_ofInt, h1, Nat.and_two_pow_sub_one_eq_mod]
  show IntKind.i64.wrap ((BitVec.ofInt 64 n &&& BitVec.ofInt 64 15).toNat : Nat) = n % 16
  rw [key, IntKind.wrap_i64]
  omega
section
variable {w : World} {va vb vc : Value} {x y u v a b : Int} {l m k n : Nat}
set_option maxHeartbeats 8000000 in
set_option maxRecDepth 20000 in
theorem galong_zero (ha : PN w va x 1048576 y 1048576) (hc : PN w vc a 1048576 b 1048576) (hq : PN w vb 0 1048576 0 1048576) (N : Int) :
    Calls Try.prog 4 #[va, vc, vb, .int .i64 N] w fun e w' => e = .returned (.bool true) ∧ Below w.heap.size w w' := by
  have E := hide (show gN 0 0 = 0 from rfl)
  obtain ⟨n_0a, o_0a, k_0a, c_0a, n_0b, o_0b, k_0b, c_0b, rfl, ha1, ha2⟩ := ha
  obtain ⟨n_1a, o_1a, k_1a, c_1a, n_1b, o_1b, k_1b, c_1b, rfl, hc1, hc2⟩ := hc
  obtain ⟨n_2a, o_2a, k_2a, c_2a, n_2b, o_2b, k_2b, c_2b, rfl, hq1, hq2⟩ := hq
  go_enter Try.func4, Try.ntmps4
  have hb := Below.refl w.heap.size w
  refine wp_seq_k ?_
  intro K1 hK1
  refine wp_region_sq [0, 1, 2, 3] (by kernel_rfl) ?_
  refine wpSq_call rfl (by kernel_rfl) fun K hK => ?_
  go_big_op
  obtain ⟨p_b1, w_1, eP, eW, x_b1, hn, kb_b1⟩ := newBox w #[.bool n_0a, .slice o_0a k_0a c_0a, .bool n_0b, .slice o_0b k_0b c_0b] 26 hb.size
  rw [eW, eP]
  clear eW eP
  replace ha1 := ha1.bl hn; replace ha2 := ha2.bl hn; replace hc1 := hc1.bl hn; replace hc2 := hc2.bl hn; replace hq1 := hq1.bl hn; replace hq2 := hq2.bl hn; replace hb := hb.trans (hn.mono hb.size)
  refine hK _ _ rfl ?_; clear hK K hn
  refine wpSq_call rfl (by kernel_rfl) fun K hK => ?_
  go_big_op
  have lt_b1 := x_b1.lt
  obtain ⟨p_b2, w_2, eP, eW, x_b2, hn, kb_b2⟩ := newBox w_1 #[.bool n_1a, .slice o_1a k_1a c_1a, .bool n_1b, .slice o_1b k_1b c_1b] 26 hb.size
  have ne_b1_b2 : Hid (p_b1 ≠ p_b2) := Nat.ne_of_lt (eP ▸ lt_b1)
  rw [eW, eP]
  clear eW eP lt_b1
  replace ha1 := ha1.bl hn; replace ha2 := ha2.bl hn; replace hc1 := hc1.bl hn; replace hc2 := hc2.bl hn; replace hq1 := hq1.bl hn; replace hq2 := hq2.bl hn; replace x_b1 := x_b1.bl hn; replace hb := hb.trans (hn.mono hb.size)
  refine hK _ _ rfl ?_; clear hK K hn
  refine wpSq_call rfl (by kernel_rfl) fun K hK => ?_
  go_big_op
  have lt_b1 := x_b1.lt
  have lt_b2 := x_b2.lt
  obtain ⟨p_b3, w_3, eP, eW, x_b3, hn, kb_b3⟩ := newBox w_2 #[.bool n_2a, .slice o_2a k_2a c_2a, .bool n_2b, .slice o_2b k_2b c_2b] 26 hb.size
  have ne_b1_b3 : Hid (p_b1 ≠ p_b3) := Nat.ne_of_lt (eP ▸ lt_b1)
  have ne_b2_b3 : Hid (p_b2 ≠ p_b3) := Nat.ne_of_lt (eP ▸ lt_b2)
  rw [eW, eP]
  clear eW eP lt_b1 lt_b2
  replace ha1 := ha1.bl hn; replace ha2 := ha2.bl hn; replace hc1 := hc1.bl hn; replace hc2 := hc2.bl hn; replace hq1 := hq1.bl hn; replace hq2 := hq2.bl hn; replace x_b1 := x_b1.bl hn; replace x_b2 := x_b2.bl hn; replace hb := hb.trans (hn.mono hb.size)
  refine hK _ _ rfl ?_; clear hK K hn
  refine wpSq_call rfl (by kernel_rfl) fun K hK => ?_
  go_big_move; refine hK _ _ rfl ?_; clear hK K
  apply wpSq_end
  refine hK1 _ _ ?_
  refine wp_seq_k ?_
  intro K2 hK2
  refine wp_seq_k ?_
  intro K3 hK3
  refine wp_region_sq [0, 1] (by kernel_rfl) ?_
  refine wpSq_call rfl (by kernel_rfl) fun K hK => ?_
  go_big_op
  go_fit (awake5_any _)
  rintro e w_4 ⟨rfl, hb_4⟩
  replace ha1 := ha1.bl hb_4; replace ha2 := ha2.bl hb_4; replace hc1 := hc1.bl hb_4; replace hc2 := hc2.bl hb_4; replace hq1 := hq1.bl hb_4; replace hq2 := hq2.bl hb_4; replace x_b1 := x_b1.bl hb_4; replace x_b2 := x_b2.bl hb_4; replace x_b3 := x_b3.bl hb_4; replace hb := hb.trans (hb_4.mono hb.size)
  refine hK _ _ rfl ?_
  clear hK K hb_4
  refine wpSq_call rfl (by kernel_rfl) fun K hK => ?_
  go_big_op; refine hK _ _ rfl ?_; clear hK K
  apply wpSq_end
  refine hK3 _ _ ?_
  refine wp_cond_false (congrArg Value.bool (show _ = false from (by first | rfl | assumption | (simp; done) | exact decide_eq_false (by omega) | omega))) ?_
  refine wp_skip ?_
  refine hK2 _ _ ?_
  refine wp_seq_k ?_
  intro K4 hK4
  refine wp_seq_k ?_
  intro K5 hK5
  refine wp_region_sq [0, 1, 2, 3] (by kernel_rfl) ?_
  refine wpSq_call rfl (by kernel_rfl) fun K hK => ?_
  obtain ⟨d0, d1, d2, d3⟩ := x_b3.f4
  go_big_op; refine hK _ _ rfl ?_; clear hK K d0 d1 d2 d3
  refine wpSq_call rfl (by kernel_rfl) fun K hK => ?_
  go_big_op
  go_fit (gNorm_any (PN.mk' hq1 hq2) (by omega) (by omega) )
  rintro e w_5 ⟨v_g, rfl, g, hb_5⟩
  replace ha1 := ha1.bl hb_5; replace ha2 := ha2.bl hb_5; replace hc1 := hc1.bl hb_5; replace hc2 := hc2.bl hb_5; replace hq1 := hq1.bl hb_5; replace hq2 := hq2.bl hb_5; replace x_b1 := x_b1.bl hb_5; replace x_b2 := x_b2.bl hb_5; replace x_b3 := x_b3.bl hb_5; replace hb := hb.trans (hb_5.mono hb.size)
  obtain ⟨n_g, o_g, k_g, c_g, rfl⟩ := g.open2
  have Lg := hide (g.lenOf (zlen_add (zlen_mul (hq1.len) (hq1.len)) (zlen_mul (hq2.len) (hq2.len))))
  rw [E.out] at g
  refine hK _ _ rfl ?_
  clear hK K hb_5
  have Lg := hide (g.lenOf (zlen_0))
  refine wpSq_call rfl (by kernel_rfl) fun K hK => ?_
  go_big_op
  go_fit (zsign_any (g.zn Lg.out) (by omega) )
  rintro e w_6 ⟨rfl, hb_6⟩
  replace ha1 := ha1.bl hb_6; replace ha2 := ha2.bl hb_6; replace hc1 := hc1.bl hb_6; replace hc2 := hc2.bl hb_6; replace hq1 := hq1.bl hb_6; replace hq2 := hq2.bl hb_6; replace x_b1 := x_b1.bl hb_6; replace x_b2 := x_b2.bl hb_6; replace x_b3 := x_b3.bl hb_6; replace g := g.bl hb_6; replace hb := hb.trans (hb_6.mono hb.size)
  refine hK _ _ rfl ?_
  clear hK K hb_6
  refine wpSq_call rfl (by kernel_rfl) fun K hK => ?_
  go_big_op; refine hK _ _ rfl ?_; clear hK K
  apply wpSq_end
  refine hK5 _ _ ?_
  refine wp_cond_true (congrArg Value.bool (show _ = true from (by first | rfl | assumption | (simp; done) | exact decide_eq_true (by omega) | omega))) ?_
  refine wp_seq_k ?_
  intro K6 hK6
  refine wp_region_sq [0] (by kernel_rfl) ?_
  refine wpSq_call rfl (by kernel_rfl) fun K hK => ?_
  go_big_move; refine hK _ _ rfl ?_; clear hK K
  apply wpSq_end
  refine hK6 _ _ ?_
  refine wp_ret ?_
  try dsimp only [Exit.then, Exit.inBlock]
  refine bodyPost_ret (v := (.bool true)) (by simp [results, Try.results4, go_sem]) rfl ?_
  exact ⟨rfl, hb⟩
set_option maxHeartbeats 8000000 in
set_option maxRecDepth 20000 in
theorem galong_some (ha : PN w va x 1048576 y 1048576) (hc : PN w vc a 1048576 b 1048576) (hq : PN w vb u 1048576 v 1048576) (h0 : gN u v ≠ 0) (N : Int) :
    Calls Try.prog 4 #[va, vc, vb, .int .i64 N] w fun e w' => e = .returned (.bool true) ∧ Below w.heap.size w w' := by
  have HS := hide (show (gN u v).sign = 1 from Int.sign_eq_one_of_pos (gN_pos h0))
  have LR := hide (fun (p q : Int) => res_len (x := p) (y := q) h0 hq.len1 hq.len2)
  have LP := hide (fun e => (⟨res_len1 h0 hq.len1 hq.len2, res_len2 h0 hq.len1 hq.len2⟩ : (dig (pR1 x y u v e).natAbs).length ≤ 1048576 + 1 ∧ (dig (pR2 x y u v e).natAbs).length ≤ 1048576 + 1))
  obtain ⟨ke, hK, hK2⟩ : ∃ ke : Nat, bits .and .i64 N 15 = (ke : Int) ∧ ke < 16 := ⟨(N % 16).toNat, by rw [i64_and_15]; omega, by omega⟩
  have hadd := ((gCg.res x y u v).add (gCg.res a b u v)).one h0
  have hmul := ((gCg.res x y u v).mul (gCg.res a b u v)).one h0
  have hpow : gR1 (pR1 x y u v ke * x - pR2 x y u v ke * y) (pR1 x y u v ke * y + pR2 x y u v ke * x) u v = pR1 x y u v (ke + 1) ∧ gR2 (pR1 x y u v ke * x - pR2 x y u v ke * y) (pR1 x y u v ke * y + pR2 x y u v ke * x) u v = pR2 x y u v (ke + 1) := ((pR_cg x y u v ke).mul (gCg.refl u v x y)).symm.one h0
  have N1 := hide (Int.natAbs_natCast ke)
  have N2 := hide (show ((ke : Int) + 1).natAbs = ke + 1 by omega)
  have hex := mul_exact (d1 := u) (d2 := v) (w1 := gQ1 x y u v) (w2 := gQ2 x y u v) (X1 := x - gR1 x y u v) (X2 := y - gR2 x y u v) (by unfold gR1; grind) (by unfold gR2; grind)
  have h3 : zcmp (gN (gR1 x y u v) (gR2 x y u v) + gN (gR1 x y u v) (gR2 x y u v)) (gN u v) ≤ 0 := by
    have := zcmp_swap (gN (gR1 x y u v) (gR2 x y u v) + gN (gR1 x y u v) (gR2 x y u v)) (gN u v)
    have := zcmp_ge (x := gN u v) (y := gN (gR1 x y u v) (gR2 x y u v) + gN (gR1 x y u v) (gR2 x y u v)) (gR_half h0)
    omega
  obtain ⟨C, hC⟩ : ∃ C, zcmp (gN (gR1 x y u v) (gR2 x y u v) + gN (gR1 x y u v) (gR2 x y u v)) (gN u v) = C := ⟨_, rfl⟩
  rw [hC] at h3
  have HC := hide hC
  have hc0 : (0 < C) = False := eq_false (by omega)
  have EA := hide hadd
  have EM := hide hmul
  have EP := hide hpow
  have EX := hide hex
  have HH := hide h0
  have LK := hide (fun (j : Nat) (hj : j < 4294967296) => (show (dig ((j : Int)).natAbs).length ≤ 1 by rw [Int.natAbs_natCast]; exact dig_length_le (by rw [show pw 1 = 4294967296 from rfl]; exact hj)))
  clear hadd hmul hpow hex h3 hC h0
  obtain ⟨n_0a, o_0a, k_0a, c_0a, n_0b, o_0b, k_0b, c_0b, rfl, ha1, ha2⟩ := ha
  obtain ⟨n_1a, o_1a, k_1a, c_1a, n_1b, o_1b, k_1b, c_1b, rfl, hc1, hc2⟩ := hc
  obtain ⟨n_2a, o_2a, k_2a, c_2a, n_2b, o_2b, k_2b, c_2b, rfl, hq1, hq2⟩ := hq
  go_enter Try.func4, Try.ntmps4
  have hb := Below.refl w.heap.size w
  refine wp_seq_k ?_
  intro K1 hK1
  refine wp_region_sq [0, 1, 2, 3] (by kernel_rfl) ?_
  refine wpSq_call rfl (by kernel_rfl) fun K hK => ?_
  go_big_op
  obtain ⟨p_b1, w_1, eP, eW, x_b1, hn, kb_b1⟩ := newBox w #[.bool n_0a, .slice o_0a k_0a c_0a, .bool n_0b, .slice o_0b k_0b c_0b] 26 hb.size
  rw [eW, eP]
  clear eW eP
  replace ha1 := ha1.bl hn; replace ha2 := ha2.bl hn; replace hc1 := hc1.bl hn; replace hc2 := hc2.bl hn; replace hq1 := hq1.bl hn; replace hq2 := hq2.bl hn; replace hb := hb.trans (hn.mono hb.size)
  refine hK _ _ rfl ?_; clear hK K hn
  refine wpSq_call rfl (by kernel_rfl) fun K hK => ?_
  go_big_op
  have lt_b1 := x_b1.lt
  obtain ⟨p_b2, w_2, eP, eW, x_b2, hn, kb_b2⟩ := newBox w_1 #[.bool n_1a, .slice o_1a k_1a c_1a, .bool n_1b, .slice o_1b k_1b c_1b] 26 hb.size
  have ne_b1_b2 : Hid (p_b1 ≠ p_b2) := Nat.ne_of_lt (eP ▸ lt_b1)
  rw [eW, eP]
  clear eW eP lt_b1
  replace ha1 := ha1.bl hn; replace ha2 := ha2.bl hn; replace hc1 := hc1.bl hn; replace hc2 := hc2.bl hn; replace hq1 := hq1.bl hn; replace hq2 := hq2.bl hn; replace x_b1 := x_b1.bl hn; replace hb := hb.trans (hn.mono hb.size)
  refine hK _ _ rfl ?_; clear hK K hn
  refine wpSq_call rfl (by kernel_rfl) fun K hK => ?_
  go_big_op
  have lt_b1 := x_b1.lt
  have lt_b2 := x_b2.lt
  obtain ⟨p_b3, w_3, eP, eW, x_b3, hn, kb_b3⟩ := newBox w_2 #[.bool n_2a, .slice o_2a k_2a c_2a, .bool n_2b, .slice o_2b k_2b c_2b] 26 hb.size
  have ne_b1_b3 : Hid (p_b1 ≠ p_b3) := Nat.ne_of_lt (eP ▸ lt_b1)
  have ne_b2_b3 : Hid (p_b2 ≠ p_b3) := Nat.ne_of_lt (eP ▸ lt_b2)
  rw [eW, eP]
  clear eW eP lt_b1 lt_b2
  replace ha1 := ha1.bl hn; replace ha2 := ha2.bl hn; replace hc1 := hc1.bl hn; replace hc2 := hc2.bl hn; replace hq1 := hq1.bl hn; replace hq2 := hq2.bl hn; replace x_b1 := x_b1.bl hn; replace x_b2 := x_b2.bl hn; replace hb := hb.trans (hn.mono hb.size)
  refine hK _ _ rfl ?_; clear hK K hn
  refine wpSq_call rfl (by kernel_rfl) fun K hK => ?_
  go_big_move; refine hK _ _ rfl ?_; clear hK K
  apply wpSq_end
  refine hK1 _ _ ?_
  refine wp_seq_k ?_
  intro K2 hK2
  refine wp_seq_k ?_
  intro K3 hK3
  refine wp_region_sq [0, 1] (by kernel_rfl) ?_
  refine wpSq_call rfl (by kernel_rfl) fun K hK => ?_
  go_big_op
  go_fit (awake5_any _)
  rintro e w_4 ⟨rfl, hb_4⟩
  replace ha1 := ha1.bl hb_4; replace ha2 := ha2.bl hb_4; replace hc1 := hc1.bl hb_4; replace hc2 := hc2.bl hb_4; replace hq1 := hq1.bl hb_4; replace hq2 := hq2.bl hb_4; replace x_b1 := x_b1.bl hb_4; replace x_b2 := x_b2.bl hb_4; replace x_b3 := x_b3.bl hb_4; replace hb := hb.trans (hb_4.mono hb.size)
  refine hK _ _ rfl ?_
  clear hK K hb_4
  refine wpSq_call rfl (by kernel_rfl) fun K hK => ?_
  go_big_op; refine hK _ _ rfl ?_; clear hK K
  apply wpSq_end
  refine hK3 _ _ ?_
  refine wp_cond_false (congrArg Value.bool (show _ = false from (by first | rfl | assumption | (simp; done) | exact decide_eq_false (by omega) | omega))) ?_
  refine wp_skip ?_
  refine hK2 _ _ ?_
  refine wp_seq_k ?_
  intro K4 hK4
  refine wp_seq_k ?_
  intro K5 hK5
  refine wp_region_sq [0, 1, 2, 3] (by kernel_rfl) ?_
  refine wpSq_call rfl (by kernel_rfl) fun K hK => ?_
  obtain ⟨d0, d1, d2, d3⟩ := x_b3.f4
  go_big_op; refine hK _ _ rfl ?_; clear hK K d0 d1 d2 d3
  refine wpSq_call rfl (by kernel_rfl) fun K hK => ?_
  go_big_op
  go_fit (gNorm_any (PN.mk' hq1 hq2) (by omega) (by omega) )
  rintro e w_5 ⟨v_g, rfl, g, hb_5⟩
  replace ha1 := ha1.bl hb_5; replace ha2 := ha2.bl hb_5; replace hc1 := hc1.bl hb_5; replace hc2 := hc2.bl hb_5; replace hq1 := hq1.bl hb_5; replace hq2 := hq2.bl hb_5; replace x_b1 := x_b1.bl hb_5; replace x_b2 := x_b2.bl hb_5; replace x_b3 := x_b3.bl hb_5; replace hb := hb.trans (hb_5.mono hb.size)
  obtain ⟨n_g, o_g, k_g, c_g, rfl⟩ := g.open2
  have Lg := hide (g.lenOf (zlen_add (zlen_mul (hq1.len) (hq1.len)) (zlen_mul (hq2.len) (hq2.len))))
  refine hK _ _ rfl ?_
  clear hK K hb_5
  refine wpSq_call rfl (by kernel_rfl) fun K hK => ?_
  go_big_op
  go_fit (zsign_any (g.zn Lg.out) (by omega) )
  rintro e w_6 ⟨rfl, hb_6⟩
  replace ha1 := ha1.bl hb_6; replace ha2 := ha2.bl hb_6; replace hc1 := hc1.bl hb_6; replace hc2 := hc2.bl hb_6; replace hq1 := hq1.bl hb_6; replace hq2 := hq2.bl hb_6; replace x_b1 := x_b1.bl hb_6; replace x_b2 := x_b2.bl hb_6; replace x_b3 := x_b3.bl hb_6; replace g := g.bl hb_6; replace hb := hb.trans (hb_6.mono hb.size)
  rw [HS.out]
  refine hK _ _ rfl ?_
  clear hK K hb_6
  refine wpSq_call rfl (by kernel_rfl) fun K hK => ?_
  go_big_op; refine hK _ _ rfl ?_; clear hK K
  apply wpSq_end
  refine hK5 _ _ ?_
  refine wp_cond_false (congrArg Value.bool (show _ = false from (by first | rfl | assumption | (simp; done) | exact decide_eq_false (by omega) | omega))) ?_
  refine wp_skip ?_
  refine hK4 _ _ ?_
  refine wp_seq_k ?_
  intro K6 hK6
  refine wp_region_sq [0, 1, 2, 3, 4, 5, 6, 7, 8] (by kernel_rfl) ?_
  refine wpSq_call rfl (by kernel_rfl) fun K hK => ?_
  obtain ⟨d0, d1, d2, d3⟩ := x_b1.f4
  go_big_op; refine hK _ _ rfl ?_; clear hK K d0 d1 d2 d3
  refine wpSq_call rfl (by kernel_rfl) fun K hK => ?_
  obtain ⟨d0, d1, d2, d3⟩ := x_b3.f4
  go_big_op; refine hK _ _ rfl ?_; clear hK K d0 d1 d2 d3
  refine wpSq_call rfl (by kernel_rfl) fun K hK => ?_
  go_big_op
  go_fit (gReduce_any (.mk' ha1 ha2) (.mk' hq1 hq2) (by omega) (by omega) (by omega) HH.out)
  rintro e w_7 ⟨_, rfl, ⟨n_ca, o_ca, k_ca, c_ca, n_cb, o_cb, k_cb, c_cb, rfl, c1, c2⟩, hb_7⟩
  clear g
  replace ha1 := ha1.bl hb_7; replace ha2 := ha2.bl hb_7; replace hc1 := hc1.bl hb_7; replace hc2 := hc2.bl hb_7; replace hq1 := hq1.bl hb_7; replace hq2 := hq2.bl hb_7; replace x_b1 := x_b1.bl hb_7; replace x_b2 := x_b2.bl hb_7; replace x_b3 := x_b3.bl hb_7; replace hb := hb.trans (hb_7.mono hb.size)
  have Lc1 := hide (c1.lenOf ((LR.out _ _).1))
  have Lc2 := hide (c2.lenOf ((LR.out _ _).2))
  refine hK _ _ rfl ?_
  clear hK K hb_7
  refine wpSq_call rfl (by kernel_rfl) fun K hK => ?_
  go_big_move; refine hK _ _ rfl ?_; clear hK K
  refine wpSq_call rfl (by kernel_rfl) fun K hK => ?_
  go_big_op; refine hK _ _ rfl ?_; clear hK K
  refine wpSq_call rfl (by kernel_rfl) fun K hK => ?_
  go_big_op; refine hK _ _ rfl ?_; clear hK K
  refine wpSq_call rfl (by kernel_rfl) fun K hK => ?_
  go_big_op
  have lt_b1 := x_b1.lt
  have lt_b2 := x_b2.lt
  have lt_b3 := x_b3.lt
  obtain ⟨p_b4, w_8, eP, eW, x_b4, hn, kb_b4⟩ := newBox w_7 #[.bool false, .slice none 0 0, .bool false, .slice none 0 0] 26 hb.size
  have ne_b1_b4 : Hid (p_b1 ≠ p_b4) := Nat.ne_of_lt (eP ▸ lt_b1)
  have ne_b2_b4 : Hid (p_b2 ≠ p_b4) := Nat.ne_of_lt (eP ▸ lt_b2)
  have ne_b3_b4 : Hid (p_b3 ≠ p_b4) := Nat.ne_of_lt (eP ▸ lt_b3)
  rw [eW, eP]
  clear eW eP lt_b1 lt_b2 lt_b3
  replace ha1 := ha1.bl hn; replace ha2 := ha2.bl hn; replace hc1 := hc1.bl hn; replace hc2 := hc2.bl hn; replace hq1 := hq1.bl hn; replace hq2 := hq2.bl hn; replace x_b1 := x_b1.bl hn; replace x_b2 := x_b2.bl hn; replace x_b3 := x_b3.bl hn; replace c1 := c1.bl hn; replace c2 := c2.bl hn; replace hb := hb.trans (hn.mono hb.size)
  refine hK _ _ rfl ?_; clear hK K hn
  refine wpSq_call rfl (by kernel_rfl) fun K hK => ?_
  obtain ⟨d0, d1, d2, d3⟩ := x_b4.f4
  have f0 := x_b4.free 0; have f1 := x_b4.free 1; have f2 := x_b4.free 2; have f3 := x_b4.free 3
  go_big_op
  have hnd := x_b4.nod rfl rfl
  obtain ⟨w_9, eW, x_b4', ho⟩ : ∃ w', ((((w_8.setCell ⟨p_b4, 0, none⟩ (.bool n_ca)).setCell ⟨p_b4, 1, none⟩ (.slice o_ca k_ca c_ca)).setCell ⟨p_b4, 2, none⟩ (.bool n_cb)).setCell ⟨p_b4, 3, none⟩ (.slice o_cb k_cb c_cb)) = w' ∧ Bs w' p_b4 #[.bool n_ca, .slice o_ca k_ca c_ca, .bool n_cb, .slice o_cb k_cb c_cb] 26 ∧ Only p_b4 w_8 w' := x_b4.setN [(0, .bool n_ca), (1, .slice o_ca k_ca c_ca), (2, .bool n_cb), (3, .slice o_cb k_cb c_cb)]
  rw [eW]; clear eW d0 d1 d2 d3 f0 f1 f2 f3 x_b4
  have x_b4 := x_b4'; clear x_b4'
  replace ha1 := ha1.fr hnd ho; replace ha2 := ha2.fr hnd ho; replace hc1 := hc1.fr hnd ho; replace hc2 := hc2.fr hnd ho; replace hq1 := hq1.fr hnd ho; replace hq2 := hq2.fr hnd ho; replace x_b1 := x_b1.frame ho ne_b1_b4; replace x_b2 := x_b2.frame ho ne_b2_b4; replace x_b3 := x_b3.frame ho ne_b3_b4; replace c1 := c1.fr hnd ho; replace c2 := c2.fr hnd ho; replace hb := belowOnly hb ho kb_b4
  refine hK _ _ rfl ?_; clear hK K ho hnd
  refine wpSq_call rfl (by kernel_rfl) fun K hK => ?_
  go_big_move; refine hK _ _ rfl ?_; clear hK K
  apply wpSq_end
  refine hK6 _ _ ?_
  refine wp_seq_k ?_
  intro K7 hK7
  refine wp_region_sq [0, 1, 2, 3, 4, 5, 6, 7, 8] (by kernel_rfl) ?_
  refine wpSq_call rfl (by kernel_rfl) fun K hK => ?_
  obtain ⟨d0, d1, d2, d3⟩ := x_b2.f4
  go_big_op; refine hK _ _ rfl ?_; clear hK K d0 d1 d2 d3
  refine wpSq_call rfl (by kernel_rfl) fun K hK => ?_
  obtain ⟨d0, d1, d2, d3⟩ := x_b3.f4
  go_big_op; refine hK _ _ rfl ?_; clear hK K d0 d1 d2 d3
  refine wpSq_call rfl (by kernel_rfl) fun K hK => ?_
  go_big_op
  go_fit (gReduce_any (.mk' hc1 hc2) (.mk' hq1 hq2) (by omega) (by omega) (by omega) HH.out)
  rintro e w_10 ⟨_, rfl, ⟨n_da, o_da, k_da, c_da, n_db, o_db, k_db, c_db, rfl, d1, d2⟩, hb_10⟩
  replace ha1 := ha1.bl hb_10; replace ha2 := ha2.bl hb_10; replace hc1 := hc1.bl hb_10; replace hc2 := hc2.bl hb_10; replace hq1 := hq1.bl hb_10; replace hq2 := hq2.bl hb_10; replace x_b1 := x_b1.bl hb_10; replace x_b2 := x_b2.bl hb_10; replace x_b3 := x_b3.bl hb_10; replace c1 := c1.bl hb_10; replace c2 := c2.bl hb_10; replace x_b4 := x_b4.bl hb_10; replace hb := hb.trans (hb_10.mono hb.size)
  have Ld1 := hide (d1.lenOf ((LR.out _ _).1))
  have Ld2 := hide (d2.lenOf ((LR.out _ _).2))
  refine hK _ _ rfl ?_
  clear hK K hb_10
  refine wpSq_call rfl (by kernel_rfl) fun K hK => ?_
  go_big_move; refine hK _ _ rfl ?_; clear hK K
  refine wpSq_call rfl (by kernel_rfl) fun K hK => ?_
  go_big_op; refine hK _ _ rfl ?_; clear hK K
  refine wpSq_call rfl (by kernel_rfl) fun K hK => ?_
  go_big_op; refine hK _ _ rfl ?_; clear hK K
  refine wpSq_call rfl (by kernel_rfl) fun K hK => ?_
  go_big_op
  have lt_b1 := x_b1.lt
  have lt_b2 := x_b2.lt
  have lt_b3 := x_b3.lt
  have lt_b4 := x_b4.lt
  obtain ⟨p_b5, w_11, eP, eW, x_b5, hn, kb_b5⟩ := newBox w_10 #[.bool false, .slice none 0 0, .bool false, .slice none 0 0] 26 hb.size
  have ne_b1_b5 : Hid (p_b1 ≠ p_b5) := Nat.ne_of_lt (eP ▸ lt_b1)
  have ne_b2_b5 : Hid (p_b2 ≠ p_b5) := Nat.ne_of_lt (eP ▸ lt_b2)
  have ne_b3_b5 : Hid (p_b3 ≠ p_b5) := Nat.ne_of_lt (eP ▸ lt_b3)
  have ne_b4_b5 : Hid (p_b4 ≠ p_b5) := Nat.ne_of_lt (eP ▸ lt_b4)
  rw [eW, eP]
  clear eW eP lt_b1 lt_b2 lt_b3 lt_b4
  replace ha1 := ha1.bl hn; replace ha2 := ha2.bl hn; replace hc1 := hc1.bl hn; replace hc2 := hc2.bl hn; replace hq1 := hq1.bl hn; replace hq2 := hq2.bl hn; replace x_b1 := x_b1.bl hn; replace x_b2 := x_b2.bl hn; replace x_b3 := x_b3.bl hn; replace c1 := c1.bl hn; replace c2 := c2.bl hn; replace x_b4 := x_b4.bl hn; replace d1 := d1.bl hn; replace d2 := d2.bl hn; replace hb := hb.trans (hn.mono hb.size)
  refine hK _ _ rfl ?_; clear hK K hn
  refine wpSq_call rfl (by kernel_rfl) fun K hK => ?_
  obtain ⟨d0, d1, d2, d3⟩ := x_b5.f4
  have f0 := x_b5.free 0; have f1 := x_b5.free 1; have f2 := x_b5.free 2; have f3 := x_b5.free 3
  go_big_op
  have hnd := x_b5.nod rfl rfl
  obtain ⟨w_12, eW, x_b5', ho⟩ : ∃ w', ((((w_11.setCell ⟨p_b5, 0, none⟩ (.bool n_da)).setCell ⟨p_b5, 1, none⟩ (.slice o_da k_da c_da)).setCell ⟨p_b5, 2, none⟩ (.bool n_db)).setCell ⟨p_b5, 3, none⟩ (.slice o_db k_db c_db)) = w' ∧ Bs w' p_b5 #[.bool n_da, .slice o_da k_da c_da, .bool n_db, .slice o_db k_db c_db] 26 ∧ Only p_b5 w_11 w' := x_b5.setN [(0, .bool n_da), (1, .slice o_da k_da c_da), (2, .bool n_db), (3, .slice o_db k_db c_db)]
  rw [eW]; clear eW d0 d1 d2 d3 f0 f1 f2 f3 x_b5
  have x_b5 := x_b5'; clear x_b5'
  replace ha1 := ha1.fr hnd ho; replace ha2 := ha2.fr hnd ho; replace hc1 := hc1.fr hnd ho; replace hc2 := hc2.fr hnd ho; replace hq1 := hq1.fr hnd ho; replace hq2 := hq2.fr hnd ho; replace x_b1 := x_b1.frame ho ne_b1_b5; replace x_b2 := x_b2.frame ho ne_b2_b5; replace x_b3 := x_b3.frame ho ne_b3_b5; replace c1 := c1.fr hnd ho; replace c2 := c2.fr hnd ho; replace x_b4 := x_b4.frame ho ne_b4_b5; replace d1 := d1.fr hnd ho; replace d2 := d2.fr hnd ho; replace hb := belowOnly hb ho kb_b5
  refine hK _ _ rfl ?_; clear hK K ho hnd
  refine wpSq_call rfl (by kernel_rfl) fun K hK => ?_
  go_big_move; refine hK _ _ rfl ?_; clear hK K
  apply wpSq_end
  refine hK7 _ _ ?_
  refine wp_seq_k ?_
  intro K8 hK8
  refine wp_region_fl2 [(0, false), (1, false), (3, false), (2, true), (4, true), (5, false), (6, false), (7, false)] [9, 10] [8] (fun j => (.cells #[.bool false, .slice none 0 0, .bool false, .slice none 0 0] 26)) [0, 1, 99, 2, 99, 99, 99, 99, 99, 99, 99] [] (fun w' => w'.cell? ⟨p_b1, 0, none⟩ = some (.bool n_0a) ∧ w'.cell? ⟨p_b1, 1, none⟩ = some (.slice o_0a k_0a c_0a) ∧ w'.cell? ⟨p_b1, 2, none⟩ = some (.bool n_0b) ∧ w'.cell? ⟨p_b1, 3, none⟩ = some (.slice o_0b k_0b c_0b) ∧ w'.cell? ⟨p_b2, 0, none⟩ = some (.bool n_1a) ∧ w'.cell? ⟨p_b2, 1, none⟩ = some (.slice o_1a k_1a c_1a) ∧ w'.cell? ⟨p_b2, 2, none⟩ = some (.bool n_1b) ∧ w'.cell? ⟨p_b2, 3, none⟩ = some (.slice o_1b k_1b c_1b) ∧ w'.cell? ⟨p_b3, 0, none⟩ = some (.bool n_2a) ∧ w'.cell? ⟨p_b3, 1, none⟩ = some (.slice o_2a k_2a c_2a) ∧ w'.cell? ⟨p_b3, 2, none⟩ = some (.bool n_2b) ∧ w'.cell? ⟨p_b3, 3, none⟩ = some (.slice o_2b k_2b c_2b)) [fun w' => w'.cell? ⟨p_b1, 0, none⟩ = some (.bool n_0a) ∧ w'.cell? ⟨p_b1, 1, none⟩ = some (.slice o_0a k_0a c_0a) ∧ w'.cell? ⟨p_b1, 2, none⟩ = some (.bool n_0b) ∧ w'.cell? ⟨p_b1, 3, none⟩ = some (.slice o_0b k_0b c_0b), fun w' => w'.cell? ⟨p_b2, 0, none⟩ = some (.bool n_1a) ∧ w'.cell? ⟨p_b2, 1, none⟩ = some (.slice o_1a k_1a c_1a) ∧ w'.cell? ⟨p_b2, 2, none⟩ = some (.bool n_1b) ∧ w'.cell? ⟨p_b2, 3, none⟩ = some (.slice o_1b k_1b c_1b), fun w' => w'.cell? ⟨p_b3, 0, none⟩ = some (.bool n_2a) ∧ w'.cell? ⟨p_b3, 1, none⟩ = some (.slice o_2a k_2a c_2a) ∧ w'.cell? ⟨p_b3, 2, none⟩ = some (.bool n_2b) ∧ w'.cell? ⟨p_b3, 3, none⟩ = some (.slice o_2b k_2b c_2b)] (by kernel_rfl) (by kernel_rfl) (by kernel_rfl) (by kernel_rfl) (by kernel_rfl) (by kernel_rfl) (by kernel_rfl) (by kernel_rfl) (by decide) (by intro j hj; simp only [List.mem_cons, List.not_mem_nil, or_false] at hj; rcases hj with rfl; all_goals exact ⟨_, rfl, rfl, fun ρ w => by unfold ptr; simp [go_sem]⟩) (by intro w' o hC; obtain ⟨c0, c1, c2, c3, c4, c5, c6, c7, c8, c9, c10, c11⟩ := hC; exact ⟨cell_alloc c0 o, cell_alloc c1 o, cell_alloc c2 o, cell_alloc c3 o, cell_alloc c4 o, cell_alloc c5 o, cell_alloc c6 o, cell_alloc c7 o, cell_alloc c8 o, cell_alloc c9 o, cell_alloc c10 o, cell_alloc c11 o⟩) (by intro w' hC G hG; obtain ⟨c0, c1, c2, c3, c4, c5, c6, c7, c8, c9, c10, c11⟩ := hC; simp only [List.mem_cons, List.not_mem_nil, or_false] at hG; rcases hG with rfl | rfl | rfl <;> first | exact ⟨c0, c1, c2, c3⟩ | exact ⟨c4, c5, c6, c7⟩ | exact ⟨c8, c9, c10, c11⟩) ?_
  have lt_b1 := x_b1.lt
  have lt_b2 := x_b2.lt
  have lt_b3 := x_b3.lt
  have lt_b4 := x_b4.lt
  have lt_b5 := x_b5.lt
  intro w_13 hn
  replace lt_b1 := Nat.lt_of_lt_of_le lt_b1 hn.size
  replace lt_b2 := Nat.lt_of_lt_of_le lt_b2 hn.size
  replace lt_b3 := Nat.lt_of_lt_of_le lt_b3 hn.size
  replace lt_b4 := Nat.lt_of_lt_of_le lt_b4 hn.size
  replace lt_b5 := Nat.lt_of_lt_of_le lt_b5 hn.size
  replace ha1 := ha1.bl hn; replace ha2 := ha2.bl hn; replace hc1 := hc1.bl hn; replace hc2 := hc2.bl hn; replace hq1 := hq1.bl hn; replace hq2 := hq2.bl hn; replace x_b1 := x_b1.bl hn; replace x_b2 := x_b2.bl hn; replace x_b3 := x_b3.bl hn; replace c1 := c1.bl hn; replace c2 := c2.bl hn; replace x_b4 := x_b4.bl hn; replace d1 := d1.bl hn; replace d2 := d2.bl hn; replace x_b5 := x_b5.bl hn; replace hb := hb.trans (hn.mono hb.size)
  clear hn
  have kb0 := hb.size
  refine ⟨⟨x_b1.cell 0 rfl, x_b1.cell 1 rfl, x_b1.cell 2 rfl, x_b1.cell 3 rfl, x_b2.cell 0 rfl, x_b2.cell 1 rfl, x_b2.cell 2 rfl, x_b2.cell 3 rfl, x_b3.cell 0 rfl, x_b3.cell 1 rfl, x_b3.cell 2 rfl, x_b3.cell 3 rfl⟩, ?_⟩
  apply wpFl_ld rfl rfl; (case h1 => intro w' hC K hK; obtain ⟨c0, c1, c2, c3⟩ := hC; go_big_op; exact hK); iterate 4 kernel_rfl
  apply wpFl_ld rfl rfl; (case h1 => intro w' hC K hK; obtain ⟨c0, c1, c2, c3⟩ := hC; go_big_op; exact hK); iterate 4 kernel_rfl
  apply wpFl_ld rfl rfl; (case h1 => intro w' hC K hK; obtain ⟨c0, c1, c2, c3⟩ := hC; go_big_op; exact hK); iterate 4 kernel_rfl
  refine wpFl_call rfl (by kernel_rfl) fun w_14 hn hC => ?_; clear hC
  replace ha1 := ha1.bl hn; replace ha2 := ha2.bl hn; replace hc1 := hc1.bl hn; replace hc2 := hc2.bl hn; replace hq1 := hq1.bl hn; replace hq2 := hq2.bl hn; replace x_b1 := x_b1.bl hn; replace x_b2 := x_b2.bl hn; replace x_b3 := x_b3.bl hn; replace c1 := c1.bl hn; replace c2 := c2.bl hn; replace x_b4 := x_b4.bl hn; replace d1 := d1.bl hn; replace d2 := d2.bl hn; replace x_b5 := x_b5.bl hn; replace hb := hb.trans (hn.mono hb.size)
  clear hn; intro K hK
  go_big_op
  go_fit (gAdd_any (PN.mk' ha1 ha2) (PN.mk' hc1 hc2) (by omega) (by omega) (by omega) (by omega) )
  rintro e w_15 ⟨_, rfl, ⟨n_ea, o_ea, k_ea, c_ea, n_eb, o_eb, k_eb, c_eb, rfl, e1, e2⟩, hb_15⟩
  replace ha1 := ha1.bl hb_15; replace ha2 := ha2.bl hb_15; replace hc1 := hc1.bl hb_15; replace hc2 := hc2.bl hb_15; replace hq1 := hq1.bl hb_15; replace hq2 := hq2.bl hb_15; replace x_b1 := x_b1.bl hb_15; replace x_b2 := x_b2.bl hb_15; replace x_b3 := x_b3.bl hb_15; replace c1 := c1.bl hb_15; replace c2 := c2.bl hb_15; replace x_b4 := x_b4.bl hb_15; replace d1 := d1.bl hb_15; replace d2 := d2.bl hb_15; replace x_b5 := x_b5.bl hb_15; replace hb := hb.trans (hb_15.mono hb.size)
  have Le1 := hide (e1.lenOf (zlen_add (ha1.len) (hc1.len)))
  have Le2 := hide (e2.lenOf (zlen_add (ha2.len) (hc2.len)))
  refine hK _ _ rfl hb_15 ⟨x_b1.cell 0 rfl, x_b1.cell 1 rfl, x_b1.cell 2 rfl, x_b1.cell 3 rfl, x_b2.cell 0 rfl, x_b2.cell 1 rfl, x_b2.cell 2 rfl, x_b2.cell 3 rfl, x_b3.cell 0 rfl, x_b3.cell 1 rfl, x_b3.cell 2 rfl, x_b3.cell 3 rfl⟩ ?_
  clear hK K hb_15
  refine wpFl_call rfl (by kernel_rfl) fun w_16 hn hC => ?_; clear hC
  replace ha1 := ha1.bl hn; replace ha2 := ha2.bl hn; replace hc1 := hc1.bl hn; replace hc2 := hc2.bl hn; replace hq1 := hq1.bl hn; replace hq2 := hq2.bl hn; replace x_b1 := x_b1.bl hn; replace x_b2 := x_b2.bl hn; replace x_b3 := x_b3.bl hn; replace c1 := c1.bl hn; replace c2 := c2.bl hn; replace x_b4 := x_b4.bl hn; replace d1 := d1.bl hn; replace d2 := d2.bl hn; replace x_b5 := x_b5.bl hn; replace e1 := e1.bl hn; replace e2 := e2.bl hn; replace hb := hb.trans (hn.mono hb.size)
  clear hn; intro K hK
  go_big_op
  go_fit (gReduce_any (.mk' (e1.zn Le1.out) (e2.zn Le2.out)) (.mk' hq1 hq2) (by omega) (by omega) (by omega) HH.out)
  rintro e w_17 ⟨_, rfl, ⟨n_fa, o_fa, k_fa, c_fa, n_fb, o_fb, k_fb, c_fb, rfl, f1, f2⟩, hb_17⟩
  replace ha1 := ha1.bl hb_17; replace ha2 := ha2.bl hb_17; replace hc1 := hc1.bl hb_17; replace hc2 := hc2.bl hb_17; replace hq1 := hq1.bl hb_17; replace hq2 := hq2.bl hb_17; replace x_b1 := x_b1.bl hb_17; replace x_b2 := x_b2.bl hb_17; replace x_b3 := x_b3.bl hb_17; replace c1 := c1.bl hb_17; replace c2 := c2.bl hb_17; replace x_b4 := x_b4.bl hb_17; replace d1 := d1.bl hb_17; replace d2 := d2.bl hb_17; replace x_b5 := x_b5.bl hb_17; replace e1 := e1.bl hb_17; replace e2 := e2.bl hb_17; replace hb := hb.trans (hb_17.mono hb.size)
  have Lf1 := hide (f1.lenOf ((LR.out _ _).1))
  have Lf2 := hide (f2.lenOf ((LR.out _ _).2))
  refine hK _ _ rfl hb_17 ⟨x_b1.cell 0 rfl, x_b1.cell 1 rfl, x_b1.cell 2 rfl, x_b1.cell 3 rfl, x_b2.cell 0 rfl, x_b2.cell 1 rfl, x_b2.cell 2 rfl, x_b2.cell 3 rfl, x_b3.cell 0 rfl, x_b3.cell 1 rfl, x_b3.cell 2 rfl, x_b3.cell 3 rfl⟩ ?_
  clear hK K hb_17
  apply wpFl_ld rfl rfl; (case h1 => intro w' hC K hK; go_big_move; exact hK); iterate 4 kernel_rfl
  apply wpFl_ld rfl rfl; (case h1 => intro w' hC K hK; go_big_op; exact hK); iterate 4 kernel_rfl
  apply wpFl_ld rfl rfl; (case h1 => intro w' hC K hK; go_big_op; exact hK); iterate 4 kernel_rfl
  apply wpFl_end
  case ha => intro pt; simp only [putF, nthO, Act.put, ptr, List.setIfInBounds_toArray, List.set_cons_succ, List.set_cons_zero]; rfl
  case h =>
  intro w_18 pt hn hC hF hD
  clear hC
  clear e1 e2
  replace ha1 := ha1.bl hn; replace ha2 := ha2.bl hn; replace hc1 := hc1.bl hn; replace hc2 := hc2.bl hn; replace hq1 := hq1.bl hn; replace hq2 := hq2.bl hn; replace x_b1 := x_b1.bl hn; replace x_b2 := x_b2.bl hn; replace x_b3 := x_b3.bl hn; replace c1 := c1.bl hn; replace c2 := c2.bl hn; replace x_b4 := x_b4.bl hn; replace d1 := d1.bl hn; replace d2 := d2.bl hn; replace x_b5 := x_b5.bl hn; replace f1 := f1.bl hn; replace f2 := f2.bl hn; replace hb := hb.trans (hn.mono hb.size)
  clear hn
  obtain ⟨kB_b6, x_b6⟩ := hF 8 (by decide)
  replace x_b6 : Bs w_18 (pt 8) #[.bool false, .slice none 0 0, .bool false, .slice none 0 0] 26 := x_b6
  clear hF hD
  generalize pt 8 = p_b6 at *
  clear pt
  have kb_b6 := hide (Nat.le_trans kb0 kB_b6)
  have ne_b1_b6 : Hid (p_b1 ≠ p_b6) := Nat.ne_of_lt (Nat.lt_of_lt_of_le lt_b1 kB_b6)
  have ne_b2_b6 : Hid (p_b2 ≠ p_b6) := Nat.ne_of_lt (Nat.lt_of_lt_of_le lt_b2 kB_b6)
  have ne_b3_b6 : Hid (p_b3 ≠ p_b6) := Nat.ne_of_lt (Nat.lt_of_lt_of_le lt_b3 kB_b6)
  have ne_b4_b6 : Hid (p_b4 ≠ p_b6) := Nat.ne_of_lt (Nat.lt_of_lt_of_le lt_b4 kB_b6)
  have ne_b5_b6 : Hid (p_b5 ≠ p_b6) := Nat.ne_of_lt (Nat.lt_of_lt_of_le lt_b5 kB_b6)
  clear kB_b6
  clear kb0 lt_b1 lt_b2 lt_b3 lt_b4 lt_b5
  refine wpTail_call rfl (by kernel_rfl) fun K hK => ?_
  obtain ⟨d0, d1, d2, d3⟩ := x_b6.f4
  have f0 := x_b6.free 0; have f1 := x_b6.free 1; have f2 := x_b6.free 2; have f3 := x_b6.free 3
  go_big_op
  have hnd := x_b6.nod rfl rfl
  obtain ⟨w_19, eW, x_b6', ho⟩ : ∃ w', ((((w_18.setCell ⟨p_b6, 0, none⟩ (.bool n_fa)).setCell ⟨p_b6, 1, none⟩ (.slice o_fa k_fa c_fa)).setCell ⟨p_b6, 2, none⟩ (.bool n_fb)).setCell ⟨p_b6, 3, none⟩ (.slice o_fb k_fb c_fb)) = w' ∧ Bs w' p_b6 #[.bool n_fa, .slice o_fa k_fa c_fa, .bool n_fb, .slice o_fb k_fb c_fb] 26 ∧ Only p_b6 w_18 w' := x_b6.setN [(0, .bool n_fa), (1, .slice o_fa k_fa c_fa), (2, .bool n_fb), (3, .slice o_fb k_fb c_fb)]
  rw [eW]; clear eW d0 d1 d2 d3 f0 f1 f2 f3 x_b6
  have x_b6 := x_b6'; clear x_b6'
  replace ha1 := ha1.fr hnd ho; replace ha2 := ha2.fr hnd ho; replace hc1 := hc1.fr hnd ho; replace hc2 := hc2.fr hnd ho; replace hq1 := hq1.fr hnd ho; replace hq2 := hq2.fr hnd ho; replace x_b1 := x_b1.frame ho ne_b1_b6; replace x_b2 := x_b2.frame ho ne_b2_b6; replace x_b3 := x_b3.frame ho ne_b3_b6; replace c1 := c1.fr hnd ho; replace c2 := c2.fr hnd ho; replace x_b4 := x_b4.frame ho ne_b4_b6; replace d1 := d1.fr hnd ho; replace d2 := d2.fr hnd ho; replace x_b5 := x_b5.frame ho ne_b5_b6; replace f1 := f1.fr hnd ho; replace f2 := f2.fr hnd ho; replace hb := belowOnly hb ho kb_b6
  refine hK _ _ rfl (And.intro ⟨x_b1.cell 0 rfl, x_b1.cell 1 rfl, x_b1.cell 2 rfl, x_b1.cell 3 rfl⟩ (And.intro ⟨x_b2.cell 0 rfl, x_b2.cell 1 rfl, x_b2.cell 2 rfl, x_b2.cell 3 rfl⟩ (And.intro ⟨x_b3.cell 0 rfl, x_b3.cell 1 rfl, x_b3.cell 2 rfl, x_b3.cell 3 rfl⟩ True.intro))) ?_; clear hK K ho hnd
  refine wpTail_call rfl (by kernel_rfl) fun K hK => ?_
  go_big_move; refine hK _ _ rfl (And.intro ⟨x_b1.cell 0 rfl, x_b1.cell 1 rfl, x_b1.cell 2 rfl, x_b1.cell 3 rfl⟩ (And.intro ⟨x_b2.cell 0 rfl, x_b2.cell 1 rfl, x_b2.cell 2 rfl, x_b2.cell 3 rfl⟩ (And.intro ⟨x_b3.cell 0 rfl, x_b3.cell 1 rfl, x_b3.cell 2 rfl, x_b3.cell 3 rfl⟩ True.intro))) ?_; clear hK K
  apply wpTail_end
  refine hK8 _ _ ?_
  refine wp_seq_k ?_
  intro K9 hK9
  refine wp_region_fl2 [(0, false), (1, false), (3, false), (2, true), (4, true), (5, false), (6, false), (7, false)] [9, 10] [8] (fun j => (.cells #[.bool false, .slice none 0 0, .bool false, .slice none 0 0] 26)) [0, 1, 99, 2, 99, 99, 99, 99, 99, 99, 99] [] (fun w' => w'.cell? ⟨p_b4, 0, none⟩ = some (.bool n_ca) ∧ w'.cell? ⟨p_b4, 1, none⟩ = some (.slice o_ca k_ca c_ca) ∧ w'.cell? ⟨p_b4, 2, none⟩ = some (.bool n_cb) ∧ w'.cell? ⟨p_b4, 3, none⟩ = some (.slice o_cb k_cb c_cb) ∧ w'.cell? ⟨p_b5, 0, none⟩ = some (.bool n_da) ∧ w'.cell? ⟨p_b5, 1, none⟩ = some (.slice o_da k_da c_da) ∧ w'.cell? ⟨p_b5, 2, none⟩ = some (.bool n_db) ∧ w'.cell? ⟨p_b5, 3, none⟩ = some (.slice o_db k_db c_db) ∧ w'.cell? ⟨p_b3, 0, none⟩ = some (.bool n_2a) ∧ w'.cell? ⟨p_b3, 1, none⟩ = some (.slice o_2a k_2a c_2a) ∧ w'.cell? ⟨p_b3, 2, none⟩ = some (.bool n_2b) ∧ w'.cell? ⟨p_b3, 3, none⟩ = some (.slice o_2b k_2b c_2b)) [fun w' => w'.cell? ⟨p_b4, 0, none⟩ = some (.bool n_ca) ∧ w'.cell? ⟨p_b4, 1, none⟩ = some (.slice o_ca k_ca c_ca) ∧ w'.cell? ⟨p_b4, 2, none⟩ = some (.bool n_cb) ∧ w'.cell? ⟨p_b4, 3, none⟩ = some (.slice o_cb k_cb c_cb), fun w' => w'.cell? ⟨p_b5, 0, none⟩ = some (.bool n_da) ∧ w'.cell? ⟨p_b5, 1, none⟩ = some (.slice o_da k_da c_da) ∧ w'.cell? ⟨p_b5, 2, none⟩ = some (.bool n_db) ∧ w'.cell? ⟨p_b5, 3, none⟩ = some (.slice o_db k_db c_db), fun w' => w'.cell? ⟨p_b3, 0, none⟩ = some (.bool n_2a) ∧ w'.cell? ⟨p_b3, 1, none⟩ = some (.slice o_2a k_2a c_2a) ∧ w'.cell? ⟨p_b3, 2, none⟩ = some (.bool n_2b) ∧ w'.cell? ⟨p_b3, 3, none⟩ = some (.slice o_2b k_2b c_2b)] (by kernel_rfl) (by kernel_rfl) (by kernel_rfl) (by kernel_rfl) (by kernel_rfl) (by kernel_rfl) (by kernel_rfl) (by kernel_rfl) (by decide) (by intro j hj; simp only [List.mem_cons, List.not_mem_nil, or_false] at hj; rcases hj with rfl; all_goals exact ⟨_, rfl, rfl, fun ρ w => by unfold ptr; simp [go_sem]⟩) (by intro w' o hC; obtain ⟨c0, c1, c2, c3, c4, c5, c6, c7, c8, c9, c10, c11⟩ := hC; exact ⟨cell_alloc c0 o, cell_alloc c1 o, cell_alloc c2 o, cell_alloc c3 o, cell_alloc c4 o, cell_alloc c5 o, cell_alloc c6 o, cell_alloc c7 o, cell_alloc c8 o, cell_alloc c9 o, cell_alloc c10 o, cell_alloc c11 o⟩) (by intro w' hC G hG; obtain ⟨c0, c1, c2, c3, c4, c5, c6, c7, c8, c9, c10, c11⟩ := hC; simp only [List.mem_cons, List.not_mem_nil, or_false] at hG; rcases hG with rfl | rfl | rfl <;> first | exact ⟨c0, c1, c2, c3⟩ | exact ⟨c4, c5, c6, c7⟩ | exact ⟨c8, c9, c10, c11⟩) ?_
  have lt_b1 := x_b1.lt
  have lt_b2 := x_b2.lt
  have lt_b3 := x_b3.lt
  have lt_b4 := x_b4.lt
  have lt_b5 := x_b5.lt
  have lt_b6 := x_b6.lt
  intro w_20 hn
  replace lt_b1 := Nat.lt_of_lt_of_le lt_b1 hn.size
  replace lt_b2 := Nat.lt_of_lt_of_le lt_b2 hn.size
  replace lt_b3 := Nat.lt_of_lt_of_le lt_b3 hn.size
  replace lt_b4 := Nat.lt_of_lt_of_le lt_b4 hn.size
  replace lt_b5 := Nat.lt_of_lt_of_le lt_b5 hn.size
  replace lt_b6 := Nat.lt_of_lt_of_le lt_b6 hn.size
  replace ha1 := ha1.bl hn; replace ha2 := ha2.bl hn; replace hc1 := hc1.bl hn; replace hc2 := hc2.bl hn; replace hq1 := hq1.bl hn; replace hq2 := hq2.bl hn; replace x_b1 := x_b1.bl hn; replace x_b2 := x_b2.bl hn; replace x_b3 := x_b3.bl hn; replace c1 := c1.bl hn; replace c2 := c2.bl hn; replace x_b4 := x_b4.bl hn; replace d1 := d1.bl hn; replace d2 := d2.bl hn; replace x_b5 := x_b5.bl hn; replace f1 := f1.bl hn; replace f2 := f2.bl hn; replace x_b6 := x_b6.bl hn; replace hb := hb.trans (hn.mono hb.size)
  clear hn
  have kb0 := hb.size
  refine ⟨⟨x_b4.cell 0 rfl, x_b4.cell 1 rfl, x_b4.cell 2 rfl, x_b4.cell 3 rfl, x_b5.cell 0 rfl, x_b5.cell 1 rfl, x_b5.cell 2 rfl, x_b5.cell 3 rfl, x_b3.cell 0 rfl, x_b3.cell 1 rfl, x_b3.cell 2 rfl, x_b3.cell 3 rfl⟩, ?_⟩
  apply wpFl_ld rfl rfl; (case h1 => intro w' hC K hK; obtain ⟨c0, c1, c2, c3⟩ := hC; go_big_op; exact hK); iterate 4 kernel_rfl
  apply wpFl_ld rfl rfl; (case h1 => intro w' hC K hK; obtain ⟨c0, c1, c2, c3⟩ := hC; go_big_op; exact hK); iterate 4 kernel_rfl
  apply wpFl_ld rfl rfl; (case h1 => intro w' hC K hK; obtain ⟨c0, c1, c2, c3⟩ := hC; go_big_op; exact hK); iterate 4 kernel_rfl
  refine wpFl_call rfl (by kernel_rfl) fun w_21 hn hC => ?_; clear hC
  replace ha1 := ha1.bl hn; replace ha2 := ha2.bl hn; replace hc1 := hc1.bl hn; replace hc2 := hc2.bl hn; replace hq1 := hq1.bl hn; replace hq2 := hq2.bl hn; replace x_b1 := x_b1.bl hn; replace x_b2 := x_b2.bl hn; replace x_b3 := x_b3.bl hn; replace c1 := c1.bl hn; replace c2 := c2.bl hn; replace x_b4 := x_b4.bl hn; replace d1 := d1.bl hn; replace d2 := d2.bl hn; replace x_b5 := x_b5.bl hn; replace f1 := f1.bl hn; replace f2 := f2.bl hn; replace x_b6 := x_b6.bl hn; replace hb := hb.trans (hn.mono hb.size)
  clear hn; intro K hK
  go_big_op
  go_fit (gAdd_any (PN.mk' (c1.zn Lc1.out) (c2.zn Lc2.out)) (PN.mk' (d1.zn Ld1.out) (d2.zn Ld2.out)) (by omega) (by omega) (by omega) (by omega) )
  rintro e w_22 ⟨_, rfl, ⟨n_ha, o_ha, k_ha, c_ha, n_hb, o_hb, k_hb, c_hb, rfl, h1, h2⟩, hb_22⟩
  replace ha1 := ha1.bl hb_22; replace ha2 := ha2.bl hb_22; replace hc1 := hc1.bl hb_22; replace hc2 := hc2.bl hb_22; replace hq1 := hq1.bl hb_22; replace hq2 := hq2.bl hb_22; replace x_b1 := x_b1.bl hb_22; replace x_b2 := x_b2.bl hb_22; replace x_b3 := x_b3.bl hb_22; replace c1 := c1.bl hb_22; replace c2 := c2.bl hb_22; replace x_b4 := x_b4.bl hb_22; replace d1 := d1.bl hb_22; replace d2 := d2.bl hb_22; replace x_b5 := x_b5.bl hb_22; replace f1 := f1.bl hb_22; replace f2 := f2.bl hb_22; replace x_b6 := x_b6.bl hb_22; replace hb := hb.trans (hb_22.mono hb.size)
  have Lh1 := hide (h1.lenOf (zlen_add (Lc1.out) (Ld1.out)))
  have Lh2 := hide (h2.lenOf (zlen_add (Lc2.out) (Ld2.out)))
  refine hK _ _ rfl hb_22 ⟨x_b4.cell 0 rfl, x_b4.cell 1 rfl, x_b4.cell 2 rfl, x_b4.cell 3 rfl, x_b5.cell 0 rfl, x_b5.cell 1 rfl, x_b5.cell 2 rfl, x_b5.cell 3 rfl, x_b3.cell 0 rfl, x_b3.cell 1 rfl, x_b3.cell 2 rfl, x_b3.cell 3 rfl⟩ ?_
  clear hK K hb_22
  refine wpFl_call rfl (by kernel_rfl) fun w_23 hn hC => ?_; clear hC
  replace ha1 := ha1.bl hn; replace ha2 := ha2.bl hn; replace hc1 := hc1.bl hn; replace hc2 := hc2.bl hn; replace hq1 := hq1.bl hn; replace hq2 := hq2.bl hn; replace x_b1 := x_b1.bl hn; replace x_b2 := x_b2.bl hn; replace x_b3 := x_b3.bl hn; replace c1 := c1.bl hn; replace c2 := c2.bl hn; replace x_b4 := x_b4.bl hn; replace d1 := d1.bl hn; replace d2 := d2.bl hn; replace x_b5 := x_b5.bl hn; replace f1 := f1.bl hn; replace f2 := f2.bl hn; replace x_b6 := x_b6.bl hn; replace h1 := h1.bl hn; replace h2 := h2.bl hn; replace hb := hb.trans (hn.mono hb.size)
  clear hn; intro K hK
  go_big_op
  go_fit (gReduce_any (.mk' (h1.zn Lh1.out) (h2.zn Lh2.out)) (.mk' hq1 hq2) (by omega) (by omega) (by omega) HH.out)
  rintro e w_24 ⟨_, rfl, ⟨n_ja, o_ja, k_ja, c_ja, n_jb, o_jb, k_jb, c_jb, rfl, j1, j2⟩, hb_24⟩
  replace ha1 := ha1.bl hb_24; replace ha2 := ha2.bl hb_24; replace hc1 := hc1.bl hb_24; replace hc2 := hc2.bl hb_24; replace hq1 := hq1.bl hb_24; replace hq2 := hq2.bl hb_24; replace x_b1 := x_b1.bl hb_24; replace x_b2 := x_b2.bl hb_24; replace x_b3 := x_b3.bl hb_24; replace c1 := c1.bl hb_24; replace c2 := c2.bl hb_24; replace x_b4 := x_b4.bl hb_24; replace d1 := d1.bl hb_24; replace d2 := d2.bl hb_24; replace x_b5 := x_b5.bl hb_24; replace f1 := f1.bl hb_24; replace f2 := f2.bl hb_24; replace x_b6 := x_b6.bl hb_24; replace h1 := h1.bl hb_24; replace h2 := h2.bl hb_24; replace hb := hb.trans (hb_24.mono hb.size)
  have Lj1 := hide (j1.lenOf ((LR.out _ _).1))
  have Lj2 := hide (j2.lenOf ((LR.out _ _).2))
  rw [← EA.out.1] at j1
  rw [← EA.out.2] at j2
  refine hK _ _ rfl hb_24 ⟨x_b4.cell 0 rfl, x_b4.cell 1 rfl, x_b4.cell 2 rfl, x_b4.cell 3 rfl, x_b5.cell 0 rfl, x_b5.cell 1 rfl, x_b5.cell 2 rfl, x_b5.cell 3 rfl, x_b3.cell 0 rfl, x_b3.cell 1 rfl, x_b3.cell 2 rfl, x_b3.cell 3 rfl⟩ ?_
  clear hK K hb_24
  apply wpFl_ld rfl rfl; (case h1 => intro w' hC K hK; go_big_move; exact hK); iterate 4 kernel_rfl
  apply wpFl_ld rfl rfl; (case h1 => intro w' hC K hK; go_big_op; exact hK); iterate 4 kernel_rfl
  apply wpFl_ld rfl rfl; (case h1 => intro w' hC K hK; go_big_op; exact hK); iterate 4 kernel_rfl
  apply wpFl_end
  case ha => intro pt; simp only [putF, nthO, Act.put, ptr, List.setIfInBounds_toArray, List.set_cons_succ, List.set_cons_zero]; rfl
  case h =>
  intro w_25 pt hn hC hF hD
  clear hC
  clear h1 h2
  replace ha1 := ha1.bl hn; replace ha2 := ha2.bl hn; replace hc1 := hc1.bl hn; replace hc2 := hc2.bl hn; replace hq1 := hq1.bl hn; replace hq2 := hq2.bl hn; replace x_b1 := x_b1.bl hn; replace x_b2 := x_b2.bl hn; replace x_b3 := x_b3.bl hn; replace c1 := c1.bl hn; replace c2 := c2.bl hn; replace x_b4 := x_b4.bl hn; replace d1 := d1.bl hn; replace d2 := d2.bl hn; replace x_b5 := x_b5.bl hn; replace f1 := f1.bl hn; replace f2 := f2.bl hn; replace x_b6 := x_b6.bl hn; replace j1 := j1.bl hn; replace j2 := j2.bl hn; replace hb := hb.trans (hn.mono hb.size)
  clear hn
  obtain ⟨kB_b7, x_b7⟩ := hF 8 (by decide)
  replace x_b7 : Bs w_25 (pt 8) #[.bool false, .slice none 0 0, .bool false, .slice none 0 0] 26 := x_b7
  clear hF hD
  generalize pt 8 = p_b7 at *
  clear pt
  have kb_b7 := hide (Nat.le_trans kb0 kB_b7)
  have ne_b1_b7 : Hid (p_b1 ≠ p_b7) := Nat.ne_of_lt (Nat.lt_of_lt_of_le lt_b1 kB_b7)
  have ne_b2_b7 : Hid (p_b2 ≠ p_b7) := Nat.ne_of_lt (Nat.lt_of_lt_of_le lt_b2 kB_b7)
  have ne_b3_b7 : Hid (p_b3 ≠ p_b7) := Nat.ne_of_lt (Nat.lt_of_lt_of_le lt_b3 kB_b7)
  have ne_b4_b7 : Hid (p_b4 ≠ p_b7) := Nat.ne_of_lt (Nat.lt_of_lt_of_le lt_b4 kB_b7)
  have ne_b5_b7 : Hid (p_b5 ≠ p_b7) := Nat.ne_of_lt (Nat.lt_of_lt_of_le lt_b5 kB_b7)
  have ne_b6_b7 : Hid (p_b6 ≠ p_b7) := Nat.ne_of_lt (Nat.lt_of_lt_of_le lt_b6 kB_b7)
  clear kB_b7
  clear kb0 lt_b1 lt_b2 lt_b3 lt_b4 lt_b5 lt_b6
  refine wpTail_call rfl (by kernel_rfl) fun K hK => ?_
  obtain ⟨d0, d1, d2, d3⟩ := x_b7.f4
  have f0 := x_b7.free 0; have f1 := x_b7.free 1; have f2 := x_b7.free 2; have f3 := x_b7.free 3
  go_big_op
  have hnd := x_b7.nod rfl rfl
  obtain ⟨w_26, eW, x_b7', ho⟩ : ∃ w', ((((w_25.setCell ⟨p_b7, 0, none⟩ (.bool n_ja)).setCell ⟨p_b7, 1, none⟩ (.slice o_ja k_ja c_ja)).setCell ⟨p_b7, 2, none⟩ (.bool n_jb)).setCell ⟨p_b7, 3, none⟩ (.slice o_jb k_jb c_jb)) = w' ∧ Bs w' p_b7 #[.bool n_ja, .slice o_ja k_ja c_ja, .bool n_jb, .slice o_jb k_jb c_jb] 26 ∧ Only p_b7 w_25 w' := x_b7.setN [(0, .bool n_ja), (1, .slice o_ja k_ja c_ja), (2, .bool n_jb), (3, .slice o_jb k_jb c_jb)]
  rw [eW]; clear eW d0 d1 d2 d3 f0 f1 f2 f3 x_b7
  have x_b7 := x_b7'; clear x_b7'
  replace ha1 := ha1.fr hnd ho; replace ha2 := ha2.fr hnd ho; replace hc1 := hc1.fr hnd ho; replace hc2 := hc2.fr hnd ho; replace hq1 := hq1.fr hnd ho; replace hq2 := hq2.fr hnd ho; replace x_b1 := x_b1.frame ho ne_b1_b7; replace x_b2 := x_b2.frame ho ne_b2_b7; replace x_b3 := x_b3.frame ho ne_b3_b7; replace c1 := c1.fr hnd ho; replace c2 := c2.fr hnd ho; replace x_b4 := x_b4.frame ho ne_b4_b7; replace d1 := d1.fr hnd ho; replace d2 := d2.fr hnd ho; replace x_b5 := x_b5.frame ho ne_b5_b7; replace f1 := f1.fr hnd ho; replace f2 := f2.fr hnd ho; replace x_b6 := x_b6.frame ho ne_b6_b7; replace j1 := j1.fr hnd ho; replace j2 := j2.fr hnd ho; replace hb := belowOnly hb ho kb_b7
  refine hK _ _ rfl (And.intro ⟨x_b4.cell 0 rfl, x_b4.cell 1 rfl, x_b4.cell 2 rfl, x_b4.cell 3 rfl⟩ (And.intro ⟨x_b5.cell 0 rfl, x_b5.cell 1 rfl, x_b5.cell 2 rfl, x_b5.cell 3 rfl⟩ (And.intro ⟨x_b3.cell 0 rfl, x_b3.cell 1 rfl, x_b3.cell 2 rfl, x_b3.cell 3 rfl⟩ True.intro))) ?_; clear hK K ho hnd
  refine wpTail_call rfl (by kernel_rfl) fun K hK => ?_
  go_big_move; refine hK _ _ rfl (And.intro ⟨x_b4.cell 0 rfl, x_b4.cell 1 rfl, x_b4.cell 2 rfl, x_b4.cell 3 rfl⟩ (And.intro ⟨x_b5.cell 0 rfl, x_b5.cell 1 rfl, x_b5.cell 2 rfl, x_b5.cell 3 rfl⟩ (And.intro ⟨x_b3.cell 0 rfl, x_b3.cell 1 rfl, x_b3.cell 2 rfl, x_b3.cell 3 rfl⟩ True.intro))) ?_; clear hK K
  apply wpTail_end
  refine hK9 _ _ ?_
  refine wp_seq_k ?_
  intro K10 hK10
  refine wp_region_sq [0, 1, 2, 3, 4, 5, 6, 7, 8, 9] (by kernel_rfl) ?_
  refine wpSq_call rfl (by kernel_rfl) fun K hK => ?_
  obtain ⟨d0, d1, d2, d3⟩ := x_b1.f4
  go_big_op; refine hK _ _ rfl ?_; clear hK K d0 d1 d2 d3
  refine wpSq_call rfl (by kernel_rfl) fun K hK => ?_
  obtain ⟨d0, d1, d2, d3⟩ := x_b2.f4
  go_big_op; refine hK _ _ rfl ?_; clear hK K d0 d1 d2 d3
  refine wpSq_call rfl (by kernel_rfl) fun K hK => ?_
  obtain ⟨d0, d1, d2, d3⟩ := x_b3.f4
  go_big_op; refine hK _ _ rfl ?_; clear hK K d0 d1 d2 d3
  have Lj1 := hide (j1.lenOf ((LR.out _ _).1))
  have Lj2 := hide (j2.lenOf ((LR.out _ _).2))
  refine wpSq_call rfl (by kernel_rfl) fun K hK => ?_
  go_big_op
  go_fit (gresMul_any (.mk' ha1 ha2) (.mk' hc1 hc2) (.mk' hq1 hq2) (by omega) (by omega) (by omega) (by omega) (by omega) HH.out)
  rintro e w_27 ⟨_, rfl, ⟨n_ra, o_ra, k_ra, c_ra, n_rb, o_rb, k_rb, c_rb, rfl, r1, r2⟩, hb_27⟩
  clear x_b2
  replace ha1 := ha1.bl hb_27; replace ha2 := ha2.bl hb_27; replace hc1 := hc1.bl hb_27; replace hc2 := hc2.bl hb_27; replace hq1 := hq1.bl hb_27; replace hq2 := hq2.bl hb_27; replace x_b1 := x_b1.bl hb_27; replace x_b3 := x_b3.bl hb_27; replace c1 := c1.bl hb_27; replace c2 := c2.bl hb_27; replace x_b4 := x_b4.bl hb_27; replace d1 := d1.bl hb_27; replace d2 := d2.bl hb_27; replace x_b5 := x_b5.bl hb_27; replace f1 := f1.bl hb_27; replace f2 := f2.bl hb_27; replace x_b6 := x_b6.bl hb_27; replace j1 := j1.bl hb_27; replace j2 := j2.bl hb_27; replace x_b7 := x_b7.bl hb_27; replace hb := hb.trans (hb_27.mono hb.size)
  have Lr1 := hide (r1.lenOf ((LR.out _ _).1))
  have Lr2 := hide (r2.lenOf ((LR.out _ _).2))
  refine hK _ _ rfl ?_
  clear hK K hb_27
  refine wpSq_call rfl (by kernel_rfl) fun K hK => ?_
  go_big_move; refine hK _ _ rfl ?_; clear hK K
  refine wpSq_call rfl (by kernel_rfl) fun K hK => ?_
  go_big_op; refine hK _ _ rfl ?_; clear hK K
  refine wpSq_call rfl (by kernel_rfl) fun K hK => ?_
  go_big_op; refine hK _ _ rfl ?_; clear hK K
  refine wpSq_call rfl (by kernel_rfl) fun K hK => ?_
  go_big_op
  clear hc1 hc2
  have lt_b1 := x_b1.lt
  have lt_b3 := x_b3.lt
  have lt_b4 := x_b4.lt
  have lt_b5 := x_b5.lt
  have lt_b6 := x_b6.lt
  have lt_b7 := x_b7.lt
  obtain ⟨p_b8, w_28, eP, eW, x_b8, hn, kb_b8⟩ := newBox w_27 #[.bool false, .slice none 0 0, .bool false, .slice none 0 0] 26 hb.size
  have ne_b1_b8 : Hid (p_b1 ≠ p_b8) := Nat.ne_of_lt (eP ▸ lt_b1)
  have ne_b3_b8 : Hid (p_b3 ≠ p_b8) := Nat.ne_of_lt (eP ▸ lt_b3)
  have ne_b4_b8 : Hid (p_b4 ≠ p_b8) := Nat.ne_of_lt (eP ▸ lt_b4)
  have ne_b5_b8 : Hid (p_b5 ≠ p_b8) := Nat.ne_of_lt (eP ▸ lt_b5)
  have ne_b6_b8 : Hid (p_b6 ≠ p_b8) := Nat.ne_of_lt (eP ▸ lt_b6)
  have ne_b7_b8 : Hid (p_b7 ≠ p_b8) := Nat.ne_of_lt (eP ▸ lt_b7)
  rw [eW, eP]
  clear eW eP lt_b1 lt_b3 lt_b4 lt_b5 lt_b6 lt_b7
  replace ha1 := ha1.bl hn; replace ha2 := ha2.bl hn; replace hq1 := hq1.bl hn; replace hq2 := hq2.bl hn; replace x_b1 := x_b1.bl hn; replace x_b3 := x_b3.bl hn; replace c1 := c1.bl hn; replace c2 := c2.bl hn; replace x_b4 := x_b4.bl hn; replace d1 := d1.bl hn; replace d2 := d2.bl hn; replace x_b5 := x_b5.bl hn; replace f1 := f1.bl hn; replace f2 := f2.bl hn; replace x_b6 := x_b6.bl hn; replace j1 := j1.bl hn; replace j2 := j2.bl hn; replace x_b7 := x_b7.bl hn; replace r1 := r1.bl hn; replace r2 := r2.bl hn; replace hb := hb.trans (hn.mono hb.size)
  refine hK _ _ rfl ?_; clear hK K hn
  refine wpSq_call rfl (by kernel_rfl) fun K hK => ?_
  obtain ⟨d0, d1, d2, d3⟩ := x_b8.f4
  have f0 := x_b8.free 0; have f1 := x_b8.free 1; have f2 := x_b8.free 2; have f3 := x_b8.free 3
  go_big_op
  have hnd := x_b8.nod rfl rfl
  obtain ⟨w_29, eW, x_b8', ho⟩ : ∃ w', ((((w_28.setCell ⟨p_b8, 0, none⟩ (.bool n_ra)).setCell ⟨p_b8, 1, none⟩ (.slice o_ra k_ra c_ra)).setCell ⟨p_b8, 2, none⟩ (.bool n_rb)).setCell ⟨p_b8, 3, none⟩ (.slice o_rb k_rb c_rb)) = w' ∧ Bs w' p_b8 #[.bool n_ra, .slice o_ra k_ra c_ra, .bool n_rb, .slice o_rb k_rb c_rb] 26 ∧ Only p_b8 w_28 w' := x_b8.setN [(0, .bool n_ra), (1, .slice o_ra k_ra c_ra), (2, .bool n_rb), (3, .slice o_rb k_rb c_rb)]
  rw [eW]; clear eW d0 d1 d2 d3 f0 f1 f2 f3 x_b8
  have x_b8 := x_b8'; clear x_b8'
  replace ha1 := ha1.fr hnd ho; replace ha2 := ha2.fr hnd ho; replace hq1 := hq1.fr hnd ho; replace hq2 := hq2.fr hnd ho; replace x_b1 := x_b1.frame ho ne_b1_b8; replace x_b3 := x_b3.frame ho ne_b3_b8; replace c1 := c1.fr hnd ho; replace c2 := c2.fr hnd ho; replace x_b4 := x_b4.frame ho ne_b4_b8; replace d1 := d1.fr hnd ho; replace d2 := d2.fr hnd ho; replace x_b5 := x_b5.frame ho ne_b5_b8; replace f1 := f1.fr hnd ho; replace f2 := f2.fr hnd ho; replace x_b6 := x_b6.frame ho ne_b6_b8; replace j1 := j1.fr hnd ho; replace j2 := j2.fr hnd ho; replace x_b7 := x_b7.frame ho ne_b7_b8; replace r1 := r1.fr hnd ho; replace r2 := r2.fr hnd ho; replace hb := belowOnly hb ho kb_b8
  refine hK _ _ rfl ?_; clear hK K ho hnd
  refine wpSq_call rfl (by kernel_rfl) fun K hK => ?_
  go_big_move; refine hK _ _ rfl ?_; clear hK K
  apply wpSq_end
  refine hK10 _ _ ?_
  refine wp_seq_k ?_
  intro K11 hK11
  refine wp_region_sq [0, 1, 2, 3, 4, 5, 6, 7, 8, 9] (by kernel_rfl) ?_
  refine wpSq_call rfl (by kernel_rfl) fun K hK => ?_
  obtain ⟨d0, d1, d2, d3⟩ := x_b4.f4
  go_big_op; refine hK _ _ rfl ?_; clear hK K d0 d1 d2 d3
  refine wpSq_call rfl (by kernel_rfl) fun K hK => ?_
  obtain ⟨d0, d1, d2, d3⟩ := x_b5.f4
  go_big_op; refine hK _ _ rfl ?_; clear hK K d0 d1 d2 d3
  refine wpSq_call rfl (by kernel_rfl) fun K hK => ?_
  obtain ⟨d0, d1, d2, d3⟩ := x_b3.f4
  go_big_op; refine hK _ _ rfl ?_; clear hK K d0 d1 d2 d3
  refine wpSq_call rfl (by kernel_rfl) fun K hK => ?_
  go_big_op
  go_fit (gresMul_any (.mk' (c1.zn Lc1.out) (c2.zn Lc2.out)) (.mk' (d1.zn Ld1.out) (d2.zn Ld2.out)) (.mk' hq1 hq2) (by omega) (by omega) (by omega) (by omega) (by omega) HH.out)
  rintro e w_30 ⟨_, rfl, ⟨n_sa, o_sa, k_sa, c_sa, n_sb, o_sb, k_sb, c_sb, rfl, s1, s2⟩, hb_30⟩
  clear x_b5
  replace ha1 := ha1.bl hb_30; replace ha2 := ha2.bl hb_30; replace hq1 := hq1.bl hb_30; replace hq2 := hq2.bl hb_30; replace x_b1 := x_b1.bl hb_30; replace x_b3 := x_b3.bl hb_30; replace c1 := c1.bl hb_30; replace c2 := c2.bl hb_30; replace x_b4 := x_b4.bl hb_30; replace d1 := d1.bl hb_30; replace d2 := d2.bl hb_30; replace f1 := f1.bl hb_30; replace f2 := f2.bl hb_30; replace x_b6 := x_b6.bl hb_30; replace j1 := j1.bl hb_30; replace j2 := j2.bl hb_30; replace x_b7 := x_b7.bl hb_30; replace r1 := r1.bl hb_30; replace r2 := r2.bl hb_30; replace x_b8 := x_b8.bl hb_30; replace hb := hb.trans (hb_30.mono hb.size)
  have Ls1 := hide (s1.lenOf ((LR.out _ _).1))
  have Ls2 := hide (s2.lenOf ((LR.out _ _).2))
  rw [← EM.out.1] at s1
  rw [← EM.out.2] at s2
  refine hK _ _ rfl ?_
  clear hK K hb_30
  refine wpSq_call rfl (by kernel_rfl) fun K hK => ?_
  go_big_move; refine hK _ _ rfl ?_; clear hK K
  refine wpSq_call rfl (by kernel_rfl) fun K hK => ?_
  go_big_op; refine hK _ _ rfl ?_; clear hK K
  refine wpSq_call rfl (by kernel_rfl) fun K hK => ?_
  go_big_op; refine hK _ _ rfl ?_; clear hK K
  refine wpSq_call rfl (by kernel_rfl) fun K hK => ?_
  go_big_op
  clear d1 d2
  have lt_b1 := x_b1.lt
  have lt_b3 := x_b3.lt
  have lt_b4 := x_b4.lt
  have lt_b6 := x_b6.lt
  have lt_b7 := x_b7.lt
  have lt_b8 := x_b8.lt
  obtain ⟨p_b9, w_31, eP, eW, x_b9, hn, kb_b9⟩ := newBox w_30 #[.bool false, .slice none 0 0, .bool false, .slice none 0 0] 26 hb.size
  have ne_b1_b9 : Hid (p_b1 ≠ p_b9) := Nat.ne_of_lt (eP ▸ lt_b1)
  have ne_b3_b9 : Hid (p_b3 ≠ p_b9) := Nat.ne_of_lt (eP ▸ lt_b3)
  have ne_b4_b9 : Hid (p_b4 ≠ p_b9) := Nat.ne_of_lt (eP ▸ lt_b4)
  have ne_b6_b9 : Hid (p_b6 ≠ p_b9) := Nat.ne_of_lt (eP ▸ lt_b6)
  have ne_b7_b9 : Hid (p_b7 ≠ p_b9) := Nat.ne_of_lt (eP ▸ lt_b7)
  have ne_b8_b9 : Hid (p_b8 ≠ p_b9) := Nat.ne_of_lt (eP ▸ lt_b8)
  rw [eW, eP]
  clear eW eP lt_b1 lt_b3 lt_b4 lt_b6 lt_b7 lt_b8
  replace ha1 := ha1.bl hn; replace ha2 := ha2.bl hn; replace hq1 := hq1.bl hn; replace hq2 := hq2.bl hn; replace x_b1 := x_b1.bl hn; replace x_b3 := x_b3.bl hn; replace c1 := c1.bl hn; replace c2 := c2.bl hn; replace x_b4 := x_b4.bl hn; replace f1 := f1.bl hn; replace f2 := f2.bl hn; replace x_b6 := x_b6.bl hn; replace j1 := j1.bl hn; replace j2 := j2.bl hn; replace x_b7 := x_b7.bl hn; replace r1 := r1.bl hn; replace r2 := r2.bl hn; replace x_b8 := x_b8.bl hn; replace s1 := s1.bl hn; replace s2 := s2.bl hn; replace hb := hb.trans (hn.mono hb.size)
  refine hK _ _ rfl ?_; clear hK K hn
  refine wpSq_call rfl (by kernel_rfl) fun K hK => ?_
  obtain ⟨d0, d1, d2, d3⟩ := x_b9.f4
  have f0 := x_b9.free 0; have f1 := x_b9.free 1; have f2 := x_b9.free 2; have f3 := x_b9.free 3
  go_big_op
  have hnd := x_b9.nod rfl rfl
  obtain ⟨w_32, eW, x_b9', ho⟩ : ∃ w', ((((w_31.setCell ⟨p_b9, 0, none⟩ (.bool n_sa)).setCell ⟨p_b9, 1, none⟩ (.slice o_sa k_sa c_sa)).setCell ⟨p_b9, 2, none⟩ (.bool n_sb)).setCell ⟨p_b9, 3, none⟩ (.slice o_sb k_sb c_sb)) = w' ∧ Bs w' p_b9 #[.bool n_sa, .slice o_sa k_sa c_sa, .bool n_sb, .slice o_sb k_sb c_sb] 26 ∧ Only p_b9 w_31 w' := x_b9.setN [(0, .bool n_sa), (1, .slice o_sa k_sa c_sa), (2, .bool n_sb), (3, .slice o_sb k_sb c_sb)]
  rw [eW]; clear eW d0 d1 d2 d3 f0 f1 f2 f3 x_b9
  have x_b9 := x_b9'; clear x_b9'
  replace ha1 := ha1.fr hnd ho; replace ha2 := ha2.fr hnd ho; replace hq1 := hq1.fr hnd ho; replace hq2 := hq2.fr hnd ho; replace x_b1 := x_b1.frame ho ne_b1_b9; replace x_b3 := x_b3.frame ho ne_b3_b9; replace c1 := c1.fr hnd ho; replace c2 := c2.fr hnd ho; replace x_b4 := x_b4.frame ho ne_b4_b9; replace f1 := f1.fr hnd ho; replace f2 := f2.fr hnd ho; replace x_b6 := x_b6.frame ho ne_b6_b9; replace j1 := j1.fr hnd ho; replace j2 := j2.fr hnd ho; replace x_b7 := x_b7.frame ho ne_b7_b9; replace r1 := r1.fr hnd ho; replace r2 := r2.fr hnd ho; replace x_b8 := x_b8.frame ho ne_b8_b9; replace s1 := s1.fr hnd ho; replace s2 := s2.fr hnd ho; replace hb := belowOnly hb ho kb_b9
  refine hK _ _ rfl ?_; clear hK K ho hnd
  refine wpSq_call rfl (by kernel_rfl) fun K hK => ?_
  go_big_move; refine hK _ _ rfl ?_; clear hK K
  apply wpSq_end
  refine hK11 _ _ ?_
  refine wp_seq_k ?_
  intro K12 hK12
  refine wp_region_fl2 [(0, false), (1, false), (3, false), (2, true), (4, true), (5, false), (6, false), (7, false)] [9, 10] [8] (fun j => (.cells #[.bool false, .slice none 0 0, .bool false, .slice none 0 0] 26)) [0, 1, 99, 2, 99, 99, 99, 99, 99, 99, 99] [] (fun w' => w'.cell? ⟨p_b1, 0, none⟩ = some (.bool n_0a) ∧ w'.cell? ⟨p_b1, 1, none⟩ = some (.slice o_0a k_0a c_0a) ∧ w'.cell? ⟨p_b1, 2, none⟩ = some (.bool n_0b) ∧ w'.cell? ⟨p_b1, 3, none⟩ = some (.slice o_0b k_0b c_0b) ∧ w'.cell? ⟨p_b4, 0, none⟩ = some (.bool n_ca) ∧ w'.cell? ⟨p_b4, 1, none⟩ = some (.slice o_ca k_ca c_ca) ∧ w'.cell? ⟨p_b4, 2, none⟩ = some (.bool n_cb) ∧ w'.cell? ⟨p_b4, 3, none⟩ = some (.slice o_cb k_cb c_cb) ∧ w'.cell? ⟨p_b3, 0, none⟩ = some (.bool n_2a) ∧ w'.cell? ⟨p_b3, 1, none⟩ = some (.slice o_2a k_2a c_2a) ∧ w'.cell? ⟨p_b3, 2, none⟩ = some (.bool n_2b) ∧ w'.cell? ⟨p_b3, 3, none⟩ = some (.slice o_2b k_2b c_2b)) [fun w' => w'.cell? ⟨p_b1, 0, none⟩ = some (.bool n_0a) ∧ w'.cell? ⟨p_b1, 1, none⟩ = some (.slice o_0a k_0a c_0a) ∧ w'.cell? ⟨p_b1, 2, none⟩ = some (.bool n_0b) ∧ w'.cell? ⟨p_b1, 3, none⟩ = some (.slice o_0b k_0b c_0b), fun w' => w'.cell? ⟨p_b4, 0, none⟩ = some (.bool n_ca) ∧ w'.cell? ⟨p_b4, 1, none⟩ = some (.slice o_ca k_ca c_ca) ∧ w'.cell? ⟨p_b4, 2, none⟩ = some (.bool n_cb) ∧ w'.cell? ⟨p_b4, 3, none⟩ = some (.slice o_cb k_cb c_cb), fun w' => w'.cell? ⟨p_b3, 0, none⟩ = some (.bool n_2a) ∧ w'.cell? ⟨p_b3, 1, none⟩ = some (.slice o_2a k_2a c_2a) ∧ w'.cell? ⟨p_b3, 2, none⟩ = some (.bool n_2b) ∧ w'.cell? ⟨p_b3, 3, none⟩ = some (.slice o_2b k_2b c_2b)] (by kernel_rfl) (by kernel_rfl) (by kernel_rfl) (by kernel_rfl) (by kernel_rfl) (by kernel_rfl) (by kernel_rfl) (by kernel_rfl) (by decide) (by intro j hj; simp only [List.mem_cons, List.not_mem_nil, or_false] at hj; rcases hj with rfl; all_goals exact ⟨_, rfl, rfl, fun ρ w => by unfold ptr; simp [go_sem]⟩) (by intro w' o hC; obtain ⟨c0, c1, c2, c3, c4, c5, c6, c7, c8, c9, c10, c11⟩ := hC; exact ⟨cell_alloc c0 o, cell_alloc c1 o, cell_alloc c2 o, cell_alloc c3 o, cell_alloc c4 o, cell_alloc c5 o, cell_alloc c6 o, cell_alloc c7 o, cell_alloc c8 o, cell_alloc c9 o, cell_alloc c10 o, cell_alloc c11 o⟩) (by intro w' hC G hG; obtain ⟨c0, c1, c2, c3, c4, c5, c6, c7, c8, c9, c10, c11⟩ := hC; simp only [List.mem_cons, List.not_mem_nil, or_false] at hG; rcases hG with rfl | rfl | rfl <;> first | exact ⟨c0, c1, c2, c3⟩ | exact ⟨c4, c5, c6, c7⟩ | exact ⟨c8, c9, c10, c11⟩) ?_
  have lt_b1 := x_b1.lt
  have lt_b3 := x_b3.lt
  have lt_b4 := x_b4.lt
  have lt_b6 := x_b6.lt
  have lt_b7 := x_b7.lt
  have lt_b8 := x_b8.lt
  have lt_b9 := x_b9.lt
  intro w_33 hn
  replace lt_b1 := Nat.lt_of_lt_of_le lt_b1 hn.size
  replace lt_b3 := Nat.lt_of_lt_of_le lt_b3 hn.size
  replace lt_b4 := Nat.lt_of_lt_of_le lt_b4 hn.size
  replace lt_b6 := Nat.lt_of_lt_of_le lt_b6 hn.size
  replace lt_b7 := Nat.lt_of_lt_of_le lt_b7 hn.size
  replace lt_b8 := Nat.lt_of_lt_of_le lt_b8 hn.size
  replace lt_b9 := Nat.lt_of_lt_of_le lt_b9 hn.size
  replace ha1 := ha1.bl hn; replace ha2 := ha2.bl hn; replace hq1 := hq1.bl hn; replace hq2 := hq2.bl hn; replace x_b1 := x_b1.bl hn; replace x_b3 := x_b3.bl hn; replace c1 := c1.bl hn; replace c2 := c2.bl hn; replace x_b4 := x_b4.bl hn; replace f1 := f1.bl hn; replace f2 := f2.bl hn; replace x_b6 := x_b6.bl hn; replace j1 := j1.bl hn; replace j2 := j2.bl hn; replace x_b7 := x_b7.bl hn; replace r1 := r1.bl hn; replace r2 := r2.bl hn; replace x_b8 := x_b8.bl hn; replace s1 := s1.bl hn; replace s2 := s2.bl hn; replace x_b9 := x_b9.bl hn; replace hb := hb.trans (hn.mono hb.size)
  clear hn
  have kb0 := hb.size
  refine ⟨⟨x_b1.cell 0 rfl, x_b1.cell 1 rfl, x_b1.cell 2 rfl, x_b1.cell 3 rfl, x_b4.cell 0 rfl, x_b4.cell 1 rfl, x_b4.cell 2 rfl, x_b4.cell 3 rfl, x_b3.cell 0 rfl, x_b3.cell 1 rfl, x_b3.cell 2 rfl, x_b3.cell 3 rfl⟩, ?_⟩
  apply wpFl_ld rfl rfl; (case h1 => intro w' hC K hK; obtain ⟨c0, c1, c2, c3⟩ := hC; go_big_op; exact hK); iterate 4 kernel_rfl
  apply wpFl_ld rfl rfl; (case h1 => intro w' hC K hK; obtain ⟨c0, c1, c2, c3⟩ := hC; go_big_op; exact hK); iterate 4 kernel_rfl
  apply wpFl_ld rfl rfl; (case h1 => intro w' hC K hK; obtain ⟨c0, c1, c2, c3⟩ := hC; go_big_op; exact hK); iterate 4 kernel_rfl
  have Ls1 := hide (s1.lenOf ((LR.out _ _).1))
  have Ls2 := hide (s2.lenOf ((LR.out _ _).2))
  refine wpFl_call rfl (by kernel_rfl) fun w_34 hn hC => ?_; clear hC
  replace ha1 := ha1.bl hn; replace ha2 := ha2.bl hn; replace hq1 := hq1.bl hn; replace hq2 := hq2.bl hn; replace x_b1 := x_b1.bl hn; replace x_b3 := x_b3.bl hn; replace c1 := c1.bl hn; replace c2 := c2.bl hn; replace x_b4 := x_b4.bl hn; replace f1 := f1.bl hn; replace f2 := f2.bl hn; replace x_b6 := x_b6.bl hn; replace j1 := j1.bl hn; replace j2 := j2.bl hn; replace x_b7 := x_b7.bl hn; replace r1 := r1.bl hn; replace r2 := r2.bl hn; replace x_b8 := x_b8.bl hn; replace s1 := s1.bl hn; replace s2 := s2.bl hn; replace x_b9 := x_b9.bl hn; replace hb := hb.trans (hn.mono hb.size)
  clear hn; intro K hK
  go_big_op
  go_fit (gSub_any (PN.mk' ha1 ha2) (PN.mk' (c1.zn Lc1.out) (c2.zn Lc2.out)) (by omega) (by omega) (by omega) (by omega) )
  rintro e w_35 ⟨_, rfl, ⟨n_oa, o_oa, k_oa, c_oa, n_ob, o_ob, k_ob, c_ob, rfl, o1, o2⟩, hb_35⟩
  replace ha1 := ha1.bl hb_35; replace ha2 := ha2.bl hb_35; replace hq1 := hq1.bl hb_35; replace hq2 := hq2.bl hb_35; replace x_b1 := x_b1.bl hb_35; replace x_b3 := x_b3.bl hb_35; replace c1 := c1.bl hb_35; replace c2 := c2.bl hb_35; replace x_b4 := x_b4.bl hb_35; replace f1 := f1.bl hb_35; replace f2 := f2.bl hb_35; replace x_b6 := x_b6.bl hb_35; replace j1 := j1.bl hb_35; replace j2 := j2.bl hb_35; replace x_b7 := x_b7.bl hb_35; replace r1 := r1.bl hb_35; replace r2 := r2.bl hb_35; replace x_b8 := x_b8.bl hb_35; replace s1 := s1.bl hb_35; replace s2 := s2.bl hb_35; replace x_b9 := x_b9.bl hb_35; replace hb := hb.trans (hb_35.mono hb.size)
  have Lo1 := hide (o1.lenOf (zlen_sub (ha1.len) (Lc1.out)))
  have Lo2 := hide (o2.lenOf (zlen_sub (ha2.len) (Lc2.out)))
  refine hK _ _ rfl hb_35 ⟨x_b1.cell 0 rfl, x_b1.cell 1 rfl, x_b1.cell 2 rfl, x_b1.cell 3 rfl, x_b4.cell 0 rfl, x_b4.cell 1 rfl, x_b4.cell 2 rfl, x_b4.cell 3 rfl, x_b3.cell 0 rfl, x_b3.cell 1 rfl, x_b3.cell 2 rfl, x_b3.cell 3 rfl⟩ ?_
  clear hK K hb_35
  refine wpFl_call rfl (by kernel_rfl) fun w_36 hn hC => ?_; clear hC
  replace ha1 := ha1.bl hn; replace ha2 := ha2.bl hn; replace hq1 := hq1.bl hn; replace hq2 := hq2.bl hn; replace x_b1 := x_b1.bl hn; replace x_b3 := x_b3.bl hn; replace c1 := c1.bl hn; replace c2 := c2.bl hn; replace x_b4 := x_b4.bl hn; replace f1 := f1.bl hn; replace f2 := f2.bl hn; replace x_b6 := x_b6.bl hn; replace j1 := j1.bl hn; replace j2 := j2.bl hn; replace x_b7 := x_b7.bl hn; replace r1 := r1.bl hn; replace r2 := r2.bl hn; replace x_b8 := x_b8.bl hn; replace s1 := s1.bl hn; replace s2 := s2.bl hn; replace x_b9 := x_b9.bl hn; replace o1 := o1.bl hn; replace o2 := o2.bl hn; replace hb := hb.trans (hn.mono hb.size)
  clear hn; intro K hK
  go_big_op
  go_fit (gExact_any (PN.mk' (o1.zn Lo1.out) (o2.zn Lo2.out)) (PN.mk' hq1 hq2) (by omega) (by omega) (by omega) (by omega) HH.out EX.out.1 EX.out.2)
  rintro e w_37 ⟨_, rfl, ⟨n_pa, o_pa, k_pa, c_pa, n_pb, o_pb, k_pb, c_pb, rfl, p1, p2⟩, hb_37⟩
  replace ha1 := ha1.bl hb_37; replace ha2 := ha2.bl hb_37; replace hq1 := hq1.bl hb_37; replace hq2 := hq2.bl hb_37; replace x_b1 := x_b1.bl hb_37; replace x_b3 := x_b3.bl hb_37; replace c1 := c1.bl hb_37; replace c2 := c2.bl hb_37; replace x_b4 := x_b4.bl hb_37; replace f1 := f1.bl hb_37; replace f2 := f2.bl hb_37; replace x_b6 := x_b6.bl hb_37; replace j1 := j1.bl hb_37; replace j2 := j2.bl hb_37; replace x_b7 := x_b7.bl hb_37; replace r1 := r1.bl hb_37; replace r2 := r2.bl hb_37; replace x_b8 := x_b8.bl hb_37; replace s1 := s1.bl hb_37; replace s2 := s2.bl hb_37; replace x_b9 := x_b9.bl hb_37; replace o1 := o1.bl hb_37; replace o2 := o2.bl hb_37; replace hb := hb.trans (hb_37.mono hb.size)
  have Lp1 := hide (p1.lenOf (fdiv_len (HH.out) (zlen_gT1 (Lo1.out) (Lo2.out) (hq1.len) (hq2.len))))
  have Lp2 := hide (p2.lenOf (fdiv_len (HH.out) (zlen_gT2 (Lo1.out) (Lo2.out) (hq1.len) (hq2.len))))
  refine hK _ _ rfl hb_37 ⟨x_b1.cell 0 rfl, x_b1.cell 1 rfl, x_b1.cell 2 rfl, x_b1.cell 3 rfl, x_b4.cell 0 rfl, x_b4.cell 1 rfl, x_b4.cell 2 rfl, x_b4.cell 3 rfl, x_b3.cell 0 rfl, x_b3.cell 1 rfl, x_b3.cell 2 rfl, x_b3.cell 3 rfl⟩ ?_
  clear hK K hb_37
  apply wpFl_ld rfl rfl; (case h1 => intro w' hC K hK; go_big_move; exact hK); iterate 4 kernel_rfl
  apply wpFl_ld rfl rfl; (case h1 => intro w' hC K hK; go_big_op; exact hK); iterate 4 kernel_rfl
  apply wpFl_ld rfl rfl; (case h1 => intro w' hC K hK; go_big_op; exact hK); iterate 4 kernel_rfl
  apply wpFl_end
  case ha => intro pt; simp only [putF, nthO, Act.put, ptr, List.setIfInBounds_toArray, List.set_cons_succ, List.set_cons_zero]; rfl
  case h =>
  intro w_38 pt hn hC hF hD
  clear hC
  clear o1 o2
  replace ha1 := ha1.bl hn; replace ha2 := ha2.bl hn; replace hq1 := hq1.bl hn; replace hq2 := hq2.bl hn; replace x_b1 := x_b1.bl hn; replace x_b3 := x_b3.bl hn; replace c1 := c1.bl hn; replace c2 := c2.bl hn; replace x_b4 := x_b4.bl hn; replace f1 := f1.bl hn; replace f2 := f2.bl hn; replace x_b6 := x_b6.bl hn; replace j1 := j1.bl hn; replace j2 := j2.bl hn; replace x_b7 := x_b7.bl hn; replace r1 := r1.bl hn; replace r2 := r2.bl hn; replace x_b8 := x_b8.bl hn; replace s1 := s1.bl hn; replace s2 := s2.bl hn; replace x_b9 := x_b9.bl hn; replace p1 := p1.bl hn; replace p2 := p2.bl hn; replace hb := hb.trans (hn.mono hb.size)
  clear hn
  obtain ⟨kB_b10, x_b10⟩ := hF 8 (by decide)
  replace x_b10 : Bs w_38 (pt 8) #[.bool false, .slice none 0 0, .bool false, .slice none 0 0] 26 := x_b10
  clear hF hD
  generalize pt 8 = p_b10 at *
  clear pt
  have kb_b10 := hide (Nat.le_trans kb0 kB_b10)
  have ne_b1_b10 : Hid (p_b1 ≠ p_b10) := Nat.ne_of_lt (Nat.lt_of_lt_of_le lt_b1 kB_b10)
  have ne_b3_b10 : Hid (p_b3 ≠ p_b10) := Nat.ne_of_lt (Nat.lt_of_lt_of_le lt_b3 kB_b10)
  have ne_b4_b10 : Hid (p_b4 ≠ p_b10) := Nat.ne_of_lt (Nat.lt_of_lt_of_le lt_b4 kB_b10)
  have ne_b6_b10 : Hid (p_b6 ≠ p_b10) := Nat.ne_of_lt (Nat.lt_of_lt_of_le lt_b6 kB_b10)
  have ne_b7_b10 : Hid (p_b7 ≠ p_b10) := Nat.ne_of_lt (Nat.lt_of_lt_of_le lt_b7 kB_b10)
  have ne_b8_b10 : Hid (p_b8 ≠ p_b10) := Nat.ne_of_lt (Nat.lt_of_lt_of_le lt_b8 kB_b10)
  have ne_b9_b10 : Hid (p_b9 ≠ p_b10) := Nat.ne_of_lt (Nat.lt_of_lt_of_le lt_b9 kB_b10)
  clear kB_b10
  clear kb0 lt_b1 lt_b3 lt_b4 lt_b6 lt_b7 lt_b8 lt_b9
  refine wpTail_call rfl (by kernel_rfl) fun K hK => ?_
  obtain ⟨d0, d1, d2, d3⟩ := x_b10.f4
  have f0 := x_b10.free 0; have f1 := x_b10.free 1; have f2 := x_b10.free 2; have f3 := x_b10.free 3
  go_big_op
  have hnd := x_b10.nod rfl rfl
  obtain ⟨w_39, eW, x_b10', ho⟩ : ∃ w', ((((w_38.setCell ⟨p_b10, 0, none⟩ (.bool n_pa)).setCell ⟨p_b10, 1, none⟩ (.slice o_pa k_pa c_pa)).setCell ⟨p_b10, 2, none⟩ (.bool n_pb)).setCell ⟨p_b10, 3, none⟩ (.slice o_pb k_pb c_pb)) = w' ∧ Bs w' p_b10 #[.bool n_pa, .slice o_pa k_pa c_pa, .bool n_pb, .slice o_pb k_pb c_pb] 26 ∧ Only p_b10 w_38 w' := x_b10.setN [(0, .bool n_pa), (1, .slice o_pa k_pa c_pa), (2, .bool n_pb), (3, .slice o_pb k_pb c_pb)]
  rw [eW]; clear eW d0 d1 d2 d3 f0 f1 f2 f3 x_b10
  have x_b10 := x_b10'; clear x_b10'
  replace ha1 := ha1.fr hnd ho; replace ha2 := ha2.fr hnd ho; replace hq1 := hq1.fr hnd ho; replace hq2 := hq2.fr hnd ho; replace x_b1 := x_b1.frame ho ne_b1_b10; replace x_b3 := x_b3.frame ho ne_b3_b10; replace c1 := c1.fr hnd ho; replace c2 := c2.fr hnd ho; replace x_b4 := x_b4.frame ho ne_b4_b10; replace f1 := f1.fr hnd ho; replace f2 := f2.fr hnd ho; replace x_b6 := x_b6.frame ho ne_b6_b10; replace j1 := j1.fr hnd ho; replace j2 := j2.fr hnd ho; replace x_b7 := x_b7.frame ho ne_b7_b10; replace r1 := r1.fr hnd ho; replace r2 := r2.fr hnd ho; replace x_b8 := x_b8.frame ho ne_b8_b10; replace s1 := s1.fr hnd ho; replace s2 := s2.fr hnd ho; replace x_b9 := x_b9.frame ho ne_b9_b10; replace p1 := p1.fr hnd ho; replace p2 := p2.fr hnd ho; replace hb := belowOnly hb ho kb_b10
  refine hK _ _ rfl (And.intro ⟨x_b1.cell 0 rfl, x_b1.cell 1 rfl, x_b1.cell 2 rfl, x_b1.cell 3 rfl⟩ (And.intro ⟨x_b4.cell 0 rfl, x_b4.cell 1 rfl, x_b4.cell 2 rfl, x_b4.cell 3 rfl⟩ (And.intro ⟨x_b3.cell 0 rfl, x_b3.cell 1 rfl, x_b3.cell 2 rfl, x_b3.cell 3 rfl⟩ True.intro))) ?_; clear hK K ho hnd
  refine wpTail_call rfl (by kernel_rfl) fun K hK => ?_
  go_big_move; refine hK _ _ rfl (And.intro ⟨x_b1.cell 0 rfl, x_b1.cell 1 rfl, x_b1.cell 2 rfl, x_b1.cell 3 rfl⟩ (And.intro ⟨x_b4.cell 0 rfl, x_b4.cell 1 rfl, x_b4.cell 2 rfl, x_b4.cell 3 rfl⟩ (And.intro ⟨x_b3.cell 0 rfl, x_b3.cell 1 rfl, x_b3.cell 2 rfl, x_b3.cell 3 rfl⟩ True.intro))) ?_; clear hK K
  apply wpTail_end
  refine hK12 _ _ ?_
  refine wp_seq_k ?_
  intro K13 hK13
  refine wp_seq_k ?_
  intro K14 hK14
  refine wp_region_sq [0, 1, 2, 3, 4, 5, 6, 7, 8, 9, 10, 11, 12, 13, 14, 15, 16, 17, 18, 19, 20, 21, 22, 23, 24, 25, 26, 27, 28, 29, 30, 31, 32, 33, 34, 35, 36, 37] (by kernel_rfl) ?_
  refine wpSq_call rfl (by kernel_rfl) fun K hK => ?_
  go_big_move; refine hK _ _ rfl ?_; clear hK K
  refine wpSq_call rfl (by kernel_rfl) fun K hK => ?_
  go_big_op; refine hK _ _ rfl ?_; clear hK K
  refine wpSq_call rfl (by kernel_rfl) fun K hK => ?_
  go_big_move; refine hK _ _ rfl ?_; clear hK K
  refine wpSq_call rfl (by kernel_rfl) fun K hK => ?_
  go_big_move; refine hK _ _ rfl ?_; clear hK K
  refine wpSq_call rfl (by kernel_rfl) fun K hK => ?_
  go_big_op; refine hK _ _ rfl ?_; clear hK K
  refine wpSq_call rfl (by kernel_rfl) fun K hK => ?_
  go_big_op; refine hK _ _ rfl ?_; clear hK K
  refine wpSq_call rfl (by kernel_rfl) fun K hK => ?_
  go_big_move; refine hK _ _ rfl ?_; clear hK K
  refine wpSq_call rfl (by kernel_rfl) fun K hK => ?_
  go_big_move; refine hK _ _ rfl ?_; clear hK K
  refine wpSq_call rfl (by kernel_rfl) fun K hK => ?_
  go_big_op; refine hK _ _ rfl ?_; clear hK K
  refine wpSq_call rfl (by kernel_rfl) fun K hK => ?_
  go_big_op; refine hK _ _ rfl ?_; clear hK K
  refine wpSq_call rfl (by kernel_rfl) fun K hK => ?_
  go_big_move; refine hK _ _ rfl ?_; clear hK K
  refine wpSq_call rfl (by kernel_rfl) fun K hK => ?_
  go_big_move; refine hK _ _ rfl ?_; clear hK K
  refine wpSq_call rfl (by kernel_rfl) fun K hK => ?_
  go_big_op; refine hK _ _ rfl ?_; clear hK K
  refine wpSq_call rfl (by kernel_rfl) fun K hK => ?_
  go_big_op; refine hK _ _ rfl ?_; clear hK K
  refine wpSq_call rfl (by kernel_rfl) fun K hK => ?_
  go_big_move; refine hK _ _ rfl ?_; clear hK K
  refine wpSq_call rfl (by kernel_rfl) fun K hK => ?_
  go_big_move; refine hK _ _ rfl ?_; clear hK K
  refine wpSq_call rfl (by kernel_rfl) fun K hK => ?_
  go_big_op; refine hK _ _ rfl ?_; clear hK K
  refine wpSq_call rfl (by kernel_rfl) fun K hK => ?_
  go_big_op; refine hK _ _ rfl ?_; clear hK K
  refine wpSq_call rfl (by kernel_rfl) fun K hK => ?_
  go_big_move; refine hK _ _ rfl ?_; clear hK K
  refine wpSq_call rfl (by kernel_rfl) fun K hK => ?_
  go_big_move; refine hK _ _ rfl ?_; clear hK K
  refine wpSq_call rfl (by kernel_rfl) fun K hK => ?_
  go_big_op; refine hK _ _ rfl ?_; clear hK K
  refine wpSq_call rfl (by kernel_rfl) fun K hK => ?_
  go_big_op; refine hK _ _ rfl ?_; clear hK K
  refine wpSq_call rfl (by kernel_rfl) fun K hK => ?_
  go_big_move; refine hK _ _ rfl ?_; clear hK K
  refine wpSq_call rfl (by kernel_rfl) fun K hK => ?_
  go_big_move; refine hK _ _ rfl ?_; clear hK K
  refine wpSq_call rfl (by kernel_rfl) fun K hK => ?_
  go_big_op; refine hK _ _ rfl ?_; clear hK K
  refine wpSq_call rfl (by kernel_rfl) fun K hK => ?_
  go_big_op; refine hK _ _ rfl ?_; clear hK K
  refine wpSq_call rfl (by kernel_rfl) fun K hK => ?_
  go_big_move; refine hK _ _ rfl ?_; clear hK K
  refine wpSq_call rfl (by kernel_rfl) fun K hK => ?_
  obtain ⟨d0, d1, d2, d3⟩ := x_b6.f4
  go_big_op; refine hK _ _ rfl ?_; clear hK K d0 d1 d2 d3
  refine wpSq_call rfl (by kernel_rfl) fun K hK => ?_
  obtain ⟨d0, d1, d2, d3⟩ := x_b7.f4
  go_big_op; refine hK _ _ rfl ?_; clear hK K d0 d1 d2 d3
  refine wpSq_call rfl (by kernel_rfl) fun K hK => ?_
  go_big_op
  go_fit (g5is_any (PC.mk' f1 f2) (PN.mk' (j1.zn Lj1.out) (j2.zn Lj2.out)) (by omega) (by omega) )
  rintro e w_40 ⟨rfl, hb_40⟩
  clear x_b6 x_b7 p1 p2 x_b10
  replace ha1 := ha1.bl hb_40; replace ha2 := ha2.bl hb_40; replace hq1 := hq1.bl hb_40; replace hq2 := hq2.bl hb_40; replace x_b1 := x_b1.bl hb_40; replace x_b3 := x_b3.bl hb_40; replace c1 := c1.bl hb_40; replace c2 := c2.bl hb_40; replace x_b4 := x_b4.bl hb_40; replace f1 := f1.bl hb_40; replace f2 := f2.bl hb_40; replace j1 := j1.bl hb_40; replace j2 := j2.bl hb_40; replace r1 := r1.bl hb_40; replace r2 := r2.bl hb_40; replace x_b8 := x_b8.bl hb_40; replace s1 := s1.bl hb_40; replace s2 := s2.bl hb_40; replace x_b9 := x_b9.bl hb_40; replace hb := hb.trans (hb_40.mono hb.size)
  refine hK _ _ rfl ?_
  clear hK K hb_40
  refine wpSq_call rfl (by kernel_rfl) fun K hK => ?_
  go_big_op; refine hK _ _ rfl ?_; clear hK K
  refine wpSq_call rfl (by kernel_rfl) fun K hK => ?_
  go_big_op; refine hK _ _ rfl ?_; clear hK K
  refine wpSq_call rfl (by kernel_rfl) fun K hK => ?_
  go_big_move; refine hK _ _ rfl ?_; clear hK K
  refine wpSq_call rfl (by kernel_rfl) fun K hK => ?_
  obtain ⟨d0, d1, d2, d3⟩ := x_b8.f4
  go_big_op; refine hK _ _ rfl ?_; clear hK K d0 d1 d2 d3
  refine wpSq_call rfl (by kernel_rfl) fun K hK => ?_
  obtain ⟨d0, d1, d2, d3⟩ := x_b9.f4
  go_big_op; refine hK _ _ rfl ?_; clear hK K d0 d1 d2 d3
  refine wpSq_call rfl (by kernel_rfl) fun K hK => ?_
  go_big_op
  go_fit (g5is_any (PC.mk' r1 r2) (PN.mk' (s1.zn Ls1.out) (s2.zn Ls2.out)) (by omega) (by omega) )
  rintro e w_41 ⟨rfl, hb_41⟩
  clear f1 f2 j1 j2 x_b8 x_b9
  replace ha1 := ha1.bl hb_41; replace ha2 := ha2.bl hb_41; replace hq1 := hq1.bl hb_41; replace hq2 := hq2.bl hb_41; replace x_b1 := x_b1.bl hb_41; replace x_b3 := x_b3.bl hb_41; replace c1 := c1.bl hb_41; replace c2 := c2.bl hb_41; replace x_b4 := x_b4.bl hb_41; replace r1 := r1.bl hb_41; replace r2 := r2.bl hb_41; replace s1 := s1.bl hb_41; replace s2 := s2.bl hb_41; replace hb := hb.trans (hb_41.mono hb.size)
  refine hK _ _ rfl ?_
  clear hK K hb_41
  refine wpSq_call rfl (by kernel_rfl) fun K hK => ?_
  go_big_op; refine hK _ _ rfl ?_; clear hK K
  refine wpSq_call rfl (by kernel_rfl) fun K hK => ?_
  go_big_op; refine hK _ _ rfl ?_; clear hK K
  apply wpSq_end
  refine hK14 _ _ ?_
  refine wp_cond_false (congrArg Value.bool (show _ = false from (by first | rfl | assumption | (simp; done) | exact decide_eq_false (by omega) | omega))) ?_
  refine wp_skip ?_
  refine hK13 _ _ ?_
  refine wp_seq_k ?_
  intro K15 hK15
  refine wp_seq_k ?_
  intro K16 hK16
  refine wp_region_fl2 [(0, false), (2, false), (5, false), (1, true), (3, true), (4, true), (6, true), (7, true), (8, false)] [] [] (fun _ => default) [0, 99, 0, 99, 99, 1, 99, 99, 99] [] (fun w' => w'.cell? ⟨p_b4, 0, none⟩ = some (.bool n_ca) ∧ w'.cell? ⟨p_b4, 1, none⟩ = some (.slice o_ca k_ca c_ca) ∧ w'.cell? ⟨p_b4, 2, none⟩ = some (.bool n_cb) ∧ w'.cell? ⟨p_b4, 3, none⟩ = some (.slice o_cb k_cb c_cb) ∧ w'.cell? ⟨p_b3, 0, none⟩ = some (.bool n_2a) ∧ w'.cell? ⟨p_b3, 1, none⟩ = some (.slice o_2a k_2a c_2a) ∧ w'.cell? ⟨p_b3, 2, none⟩ = some (.bool n_2b) ∧ w'.cell? ⟨p_b3, 3, none⟩ = some (.slice o_2b k_2b c_2b)) [fun w' => w'.cell? ⟨p_b4, 0, none⟩ = some (.bool n_ca) ∧ w'.cell? ⟨p_b4, 1, none⟩ = some (.slice o_ca k_ca c_ca) ∧ w'.cell? ⟨p_b4, 2, none⟩ = some (.bool n_cb) ∧ w'.cell? ⟨p_b4, 3, none⟩ = some (.slice o_cb k_cb c_cb), fun w' => w'.cell? ⟨p_b3, 0, none⟩ = some (.bool n_2a) ∧ w'.cell? ⟨p_b3, 1, none⟩ = some (.slice o_2a k_2a c_2a) ∧ w'.cell? ⟨p_b3, 2, none⟩ = some (.bool n_2b) ∧ w'.cell? ⟨p_b3, 3, none⟩ = some (.slice o_2b k_2b c_2b)] (by kernel_rfl) (by kernel_rfl) (by kernel_rfl) (by kernel_rfl) (by kernel_rfl) (by kernel_rfl) (by kernel_rfl) (by kernel_rfl) (by decide) (by intro j hj; cases hj) (by intro w' o hC; obtain ⟨c0, c1, c2, c3, c4, c5, c6, c7⟩ := hC; exact ⟨cell_alloc c0 o, cell_alloc c1 o, cell_alloc c2 o, cell_alloc c3 o, cell_alloc c4 o, cell_alloc c5 o, cell_alloc c6 o, cell_alloc c7 o⟩) (by intro w' hC G hG; obtain ⟨c0, c1, c2, c3, c4, c5, c6, c7⟩ := hC; simp only [List.mem_cons, List.not_mem_nil, or_false] at hG; rcases hG with rfl | rfl <;> first | exact ⟨c0, c1, c2, c3⟩ | exact ⟨c4, c5, c6, c7⟩) ?_
  clear r1 r2 s1 s2
  have lt_b1 := x_b1.lt
  have lt_b3 := x_b3.lt
  have lt_b4 := x_b4.lt
  intro w_42 hn
  replace lt_b1 := Nat.lt_of_lt_of_le lt_b1 hn.size
  replace lt_b3 := Nat.lt_of_lt_of_le lt_b3 hn.size
  replace lt_b4 := Nat.lt_of_lt_of_le lt_b4 hn.size
  replace ha1 := ha1.bl hn; replace ha2 := ha2.bl hn; replace hq1 := hq1.bl hn; replace hq2 := hq2.bl hn; replace x_b1 := x_b1.bl hn; replace x_b3 := x_b3.bl hn; replace c1 := c1.bl hn; replace c2 := c2.bl hn; replace x_b4 := x_b4.bl hn; replace hb := hb.trans (hn.mono hb.size)
  clear hn
  have kb0 := hb.size
  refine ⟨⟨x_b4.cell 0 rfl, x_b4.cell 1 rfl, x_b4.cell 2 rfl, x_b4.cell 3 rfl, x_b3.cell 0 rfl, x_b3.cell 1 rfl, x_b3.cell 2 rfl, x_b3.cell 3 rfl⟩, ?_⟩
  apply wpFl_ld rfl rfl; (case h1 => intro w' hC K hK; obtain ⟨c0, c1, c2, c3⟩ := hC; go_big_op; exact hK); iterate 4 kernel_rfl
  apply wpFl_ld rfl rfl; (case h1 => intro w' hC K hK; obtain ⟨c0, c1, c2, c3⟩ := hC; go_big_op; exact hK); iterate 4 kernel_rfl
  apply wpFl_ld rfl rfl; (case h1 => intro w' hC K hK; obtain ⟨c0, c1, c2, c3⟩ := hC; go_big_op; exact hK); iterate 4 kernel_rfl
  refine wpFl_call rfl (by kernel_rfl) fun w_43 hn hC => ?_; clear hC
  replace ha1 := ha1.bl hn; replace ha2 := ha2.bl hn; replace hq1 := hq1.bl hn; replace hq2 := hq2.bl hn; replace x_b1 := x_b1.bl hn; replace x_b3 := x_b3.bl hn; replace c1 := c1.bl hn; replace c2 := c2.bl hn; replace x_b4 := x_b4.bl hn; replace hb := hb.trans (hn.mono hb.size)
  clear hn; intro K hK
  go_big_op
  go_fit (gNorm_any (PN.mk' (c1.zn Lc1.out) (c2.zn Lc2.out)) (by omega) (by omega) )
  rintro e w_44 ⟨v_t, rfl, t, hb_44⟩
  replace ha1 := ha1.bl hb_44; replace ha2 := ha2.bl hb_44; replace hq1 := hq1.bl hb_44; replace hq2 := hq2.bl hb_44; replace x_b1 := x_b1.bl hb_44; replace x_b3 := x_b3.bl hb_44; replace c1 := c1.bl hb_44; replace c2 := c2.bl hb_44; replace x_b4 := x_b4.bl hb_44; replace hb := hb.trans (hb_44.mono hb.size)
  obtain ⟨n_t, o_t, k_t, c_t, rfl⟩ := t.open2
  have Lt := hide (t.lenOf (zlen_add (zlen_mul (Lc1.out) (Lc1.out)) (zlen_mul (Lc2.out) (Lc2.out))))
  refine hK _ _ rfl hb_44 ⟨x_b4.cell 0 rfl, x_b4.cell 1 rfl, x_b4.cell 2 rfl, x_b4.cell 3 rfl, x_b3.cell 0 rfl, x_b3.cell 1 rfl, x_b3.cell 2 rfl, x_b3.cell 3 rfl⟩ ?_
  clear hK K hb_44
  refine wpFl_call rfl (by kernel_rfl) fun w_45 hn hC => ?_; clear hC
  replace ha1 := ha1.bl hn; replace ha2 := ha2.bl hn; replace hq1 := hq1.bl hn; replace hq2 := hq2.bl hn; replace x_b1 := x_b1.bl hn; replace x_b3 := x_b3.bl hn; replace c1 := c1.bl hn; replace c2 := c2.bl hn; replace x_b4 := x_b4.bl hn; replace t := t.bl hn; replace hb := hb.trans (hn.mono hb.size)
  clear hn; intro K hK
  go_big_op
  go_fit (gNorm_any (PN.mk' (c1.zn Lc1.out) (c2.zn Lc2.out)) (by omega) (by omega) )
  rintro e w_46 ⟨v_z, rfl, z, hb_46⟩
  replace ha1 := ha1.bl hb_46; replace ha2 := ha2.bl hb_46; replace hq1 := hq1.bl hb_46; replace hq2 := hq2.bl hb_46; replace x_b1 := x_b1.bl hb_46; replace x_b3 := x_b3.bl hb_46; replace c1 := c1.bl hb_46; replace c2 := c2.bl hb_46; replace x_b4 := x_b4.bl hb_46; replace t := t.bl hb_46; replace hb := hb.trans (hb_46.mono hb.size)
  obtain ⟨n_z, o_z, k_z, c_z, rfl⟩ := z.open2
  have Lz := hide (z.lenOf (zlen_add (zlen_mul (Lc1.out) (Lc1.out)) (zlen_mul (Lc2.out) (Lc2.out))))
  refine hK _ _ rfl hb_46 ⟨x_b4.cell 0 rfl, x_b4.cell 1 rfl, x_b4.cell 2 rfl, x_b4.cell 3 rfl, x_b3.cell 0 rfl, x_b3.cell 1 rfl, x_b3.cell 2 rfl, x_b3.cell 3 rfl⟩ ?_
  clear hK K hb_46
  refine wpFl_call rfl (by kernel_rfl) fun w_47 hn hC => ?_; clear hC
  replace ha1 := ha1.bl hn; replace ha2 := ha2.bl hn; replace hq1 := hq1.bl hn; replace hq2 := hq2.bl hn; replace x_b1 := x_b1.bl hn; replace x_b3 := x_b3.bl hn; replace c1 := c1.bl hn; replace c2 := c2.bl hn; replace x_b4 := x_b4.bl hn; replace t := t.bl hn; replace z := z.bl hn; replace hb := hb.trans (hn.mono hb.size)
  clear hn; intro K hK
  go_big_op
  go_fit (zadd_any (t.zn Lt.out) (z.zn Lz.out) (by omega) (by omega) )
  rintro e w_48 ⟨v_i, rfl, i, hb_48⟩
  replace ha1 := ha1.bl hb_48; replace ha2 := ha2.bl hb_48; replace hq1 := hq1.bl hb_48; replace hq2 := hq2.bl hb_48; replace x_b1 := x_b1.bl hb_48; replace x_b3 := x_b3.bl hb_48; replace c1 := c1.bl hb_48; replace c2 := c2.bl hb_48; replace x_b4 := x_b4.bl hb_48; replace t := t.bl hb_48; replace z := z.bl hb_48; replace hb := hb.trans (hb_48.mono hb.size)
  replace i := i.rd
  obtain ⟨n_i, o_i, k_i, c_i, rfl⟩ := i.open2
  have Li := hide (i.lenOf (zlen_add (Lt.out) (Lz.out)))
  refine hK _ _ rfl hb_48 ⟨x_b4.cell 0 rfl, x_b4.cell 1 rfl, x_b4.cell 2 rfl, x_b4.cell 3 rfl, x_b3.cell 0 rfl, x_b3.cell 1 rfl, x_b3.cell 2 rfl, x_b3.cell 3 rfl⟩ ?_
  clear hK K hb_48
  refine wpFl_call rfl (by kernel_rfl) fun w_49 hn hC => ?_; clear hC
  clear t z
  replace ha1 := ha1.bl hn; replace ha2 := ha2.bl hn; replace hq1 := hq1.bl hn; replace hq2 := hq2.bl hn; replace x_b1 := x_b1.bl hn; replace x_b3 := x_b3.bl hn; replace c1 := c1.bl hn; replace c2 := c2.bl hn; replace x_b4 := x_b4.bl hn; replace i := i.bl hn; replace hb := hb.trans (hn.mono hb.size)
  clear hn; intro K hK
  go_big_op
  go_fit (gNorm_any (PN.mk' hq1 hq2) (by omega) (by omega) )
  rintro e w_50 ⟨v_q, rfl, q, hb_50⟩
  replace ha1 := ha1.bl hb_50; replace ha2 := ha2.bl hb_50; replace hq1 := hq1.bl hb_50; replace hq2 := hq2.bl hb_50; replace x_b1 := x_b1.bl hb_50; replace x_b3 := x_b3.bl hb_50; replace c1 := c1.bl hb_50; replace c2 := c2.bl hb_50; replace x_b4 := x_b4.bl hb_50; replace i := i.bl hb_50; replace hb := hb.trans (hb_50.mono hb.size)
  obtain ⟨n_q, o_q, k_q, c_q, rfl⟩ := q.open2
  have Lq := hide (q.lenOf (zlen_add (zlen_mul (hq1.len) (hq1.len)) (zlen_mul (hq2.len) (hq2.len))))
  refine hK _ _ rfl hb_50 ⟨x_b4.cell 0 rfl, x_b4.cell 1 rfl, x_b4.cell 2 rfl, x_b4.cell 3 rfl, x_b3.cell 0 rfl, x_b3.cell 1 rfl, x_b3.cell 2 rfl, x_b3.cell 3 rfl⟩ ?_
  clear hK K hb_50
  refine wpFl_call rfl (by kernel_rfl) fun w_51 hn hC => ?_; clear hC
  replace ha1 := ha1.bl hn; replace ha2 := ha2.bl hn; replace hq1 := hq1.bl hn; replace hq2 := hq2.bl hn; replace x_b1 := x_b1.bl hn; replace x_b3 := x_b3.bl hn; replace c1 := c1.bl hn; replace c2 := c2.bl hn; replace x_b4 := x_b4.bl hn; replace i := i.bl hn; replace q := q.bl hn; replace hb := hb.trans (hn.mono hb.size)
  clear hn; intro K hK
  go_big_op
  go_fit (zcmp_any (i.zn Li.out) (q.zn Lq.out) (by omega) (by omega) )
  rintro e w_52 ⟨rfl, hb_52⟩
  replace ha1 := ha1.bl hb_52; replace ha2 := ha2.bl hb_52; replace hq1 := hq1.bl hb_52; replace hq2 := hq2.bl hb_52; replace x_b1 := x_b1.bl hb_52; replace x_b3 := x_b3.bl hb_52; replace c1 := c1.bl hb_52; replace c2 := c2.bl hb_52; replace x_b4 := x_b4.bl hb_52; replace i := i.bl hb_52; replace q := q.bl hb_52; replace hb := hb.trans (hb_52.mono hb.size)
  rw [HC.out]
  refine hK _ _ rfl hb_52 ⟨x_b4.cell 0 rfl, x_b4.cell 1 rfl, x_b4.cell 2 rfl, x_b4.cell 3 rfl, x_b3.cell 0 rfl, x_b3.cell 1 rfl, x_b3.cell 2 rfl, x_b3.cell 3 rfl⟩ ?_
  clear hK K hb_52
  apply wpFl_ld rfl rfl; (case h1 => intro w' hC K hK; go_big_op; exact hK); iterate 4 kernel_rfl
  apply wpFl_end
  case ha => intro pt; simp only [putF]; rfl
  case h =>
  intro w_53 pt hn hC hF hD
  clear hC
  clear i q
  replace ha1 := ha1.bl hn; replace ha2 := ha2.bl hn; replace hq1 := hq1.bl hn; replace hq2 := hq2.bl hn; replace x_b1 := x_b1.bl hn; replace x_b3 := x_b3.bl hn; replace c1 := c1.bl hn; replace c2 := c2.bl hn; replace x_b4 := x_b4.bl hn; replace hb := hb.trans (hn.mono hb.size)
  clear hn
  clear hF hD
  clear pt
  clear kb0 lt_b1 lt_b3 lt_b4
  apply wpTail_end
  refine hK16 _ _ ?_
  refine wp_cond_false (congrArg Value.bool (show _ = false from (by first | rfl | assumption | (simp; done) | exact decide_eq_false (by omega) | omega))) ?_
  refine wp_skip ?_
  refine hK15 _ _ ?_
  refine wp_seq_k ?_
  intro K17 hK17
  refine wp_region_sq [0, 1, 2] (by kernel_rfl) ?_
  refine wpSq_call rfl (by kernel_rfl) fun K hK => ?_
  go_big_move; refine hK _ _ rfl ?_; clear hK K
  refine wpSq_call rfl (by kernel_rfl) fun K hK => ?_
  go_big_op; refine hK _ _ rfl ?_; clear hK K
  refine wpSq_call rfl (by kernel_rfl) fun K hK => ?_
  go_big_move; refine hK _ _ rfl ?_; clear hK K
  apply wpSq_end
  refine hK17 _ _ ?_
  refine wp_seq_k ?_
  intro K18 hK18
  refine wp_region_fl2 [(0, false), (1, false), (3, false), (2, true), (4, true), (5, false), (6, false), (7, false)] [9, 10] [8] (fun j => (.cells #[.bool false, .slice none 0 0, .bool false, .slice none 0 0] 26)) [0, 99, 99, 1, 99, 99, 99, 99, 99, 99, 99] [] (fun w' => w'.cell? ⟨p_b1, 0, none⟩ = some (.bool n_0a) ∧ w'.cell? ⟨p_b1, 1, none⟩ = some (.slice o_0a k_0a c_0a) ∧ w'.cell? ⟨p_b1, 2, none⟩ = some (.bool n_0b) ∧ w'.cell? ⟨p_b1, 3, none⟩ = some (.slice o_0b k_0b c_0b) ∧ w'.cell? ⟨p_b3, 0, none⟩ = some (.bool n_2a) ∧ w'.cell? ⟨p_b3, 1, none⟩ = some (.slice o_2a k_2a c_2a) ∧ w'.cell? ⟨p_b3, 2, none⟩ = some (.bool n_2b) ∧ w'.cell? ⟨p_b3, 3, none⟩ = some (.slice o_2b k_2b c_2b)) [fun w' => w'.cell? ⟨p_b1, 0, none⟩ = some (.bool n_0a) ∧ w'.cell? ⟨p_b1, 1, none⟩ = some (.slice o_0a k_0a c_0a) ∧ w'.cell? ⟨p_b1, 2, none⟩ = some (.bool n_0b) ∧ w'.cell? ⟨p_b1, 3, none⟩ = some (.slice o_0b k_0b c_0b), fun w' => w'.cell? ⟨p_b3, 0, none⟩ = some (.bool n_2a) ∧ w'.cell? ⟨p_b3, 1, none⟩ = some (.slice o_2a k_2a c_2a) ∧ w'.cell? ⟨p_b3, 2, none⟩ = some (.bool n_2b) ∧ w'.cell? ⟨p_b3, 3, none⟩ = some (.slice o_2b k_2b c_2b)] (by kernel_rfl) (by kernel_rfl) (by kernel_rfl) (by kernel_rfl) (by kernel_rfl) (by kernel_rfl) (by kernel_rfl) (by kernel_rfl) (by decide) (by intro j hj; simp only [List.mem_cons, List.not_mem_nil, or_false] at hj; rcases hj with rfl; all_goals exact ⟨_, rfl, rfl, fun ρ w => by unfold ptr; simp [go_sem]⟩) (by intro w' o hC; obtain ⟨c0, c1, c2, c3, c4, c5, c6, c7⟩ := hC; exact ⟨cell_alloc c0 o, cell_alloc c1 o, cell_alloc c2 o, cell_alloc c3 o, cell_alloc c4 o, cell_alloc c5 o, cell_alloc c6 o, cell_alloc c7 o⟩) (by intro w' hC G hG; obtain ⟨c0, c1, c2, c3, c4, c5, c6, c7⟩ := hC; simp only [List.mem_cons, List.not_mem_nil, or_false] at hG; rcases hG with rfl | rfl <;> first | exact ⟨c0, c1, c2, c3⟩ | exact ⟨c4, c5, c6, c7⟩) ?_
  clear c1 c2 x_b4
  have lt_b1 := x_b1.lt
  have lt_b3 := x_b3.lt
  intro w_54 hn
  replace lt_b1 := Nat.lt_of_lt_of_le lt_b1 hn.size
  replace lt_b3 := Nat.lt_of_lt_of_le lt_b3 hn.size
  replace ha1 := ha1.bl hn; replace ha2 := ha2.bl hn; replace hq1 := hq1.bl hn; replace hq2 := hq2.bl hn; replace x_b1 := x_b1.bl hn; replace x_b3 := x_b3.bl hn; replace hb := hb.trans (hn.mono hb.size)
  clear hn
  have kb0 := hb.size
  refine ⟨⟨x_b1.cell 0 rfl, x_b1.cell 1 rfl, x_b1.cell 2 rfl, x_b1.cell 3 rfl, x_b3.cell 0 rfl, x_b3.cell 1 rfl, x_b3.cell 2 rfl, x_b3.cell 3 rfl⟩, ?_⟩
  apply wpFl_ld rfl rfl; (case h1 => intro w' hC K hK; obtain ⟨c0, c1, c2, c3⟩ := hC; go_big_op; exact hK); iterate 4 kernel_rfl
  apply wpFl_ld rfl rfl; (case h1 => intro w' hC K hK; go_big_move; exact hK); iterate 4 kernel_rfl
  apply wpFl_ld rfl rfl; (case h1 => intro w' hC K hK; obtain ⟨c0, c1, c2, c3⟩ := hC; go_big_op; exact hK); iterate 4 kernel_rfl
  refine wpFl_call rfl (by kernel_rfl) fun w_55 hn hC => ?_; clear hC
  replace ha1 := ha1.bl hn; replace ha2 := ha2.bl hn; replace hq1 := hq1.bl hn; replace hq2 := hq2.bl hn; replace x_b1 := x_b1.bl hn; replace x_b3 := x_b3.bl hn; replace hb := hb.trans (hn.mono hb.size)
  clear hn; intro K hK
  go_big_op
  go_fit (from_any (ke : Int) _ (by omega) (by omega))
  rintro e w_56 ⟨v_A, rfl, A, hb_56⟩
  replace ha1 := ha1.bl hb_56; replace ha2 := ha2.bl hb_56; replace hq1 := hq1.bl hb_56; replace hq2 := hq2.bl hb_56; replace x_b1 := x_b1.bl hb_56; replace x_b3 := x_b3.bl hb_56; replace hb := hb.trans (hb_56.mono hb.size)
  replace A := A.rd
  obtain ⟨n_A, o_A, k_A, c_A, rfl⟩ := A.open2
  have LA := hide (A.lenOf ((LK.out ke (by omega))))
  refine hK _ _ rfl hb_56 ⟨x_b1.cell 0 rfl, x_b1.cell 1 rfl, x_b1.cell 2 rfl, x_b1.cell 3 rfl, x_b3.cell 0 rfl, x_b3.cell 1 rfl, x_b3.cell 2 rfl, x_b3.cell 3 rfl⟩ ?_
  clear hK K hb_56
  refine wpFl_call rfl (by kernel_rfl) fun w_57 hn hC => ?_; clear hC
  replace ha1 := ha1.bl hn; replace ha2 := ha2.bl hn; replace hq1 := hq1.bl hn; replace hq2 := hq2.bl hn; replace x_b1 := x_b1.bl hn; replace x_b3 := x_b3.bl hn; replace A := A.bl hn; replace hb := hb.trans (hn.mono hb.size)
  clear hn; intro K hK
  go_big_op
  go_fit (gPow_any (.mk' ha1 ha2) (A.zn LA.out) (.mk' hq1 hq2) (by omega) (by omega) (by omega) (by omega) HH.out (by omega))
  rintro e w_58 ⟨_, rfl, ⟨n_Ba, o_Ba, k_Ba, c_Ba, n_Bb, o_Bb, k_Bb, c_Bb, rfl, B1, B2⟩, hb_58⟩
  replace ha1 := ha1.bl hb_58; replace ha2 := ha2.bl hb_58; replace hq1 := hq1.bl hb_58; replace hq2 := hq2.bl hb_58; replace x_b1 := x_b1.bl hb_58; replace x_b3 := x_b3.bl hb_58; replace A := A.bl hb_58; replace hb := hb.trans (hb_58.mono hb.size)
  have LB1 := hide (B1.lenOf ((LP.out _).1))
  have LB2 := hide (B2.lenOf ((LP.out _).2))
  rw [N1.out] at B1 B2
  refine hK _ _ rfl hb_58 ⟨x_b1.cell 0 rfl, x_b1.cell 1 rfl, x_b1.cell 2 rfl, x_b1.cell 3 rfl, x_b3.cell 0 rfl, x_b3.cell 1 rfl, x_b3.cell 2 rfl, x_b3.cell 3 rfl⟩ ?_
  clear hK K hb_58
  apply wpFl_ld rfl rfl; (case h1 => intro w' hC K hK; go_big_move; exact hK); iterate 4 kernel_rfl
  apply wpFl_ld rfl rfl; (case h1 => intro w' hC K hK; go_big_op; exact hK); iterate 4 kernel_rfl
  apply wpFl_ld rfl rfl; (case h1 => intro w' hC K hK; go_big_op; exact hK); iterate 4 kernel_rfl
  apply wpFl_end
  case ha => intro pt; simp only [putF, nthO, Act.put, ptr, List.setIfInBounds_toArray, List.set_cons_succ, List.set_cons_zero]; rfl
  case h =>
  intro w_59 pt hn hC hF hD
  clear hC
  clear A
  replace ha1 := ha1.bl hn; replace ha2 := ha2.bl hn; replace hq1 := hq1.bl hn; replace hq2 := hq2.bl hn; replace x_b1 := x_b1.bl hn; replace x_b3 := x_b3.bl hn; replace B1 := B1.bl hn; replace B2 := B2.bl hn; replace hb := hb.trans (hn.mono hb.size)
  clear hn
  obtain ⟨kB_b11, x_b11⟩ := hF 8 (by decide)
  replace x_b11 : Bs w_59 (pt 8) #[.bool false, .slice none 0 0, .bool false, .slice none 0 0] 26 := x_b11
  clear hF hD
  generalize pt 8 = p_b11 at *
  clear pt
  have kb_b11 := hide (Nat.le_trans kb0 kB_b11)
  have ne_b1_b11 : Hid (p_b1 ≠ p_b11) := Nat.ne_of_lt (Nat.lt_of_lt_of_le lt_b1 kB_b11)
  have ne_b3_b11 : Hid (p_b3 ≠ p_b11) := Nat.ne_of_lt (Nat.lt_of_lt_of_le lt_b3 kB_b11)
  clear kB_b11
  clear kb0 lt_b1 lt_b3
  refine wpTail_call rfl (by kernel_rfl) fun K hK => ?_
  obtain ⟨d0, d1, d2, d3⟩ := x_b11.f4
  have f0 := x_b11.free 0; have f1 := x_b11.free 1; have f2 := x_b11.free 2; have f3 := x_b11.free 3
  go_big_op
  have hnd := x_b11.nod rfl rfl
  obtain ⟨w_60, eW, x_b11', ho⟩ : ∃ w', ((((w_59.setCell ⟨p_b11, 0, none⟩ (.bool n_Ba)).setCell ⟨p_b11, 1, none⟩ (.slice o_Ba k_Ba c_Ba)).setCell ⟨p_b11, 2, none⟩ (.bool n_Bb)).setCell ⟨p_b11, 3, none⟩ (.slice o_Bb k_Bb c_Bb)) = w' ∧ Bs w' p_b11 #[.bool n_Ba, .slice o_Ba k_Ba c_Ba, .bool n_Bb, .slice o_Bb k_Bb c_Bb] 26 ∧ Only p_b11 w_59 w' := x_b11.setN [(0, .bool n_Ba), (1, .slice o_Ba k_Ba c_Ba), (2, .bool n_Bb), (3, .slice o_Bb k_Bb c_Bb)]
  rw [eW]; clear eW d0 d1 d2 d3 f0 f1 f2 f3 x_b11
  have x_b11 := x_b11'; clear x_b11'
  replace ha1 := ha1.fr hnd ho; replace ha2 := ha2.fr hnd ho; replace hq1 := hq1.fr hnd ho; replace hq2 := hq2.fr hnd ho; replace x_b1 := x_b1.frame ho ne_b1_b11; replace x_b3 := x_b3.frame ho ne_b3_b11; replace B1 := B1.fr hnd ho; replace B2 := B2.fr hnd ho; replace hb := belowOnly hb ho kb_b11
  refine hK _ _ rfl (And.intro ⟨x_b1.cell 0 rfl, x_b1.cell 1 rfl, x_b1.cell 2 rfl, x_b1.cell 3 rfl⟩ (And.intro ⟨x_b3.cell 0 rfl, x_b3.cell 1 rfl, x_b3.cell 2 rfl, x_b3.cell 3 rfl⟩ True.intro)) ?_; clear hK K ho hnd
  refine wpTail_call rfl (by kernel_rfl) fun K hK => ?_
  go_big_move; refine hK _ _ rfl (And.intro ⟨x_b1.cell 0 rfl, x_b1.cell 1 rfl, x_b1.cell 2 rfl, x_b1.cell 3 rfl⟩ (And.intro ⟨x_b3.cell 0 rfl, x_b3.cell 1 rfl, x_b3.cell 2 rfl, x_b3.cell 3 rfl⟩ True.intro)) ?_; clear hK K
  apply wpTail_end
  refine hK18 _ _ ?_
  refine wp_seq_k ?_
  intro K19 hK19
  refine wp_region_fl2 [(0, false), (1, false), (2, false), (4, false), (3, true), (5, true), (6, false), (7, false), (8, false)] [10, 11] [9] (fun j => (.cells #[.bool false, .slice none 0 0, .bool false, .slice none 0 0] 26)) [0, 99, 99, 99, 1, 99, 99, 99, 99, 99, 99, 99] [] (fun w' => w'.cell? ⟨p_b1, 0, none⟩ = some (.bool n_0a) ∧ w'.cell? ⟨p_b1, 1, none⟩ = some (.slice o_0a k_0a c_0a) ∧ w'.cell? ⟨p_b1, 2, none⟩ = some (.bool n_0b) ∧ w'.cell? ⟨p_b1, 3, none⟩ = some (.slice o_0b k_0b c_0b) ∧ w'.cell? ⟨p_b3, 0, none⟩ = some (.bool n_2a) ∧ w'.cell? ⟨p_b3, 1, none⟩ = some (.slice o_2a k_2a c_2a) ∧ w'.cell? ⟨p_b3, 2, none⟩ = some (.bool n_2b) ∧ w'.cell? ⟨p_b3, 3, none⟩ = some (.slice o_2b k_2b c_2b)) [fun w' => w'.cell? ⟨p_b1, 0, none⟩ = some (.bool n_0a) ∧ w'.cell? ⟨p_b1, 1, none⟩ = some (.slice o_0a k_0a c_0a) ∧ w'.cell? ⟨p_b1, 2, none⟩ = some (.bool n_0b) ∧ w'.cell? ⟨p_b1, 3, none⟩ = some (.slice o_0b k_0b c_0b), fun w' => w'.cell? ⟨p_b3, 0, none⟩ = some (.bool n_2a) ∧ w'.cell? ⟨p_b3, 1, none⟩ = some (.slice o_2a k_2a c_2a) ∧ w'.cell? ⟨p_b3, 2, none⟩ = some (.bool n_2b) ∧ w'.cell? ⟨p_b3, 3, none⟩ = some (.slice o_2b k_2b c_2b)] (by kernel_rfl) (by kernel_rfl) (by kernel_rfl) (by kernel_rfl) (by kernel_rfl) (by kernel_rfl) (by kernel_rfl) (by kernel_rfl) (by decide) (by intro j hj; simp only [List.mem_cons, List.not_mem_nil, or_false] at hj; rcases hj with rfl; all_goals exact ⟨_, rfl, rfl, fun ρ w => by unfold ptr; simp [go_sem]⟩) (by intro w' o hC; obtain ⟨c0, c1, c2, c3, c4, c5, c6, c7⟩ := hC; exact ⟨cell_alloc c0 o, cell_alloc c1 o, cell_alloc c2 o, cell_alloc c3 o, cell_alloc c4 o, cell_alloc c5 o, cell_alloc c6 o, cell_alloc c7 o⟩) (by intro w' hC G hG; obtain ⟨c0, c1, c2, c3, c4, c5, c6, c7⟩ := hC; simp only [List.mem_cons, List.not_mem_nil, or_false] at hG; rcases hG with rfl | rfl <;> first | exact ⟨c0, c1, c2, c3⟩ | exact ⟨c4, c5, c6, c7⟩) ?_
  have lt_b1 := x_b1.lt
  have lt_b3 := x_b3.lt
  have lt_b11 := x_b11.lt
  intro w_61 hn
  replace lt_b1 := Nat.lt_of_lt_of_le lt_b1 hn.size
  replace lt_b3 := Nat.lt_of_lt_of_le lt_b3 hn.size
  replace lt_b11 := Nat.lt_of_lt_of_le lt_b11 hn.size
  replace ha1 := ha1.bl hn; replace ha2 := ha2.bl hn; replace hq1 := hq1.bl hn; replace hq2 := hq2.bl hn; replace x_b1 := x_b1.bl hn; replace x_b3 := x_b3.bl hn; replace B1 := B1.bl hn; replace B2 := B2.bl hn; replace x_b11 := x_b11.bl hn; replace hb := hb.trans (hn.mono hb.size)
  clear hn
  have kb0 := hb.size
  refine ⟨⟨x_b1.cell 0 rfl, x_b1.cell 1 rfl, x_b1.cell 2 rfl, x_b1.cell 3 rfl, x_b3.cell 0 rfl, x_b3.cell 1 rfl, x_b3.cell 2 rfl, x_b3.cell 3 rfl⟩, ?_⟩
  apply wpFl_ld rfl rfl; (case h1 => intro w' hC K hK; obtain ⟨c0, c1, c2, c3⟩ := hC; go_big_op; exact hK); iterate 4 kernel_rfl
  apply wpFl_ld rfl rfl; (case h1 => intro w' hC K hK; go_big_move; exact hK); iterate 4 kernel_rfl
  apply wpFl_ld rfl rfl; (case h1 => intro w' hC K hK; go_big_op; exact hK); iterate 4 kernel_rfl
  apply wpFl_ld rfl rfl; (case h1 => intro w' hC K hK; obtain ⟨c0, c1, c2, c3⟩ := hC; go_big_op; exact hK); iterate 4 kernel_rfl
  have LB1 := hide (B1.lenOf ((LP.out _).1))
  have LB2 := hide (B2.lenOf ((LP.out _).2))
  refine wpFl_call rfl (by kernel_rfl) fun w_62 hn hC => ?_; clear hC
  replace ha1 := ha1.bl hn; replace ha2 := ha2.bl hn; replace hq1 := hq1.bl hn; replace hq2 := hq2.bl hn; replace x_b1 := x_b1.bl hn; replace x_b3 := x_b3.bl hn; replace B1 := B1.bl hn; replace B2 := B2.bl hn; replace x_b11 := x_b11.bl hn; replace hb := hb.trans (hn.mono hb.size)
  clear hn; intro K hK
  go_big_op
  go_fit (from_any ((ke : Int) + 1) _ (by omega) (by omega))
  rintro e w_63 ⟨v_D, rfl, D, hb_63⟩
  replace ha1 := ha1.bl hb_63; replace ha2 := ha2.bl hb_63; replace hq1 := hq1.bl hb_63; replace hq2 := hq2.bl hb_63; replace x_b1 := x_b1.bl hb_63; replace x_b3 := x_b3.bl hb_63; replace B1 := B1.bl hb_63; replace B2 := B2.bl hb_63; replace x_b11 := x_b11.bl hb_63; replace hb := hb.trans (hb_63.mono hb.size)
  replace D := D.rd
  obtain ⟨n_D, o_D, k_D, c_D, rfl⟩ := D.open2
  have LD := hide (D.lenOf ((LK.out (ke + 1) (by omega))))
  refine hK _ _ rfl hb_63 ⟨x_b1.cell 0 rfl, x_b1.cell 1 rfl, x_b1.cell 2 rfl, x_b1.cell 3 rfl, x_b3.cell 0 rfl, x_b3.cell 1 rfl, x_b3.cell 2 rfl, x_b3.cell 3 rfl⟩ ?_
  clear hK K hb_63
  refine wpFl_call rfl (by kernel_rfl) fun w_64 hn hC => ?_; clear hC
  replace ha1 := ha1.bl hn; replace ha2 := ha2.bl hn; replace hq1 := hq1.bl hn; replace hq2 := hq2.bl hn; replace x_b1 := x_b1.bl hn; replace x_b3 := x_b3.bl hn; replace B1 := B1.bl hn; replace B2 := B2.bl hn; replace x_b11 := x_b11.bl hn; replace D := D.bl hn; replace hb := hb.trans (hn.mono hb.size)
  clear hn; intro K hK
  go_big_op
  go_fit (gPow_any (.mk' ha1 ha2) (D.zn LD.out) (.mk' hq1 hq2) (by omega) (by omega) (by omega) (by omega) HH.out (by omega))
  rintro e w_65 ⟨_, rfl, ⟨n_Ea, o_Ea, k_Ea, c_Ea, n_Eb, o_Eb, k_Eb, c_Eb, rfl, E1, E2⟩, hb_65⟩
  replace ha1 := ha1.bl hb_65; replace ha2 := ha2.bl hb_65; replace hq1 := hq1.bl hb_65; replace hq2 := hq2.bl hb_65; replace x_b1 := x_b1.bl hb_65; replace x_b3 := x_b3.bl hb_65; replace B1 := B1.bl hb_65; replace B2 := B2.bl hb_65; replace x_b11 := x_b11.bl hb_65; replace D := D.bl hb_65; replace hb := hb.trans (hb_65.mono hb.size)
  have LE1 := hide (E1.lenOf ((LP.out _).1))
  have LE2 := hide (E2.lenOf ((LP.out _).2))
  rw [N2.out] at E1 E2
  refine hK _ _ rfl hb_65 ⟨x_b1.cell 0 rfl, x_b1.cell 1 rfl, x_b1.cell 2 rfl, x_b1.cell 3 rfl, x_b3.cell 0 rfl, x_b3.cell 1 rfl, x_b3.cell 2 rfl, x_b3.cell 3 rfl⟩ ?_
  clear hK K hb_65
  apply wpFl_ld rfl rfl; (case h1 => intro w' hC K hK; go_big_move; exact hK); iterate 4 kernel_rfl
  apply wpFl_ld rfl rfl; (case h1 => intro w' hC K hK; go_big_op; exact hK); iterate 4 kernel_rfl
  apply wpFl_ld rfl rfl; (case h1 => intro w' hC K hK; go_big_op; exact hK); iterate 4 kernel_rfl
  apply wpFl_end
  case ha => intro pt; simp only [putF, nthO, Act.put, ptr, List.setIfInBounds_toArray, List.set_cons_succ, List.set_cons_zero]; rfl
  case h =>
  intro w_66 pt hn hC hF hD
  clear hC
  clear D
  replace ha1 := ha1.bl hn; replace ha2 := ha2.bl hn; replace hq1 := hq1.bl hn; replace hq2 := hq2.bl hn; replace x_b1 := x_b1.bl hn; replace x_b3 := x_b3.bl hn; replace B1 := B1.bl hn; replace B2 := B2.bl hn; replace x_b11 := x_b11.bl hn; replace E1 := E1.bl hn; replace E2 := E2.bl hn; replace hb := hb.trans (hn.mono hb.size)
  clear hn
  obtain ⟨kB_b12, x_b12⟩ := hF 9 (by decide)
  replace x_b12 : Bs w_66 (pt 9) #[.bool false, .slice none 0 0, .bool false, .slice none 0 0] 26 := x_b12
  clear hF hD
  generalize pt 9 = p_b12 at *
  clear pt
  have kb_b12 := hide (Nat.le_trans kb0 kB_b12)
  have ne_b1_b12 : Hid (p_b1 ≠ p_b12) := Nat.ne_of_lt (Nat.lt_of_lt_of_le lt_b1 kB_b12)
  have ne_b3_b12 : Hid (p_b3 ≠ p_b12) := Nat.ne_of_lt (Nat.lt_of_lt_of_le lt_b3 kB_b12)
  have ne_b11_b12 : Hid (p_b11 ≠ p_b12) := Nat.ne_of_lt (Nat.lt_of_lt_of_le lt_b11 kB_b12)
  clear kB_b12
  clear kb0 lt_b1 lt_b3 lt_b11
  refine wpTail_call rfl (by kernel_rfl) fun K hK => ?_
  obtain ⟨d0, d1, d2, d3⟩ := x_b12.f4
  have f0 := x_b12.free 0; have f1 := x_b12.free 1; have f2 := x_b12.free 2; have f3 := x_b12.free 3
  go_big_op
  have hnd := x_b12.nod rfl rfl
  obtain ⟨w_67, eW, x_b12', ho⟩ : ∃ w', ((((w_66.setCell ⟨p_b12, 0, none⟩ (.bool n_Ea)).setCell ⟨p_b12, 1, none⟩ (.slice o_Ea k_Ea c_Ea)).setCell ⟨p_b12, 2, none⟩ (.bool n_Eb)).setCell ⟨p_b12, 3, none⟩ (.slice o_Eb k_Eb c_Eb)) = w' ∧ Bs w' p_b12 #[.bool n_Ea, .slice o_Ea k_Ea c_Ea, .bool n_Eb, .slice o_Eb k_Eb c_Eb] 26 ∧ Only p_b12 w_66 w' := x_b12.setN [(0, .bool n_Ea), (1, .slice o_Ea k_Ea c_Ea), (2, .bool n_Eb), (3, .slice o_Eb k_Eb c_Eb)]
  rw [eW]; clear eW d0 d1 d2 d3 f0 f1 f2 f3 x_b12
  have x_b12 := x_b12'; clear x_b12'
  replace ha1 := ha1.fr hnd ho; replace ha2 := ha2.fr hnd ho; replace hq1 := hq1.fr hnd ho; replace hq2 := hq2.fr hnd ho; replace x_b1 := x_b1.frame ho ne_b1_b12; replace x_b3 := x_b3.frame ho ne_b3_b12; replace B1 := B1.fr hnd ho; replace B2 := B2.fr hnd ho; replace x_b11 := x_b11.frame ho ne_b11_b12; replace E1 := E1.fr hnd ho; replace E2 := E2.fr hnd ho; replace hb := belowOnly hb ho kb_b12
  refine hK _ _ rfl (And.intro ⟨x_b1.cell 0 rfl, x_b1.cell 1 rfl, x_b1.cell 2 rfl, x_b1.cell 3 rfl⟩ (And.intro ⟨x_b3.cell 0 rfl, x_b3.cell 1 rfl, x_b3.cell 2 rfl, x_b3.cell 3 rfl⟩ True.intro)) ?_; clear hK K ho hnd
  refine wpTail_call rfl (by kernel_rfl) fun K hK => ?_
  go_big_move; refine hK _ _ rfl (And.intro ⟨x_b1.cell 0 rfl, x_b1.cell 1 rfl, x_b1.cell 2 rfl, x_b1.cell 3 rfl⟩ (And.intro ⟨x_b3.cell 0 rfl, x_b3.cell 1 rfl, x_b3.cell 2 rfl, x_b3.cell 3 rfl⟩ True.intro)) ?_; clear hK K
  apply wpTail_end
  refine hK19 _ _ ?_
  refine wp_seq_k ?_
  intro K20 hK20
  refine wp_region_sq [0, 1, 2, 3, 4, 5, 6, 7, 8, 9] (by kernel_rfl) ?_
  refine wpSq_call rfl (by kernel_rfl) fun K hK => ?_
  obtain ⟨d0, d1, d2, d3⟩ := x_b11.f4
  go_big_op; refine hK _ _ rfl ?_; clear hK K d0 d1 d2 d3
  refine wpSq_call rfl (by kernel_rfl) fun K hK => ?_
  obtain ⟨d0, d1, d2, d3⟩ := x_b1.f4
  go_big_op; refine hK _ _ rfl ?_; clear hK K d0 d1 d2 d3
  refine wpSq_call rfl (by kernel_rfl) fun K hK => ?_
  obtain ⟨d0, d1, d2, d3⟩ := x_b3.f4
  go_big_op; refine hK _ _ rfl ?_; clear hK K d0 d1 d2 d3
  have LE1 := hide (E1.lenOf ((LP.out _).1))
  have LE2 := hide (E2.lenOf ((LP.out _).2))
  refine wpSq_call rfl (by kernel_rfl) fun K hK => ?_
  go_big_op
  go_fit (gresMul_any (.mk' (B1.zn LB1.out) (B2.zn LB2.out)) (.mk' ha1 ha2) (.mk' hq1 hq2) (by omega) (by omega) (by omega) (by omega) (by omega) HH.out)
  rintro e w_68 ⟨_, rfl, ⟨n_Fa, o_Fa, k_Fa, c_Fa, n_Fb, o_Fb, k_Fb, c_Fb, rfl, F1, F2⟩, hb_68⟩
  clear x_b1 x_b3 x_b11
  replace ha1 := ha1.bl hb_68; replace ha2 := ha2.bl hb_68; replace hq1 := hq1.bl hb_68; replace hq2 := hq2.bl hb_68; replace B1 := B1.bl hb_68; replace B2 := B2.bl hb_68; replace E1 := E1.bl hb_68; replace E2 := E2.bl hb_68; replace x_b12 := x_b12.bl hb_68; replace hb := hb.trans (hb_68.mono hb.size)
  have LF1 := hide (F1.lenOf ((LR.out _ _).1))
  have LF2 := hide (F2.lenOf ((LR.out _ _).2))
  rw [EP.out.1] at F1
  rw [EP.out.2] at F2
  refine hK _ _ rfl ?_
  clear hK K hb_68
  refine wpSq_call rfl (by kernel_rfl) fun K hK => ?_
  go_big_move; refine hK _ _ rfl ?_; clear hK K
  refine wpSq_call rfl (by kernel_rfl) fun K hK => ?_
  go_big_op; refine hK _ _ rfl ?_; clear hK K
  refine wpSq_call rfl (by kernel_rfl) fun K hK => ?_
  go_big_op; refine hK _ _ rfl ?_; clear hK K
  refine wpSq_call rfl (by kernel_rfl) fun K hK => ?_
  go_big_op
  clear ha1 ha2 hq1 hq2 B1 B2
  have lt_b12 := x_b12.lt
  obtain ⟨p_b13, w_69, eP, eW, x_b13, hn, kb_b13⟩ := newBox w_68 #[.bool false, .slice none 0 0, .bool false, .slice none 0 0] 26 hb.size
  have ne_b12_b13 : Hid (p_b12 ≠ p_b13) := Nat.ne_of_lt (eP ▸ lt_b12)
  rw [eW, eP]
  clear eW eP lt_b12
  replace E1 := E1.bl hn; replace E2 := E2.bl hn; replace x_b12 := x_b12.bl hn; replace F1 := F1.bl hn; replace F2 := F2.bl hn; replace hb := hb.trans (hn.mono hb.size)
  refine hK _ _ rfl ?_; clear hK K hn
  refine wpSq_call rfl (by kernel_rfl) fun K hK => ?_
  obtain ⟨d0, d1, d2, d3⟩ := x_b13.f4
  have f0 := x_b13.free 0; have f1 := x_b13.free 1; have f2 := x_b13.free 2; have f3 := x_b13.free 3
  go_big_op
  have hnd := x_b13.nod rfl rfl
  obtain ⟨w_70, eW, x_b13', ho⟩ : ∃ w', ((((w_69.setCell ⟨p_b13, 0, none⟩ (.bool n_Fa)).setCell ⟨p_b13, 1, none⟩ (.slice o_Fa k_Fa c_Fa)).setCell ⟨p_b13, 2, none⟩ (.bool n_Fb)).setCell ⟨p_b13, 3, none⟩ (.slice o_Fb k_Fb c_Fb)) = w' ∧ Bs w' p_b13 #[.bool n_Fa, .slice o_Fa k_Fa c_Fa, .bool n_Fb, .slice o_Fb k_Fb c_Fb] 26 ∧ Only p_b13 w_69 w' := x_b13.setN [(0, .bool n_Fa), (1, .slice o_Fa k_Fa c_Fa), (2, .bool n_Fb), (3, .slice o_Fb k_Fb c_Fb)]
  rw [eW]; clear eW d0 d1 d2 d3 f0 f1 f2 f3 x_b13
  have x_b13 := x_b13'; clear x_b13'
  replace E1 := E1.fr hnd ho; replace E2 := E2.fr hnd ho; replace x_b12 := x_b12.frame ho ne_b12_b13; replace F1 := F1.fr hnd ho; replace F2 := F2.fr hnd ho; replace hb := belowOnly hb ho kb_b13
  refine hK _ _ rfl ?_; clear hK K ho hnd
  refine wpSq_call rfl (by kernel_rfl) fun K hK => ?_
  go_big_move; refine hK _ _ rfl ?_; clear hK K
  apply wpSq_end
  refine hK20 _ _ ?_
  refine wp_seq_k ?_
  intro K21 hK21
  refine wp_region_sq [0, 1, 2, 3, 4, 5, 6, 7, 8, 9, 10, 11, 12, 13, 14, 15] (by kernel_rfl) ?_
  refine wpSq_call rfl (by kernel_rfl) fun K hK => ?_
  go_big_move; refine hK _ _ rfl ?_; clear hK K
  refine wpSq_call rfl (by kernel_rfl) fun K hK => ?_
  go_big_op; refine hK _ _ rfl ?_; clear hK K
  refine wpSq_call rfl (by kernel_rfl) fun K hK => ?_
  go_big_move; refine hK _ _ rfl ?_; clear hK K
  refine wpSq_call rfl (by kernel_rfl) fun K hK => ?_
  go_big_move; refine hK _ _ rfl ?_; clear hK K
  refine wpSq_call rfl (by kernel_rfl) fun K hK => ?_
  go_big_op; refine hK _ _ rfl ?_; clear hK K
  refine wpSq_call rfl (by kernel_rfl) fun K hK => ?_
  go_big_op; refine hK _ _ rfl ?_; clear hK K
  refine wpSq_call rfl (by kernel_rfl) fun K hK => ?_
  go_big_move; refine hK _ _ rfl ?_; clear hK K
  refine wpSq_call rfl (by kernel_rfl) fun K hK => ?_
  go_big_move; refine hK _ _ rfl ?_; clear hK K
  refine wpSq_call rfl (by kernel_rfl) fun K hK => ?_
  go_big_op; refine hK _ _ rfl ?_; clear hK K
  refine wpSq_call rfl (by kernel_rfl) fun K hK => ?_
  go_big_op; refine hK _ _ rfl ?_; clear hK K
  refine wpSq_call rfl (by kernel_rfl) fun K hK => ?_
  go_big_move; refine hK _ _ rfl ?_; clear hK K
  refine wpSq_call rfl (by kernel_rfl) fun K hK => ?_
  obtain ⟨d0, d1, d2, d3⟩ := x_b12.f4
  go_big_op; refine hK _ _ rfl ?_; clear hK K d0 d1 d2 d3
  refine wpSq_call rfl (by kernel_rfl) fun K hK => ?_
  obtain ⟨d0, d1, d2, d3⟩ := x_b13.f4
  go_big_op; refine hK _ _ rfl ?_; clear hK K d0 d1 d2 d3
  have LF1 := hide (F1.lenOf ((LP.out _).1))
  have LF2 := hide (F2.lenOf ((LP.out _).2))
  refine wpSq_call rfl (by kernel_rfl) fun K hK => ?_
  go_big_op
  go_fit (g5is_any (PC.mk' E1 E2) (PN.mk' (F1.zn LF1.out) (F2.zn LF2.out)) (by omega) (by omega) )
  rintro e w_71 ⟨rfl, hb_71⟩
  clear x_b12 x_b13
  replace E1 := E1.bl hb_71; replace E2 := E2.bl hb_71; replace F1 := F1.bl hb_71; replace F2 := F2.bl hb_71; replace hb := hb.trans (hb_71.mono hb.size)
  refine hK _ _ rfl ?_
  clear hK K hb_71
  refine wpSq_call rfl (by kernel_rfl) fun K hK => ?_
  go_big_op; refine hK _ _ rfl ?_; clear hK K
  refine wpSq_call rfl (by kernel_rfl) fun K hK => ?_
  go_big_move; refine hK _ _ rfl ?_; clear hK K
  apply wpSq_end
  refine hK21 _ _ ?_
  refine wp_ret ?_
  try dsimp only [Exit.then, Exit.inBlock]
  refine bodyPost_ret (v := (.bool true)) (by simp [results, Try.results4, go_sem]) rfl ?_
  exact ⟨rfl, hb⟩
end
theorem walk_GresAlong (w : World) (n1 : Bool) (s1 : Value) (xs : List Nat) (h1 : Rd w s1 xs) (l1 : xs.length ≤ 1048576) (n2 : Bool) (s2 : Value) (ys : List Nat) (h2 : Rd w s2 ys) (l2 : ys.length ≤ 1048576)
    (n3 : Bool) (s3 : Value) (us : List Nat) (h3 : Rd w s3 us) (l3 : us.length ≤ 1048576) (n4 : Bool) (s4 : Value) (vs : List Nat) (h4 : Rd w s4 vs) (l4 : vs.length ≤ 1048576)
    (n5 : Bool) (s5 : Value) (ps : List Nat) (h5 : Rd w s5 ps) (l5 : ps.length ≤ 1048576) (n6 : Bool) (s6 : Value) (qs : List Nat) (h6 : Rd w s6 qs) (l6 : qs.length ≤ 1048576) (N : Int) (lo : -9223372036854775808 ≤ N) (hi : N ≤ 9223372036854775807) :
    Calls Try.prog 4 #[.agg #[.bool n1, s1, .bool n2, s2], .agg #[.bool n3, s3, .bool n4, s4], .agg #[.bool n5, s5, .bool n6, s6], .int .i64 N] w fun e w' => e = .returned (.bool true) ∧ Below w.heap.size w w' := by
  have ha := PN.of_rd n1 n2 h1 l1 h2 l2
  have hc := PN.of_rd n3 n4 h3 l3 h4 l4
  have hq := PN.of_rd n5 n6 h5 l5 h6 l6
  by_cases h0 : gN (zv n5 ps) (zv n6 qs) = 0
  · obtain ⟨e1, e2⟩ := gN_zero.1 h0
    rw [e1, e2] at hq; exact galong_zero ha hc hq N
  · exact galong_some ha hc hq h0 N
end Go.Proofs.Ytpdfahompajbjaa

