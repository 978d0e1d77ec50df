/- GintRests: the law's walk. -/
import Derived.Test.YtgjainmfilkjmaaDoorT1ToG6
namespace Go.Proofs.YtgjainmfilkjmaaDoor
open Go Go.RowKit Dig
set_option linter.unusedVariables false

section
variable {w : World} {va vb vc : Value} {x y u v p q : Int} {l m k n s t : Nat}
set_option maxHeartbeats 8000000 in
set_option maxRecDepth 20000 in
theorem grests_zero (ha : PN w va x l y m) (hq : PN w vb 0 k 0 n) (hl : l ≤ 1048576) (hm : m ≤ 1048576) (hk : k ≤ 1048576) (hn : n ≤ 1048576) (htab : Lib.TabIs Tryd.prog w p10 .u64 Lib.pow10Tab) :
    Calls Tryd.prog 7 #[va, vb] w fun e w' => e = .returned (.bool true) ∧ Below w.heap.size w w' := by
  have htabs := Lib.tabBelow_of_tabIs htab
  have E := hide (show gN 0 0 = 0 from rfl)
  obtain ⟨n_0a, o_0a, k_0a, c_0a, n_0b, o_0b, k_0b, c_0b, rfl, ha1, ha2⟩ := ha
  obtain ⟨n_1a, o_1a, k_1a, c_1a, n_1b, o_1b, k_1b, c_1b, rfl, hq1, hq2⟩ := hq
  go_enter Tryd.func7, Tryd.ntmps7
  have hb := Below.refl w.heap.size w
  refine wp_seq_k ?_
  intro K1 hK1
  refine wp_region_sq [0, 1, 2] (by kernel_rfl) ?_
  refine wpSq_call rfl (by kernel_rfl) fun K hK => ?_
  go_big_op
  obtain ⟨p_b1, w_1, eP, eW, x_b1, hn, kb_b1⟩ := newBox w #[.bool n_0a, .slice o_0a k_0a c_0a, .bool n_0b, .slice o_0b k_0b c_0b] 26 hb.size
  rw [eW, eP]
  clear eW eP
  replace ha1 := ha1.bl hn; replace ha2 := ha2.bl hn; replace hq1 := hq1.bl hn; replace hq2 := hq2.bl hn; replace hb := hb.trans (hn.mono hb.size)
  refine hK _ _ rfl ?_; clear hK K hn
  refine wpSq_call rfl (by kernel_rfl) fun K hK => ?_
  go_big_op
  have lt_b1 := x_b1.lt
  obtain ⟨p_b2, w_2, eP, eW, x_b2, hn, kb_b2⟩ := newBox w_1 #[.bool n_1a, .slice o_1a k_1a c_1a, .bool n_1b, .slice o_1b k_1b c_1b] 26 hb.size
  have ne_b1_b2 : Hid (p_b1 ≠ p_b2) := Nat.ne_of_lt (eP ▸ lt_b1)
  rw [eW, eP]
  clear eW eP lt_b1
  replace ha1 := ha1.bl hn; replace ha2 := ha2.bl hn; replace hq1 := hq1.bl hn; replace hq2 := hq2.bl hn; replace x_b1 := x_b1.bl hn; replace hb := hb.trans (hn.mono hb.size)
  refine hK _ _ rfl ?_; clear hK K hn
  refine wpSq_call rfl (by kernel_rfl) fun K hK => ?_
  go_big_move; refine hK _ _ rfl ?_; clear hK K
  apply wpSq_end
  refine hK1 _ _ ?_
  refine wp_seq_k ?_
  intro K2 hK2
  refine wp_seq_k ?_
  intro K3 hK3
  refine wp_region_sq [0, 1] (by kernel_rfl) ?_
  refine wpSq_call rfl (by kernel_rfl) fun K hK => ?_
  go_big_op
  go_fit (gawake_any _ (htabs _ hb))
  rintro e w_3 ⟨rfl, hb_3⟩
  replace ha1 := ha1.bl hb_3; replace ha2 := ha2.bl hb_3; replace hq1 := hq1.bl hb_3; replace hq2 := hq2.bl hb_3; replace x_b1 := x_b1.bl hb_3; replace x_b2 := x_b2.bl hb_3; replace hb := hb.trans (hb_3.mono hb.size)
  refine hK _ _ rfl ?_
  clear hK K hb_3
  refine wpSq_call rfl (by kernel_rfl) fun K hK => ?_
  go_big_op; refine hK _ _ rfl ?_; clear hK K
  apply wpSq_end
  refine hK3 _ _ ?_
  refine wp_cond_false (congrArg Value.bool (show _ = false from (by first | rfl | assumption | (simp; done) | exact decide_eq_false (by omega) | omega))) ?_
  refine wp_skip ?_
  refine hK2 _ _ ?_
  refine wp_seq_k ?_
  intro K4 hK4
  refine wp_region_sq [0, 1, 2, 3] (by kernel_rfl) ?_
  refine wpSq_call rfl (by kernel_rfl) fun K hK => ?_
  obtain ⟨d0, d1, d2, d3⟩ := x_b2.f4
  go_big_op; refine hK _ _ rfl ?_; clear hK K d0 d1 d2 d3
  refine wpSq_call rfl (by kernel_rfl) fun K hK => ?_
  go_big_op
  go_fit (gNorm_any (PN.mk' hq1 hq2) (by omega) (by omega) )
  rintro e w_4 ⟨v_g, rfl, g, hb_4⟩
  replace ha1 := ha1.bl hb_4; replace ha2 := ha2.bl hb_4; replace hq1 := hq1.bl hb_4; replace hq2 := hq2.bl hb_4; replace x_b1 := x_b1.bl hb_4; replace x_b2 := x_b2.bl hb_4; replace hb := hb.trans (hb_4.mono hb.size)
  obtain ⟨n_g, o_g, k_g, c_g, rfl⟩ := g.open2
  have Lg := hide (g.lenOf (zlen_add (zlen_mul (hq1.len) (hq1.len)) (zlen_mul (hq2.len) (hq2.len))))
  rw [E.out] at g
  refine hK _ _ rfl ?_
  clear hK K hb_4
  refine wpSq_call rfl (by kernel_rfl) fun K hK => ?_
  go_big_op
  have lt_b1 := x_b1.lt
  have lt_b2 := x_b2.lt
  obtain ⟨p_b3, w_5, eP, eW, x_b3, hn, kb_b3⟩ := newBox w_4 #[.bool false, .slice none 0 0] 24 hb.size
  have ne_b1_b3 : Hid (p_b1 ≠ p_b3) := Nat.ne_of_lt (eP ▸ lt_b1)
  have ne_b2_b3 : Hid (p_b2 ≠ p_b3) := Nat.ne_of_lt (eP ▸ lt_b2)
  rw [eW, eP]
  clear eW eP lt_b1 lt_b2
  replace ha1 := ha1.bl hn; replace ha2 := ha2.bl hn; replace hq1 := hq1.bl hn; replace hq2 := hq2.bl hn; replace x_b1 := x_b1.bl hn; replace x_b2 := x_b2.bl hn; replace g := g.bl hn; replace hb := hb.trans (hn.mono hb.size)
  refine hK _ _ rfl ?_; clear hK K hn
  refine wpSq_call rfl (by kernel_rfl) fun K hK => ?_
  obtain ⟨d0, d1⟩ := x_b3.f2
  have f0 := x_b3.free 0; have f1 := x_b3.free 1
  go_big_op
  have hnd := x_b3.nod rfl rfl
  obtain ⟨w_6, eW, x_b3', ho⟩ : ∃ w', ((w_5.setCell ⟨p_b3, 0, none⟩ (.bool n_g)).setCell ⟨p_b3, 1, none⟩ (.slice o_g k_g c_g)) = w' ∧ Bs w' p_b3 #[.bool n_g, .slice o_g k_g c_g] 24 ∧ Only p_b3 w_5 w' := x_b3.setN [(0, .bool n_g), (1, .slice o_g k_g c_g)]
  rw [eW]; clear eW d0 d1 f0 f1 x_b3
  have x_b3 := x_b3'; clear x_b3'
  replace ha1 := ha1.fr hnd ho; replace ha2 := ha2.fr hnd ho; replace hq1 := hq1.fr hnd ho; replace hq2 := hq2.fr hnd ho; replace x_b1 := x_b1.frame ho ne_b1_b3; replace x_b2 := x_b2.frame ho ne_b2_b3; replace g := g.fr hnd ho; replace hb := belowOnly hb ho kb_b3
  refine hK _ _ rfl ?_; clear hK K ho hnd
  apply wpSq_end
  refine hK4 _ _ ?_
  refine wp_seq_k ?_
  intro K5 hK5
  refine wp_seq_k ?_
  intro K6 hK6
  refine wp_region_sq [0, 1, 2] (by kernel_rfl) ?_
  refine wpSq_call rfl (by kernel_rfl) fun K hK => ?_
  obtain ⟨d0, d1⟩ := x_b3.f2
  go_big_op; refine hK _ _ rfl ?_; clear hK K d0 d1
  have Lg := hide (g.lenOf (zlen_0))
  refine wpSq_call rfl (by kernel_rfl) fun K hK => ?_
  go_big_op
  go_fit (zsign_any (g.zn Lg.out) (by omega) )
  rintro e w_7 ⟨rfl, hb_7⟩
  replace ha1 := ha1.bl hb_7; replace ha2 := ha2.bl hb_7; replace hq1 := hq1.bl hb_7; replace hq2 := hq2.bl hb_7; replace x_b1 := x_b1.bl hb_7; replace x_b2 := x_b2.bl hb_7; replace g := g.bl hb_7; replace x_b3 := x_b3.bl hb_7; replace hb := hb.trans (hb_7.mono hb.size)
  refine hK _ _ rfl ?_
  clear hK K hb_7
  refine wpSq_call rfl (by kernel_rfl) fun K hK => ?_
  go_big_op; refine hK _ _ rfl ?_; clear hK K
  apply wpSq_end
  refine hK6 _ _ ?_
  refine wp_cond_true (congrArg Value.bool (show _ = true from (by first | rfl | assumption | (simp; done) | exact decide_eq_true (by omega) | omega))) ?_
  refine wp_seq_k ?_
  intro K7 hK7
  refine wp_region_sq [0] (by kernel_rfl) ?_
  refine wpSq_call rfl (by kernel_rfl) fun K hK => ?_
  go_big_move; refine hK _ _ rfl ?_; clear hK K
  apply wpSq_end
  refine hK7 _ _ ?_
  refine wp_ret ?_
  try dsimp only [Exit.then, Exit.inBlock]
  refine bodyPost_ret (v := (.bool true)) (by simp [results, Tryd.results7, go_sem]) rfl ?_
  exact ⟨rfl, hb⟩
set_option maxHeartbeats 8000000 in
set_option maxRecDepth 20000 in
theorem grests_some (ha : PN w va x l y m) (hq : PN w vb u k v n) (hl : l ≤ 1048576) (hm : m ≤ 1048576) (hk : k ≤ 1048576) (hn : n ≤ 1048576) (h0 : gN u v ≠ 0) (htab : Lib.TabIs Tryd.prog w p10 .u64 Lib.pow10Tab) :
    Calls Tryd.prog 7 #[va, vb] w fun e w' => e = .returned (.bool true) ∧ Below w.heap.size w w' := by
  have htabs := Lib.tabBelow_of_tabIs htab
  have H0 := hide h0
  have HS := hide (show (gN u v).sign = 1 from Int.sign_eq_one_of_pos (gN_pos h0))
  have HB := hide (gR_back x y u v)
  have h3 : zcmp (gN (gR1 x y u v) (gR2 x y u v) + gN (gR1 x y u v) (gR2 x y u v)) (gN u v) ≤ 0 := by
    have := zcmp_swap (gN (gR1 x y u v) (gR2 x y u v) + gN (gR1 x y u v) (gR2 x y u v)) (gN u v)
    have := zcmp_ge (x := gN u v) (y := gN (gR1 x y u v) (gR2 x y u v) + gN (gR1 x y u v) (gR2 x y u v)) (gR_half h0)
    omega
  obtain ⟨e1, e2⟩ := gR_conj x y u v
  have hp := gN_pos h0
  have b1 := (rnd_bd (x := gT1 x y u v) h0).1 hp
  have b2 := (rnd_bd (x := gT2 x y u v) h0).1 hp
  obtain ⟨A, hA⟩ : ∃ A, gT1 x y u v - gQ1 x y u v * gN u v = A := ⟨_, rfl⟩
  obtain ⟨B, hB⟩ : ∃ B, gT2 x y u v - gQ2 x y u v * gN u v = B := ⟨_, rfl⟩
  rw [show gT1 x y u v - rnd (gT1 x y u v) (gN u v) * gN u v = A from hA] at b1
  rw [show gT2 x y u v - rnd (gT2 x y u v) (gN u v) * gN u v = B from hB] at b2
  rw [hA] at e1
  rw [hB] at e2
  obtain ⟨C, hC⟩ : ∃ C, zcmp (gN (gR1 x y u v) (gR2 x y u v) + gN (gR1 x y u v) (gR2 x y u v)) (gN u v) = C := ⟨_, rfl⟩
  rw [hC] at h3
  have HC := hide hC
  have hc0 : (0 < C) = False := eq_false (by omega)
  have HA := hide (show gN u v = gN u v from rfl)
  obtain ⟨D1, hD1⟩ : ∃ D, zcmp (A + A) (-gN u v) = D := ⟨_, rfl⟩
  obtain ⟨D3, hD3⟩ : ∃ D, zcmp (B + B) (-gN u v) = D := ⟨_, rfl⟩
  have HD1 := hide hD1
  have HD3 := hide hD3
  have HD2 := hide (show zcmp (A + A) (gN u v) = -1 from zcmp_lt (by omega))
  have HD4 := hide (show zcmp (B + B) (gN u v) = -1 from zcmp_lt (by omega))
  have hd1 : (0 ≤ D1) = True := eq_true (by rw [← hD1]; exact zcmp_ge (by omega))
  have hd3 : (0 ≤ D3) = True := eq_true (by rw [← hD3]; exact zcmp_ge (by omega))
  have EE := hide (And.intro e1 e2)
  clear h0 e1 e2 b1 b2 hp hA hB h3 hC hD1 hD3
  obtain ⟨n_0a, o_0a, k_0a, c_0a, n_0b, o_0b, k_0b, c_0b, rfl, ha1, ha2⟩ := ha
  obtain ⟨n_1a, o_1a, k_1a, c_1a, n_1b, o_1b, k_1b, c_1b, rfl, hq1, hq2⟩ := hq
  go_enter Tryd.func7, Tryd.ntmps7
  have hb := Below.refl w.heap.size w
  refine wp_seq_k ?_
  intro K1 hK1
  refine wp_region_sq [0, 1, 2] (by kernel_rfl) ?_
  refine wpSq_call rfl (by kernel_rfl) fun K hK => ?_
  go_big_op
  obtain ⟨p_b1, w_1, eP, eW, x_b1, hn, kb_b1⟩ := newBox w #[.bool n_0a, .slice o_0a k_0a c_0a, .bool n_0b, .slice o_0b k_0b c_0b] 26 hb.size
  rw [eW, eP]
  clear eW eP
  replace ha1 := ha1.bl hn; replace ha2 := ha2.bl hn; replace hq1 := hq1.bl hn; replace hq2 := hq2.bl hn; replace hb := hb.trans (hn.mono hb.size)
  refine hK _ _ rfl ?_; clear hK K hn
  refine wpSq_call rfl (by kernel_rfl) fun K hK => ?_
  go_big_op
  have lt_b1 := x_b1.lt
  obtain ⟨p_b2, w_2, eP, eW, x_b2, hn, kb_b2⟩ := newBox w_1 #[.bool n_1a, .slice o_1a k_1a c_1a, .bool n_1b, .slice o_1b k_1b c_1b] 26 hb.size
  have ne_b1_b2 : Hid (p_b1 ≠ p_b2) := Nat.ne_of_lt (eP ▸ lt_b1)
  rw [eW, eP]
  clear eW eP lt_b1
  replace ha1 := ha1.bl hn; replace ha2 := ha2.bl hn; replace hq1 := hq1.bl hn; replace hq2 := hq2.bl hn; replace x_b1 := x_b1.bl hn; replace hb := hb.trans (hn.mono hb.size)
  refine hK _ _ rfl ?_; clear hK K hn
  refine wpSq_call rfl (by kernel_rfl) fun K hK => ?_
  go_big_move; refine hK _ _ rfl ?_; clear hK K
  apply wpSq_end
  refine hK1 _ _ ?_
  refine wp_seq_k ?_
  intro K2 hK2
  refine wp_seq_k ?_
  intro K3 hK3
  refine wp_region_sq [0, 1] (by kernel_rfl) ?_
  refine wpSq_call rfl (by kernel_rfl) fun K hK => ?_
  go_big_op
  go_fit (gawake_any _ (htabs _ hb))
  rintro e w_3 ⟨rfl, hb_3⟩
  replace ha1 := ha1.bl hb_3; replace ha2 := ha2.bl hb_3; replace hq1 := hq1.bl hb_3; replace hq2 := hq2.bl hb_3; replace x_b1 := x_b1.bl hb_3; replace x_b2 := x_b2.bl hb_3; replace hb := hb.trans (hb_3.mono hb.size)
  refine hK _ _ rfl ?_
  clear hK K hb_3
  refine wpSq_call rfl (by kernel_rfl) fun K hK => ?_
  go_big_op; refine hK _ _ rfl ?_; clear hK K
  apply wpSq_end
  refine hK3 _ _ ?_
  refine wp_cond_false (congrArg Value.bool (show _ = false from (by first | rfl | assumption | (simp; done) | exact decide_eq_false (by omega) | omega))) ?_
  refine wp_skip ?_
  refine hK2 _ _ ?_
  refine wp_seq_k ?_
  intro K4 hK4
  refine wp_region_sq [0, 1, 2, 3] (by kernel_rfl) ?_
  refine wpSq_call rfl (by kernel_rfl) fun K hK => ?_
  obtain ⟨d0, d1, d2, d3⟩ := x_b2.f4
  go_big_op; refine hK _ _ rfl ?_; clear hK K d0 d1 d2 d3
  refine wpSq_call rfl (by kernel_rfl) fun K hK => ?_
  go_big_op
  go_fit (gNorm_any (PN.mk' hq1 hq2) (by omega) (by omega) )
  rintro e w_4 ⟨v_g, rfl, g, hb_4⟩
  replace ha1 := ha1.bl hb_4; replace ha2 := ha2.bl hb_4; replace hq1 := hq1.bl hb_4; replace hq2 := hq2.bl hb_4; replace x_b1 := x_b1.bl hb_4; replace x_b2 := x_b2.bl hb_4; replace hb := hb.trans (hb_4.mono hb.size)
  obtain ⟨n_g, o_g, k_g, c_g, rfl⟩ := g.open2
  have Lg := hide (g.lenOf (zlen_add (zlen_mul (hq1.len) (hq1.len)) (zlen_mul (hq2.len) (hq2.len))))
  refine hK _ _ rfl ?_
  clear hK K hb_4
  refine wpSq_call rfl (by kernel_rfl) fun K hK => ?_
  go_big_op
  have lt_b1 := x_b1.lt
  have lt_b2 := x_b2.lt
  obtain ⟨p_b3, w_5, eP, eW, x_b3, hn, kb_b3⟩ := newBox w_4 #[.bool false, .slice none 0 0] 24 hb.size
  have ne_b1_b3 : Hid (p_b1 ≠ p_b3) := Nat.ne_of_lt (eP ▸ lt_b1)
  have ne_b2_b3 : Hid (p_b2 ≠ p_b3) := Nat.ne_of_lt (eP ▸ lt_b2)
  rw [eW, eP]
  clear eW eP lt_b1 lt_b2
  replace ha1 := ha1.bl hn; replace ha2 := ha2.bl hn; replace hq1 := hq1.bl hn; replace hq2 := hq2.bl hn; replace x_b1 := x_b1.bl hn; replace x_b2 := x_b2.bl hn; replace g := g.bl hn; replace hb := hb.trans (hn.mono hb.size)
  refine hK _ _ rfl ?_; clear hK K hn
  refine wpSq_call rfl (by kernel_rfl) fun K hK => ?_
  obtain ⟨d0, d1⟩ := x_b3.f2
  have f0 := x_b3.free 0; have f1 := x_b3.free 1
  go_big_op
  have hnd := x_b3.nod rfl rfl
  obtain ⟨w_6, eW, x_b3', ho⟩ : ∃ w', ((w_5.setCell ⟨p_b3, 0, none⟩ (.bool n_g)).setCell ⟨p_b3, 1, none⟩ (.slice o_g k_g c_g)) = w' ∧ Bs w' p_b3 #[.bool n_g, .slice o_g k_g c_g] 24 ∧ Only p_b3 w_5 w' := x_b3.setN [(0, .bool n_g), (1, .slice o_g k_g c_g)]
  rw [eW]; clear eW d0 d1 f0 f1 x_b3
  have x_b3 := x_b3'; clear x_b3'
  replace ha1 := ha1.fr hnd ho; replace ha2 := ha2.fr hnd ho; replace hq1 := hq1.fr hnd ho; replace hq2 := hq2.fr hnd ho; replace x_b1 := x_b1.frame ho ne_b1_b3; replace x_b2 := x_b2.frame ho ne_b2_b3; replace g := g.fr hnd ho; replace hb := belowOnly hb ho kb_b3
  refine hK _ _ rfl ?_; clear hK K ho hnd
  apply wpSq_end
  refine hK4 _ _ ?_
  refine wp_seq_k ?_
  intro K5 hK5
  refine wp_seq_k ?_
  intro K6 hK6
  refine wp_region_sq [0, 1, 2] (by kernel_rfl) ?_
  refine wpSq_call rfl (by kernel_rfl) fun K hK => ?_
  obtain ⟨d0, d1⟩ := x_b3.f2
  go_big_op; refine hK _ _ rfl ?_; clear hK K d0 d1
  refine wpSq_call rfl (by kernel_rfl) fun K hK => ?_
  go_big_op
  go_fit (zsign_any (g.zn Lg.out) (by omega) )
  rintro e w_7 ⟨rfl, hb_7⟩
  replace ha1 := ha1.bl hb_7; replace ha2 := ha2.bl hb_7; replace hq1 := hq1.bl hb_7; replace hq2 := hq2.bl hb_7; replace x_b1 := x_b1.bl hb_7; replace x_b2 := x_b2.bl hb_7; replace g := g.bl hb_7; replace x_b3 := x_b3.bl hb_7; replace hb := hb.trans (hb_7.mono hb.size)
  rw [HS.out]
  refine hK _ _ rfl ?_
  clear hK K hb_7
  refine wpSq_call rfl (by kernel_rfl) fun K hK => ?_
  go_big_op; refine hK _ _ rfl ?_; clear hK K
  apply wpSq_end
  refine hK6 _ _ ?_
  refine wp_cond_false (congrArg Value.bool (show _ = false from (by first | rfl | assumption | (simp; done) | exact decide_eq_false (by omega) | omega))) ?_
  refine wp_skip ?_
  refine hK5 _ _ ?_
  refine wp_seq_k ?_
  intro K7 hK7
  refine wp_region_sq [0, 1, 2, 3, 4, 5, 6, 7, 8, 9, 10, 11] (by kernel_rfl) ?_
  refine wpSq_call rfl (by kernel_rfl) fun K hK => ?_
  obtain ⟨d0, d1, d2, d3⟩ := x_b1.f4
  go_big_op; refine hK _ _ rfl ?_; clear hK K d0 d1 d2 d3
  refine wpSq_call rfl (by kernel_rfl) fun K hK => ?_
  obtain ⟨d0, d1, d2, d3⟩ := x_b2.f4
  go_big_op; refine hK _ _ rfl ?_; clear hK K d0 d1 d2 d3
  refine wpSq_call rfl (by kernel_rfl) fun K hK => ?_
  go_big_op
  go_fit (gRound_any (PN.mk' ha1 ha2) (PN.mk' hq1 hq2) (by omega) (by omega) (by omega) (by omega) H0.out)
  rintro e w_8 ⟨_, _, rfl, ⟨n_ca, o_ca, k_ca, c_ca, n_cb, o_cb, k_cb, c_cb, rfl, c1, c2⟩, ⟨n_ra, o_ra, k_ra, c_ra, n_rb, o_rb, k_rb, c_rb, rfl, r1, r2⟩, hb_8⟩
  replace ha1 := ha1.bl hb_8; replace ha2 := ha2.bl hb_8; replace hq1 := hq1.bl hb_8; replace hq2 := hq2.bl hb_8; replace x_b1 := x_b1.bl hb_8; replace x_b2 := x_b2.bl hb_8; replace g := g.bl hb_8; replace x_b3 := x_b3.bl hb_8; replace hb := hb.trans (hb_8.mono hb.size)
  have Lc1 := hide (c1.lenOf (rnd_len (H0.out) (zlen_gT1 (ha1.len) (ha2.len) (hq1.len) (hq2.len))))
  have Lc2 := hide (c2.lenOf (rnd_len (H0.out) (zlen_gT2 (ha1.len) (ha2.len) (hq1.len) (hq2.len))))
  have Lr1 := hide (r1.lenOf (zlen_gR1 (ha1.len) (ha2.len) (hq1.len) (hq2.len) (H0.out)))
  have Lr2 := hide (r2.lenOf (zlen_gR2 (ha1.len) (ha2.len) (hq1.len) (hq2.len) (H0.out)))
  refine hK _ _ rfl ?_
  clear hK K hb_8
  refine wpSq_call rfl (by kernel_rfl) fun K hK => ?_
  go_big_move; refine hK _ _ rfl ?_; clear hK K
  refine wpSq_call rfl (by kernel_rfl) fun K hK => ?_
  go_big_op; refine hK _ _ rfl ?_; clear hK K
  refine wpSq_call rfl (by kernel_rfl) fun K hK => ?_
  go_big_op; refine hK _ _ rfl ?_; clear hK K
  refine wpSq_call rfl (by kernel_rfl) fun K hK => ?_
  go_big_op; refine hK _ _ rfl ?_; clear hK K
  refine wpSq_call rfl (by kernel_rfl) fun K hK => ?_
  go_big_op
  have lt_b1 := x_b1.lt
  have lt_b2 := x_b2.lt
  have lt_b3 := x_b3.lt
  obtain ⟨p_b4, w_9, eP, eW, x_b4, hn, kb_b4⟩ := newBox w_8 #[.bool false, .slice none 0 0, .bool false, .slice none 0 0] 26 hb.size
  have ne_b1_b4 : Hid (p_b1 ≠ p_b4) := Nat.ne_of_lt (eP ▸ lt_b1)
  have ne_b2_b4 : Hid (p_b2 ≠ p_b4) := Nat.ne_of_lt (eP ▸ lt_b2)
  have ne_b3_b4 : Hid (p_b3 ≠ p_b4) := Nat.ne_of_lt (eP ▸ lt_b3)
  rw [eW, eP]
  clear eW eP lt_b1 lt_b2 lt_b3
  replace ha1 := ha1.bl hn; replace ha2 := ha2.bl hn; replace hq1 := hq1.bl hn; replace hq2 := hq2.bl hn; replace x_b1 := x_b1.bl hn; replace x_b2 := x_b2.bl hn; replace g := g.bl hn; replace x_b3 := x_b3.bl hn; replace c1 := c1.bl hn; replace c2 := c2.bl hn; replace r1 := r1.bl hn; replace r2 := r2.bl hn; replace hb := hb.trans (hn.mono hb.size)
  refine hK _ _ rfl ?_; clear hK K hn
  refine wpSq_call rfl (by kernel_rfl) fun K hK => ?_
  go_big_op
  have lt_b1 := x_b1.lt
  have lt_b2 := x_b2.lt
  have lt_b3 := x_b3.lt
  have lt_b4 := x_b4.lt
  obtain ⟨p_b5, w_10, eP, eW, x_b5, hn, kb_b5⟩ := newBox w_9 #[.bool false, .slice none 0 0, .bool false, .slice none 0 0] 26 hb.size
  have ne_b1_b5 : Hid (p_b1 ≠ p_b5) := Nat.ne_of_lt (eP ▸ lt_b1)
  have ne_b2_b5 : Hid (p_b2 ≠ p_b5) := Nat.ne_of_lt (eP ▸ lt_b2)
  have ne_b3_b5 : Hid (p_b3 ≠ p_b5) := Nat.ne_of_lt (eP ▸ lt_b3)
  have ne_b4_b5 : Hid (p_b4 ≠ p_b5) := Nat.ne_of_lt (eP ▸ lt_b4)
  rw [eW, eP]
  clear eW eP lt_b1 lt_b2 lt_b3 lt_b4
  replace ha1 := ha1.bl hn; replace ha2 := ha2.bl hn; replace hq1 := hq1.bl hn; replace hq2 := hq2.bl hn; replace x_b1 := x_b1.bl hn; replace x_b2 := x_b2.bl hn; replace g := g.bl hn; replace x_b3 := x_b3.bl hn; replace c1 := c1.bl hn; replace c2 := c2.bl hn; replace r1 := r1.bl hn; replace r2 := r2.bl hn; replace x_b4 := x_b4.bl hn; replace hb := hb.trans (hn.mono hb.size)
  refine hK _ _ rfl ?_; clear hK K hn
  refine wpSq_call rfl (by kernel_rfl) fun K hK => ?_
  obtain ⟨d0, d1, d2, d3⟩ := x_b4.f4
  have f0 := x_b4.free 0; have f1 := x_b4.free 1; have f2 := x_b4.free 2; have f3 := x_b4.free 3
  go_big_op
  have hnd := x_b4.nod rfl rfl
  obtain ⟨w_11, eW, x_b4', ho⟩ : ∃ w', ((((w_10.setCell ⟨p_b4, 0, none⟩ (.bool n_ca)).setCell ⟨p_b4, 1, none⟩ (.slice o_ca k_ca c_ca)).setCell ⟨p_b4, 2, none⟩ (.bool n_cb)).setCell ⟨p_b4, 3, none⟩ (.slice o_cb k_cb c_cb)) = w' ∧ Bs w' p_b4 #[.bool n_ca, .slice o_ca k_ca c_ca, .bool n_cb, .slice o_cb k_cb c_cb] 26 ∧ Only p_b4 w_10 w' := x_b4.setN [(0, .bool n_ca), (1, .slice o_ca k_ca c_ca), (2, .bool n_cb), (3, .slice o_cb k_cb c_cb)]
  rw [eW]; clear eW d0 d1 d2 d3 f0 f1 f2 f3 x_b4
  have x_b4 := x_b4'; clear x_b4'
  replace ha1 := ha1.fr hnd ho; replace ha2 := ha2.fr hnd ho; replace hq1 := hq1.fr hnd ho; replace hq2 := hq2.fr hnd ho; replace x_b1 := x_b1.frame ho ne_b1_b4; replace x_b2 := x_b2.frame ho ne_b2_b4; replace g := g.fr hnd ho; replace x_b3 := x_b3.frame ho ne_b3_b4; replace c1 := c1.fr hnd ho; replace c2 := c2.fr hnd ho; replace r1 := r1.fr hnd ho; replace r2 := r2.fr hnd ho; replace x_b5 := x_b5.frame ho ne_b4_b5.symm; replace hb := belowOnly hb ho kb_b4
  refine hK _ _ rfl ?_; clear hK K ho hnd
  refine wpSq_call rfl (by kernel_rfl) fun K hK => ?_
  obtain ⟨d0, d1, d2, d3⟩ := x_b5.f4
  have f0 := x_b5.free 0; have f1 := x_b5.free 1; have f2 := x_b5.free 2; have f3 := x_b5.free 3
  go_big_op
  have hnd := x_b5.nod rfl rfl
  obtain ⟨w_12, eW, x_b5', ho⟩ : ∃ w', ((((w_11.setCell ⟨p_b5, 0, none⟩ (.bool n_ra)).setCell ⟨p_b5, 1, none⟩ (.slice o_ra k_ra c_ra)).setCell ⟨p_b5, 2, none⟩ (.bool n_rb)).setCell ⟨p_b5, 3, none⟩ (.slice o_rb k_rb c_rb)) = w' ∧ Bs w' p_b5 #[.bool n_ra, .slice o_ra k_ra c_ra, .bool n_rb, .slice o_rb k_rb c_rb] 26 ∧ Only p_b5 w_11 w' := x_b5.setN [(0, .bool n_ra), (1, .slice o_ra k_ra c_ra), (2, .bool n_rb), (3, .slice o_rb k_rb c_rb)]
  rw [eW]; clear eW d0 d1 d2 d3 f0 f1 f2 f3 x_b5
  have x_b5 := x_b5'; clear x_b5'
  replace ha1 := ha1.fr hnd ho; replace ha2 := ha2.fr hnd ho; replace hq1 := hq1.fr hnd ho; replace hq2 := hq2.fr hnd ho; replace x_b1 := x_b1.frame ho ne_b1_b5; replace x_b2 := x_b2.frame ho ne_b2_b5; replace g := g.fr hnd ho; replace x_b3 := x_b3.frame ho ne_b3_b5; replace c1 := c1.fr hnd ho; replace c2 := c2.fr hnd ho; replace r1 := r1.fr hnd ho; replace r2 := r2.fr hnd ho; replace x_b4 := x_b4.frame ho ne_b4_b5; replace hb := belowOnly hb ho kb_b5
  refine hK _ _ rfl ?_; clear hK K ho hnd
  refine wpSq_call rfl (by kernel_rfl) fun K hK => ?_
  go_big_move; refine hK _ _ rfl ?_; clear hK K
  apply wpSq_end
  refine hK7 _ _ ?_
  refine wp_seq_k ?_
  intro K8 hK8
  refine wp_seq_k ?_
  intro K9 hK9
  refine wp_region_fl2 [(0, false), (1, false), (2, false), (3, false), (4, false), (6, false), (8, false), (5, true), (7, true), (9, true), (10, false), (11, false), (12, false), (13, false), (15, false), (18, false), (14, true), (16, true), (17, true), (19, true), (20, false), (21, false)] [] [] (fun _ => default) [99, 99, 99, 0, 1, 99, 2, 99, 3, 99, 99, 99, 99, 2, 99, 2, 99, 99, 4, 99, 99, 99] [] (fun w' => w'.cell? ⟨p_b4, 0, none⟩ = some (.bool n_ca) ∧ w'.cell? ⟨p_b4, 1, none⟩ = some (.slice o_ca k_ca c_ca) ∧ w'.cell? ⟨p_b4, 2, none⟩ = some (.bool n_cb) ∧ w'.cell? ⟨p_b4, 3, none⟩ = some (.slice o_cb k_cb c_cb) ∧ w'.cell? ⟨p_b2, 0, none⟩ = some (.bool n_1a) ∧ w'.cell? ⟨p_b2, 1, none⟩ = some (.slice o_1a k_1a c_1a) ∧ w'.cell? ⟨p_b2, 2, none⟩ = some (.bool n_1b) ∧ w'.cell? ⟨p_b2, 3, none⟩ = some (.slice o_1b k_1b c_1b) ∧ w'.cell? ⟨p_b5, 0, none⟩ = some (.bool n_ra) ∧ w'.cell? ⟨p_b5, 1, none⟩ = some (.slice o_ra k_ra c_ra) ∧ w'.cell? ⟨p_b5, 2, none⟩ = some (.bool n_rb) ∧ w'.cell? ⟨p_b5, 3, none⟩ = some (.slice o_rb k_rb c_rb) ∧ w'.cell? ⟨p_b1, 0, none⟩ = some (.bool n_0a) ∧ w'.cell? ⟨p_b1, 1, none⟩ = some (.slice o_0a k_0a c_0a) ∧ w'.cell? ⟨p_b1, 2, none⟩ = some (.bool n_0b) ∧ w'.cell? ⟨p_b1, 3, none⟩ = some (.slice o_0b k_0b c_0b) ∧ w'.cell? ⟨p_b3, 0, none⟩ = some (.bool n_g) ∧ w'.cell? ⟨p_b3, 1, none⟩ = some (.slice o_g k_g c_g)) [fun w' => w'.cell? ⟨p_b4, 0, none⟩ = some (.bool n_ca) ∧ w'.cell? ⟨p_b4, 1, none⟩ = some (.slice o_ca k_ca c_ca) ∧ w'.cell? ⟨p_b4, 2, none⟩ = some (.bool n_cb) ∧ w'.cell? ⟨p_b4, 3, none⟩ = some (.slice o_cb k_cb c_cb), fun w' => w'.cell? ⟨p_b2, 0, none⟩ = some (.bool n_1a) ∧ w'.cell? ⟨p_b2, 1, none⟩ = some (.slice o_1a k_1a c_1a) ∧ w'.cell? ⟨p_b2, 2, none⟩ = some (.bool n_1b) ∧ w'.cell? ⟨p_b2, 3, none⟩ = some (.slice o_1b k_1b c_1b), fun w' => w'.cell? ⟨p_b5, 0, none⟩ = some (.bool n_ra) ∧ w'.cell? ⟨p_b5, 1, none⟩ = some (.slice o_ra k_ra c_ra) ∧ w'.cell? ⟨p_b5, 2, none⟩ = some (.bool n_rb) ∧ w'.cell? ⟨p_b5, 3, none⟩ = some (.slice o_rb k_rb c_rb), fun w' => w'.cell? ⟨p_b1, 0, none⟩ = some (.bool n_0a) ∧ w'.cell? ⟨p_b1, 1, none⟩ = some (.slice o_0a k_0a c_0a) ∧ w'.cell? ⟨p_b1, 2, none⟩ = some (.bool n_0b) ∧ w'.cell? ⟨p_b1, 3, none⟩ = some (.slice o_0b k_0b c_0b), fun w' => w'.cell? ⟨p_b3, 0, none⟩ = some (.bool n_g) ∧ w'.cell? ⟨p_b3, 1, none⟩ = some (.slice o_g k_g c_g)] (by kernel_rfl) (by kernel_rfl) (by kernel_rfl) (by kernel_rfl) (by kernel_rfl) (by kernel_rfl) (by kernel_rfl) (by kernel_rfl) (by decide) (by intro j hj; cases hj) (by intro w' o hC; obtain ⟨c0, c1, c2, c3, c4, c5, c6, c7, c8, c9, c10, c11, c12, c13, c14, c15, c16, c17⟩ := hC; exact ⟨cell_alloc c0 o, cell_alloc c1 o, cell_alloc c2 o, cell_alloc c3 o, cell_alloc c4 o, cell_alloc c5 o, cell_alloc c6 o, cell_alloc c7 o, cell_alloc c8 o, cell_alloc c9 o, cell_alloc c10 o, cell_alloc c11 o, cell_alloc c12 o, cell_alloc c13 o, cell_alloc c14 o, cell_alloc c15 o, cell_alloc c16 o, cell_alloc c17 o⟩) (by intro w' hC G hG; obtain ⟨c0, c1, c2, c3, c4, c5, c6, c7, c8, c9, c10, c11, c12, c13, c14, c15, c16, c17⟩ := hC; simp only [List.mem_cons, List.not_mem_nil, or_false] at hG; rcases hG with rfl | rfl | rfl | rfl | rfl <;> first | exact ⟨c0, c1, c2, c3⟩ | exact ⟨c4, c5, c6, c7⟩ | exact ⟨c8, c9, c10, c11⟩ | exact ⟨c12, c13, c14, c15⟩ | exact ⟨c16, c17⟩) ?_
  have lt_b1 := x_b1.lt
  have lt_b2 := x_b2.lt
  have lt_b3 := x_b3.lt
  have lt_b4 := x_b4.lt
  have lt_b5 := x_b5.lt
  intro w_13 hn
  replace lt_b1 := Nat.lt_of_lt_of_le lt_b1 hn.size
  replace lt_b2 := Nat.lt_of_lt_of_le lt_b2 hn.size
  replace lt_b3 := Nat.lt_of_lt_of_le lt_b3 hn.size
  replace lt_b4 := Nat.lt_of_lt_of_le lt_b4 hn.size
  replace lt_b5 := Nat.lt_of_lt_of_le lt_b5 hn.size
  replace ha1 := ha1.bl hn; replace ha2 := ha2.bl hn; replace hq1 := hq1.bl hn; replace hq2 := hq2.bl hn; replace x_b1 := x_b1.bl hn; replace x_b2 := x_b2.bl hn; replace g := g.bl hn; replace x_b3 := x_b3.bl hn; replace c1 := c1.bl hn; replace c2 := c2.bl hn; replace r1 := r1.bl hn; replace r2 := r2.bl hn; replace x_b4 := x_b4.bl hn; replace x_b5 := x_b5.bl hn; replace hb := hb.trans (hn.mono hb.size)
  clear hn
  have kb0 := hb.size
  refine ⟨⟨x_b4.cell 0 rfl, x_b4.cell 1 rfl, x_b4.cell 2 rfl, x_b4.cell 3 rfl, x_b2.cell 0 rfl, x_b2.cell 1 rfl, x_b2.cell 2 rfl, x_b2.cell 3 rfl, x_b5.cell 0 rfl, x_b5.cell 1 rfl, x_b5.cell 2 rfl, x_b5.cell 3 rfl, x_b1.cell 0 rfl, x_b1.cell 1 rfl, x_b1.cell 2 rfl, x_b1.cell 3 rfl, x_b3.cell 0 rfl, x_b3.cell 1 rfl⟩, ?_⟩
  apply wpFl_ld rfl rfl; (case h1 => intro w' hC K hK; go_big_move; exact hK); iterate 4 kernel_rfl
  apply wpFl_ld rfl rfl; (case h1 => intro w' hC K hK; go_big_op; exact hK); iterate 4 kernel_rfl
  apply wpFl_ld rfl rfl; (case h1 => intro w' hC K hK; go_big_move; exact hK); iterate 4 kernel_rfl
  apply wpFl_ld rfl rfl; (case h1 => intro w' hC K hK; obtain ⟨c0, c1, c2, c3⟩ := hC; go_big_op; exact hK); iterate 4 kernel_rfl
  apply wpFl_ld rfl rfl; (case h1 => intro w' hC K hK; obtain ⟨c0, c1, c2, c3⟩ := hC; go_big_op; exact hK); iterate 4 kernel_rfl
  apply wpFl_ld rfl rfl; (case h1 => intro w' hC K hK; obtain ⟨c0, c1, c2, c3⟩ := hC; go_big_op; exact hK); iterate 4 kernel_rfl
  apply wpFl_ld rfl rfl; (case h1 => intro w' hC K hK; obtain ⟨c0, c1, c2, c3⟩ := hC; go_big_op; exact hK); iterate 4 kernel_rfl
  refine wpFl_call rfl (by kernel_rfl) fun w_14 hn hC => ?_; clear hC
  replace ha1 := ha1.bl hn; replace ha2 := ha2.bl hn; replace hq1 := hq1.bl hn; replace hq2 := hq2.bl hn; replace x_b1 := x_b1.bl hn; replace x_b2 := x_b2.bl hn; replace g := g.bl hn; replace x_b3 := x_b3.bl hn; replace c1 := c1.bl hn; replace c2 := c2.bl hn; replace r1 := r1.bl hn; replace r2 := r2.bl hn; replace x_b4 := x_b4.bl hn; replace x_b5 := x_b5.bl hn; replace hb := hb.trans (hn.mono hb.size)
  clear hn; intro K hK
  go_big_op
  go_fit (gMul_any (PN.mk' (c1.zn Lc1.out) (c2.zn Lc2.out)) (PN.mk' hq1 hq2) (by omega) (by omega) (by omega) (by omega) )
  rintro e w_15 ⟨_, rfl, ⟨n_da, o_da, k_da, c_da, n_db, o_db, k_db, c_db, rfl, d1, d2⟩, hb_15⟩
  replace ha1 := ha1.bl hb_15; replace ha2 := ha2.bl hb_15; replace hq1 := hq1.bl hb_15; replace hq2 := hq2.bl hb_15; replace x_b1 := x_b1.bl hb_15; replace x_b2 := x_b2.bl hb_15; replace g := g.bl hb_15; replace x_b3 := x_b3.bl hb_15; replace c1 := c1.bl hb_15; replace c2 := c2.bl hb_15; replace r1 := r1.bl hb_15; replace r2 := r2.bl hb_15; replace x_b4 := x_b4.bl hb_15; replace x_b5 := x_b5.bl hb_15; replace hb := hb.trans (hb_15.mono hb.size)
  have Ld1 := hide (d1.lenOf (zlen_sub (zlen_mul (Lc1.out) (hq1.len)) (zlen_mul (Lc2.out) (hq2.len))))
  have Ld2 := hide (d2.lenOf (zlen_add (zlen_mul (Lc1.out) (hq2.len)) (zlen_mul (Lc2.out) (hq1.len))))
  refine hK _ _ rfl hb_15 ⟨x_b4.cell 0 rfl, x_b4.cell 1 rfl, x_b4.cell 2 rfl, x_b4.cell 3 rfl, x_b2.cell 0 rfl, x_b2.cell 1 rfl, x_b2.cell 2 rfl, x_b2.cell 3 rfl, x_b5.cell 0 rfl, x_b5.cell 1 rfl, x_b5.cell 2 rfl, x_b5.cell 3 rfl, x_b1.cell 0 rfl, x_b1.cell 1 rfl, x_b1.cell 2 rfl, x_b1.cell 3 rfl, x_b3.cell 0 rfl, x_b3.cell 1 rfl⟩ ?_
  clear hK K hb_15
  refine wpFl_call rfl (by kernel_rfl) fun w_16 hn hC => ?_; clear hC
  replace ha1 := ha1.bl hn; replace ha2 := ha2.bl hn; replace hq1 := hq1.bl hn; replace hq2 := hq2.bl hn; replace x_b1 := x_b1.bl hn; replace x_b2 := x_b2.bl hn; replace g := g.bl hn; replace x_b3 := x_b3.bl hn; replace c1 := c1.bl hn; replace c2 := c2.bl hn; replace r1 := r1.bl hn; replace r2 := r2.bl hn; replace x_b4 := x_b4.bl hn; replace x_b5 := x_b5.bl hn; replace d1 := d1.bl hn; replace d2 := d2.bl hn; replace hb := hb.trans (hn.mono hb.size)
  clear hn; intro K hK
  go_big_op
  go_fit (gAdd_any (PN.mk' (d1.zn Ld1.out) (d2.zn Ld2.out)) (PN.mk' (r1.zn Lr1.out) (r2.zn Lr2.out)) (by omega) (by omega) (by omega) (by omega) )
  rintro e w_17 ⟨_, rfl, ⟨n_ea, o_ea, k_ea, c_ea, n_eb, o_eb, k_eb, c_eb, rfl, e1, e2⟩, hb_17⟩
  replace ha1 := ha1.bl hb_17; replace ha2 := ha2.bl hb_17; replace hq1 := hq1.bl hb_17; replace hq2 := hq2.bl hb_17; replace x_b1 := x_b1.bl hb_17; replace x_b2 := x_b2.bl hb_17; replace g := g.bl hb_17; replace x_b3 := x_b3.bl hb_17; replace c1 := c1.bl hb_17; replace c2 := c2.bl hb_17; replace r1 := r1.bl hb_17; replace r2 := r2.bl hb_17; replace x_b4 := x_b4.bl hb_17; replace x_b5 := x_b5.bl hb_17; replace d1 := d1.bl hb_17; replace d2 := d2.bl hb_17; replace hb := hb.trans (hb_17.mono hb.size)
  have Le1 := hide (e1.lenOf (zlen_add (Ld1.out) (Lr1.out)))
  have Le2 := hide (e2.lenOf (zlen_add (Ld2.out) (Lr2.out)))
  rw [HB.out.1] at e1
  rw [HB.out.2] at e2
  refine hK _ _ rfl hb_17 ⟨x_b4.cell 0 rfl, x_b4.cell 1 rfl, x_b4.cell 2 rfl, x_b4.cell 3 rfl, x_b2.cell 0 rfl, x_b2.cell 1 rfl, x_b2.cell 2 rfl, x_b2.cell 3 rfl, x_b5.cell 0 rfl, x_b5.cell 1 rfl, x_b5.cell 2 rfl, x_b5.cell 3 rfl, x_b1.cell 0 rfl, x_b1.cell 1 rfl, x_b1.cell 2 rfl, x_b1.cell 3 rfl, x_b3.cell 0 rfl, x_b3.cell 1 rfl⟩ ?_
  clear hK K hb_17
  have Le1 := hide (e1.lenOf (ha1.len))
  have Le2 := hide (e2.lenOf (ha2.len))
  refine wpFl_call rfl (by kernel_rfl) fun w_18 hn hC => ?_; clear hC
  clear d1 d2
  replace ha1 := ha1.bl hn; replace ha2 := ha2.bl hn; replace hq1 := hq1.bl hn; replace hq2 := hq2.bl hn; replace x_b1 := x_b1.bl hn; replace x_b2 := x_b2.bl hn; replace g := g.bl hn; replace x_b3 := x_b3.bl hn; replace c1 := c1.bl hn; replace c2 := c2.bl hn; replace r1 := r1.bl hn; replace r2 := r2.bl hn; replace x_b4 := x_b4.bl hn; replace x_b5 := x_b5.bl hn; replace e1 := e1.bl hn; replace e2 := e2.bl hn; replace hb := hb.trans (hn.mono hb.size)
  clear hn; intro K hK
  go_big_op
  go_fit (gEqual_yes (PN.mk' (e1.zn Le1.out) (e2.zn Le2.out)) (PN.mk' ha1 ha2) (by omega) (by omega) (by omega) (by omega) rfl rfl)
  rintro e w_19 ⟨rfl, hb_19⟩
  replace ha1 := ha1.bl hb_19; replace ha2 := ha2.bl hb_19; replace hq1 := hq1.bl hb_19; replace hq2 := hq2.bl hb_19; replace x_b1 := x_b1.bl hb_19; replace x_b2 := x_b2.bl hb_19; replace g := g.bl hb_19; replace x_b3 := x_b3.bl hb_19; replace c1 := c1.bl hb_19; replace c2 := c2.bl hb_19; replace r1 := r1.bl hb_19; replace r2 := r2.bl hb_19; replace x_b4 := x_b4.bl hb_19; replace x_b5 := x_b5.bl hb_19; replace e1 := e1.bl hb_19; replace e2 := e2.bl hb_19; replace hb := hb.trans (hb_19.mono hb.size)
  refine hK _ _ rfl hb_19 ⟨x_b4.cell 0 rfl, x_b4.cell 1 rfl, x_b4.cell 2 rfl, x_b4.cell 3 rfl, x_b2.cell 0 rfl, x_b2.cell 1 rfl, x_b2.cell 2 rfl, x_b2.cell 3 rfl, x_b5.cell 0 rfl, x_b5.cell 1 rfl, x_b5.cell 2 rfl, x_b5.cell 3 rfl, x_b1.cell 0 rfl, x_b1.cell 1 rfl, x_b1.cell 2 rfl, x_b1.cell 3 rfl, x_b3.cell 0 rfl, x_b3.cell 1 rfl⟩ ?_
  clear hK K hb_19
  apply wpFl_ld rfl rfl; (case h1 => intro w' hC K hK; go_big_op; exact hK); iterate 4 kernel_rfl
  apply wpFl_ld rfl rfl; (case h1 => intro w' hC K hK; go_big_op; exact hK); iterate 4 kernel_rfl
  apply wpFl_ld rfl rfl; (case h1 => intro w' hC K hK; go_big_move; exact hK); iterate 4 kernel_rfl
  apply wpFl_ld rfl rfl; (case h1 => intro w' hC K hK; obtain ⟨c0, c1, c2, c3⟩ := hC; go_big_op; exact hK); iterate 4 kernel_rfl
  apply wpFl_ld rfl rfl; (case h1 => intro w' hC K hK; obtain ⟨c0, c1, c2, c3⟩ := hC; go_big_op; exact hK); iterate 4 kernel_rfl
  apply wpFl_ld rfl rfl; (case h1 => intro w' hC K hK; obtain ⟨c0, c1⟩ := hC; go_big_op; exact hK); iterate 4 kernel_rfl
  refine wpFl_call rfl (by kernel_rfl) fun w_20 hn hC => ?_; clear hC
  clear e1 e2
  replace ha1 := ha1.bl hn; replace ha2 := ha2.bl hn; replace hq1 := hq1.bl hn; replace hq2 := hq2.bl hn; replace x_b1 := x_b1.bl hn; replace x_b2 := x_b2.bl hn; replace g := g.bl hn; replace x_b3 := x_b3.bl hn; replace c1 := c1.bl hn; replace c2 := c2.bl hn; replace r1 := r1.bl hn; replace r2 := r2.bl hn; replace x_b4 := x_b4.bl hn; replace x_b5 := x_b5.bl hn; replace hb := hb.trans (hn.mono hb.size)
  clear hn; intro K hK
  go_big_op
  go_fit (gNorm_any (PN.mk' (r1.zn Lr1.out) (r2.zn Lr2.out)) (by omega) (by omega) )
  rintro e w_21 ⟨v_f, rfl, f, hb_21⟩
  replace ha1 := ha1.bl hb_21; replace ha2 := ha2.bl hb_21; replace hq1 := hq1.bl hb_21; replace hq2 := hq2.bl hb_21; replace x_b1 := x_b1.bl hb_21; replace x_b2 := x_b2.bl hb_21; replace g := g.bl hb_21; replace x_b3 := x_b3.bl hb_21; replace c1 := c1.bl hb_21; replace c2 := c2.bl hb_21; replace r1 := r1.bl hb_21; replace r2 := r2.bl hb_21; replace x_b4 := x_b4.bl hb_21; replace x_b5 := x_b5.bl hb_21; replace hb := hb.trans (hb_21.mono hb.size)
  obtain ⟨n_f, o_f, k_f, c_f, rfl⟩ := f.open2
  have Lf := hide (f.lenOf (zlen_add (zlen_mul (Lr1.out) (Lr1.out)) (zlen_mul (Lr2.out) (Lr2.out))))
  refine hK _ _ rfl hb_21 ⟨x_b4.cell 0 rfl, x_b4.cell 1 rfl, x_b4.cell 2 rfl, x_b4.cell 3 rfl, x_b2.cell 0 rfl, x_b2.cell 1 rfl, x_b2.cell 2 rfl, x_b2.cell 3 rfl, x_b5.cell 0 rfl, x_b5.cell 1 rfl, x_b5.cell 2 rfl, x_b5.cell 3 rfl, x_b1.cell 0 rfl, x_b1.cell 1 rfl, x_b1.cell 2 rfl, x_b1.cell 3 rfl, x_b3.cell 0 rfl, x_b3.cell 1 rfl⟩ ?_
  clear hK K hb_21
  refine wpFl_call rfl (by kernel_rfl) fun w_22 hn hC => ?_; clear hC
  replace ha1 := ha1.bl hn; replace ha2 := ha2.bl hn; replace hq1 := hq1.bl hn; replace hq2 := hq2.bl hn; replace x_b1 := x_b1.bl hn; replace x_b2 := x_b2.bl hn; replace g := g.bl hn; replace x_b3 := x_b3.bl hn; replace c1 := c1.bl hn; replace c2 := c2.bl hn; replace r1 := r1.bl hn; replace r2 := r2.bl hn; replace x_b4 := x_b4.bl hn; replace x_b5 := x_b5.bl hn; replace f := f.bl hn; replace hb := hb.trans (hn.mono hb.size)
  clear hn; intro K hK
  go_big_op
  go_fit (gNorm_any (PN.mk' (r1.zn Lr1.out) (r2.zn Lr2.out)) (by omega) (by omega) )
  rintro e w_23 ⟨v_i, rfl, i, hb_23⟩
  replace ha1 := ha1.bl hb_23; replace ha2 := ha2.bl hb_23; replace hq1 := hq1.bl hb_23; replace hq2 := hq2.bl hb_23; replace x_b1 := x_b1.bl hb_23; replace x_b2 := x_b2.bl hb_23; replace g := g.bl hb_23; replace x_b3 := x_b3.bl hb_23; replace c1 := c1.bl hb_23; replace c2 := c2.bl hb_23; replace r1 := r1.bl hb_23; replace r2 := r2.bl hb_23; replace x_b4 := x_b4.bl hb_23; replace x_b5 := x_b5.bl hb_23; replace f := f.bl hb_23; replace hb := hb.trans (hb_23.mono hb.size)
  obtain ⟨n_i, o_i, k_i, c_i, rfl⟩ := i.open2
  have Li := hide (i.lenOf (zlen_add (zlen_mul (Lr1.out) (Lr1.out)) (zlen_mul (Lr2.out) (Lr2.out))))
  refine hK _ _ rfl hb_23 ⟨x_b4.cell 0 rfl, x_b4.cell 1 rfl, x_b4.cell 2 rfl, x_b4.cell 3 rfl, x_b2.cell 0 rfl, x_b2.cell 1 rfl, x_b2.cell 2 rfl, x_b2.cell 3 rfl, x_b5.cell 0 rfl, x_b5.cell 1 rfl, x_b5.cell 2 rfl, x_b5.cell 3 rfl, x_b1.cell 0 rfl, x_b1.cell 1 rfl, x_b1.cell 2 rfl, x_b1.cell 3 rfl, x_b3.cell 0 rfl, x_b3.cell 1 rfl⟩ ?_
  clear hK K hb_23
  refine wpFl_call rfl (by kernel_rfl) fun w_24 hn hC => ?_; clear hC
  replace ha1 := ha1.bl hn; replace ha2 := ha2.bl hn; replace hq1 := hq1.bl hn; replace hq2 := hq2.bl hn; replace x_b1 := x_b1.bl hn; replace x_b2 := x_b2.bl hn; replace g := g.bl hn; replace x_b3 := x_b3.bl hn; replace c1 := c1.bl hn; replace c2 := c2.bl hn; replace r1 := r1.bl hn; replace r2 := r2.bl hn; replace x_b4 := x_b4.bl hn; replace x_b5 := x_b5.bl hn; replace f := f.bl hn; replace i := i.bl hn; replace hb := hb.trans (hn.mono hb.size)
  clear hn; intro K hK
  go_big_op
  go_fit (zadd_any (f.zn Lf.out) (i.zn Li.out) (by omega) (by omega) )
  rintro e w_25 ⟨v_j, rfl, j, hb_25⟩
  replace ha1 := ha1.bl hb_25; replace ha2 := ha2.bl hb_25; replace hq1 := hq1.bl hb_25; replace hq2 := hq2.bl hb_25; replace x_b1 := x_b1.bl hb_25; replace x_b2 := x_b2.bl hb_25; replace g := g.bl hb_25; replace x_b3 := x_b3.bl hb_25; replace c1 := c1.bl hb_25; replace c2 := c2.bl hb_25; replace r1 := r1.bl hb_25; replace r2 := r2.bl hb_25; replace x_b4 := x_b4.bl hb_25; replace x_b5 := x_b5.bl hb_25; replace f := f.bl hb_25; replace i := i.bl hb_25; replace hb := hb.trans (hb_25.mono hb.size)
  replace j := j.rd
  obtain ⟨n_j, o_j, k_j, c_j, rfl⟩ := j.open2
  have Lj := hide (j.lenOf (zlen_add (Lf.out) (Li.out)))
  refine hK _ _ rfl hb_25 ⟨x_b4.cell 0 rfl, x_b4.cell 1 rfl, x_b4.cell 2 rfl, x_b4.cell 3 rfl, x_b2.cell 0 rfl, x_b2.cell 1 rfl, x_b2.cell 2 rfl, x_b2.cell 3 rfl, x_b5.cell 0 rfl, x_b5.cell 1 rfl, x_b5.cell 2 rfl, x_b5.cell 3 rfl, x_b1.cell 0 rfl, x_b1.cell 1 rfl, x_b1.cell 2 rfl, x_b1.cell 3 rfl, x_b3.cell 0 rfl, x_b3.cell 1 rfl⟩ ?_
  clear hK K hb_25
  refine wpFl_call rfl (by kernel_rfl) fun w_26 hn hC => ?_; clear hC
  clear f i
  replace ha1 := ha1.bl hn; replace ha2 := ha2.bl hn; replace hq1 := hq1.bl hn; replace hq2 := hq2.bl hn; replace x_b1 := x_b1.bl hn; replace x_b2 := x_b2.bl hn; replace g := g.bl hn; replace x_b3 := x_b3.bl hn; replace c1 := c1.bl hn; replace c2 := c2.bl hn; replace r1 := r1.bl hn; replace r2 := r2.bl hn; replace x_b4 := x_b4.bl hn; replace x_b5 := x_b5.bl hn; replace j := j.bl hn; replace hb := hb.trans (hn.mono hb.size)
  clear hn; intro K hK
  go_big_op
  go_fit (zcmp_any (j.zn Lj.out) (g.zn Lg.out) (by omega) (by omega) )
  rintro e w_27 ⟨rfl, hb_27⟩
  replace ha1 := ha1.bl hb_27; replace ha2 := ha2.bl hb_27; replace hq1 := hq1.bl hb_27; replace hq2 := hq2.bl hb_27; replace x_b1 := x_b1.bl hb_27; replace x_b2 := x_b2.bl hb_27; replace g := g.bl hb_27; replace x_b3 := x_b3.bl hb_27; replace c1 := c1.bl hb_27; replace c2 := c2.bl hb_27; replace r1 := r1.bl hb_27; replace r2 := r2.bl hb_27; replace x_b4 := x_b4.bl hb_27; replace x_b5 := x_b5.bl hb_27; replace j := j.bl hb_27; replace hb := hb.trans (hb_27.mono hb.size)
  rw [HC.out]
  refine hK _ _ rfl hb_27 ⟨x_b4.cell 0 rfl, x_b4.cell 1 rfl, x_b4.cell 2 rfl, x_b4.cell 3 rfl, x_b2.cell 0 rfl, x_b2.cell 1 rfl, x_b2.cell 2 rfl, x_b2.cell 3 rfl, x_b5.cell 0 rfl, x_b5.cell 1 rfl, x_b5.cell 2 rfl, x_b5.cell 3 rfl, x_b1.cell 0 rfl, x_b1.cell 1 rfl, x_b1.cell 2 rfl, x_b1.cell 3 rfl, x_b3.cell 0 rfl, x_b3.cell 1 rfl⟩ ?_
  clear hK K hb_27
  apply wpFl_ld rfl rfl; (case h1 => intro w' hC K hK; go_big_op; exact hK); iterate 4 kernel_rfl
  apply wpFl_ld rfl rfl; (case h1 => intro w' hC K hK; go_big_op; exact hK); iterate 4 kernel_rfl
  apply wpFl_end
  case ha => intro pt; simp only [putF]; rfl
  case h =>
  intro w_28 pt hn hC hF hD
  clear hC
  clear j
  replace ha1 := ha1.bl hn; replace ha2 := ha2.bl hn; replace hq1 := hq1.bl hn; replace hq2 := hq2.bl hn; replace x_b1 := x_b1.bl hn; replace x_b2 := x_b2.bl hn; replace g := g.bl hn; replace x_b3 := x_b3.bl hn; replace c1 := c1.bl hn; replace c2 := c2.bl hn; replace r1 := r1.bl hn; replace r2 := r2.bl hn; replace x_b4 := x_b4.bl hn; replace x_b5 := x_b5.bl hn; replace hb := hb.trans (hn.mono hb.size)
  clear hn
  clear hF hD
  clear pt
  clear kb0 lt_b1 lt_b2 lt_b3 lt_b4 lt_b5
  apply wpTail_end
  refine hK9 _ _ ?_
  refine wp_cond_false (congrArg Value.bool (show _ = false from (by first | rfl | assumption | (simp; done) | exact decide_eq_false (by omega) | omega))) ?_
  refine wp_skip ?_
  refine hK8 _ _ ?_
  refine wp_seq_k ?_
  intro K10 hK10
  refine wp_region_fl2 [(0, false), (1, false), (2, true), (3, true)] [5] [4] (fun j => (.cells #[.bool false, .slice none 0 0, .bool false, .slice none 0 0] 26)) [0, 1, 99, 99, 99, 99] [] (fun w' => w'.cell? ⟨p_b5, 0, none⟩ = some (.bool n_ra) ∧ w'.cell? ⟨p_b5, 1, none⟩ = some (.slice o_ra k_ra c_ra) ∧ w'.cell? ⟨p_b5, 2, none⟩ = some (.bool n_rb) ∧ w'.cell? ⟨p_b5, 3, none⟩ = some (.slice o_rb k_rb c_rb) ∧ w'.cell? ⟨p_b2, 0, none⟩ = some (.bool n_1a) ∧ w'.cell? ⟨p_b2, 1, none⟩ = some (.slice o_1a k_1a c_1a) ∧ w'.cell? ⟨p_b2, 2, none⟩ = some (.bool n_1b) ∧ w'.cell? ⟨p_b2, 3, none⟩ = some (.slice o_1b k_1b c_1b)) [fun w' => w'.cell? ⟨p_b5, 0, none⟩ = some (.bool n_ra) ∧ w'.cell? ⟨p_b5, 1, none⟩ = some (.slice o_ra k_ra c_ra) ∧ w'.cell? ⟨p_b5, 2, none⟩ = some (.bool n_rb) ∧ w'.cell? ⟨p_b5, 3, none⟩ = some (.slice o_rb k_rb c_rb), fun w' => w'.cell? ⟨p_b2, 0, none⟩ = some (.bool n_1a) ∧ w'.cell? ⟨p_b2, 1, none⟩ = some (.slice o_1a k_1a c_1a) ∧ w'.cell? ⟨p_b2, 2, none⟩ = some (.bool n_1b) ∧ w'.cell? ⟨p_b2, 3, none⟩ = some (.slice o_1b k_1b c_1b)] (by kernel_rfl) (by kernel_rfl) (by kernel_rfl) (by kernel_rfl) (by kernel_rfl) (by kernel_rfl) (by kernel_rfl) (by kernel_rfl) (by decide) (by intro j hj; simp only [List.mem_cons, List.not_mem_nil, or_false] at hj; rcases hj with rfl; all_goals exact ⟨_, rfl, rfl, fun ρ w => by unfold ptr; simp [go_sem]⟩) (by intro w' o hC; obtain ⟨c0, c1, c2, c3, c4, c5, c6, c7⟩ := hC; exact ⟨cell_alloc c0 o, cell_alloc c1 o, cell_alloc c2 o, cell_alloc c3 o, cell_alloc c4 o, cell_alloc c5 o, cell_alloc c6 o, cell_alloc c7 o⟩) (by intro w' hC G hG; obtain ⟨c0, c1, c2, c3, c4, c5, c6, c7⟩ := hC; simp only [List.mem_cons, List.not_mem_nil, or_false] at hG; rcases hG with rfl | rfl <;> first | exact ⟨c0, c1, c2, c3⟩ | exact ⟨c4, c5, c6, c7⟩) ?_
  clear ha1 ha2 x_b1 c1 c2 x_b4
  have lt_b2 := x_b2.lt
  have lt_b3 := x_b3.lt
  have lt_b5 := x_b5.lt
  intro w_29 hn
  replace lt_b2 := Nat.lt_of_lt_of_le lt_b2 hn.size
  replace lt_b3 := Nat.lt_of_lt_of_le lt_b3 hn.size
  replace lt_b5 := Nat.lt_of_lt_of_le lt_b5 hn.size
  replace hq1 := hq1.bl hn; replace hq2 := hq2.bl hn; replace x_b2 := x_b2.bl hn; replace g := g.bl hn; replace x_b3 := x_b3.bl hn; replace r1 := r1.bl hn; replace r2 := r2.bl hn; replace x_b5 := x_b5.bl hn; replace hb := hb.trans (hn.mono hb.size)
  clear hn
  have kb0 := hb.size
  refine ⟨⟨x_b5.cell 0 rfl, x_b5.cell 1 rfl, x_b5.cell 2 rfl, x_b5.cell 3 rfl, x_b2.cell 0 rfl, x_b2.cell 1 rfl, x_b2.cell 2 rfl, x_b2.cell 3 rfl⟩, ?_⟩
  apply wpFl_ld rfl rfl; (case h1 => intro w' hC K hK; obtain ⟨c0, c1, c2, c3⟩ := hC; go_big_op; exact hK); iterate 4 kernel_rfl
  apply wpFl_ld rfl rfl; (case h1 => intro w' hC K hK; obtain ⟨c0, c1, c2, c3⟩ := hC; go_big_op; exact hK); iterate 4 kernel_rfl
  refine wpFl_call rfl (by kernel_rfl) fun w_30 hn hC => ?_; clear hC
  replace hq1 := hq1.bl hn; replace hq2 := hq2.bl hn; replace x_b2 := x_b2.bl hn; replace g := g.bl hn; replace x_b3 := x_b3.bl hn; replace r1 := r1.bl hn; replace r2 := r2.bl hn; replace x_b5 := x_b5.bl hn; replace hb := hb.trans (hn.mono hb.size)
  clear hn; intro K hK
  go_big_op
  go_fit (gConj_any (PN.mk' hq1 hq2) (by omega) (by omega) )
  rintro e w_31 ⟨_, rfl, ⟨n_oa, o_oa, k_oa, c_oa, n_ob, o_ob, k_ob, c_ob, rfl, o1, o2⟩, hb_31⟩
  replace hq1 := hq1.bl hb_31; replace hq2 := hq2.bl hb_31; replace x_b2 := x_b2.bl hb_31; replace g := g.bl hb_31; replace x_b3 := x_b3.bl hb_31; replace r1 := r1.bl hb_31; replace r2 := r2.bl hb_31; replace x_b5 := x_b5.bl hb_31; replace hb := hb.trans (hb_31.mono hb.size)
  have Lo1 := hide (o1.lenOf ((hq1.len)))
  have Lo2 := hide (o2.lenOf (zlen_neg (hq2.len)))
  refine hK _ _ rfl hb_31 ⟨x_b5.cell 0 rfl, x_b5.cell 1 rfl, x_b5.cell 2 rfl, x_b5.cell 3 rfl, x_b2.cell 0 rfl, x_b2.cell 1 rfl, x_b2.cell 2 rfl, x_b2.cell 3 rfl⟩ ?_
  clear hK K hb_31
  refine wpFl_call rfl (by kernel_rfl) fun w_32 hn hC => ?_; clear hC
  replace hq1 := hq1.bl hn; replace hq2 := hq2.bl hn; replace x_b2 := x_b2.bl hn; replace g := g.bl hn; replace x_b3 := x_b3.bl hn; replace r1 := r1.bl hn; replace r2 := r2.bl hn; replace x_b5 := x_b5.bl hn; replace o1 := o1.bl hn; replace o2 := o2.bl hn; replace hb := hb.trans (hn.mono hb.size)
  clear hn; intro K hK
  go_big_op
  go_fit (gMul_any (PN.mk' (r1.zn Lr1.out) (r2.zn Lr2.out)) (PN.mk' (o1.zn Lo1.out) (o2.zn Lo2.out)) (by omega) (by omega) (by omega) (by omega) )
  rintro e w_33 ⟨_, rfl, ⟨n_pa, o_pa, k_pa, c_pa, n_pb, o_pb, k_pb, c_pb, rfl, p1, p2⟩, hb_33⟩
  replace hq1 := hq1.bl hb_33; replace hq2 := hq2.bl hb_33; replace x_b2 := x_b2.bl hb_33; replace g := g.bl hb_33; replace x_b3 := x_b3.bl hb_33; replace r1 := r1.bl hb_33; replace r2 := r2.bl hb_33; replace x_b5 := x_b5.bl hb_33; replace o1 := o1.bl hb_33; replace o2 := o2.bl hb_33; replace hb := hb.trans (hb_33.mono hb.size)
  have Lp1 := hide (p1.lenOf (zlen_sub (zlen_mul (Lr1.out) (Lo1.out)) (zlen_mul (Lr2.out) (Lo2.out))))
  have Lp2 := hide (p2.lenOf (zlen_add (zlen_mul (Lr1.out) (Lo2.out)) (zlen_mul (Lr2.out) (Lo1.out))))
  rw [EE.out.1] at p1 Lp1
  rw [EE.out.2] at p2 Lp2
  refine hK _ _ rfl hb_33 ⟨x_b5.cell 0 rfl, x_b5.cell 1 rfl, x_b5.cell 2 rfl, x_b5.cell 3 rfl, x_b2.cell 0 rfl, x_b2.cell 1 rfl, x_b2.cell 2 rfl, x_b2.cell 3 rfl⟩ ?_
  clear hK K hb_33
  apply wpFl_end
  case ha => intro pt; simp only [putF, nthO, Act.put, ptr, List.setIfInBounds_toArray, List.set_cons_succ, List.set_cons_zero]; rfl
  case h =>
  intro w_34 pt hn hC hF hD
  clear hC
  clear o1 o2
  replace hq1 := hq1.bl hn; replace hq2 := hq2.bl hn; replace x_b2 := x_b2.bl hn; replace g := g.bl hn; replace x_b3 := x_b3.bl hn; replace r1 := r1.bl hn; replace r2 := r2.bl hn; replace x_b5 := x_b5.bl hn; replace p1 := p1.bl hn; replace p2 := p2.bl hn; replace hb := hb.trans (hn.mono hb.size)
  clear hn
  obtain ⟨kB_b6, x_b6⟩ := hF 4 (by decide)
  replace x_b6 : Bs w_34 (pt 4) #[.bool false, .slice none 0 0, .bool false, .slice none 0 0] 26 := x_b6
  clear hF hD
  generalize pt 4 = p_b6 at *
  clear pt
  have kb_b6 := hide (Nat.le_trans kb0 kB_b6)
  have ne_b2_b6 : Hid (p_b2 ≠ p_b6) := Nat.ne_of_lt (Nat.lt_of_lt_of_le lt_b2 kB_b6)
  have ne_b3_b6 : Hid (p_b3 ≠ p_b6) := Nat.ne_of_lt (Nat.lt_of_lt_of_le lt_b3 kB_b6)
  have ne_b5_b6 : Hid (p_b5 ≠ p_b6) := Nat.ne_of_lt (Nat.lt_of_lt_of_le lt_b5 kB_b6)
  clear kB_b6
  clear kb0 lt_b2 lt_b3 lt_b5
  refine wpTail_call rfl (by kernel_rfl) fun K hK => ?_
  obtain ⟨d0, d1, d2, d3⟩ := x_b6.f4
  have f0 := x_b6.free 0; have f1 := x_b6.free 1; have f2 := x_b6.free 2; have f3 := x_b6.free 3
  go_big_op
  have hnd := x_b6.nod rfl rfl
  obtain ⟨w_35, eW, x_b6', ho⟩ : ∃ w', ((((w_34.setCell ⟨p_b6, 0, none⟩ (.bool n_pa)).setCell ⟨p_b6, 1, none⟩ (.slice o_pa k_pa c_pa)).setCell ⟨p_b6, 2, none⟩ (.bool n_pb)).setCell ⟨p_b6, 3, none⟩ (.slice o_pb k_pb c_pb)) = w' ∧ Bs w' p_b6 #[.bool n_pa, .slice o_pa k_pa c_pa, .bool n_pb, .slice o_pb k_pb c_pb] 26 ∧ Only p_b6 w_34 w' := x_b6.setN [(0, .bool n_pa), (1, .slice o_pa k_pa c_pa), (2, .bool n_pb), (3, .slice o_pb k_pb c_pb)]
  rw [eW]; clear eW d0 d1 d2 d3 f0 f1 f2 f3 x_b6
  have x_b6 := x_b6'; clear x_b6'
  replace hq1 := hq1.fr hnd ho; replace hq2 := hq2.fr hnd ho; replace x_b2 := x_b2.frame ho ne_b2_b6; replace g := g.fr hnd ho; replace x_b3 := x_b3.frame ho ne_b3_b6; replace r1 := r1.fr hnd ho; replace r2 := r2.fr hnd ho; replace x_b5 := x_b5.frame ho ne_b5_b6; replace p1 := p1.fr hnd ho; replace p2 := p2.fr hnd ho; replace hb := belowOnly hb ho kb_b6
  refine hK _ _ rfl (And.intro ⟨x_b5.cell 0 rfl, x_b5.cell 1 rfl, x_b5.cell 2 rfl, x_b5.cell 3 rfl⟩ (And.intro ⟨x_b2.cell 0 rfl, x_b2.cell 1 rfl, x_b2.cell 2 rfl, x_b2.cell 3 rfl⟩ True.intro)) ?_; clear hK K ho hnd
  apply wpTail_end
  refine hK10 _ _ ?_
  refine wp_seq_k ?_
  intro K11 hK11
  refine wp_region_sq [0, 1, 2, 3] (by kernel_rfl) ?_
  refine wpSq_call rfl (by kernel_rfl) fun K hK => ?_
  obtain ⟨d0, d1⟩ := x_b3.f2
  go_big_op; refine hK _ _ rfl ?_; clear hK K d0 d1
  refine wpSq_call rfl (by kernel_rfl) fun K hK => ?_
  go_big_op
  go_fit (zneg_any (g.zn Lg.out) (by omega) )
  rintro e w_36 ⟨v_q, rfl, q, hb_36⟩
  clear hq1 hq2 x_b2 r1 r2 x_b5
  replace g := g.bl hb_36; replace x_b3 := x_b3.bl hb_36; replace p1 := p1.bl hb_36; replace p2 := p2.bl hb_36; replace x_b6 := x_b6.bl hb_36; replace hb := hb.trans (hb_36.mono hb.size)
  replace q := q.rd
  obtain ⟨n_q, o_q, k_q, c_q, rfl⟩ := q.open2
  have Lq := hide (q.lenOf (zlen_neg (Lg.out)))
  refine hK _ _ rfl ?_
  clear hK K hb_36
  refine wpSq_call rfl (by kernel_rfl) fun K hK => ?_
  go_big_op
  have lt_b3 := x_b3.lt
  have lt_b6 := x_b6.lt
  obtain ⟨p_b7, w_37, eP, eW, x_b7, hn, kb_b7⟩ := newBox w_36 #[.bool false, .slice none 0 0] 24 hb.size
  have ne_b3_b7 : Hid (p_b3 ≠ p_b7) := Nat.ne_of_lt (eP ▸ lt_b3)
  have ne_b6_b7 : Hid (p_b6 ≠ p_b7) := Nat.ne_of_lt (eP ▸ lt_b6)
  rw [eW, eP]
  clear eW eP lt_b3 lt_b6
  replace g := g.bl hn; replace x_b3 := x_b3.bl hn; replace p1 := p1.bl hn; replace p2 := p2.bl hn; replace x_b6 := x_b6.bl hn; replace q := q.bl hn; replace hb := hb.trans (hn.mono hb.size)
  refine hK _ _ rfl ?_; clear hK K hn
  refine wpSq_call rfl (by kernel_rfl) fun K hK => ?_
  obtain ⟨d0, d1⟩ := x_b7.f2
  have f0 := x_b7.free 0; have f1 := x_b7.free 1
  go_big_op
  have hnd := x_b7.nod rfl rfl
  obtain ⟨w_38, eW, x_b7', ho⟩ : ∃ w', ((w_37.setCell ⟨p_b7, 0, none⟩ (.bool n_q)).setCell ⟨p_b7, 1, none⟩ (.slice o_q k_q c_q)) = w' ∧ Bs w' p_b7 #[.bool n_q, .slice o_q k_q c_q] 24 ∧ Only p_b7 w_37 w' := x_b7.setN [(0, .bool n_q), (1, .slice o_q k_q c_q)]
  rw [eW]; clear eW d0 d1 f0 f1 x_b7
  have x_b7 := x_b7'; clear x_b7'
  replace g := g.fr hnd ho; replace x_b3 := x_b3.frame ho ne_b3_b7; replace p1 := p1.fr hnd ho; replace p2 := p2.fr hnd ho; replace x_b6 := x_b6.frame ho ne_b6_b7; replace q := q.fr hnd ho; replace hb := belowOnly hb ho kb_b7
  refine hK _ _ rfl ?_; clear hK K ho hnd
  apply wpSq_end
  refine hK11 _ _ ?_
  refine wp_seq_k ?_
  intro K12 hK12
  refine wp_region_sq [0, 1, 2, 3, 4, 5, 6] (by kernel_rfl) ?_
  refine wpSq_call rfl (by kernel_rfl) fun K hK => ?_
  go_big_op; refine hK _ _ rfl ?_; clear hK K
  refine wpSq_call rfl (by kernel_rfl) fun K hK => ?_
  obtain ⟨d0, d1, d2, d3⟩ := x_b6.f4
  go_big_op; refine hK _ _ rfl ?_; clear hK K d0 d1 d2 d3
  refine wpSq_call rfl (by kernel_rfl) fun K hK => ?_
  go_big_op; refine hK _ _ rfl ?_; clear hK K
  refine wpSq_call rfl (by kernel_rfl) fun K hK => ?_
  obtain ⟨d0, d1, d2, d3⟩ := x_b6.f4
  go_big_op; refine hK _ _ rfl ?_; clear hK K d0 d1 d2 d3
  refine wpSq_call rfl (by kernel_rfl) fun K hK => ?_
  go_big_op
  go_fit (zadd_any (p1.zn Lp1.out) (p1.zn Lp1.out) (by omega) (by omega) )
  rintro e w_39 ⟨v_s, rfl, s, hb_39⟩
  replace g := g.bl hb_39; replace x_b3 := x_b3.bl hb_39; replace p1 := p1.bl hb_39; replace p2 := p2.bl hb_39; replace x_b6 := x_b6.bl hb_39; replace q := q.bl hb_39; replace x_b7 := x_b7.bl hb_39; replace hb := hb.trans (hb_39.mono hb.size)
  replace s := s.rd
  obtain ⟨n_s, o_s, k_s, c_s, rfl⟩ := s.open2
  have Ls := hide (s.lenOf (zlen_add (Lp1.out) (Lp1.out)))
  refine hK _ _ rfl ?_
  clear hK K hb_39
  refine wpSq_call rfl (by kernel_rfl) fun K hK => ?_
  go_big_op
  have lt_b3 := x_b3.lt
  have lt_b6 := x_b6.lt
  have lt_b7 := x_b7.lt
  obtain ⟨p_b8, w_40, eP, eW, x_b8, hn, kb_b8⟩ := newBox w_39 #[.bool false, .slice none 0 0] 24 hb.size
  have ne_b3_b8 : Hid (p_b3 ≠ p_b8) := Nat.ne_of_lt (eP ▸ lt_b3)
  have ne_b6_b8 : Hid (p_b6 ≠ p_b8) := Nat.ne_of_lt (eP ▸ lt_b6)
  have ne_b7_b8 : Hid (p_b7 ≠ p_b8) := Nat.ne_of_lt (eP ▸ lt_b7)
  rw [eW, eP]
  clear eW eP lt_b3 lt_b6 lt_b7
  replace g := g.bl hn; replace x_b3 := x_b3.bl hn; replace p1 := p1.bl hn; replace p2 := p2.bl hn; replace x_b6 := x_b6.bl hn; replace q := q.bl hn; replace x_b7 := x_b7.bl hn; replace s := s.bl hn; replace hb := hb.trans (hn.mono hb.size)
  refine hK _ _ rfl ?_; clear hK K hn
  refine wpSq_call rfl (by kernel_rfl) fun K hK => ?_
  obtain ⟨d0, d1⟩ := x_b8.f2
  have f0 := x_b8.free 0; have f1 := x_b8.free 1
  go_big_op
  have hnd := x_b8.nod rfl rfl
  obtain ⟨w_41, eW, x_b8', ho⟩ : ∃ w', ((w_40.setCell ⟨p_b8, 0, none⟩ (.bool n_s)).setCell ⟨p_b8, 1, none⟩ (.slice o_s k_s c_s)) = w' ∧ Bs w' p_b8 #[.bool n_s, .slice o_s k_s c_s] 24 ∧ Only p_b8 w_40 w' := x_b8.setN [(0, .bool n_s), (1, .slice o_s k_s c_s)]
  rw [eW]; clear eW d0 d1 f0 f1 x_b8
  have x_b8 := x_b8'; clear x_b8'
  replace g := g.fr hnd ho; replace x_b3 := x_b3.frame ho ne_b3_b8; replace p1 := p1.fr hnd ho; replace p2 := p2.fr hnd ho; replace x_b6 := x_b6.frame ho ne_b6_b8; replace q := q.fr hnd ho; replace x_b7 := x_b7.frame ho ne_b7_b8; replace s := s.fr hnd ho; replace hb := belowOnly hb ho kb_b8
  refine hK _ _ rfl ?_; clear hK K ho hnd
  apply wpSq_end
  refine hK12 _ _ ?_
  refine wp_seq_k ?_
  intro K13 hK13
  refine wp_region_sq [0, 1, 2, 3, 4, 5, 6] (by kernel_rfl) ?_
  refine wpSq_call rfl (by kernel_rfl) fun K hK => ?_
  go_big_op; refine hK _ _ rfl ?_; clear hK K
  refine wpSq_call rfl (by kernel_rfl) fun K hK => ?_
  obtain ⟨d0, d1, d2, d3⟩ := x_b6.f4
  go_big_op; refine hK _ _ rfl ?_; clear hK K d0 d1 d2 d3
  refine wpSq_call rfl (by kernel_rfl) fun K hK => ?_
  go_big_op; refine hK _ _ rfl ?_; clear hK K
  refine wpSq_call rfl (by kernel_rfl) fun K hK => ?_
  obtain ⟨d0, d1, d2, d3⟩ := x_b6.f4
  go_big_op; refine hK _ _ rfl ?_; clear hK K d0 d1 d2 d3
  refine wpSq_call rfl (by kernel_rfl) fun K hK => ?_
  go_big_op
  go_fit (zadd_any (p2.zn Lp2.out) (p2.zn Lp2.out) (by omega) (by omega) )
  rintro e w_42 ⟨v_t, rfl, t, hb_42⟩
  clear p1 x_b6
  replace g := g.bl hb_42; replace x_b3 := x_b3.bl hb_42; replace p2 := p2.bl hb_42; replace q := q.bl hb_42; replace x_b7 := x_b7.bl hb_42; replace s := s.bl hb_42; replace x_b8 := x_b8.bl hb_42; replace hb := hb.trans (hb_42.mono hb.size)
  replace t := t.rd
  obtain ⟨n_t, o_t, k_t, c_t, rfl⟩ := t.open2
  have Lt := hide (t.lenOf (zlen_add (Lp2.out) (Lp2.out)))
  refine hK _ _ rfl ?_
  clear hK K hb_42
  refine wpSq_call rfl (by kernel_rfl) fun K hK => ?_
  go_big_op
  clear p2
  have lt_b3 := x_b3.lt
  have lt_b7 := x_b7.lt
  have lt_b8 := x_b8.lt
  obtain ⟨p_b9, w_43, eP, eW, x_b9, hn, kb_b9⟩ := newBox w_42 #[.bool false, .slice none 0 0] 24 hb.size
  have ne_b3_b9 : Hid (p_b3 ≠ p_b9) := Nat.ne_of_lt (eP ▸ lt_b3)
  have ne_b7_b9 : Hid (p_b7 ≠ p_b9) := Nat.ne_of_lt (eP ▸ lt_b7)
  have ne_b8_b9 : Hid (p_b8 ≠ p_b9) := Nat.ne_of_lt (eP ▸ lt_b8)
  rw [eW, eP]
  clear eW eP lt_b3 lt_b7 lt_b8
  replace g := g.bl hn; replace x_b3 := x_b3.bl hn; replace q := q.bl hn; replace x_b7 := x_b7.bl hn; replace s := s.bl hn; replace x_b8 := x_b8.bl hn; replace t := t.bl hn; replace hb := hb.trans (hn.mono hb.size)
  refine hK _ _ rfl ?_; clear hK K hn
  refine wpSq_call rfl (by kernel_rfl) fun K hK => ?_
  obtain ⟨d0, d1⟩ := x_b9.f2
  have f0 := x_b9.free 0; have f1 := x_b9.free 1
  go_big_op
  have hnd := x_b9.nod rfl rfl
  obtain ⟨w_44, eW, x_b9', ho⟩ : ∃ w', ((w_43.setCell ⟨p_b9, 0, none⟩ (.bool n_t)).setCell ⟨p_b9, 1, none⟩ (.slice o_t k_t c_t)) = w' ∧ Bs w' p_b9 #[.bool n_t, .slice o_t k_t c_t] 24 ∧ Only p_b9 w_43 w' := x_b9.setN [(0, .bool n_t), (1, .slice o_t k_t c_t)]
  rw [eW]; clear eW d0 d1 f0 f1 x_b9
  have x_b9 := x_b9'; clear x_b9'
  replace g := g.fr hnd ho; replace x_b3 := x_b3.frame ho ne_b3_b9; replace q := q.fr hnd ho; replace x_b7 := x_b7.frame ho ne_b7_b9; replace s := s.fr hnd ho; replace x_b8 := x_b8.frame ho ne_b8_b9; replace t := t.fr hnd ho; replace hb := belowOnly hb ho kb_b9
  refine hK _ _ rfl ?_; clear hK K ho hnd
  apply wpSq_end
  refine hK13 _ _ ?_
  refine wp_seq_k ?_
  intro K14 hK14
  refine wp_region_sq [0, 1, 2, 3, 4, 5, 6, 7, 8, 9, 10, 11, 12, 13, 14, 15, 16, 17, 18, 19, 20, 21, 22] (by kernel_rfl) ?_
  refine wpSq_call rfl (by kernel_rfl) fun K hK => ?_
  obtain ⟨d0, d1⟩ := x_b8.f2
  go_big_op; refine hK _ _ rfl ?_; clear hK K d0 d1
  refine wpSq_call rfl (by kernel_rfl) fun K hK => ?_
  obtain ⟨d0, d1⟩ := x_b7.f2
  go_big_op; refine hK _ _ rfl ?_; clear hK K d0 d1
  refine wpSq_call rfl (by kernel_rfl) fun K hK => ?_
  go_big_op
  go_fit (zcmp_any (s.zn Ls.out) (q.zn Lq.out) (by omega) (by omega) )
  rintro e w_45 ⟨rfl, hb_45⟩
  replace g := g.bl hb_45; replace x_b3 := x_b3.bl hb_45; replace q := q.bl hb_45; replace x_b7 := x_b7.bl hb_45; replace s := s.bl hb_45; replace x_b8 := x_b8.bl hb_45; replace t := t.bl hb_45; replace x_b9 := x_b9.bl hb_45; replace hb := hb.trans (hb_45.mono hb.size)
  rw [HD1.out]
  refine hK _ _ rfl ?_
  clear hK K hb_45
  refine wpSq_call rfl (by kernel_rfl) fun K hK => ?_
  go_big_op; refine hK _ _ rfl ?_; clear hK K
  refine wpSq_call rfl (by kernel_rfl) fun K hK => ?_
  go_big_move; refine hK _ _ rfl ?_; clear hK K
  refine wpSq_call rfl (by kernel_rfl) fun K hK => ?_
  obtain ⟨d0, d1⟩ := x_b8.f2
  go_big_op; refine hK _ _ rfl ?_; clear hK K d0 d1
  refine wpSq_call rfl (by kernel_rfl) fun K hK => ?_
  obtain ⟨d0, d1⟩ := x_b3.f2
  go_big_op; refine hK _ _ rfl ?_; clear hK K d0 d1
  refine wpSq_call rfl (by kernel_rfl) fun K hK => ?_
  go_big_op
  go_fit (zcmp_any (s.zn Ls.out) (g.zn Lg.out) (by omega) (by omega) )
  rintro e w_46 ⟨rfl, hb_46⟩
  clear x_b8
  replace g := g.bl hb_46; replace x_b3 := x_b3.bl hb_46; replace q := q.bl hb_46; replace x_b7 := x_b7.bl hb_46; replace s := s.bl hb_46; replace t := t.bl hb_46; replace x_b9 := x_b9.bl hb_46; replace hb := hb.trans (hb_46.mono hb.size)
  rw [HD2.out]
  refine hK _ _ rfl ?_
  clear hK K hb_46
  refine wpSq_call rfl (by kernel_rfl) fun K hK => ?_
  go_big_op; refine hK _ _ rfl ?_; clear hK K
  refine wpSq_call rfl (by kernel_rfl) fun K hK => ?_
  go_big_op; refine hK _ _ rfl ?_; clear hK K
  refine wpSq_call rfl (by kernel_rfl) fun K hK => ?_
  go_big_move; refine hK _ _ rfl ?_; clear hK K
  refine wpSq_call rfl (by kernel_rfl) fun K hK => ?_
  obtain ⟨d0, d1⟩ := x_b9.f2
  go_big_op; refine hK _ _ rfl ?_; clear hK K d0 d1
  refine wpSq_call rfl (by kernel_rfl) fun K hK => ?_
  obtain ⟨d0, d1⟩ := x_b7.f2
  go_big_op; refine hK _ _ rfl ?_; clear hK K d0 d1
  refine wpSq_call rfl (by kernel_rfl) fun K hK => ?_
  go_big_op
  go_fit (zcmp_any (t.zn Lt.out) (q.zn Lq.out) (by omega) (by omega) )
  rintro e w_47 ⟨rfl, hb_47⟩
  clear x_b7 s
  replace g := g.bl hb_47; replace x_b3 := x_b3.bl hb_47; replace q := q.bl hb_47; replace t := t.bl hb_47; replace x_b9 := x_b9.bl hb_47; replace hb := hb.trans (hb_47.mono hb.size)
  rw [HD3.out]
  refine hK _ _ rfl ?_
  clear hK K hb_47
  refine wpSq_call rfl (by kernel_rfl) fun K hK => ?_
  go_big_op; refine hK _ _ rfl ?_; clear hK K
  refine wpSq_call rfl (by kernel_rfl) fun K hK => ?_
  go_big_op; refine hK _ _ rfl ?_; clear hK K
  refine wpSq_call rfl (by kernel_rfl) fun K hK => ?_
  go_big_move; refine hK _ _ rfl ?_; clear hK K
  refine wpSq_call rfl (by kernel_rfl) fun K hK => ?_
  obtain ⟨d0, d1⟩ := x_b9.f2
  go_big_op; refine hK _ _ rfl ?_; clear hK K d0 d1
  refine wpSq_call rfl (by kernel_rfl) fun K hK => ?_
  obtain ⟨d0, d1⟩ := x_b3.f2
  go_big_op; refine hK _ _ rfl ?_; clear hK K d0 d1
  refine wpSq_call rfl (by kernel_rfl) fun K hK => ?_
  go_big_op
  go_fit (zcmp_any (t.zn Lt.out) (g.zn Lg.out) (by omega) (by omega) )
  rintro e w_48 ⟨rfl, hb_48⟩
  clear x_b3 q x_b9
  replace g := g.bl hb_48; replace t := t.bl hb_48; replace hb := hb.trans (hb_48.mono hb.size)
  rw [HD4.out]
  refine hK _ _ rfl ?_
  clear hK K hb_48
  refine wpSq_call rfl (by kernel_rfl) fun K hK => ?_
  go_big_op; refine hK _ _ rfl ?_; clear hK K
  refine wpSq_call rfl (by kernel_rfl) fun K hK => ?_
  go_big_op; refine hK _ _ rfl ?_; clear hK K
  refine wpSq_call rfl (by kernel_rfl) fun K hK => ?_
  go_big_move; refine hK _ _ rfl ?_; clear hK K
  apply wpSq_end
  refine hK14 _ _ ?_
  refine wp_ret ?_
  try dsimp only [Exit.then, Exit.inBlock]
  refine bodyPost_ret (v := (.bool true)) (by simp [results, Tryd.results7, go_sem]) rfl ?_
  exact ⟨rfl, hb⟩
end
theorem walk_GintRests (w : World) (n1 : Bool) (s1 : Value) (xs : List Nat) (h1 : Rd w s1 xs) (l1 : xs.length ≤ 1048576) (n2 : Bool) (s2 : Value) (ys : List Nat) (h2 : Rd w s2 ys) (l2 : ys.length ≤ 1048576)
    (n3 : Bool) (s3 : Value) (us : List Nat) (h3 : Rd w s3 us) (l3 : us.length ≤ 1048576) (n4 : Bool) (s4 : Value) (vs : List Nat) (h4 : Rd w s4 vs) (l4 : vs.length ≤ 1048576) (htab : Lib.TabIs Tryd.prog w p10 .u64 Lib.pow10Tab) :
    Calls Tryd.prog 7 #[.agg #[.bool n1, s1, .bool n2, s2], .agg #[.bool n3, s3, .bool n4, s4]] w fun e w' => e = .returned (.bool true) ∧ Below w.heap.size w w' := by
  have ha := PN.of_rd n1 n2 h1 l1 h2 l2
  have hq := PN.of_rd n3 n4 h3 l3 h4 l4
  have r := Nat.le_refl 1048576
  by_cases h0 : gN (zv n3 us) (zv n4 vs) = 0
  · obtain ⟨e1, e2⟩ := gN_zero.1 h0
    rw [e1, e2] at hq; exact grests_zero ha hq r r r r htab
  · exact grests_some ha hq r r r r h0 htab
end Go.Proofs.YtgjainmfilkjmaaDoor
