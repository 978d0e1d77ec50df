/- FracField: the law's walk. -/
import Derived.Test.YtkgbfnmlpajblaaDoorT1ToQ8
namespace Go.Proofs.YtkgbfnmlpajblaaDoor
open Go Go.RowKit Dig
set_option linter.unusedVariables false

theorem fis_low {w : World} {va vb : Value} {p q : Int} (ha : PC w va p q) (hq : PC w vb p q) (h : low p q) (hl : (dig p.natAbs).length ≤ 40000000) (hm : (dig q.natAbs).length ≤ 40000000) :
    Calls Tryd.prog 8 #[va, vb] w fun e w' => e = .returned (.bool true) ∧ Below w.heap.size w w' :=
  fis_any (u := p) (v := q) (by rw [qN_low h, qD_low h]; exact ha) (hq.pn hl hm) (Nat.le_refl _) (Nat.le_refl _) (by have := h.1; omega)
theorem add_facts {x y u v : Int} (hy : y ≠ 0) (hv : v ≠ 0) : ∃ a b, (qN (opAdd (x * v) (u * y)) (y * v) = a ∧ qD (opAdd (x * v) (u * y)) (y * v) = b) ∧ low a b ∧ b ≠ 0 ∧ rv a b = rv x y + rv u v := by
  have h0 := Int.mul_ne_zero hy hv
  have hl := low_q (x := opAdd (x * v) (u * y)) h0
  exact ⟨_, _, ⟨rfl, rfl⟩, hl, by have := hl.1; omega, by rw [rv_low h0, rv_opAdd hy hv]⟩
theorem mul_facts {x y u v : Int} (hy : y ≠ 0) (hv : v ≠ 0) : ∃ a b, (qN (x * u) (y * v) = a ∧ qD (x * u) (y * v) = b) ∧ low a b ∧ b ≠ 0 ∧ rv a b = rv x y * rv u v := by
  have h0 := Int.mul_ne_zero hy hv
  have hl := low_q (x := x * u) h0
  exact ⟨_, _, ⟨rfl, rfl⟩, hl, by have := hl.1; omega, by rw [rv_low h0, rv_mul]⟩
theorem quo_facts {x y u v : Int} (hy : y ≠ 0) (hu : u ≠ 0) : ∃ a b, (qN (x * v) (u * y) = a ∧ qD (x * v) (u * y) = b) ∧ low a b ∧ b ≠ 0 ∧ rv a b = rv x y / rv u v := by
  have h0 := Int.mul_ne_zero hu hy
  have hl := low_q (x := x * v) h0
  exact ⟨_, _, ⟨rfl, rfl⟩, hl, by have := hl.1; omega, by rw [rv_low h0, rv_quo]⟩

section
variable {w : World} {va vb vc : Value} {x y u v p q : Int} {l m k n s t : Nat}
set_option maxHeartbeats 8000000 in
set_option maxRecDepth 20000 in
theorem field_bad1 (ha : PN w va x l 0 m) (hq : PN w vb u k v n) (hc : PN w vc p s q t) (hl : l ≤ 1048576) (hm : m ≤ 1048576) (hk : k ≤ 1048576) (hn : n ≤ 1048576) (hs : s ≤ 1048576) (ht : t ≤ 1048576) (htab : Lib.TabIs Tryd.prog w p10 .u64 Lib.pow10Tab) :
    Calls Tryd.prog 3 #[va, vb, vc] w fun e w' => e = .returned (.bool true) ∧ Below w.heap.size w w' := by
  have htabs := Lib.tabBelow_of_tabIs htab
  obtain ⟨n_0a, o_0a, k_0a, c_0a, n_0b, o_0b, k_0b, c_0b, rfl, ha1, ha2⟩ := ha
  obtain ⟨n_1a, o_1a, k_1a, c_1a, n_1b, o_1b, k_1b, c_1b, rfl, hq1, hq2⟩ := hq
  obtain ⟨n_2a, o_2a, k_2a, c_2a, n_2b, o_2b, k_2b, c_2b, rfl, hc1, hc2⟩ := hc
  go_enter Tryd.func3, Tryd.ntmps3
  have hb := Below.refl w.heap.size w
  refine wp_seq_k ?_
  intro K1 hK1
  refine wp_region_sq [0, 1, 2, 3] (by kernel_rfl) ?_
  refine wpSq_call rfl (by kernel_rfl) fun K hK => ?_
  go_big_op
  obtain ⟨p_b1, w_1, eP, eW, x_b1, hn, kb_b1⟩ := newBox w #[.bool n_0a, .slice o_0a k_0a c_0a, .bool n_0b, .slice o_0b k_0b c_0b] 26 hb.size
  rw [eW, eP]
  clear eW eP
  replace ha1 := ha1.bl hn; replace ha2 := ha2.bl hn; replace hq1 := hq1.bl hn; replace hq2 := hq2.bl hn; replace hc1 := hc1.bl hn; replace hc2 := hc2.bl hn; replace hb := hb.trans (hn.mono hb.size)
  refine hK _ _ rfl ?_; clear hK K hn
  refine wpSq_call rfl (by kernel_rfl) fun K hK => ?_
  go_big_op
  have lt_b1 := x_b1.lt
  obtain ⟨p_b2, w_2, eP, eW, x_b2, hn, kb_b2⟩ := newBox w_1 #[.bool n_1a, .slice o_1a k_1a c_1a, .bool n_1b, .slice o_1b k_1b c_1b] 26 hb.size
  have ne_b1_b2 : Hid (p_b1 ≠ p_b2) := Nat.ne_of_lt (eP ▸ lt_b1)
  rw [eW, eP]
  clear eW eP lt_b1
  replace ha1 := ha1.bl hn; replace ha2 := ha2.bl hn; replace hq1 := hq1.bl hn; replace hq2 := hq2.bl hn; replace hc1 := hc1.bl hn; replace hc2 := hc2.bl hn; replace x_b1 := x_b1.bl hn; replace hb := hb.trans (hn.mono hb.size)
  refine hK _ _ rfl ?_; clear hK K hn
  refine wpSq_call rfl (by kernel_rfl) fun K hK => ?_
  go_big_op
  have lt_b1 := x_b1.lt
  have lt_b2 := x_b2.lt
  obtain ⟨p_b3, w_3, eP, eW, x_b3, hn, kb_b3⟩ := newBox w_2 #[.bool n_2a, .slice o_2a k_2a c_2a, .bool n_2b, .slice o_2b k_2b c_2b] 26 hb.size
  have ne_b1_b3 : Hid (p_b1 ≠ p_b3) := Nat.ne_of_lt (eP ▸ lt_b1)
  have ne_b2_b3 : Hid (p_b2 ≠ p_b3) := Nat.ne_of_lt (eP ▸ lt_b2)
  rw [eW, eP]
  clear eW eP lt_b1 lt_b2
  replace ha1 := ha1.bl hn; replace ha2 := ha2.bl hn; replace hq1 := hq1.bl hn; replace hq2 := hq2.bl hn; replace hc1 := hc1.bl hn; replace hc2 := hc2.bl hn; replace x_b1 := x_b1.bl hn; replace x_b2 := x_b2.bl hn; replace hb := hb.trans (hn.mono hb.size)
  refine hK _ _ rfl ?_; clear hK K hn
  refine wpSq_call rfl (by kernel_rfl) fun K hK => ?_
  go_big_move; refine hK _ _ rfl ?_; clear hK K
  apply wpSq_end
  refine hK1 _ _ ?_
  refine wp_seq_k ?_
  intro K2 hK2
  refine wp_seq_k ?_
  intro K3 hK3
  refine wp_region_sq [0, 1] (by kernel_rfl) ?_
  refine wpSq_call rfl (by kernel_rfl) fun K hK => ?_
  go_big_op
  go_fit (fawake_any _ (htabs _ hb))
  rintro e w_4 ⟨rfl, hb_4⟩
  replace ha1 := ha1.bl hb_4; replace ha2 := ha2.bl hb_4; replace hq1 := hq1.bl hb_4; replace hq2 := hq2.bl hb_4; replace hc1 := hc1.bl hb_4; replace hc2 := hc2.bl hb_4; replace x_b1 := x_b1.bl hb_4; replace x_b2 := x_b2.bl hb_4; replace x_b3 := x_b3.bl hb_4; replace hb := hb.trans (hb_4.mono hb.size)
  refine hK _ _ rfl ?_
  clear hK K hb_4
  refine wpSq_call rfl (by kernel_rfl) fun K hK => ?_
  go_big_op; refine hK _ _ rfl ?_; clear hK K
  apply wpSq_end
  refine hK3 _ _ ?_
  refine wp_cond_false (congrArg Value.bool (show _ = false from (by first | rfl | assumption | (simp; done) | exact decide_eq_false (by omega) | omega))) ?_
  refine wp_skip ?_
  refine hK2 _ _ ?_
  refine wp_seq_k ?_
  intro K4 hK4
  refine wp_seq_k ?_
  intro K5 hK5
  refine wp_region_sq [0, 1, 2, 3, 4, 5, 6, 7, 8, 9] (by kernel_rfl) ?_
  refine wpSq_call rfl (by kernel_rfl) fun K hK => ?_
  obtain ⟨d0, d1, d2, d3⟩ := x_b1.f4
  go_big_op; refine hK _ _ rfl ?_; clear hK K d0 d1 d2 d3
  refine wpSq_call rfl (by kernel_rfl) fun K hK => ?_
  go_big_op
  go_fit (rbad_yes (PN.mk' ha1 ha2) (by omega) (by omega) )
  rintro e w_5 ⟨rfl, hb_5⟩
  replace ha1 := ha1.bl hb_5; replace ha2 := ha2.bl hb_5; replace hq1 := hq1.bl hb_5; replace hq2 := hq2.bl hb_5; replace hc1 := hc1.bl hb_5; replace hc2 := hc2.bl hb_5; replace x_b1 := x_b1.bl hb_5; replace x_b2 := x_b2.bl hb_5; replace x_b3 := x_b3.bl hb_5; replace hb := hb.trans (hb_5.mono hb.size)
  refine hK _ _ rfl ?_
  clear hK K hb_5
  refine wpSq_call rfl (by kernel_rfl) fun K hK => ?_
  go_big_move; refine hK _ _ rfl ?_; clear hK K
  apply wpSq_skip
  case hi => rfl
  case hw => kernel_rfl
  case hp => unfold Act.put; simp only [List.setIfInBounds_toArray, List.set_cons_succ, List.set_cons_zero]; rfl
  apply wpSq_skip
  case hi => rfl
  case hw => kernel_rfl
  case hp => unfold Act.put; simp only [List.setIfInBounds_toArray, List.set_cons_succ, List.set_cons_zero]; rfl
  refine wpSq_call rfl (by kernel_rfl) fun K hK => ?_
  go_big_op; refine hK _ _ rfl ?_; clear hK K
  refine wpSq_call rfl (by kernel_rfl) fun K hK => ?_
  go_big_move; refine hK _ _ rfl ?_; clear hK K
  apply wpSq_skip
  case hi => rfl
  case hw => kernel_rfl
  case hp => unfold Act.put; simp only [List.setIfInBounds_toArray, List.set_cons_succ, List.set_cons_zero]; rfl
  apply wpSq_skip
  case hi => rfl
  case hw => kernel_rfl
  case hp => unfold Act.put; simp only [List.setIfInBounds_toArray, List.set_cons_succ, List.set_cons_zero]; rfl
  refine wpSq_call rfl (by kernel_rfl) fun K hK => ?_
  go_big_op; refine hK _ _ rfl ?_; clear hK K
  apply wpSq_end
  refine hK5 _ _ ?_
  refine wp_cond_true (congrArg Value.bool (show _ = true from (by first | rfl | assumption | (simp; done) | exact decide_eq_true (by omega) | omega))) ?_
  refine wp_seq_k ?_
  intro K6 hK6
  refine wp_region_sq [0] (by kernel_rfl) ?_
  refine wpSq_call rfl (by kernel_rfl) fun K hK => ?_
  go_big_move; refine hK _ _ rfl ?_; clear hK K
  apply wpSq_end
  refine hK6 _ _ ?_
  refine wp_ret ?_
  try dsimp only [Exit.then, Exit.inBlock]
  refine bodyPost_ret (v := (.bool true)) (by simp [results, Tryd.results3, go_sem]) rfl ?_
  exact ⟨rfl, hb⟩
set_option maxHeartbeats 8000000 in
set_option maxRecDepth 20000 in
theorem field_bad2 (ha : PN w va x l y m) (hq : PN w vb u k 0 n) (hc : PN w vc p s q t) (hl : l ≤ 1048576) (hm : m ≤ 1048576) (hk : k ≤ 1048576) (hn : n ≤ 1048576) (hs : s ≤ 1048576) (ht : t ≤ 1048576) (hy : y ≠ 0) (htab : Lib.TabIs Tryd.prog w p10 .u64 Lib.pow10Tab) :
    Calls Tryd.prog 3 #[va, vb, vc] w fun e w' => e = .returned (.bool true) ∧ Below w.heap.size w w' := by
  have htabs := Lib.tabBelow_of_tabIs htab
  have HY := hide hy
  clear hy
  obtain ⟨n_0a, o_0a, k_0a, c_0a, n_0b, o_0b, k_0b, c_0b, rfl, ha1, ha2⟩ := ha
  obtain ⟨n_1a, o_1a, k_1a, c_1a, n_1b, o_1b, k_1b, c_1b, rfl, hq1, hq2⟩ := hq
  obtain ⟨n_2a, o_2a, k_2a, c_2a, n_2b, o_2b, k_2b, c_2b, rfl, hc1, hc2⟩ := hc
  go_enter Tryd.func3, Tryd.ntmps3
  have hb := Below.refl w.heap.size w
  refine wp_seq_k ?_
  intro K1 hK1
  refine wp_region_sq [0, 1, 2, 3] (by kernel_rfl) ?_
  refine wpSq_call rfl (by kernel_rfl) fun K hK => ?_
  go_big_op
  obtain ⟨p_b1, w_1, eP, eW, x_b1, hn, kb_b1⟩ := newBox w #[.bool n_0a, .slice o_0a k_0a c_0a, .bool n_0b, .slice o_0b k_0b c_0b] 26 hb.size
  rw [eW, eP]
  clear eW eP
  replace ha1 := ha1.bl hn; replace ha2 := ha2.bl hn; replace hq1 := hq1.bl hn; replace hq2 := hq2.bl hn; replace hc1 := hc1.bl hn; replace hc2 := hc2.bl hn; replace hb := hb.trans (hn.mono hb.size)
  refine hK _ _ rfl ?_; clear hK K hn
  refine wpSq_call rfl (by kernel_rfl) fun K hK => ?_
  go_big_op
  have lt_b1 := x_b1.lt
  obtain ⟨p_b2, w_2, eP, eW, x_b2, hn, kb_b2⟩ := newBox w_1 #[.bool n_1a, .slice o_1a k_1a c_1a, .bool n_1b, .slice o_1b k_1b c_1b] 26 hb.size
  have ne_b1_b2 : Hid (p_b1 ≠ p_b2) := Nat.ne_of_lt (eP ▸ lt_b1)
  rw [eW, eP]
  clear eW eP lt_b1
  replace ha1 := ha1.bl hn; replace ha2 := ha2.bl hn; replace hq1 := hq1.bl hn; replace hq2 := hq2.bl hn; replace hc1 := hc1.bl hn; replace hc2 := hc2.bl hn; replace x_b1 := x_b1.bl hn; replace hb := hb.trans (hn.mono hb.size)
  refine hK _ _ rfl ?_; clear hK K hn
  refine wpSq_call rfl (by kernel_rfl) fun K hK => ?_
  go_big_op
  have lt_b1 := x_b1.lt
  have lt_b2 := x_b2.lt
  obtain ⟨p_b3, w_3, eP, eW, x_b3, hn, kb_b3⟩ := newBox w_2 #[.bool n_2a, .slice o_2a k_2a c_2a, .bool n_2b, .slice o_2b k_2b c_2b] 26 hb.size
  have ne_b1_b3 : Hid (p_b1 ≠ p_b3) := Nat.ne_of_lt (eP ▸ lt_b1)
  have ne_b2_b3 : Hid (p_b2 ≠ p_b3) := Nat.ne_of_lt (eP ▸ lt_b2)
  rw [eW, eP]
  clear eW eP lt_b1 lt_b2
  replace ha1 := ha1.bl hn; replace ha2 := ha2.bl hn; replace hq1 := hq1.bl hn; replace hq2 := hq2.bl hn; replace hc1 := hc1.bl hn; replace hc2 := hc2.bl hn; replace x_b1 := x_b1.bl hn; replace x_b2 := x_b2.bl hn; replace hb := hb.trans (hn.mono hb.size)
  refine hK _ _ rfl ?_; clear hK K hn
  refine wpSq_call rfl (by kernel_rfl) fun K hK => ?_
  go_big_move; refine hK _ _ rfl ?_; clear hK K
  apply wpSq_end
  refine hK1 _ _ ?_
  refine wp_seq_k ?_
  intro K2 hK2
  refine wp_seq_k ?_
  intro K3 hK3
  refine wp_region_sq [0, 1] (by kernel_rfl) ?_
  refine wpSq_call rfl (by kernel_rfl) fun K hK => ?_
  go_big_op
  go_fit (fawake_any _ (htabs _ hb))
  rintro e w_4 ⟨rfl, hb_4⟩
  replace ha1 := ha1.bl hb_4; replace ha2 := ha2.bl hb_4; replace hq1 := hq1.bl hb_4; replace hq2 := hq2.bl hb_4; replace hc1 := hc1.bl hb_4; replace hc2 := hc2.bl hb_4; replace x_b1 := x_b1.bl hb_4; replace x_b2 := x_b2.bl hb_4; replace x_b3 := x_b3.bl hb_4; replace hb := hb.trans (hb_4.mono hb.size)
  refine hK _ _ rfl ?_
  clear hK K hb_4
  refine wpSq_call rfl (by kernel_rfl) fun K hK => ?_
  go_big_op; refine hK _ _ rfl ?_; clear hK K
  apply wpSq_end
  refine hK3 _ _ ?_
  refine wp_cond_false (congrArg Value.bool (show _ = false from (by first | rfl | assumption | (simp; done) | exact decide_eq_false (by omega) | omega))) ?_
  refine wp_skip ?_
  refine hK2 _ _ ?_
  refine wp_seq_k ?_
  intro K4 hK4
  refine wp_seq_k ?_
  intro K5 hK5
  refine wp_region_sq [0, 1, 2, 3, 4, 5, 6, 7, 8, 9] (by kernel_rfl) ?_
  refine wpSq_call rfl (by kernel_rfl) fun K hK => ?_
  obtain ⟨d0, d1, d2, d3⟩ := x_b1.f4
  go_big_op; refine hK _ _ rfl ?_; clear hK K d0 d1 d2 d3
  refine wpSq_call rfl (by kernel_rfl) fun K hK => ?_
  go_big_op
  go_fit (rbad_no (PN.mk' ha1 ha2) (by omega) (by omega) HY.out)
  rintro e w_5 ⟨rfl, hb_5⟩
  replace ha1 := ha1.bl hb_5; replace ha2 := ha2.bl hb_5; replace hq1 := hq1.bl hb_5; replace hq2 := hq2.bl hb_5; replace hc1 := hc1.bl hb_5; replace hc2 := hc2.bl hb_5; replace x_b1 := x_b1.bl hb_5; replace x_b2 := x_b2.bl hb_5; replace x_b3 := x_b3.bl hb_5; replace hb := hb.trans (hb_5.mono hb.size)
  refine hK _ _ rfl ?_
  clear hK K hb_5
  refine wpSq_call rfl (by kernel_rfl) fun K hK => ?_
  go_big_move; refine hK _ _ rfl ?_; clear hK K
  refine wpSq_call rfl (by kernel_rfl) fun K hK => ?_
  obtain ⟨d0, d1, d2, d3⟩ := x_b2.f4
  go_big_op; refine hK _ _ rfl ?_; clear hK K d0 d1 d2 d3
  refine wpSq_call rfl (by kernel_rfl) fun K hK => ?_
  go_big_op
  go_fit (rbad_yes (PN.mk' hq1 hq2) (by omega) (by omega) )
  rintro e w_6 ⟨rfl, hb_6⟩
  replace ha1 := ha1.bl hb_6; replace ha2 := ha2.bl hb_6; replace hq1 := hq1.bl hb_6; replace hq2 := hq2.bl hb_6; replace hc1 := hc1.bl hb_6; replace hc2 := hc2.bl hb_6; replace x_b1 := x_b1.bl hb_6; replace x_b2 := x_b2.bl hb_6; replace x_b3 := x_b3.bl hb_6; replace hb := hb.trans (hb_6.mono hb.size)
  refine hK _ _ rfl ?_
  clear hK K hb_6
  refine wpSq_call rfl (by kernel_rfl) fun K hK => ?_
  go_big_op; refine hK _ _ rfl ?_; clear hK K
  refine wpSq_call rfl (by kernel_rfl) fun K hK => ?_
  go_big_move; refine hK _ _ rfl ?_; clear hK K
  apply wpSq_skip
  case hi => rfl
  case hw => kernel_rfl
  case hp => unfold Act.put; simp only [List.setIfInBounds_toArray, List.set_cons_succ, List.set_cons_zero]; rfl
  apply wpSq_skip
  case hi => rfl
  case hw => kernel_rfl
  case hp => unfold Act.put; simp only [List.setIfInBounds_toArray, List.set_cons_succ, List.set_cons_zero]; rfl
  refine wpSq_call rfl (by kernel_rfl) fun K hK => ?_
  go_big_op; refine hK _ _ rfl ?_; clear hK K
  apply wpSq_end
  refine hK5 _ _ ?_
  refine wp_cond_true (congrArg Value.bool (show _ = true from (by first | rfl | assumption | (simp; done) | exact decide_eq_true (by omega) | omega))) ?_
  refine wp_seq_k ?_
  intro K6 hK6
  refine wp_region_sq [0] (by kernel_rfl) ?_
  refine wpSq_call rfl (by kernel_rfl) fun K hK => ?_
  go_big_move; refine hK _ _ rfl ?_; clear hK K
  apply wpSq_end
  refine hK6 _ _ ?_
  refine wp_ret ?_
  try dsimp only [Exit.then, Exit.inBlock]
  refine bodyPost_ret (v := (.bool true)) (by simp [results, Tryd.results3, go_sem]) rfl ?_
  exact ⟨rfl, hb⟩
set_option maxHeartbeats 8000000 in
set_option maxRecDepth 20000 in
theorem field_bad3 (ha : PN w va x l y m) (hq : PN w vb u k v n) (hc : PN w vc p s 0 t) (hl : l ≤ 1048576) (hm : m ≤ 1048576) (hk : k ≤ 1048576) (hn : n ≤ 1048576) (hs : s ≤ 1048576) (ht : t ≤ 1048576) (hy : y ≠ 0) (hv : v ≠ 0) (htab : Lib.TabIs Tryd.prog w p10 .u64 Lib.pow10Tab) :
    Calls Tryd.prog 3 #[va, vb, vc] w fun e w' => e = .returned (.bool true) ∧ Below w.heap.size w w' := by
  have htabs := Lib.tabBelow_of_tabIs htab
  have HY := hide hy
  have HV := hide hv
  clear hy hv
  obtain ⟨n_0a, o_0a, k_0a, c_0a, n_0b, o_0b, k_0b, c_0b, rfl, ha1, ha2⟩ := ha
  obtain ⟨n_1a, o_1a, k_1a, c_1a, n_1b, o_1b, k_1b, c_1b, rfl, hq1, hq2⟩ := hq
  obtain ⟨n_2a, o_2a, k_2a, c_2a, n_2b, o_2b, k_2b, c_2b, rfl, hc1, hc2⟩ := hc
  go_enter Tryd.func3, Tryd.ntmps3
  have hb := Below.refl w.heap.size w
  refine wp_seq_k ?_
  intro K1 hK1
  refine wp_region_sq [0, 1, 2, 3] (by kernel_rfl) ?_
  refine wpSq_call rfl (by kernel_rfl) fun K hK => ?_
  go_big_op
  obtain ⟨p_b1, w_1, eP, eW, x_b1, hn, kb_b1⟩ := newBox w #[.bool n_0a, .slice o_0a k_0a c_0a, .bool n_0b, .slice o_0b k_0b c_0b] 26 hb.size
  rw [eW, eP]
  clear eW eP
  replace ha1 := ha1.bl hn; replace ha2 := ha2.bl hn; replace hq1 := hq1.bl hn; replace hq2 := hq2.bl hn; replace hc1 := hc1.bl hn; replace hc2 := hc2.bl hn; replace hb := hb.trans (hn.mono hb.size)
  refine hK _ _ rfl ?_; clear hK K hn
  refine wpSq_call rfl (by kernel_rfl) fun K hK => ?_
  go_big_op
  have lt_b1 := x_b1.lt
  obtain ⟨p_b2, w_2, eP, eW, x_b2, hn, kb_b2⟩ := newBox w_1 #[.bool n_1a, .slice o_1a k_1a c_1a, .bool n_1b, .slice o_1b k_1b c_1b] 26 hb.size
  have ne_b1_b2 : Hid (p_b1 ≠ p_b2) := Nat.ne_of_lt (eP ▸ lt_b1)
  rw [eW, eP]
  clear eW eP lt_b1
  replace ha1 := ha1.bl hn; replace ha2 := ha2.bl hn; replace hq1 := hq1.bl hn; replace hq2 := hq2.bl hn; replace hc1 := hc1.bl hn; replace hc2 := hc2.bl hn; replace x_b1 := x_b1.bl hn; replace hb := hb.trans (hn.mono hb.size)
  refine hK _ _ rfl ?_; clear hK K hn
  refine wpSq_call rfl (by kernel_rfl) fun K hK => ?_
  go_big_op
  have lt_b1 := x_b1.lt
  have lt_b2 := x_b2.lt
  obtain ⟨p_b3, w_3, eP, eW, x_b3, hn, kb_b3⟩ := newBox w_2 #[.bool n_2a, .slice o_2a k_2a c_2a, .bool n_2b, .slice o_2b k_2b c_2b] 26 hb.size
  have ne_b1_b3 : Hid (p_b1 ≠ p_b3) := Nat.ne_of_lt (eP ▸ lt_b1)
  have ne_b2_b3 : Hid (p_b2 ≠ p_b3) := Nat.ne_of_lt (eP ▸ lt_b2)
  rw [eW, eP]
  clear eW eP lt_b1 lt_b2
  replace ha1 := ha1.bl hn; replace ha2 := ha2.bl hn; replace hq1 := hq1.bl hn; replace hq2 := hq2.bl hn; replace hc1 := hc1.bl hn; replace hc2 := hc2.bl hn; replace x_b1 := x_b1.bl hn; replace x_b2 := x_b2.bl hn; replace hb := hb.trans (hn.mono hb.size)
  refine hK _ _ rfl ?_; clear hK K hn
  refine wpSq_call rfl (by kernel_rfl) fun K hK => ?_
  go_big_move; refine hK _ _ rfl ?_; clear hK K
  apply wpSq_end
  refine hK1 _ _ ?_
  refine wp_seq_k ?_
  intro K2 hK2
  refine wp_seq_k ?_
  intro K3 hK3
  refine wp_region_sq [0, 1] (by kernel_rfl) ?_
  refine wpSq_call rfl (by kernel_rfl) fun K hK => ?_
  go_big_op
  go_fit (fawake_any _ (htabs _ hb))
  rintro e w_4 ⟨rfl, hb_4⟩
  replace ha1 := ha1.bl hb_4; replace ha2 := ha2.bl hb_4; replace hq1 := hq1.bl hb_4; replace hq2 := hq2.bl hb_4; replace hc1 := hc1.bl hb_4; replace hc2 := hc2.bl hb_4; replace x_b1 := x_b1.bl hb_4; replace x_b2 := x_b2.bl hb_4; replace x_b3 := x_b3.bl hb_4; replace hb := hb.trans (hb_4.mono hb.size)
  refine hK _ _ rfl ?_
  clear hK K hb_4
  refine wpSq_call rfl (by kernel_rfl) fun K hK => ?_
  go_big_op; refine hK _ _ rfl ?_; clear hK K
  apply wpSq_end
  refine hK3 _ _ ?_
  refine wp_cond_false (congrArg Value.bool (show _ = false from (by first | rfl | assumption | (simp; done) | exact decide_eq_false (by omega) | omega))) ?_
  refine wp_skip ?_
  refine hK2 _ _ ?_
  refine wp_seq_k ?_
  intro K4 hK4
  refine wp_seq_k ?_
  intro K5 hK5
  refine wp_region_sq [0, 1, 2, 3, 4, 5, 6, 7, 8, 9] (by kernel_rfl) ?_
  refine wpSq_call rfl (by kernel_rfl) fun K hK => ?_
  obtain ⟨d0, d1, d2, d3⟩ := x_b1.f4
  go_big_op; refine hK _ _ rfl ?_; clear hK K d0 d1 d2 d3
  refine wpSq_call rfl (by kernel_rfl) fun K hK => ?_
  go_big_op
  go_fit (rbad_no (PN.mk' ha1 ha2) (by omega) (by omega) HY.out)
  rintro e w_5 ⟨rfl, hb_5⟩
  replace ha1 := ha1.bl hb_5; replace ha2 := ha2.bl hb_5; replace hq1 := hq1.bl hb_5; replace hq2 := hq2.bl hb_5; replace hc1 := hc1.bl hb_5; replace hc2 := hc2.bl hb_5; replace x_b1 := x_b1.bl hb_5; replace x_b2 := x_b2.bl hb_5; replace x_b3 := x_b3.bl hb_5; replace hb := hb.trans (hb_5.mono hb.size)
  refine hK _ _ rfl ?_
  clear hK K hb_5
  refine wpSq_call rfl (by kernel_rfl) fun K hK => ?_
  go_big_move; refine hK _ _ rfl ?_; clear hK K
  refine wpSq_call rfl (by kernel_rfl) fun K hK => ?_
  obtain ⟨d0, d1, d2, d3⟩ := x_b2.f4
  go_big_op; refine hK _ _ rfl ?_; clear hK K d0 d1 d2 d3
  refine wpSq_call rfl (by kernel_rfl) fun K hK => ?_
  go_big_op
  go_fit (rbad_no (PN.mk' hq1 hq2) (by omega) (by omega) HV.out)
  rintro e w_6 ⟨rfl, hb_6⟩
  replace ha1 := ha1.bl hb_6; replace ha2 := ha2.bl hb_6; replace hq1 := hq1.bl hb_6; replace hq2 := hq2.bl hb_6; replace hc1 := hc1.bl hb_6; replace hc2 := hc2.bl hb_6; replace x_b1 := x_b1.bl hb_6; replace x_b2 := x_b2.bl hb_6; replace x_b3 := x_b3.bl hb_6; replace hb := hb.trans (hb_6.mono hb.size)
  refine hK _ _ rfl ?_
  clear hK K hb_6
  refine wpSq_call rfl (by kernel_rfl) fun K hK => ?_
  go_big_op; refine hK _ _ rfl ?_; clear hK K
  refine wpSq_call rfl (by kernel_rfl) fun K hK => ?_
  go_big_move; refine hK _ _ rfl ?_; clear hK K
  refine wpSq_call rfl (by kernel_rfl) fun K hK => ?_
  obtain ⟨d0, d1, d2, d3⟩ := x_b3.f4
  go_big_op; refine hK _ _ rfl ?_; clear hK K d0 d1 d2 d3
  refine wpSq_call rfl (by kernel_rfl) fun K hK => ?_
  go_big_op
  go_fit (rbad_yes (PN.mk' hc1 hc2) (by omega) (by omega) )
  rintro e w_7 ⟨rfl, hb_7⟩
  replace ha1 := ha1.bl hb_7; replace ha2 := ha2.bl hb_7; replace hq1 := hq1.bl hb_7; replace hq2 := hq2.bl hb_7; replace hc1 := hc1.bl hb_7; replace hc2 := hc2.bl hb_7; replace x_b1 := x_b1.bl hb_7; replace x_b2 := x_b2.bl hb_7; replace x_b3 := x_b3.bl hb_7; replace hb := hb.trans (hb_7.mono hb.size)
  refine hK _ _ rfl ?_
  clear hK K hb_7
  refine wpSq_call rfl (by kernel_rfl) fun K hK => ?_
  go_big_op; refine hK _ _ rfl ?_; clear hK K
  apply wpSq_end
  refine hK5 _ _ ?_
  refine wp_cond_true (congrArg Value.bool (show _ = true from (by first | rfl | assumption | (simp; done) | exact decide_eq_true (by omega) | omega))) ?_
  refine wp_seq_k ?_
  intro K6 hK6
  refine wp_region_sq [0] (by kernel_rfl) ?_
  refine wpSq_call rfl (by kernel_rfl) fun K hK => ?_
  go_big_move; refine hK _ _ rfl ?_; clear hK K
  apply wpSq_end
  refine hK6 _ _ ?_
  refine wp_ret ?_
  try dsimp only [Exit.then, Exit.inBlock]
  refine bodyPost_ret (v := (.bool true)) (by simp [results, Tryd.results3, go_sem]) rfl ?_
  exact ⟨rfl, hb⟩
set_option maxHeartbeats 8000000 in
set_option maxRecDepth 20000 in
theorem field_zero (ha : PN w va x l y m) (hq : PN w vb 0 k v n) (hc : PN w vc p s q t) (hl : l ≤ 1048576) (hm : m ≤ 1048576) (hk : k ≤ 1048576) (hn : n ≤ 1048576) (hs : s ≤ 1048576) (ht : t ≤ 1048576) (hy : y ≠ 0) (hv : v ≠ 0) (hq0 : q ≠ 0) (htab : Lib.TabIs Tryd.prog w p10 .u64 Lib.pow10Tab) :
    Calls Tryd.prog 3 #[va, vb, vc] w fun e w' => e = .returned (.bool true) ∧ Below w.heap.size w w' := by
  have htabs := Lib.tabBelow_of_tabIs htab
  obtain ⟨S1, S2, hS, lS, nS, rS⟩ := add_facts (x := 0) (u := p) hv hq0
  obtain ⟨L1, L2, hL, lL, nL, rL⟩ := mul_facts (x := x) (u := S1) hy nS
  obtain ⟨P1, P2, hP, lP, nP, rP⟩ := mul_facts (x := x) (u := 0) hy hv
  obtain ⟨R1, R2, hR, lR, nR, rR⟩ := mul_facts (x := x) (u := p) hy hq0
  obtain ⟨T1, T2, hT, lT, nT, rT⟩ := add_facts (x := P1) (u := R1) nP nR
  have hLT : L1 = T1 ∧ L2 = T2 := low_rv lL lT (by rw [rL, rT, rS, rP, rR]; grind)
  obtain ⟨X1, X2, hX, lX, nX, rX⟩ := add_facts (x := x) (u := p) hy hq0
  have hCX : qcmp X1 X2 S1 S2 = qcmp x y 0 v := by rw [qcmp_rv nX nS, rX, rS, rcmp_add, ← qcmp_rv hy hv]
  have hCK : qcmp 0 v x y = -qcmp x y 0 v := by rw [qcmp_rv hv hy, rcmp_swap, ← qcmp_rv hy hv]
  have hcb : -1 ≤ qcmp x y 0 v ∧ qcmp x y 0 v ≤ 1 := by rw [qcmp_rv hy hv]; unfold rcmp; (repeat' split) <;> decide
  obtain ⟨C, hC⟩ : ∃ C, qcmp x y 0 v = C := ⟨_, rfl⟩
  rw [hC] at hCX hCK hcb
  have HC := hide hC
  have HCX := hide hCX
  have HCK := hide hCK
  have d1 : (C != C) = false := by simp
  have d2 : (-C != -C) = false := by simp
  have e1 : wrap64 (-C) = -C := by unfold wrap64; omega
  have e2 : IntKind.i64.wrap (-C) = -C := by rw [IntKind.wrap_i64]; omega
  have HY := hide hy
  have HV := hide hv
  have HQ := hide hq0
  have H1 := hide (Int.mul_ne_zero hv hq0)
  have H2 := hide (Int.mul_ne_zero hy nS)
  have H3 := hide (Int.mul_ne_zero hy hv)
  have H4 := hide (Int.mul_ne_zero hy hq0)
  have H5 := hide (Int.mul_ne_zero nP nR)
  have NX := hide nX
  have NS := hide nS
  have ES := hide hS
  have EL := hide hL
  have EP := hide hP
  have ER := hide hR
  have ET := hide hT
  have EX := hide hX
  have ELT := hide hLT
  have LT := hide lT
  clear hy hv hq0 hS lS nS rS hL lL nL rL hP lP nP rP hR lR nR rR hT lT nT rT hLT hX lX nX rX hCX hCK hcb hC
  obtain ⟨n_0a, o_0a, k_0a, c_0a, n_0b, o_0b, k_0b, c_0b, rfl, ha1, ha2⟩ := ha
  obtain ⟨n_1a, o_1a, k_1a, c_1a, n_1b, o_1b, k_1b, c_1b, rfl, hq1, hq2⟩ := hq
  obtain ⟨n_2a, o_2a, k_2a, c_2a, n_2b, o_2b, k_2b, c_2b, rfl, hc1, hc2⟩ := hc
  go_enter Tryd.func3, Tryd.ntmps3
  have hb := Below.refl w.heap.size w
  refine wp_seq_k ?_
  intro K1 hK1
  refine wp_region_sq [0, 1, 2, 3] (by kernel_rfl) ?_
  refine wpSq_call rfl (by kernel_rfl) fun K hK => ?_
  go_big_op
  obtain ⟨p_b1, w_1, eP, eW, x_b1, hn, kb_b1⟩ := newBox w #[.bool n_0a, .slice o_0a k_0a c_0a, .bool n_0b, .slice o_0b k_0b c_0b] 26 hb.size
  rw [eW, eP]
  clear eW eP
  replace ha1 := ha1.bl hn; replace ha2 := ha2.bl hn; replace hq1 := hq1.bl hn; replace hq2 := hq2.bl hn; replace hc1 := hc1.bl hn; replace hc2 := hc2.bl hn; replace hb := hb.trans (hn.mono hb.size)
  refine hK _ _ rfl ?_; clear hK K hn
  refine wpSq_call rfl (by kernel_rfl) fun K hK => ?_
  go_big_op
  have lt_b1 := x_b1.lt
  obtain ⟨p_b2, w_2, eP, eW, x_b2, hn, kb_b2⟩ := newBox w_1 #[.bool n_1a, .slice o_1a k_1a c_1a, .bool n_1b, .slice o_1b k_1b c_1b] 26 hb.size
  have ne_b1_b2 : Hid (p_b1 ≠ p_b2) := Nat.ne_of_lt (eP ▸ lt_b1)
  rw [eW, eP]
  clear eW eP lt_b1
  replace ha1 := ha1.bl hn; replace ha2 := ha2.bl hn; replace hq1 := hq1.bl hn; replace hq2 := hq2.bl hn; replace hc1 := hc1.bl hn; replace hc2 := hc2.bl hn; replace x_b1 := x_b1.bl hn; replace hb := hb.trans (hn.mono hb.size)
  refine hK _ _ rfl ?_; clear hK K hn
  refine wpSq_call rfl (by kernel_rfl) fun K hK => ?_
  go_big_op
  have lt_b1 := x_b1.lt
  have lt_b2 := x_b2.lt
  obtain ⟨p_b3, w_3, eP, eW, x_b3, hn, kb_b3⟩ := newBox w_2 #[.bool n_2a, .slice o_2a k_2a c_2a, .bool n_2b, .slice o_2b k_2b c_2b] 26 hb.size
  have ne_b1_b3 : Hid (p_b1 ≠ p_b3) := Nat.ne_of_lt (eP ▸ lt_b1)
  have ne_b2_b3 : Hid (p_b2 ≠ p_b3) := Nat.ne_of_lt (eP ▸ lt_b2)
  rw [eW, eP]
  clear eW eP lt_b1 lt_b2
  replace ha1 := ha1.bl hn; replace ha2 := ha2.bl hn; replace hq1 := hq1.bl hn; replace hq2 := hq2.bl hn; replace hc1 := hc1.bl hn; replace hc2 := hc2.bl hn; replace x_b1 := x_b1.bl hn; replace x_b2 := x_b2.bl hn; replace hb := hb.trans (hn.mono hb.size)
  refine hK _ _ rfl ?_; clear hK K hn
  refine wpSq_call rfl (by kernel_rfl) fun K hK => ?_
  go_big_move; refine hK _ _ rfl ?_; clear hK K
  apply wpSq_end
  refine hK1 _ _ ?_
  refine wp_seq_k ?_
  intro K2 hK2
  refine wp_seq_k ?_
  intro K3 hK3
  refine wp_region_sq [0, 1] (by kernel_rfl) ?_
  refine wpSq_call rfl (by kernel_rfl) fun K hK => ?_
  go_big_op
  go_fit (fawake_any _ (htabs _ hb))
  rintro e w_4 ⟨rfl, hb_4⟩
  replace ha1 := ha1.bl hb_4; replace ha2 := ha2.bl hb_4; replace hq1 := hq1.bl hb_4; replace hq2 := hq2.bl hb_4; replace hc1 := hc1.bl hb_4; replace hc2 := hc2.bl hb_4; replace x_b1 := x_b1.bl hb_4; replace x_b2 := x_b2.bl hb_4; replace x_b3 := x_b3.bl hb_4; replace hb := hb.trans (hb_4.mono hb.size)
  refine hK _ _ rfl ?_
  clear hK K hb_4
  refine wpSq_call rfl (by kernel_rfl) fun K hK => ?_
  go_big_op; refine hK _ _ rfl ?_; clear hK K
  apply wpSq_end
  refine hK3 _ _ ?_
  refine wp_cond_false (congrArg Value.bool (show _ = false from (by first | rfl | assumption | (simp; done) | exact decide_eq_false (by omega) | omega))) ?_
  refine wp_skip ?_
  refine hK2 _ _ ?_
  refine wp_seq_k ?_
  intro K4 hK4
  refine wp_seq_k ?_
  intro K5 hK5
  refine wp_region_sq [0, 1, 2, 3, 4, 5, 6, 7, 8, 9] (by kernel_rfl) ?_
  refine wpSq_call rfl (by kernel_rfl) fun K hK => ?_
  obtain ⟨d0, d1, d2, d3⟩ := x_b1.f4
  go_big_op; refine hK _ _ rfl ?_; clear hK K d0 d1 d2 d3
  refine wpSq_call rfl (by kernel_rfl) fun K hK => ?_
  go_big_op
  go_fit (rbad_no (PN.mk' ha1 ha2) (by omega) (by omega) HY.out)
  rintro e w_5 ⟨rfl, hb_5⟩
  replace ha1 := ha1.bl hb_5; replace ha2 := ha2.bl hb_5; replace hq1 := hq1.bl hb_5; replace hq2 := hq2.bl hb_5; replace hc1 := hc1.bl hb_5; replace hc2 := hc2.bl hb_5; replace x_b1 := x_b1.bl hb_5; replace x_b2 := x_b2.bl hb_5; replace x_b3 := x_b3.bl hb_5; replace hb := hb.trans (hb_5.mono hb.size)
  refine hK _ _ rfl ?_
  clear hK K hb_5
  refine wpSq_call rfl (by kernel_rfl) fun K hK => ?_
  go_big_move; refine hK _ _ rfl ?_; clear hK K
  refine wpSq_call rfl (by kernel_rfl) fun K hK => ?_
  obtain ⟨d0, d1, d2, d3⟩ := x_b2.f4
  go_big_op; refine hK _ _ rfl ?_; clear hK K d0 d1 d2 d3
  refine wpSq_call rfl (by kernel_rfl) fun K hK => ?_
  go_big_op
  go_fit (rbad_no (PN.mk' hq1 hq2) (by omega) (by omega) HV.out)
  rintro e w_6 ⟨rfl, hb_6⟩
  replace ha1 := ha1.bl hb_6; replace ha2 := ha2.bl hb_6; replace hq1 := hq1.bl hb_6; replace hq2 := hq2.bl hb_6; replace hc1 := hc1.bl hb_6; replace hc2 := hc2.bl hb_6; replace x_b1 := x_b1.bl hb_6; replace x_b2 := x_b2.bl hb_6; replace x_b3 := x_b3.bl hb_6; replace hb := hb.trans (hb_6.mono hb.size)
  refine hK _ _ rfl ?_
  clear hK K hb_6
  refine wpSq_call rfl (by kernel_rfl) fun K hK => ?_
  go_big_op; refine hK _ _ rfl ?_; clear hK K
  refine wpSq_call rfl (by kernel_rfl) fun K hK => ?_
  go_big_move; refine hK _ _ rfl ?_; clear hK K
  refine wpSq_call rfl (by kernel_rfl) fun K hK => ?_
  obtain ⟨d0, d1, d2, d3⟩ := x_b3.f4
  go_big_op; refine hK _ _ rfl ?_; clear hK K d0 d1 d2 d3
  refine wpSq_call rfl (by kernel_rfl) fun K hK => ?_
  go_big_op
  go_fit (rbad_no (PN.mk' hc1 hc2) (by omega) (by omega) HQ.out)
  rintro e w_7 ⟨rfl, hb_7⟩
  replace ha1 := ha1.bl hb_7; replace ha2 := ha2.bl hb_7; replace hq1 := hq1.bl hb_7; replace hq2 := hq2.bl hb_7; replace hc1 := hc1.bl hb_7; replace hc2 := hc2.bl hb_7; replace x_b1 := x_b1.bl hb_7; replace x_b2 := x_b2.bl hb_7; replace x_b3 := x_b3.bl hb_7; replace hb := hb.trans (hb_7.mono hb.size)
  refine hK _ _ rfl ?_
  clear hK K hb_7
  refine wpSq_call rfl (by kernel_rfl) fun K hK => ?_
  go_big_op; refine hK _ _ rfl ?_; clear hK K
  apply wpSq_end
  refine hK5 _ _ ?_
  refine wp_cond_false (congrArg Value.bool (show _ = false from (by first | rfl | assumption | (simp; done) | exact decide_eq_false (by omega) | omega))) ?_
  refine wp_skip ?_
  refine hK4 _ _ ?_
  refine wp_seq_k ?_
  intro K6 hK6
  refine wp_region_sq [0, 1, 2, 3, 4, 5, 6, 7, 8] (by kernel_rfl) ?_
  refine wpSq_call rfl (by kernel_rfl) fun K hK => ?_
  obtain ⟨d0, d1, d2, d3⟩ := x_b2.f4
  go_big_op; refine hK _ _ rfl ?_; clear hK K d0 d1 d2 d3
  refine wpSq_call rfl (by kernel_rfl) fun K hK => ?_
  obtain ⟨d0, d1, d2, d3⟩ := x_b3.f4
  go_big_op; refine hK _ _ rfl ?_; clear hK K d0 d1 d2 d3
  refine wpSq_call rfl (by kernel_rfl) fun K hK => ?_
  go_big_op
  go_fit (fAdd_any (PN.mk' hq1 hq2) (PN.mk' hc1 hc2) (by omega) (by omega) (by omega) (by omega) H1.out)
  rintro e w_8 ⟨_, rfl, ⟨n_aa, o_aa, k_aa, c_aa, n_ab, o_ab, k_ab, c_ab, rfl, a1, a2⟩, hb_8⟩
  replace ha1 := ha1.bl hb_8; replace ha2 := ha2.bl hb_8; replace hq1 := hq1.bl hb_8; replace hq2 := hq2.bl hb_8; replace hc1 := hc1.bl hb_8; replace hc2 := hc2.bl hb_8; replace x_b1 := x_b1.bl hb_8; replace x_b2 := x_b2.bl hb_8; replace x_b3 := x_b3.bl hb_8; replace hb := hb.trans (hb_8.mono hb.size)
  have La1 := hide (a1.lenOf (qN_len (H1.out) (zlen_opAdd (zlen_mul (hq1.len) (hc2.len)) (zlen_mul (hc1.len) (hq2.len)))))
  have La2 := hide (a2.lenOf (qD_len (H1.out) (zlen_mul (hq2.len) (hc2.len))))
  rw [ES.out.1] at a1 La1
  rw [ES.out.2] at a2 La2
  refine hK _ _ rfl ?_
  clear hK K hb_8
  refine wpSq_call rfl (by kernel_rfl) fun K hK => ?_
  go_big_move; refine hK _ _ rfl ?_; clear hK K
  refine wpSq_call rfl (by kernel_rfl) fun K hK => ?_
  go_big_op; refine hK _ _ rfl ?_; clear hK K
  refine wpSq_call rfl (by kernel_rfl) fun K hK => ?_
  go_big_op; refine hK _ _ rfl ?_; clear hK K
  refine wpSq_call rfl (by kernel_rfl) fun K hK => ?_
  go_big_op
  have lt_b1 := x_b1.lt
  have lt_b2 := x_b2.lt
  have lt_b3 := x_b3.lt
  obtain ⟨p_b4, w_9, eP, eW, x_b4, hn, kb_b4⟩ := newBox w_8 #[.bool false, .slice none 0 0, .bool false, .slice none 0 0] 26 hb.size
  have ne_b1_b4 : Hid (p_b1 ≠ p_b4) := Nat.ne_of_lt (eP ▸ lt_b1)
  have ne_b2_b4 : Hid (p_b2 ≠ p_b4) := Nat.ne_of_lt (eP ▸ lt_b2)
  have ne_b3_b4 : Hid (p_b3 ≠ p_b4) := Nat.ne_of_lt (eP ▸ lt_b3)
  rw [eW, eP]
  clear eW eP lt_b1 lt_b2 lt_b3
  replace ha1 := ha1.bl hn; replace ha2 := ha2.bl hn; replace hq1 := hq1.bl hn; replace hq2 := hq2.bl hn; replace hc1 := hc1.bl hn; replace hc2 := hc2.bl hn; replace x_b1 := x_b1.bl hn; replace x_b2 := x_b2.bl hn; replace x_b3 := x_b3.bl hn; replace a1 := a1.bl hn; replace a2 := a2.bl hn; replace hb := hb.trans (hn.mono hb.size)
  refine hK _ _ rfl ?_; clear hK K hn
  refine wpSq_call rfl (by kernel_rfl) fun K hK => ?_
  obtain ⟨d0, d1, d2, d3⟩ := x_b4.f4
  have f0 := x_b4.free 0; have f1 := x_b4.free 1; have f2 := x_b4.free 2; have f3 := x_b4.free 3
  go_big_op
  have hnd := x_b4.nod rfl rfl
  obtain ⟨w_10, eW, x_b4', ho⟩ : ∃ w', ((((w_9.setCell ⟨p_b4, 0, none⟩ (.bool n_aa)).setCell ⟨p_b4, 1, none⟩ (.slice o_aa k_aa c_aa)).setCell ⟨p_b4, 2, none⟩ (.bool n_ab)).setCell ⟨p_b4, 3, none⟩ (.slice o_ab k_ab c_ab)) = w' ∧ Bs w' p_b4 #[.bool n_aa, .slice o_aa k_aa c_aa, .bool n_ab, .slice o_ab k_ab c_ab] 26 ∧ Only p_b4 w_9 w' := x_b4.setN [(0, .bool n_aa), (1, .slice o_aa k_aa c_aa), (2, .bool n_ab), (3, .slice o_ab k_ab c_ab)]
  rw [eW]; clear eW d0 d1 d2 d3 f0 f1 f2 f3 x_b4
  have x_b4 := x_b4'; clear x_b4'
  replace ha1 := ha1.fr hnd ho; replace ha2 := ha2.fr hnd ho; replace hq1 := hq1.fr hnd ho; replace hq2 := hq2.fr hnd ho; replace hc1 := hc1.fr hnd ho; replace hc2 := hc2.fr hnd ho; replace x_b1 := x_b1.frame ho ne_b1_b4; replace x_b2 := x_b2.frame ho ne_b2_b4; replace x_b3 := x_b3.frame ho ne_b3_b4; replace a1 := a1.fr hnd ho; replace a2 := a2.fr hnd ho; replace hb := belowOnly hb ho kb_b4
  refine hK _ _ rfl ?_; clear hK K ho hnd
  refine wpSq_call rfl (by kernel_rfl) fun K hK => ?_
  go_big_move; refine hK _ _ rfl ?_; clear hK K
  apply wpSq_end
  refine hK6 _ _ ?_
  refine wp_seq_k ?_
  intro K7 hK7
  refine wp_region_sq [0, 1, 2, 3, 4, 5, 6, 7, 8] (by kernel_rfl) ?_
  refine wpSq_call rfl (by kernel_rfl) fun K hK => ?_
  obtain ⟨d0, d1, d2, d3⟩ := x_b1.f4
  go_big_op; refine hK _ _ rfl ?_; clear hK K d0 d1 d2 d3
  refine wpSq_call rfl (by kernel_rfl) fun K hK => ?_
  obtain ⟨d0, d1, d2, d3⟩ := x_b4.f4
  go_big_op; refine hK _ _ rfl ?_; clear hK K d0 d1 d2 d3
  refine wpSq_call rfl (by kernel_rfl) fun K hK => ?_
  go_big_op
  go_fit (fMul_any (PN.mk' ha1 ha2) (PN.mk' (a1.zn La1.out) (a2.zn La2.out)) (by omega) (by omega) (by omega) (by omega) H2.out)
  rintro e w_11 ⟨_, rfl, ⟨n_ba, o_ba, k_ba, c_ba, n_bb, o_bb, k_bb, c_bb, rfl, b1, b2⟩, hb_11⟩
  clear x_b4
  replace ha1 := ha1.bl hb_11; replace ha2 := ha2.bl hb_11; replace hq1 := hq1.bl hb_11; replace hq2 := hq2.bl hb_11; replace hc1 := hc1.bl hb_11; replace hc2 := hc2.bl hb_11; replace x_b1 := x_b1.bl hb_11; replace x_b2 := x_b2.bl hb_11; replace x_b3 := x_b3.bl hb_11; replace a1 := a1.bl hb_11; replace a2 := a2.bl hb_11; replace hb := hb.trans (hb_11.mono hb.size)
  have Lb1 := hide (b1.lenOf (qN_len (H2.out) (zlen_mul (ha1.len) (La1.out))))
  have Lb2 := hide (b2.lenOf (qD_len (H2.out) (zlen_mul (ha2.len) (La2.out))))
  rw [EL.out.1, ELT.out.1] at b1 Lb1
  rw [EL.out.2, ELT.out.2] at b2 Lb2
  refine hK _ _ rfl ?_
  clear hK K hb_11
  refine wpSq_call rfl (by kernel_rfl) fun K hK => ?_
  go_big_move; refine hK _ _ rfl ?_; clear hK K
  refine wpSq_call rfl (by kernel_rfl) fun K hK => ?_
  go_big_op; refine hK _ _ rfl ?_; clear hK K
  refine wpSq_call rfl (by kernel_rfl) fun K hK => ?_
  go_big_op; refine hK _ _ rfl ?_; clear hK K
  refine wpSq_call rfl (by kernel_rfl) fun K hK => ?_
  go_big_op
  clear a1 a2
  have lt_b1 := x_b1.lt
  have lt_b2 := x_b2.lt
  have lt_b3 := x_b3.lt
  obtain ⟨p_b5, w_12, eP, eW, x_b5, hn, kb_b5⟩ := newBox w_11 #[.bool false, .slice none 0 0, .bool false, .slice none 0 0] 26 hb.size
  have ne_b1_b5 : Hid (p_b1 ≠ p_b5) := Nat.ne_of_lt (eP ▸ lt_b1)
  have ne_b2_b5 : Hid (p_b2 ≠ p_b5) := Nat.ne_of_lt (eP ▸ lt_b2)
  have ne_b3_b5 : Hid (p_b3 ≠ p_b5) := Nat.ne_of_lt (eP ▸ lt_b3)
  rw [eW, eP]
  clear eW eP lt_b1 lt_b2 lt_b3
  replace ha1 := ha1.bl hn; replace ha2 := ha2.bl hn; replace hq1 := hq1.bl hn; replace hq2 := hq2.bl hn; replace hc1 := hc1.bl hn; replace hc2 := hc2.bl hn; replace x_b1 := x_b1.bl hn; replace x_b2 := x_b2.bl hn; replace x_b3 := x_b3.bl hn; replace b1 := b1.bl hn; replace b2 := b2.bl hn; replace hb := hb.trans (hn.mono hb.size)
  refine hK _ _ rfl ?_; clear hK K hn
  refine wpSq_call rfl (by kernel_rfl) fun K hK => ?_
  obtain ⟨d0, d1, d2, d3⟩ := x_b5.f4
  have f0 := x_b5.free 0; have f1 := x_b5.free 1; have f2 := x_b5.free 2; have f3 := x_b5.free 3
  go_big_op
  have hnd := x_b5.nod rfl rfl
  obtain ⟨w_13, eW, x_b5', ho⟩ : ∃ w', ((((w_12.setCell ⟨p_b5, 0, none⟩ (.bool n_ba)).setCell ⟨p_b5, 1, none⟩ (.slice o_ba k_ba c_ba)).setCell ⟨p_b5, 2, none⟩ (.bool n_bb)).setCell ⟨p_b5, 3, none⟩ (.slice o_bb k_bb c_bb)) = w' ∧ Bs w' p_b5 #[.bool n_ba, .slice o_ba k_ba c_ba, .bool n_bb, .slice o_bb k_bb c_bb] 26 ∧ Only p_b5 w_12 w' := x_b5.setN [(0, .bool n_ba), (1, .slice o_ba k_ba c_ba), (2, .bool n_bb), (3, .slice o_bb k_bb c_bb)]
  rw [eW]; clear eW d0 d1 d2 d3 f0 f1 f2 f3 x_b5
  have x_b5 := x_b5'; clear x_b5'
  replace ha1 := ha1.fr hnd ho; replace ha2 := ha2.fr hnd ho; replace hq1 := hq1.fr hnd ho; replace hq2 := hq2.fr hnd ho; replace hc1 := hc1.fr hnd ho; replace hc2 := hc2.fr hnd ho; replace x_b1 := x_b1.frame ho ne_b1_b5; replace x_b2 := x_b2.frame ho ne_b2_b5; replace x_b3 := x_b3.frame ho ne_b3_b5; replace b1 := b1.fr hnd ho; replace b2 := b2.fr hnd ho; replace hb := belowOnly hb ho kb_b5
  refine hK _ _ rfl ?_; clear hK K ho hnd
  refine wpSq_call rfl (by kernel_rfl) fun K hK => ?_
  go_big_move; refine hK _ _ rfl ?_; clear hK K
  apply wpSq_end
  refine hK7 _ _ ?_
  refine wp_seq_k ?_
  intro K8 hK8
  refine wp_region_sq [0, 1, 2, 3, 4, 5, 6, 7, 8] (by kernel_rfl) ?_
  refine wpSq_call rfl (by kernel_rfl) fun K hK => ?_
  obtain ⟨d0, d1, d2, d3⟩ := x_b1.f4
  go_big_op; refine hK _ _ rfl ?_; clear hK K d0 d1 d2 d3
  refine wpSq_call rfl (by kernel_rfl) fun K hK => ?_
  obtain ⟨d0, d1, d2, d3⟩ := x_b2.f4
  go_big_op; refine hK _ _ rfl ?_; clear hK K d0 d1 d2 d3
  refine wpSq_call rfl (by kernel_rfl) fun K hK => ?_
  go_big_op
  go_fit (fMul_any (PN.mk' ha1 ha2) (PN.mk' hq1 hq2) (by omega) (by omega) (by omega) (by omega) H3.out)
  rintro e w_14 ⟨_, rfl, ⟨n_ca, o_ca, k_ca, c_ca, n_cb, o_cb, k_cb, c_cb, rfl, c1, c2⟩, hb_14⟩
  replace ha1 := ha1.bl hb_14; replace ha2 := ha2.bl hb_14; replace hq1 := hq1.bl hb_14; replace hq2 := hq2.bl hb_14; replace hc1 := hc1.bl hb_14; replace hc2 := hc2.bl hb_14; replace x_b1 := x_b1.bl hb_14; replace x_b2 := x_b2.bl hb_14; replace x_b3 := x_b3.bl hb_14; replace b1 := b1.bl hb_14; replace b2 := b2.bl hb_14; replace x_b5 := x_b5.bl hb_14; replace hb := hb.trans (hb_14.mono hb.size)
  have Lc1 := hide (c1.lenOf (qN_len (H3.out) (zlen_mul (ha1.len) (hq1.len))))
  have Lc2 := hide (c2.lenOf (qD_len (H3.out) (zlen_mul (ha2.len) (hq2.len))))
  rw [EP.out.1] at c1 Lc1
  rw [EP.out.2] at c2 Lc2
  refine hK _ _ rfl ?_
  clear hK K hb_14
  refine wpSq_call rfl (by kernel_rfl) fun K hK => ?_
  go_big_move; refine hK _ _ rfl ?_; clear hK K
  refine wpSq_call rfl (by kernel_rfl) fun K hK => ?_
  go_big_op; refine hK _ _ rfl ?_; clear hK K
  refine wpSq_call rfl (by kernel_rfl) fun K hK => ?_
  go_big_op; refine hK _ _ rfl ?_; clear hK K
  refine wpSq_call rfl (by kernel_rfl) fun K hK => ?_
  go_big_op
  have lt_b1 := x_b1.lt
  have lt_b2 := x_b2.lt
  have lt_b3 := x_b3.lt
  have lt_b5 := x_b5.lt
  obtain ⟨p_b6, w_15, eP, eW, x_b6, hn, kb_b6⟩ := newBox w_14 #[.bool false, .slice none 0 0, .bool false, .slice none 0 0] 26 hb.size
  have ne_b1_b6 : Hid (p_b1 ≠ p_b6) := Nat.ne_of_lt (eP ▸ lt_b1)
  have ne_b2_b6 : Hid (p_b2 ≠ p_b6) := Nat.ne_of_lt (eP ▸ lt_b2)
  have ne_b3_b6 : Hid (p_b3 ≠ p_b6) := Nat.ne_of_lt (eP ▸ lt_b3)
  have ne_b5_b6 : Hid (p_b5 ≠ p_b6) := Nat.ne_of_lt (eP ▸ lt_b5)
  rw [eW, eP]
  clear eW eP lt_b1 lt_b2 lt_b3 lt_b5
  replace ha1 := ha1.bl hn; replace ha2 := ha2.bl hn; replace hq1 := hq1.bl hn; replace hq2 := hq2.bl hn; replace hc1 := hc1.bl hn; replace hc2 := hc2.bl hn; replace x_b1 := x_b1.bl hn; replace x_b2 := x_b2.bl hn; replace x_b3 := x_b3.bl hn; replace b1 := b1.bl hn; replace b2 := b2.bl hn; replace x_b5 := x_b5.bl hn; replace c1 := c1.bl hn; replace c2 := c2.bl hn; replace hb := hb.trans (hn.mono hb.size)
  refine hK _ _ rfl ?_; clear hK K hn
  refine wpSq_call rfl (by kernel_rfl) fun K hK => ?_
  obtain ⟨d0, d1, d2, d3⟩ := x_b6.f4
  have f0 := x_b6.free 0; have f1 := x_b6.free 1; have f2 := x_b6.free 2; have f3 := x_b6.free 3
  go_big_op
  have hnd := x_b6.nod rfl rfl
  obtain ⟨w_16, eW, x_b6', ho⟩ : ∃ w', ((((w_15.setCell ⟨p_b6, 0, none⟩ (.bool n_ca)).setCell ⟨p_b6, 1, none⟩ (.slice o_ca k_ca c_ca)).setCell ⟨p_b6, 2, none⟩ (.bool n_cb)).setCell ⟨p_b6, 3, none⟩ (.slice o_cb k_cb c_cb)) = w' ∧ Bs w' p_b6 #[.bool n_ca, .slice o_ca k_ca c_ca, .bool n_cb, .slice o_cb k_cb c_cb] 26 ∧ Only p_b6 w_15 w' := x_b6.setN [(0, .bool n_ca), (1, .slice o_ca k_ca c_ca), (2, .bool n_cb), (3, .slice o_cb k_cb c_cb)]
  rw [eW]; clear eW d0 d1 d2 d3 f0 f1 f2 f3 x_b6
  have x_b6 := x_b6'; clear x_b6'
  replace ha1 := ha1.fr hnd ho; replace ha2 := ha2.fr hnd ho; replace hq1 := hq1.fr hnd ho; replace hq2 := hq2.fr hnd ho; replace hc1 := hc1.fr hnd ho; replace hc2 := hc2.fr hnd ho; replace x_b1 := x_b1.frame ho ne_b1_b6; replace x_b2 := x_b2.frame ho ne_b2_b6; replace x_b3 := x_b3.frame ho ne_b3_b6; replace b1 := b1.fr hnd ho; replace b2 := b2.fr hnd ho; replace x_b5 := x_b5.frame ho ne_b5_b6; replace c1 := c1.fr hnd ho; replace c2 := c2.fr hnd ho; replace hb := belowOnly hb ho kb_b6
  refine hK _ _ rfl ?_; clear hK K ho hnd
  refine wpSq_call rfl (by kernel_rfl) fun K hK => ?_
  go_big_move; refine hK _ _ rfl ?_; clear hK K
  apply wpSq_end
  refine hK8 _ _ ?_
  refine wp_seq_k ?_
  intro K9 hK9
  refine wp_region_sq [0, 1, 2, 3, 4, 5, 6, 7, 8] (by kernel_rfl) ?_
  refine wpSq_call rfl (by kernel_rfl) fun K hK => ?_
  obtain ⟨d0, d1, d2, d3⟩ := x_b1.f4
  go_big_op; refine hK _ _ rfl ?_; clear hK K d0 d1 d2 d3
  refine wpSq_call rfl (by kernel_rfl) fun K hK => ?_
  obtain ⟨d0, d1, d2, d3⟩ := x_b3.f4
  go_big_op; refine hK _ _ rfl ?_; clear hK K d0 d1 d2 d3
  refine wpSq_call rfl (by kernel_rfl) fun K hK => ?_
  go_big_op
  go_fit (fMul_any (PN.mk' ha1 ha2) (PN.mk' hc1 hc2) (by omega) (by omega) (by omega) (by omega) H4.out)
  rintro e w_17 ⟨_, rfl, ⟨n_ja, o_ja, k_ja, c_ja, n_jb, o_jb, k_jb, c_jb, rfl, j1, j2⟩, hb_17⟩
  replace ha1 := ha1.bl hb_17; replace ha2 := ha2.bl hb_17; replace hq1 := hq1.bl hb_17; replace hq2 := hq2.bl hb_17; replace hc1 := hc1.bl hb_17; replace hc2 := hc2.bl hb_17; replace x_b1 := x_b1.bl hb_17; replace x_b2 := x_b2.bl hb_17; replace x_b3 := x_b3.bl hb_17; replace b1 := b1.bl hb_17; replace b2 := b2.bl hb_17; replace x_b5 := x_b5.bl hb_17; replace c1 := c1.bl hb_17; replace c2 := c2.bl hb_17; replace x_b6 := x_b6.bl hb_17; replace hb := hb.trans (hb_17.mono hb.size)
  have Lj1 := hide (j1.lenOf (qN_len (H4.out) (zlen_mul (ha1.len) (hc1.len))))
  have Lj2 := hide (j2.lenOf (qD_len (H4.out) (zlen_mul (ha2.len) (hc2.len))))
  rw [ER.out.1] at j1 Lj1
  rw [ER.out.2] at j2 Lj2
  refine hK _ _ rfl ?_
  clear hK K hb_17
  refine wpSq_call rfl (by kernel_rfl) fun K hK => ?_
  go_big_move; refine hK _ _ rfl ?_; clear hK K
  refine wpSq_call rfl (by kernel_rfl) fun K hK => ?_
  go_big_op; refine hK _ _ rfl ?_; clear hK K
  refine wpSq_call rfl (by kernel_rfl) fun K hK => ?_
  go_big_op; refine hK _ _ rfl ?_; clear hK K
  refine wpSq_call rfl (by kernel_rfl) fun K hK => ?_
  go_big_op
  have lt_b1 := x_b1.lt
  have lt_b2 := x_b2.lt
  have lt_b3 := x_b3.lt
  have lt_b5 := x_b5.lt
  have lt_b6 := x_b6.lt
  obtain ⟨p_b7, w_18, eP, eW, x_b7, hn, kb_b7⟩ := newBox w_17 #[.bool false, .slice none 0 0, .bool false, .slice none 0 0] 26 hb.size
  have ne_b1_b7 : Hid (p_b1 ≠ p_b7) := Nat.ne_of_lt (eP ▸ lt_b1)
  have ne_b2_b7 : Hid (p_b2 ≠ p_b7) := Nat.ne_of_lt (eP ▸ lt_b2)
  have ne_b3_b7 : Hid (p_b3 ≠ p_b7) := Nat.ne_of_lt (eP ▸ lt_b3)
  have ne_b5_b7 : Hid (p_b5 ≠ p_b7) := Nat.ne_of_lt (eP ▸ lt_b5)
  have ne_b6_b7 : Hid (p_b6 ≠ p_b7) := Nat.ne_of_lt (eP ▸ lt_b6)
  rw [eW, eP]
  clear eW eP lt_b1 lt_b2 lt_b3 lt_b5 lt_b6
  replace ha1 := ha1.bl hn; replace ha2 := ha2.bl hn; replace hq1 := hq1.bl hn; replace hq2 := hq2.bl hn; replace hc1 := hc1.bl hn; replace hc2 := hc2.bl hn; replace x_b1 := x_b1.bl hn; replace x_b2 := x_b2.bl hn; replace x_b3 := x_b3.bl hn; replace b1 := b1.bl hn; replace b2 := b2.bl hn; replace x_b5 := x_b5.bl hn; replace c1 := c1.bl hn; replace c2 := c2.bl hn; replace x_b6 := x_b6.bl hn; replace j1 := j1.bl hn; replace j2 := j2.bl hn; replace hb := hb.trans (hn.mono hb.size)
  refine hK _ _ rfl ?_; clear hK K hn
  refine wpSq_call rfl (by kernel_rfl) fun K hK => ?_
  obtain ⟨d0, d1, d2, d3⟩ := x_b7.f4
  have f0 := x_b7.free 0; have f1 := x_b7.free 1; have f2 := x_b7.free 2; have f3 := x_b7.free 3
  go_big_op
  have hnd := x_b7.nod rfl rfl
  obtain ⟨w_19, eW, x_b7', ho⟩ : ∃ w', ((((w_18.setCell ⟨p_b7, 0, none⟩ (.bool n_ja)).setCell ⟨p_b7, 1, none⟩ (.slice o_ja k_ja c_ja)).setCell ⟨p_b7, 2, none⟩ (.bool n_jb)).setCell ⟨p_b7, 3, none⟩ (.slice o_jb k_jb c_jb)) = w' ∧ Bs w' p_b7 #[.bool n_ja, .slice o_ja k_ja c_ja, .bool n_jb, .slice o_jb k_jb c_jb] 26 ∧ Only p_b7 w_18 w' := x_b7.setN [(0, .bool n_ja), (1, .slice o_ja k_ja c_ja), (2, .bool n_jb), (3, .slice o_jb k_jb c_jb)]
  rw [eW]; clear eW d0 d1 d2 d3 f0 f1 f2 f3 x_b7
  have x_b7 := x_b7'; clear x_b7'
  replace ha1 := ha1.fr hnd ho; replace ha2 := ha2.fr hnd ho; replace hq1 := hq1.fr hnd ho; replace hq2 := hq2.fr hnd ho; replace hc1 := hc1.fr hnd ho; replace hc2 := hc2.fr hnd ho; replace x_b1 := x_b1.frame ho ne_b1_b7; replace x_b2 := x_b2.frame ho ne_b2_b7; replace x_b3 := x_b3.frame ho ne_b3_b7; replace b1 := b1.fr hnd ho; replace b2 := b2.fr hnd ho; replace x_b5 := x_b5.frame ho ne_b5_b7; replace c1 := c1.fr hnd ho; replace c2 := c2.fr hnd ho; replace x_b6 := x_b6.frame ho ne_b6_b7; replace j1 := j1.fr hnd ho; replace j2 := j2.fr hnd ho; replace hb := belowOnly hb ho kb_b7
  refine hK _ _ rfl ?_; clear hK K ho hnd
  refine wpSq_call rfl (by kernel_rfl) fun K hK => ?_
  go_big_move; refine hK _ _ rfl ?_; clear hK K
  apply wpSq_end
  refine hK9 _ _ ?_
  refine wp_seq_k ?_
  intro K10 hK10
  refine wp_region_sq [0, 1, 2, 3, 4, 5, 6, 7, 8] (by kernel_rfl) ?_
  refine wpSq_call rfl (by kernel_rfl) fun K hK => ?_
  obtain ⟨d0, d1, d2, d3⟩ := x_b6.f4
  go_big_op; refine hK _ _ rfl ?_; clear hK K d0 d1 d2 d3
  refine wpSq_call rfl (by kernel_rfl) fun K hK => ?_
  obtain ⟨d0, d1, d2, d3⟩ := x_b7.f4
  go_big_op; refine hK _ _ rfl ?_; clear hK K d0 d1 d2 d3
  refine wpSq_call rfl (by kernel_rfl) fun K hK => ?_
  go_big_op
  go_fit (fAdd_any (PN.mk' (c1.zn Lc1.out) (c2.zn Lc2.out)) (PN.mk' (j1.zn Lj1.out) (j2.zn Lj2.out)) (by omega) (by omega) (by omega) (by omega) H5.out)
  rintro e w_20 ⟨_, rfl, ⟨n_oa, o_oa, k_oa, c_oa, n_ob, o_ob, k_ob, c_ob, rfl, o1, o2⟩, hb_20⟩
  clear x_b6 x_b7
  replace ha1 := ha1.bl hb_20; replace ha2 := ha2.bl hb_20; replace hq1 := hq1.bl hb_20; replace hq2 := hq2.bl hb_20; replace hc1 := hc1.bl hb_20; replace hc2 := hc2.bl hb_20; replace x_b1 := x_b1.bl hb_20; replace x_b2 := x_b2.bl hb_20; replace x_b3 := x_b3.bl hb_20; replace b1 := b1.bl hb_20; replace b2 := b2.bl hb_20; replace x_b5 := x_b5.bl hb_20; replace c1 := c1.bl hb_20; replace c2 := c2.bl hb_20; replace j1 := j1.bl hb_20; replace j2 := j2.bl hb_20; replace hb := hb.trans (hb_20.mono hb.size)
  have Lo1 := hide (o1.lenOf (qN_len (H5.out) (zlen_opAdd (zlen_mul (Lc1.out) (Lj2.out)) (zlen_mul (Lj1.out) (Lc2.out)))))
  have Lo2 := hide (o2.lenOf (qD_len (H5.out) (zlen_mul (Lc2.out) (Lj2.out))))
  rw [ET.out.1] at o1 Lo1
  rw [ET.out.2] at o2 Lo2
  refine hK _ _ rfl ?_
  clear hK K hb_20
  refine wpSq_call rfl (by kernel_rfl) fun K hK => ?_
  go_big_move; refine hK _ _ rfl ?_; clear hK K
  refine wpSq_call rfl (by kernel_rfl) fun K hK => ?_
  go_big_op; refine hK _ _ rfl ?_; clear hK K
  refine wpSq_call rfl (by kernel_rfl) fun K hK => ?_
  go_big_op; refine hK _ _ rfl ?_; clear hK K
  refine wpSq_call rfl (by kernel_rfl) fun K hK => ?_
  go_big_op
  clear c1 c2 j1 j2
  have lt_b1 := x_b1.lt
  have lt_b2 := x_b2.lt
  have lt_b3 := x_b3.lt
  have lt_b5 := x_b5.lt
  obtain ⟨p_b8, w_21, eP, eW, x_b8, hn, kb_b8⟩ := newBox w_20 #[.bool false, .slice none 0 0, .bool false, .slice none 0 0] 26 hb.size
  have ne_b1_b8 : Hid (p_b1 ≠ p_b8) := Nat.ne_of_lt (eP ▸ lt_b1)
  have ne_b2_b8 : Hid (p_b2 ≠ p_b8) := Nat.ne_of_lt (eP ▸ lt_b2)
  have ne_b3_b8 : Hid (p_b3 ≠ p_b8) := Nat.ne_of_lt (eP ▸ lt_b3)
  have ne_b5_b8 : Hid (p_b5 ≠ p_b8) := Nat.ne_of_lt (eP ▸ lt_b5)
  rw [eW, eP]
  clear eW eP lt_b1 lt_b2 lt_b3 lt_b5
  replace ha1 := ha1.bl hn; replace ha2 := ha2.bl hn; replace hq1 := hq1.bl hn; replace hq2 := hq2.bl hn; replace hc1 := hc1.bl hn; replace hc2 := hc2.bl hn; replace x_b1 := x_b1.bl hn; replace x_b2 := x_b2.bl hn; replace x_b3 := x_b3.bl hn; replace b1 := b1.bl hn; replace b2 := b2.bl hn; replace x_b5 := x_b5.bl hn; replace o1 := o1.bl hn; replace o2 := o2.bl hn; replace hb := hb.trans (hn.mono hb.size)
  refine hK _ _ rfl ?_; clear hK K hn
  refine wpSq_call rfl (by kernel_rfl) fun K hK => ?_
  obtain ⟨d0, d1, d2, d3⟩ := x_b8.f4
  have f0 := x_b8.free 0; have f1 := x_b8.free 1; have f2 := x_b8.free 2; have f3 := x_b8.free 3
  go_big_op
  have hnd := x_b8.nod rfl rfl
  obtain ⟨w_22, eW, x_b8', ho⟩ : ∃ w', ((((w_21.setCell ⟨p_b8, 0, none⟩ (.bool n_oa)).setCell ⟨p_b8, 1, none⟩ (.slice o_oa k_oa c_oa)).setCell ⟨p_b8, 2, none⟩ (.bool n_ob)).setCell ⟨p_b8, 3, none⟩ (.slice o_ob k_ob c_ob)) = w' ∧ Bs w' p_b8 #[.bool n_oa, .slice o_oa k_oa c_oa, .bool n_ob, .slice o_ob k_ob c_ob] 26 ∧ Only p_b8 w_21 w' := x_b8.setN [(0, .bool n_oa), (1, .slice o_oa k_oa c_oa), (2, .bool n_ob), (3, .slice o_ob k_ob c_ob)]
  rw [eW]; clear eW d0 d1 d2 d3 f0 f1 f2 f3 x_b8
  have x_b8 := x_b8'; clear x_b8'
  replace ha1 := ha1.fr hnd ho; replace ha2 := ha2.fr hnd ho; replace hq1 := hq1.fr hnd ho; replace hq2 := hq2.fr hnd ho; replace hc1 := hc1.fr hnd ho; replace hc2 := hc2.fr hnd ho; replace x_b1 := x_b1.frame ho ne_b1_b8; replace x_b2 := x_b2.frame ho ne_b2_b8; replace x_b3 := x_b3.frame ho ne_b3_b8; replace b1 := b1.fr hnd ho; replace b2 := b2.fr hnd ho; replace x_b5 := x_b5.frame ho ne_b5_b8; replace o1 := o1.fr hnd ho; replace o2 := o2.fr hnd ho; replace hb := belowOnly hb ho kb_b8
  refine hK _ _ rfl ?_; clear hK K ho hnd
  refine wpSq_call rfl (by kernel_rfl) fun K hK => ?_
  go_big_move; refine hK _ _ rfl ?_; clear hK K
  apply wpSq_end
  refine hK10 _ _ ?_
  refine wp_seq_k ?_
  intro K11 hK11
  refine wp_seq_k ?_
  intro K12 hK12
  refine wp_region_sq [0, 1, 2, 3, 4, 5, 6, 7] (by kernel_rfl) ?_
  refine wpSq_call rfl (by kernel_rfl) fun K hK => ?_
  go_big_move; refine hK _ _ rfl ?_; clear hK K
  refine wpSq_call rfl (by kernel_rfl) fun K hK => ?_
  go_big_op; refine hK _ _ rfl ?_; clear hK K
  refine wpSq_call rfl (by kernel_rfl) fun K hK => ?_
  go_big_move; refine hK _ _ rfl ?_; clear hK K
  refine wpSq_call rfl (by kernel_rfl) fun K hK => ?_
  obtain ⟨d0, d1, d2, d3⟩ := x_b5.f4
  go_big_op; refine hK _ _ rfl ?_; clear hK K d0 d1 d2 d3
  refine wpSq_call rfl (by kernel_rfl) fun K hK => ?_
  obtain ⟨d0, d1, d2, d3⟩ := x_b8.f4
  go_big_op; refine hK _ _ rfl ?_; clear hK K d0 d1 d2 d3
  refine wpSq_call rfl (by kernel_rfl) fun K hK => ?_
  go_big_op
  go_fit (fis_low (PC.mk' b1 b2) (PC.mk' o1 o2)  LT.out (Nat.le_trans Lb1.out (by omega)) (Nat.le_trans Lb2.out (by omega)))
  rintro e w_23 ⟨rfl, hb_23⟩
  clear x_b5 x_b8
  replace ha1 := ha1.bl hb_23; replace ha2 := ha2.bl hb_23; replace hq1 := hq1.bl hb_23; replace hq2 := hq2.bl hb_23; replace hc1 := hc1.bl hb_23; replace hc2 := hc2.bl hb_23; replace x_b1 := x_b1.bl hb_23; replace x_b2 := x_b2.bl hb_23; replace x_b3 := x_b3.bl hb_23; replace b1 := b1.bl hb_23; replace b2 := b2.bl hb_23; replace o1 := o1.bl hb_23; replace o2 := o2.bl hb_23; replace hb := hb.trans (hb_23.mono hb.size)
  refine hK _ _ rfl ?_
  clear hK K hb_23
  refine wpSq_call rfl (by kernel_rfl) fun K hK => ?_
  go_big_op; refine hK _ _ rfl ?_; clear hK K
  refine wpSq_call rfl (by kernel_rfl) fun K hK => ?_
  go_big_op; refine hK _ _ rfl ?_; clear hK K
  apply wpSq_end
  refine hK12 _ _ ?_
  refine wp_cond_false (congrArg Value.bool (show _ = false from (by first | rfl | assumption | (simp; done) | exact decide_eq_false (by omega) | omega))) ?_
  refine wp_skip ?_
  refine hK11 _ _ ?_
  refine wp_seq_k ?_
  intro K13 hK13
  refine wp_region_sq [0, 1, 2, 3, 4, 5, 6, 7] (by kernel_rfl) ?_
  refine wpSq_call rfl (by kernel_rfl) fun K hK => ?_
  obtain ⟨d0, d1, d2, d3⟩ := x_b1.f4
  go_big_op; refine hK _ _ rfl ?_; clear hK K d0 d1 d2 d3
  refine wpSq_call rfl (by kernel_rfl) fun K hK => ?_
  obtain ⟨d0, d1, d2, d3⟩ := x_b2.f4
  go_big_op; refine hK _ _ rfl ?_; clear hK K d0 d1 d2 d3
  refine wpSq_call rfl (by kernel_rfl) fun K hK => ?_
  go_big_op
  go_fit (fCmp_any (PN.mk' ha1 ha2) (PN.mk' hq1 hq2) (by omega) (by omega) (by omega) (by omega) HY.out HV.out)
  rintro e w_24 ⟨rfl, hb_24⟩
  clear b1 b2 o1 o2
  replace ha1 := ha1.bl hb_24; replace ha2 := ha2.bl hb_24; replace hq1 := hq1.bl hb_24; replace hq2 := hq2.bl hb_24; replace hc1 := hc1.bl hb_24; replace hc2 := hc2.bl hb_24; replace x_b1 := x_b1.bl hb_24; replace x_b2 := x_b2.bl hb_24; replace x_b3 := x_b3.bl hb_24; replace hb := hb.trans (hb_24.mono hb.size)
  rw [HC.out]
  refine hK _ _ rfl ?_
  clear hK K hb_24
  refine wpSq_call rfl (by kernel_rfl) fun K hK => ?_
  go_big_move; refine hK _ _ rfl ?_; clear hK K
  refine wpSq_call rfl (by kernel_rfl) fun K hK => ?_
  go_big_op; refine hK _ _ rfl ?_; clear hK K
  refine wpSq_call rfl (by kernel_rfl) fun K hK => ?_
  go_big_op; refine hK _ _ rfl ?_; clear hK K
  refine wpSq_call rfl (by kernel_rfl) fun K hK => ?_
  go_big_move; refine hK _ _ rfl ?_; clear hK K
  refine wpSq_call rfl (by kernel_rfl) fun K hK => ?_
  go_big_move; refine hK _ _ rfl ?_; clear hK K
  apply wpSq_end
  refine hK13 _ _ ?_
  refine wp_seq_k ?_
  intro K14 hK14
  refine wp_region_sq [0, 1, 2, 3, 4, 5, 6, 7, 8] (by kernel_rfl) ?_
  refine wpSq_call rfl (by kernel_rfl) fun K hK => ?_
  obtain ⟨d0, d1, d2, d3⟩ := x_b1.f4
  go_big_op; refine hK _ _ rfl ?_; clear hK K d0 d1 d2 d3
  refine wpSq_call rfl (by kernel_rfl) fun K hK => ?_
  obtain ⟨d0, d1, d2, d3⟩ := x_b3.f4
  go_big_op; refine hK _ _ rfl ?_; clear hK K d0 d1 d2 d3
  refine wpSq_call rfl (by kernel_rfl) fun K hK => ?_
  go_big_op
  go_fit (fAdd_any (PN.mk' ha1 ha2) (PN.mk' hc1 hc2) (by omega) (by omega) (by omega) (by omega) H4.out)
  rintro e w_25 ⟨_, rfl, ⟨n_fa, o_fa, k_fa, c_fa, n_fb, o_fb, k_fb, c_fb, rfl, f1, f2⟩, hb_25⟩
  replace ha1 := ha1.bl hb_25; replace ha2 := ha2.bl hb_25; replace hq1 := hq1.bl hb_25; replace hq2 := hq2.bl hb_25; replace hc1 := hc1.bl hb_25; replace hc2 := hc2.bl hb_25; replace x_b1 := x_b1.bl hb_25; replace x_b2 := x_b2.bl hb_25; replace x_b3 := x_b3.bl hb_25; replace hb := hb.trans (hb_25.mono hb.size)
  have Lf1 := hide (f1.lenOf (qN_len (H4.out) (zlen_opAdd (zlen_mul (ha1.len) (hc2.len)) (zlen_mul (hc1.len) (ha2.len)))))
  have Lf2 := hide (f2.lenOf (qD_len (H4.out) (zlen_mul (ha2.len) (hc2.len))))
  rw [EX.out.1] at f1 Lf1
  rw [EX.out.2] at f2 Lf2
  refine hK _ _ rfl ?_
  clear hK K hb_25
  refine wpSq_call rfl (by kernel_rfl) fun K hK => ?_
  go_big_move; refine hK _ _ rfl ?_; clear hK K
  refine wpSq_call rfl (by kernel_rfl) fun K hK => ?_
  go_big_op; refine hK _ _ rfl ?_; clear hK K
  refine wpSq_call rfl (by kernel_rfl) fun K hK => ?_
  go_big_op; refine hK _ _ rfl ?_; clear hK K
  refine wpSq_call rfl (by kernel_rfl) fun K hK => ?_
  go_big_op
  have lt_b1 := x_b1.lt
  have lt_b2 := x_b2.lt
  have lt_b3 := x_b3.lt
  obtain ⟨p_b9, w_26, eP, eW, x_b9, hn, kb_b9⟩ := newBox w_25 #[.bool false, .slice none 0 0, .bool false, .slice none 0 0] 26 hb.size
  have ne_b1_b9 : Hid (p_b1 ≠ p_b9) := Nat.ne_of_lt (eP ▸ lt_b1)
  have ne_b2_b9 : Hid (p_b2 ≠ p_b9) := Nat.ne_of_lt (eP ▸ lt_b2)
  have ne_b3_b9 : Hid (p_b3 ≠ p_b9) := Nat.ne_of_lt (eP ▸ lt_b3)
  rw [eW, eP]
  clear eW eP lt_b1 lt_b2 lt_b3
  replace ha1 := ha1.bl hn; replace ha2 := ha2.bl hn; replace hq1 := hq1.bl hn; replace hq2 := hq2.bl hn; replace hc1 := hc1.bl hn; replace hc2 := hc2.bl hn; replace x_b1 := x_b1.bl hn; replace x_b2 := x_b2.bl hn; replace x_b3 := x_b3.bl hn; replace f1 := f1.bl hn; replace f2 := f2.bl hn; replace hb := hb.trans (hn.mono hb.size)
  refine hK _ _ rfl ?_; clear hK K hn
  refine wpSq_call rfl (by kernel_rfl) fun K hK => ?_
  obtain ⟨d0, d1, d2, d3⟩ := x_b9.f4
  have f0 := x_b9.free 0; have f1 := x_b9.free 1; have f2 := x_b9.free 2; have f3 := x_b9.free 3
  go_big_op
  have hnd := x_b9.nod rfl rfl
  obtain ⟨w_27, eW, x_b9', ho⟩ : ∃ w', ((((w_26.setCell ⟨p_b9, 0, none⟩ (.bool n_fa)).setCell ⟨p_b9, 1, none⟩ (.slice o_fa k_fa c_fa)).setCell ⟨p_b9, 2, none⟩ (.bool n_fb)).setCell ⟨p_b9, 3, none⟩ (.slice o_fb k_fb c_fb)) = w' ∧ Bs w' p_b9 #[.bool n_fa, .slice o_fa k_fa c_fa, .bool n_fb, .slice o_fb k_fb c_fb] 26 ∧ Only p_b9 w_26 w' := x_b9.setN [(0, .bool n_fa), (1, .slice o_fa k_fa c_fa), (2, .bool n_fb), (3, .slice o_fb k_fb c_fb)]
  rw [eW]; clear eW d0 d1 d2 d3 f0 f1 f2 f3 x_b9
  have x_b9 := x_b9'; clear x_b9'
  replace ha1 := ha1.fr hnd ho; replace ha2 := ha2.fr hnd ho; replace hq1 := hq1.fr hnd ho; replace hq2 := hq2.fr hnd ho; replace hc1 := hc1.fr hnd ho; replace hc2 := hc2.fr hnd ho; replace x_b1 := x_b1.frame ho ne_b1_b9; replace x_b2 := x_b2.frame ho ne_b2_b9; replace x_b3 := x_b3.frame ho ne_b3_b9; replace f1 := f1.fr hnd ho; replace f2 := f2.fr hnd ho; replace hb := belowOnly hb ho kb_b9
  refine hK _ _ rfl ?_; clear hK K ho hnd
  refine wpSq_call rfl (by kernel_rfl) fun K hK => ?_
  go_big_move; refine hK _ _ rfl ?_; clear hK K
  apply wpSq_end
  refine hK14 _ _ ?_
  refine wp_seq_k ?_
  intro K15 hK15
  refine wp_region_sq [0, 1, 2, 3, 4, 5, 6, 7, 8] (by kernel_rfl) ?_
  refine wpSq_call rfl (by kernel_rfl) fun K hK => ?_
  obtain ⟨d0, d1, d2, d3⟩ := x_b2.f4
  go_big_op; refine hK _ _ rfl ?_; clear hK K d0 d1 d2 d3
  refine wpSq_call rfl (by kernel_rfl) fun K hK => ?_
  obtain ⟨d0, d1, d2, d3⟩ := x_b3.f4
  go_big_op; refine hK _ _ rfl ?_; clear hK K d0 d1 d2 d3
  refine wpSq_call rfl (by kernel_rfl) fun K hK => ?_
  go_big_op
  go_fit (fAdd_any (PN.mk' hq1 hq2) (PN.mk' hc1 hc2) (by omega) (by omega) (by omega) (by omega) H1.out)
  rintro e w_28 ⟨_, rfl, ⟨n_ga, o_ga, k_ga, c_ga, n_gb, o_gb, k_gb, c_gb, rfl, g1, g2⟩, hb_28⟩
  clear x_b3
  replace ha1 := ha1.bl hb_28; replace ha2 := ha2.bl hb_28; replace hq1 := hq1.bl hb_28; replace hq2 := hq2.bl hb_28; replace hc1 := hc1.bl hb_28; replace hc2 := hc2.bl hb_28; replace x_b1 := x_b1.bl hb_28; replace x_b2 := x_b2.bl hb_28; replace f1 := f1.bl hb_28; replace f2 := f2.bl hb_28; replace x_b9 := x_b9.bl hb_28; replace hb := hb.trans (hb_28.mono hb.size)
  have Lg1 := hide (g1.lenOf (qN_len (H1.out) (zlen_opAdd (zlen_mul (hq1.len) (hc2.len)) (zlen_mul (hc1.len) (hq2.len)))))
  have Lg2 := hide (g2.lenOf (qD_len (H1.out) (zlen_mul (hq2.len) (hc2.len))))
  rw [ES.out.1] at g1 Lg1
  rw [ES.out.2] at g2 Lg2
  refine hK _ _ rfl ?_
  clear hK K hb_28
  refine wpSq_call rfl (by kernel_rfl) fun K hK => ?_
  go_big_move; refine hK _ _ rfl ?_; clear hK K
  refine wpSq_call rfl (by kernel_rfl) fun K hK => ?_
  go_big_op; refine hK _ _ rfl ?_; clear hK K
  refine wpSq_call rfl (by kernel_rfl) fun K hK => ?_
  go_big_op; refine hK _ _ rfl ?_; clear hK K
  refine wpSq_call rfl (by kernel_rfl) fun K hK => ?_
  go_big_op
  clear hc1 hc2
  have lt_b1 := x_b1.lt
  have lt_b2 := x_b2.lt
  have lt_b9 := x_b9.lt
  obtain ⟨p_b10, w_29, eP, eW, x_b10, hn, kb_b10⟩ := newBox w_28 #[.bool false, .slice none 0 0, .bool false, .slice none 0 0] 26 hb.size
  have ne_b1_b10 : Hid (p_b1 ≠ p_b10) := Nat.ne_of_lt (eP ▸ lt_b1)
  have ne_b2_b10 : Hid (p_b2 ≠ p_b10) := Nat.ne_of_lt (eP ▸ lt_b2)
  have ne_b9_b10 : Hid (p_b9 ≠ p_b10) := Nat.ne_of_lt (eP ▸ lt_b9)
  rw [eW, eP]
  clear eW eP lt_b1 lt_b2 lt_b9
  replace ha1 := ha1.bl hn; replace ha2 := ha2.bl hn; replace hq1 := hq1.bl hn; replace hq2 := hq2.bl hn; replace x_b1 := x_b1.bl hn; replace x_b2 := x_b2.bl hn; replace f1 := f1.bl hn; replace f2 := f2.bl hn; replace x_b9 := x_b9.bl hn; replace g1 := g1.bl hn; replace g2 := g2.bl hn; replace hb := hb.trans (hn.mono hb.size)
  refine hK _ _ rfl ?_; clear hK K hn
  refine wpSq_call rfl (by kernel_rfl) fun K hK => ?_
  obtain ⟨d0, d1, d2, d3⟩ := x_b10.f4
  have f0 := x_b10.free 0; have f1 := x_b10.free 1; have f2 := x_b10.free 2; have f3 := x_b10.free 3
  go_big_op
  have hnd := x_b10.nod rfl rfl
  obtain ⟨w_30, eW, x_b10', ho⟩ : ∃ w', ((((w_29.setCell ⟨p_b10, 0, none⟩ (.bool n_ga)).setCell ⟨p_b10, 1, none⟩ (.slice o_ga k_ga c_ga)).setCell ⟨p_b10, 2, none⟩ (.bool n_gb)).setCell ⟨p_b10, 3, none⟩ (.slice o_gb k_gb c_gb)) = w' ∧ Bs w' p_b10 #[.bool n_ga, .slice o_ga k_ga c_ga, .bool n_gb, .slice o_gb k_gb c_gb] 26 ∧ Only p_b10 w_29 w' := x_b10.setN [(0, .bool n_ga), (1, .slice o_ga k_ga c_ga), (2, .bool n_gb), (3, .slice o_gb k_gb c_gb)]
  rw [eW]; clear eW d0 d1 d2 d3 f0 f1 f2 f3 x_b10
  have x_b10 := x_b10'; clear x_b10'
  replace ha1 := ha1.fr hnd ho; replace ha2 := ha2.fr hnd ho; replace hq1 := hq1.fr hnd ho; replace hq2 := hq2.fr hnd ho; replace x_b1 := x_b1.frame ho ne_b1_b10; replace x_b2 := x_b2.frame ho ne_b2_b10; replace f1 := f1.fr hnd ho; replace f2 := f2.fr hnd ho; replace x_b9 := x_b9.frame ho ne_b9_b10; replace g1 := g1.fr hnd ho; replace g2 := g2.fr hnd ho; replace hb := belowOnly hb ho kb_b10
  refine hK _ _ rfl ?_; clear hK K ho hnd
  refine wpSq_call rfl (by kernel_rfl) fun K hK => ?_
  go_big_move; refine hK _ _ rfl ?_; clear hK K
  apply wpSq_end
  refine hK15 _ _ ?_
  refine wp_seq_k ?_
  intro K16 hK16
  refine wp_region_sq [0, 1, 2, 3, 4, 5, 6, 7] (by kernel_rfl) ?_
  refine wpSq_call rfl (by kernel_rfl) fun K hK => ?_
  obtain ⟨d0, d1, d2, d3⟩ := x_b9.f4
  go_big_op; refine hK _ _ rfl ?_; clear hK K d0 d1 d2 d3
  refine wpSq_call rfl (by kernel_rfl) fun K hK => ?_
  obtain ⟨d0, d1, d2, d3⟩ := x_b10.f4
  go_big_op; refine hK _ _ rfl ?_; clear hK K d0 d1 d2 d3
  refine wpSq_call rfl (by kernel_rfl) fun K hK => ?_
  go_big_op
  go_fit (fCmp_any (.mk' (f1.zn Lf1.out) (f2.zn Lf2.out)) (.mk' (g1.zn Lg1.out) (g2.zn Lg2.out)) (by omega) (by omega) (by omega) (by omega) NX.out NS.out)
  rintro e w_31 ⟨rfl, hb_31⟩
  clear x_b9 x_b10
  replace ha1 := ha1.bl hb_31; replace ha2 := ha2.bl hb_31; replace hq1 := hq1.bl hb_31; replace hq2 := hq2.bl hb_31; replace x_b1 := x_b1.bl hb_31; replace x_b2 := x_b2.bl hb_31; replace f1 := f1.bl hb_31; replace f2 := f2.bl hb_31; replace g1 := g1.bl hb_31; replace g2 := g2.bl hb_31; replace hb := hb.trans (hb_31.mono hb.size)
  rw [HCX.out]
  refine hK _ _ rfl ?_
  clear hK K hb_31
  refine wpSq_call rfl (by kernel_rfl) fun K hK => ?_
  go_big_move; refine hK _ _ rfl ?_; clear hK K
  refine wpSq_call rfl (by kernel_rfl) fun K hK => ?_
  go_big_op; refine hK _ _ rfl ?_; clear hK K
  refine wpSq_call rfl (by kernel_rfl) fun K hK => ?_
  go_big_op; refine hK _ _ rfl ?_; clear hK K
  refine wpSq_call rfl (by kernel_rfl) fun K hK => ?_
  go_big_move; refine hK _ _ rfl ?_; clear hK K
  refine wpSq_call rfl (by kernel_rfl) fun K hK => ?_
  go_big_move; refine hK _ _ rfl ?_; clear hK K
  apply wpSq_end
  refine hK16 _ _ ?_
  refine wp_seq_k ?_
  intro K17 hK17
  refine wp_region_sq [0, 1, 2, 3, 4, 5, 6, 7] (by kernel_rfl) ?_
  refine wpSq_call rfl (by kernel_rfl) fun K hK => ?_
  obtain ⟨d0, d1, d2, d3⟩ := x_b2.f4
  go_big_op; refine hK _ _ rfl ?_; clear hK K d0 d1 d2 d3
  refine wpSq_call rfl (by kernel_rfl) fun K hK => ?_
  obtain ⟨d0, d1, d2, d3⟩ := x_b1.f4
  go_big_op; refine hK _ _ rfl ?_; clear hK K d0 d1 d2 d3
  refine wpSq_call rfl (by kernel_rfl) fun K hK => ?_
  go_big_op
  go_fit (fCmp_any (PN.mk' hq1 hq2) (PN.mk' ha1 ha2) (by omega) (by omega) (by omega) (by omega) HV.out HY.out)
  rintro e w_32 ⟨rfl, hb_32⟩
  clear f1 f2 g1 g2
  replace ha1 := ha1.bl hb_32; replace ha2 := ha2.bl hb_32; replace hq1 := hq1.bl hb_32; replace hq2 := hq2.bl hb_32; replace x_b1 := x_b1.bl hb_32; replace x_b2 := x_b2.bl hb_32; replace hb := hb.trans (hb_32.mono hb.size)
  rw [HCK.out]
  refine hK _ _ rfl ?_
  clear hK K hb_32
  refine wpSq_call rfl (by kernel_rfl) fun K hK => ?_
  go_big_move; refine hK _ _ rfl ?_; clear hK K
  refine wpSq_call rfl (by kernel_rfl) fun K hK => ?_
  go_big_op; refine hK _ _ rfl ?_; clear hK K
  refine wpSq_call rfl (by kernel_rfl) fun K hK => ?_
  go_big_op; refine hK _ _ rfl ?_; clear hK K
  refine wpSq_call rfl (by kernel_rfl) fun K hK => ?_
  go_big_move; refine hK _ _ rfl ?_; clear hK K
  refine wpSq_call rfl (by kernel_rfl) fun K hK => ?_
  go_big_move; refine hK _ _ rfl ?_; clear hK K
  apply wpSq_end
  refine hK17 _ _ ?_
  refine wp_seq_k ?_
  intro K18 hK18
  refine wp_seq_k ?_
  intro K19 hK19
  refine wp_region_sq [0, 1, 2, 3, 4, 5, 6, 7, 8, 9, 10, 11, 12] (by kernel_rfl) ?_
  refine wpSq_call rfl (by kernel_rfl) fun K hK => ?_
  go_big_move; refine hK _ _ rfl ?_; clear hK K
  refine wpSq_call rfl (by kernel_rfl) fun K hK => ?_
  go_big_op; refine hK _ _ rfl ?_; clear hK K
  refine wpSq_call rfl (by kernel_rfl) fun K hK => ?_
  go_big_move; refine hK _ _ rfl ?_; clear hK K
  refine wpSq_call rfl (by kernel_rfl) fun K hK => ?_
  go_big_move; refine hK _ _ rfl ?_; clear hK K
  refine wpSq_call rfl (by kernel_rfl) fun K hK => ?_
  go_big_move; refine hK _ _ rfl ?_; clear hK K
  refine wpSq_call rfl (by kernel_rfl) fun K hK => ?_
  go_big_op; refine hK _ _ rfl ?_; clear hK K
  refine wpSq_call rfl (by kernel_rfl) fun K hK => ?_
  go_big_op; refine hK _ _ rfl ?_; clear hK K
  refine wpSq_call rfl (by kernel_rfl) fun K hK => ?_
  go_big_move; refine hK _ _ rfl ?_; clear hK K
  refine wpSq_call rfl (by kernel_rfl) fun K hK => ?_
  go_big_move; refine hK _ _ rfl ?_; clear hK K
  refine wpSq_call rfl (by kernel_rfl) fun K hK => ?_
  go_big_move; refine hK _ _ rfl ?_; clear hK K
  refine wpSq_call rfl (by kernel_rfl) fun K hK => ?_
  go_big_op; refine hK _ _ rfl ?_; clear hK K
  refine wpSq_call rfl (by kernel_rfl) fun K hK => ?_
  go_big_op; refine hK _ _ rfl ?_; clear hK K
  refine wpSq_call rfl (by kernel_rfl) fun K hK => ?_
  go_big_op; refine hK _ _ rfl ?_; clear hK K
  apply wpSq_end
  refine hK19 _ _ ?_
  refine wp_cond_false (congrArg Value.bool (show _ = false from (by first | rfl | assumption | (simp; done) | exact decide_eq_false (by omega) | omega))) ?_
  refine wp_skip ?_
  refine hK18 _ _ ?_
  refine wp_seq_k ?_
  intro K20 hK20
  refine wp_region_sq [0, 1, 2, 3, 4, 5, 6, 7, 8] (by kernel_rfl) ?_
  refine wpSq_call rfl (by kernel_rfl) fun K hK => ?_
  obtain ⟨d0, d1, d2, d3⟩ := x_b1.f4
  go_big_op; refine hK _ _ rfl ?_; clear hK K d0 d1 d2 d3
  refine wpSq_call rfl (by kernel_rfl) fun K hK => ?_
  obtain ⟨d0, d1, d2, d3⟩ := x_b2.f4
  go_big_op; refine hK _ _ rfl ?_; clear hK K d0 d1 d2 d3
  refine wpSq_call rfl (by kernel_rfl) fun K hK => ?_
  go_big_op
  go_fit (fQuo_zero (PN.mk' ha1 ha2) (PN.mk' hq1 hq2) (by omega) (by omega) (by omega) (by omega) HY.out HV.out)
  rintro e w_33 ⟨rfl, hb_33⟩
  replace ha1 := ha1.bl hb_33; replace ha2 := ha2.bl hb_33; replace hq1 := hq1.bl hb_33; replace hq2 := hq2.bl hb_33; replace x_b1 := x_b1.bl hb_33; replace x_b2 := x_b2.bl hb_33; replace hb := hb.trans (hb_33.mono hb.size)
  refine hK _ _ rfl ?_
  clear hK K hb_33
  refine wpSq_call rfl (by kernel_rfl) fun K hK => ?_
  go_big_move; refine hK _ _ rfl ?_; clear hK K
  refine wpSq_call rfl (by kernel_rfl) fun K hK => ?_
  go_big_op; refine hK _ _ rfl ?_; clear hK K
  refine wpSq_call rfl (by kernel_rfl) fun K hK => ?_
  go_big_op; refine hK _ _ rfl ?_; clear hK K
  refine wpSq_call rfl (by kernel_rfl) fun K hK => ?_
  go_big_op
  have lt_b1 := x_b1.lt
  have lt_b2 := x_b2.lt
  obtain ⟨p_b11, w_34, eP, eW, x_b11, hn, kb_b11⟩ := newBox w_33 #[.bool false, .slice none 0 0, .bool false, .slice none 0 0] 26 hb.size
  have ne_b1_b11 : Hid (p_b1 ≠ p_b11) := Nat.ne_of_lt (eP ▸ lt_b1)
  have ne_b2_b11 : Hid (p_b2 ≠ p_b11) := Nat.ne_of_lt (eP ▸ lt_b2)
  rw [eW, eP]
  clear eW eP lt_b1 lt_b2
  replace ha1 := ha1.bl hn; replace ha2 := ha2.bl hn; replace hq1 := hq1.bl hn; replace hq2 := hq2.bl hn; replace x_b1 := x_b1.bl hn; replace x_b2 := x_b2.bl hn; replace hb := hb.trans (hn.mono hb.size)
  refine hK _ _ rfl ?_; clear hK K hn
  refine wpSq_call rfl (by kernel_rfl) fun K hK => ?_
  obtain ⟨d0, d1, d2, d3⟩ := x_b11.f4
  have f0 := x_b11.free 0; have f1 := x_b11.free 1; have f2 := x_b11.free 2; have f3 := x_b11.free 3
  go_big_op
  have hnd := x_b11.nod rfl rfl
  obtain ⟨w_35, eW, x_b11', ho⟩ : ∃ w', ((((w_34.setCell ⟨p_b11, 0, none⟩ (.bool false)).setCell ⟨p_b11, 1, none⟩ (.slice none 0 0)).setCell ⟨p_b11, 2, none⟩ (.bool false)).setCell ⟨p_b11, 3, none⟩ (.slice none 0 0)) = w' ∧ Bs w' p_b11 #[.bool false, .slice none 0 0, .bool false, .slice none 0 0] 26 ∧ Only p_b11 w_34 w' := x_b11.setN [(0, .bool false), (1, .slice none 0 0), (2, .bool false), (3, .slice none 0 0)]
  rw [eW]; clear eW d0 d1 d2 d3 f0 f1 f2 f3 x_b11
  have x_b11 := x_b11'; clear x_b11'
  replace ha1 := ha1.fr hnd ho; replace ha2 := ha2.fr hnd ho; replace hq1 := hq1.fr hnd ho; replace hq2 := hq2.fr hnd ho; replace x_b1 := x_b1.frame ho ne_b1_b11; replace x_b2 := x_b2.frame ho ne_b2_b11; replace hb := belowOnly hb ho kb_b11
  refine hK _ _ rfl ?_; clear hK K ho hnd
  refine wpSq_call rfl (by kernel_rfl) fun K hK => ?_
  go_big_move; refine hK _ _ rfl ?_; clear hK K
  apply wpSq_end
  refine hK20 _ _ ?_
  refine wp_seq_k ?_
  intro K21 hK21
  refine wp_seq_k ?_
  intro K22 hK22
  refine wp_region_sq [0, 1, 2, 3] (by kernel_rfl) ?_
  refine wpSq_call rfl (by kernel_rfl) fun K hK => ?_
  go_big_op; refine hK _ _ rfl ?_; clear hK K
  refine wpSq_call rfl (by kernel_rfl) fun K hK => ?_
  obtain ⟨d0, d1, d2, d3⟩ := x_b2.f4
  go_big_op; refine hK _ _ rfl ?_; clear hK K d0 d1 d2 d3
  refine wpSq_call rfl (by kernel_rfl) fun K hK => ?_
  go_big_op
  go_fit (zsign_any hq1 (by omega) )
  rintro e w_36 ⟨rfl, hb_36⟩
  replace ha1 := ha1.bl hb_36; replace ha2 := ha2.bl hb_36; replace hq1 := hq1.bl hb_36; replace hq2 := hq2.bl hb_36; replace x_b1 := x_b1.bl hb_36; replace x_b2 := x_b2.bl hb_36; replace x_b11 := x_b11.bl hb_36; replace hb := hb.trans (hb_36.mono hb.size)
  refine hK _ _ rfl ?_
  clear hK K hb_36
  refine wpSq_call rfl (by kernel_rfl) fun K hK => ?_
  go_big_op; refine hK _ _ rfl ?_; clear hK K
  apply wpSq_end
  refine hK22 _ _ ?_
  refine wp_cond_true (congrArg Value.bool (show _ = true from (by first | rfl | assumption | (simp; done) | exact decide_eq_true (by omega) | omega))) ?_
  refine wp_seq_k ?_
  intro K23 hK23
  refine wp_region_sq [0, 1, 2] (by kernel_rfl) ?_
  refine wpSq_call rfl (by kernel_rfl) fun K hK => ?_
  go_big_move; refine hK _ _ rfl ?_; clear hK K
  refine wpSq_call rfl (by kernel_rfl) fun K hK => ?_
  go_big_op; refine hK _ _ rfl ?_; clear hK K
  refine wpSq_call rfl (by kernel_rfl) fun K hK => ?_
  go_big_move; refine hK _ _ rfl ?_; clear hK K
  apply wpSq_end
  refine hK23 _ _ ?_
  refine wp_ret ?_
  try dsimp only [Exit.then, Exit.inBlock]
  refine bodyPost_ret (v := (.bool true)) (by simp [results, Tryd.results3, go_sem]) rfl ?_
  exact ⟨rfl, hb⟩
set_option maxHeartbeats 8000000 in
set_option maxRecDepth 20000 in
theorem field_some (ha : PN w va x l y m) (hq : PN w vb u k v n) (hc : PN w vc p s q t) (hl : l ≤ 1048576) (hm : m ≤ 1048576) (hk : k ≤ 1048576) (hn : n ≤ 1048576) (hs : s ≤ 1048576) (ht : t ≤ 1048576) (hy : y ≠ 0) (hv : v ≠ 0) (hq0 : q ≠ 0) (hu : u ≠ 0) (htab : Lib.TabIs Tryd.prog w p10 .u64 Lib.pow10Tab) :
    Calls Tryd.prog 3 #[va, vb, vc] w fun e w' => e = .returned (.bool true) ∧ Below w.heap.size w w' := by
  have htabs := Lib.tabBelow_of_tabIs htab
  obtain ⟨S1, S2, hS, lS, nS, rS⟩ := add_facts (x := u) (u := p) hv hq0
  obtain ⟨L1, L2, hL, lL, nL, rL⟩ := mul_facts (x := x) (u := S1) hy nS
  obtain ⟨P1, P2, hP, lP, nP, rP⟩ := mul_facts (x := x) (u := u) hy hv
  obtain ⟨R1, R2, hR, lR, nR, rR⟩ := mul_facts (x := x) (u := p) hy hq0
  obtain ⟨T1, T2, hT, lT, nT, rT⟩ := add_facts (x := P1) (u := R1) nP nR
  have hLT : L1 = T1 ∧ L2 = T2 := low_rv lL lT (by rw [rL, rT, rS, rP, rR]; grind)
  obtain ⟨X1, X2, hX, lX, nX, rX⟩ := add_facts (x := x) (u := p) hy hq0
  have hCX : qcmp X1 X2 S1 S2 = qcmp x y u v := by rw [qcmp_rv nX nS, rX, rS, rcmp_add, ← qcmp_rv hy hv]
  have hCK : qcmp u v x y = -qcmp x y u v := by rw [qcmp_rv hv hy, rcmp_swap, ← qcmp_rv hy hv]
  have hcb : -1 ≤ qcmp x y u v ∧ qcmp x y u v ≤ 1 := by rw [qcmp_rv hy hv]; unfold rcmp; (repeat' split) <;> decide
  obtain ⟨U1, U2, hU, lU, nU, rU⟩ := quo_facts (x := x) (v := v) hy hu
  have hur := rv_ne hu hv
  have EV := hide (q_rv (x := U1 * u) (y := U2 * v) (u := x) (v := y) (Int.mul_ne_zero nU hv) hy (by rw [rv_mul, rU]; grind))
  have HMU := hide (Int.mul_ne_zero hu hy)
  have HU := hide (show (u.sign == 0) = false by simpa using hu)
  have NU := hide (Int.mul_ne_zero nU hv)
  have EU := hide hU
  obtain ⟨C, hC⟩ : ∃ C, qcmp x y u v = C := ⟨_, rfl⟩
  rw [hC] at hCX hCK hcb
  have HC := hide hC
  have HCX := hide hCX
  have HCK := hide hCK
  have d1 : (C != C) = false := by simp
  have d2 : (-C != -C) = false := by simp
  have e1 : wrap64 (-C) = -C := by unfold wrap64; omega
  have e2 : IntKind.i64.wrap (-C) = -C := by rw [IntKind.wrap_i64]; omega
  have HY := hide hy
  have HV := hide hv
  have HQ := hide hq0
  have H1 := hide (Int.mul_ne_zero hv hq0)
  have H2 := hide (Int.mul_ne_zero hy nS)
  have H3 := hide (Int.mul_ne_zero hy hv)
  have H4 := hide (Int.mul_ne_zero hy hq0)
  have H5 := hide (Int.mul_ne_zero nP nR)
  have NX := hide nX
  have NS := hide nS
  have ES := hide hS
  have EL := hide hL
  have EP := hide hP
  have ER := hide hR
  have ET := hide hT
  have EX := hide hX
  have ELT := hide hLT
  have LT := hide lT
  clear hy hv hq0 hS lS nS rS hL lL nL rL hP lP nP rP hR lR nR rR hT lT nT rT hLT hX lX nX rX hCX hCK hcb hC hu hU lU nU rU hur
  obtain ⟨n_0a, o_0a, k_0a, c_0a, n_0b, o_0b, k_0b, c_0b, rfl, ha1, ha2⟩ := ha
  obtain ⟨n_1a, o_1a, k_1a, c_1a, n_1b, o_1b, k_1b, c_1b, rfl, hq1, hq2⟩ := hq
  obtain ⟨n_2a, o_2a, k_2a, c_2a, n_2b, o_2b, k_2b, c_2b, rfl, hc1, hc2⟩ := hc
  go_enter Tryd.func3, Tryd.ntmps3
  have hb := Below.refl w.heap.size w
  refine wp_seq_k ?_
  intro K1 hK1
  refine wp_region_sq [0, 1, 2, 3] (by kernel_rfl) ?_
  refine wpSq_call rfl (by kernel_rfl) fun K hK => ?_
  go_big_op
  obtain ⟨p_b1, w_1, eP, eW, x_b1, hn, kb_b1⟩ := newBox w #[.bool n_0a, .slice o_0a k_0a c_0a, .bool n_0b, .slice o_0b k_0b c_0b] 26 hb.size
  rw [eW, eP]
  clear eW eP
  replace ha1 := ha1.bl hn; replace ha2 := ha2.bl hn; replace hq1 := hq1.bl hn; replace hq2 := hq2.bl hn; replace hc1 := hc1.bl hn; replace hc2 := hc2.bl hn; replace hb := hb.trans (hn.mono hb.size)
  refine hK _ _ rfl ?_; clear hK K hn
  refine wpSq_call rfl (by kernel_rfl) fun K hK => ?_
  go_big_op
  have lt_b1 := x_b1.lt
  obtain ⟨p_b2, w_2, eP, eW, x_b2, hn, kb_b2⟩ := newBox w_1 #[.bool n_1a, .slice o_1a k_1a c_1a, .bool n_1b, .slice o_1b k_1b c_1b] 26 hb.size
  have ne_b1_b2 : Hid (p_b1 ≠ p_b2) := Nat.ne_of_lt (eP ▸ lt_b1)
  rw [eW, eP]
  clear eW eP lt_b1
  replace ha1 := ha1.bl hn; replace ha2 := ha2.bl hn; replace hq1 := hq1.bl hn; replace hq2 := hq2.bl hn; replace hc1 := hc1.bl hn; replace hc2 := hc2.bl hn; replace x_b1 := x_b1.bl hn; replace hb := hb.trans (hn.mono hb.size)
  refine hK _ _ rfl ?_; clear hK K hn
  refine wpSq_call rfl (by kernel_rfl) fun K hK => ?_
  go_big_op
  have lt_b1 := x_b1.lt
  have lt_b2 := x_b2.lt
  obtain ⟨p_b3, w_3, eP, eW, x_b3, hn, kb_b3⟩ := newBox w_2 #[.bool n_2a, .slice o_2a k_2a c_2a, .bool n_2b, .slice o_2b k_2b c_2b] 26 hb.size
  have ne_b1_b3 : Hid (p_b1 ≠ p_b3) := Nat.ne_of_lt (eP ▸ lt_b1)
  have ne_b2_b3 : Hid (p_b2 ≠ p_b3) := Nat.ne_of_lt (eP ▸ lt_b2)
  rw [eW, eP]
  clear eW eP lt_b1 lt_b2
  replace ha1 := ha1.bl hn; replace ha2 := ha2.bl hn; replace hq1 := hq1.bl hn; replace hq2 := hq2.bl hn; replace hc1 := hc1.bl hn; replace hc2 := hc2.bl hn; replace x_b1 := x_b1.bl hn; replace x_b2 := x_b2.bl hn; replace hb := hb.trans (hn.mono hb.size)
  refine hK _ _ rfl ?_; clear hK K hn
  refine wpSq_call rfl (by kernel_rfl) fun K hK => ?_
  go_big_move; refine hK _ _ rfl ?_; clear hK K
  apply wpSq_end
  refine hK1 _ _ ?_
  refine wp_seq_k ?_
  intro K2 hK2
  refine wp_seq_k ?_
  intro K3 hK3
  refine wp_region_sq [0, 1] (by kernel_rfl) ?_
  refine wpSq_call rfl (by kernel_rfl) fun K hK => ?_
  go_big_op
  go_fit (fawake_any _ (htabs _ hb))
  rintro e w_4 ⟨rfl, hb_4⟩
  replace ha1 := ha1.bl hb_4; replace ha2 := ha2.bl hb_4; replace hq1 := hq1.bl hb_4; replace hq2 := hq2.bl hb_4; replace hc1 := hc1.bl hb_4; replace hc2 := hc2.bl hb_4; replace x_b1 := x_b1.bl hb_4; replace x_b2 := x_b2.bl hb_4; replace x_b3 := x_b3.bl hb_4; replace hb := hb.trans (hb_4.mono hb.size)
  refine hK _ _ rfl ?_
  clear hK K hb_4
  refine wpSq_call rfl (by kernel_rfl) fun K hK => ?_
  go_big_op; refine hK _ _ rfl ?_; clear hK K
  apply wpSq_end
  refine hK3 _ _ ?_
  refine wp_cond_false (congrArg Value.bool (show _ = false from (by first | rfl | assumption | (simp; done) | exact decide_eq_false (by omega) | omega))) ?_
  refine wp_skip ?_
  refine hK2 _ _ ?_
  refine wp_seq_k ?_
  intro K4 hK4
  refine wp_seq_k ?_
  intro K5 hK5
  refine wp_region_sq [0, 1, 2, 3, 4, 5, 6, 7, 8, 9] (by kernel_rfl) ?_
  refine wpSq_call rfl (by kernel_rfl) fun K hK => ?_
  obtain ⟨d0, d1, d2, d3⟩ := x_b1.f4
  go_big_op; refine hK _ _ rfl ?_; clear hK K d0 d1 d2 d3
  refine wpSq_call rfl (by kernel_rfl) fun K hK => ?_
  go_big_op
  go_fit (rbad_no (PN.mk' ha1 ha2) (by omega) (by omega) HY.out)
  rintro e w_5 ⟨rfl, hb_5⟩
  replace ha1 := ha1.bl hb_5; replace ha2 := ha2.bl hb_5; replace hq1 := hq1.bl hb_5; replace hq2 := hq2.bl hb_5; replace hc1 := hc1.bl hb_5; replace hc2 := hc2.bl hb_5; replace x_b1 := x_b1.bl hb_5; replace x_b2 := x_b2.bl hb_5; replace x_b3 := x_b3.bl hb_5; replace hb := hb.trans (hb_5.mono hb.size)
  refine hK _ _ rfl ?_
  clear hK K hb_5
  refine wpSq_call rfl (by kernel_rfl) fun K hK => ?_
  go_big_move; refine hK _ _ rfl ?_; clear hK K
  refine wpSq_call rfl (by kernel_rfl) fun K hK => ?_
  obtain ⟨d0, d1, d2, d3⟩ := x_b2.f4
  go_big_op; refine hK _ _ rfl ?_; clear hK K d0 d1 d2 d3
  refine wpSq_call rfl (by kernel_rfl) fun K hK => ?_
  go_big_op
  go_fit (rbad_no (PN.mk' hq1 hq2) (by omega) (by omega) HV.out)
  rintro e w_6 ⟨rfl, hb_6⟩
  replace ha1 := ha1.bl hb_6; replace ha2 := ha2.bl hb_6; replace hq1 := hq1.bl hb_6; replace hq2 := hq2.bl hb_6; replace hc1 := hc1.bl hb_6; replace hc2 := hc2.bl hb_6; replace x_b1 := x_b1.bl hb_6; replace x_b2 := x_b2.bl hb_6; replace x_b3 := x_b3.bl hb_6; replace hb := hb.trans (hb_6.mono hb.size)
  refine hK _ _ rfl ?_
  clear hK K hb_6
  refine wpSq_call rfl (by kernel_rfl) fun K hK => ?_
  go_big_op; refine hK _ _ rfl ?_; clear hK K
  refine wpSq_call rfl (by kernel_rfl) fun K hK => ?_
  go_big_move; refine hK _ _ rfl ?_; clear hK K
  refine wpSq_call rfl (by kernel_rfl) fun K hK => ?_
  obtain ⟨d0, d1, d2, d3⟩ := x_b3.f4
  go_big_op; refine hK _ _ rfl ?_; clear hK K d0 d1 d2 d3
  refine wpSq_call rfl (by kernel_rfl) fun K hK => ?_
  go_big_op
  go_fit (rbad_no (PN.mk' hc1 hc2) (by omega) (by omega) HQ.out)
  rintro e w_7 ⟨rfl, hb_7⟩
  replace ha1 := ha1.bl hb_7; replace ha2 := ha2.bl hb_7; replace hq1 := hq1.bl hb_7; replace hq2 := hq2.bl hb_7; replace hc1 := hc1.bl hb_7; replace hc2 := hc2.bl hb_7; replace x_b1 := x_b1.bl hb_7; replace x_b2 := x_b2.bl hb_7; replace x_b3 := x_b3.bl hb_7; replace hb := hb.trans (hb_7.mono hb.size)
  refine hK _ _ rfl ?_
  clear hK K hb_7
  refine wpSq_call rfl (by kernel_rfl) fun K hK => ?_
  go_big_op; refine hK _ _ rfl ?_; clear hK K
  apply wpSq_end
  refine hK5 _ _ ?_
  refine wp_cond_false (congrArg Value.bool (show _ = false from (by first | rfl | assumption | (simp; done) | exact decide_eq_false (by omega) | omega))) ?_
  refine wp_skip ?_
  refine hK4 _ _ ?_
  refine wp_seq_k ?_
  intro K6 hK6
  refine wp_region_sq [0, 1, 2, 3, 4, 5, 6, 7, 8] (by kernel_rfl) ?_
  refine wpSq_call rfl (by kernel_rfl) fun K hK => ?_
  obtain ⟨d0, d1, d2, d3⟩ := x_b2.f4
  go_big_op; refine hK _ _ rfl ?_; clear hK K d0 d1 d2 d3
  refine wpSq_call rfl (by kernel_rfl) fun K hK => ?_
  obtain ⟨d0, d1, d2, d3⟩ := x_b3.f4
  go_big_op; refine hK _ _ rfl ?_; clear hK K d0 d1 d2 d3
  refine wpSq_call rfl (by kernel_rfl) fun K hK => ?_
  go_big_op
  go_fit (fAdd_any (PN.mk' hq1 hq2) (PN.mk' hc1 hc2) (by omega) (by omega) (by omega) (by omega) H1.out)
  rintro e w_8 ⟨_, rfl, ⟨n_aa, o_aa, k_aa, c_aa, n_ab, o_ab, k_ab, c_ab, rfl, a1, a2⟩, hb_8⟩
  replace ha1 := ha1.bl hb_8; replace ha2 := ha2.bl hb_8; replace hq1 := hq1.bl hb_8; replace hq2 := hq2.bl hb_8; replace hc1 := hc1.bl hb_8; replace hc2 := hc2.bl hb_8; replace x_b1 := x_b1.bl hb_8; replace x_b2 := x_b2.bl hb_8; replace x_b3 := x_b3.bl hb_8; replace hb := hb.trans (hb_8.mono hb.size)
  have La1 := hide (a1.lenOf (qN_len (H1.out) (zlen_opAdd (zlen_mul (hq1.len) (hc2.len)) (zlen_mul (hc1.len) (hq2.len)))))
  have La2 := hide (a2.lenOf (qD_len (H1.out) (zlen_mul (hq2.len) (hc2.len))))
  rw [ES.out.1] at a1 La1
  rw [ES.out.2] at a2 La2
  refine hK _ _ rfl ?_
  clear hK K hb_8
  refine wpSq_call rfl (by kernel_rfl) fun K hK => ?_
  go_big_move; refine hK _ _ rfl ?_; clear hK K
  refine wpSq_call rfl (by kernel_rfl) fun K hK => ?_
  go_big_op; refine hK _ _ rfl ?_; clear hK K
  refine wpSq_call rfl (by kernel_rfl) fun K hK => ?_
  go_big_op; refine hK _ _ rfl ?_; clear hK K
  refine wpSq_call rfl (by kernel_rfl) fun K hK => ?_
  go_big_op
  have lt_b1 := x_b1.lt
  have lt_b2 := x_b2.lt
  have lt_b3 := x_b3.lt
  obtain ⟨p_b4, w_9, eP, eW, x_b4, hn, kb_b4⟩ := newBox w_8 #[.bool false, .slice none 0 0, .bool false, .slice none 0 0] 26 hb.size
  have ne_b1_b4 : Hid (p_b1 ≠ p_b4) := Nat.ne_of_lt (eP ▸ lt_b1)
  have ne_b2_b4 : Hid (p_b2 ≠ p_b4) := Nat.ne_of_lt (eP ▸ lt_b2)
  have ne_b3_b4 : Hid (p_b3 ≠ p_b4) := Nat.ne_of_lt (eP ▸ lt_b3)
  rw [eW, eP]
  clear eW eP lt_b1 lt_b2 lt_b3
  replace ha1 := ha1.bl hn; replace ha2 := ha2.bl hn; replace hq1 := hq1.bl hn; replace hq2 := hq2.bl hn; replace hc1 := hc1.bl hn; replace hc2 := hc2.bl hn; replace x_b1 := x_b1.bl hn; replace x_b2 := x_b2.bl hn; replace x_b3 := x_b3.bl hn; replace a1 := a1.bl hn; replace a2 := a2.bl hn; replace hb := hb.trans (hn.mono hb.size)
  refine hK _ _ rfl ?_; clear hK K hn
  refine wpSq_call rfl (by kernel_rfl) fun K hK => ?_
  obtain ⟨d0, d1, d2, d3⟩ := x_b4.f4
  have f0 := x_b4.free 0; have f1 := x_b4.free 1; have f2 := x_b4.free 2; have f3 := x_b4.free 3
  go_big_op
  have hnd := x_b4.nod rfl rfl
  obtain ⟨w_10, eW, x_b4', ho⟩ : ∃ w', ((((w_9.setCell ⟨p_b4, 0, none⟩ (.bool n_aa)).setCell ⟨p_b4, 1, none⟩ (.slice o_aa k_aa c_aa)).setCell ⟨p_b4, 2, none⟩ (.bool n_ab)).setCell ⟨p_b4, 3, none⟩ (.slice o_ab k_ab c_ab)) = w' ∧ Bs w' p_b4 #[.bool n_aa, .slice o_aa k_aa c_aa, .bool n_ab, .slice o_ab k_ab c_ab] 26 ∧ Only p_b4 w_9 w' := x_b4.setN [(0, .bool n_aa), (1, .slice o_aa k_aa c_aa), (2, .bool n_ab), (3, .slice o_ab k_ab c_ab)]
  rw [eW]; clear eW d0 d1 d2 d3 f0 f1 f2 f3 x_b4
  have x_b4 := x_b4'; clear x_b4'
  replace ha1 := ha1.fr hnd ho; replace ha2 := ha2.fr hnd ho; replace hq1 := hq1.fr hnd ho; replace hq2 := hq2.fr hnd ho; replace hc1 := hc1.fr hnd ho; replace hc2 := hc2.fr hnd ho; replace x_b1 := x_b1.frame ho ne_b1_b4; replace x_b2 := x_b2.frame ho ne_b2_b4; replace x_b3 := x_b3.frame ho ne_b3_b4; replace a1 := a1.fr hnd ho; replace a2 := a2.fr hnd ho; replace hb := belowOnly hb ho kb_b4
  refine hK _ _ rfl ?_; clear hK K ho hnd
  refine wpSq_call rfl (by kernel_rfl) fun K hK => ?_
  go_big_move; refine hK _ _ rfl ?_; clear hK K
  apply wpSq_end
  refine hK6 _ _ ?_
  refine wp_seq_k ?_
  intro K7 hK7
  refine wp_region_sq [0, 1, 2, 3, 4, 5, 6, 7, 8] (by kernel_rfl) ?_
  refine wpSq_call rfl (by kernel_rfl) fun K hK => ?_
  obtain ⟨d0, d1, d2, d3⟩ := x_b1.f4
  go_big_op; refine hK _ _ rfl ?_; clear hK K d0 d1 d2 d3
  refine wpSq_call rfl (by kernel_rfl) fun K hK => ?_
  obtain ⟨d0, d1, d2, d3⟩ := x_b4.f4
  go_big_op; refine hK _ _ rfl ?_; clear hK K d0 d1 d2 d3
  refine wpSq_call rfl (by kernel_rfl) fun K hK => ?_
  go_big_op
  go_fit (fMul_any (PN.mk' ha1 ha2) (PN.mk' (a1.zn La1.out) (a2.zn La2.out)) (by omega) (by omega) (by omega) (by omega) H2.out)
  rintro e w_11 ⟨_, rfl, ⟨n_ba, o_ba, k_ba, c_ba, n_bb, o_bb, k_bb, c_bb, rfl, b1, b2⟩, hb_11⟩
  clear x_b4
  replace ha1 := ha1.bl hb_11; replace ha2 := ha2.bl hb_11; replace hq1 := hq1.bl hb_11; replace hq2 := hq2.bl hb_11; replace hc1 := hc1.bl hb_11; replace hc2 := hc2.bl hb_11; replace x_b1 := x_b1.bl hb_11; replace x_b2 := x_b2.bl hb_11; replace x_b3 := x_b3.bl hb_11; replace a1 := a1.bl hb_11; replace a2 := a2.bl hb_11; replace hb := hb.trans (hb_11.mono hb.size)
  have Lb1 := hide (b1.lenOf (qN_len (H2.out) (zlen_mul (ha1.len) (La1.out))))
  have Lb2 := hide (b2.lenOf (qD_len (H2.out) (zlen_mul (ha2.len) (La2.out))))
  rw [EL.out.1, ELT.out.1] at b1 Lb1
  rw [EL.out.2, ELT.out.2] at b2 Lb2
  refine hK _ _ rfl ?_
  clear hK K hb_11
  refine wpSq_call rfl (by kernel_rfl) fun K hK => ?_
  go_big_move; refine hK _ _ rfl ?_; clear hK K
  refine wpSq_call rfl (by kernel_rfl) fun K hK => ?_
  go_big_op; refine hK _ _ rfl ?_; clear hK K
  refine wpSq_call rfl (by kernel_rfl) fun K hK => ?_
  go_big_op; refine hK _ _ rfl ?_; clear hK K
  refine wpSq_call rfl (by kernel_rfl) fun K hK => ?_
  go_big_op
  clear a1 a2
  have lt_b1 := x_b1.lt
  have lt_b2 := x_b2.lt
  have lt_b3 := x_b3.lt
  obtain ⟨p_b5, w_12, eP, eW, x_b5, hn, kb_b5⟩ := newBox w_11 #[.bool false, .slice none 0 0, .bool false, .slice none 0 0] 26 hb.size
  have ne_b1_b5 : Hid (p_b1 ≠ p_b5) := Nat.ne_of_lt (eP ▸ lt_b1)
  have ne_b2_b5 : Hid (p_b2 ≠ p_b5) := Nat.ne_of_lt (eP ▸ lt_b2)
  have ne_b3_b5 : Hid (p_b3 ≠ p_b5) := Nat.ne_of_lt (eP ▸ lt_b3)
  rw [eW, eP]
  clear eW eP lt_b1 lt_b2 lt_b3
  replace ha1 := ha1.bl hn; replace ha2 := ha2.bl hn; replace hq1 := hq1.bl hn; replace hq2 := hq2.bl hn; replace hc1 := hc1.bl hn; replace hc2 := hc2.bl hn; replace x_b1 := x_b1.bl hn; replace x_b2 := x_b2.bl hn; replace x_b3 := x_b3.bl hn; replace b1 := b1.bl hn; replace b2 := b2.bl hn; replace hb := hb.trans (hn.mono hb.size)
  refine hK _ _ rfl ?_; clear hK K hn
  refine wpSq_call rfl (by kernel_rfl) fun K hK => ?_
  obtain ⟨d0, d1, d2, d3⟩ := x_b5.f4
  have f0 := x_b5.free 0; have f1 := x_b5.free 1; have f2 := x_b5.free 2; have f3 := x_b5.free 3
  go_big_op
  have hnd := x_b5.nod rfl rfl
  obtain ⟨w_13, eW, x_b5', ho⟩ : ∃ w', ((((w_12.setCell ⟨p_b5, 0, none⟩ (.bool n_ba)).setCell ⟨p_b5, 1, none⟩ (.slice o_ba k_ba c_ba)).setCell ⟨p_b5, 2, none⟩ (.bool n_bb)).setCell ⟨p_b5, 3, none⟩ (.slice o_bb k_bb c_bb)) = w' ∧ Bs w' p_b5 #[.bool n_ba, .slice o_ba k_ba c_ba, .bool n_bb, .slice o_bb k_bb c_bb] 26 ∧ Only p_b5 w_12 w' := x_b5.setN [(0, .bool n_ba), (1, .slice o_ba k_ba c_ba), (2, .bool n_bb), (3, .slice o_bb k_bb c_bb)]
  rw [eW]; clear eW d0 d1 d2 d3 f0 f1 f2 f3 x_b5
  have x_b5 := x_b5'; clear x_b5'
  replace ha1 := ha1.fr hnd ho; replace ha2 := ha2.fr hnd ho; replace hq1 := hq1.fr hnd ho; replace hq2 := hq2.fr hnd ho; replace hc1 := hc1.fr hnd ho; replace hc2 := hc2.fr hnd ho; replace x_b1 := x_b1.frame ho ne_b1_b5; replace x_b2 := x_b2.frame ho ne_b2_b5; replace x_b3 := x_b3.frame ho ne_b3_b5; replace b1 := b1.fr hnd ho; replace b2 := b2.fr hnd ho; replace hb := belowOnly hb ho kb_b5
  refine hK _ _ rfl ?_; clear hK K ho hnd
  refine wpSq_call rfl (by kernel_rfl) fun K hK => ?_
  go_big_move; refine hK _ _ rfl ?_; clear hK K
  apply wpSq_end
  refine hK7 _ _ ?_
  refine wp_seq_k ?_
  intro K8 hK8
  refine wp_region_sq [0, 1, 2, 3, 4, 5, 6, 7, 8] (by kernel_rfl) ?_
  refine wpSq_call rfl (by kernel_rfl) fun K hK => ?_
  obtain ⟨d0, d1, d2, d3⟩ := x_b1.f4
  go_big_op; refine hK _ _ rfl ?_; clear hK K d0 d1 d2 d3
  refine wpSq_call rfl (by kernel_rfl) fun K hK => ?_
  obtain ⟨d0, d1, d2, d3⟩ := x_b2.f4
  go_big_op; refine hK _ _ rfl ?_; clear hK K d0 d1 d2 d3
  refine wpSq_call rfl (by kernel_rfl) fun K hK => ?_
  go_big_op
  go_fit (fMul_any (PN.mk' ha1 ha2) (PN.mk' hq1 hq2) (by omega) (by omega) (by omega) (by omega) H3.out)
  rintro e w_14 ⟨_, rfl, ⟨n_ca, o_ca, k_ca, c_ca, n_cb, o_cb, k_cb, c_cb, rfl, c1, c2⟩, hb_14⟩
  replace ha1 := ha1.bl hb_14; replace ha2 := ha2.bl hb_14; replace hq1 := hq1.bl hb_14; replace hq2 := hq2.bl hb_14; replace hc1 := hc1.bl hb_14; replace hc2 := hc2.bl hb_14; replace x_b1 := x_b1.bl hb_14; replace x_b2 := x_b2.bl hb_14; replace x_b3 := x_b3.bl hb_14; replace b1 := b1.bl hb_14; replace b2 := b2.bl hb_14; replace x_b5 := x_b5.bl hb_14; replace hb := hb.trans (hb_14.mono hb.size)
  have Lc1 := hide (c1.lenOf (qN_len (H3.out) (zlen_mul (ha1.len) (hq1.len))))
  have Lc2 := hide (c2.lenOf (qD_len (H3.out) (zlen_mul (ha2.len) (hq2.len))))
  rw [EP.out.1] at c1 Lc1
  rw [EP.out.2] at c2 Lc2
  refine hK _ _ rfl ?_
  clear hK K hb_14
  refine wpSq_call rfl (by kernel_rfl) fun K hK => ?_
  go_big_move; refine hK _ _ rfl ?_; clear hK K
  refine wpSq_call rfl (by kernel_rfl) fun K hK => ?_
  go_big_op; refine hK _ _ rfl ?_; clear hK K
  refine wpSq_call rfl (by kernel_rfl) fun K hK => ?_
  go_big_op; refine hK _ _ rfl ?_; clear hK K
  refine wpSq_call rfl (by kernel_rfl) fun K hK => ?_
  go_big_op
  have lt_b1 := x_b1.lt
  have lt_b2 := x_b2.lt
  have lt_b3 := x_b3.lt
  have lt_b5 := x_b5.lt
  obtain ⟨p_b6, w_15, eP, eW, x_b6, hn, kb_b6⟩ := newBox w_14 #[.bool false, .slice none 0 0, .bool false, .slice none 0 0] 26 hb.size
  have ne_b1_b6 : Hid (p_b1 ≠ p_b6) := Nat.ne_of_lt (eP ▸ lt_b1)
  have ne_b2_b6 : Hid (p_b2 ≠ p_b6) := Nat.ne_of_lt (eP ▸ lt_b2)
  have ne_b3_b6 : Hid (p_b3 ≠ p_b6) := Nat.ne_of_lt (eP ▸ lt_b3)
  have ne_b5_b6 : Hid (p_b5 ≠ p_b6) := Nat.ne_of_lt (eP ▸ lt_b5)
  rw [eW, eP]
  clear eW eP lt_b1 lt_b2 lt_b3 lt_b5
  replace ha1 := ha1.bl hn; replace ha2 := ha2.bl hn; replace hq1 := hq1.bl hn; replace hq2 := hq2.bl hn; replace hc1 := hc1.bl hn; replace hc2 := hc2.bl hn; replace x_b1 := x_b1.bl hn; replace x_b2 := x_b2.bl hn; replace x_b3 := x_b3.bl hn; replace b1 := b1.bl hn; replace b2 := b2.bl hn; replace x_b5 := x_b5.bl hn; replace c1 := c1.bl hn; replace c2 := c2.bl hn; replace hb := hb.trans (hn.mono hb.size)
  refine hK _ _ rfl ?_; clear hK K hn
  refine wpSq_call rfl (by kernel_rfl) fun K hK => ?_
  obtain ⟨d0, d1, d2, d3⟩ := x_b6.f4
  have f0 := x_b6.free 0; have f1 := x_b6.free 1; have f2 := x_b6.free 2; have f3 := x_b6.free 3
  go_big_op
  have hnd := x_b6.nod rfl rfl
  obtain ⟨w_16, eW, x_b6', ho⟩ : ∃ w', ((((w_15.setCell ⟨p_b6, 0, none⟩ (.bool n_ca)).setCell ⟨p_b6, 1, none⟩ (.slice o_ca k_ca c_ca)).setCell ⟨p_b6, 2, none⟩ (.bool n_cb)).setCell ⟨p_b6, 3, none⟩ (.slice o_cb k_cb c_cb)) = w' ∧ Bs w' p_b6 #[.bool n_ca, .slice o_ca k_ca c_ca, .bool n_cb, .slice o_cb k_cb c_cb] 26 ∧ Only p_b6 w_15 w' := x_b6.setN [(0, .bool n_ca), (1, .slice o_ca k_ca c_ca), (2, .bool n_cb), (3, .slice o_cb k_cb c_cb)]
  rw [eW]; clear eW d0 d1 d2 d3 f0 f1 f2 f3 x_b6
  have x_b6 := x_b6'; clear x_b6'
  replace ha1 := ha1.fr hnd ho; replace ha2 := ha2.fr hnd ho; replace hq1 := hq1.fr hnd ho; replace hq2 := hq2.fr hnd ho; replace hc1 := hc1.fr hnd ho; replace hc2 := hc2.fr hnd ho; replace x_b1 := x_b1.frame ho ne_b1_b6; replace x_b2 := x_b2.frame ho ne_b2_b6; replace x_b3 := x_b3.frame ho ne_b3_b6; replace b1 := b1.fr hnd ho; replace b2 := b2.fr hnd ho; replace x_b5 := x_b5.frame ho ne_b5_b6; replace c1 := c1.fr hnd ho; replace c2 := c2.fr hnd ho; replace hb := belowOnly hb ho kb_b6
  refine hK _ _ rfl ?_; clear hK K ho hnd
  refine wpSq_call rfl (by kernel_rfl) fun K hK => ?_
  go_big_move; refine hK _ _ rfl ?_; clear hK K
  apply wpSq_end
  refine hK8 _ _ ?_
  refine wp_seq_k ?_
  intro K9 hK9
  refine wp_region_sq [0, 1, 2, 3, 4, 5, 6, 7, 8] (by kernel_rfl) ?_
  refine wpSq_call rfl (by kernel_rfl) fun K hK => ?_
  obtain ⟨d0, d1, d2, d3⟩ := x_b1.f4
  go_big_op; refine hK _ _ rfl ?_; clear hK K d0 d1 d2 d3
  refine wpSq_call rfl (by kernel_rfl) fun K hK => ?_
  obtain ⟨d0, d1, d2, d3⟩ := x_b3.f4
  go_big_op; refine hK _ _ rfl ?_; clear hK K d0 d1 d2 d3
  refine wpSq_call rfl (by kernel_rfl) fun K hK => ?_
  go_big_op
  go_fit (fMul_any (PN.mk' ha1 ha2) (PN.mk' hc1 hc2) (by omega) (by omega) (by omega) (by omega) H4.out)
  rintro e w_17 ⟨_, rfl, ⟨n_ja, o_ja, k_ja, c_ja, n_jb, o_jb, k_jb, c_jb, rfl, j1, j2⟩, hb_17⟩
  replace ha1 := ha1.bl hb_17; replace ha2 := ha2.bl hb_17; replace hq1 := hq1.bl hb_17; replace hq2 := hq2.bl hb_17; replace hc1 := hc1.bl hb_17; replace hc2 := hc2.bl hb_17; replace x_b1 := x_b1.bl hb_17; replace x_b2 := x_b2.bl hb_17; replace x_b3 := x_b3.bl hb_17; replace b1 := b1.bl hb_17; replace b2 := b2.bl hb_17; replace x_b5 := x_b5.bl hb_17; replace c1 := c1.bl hb_17; replace c2 := c2.bl hb_17; replace x_b6 := x_b6.bl hb_17; replace hb := hb.trans (hb_17.mono hb.size)
  have Lj1 := hide (j1.lenOf (qN_len (H4.out) (zlen_mul (ha1.len) (hc1.len))))
  have Lj2 := hide (j2.lenOf (qD_len (H4.out) (zlen_mul (ha2.len) (hc2.len))))
  rw [ER.out.1] at j1 Lj1
  rw [ER.out.2] at j2 Lj2
  refine hK _ _ rfl ?_
  clear hK K hb_17
  refine wpSq_call rfl (by kernel_rfl) fun K hK => ?_
  go_big_move; refine hK _ _ rfl ?_; clear hK K
  refine wpSq_call rfl (by kernel_rfl) fun K hK => ?_
  go_big_op; refine hK _ _ rfl ?_; clear hK K
  refine wpSq_call rfl (by kernel_rfl) fun K hK => ?_
  go_big_op; refine hK _ _ rfl ?_; clear hK K
  refine wpSq_call rfl (by kernel_rfl) fun K hK => ?_
  go_big_op
  have lt_b1 := x_b1.lt
  have lt_b2 := x_b2.lt
  have lt_b3 := x_b3.lt
  have lt_b5 := x_b5.lt
  have lt_b6 := x_b6.lt
  obtain ⟨p_b7, w_18, eP, eW, x_b7, hn, kb_b7⟩ := newBox w_17 #[.bool false, .slice none 0 0, .bool false, .slice none 0 0] 26 hb.size
  have ne_b1_b7 : Hid (p_b1 ≠ p_b7) := Nat.ne_of_lt (eP ▸ lt_b1)
  have ne_b2_b7 : Hid (p_b2 ≠ p_b7) := Nat.ne_of_lt (eP ▸ lt_b2)
  have ne_b3_b7 : Hid (p_b3 ≠ p_b7) := Nat.ne_of_lt (eP ▸ lt_b3)
  have ne_b5_b7 : Hid (p_b5 ≠ p_b7) := Nat.ne_of_lt (eP ▸ lt_b5)
  have ne_b6_b7 : Hid (p_b6 ≠ p_b7) := Nat.ne_of_lt (eP ▸ lt_b6)
  rw [eW, eP]
  clear eW eP lt_b1 lt_b2 lt_b3 lt_b5 lt_b6
  replace ha1 := ha1.bl hn; replace ha2 := ha2.bl hn; replace hq1 := hq1.bl hn; replace hq2 := hq2.bl hn; replace hc1 := hc1.bl hn; replace hc2 := hc2.bl hn; replace x_b1 := x_b1.bl hn; replace x_b2 := x_b2.bl hn; replace x_b3 := x_b3.bl hn; replace b1 := b1.bl hn; replace b2 := b2.bl hn; replace x_b5 := x_b5.bl hn; replace c1 := c1.bl hn; replace c2 := c2.bl hn; replace x_b6 := x_b6.bl hn; replace j1 := j1.bl hn; replace j2 := j2.bl hn; replace hb := hb.trans (hn.mono hb.size)
  refine hK _ _ rfl ?_; clear hK K hn
  refine wpSq_call rfl (by kernel_rfl) fun K hK => ?_
  obtain ⟨d0, d1, d2, d3⟩ := x_b7.f4
  have f0 := x_b7.free 0; have f1 := x_b7.free 1; have f2 := x_b7.free 2; have f3 := x_b7.free 3
  go_big_op
  have hnd := x_b7.nod rfl rfl
  obtain ⟨w_19, eW, x_b7', ho⟩ : ∃ w', ((((w_18.setCell ⟨p_b7, 0, none⟩ (.bool n_ja)).setCell ⟨p_b7, 1, none⟩ (.slice o_ja k_ja c_ja)).setCell ⟨p_b7, 2, none⟩ (.bool n_jb)).setCell ⟨p_b7, 3, none⟩ (.slice o_jb k_jb c_jb)) = w' ∧ Bs w' p_b7 #[.bool n_ja, .slice o_ja k_ja c_ja, .bool n_jb, .slice o_jb k_jb c_jb] 26 ∧ Only p_b7 w_18 w' := x_b7.setN [(0, .bool n_ja), (1, .slice o_ja k_ja c_ja), (2, .bool n_jb), (3, .slice o_jb k_jb c_jb)]
  rw [eW]; clear eW d0 d1 d2 d3 f0 f1 f2 f3 x_b7
  have x_b7 := x_b7'; clear x_b7'
  replace ha1 := ha1.fr hnd ho; replace ha2 := ha2.fr hnd ho; replace hq1 := hq1.fr hnd ho; replace hq2 := hq2.fr hnd ho; replace hc1 := hc1.fr hnd ho; replace hc2 := hc2.fr hnd ho; replace x_b1 := x_b1.frame ho ne_b1_b7; replace x_b2 := x_b2.frame ho ne_b2_b7; replace x_b3 := x_b3.frame ho ne_b3_b7; replace b1 := b1.fr hnd ho; replace b2 := b2.fr hnd ho; replace x_b5 := x_b5.frame ho ne_b5_b7; replace c1 := c1.fr hnd ho; replace c2 := c2.fr hnd ho; replace x_b6 := x_b6.frame ho ne_b6_b7; replace j1 := j1.fr hnd ho; replace j2 := j2.fr hnd ho; replace hb := belowOnly hb ho kb_b7
  refine hK _ _ rfl ?_; clear hK K ho hnd
  refine wpSq_call rfl (by kernel_rfl) fun K hK => ?_
  go_big_move; refine hK _ _ rfl ?_; clear hK K
  apply wpSq_end
  refine hK9 _ _ ?_
  refine wp_seq_k ?_
  intro K10 hK10
  refine wp_region_sq [0, 1, 2, 3, 4, 5, 6, 7, 8] (by kernel_rfl) ?_
  refine wpSq_call rfl (by kernel_rfl) fun K hK => ?_
  obtain ⟨d0, d1, d2, d3⟩ := x_b6.f4
  go_big_op; refine hK _ _ rfl ?_; clear hK K d0 d1 d2 d3
  refine wpSq_call rfl (by kernel_rfl) fun K hK => ?_
  obtain ⟨d0, d1, d2, d3⟩ := x_b7.f4
  go_big_op; refine hK _ _ rfl ?_; clear hK K d0 d1 d2 d3
  refine wpSq_call rfl (by kernel_rfl) fun K hK => ?_
  go_big_op
  go_fit (fAdd_any (PN.mk' (c1.zn Lc1.out) (c2.zn Lc2.out)) (PN.mk' (j1.zn Lj1.out) (j2.zn Lj2.out)) (by omega) (by omega) (by omega) (by omega) H5.out)
  rintro e w_20 ⟨_, rfl, ⟨n_oa, o_oa, k_oa, c_oa, n_ob, o_ob, k_ob, c_ob, rfl, o1, o2⟩, hb_20⟩
  clear x_b6 x_b7
  replace ha1 := ha1.bl hb_20; replace ha2 := ha2.bl hb_20; replace hq1 := hq1.bl hb_20; replace hq2 := hq2.bl hb_20; replace hc1 := hc1.bl hb_20; replace hc2 := hc2.bl hb_20; replace x_b1 := x_b1.bl hb_20; replace x_b2 := x_b2.bl hb_20; replace x_b3 := x_b3.bl hb_20; replace b1 := b1.bl hb_20; replace b2 := b2.bl hb_20; replace x_b5 := x_b5.bl hb_20; replace c1 := c1.bl hb_20; replace c2 := c2.bl hb_20; replace j1 := j1.bl hb_20; replace j2 := j2.bl hb_20; replace hb := hb.trans (hb_20.mono hb.size)
  have Lo1 := hide (o1.lenOf (qN_len (H5.out) (zlen_opAdd (zlen_mul (Lc1.out) (Lj2.out)) (zlen_mul (Lj1.out) (Lc2.out)))))
  have Lo2 := hide (o2.lenOf (qD_len (H5.out) (zlen_mul (Lc2.out) (Lj2.out))))
  rw [ET.out.1] at o1 Lo1
  rw [ET.out.2] at o2 Lo2
  refine hK _ _ rfl ?_
  clear hK K hb_20
  refine wpSq_call rfl (by kernel_rfl) fun K hK => ?_
  go_big_move; refine hK _ _ rfl ?_; clear hK K
  refine wpSq_call rfl (by kernel_rfl) fun K hK => ?_
  go_big_op; refine hK _ _ rfl ?_; clear hK K
  refine wpSq_call rfl (by kernel_rfl) fun K hK => ?_
  go_big_op; refine hK _ _ rfl ?_; clear hK K
  refine wpSq_call rfl (by kernel_rfl) fun K hK => ?_
  go_big_op
  clear c1 c2 j1 j2
  have lt_b1 := x_b1.lt
  have lt_b2 := x_b2.lt
  have lt_b3 := x_b3.lt
  have lt_b5 := x_b5.lt
  obtain ⟨p_b8, w_21, eP, eW, x_b8, hn, kb_b8⟩ := newBox w_20 #[.bool false, .slice none 0 0, .bool false, .slice none 0 0] 26 hb.size
  have ne_b1_b8 : Hid (p_b1 ≠ p_b8) := Nat.ne_of_lt (eP ▸ lt_b1)
  have ne_b2_b8 : Hid (p_b2 ≠ p_b8) := Nat.ne_of_lt (eP ▸ lt_b2)
  have ne_b3_b8 : Hid (p_b3 ≠ p_b8) := Nat.ne_of_lt (eP ▸ lt_b3)
  have ne_b5_b8 : Hid (p_b5 ≠ p_b8) := Nat.ne_of_lt (eP ▸ lt_b5)
  rw [eW, eP]
  clear eW eP lt_b1 lt_b2 lt_b3 lt_b5
  replace ha1 := ha1.bl hn; replace ha2 := ha2.bl hn; replace hq1 := hq1.bl hn; replace hq2 := hq2.bl hn; replace hc1 := hc1.bl hn; replace hc2 := hc2.bl hn; replace x_b1 := x_b1.bl hn; replace x_b2 := x_b2.bl hn; replace x_b3 := x_b3.bl hn; replace b1 := b1.bl hn; replace b2 := b2.bl hn; replace x_b5 := x_b5.bl hn; replace o1 := o1.bl hn; replace o2 := o2.bl hn; replace hb := hb.trans (hn.mono hb.size)
  refine hK _ _ rfl ?_; clear hK K hn
  refine wpSq_call rfl (by kernel_rfl) fun K hK => ?_
  obtain ⟨d0, d1, d2, d3⟩ := x_b8.f4
  have f0 := x_b8.free 0; have f1 := x_b8.free 1; have f2 := x_b8.free 2; have f3 := x_b8.free 3
  go_big_op
  have hnd := x_b8.nod rfl rfl
  obtain ⟨w_22, eW, x_b8', ho⟩ : ∃ w', ((((w_21.setCell ⟨p_b8, 0, none⟩ (.bool n_oa)).setCell ⟨p_b8, 1, none⟩ (.slice o_oa k_oa c_oa)).setCell ⟨p_b8, 2, none⟩ (.bool n_ob)).setCell ⟨p_b8, 3, none⟩ (.slice o_ob k_ob c_ob)) = w' ∧ Bs w' p_b8 #[.bool n_oa, .slice o_oa k_oa c_oa, .bool n_ob, .slice o_ob k_ob c_ob] 26 ∧ Only p_b8 w_21 w' := x_b8.setN [(0, .bool n_oa), (1, .slice o_oa k_oa c_oa), (2, .bool n_ob), (3, .slice o_ob k_ob c_ob)]
  rw [eW]; clear eW d0 d1 d2 d3 f0 f1 f2 f3 x_b8
  have x_b8 := x_b8'; clear x_b8'
  replace ha1 := ha1.fr hnd ho; replace ha2 := ha2.fr hnd ho; replace hq1 := hq1.fr hnd ho; replace hq2 := hq2.fr hnd ho; replace hc1 := hc1.fr hnd ho; replace hc2 := hc2.fr hnd ho; replace x_b1 := x_b1.frame ho ne_b1_b8; replace x_b2 := x_b2.frame ho ne_b2_b8; replace x_b3 := x_b3.frame ho ne_b3_b8; replace b1 := b1.fr hnd ho; replace b2 := b2.fr hnd ho; replace x_b5 := x_b5.frame ho ne_b5_b8; replace o1 := o1.fr hnd ho; replace o2 := o2.fr hnd ho; replace hb := belowOnly hb ho kb_b8
  refine hK _ _ rfl ?_; clear hK K ho hnd
  refine wpSq_call rfl (by kernel_rfl) fun K hK => ?_
  go_big_move; refine hK _ _ rfl ?_; clear hK K
  apply wpSq_end
  refine hK10 _ _ ?_
  refine wp_seq_k ?_
  intro K11 hK11
  refine wp_seq_k ?_
  intro K12 hK12
  refine wp_region_sq [0, 1, 2, 3, 4, 5, 6, 7] (by kernel_rfl) ?_
  refine wpSq_call rfl (by kernel_rfl) fun K hK => ?_
  go_big_move; refine hK _ _ rfl ?_; clear hK K
  refine wpSq_call rfl (by kernel_rfl) fun K hK => ?_
  go_big_op; refine hK _ _ rfl ?_; clear hK K
  refine wpSq_call rfl (by kernel_rfl) fun K hK => ?_
  go_big_move; refine hK _ _ rfl ?_; clear hK K
  refine wpSq_call rfl (by kernel_rfl) fun K hK => ?_
  obtain ⟨d0, d1, d2, d3⟩ := x_b5.f4
  go_big_op; refine hK _ _ rfl ?_; clear hK K d0 d1 d2 d3
  refine wpSq_call rfl (by kernel_rfl) fun K hK => ?_
  obtain ⟨d0, d1, d2, d3⟩ := x_b8.f4
  go_big_op; refine hK _ _ rfl ?_; clear hK K d0 d1 d2 d3
  refine wpSq_call rfl (by kernel_rfl) fun K hK => ?_
  go_big_op
  go_fit (fis_low (PC.mk' b1 b2) (PC.mk' o1 o2)  LT.out (Nat.le_trans Lb1.out (by omega)) (Nat.le_trans Lb2.out (by omega)))
  rintro e w_23 ⟨rfl, hb_23⟩
  clear x_b5 x_b8
  replace ha1 := ha1.bl hb_23; replace ha2 := ha2.bl hb_23; replace hq1 := hq1.bl hb_23; replace hq2 := hq2.bl hb_23; replace hc1 := hc1.bl hb_23; replace hc2 := hc2.bl hb_23; replace x_b1 := x_b1.bl hb_23; replace x_b2 := x_b2.bl hb_23; replace x_b3 := x_b3.bl hb_23; replace b1 := b1.bl hb_23; replace b2 := b2.bl hb_23; replace o1 := o1.bl hb_23; replace o2 := o2.bl hb_23; replace hb := hb.trans (hb_23.mono hb.size)
  refine hK _ _ rfl ?_
  clear hK K hb_23
  refine wpSq_call rfl (by kernel_rfl) fun K hK => ?_
  go_big_op; refine hK _ _ rfl ?_; clear hK K
  refine wpSq_call rfl (by kernel_rfl) fun K hK => ?_
  go_big_op; refine hK _ _ rfl ?_; clear hK K
  apply wpSq_end
  refine hK12 _ _ ?_
  refine wp_cond_false (congrArg Value.bool (show _ = false from (by first | rfl | assumption | (simp; done) | exact decide_eq_false (by omega) | omega))) ?_
  refine wp_skip ?_
  refine hK11 _ _ ?_
  refine wp_seq_k ?_
  intro K13 hK13
  refine wp_region_sq [0, 1, 2, 3, 4, 5, 6, 7] (by kernel_rfl) ?_
  refine wpSq_call rfl (by kernel_rfl) fun K hK => ?_
  obtain ⟨d0, d1, d2, d3⟩ := x_b1.f4
  go_big_op; refine hK _ _ rfl ?_; clear hK K d0 d1 d2 d3
  refine wpSq_call rfl (by kernel_rfl) fun K hK => ?_
  obtain ⟨d0, d1, d2, d3⟩ := x_b2.f4
  go_big_op; refine hK _ _ rfl ?_; clear hK K d0 d1 d2 d3
  refine wpSq_call rfl (by kernel_rfl) fun K hK => ?_
  go_big_op
  go_fit (fCmp_any (PN.mk' ha1 ha2) (PN.mk' hq1 hq2) (by omega) (by omega) (by omega) (by omega) HY.out HV.out)
  rintro e w_24 ⟨rfl, hb_24⟩
  clear b1 b2 o1 o2
  replace ha1 := ha1.bl hb_24; replace ha2 := ha2.bl hb_24; replace hq1 := hq1.bl hb_24; replace hq2 := hq2.bl hb_24; replace hc1 := hc1.bl hb_24; replace hc2 := hc2.bl hb_24; replace x_b1 := x_b1.bl hb_24; replace x_b2 := x_b2.bl hb_24; replace x_b3 := x_b3.bl hb_24; replace hb := hb.trans (hb_24.mono hb.size)
  rw [HC.out]
  refine hK _ _ rfl ?_
  clear hK K hb_24
  refine wpSq_call rfl (by kernel_rfl) fun K hK => ?_
  go_big_move; refine hK _ _ rfl ?_; clear hK K
  refine wpSq_call rfl (by kernel_rfl) fun K hK => ?_
  go_big_op; refine hK _ _ rfl ?_; clear hK K
  refine wpSq_call rfl (by kernel_rfl) fun K hK => ?_
  go_big_op; refine hK _ _ rfl ?_; clear hK K
  refine wpSq_call rfl (by kernel_rfl) fun K hK => ?_
  go_big_move; refine hK _ _ rfl ?_; clear hK K
  refine wpSq_call rfl (by kernel_rfl) fun K hK => ?_
  go_big_move; refine hK _ _ rfl ?_; clear hK K
  apply wpSq_end
  refine hK13 _ _ ?_
  refine wp_seq_k ?_
  intro K14 hK14
  refine wp_region_sq [0, 1, 2, 3, 4, 5, 6, 7, 8] (by kernel_rfl) ?_
  refine wpSq_call rfl (by kernel_rfl) fun K hK => ?_
  obtain ⟨d0, d1, d2, d3⟩ := x_b1.f4
  go_big_op; refine hK _ _ rfl ?_; clear hK K d0 d1 d2 d3
  refine wpSq_call rfl (by kernel_rfl) fun K hK => ?_
  obtain ⟨d0, d1, d2, d3⟩ := x_b3.f4
  go_big_op; refine hK _ _ rfl ?_; clear hK K d0 d1 d2 d3
  refine wpSq_call rfl (by kernel_rfl) fun K hK => ?_
  go_big_op
  go_fit (fAdd_any (PN.mk' ha1 ha2) (PN.mk' hc1 hc2) (by omega) (by omega) (by omega) (by omega) H4.out)
  rintro e w_25 ⟨_, rfl, ⟨n_fa, o_fa, k_fa, c_fa, n_fb, o_fb, k_fb, c_fb, rfl, f1, f2⟩, hb_25⟩
  replace ha1 := ha1.bl hb_25; replace ha2 := ha2.bl hb_25; replace hq1 := hq1.bl hb_25; replace hq2 := hq2.bl hb_25; replace hc1 := hc1.bl hb_25; replace hc2 := hc2.bl hb_25; replace x_b1 := x_b1.bl hb_25; replace x_b2 := x_b2.bl hb_25; replace x_b3 := x_b3.bl hb_25; replace hb := hb.trans (hb_25.mono hb.size)
  have Lf1 := hide (f1.lenOf (qN_len (H4.out) (zlen_opAdd (zlen_mul (ha1.len) (hc2.len)) (zlen_mul (hc1.len) (ha2.len)))))
  have Lf2 := hide (f2.lenOf (qD_len (H4.out) (zlen_mul (ha2.len) (hc2.len))))
  rw [EX.out.1] at f1 Lf1
  rw [EX.out.2] at f2 Lf2
  refine hK _ _ rfl ?_
  clear hK K hb_25
  refine wpSq_call rfl (by kernel_rfl) fun K hK => ?_
  go_big_move; refine hK _ _ rfl ?_; clear hK K
  refine wpSq_call rfl (by kernel_rfl) fun K hK => ?_
  go_big_op; refine hK _ _ rfl ?_; clear hK K
  refine wpSq_call rfl (by kernel_rfl) fun K hK => ?_
  go_big_op; refine hK _ _ rfl ?_; clear hK K
  refine wpSq_call rfl (by kernel_rfl) fun K hK => ?_
  go_big_op
  have lt_b1 := x_b1.lt
  have lt_b2 := x_b2.lt
  have lt_b3 := x_b3.lt
  obtain ⟨p_b9, w_26, eP, eW, x_b9, hn, kb_b9⟩ := newBox w_25 #[.bool false, .slice none 0 0, .bool false, .slice none 0 0] 26 hb.size
  have ne_b1_b9 : Hid (p_b1 ≠ p_b9) := Nat.ne_of_lt (eP ▸ lt_b1)
  have ne_b2_b9 : Hid (p_b2 ≠ p_b9) := Nat.ne_of_lt (eP ▸ lt_b2)
  have ne_b3_b9 : Hid (p_b3 ≠ p_b9) := Nat.ne_of_lt (eP ▸ lt_b3)
  rw [eW, eP]
  clear eW eP lt_b1 lt_b2 lt_b3
  replace ha1 := ha1.bl hn; replace ha2 := ha2.bl hn; replace hq1 := hq1.bl hn; replace hq2 := hq2.bl hn; replace hc1 := hc1.bl hn; replace hc2 := hc2.bl hn; replace x_b1 := x_b1.bl hn; replace x_b2 := x_b2.bl hn; replace x_b3 := x_b3.bl hn; replace f1 := f1.bl hn; replace f2 := f2.bl hn; replace hb := hb.trans (hn.mono hb.size)
  refine hK _ _ rfl ?_; clear hK K hn
  refine wpSq_call rfl (by kernel_rfl) fun K hK => ?_
  obtain ⟨d0, d1, d2, d3⟩ := x_b9.f4
  have f0 := x_b9.free 0; have f1 := x_b9.free 1; have f2 := x_b9.free 2; have f3 := x_b9.free 3
  go_big_op
  have hnd := x_b9.nod rfl rfl
  obtain ⟨w_27, eW, x_b9', ho⟩ : ∃ w', ((((w_26.setCell ⟨p_b9, 0, none⟩ (.bool n_fa)).setCell ⟨p_b9, 1, none⟩ (.slice o_fa k_fa c_fa)).setCell ⟨p_b9, 2, none⟩ (.bool n_fb)).setCell ⟨p_b9, 3, none⟩ (.slice o_fb k_fb c_fb)) = w' ∧ Bs w' p_b9 #[.bool n_fa, .slice o_fa k_fa c_fa, .bool n_fb, .slice o_fb k_fb c_fb] 26 ∧ Only p_b9 w_26 w' := x_b9.setN [(0, .bool n_fa), (1, .slice o_fa k_fa c_fa), (2, .bool n_fb), (3, .slice o_fb k_fb c_fb)]
  rw [eW]; clear eW d0 d1 d2 d3 f0 f1 f2 f3 x_b9
  have x_b9 := x_b9'; clear x_b9'
  replace ha1 := ha1.fr hnd ho; replace ha2 := ha2.fr hnd ho; replace hq1 := hq1.fr hnd ho; replace hq2 := hq2.fr hnd ho; replace hc1 := hc1.fr hnd ho; replace hc2 := hc2.fr hnd ho; replace x_b1 := x_b1.frame ho ne_b1_b9; replace x_b2 := x_b2.frame ho ne_b2_b9; replace x_b3 := x_b3.frame ho ne_b3_b9; replace f1 := f1.fr hnd ho; replace f2 := f2.fr hnd ho; replace hb := belowOnly hb ho kb_b9
  refine hK _ _ rfl ?_; clear hK K ho hnd
  refine wpSq_call rfl (by kernel_rfl) fun K hK => ?_
  go_big_move; refine hK _ _ rfl ?_; clear hK K
  apply wpSq_end
  refine hK14 _ _ ?_
  refine wp_seq_k ?_
  intro K15 hK15
  refine wp_region_sq [0, 1, 2, 3, 4, 5, 6, 7, 8] (by kernel_rfl) ?_
  refine wpSq_call rfl (by kernel_rfl) fun K hK => ?_
  obtain ⟨d0, d1, d2, d3⟩ := x_b2.f4
  go_big_op; refine hK _ _ rfl ?_; clear hK K d0 d1 d2 d3
  refine wpSq_call rfl (by kernel_rfl) fun K hK => ?_
  obtain ⟨d0, d1, d2, d3⟩ := x_b3.f4
  go_big_op; refine hK _ _ rfl ?_; clear hK K d0 d1 d2 d3
  refine wpSq_call rfl (by kernel_rfl) fun K hK => ?_
  go_big_op
  go_fit (fAdd_any (PN.mk' hq1 hq2) (PN.mk' hc1 hc2) (by omega) (by omega) (by omega) (by omega) H1.out)
  rintro e w_28 ⟨_, rfl, ⟨n_ga, o_ga, k_ga, c_ga, n_gb, o_gb, k_gb, c_gb, rfl, g1, g2⟩, hb_28⟩
  clear x_b3
  replace ha1 := ha1.bl hb_28; replace ha2 := ha2.bl hb_28; replace hq1 := hq1.bl hb_28; replace hq2 := hq2.bl hb_28; replace hc1 := hc1.bl hb_28; replace hc2 := hc2.bl hb_28; replace x_b1 := x_b1.bl hb_28; replace x_b2 := x_b2.bl hb_28; replace f1 := f1.bl hb_28; replace f2 := f2.bl hb_28; replace x_b9 := x_b9.bl hb_28; replace hb := hb.trans (hb_28.mono hb.size)
  have Lg1 := hide (g1.lenOf (qN_len (H1.out) (zlen_opAdd (zlen_mul (hq1.len) (hc2.len)) (zlen_mul (hc1.len) (hq2.len)))))
  have Lg2 := hide (g2.lenOf (qD_len (H1.out) (zlen_mul (hq2.len) (hc2.len))))
  rw [ES.out.1] at g1 Lg1
  rw [ES.out.2] at g2 Lg2
  refine hK _ _ rfl ?_
  clear hK K hb_28
  refine wpSq_call rfl (by kernel_rfl) fun K hK => ?_
  go_big_move; refine hK _ _ rfl ?_; clear hK K
  refine wpSq_call rfl (by kernel_rfl) fun K hK => ?_
  go_big_op; refine hK _ _ rfl ?_; clear hK K
  refine wpSq_call rfl (by kernel_rfl) fun K hK => ?_
  go_big_op; refine hK _ _ rfl ?_; clear hK K
  refine wpSq_call rfl (by kernel_rfl) fun K hK => ?_
  go_big_op
  clear hc1 hc2
  have lt_b1 := x_b1.lt
  have lt_b2 := x_b2.lt
  have lt_b9 := x_b9.lt
  obtain ⟨p_b10, w_29, eP, eW, x_b10, hn, kb_b10⟩ := newBox w_28 #[.bool false, .slice none 0 0, .bool false, .slice none 0 0] 26 hb.size
  have ne_b1_b10 : Hid (p_b1 ≠ p_b10) := Nat.ne_of_lt (eP ▸ lt_b1)
  have ne_b2_b10 : Hid (p_b2 ≠ p_b10) := Nat.ne_of_lt (eP ▸ lt_b2)
  have ne_b9_b10 : Hid (p_b9 ≠ p_b10) := Nat.ne_of_lt (eP ▸ lt_b9)
  rw [eW, eP]
  clear eW eP lt_b1 lt_b2 lt_b9
  replace ha1 := ha1.bl hn; replace ha2 := ha2.bl hn; replace hq1 := hq1.bl hn; replace hq2 := hq2.bl hn; replace x_b1 := x_b1.bl hn; replace x_b2 := x_b2.bl hn; replace f1 := f1.bl hn; replace f2 := f2.bl hn; replace x_b9 := x_b9.bl hn; replace g1 := g1.bl hn; replace g2 := g2.bl hn; replace hb := hb.trans (hn.mono hb.size)
  refine hK _ _ rfl ?_; clear hK K hn
  refine wpSq_call rfl (by kernel_rfl) fun K hK => ?_
  obtain ⟨d0, d1, d2, d3⟩ := x_b10.f4
  have f0 := x_b10.free 0; have f1 := x_b10.free 1; have f2 := x_b10.free 2; have f3 := x_b10.free 3
  go_big_op
  have hnd := x_b10.nod rfl rfl
  obtain ⟨w_30, eW, x_b10', ho⟩ : ∃ w', ((((w_29.setCell ⟨p_b10, 0, none⟩ (.bool n_ga)).setCell ⟨p_b10, 1, none⟩ (.slice o_ga k_ga c_ga)).setCell ⟨p_b10, 2, none⟩ (.bool n_gb)).setCell ⟨p_b10, 3, none⟩ (.slice o_gb k_gb c_gb)) = w' ∧ Bs w' p_b10 #[.bool n_ga, .slice o_ga k_ga c_ga, .bool n_gb, .slice o_gb k_gb c_gb] 26 ∧ Only p_b10 w_29 w' := x_b10.setN [(0, .bool n_ga), (1, .slice o_ga k_ga c_ga), (2, .bool n_gb), (3, .slice o_gb k_gb c_gb)]
  rw [eW]; clear eW d0 d1 d2 d3 f0 f1 f2 f3 x_b10
  have x_b10 := x_b10'; clear x_b10'
  replace ha1 := ha1.fr hnd ho; replace ha2 := ha2.fr hnd ho; replace hq1 := hq1.fr hnd ho; replace hq2 := hq2.fr hnd ho; replace x_b1 := x_b1.frame ho ne_b1_b10; replace x_b2 := x_b2.frame ho ne_b2_b10; replace f1 := f1.fr hnd ho; replace f2 := f2.fr hnd ho; replace x_b9 := x_b9.frame ho ne_b9_b10; replace g1 := g1.fr hnd ho; replace g2 := g2.fr hnd ho; replace hb := belowOnly hb ho kb_b10
  refine hK _ _ rfl ?_; clear hK K ho hnd
  refine wpSq_call rfl (by kernel_rfl) fun K hK => ?_
  go_big_move; refine hK _ _ rfl ?_; clear hK K
  apply wpSq_end
  refine hK15 _ _ ?_
  refine wp_seq_k ?_
  intro K16 hK16
  refine wp_region_sq [0, 1, 2, 3, 4, 5, 6, 7] (by kernel_rfl) ?_
  refine wpSq_call rfl (by kernel_rfl) fun K hK => ?_
  obtain ⟨d0, d1, d2, d3⟩ := x_b9.f4
  go_big_op; refine hK _ _ rfl ?_; clear hK K d0 d1 d2 d3
  refine wpSq_call rfl (by kernel_rfl) fun K hK => ?_
  obtain ⟨d0, d1, d2, d3⟩ := x_b10.f4
  go_big_op; refine hK _ _ rfl ?_; clear hK K d0 d1 d2 d3
  refine wpSq_call rfl (by kernel_rfl) fun K hK => ?_
  go_big_op
  go_fit (fCmp_any (.mk' (f1.zn Lf1.out) (f2.zn Lf2.out)) (.mk' (g1.zn Lg1.out) (g2.zn Lg2.out)) (by omega) (by omega) (by omega) (by omega) NX.out NS.out)
  rintro e w_31 ⟨rfl, hb_31⟩
  clear x_b9 x_b10
  replace ha1 := ha1.bl hb_31; replace ha2 := ha2.bl hb_31; replace hq1 := hq1.bl hb_31; replace hq2 := hq2.bl hb_31; replace x_b1 := x_b1.bl hb_31; replace x_b2 := x_b2.bl hb_31; replace f1 := f1.bl hb_31; replace f2 := f2.bl hb_31; replace g1 := g1.bl hb_31; replace g2 := g2.bl hb_31; replace hb := hb.trans (hb_31.mono hb.size)
  rw [HCX.out]
  refine hK _ _ rfl ?_
  clear hK K hb_31
  refine wpSq_call rfl (by kernel_rfl) fun K hK => ?_
  go_big_move; refine hK _ _ rfl ?_; clear hK K
  refine wpSq_call rfl (by kernel_rfl) fun K hK => ?_
  go_big_op; refine hK _ _ rfl ?_; clear hK K
  refine wpSq_call rfl (by kernel_rfl) fun K hK => ?_
  go_big_op; refine hK _ _ rfl ?_; clear hK K
  refine wpSq_call rfl (by kernel_rfl) fun K hK => ?_
  go_big_move; refine hK _ _ rfl ?_; clear hK K
  refine wpSq_call rfl (by kernel_rfl) fun K hK => ?_
  go_big_move; refine hK _ _ rfl ?_; clear hK K
  apply wpSq_end
  refine hK16 _ _ ?_
  refine wp_seq_k ?_
  intro K17 hK17
  refine wp_region_sq [0, 1, 2, 3, 4, 5, 6, 7] (by kernel_rfl) ?_
  refine wpSq_call rfl (by kernel_rfl) fun K hK => ?_
  obtain ⟨d0, d1, d2, d3⟩ := x_b2.f4
  go_big_op; refine hK _ _ rfl ?_; clear hK K d0 d1 d2 d3
  refine wpSq_call rfl (by kernel_rfl) fun K hK => ?_
  obtain ⟨d0, d1, d2, d3⟩ := x_b1.f4
  go_big_op; refine hK _ _ rfl ?_; clear hK K d0 d1 d2 d3
  refine wpSq_call rfl (by kernel_rfl) fun K hK => ?_
  go_big_op
  go_fit (fCmp_any (PN.mk' hq1 hq2) (PN.mk' ha1 ha2) (by omega) (by omega) (by omega) (by omega) HV.out HY.out)
  rintro e w_32 ⟨rfl, hb_32⟩
  clear f1 f2 g1 g2
  replace ha1 := ha1.bl hb_32; replace ha2 := ha2.bl hb_32; replace hq1 := hq1.bl hb_32; replace hq2 := hq2.bl hb_32; replace x_b1 := x_b1.bl hb_32; replace x_b2 := x_b2.bl hb_32; replace hb := hb.trans (hb_32.mono hb.size)
  rw [HCK.out]
  refine hK _ _ rfl ?_
  clear hK K hb_32
  refine wpSq_call rfl (by kernel_rfl) fun K hK => ?_
  go_big_move; refine hK _ _ rfl ?_; clear hK K
  refine wpSq_call rfl (by kernel_rfl) fun K hK => ?_
  go_big_op; refine hK _ _ rfl ?_; clear hK K
  refine wpSq_call rfl (by kernel_rfl) fun K hK => ?_
  go_big_op; refine hK _ _ rfl ?_; clear hK K
  refine wpSq_call rfl (by kernel_rfl) fun K hK => ?_
  go_big_move; refine hK _ _ rfl ?_; clear hK K
  refine wpSq_call rfl (by kernel_rfl) fun K hK => ?_
  go_big_move; refine hK _ _ rfl ?_; clear hK K
  apply wpSq_end
  refine hK17 _ _ ?_
  refine wp_seq_k ?_
  intro K18 hK18
  refine wp_seq_k ?_
  intro K19 hK19
  refine wp_region_sq [0, 1, 2, 3, 4, 5, 6, 7, 8, 9, 10, 11, 12] (by kernel_rfl) ?_
  refine wpSq_call rfl (by kernel_rfl) fun K hK => ?_
  go_big_move; refine hK _ _ rfl ?_; clear hK K
  refine wpSq_call rfl (by kernel_rfl) fun K hK => ?_
  go_big_op; refine hK _ _ rfl ?_; clear hK K
  refine wpSq_call rfl (by kernel_rfl) fun K hK => ?_
  go_big_move; refine hK _ _ rfl ?_; clear hK K
  refine wpSq_call rfl (by kernel_rfl) fun K hK => ?_
  go_big_move; refine hK _ _ rfl ?_; clear hK K
  refine wpSq_call rfl (by kernel_rfl) fun K hK => ?_
  go_big_move; refine hK _ _ rfl ?_; clear hK K
  refine wpSq_call rfl (by kernel_rfl) fun K hK => ?_
  go_big_op; refine hK _ _ rfl ?_; clear hK K
  refine wpSq_call rfl (by kernel_rfl) fun K hK => ?_
  go_big_op; refine hK _ _ rfl ?_; clear hK K
  refine wpSq_call rfl (by kernel_rfl) fun K hK => ?_
  go_big_move; refine hK _ _ rfl ?_; clear hK K
  refine wpSq_call rfl (by kernel_rfl) fun K hK => ?_
  go_big_move; refine hK _ _ rfl ?_; clear hK K
  refine wpSq_call rfl (by kernel_rfl) fun K hK => ?_
  go_big_move; refine hK _ _ rfl ?_; clear hK K
  refine wpSq_call rfl (by kernel_rfl) fun K hK => ?_
  go_big_op; refine hK _ _ rfl ?_; clear hK K
  refine wpSq_call rfl (by kernel_rfl) fun K hK => ?_
  go_big_op; refine hK _ _ rfl ?_; clear hK K
  refine wpSq_call rfl (by kernel_rfl) fun K hK => ?_
  go_big_op; refine hK _ _ rfl ?_; clear hK K
  apply wpSq_end
  refine hK19 _ _ ?_
  refine wp_cond_false (congrArg Value.bool (show _ = false from (by first | rfl | assumption | (simp; done) | exact decide_eq_false (by omega) | omega))) ?_
  refine wp_skip ?_
  refine hK18 _ _ ?_
  refine wp_seq_k ?_
  intro K20 hK20
  refine wp_region_sq [0, 1, 2, 3, 4, 5, 6, 7, 8] (by kernel_rfl) ?_
  refine wpSq_call rfl (by kernel_rfl) fun K hK => ?_
  obtain ⟨d0, d1, d2, d3⟩ := x_b1.f4
  go_big_op; refine hK _ _ rfl ?_; clear hK K d0 d1 d2 d3
  refine wpSq_call rfl (by kernel_rfl) fun K hK => ?_
  obtain ⟨d0, d1, d2, d3⟩ := x_b2.f4
  go_big_op; refine hK _ _ rfl ?_; clear hK K d0 d1 d2 d3
  refine wpSq_call rfl (by kernel_rfl) fun K hK => ?_
  go_big_op
  go_fit (fQuo_any (PN.mk' ha1 ha2) (PN.mk' hq1 hq2) (by omega) (by omega) (by omega) (by omega) HMU.out HV.out)
  rintro e w_33 ⟨_, rfl, ⟨n_ra, o_ra, k_ra, c_ra, n_rb, o_rb, k_rb, c_rb, rfl, r1, r2⟩, hb_33⟩
  replace ha1 := ha1.bl hb_33; replace ha2 := ha2.bl hb_33; replace hq1 := hq1.bl hb_33; replace hq2 := hq2.bl hb_33; replace x_b1 := x_b1.bl hb_33; replace x_b2 := x_b2.bl hb_33; replace hb := hb.trans (hb_33.mono hb.size)
  have Lr1 := hide (r1.lenOf (qN_len (HMU.out) (zlen_mul (ha1.len) (hq2.len))))
  have Lr2 := hide (r2.lenOf (qD_len (HMU.out) (zlen_mul (hq1.len) (ha2.len))))
  rw [EU.out.1] at r1 Lr1
  rw [EU.out.2] at r2 Lr2
  refine hK _ _ rfl ?_
  clear hK K hb_33
  refine wpSq_call rfl (by kernel_rfl) fun K hK => ?_
  go_big_move; refine hK _ _ rfl ?_; clear hK K
  refine wpSq_call rfl (by kernel_rfl) fun K hK => ?_
  go_big_op; refine hK _ _ rfl ?_; clear hK K
  refine wpSq_call rfl (by kernel_rfl) fun K hK => ?_
  go_big_op; refine hK _ _ rfl ?_; clear hK K
  refine wpSq_call rfl (by kernel_rfl) fun K hK => ?_
  go_big_op
  have lt_b1 := x_b1.lt
  have lt_b2 := x_b2.lt
  obtain ⟨p_b11, w_34, eP, eW, x_b11, hn, kb_b11⟩ := newBox w_33 #[.bool false, .slice none 0 0, .bool false, .slice none 0 0] 26 hb.size
  have ne_b1_b11 : Hid (p_b1 ≠ p_b11) := Nat.ne_of_lt (eP ▸ lt_b1)
  have ne_b2_b11 : Hid (p_b2 ≠ p_b11) := Nat.ne_of_lt (eP ▸ lt_b2)
  rw [eW, eP]
  clear eW eP lt_b1 lt_b2
  replace ha1 := ha1.bl hn; replace ha2 := ha2.bl hn; replace hq1 := hq1.bl hn; replace hq2 := hq2.bl hn; replace x_b1 := x_b1.bl hn; replace x_b2 := x_b2.bl hn; replace r1 := r1.bl hn; replace r2 := r2.bl hn; replace hb := hb.trans (hn.mono hb.size)
  refine hK _ _ rfl ?_; clear hK K hn
  refine wpSq_call rfl (by kernel_rfl) fun K hK => ?_
  obtain ⟨d0, d1, d2, d3⟩ := x_b11.f4
  have f0 := x_b11.free 0; have f1 := x_b11.free 1; have f2 := x_b11.free 2; have f3 := x_b11.free 3
  go_big_op
  have hnd := x_b11.nod rfl rfl
  obtain ⟨w_35, eW, x_b11', ho⟩ : ∃ w', ((((w_34.setCell ⟨p_b11, 0, none⟩ (.bool n_ra)).setCell ⟨p_b11, 1, none⟩ (.slice o_ra k_ra c_ra)).setCell ⟨p_b11, 2, none⟩ (.bool n_rb)).setCell ⟨p_b11, 3, none⟩ (.slice o_rb k_rb c_rb)) = w' ∧ Bs w' p_b11 #[.bool n_ra, .slice o_ra k_ra c_ra, .bool n_rb, .slice o_rb k_rb c_rb] 26 ∧ Only p_b11 w_34 w' := x_b11.setN [(0, .bool n_ra), (1, .slice o_ra k_ra c_ra), (2, .bool n_rb), (3, .slice o_rb k_rb c_rb)]
  rw [eW]; clear eW d0 d1 d2 d3 f0 f1 f2 f3 x_b11
  have x_b11 := x_b11'; clear x_b11'
  replace ha1 := ha1.fr hnd ho; replace ha2 := ha2.fr hnd ho; replace hq1 := hq1.fr hnd ho; replace hq2 := hq2.fr hnd ho; replace x_b1 := x_b1.frame ho ne_b1_b11; replace x_b2 := x_b2.frame ho ne_b2_b11; replace r1 := r1.fr hnd ho; replace r2 := r2.fr hnd ho; replace hb := belowOnly hb ho kb_b11
  refine hK _ _ rfl ?_; clear hK K ho hnd
  refine wpSq_call rfl (by kernel_rfl) fun K hK => ?_
  go_big_move; refine hK _ _ rfl ?_; clear hK K
  apply wpSq_end
  refine hK20 _ _ ?_
  refine wp_seq_k ?_
  intro K21 hK21
  refine wp_seq_k ?_
  intro K22 hK22
  refine wp_region_sq [0, 1, 2, 3] (by kernel_rfl) ?_
  refine wpSq_call rfl (by kernel_rfl) fun K hK => ?_
  go_big_op; refine hK _ _ rfl ?_; clear hK K
  refine wpSq_call rfl (by kernel_rfl) fun K hK => ?_
  obtain ⟨d0, d1, d2, d3⟩ := x_b2.f4
  go_big_op; refine hK _ _ rfl ?_; clear hK K d0 d1 d2 d3
  refine wpSq_call rfl (by kernel_rfl) fun K hK => ?_
  go_big_op
  go_fit (zsign_any hq1 (by omega) )
  rintro e w_36 ⟨rfl, hb_36⟩
  replace ha1 := ha1.bl hb_36; replace ha2 := ha2.bl hb_36; replace hq1 := hq1.bl hb_36; replace hq2 := hq2.bl hb_36; replace x_b1 := x_b1.bl hb_36; replace x_b2 := x_b2.bl hb_36; replace r1 := r1.bl hb_36; replace r2 := r2.bl hb_36; replace x_b11 := x_b11.bl hb_36; replace hb := hb.trans (hb_36.mono hb.size)
  refine hK _ _ rfl ?_
  clear hK K hb_36
  refine wpSq_call rfl (by kernel_rfl) fun K hK => ?_
  go_big_op; refine hK _ _ rfl ?_; clear hK K
  apply wpSq_end
  refine hK22 _ _ ?_
  refine wp_cond_false (congrArg Value.bool (show _ = false from (by exact HU.out))) ?_
  refine wp_skip ?_
  refine hK21 _ _ ?_
  refine wp_seq_k ?_
  intro K23 hK23
  refine wp_region_sq [0, 1, 2, 3, 4, 5, 6, 7, 8] (by kernel_rfl) ?_
  refine wpSq_call rfl (by kernel_rfl) fun K hK => ?_
  obtain ⟨d0, d1, d2, d3⟩ := x_b11.f4
  go_big_op; refine hK _ _ rfl ?_; clear hK K d0 d1 d2 d3
  refine wpSq_call rfl (by kernel_rfl) fun K hK => ?_
  obtain ⟨d0, d1, d2, d3⟩ := x_b2.f4
  go_big_op; refine hK _ _ rfl ?_; clear hK K d0 d1 d2 d3
  refine wpSq_call rfl (by kernel_rfl) fun K hK => ?_
  go_big_op
  go_fit (fMul_any (PN.mk' (r1.zn Lr1.out) (r2.zn Lr2.out)) (PN.mk' hq1 hq2) (by omega) (by omega) (by omega) (by omega) NU.out)
  rintro e w_37 ⟨_, rfl, ⟨n_za, o_za, k_za, c_za, n_zb, o_zb, k_zb, c_zb, rfl, z1, z2⟩, hb_37⟩
  clear x_b2 x_b11
  replace ha1 := ha1.bl hb_37; replace ha2 := ha2.bl hb_37; replace hq1 := hq1.bl hb_37; replace hq2 := hq2.bl hb_37; replace x_b1 := x_b1.bl hb_37; replace r1 := r1.bl hb_37; replace r2 := r2.bl hb_37; replace hb := hb.trans (hb_37.mono hb.size)
  have Lz1 := hide (z1.lenOf (qN_len (NU.out) (zlen_mul (Lr1.out) (hq1.len))))
  have Lz2 := hide (z2.lenOf (qD_len (NU.out) (zlen_mul (Lr2.out) (hq2.len))))
  rw [EV.out.1] at z1
  rw [EV.out.2] at z2
  refine hK _ _ rfl ?_
  clear hK K hb_37
  refine wpSq_call rfl (by kernel_rfl) fun K hK => ?_
  go_big_move; refine hK _ _ rfl ?_; clear hK K
  refine wpSq_call rfl (by kernel_rfl) fun K hK => ?_
  go_big_op; refine hK _ _ rfl ?_; clear hK K
  refine wpSq_call rfl (by kernel_rfl) fun K hK => ?_
  go_big_op; refine hK _ _ rfl ?_; clear hK K
  refine wpSq_call rfl (by kernel_rfl) fun K hK => ?_
  go_big_op
  clear hq1 hq2 r1 r2
  have lt_b1 := x_b1.lt
  obtain ⟨p_b12, w_38, eP, eW, x_b12, hn, kb_b12⟩ := newBox w_37 #[.bool false, .slice none 0 0, .bool false, .slice none 0 0] 26 hb.size
  have ne_b1_b12 : Hid (p_b1 ≠ p_b12) := Nat.ne_of_lt (eP ▸ lt_b1)
  rw [eW, eP]
  clear eW eP lt_b1
  replace ha1 := ha1.bl hn; replace ha2 := ha2.bl hn; replace x_b1 := x_b1.bl hn; replace z1 := z1.bl hn; replace z2 := z2.bl hn; replace hb := hb.trans (hn.mono hb.size)
  refine hK _ _ rfl ?_; clear hK K hn
  refine wpSq_call rfl (by kernel_rfl) fun K hK => ?_
  obtain ⟨d0, d1, d2, d3⟩ := x_b12.f4
  have f0 := x_b12.free 0; have f1 := x_b12.free 1; have f2 := x_b12.free 2; have f3 := x_b12.free 3
  go_big_op
  have hnd := x_b12.nod rfl rfl
  obtain ⟨w_39, eW, x_b12', ho⟩ : ∃ w', ((((w_38.setCell ⟨p_b12, 0, none⟩ (.bool n_za)).setCell ⟨p_b12, 1, none⟩ (.slice o_za k_za c_za)).setCell ⟨p_b12, 2, none⟩ (.bool n_zb)).setCell ⟨p_b12, 3, none⟩ (.slice o_zb k_zb c_zb)) = w' ∧ Bs w' p_b12 #[.bool n_za, .slice o_za k_za c_za, .bool n_zb, .slice o_zb k_zb c_zb] 26 ∧ Only p_b12 w_38 w' := x_b12.setN [(0, .bool n_za), (1, .slice o_za k_za c_za), (2, .bool n_zb), (3, .slice o_zb k_zb c_zb)]
  rw [eW]; clear eW d0 d1 d2 d3 f0 f1 f2 f3 x_b12
  have x_b12 := x_b12'; clear x_b12'
  replace ha1 := ha1.fr hnd ho; replace ha2 := ha2.fr hnd ho; replace x_b1 := x_b1.frame ho ne_b1_b12; replace z1 := z1.fr hnd ho; replace z2 := z2.fr hnd ho; replace hb := belowOnly hb ho kb_b12
  refine hK _ _ rfl ?_; clear hK K ho hnd
  refine wpSq_call rfl (by kernel_rfl) fun K hK => ?_
  go_big_move; refine hK _ _ rfl ?_; clear hK K
  apply wpSq_end
  refine hK23 _ _ ?_
  refine wp_seq_k ?_
  intro K24 hK24
  refine wp_region_sq [0, 1, 2, 3, 4, 5, 6, 7, 8, 9, 10, 11] (by kernel_rfl) ?_
  refine wpSq_call rfl (by kernel_rfl) fun K hK => ?_
  go_big_move; refine hK _ _ rfl ?_; clear hK K
  refine wpSq_call rfl (by kernel_rfl) fun K hK => ?_
  go_big_op; refine hK _ _ rfl ?_; clear hK K
  refine wpSq_call rfl (by kernel_rfl) fun K hK => ?_
  go_big_move; refine hK _ _ rfl ?_; clear hK K
  refine wpSq_call rfl (by kernel_rfl) fun K hK => ?_
  go_big_move; refine hK _ _ rfl ?_; clear hK K
  refine wpSq_call rfl (by kernel_rfl) fun K hK => ?_
  go_big_op; refine hK _ _ rfl ?_; clear hK K
  refine wpSq_call rfl (by kernel_rfl) fun K hK => ?_
  go_big_op; refine hK _ _ rfl ?_; clear hK K
  refine wpSq_call rfl (by kernel_rfl) fun K hK => ?_
  go_big_move; refine hK _ _ rfl ?_; clear hK K
  refine wpSq_call rfl (by kernel_rfl) fun K hK => ?_
  obtain ⟨d0, d1, d2, d3⟩ := x_b12.f4
  go_big_op; refine hK _ _ rfl ?_; clear hK K d0 d1 d2 d3
  refine wpSq_call rfl (by kernel_rfl) fun K hK => ?_
  obtain ⟨d0, d1, d2, d3⟩ := x_b1.f4
  go_big_op; refine hK _ _ rfl ?_; clear hK K d0 d1 d2 d3
  refine wpSq_call rfl (by kernel_rfl) fun K hK => ?_
  go_big_op
  go_fit (fis_any (PC.mk' z1 z2) (PN.mk' ha1 ha2) (by omega) (by omega) HY.out)
  rintro e w_40 ⟨rfl, hb_40⟩
  clear x_b1 x_b12
  replace ha1 := ha1.bl hb_40; replace ha2 := ha2.bl hb_40; replace z1 := z1.bl hb_40; replace z2 := z2.bl hb_40; replace hb := hb.trans (hb_40.mono hb.size)
  refine hK _ _ rfl ?_
  clear hK K hb_40
  refine wpSq_call rfl (by kernel_rfl) fun K hK => ?_
  go_big_op; refine hK _ _ rfl ?_; clear hK K
  refine wpSq_call rfl (by kernel_rfl) fun K hK => ?_
  go_big_move; refine hK _ _ rfl ?_; clear hK K
  apply wpSq_end
  refine hK24 _ _ ?_
  refine wp_ret ?_
  try dsimp only [Exit.then, Exit.inBlock]
  refine bodyPost_ret (v := (.bool true)) (by simp [results, Tryd.results3, go_sem]) rfl ?_
  exact ⟨rfl, hb⟩
end
theorem walk_FracField (w : World) (n1 : Bool) (s1 : Value) (xs : List Nat) (h1 : Rd w s1 xs) (l1 : xs.length ≤ 1048576) (n2 : Bool) (s2 : Value) (ys : List Nat) (h2 : Rd w s2 ys) (l2 : ys.length ≤ 1048576)
    (n3 : Bool) (s3 : Value) (us : List Nat) (h3 : Rd w s3 us) (l3 : us.length ≤ 1048576) (n4 : Bool) (s4 : Value) (vs : List Nat) (h4 : Rd w s4 vs) (l4 : vs.length ≤ 1048576)
    (n5 : Bool) (s5 : Value) (ps : List Nat) (h5 : Rd w s5 ps) (l5 : ps.length ≤ 1048576) (n6 : Bool) (s6 : Value) (qs : List Nat) (h6 : Rd w s6 qs) (l6 : qs.length ≤ 1048576) (htab : Lib.TabIs Tryd.prog w p10 .u64 Lib.pow10Tab) :
    Calls Tryd.prog 3 #[.agg #[.bool n1, s1, .bool n2, s2], .agg #[.bool n3, s3, .bool n4, s4], .agg #[.bool n5, s5, .bool n6, s6]] w fun e w' => e = .returned (.bool true) ∧ Below w.heap.size w w' := by
  have ha := PN.of_rd n1 n2 h1 l1 h2 l2
  have hq := PN.of_rd n3 n4 h3 l3 h4 l4
  have hc := PN.of_rd n5 n6 h5 l5 h6 l6
  have r := Nat.le_refl 1048576
  by_cases hy : zv n2 ys = 0
  · rw [hy] at ha; exact field_bad1 ha hq hc r r r r r r htab
  by_cases hv : zv n4 vs = 0
  · rw [hv] at hq; exact field_bad2 ha hq hc r r r r r r hy htab
  by_cases hq0 : zv n6 qs = 0
  · rw [hq0] at hc; exact field_bad3 ha hq hc r r r r r r hy hv htab
  by_cases hu : zv n3 us = 0
  · rw [hu] at hq; exact field_zero ha hq hc r r r r r r hy hv hq0 htab
  · exact field_some ha hq hc r r r r r r hy hv hq0 hu htab
end Go.Proofs.YtkgbfnmlpajblaaDoor
