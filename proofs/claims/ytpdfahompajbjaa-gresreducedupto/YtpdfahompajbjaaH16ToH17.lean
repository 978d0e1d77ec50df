/- The reference's Pow. -/
import Derived.Test.YtpdfahompajbjaaH8ToH15
import Derived.Test.YtpdfahompajbjaaG15ToH2a
import Derived.Test.YtpdfahompajbjaaH4ToH13

namespace Go.Proofs.Ytpdfahompajbjaa
open Go Go.RowKit Dig
set_option linter.unusedVariables false
section
variable {w : World} {va vb vn : Value} {x y u v z : Int} {l m k n s : Nat}
set_option maxHeartbeats 8000000 in
set_option maxRecDepth 20000 in
theorem rpow_any {L : Nat} (ha : PN w va x l y m) (hx : ZN w vn z s) (hq : PN w vb u L v L) (hl : l ≤ 2200000) (hm : m ≤ 2200000) (hs : s ≤ 2200000) (hL : L ≤ 1100000) (h0 : gN u v ≠ 0) (hz : 0 ≤ z) :
    Calls Try.prog 18 #[va, vn, vb] w fun e w' => ∃ r, e = .returned r ∧ PC w' r (pR1 x y u v z.natAbs) (pR2 x y u v z.natAbs) ∧ Below w.heap.size w w' := by
  have H0 := hide h0
  have LR := hide (fun (p q : Int) => res_len (x := p) (y := q) h0 hq.len1 hq.len2)
  have LZ := hide hx.len
  obtain ⟨N, hN⟩ : ∃ N, z.natAbs = N := ⟨_, rfl⟩
  rw [hN]
  have HN := hide (show z = (N : Int) by omega)
  have ST := hide (RP.start (u := u) (v := v) (x := x) (y := y) N)
  have LK := hide (fun (K : Nat) (h : K ≤ N) => (show (dig ((K : Int)).natAbs).length ≤ s by rw [Int.natAbs_natCast]; have h2 := LZ.out; rw [hN] at h2; exact Nat.le_trans (dig_length_mono h) h2))
  clear h0 hz hN
  obtain ⟨n_0a, o_0a, k_0a, c_0a, n_0b, o_0b, k_0b, c_0b, rfl, ha1, ha2⟩ := ha
  obtain ⟨n_1, o_1, k_1, c_1, rfl⟩ := hx.open2
  obtain ⟨n_2a, o_2a, k_2a, c_2a, n_2b, o_2b, k_2b, c_2b, rfl, hq1, hq2⟩ := hq
  go_enter Try.func18, Try.ntmps18
  have hb := Below.refl w.heap.size w
  refine wp_seq_k ?_
  intro K1 hK1
  refine wp_region_sq [0, 1, 2, 3] (by kernel_rfl) ?_
  refine sc fun K hK => ?_
  go_big_op
  obtain ⟨p_b1, w_1, eP, eW, x_b1, hn, kb_b1⟩ := newBox w #[.bool n_0a, .slice o_0a k_0a c_0a, .bool n_0b, .slice o_0b k_0b c_0b] 26 hb.size
  rw [eW, eP]
  clear eW eP
  replace ha1 := ha1.bl hn; replace ha2 := ha2.bl hn; replace hx := hx.bl hn; replace hq1 := hq1.bl hn; replace hq2 := hq2.bl hn; replace hb := tm hb hn
  refine hK _ _ rfl ?_; clear hK K hn
  refine sc fun K hK => ?_
  go_big_op
  have lt_b1 := x_b1.lt
  obtain ⟨p_b2, w_2, eP, eW, x_b2, hn, kb_b2⟩ := newBox w_1 #[.bool n_1, .slice o_1 k_1 c_1] 24 hb.size
  rw [eW, eP]
  clear eW eP lt_b1
  replace ha1 := ha1.bl hn; replace ha2 := ha2.bl hn; replace hx := hx.bl hn; replace hq1 := hq1.bl hn; replace hq2 := hq2.bl hn; replace x_b1 := x_b1.bl hn; replace hb := tm hb hn
  refine hK _ _ rfl ?_; clear hK K hn
  refine sc fun K hK => ?_
  go_big_op
  have lt_b1 := x_b1.lt
  have lt_b2 := x_b2.lt
  obtain ⟨p_b3, w_3, eP, eW, x_b3, hn, kb_b3⟩ := newBox w_2 #[.bool n_2a, .slice o_2a k_2a c_2a, .bool n_2b, .slice o_2b k_2b c_2b] 26 hb.size
  rw [eW, eP]
  clear eW eP lt_b1 lt_b2
  replace ha1 := ha1.bl hn; replace ha2 := ha2.bl hn; replace hx := hx.bl hn; replace hq1 := hq1.bl hn; replace hq2 := hq2.bl hn; replace x_b1 := x_b1.bl hn; replace x_b2 := x_b2.bl hn; replace hb := tm hb hn
  refine hK _ _ rfl ?_; clear hK K hn
  refine sc fun K hK => ?_
  go_big_op
  have lt_b1 := x_b1.lt
  have lt_b2 := x_b2.lt
  have lt_b3 := x_b3.lt
  obtain ⟨p_b4, w_4, eP, eW, x_b4, hn, kb_b4⟩ := newBox w_3 #[.bool false, .slice none 0 0, .bool false, .slice none 0 0] 26 hb.size
  have ne_b3_b4 : Hid (p_b3 ≠ p_b4) := Nat.ne_of_lt (eP ▸ lt_b3)
  rw [eW, eP]
  clear eW eP lt_b1 lt_b2 lt_b3
  replace ha1 := ha1.bl hn; replace ha2 := ha2.bl hn; replace hx := hx.bl hn; replace hq1 := hq1.bl hn; replace hq2 := hq2.bl hn; replace x_b1 := x_b1.bl hn; replace x_b2 := x_b2.bl hn; replace x_b3 := x_b3.bl hn; replace hb := tm hb hn
  refine hK _ _ rfl ?_; clear hK K hn
  apply wpSq_end
  refine hK1 _ _ ?_
  refine wp_seq_k ?_
  intro K2 hK2
  refine wp_region_fl2 [(1, false), (0, true), (2, true)] [4] [3] (fun j => (.cells #[.bool false, .slice none 0 0, .bool false, .slice none 0 0] 26)) [99, 0, 99, 99, 99] [] (fun w' => w'.cell? ⟨p_b3, 0, none⟩ = some (.bool n_2a) ∧ w'.cell? ⟨p_b3, 1, none⟩ = some (.slice o_2a k_2a c_2a) ∧ w'.cell? ⟨p_b3, 2, none⟩ = some (.bool n_2b) ∧ w'.cell? ⟨p_b3, 3, none⟩ = some (.slice o_2b k_2b c_2b)) [fun w' => w'.cell? ⟨p_b3, 0, none⟩ = some (.bool n_2a) ∧ w'.cell? ⟨p_b3, 1, none⟩ = some (.slice o_2a k_2a c_2a) ∧ w'.cell? ⟨p_b3, 2, none⟩ = some (.bool n_2b) ∧ w'.cell? ⟨p_b3, 3, none⟩ = some (.slice o_2b k_2b c_2b)] (by kernel_rfl) (by kernel_rfl) (by kernel_rfl) (by kernel_rfl) (by kernel_rfl) (by kernel_rfl) (by kernel_rfl) (by kernel_rfl) (by decide) (by intro j hj; simp only [List.mem_cons, List.not_mem_nil, or_false] at hj; rcases hj with rfl; all_goals exact ⟨_, rfl, rfl, fun ρ w => by unfold ptr; simp [go_sem]⟩) (by intro w' o hC; obtain ⟨c0, c1, c2, c3⟩ := hC; exact ⟨cell_alloc c0 o, cell_alloc c1 o, cell_alloc c2 o, cell_alloc c3 o⟩) (by intro w' hC G hG; obtain ⟨c0, c1, c2, c3⟩ := hC; simp only [List.mem_cons, List.not_mem_nil, or_false] at hG; rcases hG with rfl <;> first | exact ⟨c0, c1, c2, c3⟩) ?_
  have lt_b1 := x_b1.lt
  have lt_b2 := x_b2.lt
  have lt_b3 := x_b3.lt
  have lt_b4 := x_b4.lt
  intro w_5 hn
  replace lt_b1 := Nat.lt_of_lt_of_le lt_b1 hn.size
  replace lt_b2 := Nat.lt_of_lt_of_le lt_b2 hn.size
  replace lt_b3 := Nat.lt_of_lt_of_le lt_b3 hn.size
  replace lt_b4 := Nat.lt_of_lt_of_le lt_b4 hn.size
  replace ha1 := ha1.bl hn; replace ha2 := ha2.bl hn; replace hx := hx.bl hn; replace hq1 := hq1.bl hn; replace hq2 := hq2.bl hn; replace x_b1 := x_b1.bl hn; replace x_b2 := x_b2.bl hn; replace x_b3 := x_b3.bl hn; replace x_b4 := x_b4.bl hn; replace hb := tm hb hn
  clear hn
  have kb0 := hb.size
  refine ⟨⟨x_b3.cell 0 rfl, x_b3.cell 1 rfl, x_b3.cell 2 rfl, x_b3.cell 3 rfl⟩, ?_⟩
  apply wpFl_ld rfl rfl; (case h1 => intro w' hC K hK; obtain ⟨c0, c1, c2, c3⟩ := hC; go_big_op; exact hK); iterate 4 kernel_rfl
  refine wpFl_call rfl (by kernel_rfl) fun w_6 hn hC => ?_; clear hC
  replace ha1 := ha1.bl hn; replace ha2 := ha2.bl hn; replace hx := hx.bl hn; replace hq1 := hq1.bl hn; replace hq2 := hq2.bl hn; replace x_b1 := x_b1.bl hn; replace x_b2 := x_b2.bl hn; replace x_b3 := x_b3.bl hn; replace x_b4 := x_b4.bl hn; replace hb := tm hb hn
  clear hn; intro K hK
  go_big_op
  go_fit (rgI_any 1 0 _ (by decide) (by decide) (by decide) (by decide))
  rintro e w_7 ⟨_, rfl, ⟨n_ca, o_ca, k_ca, c_ca, n_cb, o_cb, k_cb, c_cb, rfl, c1, c2⟩, hb_7⟩
  replace ha1 := ha1.bl hb_7; replace ha2 := ha2.bl hb_7; replace hx := hx.bl hb_7; replace hq1 := hq1.bl hb_7; replace hq2 := hq2.bl hb_7; replace x_b1 := x_b1.bl hb_7; replace x_b2 := x_b2.bl hb_7; replace x_b3 := x_b3.bl hb_7; replace x_b4 := x_b4.bl hb_7; replace hb := tm hb hb_7
  have Lc1 := hide (c1.lenOf ((show (dig (Int.natAbs 1)).length ≤ 1 by decide)))
  have Lc2 := hide (c2.lenOf (zlen_0))
  refine hK _ _ rfl hb_7 ⟨x_b3.cell 0 rfl, x_b3.cell 1 rfl, x_b3.cell 2 rfl, x_b3.cell 3 rfl⟩ ?_
  clear hK K hb_7
  refine wpFl_call rfl (by kernel_rfl) fun w_8 hn hC => ?_; clear hC
  replace ha1 := ha1.bl hn; replace ha2 := ha2.bl hn; replace hx := hx.bl hn; replace hq1 := hq1.bl hn; replace hq2 := hq2.bl hn; replace x_b1 := x_b1.bl hn; replace x_b2 := x_b2.bl hn; replace x_b3 := x_b3.bl hn; replace x_b4 := x_b4.bl hn; replace c1 := c1.bl hn; replace c2 := c2.bl hn; replace hb := tm hb hn
  clear hn; intro K hK
  go_big_op
  go_fit (rres_any (PN.mk' (c1.zn Lc1.out) (c2.zn Lc2.out)) (PN.mk' hq1 hq2) (by omega) (by omega) (by omega) H0.out)
  rintro e w_9 ⟨_, rfl, ⟨n_oa, o_oa, k_oa, c_oa, n_ob, o_ob, k_ob, c_ob, rfl, o1, o2⟩, hb_9⟩
  replace ha1 := ha1.bl hb_9; replace ha2 := ha2.bl hb_9; replace hx := hx.bl hb_9; replace hq1 := hq1.bl hb_9; replace hq2 := hq2.bl hb_9; replace x_b1 := x_b1.bl hb_9; replace x_b2 := x_b2.bl hb_9; replace x_b3 := x_b3.bl hb_9; replace x_b4 := x_b4.bl hb_9; replace c1 := c1.bl hb_9; replace c2 := c2.bl hb_9; replace hb := tm hb hb_9
  refine hK _ _ rfl hb_9 ⟨x_b3.cell 0 rfl, x_b3.cell 1 rfl, x_b3.cell 2 rfl, x_b3.cell 3 rfl⟩ ?_
  clear hK K hb_9
  apply wpFl_end
  case ha => intro pt; simp only [putF, nthO, Act.put, ptr, List.setIfInBounds_toArray, List.set_cons_succ, List.set_cons_zero]; rfl
  case h =>
  intro w_10 pt hn hC hF hD
  clear hC
  clear c1 c2
  replace ha1 := ha1.bl hn; replace ha2 := ha2.bl hn; replace hx := hx.bl hn; replace hq1 := hq1.bl hn; replace hq2 := hq2.bl hn; replace x_b1 := x_b1.bl hn; replace x_b2 := x_b2.bl hn; replace x_b3 := x_b3.bl hn; replace x_b4 := x_b4.bl hn; replace o1 := o1.bl hn; replace o2 := o2.bl hn; replace hb := tm hb hn
  clear hn
  obtain ⟨kB_b5, x_b5⟩ := hF 3 (by decide)
  replace x_b5 : Bs w_10 (pt 3) #[.bool false, .slice none 0 0, .bool false, .slice none 0 0] 26 := x_b5
  clear hF hD
  generalize pt 3 = p_b5 at *
  clear pt
  have kb_b5 := hide (Nat.le_trans kb0 kB_b5)
  have ne_b1_b5 : Hid (p_b1 ≠ p_b5) := Nat.ne_of_lt (Nat.lt_of_lt_of_le lt_b1 kB_b5)
  have ne_b2_b5 : Hid (p_b2 ≠ p_b5) := Nat.ne_of_lt (Nat.lt_of_lt_of_le lt_b2 kB_b5)
  have ne_b3_b5 : Hid (p_b3 ≠ p_b5) := Nat.ne_of_lt (Nat.lt_of_lt_of_le lt_b3 kB_b5)
  have ne_b4_b5 : Hid (p_b4 ≠ p_b5) := Nat.ne_of_lt (Nat.lt_of_lt_of_le lt_b4 kB_b5)
  clear kB_b5
  clear kb0 lt_b1 lt_b2 lt_b3 lt_b4
  refine tc fun K hK => ?_
  obtain ⟨d0, d1, d2, d3⟩ := x_b5.f4
  have f0 := x_b5.free 0; have f1 := x_b5.free 1; have f2 := x_b5.free 2; have f3 := x_b5.free 3
  go_big_op
  have hnd := x_b5.nod rfl rfl
  obtain ⟨w_11, eW, x_b5', ho⟩ : ∃ w', ((((w_10.setCell ⟨p_b5, 0, none⟩ (.bool n_oa)).setCell ⟨p_b5, 1, none⟩ (.slice o_oa k_oa c_oa)).setCell ⟨p_b5, 2, none⟩ (.bool n_ob)).setCell ⟨p_b5, 3, none⟩ (.slice o_ob k_ob c_ob)) = w' ∧ Bs w' p_b5 #[.bool n_oa, .slice o_oa k_oa c_oa, .bool n_ob, .slice o_ob k_ob c_ob] 26 ∧ Only p_b5 w_10 w' := x_b5.setN [(0, .bool n_oa), (1, .slice o_oa k_oa c_oa), (2, .bool n_ob), (3, .slice o_ob k_ob c_ob)]
  rw [eW]; clear eW d0 d1 d2 d3 f0 f1 f2 f3 x_b5
  have x_b5 := x_b5'; clear x_b5'
  replace ha1 := ha1.fr hnd ho; replace ha2 := ha2.fr hnd ho; replace hx := hx.fr hnd ho; replace hq1 := hq1.fr hnd ho; replace hq2 := hq2.fr hnd ho; replace x_b1 := x_b1.frame ho ne_b1_b5; replace x_b2 := x_b2.frame ho ne_b2_b5; replace x_b3 := x_b3.frame ho ne_b3_b5; replace x_b4 := x_b4.frame ho ne_b4_b5; replace o1 := o1.fr hnd ho; replace o2 := o2.fr hnd ho; replace hb := belowOnly hb ho kb_b5
  refine hK _ _ rfl (And.intro ⟨x_b3.cell 0 rfl, x_b3.cell 1 rfl, x_b3.cell 2 rfl, x_b3.cell 3 rfl⟩ True.intro) ?_; clear hK K ho hnd
  apply wpTail_end
  refine hK2 _ _ ?_
  refine wp_seq_k ?_
  intro K3 hK3
  refine wp_region_sq [0, 1, 2, 3, 4] (by kernel_rfl) ?_
  refine sc fun K hK => ?_
  obtain ⟨d0, d1, d2, d3⟩ := x_b1.f4
  go_big_op; refine hK _ _ rfl ?_; clear hK K d0 d1 d2 d3
  refine sc fun K hK => ?_
  obtain ⟨d0, d1, d2, d3⟩ := x_b3.f4
  go_big_op; refine hK _ _ rfl ?_; clear hK K d0 d1 d2 d3
  refine sc fun K hK => ?_
  go_big_op
  go_fit (rres_any (PN.mk' ha1 ha2) (PN.mk' hq1 hq2) (by omega) (by omega) (by omega) H0.out)
  rintro e w_12 ⟨_, rfl, ⟨n_ra, o_ra, k_ra, c_ra, n_rb, o_rb, k_rb, c_rb, rfl, r1, r2⟩, hb_12⟩
  clear x_b1
  replace ha1 := ha1.bl hb_12; replace ha2 := ha2.bl hb_12; replace hx := hx.bl hb_12; replace hq1 := hq1.bl hb_12; replace hq2 := hq2.bl hb_12; replace x_b2 := x_b2.bl hb_12; replace x_b3 := x_b3.bl hb_12; replace x_b4 := x_b4.bl hb_12; replace o1 := o1.bl hb_12; replace o2 := o2.bl hb_12; replace x_b5 := x_b5.bl hb_12; replace hb := tm hb hb_12
  refine hK _ _ rfl ?_
  clear hK K hb_12
  refine sc fun K hK => ?_
  go_big_op
  clear ha1 ha2
  have lt_b2 := x_b2.lt
  have lt_b3 := x_b3.lt
  have lt_b4 := x_b4.lt
  have lt_b5 := x_b5.lt
  obtain ⟨p_b6, w_13, eP, eW, x_b6, hn, kb_b6⟩ := newBox w_12 #[.bool false, .slice none 0 0, .bool false, .slice none 0 0] 26 hb.size
  have ne_b2_b6 : Hid (p_b2 ≠ p_b6) := Nat.ne_of_lt (eP ▸ lt_b2)
  have ne_b3_b6 : Hid (p_b3 ≠ p_b6) := Nat.ne_of_lt (eP ▸ lt_b3)
  have ne_b4_b6 : Hid (p_b4 ≠ p_b6) := Nat.ne_of_lt (eP ▸ lt_b4)
  have ne_b5_b6 : Hid (p_b5 ≠ p_b6) := Nat.ne_of_lt (eP ▸ lt_b5)
  rw [eW, eP]
  clear eW eP lt_b2 lt_b3 lt_b4 lt_b5
  replace hx := hx.bl hn; replace hq1 := hq1.bl hn; replace hq2 := hq2.bl hn; replace x_b2 := x_b2.bl hn; replace x_b3 := x_b3.bl hn; replace x_b4 := x_b4.bl hn; replace o1 := o1.bl hn; replace o2 := o2.bl hn; replace x_b5 := x_b5.bl hn; replace r1 := r1.bl hn; replace r2 := r2.bl hn; replace hb := tm hb hn
  refine hK _ _ rfl ?_; clear hK K hn
  refine sc fun K hK => ?_
  obtain ⟨d0, d1, d2, d3⟩ := x_b6.f4
  have f0 := x_b6.free 0; have f1 := x_b6.free 1; have f2 := x_b6.free 2; have f3 := x_b6.free 3
  go_big_op
  have hnd := x_b6.nod rfl rfl
  obtain ⟨w_14, eW, x_b6', ho⟩ : ∃ w', ((((w_13.setCell ⟨p_b6, 0, none⟩ (.bool n_ra)).setCell ⟨p_b6, 1, none⟩ (.slice o_ra k_ra c_ra)).setCell ⟨p_b6, 2, none⟩ (.bool n_rb)).setCell ⟨p_b6, 3, none⟩ (.slice o_rb k_rb c_rb)) = w' ∧ Bs w' p_b6 #[.bool n_ra, .slice o_ra k_ra c_ra, .bool n_rb, .slice o_rb k_rb c_rb] 26 ∧ Only p_b6 w_13 w' := x_b6.setN [(0, .bool n_ra), (1, .slice o_ra k_ra c_ra), (2, .bool n_rb), (3, .slice o_rb k_rb c_rb)]
  rw [eW]; clear eW d0 d1 d2 d3 f0 f1 f2 f3 x_b6
  have x_b6 := x_b6'; clear x_b6'
  replace hx := hx.fr hnd ho; replace hq1 := hq1.fr hnd ho; replace hq2 := hq2.fr hnd ho; replace x_b2 := x_b2.frame ho ne_b2_b6; replace x_b3 := x_b3.frame ho ne_b3_b6; replace x_b4 := x_b4.frame ho ne_b4_b6; replace o1 := o1.fr hnd ho; replace o2 := o2.fr hnd ho; replace x_b5 := x_b5.frame ho ne_b5_b6; replace r1 := r1.fr hnd ho; replace r2 := r2.fr hnd ho; replace hb := belowOnly hb ho kb_b6
  refine hK _ _ rfl ?_; clear hK K ho hnd
  apply wpSq_end
  refine hK3 _ _ ?_
  refine wp_seq_k ?_
  intro K4 hK4
  refine wp_region_sq [0, 1, 2, 3] (by kernel_rfl) ?_
  refine sc fun K hK => ?_
  obtain ⟨d0, d1⟩ := x_b2.f2
  go_big_op; refine hK _ _ rfl ?_; clear hK K d0 d1
  refine sc fun K hK => ?_
  go_big_op
  go_fit (rnorm_any hx (by omega) )
  rintro e w_15 ⟨v_e, rfl, e, hb_15⟩
  clear x_b2
  replace hx := hx.bl hb_15; replace hq1 := hq1.bl hb_15; replace hq2 := hq2.bl hb_15; replace x_b3 := x_b3.bl hb_15; replace x_b4 := x_b4.bl hb_15; replace o1 := o1.bl hb_15; replace o2 := o2.bl hb_15; replace x_b5 := x_b5.bl hb_15; replace r1 := r1.bl hb_15; replace r2 := r2.bl hb_15; replace x_b6 := x_b6.bl hb_15; replace hb := tm hb hb_15
  replace e := e.rd
  obtain ⟨n_e, o_e, k_e, c_e, rfl⟩ := e.open2
  have Le := hide (e.lenOf ((hx.len)))
  rw [HN.out] at e
  refine hK _ _ rfl ?_
  clear hK K hb_15
  refine sc fun K hK => ?_
  go_big_op
  clear hx
  have lt_b3 := x_b3.lt
  have lt_b4 := x_b4.lt
  have lt_b5 := x_b5.lt
  have lt_b6 := x_b6.lt
  obtain ⟨p_b7, w_16, eP, eW, x_b7, hn, kb_b7⟩ := newBox w_15 #[.bool false, .slice none 0 0] 24 hb.size
  have ne_b3_b7 : Hid (p_b3 ≠ p_b7) := Nat.ne_of_lt (eP ▸ lt_b3)
  have ne_b4_b7 : Hid (p_b4 ≠ p_b7) := Nat.ne_of_lt (eP ▸ lt_b4)
  have ne_b5_b7 : Hid (p_b5 ≠ p_b7) := Nat.ne_of_lt (eP ▸ lt_b5)
  have ne_b6_b7 : Hid (p_b6 ≠ p_b7) := Nat.ne_of_lt (eP ▸ lt_b6)
  rw [eW, eP]
  clear eW eP lt_b3 lt_b4 lt_b5 lt_b6
  replace hq1 := hq1.bl hn; replace hq2 := hq2.bl hn; replace x_b3 := x_b3.bl hn; replace x_b4 := x_b4.bl hn; replace o1 := o1.bl hn; replace o2 := o2.bl hn; replace x_b5 := x_b5.bl hn; replace r1 := r1.bl hn; replace r2 := r2.bl hn; replace x_b6 := x_b6.bl hn; replace e := e.bl hn; replace hb := tm hb hn
  refine hK _ _ rfl ?_; clear hK K hn
  refine sc fun K hK => ?_
  obtain ⟨d0, d1⟩ := x_b7.f2
  have f0 := x_b7.free 0; have f1 := x_b7.free 1
  go_big_op
  have hnd := x_b7.nod rfl rfl
  obtain ⟨w_17, eW, x_b7', ho⟩ : ∃ w', ((w_16.setCell ⟨p_b7, 0, none⟩ (.bool n_e)).setCell ⟨p_b7, 1, none⟩ (.slice o_e k_e c_e)) = w' ∧ Bs w' p_b7 #[.bool n_e, .slice o_e k_e c_e] 24 ∧ Only p_b7 w_16 w' := x_b7.setN [(0, .bool n_e), (1, .slice o_e k_e c_e)]
  rw [eW]; clear eW d0 d1 f0 f1 x_b7
  have x_b7 := x_b7'; clear x_b7'
  replace hq1 := hq1.fr hnd ho; replace hq2 := hq2.fr hnd ho; replace x_b3 := x_b3.frame ho ne_b3_b7; replace x_b4 := x_b4.frame ho ne_b4_b7; replace o1 := o1.fr hnd ho; replace o2 := o2.fr hnd ho; replace x_b5 := x_b5.frame ho ne_b5_b7; replace r1 := r1.fr hnd ho; replace r2 := r2.fr hnd ho; replace x_b6 := x_b6.frame ho ne_b6_b7; replace e := e.fr hnd ho; replace hb := belowOnly hb ho kb_b7
  refine hK _ _ rfl ?_; clear hK K ho hnd
  apply wpSq_end
  refine hK4 _ _ ?_
  refine wp_seq_k ?_
  intro K5 hK5
  refine wp_region_sq [0, 1, 2] (by kernel_rfl) ?_
  have Le := hide (e.lenOf ((LK.out N (Nat.le_refl _))))
  refine sc fun K hK => ?_
  go_big_op
  go_fit (ri_any 2 _ (by decide) (by decide))
  rintro e w_18 ⟨v_t, rfl, t, hb_18⟩
  replace hq1 := hq1.bl hb_18; replace hq2 := hq2.bl hb_18; replace x_b3 := x_b3.bl hb_18; replace x_b4 := x_b4.bl hb_18; replace o1 := o1.bl hb_18; replace o2 := o2.bl hb_18; replace x_b5 := x_b5.bl hb_18; replace r1 := r1.bl hb_18; replace r2 := r2.bl hb_18; replace x_b6 := x_b6.bl hb_18; replace e := e.bl hb_18; replace x_b7 := x_b7.bl hb_18; replace hb := tm hb hb_18
  replace t := t.rd
  obtain ⟨n_t, o_t, k_t, c_t, rfl⟩ := t.open2
  have Lt := hide (t.lenOf ((show (dig (Int.natAbs 2)).length ≤ 1 by decide)))
  refine hK _ _ rfl ?_
  clear hK K hb_18
  refine sc fun K hK => ?_
  go_big_op
  have lt_b3 := x_b3.lt
  have lt_b4 := x_b4.lt
  have lt_b5 := x_b5.lt
  have lt_b6 := x_b6.lt
  have lt_b7 := x_b7.lt
  obtain ⟨p_b8, w_19, eP, eW, x_b8, hn, kb_b8⟩ := newBox w_18 #[.bool false, .slice none 0 0] 24 hb.size
  have ne_b3_b8 : Hid (p_b3 ≠ p_b8) := Nat.ne_of_lt (eP ▸ lt_b3)
  have ne_b4_b8 : Hid (p_b4 ≠ p_b8) := Nat.ne_of_lt (eP ▸ lt_b4)
  have ne_b5_b8 : Hid (p_b5 ≠ p_b8) := Nat.ne_of_lt (eP ▸ lt_b5)
  have ne_b6_b8 : Hid (p_b6 ≠ p_b8) := Nat.ne_of_lt (eP ▸ lt_b6)
  have ne_b7_b8 : Hid (p_b7 ≠ p_b8) := Nat.ne_of_lt (eP ▸ lt_b7)
  rw [eW, eP]
  clear eW eP lt_b3 lt_b4 lt_b5 lt_b6 lt_b7
  replace hq1 := hq1.bl hn; replace hq2 := hq2.bl hn; replace x_b3 := x_b3.bl hn; replace x_b4 := x_b4.bl hn; replace o1 := o1.bl hn; replace o2 := o2.bl hn; replace x_b5 := x_b5.bl hn; replace r1 := r1.bl hn; replace r2 := r2.bl hn; replace x_b6 := x_b6.bl hn; replace e := e.bl hn; replace x_b7 := x_b7.bl hn; replace t := t.bl hn; replace hb := tm hb hn
  refine hK _ _ rfl ?_; clear hK K hn
  refine sc fun K hK => ?_
  obtain ⟨d0, d1⟩ := x_b8.f2
  have f0 := x_b8.free 0; have f1 := x_b8.free 1
  go_big_op
  have hnd := x_b8.nod rfl rfl
  obtain ⟨w_20, eW, x_b8', ho⟩ : ∃ w', ((w_19.setCell ⟨p_b8, 0, none⟩ (.bool n_t)).setCell ⟨p_b8, 1, none⟩ (.slice o_t k_t c_t)) = w' ∧ Bs w' p_b8 #[.bool n_t, .slice o_t k_t c_t] 24 ∧ Only p_b8 w_19 w' := x_b8.setN [(0, .bool n_t), (1, .slice o_t k_t c_t)]
  rw [eW]; clear eW d0 d1 f0 f1 x_b8
  have x_b8 := x_b8'; clear x_b8'
  replace hq1 := hq1.fr hnd ho; replace hq2 := hq2.fr hnd ho; replace x_b3 := x_b3.frame ho ne_b3_b8; replace x_b4 := x_b4.frame ho ne_b4_b8; replace o1 := o1.fr hnd ho; replace o2 := o2.fr hnd ho; replace x_b5 := x_b5.frame ho ne_b5_b8; replace r1 := r1.fr hnd ho; replace r2 := r2.fr hnd ho; replace x_b6 := x_b6.frame ho ne_b6_b8; replace e := e.fr hnd ho; replace x_b7 := x_b7.frame ho ne_b7_b8; replace t := t.fr hnd ho; replace hb := belowOnly hb ho kb_b8
  refine hK _ _ rfl ?_; clear hK K ho hnd
  apply wpSq_end
  refine hK5 _ _ ?_
  refine wp_seq_k ?_
  intro K6 hK6
  refine wp_block ?_
  go_loopg [] N (fun K wr => ∃ O1 O2 X1 X2 an1 ao1 ak1 ac1 an2 ao2 ak2 ac2 bn1 bo1 bk1 bc1 bn2 bo2 bk2 bc2 kn ko kk kc, Hid (RP u v (gpw x y N).1 (gpw x y N).2 O1 O2 X1 X2 K ∧ (gR1 O1 O2 u v = O1 ∧ gR2 O1 O2 u v = O2) ∧ K ≤ N) ∧ Hid (((dig O1.natAbs).length ≤ L + 1 ∧ (dig O2.natAbs).length ≤ L + 1) ∧ ((dig X1.natAbs).length ≤ L + 1 ∧ (dig X2.natAbs).length ≤ L + 1)) ∧ Bs wr p_b5 #[.bool an1, .slice ao1 ak1 ac1, .bool an2, .slice ao2 ak2 ac2] 26 ∧ ZC wr (.agg #[.bool an1, .slice ao1 ak1 ac1]) O1 ∧ ZC wr (.agg #[.bool an2, .slice ao2 ak2 ac2]) O2 ∧ Bs wr p_b6 #[.bool bn1, .slice bo1 bk1 bc1, .bool bn2, .slice bo2 bk2 bc2] 26 ∧ ZC wr (.agg #[.bool bn1, .slice bo1 bk1 bc1]) X1 ∧ ZC wr (.agg #[.bool bn2, .slice bo2 bk2 bc2]) X2 ∧ Bs wr p_b7 #[.bool kn, .slice ko kk kc] 24 ∧ ZC wr (.agg #[.bool kn, .slice ko kk kc]) (K : Int) ∧ Bs wr p_b8 #[.bool n_t, .slice o_t k_t c_t] 24 ∧ ZC wr (.agg #[.bool n_t, .slice o_t k_t c_t]) 2 ∧ Bs wr p_b3 #[.bool n_2a, .slice o_2a k_2a c_2a, .bool n_2b, .slice o_2b k_2b c_2b] 26 ∧ ZN wr (.agg #[.bool n_2a, .slice o_2a k_2a c_2a]) u L ∧ ZN wr (.agg #[.bool n_2b, .slice o_2b k_2b c_2b]) v L ∧ Bs wr p_b4 #[.bool false, .slice none 0 0, .bool false, .slice none 0 0] 26 ∧ Below w.heap.size w wr)
  case atStart => exact ⟨_, _, _, _, _, _, _, _, _, _, _, _, _, _, _, _, _, _, _, _, _, _, _, _, hide ⟨ST.out, gR_again H0.out, Nat.le_refl _⟩, hide ⟨LR.out _ _, LR.out _ _⟩, x_b5, o1, o2, x_b6, r1, r2, x_b7, e, x_b8, t, x_b3, hq1, hq2, x_b4, hb⟩
  case round =>
  clear hq1 hq2 x_b3 x_b4 o1 o2 x_b5 r1 r2 x_b6 e x_b7 t x_b8
  obtain ⟨O1, O2, X1, X2, an1, ao1, ak1, ac1, an2, ao2, ak2, ac2, bn1, bo1, bk1, bc1, bn2, bo2, bk2, bc2, kn, ko, kk, kc, HI, LL, x_b5, a1, a2, x_b6, b1, b2, x_b7, g, x_b8, t, x_b3, hq1, hq2, x_b4, hb⟩ := hrel
  have La1 := hide LL.out.1.1
  have La2 := hide LL.out.1.2
  have Lb1 := hide LL.out.2.1
  have Lb2 := hide LL.out.2.2
  have Lg := hide (LK.out gk HI.out.2.2)
  by_cases hk0 : gk = 0
  · have HK := hide hk0
    have HF := hide (RP.fin H0.out (by have := HI.out.1; rw [hk0] at this; exact this) HI.out.2.1.1 HI.out.2.1.2)
    have HS := hide (show ((gk : Nat) : Int).sign = 0 by rw [hk0]; rfl)
    rw [HF.out.1] at a1
    rw [HF.out.2] at a2
    clear hk0
    refine wp_seq_k ?_
    intro K7 hK7
    refine wp_seq_k ?_
    intro K8 hK8
    refine wp_region_sq [0, 1, 2] (by kernel_rfl) ?_
    refine sc fun K hK => ?_
    obtain ⟨d0, d1⟩ := x_b7.f2
    go_big_op; refine hK _ _ rfl ?_; clear hK K d0 d1
    refine sc fun K hK => ?_
    go_big_op
    go_fit (rzsign_any (g.zn Lg.out) (by omega) )
    rintro e w_21 ⟨rfl, hb_21⟩
    replace x_b3 := x_b3.bl hb_21; replace hq1 := hq1.bl hb_21; replace hq2 := hq2.bl hb_21; replace x_b4 := x_b4.bl hb_21; replace x_b5 := x_b5.bl hb_21; replace a1 := a1.bl hb_21; replace a2 := a2.bl hb_21; replace x_b6 := x_b6.bl hb_21; replace b1 := b1.bl hb_21; replace b2 := b2.bl hb_21; replace x_b7 := x_b7.bl hb_21; replace g := g.bl hb_21; replace x_b8 := x_b8.bl hb_21; replace t := t.bl hb_21; replace hb := tm hb hb_21
    rw [HS.out]
    refine hK _ _ rfl ?_
    clear hK K hb_21
    refine sc fun K hK => ?_
    go_big_op; refine hK _ _ rfl ?_; clear hK K
    apply wpSq_end
    refine hK8 _ _ ?_
    refine wp_cond_false (congrArg Value.bool (show _ = false from (by first | rfl | assumption | (simp; done) | exact decide_eq_false (by omega) | omega))) ?_
    refine wp_exit ?_
    refine hK6 _ _ ?_
    refine wp_seq_k ?_
    intro K9 hK9
    refine wp_region_sq [0, 1] (by kernel_rfl) ?_
    refine sc fun K hK => ?_
    obtain ⟨d0, d1, d2, d3⟩ := x_b5.f4
    go_big_op; refine hK _ _ rfl ?_; clear hK K d0 d1 d2 d3
    refine sc fun K hK => ?_
    obtain ⟨d0, d1, d2, d3⟩ := x_b4.f4
    have f0 := x_b4.free 0; have f1 := x_b4.free 1; have f2 := x_b4.free 2; have f3 := x_b4.free 3
    go_big_op
    have hnd := x_b4.nod rfl rfl
    obtain ⟨w_22, eW, x_b4', ho⟩ : ∃ w', ((((w_21.setCell ⟨p_b4, 0, none⟩ (.bool an1)).setCell ⟨p_b4, 1, none⟩ (.slice ao1 ak1 ac1)).setCell ⟨p_b4, 2, none⟩ (.bool an2)).setCell ⟨p_b4, 3, none⟩ (.slice ao2 ak2 ac2)) = w' ∧ Bs w' p_b4 #[.bool an1, .slice ao1 ak1 ac1, .bool an2, .slice ao2 ak2 ac2] 26 ∧ Only p_b4 w_21 w' := x_b4.setN [(0, .bool an1), (1, .slice ao1 ak1 ac1), (2, .bool an2), (3, .slice ao2 ak2 ac2)]
    rw [eW]; clear eW d0 d1 d2 d3 f0 f1 f2 f3 x_b4
    have x_b4 := x_b4'; clear x_b4'
    replace x_b3 := x_b3.frame ho ne_b3_b4; replace hq1 := hq1.fr hnd ho; replace hq2 := hq2.fr hnd ho; replace x_b5 := x_b5.frame ho ne_b4_b5.symm; replace a1 := a1.fr hnd ho; replace a2 := a2.fr hnd ho; replace x_b6 := x_b6.frame ho ne_b4_b6.symm; replace b1 := b1.fr hnd ho; replace b2 := b2.fr hnd ho; replace x_b7 := x_b7.frame ho ne_b4_b7.symm; replace g := g.fr hnd ho; replace x_b8 := x_b8.frame ho ne_b4_b8.symm; replace t := t.fr hnd ho; replace hb := belowOnly hb ho kb_b4
    refine hK _ _ rfl ?_; clear hK K ho hnd
    apply wpSq_end
    refine hK9 _ _ ?_
    refine wp_ret ?_
    try dsimp only [Exit.then, Exit.inBlock]
    obtain ⟨r0_0, r0_1, r0_2, r0_3⟩ := x_b4.f4
    refine bodyPost_ret (v := (.agg #[.bool an1, .slice ao1 ak1 ac1, .bool an2, .slice ao2 ak2 ac2])) (by simp [results, Try.results18, go_sem, r0_0, r0_1, r0_2, r0_3]) rfl ?_
    exact ⟨_, rfl, .mk' a1 a2, hb⟩
  · have HS := hide (show ((gk : Nat) : Int).sign = 1 from Int.sign_eq_one_of_pos (by omega))
    have HT := hide (two_fdiv gk)
    have HM := hide (show gk / 2 < gk by omega)
    clear hk0
    by_cases hr : gk % 2 = 0
    · have HR := hide (show (((gk % 2 : Nat) : Int)).sign = 0 by rw [hr]; rfl)
      have HE := hide (RP.even (q := gk / 2) (by have := HI.out.1; rw [show gk = 2 * (gk / 2) by omega] at this; exact this))
      clear hr
      refine wp_seq_k ?_
      intro K7 hK7
      refine wp_seq_k ?_
      intro K8 hK8
      refine wp_region_sq [0, 1, 2] (by kernel_rfl) ?_
      refine sc fun K hK => ?_
      obtain ⟨d0, d1⟩ := x_b7.f2
      go_big_op; refine hK _ _ rfl ?_; clear hK K d0 d1
      refine sc fun K hK => ?_
      go_big_op
      go_fit (rzsign_any (g.zn Lg.out) (by omega) )
      rintro e w_21 ⟨rfl, hb_21⟩
      replace x_b3 := x_b3.bl hb_21; replace hq1 := hq1.bl hb_21; replace hq2 := hq2.bl hb_21; replace x_b4 := x_b4.bl hb_21; replace x_b5 := x_b5.bl hb_21; replace a1 := a1.bl hb_21; replace a2 := a2.bl hb_21; replace x_b6 := x_b6.bl hb_21; replace b1 := b1.bl hb_21; replace b2 := b2.bl hb_21; replace x_b7 := x_b7.bl hb_21; replace g := g.bl hb_21; replace x_b8 := x_b8.bl hb_21; replace t := t.bl hb_21; replace hb := tm hb hb_21
      rw [HS.out]
      refine hK _ _ rfl ?_
      clear hK K hb_21
      refine sc fun K hK => ?_
      go_big_op; refine hK _ _ rfl ?_; clear hK K
      apply wpSq_end
      refine hK8 _ _ ?_
      refine wp_cond_true (congrArg Value.bool (show _ = true from (by first | rfl | assumption | (simp; done) | exact decide_eq_true (by omega) | omega))) ?_
      refine wp_skip ?_
      refine hK7 _ _ ?_
      refine wp_block ?_
      refine wp_seq_k ?_
      intro K9 hK9
      refine wp_region_sq [0, 1, 2, 3, 4, 5, 6, 7, 8, 9] (by kernel_rfl) ?_
      refine sc fun K hK => ?_
      obtain ⟨d0, d1⟩ := x_b7.f2
      go_big_op; refine hK _ _ rfl ?_; clear hK K d0 d1
      refine sc fun K hK => ?_
      obtain ⟨d0, d1⟩ := x_b8.f2
      go_big_op; refine hK _ _ rfl ?_; clear hK K d0 d1
      refine sc fun K hK => ?_
      go_big_op
      go_fit (rfloor_any (g.zn Lg.out) (t.zn Lt.out) (by omega) (by omega) (by decide))
      rintro e w_22 ⟨v_q, v_f, rfl, q, f, hb_22⟩
      replace x_b3 := x_b3.bl hb_22; replace hq1 := hq1.bl hb_22; replace hq2 := hq2.bl hb_22; replace x_b4 := x_b4.bl hb_22; replace x_b5 := x_b5.bl hb_22; replace a1 := a1.bl hb_22; replace a2 := a2.bl hb_22; replace x_b6 := x_b6.bl hb_22; replace b1 := b1.bl hb_22; replace b2 := b2.bl hb_22; replace x_b7 := x_b7.bl hb_22; replace g := g.bl hb_22; replace x_b8 := x_b8.bl hb_22; replace t := t.bl hb_22; replace hb := tm hb hb_22
      obtain ⟨n_q, o_q, k_q, c_q, rfl⟩ := q.open2
      obtain ⟨n_f, o_f, k_f, c_f, rfl⟩ := f.open2
      have Lq := hide (q.lenOf (fdiv_len ((by decide)) (Lg.out)))
      have Lf := hide (f.lenOf (fmod_len ((by decide)) (Lt.out)))
      rw [HT.out.1] at q
      rw [HT.out.2] at f
      refine hK _ _ rfl ?_
      clear hK K hb_22
      refine sc fun K hK => ?_
      go_big_move; refine hK _ _ rfl ?_; clear hK K
      refine sc fun K hK => ?_
      go_big_op; refine hK _ _ rfl ?_; clear hK K
      refine sc fun K hK => ?_
      go_big_op; refine hK _ _ rfl ?_; clear hK K
      refine sc fun K hK => ?_
      go_big_op
      have lt_b3 := x_b3.lt
      have lt_b4 := x_b4.lt
      have lt_b5 := x_b5.lt
      have lt_b6 := x_b6.lt
      have lt_b7 := x_b7.lt
      have lt_b8 := x_b8.lt
      obtain ⟨p_b9, w_23, eP, eW, x_b9, hn, kb_b9⟩ := newBox w_22 #[.bool false, .slice none 0 0] 24 hb.size
      have ne_b3_b9 : Hid (p_b3 ≠ p_b9) := Nat.ne_of_lt (eP ▸ lt_b3)
      have ne_b4_b9 : Hid (p_b4 ≠ p_b9) := Nat.ne_of_lt (eP ▸ lt_b4)
      have ne_b5_b9 : Hid (p_b5 ≠ p_b9) := Nat.ne_of_lt (eP ▸ lt_b5)
      have ne_b6_b9 : Hid (p_b6 ≠ p_b9) := Nat.ne_of_lt (eP ▸ lt_b6)
      have ne_b7_b9 : Hid (p_b7 ≠ p_b9) := Nat.ne_of_lt (eP ▸ lt_b7)
      have ne_b8_b9 : Hid (p_b8 ≠ p_b9) := Nat.ne_of_lt (eP ▸ lt_b8)
      rw [eW, eP]
      clear eW eP lt_b3 lt_b4 lt_b5 lt_b6 lt_b7 lt_b8
      replace x_b3 := x_b3.bl hn; replace hq1 := hq1.bl hn; replace hq2 := hq2.bl hn; replace x_b4 := x_b4.bl hn; replace x_b5 := x_b5.bl hn; replace a1 := a1.bl hn; replace a2 := a2.bl hn; replace x_b6 := x_b6.bl hn; replace b1 := b1.bl hn; replace b2 := b2.bl hn; replace x_b7 := x_b7.bl hn; replace g := g.bl hn; replace x_b8 := x_b8.bl hn; replace t := t.bl hn; replace q := q.bl hn; replace f := f.bl hn; replace hb := tm hb hn
      refine hK _ _ rfl ?_; clear hK K hn
      refine sc fun K hK => ?_
      go_big_op
      have lt_b3 := x_b3.lt
      have lt_b4 := x_b4.lt
      have lt_b5 := x_b5.lt
      have lt_b6 := x_b6.lt
      have lt_b7 := x_b7.lt
      have lt_b8 := x_b8.lt
      have lt_b9 := x_b9.lt
      obtain ⟨p_b10, w_24, eP, eW, x_b10, hn, kb_b10⟩ := newBox w_23 #[.bool false, .slice none 0 0] 24 hb.size
      have ne_b3_b10 : Hid (p_b3 ≠ p_b10) := Nat.ne_of_lt (eP ▸ lt_b3)
      have ne_b4_b10 : Hid (p_b4 ≠ p_b10) := Nat.ne_of_lt (eP ▸ lt_b4)
      have ne_b5_b10 : Hid (p_b5 ≠ p_b10) := Nat.ne_of_lt (eP ▸ lt_b5)
      have ne_b6_b10 : Hid (p_b6 ≠ p_b10) := Nat.ne_of_lt (eP ▸ lt_b6)
      have ne_b7_b10 : Hid (p_b7 ≠ p_b10) := Nat.ne_of_lt (eP ▸ lt_b7)
      have ne_b8_b10 : Hid (p_b8 ≠ p_b10) := Nat.ne_of_lt (eP ▸ lt_b8)
      have ne_b9_b10 : Hid (p_b9 ≠ p_b10) := Nat.ne_of_lt (eP ▸ lt_b9)
      rw [eW, eP]
      clear eW eP lt_b3 lt_b4 lt_b5 lt_b6 lt_b7 lt_b8 lt_b9
      replace x_b3 := x_b3.bl hn; replace hq1 := hq1.bl hn; replace hq2 := hq2.bl hn; replace x_b4 := x_b4.bl hn; replace x_b5 := x_b5.bl hn; replace a1 := a1.bl hn; replace a2 := a2.bl hn; replace x_b6 := x_b6.bl hn; replace b1 := b1.bl hn; replace b2 := b2.bl hn; replace x_b7 := x_b7.bl hn; replace g := g.bl hn; replace x_b8 := x_b8.bl hn; replace t := t.bl hn; replace q := q.bl hn; replace f := f.bl hn; replace x_b9 := x_b9.bl hn; replace hb := tm hb hn
      refine hK _ _ rfl ?_; clear hK K hn
      refine sc fun K hK => ?_
      obtain ⟨d0, d1⟩ := x_b9.f2
      have f0 := x_b9.free 0; have f1 := x_b9.free 1
      go_big_op
      have hnd := x_b9.nod rfl rfl
      obtain ⟨w_25, eW, x_b9', ho⟩ : ∃ w', ((w_24.setCell ⟨p_b9, 0, none⟩ (.bool n_q)).setCell ⟨p_b9, 1, none⟩ (.slice o_q k_q c_q)) = w' ∧ Bs w' p_b9 #[.bool n_q, .slice o_q k_q c_q] 24 ∧ Only p_b9 w_24 w' := x_b9.setN [(0, .bool n_q), (1, .slice o_q k_q c_q)]
      rw [eW]; clear eW d0 d1 f0 f1 x_b9
      have x_b9 := x_b9'; clear x_b9'
      replace x_b3 := x_b3.frame ho ne_b3_b9; replace hq1 := hq1.fr hnd ho; replace hq2 := hq2.fr hnd ho; replace x_b4 := x_b4.frame ho ne_b4_b9; replace x_b5 := x_b5.frame ho ne_b5_b9; replace a1 := a1.fr hnd ho; replace a2 := a2.fr hnd ho; replace x_b6 := x_b6.frame ho ne_b6_b9; replace b1 := b1.fr hnd ho; replace b2 := b2.fr hnd ho; replace x_b7 := x_b7.frame ho ne_b7_b9; replace g := g.fr hnd ho; replace x_b8 := x_b8.frame ho ne_b8_b9; replace t := t.fr hnd ho; replace q := q.fr hnd ho; replace f := f.fr hnd ho; replace x_b10 := x_b10.frame ho ne_b9_b10.symm; replace hb := belowOnly hb ho kb_b9
      refine hK _ _ rfl ?_; clear hK K ho hnd
      refine sc fun K hK => ?_
      obtain ⟨d0, d1⟩ := x_b10.f2
      have f0 := x_b10.free 0; have f1 := x_b10.free 1
      go_big_op
      have hnd := x_b10.nod rfl rfl
      obtain ⟨w_26, eW, x_b10', ho⟩ : ∃ w', ((w_25.setCell ⟨p_b10, 0, none⟩ (.bool n_f)).setCell ⟨p_b10, 1, none⟩ (.slice o_f k_f c_f)) = w' ∧ Bs w' p_b10 #[.bool n_f, .slice o_f k_f c_f] 24 ∧ Only p_b10 w_25 w' := x_b10.setN [(0, .bool n_f), (1, .slice o_f k_f c_f)]
      rw [eW]; clear eW d0 d1 f0 f1 x_b10
      have x_b10 := x_b10'; clear x_b10'
      replace x_b3 := x_b3.frame ho ne_b3_b10; replace hq1 := hq1.fr hnd ho; replace hq2 := hq2.fr hnd ho; replace x_b4 := x_b4.frame ho ne_b4_b10; replace x_b5 := x_b5.frame ho ne_b5_b10; replace a1 := a1.fr hnd ho; replace a2 := a2.fr hnd ho; replace x_b6 := x_b6.frame ho ne_b6_b10; replace b1 := b1.fr hnd ho; replace b2 := b2.fr hnd ho; replace x_b7 := x_b7.frame ho ne_b7_b10; replace g := g.fr hnd ho; replace x_b8 := x_b8.frame ho ne_b8_b10; replace t := t.fr hnd ho; replace q := q.fr hnd ho; replace f := f.fr hnd ho; replace x_b9 := x_b9.frame ho ne_b9_b10; replace hb := belowOnly hb ho kb_b10
      refine hK _ _ rfl ?_; clear hK K ho hnd
      apply wpSq_end
      refine hK9 _ _ ?_
      refine wp_seq_k ?_
      intro K10 hK10
      refine wp_seq_k ?_
      intro K11 hK11
      refine wp_region_sq [0, 1, 2] (by kernel_rfl) ?_
      refine sc fun K hK => ?_
      obtain ⟨d0, d1⟩ := x_b10.f2
      go_big_op; refine hK _ _ rfl ?_; clear hK K d0 d1
      have Lq := hide (q.lenOf ((LK.out _ (Nat.le_trans (Nat.div_le_self _ _) HI.out.2.2))))
      have Lf := hide (f.lenOf ((LK.out _ (Nat.le_trans (Nat.mod_le _ _) HI.out.2.2))))
      refine sc fun K hK => ?_
      go_big_op
      go_fit (rzsign_any (f.zn Lf.out) (by omega) )
      rintro e w_27 ⟨rfl, hb_27⟩
      clear x_b10
      replace x_b3 := x_b3.bl hb_27; replace hq1 := hq1.bl hb_27; replace hq2 := hq2.bl hb_27; replace x_b4 := x_b4.bl hb_27; replace x_b5 := x_b5.bl hb_27; replace a1 := a1.bl hb_27; replace a2 := a2.bl hb_27; replace x_b6 := x_b6.bl hb_27; replace b1 := b1.bl hb_27; replace b2 := b2.bl hb_27; replace x_b7 := x_b7.bl hb_27; replace g := g.bl hb_27; replace x_b8 := x_b8.bl hb_27; replace t := t.bl hb_27; replace q := q.bl hb_27; replace f := f.bl hb_27; replace x_b9 := x_b9.bl hb_27; replace hb := tm hb hb_27
      rw [HR.out]
      refine hK _ _ rfl ?_
      clear hK K hb_27
      refine sc fun K hK => ?_
      go_big_op; refine hK _ _ rfl ?_; clear hK K
      apply wpSq_end
      refine hK11 _ _ ?_
      refine wp_cond_false (congrArg Value.bool (show _ = false from (by first | rfl | assumption | (simp; done) | exact decide_eq_false (by omega) | omega))) ?_
      refine wp_skip ?_
      refine hK10 _ _ ?_
      refine wp_seq_k ?_
      intro K12 hK12
      refine wp_region_fl2 [(0, false), (1, false), (3, false), (2, true), (4, true)] [5] [] (fun _ => default) [0, 0, 99, 1, 99, 99] [(5, 0)] (fun w' => w'.cell? ⟨p_b6, 0, none⟩ = some (.bool bn1) ∧ w'.cell? ⟨p_b6, 1, none⟩ = some (.slice bo1 bk1 bc1) ∧ w'.cell? ⟨p_b6, 2, none⟩ = some (.bool bn2) ∧ w'.cell? ⟨p_b6, 3, none⟩ = some (.slice bo2 bk2 bc2) ∧ w'.cell? ⟨p_b3, 0, none⟩ = some (.bool n_2a) ∧ w'.cell? ⟨p_b3, 1, none⟩ = some (.slice o_2a k_2a c_2a) ∧ w'.cell? ⟨p_b3, 2, none⟩ = some (.bool n_2b) ∧ w'.cell? ⟨p_b3, 3, none⟩ = some (.slice o_2b k_2b c_2b)) [fun w' => w'.cell? ⟨p_b6, 0, none⟩ = some (.bool bn1) ∧ w'.cell? ⟨p_b6, 1, none⟩ = some (.slice bo1 bk1 bc1) ∧ w'.cell? ⟨p_b6, 2, none⟩ = some (.bool bn2) ∧ w'.cell? ⟨p_b6, 3, none⟩ = some (.slice bo2 bk2 bc2), fun w' => w'.cell? ⟨p_b3, 0, none⟩ = some (.bool n_2a) ∧ w'.cell? ⟨p_b3, 1, none⟩ = some (.slice o_2a k_2a c_2a) ∧ w'.cell? ⟨p_b3, 2, none⟩ = some (.bool n_2b) ∧ w'.cell? ⟨p_b3, 3, none⟩ = some (.slice o_2b k_2b c_2b)] (by kernel_rfl) (by kernel_rfl) (by kernel_rfl) (by kernel_rfl) (by kernel_rfl) (by kernel_rfl) (by kernel_rfl) (by kernel_rfl) (by decide) (by intro j hj; cases hj) (by intro w' o hC; obtain ⟨c0, c1, c2, c3, c4, c5, c6, c7⟩ := hC; exact ⟨cell_alloc c0 o, cell_alloc c1 o, cell_alloc c2 o, cell_alloc c3 o, cell_alloc c4 o, cell_alloc c5 o, cell_alloc c6 o, cell_alloc c7 o⟩) (by intro w' hC G hG; obtain ⟨c0, c1, c2, c3, c4, c5, c6, c7⟩ := hC; simp only [List.mem_cons, List.not_mem_nil, or_false] at hG; rcases hG with rfl | rfl <;> first | exact ⟨c0, c1, c2, c3⟩ | exact ⟨c4, c5, c6, c7⟩) ?_
      clear f
      have lt_b3 := x_b3.lt
      have lt_b4 := x_b4.lt
      have lt_b5 := x_b5.lt
      have lt_b6 := x_b6.lt
      have lt_b7 := x_b7.lt
      have lt_b8 := x_b8.lt
      have lt_b9 := x_b9.lt
      intro w_28 hn
      replace lt_b3 := Nat.lt_of_lt_of_le lt_b3 hn.size
      replace lt_b4 := Nat.lt_of_lt_of_le lt_b4 hn.size
      replace lt_b5 := Nat.lt_of_lt_of_le lt_b5 hn.size
      replace lt_b6 := Nat.lt_of_lt_of_le lt_b6 hn.size
      replace lt_b7 := Nat.lt_of_lt_of_le lt_b7 hn.size
      replace lt_b8 := Nat.lt_of_lt_of_le lt_b8 hn.size
      replace lt_b9 := Nat.lt_of_lt_of_le lt_b9 hn.size
      replace x_b3 := x_b3.bl hn; replace hq1 := hq1.bl hn; replace hq2 := hq2.bl hn; replace x_b4 := x_b4.bl hn; replace x_b5 := x_b5.bl hn; replace a1 := a1.bl hn; replace a2 := a2.bl hn; replace x_b6 := x_b6.bl hn; replace b1 := b1.bl hn; replace b2 := b2.bl hn; replace x_b7 := x_b7.bl hn; replace g := g.bl hn; replace x_b8 := x_b8.bl hn; replace t := t.bl hn; replace q := q.bl hn; replace x_b9 := x_b9.bl hn; replace hb := tm hb hn
      clear hn
      have kb0 := hb.size
      refine ⟨⟨x_b6.cell 0 rfl, x_b6.cell 1 rfl, x_b6.cell 2 rfl, x_b6.cell 3 rfl, x_b3.cell 0 rfl, x_b3.cell 1 rfl, x_b3.cell 2 rfl, x_b3.cell 3 rfl⟩, ?_⟩
      apply wpFl_ld rfl rfl; (case h1 => intro w' hC K hK; obtain ⟨c0, c1, c2, c3⟩ := hC; go_big_op; exact hK); iterate 4 kernel_rfl
      apply wpFl_ld rfl rfl; (case h1 => intro w' hC K hK; obtain ⟨c0, c1, c2, c3⟩ := hC; go_big_op; exact hK); iterate 4 kernel_rfl
      apply wpFl_ld rfl rfl; (case h1 => intro w' hC K hK; obtain ⟨c0, c1, c2, c3⟩ := hC; go_big_op; exact hK); iterate 4 kernel_rfl
      refine wpFl_call rfl (by kernel_rfl) fun w_29 hn hC => ?_; clear hC
      replace x_b3 := x_b3.bl hn; replace hq1 := hq1.bl hn; replace hq2 := hq2.bl hn; replace x_b4 := x_b4.bl hn; replace x_b5 := x_b5.bl hn; replace a1 := a1.bl hn; replace a2 := a2.bl hn; replace x_b6 := x_b6.bl hn; replace b1 := b1.bl hn; replace b2 := b2.bl hn; replace x_b7 := x_b7.bl hn; replace g := g.bl hn; replace x_b8 := x_b8.bl hn; replace t := t.bl hn; replace q := q.bl hn; replace x_b9 := x_b9.bl hn; replace hb := tm hb hn
      clear hn; intro K hK
      go_big_op
      go_fit (rgMul_any (PN.mk' (b1.zn Lb1.out) (b2.zn Lb2.out)) (PN.mk' (b1.zn Lb1.out) (b2.zn Lb2.out)) (by omega) (by omega) (by omega) (by omega) )
      rintro e w_30 ⟨_, rfl, ⟨n_da, o_da, k_da, c_da, n_db, o_db, k_db, c_db, rfl, d1, d2⟩, hb_30⟩
      replace x_b3 := x_b3.bl hb_30; replace hq1 := hq1.bl hb_30; replace hq2 := hq2.bl hb_30; replace x_b4 := x_b4.bl hb_30; replace x_b5 := x_b5.bl hb_30; replace a1 := a1.bl hb_30; replace a2 := a2.bl hb_30; replace x_b6 := x_b6.bl hb_30; replace b1 := b1.bl hb_30; replace b2 := b2.bl hb_30; replace x_b7 := x_b7.bl hb_30; replace g := g.bl hb_30; replace x_b8 := x_b8.bl hb_30; replace t := t.bl hb_30; replace q := q.bl hb_30; replace x_b9 := x_b9.bl hb_30; replace hb := tm hb hb_30
      have Ld1 := hide (d1.lenOf (zlen_sub (zlen_mul (Lb1.out) (Lb1.out)) (zlen_mul (Lb2.out) (Lb2.out))))
      have Ld2 := hide (d2.lenOf (zlen_add (zlen_mul (Lb1.out) (Lb2.out)) (zlen_mul (Lb2.out) (Lb1.out))))
      refine hK _ _ rfl hb_30 ⟨x_b6.cell 0 rfl, x_b6.cell 1 rfl, x_b6.cell 2 rfl, x_b6.cell 3 rfl, x_b3.cell 0 rfl, x_b3.cell 1 rfl, x_b3.cell 2 rfl, x_b3.cell 3 rfl⟩ ?_
      clear hK K hb_30
      refine wpFl_call rfl (by kernel_rfl) fun w_31 hn hC => ?_; clear hC
      replace x_b3 := x_b3.bl hn; replace hq1 := hq1.bl hn; replace hq2 := hq2.bl hn; replace x_b4 := x_b4.bl hn; replace x_b5 := x_b5.bl hn; replace a1 := a1.bl hn; replace a2 := a2.bl hn; replace x_b6 := x_b6.bl hn; replace b1 := b1.bl hn; replace b2 := b2.bl hn; replace x_b7 := x_b7.bl hn; replace g := g.bl hn; replace x_b8 := x_b8.bl hn; replace t := t.bl hn; replace q := q.bl hn; replace x_b9 := x_b9.bl hn; replace d1 := d1.bl hn; replace d2 := d2.bl hn; replace hb := tm hb hn
      clear hn; intro K hK
      go_big_op
      go_fit (rres_any (PN.mk' (d1.zn Ld1.out) (d2.zn Ld2.out)) (PN.mk' hq1 hq2) (by omega) (by omega) (by omega) H0.out)
      rintro e w_32 ⟨_, rfl, ⟨n_ha, o_ha, k_ha, c_ha, n_hb, o_hb, k_hb, c_hb, rfl, h1, h2⟩, hb_32⟩
      replace x_b3 := x_b3.bl hb_32; replace hq1 := hq1.bl hb_32; replace hq2 := hq2.bl hb_32; replace x_b4 := x_b4.bl hb_32; replace x_b5 := x_b5.bl hb_32; replace a1 := a1.bl hb_32; replace a2 := a2.bl hb_32; replace x_b6 := x_b6.bl hb_32; replace b1 := b1.bl hb_32; replace b2 := b2.bl hb_32; replace x_b7 := x_b7.bl hb_32; replace g := g.bl hb_32; replace x_b8 := x_b8.bl hb_32; replace t := t.bl hb_32; replace q := q.bl hb_32; replace x_b9 := x_b9.bl hb_32; replace d1 := d1.bl hb_32; replace d2 := d2.bl hb_32; replace hb := tm hb hb_32
      have Lh1 := hide (h1.lenOf (res_len1 (H0.out) (hq1.len) (hq2.len)))
      have Lh2 := hide (h2.lenOf (res_len2 (H0.out) (hq1.len) (hq2.len)))
      refine hK _ _ rfl hb_32 ⟨x_b6.cell 0 rfl, x_b6.cell 1 rfl, x_b6.cell 2 rfl, x_b6.cell 3 rfl, x_b3.cell 0 rfl, x_b3.cell 1 rfl, x_b3.cell 2 rfl, x_b3.cell 3 rfl⟩ ?_
      clear hK K hb_32
      apply wpFl_end
      case ha => intro pt; simp only [putF]; rfl
      case h =>
      intro w_33 pt hn hC hF hD
      clear hC
      clear d1 d2
      replace x_b3 := x_b3.bl hn; replace hq1 := hq1.bl hn; replace hq2 := hq2.bl hn; replace x_b4 := x_b4.bl hn; replace x_b5 := x_b5.bl hn; replace a1 := a1.bl hn; replace a2 := a2.bl hn; replace x_b6 := x_b6.bl hn; replace b1 := b1.bl hn; replace b2 := b2.bl hn; replace x_b7 := x_b7.bl hn; replace g := g.bl hn; replace x_b8 := x_b8.bl hn; replace t := t.bl hn; replace q := q.bl hn; replace x_b9 := x_b9.bl hn; replace h1 := h1.bl hn; replace h2 := h2.bl hn; replace hb := tm hb hn
      clear hn
      clear hF hD
      clear pt
      clear kb0 lt_b3 lt_b4 lt_b5 lt_b6 lt_b7 lt_b8 lt_b9
      refine tc fun K hK => ?_
      obtain ⟨d0, d1, d2, d3⟩ := x_b6.f4
      have f0 := x_b6.free 0; have f1 := x_b6.free 1; have f2 := x_b6.free 2; have f3 := x_b6.free 3
      go_big_op
      have hnd := x_b6.nod rfl rfl
      obtain ⟨w_34, eW, x_b6', ho⟩ : ∃ w', ((((w_33.setCell ⟨p_b6, 0, none⟩ (.bool n_ha)).setCell ⟨p_b6, 1, none⟩ (.slice o_ha k_ha c_ha)).setCell ⟨p_b6, 2, none⟩ (.bool n_hb)).setCell ⟨p_b6, 3, none⟩ (.slice o_hb k_hb c_hb)) = w' ∧ Bs w' p_b6 #[.bool n_ha, .slice o_ha k_ha c_ha, .bool n_hb, .slice o_hb k_hb c_hb] 26 ∧ Only p_b6 w_33 w' := x_b6.setN [(0, .bool n_ha), (1, .slice o_ha k_ha c_ha), (2, .bool n_hb), (3, .slice o_hb k_hb c_hb)]
      rw [eW]; clear eW d0 d1 d2 d3 f0 f1 f2 f3 x_b6
      have x_b6 := x_b6'; clear x_b6'
      clear b1 b2
      replace x_b3 := x_b3.frame ho ne_b3_b6; replace hq1 := hq1.fr hnd ho; replace hq2 := hq2.fr hnd ho; replace x_b4 := x_b4.frame ho ne_b4_b6; replace x_b5 := x_b5.frame ho ne_b5_b6; replace a1 := a1.fr hnd ho; replace a2 := a2.fr hnd ho; replace x_b7 := x_b7.frame ho ne_b6_b7.symm; replace g := g.fr hnd ho; replace x_b8 := x_b8.frame ho ne_b6_b8.symm; replace t := t.fr hnd ho; replace q := q.fr hnd ho; replace x_b9 := x_b9.frame ho ne_b6_b9.symm; replace h1 := h1.fr hnd ho; replace h2 := h2.fr hnd ho; replace hb := belowOnly hb ho kb_b6
      refine hK _ _ rfl (And.intro True.intro (And.intro ⟨x_b3.cell 0 rfl, x_b3.cell 1 rfl, x_b3.cell 2 rfl, x_b3.cell 3 rfl⟩ True.intro)) ?_; clear hK K ho hnd
      apply wpTail_end
      refine hK12 _ _ ?_
      refine wp_region_sq [0, 1] (by kernel_rfl) ?_
      refine sc fun K hK => ?_
      obtain ⟨d0, d1⟩ := x_b9.f2
      go_big_op; refine hK _ _ rfl ?_; clear hK K d0 d1
      refine sc fun K hK => ?_
      obtain ⟨d0, d1⟩ := x_b7.f2
      have f0 := x_b7.free 0; have f1 := x_b7.free 1
      go_big_op
      have hnd := x_b7.nod rfl rfl
      obtain ⟨w_35, eW, x_b7', ho⟩ : ∃ w', ((w_34.setCell ⟨p_b7, 0, none⟩ (.bool n_q)).setCell ⟨p_b7, 1, none⟩ (.slice o_q k_q c_q)) = w' ∧ Bs w' p_b7 #[.bool n_q, .slice o_q k_q c_q] 24 ∧ Only p_b7 w_34 w' := x_b7.setN [(0, .bool n_q), (1, .slice o_q k_q c_q)]
      rw [eW]; clear eW d0 d1 f0 f1 x_b7
      have x_b7 := x_b7'; clear x_b7'
      clear g x_b9
      replace x_b3 := x_b3.frame ho ne_b3_b7; replace hq1 := hq1.fr hnd ho; replace hq2 := hq2.fr hnd ho; replace x_b4 := x_b4.frame ho ne_b4_b7; replace x_b5 := x_b5.frame ho ne_b5_b7; replace a1 := a1.fr hnd ho; replace a2 := a2.fr hnd ho; replace x_b6 := x_b6.frame ho ne_b6_b7; replace x_b8 := x_b8.frame ho ne_b7_b8.symm; replace t := t.fr hnd ho; replace q := q.fr hnd ho; replace h1 := h1.fr hnd ho; replace h2 := h2.fr hnd ho; replace hb := belowOnly hb ho kb_b7
      refine hK _ _ rfl ?_; clear hK K ho hnd
      apply wpSq_end
      refine ‹∀ (a' : Act) (w' : World), Handed _ _ a' w' → _› _ _ ?_
      go_roundg (gk / 2)
      case rel => exact ⟨_, _, _, _, _, _, _, _, _, _, _, _, _, _, _, _, _, _, _, _, _, _, _, _, hide ⟨HE.out, HI.out.2.1, Nat.le_trans (Nat.div_le_self _ _) HI.out.2.2⟩, hide ⟨LL.out.1, LR.out _ _⟩, x_b5, a1, a2, x_b6, h1, h2, x_b7, q, x_b8, t, x_b3, hq1, hq2, x_b4, hb⟩
      case measure => exact HM.out
    · have HR := hide (show (((gk % 2 : Nat) : Int)).sign = 1 from Int.sign_eq_one_of_pos (by omega))
      have HE := hide (RP.odd (q := gk / 2) (by have := HI.out.1; rw [show gk = 2 * (gk / 2) + 1 by omega] at this; exact this))
      clear hr
      refine wp_seq_k ?_
      intro K7 hK7
      refine wp_seq_k ?_
      intro K8 hK8
      refine wp_region_sq [0, 1, 2] (by kernel_rfl) ?_
      refine sc fun K hK => ?_
      obtain ⟨d0, d1⟩ := x_b7.f2
      go_big_op; refine hK _ _ rfl ?_; clear hK K d0 d1
      refine sc fun K hK => ?_
      go_big_op
      go_fit (rzsign_any (g.zn Lg.out) (by omega) )
      rintro e w_21 ⟨rfl, hb_21⟩
      replace x_b3 := x_b3.bl hb_21; replace hq1 := hq1.bl hb_21; replace hq2 := hq2.bl hb_21; replace x_b4 := x_b4.bl hb_21; replace x_b5 := x_b5.bl hb_21; replace a1 := a1.bl hb_21; replace a2 := a2.bl hb_21; replace x_b6 := x_b6.bl hb_21; replace b1 := b1.bl hb_21; replace b2 := b2.bl hb_21; replace x_b7 := x_b7.bl hb_21; replace g := g.bl hb_21; replace x_b8 := x_b8.bl hb_21; replace t := t.bl hb_21; replace hb := tm hb hb_21
      rw [HS.out]
      refine hK _ _ rfl ?_
      clear hK K hb_21
      refine sc fun K hK => ?_
      go_big_op; refine hK _ _ rfl ?_; clear hK K
      apply wpSq_end
      refine hK8 _ _ ?_
      refine wp_cond_true (congrArg Value.bool (show _ = true from (by first | rfl | assumption | (simp; done) | exact decide_eq_true (by omega) | omega))) ?_
      refine wp_skip ?_
      refine hK7 _ _ ?_
      refine wp_block ?_
      refine wp_seq_k ?_
      intro K9 hK9
      refine wp_region_sq [0, 1, 2, 3, 4, 5, 6, 7, 8, 9] (by kernel_rfl) ?_
      refine sc fun K hK => ?_
      obtain ⟨d0, d1⟩ := x_b7.f2
      go_big_op; refine hK _ _ rfl ?_; clear hK K d0 d1
      refine sc fun K hK => ?_
      obtain ⟨d0, d1⟩ := x_b8.f2
      go_big_op; refine hK _ _ rfl ?_; clear hK K d0 d1
      refine sc fun K hK => ?_
      go_big_op
      go_fit (rfloor_any (g.zn Lg.out) (t.zn Lt.out) (by omega) (by omega) (by decide))
      rintro e w_22 ⟨v_q, v_f, rfl, q, f, hb_22⟩
      replace x_b3 := x_b3.bl hb_22; replace hq1 := hq1.bl hb_22; replace hq2 := hq2.bl hb_22; replace x_b4 := x_b4.bl hb_22; replace x_b5 := x_b5.bl hb_22; replace a1 := a1.bl hb_22; replace a2 := a2.bl hb_22; replace x_b6 := x_b6.bl hb_22; replace b1 := b1.bl hb_22; replace b2 := b2.bl hb_22; replace x_b7 := x_b7.bl hb_22; replace g := g.bl hb_22; replace x_b8 := x_b8.bl hb_22; replace t := t.bl hb_22; replace hb := tm hb hb_22
      obtain ⟨n_q, o_q, k_q, c_q, rfl⟩ := q.open2
      obtain ⟨n_f, o_f, k_f, c_f, rfl⟩ := f.open2
      have Lq := hide (q.lenOf (fdiv_len ((by decide)) (Lg.out)))
      have Lf := hide (f.lenOf (fmod_len ((by decide)) (Lt.out)))
      rw [HT.out.1] at q
      rw [HT.out.2] at f
      refine hK _ _ rfl ?_
      clear hK K hb_22
      refine sc fun K hK => ?_
      go_big_move; refine hK _ _ rfl ?_; clear hK K
      refine sc fun K hK => ?_
      go_big_op; refine hK _ _ rfl ?_; clear hK K
      refine sc fun K hK => ?_
      go_big_op; refine hK _ _ rfl ?_; clear hK K
      refine sc fun K hK => ?_
      go_big_op
      have lt_b3 := x_b3.lt
      have lt_b4 := x_b4.lt
      have lt_b5 := x_b5.lt
      have lt_b6 := x_b6.lt
      have lt_b7 := x_b7.lt
      have lt_b8 := x_b8.lt
      obtain ⟨p_b9, w_23, eP, eW, x_b9, hn, kb_b9⟩ := newBox w_22 #[.bool false, .slice none 0 0] 24 hb.size
      have ne_b3_b9 : Hid (p_b3 ≠ p_b9) := Nat.ne_of_lt (eP ▸ lt_b3)
      have ne_b4_b9 : Hid (p_b4 ≠ p_b9) := Nat.ne_of_lt (eP ▸ lt_b4)
      have ne_b5_b9 : Hid (p_b5 ≠ p_b9) := Nat.ne_of_lt (eP ▸ lt_b5)
      have ne_b6_b9 : Hid (p_b6 ≠ p_b9) := Nat.ne_of_lt (eP ▸ lt_b6)
      have ne_b7_b9 : Hid (p_b7 ≠ p_b9) := Nat.ne_of_lt (eP ▸ lt_b7)
      have ne_b8_b9 : Hid (p_b8 ≠ p_b9) := Nat.ne_of_lt (eP ▸ lt_b8)
      rw [eW, eP]
      clear eW eP lt_b3 lt_b4 lt_b5 lt_b6 lt_b7 lt_b8
      replace x_b3 := x_b3.bl hn; replace hq1 := hq1.bl hn; replace hq2 := hq2.bl hn; replace x_b4 := x_b4.bl hn; replace x_b5 := x_b5.bl hn; replace a1 := a1.bl hn; replace a2 := a2.bl hn; replace x_b6 := x_b6.bl hn; replace b1 := b1.bl hn; replace b2 := b2.bl hn; replace x_b7 := x_b7.bl hn; replace g := g.bl hn; replace x_b8 := x_b8.bl hn; replace t := t.bl hn; replace q := q.bl hn; replace f := f.bl hn; replace hb := tm hb hn
      refine hK _ _ rfl ?_; clear hK K hn
      refine sc fun K hK => ?_
      go_big_op
      have lt_b3 := x_b3.lt
      have lt_b4 := x_b4.lt
      have lt_b5 := x_b5.lt
      have lt_b6 := x_b6.lt
      have lt_b7 := x_b7.lt
      have lt_b8 := x_b8.lt
      have lt_b9 := x_b9.lt
      obtain ⟨p_b10, w_24, eP, eW, x_b10, hn, kb_b10⟩ := newBox w_23 #[.bool false, .slice none 0 0] 24 hb.size
      have ne_b3_b10 : Hid (p_b3 ≠ p_b10) := Nat.ne_of_lt (eP ▸ lt_b3)
      have ne_b4_b10 : Hid (p_b4 ≠ p_b10) := Nat.ne_of_lt (eP ▸ lt_b4)
      have ne_b5_b10 : Hid (p_b5 ≠ p_b10) := Nat.ne_of_lt (eP ▸ lt_b5)
      have ne_b6_b10 : Hid (p_b6 ≠ p_b10) := Nat.ne_of_lt (eP ▸ lt_b6)
      have ne_b7_b10 : Hid (p_b7 ≠ p_b10) := Nat.ne_of_lt (eP ▸ lt_b7)
      have ne_b8_b10 : Hid (p_b8 ≠ p_b10) := Nat.ne_of_lt (eP ▸ lt_b8)
      have ne_b9_b10 : Hid (p_b9 ≠ p_b10) := Nat.ne_of_lt (eP ▸ lt_b9)
      rw [eW, eP]
      clear eW eP lt_b3 lt_b4 lt_b5 lt_b6 lt_b7 lt_b8 lt_b9
      replace x_b3 := x_b3.bl hn; replace hq1 := hq1.bl hn; replace hq2 := hq2.bl hn; replace x_b4 := x_b4.bl hn; replace x_b5 := x_b5.bl hn; replace a1 := a1.bl hn; replace a2 := a2.bl hn; replace x_b6 := x_b6.bl hn; replace b1 := b1.bl hn; replace b2 := b2.bl hn; replace x_b7 := x_b7.bl hn; replace g := g.bl hn; replace x_b8 := x_b8.bl hn; replace t := t.bl hn; replace q := q.bl hn; replace f := f.bl hn; replace x_b9 := x_b9.bl hn; replace hb := tm hb hn
      refine hK _ _ rfl ?_; clear hK K hn
      refine sc fun K hK => ?_
      obtain ⟨d0, d1⟩ := x_b9.f2
      have f0 := x_b9.free 0; have f1 := x_b9.free 1
      go_big_op
      have hnd := x_b9.nod rfl rfl
      obtain ⟨w_25, eW, x_b9', ho⟩ : ∃ w', ((w_24.setCell ⟨p_b9, 0, none⟩ (.bool n_q)).setCell ⟨p_b9, 1, none⟩ (.slice o_q k_q c_q)) = w' ∧ Bs w' p_b9 #[.bool n_q, .slice o_q k_q c_q] 24 ∧ Only p_b9 w_24 w' := x_b9.setN [(0, .bool n_q), (1, .slice o_q k_q c_q)]
      rw [eW]; clear eW d0 d1 f0 f1 x_b9
      have x_b9 := x_b9'; clear x_b9'
      replace x_b3 := x_b3.frame ho ne_b3_b9; replace hq1 := hq1.fr hnd ho; replace hq2 := hq2.fr hnd ho; replace x_b4 := x_b4.frame ho ne_b4_b9; replace x_b5 := x_b5.frame ho ne_b5_b9; replace a1 := a1.fr hnd ho; replace a2 := a2.fr hnd ho; replace x_b6 := x_b6.frame ho ne_b6_b9; replace b1 := b1.fr hnd ho; replace b2 := b2.fr hnd ho; replace x_b7 := x_b7.frame ho ne_b7_b9; replace g := g.fr hnd ho; replace x_b8 := x_b8.frame ho ne_b8_b9; replace t := t.fr hnd ho; replace q := q.fr hnd ho; replace f := f.fr hnd ho; replace x_b10 := x_b10.frame ho ne_b9_b10.symm; replace hb := belowOnly hb ho kb_b9
      refine hK _ _ rfl ?_; clear hK K ho hnd
      refine sc fun K hK => ?_
      obtain ⟨d0, d1⟩ := x_b10.f2
      have f0 := x_b10.free 0; have f1 := x_b10.free 1
      go_big_op
      have hnd := x_b10.nod rfl rfl
      obtain ⟨w_26, eW, x_b10', ho⟩ : ∃ w', ((w_25.setCell ⟨p_b10, 0, none⟩ (.bool n_f)).setCell ⟨p_b10, 1, none⟩ (.slice o_f k_f c_f)) = w' ∧ Bs w' p_b10 #[.bool n_f, .slice o_f k_f c_f] 24 ∧ Only p_b10 w_25 w' := x_b10.setN [(0, .bool n_f), (1, .slice o_f k_f c_f)]
      rw [eW]; clear eW d0 d1 f0 f1 x_b10
      have x_b10 := x_b10'; clear x_b10'
      replace x_b3 := x_b3.frame ho ne_b3_b10; replace hq1 := hq1.fr hnd ho; replace hq2 := hq2.fr hnd ho; replace x_b4 := x_b4.frame ho ne_b4_b10; replace x_b5 := x_b5.frame ho ne_b5_b10; replace a1 := a1.fr hnd ho; replace a2 := a2.fr hnd ho; replace x_b6 := x_b6.frame ho ne_b6_b10; replace b1 := b1.fr hnd ho; replace b2 := b2.fr hnd ho; replace x_b7 := x_b7.frame ho ne_b7_b10; replace g := g.fr hnd ho; replace x_b8 := x_b8.frame ho ne_b8_b10; replace t := t.fr hnd ho; replace q := q.fr hnd ho; replace f := f.fr hnd ho; replace x_b9 := x_b9.frame ho ne_b9_b10; replace hb := belowOnly hb ho kb_b10
      refine hK _ _ rfl ?_; clear hK K ho hnd
      apply wpSq_end
      refine hK9 _ _ ?_
      refine wp_seq_k ?_
      intro K10 hK10
      refine wp_seq_k ?_
      intro K11 hK11
      refine wp_region_sq [0, 1, 2] (by kernel_rfl) ?_
      refine sc fun K hK => ?_
      obtain ⟨d0, d1⟩ := x_b10.f2
      go_big_op; refine hK _ _ rfl ?_; clear hK K d0 d1
      have Lq := hide (q.lenOf ((LK.out _ (Nat.le_trans (Nat.div_le_self _ _) HI.out.2.2))))
      have Lf := hide (f.lenOf ((LK.out _ (Nat.le_trans (Nat.mod_le _ _) HI.out.2.2))))
      refine sc fun K hK => ?_
      go_big_op
      go_fit (rzsign_any (f.zn Lf.out) (by omega) )
      rintro e w_27 ⟨rfl, hb_27⟩
      clear x_b10
      replace x_b3 := x_b3.bl hb_27; replace hq1 := hq1.bl hb_27; replace hq2 := hq2.bl hb_27; replace x_b4 := x_b4.bl hb_27; replace x_b5 := x_b5.bl hb_27; replace a1 := a1.bl hb_27; replace a2 := a2.bl hb_27; replace x_b6 := x_b6.bl hb_27; replace b1 := b1.bl hb_27; replace b2 := b2.bl hb_27; replace x_b7 := x_b7.bl hb_27; replace g := g.bl hb_27; replace x_b8 := x_b8.bl hb_27; replace t := t.bl hb_27; replace q := q.bl hb_27; replace f := f.bl hb_27; replace x_b9 := x_b9.bl hb_27; replace hb := tm hb hb_27
      rw [HR.out]
      refine hK _ _ rfl ?_
      clear hK K hb_27
      refine sc fun K hK => ?_
      go_big_op; refine hK _ _ rfl ?_; clear hK K
      apply wpSq_end
      refine hK11 _ _ ?_
      refine wp_cond_true (congrArg Value.bool (show _ = true from (by first | rfl | assumption | (simp; done) | exact decide_eq_true (by omega) | omega))) ?_
      refine wp_region_fl2 [(0, false), (1, false), (3, false), (2, true), (4, true)] [5] [] (fun _ => default) [0, 1, 99, 2, 99, 99] [(5, 0)] (fun w' => w'.cell? ⟨p_b5, 0, none⟩ = some (.bool an1) ∧ w'.cell? ⟨p_b5, 1, none⟩ = some (.slice ao1 ak1 ac1) ∧ w'.cell? ⟨p_b5, 2, none⟩ = some (.bool an2) ∧ w'.cell? ⟨p_b5, 3, none⟩ = some (.slice ao2 ak2 ac2) ∧ w'.cell? ⟨p_b6, 0, none⟩ = some (.bool bn1) ∧ w'.cell? ⟨p_b6, 1, none⟩ = some (.slice bo1 bk1 bc1) ∧ w'.cell? ⟨p_b6, 2, none⟩ = some (.bool bn2) ∧ w'.cell? ⟨p_b6, 3, none⟩ = some (.slice bo2 bk2 bc2) ∧ w'.cell? ⟨p_b3, 0, none⟩ = some (.bool n_2a) ∧ w'.cell? ⟨p_b3, 1, none⟩ = some (.slice o_2a k_2a c_2a) ∧ w'.cell? ⟨p_b3, 2, none⟩ = some (.bool n_2b) ∧ w'.cell? ⟨p_b3, 3, none⟩ = some (.slice o_2b k_2b c_2b)) [fun w' => w'.cell? ⟨p_b5, 0, none⟩ = some (.bool an1) ∧ w'.cell? ⟨p_b5, 1, none⟩ = some (.slice ao1 ak1 ac1) ∧ w'.cell? ⟨p_b5, 2, none⟩ = some (.bool an2) ∧ w'.cell? ⟨p_b5, 3, none⟩ = some (.slice ao2 ak2 ac2), fun w' => w'.cell? ⟨p_b6, 0, none⟩ = some (.bool bn1) ∧ w'.cell? ⟨p_b6, 1, none⟩ = some (.slice bo1 bk1 bc1) ∧ w'.cell? ⟨p_b6, 2, none⟩ = some (.bool bn2) ∧ w'.cell? ⟨p_b6, 3, none⟩ = some (.slice bo2 bk2 bc2), fun w' => w'.cell? ⟨p_b3, 0, none⟩ = some (.bool n_2a) ∧ w'.cell? ⟨p_b3, 1, none⟩ = some (.slice o_2a k_2a c_2a) ∧ w'.cell? ⟨p_b3, 2, none⟩ = some (.bool n_2b) ∧ w'.cell? ⟨p_b3, 3, none⟩ = some (.slice o_2b k_2b c_2b)] (by kernel_rfl) (by kernel_rfl) (by kernel_rfl) (by kernel_rfl) (by kernel_rfl) (by kernel_rfl) (by kernel_rfl) (by kernel_rfl) (by decide) (by intro j hj; cases hj) (by intro w' o hC; obtain ⟨c0, c1, c2, c3, c4, c5, c6, c7, c8, c9, c10, c11⟩ := hC; exact ⟨cell_alloc c0 o, cell_alloc c1 o, cell_alloc c2 o, cell_alloc c3 o, cell_alloc c4 o, cell_alloc c5 o, cell_alloc c6 o, cell_alloc c7 o, cell_alloc c8 o, cell_alloc c9 o, cell_alloc c10 o, cell_alloc c11 o⟩) (by intro w' hC G hG; obtain ⟨c0, c1, c2, c3, c4, c5, c6, c7, c8, c9, c10, c11⟩ := hC; simp only [List.mem_cons, List.not_mem_nil, or_false] at hG; rcases hG with rfl | rfl | rfl <;> first | exact ⟨c0, c1, c2, c3⟩ | exact ⟨c4, c5, c6, c7⟩ | exact ⟨c8, c9, c10, c11⟩) ?_
      clear f
      have lt_b3 := x_b3.lt
      have lt_b4 := x_b4.lt
      have lt_b5 := x_b5.lt
      have lt_b6 := x_b6.lt
      have lt_b7 := x_b7.lt
      have lt_b8 := x_b8.lt
      have lt_b9 := x_b9.lt
      intro w_28 hn
      replace lt_b3 := Nat.lt_of_lt_of_le lt_b3 hn.size
      replace lt_b4 := Nat.lt_of_lt_of_le lt_b4 hn.size
      replace lt_b5 := Nat.lt_of_lt_of_le lt_b5 hn.size
      replace lt_b6 := Nat.lt_of_lt_of_le lt_b6 hn.size
      replace lt_b7 := Nat.lt_of_lt_of_le lt_b7 hn.size
      replace lt_b8 := Nat.lt_of_lt_of_le lt_b8 hn.size
      replace lt_b9 := Nat.lt_of_lt_of_le lt_b9 hn.size
      replace x_b3 := x_b3.bl hn; replace hq1 := hq1.bl hn; replace hq2 := hq2.bl hn; replace x_b4 := x_b4.bl hn; replace x_b5 := x_b5.bl hn; replace a1 := a1.bl hn; replace a2 := a2.bl hn; replace x_b6 := x_b6.bl hn; replace b1 := b1.bl hn; replace b2 := b2.bl hn; replace x_b7 := x_b7.bl hn; replace g := g.bl hn; replace x_b8 := x_b8.bl hn; replace t := t.bl hn; replace q := q.bl hn; replace x_b9 := x_b9.bl hn; replace hb := tm hb hn
      clear hn
      have kb0 := hb.size
      refine ⟨⟨x_b5.cell 0 rfl, x_b5.cell 1 rfl, x_b5.cell 2 rfl, x_b5.cell 3 rfl, x_b6.cell 0 rfl, x_b6.cell 1 rfl, x_b6.cell 2 rfl, x_b6.cell 3 rfl, x_b3.cell 0 rfl, x_b3.cell 1 rfl, x_b3.cell 2 rfl, x_b3.cell 3 rfl⟩, ?_⟩
      apply wpFl_ld rfl rfl; (case h1 => intro w' hC K hK; obtain ⟨c0, c1, c2, c3⟩ := hC; go_big_op; exact hK); iterate 4 kernel_rfl
      apply wpFl_ld rfl rfl; (case h1 => intro w' hC K hK; obtain ⟨c0, c1, c2, c3⟩ := hC; go_big_op; exact hK); iterate 4 kernel_rfl
      apply wpFl_ld rfl rfl; (case h1 => intro w' hC K hK; obtain ⟨c0, c1, c2, c3⟩ := hC; go_big_op; exact hK); iterate 4 kernel_rfl
      refine wpFl_call rfl (by kernel_rfl) fun w_29 hn hC => ?_; clear hC
      replace x_b3 := x_b3.bl hn; replace hq1 := hq1.bl hn; replace hq2 := hq2.bl hn; replace x_b4 := x_b4.bl hn; replace x_b5 := x_b5.bl hn; replace a1 := a1.bl hn; replace a2 := a2.bl hn; replace x_b6 := x_b6.bl hn; replace b1 := b1.bl hn; replace b2 := b2.bl hn; replace x_b7 := x_b7.bl hn; replace g := g.bl hn; replace x_b8 := x_b8.bl hn; replace t := t.bl hn; replace q := q.bl hn; replace x_b9 := x_b9.bl hn; replace hb := tm hb hn
      clear hn; intro K hK
      go_big_op
      go_fit (rgMul_any (PN.mk' (a1.zn La1.out) (a2.zn La2.out)) (PN.mk' (b1.zn Lb1.out) (b2.zn Lb2.out)) (by omega) (by omega) (by omega) (by omega) )
      rintro e w_30 ⟨_, rfl, ⟨n_ca, o_ca, k_ca, c_ca, n_cb, o_cb, k_cb, c_cb, rfl, c1, c2⟩, hb_30⟩
      replace x_b3 := x_b3.bl hb_30; replace hq1 := hq1.bl hb_30; replace hq2 := hq2.bl hb_30; replace x_b4 := x_b4.bl hb_30; replace x_b5 := x_b5.bl hb_30; replace a1 := a1.bl hb_30; replace a2 := a2.bl hb_30; replace x_b6 := x_b6.bl hb_30; replace b1 := b1.bl hb_30; replace b2 := b2.bl hb_30; replace x_b7 := x_b7.bl hb_30; replace g := g.bl hb_30; replace x_b8 := x_b8.bl hb_30; replace t := t.bl hb_30; replace q := q.bl hb_30; replace x_b9 := x_b9.bl hb_30; replace hb := tm hb hb_30
      have Lc1 := hide (c1.lenOf (zlen_sub (zlen_mul (La1.out) (Lb1.out)) (zlen_mul (La2.out) (Lb2.out))))
      have Lc2 := hide (c2.lenOf (zlen_add (zlen_mul (La1.out) (Lb2.out)) (zlen_mul (La2.out) (Lb1.out))))
      refine hK _ _ rfl hb_30 ⟨x_b5.cell 0 rfl, x_b5.cell 1 rfl, x_b5.cell 2 rfl, x_b5.cell 3 rfl, x_b6.cell 0 rfl, x_b6.cell 1 rfl, x_b6.cell 2 rfl, x_b6.cell 3 rfl, x_b3.cell 0 rfl, x_b3.cell 1 rfl, x_b3.cell 2 rfl, x_b3.cell 3 rfl⟩ ?_
      clear hK K hb_30
      refine wpFl_call rfl (by kernel_rfl) fun w_31 hn hC => ?_; clear hC
      replace x_b3 := x_b3.bl hn; replace hq1 := hq1.bl hn; replace hq2 := hq2.bl hn; replace x_b4 := x_b4.bl hn; replace x_b5 := x_b5.bl hn; replace a1 := a1.bl hn; replace a2 := a2.bl hn; replace x_b6 := x_b6.bl hn; replace b1 := b1.bl hn; replace b2 := b2.bl hn; replace x_b7 := x_b7.bl hn; replace g := g.bl hn; replace x_b8 := x_b8.bl hn; replace t := t.bl hn; replace q := q.bl hn; replace x_b9 := x_b9.bl hn; replace c1 := c1.bl hn; replace c2 := c2.bl hn; replace hb := tm hb hn
      clear hn; intro K hK
      go_big_op
      go_fit (rres_any (PN.mk' (c1.zn Lc1.out) (c2.zn Lc2.out)) (PN.mk' hq1 hq2) (by omega) (by omega) (by omega) H0.out)
      rintro e w_32 ⟨_, rfl, ⟨n_ia, o_ia, k_ia, c_ia, n_ib, o_ib, k_ib, c_ib, rfl, i1, i2⟩, hb_32⟩
      replace x_b3 := x_b3.bl hb_32; replace hq1 := hq1.bl hb_32; replace hq2 := hq2.bl hb_32; replace x_b4 := x_b4.bl hb_32; replace x_b5 := x_b5.bl hb_32; replace a1 := a1.bl hb_32; replace a2 := a2.bl hb_32; replace x_b6 := x_b6.bl hb_32; replace b1 := b1.bl hb_32; replace b2 := b2.bl hb_32; replace x_b7 := x_b7.bl hb_32; replace g := g.bl hb_32; replace x_b8 := x_b8.bl hb_32; replace t := t.bl hb_32; replace q := q.bl hb_32; replace x_b9 := x_b9.bl hb_32; replace c1 := c1.bl hb_32; replace c2 := c2.bl hb_32; replace hb := tm hb hb_32
      refine hK _ _ rfl hb_32 ⟨x_b5.cell 0 rfl, x_b5.cell 1 rfl, x_b5.cell 2 rfl, x_b5.cell 3 rfl, x_b6.cell 0 rfl, x_b6.cell 1 rfl, x_b6.cell 2 rfl, x_b6.cell 3 rfl, x_b3.cell 0 rfl, x_b3.cell 1 rfl, x_b3.cell 2 rfl, x_b3.cell 3 rfl⟩ ?_
      clear hK K hb_32
      apply wpFl_end
      case ha => intro pt; simp only [putF]; rfl
      case h =>
      intro w_33 pt hn hC hF hD
      clear hC
      clear c1 c2
      replace x_b3 := x_b3.bl hn; replace hq1 := hq1.bl hn; replace hq2 := hq2.bl hn; replace x_b4 := x_b4.bl hn; replace x_b5 := x_b5.bl hn; replace a1 := a1.bl hn; replace a2 := a2.bl hn; replace x_b6 := x_b6.bl hn; replace b1 := b1.bl hn; replace b2 := b2.bl hn; replace x_b7 := x_b7.bl hn; replace g := g.bl hn; replace x_b8 := x_b8.bl hn; replace t := t.bl hn; replace q := q.bl hn; replace x_b9 := x_b9.bl hn; replace i1 := i1.bl hn; replace i2 := i2.bl hn; replace hb := tm hb hn
      clear hn
      clear hF hD
      clear pt
      clear kb0 lt_b3 lt_b4 lt_b5 lt_b6 lt_b7 lt_b8 lt_b9
      refine tc fun K hK => ?_
      obtain ⟨d0, d1, d2, d3⟩ := x_b5.f4
      have f0 := x_b5.free 0; have f1 := x_b5.free 1; have f2 := x_b5.free 2; have f3 := x_b5.free 3
      go_big_op
      have hnd := x_b5.nod rfl rfl
      obtain ⟨w_34, eW, x_b5', ho⟩ : ∃ w', ((((w_33.setCell ⟨p_b5, 0, none⟩ (.bool n_ia)).setCell ⟨p_b5, 1, none⟩ (.slice o_ia k_ia c_ia)).setCell ⟨p_b5, 2, none⟩ (.bool n_ib)).setCell ⟨p_b5, 3, none⟩ (.slice o_ib k_ib c_ib)) = w' ∧ Bs w' p_b5 #[.bool n_ia, .slice o_ia k_ia c_ia, .bool n_ib, .slice o_ib k_ib c_ib] 26 ∧ Only p_b5 w_33 w' := x_b5.setN [(0, .bool n_ia), (1, .slice o_ia k_ia c_ia), (2, .bool n_ib), (3, .slice o_ib k_ib c_ib)]
      rw [eW]; clear eW d0 d1 d2 d3 f0 f1 f2 f3 x_b5
      have x_b5 := x_b5'; clear x_b5'
      clear a1 a2
      replace x_b3 := x_b3.frame ho ne_b3_b5; replace hq1 := hq1.fr hnd ho; replace hq2 := hq2.fr hnd ho; replace x_b4 := x_b4.frame ho ne_b4_b5; replace x_b6 := x_b6.frame ho ne_b5_b6.symm; replace b1 := b1.fr hnd ho; replace b2 := b2.fr hnd ho; replace x_b7 := x_b7.frame ho ne_b5_b7.symm; replace g := g.fr hnd ho; replace x_b8 := x_b8.frame ho ne_b5_b8.symm; replace t := t.fr hnd ho; replace q := q.fr hnd ho; replace x_b9 := x_b9.frame ho ne_b5_b9.symm; replace i1 := i1.fr hnd ho; replace i2 := i2.fr hnd ho; replace hb := belowOnly hb ho kb_b5
      refine hK _ _ rfl (And.intro True.intro (And.intro ⟨x_b6.cell 0 rfl, x_b6.cell 1 rfl, x_b6.cell 2 rfl, x_b6.cell 3 rfl⟩ (And.intro ⟨x_b3.cell 0 rfl, x_b3.cell 1 rfl, x_b3.cell 2 rfl, x_b3.cell 3 rfl⟩ True.intro))) ?_; clear hK K ho hnd
      apply wpTail_end
      refine hK10 _ _ ?_
      refine wp_seq_k ?_
      intro K12 hK12
      refine wp_region_fl2 [(0, false), (1, false), (3, false), (2, true), (4, true)] [5] [] (fun _ => default) [0, 0, 99, 1, 99, 99] [(5, 0)] (fun w' => w'.cell? ⟨p_b6, 0, none⟩ = some (.bool bn1) ∧ w'.cell? ⟨p_b6, 1, none⟩ = some (.slice bo1 bk1 bc1) ∧ w'.cell? ⟨p_b6, 2, none⟩ = some (.bool bn2) ∧ w'.cell? ⟨p_b6, 3, none⟩ = some (.slice bo2 bk2 bc2) ∧ w'.cell? ⟨p_b3, 0, none⟩ = some (.bool n_2a) ∧ w'.cell? ⟨p_b3, 1, none⟩ = some (.slice o_2a k_2a c_2a) ∧ w'.cell? ⟨p_b3, 2, none⟩ = some (.bool n_2b) ∧ w'.cell? ⟨p_b3, 3, none⟩ = some (.slice o_2b k_2b c_2b)) [fun w' => w'.cell? ⟨p_b6, 0, none⟩ = some (.bool bn1) ∧ w'.cell? ⟨p_b6, 1, none⟩ = some (.slice bo1 bk1 bc1) ∧ w'.cell? ⟨p_b6, 2, none⟩ = some (.bool bn2) ∧ w'.cell? ⟨p_b6, 3, none⟩ = some (.slice bo2 bk2 bc2), fun w' => w'.cell? ⟨p_b3, 0, none⟩ = some (.bool n_2a) ∧ w'.cell? ⟨p_b3, 1, none⟩ = some (.slice o_2a k_2a c_2a) ∧ w'.cell? ⟨p_b3, 2, none⟩ = some (.bool n_2b) ∧ w'.cell? ⟨p_b3, 3, none⟩ = some (.slice o_2b k_2b c_2b)] (by kernel_rfl) (by kernel_rfl) (by kernel_rfl) (by kernel_rfl) (by kernel_rfl) (by kernel_rfl) (by kernel_rfl) (by kernel_rfl) (by decide) (by intro j hj; cases hj) (by intro w' o hC; obtain ⟨c0, c1, c2, c3, c4, c5, c6, c7⟩ := hC; exact ⟨cell_alloc c0 o, cell_alloc c1 o, cell_alloc c2 o, cell_alloc c3 o, cell_alloc c4 o, cell_alloc c5 o, cell_alloc c6 o, cell_alloc c7 o⟩) (by intro w' hC G hG; obtain ⟨c0, c1, c2, c3, c4, c5, c6, c7⟩ := hC; simp only [List.mem_cons, List.not_mem_nil, or_false] at hG; rcases hG with rfl | rfl <;> first | exact ⟨c0, c1, c2, c3⟩ | exact ⟨c4, c5, c6, c7⟩) ?_
      have lt_b3 := x_b3.lt
      have lt_b4 := x_b4.lt
      have lt_b5 := x_b5.lt
      have lt_b6 := x_b6.lt
      have lt_b7 := x_b7.lt
      have lt_b8 := x_b8.lt
      have lt_b9 := x_b9.lt
      intro w_35 hn
      replace lt_b3 := Nat.lt_of_lt_of_le lt_b3 hn.size
      replace lt_b4 := Nat.lt_of_lt_of_le lt_b4 hn.size
      replace lt_b5 := Nat.lt_of_lt_of_le lt_b5 hn.size
      replace lt_b6 := Nat.lt_of_lt_of_le lt_b6 hn.size
      replace lt_b7 := Nat.lt_of_lt_of_le lt_b7 hn.size
      replace lt_b8 := Nat.lt_of_lt_of_le lt_b8 hn.size
      replace lt_b9 := Nat.lt_of_lt_of_le lt_b9 hn.size
      replace x_b3 := x_b3.bl hn; replace hq1 := hq1.bl hn; replace hq2 := hq2.bl hn; replace x_b4 := x_b4.bl hn; replace x_b5 := x_b5.bl hn; replace x_b6 := x_b6.bl hn; replace b1 := b1.bl hn; replace b2 := b2.bl hn; replace x_b7 := x_b7.bl hn; replace g := g.bl hn; replace x_b8 := x_b8.bl hn; replace t := t.bl hn; replace q := q.bl hn; replace x_b9 := x_b9.bl hn; replace i1 := i1.bl hn; replace i2 := i2.bl hn; replace hb := tm hb hn
      clear hn
      have kb0 := hb.size
      refine ⟨⟨x_b6.cell 0 rfl, x_b6.cell 1 rfl, x_b6.cell 2 rfl, x_b6.cell 3 rfl, x_b3.cell 0 rfl, x_b3.cell 1 rfl, x_b3.cell 2 rfl, x_b3.cell 3 rfl⟩, ?_⟩
      apply wpFl_ld rfl rfl; (case h1 => intro w' hC K hK; obtain ⟨c0, c1, c2, c3⟩ := hC; go_big_op; exact hK); iterate 4 kernel_rfl
      apply wpFl_ld rfl rfl; (case h1 => intro w' hC K hK; obtain ⟨c0, c1, c2, c3⟩ := hC; go_big_op; exact hK); iterate 4 kernel_rfl
      apply wpFl_ld rfl rfl; (case h1 => intro w' hC K hK; obtain ⟨c0, c1, c2, c3⟩ := hC; go_big_op; exact hK); iterate 4 kernel_rfl
      refine wpFl_call rfl (by kernel_rfl) fun w_36 hn hC => ?_; clear hC
      replace x_b3 := x_b3.bl hn; replace hq1 := hq1.bl hn; replace hq2 := hq2.bl hn; replace x_b4 := x_b4.bl hn; replace x_b5 := x_b5.bl hn; replace x_b6 := x_b6.bl hn; replace b1 := b1.bl hn; replace b2 := b2.bl hn; replace x_b7 := x_b7.bl hn; replace g := g.bl hn; replace x_b8 := x_b8.bl hn; replace t := t.bl hn; replace q := q.bl hn; replace x_b9 := x_b9.bl hn; replace i1 := i1.bl hn; replace i2 := i2.bl hn; replace hb := tm hb hn
      clear hn; intro K hK
      go_big_op
      go_fit (rgMul_any (PN.mk' (b1.zn Lb1.out) (b2.zn Lb2.out)) (PN.mk' (b1.zn Lb1.out) (b2.zn Lb2.out)) (by omega) (by omega) (by omega) (by omega) )
      rintro e w_37 ⟨_, rfl, ⟨n_da, o_da, k_da, c_da, n_db, o_db, k_db, c_db, rfl, d1, d2⟩, hb_37⟩
      replace x_b3 := x_b3.bl hb_37; replace hq1 := hq1.bl hb_37; replace hq2 := hq2.bl hb_37; replace x_b4 := x_b4.bl hb_37; replace x_b5 := x_b5.bl hb_37; replace x_b6 := x_b6.bl hb_37; replace b1 := b1.bl hb_37; replace b2 := b2.bl hb_37; replace x_b7 := x_b7.bl hb_37; replace g := g.bl hb_37; replace x_b8 := x_b8.bl hb_37; replace t := t.bl hb_37; replace q := q.bl hb_37; replace x_b9 := x_b9.bl hb_37; replace i1 := i1.bl hb_37; replace i2 := i2.bl hb_37; replace hb := tm hb hb_37
      have Ld1 := hide (d1.lenOf (zlen_sub (zlen_mul (Lb1.out) (Lb1.out)) (zlen_mul (Lb2.out) (Lb2.out))))
      have Ld2 := hide (d2.lenOf (zlen_add (zlen_mul (Lb1.out) (Lb2.out)) (zlen_mul (Lb2.out) (Lb1.out))))
      refine hK _ _ rfl hb_37 ⟨x_b6.cell 0 rfl, x_b6.cell 1 rfl, x_b6.cell 2 rfl, x_b6.cell 3 rfl, x_b3.cell 0 rfl, x_b3.cell 1 rfl, x_b3.cell 2 rfl, x_b3.cell 3 rfl⟩ ?_
      clear hK K hb_37
      refine wpFl_call rfl (by kernel_rfl) fun w_38 hn hC => ?_; clear hC
      replace x_b3 := x_b3.bl hn; replace hq1 := hq1.bl hn; replace hq2 := hq2.bl hn; replace x_b4 := x_b4.bl hn; replace x_b5 := x_b5.bl hn; replace x_b6 := x_b6.bl hn; replace b1 := b1.bl hn; replace b2 := b2.bl hn; replace x_b7 := x_b7.bl hn; replace g := g.bl hn; replace x_b8 := x_b8.bl hn; replace t := t.bl hn; replace q := q.bl hn; replace x_b9 := x_b9.bl hn; replace i1 := i1.bl hn; replace i2 := i2.bl hn; replace d1 := d1.bl hn; replace d2 := d2.bl hn; replace hb := tm hb hn
      clear hn; intro K hK
      go_big_op
      go_fit (rres_any (PN.mk' (d1.zn Ld1.out) (d2.zn Ld2.out)) (PN.mk' hq1 hq2) (by omega) (by omega) (by omega) H0.out)
      rintro e w_39 ⟨_, rfl, ⟨n_ha, o_ha, k_ha, c_ha, n_hb, o_hb, k_hb, c_hb, rfl, h1, h2⟩, hb_39⟩
      replace x_b3 := x_b3.bl hb_39; replace hq1 := hq1.bl hb_39; replace hq2 := hq2.bl hb_39; replace x_b4 := x_b4.bl hb_39; replace x_b5 := x_b5.bl hb_39; replace x_b6 := x_b6.bl hb_39; replace b1 := b1.bl hb_39; replace b2 := b2.bl hb_39; replace x_b7 := x_b7.bl hb_39; replace g := g.bl hb_39; replace x_b8 := x_b8.bl hb_39; replace t := t.bl hb_39; replace q := q.bl hb_39; replace x_b9 := x_b9.bl hb_39; replace i1 := i1.bl hb_39; replace i2 := i2.bl hb_39; replace d1 := d1.bl hb_39; replace d2 := d2.bl hb_39; replace hb := tm hb hb_39
      have Lh1 := hide (h1.lenOf (res_len1 (H0.out) (hq1.len) (hq2.len)))
      have Lh2 := hide (h2.lenOf (res_len2 (H0.out) (hq1.len) (hq2.len)))
      refine hK _ _ rfl hb_39 ⟨x_b6.cell 0 rfl, x_b6.cell 1 rfl, x_b6.cell 2 rfl, x_b6.cell 3 rfl, x_b3.cell 0 rfl, x_b3.cell 1 rfl, x_b3.cell 2 rfl, x_b3.cell 3 rfl⟩ ?_
      clear hK K hb_39
      apply wpFl_end
      case ha => intro pt; simp only [putF]; rfl
      case h =>
      intro w_40 pt hn hC hF hD
      clear hC
      clear d1 d2
      replace x_b3 := x_b3.bl hn; replace hq1 := hq1.bl hn; replace hq2 := hq2.bl hn; replace x_b4 := x_b4.bl hn; replace x_b5 := x_b5.bl hn; replace x_b6 := x_b6.bl hn; replace b1 := b1.bl hn; replace b2 := b2.bl hn; replace x_b7 := x_b7.bl hn; replace g := g.bl hn; replace x_b8 := x_b8.bl hn; replace t := t.bl hn; replace q := q.bl hn; replace x_b9 := x_b9.bl hn; replace i1 := i1.bl hn; replace i2 := i2.bl hn; replace h1 := h1.bl hn; replace h2 := h2.bl hn; replace hb := tm hb hn
      clear hn
      clear hF hD
      clear pt
      clear kb0 lt_b3 lt_b4 lt_b5 lt_b6 lt_b7 lt_b8 lt_b9
      refine tc fun K hK => ?_
      obtain ⟨d0, d1, d2, d3⟩ := x_b6.f4
      have f0 := x_b6.free 0; have f1 := x_b6.free 1; have f2 := x_b6.free 2; have f3 := x_b6.free 3
      go_big_op
      have hnd := x_b6.nod rfl rfl
      obtain ⟨w_41, eW, x_b6', ho⟩ : ∃ w', ((((w_40.setCell ⟨p_b6, 0, none⟩ (.bool n_ha)).setCell ⟨p_b6, 1, none⟩ (.slice o_ha k_ha c_ha)).setCell ⟨p_b6, 2, none⟩ (.bool n_hb)).setCell ⟨p_b6, 3, none⟩ (.slice o_hb k_hb c_hb)) = w' ∧ Bs w' p_b6 #[.bool n_ha, .slice o_ha k_ha c_ha, .bool n_hb, .slice o_hb k_hb c_hb] 26 ∧ Only p_b6 w_40 w' := x_b6.setN [(0, .bool n_ha), (1, .slice o_ha k_ha c_ha), (2, .bool n_hb), (3, .slice o_hb k_hb c_hb)]
      rw [eW]; clear eW d0 d1 d2 d3 f0 f1 f2 f3 x_b6
      have x_b6 := x_b6'; clear x_b6'
      clear b1 b2
      replace x_b3 := x_b3.frame ho ne_b3_b6; replace hq1 := hq1.fr hnd ho; replace hq2 := hq2.fr hnd ho; replace x_b4 := x_b4.frame ho ne_b4_b6; replace x_b5 := x_b5.frame ho ne_b5_b6; replace x_b7 := x_b7.frame ho ne_b6_b7.symm; replace g := g.fr hnd ho; replace x_b8 := x_b8.frame ho ne_b6_b8.symm; replace t := t.fr hnd ho; replace q := q.fr hnd ho; replace x_b9 := x_b9.frame ho ne_b6_b9.symm; replace i1 := i1.fr hnd ho; replace i2 := i2.fr hnd ho; replace h1 := h1.fr hnd ho; replace h2 := h2.fr hnd ho; replace hb := belowOnly hb ho kb_b6
      refine hK _ _ rfl (And.intro True.intro (And.intro ⟨x_b3.cell 0 rfl, x_b3.cell 1 rfl, x_b3.cell 2 rfl, x_b3.cell 3 rfl⟩ True.intro)) ?_; clear hK K ho hnd
      apply wpTail_end
      refine hK12 _ _ ?_
      refine wp_region_sq [0, 1] (by kernel_rfl) ?_
      refine sc fun K hK => ?_
      obtain ⟨d0, d1⟩ := x_b9.f2
      go_big_op; refine hK _ _ rfl ?_; clear hK K d0 d1
      refine sc fun K hK => ?_
      obtain ⟨d0, d1⟩ := x_b7.f2
      have f0 := x_b7.free 0; have f1 := x_b7.free 1
      go_big_op
      have hnd := x_b7.nod rfl rfl
      obtain ⟨w_42, eW, x_b7', ho⟩ : ∃ w', ((w_41.setCell ⟨p_b7, 0, none⟩ (.bool n_q)).setCell ⟨p_b7, 1, none⟩ (.slice o_q k_q c_q)) = w' ∧ Bs w' p_b7 #[.bool n_q, .slice o_q k_q c_q] 24 ∧ Only p_b7 w_41 w' := x_b7.setN [(0, .bool n_q), (1, .slice o_q k_q c_q)]
      rw [eW]; clear eW d0 d1 f0 f1 x_b7
      have x_b7 := x_b7'; clear x_b7'
      clear g x_b9
      replace x_b3 := x_b3.frame ho ne_b3_b7; replace hq1 := hq1.fr hnd ho; replace hq2 := hq2.fr hnd ho; replace x_b4 := x_b4.frame ho ne_b4_b7; replace x_b5 := x_b5.frame ho ne_b5_b7; replace x_b6 := x_b6.frame ho ne_b6_b7; replace x_b8 := x_b8.frame ho ne_b7_b8.symm; replace t := t.fr hnd ho; replace q := q.fr hnd ho; replace i1 := i1.fr hnd ho; replace i2 := i2.fr hnd ho; replace h1 := h1.fr hnd ho; replace h2 := h2.fr hnd ho; replace hb := belowOnly hb ho kb_b7
      refine hK _ _ rfl ?_; clear hK K ho hnd
      apply wpSq_end
      refine ‹∀ (a' : Act) (w' : World), Handed _ _ a' w' → _› _ _ ?_
      go_roundg (gk / 2)
      case rel => exact ⟨_, _, _, _, _, _, _, _, _, _, _, _, _, _, _, _, _, _, _, _, _, _, _, _, hide ⟨HE.out, gR_again H0.out, Nat.le_trans (Nat.div_le_self _ _) HI.out.2.2⟩, hide ⟨LR.out _ _, LR.out _ _⟩, x_b5, i1, i2, x_b6, h1, h2, x_b7, q, x_b8, t, x_b3, hq1, hq2, x_b4, hb⟩
      case measure => exact HM.out
end
end Go.Proofs.Ytpdfahompajbjaa

/- gres.answer of whole numbers; gres.Count. -/
namespace Go.Proofs.Ytpdfahompajbjaa
open Go Go.RowKit Dig
set_option maxHeartbeats 8000000
set_option maxRecDepth 20000
set_option linter.unusedVariables false
theorem ansZ_ok {w : World} {f : Nat} {caps : Array Value} {z : Int} (hf : ∀ w1, Sem.run Try.prog (callFunc f caps) w1 = .ok (.enter f caps) w1) (hc : ∀ w1, Below w.heap.size w w1 → Calls Try.prog f caps w1 fun e w2 => ∃ r, e = .returned r ∧ ZC w2 r z ∧ Below w1.heap.size w1 w2) :
    Calls Try.prog 35 #[.func (.func f) #[] caps] w fun e w' => ∃ r, e = .returned (.tuple #[r, .int .i64 0]) ∧ ZC w' r z ∧ Below w.heap.size w w' := by
  have hmf : ∀ (fn : Fn) (first cap : Array Value) (w : World), (Instr.makeFunc fn first cap).run Try.prog w = .ok (.func fn first cap) w := fun _ _ _ _ => rfl
  go_enter_defers Try.func35, Try.ntmps35
  have hb := Below.refl w.heap.size w
  refine wp_seq_k ?_
  intro K1 hK1
  refine wp_region_sq [0, 1] (by kernel_rfl) ?_
  refine sc fun K hK => ?_
  go_big_op
  obtain ⟨p_b1, w_1, eP, eW, x_b1, hn, kb_b1⟩ := newBox w #[.bool false, .slice none 0 0] 24 hb.size
  rw [eW, eP]
  clear eW eP
  replace hb := tm hb hn
  refine hK _ _ rfl ?_; clear hK K hn
  refine sc fun K hK => ?_
  go_big_op
  have lt_b1 := x_b1.lt
  obtain ⟨p_b2, w_2, eP, eW, x_b2, hn, kb_b2⟩ := newBox w_1 #[.int .i64 0] 27 hb.size
  have ne_b1_b2 : Hid (p_b1 ≠ p_b2) := Nat.ne_of_lt (eP ▸ lt_b1)
  rw [eW, eP]
  clear eW eP lt_b1
  replace x_b1 := x_b1.bl hn
  replace hb := tm hb hn
  refine hK _ _ rfl ?_; clear hK K hn
  apply wpSq_end
  refine hK1 _ _ ?_
  clear hK1 K1
  refine wp_seq_k ?_
  intro K2 hK2
  refine wp_region ?_
  simp [wpOps, go_sem]
  refine Or.inl (Or.inl ?_)
  refine hK2 _ _ ?_
  clear hK2 K2
  refine wp_seq_k ?_
  intro K3 hK3
  refine wp_region_sq [0, 1, 2, 3] (by kernel_rfl) ?_
  refine sc fun K hK => ?_
  go_big_move; refine hK _ _ rfl ?_; clear hK K
  refine sc fun K hK => ?_
  go_big_op
  go_fit (hc _ hb)
  rintro e w_3 ⟨v_g, rfl, g1, hb_3⟩
  obtain ⟨n_ga, o_ga, k_ga, c_ga, rfl⟩ := g1.open2
  replace x_b1 := x_b1.bl hb_3; replace x_b2 := x_b2.bl hb_3; replace hb := tm hb hb_3
  refine hK _ _ rfl ?_
  clear hK K hb_3
  refine sc fun K hK => ?_
  obtain ⟨d0, d1⟩ := x_b1.f2
  have f0 := x_b1.free 0; have f1 := x_b1.free 1
  go_big_op
  have hnd := x_b1.nod rfl rfl
  obtain ⟨w_4, eW, x_b1', ho⟩ : ∃ w', ((w_3.setCell ⟨p_b1, 0, none⟩ (.bool n_ga)).setCell ⟨p_b1, 1, none⟩ (.slice o_ga k_ga c_ga)) = w' ∧ Bs w' p_b1 #[.bool n_ga, .slice o_ga k_ga c_ga] 24 ∧ Only p_b1 w_3 w' := x_b1.setN [(0, .bool n_ga), (1, .slice o_ga k_ga c_ga)]
  rw [eW]; clear eW d0 d1 f0 f1 x_b1
  replace x_b2 := x_b2.frame' ho ne_b1_b2; replace g1 := g1.fr hnd ho; replace hb := belowOnly hb ho kb_b1
  refine hK _ _ rfl ?_; clear hK K ho hnd
  refine sc fun K hK => ?_
  have d0 := x_b2.f1
  have f0 := x_b2.free 0
  go_big_op
  have hnd := x_b2.nod rfl rfl
  obtain ⟨w_5, eW, x_b2', ho⟩ : ∃ w', (w_4.setCell ⟨p_b2, 0, none⟩ (.int .i64 0)) = w' ∧ Bs w' p_b2 #[.int .i64 0] 27 ∧ Only p_b2 w_4 w' := x_b2.setN [(0, .int .i64 0)]
  rw [eW]; clear eW d0 f0 x_b2
  replace x_b1' := x_b1'.frame ho ne_b1_b2; replace g1 := g1.fr hnd ho; replace hb := belowOnly hb ho kb_b2
  refine hK _ _ rfl ?_; clear hK K ho hnd
  apply wpSq_end
  refine hK3 _ _ ?_
  refine wp_ret ?_
  try dsimp only [Exit.then, Exit.inBlock]
  refine leaves_cons (f := 64) (args := #[.pointer (some ⟨p_b2, 0, none⟩)]) (by simp) (by simp [go_sem]) ?_
  refine (catchZ_idle p_b2 _).mono ?_
  rintro e u' w'' ⟨rfl, rfl, rfl⟩
  obtain ⟨d0, d1⟩ := x_b1'.f2
  have d4 := x_b2'.f1
  simp only [Leaves, settle]
  exact ⟨_, by simp [results, Try.results35, go_sem, d0, d1, d4], _, rfl, g1, hb⟩
theorem ansZ_bad {w : World} {f : Nat} {caps : Array Value} {k : Int} (hf : ∀ w1, Sem.run Try.prog (callFunc f caps) w1 = .ok (.enter f caps) w1) (hc : ∀ w1, Below w.heap.size w w1 → Calls Try.prog f caps w1 fun e w2 => e = .panicked [{ v := .iface 27 (.int .i64 k), recovered := false }] ∧ Below w1.heap.size w1 w2) :
    Calls Try.prog 35 #[.func (.func f) #[] caps] w fun e w' => e = .returned (.tuple #[.agg #[.bool false, .slice none 0 0], .int .i64 k]) ∧ Below w.heap.size w w' := by
  have hmf : ∀ (fn : Fn) (first cap : Array Value) (w : World), (Instr.makeFunc fn first cap).run Try.prog w = .ok (.func fn first cap) w := fun _ _ _ _ => rfl
  go_enter_defers Try.func35, Try.ntmps35
  have hb := Below.refl w.heap.size w
  refine wp_seq_k ?_
  intro K1 hK1
  refine wp_region_sq [0, 1] (by kernel_rfl) ?_
  refine sc fun K hK => ?_
  go_big_op
  obtain ⟨p_b1, w_1, eP, eW, x_b1, hn, kb_b1⟩ := newBox w #[.bool false, .slice none 0 0] 24 hb.size
  rw [eW, eP]
  clear eW eP
  replace hb := tm hb hn
  refine hK _ _ rfl ?_; clear hK K hn
  refine sc fun K hK => ?_
  go_big_op
  have lt_b1 := x_b1.lt
  obtain ⟨p_b2, w_2, eP, eW, x_b2, hn, kb_b2⟩ := newBox w_1 #[.int .i64 0] 27 hb.size
  have ne_b1_b2 : Hid (p_b1 ≠ p_b2) := Nat.ne_of_lt (eP ▸ lt_b1)
  rw [eW, eP]
  clear eW eP lt_b1
  replace x_b1 := x_b1.bl hn
  replace hb := tm hb hn
  refine hK _ _ rfl ?_; clear hK K hn
  apply wpSq_end
  refine hK1 _ _ ?_
  clear hK1 K1
  refine wp_seq_k ?_
  intro K2 hK2
  refine wp_region ?_
  simp [wpOps, go_sem]
  refine Or.inl (Or.inl ?_)
  refine hK2 _ _ ?_
  clear hK2 K2
  refine wp_seq_k ?_
  intro K3 hK3
  refine wp_region ?_
  simp [wpOps, go_sem, hf]
  refine Or.inl (Or.inl ?_)
  go_fit (hc _ hb)
  rintro e w_3 ⟨rfl, hb_3⟩
  replace x_b1 := x_b1.bl hb_3; replace x_b2 := x_b2.bl hb_3; replace hb := tm hb hb_3
  try dsimp only [Exit.then, Exit.inBlock]
  refine leaves_cons (f := 64) (args := #[.pointer (some ⟨p_b2, 0, none⟩)]) (by simp) (by simp [go_sem]) ?_
  refine (catchZ_panicking p_b2 0 k _ x_b2).mono ?_
  rintro e u' w'' ⟨rfl, rfl, rfl⟩
  obtain ⟨w_5, eW, x_b2', ho⟩ : ∃ w', (w_3.setCell ⟨p_b2, 0, none⟩ (.int .i64 k)) = w' ∧ Bs w' p_b2 #[.int .i64 k] 27 ∧ Only p_b2 w_3 w' := x_b2.setN [(0, .int .i64 k)]
  rw [eW]; clear eW x_b2
  replace x_b1 := x_b1.frame ho ne_b1_b2; replace hb := belowOnly hb ho kb_b2
  obtain ⟨d0, d1⟩ := x_b1.f2
  have d4 := x_b2'.f1
  simp [Leaves, settle, results, Try.results35, go_sem, d0, d1, d4]
  exact hb
section
variable {w : World} {va vb vn : Value} {x y u v z : Int} {l m k n s L : Nat}
theorem count_any (hq : PN w vb u L v L) (hL : L ≤ 4500000) (h0 : gN u v ≠ 0) :
    Calls Try.prog 37 #[vb] w fun e w' => ∃ r, e = .returned r ∧ ZC w' r (gN u v) ∧ Below w.heap.size w w' := by
  have HS := hide (Int.sign_eq_one_of_pos (gN_pos h0))
  clear h0
  obtain ⟨n_0a, o_0a, k_0a, c_0a, n_0b, o_0b, k_0b, c_0b, rfl, hq1, hq2⟩ := hq
  go_enter Try.func37, Try.ntmps37
  have hb := Below.refl w.heap.size w
  refine wp_seq_k ?_
  intro K1 hK1
  refine wp_region_sq [0, 1] (by kernel_rfl) ?_
  refine sc fun K hK => ?_
  go_big_op
  obtain ⟨p_b1, w_1, eP, eW, x_b1, hn, kb_b1⟩ := newBox w #[.bool n_0a, .slice o_0a k_0a c_0a, .bool n_0b, .slice o_0b k_0b c_0b] 26 hb.size
  rw [eW, eP]
  clear eW eP
  replace hq1 := hq1.bl hn; replace hq2 := hq2.bl hn; replace hb := tm hb hn
  refine hK _ _ rfl ?_; clear hK K hn
  refine sc fun K hK => ?_
  go_big_op
  obtain ⟨p_b2, w_2, eP, eW, x_b2, hn, kb_b2⟩ := newBox w_1 #[.bool false, .slice none 0 0] 24 hb.size
  rw [eW, eP]
  clear eW eP
  replace hq1 := hq1.bl hn; replace hq2 := hq2.bl hn; replace x_b1 := x_b1.bl hn; replace hb := tm hb hn
  refine hK _ _ rfl ?_; clear hK K hn
  apply wpSq_end
  refine hK1 _ _ ?_
  refine wp_seq_k ?_
  intro K2 hK2
  refine wp_region_sq [0, 1, 2, 3] (by kernel_rfl) ?_
  refine sc fun K hK => ?_
  obtain ⟨d0, d1, d2, d3⟩ := x_b1.f4
  go_big_op; refine hK _ _ rfl ?_; clear hK K d0 d1 d2 d3
  refine sc fun K hK => ?_
  go_big_op
  go_fit (gNorm_any (PN.mk' hq1 hq2) (by omega) (by omega) )
  rintro e w_3 ⟨v_g, rfl, g, hb_3⟩
  clear x_b1
  replace hq1 := hq1.bl hb_3; replace hq2 := hq2.bl hb_3; replace x_b2 := x_b2.bl hb_3; replace hb := tm hb hb_3
  obtain ⟨n_g, o_g, k_g, c_g, rfl⟩ := g.open2
  have Lg := hide (g.lenOf (zlen_add (zlen_mul (hq1.len) (hq1.len)) (zlen_mul (hq2.len) (hq2.len))))
  refine hK _ _ rfl ?_
  clear hK K hb_3
  refine sc fun K hK => ?_
  go_big_op
  clear hq1 hq2
  have lt_b2 := x_b2.lt
  obtain ⟨p_b3, w_4, eP, eW, x_b3, hn, kb_b3⟩ := newBox w_3 #[.bool false, .slice none 0 0] 24 hb.size
  have ne_b2_b3 : Hid (p_b2 ≠ p_b3) := Nat.ne_of_lt (eP ▸ lt_b2)
  rw [eW, eP]
  clear eW eP lt_b2
  replace x_b2 := x_b2.bl hn; replace g := g.bl hn; replace hb := tm hb hn
  refine hK _ _ rfl ?_; clear hK K hn
  refine sc fun K hK => ?_
  obtain ⟨d0, d1⟩ := x_b3.f2
  have f0 := x_b3.free 0; have f1 := x_b3.free 1
  go_big_op
  have hnd := x_b3.nod rfl rfl
  obtain ⟨w_5, eW, x_b3', ho⟩ : ∃ w', ((w_4.setCell ⟨p_b3, 0, none⟩ (.bool n_g)).setCell ⟨p_b3, 1, none⟩ (.slice o_g k_g c_g)) = w' ∧ Bs w' p_b3 #[.bool n_g, .slice o_g k_g c_g] 24 ∧ Only p_b3 w_4 w' := x_b3.setN [(0, .bool n_g), (1, .slice o_g k_g c_g)]
  rw [eW]; clear eW d0 d1 f0 f1 x_b3
  have x_b3 := x_b3'; clear x_b3'
  replace x_b2 := x_b2.frame ho ne_b2_b3; replace g := g.fr hnd ho; replace hb := belowOnly hb ho kb_b3
  refine hK _ _ rfl ?_; clear hK K ho hnd
  apply wpSq_end
  refine hK2 _ _ ?_
  refine wp_seq_k ?_
  intro K3 hK3
  refine wp_seq_k ?_
  intro K4 hK4
  refine wp_region_sq [0, 1, 2] (by kernel_rfl) ?_
  refine sc fun K hK => ?_
  obtain ⟨d0, d1⟩ := x_b3.f2
  go_big_op; refine hK _ _ rfl ?_; clear hK K d0 d1
  refine sc fun K hK => ?_
  go_big_op
  go_fit (zsign_any (g.zn Lg.out) (by omega) )
  rintro e w_6 ⟨rfl, hb_6⟩
  replace x_b2 := x_b2.bl hb_6; replace g := g.bl hb_6; replace x_b3 := x_b3.bl hb_6; replace hb := tm hb hb_6
  rw [HS.out]
  refine hK _ _ rfl ?_
  clear hK K hb_6
  refine sc fun K hK => ?_
  go_big_op; refine hK _ _ rfl ?_; clear hK K
  apply wpSq_end
  refine hK4 _ _ ?_
  refine wp_cond_false (congrArg Value.bool (show _ = false from (by first | rfl | assumption | (simp; done) | exact decide_eq_false (by omega) | omega))) ?_
  refine wp_skip ?_
  refine hK3 _ _ ?_
  refine wp_seq_k ?_
  intro K5 hK5
  refine wp_region_sq [0, 1] (by kernel_rfl) ?_
  refine sc fun K hK => ?_
  obtain ⟨d0, d1⟩ := x_b3.f2
  go_big_op; refine hK _ _ rfl ?_; clear hK K d0 d1
  refine sc fun K hK => ?_
  obtain ⟨d0, d1⟩ := x_b2.f2
  have f0 := x_b2.free 0; have f1 := x_b2.free 1
  go_big_op
  have hnd := x_b2.nod rfl rfl
  obtain ⟨w_7, eW, x_b2', ho⟩ : ∃ w', ((w_6.setCell ⟨p_b2, 0, none⟩ (.bool n_g)).setCell ⟨p_b2, 1, none⟩ (.slice o_g k_g c_g)) = w' ∧ Bs w' p_b2 #[.bool n_g, .slice o_g k_g c_g] 24 ∧ Only p_b2 w_6 w' := x_b2.setN [(0, .bool n_g), (1, .slice o_g k_g c_g)]
  rw [eW]; clear eW d0 d1 f0 f1 x_b2
  have x_b2 := x_b2'; clear x_b2'
  clear x_b3
  replace g := g.fr hnd ho; replace hb := belowOnly hb ho kb_b2
  refine hK _ _ rfl ?_; clear hK K ho hnd
  apply wpSq_end
  refine hK5 _ _ ?_
  refine wp_ret ?_
  try dsimp only [Exit.then, Exit.inBlock]
  obtain ⟨r0_0, r0_1⟩ := x_b2.f2
  refine bodyPost_ret (v := (.agg #[.bool n_g, .slice o_g k_g c_g])) (by simp [results, Try.results37, go_sem, r0_0, r0_1]) rfl ?_
  exact ⟨_, rfl, g, hb⟩
theorem count1_any {q : Nat} (hq : BP w q u L v L) (hL : L ≤ 4500000) (h0 : gN u v ≠ 0) :
    Calls Try.prog 36 #[.pointer (some ⟨q, 0, none⟩)] w fun e w' => ∃ r, e = .returned r ∧ ZC w' r (gN u v) ∧ Below w.heap.size w w' := by
  obtain ⟨bn1, bo1, bk1, bc1, bn2, bo2, bk2, bc2, xb, b1, b2⟩ := hq
  have H0 := hide h0
  clear h0
  go_enter Try.func36, Try.ntmps36
  have hb := Below.refl w.heap.size w
  refine wp_seq_k ?_
  intro K1 hK1
  refine wp_region_sq [0] (by kernel_rfl) ?_
  refine sc fun K hK => ?_
  go_big_op
  have lt_xb := xb.lt
  obtain ⟨p_b1, w_1, eP, eW, x_b1, hn, kb_b1⟩ := newBox w #[.bool false, .slice none 0 0] 24 hb.size
  rw [eW, eP]
  clear eW eP lt_xb
  replace xb := xb.bl hn; replace b1 := b1.bl hn; replace b2 := b2.bl hn; replace hb := tm hb hn
  refine hK _ _ rfl ?_; clear hK K hn
  apply wpSq_end
  refine hK1 _ _ ?_
  refine wp_seq_k ?_
  intro K2 hK2
  refine wp_region_sq [0, 1, 2] (by kernel_rfl) ?_
  refine sc fun K hK => ?_
  obtain ⟨d0, d1, d2, d3⟩ := xb.f4
  go_big_op; refine hK _ _ rfl ?_; clear hK K d0 d1 d2 d3
  refine sc fun K hK => ?_
  go_big_op
  go_fit (count_any (.mk' b1 b2) hL H0.out)
  rintro e w_2 ⟨v_r, rfl, r, hb_2⟩
  clear xb
  replace b1 := b1.bl hb_2; replace b2 := b2.bl hb_2; replace x_b1 := x_b1.bl hb_2; replace hb := tm hb hb_2
  obtain ⟨n_r, o_r, k_r, c_r, rfl⟩ := r.open2
  refine hK _ _ rfl ?_
  clear hK K hb_2
  refine sc fun K hK => ?_
  obtain ⟨d0, d1⟩ := x_b1.f2
  have f0 := x_b1.free 0; have f1 := x_b1.free 1
  go_big_op
  have hnd := x_b1.nod rfl rfl
  obtain ⟨w_3, eW, x_b1', ho⟩ : ∃ w', ((w_2.setCell ⟨p_b1, 0, none⟩ (.bool n_r)).setCell ⟨p_b1, 1, none⟩ (.slice o_r k_r c_r)) = w' ∧ Bs w' p_b1 #[.bool n_r, .slice o_r k_r c_r] 24 ∧ Only p_b1 w_2 w' := x_b1.setN [(0, .bool n_r), (1, .slice o_r k_r c_r)]
  rw [eW]; clear eW d0 d1 f0 f1 x_b1
  have x_b1 := x_b1'; clear x_b1'
  clear b1 b2
  replace r := r.fr hnd ho; replace hb := belowOnly hb ho kb_b1
  refine hK _ _ rfl ?_; clear hK K ho hnd
  apply wpSq_end
  refine hK2 _ _ ?_
  refine wp_ret ?_
  try dsimp only [Exit.then, Exit.inBlock]
  obtain ⟨r0_0, r0_1⟩ := x_b1.f2
  refine bodyPost_ret (v := (.agg #[.bool n_r, .slice o_r k_r c_r])) (by simp [results, Try.results36, go_sem, r0_0, r0_1]) rfl ?_
  exact ⟨_, rfl, r, hb⟩
theorem gCount_any (hq : PN w vb u L v L) (hL : L ≤ 4500000) (h0 : gN u v ≠ 0) :
    Calls Try.prog 8 #[vb] w fun e w' => ∃ r, e = .returned (.tuple #[r, .int .i64 0]) ∧ ZC w' r (gN u v) ∧ Below w.heap.size w w' := by
  have H0 := hide h0
  clear h0
  obtain ⟨n_0a, o_0a, k_0a, c_0a, n_0b, o_0b, k_0b, c_0b, rfl, hq1, hq2⟩ := hq
  go_enter Try.func8, Try.ntmps8
  have hb := Below.refl w.heap.size w
  refine wp_seq_k ?_
  intro K1 hK1
  refine wp_region_sq [0, 1, 2] (by kernel_rfl) ?_
  refine sc fun K hK => ?_
  go_big_op
  obtain ⟨p_b1, w_1, eP, eW, x_b1, hn, kb_b1⟩ := newBox w #[.bool n_0a, .slice o_0a k_0a c_0a, .bool n_0b, .slice o_0b k_0b c_0b] 26 hb.size
  rw [eW, eP]
  clear eW eP
  replace hq1 := hq1.bl hn; replace hq2 := hq2.bl hn; replace hb := tm hb hn
  refine hK _ _ rfl ?_; clear hK K hn
  refine sc fun K hK => ?_
  go_big_op
  obtain ⟨p_b2, w_2, eP, eW, x_b2, hn, kb_b2⟩ := newBox w_1 #[.bool false, .slice none 0 0] 24 hb.size
  rw [eW, eP]
  clear eW eP
  replace hq1 := hq1.bl hn; replace hq2 := hq2.bl hn; replace x_b1 := x_b1.bl hn; replace hb := tm hb hn
  refine hK _ _ rfl ?_; clear hK K hn
  refine sc fun K hK => ?_
  go_big_move; refine hK _ _ rfl ?_; clear hK K
  apply wpSq_end
  refine hK1 _ _ ?_
  refine wp_seq_k ?_
  intro K2 hK2
  refine wp_region_sq [0, 1, 2, 3, 4, 5] (by kernel_rfl) ?_
  refine sc fun K hK => ?_
  go_big_op; refine hK _ _ rfl ?_; clear hK K
  refine sc fun K hK => ?_
  go_big_op
  go_fit (ansZ_ok (fun _ ↦ by kernel_rfl) (fun w1 h ↦ count1_any (.mk' (x_b1.bl h) (hq1.bl h) (hq2.bl h)) hL H0.out))
  rintro e w_3 ⟨v_r, rfl, r, hb_3⟩
  replace hq1 := hq1.bl hb_3; replace hq2 := hq2.bl hb_3; replace x_b1 := x_b1.bl hb_3; replace x_b2 := x_b2.bl hb_3; replace hb := tm hb hb_3
  obtain ⟨n_r, o_r, k_r, c_r, rfl⟩ := r.open2
  refine hK _ _ rfl ?_
  clear hK K hb_3
  refine sc fun K hK => ?_
  go_big_op; refine hK _ _ rfl ?_; clear hK K
  refine sc fun K hK => ?_
  go_big_op; refine hK _ _ rfl ?_; clear hK K
  refine sc fun K hK => ?_
  obtain ⟨d0, d1⟩ := x_b2.f2
  have f0 := x_b2.free 0; have f1 := x_b2.free 1
  go_big_op
  have hnd := x_b2.nod rfl rfl
  obtain ⟨w_4, eW, x_b2', ho⟩ : ∃ w', ((w_3.setCell ⟨p_b2, 0, none⟩ (.bool n_r)).setCell ⟨p_b2, 1, none⟩ (.slice o_r k_r c_r)) = w' ∧ Bs w' p_b2 #[.bool n_r, .slice o_r k_r c_r] 24 ∧ Only p_b2 w_3 w' := x_b2.setN [(0, .bool n_r), (1, .slice o_r k_r c_r)]
  rw [eW]; clear eW d0 d1 f0 f1 x_b2
  have x_b2 := x_b2'; clear x_b2'
  clear hq1 hq2 x_b1
  replace r := r.fr hnd ho; replace hb := belowOnly hb ho kb_b2
  refine hK _ _ rfl ?_; clear hK K ho hnd
  refine sc fun K hK => ?_
  go_big_move; refine hK _ _ rfl ?_; clear hK K
  apply wpSq_end
  refine hK2 _ _ ?_
  refine wp_ret ?_
  try dsimp only [Exit.then, Exit.inBlock]
  obtain ⟨r0_0, r0_1⟩ := x_b2.f2
  refine bodyPost_ret (v := (.tuple #[(.agg #[.bool n_r, .slice o_r k_r c_r]), (.int .i64 0)])) (by simp [results, Try.results8, go_sem, r0_0, r0_1]) rfl ?_
  exact ⟨_, rfl, r, hb⟩
theorem count_zero (hq : PN w vb 0 L 0 L) (hL : L ≤ 4500000) :
    Calls Try.prog 37 #[vb] w fun e w' => e = .panicked [{ v := .iface 27 (.int .i64 5), recovered := false }] ∧ Below w.heap.size w w' := by
  have E := hide (show gN 0 0 = 0 from rfl)
  obtain ⟨n_0a, o_0a, k_0a, c_0a, n_0b, o_0b, k_0b, c_0b, rfl, hq1, hq2⟩ := hq
  go_enter Try.func37, Try.ntmps37
  have hb := Below.refl w.heap.size w
  obtain ⟨IX, hIX⟩ : ∃ I : Pn.PX, ∀ ch w', I.X ch w' ↔ (ch = [{ v := .iface 27 (.int .i64 5), recovered := false }] ∧ Below w.heap.size w w') := ⟨⟨_⟩, fun _ _ => Iff.rfl⟩
  refine wp_seq_k ?_
  intro K1 hK1
  refine Pn.wp_region_sq [0, 1] (fun ch a' w' hd hx => And.intro hd (And.intro (congrArg Ending.panicked ((hIX ch w').1 hx).1) ((hIX ch w').1 hx).2)) (by kernel_rfl) ?_
  refine Pn.wpSq_call rfl (by kernel_rfl) fun K hK => ?_
  go_big_op
  obtain ⟨p_b1, w_1, eP, eW, x_b1, hn, kb_b1⟩ := newBox w #[.bool n_0a, .slice o_0a k_0a c_0a, .bool n_0b, .slice o_0b k_0b c_0b] 26 hb.size
  rw [eW, eP]
  clear eW eP
  replace hq1 := hq1.bl hn; replace hq2 := hq2.bl hn; replace hb := tm hb hn
  refine hK _ _ rfl ?_; clear hK K hn
  refine Pn.wpSq_call rfl (by kernel_rfl) fun K hK => ?_
  go_big_op
  obtain ⟨p_b2, w_2, eP, eW, x_b2, hn, kb_b2⟩ := newBox w_1 #[.bool false, .slice none 0 0] 24 hb.size
  rw [eW, eP]
  clear eW eP
  replace hq1 := hq1.bl hn; replace hq2 := hq2.bl hn; replace x_b1 := x_b1.bl hn; replace hb := tm hb hn
  refine hK _ _ rfl ?_; clear hK K hn
  apply Pn.wpSq_end
  refine hK1 _ _ ?_
  refine wp_seq_k ?_
  intro K2 hK2
  refine Pn.wp_region_sq [0, 1, 2, 3] (fun ch a' w' hd hx => And.intro hd (And.intro (congrArg Ending.panicked ((hIX ch w').1 hx).1) ((hIX ch w').1 hx).2)) (by kernel_rfl) ?_
  refine Pn.wpSq_call rfl (by kernel_rfl) fun K hK => ?_
  obtain ⟨d0, d1, d2, d3⟩ := x_b1.f4
  go_big_op; refine hK _ _ rfl ?_; clear hK K d0 d1 d2 d3
  refine Pn.wpSq_call rfl (by kernel_rfl) fun K hK => ?_
  go_big_op
  go_fit (gNorm_any (PN.mk' hq1 hq2) (by omega) (by omega) )
  rintro e w_3 ⟨v_g, rfl, g, hb_3⟩
  clear x_b1
  replace hq1 := hq1.bl hb_3; replace hq2 := hq2.bl hb_3; replace x_b2 := x_b2.bl hb_3; replace hb := tm hb hb_3
  obtain ⟨n_g, o_g, k_g, c_g, rfl⟩ := g.open2
  have Lg := hide (g.lenOf (zlen_add (zlen_mul (hq1.len) (hq1.len)) (zlen_mul (hq2.len) (hq2.len))))
  rw [E.out] at g
  refine hK _ _ rfl ?_
  clear hK K hb_3
  refine Pn.wpSq_call rfl (by kernel_rfl) fun K hK => ?_
  go_big_op
  clear hq1 hq2
  have lt_b2 := x_b2.lt
  obtain ⟨p_b3, w_4, eP, eW, x_b3, hn, kb_b3⟩ := newBox w_3 #[.bool false, .slice none 0 0] 24 hb.size
  have ne_b2_b3 : Hid (p_b2 ≠ p_b3) := Nat.ne_of_lt (eP ▸ lt_b2)
  rw [eW, eP]
  clear eW eP lt_b2
  replace x_b2 := x_b2.bl hn; replace g := g.bl hn; replace hb := tm hb hn
  refine hK _ _ rfl ?_; clear hK K hn
  refine Pn.wpSq_call rfl (by kernel_rfl) fun K hK => ?_
  obtain ⟨d0, d1⟩ := x_b3.f2
  have f0 := x_b3.free 0; have f1 := x_b3.free 1
  go_big_op
  have hnd := x_b3.nod rfl rfl
  obtain ⟨w_5, eW, x_b3', ho⟩ : ∃ w', ((w_4.setCell ⟨p_b3, 0, none⟩ (.bool n_g)).setCell ⟨p_b3, 1, none⟩ (.slice o_g k_g c_g)) = w' ∧ Bs w' p_b3 #[.bool n_g, .slice o_g k_g c_g] 24 ∧ Only p_b3 w_4 w' := x_b3.setN [(0, .bool n_g), (1, .slice o_g k_g c_g)]
  rw [eW]; clear eW d0 d1 f0 f1 x_b3
  have x_b3 := x_b3'; clear x_b3'
  replace x_b2 := x_b2.frame ho ne_b2_b3; replace g := g.fr hnd ho; replace hb := belowOnly hb ho kb_b3
  refine hK _ _ rfl ?_; clear hK K ho hnd
  apply Pn.wpSq_end
  refine hK2 _ _ ?_
  refine wp_seq_k ?_
  intro K3 hK3
  refine wp_seq_k ?_
  intro K4 hK4
  refine Pn.wp_region_sq [0, 1, 2] (fun ch a' w' hd hx => And.intro hd (And.intro (congrArg Ending.panicked ((hIX ch w').1 hx).1) ((hIX ch w').1 hx).2)) (by kernel_rfl) ?_
  refine Pn.wpSq_call rfl (by kernel_rfl) fun K hK => ?_
  obtain ⟨d0, d1⟩ := x_b3.f2
  go_big_op; refine hK _ _ rfl ?_; clear hK K d0 d1
  have Lg := hide (g.lenOf (zlen_0))
  refine Pn.wpSq_call rfl (by kernel_rfl) fun K hK => ?_
  go_big_op
  go_fit (zsign_any (g.zn Lg.out) (by omega) )
  rintro e w_6 ⟨rfl, hb_6⟩
  replace x_b2 := x_b2.bl hb_6; replace g := g.bl hb_6; replace x_b3 := x_b3.bl hb_6; replace hb := tm hb hb_6
  refine hK _ _ rfl ?_
  clear hK K hb_6
  refine Pn.wpSq_call rfl (by kernel_rfl) fun K hK => ?_
  go_big_op; refine hK _ _ rfl ?_; clear hK K
  apply Pn.wpSq_end
  refine hK4 _ _ ?_
  refine wp_cond_true (congrArg Value.bool (show _ = true from (by first | rfl | assumption | (simp; done) | exact decide_eq_true (by omega) | omega))) ?_
  refine Pn.wp_region_sq [0, 1] (fun ch a' w' hd hx => And.intro hd (And.intro (congrArg Ending.panicked ((hIX ch w').1 hx).1) ((hIX ch w').1 hx).2)) (by kernel_rfl) ?_
  refine Pn.wpSq_call rfl (by kernel_rfl) fun K hK => ?_
  go_big_op; refine hK _ _ rfl ?_; clear hK K
  refine Pn.wpSq_call rfl (by kernel_rfl) fun K hK => ?_
  clear hK
  go_big_op
  exact (hIX _ _).2 ⟨rfl, hb⟩
theorem count1_zero {q : Nat} (hq : BP w q 0 L 0 L) (hL : L ≤ 4500000) :
    Calls Try.prog 36 #[.pointer (some ⟨q, 0, none⟩)] w fun e w' => e = .panicked [{ v := .iface 27 (.int .i64 5), recovered := false }] ∧ Below w.heap.size w w' := by
  obtain ⟨bn1, bo1, bk1, bc1, bn2, bo2, bk2, bc2, xb, b1, b2⟩ := hq
  go_enter Try.func36, Try.ntmps36
  have hb := Below.refl w.heap.size w
  obtain ⟨IX, hIX⟩ : ∃ I : Pn.PX, ∀ ch w', I.X ch w' ↔ (ch = [{ v := .iface 27 (.int .i64 5), recovered := false }] ∧ Below w.heap.size w w') := ⟨⟨_⟩, fun _ _ => Iff.rfl⟩
  refine wp_seq_k ?_
  intro K1 hK1
  refine Pn.wp_region_sq [0] (fun ch a' w' hd hx => And.intro hd (And.intro (congrArg Ending.panicked ((hIX ch w').1 hx).1) ((hIX ch w').1 hx).2)) (by kernel_rfl) ?_
  refine Pn.wpSq_call rfl (by kernel_rfl) fun K hK => ?_
  go_big_op
  have lt_xb := xb.lt
  obtain ⟨p_b1, w_1, eP, eW, x_b1, hn, kb_b1⟩ := newBox w #[.bool false, .slice none 0 0] 24 hb.size
  rw [eW, eP]
  clear eW eP lt_xb
  replace xb := xb.bl hn; replace b1 := b1.bl hn; replace b2 := b2.bl hn; replace hb := tm hb hn
  refine hK _ _ rfl ?_; clear hK K hn
  apply Pn.wpSq_end
  refine hK1 _ _ ?_
  refine wp_seq_k ?_
  intro K2 hK2
  refine Pn.wp_region_sq [0, 1, 2] (fun ch a' w' hd hx => And.intro hd (And.intro (congrArg Ending.panicked ((hIX ch w').1 hx).1) ((hIX ch w').1 hx).2)) (by kernel_rfl) ?_
  refine Pn.wpSq_call rfl (by kernel_rfl) fun K hK => ?_
  obtain ⟨d0, d1, d2, d3⟩ := xb.f4
  go_big_op; refine hK _ _ rfl ?_; clear hK K d0 d1 d2 d3
  refine Pn.wpSq_call rfl (by kernel_rfl) fun K hK => ?_
  clear hK
  go_big_op
  go_fit (count_zero (.mk' b1 b2) hL)
  rintro e w_2 ⟨rfl, hb_2⟩
  exact (hIX _ _).2 ⟨rfl, tm hb hb_2⟩
theorem gCount_zero (hq : PN w vb 0 L 0 L) (hL : L ≤ 4500000) :
    Calls Try.prog 8 #[vb] w fun e w' => e = .returned (.tuple #[.agg #[.bool false, .slice none 0 0], .int .i64 5]) ∧ Below w.heap.size w w' := by
  obtain ⟨n_0a, o_0a, k_0a, c_0a, n_0b, o_0b, k_0b, c_0b, rfl, hq1, hq2⟩ := hq
  go_enter Try.func8, Try.ntmps8
  have hb := Below.refl w.heap.size w
  refine wp_seq_k ?_
  intro K1 hK1
  refine wp_region_sq [0, 1, 2] (by kernel_rfl) ?_
  refine sc fun K hK => ?_
  go_big_op
  obtain ⟨p_b1, w_1, eP, eW, x_b1, hn, kb_b1⟩ := newBox w #[.bool n_0a, .slice o_0a k_0a c_0a, .bool n_0b, .slice o_0b k_0b c_0b] 26 hb.size
  rw [eW, eP]
  clear eW eP
  replace hq1 := hq1.bl hn; replace hq2 := hq2.bl hn; replace hb := tm hb hn
  refine hK _ _ rfl ?_; clear hK K hn
  refine sc fun K hK => ?_
  go_big_op
  obtain ⟨p_b2, w_2, eP, eW, x_b2, hn, kb_b2⟩ := newBox w_1 #[.bool false, .slice none 0 0] 24 hb.size
  rw [eW, eP]
  clear eW eP
  replace hq1 := hq1.bl hn; replace hq2 := hq2.bl hn; replace x_b1 := x_b1.bl hn; replace hb := tm hb hn
  refine hK _ _ rfl ?_; clear hK K hn
  refine sc fun K hK => ?_
  go_big_move; refine hK _ _ rfl ?_; clear hK K
  apply wpSq_end
  refine hK1 _ _ ?_
  refine wp_seq_k ?_
  intro K2 hK2
  refine wp_region_sq [0, 1, 2, 3, 4, 5] (by kernel_rfl) ?_
  refine sc fun K hK => ?_
  go_big_op; refine hK _ _ rfl ?_; clear hK K
  refine sc fun K hK => ?_
  go_big_op
  go_fit (ansZ_bad (fun _ ↦ by kernel_rfl) (fun w1 h ↦ count1_zero (.mk' (x_b1.bl h) (hq1.bl h) (hq2.bl h)) hL))
  rintro e w_3 ⟨rfl, hb_3⟩
  replace hq1 := hq1.bl hb_3; replace hq2 := hq2.bl hb_3; replace x_b1 := x_b1.bl hb_3; replace x_b2 := x_b2.bl hb_3; replace hb := tm hb hb_3
  refine hK _ _ rfl ?_
  clear hK K hb_3
  refine sc fun K hK => ?_
  go_big_op; refine hK _ _ rfl ?_; clear hK K
  refine sc fun K hK => ?_
  go_big_op; refine hK _ _ rfl ?_; clear hK K
  refine sc fun K hK => ?_
  obtain ⟨d0, d1⟩ := x_b2.f2
  have f0 := x_b2.free 0; have f1 := x_b2.free 1
  go_big_op
  have hnd := x_b2.nod rfl rfl
  obtain ⟨w_4, eW, x_b2', ho⟩ : ∃ w', ((w_3.setCell ⟨p_b2, 0, none⟩ (.bool false)).setCell ⟨p_b2, 1, none⟩ (.slice none 0 0)) = w' ∧ Bs w' p_b2 #[.bool false, .slice none 0 0] 24 ∧ Only p_b2 w_3 w' := x_b2.setN [(0, .bool false), (1, .slice none 0 0)]
  rw [eW]; clear eW d0 d1 f0 f1 x_b2
  have x_b2 := x_b2'; clear x_b2'
  clear hq1 hq2 x_b1
  replace hb := belowOnly hb ho kb_b2
  refine hK _ _ rfl ?_; clear hK K ho hnd
  refine sc fun K hK => ?_
  go_big_move; refine hK _ _ rfl ?_; clear hK K
  apply wpSq_end
  refine hK2 _ _ ?_
  refine wp_ret ?_
  try dsimp only [Exit.then, Exit.inBlock]
  obtain ⟨r0_0, r0_1⟩ := x_b2.f2
  refine bodyPost_ret (v := (.tuple #[(.agg #[.bool false, .slice none 0 0]), (.int .i64 5)])) (by simp [results, Try.results8, go_sem, r0_0, r0_1]) rfl ?_
  exact ⟨rfl, hb⟩
end
end Go.Proofs.Ytpdfahompajbjaa
