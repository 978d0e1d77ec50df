/- gint: digits, isFarInside, quotient. -/
import Derived.Test.YtgjainmfilkjmaaDoorG8ToG10
import Derived.Test.YtgjainmfilkjmaaDoorG7

namespace Go.Proofs.YtgjainmfilkjmaaDoor
open Go Go.RowKit Dig
set_option linter.unusedVariables false

/-- How many digits the longer part has. -/
def gdig (x y : Int) : Nat := (max (bitsN x.natAbs) (bitsN y.natAbs) + 31) / 32
/-- Does a rest lie far inside the square? -/
def far (x y u v : Int) : Prop := ((gT1 x y u v + gT1 x y u v).natAbs : Int) < gN u v - tp (gN u v) 1 ∧ ((gT2 x y u v + gT2 x y u v).natAbs : Int) < gN u v - tp (gN u v) 1
theorem pow_pw (k : Nat) : 2 ^ (32 * k) = pw k := (pw_eq k).symm
theorem gdig_top {x y : Int} : x.natAbs < pw (gdig x y) ∧ y.natAbs < pw (gdig x y) := by
  have h1 := bitsN_lt x.natAbs
  have h2 := bitsN_lt y.natAbs
  have h3 : bitsN x.natAbs ≤ 32 * gdig x y := by unfold gdig; omega
  have h4 : bitsN y.natAbs ≤ 32 * gdig x y := by unfold gdig; omega
  rw [← pow_pw]
  exact ⟨Nat.lt_of_lt_of_le h1 (Nat.pow_le_pow_right (by decide) h3), Nat.lt_of_lt_of_le h2 (Nat.pow_le_pow_right (by decide) h4)⟩
theorem gdig_low {x y : Int} (h : 0 < gdig x y) : pw (gdig x y - 1) ≤ x.natAbs ∨ pw (gdig x y - 1) ≤ y.natAbs := by
  have key : ∀ n : Nat, 32 * (gdig x y - 1) < bitsN n → pw (gdig x y - 1) ≤ n := by
    intro n hn
    have h0 : n ≠ 0 := fun c => by rw [c, bits_zero.2 rfl] at hn; omega
    rw [← pow_pw]
    exact Nat.le_trans (Nat.pow_le_pow_right (by decide) (by omega)) (bitsN_le h0)
  have : 32 * (gdig x y - 1) < max (bitsN x.natAbs) (bitsN y.natAbs) := by unfold gdig at h ⊢; omega
  rcases Nat.le_total (bitsN x.natAbs) (bitsN y.natAbs) with hc | hc
  · rw [Nat.max_eq_right hc] at this; exact .inr (key _ this)
  · rw [Nat.max_eq_left hc] at this; exact .inl (key _ this)
theorem tp_abs (x : Int) (k : Nat) : (tp x k).natAbs = x.natAbs / pw k := by
  unfold tp
  generalize x.natAbs / pw k = q
  split <;> omega
section
variable {w : World} {va vb : Value} {x y u v : Int} {l m k n : Nat}
set_option maxHeartbeats 4000000 in
set_option maxRecDepth 20000 in
theorem gdigits_any (ha : PN w va x l y m) (hl : l ≤ 100000000) (hm : m ≤ 100000000) :
    Calls Tryd.prog 113 #[va] w fun e w' => e = .returned (.int .i64 ((gdig x y : Nat) : Int)) ∧ Below w.heap.size w w' := by
  have h1 := bits_bd (Nat.lt_of_lt_of_le (lt_pw_dig x.natAbs) (pw_mono ha.len1))
  have h2 := bits_bd (Nat.lt_of_lt_of_le (lt_pw_dig y.natAbs) (pw_mono ha.len2))
  obtain ⟨A, hA⟩ : ∃ A, bitsN x.natAbs = A := ⟨_, rfl⟩
  obtain ⟨B, hB⟩ : ∃ B, bitsN y.natAbs = B := ⟨_, rfl⟩
  have e : gdig x y = (max A B + 31) / 32 := by unfold gdig; rw [hA, hB]
  rw [hA] at h1
  rw [hB] at h2
  have HA := hide hA
  have HB := hide hB
  obtain ⟨M, hM⟩ : ∃ M, max A B = M := ⟨_, rfl⟩
  have hmx : max (A : Int) (B : Int) = (M : Int) := by omega
  have hM2 : M ≤ 32000000000 := by omega
  obtain ⟨D, hD⟩ : ∃ D, (M + 31) / 32 = D := ⟨_, rfl⟩
  have hd : ((M : Int) + 31) / 32 = (D : Int) := by omega
  have hd2 : Int.tdiv ((M : Int) + 31) 32 = (D : Int) := by rw [Int.tdiv_eq_ediv_of_nonneg (by omega)]; exact hd
  have hD2 : D ≤ 32000000000 := by omega
  have e2 : gdig x y = D := by rw [e, hM, hD]
  rw [e2]
  clear hA hB e e2 h1 h2 hM hD
  obtain ⟨n_0a, o_0a, k_0a, c_0a, n_0b, o_0b, k_0b, c_0b, rfl, ha1, ha2⟩ := ha
  go_enter Tryd.func113, Tryd.ntmps113
  have hb := Below.refl w.heap.size w
  refine wp_seq_k ?_
  intro K1 hK1
  refine wp_region_sq [0, 1] (by kernel_rfl) ?_
  refine wpSq_call rfl (by kernel_rfl) fun K hK => ?_
  go_big_op
  obtain ⟨p_b1, w_1, eP, eW, x_b1, hn, kb_b1⟩ := newBox w #[.bool n_0a, .slice o_0a k_0a c_0a, .bool n_0b, .slice o_0b k_0b c_0b] 26 hb.size
  rw [eW, eP]
  clear eW eP
  replace ha1 := ha1.bl hn; replace ha2 := ha2.bl hn; replace hb := hb.trans (hn.mono hb.size)
  refine hK _ _ rfl ?_; clear hK K hn
  refine wpSq_call rfl (by kernel_rfl) fun K hK => ?_
  go_big_move; refine hK _ _ rfl ?_; clear hK K
  apply wpSq_end
  refine hK1 _ _ ?_
  refine wp_seq_k ?_
  intro K2 hK2
  refine wp_region_fl2 [(0, false), (1, false), (3, false), (4, false), (2, true), (5, true), (6, true), (7, false), (8, false), (9, false)] [] [] (fun _ => default) [99, 0, 99, 99, 0, 99, 99, 99, 99, 99] [] (fun w' => w'.cell? ⟨p_b1, 0, none⟩ = some (.bool n_0a) ∧ w'.cell? ⟨p_b1, 1, none⟩ = some (.slice o_0a k_0a c_0a) ∧ w'.cell? ⟨p_b1, 2, none⟩ = some (.bool n_0b) ∧ w'.cell? ⟨p_b1, 3, none⟩ = some (.slice o_0b k_0b c_0b)) [fun w' => w'.cell? ⟨p_b1, 0, none⟩ = some (.bool n_0a) ∧ w'.cell? ⟨p_b1, 1, none⟩ = some (.slice o_0a k_0a c_0a) ∧ w'.cell? ⟨p_b1, 2, none⟩ = some (.bool n_0b) ∧ w'.cell? ⟨p_b1, 3, none⟩ = some (.slice o_0b k_0b c_0b)] (by kernel_rfl) (by kernel_rfl) (by kernel_rfl) (by kernel_rfl) (by kernel_rfl) (by kernel_rfl) (by kernel_rfl) (by kernel_rfl) (by decide) (by intro j hj; cases hj) (by intro w' o hC; obtain ⟨c0, c1, c2, c3⟩ := hC; exact ⟨cell_alloc c0 o, cell_alloc c1 o, cell_alloc c2 o, cell_alloc c3 o⟩) (by intro w' hC G hG; obtain ⟨c0, c1, c2, c3⟩ := hC; simp only [List.mem_cons, List.not_mem_nil, or_false] at hG; rcases hG with rfl <;> first | exact ⟨c0, c1, c2, c3⟩) ?_
  have lt_b1 := x_b1.lt
  intro w_2 hn
  replace lt_b1 := Nat.lt_of_lt_of_le lt_b1 hn.size
  replace ha1 := ha1.bl hn; replace ha2 := ha2.bl hn; replace x_b1 := x_b1.bl hn; replace hb := hb.trans (hn.mono hb.size)
  clear hn
  have kb0 := hb.size
  refine ⟨⟨x_b1.cell 0 rfl, x_b1.cell 1 rfl, x_b1.cell 2 rfl, x_b1.cell 3 rfl⟩, ?_⟩
  apply wpFl_ld rfl rfl; (case h1 => intro w' hC K hK; go_big_op; exact hK); iterate 4 kernel_rfl
  apply wpFl_ld rfl rfl; (case h1 => intro w' hC K hK; obtain ⟨c0, c1, c2, c3⟩ := hC; go_big_op; exact hK); iterate 4 kernel_rfl
  apply wpFl_ld rfl rfl; (case h1 => intro w' hC K hK; go_big_op; exact hK); iterate 4 kernel_rfl
  apply wpFl_ld rfl rfl; (case h1 => intro w' hC K hK; obtain ⟨c0, c1, c2, c3⟩ := hC; go_big_op; exact hK); iterate 4 kernel_rfl
  refine wpFl_call rfl (by kernel_rfl) fun w_3 hn hC => ?_; clear hC
  replace ha1 := ha1.bl hn; replace ha2 := ha2.bl hn; replace x_b1 := x_b1.bl hn; replace hb := hb.trans (hn.mono hb.size)
  clear hn; intro K hK
  go_big_op
  go_fit (zbits_any ha1 (by omega) )
  rintro e w_4 ⟨rfl, hb_4⟩
  replace ha1 := ha1.bl hb_4; replace ha2 := ha2.bl hb_4; replace x_b1 := x_b1.bl hb_4; replace hb := hb.trans (hb_4.mono hb.size)
  rw [HA.out]
  refine hK _ _ rfl hb_4 ⟨x_b1.cell 0 rfl, x_b1.cell 1 rfl, x_b1.cell 2 rfl, x_b1.cell 3 rfl⟩ ?_
  clear hK K hb_4
  refine wpFl_call rfl (by kernel_rfl) fun w_5 hn hC => ?_; clear hC
  replace ha1 := ha1.bl hn; replace ha2 := ha2.bl hn; replace x_b1 := x_b1.bl hn; replace hb := hb.trans (hn.mono hb.size)
  clear hn; intro K hK
  go_big_op
  go_fit (zbits_any ha2 (by omega) )
  rintro e w_6 ⟨rfl, hb_6⟩
  replace ha1 := ha1.bl hb_6; replace ha2 := ha2.bl hb_6; replace x_b1 := x_b1.bl hb_6; replace hb := hb.trans (hb_6.mono hb.size)
  rw [HB.out]
  refine hK _ _ rfl hb_6 ⟨x_b1.cell 0 rfl, x_b1.cell 1 rfl, x_b1.cell 2 rfl, x_b1.cell 3 rfl⟩ ?_
  clear hK K hb_6
  refine wpFl_call rfl (by kernel_rfl) fun w_7 hn hC => ?_; clear hC
  replace ha1 := ha1.bl hn; replace ha2 := ha2.bl hn; replace x_b1 := x_b1.bl hn; replace hb := hb.trans (hn.mono hb.size)
  clear hn; intro K hK
  go_big_op; refine hK _ _ rfl (Below.refl _ _) ⟨x_b1.cell 0 rfl, x_b1.cell 1 rfl, x_b1.cell 2 rfl, x_b1.cell 3 rfl⟩ ?_; clear hK K
  apply wpFl_ld rfl rfl; (case h1 => intro w' hC K hK; go_big_op; exact hK); iterate 4 kernel_rfl
  apply wpFl_ld rfl rfl; (case h1 => intro w' hC K hK; go_big_op; exact hK); iterate 4 kernel_rfl
  apply wpFl_ld rfl rfl; (case h1 => intro w' hC K hK; go_big_move; exact hK); iterate 4 kernel_rfl
  apply wpFl_end
  case ha => intro pt; simp only [putF]; rfl
  case h =>
  intro w_8 pt hn hC hF hD
  clear hC
  replace ha1 := ha1.bl hn; replace ha2 := ha2.bl hn; replace x_b1 := x_b1.bl hn; replace hb := hb.trans (hn.mono hb.size)
  clear hn
  clear hF hD
  clear pt
  clear kb0 lt_b1
  apply wpTail_end
  refine hK2 _ _ ?_
  refine wp_ret ?_
  try dsimp only [Exit.then, Exit.inBlock]
  refine bodyPost_ret (v := (.int .i64 (D : Int))) (by simp [results, Tryd.results113, go_sem]) rfl ?_
  exact ⟨rfl, hb⟩
set_option maxHeartbeats 4000000 in
set_option maxRecDepth 20000 in
theorem far_yes (ha : PN w va x l y m) (hq : PN w vb u k v n) (hl : l ≤ 20000000) (hm : m ≤ 20000000) (hk : k ≤ 20000000) (hn : n ≤ 20000000) (h1 : ((gT1 x y u v + gT1 x y u v).natAbs : Int) < gN u v - tp (gN u v) 1) (h2 : ((gT2 x y u v + gT2 x y u v).natAbs : Int) < gN u v - tp (gN u v) 1) :
    Calls Tryd.prog 115 #[va, vb] w fun e w' => e = .returned (.bool true) ∧ Below w.heap.size w w' := by
  have HC1 := hide (zcmp_lt h1)
  have HC2 := hide (zcmp_lt h2)
  clear h1 h2
  obtain ⟨n_0a, o_0a, k_0a, c_0a, n_0b, o_0b, k_0b, c_0b, rfl, ha1, ha2⟩ := ha
  obtain ⟨n_1a, o_1a, k_1a, c_1a, n_1b, o_1b, k_1b, c_1b, rfl, hq1, hq2⟩ := hq
  go_enter Tryd.func115, Tryd.ntmps115
  have hb := Below.refl w.heap.size w
  refine wp_seq_k ?_
  intro K1 hK1
  refine wp_region_sq [0, 1, 2] (by kernel_rfl) ?_
  refine wpSq_call rfl (by kernel_rfl) fun K hK => ?_
  go_big_op
  obtain ⟨p_b1, w_1, eP, eW, x_b1, hn, kb_b1⟩ := newBox w #[.bool n_0a, .slice o_0a k_0a c_0a, .bool n_0b, .slice o_0b k_0b c_0b] 26 hb.size
  rw [eW, eP]
  clear eW eP
  replace ha1 := ha1.bl hn; replace ha2 := ha2.bl hn; replace hq1 := hq1.bl hn; replace hq2 := hq2.bl hn; replace hb := hb.trans (hn.mono hb.size)
  refine hK _ _ rfl ?_; clear hK K hn
  refine wpSq_call rfl (by kernel_rfl) fun K hK => ?_
  go_big_op
  have lt_b1 := x_b1.lt
  obtain ⟨p_b2, w_2, eP, eW, x_b2, hn, kb_b2⟩ := newBox w_1 #[.bool n_1a, .slice o_1a k_1a c_1a, .bool n_1b, .slice o_1b k_1b c_1b] 26 hb.size
  have ne_b1_b2 : Hid (p_b1 ≠ p_b2) := Nat.ne_of_lt (eP ▸ lt_b1)
  rw [eW, eP]
  clear eW eP lt_b1
  replace ha1 := ha1.bl hn; replace ha2 := ha2.bl hn; replace hq1 := hq1.bl hn; replace hq2 := hq2.bl hn; replace x_b1 := x_b1.bl hn; replace hb := hb.trans (hn.mono hb.size)
  refine hK _ _ rfl ?_; clear hK K hn
  refine wpSq_call rfl (by kernel_rfl) fun K hK => ?_
  go_big_move; refine hK _ _ rfl ?_; clear hK K
  apply wpSq_end
  refine hK1 _ _ ?_
  refine wp_seq_k ?_
  intro K2 hK2
  refine wp_region_sq [0, 1, 2, 3, 4, 5, 6, 7, 8, 9] (by kernel_rfl) ?_
  refine wpSq_call rfl (by kernel_rfl) fun K hK => ?_
  obtain ⟨d0, d1, d2, d3⟩ := x_b1.f4
  go_big_op; refine hK _ _ rfl ?_; clear hK K d0 d1 d2 d3
  refine wpSq_call rfl (by kernel_rfl) fun K hK => ?_
  obtain ⟨d0, d1, d2, d3⟩ := x_b2.f4
  go_big_op; refine hK _ _ rfl ?_; clear hK K d0 d1 d2 d3
  refine wpSq_call rfl (by kernel_rfl) fun K hK => ?_
  go_big_op
  go_fit (overNorm_any (PN.mk' ha1 ha2) (PN.mk' hq1 hq2) (by omega) (by omega) (by omega) (by omega) )
  rintro e w_3 ⟨_, v_g2, rfl, ⟨n_g1a, o_g1a, k_g1a, c_g1a, n_g1b, o_g1b, k_g1b, c_g1b, rfl, g11, g12⟩, g2, hb_3⟩
  clear x_b1 x_b2
  replace ha1 := ha1.bl hb_3; replace ha2 := ha2.bl hb_3; replace hq1 := hq1.bl hb_3; replace hq2 := hq2.bl hb_3; replace hb := hb.trans (hb_3.mono hb.size)
  obtain ⟨n_g2, o_g2, k_g2, c_g2, rfl⟩ := g2.open2
  have Lg11 := hide (g11.lenOf (zlen_gT1 (ha1.len) (ha2.len) (hq1.len) (hq2.len)))
  have Lg12 := hide (g12.lenOf (zlen_gT2 (ha1.len) (ha2.len) (hq1.len) (hq2.len)))
  have Lg2 := hide (g2.lenOf (zlen_gN (hq1.len) (hq2.len)))
  refine hK _ _ rfl ?_
  clear hK K hb_3
  refine wpSq_call rfl (by kernel_rfl) fun K hK => ?_
  go_big_move; refine hK _ _ rfl ?_; clear hK K
  refine wpSq_call rfl (by kernel_rfl) fun K hK => ?_
  go_big_op; refine hK _ _ rfl ?_; clear hK K
  refine wpSq_call rfl (by kernel_rfl) fun K hK => ?_
  go_big_op; refine hK _ _ rfl ?_; clear hK K
  refine wpSq_call rfl (by kernel_rfl) fun K hK => ?_
  go_big_op
  clear ha1 ha2 hq1 hq2
  obtain ⟨p_b3, w_4, eP, eW, x_b3, hn, kb_b3⟩ := newBox w_3 #[.bool false, .slice none 0 0, .bool false, .slice none 0 0] 26 hb.size
  rw [eW, eP]
  clear eW eP
  replace g11 := g11.bl hn; replace g12 := g12.bl hn; replace g2 := g2.bl hn; replace hb := hb.trans (hn.mono hb.size)
  refine hK _ _ rfl ?_; clear hK K hn
  refine wpSq_call rfl (by kernel_rfl) fun K hK => ?_
  go_big_op
  have lt_b3 := x_b3.lt
  obtain ⟨p_b4, w_5, eP, eW, x_b4, hn, kb_b4⟩ := newBox w_4 #[.bool false, .slice none 0 0] 24 hb.size
  have ne_b3_b4 : Hid (p_b3 ≠ p_b4) := Nat.ne_of_lt (eP ▸ lt_b3)
  rw [eW, eP]
  clear eW eP lt_b3
  replace g11 := g11.bl hn; replace g12 := g12.bl hn; replace g2 := g2.bl hn; replace x_b3 := x_b3.bl hn; replace hb := hb.trans (hn.mono hb.size)
  refine hK _ _ rfl ?_; clear hK K hn
  refine wpSq_call rfl (by kernel_rfl) fun K hK => ?_
  obtain ⟨d0, d1, d2, d3⟩ := x_b3.f4
  have f0 := x_b3.free 0; have f1 := x_b3.free 1; have f2 := x_b3.free 2; have f3 := x_b3.free 3
  go_big_op
  have hnd := x_b3.nod rfl rfl
  obtain ⟨w_6, eW, x_b3', ho⟩ : ∃ w', ((((w_5.setCell ⟨p_b3, 0, none⟩ (.bool n_g1a)).setCell ⟨p_b3, 1, none⟩ (.slice o_g1a k_g1a c_g1a)).setCell ⟨p_b3, 2, none⟩ (.bool n_g1b)).setCell ⟨p_b3, 3, none⟩ (.slice o_g1b k_g1b c_g1b)) = w' ∧ Bs w' p_b3 #[.bool n_g1a, .slice o_g1a k_g1a c_g1a, .bool n_g1b, .slice o_g1b k_g1b c_g1b] 26 ∧ Only p_b3 w_5 w' := x_b3.setN [(0, .bool n_g1a), (1, .slice o_g1a k_g1a c_g1a), (2, .bool n_g1b), (3, .slice o_g1b k_g1b c_g1b)]
  rw [eW]; clear eW d0 d1 d2 d3 f0 f1 f2 f3 x_b3
  have x_b3 := x_b3'; clear x_b3'
  replace g11 := g11.fr hnd ho; replace g12 := g12.fr hnd ho; replace g2 := g2.fr hnd ho; replace x_b4 := x_b4.frame ho ne_b3_b4.symm; replace hb := belowOnly hb ho kb_b3
  refine hK _ _ rfl ?_; clear hK K ho hnd
  refine wpSq_call rfl (by kernel_rfl) fun K hK => ?_
  obtain ⟨d0, d1⟩ := x_b4.f2
  have f0 := x_b4.free 0; have f1 := x_b4.free 1
  go_big_op
  have hnd := x_b4.nod rfl rfl
  obtain ⟨w_7, eW, x_b4', ho⟩ : ∃ w', ((w_6.setCell ⟨p_b4, 0, none⟩ (.bool n_g2)).setCell ⟨p_b4, 1, none⟩ (.slice o_g2 k_g2 c_g2)) = w' ∧ Bs w' p_b4 #[.bool n_g2, .slice o_g2 k_g2 c_g2] 24 ∧ Only p_b4 w_6 w' := x_b4.setN [(0, .bool n_g2), (1, .slice o_g2 k_g2 c_g2)]
  rw [eW]; clear eW d0 d1 f0 f1 x_b4
  have x_b4 := x_b4'; clear x_b4'
  replace g11 := g11.fr hnd ho; replace g12 := g12.fr hnd ho; replace g2 := g2.fr hnd ho; replace x_b3 := x_b3.frame ho ne_b3_b4; replace hb := belowOnly hb ho kb_b4
  refine hK _ _ rfl ?_; clear hK K ho hnd
  apply wpSq_end
  refine hK2 _ _ ?_
  refine wp_seq_k ?_
  intro K3 hK3
  refine wp_region_fl2 [(0, false), (1, false), (2, true), (3, true)] [4] [] (fun _ => default) [0, 0, 99, 99, 99] [(4, 0)] (fun w' => w'.cell? ⟨p_b4, 0, none⟩ = some (.bool n_g2) ∧ w'.cell? ⟨p_b4, 1, none⟩ = some (.slice o_g2 k_g2 c_g2)) [fun w' => w'.cell? ⟨p_b4, 0, none⟩ = some (.bool n_g2) ∧ w'.cell? ⟨p_b4, 1, none⟩ = some (.slice o_g2 k_g2 c_g2)] (by kernel_rfl) (by kernel_rfl) (by kernel_rfl) (by kernel_rfl) (by kernel_rfl) (by kernel_rfl) (by kernel_rfl) (by kernel_rfl) (by decide) (by intro j hj; cases hj) (by intro w' o hC; obtain ⟨c0, c1⟩ := hC; exact ⟨cell_alloc c0 o, cell_alloc c1 o⟩) (by intro w' hC G hG; obtain ⟨c0, c1⟩ := hC; simp only [List.mem_cons, List.not_mem_nil, or_false] at hG; rcases hG with rfl <;> first | exact ⟨c0, c1⟩) ?_
  have lt_b3 := x_b3.lt
  have lt_b4 := x_b4.lt
  intro w_8 hn
  replace lt_b3 := Nat.lt_of_lt_of_le lt_b3 hn.size
  replace lt_b4 := Nat.lt_of_lt_of_le lt_b4 hn.size
  replace g11 := g11.bl hn; replace g12 := g12.bl hn; replace g2 := g2.bl hn; replace x_b3 := x_b3.bl hn; replace x_b4 := x_b4.bl hn; replace hb := hb.trans (hn.mono hb.size)
  clear hn
  have kb0 := hb.size
  refine ⟨⟨x_b4.cell 0 rfl, x_b4.cell 1 rfl⟩, ?_⟩
  apply wpFl_ld rfl rfl; (case h1 => intro w' hC K hK; obtain ⟨c0, c1⟩ := hC; go_big_op; exact hK); iterate 4 kernel_rfl
  apply wpFl_ld rfl rfl; (case h1 => intro w' hC K hK; obtain ⟨c0, c1⟩ := hC; go_big_op; exact hK); iterate 4 kernel_rfl
  refine wpFl_call rfl (by kernel_rfl) fun w_9 hn hC => ?_; clear hC
  replace g11 := g11.bl hn; replace g12 := g12.bl hn; replace g2 := g2.bl hn; replace x_b3 := x_b3.bl hn; replace x_b4 := x_b4.bl hn; replace hb := hb.trans (hn.mono hb.size)
  clear hn; intro K hK
  go_big_op
  go_fit (topOf_any 1 (g2.zn Lg2.out) (by omega) (by decide))
  rintro e w_10 ⟨v_g3, rfl, g3, hb_10⟩
  replace g11 := g11.bl hb_10; replace g12 := g12.bl hb_10; replace g2 := g2.bl hb_10; replace x_b3 := x_b3.bl hb_10; replace x_b4 := x_b4.bl hb_10; replace hb := hb.trans (hb_10.mono hb.size)
  obtain ⟨n_g3, o_g3, k_g3, c_g3, rfl⟩ := g3.open2
  refine hK _ _ rfl hb_10 ⟨x_b4.cell 0 rfl, x_b4.cell 1 rfl⟩ ?_
  clear hK K hb_10
  refine wpFl_call rfl (by kernel_rfl) fun w_11 hn hC => ?_; clear hC
  replace g11 := g11.bl hn; replace g12 := g12.bl hn; replace g2 := g2.bl hn; replace x_b3 := x_b3.bl hn; replace x_b4 := x_b4.bl hn; replace g3 := g3.bl hn; replace hb := hb.trans (hn.mono hb.size)
  clear hn; intro K hK
  go_big_op
  go_fit (zsub_any (g2.zn Lg2.out) g3 (by omega) (by omega) )
  rintro e w_12 ⟨v_g4, rfl, g4, hb_12⟩
  replace g11 := g11.bl hb_12; replace g12 := g12.bl hb_12; replace g2 := g2.bl hb_12; replace x_b3 := x_b3.bl hb_12; replace x_b4 := x_b4.bl hb_12; replace g3 := g3.bl hb_12; replace hb := hb.trans (hb_12.mono hb.size)
  replace g4 := g4.rd
  obtain ⟨n_g4, o_g4, k_g4, c_g4, rfl⟩ := g4.open2
  have Lg4 := hide (g4.lenOf (zlen_sub (Lg2.out) (g3.len)))
  refine hK _ _ rfl hb_12 ⟨x_b4.cell 0 rfl, x_b4.cell 1 rfl⟩ ?_
  clear hK K hb_12
  apply wpFl_end
  case ha => intro pt; simp only [putF]; rfl
  case h =>
  intro w_13 pt hn hC hF hD
  clear hC
  clear g3
  replace g11 := g11.bl hn; replace g12 := g12.bl hn; replace g2 := g2.bl hn; replace x_b3 := x_b3.bl hn; replace x_b4 := x_b4.bl hn; replace g4 := g4.bl hn; replace hb := hb.trans (hn.mono hb.size)
  clear hn
  clear hF hD
  clear pt
  clear kb0 lt_b3 lt_b4
  refine wpTail_call rfl (by kernel_rfl) fun K hK => ?_
  obtain ⟨d0, d1⟩ := x_b4.f2
  have f0 := x_b4.free 0; have f1 := x_b4.free 1
  go_big_op
  have hnd := x_b4.nod rfl rfl
  obtain ⟨w_14, eW, x_b4', ho⟩ : ∃ w', ((w_13.setCell ⟨p_b4, 0, none⟩ (.bool n_g4)).setCell ⟨p_b4, 1, none⟩ (.slice o_g4 k_g4 c_g4)) = w' ∧ Bs w' p_b4 #[.bool n_g4, .slice o_g4 k_g4 c_g4] 24 ∧ Only p_b4 w_13 w' := x_b4.setN [(0, .bool n_g4), (1, .slice o_g4 k_g4 c_g4)]
  rw [eW]; clear eW d0 d1 f0 f1 x_b4
  have x_b4 := x_b4'; clear x_b4'
  clear g2
  replace g11 := g11.fr hnd ho; replace g12 := g12.fr hnd ho; replace x_b3 := x_b3.frame ho ne_b3_b4; replace g4 := g4.fr hnd ho; replace hb := belowOnly hb ho kb_b4
  refine hK _ _ rfl (And.intro True.intro True.intro) ?_; clear hK K ho hnd
  apply wpTail_end
  refine hK3 _ _ ?_
  refine wp_seq_k ?_
  intro K4 hK4
  refine wp_seq_k ?_
  intro K5 hK5
  refine wp_region_sq [0, 1, 2, 3, 4, 5, 6] (by kernel_rfl) ?_
  refine wpSq_call rfl (by kernel_rfl) fun K hK => ?_
  go_big_op; refine hK _ _ rfl ?_; clear hK K
  refine wpSq_call rfl (by kernel_rfl) fun K hK => ?_
  obtain ⟨d0, d1, d2, d3⟩ := x_b3.f4
  go_big_op; refine hK _ _ rfl ?_; clear hK K d0 d1 d2 d3
  refine wpSq_call rfl (by kernel_rfl) fun K hK => ?_
  go_big_op; refine hK _ _ rfl ?_; clear hK K
  refine wpSq_call rfl (by kernel_rfl) fun K hK => ?_
  obtain ⟨d0, d1, d2, d3⟩ := x_b3.f4
  go_big_op; refine hK _ _ rfl ?_; clear hK K d0 d1 d2 d3
  refine wpSq_call rfl (by kernel_rfl) fun K hK => ?_
  go_big_op
  clear x_b3
  have lt_b4 := x_b4.lt
  obtain ⟨p_b5, w_15, eP, eW, x_b5, hn, kb_b5⟩ := newBox w_14 #[.bool n_g1a, .slice o_g1a k_g1a c_g1a, .bool n_g1b, .slice o_g1b k_g1b c_g1b] 24 hb.size
  have ne_b4_b5 : Hid (p_b4 ≠ p_b5) := Nat.ne_of_lt (eP ▸ lt_b4)
  rw [eW, eP]
  clear eW eP lt_b4
  replace g11 := g11.bl hn; replace g12 := g12.bl hn; replace x_b4 := x_b4.bl hn; replace g4 := g4.bl hn; replace hb := hb.trans (hn.mono hb.size)
  refine hK _ _ rfl ?_; clear hK K hn
  refine wpSq_call rfl (by kernel_rfl) fun K hK => ?_
  go_big_op; refine hK _ _ rfl ?_; clear hK K
  refine wpSq_call rfl (by kernel_rfl) fun K hK => ?_
  go_big_move; refine hK _ _ rfl ?_; clear hK K
  apply wpSq_end
  refine hK5 _ _ ?_
  refine wp_block ?_
  refine wp_loop_rounds 3 ?_
  show Code.wp _ _ _ _ _
  refine wp_seq_k ?_
  intro K6 hK6
  refine wp_region_sq [0] (by kernel_rfl) ?_
  refine wpSq_call rfl (by kernel_rfl) fun K hK => ?_
  go_big_op; refine hK _ _ rfl ?_; clear hK K
  apply wpSq_end
  refine hK6 _ _ ?_
  refine wp_seq_k ?_
  intro K7 hK7
  refine wp_cond_true (congrArg Value.bool (show _ = true from (by first | rfl | assumption | (simp; done) | exact decide_eq_true (by omega) | omega))) ?_
  refine wp_skip ?_
  refine hK7 _ _ ?_
  refine wp_seq_k ?_
  intro K8 hK8
  refine wp_block ?_
  refine wp_seq_k ?_
  intro K9 hK9
  refine wp_region_sq [0, 1, 2, 3] (by kernel_rfl) ?_
  refine wpSq_call rfl (by kernel_rfl) fun K hK => ?_
  go_big_op; refine hK _ _ rfl ?_; clear hK K
  refine wpSq_call rfl (by kernel_rfl) fun K hK => ?_
  obtain ⟨d0, d1, d2, d3⟩ := x_b5.f4
  go_big_op; refine hK _ _ rfl ?_; clear hK K d0 d1 d2 d3
  refine wpSq_call rfl (by kernel_rfl) fun K hK => ?_
  go_big_op
  have lt_b4 := x_b4.lt
  have lt_b5 := x_b5.lt
  obtain ⟨p_b6, w_16, eP, eW, x_b6, hn, kb_b6⟩ := newBox w_15 #[.bool false, .slice none 0 0] 24 hb.size
  have ne_b4_b6 : Hid (p_b4 ≠ p_b6) := Nat.ne_of_lt (eP ▸ lt_b4)
  have ne_b5_b6 : Hid (p_b5 ≠ p_b6) := Nat.ne_of_lt (eP ▸ lt_b5)
  rw [eW, eP]
  clear eW eP lt_b4 lt_b5
  replace g11 := g11.bl hn; replace g12 := g12.bl hn; replace x_b4 := x_b4.bl hn; replace g4 := g4.bl hn; replace x_b5 := x_b5.bl hn; replace hb := hb.trans (hn.mono hb.size)
  refine hK _ _ rfl ?_; clear hK K hn
  refine wpSq_call rfl (by kernel_rfl) fun K hK => ?_
  obtain ⟨d0, d1⟩ := x_b6.f2
  have f0 := x_b6.free 0; have f1 := x_b6.free 1
  go_big_op
  have hnd := x_b6.nod rfl rfl
  obtain ⟨w_17, eW, x_b6', ho⟩ : ∃ w', ((w_16.setCell ⟨p_b6, 0, none⟩ (.bool n_g1a)).setCell ⟨p_b6, 1, none⟩ (.slice o_g1a k_g1a c_g1a)) = w' ∧ Bs w' p_b6 #[.bool n_g1a, .slice o_g1a k_g1a c_g1a] 24 ∧ Only p_b6 w_16 w' := x_b6.setN [(0, .bool n_g1a), (1, .slice o_g1a k_g1a c_g1a)]
  rw [eW]; clear eW d0 d1 f0 f1 x_b6
  have x_b6 := x_b6'; clear x_b6'
  replace g11 := g11.fr hnd ho; replace g12 := g12.fr hnd ho; replace x_b4 := x_b4.frame ho ne_b4_b6; replace g4 := g4.fr hnd ho; replace x_b5 := x_b5.frame ho ne_b5_b6; replace hb := belowOnly hb ho kb_b6
  refine hK _ _ rfl ?_; clear hK K ho hnd
  apply wpSq_end
  refine hK9 _ _ ?_
  refine wp_seq_k ?_
  intro K10 hK10
  refine wp_region_fl2 [(0, false), (1, false), (4, false), (2, true), (3, true), (5, true), (6, false)] [] [] (fun _ => default) [0, 0, 99, 99, 1, 99, 99] [] (fun w' => w'.cell? ⟨p_b6, 0, none⟩ = some (.bool n_g1a) ∧ w'.cell? ⟨p_b6, 1, none⟩ = some (.slice o_g1a k_g1a c_g1a) ∧ w'.cell? ⟨p_b4, 0, none⟩ = some (.bool n_g4) ∧ w'.cell? ⟨p_b4, 1, none⟩ = some (.slice o_g4 k_g4 c_g4)) [fun w' => w'.cell? ⟨p_b6, 0, none⟩ = some (.bool n_g1a) ∧ w'.cell? ⟨p_b6, 1, none⟩ = some (.slice o_g1a k_g1a c_g1a), fun w' => w'.cell? ⟨p_b4, 0, none⟩ = some (.bool n_g4) ∧ w'.cell? ⟨p_b4, 1, none⟩ = some (.slice o_g4 k_g4 c_g4)] (by kernel_rfl) (by kernel_rfl) (by kernel_rfl) (by kernel_rfl) (by kernel_rfl) (by kernel_rfl) (by kernel_rfl) (by kernel_rfl) (by decide) (by intro j hj; cases hj) (by intro w' o hC; obtain ⟨c0, c1, c2, c3⟩ := hC; exact ⟨cell_alloc c0 o, cell_alloc c1 o, cell_alloc c2 o, cell_alloc c3 o⟩) (by intro w' hC G hG; obtain ⟨c0, c1, c2, c3⟩ := hC; simp only [List.mem_cons, List.not_mem_nil, or_false] at hG; rcases hG with rfl | rfl <;> first | exact ⟨c0, c1⟩ | exact ⟨c2, c3⟩) ?_
  have lt_b4 := x_b4.lt
  have lt_b5 := x_b5.lt
  have lt_b6 := x_b6.lt
  intro w_18 hn
  replace lt_b4 := Nat.lt_of_lt_of_le lt_b4 hn.size
  replace lt_b5 := Nat.lt_of_lt_of_le lt_b5 hn.size
  replace lt_b6 := Nat.lt_of_lt_of_le lt_b6 hn.size
  replace g11 := g11.bl hn; replace g12 := g12.bl hn; replace x_b4 := x_b4.bl hn; replace g4 := g4.bl hn; replace x_b5 := x_b5.bl hn; replace x_b6 := x_b6.bl hn; replace hb := hb.trans (hn.mono hb.size)
  clear hn
  have kb0 := hb.size
  refine ⟨⟨x_b6.cell 0 rfl, x_b6.cell 1 rfl, x_b4.cell 0 rfl, x_b4.cell 1 rfl⟩, ?_⟩
  apply wpFl_ld rfl rfl; (case h1 => intro w' hC K hK; obtain ⟨c0, c1⟩ := hC; go_big_op; exact hK); iterate 4 kernel_rfl
  apply wpFl_ld rfl rfl; (case h1 => intro w' hC K hK; obtain ⟨c0, c1⟩ := hC; go_big_op; exact hK); iterate 4 kernel_rfl
  apply wpFl_ld rfl rfl; (case h1 => intro w' hC K hK; obtain ⟨c0, c1⟩ := hC; go_big_op; exact hK); iterate 4 kernel_rfl
  refine wpFl_call rfl (by kernel_rfl) fun w_19 hn hC => ?_; clear hC
  replace g11 := g11.bl hn; replace g12 := g12.bl hn; replace x_b4 := x_b4.bl hn; replace g4 := g4.bl hn; replace x_b5 := x_b5.bl hn; replace x_b6 := x_b6.bl hn; replace hb := hb.trans (hn.mono hb.size)
  clear hn; intro K hK
  go_big_op
  go_fit (zadd_any (g11.zn Lg11.out) (g11.zn Lg11.out) (by omega) (by omega) )
  rintro e w_20 ⟨v_g5, rfl, g5, hb_20⟩
  replace g11 := g11.bl hb_20; replace g12 := g12.bl hb_20; replace x_b4 := x_b4.bl hb_20; replace g4 := g4.bl hb_20; replace x_b5 := x_b5.bl hb_20; replace x_b6 := x_b6.bl hb_20; replace hb := hb.trans (hb_20.mono hb.size)
  replace g5 := g5.rd
  obtain ⟨n_g5, o_g5, k_g5, c_g5, rfl⟩ := g5.open2
  have Lg5 := hide (g5.lenOf (zlen_add (Lg11.out) (Lg11.out)))
  refine hK _ _ rfl hb_20 ⟨x_b6.cell 0 rfl, x_b6.cell 1 rfl, x_b4.cell 0 rfl, x_b4.cell 1 rfl⟩ ?_
  clear hK K hb_20
  refine wpFl_call rfl (by kernel_rfl) fun w_21 hn hC => ?_; clear hC
  replace g11 := g11.bl hn; replace g12 := g12.bl hn; replace x_b4 := x_b4.bl hn; replace g4 := g4.bl hn; replace x_b5 := x_b5.bl hn; replace x_b6 := x_b6.bl hn; replace g5 := g5.bl hn; replace hb := hb.trans (hn.mono hb.size)
  clear hn; intro K hK
  go_big_op
  go_fit (zabs_any (g5.zn Lg5.out) (by omega) )
  rintro e w_22 ⟨v_g6, rfl, g6, hb_22⟩
  replace g11 := g11.bl hb_22; replace g12 := g12.bl hb_22; replace x_b4 := x_b4.bl hb_22; replace g4 := g4.bl hb_22; replace x_b5 := x_b5.bl hb_22; replace x_b6 := x_b6.bl hb_22; replace g5 := g5.bl hb_22; replace hb := hb.trans (hb_22.mono hb.size)
  replace g6 := g6.rd
  obtain ⟨n_g6, o_g6, k_g6, c_g6, rfl⟩ := g6.open2
  have Lg6 := hide (g6.lenOf (zlen_abs (Lg5.out)))
  refine hK _ _ rfl hb_22 ⟨x_b6.cell 0 rfl, x_b6.cell 1 rfl, x_b4.cell 0 rfl, x_b4.cell 1 rfl⟩ ?_
  clear hK K hb_22
  refine wpFl_call rfl (by kernel_rfl) fun w_23 hn hC => ?_; clear hC
  replace g11 := g11.bl hn; replace g12 := g12.bl hn; replace x_b4 := x_b4.bl hn; replace g4 := g4.bl hn; replace x_b5 := x_b5.bl hn; replace x_b6 := x_b6.bl hn; replace g5 := g5.bl hn; replace g6 := g6.bl hn; replace hb := hb.trans (hn.mono hb.size)
  clear hn; intro K hK
  go_big_op
  go_fit (zcmp_any (g6.zn Lg6.out) (g4.zn Lg4.out) (by omega) (by omega) )
  rintro e w_24 ⟨rfl, hb_24⟩
  replace g11 := g11.bl hb_24; replace g12 := g12.bl hb_24; replace x_b4 := x_b4.bl hb_24; replace g4 := g4.bl hb_24; replace x_b5 := x_b5.bl hb_24; replace x_b6 := x_b6.bl hb_24; replace g5 := g5.bl hb_24; replace g6 := g6.bl hb_24; replace hb := hb.trans (hb_24.mono hb.size)
  rw [HC1.out]
  refine hK _ _ rfl hb_24 ⟨x_b6.cell 0 rfl, x_b6.cell 1 rfl, x_b4.cell 0 rfl, x_b4.cell 1 rfl⟩ ?_
  clear hK K hb_24
  apply wpFl_ld rfl rfl; (case h1 => intro w' hC K hK; go_big_op; exact hK); iterate 4 kernel_rfl
  apply wpFl_end
  case ha => intro pt; simp only [putF]; rfl
  case h =>
  intro w_25 pt hn hC hF hD
  clear hC
  replace g11 := g11.bl hn; replace g12 := g12.bl hn; replace x_b4 := x_b4.bl hn; replace g4 := g4.bl hn; replace x_b5 := x_b5.bl hn; replace x_b6 := x_b6.bl hn; replace g5 := g5.bl hn; replace g6 := g6.bl hn; replace hb := hb.trans (hn.mono hb.size)
  clear hn
  clear hF hD
  clear pt
  clear kb0 lt_b4 lt_b5 lt_b6
  apply wpTail_end
  refine hK10 _ _ ?_
  refine wp_cond_false (congrArg Value.bool (show _ = false from (by first | rfl | assumption | (simp; done) | exact decide_eq_false (by omega) | omega))) ?_
  refine wp_skip ?_
  refine hK8 _ _ ?_
  refine wp_region_sq [0, 1] (by kernel_rfl) ?_
  refine wpSq_call rfl (by kernel_rfl) fun K hK => ?_
  go_big_op; refine hK _ _ rfl ?_; clear hK K
  refine wpSq_call rfl (by kernel_rfl) fun K hK => ?_
  go_big_move; refine hK _ _ rfl ?_; clear hK K
  apply wpSq_end
  show Code.wp _ _ _ _ _
  refine wp_seq_k ?_
  intro K11 hK11
  refine wp_region_sq [0] (by kernel_rfl) ?_
  refine wpSq_call rfl (by kernel_rfl) fun K hK => ?_
  go_big_op; refine hK _ _ rfl ?_; clear hK K
  apply wpSq_end
  refine hK11 _ _ ?_
  refine wp_seq_k ?_
  intro K12 hK12
  refine wp_cond_true (congrArg Value.bool (show _ = true from (by first | rfl | assumption | (simp; done) | exact decide_eq_true (by omega) | omega))) ?_
  refine wp_skip ?_
  refine hK12 _ _ ?_
  refine wp_seq_k ?_
  intro K13 hK13
  refine wp_block ?_
  refine wp_seq_k ?_
  intro K14 hK14
  refine wp_region_sq [0, 1, 2, 3] (by kernel_rfl) ?_
  refine wpSq_call rfl (by kernel_rfl) fun K hK => ?_
  go_big_op; refine hK _ _ rfl ?_; clear hK K
  refine wpSq_call rfl (by kernel_rfl) fun K hK => ?_
  obtain ⟨d0, d1, d2, d3⟩ := x_b5.f4
  go_big_op; refine hK _ _ rfl ?_; clear hK K d0 d1 d2 d3
  refine wpSq_call rfl (by kernel_rfl) fun K hK => ?_
  go_big_op
  have lt_b4 := x_b4.lt
  have lt_b5 := x_b5.lt
  have lt_b6 := x_b6.lt
  obtain ⟨p_b7, w_26, eP, eW, x_b7, hn, kb_b7⟩ := newBox w_25 #[.bool false, .slice none 0 0] 24 hb.size
  have ne_b4_b7 : Hid (p_b4 ≠ p_b7) := Nat.ne_of_lt (eP ▸ lt_b4)
  have ne_b5_b7 : Hid (p_b5 ≠ p_b7) := Nat.ne_of_lt (eP ▸ lt_b5)
  have ne_b6_b7 : Hid (p_b6 ≠ p_b7) := Nat.ne_of_lt (eP ▸ lt_b6)
  rw [eW, eP]
  clear eW eP lt_b4 lt_b5 lt_b6
  replace g11 := g11.bl hn; replace g12 := g12.bl hn; replace x_b4 := x_b4.bl hn; replace g4 := g4.bl hn; replace x_b5 := x_b5.bl hn; replace x_b6 := x_b6.bl hn; replace g5 := g5.bl hn; replace g6 := g6.bl hn; replace hb := hb.trans (hn.mono hb.size)
  refine hK _ _ rfl ?_; clear hK K hn
  refine wpSq_call rfl (by kernel_rfl) fun K hK => ?_
  obtain ⟨d0, d1⟩ := x_b7.f2
  have f0 := x_b7.free 0; have f1 := x_b7.free 1
  go_big_op
  have hnd := x_b7.nod rfl rfl
  obtain ⟨w_27, eW, x_b7', ho⟩ : ∃ w', ((w_26.setCell ⟨p_b7, 0, none⟩ (.bool n_g1b)).setCell ⟨p_b7, 1, none⟩ (.slice o_g1b k_g1b c_g1b)) = w' ∧ Bs w' p_b7 #[.bool n_g1b, .slice o_g1b k_g1b c_g1b] 24 ∧ Only p_b7 w_26 w' := x_b7.setN [(0, .bool n_g1b), (1, .slice o_g1b k_g1b c_g1b)]
  rw [eW]; clear eW d0 d1 f0 f1 x_b7
  have x_b7 := x_b7'; clear x_b7'
  clear x_b6
  replace g11 := g11.fr hnd ho; replace g12 := g12.fr hnd ho; replace x_b4 := x_b4.frame ho ne_b4_b7; replace g4 := g4.fr hnd ho; replace x_b5 := x_b5.frame ho ne_b5_b7; replace g5 := g5.fr hnd ho; replace g6 := g6.fr hnd ho; replace hb := belowOnly hb ho kb_b7
  refine hK _ _ rfl ?_; clear hK K ho hnd
  apply wpSq_end
  refine hK14 _ _ ?_
  refine wp_seq_k ?_
  intro K15 hK15
  refine wp_region_fl2 [(0, false), (1, false), (4, false), (2, true), (3, true), (5, true), (6, false)] [] [] (fun _ => default) [0, 0, 99, 99, 1, 99, 99] [] (fun w' => w'.cell? ⟨p_b7, 0, none⟩ = some (.bool n_g1b) ∧ w'.cell? ⟨p_b7, 1, none⟩ = some (.slice o_g1b k_g1b c_g1b) ∧ w'.cell? ⟨p_b4, 0, none⟩ = some (.bool n_g4) ∧ w'.cell? ⟨p_b4, 1, none⟩ = some (.slice o_g4 k_g4 c_g4)) [fun w' => w'.cell? ⟨p_b7, 0, none⟩ = some (.bool n_g1b) ∧ w'.cell? ⟨p_b7, 1, none⟩ = some (.slice o_g1b k_g1b c_g1b), fun w' => w'.cell? ⟨p_b4, 0, none⟩ = some (.bool n_g4) ∧ w'.cell? ⟨p_b4, 1, none⟩ = some (.slice o_g4 k_g4 c_g4)] (by kernel_rfl) (by kernel_rfl) (by kernel_rfl) (by kernel_rfl) (by kernel_rfl) (by kernel_rfl) (by kernel_rfl) (by kernel_rfl) (by decide) (by intro j hj; cases hj) (by intro w' o hC; obtain ⟨c0, c1, c2, c3⟩ := hC; exact ⟨cell_alloc c0 o, cell_alloc c1 o, cell_alloc c2 o, cell_alloc c3 o⟩) (by intro w' hC G hG; obtain ⟨c0, c1, c2, c3⟩ := hC; simp only [List.mem_cons, List.not_mem_nil, or_false] at hG; rcases hG with rfl | rfl <;> first | exact ⟨c0, c1⟩ | exact ⟨c2, c3⟩) ?_
  have lt_b4 := x_b4.lt
  have lt_b5 := x_b5.lt
  have lt_b7 := x_b7.lt
  intro w_28 hn
  replace lt_b4 := Nat.lt_of_lt_of_le lt_b4 hn.size
  replace lt_b5 := Nat.lt_of_lt_of_le lt_b5 hn.size
  replace lt_b7 := Nat.lt_of_lt_of_le lt_b7 hn.size
  replace g11 := g11.bl hn; replace g12 := g12.bl hn; replace x_b4 := x_b4.bl hn; replace g4 := g4.bl hn; replace x_b5 := x_b5.bl hn; replace g5 := g5.bl hn; replace g6 := g6.bl hn; replace x_b7 := x_b7.bl hn; replace hb := hb.trans (hn.mono hb.size)
  clear hn
  have kb0 := hb.size
  refine ⟨⟨x_b7.cell 0 rfl, x_b7.cell 1 rfl, x_b4.cell 0 rfl, x_b4.cell 1 rfl⟩, ?_⟩
  apply wpFl_ld rfl rfl; (case h1 => intro w' hC K hK; obtain ⟨c0, c1⟩ := hC; go_big_op; exact hK); iterate 4 kernel_rfl
  apply wpFl_ld rfl rfl; (case h1 => intro w' hC K hK; obtain ⟨c0, c1⟩ := hC; go_big_op; exact hK); iterate 4 kernel_rfl
  apply wpFl_ld rfl rfl; (case h1 => intro w' hC K hK; obtain ⟨c0, c1⟩ := hC; go_big_op; exact hK); iterate 4 kernel_rfl
  refine wpFl_call rfl (by kernel_rfl) fun w_29 hn hC => ?_; clear hC
  replace g11 := g11.bl hn; replace g12 := g12.bl hn; replace x_b4 := x_b4.bl hn; replace g4 := g4.bl hn; replace x_b5 := x_b5.bl hn; replace g5 := g5.bl hn; replace g6 := g6.bl hn; replace x_b7 := x_b7.bl hn; replace hb := hb.trans (hn.mono hb.size)
  clear hn; intro K hK
  go_big_op
  go_fit (zadd_any (g12.zn Lg12.out) (g12.zn Lg12.out) (by omega) (by omega) )
  rintro e w_30 ⟨v_g7, rfl, g7, hb_30⟩
  replace g11 := g11.bl hb_30; replace g12 := g12.bl hb_30; replace x_b4 := x_b4.bl hb_30; replace g4 := g4.bl hb_30; replace x_b5 := x_b5.bl hb_30; replace g5 := g5.bl hb_30; replace g6 := g6.bl hb_30; replace x_b7 := x_b7.bl hb_30; replace hb := hb.trans (hb_30.mono hb.size)
  replace g7 := g7.rd
  obtain ⟨n_g7, o_g7, k_g7, c_g7, rfl⟩ := g7.open2
  have Lg7 := hide (g7.lenOf (zlen_add (Lg12.out) (Lg12.out)))
  refine hK _ _ rfl hb_30 ⟨x_b7.cell 0 rfl, x_b7.cell 1 rfl, x_b4.cell 0 rfl, x_b4.cell 1 rfl⟩ ?_
  clear hK K hb_30
  refine wpFl_call rfl (by kernel_rfl) fun w_31 hn hC => ?_; clear hC
  clear g5
  replace g11 := g11.bl hn; replace g12 := g12.bl hn; replace x_b4 := x_b4.bl hn; replace g4 := g4.bl hn; replace x_b5 := x_b5.bl hn; replace g6 := g6.bl hn; replace x_b7 := x_b7.bl hn; replace g7 := g7.bl hn; replace hb := hb.trans (hn.mono hb.size)
  clear hn; intro K hK
  go_big_op
  go_fit (zabs_any (g7.zn Lg7.out) (by omega) )
  rintro e w_32 ⟨v_g8, rfl, g8, hb_32⟩
  replace g11 := g11.bl hb_32; replace g12 := g12.bl hb_32; replace x_b4 := x_b4.bl hb_32; replace g4 := g4.bl hb_32; replace x_b5 := x_b5.bl hb_32; replace g6 := g6.bl hb_32; replace x_b7 := x_b7.bl hb_32; replace g7 := g7.bl hb_32; replace hb := hb.trans (hb_32.mono hb.size)
  replace g8 := g8.rd
  obtain ⟨n_g8, o_g8, k_g8, c_g8, rfl⟩ := g8.open2
  have Lg8 := hide (g8.lenOf (zlen_abs (Lg7.out)))
  refine hK _ _ rfl hb_32 ⟨x_b7.cell 0 rfl, x_b7.cell 1 rfl, x_b4.cell 0 rfl, x_b4.cell 1 rfl⟩ ?_
  clear hK K hb_32
  refine wpFl_call rfl (by kernel_rfl) fun w_33 hn hC => ?_; clear hC
  clear g6
  replace g11 := g11.bl hn; replace g12 := g12.bl hn; replace x_b4 := x_b4.bl hn; replace g4 := g4.bl hn; replace x_b5 := x_b5.bl hn; replace x_b7 := x_b7.bl hn; replace g7 := g7.bl hn; replace g8 := g8.bl hn; replace hb := hb.trans (hn.mono hb.size)
  clear hn; intro K hK
  go_big_op
  go_fit (zcmp_any (g8.zn Lg8.out) (g4.zn Lg4.out) (by omega) (by omega) )
  rintro e w_34 ⟨rfl, hb_34⟩
  replace g11 := g11.bl hb_34; replace g12 := g12.bl hb_34; replace x_b4 := x_b4.bl hb_34; replace g4 := g4.bl hb_34; replace x_b5 := x_b5.bl hb_34; replace x_b7 := x_b7.bl hb_34; replace g7 := g7.bl hb_34; replace g8 := g8.bl hb_34; replace hb := hb.trans (hb_34.mono hb.size)
  rw [HC2.out]
  refine hK _ _ rfl hb_34 ⟨x_b7.cell 0 rfl, x_b7.cell 1 rfl, x_b4.cell 0 rfl, x_b4.cell 1 rfl⟩ ?_
  clear hK K hb_34
  apply wpFl_ld rfl rfl; (case h1 => intro w' hC K hK; go_big_op; exact hK); iterate 4 kernel_rfl
  apply wpFl_end
  case ha => intro pt; simp only [putF]; rfl
  case h =>
  intro w_35 pt hn hC hF hD
  clear hC
  replace g11 := g11.bl hn; replace g12 := g12.bl hn; replace x_b4 := x_b4.bl hn; replace g4 := g4.bl hn; replace x_b5 := x_b5.bl hn; replace x_b7 := x_b7.bl hn; replace g7 := g7.bl hn; replace g8 := g8.bl hn; replace hb := hb.trans (hn.mono hb.size)
  clear hn
  clear hF hD
  clear pt
  clear kb0 lt_b4 lt_b5 lt_b7
  apply wpTail_end
  refine hK15 _ _ ?_
  refine wp_cond_false (congrArg Value.bool (show _ = false from (by first | rfl | assumption | (simp; done) | exact decide_eq_false (by omega) | omega))) ?_
  refine wp_skip ?_
  refine hK13 _ _ ?_
  refine wp_region_sq [0, 1] (by kernel_rfl) ?_
  refine wpSq_call rfl (by kernel_rfl) fun K hK => ?_
  go_big_op; refine hK _ _ rfl ?_; clear hK K
  refine wpSq_call rfl (by kernel_rfl) fun K hK => ?_
  go_big_move; refine hK _ _ rfl ?_; clear hK K
  apply wpSq_end
  show Code.wp _ _ _ _ _
  refine wp_seq_k ?_
  intro K16 hK16
  refine wp_region_sq [0] (by kernel_rfl) ?_
  refine wpSq_call rfl (by kernel_rfl) fun K hK => ?_
  go_big_op; refine hK _ _ rfl ?_; clear hK K
  apply wpSq_end
  refine hK16 _ _ ?_
  refine wp_seq_k ?_
  intro K17 hK17
  refine wp_cond_false (congrArg Value.bool (show _ = false from (by first | rfl | assumption | (simp; done) | exact decide_eq_false (by omega) | omega))) ?_
  refine wp_exit ?_
  refine hK4 _ _ ?_
  refine wp_seq_k ?_
  intro K18 hK18
  refine wp_region_sq [0] (by kernel_rfl) ?_
  refine wpSq_call rfl (by kernel_rfl) fun K hK => ?_
  go_big_move; refine hK _ _ rfl ?_; clear hK K
  apply wpSq_end
  refine hK18 _ _ ?_
  refine wp_ret ?_
  try dsimp only [Exit.then, Exit.inBlock]
  refine bodyPost_ret (v := (.bool true)) (by simp [results, Tryd.results115, go_sem]) rfl ?_
  exact ⟨rfl, hb⟩
set_option maxHeartbeats 4000000 in
set_option maxRecDepth 20000 in
theorem far_no1 (ha : PN w va x l y m) (hq : PN w vb u k v n) (hl : l ≤ 20000000) (hm : m ≤ 20000000) (hk : k ≤ 20000000) (hn : n ≤ 20000000) (h1 : ¬ ((gT1 x y u v + gT1 x y u v).natAbs : Int) < gN u v - tp (gN u v) 1) :
    Calls Tryd.prog 115 #[va, vb] w fun e w' => e = .returned (.bool false) ∧ Below w.heap.size w w' := by
  have hg1 := zcmp_ge (Int.not_lt.1 h1)
  obtain ⟨C1, hC1⟩ : ∃ C, zcmp ((gT1 x y u v + gT1 x y u v).natAbs : Int) (gN u v - tp (gN u v) 1) = C := ⟨_, rfl⟩
  rw [hC1] at hg1
  have HC1 := hide hC1
  have hgt1 : (0 ≤ C1) = True := eq_true hg1
  clear hC1
  clear h1
  obtain ⟨n_0a, o_0a, k_0a, c_0a, n_0b, o_0b, k_0b, c_0b, rfl, ha1, ha2⟩ := ha
  obtain ⟨n_1a, o_1a, k_1a, c_1a, n_1b, o_1b, k_1b, c_1b, rfl, hq1, hq2⟩ := hq
  go_enter Tryd.func115, Tryd.ntmps115
  have hb := Below.refl w.heap.size w
  refine wp_seq_k ?_
  intro K1 hK1
  refine wp_region_sq [0, 1, 2] (by kernel_rfl) ?_
  refine wpSq_call rfl (by kernel_rfl) fun K hK => ?_
  go_big_op
  obtain ⟨p_b1, w_1, eP, eW, x_b1, hn, kb_b1⟩ := newBox w #[.bool n_0a, .slice o_0a k_0a c_0a, .bool n_0b, .slice o_0b k_0b c_0b] 26 hb.size
  rw [eW, eP]
  clear eW eP
  replace ha1 := ha1.bl hn; replace ha2 := ha2.bl hn; replace hq1 := hq1.bl hn; replace hq2 := hq2.bl hn; replace hb := hb.trans (hn.mono hb.size)
  refine hK _ _ rfl ?_; clear hK K hn
  refine wpSq_call rfl (by kernel_rfl) fun K hK => ?_
  go_big_op
  have lt_b1 := x_b1.lt
  obtain ⟨p_b2, w_2, eP, eW, x_b2, hn, kb_b2⟩ := newBox w_1 #[.bool n_1a, .slice o_1a k_1a c_1a, .bool n_1b, .slice o_1b k_1b c_1b] 26 hb.size
  have ne_b1_b2 : Hid (p_b1 ≠ p_b2) := Nat.ne_of_lt (eP ▸ lt_b1)
  rw [eW, eP]
  clear eW eP lt_b1
  replace ha1 := ha1.bl hn; replace ha2 := ha2.bl hn; replace hq1 := hq1.bl hn; replace hq2 := hq2.bl hn; replace x_b1 := x_b1.bl hn; replace hb := hb.trans (hn.mono hb.size)
  refine hK _ _ rfl ?_; clear hK K hn
  refine wpSq_call rfl (by kernel_rfl) fun K hK => ?_
  go_big_move; refine hK _ _ rfl ?_; clear hK K
  apply wpSq_end
  refine hK1 _ _ ?_
  refine wp_seq_k ?_
  intro K2 hK2
  refine wp_region_sq [0, 1, 2, 3, 4, 5, 6, 7, 8, 9] (by kernel_rfl) ?_
  refine wpSq_call rfl (by kernel_rfl) fun K hK => ?_
  obtain ⟨d0, d1, d2, d3⟩ := x_b1.f4
  go_big_op; refine hK _ _ rfl ?_; clear hK K d0 d1 d2 d3
  refine wpSq_call rfl (by kernel_rfl) fun K hK => ?_
  obtain ⟨d0, d1, d2, d3⟩ := x_b2.f4
  go_big_op; refine hK _ _ rfl ?_; clear hK K d0 d1 d2 d3
  refine wpSq_call rfl (by kernel_rfl) fun K hK => ?_
  go_big_op
  go_fit (overNorm_any (PN.mk' ha1 ha2) (PN.mk' hq1 hq2) (by omega) (by omega) (by omega) (by omega) )
  rintro e w_3 ⟨_, v_g2, rfl, ⟨n_g1a, o_g1a, k_g1a, c_g1a, n_g1b, o_g1b, k_g1b, c_g1b, rfl, g11, g12⟩, g2, hb_3⟩
  clear x_b1 x_b2
  replace ha1 := ha1.bl hb_3; replace ha2 := ha2.bl hb_3; replace hq1 := hq1.bl hb_3; replace hq2 := hq2.bl hb_3; replace hb := hb.trans (hb_3.mono hb.size)
  obtain ⟨n_g2, o_g2, k_g2, c_g2, rfl⟩ := g2.open2
  have Lg11 := hide (g11.lenOf (zlen_gT1 (ha1.len) (ha2.len) (hq1.len) (hq2.len)))
  have Lg12 := hide (g12.lenOf (zlen_gT2 (ha1.len) (ha2.len) (hq1.len) (hq2.len)))
  have Lg2 := hide (g2.lenOf (zlen_gN (hq1.len) (hq2.len)))
  refine hK _ _ rfl ?_
  clear hK K hb_3
  refine wpSq_call rfl (by kernel_rfl) fun K hK => ?_
  go_big_move; refine hK _ _ rfl ?_; clear hK K
  refine wpSq_call rfl (by kernel_rfl) fun K hK => ?_
  go_big_op; refine hK _ _ rfl ?_; clear hK K
  refine wpSq_call rfl (by kernel_rfl) fun K hK => ?_
  go_big_op; refine hK _ _ rfl ?_; clear hK K
  refine wpSq_call rfl (by kernel_rfl) fun K hK => ?_
  go_big_op
  clear ha1 ha2 hq1 hq2
  obtain ⟨p_b3, w_4, eP, eW, x_b3, hn, kb_b3⟩ := newBox w_3 #[.bool false, .slice none 0 0, .bool false, .slice none 0 0] 26 hb.size
  rw [eW, eP]
  clear eW eP
  replace g11 := g11.bl hn; replace g12 := g12.bl hn; replace g2 := g2.bl hn; replace hb := hb.trans (hn.mono hb.size)
  refine hK _ _ rfl ?_; clear hK K hn
  refine wpSq_call rfl (by kernel_rfl) fun K hK => ?_
  go_big_op
  have lt_b3 := x_b3.lt
  obtain ⟨p_b4, w_5, eP, eW, x_b4, hn, kb_b4⟩ := newBox w_4 #[.bool false, .slice none 0 0] 24 hb.size
  have ne_b3_b4 : Hid (p_b3 ≠ p_b4) := Nat.ne_of_lt (eP ▸ lt_b3)
  rw [eW, eP]
  clear eW eP lt_b3
  replace g11 := g11.bl hn; replace g12 := g12.bl hn; replace g2 := g2.bl hn; replace x_b3 := x_b3.bl hn; replace hb := hb.trans (hn.mono hb.size)
  refine hK _ _ rfl ?_; clear hK K hn
  refine wpSq_call rfl (by kernel_rfl) fun K hK => ?_
  obtain ⟨d0, d1, d2, d3⟩ := x_b3.f4
  have f0 := x_b3.free 0; have f1 := x_b3.free 1; have f2 := x_b3.free 2; have f3 := x_b3.free 3
  go_big_op
  have hnd := x_b3.nod rfl rfl
  obtain ⟨w_6, eW, x_b3', ho⟩ : ∃ w', ((((w_5.setCell ⟨p_b3, 0, none⟩ (.bool n_g1a)).setCell ⟨p_b3, 1, none⟩ (.slice o_g1a k_g1a c_g1a)).setCell ⟨p_b3, 2, none⟩ (.bool n_g1b)).setCell ⟨p_b3, 3, none⟩ (.slice o_g1b k_g1b c_g1b)) = w' ∧ Bs w' p_b3 #[.bool n_g1a, .slice o_g1a k_g1a c_g1a, .bool n_g1b, .slice o_g1b k_g1b c_g1b] 26 ∧ Only p_b3 w_5 w' := x_b3.setN [(0, .bool n_g1a), (1, .slice o_g1a k_g1a c_g1a), (2, .bool n_g1b), (3, .slice o_g1b k_g1b c_g1b)]
  rw [eW]; clear eW d0 d1 d2 d3 f0 f1 f2 f3 x_b3
  have x_b3 := x_b3'; clear x_b3'
  replace g11 := g11.fr hnd ho; replace g12 := g12.fr hnd ho; replace g2 := g2.fr hnd ho; replace x_b4 := x_b4.frame ho ne_b3_b4.symm; replace hb := belowOnly hb ho kb_b3
  refine hK _ _ rfl ?_; clear hK K ho hnd
  refine wpSq_call rfl (by kernel_rfl) fun K hK => ?_
  obtain ⟨d0, d1⟩ := x_b4.f2
  have f0 := x_b4.free 0; have f1 := x_b4.free 1
  go_big_op
  have hnd := x_b4.nod rfl rfl
  obtain ⟨w_7, eW, x_b4', ho⟩ : ∃ w', ((w_6.setCell ⟨p_b4, 0, none⟩ (.bool n_g2)).setCell ⟨p_b4, 1, none⟩ (.slice o_g2 k_g2 c_g2)) = w' ∧ Bs w' p_b4 #[.bool n_g2, .slice o_g2 k_g2 c_g2] 24 ∧ Only p_b4 w_6 w' := x_b4.setN [(0, .bool n_g2), (1, .slice o_g2 k_g2 c_g2)]
  rw [eW]; clear eW d0 d1 f0 f1 x_b4
  have x_b4 := x_b4'; clear x_b4'
  replace g11 := g11.fr hnd ho; replace g12 := g12.fr hnd ho; replace g2 := g2.fr hnd ho; replace x_b3 := x_b3.frame ho ne_b3_b4; replace hb := belowOnly hb ho kb_b4
  refine hK _ _ rfl ?_; clear hK K ho hnd
  apply wpSq_end
  refine hK2 _ _ ?_
  refine wp_seq_k ?_
  intro K3 hK3
  refine wp_region_fl2 [(0, false), (1, false), (2, true), (3, true)] [4] [] (fun _ => default) [0, 0, 99, 99, 99] [(4, 0)] (fun w' => w'.cell? ⟨p_b4, 0, none⟩ = some (.bool n_g2) ∧ w'.cell? ⟨p_b4, 1, none⟩ = some (.slice o_g2 k_g2 c_g2)) [fun w' => w'.cell? ⟨p_b4, 0, none⟩ = some (.bool n_g2) ∧ w'.cell? ⟨p_b4, 1, none⟩ = some (.slice o_g2 k_g2 c_g2)] (by kernel_rfl) (by kernel_rfl) (by kernel_rfl) (by kernel_rfl) (by kernel_rfl) (by kernel_rfl) (by kernel_rfl) (by kernel_rfl) (by decide) (by intro j hj; cases hj) (by intro w' o hC; obtain ⟨c0, c1⟩ := hC; exact ⟨cell_alloc c0 o, cell_alloc c1 o⟩) (by intro w' hC G hG; obtain ⟨c0, c1⟩ := hC; simp only [List.mem_cons, List.not_mem_nil, or_false] at hG; rcases hG with rfl <;> first | exact ⟨c0, c1⟩) ?_
  have lt_b3 := x_b3.lt
  have lt_b4 := x_b4.lt
  intro w_8 hn
  replace lt_b3 := Nat.lt_of_lt_of_le lt_b3 hn.size
  replace lt_b4 := Nat.lt_of_lt_of_le lt_b4 hn.size
  replace g11 := g11.bl hn; replace g12 := g12.bl hn; replace g2 := g2.bl hn; replace x_b3 := x_b3.bl hn; replace x_b4 := x_b4.bl hn; replace hb := hb.trans (hn.mono hb.size)
  clear hn
  have kb0 := hb.size
  refine ⟨⟨x_b4.cell 0 rfl, x_b4.cell 1 rfl⟩, ?_⟩
  apply wpFl_ld rfl rfl; (case h1 => intro w' hC K hK; obtain ⟨c0, c1⟩ := hC; go_big_op; exact hK); iterate 4 kernel_rfl
  apply wpFl_ld rfl rfl; (case h1 => intro w' hC K hK; obtain ⟨c0, c1⟩ := hC; go_big_op; exact hK); iterate 4 kernel_rfl
  refine wpFl_call rfl (by kernel_rfl) fun w_9 hn hC => ?_; clear hC
  replace g11 := g11.bl hn; replace g12 := g12.bl hn; replace g2 := g2.bl hn; replace x_b3 := x_b3.bl hn; replace x_b4 := x_b4.bl hn; replace hb := hb.trans (hn.mono hb.size)
  clear hn; intro K hK
  go_big_op
  go_fit (topOf_any 1 (g2.zn Lg2.out) (by omega) (by decide))
  rintro e w_10 ⟨v_g3, rfl, g3, hb_10⟩
  replace g11 := g11.bl hb_10; replace g12 := g12.bl hb_10; replace g2 := g2.bl hb_10; replace x_b3 := x_b3.bl hb_10; replace x_b4 := x_b4.bl hb_10; replace hb := hb.trans (hb_10.mono hb.size)
  obtain ⟨n_g3, o_g3, k_g3, c_g3, rfl⟩ := g3.open2
  refine hK _ _ rfl hb_10 ⟨x_b4.cell 0 rfl, x_b4.cell 1 rfl⟩ ?_
  clear hK K hb_10
  refine wpFl_call rfl (by kernel_rfl) fun w_11 hn hC => ?_; clear hC
  replace g11 := g11.bl hn; replace g12 := g12.bl hn; replace g2 := g2.bl hn; replace x_b3 := x_b3.bl hn; replace x_b4 := x_b4.bl hn; replace g3 := g3.bl hn; replace hb := hb.trans (hn.mono hb.size)
  clear hn; intro K hK
  go_big_op
  go_fit (zsub_any (g2.zn Lg2.out) g3 (by omega) (by omega) )
  rintro e w_12 ⟨v_g4, rfl, g4, hb_12⟩
  replace g11 := g11.bl hb_12; replace g12 := g12.bl hb_12; replace g2 := g2.bl hb_12; replace x_b3 := x_b3.bl hb_12; replace x_b4 := x_b4.bl hb_12; replace g3 := g3.bl hb_12; replace hb := hb.trans (hb_12.mono hb.size)
  replace g4 := g4.rd
  obtain ⟨n_g4, o_g4, k_g4, c_g4, rfl⟩ := g4.open2
  have Lg4 := hide (g4.lenOf (zlen_sub (Lg2.out) (g3.len)))
  refine hK _ _ rfl hb_12 ⟨x_b4.cell 0 rfl, x_b4.cell 1 rfl⟩ ?_
  clear hK K hb_12
  apply wpFl_end
  case ha => intro pt; simp only [putF]; rfl
  case h =>
  intro w_13 pt hn hC hF hD
  clear hC
  clear g3
  replace g11 := g11.bl hn; replace g12 := g12.bl hn; replace g2 := g2.bl hn; replace x_b3 := x_b3.bl hn; replace x_b4 := x_b4.bl hn; replace g4 := g4.bl hn; replace hb := hb.trans (hn.mono hb.size)
  clear hn
  clear hF hD
  clear pt
  clear kb0 lt_b3 lt_b4
  refine wpTail_call rfl (by kernel_rfl) fun K hK => ?_
  obtain ⟨d0, d1⟩ := x_b4.f2
  have f0 := x_b4.free 0; have f1 := x_b4.free 1
  go_big_op
  have hnd := x_b4.nod rfl rfl
  obtain ⟨w_14, eW, x_b4', ho⟩ : ∃ w', ((w_13.setCell ⟨p_b4, 0, none⟩ (.bool n_g4)).setCell ⟨p_b4, 1, none⟩ (.slice o_g4 k_g4 c_g4)) = w' ∧ Bs w' p_b4 #[.bool n_g4, .slice o_g4 k_g4 c_g4] 24 ∧ Only p_b4 w_13 w' := x_b4.setN [(0, .bool n_g4), (1, .slice o_g4 k_g4 c_g4)]
  rw [eW]; clear eW d0 d1 f0 f1 x_b4
  have x_b4 := x_b4'; clear x_b4'
  clear g2
  replace g11 := g11.fr hnd ho; replace g12 := g12.fr hnd ho; replace x_b3 := x_b3.frame ho ne_b3_b4; replace g4 := g4.fr hnd ho; replace hb := belowOnly hb ho kb_b4
  refine hK _ _ rfl (And.intro True.intro True.intro) ?_; clear hK K ho hnd
  apply wpTail_end
  refine hK3 _ _ ?_
  refine wp_seq_k ?_
  intro K4 hK4
  refine wp_seq_k ?_
  intro K5 hK5
  refine wp_region_sq [0, 1, 2, 3, 4, 5, 6] (by kernel_rfl) ?_
  refine wpSq_call rfl (by kernel_rfl) fun K hK => ?_
  go_big_op; refine hK _ _ rfl ?_; clear hK K
  refine wpSq_call rfl (by kernel_rfl) fun K hK => ?_
  obtain ⟨d0, d1, d2, d3⟩ := x_b3.f4
  go_big_op; refine hK _ _ rfl ?_; clear hK K d0 d1 d2 d3
  refine wpSq_call rfl (by kernel_rfl) fun K hK => ?_
  go_big_op; refine hK _ _ rfl ?_; clear hK K
  refine wpSq_call rfl (by kernel_rfl) fun K hK => ?_
  obtain ⟨d0, d1, d2, d3⟩ := x_b3.f4
  go_big_op; refine hK _ _ rfl ?_; clear hK K d0 d1 d2 d3
  refine wpSq_call rfl (by kernel_rfl) fun K hK => ?_
  go_big_op
  clear x_b3
  have lt_b4 := x_b4.lt
  obtain ⟨p_b5, w_15, eP, eW, x_b5, hn, kb_b5⟩ := newBox w_14 #[.bool n_g1a, .slice o_g1a k_g1a c_g1a, .bool n_g1b, .slice o_g1b k_g1b c_g1b] 24 hb.size
  have ne_b4_b5 : Hid (p_b4 ≠ p_b5) := Nat.ne_of_lt (eP ▸ lt_b4)
  rw [eW, eP]
  clear eW eP lt_b4
  replace g11 := g11.bl hn; replace g12 := g12.bl hn; replace x_b4 := x_b4.bl hn; replace g4 := g4.bl hn; replace hb := hb.trans (hn.mono hb.size)
  refine hK _ _ rfl ?_; clear hK K hn
  refine wpSq_call rfl (by kernel_rfl) fun K hK => ?_
  go_big_op; refine hK _ _ rfl ?_; clear hK K
  refine wpSq_call rfl (by kernel_rfl) fun K hK => ?_
  go_big_move; refine hK _ _ rfl ?_; clear hK K
  apply wpSq_end
  refine hK5 _ _ ?_
  refine wp_block ?_
  refine wp_loop_rounds 3 ?_
  show Code.wp _ _ _ _ _
  refine wp_seq_k ?_
  intro K6 hK6
  refine wp_region_sq [0] (by kernel_rfl) ?_
  refine wpSq_call rfl (by kernel_rfl) fun K hK => ?_
  go_big_op; refine hK _ _ rfl ?_; clear hK K
  apply wpSq_end
  refine hK6 _ _ ?_
  refine wp_seq_k ?_
  intro K7 hK7
  refine wp_cond_true (congrArg Value.bool (show _ = true from (by first | rfl | assumption | (simp; done) | exact decide_eq_true (by omega) | omega))) ?_
  refine wp_skip ?_
  refine hK7 _ _ ?_
  refine wp_seq_k ?_
  intro K8 hK8
  refine wp_block ?_
  refine wp_seq_k ?_
  intro K9 hK9
  refine wp_region_sq [0, 1, 2, 3] (by kernel_rfl) ?_
  refine wpSq_call rfl (by kernel_rfl) fun K hK => ?_
  go_big_op; refine hK _ _ rfl ?_; clear hK K
  refine wpSq_call rfl (by kernel_rfl) fun K hK => ?_
  obtain ⟨d0, d1, d2, d3⟩ := x_b5.f4
  go_big_op; refine hK _ _ rfl ?_; clear hK K d0 d1 d2 d3
  refine wpSq_call rfl (by kernel_rfl) fun K hK => ?_
  go_big_op
  have lt_b4 := x_b4.lt
  have lt_b5 := x_b5.lt
  obtain ⟨p_b6, w_16, eP, eW, x_b6, hn, kb_b6⟩ := newBox w_15 #[.bool false, .slice none 0 0] 24 hb.size
  have ne_b4_b6 : Hid (p_b4 ≠ p_b6) := Nat.ne_of_lt (eP ▸ lt_b4)
  have ne_b5_b6 : Hid (p_b5 ≠ p_b6) := Nat.ne_of_lt (eP ▸ lt_b5)
  rw [eW, eP]
  clear eW eP lt_b4 lt_b5
  replace g11 := g11.bl hn; replace g12 := g12.bl hn; replace x_b4 := x_b4.bl hn; replace g4 := g4.bl hn; replace x_b5 := x_b5.bl hn; replace hb := hb.trans (hn.mono hb.size)
  refine hK _ _ rfl ?_; clear hK K hn
  refine wpSq_call rfl (by kernel_rfl) fun K hK => ?_
  obtain ⟨d0, d1⟩ := x_b6.f2
  have f0 := x_b6.free 0; have f1 := x_b6.free 1
  go_big_op
  have hnd := x_b6.nod rfl rfl
  obtain ⟨w_17, eW, x_b6', ho⟩ : ∃ w', ((w_16.setCell ⟨p_b6, 0, none⟩ (.bool n_g1a)).setCell ⟨p_b6, 1, none⟩ (.slice o_g1a k_g1a c_g1a)) = w' ∧ Bs w' p_b6 #[.bool n_g1a, .slice o_g1a k_g1a c_g1a] 24 ∧ Only p_b6 w_16 w' := x_b6.setN [(0, .bool n_g1a), (1, .slice o_g1a k_g1a c_g1a)]
  rw [eW]; clear eW d0 d1 f0 f1 x_b6
  have x_b6 := x_b6'; clear x_b6'
  replace g11 := g11.fr hnd ho; replace g12 := g12.fr hnd ho; replace x_b4 := x_b4.frame ho ne_b4_b6; replace g4 := g4.fr hnd ho; replace x_b5 := x_b5.frame ho ne_b5_b6; replace hb := belowOnly hb ho kb_b6
  refine hK _ _ rfl ?_; clear hK K ho hnd
  apply wpSq_end
  refine hK9 _ _ ?_
  refine wp_seq_k ?_
  intro K10 hK10
  refine wp_region_fl2 [(0, false), (1, false), (4, false), (2, true), (3, true), (5, true), (6, false)] [] [] (fun _ => default) [0, 0, 99, 99, 1, 99, 99] [] (fun w' => w'.cell? ⟨p_b6, 0, none⟩ = some (.bool n_g1a) ∧ w'.cell? ⟨p_b6, 1, none⟩ = some (.slice o_g1a k_g1a c_g1a) ∧ w'.cell? ⟨p_b4, 0, none⟩ = some (.bool n_g4) ∧ w'.cell? ⟨p_b4, 1, none⟩ = some (.slice o_g4 k_g4 c_g4)) [fun w' => w'.cell? ⟨p_b6, 0, none⟩ = some (.bool n_g1a) ∧ w'.cell? ⟨p_b6, 1, none⟩ = some (.slice o_g1a k_g1a c_g1a), fun w' => w'.cell? ⟨p_b4, 0, none⟩ = some (.bool n_g4) ∧ w'.cell? ⟨p_b4, 1, none⟩ = some (.slice o_g4 k_g4 c_g4)] (by kernel_rfl) (by kernel_rfl) (by kernel_rfl) (by kernel_rfl) (by kernel_rfl) (by kernel_rfl) (by kernel_rfl) (by kernel_rfl) (by decide) (by intro j hj; cases hj) (by intro w' o hC; obtain ⟨c0, c1, c2, c3⟩ := hC; exact ⟨cell_alloc c0 o, cell_alloc c1 o, cell_alloc c2 o, cell_alloc c3 o⟩) (by intro w' hC G hG; obtain ⟨c0, c1, c2, c3⟩ := hC; simp only [List.mem_cons, List.not_mem_nil, or_false] at hG; rcases hG with rfl | rfl <;> first | exact ⟨c0, c1⟩ | exact ⟨c2, c3⟩) ?_
  have lt_b4 := x_b4.lt
  have lt_b5 := x_b5.lt
  have lt_b6 := x_b6.lt
  intro w_18 hn
  replace lt_b4 := Nat.lt_of_lt_of_le lt_b4 hn.size
  replace lt_b5 := Nat.lt_of_lt_of_le lt_b5 hn.size
  replace lt_b6 := Nat.lt_of_lt_of_le lt_b6 hn.size
  replace g11 := g11.bl hn; replace g12 := g12.bl hn; replace x_b4 := x_b4.bl hn; replace g4 := g4.bl hn; replace x_b5 := x_b5.bl hn; replace x_b6 := x_b6.bl hn; replace hb := hb.trans (hn.mono hb.size)
  clear hn
  have kb0 := hb.size
  refine ⟨⟨x_b6.cell 0 rfl, x_b6.cell 1 rfl, x_b4.cell 0 rfl, x_b4.cell 1 rfl⟩, ?_⟩
  apply wpFl_ld rfl rfl; (case h1 => intro w' hC K hK; obtain ⟨c0, c1⟩ := hC; go_big_op; exact hK); iterate 4 kernel_rfl
  apply wpFl_ld rfl rfl; (case h1 => intro w' hC K hK; obtain ⟨c0, c1⟩ := hC; go_big_op; exact hK); iterate 4 kernel_rfl
  apply wpFl_ld rfl rfl; (case h1 => intro w' hC K hK; obtain ⟨c0, c1⟩ := hC; go_big_op; exact hK); iterate 4 kernel_rfl
  refine wpFl_call rfl (by kernel_rfl) fun w_19 hn hC => ?_; clear hC
  replace g11 := g11.bl hn; replace g12 := g12.bl hn; replace x_b4 := x_b4.bl hn; replace g4 := g4.bl hn; replace x_b5 := x_b5.bl hn; replace x_b6 := x_b6.bl hn; replace hb := hb.trans (hn.mono hb.size)
  clear hn; intro K hK
  go_big_op
  go_fit (zadd_any (g11.zn Lg11.out) (g11.zn Lg11.out) (by omega) (by omega) )
  rintro e w_20 ⟨v_g5, rfl, g5, hb_20⟩
  replace g11 := g11.bl hb_20; replace g12 := g12.bl hb_20; replace x_b4 := x_b4.bl hb_20; replace g4 := g4.bl hb_20; replace x_b5 := x_b5.bl hb_20; replace x_b6 := x_b6.bl hb_20; replace hb := hb.trans (hb_20.mono hb.size)
  replace g5 := g5.rd
  obtain ⟨n_g5, o_g5, k_g5, c_g5, rfl⟩ := g5.open2
  have Lg5 := hide (g5.lenOf (zlen_add (Lg11.out) (Lg11.out)))
  refine hK _ _ rfl hb_20 ⟨x_b6.cell 0 rfl, x_b6.cell 1 rfl, x_b4.cell 0 rfl, x_b4.cell 1 rfl⟩ ?_
  clear hK K hb_20
  refine wpFl_call rfl (by kernel_rfl) fun w_21 hn hC => ?_; clear hC
  replace g11 := g11.bl hn; replace g12 := g12.bl hn; replace x_b4 := x_b4.bl hn; replace g4 := g4.bl hn; replace x_b5 := x_b5.bl hn; replace x_b6 := x_b6.bl hn; replace g5 := g5.bl hn; replace hb := hb.trans (hn.mono hb.size)
  clear hn; intro K hK
  go_big_op
  go_fit (zabs_any (g5.zn Lg5.out) (by omega) )
  rintro e w_22 ⟨v_g6, rfl, g6, hb_22⟩
  replace g11 := g11.bl hb_22; replace g12 := g12.bl hb_22; replace x_b4 := x_b4.bl hb_22; replace g4 := g4.bl hb_22; replace x_b5 := x_b5.bl hb_22; replace x_b6 := x_b6.bl hb_22; replace g5 := g5.bl hb_22; replace hb := hb.trans (hb_22.mono hb.size)
  replace g6 := g6.rd
  obtain ⟨n_g6, o_g6, k_g6, c_g6, rfl⟩ := g6.open2
  have Lg6 := hide (g6.lenOf (zlen_abs (Lg5.out)))
  refine hK _ _ rfl hb_22 ⟨x_b6.cell 0 rfl, x_b6.cell 1 rfl, x_b4.cell 0 rfl, x_b4.cell 1 rfl⟩ ?_
  clear hK K hb_22
  refine wpFl_call rfl (by kernel_rfl) fun w_23 hn hC => ?_; clear hC
  replace g11 := g11.bl hn; replace g12 := g12.bl hn; replace x_b4 := x_b4.bl hn; replace g4 := g4.bl hn; replace x_b5 := x_b5.bl hn; replace x_b6 := x_b6.bl hn; replace g5 := g5.bl hn; replace g6 := g6.bl hn; replace hb := hb.trans (hn.mono hb.size)
  clear hn; intro K hK
  go_big_op
  go_fit (zcmp_any (g6.zn Lg6.out) (g4.zn Lg4.out) (by omega) (by omega) )
  rintro e w_24 ⟨rfl, hb_24⟩
  replace g11 := g11.bl hb_24; replace g12 := g12.bl hb_24; replace x_b4 := x_b4.bl hb_24; replace g4 := g4.bl hb_24; replace x_b5 := x_b5.bl hb_24; replace x_b6 := x_b6.bl hb_24; replace g5 := g5.bl hb_24; replace g6 := g6.bl hb_24; replace hb := hb.trans (hb_24.mono hb.size)
  rw [HC1.out]
  refine hK _ _ rfl hb_24 ⟨x_b6.cell 0 rfl, x_b6.cell 1 rfl, x_b4.cell 0 rfl, x_b4.cell 1 rfl⟩ ?_
  clear hK K hb_24
  apply wpFl_ld rfl rfl; (case h1 => intro w' hC K hK; go_big_op; exact hK); iterate 4 kernel_rfl
  apply wpFl_end
  case ha => intro pt; simp only [putF]; rfl
  case h =>
  intro w_25 pt hn hC hF hD
  clear hC
  replace g11 := g11.bl hn; replace g12 := g12.bl hn; replace x_b4 := x_b4.bl hn; replace g4 := g4.bl hn; replace x_b5 := x_b5.bl hn; replace x_b6 := x_b6.bl hn; replace g5 := g5.bl hn; replace g6 := g6.bl hn; replace hb := hb.trans (hn.mono hb.size)
  clear hn
  clear hF hD
  clear pt
  clear kb0 lt_b4 lt_b5 lt_b6
  apply wpTail_end
  refine hK10 _ _ ?_
  refine wp_cond_true (congrArg Value.bool (show _ = true from (by first | rfl | assumption | (simp; done) | exact decide_eq_true (by omega) | omega))) ?_
  refine wp_seq_k ?_
  intro K11 hK11
  refine wp_region_sq [0] (by kernel_rfl) ?_
  refine wpSq_call rfl (by kernel_rfl) fun K hK => ?_
  go_big_move; refine hK _ _ rfl ?_; clear hK K
  apply wpSq_end
  refine hK11 _ _ ?_
  refine wp_ret ?_
  try dsimp only [Exit.then, Exit.inBlock]
  refine bodyPost_ret (v := (.bool false)) (by simp [results, Tryd.results115, go_sem]) rfl ?_
  exact ⟨rfl, hb⟩
set_option maxHeartbeats 4000000 in
set_option maxRecDepth 20000 in
theorem far_no2 (ha : PN w va x l y m) (hq : PN w vb u k v n) (hl : l ≤ 20000000) (hm : m ≤ 20000000) (hk : k ≤ 20000000) (hn : n ≤ 20000000) (h1 : ((gT1 x y u v + gT1 x y u v).natAbs : Int) < gN u v - tp (gN u v) 1) (h2 : ¬ ((gT2 x y u v + gT2 x y u v).natAbs : Int) < gN u v - tp (gN u v) 1) :
    Calls Tryd.prog 115 #[va, vb] w fun e w' => e = .returned (.bool false) ∧ Below w.heap.size w w' := by
  have HC1 := hide (zcmp_lt h1)
  have hg2 := zcmp_ge (Int.not_lt.1 h2)
  obtain ⟨C2, hC2⟩ : ∃ C, zcmp ((gT2 x y u v + gT2 x y u v).natAbs : Int) (gN u v - tp (gN u v) 1) = C := ⟨_, rfl⟩
  rw [hC2] at hg2
  have HC2 := hide hC2
  have hgt2 : (0 ≤ C2) = True := eq_true hg2
  clear hC2
  clear h1 h2
  obtain ⟨n_0a, o_0a, k_0a, c_0a, n_0b, o_0b, k_0b, c_0b, rfl, ha1, ha2⟩ := ha
  obtain ⟨n_1a, o_1a, k_1a, c_1a, n_1b, o_1b, k_1b, c_1b, rfl, hq1, hq2⟩ := hq
  go_enter Tryd.func115, Tryd.ntmps115
  have hb := Below.refl w.heap.size w
  refine wp_seq_k ?_
  intro K1 hK1
  refine wp_region_sq [0, 1, 2] (by kernel_rfl) ?_
  refine wpSq_call rfl (by kernel_rfl) fun K hK => ?_
  go_big_op
  obtain ⟨p_b1, w_1, eP, eW, x_b1, hn, kb_b1⟩ := newBox w #[.bool n_0a, .slice o_0a k_0a c_0a, .bool n_0b, .slice o_0b k_0b c_0b] 26 hb.size
  rw [eW, eP]
  clear eW eP
  replace ha1 := ha1.bl hn; replace ha2 := ha2.bl hn; replace hq1 := hq1.bl hn; replace hq2 := hq2.bl hn; replace hb := hb.trans (hn.mono hb.size)
  refine hK _ _ rfl ?_; clear hK K hn
  refine wpSq_call rfl (by kernel_rfl) fun K hK => ?_
  go_big_op
  have lt_b1 := x_b1.lt
  obtain ⟨p_b2, w_2, eP, eW, x_b2, hn, kb_b2⟩ := newBox w_1 #[.bool n_1a, .slice o_1a k_1a c_1a, .bool n_1b, .slice o_1b k_1b c_1b] 26 hb.size
  have ne_b1_b2 : Hid (p_b1 ≠ p_b2) := Nat.ne_of_lt (eP ▸ lt_b1)
  rw [eW, eP]
  clear eW eP lt_b1
  replace ha1 := ha1.bl hn; replace ha2 := ha2.bl hn; replace hq1 := hq1.bl hn; replace hq2 := hq2.bl hn; replace x_b1 := x_b1.bl hn; replace hb := hb.trans (hn.mono hb.size)
  refine hK _ _ rfl ?_; clear hK K hn
  refine wpSq_call rfl (by kernel_rfl) fun K hK => ?_
  go_big_move; refine hK _ _ rfl ?_; clear hK K
  apply wpSq_end
  refine hK1 _ _ ?_
  refine wp_seq_k ?_
  intro K2 hK2
  refine wp_region_sq [0, 1, 2, 3, 4, 5, 6, 7, 8, 9] (by kernel_rfl) ?_
  refine wpSq_call rfl (by kernel_rfl) fun K hK => ?_
  obtain ⟨d0, d1, d2, d3⟩ := x_b1.f4
  go_big_op; refine hK _ _ rfl ?_; clear hK K d0 d1 d2 d3
  refine wpSq_call rfl (by kernel_rfl) fun K hK => ?_
  obtain ⟨d0, d1, d2, d3⟩ := x_b2.f4
  go_big_op; refine hK _ _ rfl ?_; clear hK K d0 d1 d2 d3
  refine wpSq_call rfl (by kernel_rfl) fun K hK => ?_
  go_big_op
  go_fit (overNorm_any (PN.mk' ha1 ha2) (PN.mk' hq1 hq2) (by omega) (by omega) (by omega) (by omega) )
  rintro e w_3 ⟨_, v_g2, rfl, ⟨n_g1a, o_g1a, k_g1a, c_g1a, n_g1b, o_g1b, k_g1b, c_g1b, rfl, g11, g12⟩, g2, hb_3⟩
  clear x_b1 x_b2
  replace ha1 := ha1.bl hb_3; replace ha2 := ha2.bl hb_3; replace hq1 := hq1.bl hb_3; replace hq2 := hq2.bl hb_3; replace hb := hb.trans (hb_3.mono hb.size)
  obtain ⟨n_g2, o_g2, k_g2, c_g2, rfl⟩ := g2.open2
  have Lg11 := hide (g11.lenOf (zlen_gT1 (ha1.len) (ha2.len) (hq1.len) (hq2.len)))
  have Lg12 := hide (g12.lenOf (zlen_gT2 (ha1.len) (ha2.len) (hq1.len) (hq2.len)))
  have Lg2 := hide (g2.lenOf (zlen_gN (hq1.len) (hq2.len)))
  refine hK _ _ rfl ?_
  clear hK K hb_3
  refine wpSq_call rfl (by kernel_rfl) fun K hK => ?_
  go_big_move; refine hK _ _ rfl ?_; clear hK K
  refine wpSq_call rfl (by kernel_rfl) fun K hK => ?_
  go_big_op; refine hK _ _ rfl ?_; clear hK K
  refine wpSq_call rfl (by kernel_rfl) fun K hK => ?_
  go_big_op; refine hK _ _ rfl ?_; clear hK K
  refine wpSq_call rfl (by kernel_rfl) fun K hK => ?_
  go_big_op
  clear ha1 ha2 hq1 hq2
  obtain ⟨p_b3, w_4, eP, eW, x_b3, hn, kb_b3⟩ := newBox w_3 #[.bool false, .slice none 0 0, .bool false, .slice none 0 0] 26 hb.size
  rw [eW, eP]
  clear eW eP
  replace g11 := g11.bl hn; replace g12 := g12.bl hn; replace g2 := g2.bl hn; replace hb := hb.trans (hn.mono hb.size)
  refine hK _ _ rfl ?_; clear hK K hn
  refine wpSq_call rfl (by kernel_rfl) fun K hK => ?_
  go_big_op
  have lt_b3 := x_b3.lt
  obtain ⟨p_b4, w_5, eP, eW, x_b4, hn, kb_b4⟩ := newBox w_4 #[.bool false, .slice none 0 0] 24 hb.size
  have ne_b3_b4 : Hid (p_b3 ≠ p_b4) := Nat.ne_of_lt (eP ▸ lt_b3)
  rw [eW, eP]
  clear eW eP lt_b3
  replace g11 := g11.bl hn; replace g12 := g12.bl hn; replace g2 := g2.bl hn; replace x_b3 := x_b3.bl hn; replace hb := hb.trans (hn.mono hb.size)
  refine hK _ _ rfl ?_; clear hK K hn
  refine wpSq_call rfl (by kernel_rfl) fun K hK => ?_
  obtain ⟨d0, d1, d2, d3⟩ := x_b3.f4
  have f0 := x_b3.free 0; have f1 := x_b3.free 1; have f2 := x_b3.free 2; have f3 := x_b3.free 3
  go_big_op
  have hnd := x_b3.nod rfl rfl
  obtain ⟨w_6, eW, x_b3', ho⟩ : ∃ w', ((((w_5.setCell ⟨p_b3, 0, none⟩ (.bool n_g1a)).setCell ⟨p_b3, 1, none⟩ (.slice o_g1a k_g1a c_g1a)).setCell ⟨p_b3, 2, none⟩ (.bool n_g1b)).setCell ⟨p_b3, 3, none⟩ (.slice o_g1b k_g1b c_g1b)) = w' ∧ Bs w' p_b3 #[.bool n_g1a, .slice o_g1a k_g1a c_g1a, .bool n_g1b, .slice o_g1b k_g1b c_g1b] 26 ∧ Only p_b3 w_5 w' := x_b3.setN [(0, .bool n_g1a), (1, .slice o_g1a k_g1a c_g1a), (2, .bool n_g1b), (3, .slice o_g1b k_g1b c_g1b)]
  rw [eW]; clear eW d0 d1 d2 d3 f0 f1 f2 f3 x_b3
  have x_b3 := x_b3'; clear x_b3'
  replace g11 := g11.fr hnd ho; replace g12 := g12.fr hnd ho; replace g2 := g2.fr hnd ho; replace x_b4 := x_b4.frame ho ne_b3_b4.symm; replace hb := belowOnly hb ho kb_b3
  refine hK _ _ rfl ?_; clear hK K ho hnd
  refine wpSq_call rfl (by kernel_rfl) fun K hK => ?_
  obtain ⟨d0, d1⟩ := x_b4.f2
  have f0 := x_b4.free 0; have f1 := x_b4.free 1
  go_big_op
  have hnd := x_b4.nod rfl rfl
  obtain ⟨w_7, eW, x_b4', ho⟩ : ∃ w', ((w_6.setCell ⟨p_b4, 0, none⟩ (.bool n_g2)).setCell ⟨p_b4, 1, none⟩ (.slice o_g2 k_g2 c_g2)) = w' ∧ Bs w' p_b4 #[.bool n_g2, .slice o_g2 k_g2 c_g2] 24 ∧ Only p_b4 w_6 w' := x_b4.setN [(0, .bool n_g2), (1, .slice o_g2 k_g2 c_g2)]
  rw [eW]; clear eW d0 d1 f0 f1 x_b4
  have x_b4 := x_b4'; clear x_b4'
  replace g11 := g11.fr hnd ho; replace g12 := g12.fr hnd ho; replace g2 := g2.fr hnd ho; replace x_b3 := x_b3.frame ho ne_b3_b4; replace hb := belowOnly hb ho kb_b4
  refine hK _ _ rfl ?_; clear hK K ho hnd
  apply wpSq_end
  refine hK2 _ _ ?_
  refine wp_seq_k ?_
  intro K3 hK3
  refine wp_region_fl2 [(0, false), (1, false), (2, true), (3, true)] [4] [] (fun _ => default) [0, 0, 99, 99, 99] [(4, 0)] (fun w' => w'.cell? ⟨p_b4, 0, none⟩ = some (.bool n_g2) ∧ w'.cell? ⟨p_b4, 1, none⟩ = some (.slice o_g2 k_g2 c_g2)) [fun w' => w'.cell? ⟨p_b4, 0, none⟩ = some (.bool n_g2) ∧ w'.cell? ⟨p_b4, 1, none⟩ = some (.slice o_g2 k_g2 c_g2)] (by kernel_rfl) (by kernel_rfl) (by kernel_rfl) (by kernel_rfl) (by kernel_rfl) (by kernel_rfl) (by kernel_rfl) (by kernel_rfl) (by decide) (by intro j hj; cases hj) (by intro w' o hC; obtain ⟨c0, c1⟩ := hC; exact ⟨cell_alloc c0 o, cell_alloc c1 o⟩) (by intro w' hC G hG; obtain ⟨c0, c1⟩ := hC; simp only [List.mem_cons, List.not_mem_nil, or_false] at hG; rcases hG with rfl <;> first | exact ⟨c0, c1⟩) ?_
  have lt_b3 := x_b3.lt
  have lt_b4 := x_b4.lt
  intro w_8 hn
  replace lt_b3 := Nat.lt_of_lt_of_le lt_b3 hn.size
  replace lt_b4 := Nat.lt_of_lt_of_le lt_b4 hn.size
  replace g11 := g11.bl hn; replace g12 := g12.bl hn; replace g2 := g2.bl hn; replace x_b3 := x_b3.bl hn; replace x_b4 := x_b4.bl hn; replace hb := hb.trans (hn.mono hb.size)
  clear hn
  have kb0 := hb.size
  refine ⟨⟨x_b4.cell 0 rfl, x_b4.cell 1 rfl⟩, ?_⟩
  apply wpFl_ld rfl rfl; (case h1 => intro w' hC K hK; obtain ⟨c0, c1⟩ := hC; go_big_op; exact hK); iterate 4 kernel_rfl
  apply wpFl_ld rfl rfl; (case h1 => intro w' hC K hK; obtain ⟨c0, c1⟩ := hC; go_big_op; exact hK); iterate 4 kernel_rfl
  refine wpFl_call rfl (by kernel_rfl) fun w_9 hn hC => ?_; clear hC
  replace g11 := g11.bl hn; replace g12 := g12.bl hn; replace g2 := g2.bl hn; replace x_b3 := x_b3.bl hn; replace x_b4 := x_b4.bl hn; replace hb := hb.trans (hn.mono hb.size)
  clear hn; intro K hK
  go_big_op
  go_fit (topOf_any 1 (g2.zn Lg2.out) (by omega) (by decide))
  rintro e w_10 ⟨v_g3, rfl, g3, hb_10⟩
  replace g11 := g11.bl hb_10; replace g12 := g12.bl hb_10; replace g2 := g2.bl hb_10; replace x_b3 := x_b3.bl hb_10; replace x_b4 := x_b4.bl hb_10; replace hb := hb.trans (hb_10.mono hb.size)
  obtain ⟨n_g3, o_g3, k_g3, c_g3, rfl⟩ := g3.open2
  refine hK _ _ rfl hb_10 ⟨x_b4.cell 0 rfl, x_b4.cell 1 rfl⟩ ?_
  clear hK K hb_10
  refine wpFl_call rfl (by kernel_rfl) fun w_11 hn hC => ?_; clear hC
  replace g11 := g11.bl hn; replace g12 := g12.bl hn; replace g2 := g2.bl hn; replace x_b3 := x_b3.bl hn; replace x_b4 := x_b4.bl hn; replace g3 := g3.bl hn; replace hb := hb.trans (hn.mono hb.size)
  clear hn; intro K hK
  go_big_op
  go_fit (zsub_any (g2.zn Lg2.out) g3 (by omega) (by omega) )
  rintro e w_12 ⟨v_g4, rfl, g4, hb_12⟩
  replace g11 := g11.bl hb_12; replace g12 := g12.bl hb_12; replace g2 := g2.bl hb_12; replace x_b3 := x_b3.bl hb_12; replace x_b4 := x_b4.bl hb_12; replace g3 := g3.bl hb_12; replace hb := hb.trans (hb_12.mono hb.size)
  replace g4 := g4.rd
  obtain ⟨n_g4, o_g4, k_g4, c_g4, rfl⟩ := g4.open2
  have Lg4 := hide (g4.lenOf (zlen_sub (Lg2.out) (g3.len)))
  refine hK _ _ rfl hb_12 ⟨x_b4.cell 0 rfl, x_b4.cell 1 rfl⟩ ?_
  clear hK K hb_12
  apply wpFl_end
  case ha => intro pt; simp only [putF]; rfl
  case h =>
  intro w_13 pt hn hC hF hD
  clear hC
  clear g3
  replace g11 := g11.bl hn; replace g12 := g12.bl hn; replace g2 := g2.bl hn; replace x_b3 := x_b3.bl hn; replace x_b4 := x_b4.bl hn; replace g4 := g4.bl hn; replace hb := hb.trans (hn.mono hb.size)
  clear hn
  clear hF hD
  clear pt
  clear kb0 lt_b3 lt_b4
  refine wpTail_call rfl (by kernel_rfl) fun K hK => ?_
  obtain ⟨d0, d1⟩ := x_b4.f2
  have f0 := x_b4.free 0; have f1 := x_b4.free 1
  go_big_op
  have hnd := x_b4.nod rfl rfl
  obtain ⟨w_14, eW, x_b4', ho⟩ : ∃ w', ((w_13.setCell ⟨p_b4, 0, none⟩ (.bool n_g4)).setCell ⟨p_b4, 1, none⟩ (.slice o_g4 k_g4 c_g4)) = w' ∧ Bs w' p_b4 #[.bool n_g4, .slice o_g4 k_g4 c_g4] 24 ∧ Only p_b4 w_13 w' := x_b4.setN [(0, .bool n_g4), (1, .slice o_g4 k_g4 c_g4)]
  rw [eW]; clear eW d0 d1 f0 f1 x_b4
  have x_b4 := x_b4'; clear x_b4'
  clear g2
  replace g11 := g11.fr hnd ho; replace g12 := g12.fr hnd ho; replace x_b3 := x_b3.frame ho ne_b3_b4; replace g4 := g4.fr hnd ho; replace hb := belowOnly hb ho kb_b4
  refine hK _ _ rfl (And.intro True.intro True.intro) ?_; clear hK K ho hnd
  apply wpTail_end
  refine hK3 _ _ ?_
  refine wp_seq_k ?_
  intro K4 hK4
  refine wp_seq_k ?_
  intro K5 hK5
  refine wp_region_sq [0, 1, 2, 3, 4, 5, 6] (by kernel_rfl) ?_
  refine wpSq_call rfl (by kernel_rfl) fun K hK => ?_
  go_big_op; refine hK _ _ rfl ?_; clear hK K
  refine wpSq_call rfl (by kernel_rfl) fun K hK => ?_
  obtain ⟨d0, d1, d2, d3⟩ := x_b3.f4
  go_big_op; refine hK _ _ rfl ?_; clear hK K d0 d1 d2 d3
  refine wpSq_call rfl (by kernel_rfl) fun K hK => ?_
  go_big_op; refine hK _ _ rfl ?_; clear hK K
  refine wpSq_call rfl (by kernel_rfl) fun K hK => ?_
  obtain ⟨d0, d1, d2, d3⟩ := x_b3.f4
  go_big_op; refine hK _ _ rfl ?_; clear hK K d0 d1 d2 d3
  refine wpSq_call rfl (by kernel_rfl) fun K hK => ?_
  go_big_op
  clear x_b3
  have lt_b4 := x_b4.lt
  obtain ⟨p_b5, w_15, eP, eW, x_b5, hn, kb_b5⟩ := newBox w_14 #[.bool n_g1a, .slice o_g1a k_g1a c_g1a, .bool n_g1b, .slice o_g1b k_g1b c_g1b] 24 hb.size
  have ne_b4_b5 : Hid (p_b4 ≠ p_b5) := Nat.ne_of_lt (eP ▸ lt_b4)
  rw [eW, eP]
  clear eW eP lt_b4
  replace g11 := g11.bl hn; replace g12 := g12.bl hn; replace x_b4 := x_b4.bl hn; replace g4 := g4.bl hn; replace hb := hb.trans (hn.mono hb.size)
  refine hK _ _ rfl ?_; clear hK K hn
  refine wpSq_call rfl (by kernel_rfl) fun K hK => ?_
  go_big_op; refine hK _ _ rfl ?_; clear hK K
  refine wpSq_call rfl (by kernel_rfl) fun K hK => ?_
  go_big_move; refine hK _ _ rfl ?_; clear hK K
  apply wpSq_end
  refine hK5 _ _ ?_
  refine wp_block ?_
  refine wp_loop_rounds 3 ?_
  show Code.wp _ _ _ _ _
  refine wp_seq_k ?_
  intro K6 hK6
  refine wp_region_sq [0] (by kernel_rfl) ?_
  refine wpSq_call rfl (by kernel_rfl) fun K hK => ?_
  go_big_op; refine hK _ _ rfl ?_; clear hK K
  apply wpSq_end
  refine hK6 _ _ ?_
  refine wp_seq_k ?_
  intro K7 hK7
  refine wp_cond_true (congrArg Value.bool (show _ = true from (by first | rfl | assumption | (simp; done) | exact decide_eq_true (by omega) | omega))) ?_
  refine wp_skip ?_
  refine hK7 _ _ ?_
  refine wp_seq_k ?_
  intro K8 hK8
  refine wp_block ?_
  refine wp_seq_k ?_
  intro K9 hK9
  refine wp_region_sq [0, 1, 2, 3] (by kernel_rfl) ?_
  refine wpSq_call rfl (by kernel_rfl) fun K hK => ?_
  go_big_op; refine hK _ _ rfl ?_; clear hK K
  refine wpSq_call rfl (by kernel_rfl) fun K hK => ?_
  obtain ⟨d0, d1, d2, d3⟩ := x_b5.f4
  go_big_op; refine hK _ _ rfl ?_; clear hK K d0 d1 d2 d3
  refine wpSq_call rfl (by kernel_rfl) fun K hK => ?_
  go_big_op
  have lt_b4 := x_b4.lt
  have lt_b5 := x_b5.lt
  obtain ⟨p_b6, w_16, eP, eW, x_b6, hn, kb_b6⟩ := newBox w_15 #[.bool false, .slice none 0 0] 24 hb.size
  have ne_b4_b6 : Hid (p_b4 ≠ p_b6) := Nat.ne_of_lt (eP ▸ lt_b4)
  have ne_b5_b6 : Hid (p_b5 ≠ p_b6) := Nat.ne_of_lt (eP ▸ lt_b5)
  rw [eW, eP]
  clear eW eP lt_b4 lt_b5
  replace g11 := g11.bl hn; replace g12 := g12.bl hn; replace x_b4 := x_b4.bl hn; replace g4 := g4.bl hn; replace x_b5 := x_b5.bl hn; replace hb := hb.trans (hn.mono hb.size)
  refine hK _ _ rfl ?_; clear hK K hn
  refine wpSq_call rfl (by kernel_rfl) fun K hK => ?_
  obtain ⟨d0, d1⟩ := x_b6.f2
  have f0 := x_b6.free 0; have f1 := x_b6.free 1
  go_big_op
  have hnd := x_b6.nod rfl rfl
  obtain ⟨w_17, eW, x_b6', ho⟩ : ∃ w', ((w_16.setCell ⟨p_b6, 0, none⟩ (.bool n_g1a)).setCell ⟨p_b6, 1, none⟩ (.slice o_g1a k_g1a c_g1a)) = w' ∧ Bs w' p_b6 #[.bool n_g1a, .slice o_g1a k_g1a c_g1a] 24 ∧ Only p_b6 w_16 w' := x_b6.setN [(0, .bool n_g1a), (1, .slice o_g1a k_g1a c_g1a)]
  rw [eW]; clear eW d0 d1 f0 f1 x_b6
  have x_b6 := x_b6'; clear x_b6'
  replace g11 := g11.fr hnd ho; replace g12 := g12.fr hnd ho; replace x_b4 := x_b4.frame ho ne_b4_b6; replace g4 := g4.fr hnd ho; replace x_b5 := x_b5.frame ho ne_b5_b6; replace hb := belowOnly hb ho kb_b6
  refine hK _ _ rfl ?_; clear hK K ho hnd
  apply wpSq_end
  refine hK9 _ _ ?_
  refine wp_seq_k ?_
  intro K10 hK10
  refine wp_region_fl2 [(0, false), (1, false), (4, false), (2, true), (3, true), (5, true), (6, false)] [] [] (fun _ => default) [0, 0, 99, 99, 1, 99, 99] [] (fun w' => w'.cell? ⟨p_b6, 0, none⟩ = some (.bool n_g1a) ∧ w'.cell? ⟨p_b6, 1, none⟩ = some (.slice o_g1a k_g1a c_g1a) ∧ w'.cell? ⟨p_b4, 0, none⟩ = some (.bool n_g4) ∧ w'.cell? ⟨p_b4, 1, none⟩ = some (.slice o_g4 k_g4 c_g4)) [fun w' => w'.cell? ⟨p_b6, 0, none⟩ = some (.bool n_g1a) ∧ w'.cell? ⟨p_b6, 1, none⟩ = some (.slice o_g1a k_g1a c_g1a), fun w' => w'.cell? ⟨p_b4, 0, none⟩ = some (.bool n_g4) ∧ w'.cell? ⟨p_b4, 1, none⟩ = some (.slice o_g4 k_g4 c_g4)] (by kernel_rfl) (by kernel_rfl) (by kernel_rfl) (by kernel_rfl) (by kernel_rfl) (by kernel_rfl) (by kernel_rfl) (by kernel_rfl) (by decide) (by intro j hj; cases hj) (by intro w' o hC; obtain ⟨c0, c1, c2, c3⟩ := hC; exact ⟨cell_alloc c0 o, cell_alloc c1 o, cell_alloc c2 o, cell_alloc c3 o⟩) (by intro w' hC G hG; obtain ⟨c0, c1, c2, c3⟩ := hC; simp only [List.mem_cons, List.not_mem_nil, or_false] at hG; rcases hG with rfl | rfl <;> first | exact ⟨c0, c1⟩ | exact ⟨c2, c3⟩) ?_
  have lt_b4 := x_b4.lt
  have lt_b5 := x_b5.lt
  have lt_b6 := x_b6.lt
  intro w_18 hn
  replace lt_b4 := Nat.lt_of_lt_of_le lt_b4 hn.size
  replace lt_b5 := Nat.lt_of_lt_of_le lt_b5 hn.size
  replace lt_b6 := Nat.lt_of_lt_of_le lt_b6 hn.size
  replace g11 := g11.bl hn; replace g12 := g12.bl hn; replace x_b4 := x_b4.bl hn; replace g4 := g4.bl hn; replace x_b5 := x_b5.bl hn; replace x_b6 := x_b6.bl hn; replace hb := hb.trans (hn.mono hb.size)
  clear hn
  have kb0 := hb.size
  refine ⟨⟨x_b6.cell 0 rfl, x_b6.cell 1 rfl, x_b4.cell 0 rfl, x_b4.cell 1 rfl⟩, ?_⟩
  apply wpFl_ld rfl rfl; (case h1 => intro w' hC K hK; obtain ⟨c0, c1⟩ := hC; go_big_op; exact hK); iterate 4 kernel_rfl
  apply wpFl_ld rfl rfl; (case h1 => intro w' hC K hK; obtain ⟨c0, c1⟩ := hC; go_big_op; exact hK); iterate 4 kernel_rfl
  apply wpFl_ld rfl rfl; (case h1 => intro w' hC K hK; obtain ⟨c0, c1⟩ := hC; go_big_op; exact hK); iterate 4 kernel_rfl
  refine wpFl_call rfl (by kernel_rfl) fun w_19 hn hC => ?_; clear hC
  replace g11 := g11.bl hn; replace g12 := g12.bl hn; replace x_b4 := x_b4.bl hn; replace g4 := g4.bl hn; replace x_b5 := x_b5.bl hn; replace x_b6 := x_b6.bl hn; replace hb := hb.trans (hn.mono hb.size)
  clear hn; intro K hK
  go_big_op
  go_fit (zadd_any (g11.zn Lg11.out) (g11.zn Lg11.out) (by omega) (by omega) )
  rintro e w_20 ⟨v_g5, rfl, g5, hb_20⟩
  replace g11 := g11.bl hb_20; replace g12 := g12.bl hb_20; replace x_b4 := x_b4.bl hb_20; replace g4 := g4.bl hb_20; replace x_b5 := x_b5.bl hb_20; replace x_b6 := x_b6.bl hb_20; replace hb := hb.trans (hb_20.mono hb.size)
  replace g5 := g5.rd
  obtain ⟨n_g5, o_g5, k_g5, c_g5, rfl⟩ := g5.open2
  have Lg5 := hide (g5.lenOf (zlen_add (Lg11.out) (Lg11.out)))
  refine hK _ _ rfl hb_20 ⟨x_b6.cell 0 rfl, x_b6.cell 1 rfl, x_b4.cell 0 rfl, x_b4.cell 1 rfl⟩ ?_
  clear hK K hb_20
  refine wpFl_call rfl (by kernel_rfl) fun w_21 hn hC => ?_; clear hC
  replace g11 := g11.bl hn; replace g12 := g12.bl hn; replace x_b4 := x_b4.bl hn; replace g4 := g4.bl hn; replace x_b5 := x_b5.bl hn; replace x_b6 := x_b6.bl hn; replace g5 := g5.bl hn; replace hb := hb.trans (hn.mono hb.size)
  clear hn; intro K hK
  go_big_op
  go_fit (zabs_any (g5.zn Lg5.out) (by omega) )
  rintro e w_22 ⟨v_g6, rfl, g6, hb_22⟩
  replace g11 := g11.bl hb_22; replace g12 := g12.bl hb_22; replace x_b4 := x_b4.bl hb_22; replace g4 := g4.bl hb_22; replace x_b5 := x_b5.bl hb_22; replace x_b6 := x_b6.bl hb_22; replace g5 := g5.bl hb_22; replace hb := hb.trans (hb_22.mono hb.size)
  replace g6 := g6.rd
  obtain ⟨n_g6, o_g6, k_g6, c_g6, rfl⟩ := g6.open2
  have Lg6 := hide (g6.lenOf (zlen_abs (Lg5.out)))
  refine hK _ _ rfl hb_22 ⟨x_b6.cell 0 rfl, x_b6.cell 1 rfl, x_b4.cell 0 rfl, x_b4.cell 1 rfl⟩ ?_
  clear hK K hb_22
  refine wpFl_call rfl (by kernel_rfl) fun w_23 hn hC => ?_; clear hC
  replace g11 := g11.bl hn; replace g12 := g12.bl hn; replace x_b4 := x_b4.bl hn; replace g4 := g4.bl hn; replace x_b5 := x_b5.bl hn; replace x_b6 := x_b6.bl hn; replace g5 := g5.bl hn; replace g6 := g6.bl hn; replace hb := hb.trans (hn.mono hb.size)
  clear hn; intro K hK
  go_big_op
  go_fit (zcmp_any (g6.zn Lg6.out) (g4.zn Lg4.out) (by omega) (by omega) )
  rintro e w_24 ⟨rfl, hb_24⟩
  replace g11 := g11.bl hb_24; replace g12 := g12.bl hb_24; replace x_b4 := x_b4.bl hb_24; replace g4 := g4.bl hb_24; replace x_b5 := x_b5.bl hb_24; replace x_b6 := x_b6.bl hb_24; replace g5 := g5.bl hb_24; replace g6 := g6.bl hb_24; replace hb := hb.trans (hb_24.mono hb.size)
  rw [HC1.out]
  refine hK _ _ rfl hb_24 ⟨x_b6.cell 0 rfl, x_b6.cell 1 rfl, x_b4.cell 0 rfl, x_b4.cell 1 rfl⟩ ?_
  clear hK K hb_24
  apply wpFl_ld rfl rfl; (case h1 => intro w' hC K hK; go_big_op; exact hK); iterate 4 kernel_rfl
  apply wpFl_end
  case ha => intro pt; simp only [putF]; rfl
  case h =>
  intro w_25 pt hn hC hF hD
  clear hC
  replace g11 := g11.bl hn; replace g12 := g12.bl hn; replace x_b4 := x_b4.bl hn; replace g4 := g4.bl hn; replace x_b5 := x_b5.bl hn; replace x_b6 := x_b6.bl hn; replace g5 := g5.bl hn; replace g6 := g6.bl hn; replace hb := hb.trans (hn.mono hb.size)
  clear hn
  clear hF hD
  clear pt
  clear kb0 lt_b4 lt_b5 lt_b6
  apply wpTail_end
  refine hK10 _ _ ?_
  refine wp_cond_false (congrArg Value.bool (show _ = false from (by first | rfl | assumption | (simp; done) | exact decide_eq_false (by omega) | omega))) ?_
  refine wp_skip ?_
  refine hK8 _ _ ?_
  refine wp_region_sq [0, 1] (by kernel_rfl) ?_
  refine wpSq_call rfl (by kernel_rfl) fun K hK => ?_
  go_big_op; refine hK _ _ rfl ?_; clear hK K
  refine wpSq_call rfl (by kernel_rfl) fun K hK => ?_
  go_big_move; refine hK _ _ rfl ?_; clear hK K
  apply wpSq_end
  show Code.wp _ _ _ _ _
  refine wp_seq_k ?_
  intro K11 hK11
  refine wp_region_sq [0] (by kernel_rfl) ?_
  refine wpSq_call rfl (by kernel_rfl) fun K hK => ?_
  go_big_op; refine hK _ _ rfl ?_; clear hK K
  apply wpSq_end
  refine hK11 _ _ ?_
  refine wp_seq_k ?_
  intro K12 hK12
  refine wp_cond_true (congrArg Value.bool (show _ = true from (by first | rfl | assumption | (simp; done) | exact decide_eq_true (by omega) | omega))) ?_
  refine wp_skip ?_
  refine hK12 _ _ ?_
  refine wp_seq_k ?_
  intro K13 hK13
  refine wp_block ?_
  refine wp_seq_k ?_
  intro K14 hK14
  refine wp_region_sq [0, 1, 2, 3] (by kernel_rfl) ?_
  refine wpSq_call rfl (by kernel_rfl) fun K hK => ?_
  go_big_op; refine hK _ _ rfl ?_; clear hK K
  refine wpSq_call rfl (by kernel_rfl) fun K hK => ?_
  obtain ⟨d0, d1, d2, d3⟩ := x_b5.f4
  go_big_op; refine hK _ _ rfl ?_; clear hK K d0 d1 d2 d3
  refine wpSq_call rfl (by kernel_rfl) fun K hK => ?_
  go_big_op
  have lt_b4 := x_b4.lt
  have lt_b5 := x_b5.lt
  have lt_b6 := x_b6.lt
  obtain ⟨p_b7, w_26, eP, eW, x_b7, hn, kb_b7⟩ := newBox w_25 #[.bool false, .slice none 0 0] 24 hb.size
  have ne_b4_b7 : Hid (p_b4 ≠ p_b7) := Nat.ne_of_lt (eP ▸ lt_b4)
  have ne_b5_b7 : Hid (p_b5 ≠ p_b7) := Nat.ne_of_lt (eP ▸ lt_b5)
  have ne_b6_b7 : Hid (p_b6 ≠ p_b7) := Nat.ne_of_lt (eP ▸ lt_b6)
  rw [eW, eP]
  clear eW eP lt_b4 lt_b5 lt_b6
  replace g11 := g11.bl hn; replace g12 := g12.bl hn; replace x_b4 := x_b4.bl hn; replace g4 := g4.bl hn; replace x_b5 := x_b5.bl hn; replace x_b6 := x_b6.bl hn; replace g5 := g5.bl hn; replace g6 := g6.bl hn; replace hb := hb.trans (hn.mono hb.size)
  refine hK _ _ rfl ?_; clear hK K hn
  refine wpSq_call rfl (by kernel_rfl) fun K hK => ?_
  obtain ⟨d0, d1⟩ := x_b7.f2
  have f0 := x_b7.free 0; have f1 := x_b7.free 1
  go_big_op
  have hnd := x_b7.nod rfl rfl
  obtain ⟨w_27, eW, x_b7', ho⟩ : ∃ w', ((w_26.setCell ⟨p_b7, 0, none⟩ (.bool n_g1b)).setCell ⟨p_b7, 1, none⟩ (.slice o_g1b k_g1b c_g1b)) = w' ∧ Bs w' p_b7 #[.bool n_g1b, .slice o_g1b k_g1b c_g1b] 24 ∧ Only p_b7 w_26 w' := x_b7.setN [(0, .bool n_g1b), (1, .slice o_g1b k_g1b c_g1b)]
  rw [eW]; clear eW d0 d1 f0 f1 x_b7
  have x_b7 := x_b7'; clear x_b7'
  clear x_b6
  replace g11 := g11.fr hnd ho; replace g12 := g12.fr hnd ho; replace x_b4 := x_b4.frame ho ne_b4_b7; replace g4 := g4.fr hnd ho; replace x_b5 := x_b5.frame ho ne_b5_b7; replace g5 := g5.fr hnd ho; replace g6 := g6.fr hnd ho; replace hb := belowOnly hb ho kb_b7
  refine hK _ _ rfl ?_; clear hK K ho hnd
  apply wpSq_end
  refine hK14 _ _ ?_
  refine wp_seq_k ?_
  intro K15 hK15
  refine wp_region_fl2 [(0, false), (1, false), (4, false), (2, true), (3, true), (5, true), (6, false)] [] [] (fun _ => default) [0, 0, 99, 99, 1, 99, 99] [] (fun w' => w'.cell? ⟨p_b7, 0, none⟩ = some (.bool n_g1b) ∧ w'.cell? ⟨p_b7, 1, none⟩ = some (.slice o_g1b k_g1b c_g1b) ∧ w'.cell? ⟨p_b4, 0, none⟩ = some (.bool n_g4) ∧ w'.cell? ⟨p_b4, 1, none⟩ = some (.slice o_g4 k_g4 c_g4)) [fun w' => w'.cell? ⟨p_b7, 0, none⟩ = some (.bool n_g1b) ∧ w'.cell? ⟨p_b7, 1, none⟩ = some (.slice o_g1b k_g1b c_g1b), fun w' => w'.cell? ⟨p_b4, 0, none⟩ = some (.bool n_g4) ∧ w'.cell? ⟨p_b4, 1, none⟩ = some (.slice o_g4 k_g4 c_g4)] (by kernel_rfl) (by kernel_rfl) (by kernel_rfl) (by kernel_rfl) (by kernel_rfl) (by kernel_rfl) (by kernel_rfl) (by kernel_rfl) (by decide) (by intro j hj; cases hj) (by intro w' o hC; obtain ⟨c0, c1, c2, c3⟩ := hC; exact ⟨cell_alloc c0 o, cell_alloc c1 o, cell_alloc c2 o, cell_alloc c3 o⟩) (by intro w' hC G hG; obtain ⟨c0, c1, c2, c3⟩ := hC; simp only [List.mem_cons, List.not_mem_nil, or_false] at hG; rcases hG with rfl | rfl <;> first | exact ⟨c0, c1⟩ | exact ⟨c2, c3⟩) ?_
  have lt_b4 := x_b4.lt
  have lt_b5 := x_b5.lt
  have lt_b7 := x_b7.lt
  intro w_28 hn
  replace lt_b4 := Nat.lt_of_lt_of_le lt_b4 hn.size
  replace lt_b5 := Nat.lt_of_lt_of_le lt_b5 hn.size
  replace lt_b7 := Nat.lt_of_lt_of_le lt_b7 hn.size
  replace g11 := g11.bl hn; replace g12 := g12.bl hn; replace x_b4 := x_b4.bl hn; replace g4 := g4.bl hn; replace x_b5 := x_b5.bl hn; replace g5 := g5.bl hn; replace g6 := g6.bl hn; replace x_b7 := x_b7.bl hn; replace hb := hb.trans (hn.mono hb.size)
  clear hn
  have kb0 := hb.size
  refine ⟨⟨x_b7.cell 0 rfl, x_b7.cell 1 rfl, x_b4.cell 0 rfl, x_b4.cell 1 rfl⟩, ?_⟩
  apply wpFl_ld rfl rfl; (case h1 => intro w' hC K hK; obtain ⟨c0, c1⟩ := hC; go_big_op; exact hK); iterate 4 kernel_rfl
  apply wpFl_ld rfl rfl; (case h1 => intro w' hC K hK; obtain ⟨c0, c1⟩ := hC; go_big_op; exact hK); iterate 4 kernel_rfl
  apply wpFl_ld rfl rfl; (case h1 => intro w' hC K hK; obtain ⟨c0, c1⟩ := hC; go_big_op; exact hK); iterate 4 kernel_rfl
  refine wpFl_call rfl (by kernel_rfl) fun w_29 hn hC => ?_; clear hC
  replace g11 := g11.bl hn; replace g12 := g12.bl hn; replace x_b4 := x_b4.bl hn; replace g4 := g4.bl hn; replace x_b5 := x_b5.bl hn; replace g5 := g5.bl hn; replace g6 := g6.bl hn; replace x_b7 := x_b7.bl hn; replace hb := hb.trans (hn.mono hb.size)
  clear hn; intro K hK
  go_big_op
  go_fit (zadd_any (g12.zn Lg12.out) (g12.zn Lg12.out) (by omega) (by omega) )
  rintro e w_30 ⟨v_g7, rfl, g7, hb_30⟩
  replace g11 := g11.bl hb_30; replace g12 := g12.bl hb_30; replace x_b4 := x_b4.bl hb_30; replace g4 := g4.bl hb_30; replace x_b5 := x_b5.bl hb_30; replace g5 := g5.bl hb_30; replace g6 := g6.bl hb_30; replace x_b7 := x_b7.bl hb_30; replace hb := hb.trans (hb_30.mono hb.size)
  replace g7 := g7.rd
  obtain ⟨n_g7, o_g7, k_g7, c_g7, rfl⟩ := g7.open2
  have Lg7 := hide (g7.lenOf (zlen_add (Lg12.out) (Lg12.out)))
  refine hK _ _ rfl hb_30 ⟨x_b7.cell 0 rfl, x_b7.cell 1 rfl, x_b4.cell 0 rfl, x_b4.cell 1 rfl⟩ ?_
  clear hK K hb_30
  refine wpFl_call rfl (by kernel_rfl) fun w_31 hn hC => ?_; clear hC
  clear g5
  replace g11 := g11.bl hn; replace g12 := g12.bl hn; replace x_b4 := x_b4.bl hn; replace g4 := g4.bl hn; replace x_b5 := x_b5.bl hn; replace g6 := g6.bl hn; replace x_b7 := x_b7.bl hn; replace g7 := g7.bl hn; replace hb := hb.trans (hn.mono hb.size)
  clear hn; intro K hK
  go_big_op
  go_fit (zabs_any (g7.zn Lg7.out) (by omega) )
  rintro e w_32 ⟨v_g8, rfl, g8, hb_32⟩
  replace g11 := g11.bl hb_32; replace g12 := g12.bl hb_32; replace x_b4 := x_b4.bl hb_32; replace g4 := g4.bl hb_32; replace x_b5 := x_b5.bl hb_32; replace g6 := g6.bl hb_32; replace x_b7 := x_b7.bl hb_32; replace g7 := g7.bl hb_32; replace hb := hb.trans (hb_32.mono hb.size)
  replace g8 := g8.rd
  obtain ⟨n_g8, o_g8, k_g8, c_g8, rfl⟩ := g8.open2
  have Lg8 := hide (g8.lenOf (zlen_abs (Lg7.out)))
  refine hK _ _ rfl hb_32 ⟨x_b7.cell 0 rfl, x_b7.cell 1 rfl, x_b4.cell 0 rfl, x_b4.cell 1 rfl⟩ ?_
  clear hK K hb_32
  refine wpFl_call rfl (by kernel_rfl) fun w_33 hn hC => ?_; clear hC
  clear g6
  replace g11 := g11.bl hn; replace g12 := g12.bl hn; replace x_b4 := x_b4.bl hn; replace g4 := g4.bl hn; replace x_b5 := x_b5.bl hn; replace x_b7 := x_b7.bl hn; replace g7 := g7.bl hn; replace g8 := g8.bl hn; replace hb := hb.trans (hn.mono hb.size)
  clear hn; intro K hK
  go_big_op
  go_fit (zcmp_any (g8.zn Lg8.out) (g4.zn Lg4.out) (by omega) (by omega) )
  rintro e w_34 ⟨rfl, hb_34⟩
  replace g11 := g11.bl hb_34; replace g12 := g12.bl hb_34; replace x_b4 := x_b4.bl hb_34; replace g4 := g4.bl hb_34; replace x_b5 := x_b5.bl hb_34; replace x_b7 := x_b7.bl hb_34; replace g7 := g7.bl hb_34; replace g8 := g8.bl hb_34; replace hb := hb.trans (hb_34.mono hb.size)
  rw [HC2.out]
  refine hK _ _ rfl hb_34 ⟨x_b7.cell 0 rfl, x_b7.cell 1 rfl, x_b4.cell 0 rfl, x_b4.cell 1 rfl⟩ ?_
  clear hK K hb_34
  apply wpFl_ld rfl rfl; (case h1 => intro w' hC K hK; go_big_op; exact hK); iterate 4 kernel_rfl
  apply wpFl_end
  case ha => intro pt; simp only [putF]; rfl
  case h =>
  intro w_35 pt hn hC hF hD
  clear hC
  replace g11 := g11.bl hn; replace g12 := g12.bl hn; replace x_b4 := x_b4.bl hn; replace g4 := g4.bl hn; replace x_b5 := x_b5.bl hn; replace x_b7 := x_b7.bl hn; replace g7 := g7.bl hn; replace g8 := g8.bl hn; replace hb := hb.trans (hn.mono hb.size)
  clear hn
  clear hF hD
  clear pt
  clear kb0 lt_b4 lt_b5 lt_b7
  apply wpTail_end
  refine hK15 _ _ ?_
  refine wp_cond_true (congrArg Value.bool (show _ = true from (by first | rfl | assumption | (simp; done) | exact decide_eq_true (by omega) | omega))) ?_
  refine wp_seq_k ?_
  intro K16 hK16
  refine wp_region_sq [0] (by kernel_rfl) ?_
  refine wpSq_call rfl (by kernel_rfl) fun K hK => ?_
  go_big_move; refine hK _ _ rfl ?_; clear hK K
  apply wpSq_end
  refine hK16 _ _ ?_
  refine wp_ret ?_
  try dsimp only [Exit.then, Exit.inBlock]
  refine bodyPost_ret (v := (.bool false)) (by simp [results, Tryd.results115, go_sem]) rfl ?_
  exact ⟨rfl, hb⟩
end
end Go.Proofs.YtgjainmfilkjmaaDoor

/- gint.quotient: the nearest, whichever way it is found. -/
namespace Go.Proofs.YtgjainmfilkjmaaDoor
open Go Go.RowKit Dig
set_option linter.unusedVariables false

theorem pw4 : pw 4 = 340282366920938463463374607431768211456 := by decide
theorem pw6 : pw 6 = 18446744073709551616 * 340282366920938463463374607431768211456 := by decide
theorem tp_one (n : Int) (h : 0 ≤ n) : tp n 1 = n / 4294967296 := by
  unfold tp
  rw [if_neg (by omega), show pw 1 = 4294967296 by decide]
  omega
/-- What is far inside leads to the nearest quotient. -/
theorem quot_top {x y u v : Int} {cut : Nat} (hc : gdig u v = cut + 5) (hd : gdig x y ≤ gdig u v + 1) (hf : far (gR1 (tp x cut) (tp y cut) (tp u cut) (tp v cut)) (gR2 (tp x cut) (tp y cut) (tp u cut) (tp v cut)) (tp u cut) (tp v cut)) :
    gN (tp u cut) (tp v cut) ≠ 0 ∧ gQ1 (tp x cut) (tp y cut) (tp u cut) (tp v cut) = gQ1 x y u v ∧ gQ2 (tp x cut) (tp y cut) (tp u cut) (tp v cut) = gQ2 x y u v := by
  obtain ⟨c1, ex, bx, _⟩ := tp_split x cut
  obtain ⟨c2, ey, byy, _⟩ := tp_split y cut
  obtain ⟨d1, eu, bu, su⟩ := tp_split u cut
  obtain ⟨d2, ev, bv, sv⟩ := tp_split v cut
  obtain ⟨tx, ty⟩ := gdig_top (x := x) (y := y)
  obtain ⟨tu, tv⟩ := gdig_top (x := u) (y := v)
  have hlow := gdig_low (x := u) (y := v) (by omega)
  have ax := tp_abs x cut
  have ay := tp_abs y cut
  have au := tp_abs u cut
  have av := tp_abs v cut
  have hp := pw_pos cut
  -- the longer part of the divisor's top
  have low : ∀ z : Nat, pw (gdig u v - 1) ≤ z → pw 4 ≤ z / pw cut := by
    intro z hz
    rw [show gdig u v - 1 = 4 + cut by omega, pw_add] at hz
    exact (Nat.le_div_iff_mul_le hp).2 hz
  have high : ∀ z : Nat, z < pw (gdig x y) → z / pw cut < pw 6 := by
    intro z hz
    refine (Nat.div_lt_iff_lt_mul hp).2 (Nat.lt_of_lt_of_le hz ?_)
    rw [← pw_add]; exact pw_mono (by omega)
  have hx6 := high _ tx
  have hy6 := high _ ty
  have hm4 : pw 4 ≤ max (tp u cut).natAbs (tp v cut).natAbs := by
    rw [au, av]
    rcases hlow with h | h
    · exact Nat.le_trans (low _ h) (Nat.le_max_left _ _)
    · exact Nat.le_trans (low _ h) (Nat.le_max_right _ _)
  rw [← ax] at hx6
  rw [← ay] at hy6
  clear ax ay au av low high hlow tx ty tu tv
  generalize tp x cut = X at *
  generalize tp y cut = Y at *
  generalize tp u cut = U at *
  generalize tp v cut = V at *
  obtain ⟨M, hM⟩ : ∃ M : Nat, max U.natAbs V.natAbs = M := ⟨_, rfl⟩
  rw [hM] at hm4
  rw [pw4] at hm4
  rw [pw6] at hx6 hy6
  have hUM : -(M : Int) ≤ U ∧ U ≤ (M : Int) := by omega
  have hVM : -(M : Int) ≤ V ∧ V ≤ (M : Int) := by omega
  have hmm : (M : Int) * M ≤ gN U V := by
    have h1 := msq U
    have h2 := msq V
    have h3 : ∀ z : Int, z.natAbs = M → z * z = (M : Int) * M := by
      intro z hz
      rw [← Int.natAbs_mul_self, hz]; rfl
    unfold gN
    rcases (show U.natAbs = M ∨ V.natAbs = M by omega) with h | h
    · rw [h3 U h]; omega
    · rw [h3 V h]; omega
  have hM0 : 0 < (M : Int) := by omega
  have hn0 : gN U V ≠ 0 := by have := Int.mul_pos hM0 hM0; omega
  have hn := gN_nonneg U V
  obtain ⟨f1, f2⟩ := hf
  rw [tp_one _ hn] at f1 f2
  have hb1 := (gR_back X Y U V).1
  have hb2 := (gR_back X Y U V).2
  have hh := gR_half (x := X) (y := Y) hn0
  have g1 : gT1 (gR1 X Y U V) (gR2 X Y U V) U V = gR1 X Y U V * U + gR2 X Y U V * V := by unfold gT1; rw [Int.mul_neg]; omega
  have g2 : gT2 (gR1 X Y U V) (gR2 X Y U V) U V = gR2 X Y U V * U - gR1 X Y U V * V := by unfold gT2; rw [Int.mul_neg]; omega
  rw [g1] at f1
  rw [g2] at f2
  have key := guess (B := (pw cut : Int)) (a1 := X) (a2 := Y) (b1 := U) (b2 := V) (c1 := c1) (c2 := c2) (d1 := d1) (d2 := d2) (m := (M : Int)) (q1 := gQ1 X Y U V) (q2 := gQ2 X Y U V) (r1 := gR1 X Y U V) (r2 := gR2 X Y U V)
    (by omega) bx byy bu bv su sv (by omega) hUM hVM hmm (by omega) (by omega) (by omega) (by omega) hh (by omega) (by omega)
  rw [← ex, ← ey, ← eu, ← ev] at key
  exact ⟨hn0, key.1.symm, key.2.symm⟩
theorem gdig_le {x y : Int} {l m : Nat} (h1 : (dig x.natAbs).length ≤ l) (h2 : (dig y.natAbs).length ≤ m) (hl : l ≤ 8000000) (hm : m ≤ 8000000) : gdig x y ≤ 16000000 := by
  have b1 := bits_bd (Nat.lt_of_lt_of_le (lt_pw_dig x.natAbs) (pw_mono h1))
  have b2 := bits_bd (Nat.lt_of_lt_of_le (lt_pw_dig y.natAbs) (pw_mono h2))
  unfold gdig; omega
theorem tp_len {x : Int} {l k : Nat} (h : (dig x.natAbs).length ≤ l) : (dig (tp x k).natAbs).length ≤ l := by
  rw [tp_abs]; exact len_le (Nat.div_le_self _ _) h
/-- A rest is no longer than the divisor. -/
theorem gR_len {x y u v : Int} {k n : Nat} (h0 : gN u v ≠ 0) (h1 : (dig u.natAbs).length ≤ k) (h2 : (dig v.natAbs).length ≤ n) : (dig (gR1 x y u v).natAbs).length ≤ k + n + 1 ∧ (dig (gR2 x y u v).natAbs).length ≤ k + n + 1 := by
  have hh := gR_half (x := x) (y := y) h0
  have hr := gN_nonneg (gR1 x y u v) (gR2 x y u v)
  obtain ⟨A, hA⟩ : ∃ A : Nat, A = u.natAbs + v.natAbs := ⟨_, rfl⟩
  have hb : gN u v ≤ (A : Int) * A := by
    have e1 : u * u = ((u.natAbs : Nat) : Int) * (u.natAbs : Nat) := (Int.natAbs_mul_self' u).symm
    have e2 : v * v = ((v.natAbs : Nat) : Int) * (v.natAbs : Nat) := (Int.natAbs_mul_self' v).symm
    have h3 : (0 : Int) ≤ ((u.natAbs : Nat) : Int) * (v.natAbs : Nat) := Int.mul_nonneg (by omega) (by omega)
    unfold gN
    rw [e1, e2, hA]
    push_cast
    grind
  obtain ⟨n1, n2⟩ := norm_le (a := gR1 x y u v) (b := gR2 x y u v) (A := (A : Int)) (by omega) (by omega)
  have hl : (dig A).length ≤ k + n + 1 := by
    have := zlen_add (x := (u.natAbs : Int)) (y := (v.natAbs : Int)) (by rw [Int.natAbs_natCast]; exact h1) (by rw [Int.natAbs_natCast]; exact h2)
    rw [← Int.natCast_add, Int.natAbs_natCast, ← hA] at this
    exact this
  exact ⟨len_le (by omega) hl, len_le (by omega) hl⟩
theorem tp_ne {u v : Int} {cut : Nat} (hc : gdig u v = cut + 5) (h : 0 < gdig u v) : gN (tp u cut) (tp v cut) ≠ 0 := by
  intro h0
  obtain ⟨h1, h2⟩ := gN_zero.1 h0
  have au := tp_abs u cut
  have av := tp_abs v cut
  rw [h1] at au
  rw [h2] at av
  have low : ∀ z : Nat, pw (gdig u v - 1) ≤ z → z / pw cut ≠ 0 := by
    intro z hz hz0
    rw [show gdig u v - 1 = 4 + cut by omega, pw_add] at hz
    have := (Nat.le_div_iff_mul_le (pw_pos cut)).2 hz
    rw [pw4] at this
    omega
  rcases gdig_low h with h3 | h3
  · exact low _ h3 au.symm
  · exact low _ h3 av.symm
section
variable {w : World} {va vb : Value} {x y u v : Int} {l m k n : Nat}
theorem far_no (ha : PN w va x l y m) (hq : PN w vb u k v n) (hl : l ≤ 20000000) (hm : m ≤ 20000000) (hk : k ≤ 20000000) (hn : n ≤ 20000000) (hf : ¬ far x y u v) :
    Calls Tryd.prog 115 #[va, vb] w fun e w' => e = .returned (.bool false) ∧ Below w.heap.size w w' := by
  by_cases h1 : ((gT1 x y u v + gT1 x y u v).natAbs : Int) < gN u v - tp (gN u v) 1
  · exact far_no2 ha hq hl hm hk hn h1 (fun h2 => hf ⟨h1, h2⟩)
  · exact far_no1 ha hq hl hm hk hn h1
set_option maxHeartbeats 4000000 in
set_option maxRecDepth 20000 in
theorem quot_small (ha : PN w va x l y m) (hq : PN w vb u k v n) (hl : l ≤ 8000000) (hm : m ≤ 8000000) (hk : k ≤ 8000000) (hn : n ≤ 8000000) (h0 : gN u v ≠ 0) (h1 : gdig u v ≤ 5) :
    Calls Tryd.prog 88 #[va, vb] w fun e w' => ∃ r, e = .returned r ∧ PC w' r (gQ1 x y u v) (gQ2 x y u v) ∧ Below w.heap.size w w' := by
  have H0 := hide h0
  obtain ⟨S, hS⟩ : ∃ S, gdig u v = S := ⟨_, rfl⟩
  rw [hS] at h1
  have HS := hide hS
  have hg : (0 < (S : Int) - 5) = False := eq_false (by omega)
  have hgA : (5 < (S : Int)) = False := eq_false (by omega)
  have hgB : (5 < S) = False := eq_false (by omega)
  clear h0 hS
  obtain ⟨n_0a, o_0a, k_0a, c_0a, n_0b, o_0b, k_0b, c_0b, rfl, ha1, ha2⟩ := ha
  obtain ⟨n_1a, o_1a, k_1a, c_1a, n_1b, o_1b, k_1b, c_1b, rfl, hq1, hq2⟩ := hq
  go_enter Tryd.func88, Tryd.ntmps88
  have hb := Below.refl w.heap.size w
  refine wp_seq_k ?_
  intro K1 hK1
  refine wp_region_sq [0, 1, 2] (by kernel_rfl) ?_
  refine wpSq_call rfl (by kernel_rfl) fun K hK => ?_
  go_big_op
  obtain ⟨p_b1, w_1, eP, eW, x_b1, hn, kb_b1⟩ := newBox w #[.bool n_0a, .slice o_0a k_0a c_0a, .bool n_0b, .slice o_0b k_0b c_0b] 26 hb.size
  rw [eW, eP]
  clear eW eP
  replace ha1 := ha1.bl hn; replace ha2 := ha2.bl hn; replace hq1 := hq1.bl hn; replace hq2 := hq2.bl hn; replace hb := hb.trans (hn.mono hb.size)
  refine hK _ _ rfl ?_; clear hK K hn
  refine wpSq_call rfl (by kernel_rfl) fun K hK => ?_
  go_big_op
  have lt_b1 := x_b1.lt
  obtain ⟨p_b2, w_2, eP, eW, x_b2, hn, kb_b2⟩ := newBox w_1 #[.bool n_1a, .slice o_1a k_1a c_1a, .bool n_1b, .slice o_1b k_1b c_1b] 26 hb.size
  have ne_b1_b2 : Hid (p_b1 ≠ p_b2) := Nat.ne_of_lt (eP ▸ lt_b1)
  rw [eW, eP]
  clear eW eP lt_b1
  replace ha1 := ha1.bl hn; replace ha2 := ha2.bl hn; replace hq1 := hq1.bl hn; replace hq2 := hq2.bl hn; replace x_b1 := x_b1.bl hn; replace hb := hb.trans (hn.mono hb.size)
  refine hK _ _ rfl ?_; clear hK K hn
  refine wpSq_call rfl (by kernel_rfl) fun K hK => ?_
  go_big_op
  have lt_b1 := x_b1.lt
  have lt_b2 := x_b2.lt
  obtain ⟨p_b3, w_3, eP, eW, x_b3, hn, kb_b3⟩ := newBox w_2 #[.bool false, .slice none 0 0, .bool false, .slice none 0 0] 26 hb.size
  have ne_b1_b3 : Hid (p_b1 ≠ p_b3) := Nat.ne_of_lt (eP ▸ lt_b1)
  have ne_b2_b3 : Hid (p_b2 ≠ p_b3) := Nat.ne_of_lt (eP ▸ lt_b2)
  rw [eW, eP]
  clear eW eP lt_b1 lt_b2
  replace ha1 := ha1.bl hn; replace ha2 := ha2.bl hn; replace hq1 := hq1.bl hn; replace hq2 := hq2.bl hn; replace x_b1 := x_b1.bl hn; replace x_b2 := x_b2.bl hn; replace hb := hb.trans (hn.mono hb.size)
  refine hK _ _ rfl ?_; clear hK K hn
  apply wpSq_end
  refine hK1 _ _ ?_
  refine wp_seq_k ?_
  intro K2 hK2
  refine wp_region_sq [0, 1, 2] (by kernel_rfl) ?_
  refine wpSq_call rfl (by kernel_rfl) fun K hK => ?_
  obtain ⟨d0, d1, d2, d3⟩ := x_b2.f4
  go_big_op; refine hK _ _ rfl ?_; clear hK K d0 d1 d2 d3
  refine wpSq_call rfl (by kernel_rfl) fun K hK => ?_
  go_big_op
  go_fit (gdigits_any (PN.mk' hq1 hq2) (by omega) (by omega))
  rintro e w_4 ⟨rfl, hb_4⟩
  replace ha1 := ha1.bl hb_4; replace ha2 := ha2.bl hb_4; replace hq1 := hq1.bl hb_4; replace hq2 := hq2.bl hb_4; replace x_b1 := x_b1.bl hb_4; replace x_b2 := x_b2.bl hb_4; replace x_b3 := x_b3.bl hb_4; replace hb := hb.trans (hb_4.mono hb.size)
  rw [HS.out]
  refine hK _ _ rfl ?_
  clear hK K hb_4
  refine wpSq_call rfl (by kernel_rfl) fun K hK => ?_
  go_big_move; refine hK _ _ rfl ?_; clear hK K
  apply wpSq_end
  refine hK2 _ _ ?_
  refine wp_seq_k ?_
  intro K3 hK3
  refine wp_seq_k ?_
  intro K4 hK4
  refine wp_region_sq [0, 1, 2] (by kernel_rfl) ?_
  refine wpSq_call rfl (by kernel_rfl) fun K hK => ?_
  go_big_move; refine hK _ _ rfl ?_; clear hK K
  refine wpSq_call rfl (by kernel_rfl) fun K hK => ?_
  go_big_op; refine hK _ _ rfl ?_; clear hK K
  refine wpSq_call rfl (by kernel_rfl) fun K hK => ?_
  go_big_move; refine hK _ _ rfl ?_; clear hK K
  apply wpSq_end
  refine hK4 _ _ ?_
  refine wp_seq_k ?_
  intro K5 hK5
  refine wp_region_sq [0, 1, 2, 3, 4, 5, 6, 7, 8] (by kernel_rfl) ?_
  refine wpSq_call rfl (by kernel_rfl) fun K hK => ?_
  go_big_move; refine hK _ _ rfl ?_; clear hK K
  refine wpSq_call rfl (by kernel_rfl) fun K hK => ?_
  go_big_op; refine hK _ _ rfl ?_; clear hK K
  refine wpSq_call rfl (by kernel_rfl) fun K hK => ?_
  go_big_move; refine hK _ _ rfl ?_; clear hK K
  apply wpSq_skip
  case hi => rfl
  case hw => kernel_rfl
  case hp => unfold Act.put; simp only [List.setIfInBounds_toArray, List.set_cons_succ, List.set_cons_zero]; rfl
  apply wpSq_skip
  case hi => rfl
  case hw => kernel_rfl
  case hp => unfold Act.put; simp only [List.setIfInBounds_toArray, List.set_cons_succ, List.set_cons_zero]; rfl
  apply wpSq_skip
  case hi => rfl
  case hw => kernel_rfl
  case hp => unfold Act.put; simp only [List.setIfInBounds_toArray, List.set_cons_succ, List.set_cons_zero]; rfl
  apply wpSq_skip
  case hi => rfl
  case hw => kernel_rfl
  case hp => unfold Act.put; simp only [List.setIfInBounds_toArray, List.set_cons_succ, List.set_cons_zero]; rfl
  apply wpSq_skip
  case hi => rfl
  case hw => kernel_rfl
  case hp => unfold Act.put; simp only [List.setIfInBounds_toArray, List.set_cons_succ, List.set_cons_zero]; rfl
  refine wpSq_call rfl (by kernel_rfl) fun K hK => ?_
  go_big_op; refine hK _ _ rfl ?_; clear hK K
  apply wpSq_end
  refine hK5 _ _ ?_
  refine wp_cond_false (congrArg Value.bool (show _ = false from (by first | rfl | assumption | (simp; done) | exact decide_eq_false (by omega) | omega))) ?_
  refine wp_skip ?_
  refine hK3 _ _ ?_
  refine wp_seq_k ?_
  intro K6 hK6
  refine wp_region_sq [0, 1, 2, 3, 4, 5, 6, 7, 8, 9, 10, 11] (by kernel_rfl) ?_
  refine wpSq_call rfl (by kernel_rfl) fun K hK => ?_
  obtain ⟨d0, d1, d2, d3⟩ := x_b1.f4
  go_big_op; refine hK _ _ rfl ?_; clear hK K d0 d1 d2 d3
  refine wpSq_call rfl (by kernel_rfl) fun K hK => ?_
  obtain ⟨d0, d1, d2, d3⟩ := x_b2.f4
  go_big_op; refine hK _ _ rfl ?_; clear hK K d0 d1 d2 d3
  refine wpSq_call rfl (by kernel_rfl) fun K hK => ?_
  go_big_op
  go_fit (gRound_any (PN.mk' ha1 ha2) (PN.mk' hq1 hq2) (by omega) (by omega) (by omega) (by omega) H0.out)
  rintro e w_5 ⟨_, _, rfl, ⟨n_ga, o_ga, k_ga, c_ga, n_gb, o_gb, k_gb, c_gb, rfl, g1, g2⟩, ⟨n_ra, o_ra, k_ra, c_ra, n_rb, o_rb, k_rb, c_rb, rfl, r1, r2⟩, hb_5⟩
  clear x_b1 x_b2
  replace ha1 := ha1.bl hb_5; replace ha2 := ha2.bl hb_5; replace hq1 := hq1.bl hb_5; replace hq2 := hq2.bl hb_5; replace x_b3 := x_b3.bl hb_5; replace hb := hb.trans (hb_5.mono hb.size)
  have Lg1 := hide (g1.lenOf (rnd_len (H0.out) (zlen_gT1 (ha1.len) (ha2.len) (hq1.len) (hq2.len))))
  have Lg2 := hide (g2.lenOf (rnd_len (H0.out) (zlen_gT2 (ha1.len) (ha2.len) (hq1.len) (hq2.len))))
  have Lr1 := hide (r1.lenOf (zlen_gR1 (ha1.len) (ha2.len) (hq1.len) (hq2.len) (H0.out)))
  have Lr2 := hide (r2.lenOf (zlen_gR2 (ha1.len) (ha2.len) (hq1.len) (hq2.len) (H0.out)))
  refine hK _ _ rfl ?_
  clear hK K hb_5
  refine wpSq_call rfl (by kernel_rfl) fun K hK => ?_
  go_big_move; refine hK _ _ rfl ?_; clear hK K
  refine wpSq_call rfl (by kernel_rfl) fun K hK => ?_
  go_big_op; refine hK _ _ rfl ?_; clear hK K
  refine wpSq_call rfl (by kernel_rfl) fun K hK => ?_
  go_big_op; refine hK _ _ rfl ?_; clear hK K
  refine wpSq_call rfl (by kernel_rfl) fun K hK => ?_
  go_big_op; refine hK _ _ rfl ?_; clear hK K
  refine wpSq_call rfl (by kernel_rfl) fun K hK => ?_
  go_big_op
  clear ha1 ha2 hq1 hq2
  have lt_b3 := x_b3.lt
  obtain ⟨p_b4, w_6, eP, eW, x_b4, hn, kb_b4⟩ := newBox w_5 #[.bool false, .slice none 0 0, .bool false, .slice none 0 0] 26 hb.size
  have ne_b3_b4 : Hid (p_b3 ≠ p_b4) := Nat.ne_of_lt (eP ▸ lt_b3)
  rw [eW, eP]
  clear eW eP lt_b3
  replace x_b3 := x_b3.bl hn; replace g1 := g1.bl hn; replace g2 := g2.bl hn; replace r1 := r1.bl hn; replace r2 := r2.bl hn; replace hb := hb.trans (hn.mono hb.size)
  refine hK _ _ rfl ?_; clear hK K hn
  refine wpSq_call rfl (by kernel_rfl) fun K hK => ?_
  go_big_op
  have lt_b3 := x_b3.lt
  have lt_b4 := x_b4.lt
  obtain ⟨p_b5, w_7, eP, eW, x_b5, hn, kb_b5⟩ := newBox w_6 #[.bool false, .slice none 0 0, .bool false, .slice none 0 0] 26 hb.size
  have ne_b3_b5 : Hid (p_b3 ≠ p_b5) := Nat.ne_of_lt (eP ▸ lt_b3)
  have ne_b4_b5 : Hid (p_b4 ≠ p_b5) := Nat.ne_of_lt (eP ▸ lt_b4)
  rw [eW, eP]
  clear eW eP lt_b3 lt_b4
  replace x_b3 := x_b3.bl hn; replace g1 := g1.bl hn; replace g2 := g2.bl hn; replace r1 := r1.bl hn; replace r2 := r2.bl hn; replace x_b4 := x_b4.bl hn; replace hb := hb.trans (hn.mono hb.size)
  refine hK _ _ rfl ?_; clear hK K hn
  refine wpSq_call rfl (by kernel_rfl) fun K hK => ?_
  obtain ⟨d0, d1, d2, d3⟩ := x_b4.f4
  have f0 := x_b4.free 0; have f1 := x_b4.free 1; have f2 := x_b4.free 2; have f3 := x_b4.free 3
  go_big_op
  have hnd := x_b4.nod rfl rfl
  obtain ⟨w_8, eW, x_b4', ho⟩ : ∃ w', ((((w_7.setCell ⟨p_b4, 0, none⟩ (.bool n_ga)).setCell ⟨p_b4, 1, none⟩ (.slice o_ga k_ga c_ga)).setCell ⟨p_b4, 2, none⟩ (.bool n_gb)).setCell ⟨p_b4, 3, none⟩ (.slice o_gb k_gb c_gb)) = w' ∧ Bs w' p_b4 #[.bool n_ga, .slice o_ga k_ga c_ga, .bool n_gb, .slice o_gb k_gb c_gb] 26 ∧ Only p_b4 w_7 w' := x_b4.setN [(0, .bool n_ga), (1, .slice o_ga k_ga c_ga), (2, .bool n_gb), (3, .slice o_gb k_gb c_gb)]
  rw [eW]; clear eW d0 d1 d2 d3 f0 f1 f2 f3 x_b4
  have x_b4 := x_b4'; clear x_b4'
  replace x_b3 := x_b3.frame ho ne_b3_b4; replace g1 := g1.fr hnd ho; replace g2 := g2.fr hnd ho; replace r1 := r1.fr hnd ho; replace r2 := r2.fr hnd ho; replace x_b5 := x_b5.frame ho ne_b4_b5.symm; replace hb := belowOnly hb ho kb_b4
  refine hK _ _ rfl ?_; clear hK K ho hnd
  refine wpSq_call rfl (by kernel_rfl) fun K hK => ?_
  obtain ⟨d0, d1, d2, d3⟩ := x_b5.f4
  have f0 := x_b5.free 0; have f1 := x_b5.free 1; have f2 := x_b5.free 2; have f3 := x_b5.free 3
  go_big_op
  have hnd := x_b5.nod rfl rfl
  obtain ⟨w_9, eW, x_b5', ho⟩ : ∃ w', ((((w_8.setCell ⟨p_b5, 0, none⟩ (.bool n_ra)).setCell ⟨p_b5, 1, none⟩ (.slice o_ra k_ra c_ra)).setCell ⟨p_b5, 2, none⟩ (.bool n_rb)).setCell ⟨p_b5, 3, none⟩ (.slice o_rb k_rb c_rb)) = w' ∧ Bs w' p_b5 #[.bool n_ra, .slice o_ra k_ra c_ra, .bool n_rb, .slice o_rb k_rb c_rb] 26 ∧ Only p_b5 w_8 w' := x_b5.setN [(0, .bool n_ra), (1, .slice o_ra k_ra c_ra), (2, .bool n_rb), (3, .slice o_rb k_rb c_rb)]
  rw [eW]; clear eW d0 d1 d2 d3 f0 f1 f2 f3 x_b5
  have x_b5 := x_b5'; clear x_b5'
  replace x_b3 := x_b3.frame ho ne_b3_b5; replace g1 := g1.fr hnd ho; replace g2 := g2.fr hnd ho; replace r1 := r1.fr hnd ho; replace r2 := r2.fr hnd ho; replace x_b4 := x_b4.frame ho ne_b4_b5; replace hb := belowOnly hb ho kb_b5
  refine hK _ _ rfl ?_; clear hK K ho hnd
  refine wpSq_call rfl (by kernel_rfl) fun K hK => ?_
  go_big_move; refine hK _ _ rfl ?_; clear hK K
  apply wpSq_end
  refine hK6 _ _ ?_
  refine wp_seq_k ?_
  intro K7 hK7
  refine wp_region_sq [0, 1] (by kernel_rfl) ?_
  refine wpSq_call rfl (by kernel_rfl) fun K hK => ?_
  obtain ⟨d0, d1, d2, d3⟩ := x_b4.f4
  go_big_op; refine hK _ _ rfl ?_; clear hK K d0 d1 d2 d3
  refine wpSq_call rfl (by kernel_rfl) fun K hK => ?_
  obtain ⟨d0, d1, d2, d3⟩ := x_b3.f4
  have f0 := x_b3.free 0; have f1 := x_b3.free 1; have f2 := x_b3.free 2; have f3 := x_b3.free 3
  go_big_op
  have hnd := x_b3.nod rfl rfl
  obtain ⟨w_10, eW, x_b3', ho⟩ : ∃ w', ((((w_9.setCell ⟨p_b3, 0, none⟩ (.bool n_ga)).setCell ⟨p_b3, 1, none⟩ (.slice o_ga k_ga c_ga)).setCell ⟨p_b3, 2, none⟩ (.bool n_gb)).setCell ⟨p_b3, 3, none⟩ (.slice o_gb k_gb c_gb)) = w' ∧ Bs w' p_b3 #[.bool n_ga, .slice o_ga k_ga c_ga, .bool n_gb, .slice o_gb k_gb c_gb] 26 ∧ Only p_b3 w_9 w' := x_b3.setN [(0, .bool n_ga), (1, .slice o_ga k_ga c_ga), (2, .bool n_gb), (3, .slice o_gb k_gb c_gb)]
  rw [eW]; clear eW d0 d1 d2 d3 f0 f1 f2 f3 x_b3
  have x_b3 := x_b3'; clear x_b3'
  clear r1 r2 x_b4 x_b5
  replace g1 := g1.fr hnd ho; replace g2 := g2.fr hnd ho; replace hb := belowOnly hb ho kb_b3
  refine hK _ _ rfl ?_; clear hK K ho hnd
  apply wpSq_end
  refine hK7 _ _ ?_
  refine wp_ret ?_
  try dsimp only [Exit.then, Exit.inBlock]
  obtain ⟨r0_0, r0_1, r0_2, r0_3⟩ := x_b3.f4
  refine bodyPost_ret (v := (.agg #[.bool n_ga, .slice o_ga k_ga c_ga, .bool n_gb, .slice o_gb k_gb c_gb])) (by simp [results, Tryd.results88, go_sem, r0_0, r0_1, r0_2, r0_3]) rfl ?_
  exact ⟨_, rfl, .mk' g1 g2, hb⟩
set_option maxHeartbeats 4000000 in
set_option maxRecDepth 20000 in
theorem quot_long (ha : PN w va x l y m) (hq : PN w vb u k v n) (hl : l ≤ 8000000) (hm : m ≤ 8000000) (hk : k ≤ 8000000) (hn : n ≤ 8000000) (h0 : gN u v ≠ 0) (h1 : 5 < gdig u v) (h2 : gdig u v + 1 < gdig x y) :
    Calls Tryd.prog 88 #[va, vb] w fun e w' => ∃ r, e = .returned r ∧ PC w' r (gQ1 x y u v) (gQ2 x y u v) ∧ Below w.heap.size w w' := by
  have H0 := hide h0
  obtain ⟨S, hS⟩ : ∃ S, gdig u v = S := ⟨_, rfl⟩
  obtain ⟨D, hD⟩ : ∃ D, gdig x y = D := ⟨_, rfl⟩
  have hSb : S ≤ 16000000 := by rw [← hS]; exact gdig_le hq.len1 hq.len2 hk hn
  have hDb : D ≤ 16000000 := by rw [← hD]; exact gdig_le ha.len1 ha.len2 hl hm
  rw [hS] at h1 h2
  rw [hD] at h2
  have HS := hide hS
  have HD := hide hD
  have hg : (0 < (S : Int) - 5) = True := eq_true (by omega)
  have hgA : (5 < (S : Int)) = True := eq_true (by omega)
  have hgB : (5 < S) = True := eq_true (by omega)
  have hg2 : ((D : Int) ≤ (S : Int) + 1) = False := eq_false (by omega)
  have hg3 : (D ≤ S + 1) = False := eq_false (by omega)
  clear h0 hS hD
  obtain ⟨n_0a, o_0a, k_0a, c_0a, n_0b, o_0b, k_0b, c_0b, rfl, ha1, ha2⟩ := ha
  obtain ⟨n_1a, o_1a, k_1a, c_1a, n_1b, o_1b, k_1b, c_1b, rfl, hq1, hq2⟩ := hq
  go_enter Tryd.func88, Tryd.ntmps88
  have hb := Below.refl w.heap.size w
  refine wp_seq_k ?_
  intro K1 hK1
  refine wp_region_sq [0, 1, 2] (by kernel_rfl) ?_
  refine wpSq_call rfl (by kernel_rfl) fun K hK => ?_
  go_big_op
  obtain ⟨p_b1, w_1, eP, eW, x_b1, hn, kb_b1⟩ := newBox w #[.bool n_0a, .slice o_0a k_0a c_0a, .bool n_0b, .slice o_0b k_0b c_0b] 26 hb.size
  rw [eW, eP]
  clear eW eP
  replace ha1 := ha1.bl hn; replace ha2 := ha2.bl hn; replace hq1 := hq1.bl hn; replace hq2 := hq2.bl hn; replace hb := hb.trans (hn.mono hb.size)
  refine hK _ _ rfl ?_; clear hK K hn
  refine wpSq_call rfl (by kernel_rfl) fun K hK => ?_
  go_big_op
  have lt_b1 := x_b1.lt
  obtain ⟨p_b2, w_2, eP, eW, x_b2, hn, kb_b2⟩ := newBox w_1 #[.bool n_1a, .slice o_1a k_1a c_1a, .bool n_1b, .slice o_1b k_1b c_1b] 26 hb.size
  have ne_b1_b2 : Hid (p_b1 ≠ p_b2) := Nat.ne_of_lt (eP ▸ lt_b1)
  rw [eW, eP]
  clear eW eP lt_b1
  replace ha1 := ha1.bl hn; replace ha2 := ha2.bl hn; replace hq1 := hq1.bl hn; replace hq2 := hq2.bl hn; replace x_b1 := x_b1.bl hn; replace hb := hb.trans (hn.mono hb.size)
  refine hK _ _ rfl ?_; clear hK K hn
  refine wpSq_call rfl (by kernel_rfl) fun K hK => ?_
  go_big_op
  have lt_b1 := x_b1.lt
  have lt_b2 := x_b2.lt
  obtain ⟨p_b3, w_3, eP, eW, x_b3, hn, kb_b3⟩ := newBox w_2 #[.bool false, .slice none 0 0, .bool false, .slice none 0 0] 26 hb.size
  have ne_b1_b3 : Hid (p_b1 ≠ p_b3) := Nat.ne_of_lt (eP ▸ lt_b1)
  have ne_b2_b3 : Hid (p_b2 ≠ p_b3) := Nat.ne_of_lt (eP ▸ lt_b2)
  rw [eW, eP]
  clear eW eP lt_b1 lt_b2
  replace ha1 := ha1.bl hn; replace ha2 := ha2.bl hn; replace hq1 := hq1.bl hn; replace hq2 := hq2.bl hn; replace x_b1 := x_b1.bl hn; replace x_b2 := x_b2.bl hn; replace hb := hb.trans (hn.mono hb.size)
  refine hK _ _ rfl ?_; clear hK K hn
  apply wpSq_end
  refine hK1 _ _ ?_
  refine wp_seq_k ?_
  intro K2 hK2
  refine wp_region_sq [0, 1, 2] (by kernel_rfl) ?_
  refine wpSq_call rfl (by kernel_rfl) fun K hK => ?_
  obtain ⟨d0, d1, d2, d3⟩ := x_b2.f4
  go_big_op; refine hK _ _ rfl ?_; clear hK K d0 d1 d2 d3
  refine wpSq_call rfl (by kernel_rfl) fun K hK => ?_
  go_big_op
  go_fit (gdigits_any (PN.mk' hq1 hq2) (by omega) (by omega))
  rintro e w_4 ⟨rfl, hb_4⟩
  replace ha1 := ha1.bl hb_4; replace ha2 := ha2.bl hb_4; replace hq1 := hq1.bl hb_4; replace hq2 := hq2.bl hb_4; replace x_b1 := x_b1.bl hb_4; replace x_b2 := x_b2.bl hb_4; replace x_b3 := x_b3.bl hb_4; replace hb := hb.trans (hb_4.mono hb.size)
  rw [HS.out]
  refine hK _ _ rfl ?_
  clear hK K hb_4
  refine wpSq_call rfl (by kernel_rfl) fun K hK => ?_
  go_big_move; refine hK _ _ rfl ?_; clear hK K
  apply wpSq_end
  refine hK2 _ _ ?_
  refine wp_seq_k ?_
  intro K3 hK3
  refine wp_seq_k ?_
  intro K4 hK4
  refine wp_region_sq [0, 1, 2] (by kernel_rfl) ?_
  refine wpSq_call rfl (by kernel_rfl) fun K hK => ?_
  go_big_move; refine hK _ _ rfl ?_; clear hK K
  refine wpSq_call rfl (by kernel_rfl) fun K hK => ?_
  go_big_op; refine hK _ _ rfl ?_; clear hK K
  refine wpSq_call rfl (by kernel_rfl) fun K hK => ?_
  go_big_move; refine hK _ _ rfl ?_; clear hK K
  apply wpSq_end
  refine hK4 _ _ ?_
  refine wp_seq_k ?_
  intro K5 hK5
  refine wp_region_sq [0, 1, 2, 3, 4, 5, 6, 7, 8] (by kernel_rfl) ?_
  refine wpSq_call rfl (by kernel_rfl) fun K hK => ?_
  go_big_move; refine hK _ _ rfl ?_; clear hK K
  refine wpSq_call rfl (by kernel_rfl) fun K hK => ?_
  go_big_op; refine hK _ _ rfl ?_; clear hK K
  refine wpSq_call rfl (by kernel_rfl) fun K hK => ?_
  go_big_move; refine hK _ _ rfl ?_; clear hK K
  refine wpSq_call rfl (by kernel_rfl) fun K hK => ?_
  obtain ⟨d0, d1, d2, d3⟩ := x_b1.f4
  go_big_op; refine hK _ _ rfl ?_; clear hK K d0 d1 d2 d3
  refine wpSq_call rfl (by kernel_rfl) fun K hK => ?_
  go_big_op
  go_fit (gdigits_any (PN.mk' ha1 ha2) (by omega) (by omega))
  rintro e w_5 ⟨rfl, hb_5⟩
  replace ha1 := ha1.bl hb_5; replace ha2 := ha2.bl hb_5; replace hq1 := hq1.bl hb_5; replace hq2 := hq2.bl hb_5; replace x_b1 := x_b1.bl hb_5; replace x_b2 := x_b2.bl hb_5; replace x_b3 := x_b3.bl hb_5; replace hb := hb.trans (hb_5.mono hb.size)
  rw [HD.out]
  refine hK _ _ rfl ?_
  clear hK K hb_5
  refine wpSq_call rfl (by kernel_rfl) fun K hK => ?_
  go_big_move; refine hK _ _ rfl ?_; clear hK K
  refine wpSq_call rfl (by kernel_rfl) fun K hK => ?_
  go_big_op; refine hK _ _ rfl ?_; clear hK K
  refine wpSq_call rfl (by kernel_rfl) fun K hK => ?_
  go_big_op; refine hK _ _ rfl ?_; clear hK K
  refine wpSq_call rfl (by kernel_rfl) fun K hK => ?_
  go_big_op; refine hK _ _ rfl ?_; clear hK K
  apply wpSq_end
  refine hK5 _ _ ?_
  refine wp_cond_false (congrArg Value.bool (show _ = false from (by first | rfl | assumption | (simp; done) | exact decide_eq_false (by omega) | omega))) ?_
  refine wp_skip ?_
  refine hK3 _ _ ?_
  refine wp_seq_k ?_
  intro K6 hK6
  refine wp_region_sq [0, 1, 2, 3, 4, 5, 6, 7, 8, 9, 10, 11] (by kernel_rfl) ?_
  refine wpSq_call rfl (by kernel_rfl) fun K hK => ?_
  obtain ⟨d0, d1, d2, d3⟩ := x_b1.f4
  go_big_op; refine hK _ _ rfl ?_; clear hK K d0 d1 d2 d3
  refine wpSq_call rfl (by kernel_rfl) fun K hK => ?_
  obtain ⟨d0, d1, d2, d3⟩ := x_b2.f4
  go_big_op; refine hK _ _ rfl ?_; clear hK K d0 d1 d2 d3
  refine wpSq_call rfl (by kernel_rfl) fun K hK => ?_
  go_big_op
  go_fit (gRound_any (PN.mk' ha1 ha2) (PN.mk' hq1 hq2) (by omega) (by omega) (by omega) (by omega) H0.out)
  rintro e w_6 ⟨_, _, rfl, ⟨n_ga, o_ga, k_ga, c_ga, n_gb, o_gb, k_gb, c_gb, rfl, g1, g2⟩, ⟨n_ra, o_ra, k_ra, c_ra, n_rb, o_rb, k_rb, c_rb, rfl, r1, r2⟩, hb_6⟩
  clear x_b1 x_b2
  replace ha1 := ha1.bl hb_6; replace ha2 := ha2.bl hb_6; replace hq1 := hq1.bl hb_6; replace hq2 := hq2.bl hb_6; replace x_b3 := x_b3.bl hb_6; replace hb := hb.trans (hb_6.mono hb.size)
  have Lg1 := hide (g1.lenOf (rnd_len (H0.out) (zlen_gT1 (ha1.len) (ha2.len) (hq1.len) (hq2.len))))
  have Lg2 := hide (g2.lenOf (rnd_len (H0.out) (zlen_gT2 (ha1.len) (ha2.len) (hq1.len) (hq2.len))))
  have Lr1 := hide (r1.lenOf (zlen_gR1 (ha1.len) (ha2.len) (hq1.len) (hq2.len) (H0.out)))
  have Lr2 := hide (r2.lenOf (zlen_gR2 (ha1.len) (ha2.len) (hq1.len) (hq2.len) (H0.out)))
  refine hK _ _ rfl ?_
  clear hK K hb_6
  refine wpSq_call rfl (by kernel_rfl) fun K hK => ?_
  go_big_move; refine hK _ _ rfl ?_; clear hK K
  refine wpSq_call rfl (by kernel_rfl) fun K hK => ?_
  go_big_op; refine hK _ _ rfl ?_; clear hK K
  refine wpSq_call rfl (by kernel_rfl) fun K hK => ?_
  go_big_op; refine hK _ _ rfl ?_; clear hK K
  refine wpSq_call rfl (by kernel_rfl) fun K hK => ?_
  go_big_op; refine hK _ _ rfl ?_; clear hK K
  refine wpSq_call rfl (by kernel_rfl) fun K hK => ?_
  go_big_op
  clear ha1 ha2 hq1 hq2
  have lt_b3 := x_b3.lt
  obtain ⟨p_b4, w_7, eP, eW, x_b4, hn, kb_b4⟩ := newBox w_6 #[.bool false, .slice none 0 0, .bool false, .slice none 0 0] 26 hb.size
  have ne_b3_b4 : Hid (p_b3 ≠ p_b4) := Nat.ne_of_lt (eP ▸ lt_b3)
  rw [eW, eP]
  clear eW eP lt_b3
  replace x_b3 := x_b3.bl hn; replace g1 := g1.bl hn; replace g2 := g2.bl hn; replace r1 := r1.bl hn; replace r2 := r2.bl hn; replace hb := hb.trans (hn.mono hb.size)
  refine hK _ _ rfl ?_; clear hK K hn
  refine wpSq_call rfl (by kernel_rfl) fun K hK => ?_
  go_big_op
  have lt_b3 := x_b3.lt
  have lt_b4 := x_b4.lt
  obtain ⟨p_b5, w_8, eP, eW, x_b5, hn, kb_b5⟩ := newBox w_7 #[.bool false, .slice none 0 0, .bool false, .slice none 0 0] 26 hb.size
  have ne_b3_b5 : Hid (p_b3 ≠ p_b5) := Nat.ne_of_lt (eP ▸ lt_b3)
  have ne_b4_b5 : Hid (p_b4 ≠ p_b5) := Nat.ne_of_lt (eP ▸ lt_b4)
  rw [eW, eP]
  clear eW eP lt_b3 lt_b4
  replace x_b3 := x_b3.bl hn; replace g1 := g1.bl hn; replace g2 := g2.bl hn; replace r1 := r1.bl hn; replace r2 := r2.bl hn; replace x_b4 := x_b4.bl hn; replace hb := hb.trans (hn.mono hb.size)
  refine hK _ _ rfl ?_; clear hK K hn
  refine wpSq_call rfl (by kernel_rfl) fun K hK => ?_
  obtain ⟨d0, d1, d2, d3⟩ := x_b4.f4
  have f0 := x_b4.free 0; have f1 := x_b4.free 1; have f2 := x_b4.free 2; have f3 := x_b4.free 3
  go_big_op
  have hnd := x_b4.nod rfl rfl
  obtain ⟨w_9, eW, x_b4', ho⟩ : ∃ w', ((((w_8.setCell ⟨p_b4, 0, none⟩ (.bool n_ga)).setCell ⟨p_b4, 1, none⟩ (.slice o_ga k_ga c_ga)).setCell ⟨p_b4, 2, none⟩ (.bool n_gb)).setCell ⟨p_b4, 3, none⟩ (.slice o_gb k_gb c_gb)) = w' ∧ Bs w' p_b4 #[.bool n_ga, .slice o_ga k_ga c_ga, .bool n_gb, .slice o_gb k_gb c_gb] 26 ∧ Only p_b4 w_8 w' := x_b4.setN [(0, .bool n_ga), (1, .slice o_ga k_ga c_ga), (2, .bool n_gb), (3, .slice o_gb k_gb c_gb)]
  rw [eW]; clear eW d0 d1 d2 d3 f0 f1 f2 f3 x_b4
  have x_b4 := x_b4'; clear x_b4'
  replace x_b3 := x_b3.frame ho ne_b3_b4; replace g1 := g1.fr hnd ho; replace g2 := g2.fr hnd ho; replace r1 := r1.fr hnd ho; replace r2 := r2.fr hnd ho; replace x_b5 := x_b5.frame ho ne_b4_b5.symm; replace hb := belowOnly hb ho kb_b4
  refine hK _ _ rfl ?_; clear hK K ho hnd
  refine wpSq_call rfl (by kernel_rfl) fun K hK => ?_
  obtain ⟨d0, d1, d2, d3⟩ := x_b5.f4
  have f0 := x_b5.free 0; have f1 := x_b5.free 1; have f2 := x_b5.free 2; have f3 := x_b5.free 3
  go_big_op
  have hnd := x_b5.nod rfl rfl
  obtain ⟨w_10, eW, x_b5', ho⟩ : ∃ w', ((((w_9.setCell ⟨p_b5, 0, none⟩ (.bool n_ra)).setCell ⟨p_b5, 1, none⟩ (.slice o_ra k_ra c_ra)).setCell ⟨p_b5, 2, none⟩ (.bool n_rb)).setCell ⟨p_b5, 3, none⟩ (.slice o_rb k_rb c_rb)) = w' ∧ Bs w' p_b5 #[.bool n_ra, .slice o_ra k_ra c_ra, .bool n_rb, .slice o_rb k_rb c_rb] 26 ∧ Only p_b5 w_9 w' := x_b5.setN [(0, .bool n_ra), (1, .slice o_ra k_ra c_ra), (2, .bool n_rb), (3, .slice o_rb k_rb c_rb)]
  rw [eW]; clear eW d0 d1 d2 d3 f0 f1 f2 f3 x_b5
  have x_b5 := x_b5'; clear x_b5'
  replace x_b3 := x_b3.frame ho ne_b3_b5; replace g1 := g1.fr hnd ho; replace g2 := g2.fr hnd ho; replace r1 := r1.fr hnd ho; replace r2 := r2.fr hnd ho; replace x_b4 := x_b4.frame ho ne_b4_b5; replace hb := belowOnly hb ho kb_b5
  refine hK _ _ rfl ?_; clear hK K ho hnd
  refine wpSq_call rfl (by kernel_rfl) fun K hK => ?_
  go_big_move; refine hK _ _ rfl ?_; clear hK K
  apply wpSq_end
  refine hK6 _ _ ?_
  refine wp_seq_k ?_
  intro K7 hK7
  refine wp_region_sq [0, 1] (by kernel_rfl) ?_
  refine wpSq_call rfl (by kernel_rfl) fun K hK => ?_
  obtain ⟨d0, d1, d2, d3⟩ := x_b4.f4
  go_big_op; refine hK _ _ rfl ?_; clear hK K d0 d1 d2 d3
  refine wpSq_call rfl (by kernel_rfl) fun K hK => ?_
  obtain ⟨d0, d1, d2, d3⟩ := x_b3.f4
  have f0 := x_b3.free 0; have f1 := x_b3.free 1; have f2 := x_b3.free 2; have f3 := x_b3.free 3
  go_big_op
  have hnd := x_b3.nod rfl rfl
  obtain ⟨w_11, eW, x_b3', ho⟩ : ∃ w', ((((w_10.setCell ⟨p_b3, 0, none⟩ (.bool n_ga)).setCell ⟨p_b3, 1, none⟩ (.slice o_ga k_ga c_ga)).setCell ⟨p_b3, 2, none⟩ (.bool n_gb)).setCell ⟨p_b3, 3, none⟩ (.slice o_gb k_gb c_gb)) = w' ∧ Bs w' p_b3 #[.bool n_ga, .slice o_ga k_ga c_ga, .bool n_gb, .slice o_gb k_gb c_gb] 26 ∧ Only p_b3 w_10 w' := x_b3.setN [(0, .bool n_ga), (1, .slice o_ga k_ga c_ga), (2, .bool n_gb), (3, .slice o_gb k_gb c_gb)]
  rw [eW]; clear eW d0 d1 d2 d3 f0 f1 f2 f3 x_b3
  have x_b3 := x_b3'; clear x_b3'
  clear r1 r2 x_b4 x_b5
  replace g1 := g1.fr hnd ho; replace g2 := g2.fr hnd ho; replace hb := belowOnly hb ho kb_b3
  refine hK _ _ rfl ?_; clear hK K ho hnd
  apply wpSq_end
  refine hK7 _ _ ?_
  refine wp_ret ?_
  try dsimp only [Exit.then, Exit.inBlock]
  obtain ⟨r0_0, r0_1, r0_2, r0_3⟩ := x_b3.f4
  refine bodyPost_ret (v := (.agg #[.bool n_ga, .slice o_ga k_ga c_ga, .bool n_gb, .slice o_gb k_gb c_gb])) (by simp [results, Tryd.results88, go_sem, r0_0, r0_1, r0_2, r0_3]) rfl ?_
  exact ⟨_, rfl, .mk' g1 g2, hb⟩
set_option maxHeartbeats 4000000 in
set_option maxRecDepth 20000 in
theorem quot_far {cut : Nat} (ha : PN w va x l y m) (hq : PN w vb u k v n) (hl : l ≤ 8000000) (hm : m ≤ 8000000) (hk : k ≤ 8000000) (hn : n ≤ 8000000) (h0 : gN u v ≠ 0) (hc : gdig u v = cut + 5) (hc0 : 0 < cut) (h2 : gdig x y ≤ gdig u v + 1) (hf : far (gR1 (tp x cut) (tp y cut) (tp u cut) (tp v cut)) (gR2 (tp x cut) (tp y cut) (tp u cut) (tp v cut)) (tp u cut) (tp v cut)) :
    Calls Tryd.prog 88 #[va, vb] w fun e w' => ∃ r, e = .returned r ∧ PC w' r (gQ1 x y u v) (gQ2 x y u v) ∧ Below w.heap.size w w' := by
  obtain ⟨hn0, hq1', hq2'⟩ := quot_top hc h2 hf
  have EQ := hide (And.intro hq1' hq2')
  have H0 := hide h0
  obtain ⟨S, hS⟩ : ∃ S, gdig u v = S := ⟨_, rfl⟩
  obtain ⟨D, hD⟩ : ∃ D, gdig x y = D := ⟨_, rfl⟩
  have hSb : S ≤ 16000000 := by rw [← hS]; exact gdig_le hq.len1 hq.len2 hk hn
  have hDb : D ≤ 16000000 := by rw [← hD]; exact gdig_le ha.len1 ha.len2 hl hm
  rw [hS] at hc h2
  rw [hD] at h2
  have HS := hide hS
  have HD := hide hD
  have hsub : (S : Int) - 5 = (cut : Int) := by omega
  have hg : (0 < (cut : Int)) = True := eq_true (by omega)
  have hg1 : (0 < cut) = True := eq_true hc0
  have hg2 : ((D : Int) ≤ (S : Int) + 1) = True := eq_true (by omega)
  have hg3 : (D ≤ S + 1) = True := eq_true h2
  have HN := hide hn0
  have HF := hide hf
  have LA := hide (And.intro (tp_len (k := cut) ha.len1) (tp_len (k := cut) ha.len2))
  clear h0 hS hD hf hn0 hq1' hq2'
  obtain ⟨n_0a, o_0a, k_0a, c_0a, n_0b, o_0b, k_0b, c_0b, rfl, ha1, ha2⟩ := ha
  obtain ⟨n_1a, o_1a, k_1a, c_1a, n_1b, o_1b, k_1b, c_1b, rfl, hq1, hq2⟩ := hq
  go_enter Tryd.func88, Tryd.ntmps88
  have hb := Below.refl w.heap.size w
  refine wp_seq_k ?_
  intro K1 hK1
  refine wp_region_sq [0, 1, 2] (by kernel_rfl) ?_
  refine wpSq_call rfl (by kernel_rfl) fun K hK => ?_
  go_big_op
  obtain ⟨p_b1, w_1, eP, eW, x_b1, hn, kb_b1⟩ := newBox w #[.bool n_0a, .slice o_0a k_0a c_0a, .bool n_0b, .slice o_0b k_0b c_0b] 26 hb.size
  rw [eW, eP]
  clear eW eP
  replace ha1 := ha1.bl hn; replace ha2 := ha2.bl hn; replace hq1 := hq1.bl hn; replace hq2 := hq2.bl hn; replace hb := hb.trans (hn.mono hb.size)
  refine hK _ _ rfl ?_; clear hK K hn
  refine wpSq_call rfl (by kernel_rfl) fun K hK => ?_
  go_big_op
  have lt_b1 := x_b1.lt
  obtain ⟨p_b2, w_2, eP, eW, x_b2, hn, kb_b2⟩ := newBox w_1 #[.bool n_1a, .slice o_1a k_1a c_1a, .bool n_1b, .slice o_1b k_1b c_1b] 26 hb.size
  have ne_b1_b2 : Hid (p_b1 ≠ p_b2) := Nat.ne_of_lt (eP ▸ lt_b1)
  rw [eW, eP]
  clear eW eP lt_b1
  replace ha1 := ha1.bl hn; replace ha2 := ha2.bl hn; replace hq1 := hq1.bl hn; replace hq2 := hq2.bl hn; replace x_b1 := x_b1.bl hn; replace hb := hb.trans (hn.mono hb.size)
  refine hK _ _ rfl ?_; clear hK K hn
  refine wpSq_call rfl (by kernel_rfl) fun K hK => ?_
  go_big_op
  have lt_b1 := x_b1.lt
  have lt_b2 := x_b2.lt
  obtain ⟨p_b3, w_3, eP, eW, x_b3, hn, kb_b3⟩ := newBox w_2 #[.bool false, .slice none 0 0, .bool false, .slice none 0 0] 26 hb.size
  have ne_b1_b3 : Hid (p_b1 ≠ p_b3) := Nat.ne_of_lt (eP ▸ lt_b1)
  have ne_b2_b3 : Hid (p_b2 ≠ p_b3) := Nat.ne_of_lt (eP ▸ lt_b2)
  rw [eW, eP]
  clear eW eP lt_b1 lt_b2
  replace ha1 := ha1.bl hn; replace ha2 := ha2.bl hn; replace hq1 := hq1.bl hn; replace hq2 := hq2.bl hn; replace x_b1 := x_b1.bl hn; replace x_b2 := x_b2.bl hn; replace hb := hb.trans (hn.mono hb.size)
  refine hK _ _ rfl ?_; clear hK K hn
  apply wpSq_end
  refine hK1 _ _ ?_
  refine wp_seq_k ?_
  intro K2 hK2
  refine wp_region_sq [0, 1, 2] (by kernel_rfl) ?_
  refine wpSq_call rfl (by kernel_rfl) fun K hK => ?_
  obtain ⟨d0, d1, d2, d3⟩ := x_b2.f4
  go_big_op; refine hK _ _ rfl ?_; clear hK K d0 d1 d2 d3
  refine wpSq_call rfl (by kernel_rfl) fun K hK => ?_
  go_big_op
  go_fit (gdigits_any (PN.mk' hq1 hq2) (by omega) (by omega))
  rintro e w_4 ⟨rfl, hb_4⟩
  replace ha1 := ha1.bl hb_4; replace ha2 := ha2.bl hb_4; replace hq1 := hq1.bl hb_4; replace hq2 := hq2.bl hb_4; replace x_b1 := x_b1.bl hb_4; replace x_b2 := x_b2.bl hb_4; replace x_b3 := x_b3.bl hb_4; replace hb := hb.trans (hb_4.mono hb.size)
  rw [HS.out]
  refine hK _ _ rfl ?_
  clear hK K hb_4
  refine wpSq_call rfl (by kernel_rfl) fun K hK => ?_
  go_big_move; refine hK _ _ rfl ?_; clear hK K
  apply wpSq_end
  refine hK2 _ _ ?_
  refine wp_seq_k ?_
  intro K3 hK3
  refine wp_seq_k ?_
  intro K4 hK4
  refine wp_region_sq [0, 1, 2] (by kernel_rfl) ?_
  refine wpSq_call rfl (by kernel_rfl) fun K hK => ?_
  go_big_move; refine hK _ _ rfl ?_; clear hK K
  refine wpSq_call rfl (by kernel_rfl) fun K hK => ?_
  go_big_op; refine hK _ _ rfl ?_; clear hK K
  refine wpSq_call rfl (by kernel_rfl) fun K hK => ?_
  go_big_move; refine hK _ _ rfl ?_; clear hK K
  apply wpSq_end
  refine hK4 _ _ ?_
  refine wp_seq_k ?_
  intro K5 hK5
  refine wp_region_sq [0, 1, 2, 3, 4, 5, 6, 7, 8] (by kernel_rfl) ?_
  refine wpSq_call rfl (by kernel_rfl) fun K hK => ?_
  go_big_move; refine hK _ _ rfl ?_; clear hK K
  refine wpSq_call rfl (by kernel_rfl) fun K hK => ?_
  go_big_op; refine hK _ _ rfl ?_; clear hK K
  refine wpSq_call rfl (by kernel_rfl) fun K hK => ?_
  go_big_move; refine hK _ _ rfl ?_; clear hK K
  refine wpSq_call rfl (by kernel_rfl) fun K hK => ?_
  obtain ⟨d0, d1, d2, d3⟩ := x_b1.f4
  go_big_op; refine hK _ _ rfl ?_; clear hK K d0 d1 d2 d3
  refine wpSq_call rfl (by kernel_rfl) fun K hK => ?_
  go_big_op
  go_fit (gdigits_any (PN.mk' ha1 ha2) (by omega) (by omega))
  rintro e w_5 ⟨rfl, hb_5⟩
  replace ha1 := ha1.bl hb_5; replace ha2 := ha2.bl hb_5; replace hq1 := hq1.bl hb_5; replace hq2 := hq2.bl hb_5; replace x_b1 := x_b1.bl hb_5; replace x_b2 := x_b2.bl hb_5; replace x_b3 := x_b3.bl hb_5; replace hb := hb.trans (hb_5.mono hb.size)
  rw [HD.out]
  refine hK _ _ rfl ?_
  clear hK K hb_5
  refine wpSq_call rfl (by kernel_rfl) fun K hK => ?_
  go_big_move; refine hK _ _ rfl ?_; clear hK K
  refine wpSq_call rfl (by kernel_rfl) fun K hK => ?_
  go_big_op; refine hK _ _ rfl ?_; clear hK K
  refine wpSq_call rfl (by kernel_rfl) fun K hK => ?_
  go_big_op; refine hK _ _ rfl ?_; clear hK K
  refine wpSq_call rfl (by kernel_rfl) fun K hK => ?_
  go_big_op; refine hK _ _ rfl ?_; clear hK K
  apply wpSq_end
  refine hK5 _ _ ?_
  refine wp_cond_true (congrArg Value.bool (show _ = true from (by first | rfl | assumption | (simp; done) | exact decide_eq_true (by omega) | omega))) ?_
  refine wp_seq_k ?_
  intro K6 hK6
  refine wp_region_sq [0, 1, 2, 3, 4] (by kernel_rfl) ?_
  refine wpSq_call rfl (by kernel_rfl) fun K hK => ?_
  obtain ⟨d0, d1, d2, d3⟩ := x_b2.f4
  go_big_op; refine hK _ _ rfl ?_; clear hK K d0 d1 d2 d3
  refine wpSq_call rfl (by kernel_rfl) fun K hK => ?_
  go_big_move; refine hK _ _ rfl ?_; clear hK K
  refine wpSq_call rfl (by kernel_rfl) fun K hK => ?_
  go_big_op
  go_fit (gtop_any cut (PN.mk' hq1 hq2) (by omega) (by omega) (by omega))
  rintro e w_6 ⟨_, rfl, ⟨n_ta, o_ta, k_ta, c_ta, n_tb, o_tb, k_tb, c_tb, rfl, t1, t2⟩, hb_6⟩
  replace ha1 := ha1.bl hb_6; replace ha2 := ha2.bl hb_6; replace hq1 := hq1.bl hb_6; replace hq2 := hq2.bl hb_6; replace x_b1 := x_b1.bl hb_6; replace x_b2 := x_b2.bl hb_6; replace x_b3 := x_b3.bl hb_6; replace hb := hb.trans (hb_6.mono hb.size)
  refine hK _ _ rfl ?_
  clear hK K hb_6
  refine wpSq_call rfl (by kernel_rfl) fun K hK => ?_
  go_big_op
  have lt_b1 := x_b1.lt
  have lt_b2 := x_b2.lt
  have lt_b3 := x_b3.lt
  obtain ⟨p_b4, w_7, eP, eW, x_b4, hn, kb_b4⟩ := newBox w_6 #[.bool false, .slice none 0 0, .bool false, .slice none 0 0] 26 hb.size
  have ne_b1_b4 : Hid (p_b1 ≠ p_b4) := Nat.ne_of_lt (eP ▸ lt_b1)
  have ne_b2_b4 : Hid (p_b2 ≠ p_b4) := Nat.ne_of_lt (eP ▸ lt_b2)
  have ne_b3_b4 : Hid (p_b3 ≠ p_b4) := Nat.ne_of_lt (eP ▸ lt_b3)
  rw [eW, eP]
  clear eW eP lt_b1 lt_b2 lt_b3
  replace ha1 := ha1.bl hn; replace ha2 := ha2.bl hn; replace hq1 := hq1.bl hn; replace hq2 := hq2.bl hn; replace x_b1 := x_b1.bl hn; replace x_b2 := x_b2.bl hn; replace x_b3 := x_b3.bl hn; replace t1 := t1.bl hn; replace t2 := t2.bl hn; replace hb := hb.trans (hn.mono hb.size)
  refine hK _ _ rfl ?_; clear hK K hn
  refine wpSq_call rfl (by kernel_rfl) fun K hK => ?_
  obtain ⟨d0, d1, d2, d3⟩ := x_b4.f4
  have f0 := x_b4.free 0; have f1 := x_b4.free 1; have f2 := x_b4.free 2; have f3 := x_b4.free 3
  go_big_op
  have hnd := x_b4.nod rfl rfl
  obtain ⟨w_8, eW, x_b4', ho⟩ : ∃ w', ((((w_7.setCell ⟨p_b4, 0, none⟩ (.bool n_ta)).setCell ⟨p_b4, 1, none⟩ (.slice o_ta k_ta c_ta)).setCell ⟨p_b4, 2, none⟩ (.bool n_tb)).setCell ⟨p_b4, 3, none⟩ (.slice o_tb k_tb c_tb)) = w' ∧ Bs w' p_b4 #[.bool n_ta, .slice o_ta k_ta c_ta, .bool n_tb, .slice o_tb k_tb c_tb] 26 ∧ Only p_b4 w_7 w' := x_b4.setN [(0, .bool n_ta), (1, .slice o_ta k_ta c_ta), (2, .bool n_tb), (3, .slice o_tb k_tb c_tb)]
  rw [eW]; clear eW d0 d1 d2 d3 f0 f1 f2 f3 x_b4
  have x_b4 := x_b4'; clear x_b4'
  replace ha1 := ha1.fr hnd ho; replace ha2 := ha2.fr hnd ho; replace hq1 := hq1.fr hnd ho; replace hq2 := hq2.fr hnd ho; replace x_b1 := x_b1.frame ho ne_b1_b4; replace x_b2 := x_b2.frame ho ne_b2_b4; replace x_b3 := x_b3.frame ho ne_b3_b4; replace t1 := t1.fr hnd ho; replace t2 := t2.fr hnd ho; replace hb := belowOnly hb ho kb_b4
  refine hK _ _ rfl ?_; clear hK K ho hnd
  apply wpSq_end
  refine hK6 _ _ ?_
  refine wp_seq_k ?_
  intro K7 hK7
  refine wp_region_fl2 [(0, false), (1, false), (3, false), (2, true), (4, true), (5, false), (6, false), (7, false), (8, false)] [11, 12, 13] [9, 10] (fun j => if j = 9 then (.cells #[.bool false, .slice none 0 0, .bool false, .slice none 0 0] 26) else (.cells #[.bool false, .slice none 0 0, .bool false, .slice none 0 0] 26)) [0, 99, 99, 1, 99, 99, 99, 99, 99, 99, 99, 99, 99, 99] [] (fun w' => w'.cell? ⟨p_b1, 0, none⟩ = some (.bool n_0a) ∧ w'.cell? ⟨p_b1, 1, none⟩ = some (.slice o_0a k_0a c_0a) ∧ w'.cell? ⟨p_b1, 2, none⟩ = some (.bool n_0b) ∧ w'.cell? ⟨p_b1, 3, none⟩ = some (.slice o_0b k_0b c_0b) ∧ w'.cell? ⟨p_b4, 0, none⟩ = some (.bool n_ta) ∧ w'.cell? ⟨p_b4, 1, none⟩ = some (.slice o_ta k_ta c_ta) ∧ w'.cell? ⟨p_b4, 2, none⟩ = some (.bool n_tb) ∧ w'.cell? ⟨p_b4, 3, none⟩ = some (.slice o_tb k_tb c_tb)) [fun w' => w'.cell? ⟨p_b1, 0, none⟩ = some (.bool n_0a) ∧ w'.cell? ⟨p_b1, 1, none⟩ = some (.slice o_0a k_0a c_0a) ∧ w'.cell? ⟨p_b1, 2, none⟩ = some (.bool n_0b) ∧ w'.cell? ⟨p_b1, 3, none⟩ = some (.slice o_0b k_0b c_0b), fun w' => w'.cell? ⟨p_b4, 0, none⟩ = some (.bool n_ta) ∧ w'.cell? ⟨p_b4, 1, none⟩ = some (.slice o_ta k_ta c_ta) ∧ w'.cell? ⟨p_b4, 2, none⟩ = some (.bool n_tb) ∧ w'.cell? ⟨p_b4, 3, none⟩ = some (.slice o_tb k_tb c_tb)] (by kernel_rfl) (by kernel_rfl) (by kernel_rfl) (by kernel_rfl) (by kernel_rfl) (by kernel_rfl) (by kernel_rfl) (by kernel_rfl) (by decide) (by intro j hj; simp only [List.mem_cons, List.not_mem_nil, or_false] at hj; rcases hj with rfl | rfl; all_goals exact ⟨_, rfl, rfl, fun ρ w => by unfold ptr; simp [go_sem]⟩) (by intro w' o hC; obtain ⟨c0, c1, c2, c3, c4, c5, c6, c7⟩ := hC; exact ⟨cell_alloc c0 o, cell_alloc c1 o, cell_alloc c2 o, cell_alloc c3 o, cell_alloc c4 o, cell_alloc c5 o, cell_alloc c6 o, cell_alloc c7 o⟩) (by intro w' hC G hG; obtain ⟨c0, c1, c2, c3, c4, c5, c6, c7⟩ := hC; simp only [List.mem_cons, List.not_mem_nil, or_false] at hG; rcases hG with rfl | rfl <;> first | exact ⟨c0, c1, c2, c3⟩ | exact ⟨c4, c5, c6, c7⟩) ?_
  have lt_b1 := x_b1.lt
  have lt_b2 := x_b2.lt
  have lt_b3 := x_b3.lt
  have lt_b4 := x_b4.lt
  intro w_9 hn
  replace lt_b1 := Nat.lt_of_lt_of_le lt_b1 hn.size
  replace lt_b2 := Nat.lt_of_lt_of_le lt_b2 hn.size
  replace lt_b3 := Nat.lt_of_lt_of_le lt_b3 hn.size
  replace lt_b4 := Nat.lt_of_lt_of_le lt_b4 hn.size
  replace ha1 := ha1.bl hn; replace ha2 := ha2.bl hn; replace hq1 := hq1.bl hn; replace hq2 := hq2.bl hn; replace x_b1 := x_b1.bl hn; replace x_b2 := x_b2.bl hn; replace x_b3 := x_b3.bl hn; replace t1 := t1.bl hn; replace t2 := t2.bl hn; replace x_b4 := x_b4.bl hn; replace hb := hb.trans (hn.mono hb.size)
  clear hn
  have kb0 := hb.size
  refine ⟨⟨x_b1.cell 0 rfl, x_b1.cell 1 rfl, x_b1.cell 2 rfl, x_b1.cell 3 rfl, x_b4.cell 0 rfl, x_b4.cell 1 rfl, x_b4.cell 2 rfl, x_b4.cell 3 rfl⟩, ?_⟩
  apply wpFl_ld rfl rfl; (case h1 => intro w' hC K hK; obtain ⟨c0, c1, c2, c3⟩ := hC; go_big_op; exact hK); iterate 4 kernel_rfl
  apply wpFl_ld rfl rfl; (case h1 => intro w' hC K hK; go_big_move; exact hK); iterate 4 kernel_rfl
  apply wpFl_ld rfl rfl; (case h1 => intro w' hC K hK; obtain ⟨c0, c1, c2, c3⟩ := hC; go_big_op; exact hK); iterate 4 kernel_rfl
  refine wpFl_call rfl (by kernel_rfl) fun w_10 hn hC => ?_; clear hC
  replace ha1 := ha1.bl hn; replace ha2 := ha2.bl hn; replace hq1 := hq1.bl hn; replace hq2 := hq2.bl hn; replace x_b1 := x_b1.bl hn; replace x_b2 := x_b2.bl hn; replace x_b3 := x_b3.bl hn; replace t1 := t1.bl hn; replace t2 := t2.bl hn; replace x_b4 := x_b4.bl hn; replace hb := hb.trans (hn.mono hb.size)
  clear hn; intro K hK
  go_big_op
  go_fit (gtop_any cut (PN.mk' ha1 ha2) (by omega) (by omega) (by omega))
  rintro e w_11 ⟨_, rfl, ⟨n_sa, o_sa, k_sa, c_sa, n_sb, o_sb, k_sb, c_sb, rfl, s1, s2⟩, hb_11⟩
  replace ha1 := ha1.bl hb_11; replace ha2 := ha2.bl hb_11; replace hq1 := hq1.bl hb_11; replace hq2 := hq2.bl hb_11; replace x_b1 := x_b1.bl hb_11; replace x_b2 := x_b2.bl hb_11; replace x_b3 := x_b3.bl hb_11; replace t1 := t1.bl hb_11; replace t2 := t2.bl hb_11; replace x_b4 := x_b4.bl hb_11; replace hb := hb.trans (hb_11.mono hb.size)
  refine hK _ _ rfl hb_11 ⟨x_b1.cell 0 rfl, x_b1.cell 1 rfl, x_b1.cell 2 rfl, x_b1.cell 3 rfl, x_b4.cell 0 rfl, x_b4.cell 1 rfl, x_b4.cell 2 rfl, x_b4.cell 3 rfl⟩ ?_
  clear hK K hb_11
  refine wpFl_call rfl (by kernel_rfl) fun w_12 hn hC => ?_; clear hC
  replace ha1 := ha1.bl hn; replace ha2 := ha2.bl hn; replace hq1 := hq1.bl hn; replace hq2 := hq2.bl hn; replace x_b1 := x_b1.bl hn; replace x_b2 := x_b2.bl hn; replace x_b3 := x_b3.bl hn; replace t1 := t1.bl hn; replace t2 := t2.bl hn; replace x_b4 := x_b4.bl hn; replace s1 := s1.bl hn; replace s2 := s2.bl hn; replace hb := hb.trans (hn.mono hb.size)
  clear hn; intro K hK
  go_big_op
  go_fit (gRound_any (PN.mk' s1 s2) (PN.mk' t1 t2) (by omega) (by omega) (by omega) (by omega) HN.out)
  rintro e w_13 ⟨_, _, rfl, ⟨n_ga, o_ga, k_ga, c_ga, n_gb, o_gb, k_gb, c_gb, rfl, g1, g2⟩, ⟨n_ra, o_ra, k_ra, c_ra, n_rb, o_rb, k_rb, c_rb, rfl, r1, r2⟩, hb_13⟩
  replace ha1 := ha1.bl hb_13; replace ha2 := ha2.bl hb_13; replace hq1 := hq1.bl hb_13; replace hq2 := hq2.bl hb_13; replace x_b1 := x_b1.bl hb_13; replace x_b2 := x_b2.bl hb_13; replace x_b3 := x_b3.bl hb_13; replace t1 := t1.bl hb_13; replace t2 := t2.bl hb_13; replace x_b4 := x_b4.bl hb_13; replace s1 := s1.bl hb_13; replace s2 := s2.bl hb_13; replace hb := hb.trans (hb_13.mono hb.size)
  have Lg1 := hide (g1.lenOf (rnd_len (HN.out) (zlen_gT1 (s1.len) (s2.len) (t1.len) (t2.len))))
  have Lg2 := hide (g2.lenOf (rnd_len (HN.out) (zlen_gT2 (s1.len) (s2.len) (t1.len) (t2.len))))
  have Lr1 := hide (r1.lenOf (zlen_gR1 (s1.len) (s2.len) (t1.len) (t2.len) (HN.out)))
  have Lr2 := hide (r2.lenOf (zlen_gR2 (s1.len) (s2.len) (t1.len) (t2.len) (HN.out)))
  refine hK _ _ rfl hb_13 ⟨x_b1.cell 0 rfl, x_b1.cell 1 rfl, x_b1.cell 2 rfl, x_b1.cell 3 rfl, x_b4.cell 0 rfl, x_b4.cell 1 rfl, x_b4.cell 2 rfl, x_b4.cell 3 rfl⟩ ?_
  clear hK K hb_13
  apply wpFl_ld rfl rfl; (case h1 => intro w' hC K hK; go_big_move; exact hK); iterate 4 kernel_rfl
  apply wpFl_ld rfl rfl; (case h1 => intro w' hC K hK; go_big_op; exact hK); iterate 4 kernel_rfl
  apply wpFl_ld rfl rfl; (case h1 => intro w' hC K hK; go_big_op; exact hK); iterate 4 kernel_rfl
  apply wpFl_ld rfl rfl; (case h1 => intro w' hC K hK; go_big_op; exact hK); iterate 4 kernel_rfl
  apply wpFl_end
  case ha => intro pt; simp only [putF, nthO, Act.put, ptr, List.setIfInBounds_toArray, List.set_cons_succ, List.set_cons_zero]; rfl
  case h =>
  intro w_14 pt hn hC hF hD
  clear hC
  clear s1 s2
  replace ha1 := ha1.bl hn; replace ha2 := ha2.bl hn; replace hq1 := hq1.bl hn; replace hq2 := hq2.bl hn; replace x_b1 := x_b1.bl hn; replace x_b2 := x_b2.bl hn; replace x_b3 := x_b3.bl hn; replace t1 := t1.bl hn; replace t2 := t2.bl hn; replace x_b4 := x_b4.bl hn; replace g1 := g1.bl hn; replace g2 := g2.bl hn; replace r1 := r1.bl hn; replace r2 := r2.bl hn; replace hb := hb.trans (hn.mono hb.size)
  clear hn
  obtain ⟨kB_b5, x_b5⟩ := hF 9 (by decide)
  replace x_b5 : Bs w_14 (pt 9) #[.bool false, .slice none 0 0, .bool false, .slice none 0 0] 26 := x_b5
  obtain ⟨kB_b6, x_b6⟩ := hF 10 (by decide)
  replace x_b6 : Bs w_14 (pt 10) #[.bool false, .slice none 0 0, .bool false, .slice none 0 0] 26 := x_b6
  have ne_b5_b6 := hide (hD 9 (by decide) 10 (by decide) (by decide))
  clear hF hD
  generalize pt 9 = p_b5 at *
  generalize pt 10 = p_b6 at *
  clear pt
  have kb_b5 := hide (Nat.le_trans kb0 kB_b5)
  have ne_b1_b5 : Hid (p_b1 ≠ p_b5) := Nat.ne_of_lt (Nat.lt_of_lt_of_le lt_b1 kB_b5)
  have ne_b2_b5 : Hid (p_b2 ≠ p_b5) := Nat.ne_of_lt (Nat.lt_of_lt_of_le lt_b2 kB_b5)
  have ne_b3_b5 : Hid (p_b3 ≠ p_b5) := Nat.ne_of_lt (Nat.lt_of_lt_of_le lt_b3 kB_b5)
  have ne_b4_b5 : Hid (p_b4 ≠ p_b5) := Nat.ne_of_lt (Nat.lt_of_lt_of_le lt_b4 kB_b5)
  clear kB_b5
  have kb_b6 := hide (Nat.le_trans kb0 kB_b6)
  have ne_b1_b6 : Hid (p_b1 ≠ p_b6) := Nat.ne_of_lt (Nat.lt_of_lt_of_le lt_b1 kB_b6)
  have ne_b2_b6 : Hid (p_b2 ≠ p_b6) := Nat.ne_of_lt (Nat.lt_of_lt_of_le lt_b2 kB_b6)
  have ne_b3_b6 : Hid (p_b3 ≠ p_b6) := Nat.ne_of_lt (Nat.lt_of_lt_of_le lt_b3 kB_b6)
  have ne_b4_b6 : Hid (p_b4 ≠ p_b6) := Nat.ne_of_lt (Nat.lt_of_lt_of_le lt_b4 kB_b6)
  clear kB_b6
  clear kb0 lt_b1 lt_b2 lt_b3 lt_b4
  refine wpTail_call rfl (by kernel_rfl) fun K hK => ?_
  obtain ⟨d0, d1, d2, d3⟩ := x_b5.f4
  have f0 := x_b5.free 0; have f1 := x_b5.free 1; have f2 := x_b5.free 2; have f3 := x_b5.free 3
  go_big_op
  have hnd := x_b5.nod rfl rfl
  obtain ⟨w_15, eW, x_b5', ho⟩ : ∃ w', ((((w_14.setCell ⟨p_b5, 0, none⟩ (.bool n_ga)).setCell ⟨p_b5, 1, none⟩ (.slice o_ga k_ga c_ga)).setCell ⟨p_b5, 2, none⟩ (.bool n_gb)).setCell ⟨p_b5, 3, none⟩ (.slice o_gb k_gb c_gb)) = w' ∧ Bs w' p_b5 #[.bool n_ga, .slice o_ga k_ga c_ga, .bool n_gb, .slice o_gb k_gb c_gb] 26 ∧ Only p_b5 w_14 w' := x_b5.setN [(0, .bool n_ga), (1, .slice o_ga k_ga c_ga), (2, .bool n_gb), (3, .slice o_gb k_gb c_gb)]
  rw [eW]; clear eW d0 d1 d2 d3 f0 f1 f2 f3 x_b5
  have x_b5 := x_b5'; clear x_b5'
  replace ha1 := ha1.fr hnd ho; replace ha2 := ha2.fr hnd ho; replace hq1 := hq1.fr hnd ho; replace hq2 := hq2.fr hnd ho; replace x_b1 := x_b1.frame ho ne_b1_b5; replace x_b2 := x_b2.frame ho ne_b2_b5; replace x_b3 := x_b3.frame ho ne_b3_b5; replace t1 := t1.fr hnd ho; replace t2 := t2.fr hnd ho; replace x_b4 := x_b4.frame ho ne_b4_b5; replace g1 := g1.fr hnd ho; replace g2 := g2.fr hnd ho; replace r1 := r1.fr hnd ho; replace r2 := r2.fr hnd ho; replace x_b6 := x_b6.frame ho ne_b5_b6.symm; replace hb := belowOnly hb ho kb_b5
  refine hK _ _ rfl (And.intro ⟨x_b1.cell 0 rfl, x_b1.cell 1 rfl, x_b1.cell 2 rfl, x_b1.cell 3 rfl⟩ (And.intro ⟨x_b4.cell 0 rfl, x_b4.cell 1 rfl, x_b4.cell 2 rfl, x_b4.cell 3 rfl⟩ True.intro)) ?_; clear hK K ho hnd
  refine wpTail_call rfl (by kernel_rfl) fun K hK => ?_
  obtain ⟨d0, d1, d2, d3⟩ := x_b6.f4
  have f0 := x_b6.free 0; have f1 := x_b6.free 1; have f2 := x_b6.free 2; have f3 := x_b6.free 3
  go_big_op
  have hnd := x_b6.nod rfl rfl
  obtain ⟨w_16, eW, x_b6', ho⟩ : ∃ w', ((((w_15.setCell ⟨p_b6, 0, none⟩ (.bool n_ra)).setCell ⟨p_b6, 1, none⟩ (.slice o_ra k_ra c_ra)).setCell ⟨p_b6, 2, none⟩ (.bool n_rb)).setCell ⟨p_b6, 3, none⟩ (.slice o_rb k_rb c_rb)) = w' ∧ Bs w' p_b6 #[.bool n_ra, .slice o_ra k_ra c_ra, .bool n_rb, .slice o_rb k_rb c_rb] 26 ∧ Only p_b6 w_15 w' := x_b6.setN [(0, .bool n_ra), (1, .slice o_ra k_ra c_ra), (2, .bool n_rb), (3, .slice o_rb k_rb c_rb)]
  rw [eW]; clear eW d0 d1 d2 d3 f0 f1 f2 f3 x_b6
  have x_b6 := x_b6'; clear x_b6'
  replace ha1 := ha1.fr hnd ho; replace ha2 := ha2.fr hnd ho; replace hq1 := hq1.fr hnd ho; replace hq2 := hq2.fr hnd ho; replace x_b1 := x_b1.frame ho ne_b1_b6; replace x_b2 := x_b2.frame ho ne_b2_b6; replace x_b3 := x_b3.frame ho ne_b3_b6; replace t1 := t1.fr hnd ho; replace t2 := t2.fr hnd ho; replace x_b4 := x_b4.frame ho ne_b4_b6; replace g1 := g1.fr hnd ho; replace g2 := g2.fr hnd ho; replace r1 := r1.fr hnd ho; replace r2 := r2.fr hnd ho; replace x_b5 := x_b5.frame ho ne_b5_b6; replace hb := belowOnly hb ho kb_b6
  refine hK _ _ rfl (And.intro ⟨x_b1.cell 0 rfl, x_b1.cell 1 rfl, x_b1.cell 2 rfl, x_b1.cell 3 rfl⟩ (And.intro ⟨x_b4.cell 0 rfl, x_b4.cell 1 rfl, x_b4.cell 2 rfl, x_b4.cell 3 rfl⟩ True.intro)) ?_; clear hK K ho hnd
  refine wpTail_call rfl (by kernel_rfl) fun K hK => ?_
  go_big_move; refine hK _ _ rfl (And.intro ⟨x_b1.cell 0 rfl, x_b1.cell 1 rfl, x_b1.cell 2 rfl, x_b1.cell 3 rfl⟩ (And.intro ⟨x_b4.cell 0 rfl, x_b4.cell 1 rfl, x_b4.cell 2 rfl, x_b4.cell 3 rfl⟩ True.intro)) ?_; clear hK K
  apply wpTail_end
  refine hK7 _ _ ?_
  refine wp_seq_k ?_
  intro K8 hK8
  refine wp_region_sq [0, 1, 2] (by kernel_rfl) ?_
  refine wpSq_call rfl (by kernel_rfl) fun K hK => ?_
  obtain ⟨d0, d1, d2, d3⟩ := x_b6.f4
  go_big_op; refine hK _ _ rfl ?_; clear hK K d0 d1 d2 d3
  refine wpSq_call rfl (by kernel_rfl) fun K hK => ?_
  obtain ⟨d0, d1, d2, d3⟩ := x_b4.f4
  go_big_op; refine hK _ _ rfl ?_; clear hK K d0 d1 d2 d3
  refine wpSq_call rfl (by kernel_rfl) fun K hK => ?_
  go_big_op
  go_fit (far_yes (.mk' (r1.zn (gR_len HN.out t1.len t2.len).1) (r2.zn (gR_len HN.out t1.len t2.len).2)) (PN.mk' t1 t2) (by omega) (by omega) (by omega) (by omega) HF.out.1 HF.out.2)
  rintro e w_17 ⟨rfl, hb_17⟩
  clear x_b4 x_b6
  replace ha1 := ha1.bl hb_17; replace ha2 := ha2.bl hb_17; replace hq1 := hq1.bl hb_17; replace hq2 := hq2.bl hb_17; replace x_b1 := x_b1.bl hb_17; replace x_b2 := x_b2.bl hb_17; replace x_b3 := x_b3.bl hb_17; replace t1 := t1.bl hb_17; replace t2 := t2.bl hb_17; replace g1 := g1.bl hb_17; replace g2 := g2.bl hb_17; replace r1 := r1.bl hb_17; replace r2 := r2.bl hb_17; replace x_b5 := x_b5.bl hb_17; replace hb := hb.trans (hb_17.mono hb.size)
  refine hK _ _ rfl ?_
  clear hK K hb_17
  apply wpSq_end
  refine hK8 _ _ ?_
  refine wp_cond_true (congrArg Value.bool (show _ = true from (by first | rfl | assumption | (simp; done) | exact decide_eq_true (by omega) | omega))) ?_
  refine wp_seq_k ?_
  intro K9 hK9
  refine wp_region_sq [0, 1] (by kernel_rfl) ?_
  refine wpSq_call rfl (by kernel_rfl) fun K hK => ?_
  obtain ⟨d0, d1, d2, d3⟩ := x_b5.f4
  go_big_op; refine hK _ _ rfl ?_; clear hK K d0 d1 d2 d3
  refine wpSq_call rfl (by kernel_rfl) fun K hK => ?_
  obtain ⟨d0, d1, d2, d3⟩ := x_b3.f4
  have f0 := x_b3.free 0; have f1 := x_b3.free 1; have f2 := x_b3.free 2; have f3 := x_b3.free 3
  go_big_op
  have hnd := x_b3.nod rfl rfl
  obtain ⟨w_18, eW, x_b3', ho⟩ : ∃ w', ((((w_17.setCell ⟨p_b3, 0, none⟩ (.bool n_ga)).setCell ⟨p_b3, 1, none⟩ (.slice o_ga k_ga c_ga)).setCell ⟨p_b3, 2, none⟩ (.bool n_gb)).setCell ⟨p_b3, 3, none⟩ (.slice o_gb k_gb c_gb)) = w' ∧ Bs w' p_b3 #[.bool n_ga, .slice o_ga k_ga c_ga, .bool n_gb, .slice o_gb k_gb c_gb] 26 ∧ Only p_b3 w_17 w' := x_b3.setN [(0, .bool n_ga), (1, .slice o_ga k_ga c_ga), (2, .bool n_gb), (3, .slice o_gb k_gb c_gb)]
  rw [eW]; clear eW d0 d1 d2 d3 f0 f1 f2 f3 x_b3
  have x_b3 := x_b3'; clear x_b3'
  clear t1 t2 r1 r2 x_b5
  replace ha1 := ha1.fr hnd ho; replace ha2 := ha2.fr hnd ho; replace hq1 := hq1.fr hnd ho; replace hq2 := hq2.fr hnd ho; replace x_b1 := x_b1.frame ho ne_b1_b3; replace x_b2 := x_b2.frame ho ne_b2_b3; replace g1 := g1.fr hnd ho; replace g2 := g2.fr hnd ho; replace hb := belowOnly hb ho kb_b3
  refine hK _ _ rfl ?_; clear hK K ho hnd
  apply wpSq_end
  refine hK9 _ _ ?_
  refine wp_ret ?_
  rw [EQ.out.1] at g1
  rw [EQ.out.2] at g2
  try dsimp only [Exit.then, Exit.inBlock]
  obtain ⟨r0_0, r0_1, r0_2, r0_3⟩ := x_b3.f4
  refine bodyPost_ret (v := (.agg #[.bool n_ga, .slice o_ga k_ga c_ga, .bool n_gb, .slice o_gb k_gb c_gb])) (by simp [results, Tryd.results88, go_sem, r0_0, r0_1, r0_2, r0_3]) rfl ?_
  exact ⟨_, rfl, .mk' g1 g2, hb⟩
set_option maxHeartbeats 4000000 in
set_option maxRecDepth 20000 in
theorem quot_near {cut : Nat} (ha : PN w va x l y m) (hq : PN w vb u k v n) (hl : l ≤ 8000000) (hm : m ≤ 8000000) (hk : k ≤ 8000000) (hn : n ≤ 8000000) (h0 : gN u v ≠ 0) (hc : gdig u v = cut + 5) (hc0 : 0 < cut) (h2 : gdig x y ≤ gdig u v + 1) (hn0 : gN (tp u cut) (tp v cut) ≠ 0) (hf : ¬ far (gR1 (tp x cut) (tp y cut) (tp u cut) (tp v cut)) (gR2 (tp x cut) (tp y cut) (tp u cut) (tp v cut)) (tp u cut) (tp v cut)) :
    Calls Tryd.prog 88 #[va, vb] w fun e w' => ∃ r, e = .returned r ∧ PC w' r (gQ1 x y u v) (gQ2 x y u v) ∧ Below w.heap.size w w' := by
  have H0 := hide h0
  obtain ⟨S, hS⟩ : ∃ S, gdig u v = S := ⟨_, rfl⟩
  obtain ⟨D, hD⟩ : ∃ D, gdig x y = D := ⟨_, rfl⟩
  have hSb : S ≤ 16000000 := by rw [← hS]; exact gdig_le hq.len1 hq.len2 hk hn
  have hDb : D ≤ 16000000 := by rw [← hD]; exact gdig_le ha.len1 ha.len2 hl hm
  rw [hS] at hc h2
  rw [hD] at h2
  have HS := hide hS
  have HD := hide hD
  have hsub : (S : Int) - 5 = (cut : Int) := by omega
  have hg : (0 < (cut : Int)) = True := eq_true (by omega)
  have hg1 : (0 < cut) = True := eq_true hc0
  have hg2 : ((D : Int) ≤ (S : Int) + 1) = True := eq_true (by omega)
  have hg3 : (D ≤ S + 1) = True := eq_true h2
  have HN := hide hn0
  have HF := hide hf
  have LA := hide (And.intro (tp_len (k := cut) ha.len1) (tp_len (k := cut) ha.len2))
  clear h0 hS hD hf hn0
  obtain ⟨n_0a, o_0a, k_0a, c_0a, n_0b, o_0b, k_0b, c_0b, rfl, ha1, ha2⟩ := ha
  obtain ⟨n_1a, o_1a, k_1a, c_1a, n_1b, o_1b, k_1b, c_1b, rfl, hq1, hq2⟩ := hq
  go_enter Tryd.func88, Tryd.ntmps88
  have hb := Below.refl w.heap.size w
  refine wp_seq_k ?_
  intro K1 hK1
  refine wp_region_sq [0, 1, 2] (by kernel_rfl) ?_
  refine wpSq_call rfl (by kernel_rfl) fun K hK => ?_
  go_big_op
  obtain ⟨p_b1, w_1, eP, eW, x_b1, hn, kb_b1⟩ := newBox w #[.bool n_0a, .slice o_0a k_0a c_0a, .bool n_0b, .slice o_0b k_0b c_0b] 26 hb.size
  rw [eW, eP]
  clear eW eP
  replace ha1 := ha1.bl hn; replace ha2 := ha2.bl hn; replace hq1 := hq1.bl hn; replace hq2 := hq2.bl hn; replace hb := hb.trans (hn.mono hb.size)
  refine hK _ _ rfl ?_; clear hK K hn
  refine wpSq_call rfl (by kernel_rfl) fun K hK => ?_
  go_big_op
  have lt_b1 := x_b1.lt
  obtain ⟨p_b2, w_2, eP, eW, x_b2, hn, kb_b2⟩ := newBox w_1 #[.bool n_1a, .slice o_1a k_1a c_1a, .bool n_1b, .slice o_1b k_1b c_1b] 26 hb.size
  have ne_b1_b2 : Hid (p_b1 ≠ p_b2) := Nat.ne_of_lt (eP ▸ lt_b1)
  rw [eW, eP]
  clear eW eP lt_b1
  replace ha1 := ha1.bl hn; replace ha2 := ha2.bl hn; replace hq1 := hq1.bl hn; replace hq2 := hq2.bl hn; replace x_b1 := x_b1.bl hn; replace hb := hb.trans (hn.mono hb.size)
  refine hK _ _ rfl ?_; clear hK K hn
  refine wpSq_call rfl (by kernel_rfl) fun K hK => ?_
  go_big_op
  have lt_b1 := x_b1.lt
  have lt_b2 := x_b2.lt
  obtain ⟨p_b3, w_3, eP, eW, x_b3, hn, kb_b3⟩ := newBox w_2 #[.bool false, .slice none 0 0, .bool false, .slice none 0 0] 26 hb.size
  have ne_b1_b3 : Hid (p_b1 ≠ p_b3) := Nat.ne_of_lt (eP ▸ lt_b1)
  have ne_b2_b3 : Hid (p_b2 ≠ p_b3) := Nat.ne_of_lt (eP ▸ lt_b2)
  rw [eW, eP]
  clear eW eP lt_b1 lt_b2
  replace ha1 := ha1.bl hn; replace ha2 := ha2.bl hn; replace hq1 := hq1.bl hn; replace hq2 := hq2.bl hn; replace x_b1 := x_b1.bl hn; replace x_b2 := x_b2.bl hn; replace hb := hb.trans (hn.mono hb.size)
  refine hK _ _ rfl ?_; clear hK K hn
  apply wpSq_end
  refine hK1 _ _ ?_
  refine wp_seq_k ?_
  intro K2 hK2
  refine wp_region_sq [0, 1, 2] (by kernel_rfl) ?_
  refine wpSq_call rfl (by kernel_rfl) fun K hK => ?_
  obtain ⟨d0, d1, d2, d3⟩ := x_b2.f4
  go_big_op; refine hK _ _ rfl ?_; clear hK K d0 d1 d2 d3
  refine wpSq_call rfl (by kernel_rfl) fun K hK => ?_
  go_big_op
  go_fit (gdigits_any (PN.mk' hq1 hq2) (by omega) (by omega))
  rintro e w_4 ⟨rfl, hb_4⟩
  replace ha1 := ha1.bl hb_4; replace ha2 := ha2.bl hb_4; replace hq1 := hq1.bl hb_4; replace hq2 := hq2.bl hb_4; replace x_b1 := x_b1.bl hb_4; replace x_b2 := x_b2.bl hb_4; replace x_b3 := x_b3.bl hb_4; replace hb := hb.trans (hb_4.mono hb.size)
  rw [HS.out]
  refine hK _ _ rfl ?_
  clear hK K hb_4
  refine wpSq_call rfl (by kernel_rfl) fun K hK => ?_
  go_big_move; refine hK _ _ rfl ?_; clear hK K
  apply wpSq_end
  refine hK2 _ _ ?_
  refine wp_seq_k ?_
  intro K3 hK3
  refine wp_seq_k ?_
  intro K4 hK4
  refine wp_region_sq [0, 1, 2] (by kernel_rfl) ?_
  refine wpSq_call rfl (by kernel_rfl) fun K hK => ?_
  go_big_move; refine hK _ _ rfl ?_; clear hK K
  refine wpSq_call rfl (by kernel_rfl) fun K hK => ?_
  go_big_op; refine hK _ _ rfl ?_; clear hK K
  refine wpSq_call rfl (by kernel_rfl) fun K hK => ?_
  go_big_move; refine hK _ _ rfl ?_; clear hK K
  apply wpSq_end
  refine hK4 _ _ ?_
  refine wp_seq_k ?_
  intro K5 hK5
  refine wp_region_sq [0, 1, 2, 3, 4, 5, 6, 7, 8] (by kernel_rfl) ?_
  refine wpSq_call rfl (by kernel_rfl) fun K hK => ?_
  go_big_move; refine hK _ _ rfl ?_; clear hK K
  refine wpSq_call rfl (by kernel_rfl) fun K hK => ?_
  go_big_op; refine hK _ _ rfl ?_; clear hK K
  refine wpSq_call rfl (by kernel_rfl) fun K hK => ?_
  go_big_move; refine hK _ _ rfl ?_; clear hK K
  refine wpSq_call rfl (by kernel_rfl) fun K hK => ?_
  obtain ⟨d0, d1, d2, d3⟩ := x_b1.f4
  go_big_op; refine hK _ _ rfl ?_; clear hK K d0 d1 d2 d3
  refine wpSq_call rfl (by kernel_rfl) fun K hK => ?_
  go_big_op
  go_fit (gdigits_any (PN.mk' ha1 ha2) (by omega) (by omega))
  rintro e w_5 ⟨rfl, hb_5⟩
  replace ha1 := ha1.bl hb_5; replace ha2 := ha2.bl hb_5; replace hq1 := hq1.bl hb_5; replace hq2 := hq2.bl hb_5; replace x_b1 := x_b1.bl hb_5; replace x_b2 := x_b2.bl hb_5; replace x_b3 := x_b3.bl hb_5; replace hb := hb.trans (hb_5.mono hb.size)
  rw [HD.out]
  refine hK _ _ rfl ?_
  clear hK K hb_5
  refine wpSq_call rfl (by kernel_rfl) fun K hK => ?_
  go_big_move; refine hK _ _ rfl ?_; clear hK K
  refine wpSq_call rfl (by kernel_rfl) fun K hK => ?_
  go_big_op; refine hK _ _ rfl ?_; clear hK K
  refine wpSq_call rfl (by kernel_rfl) fun K hK => ?_
  go_big_op; refine hK _ _ rfl ?_; clear hK K
  refine wpSq_call rfl (by kernel_rfl) fun K hK => ?_
  go_big_op; refine hK _ _ rfl ?_; clear hK K
  apply wpSq_end
  refine hK5 _ _ ?_
  refine wp_cond_true (congrArg Value.bool (show _ = true from (by first | rfl | assumption | (simp; done) | exact decide_eq_true (by omega) | omega))) ?_
  refine wp_seq_k ?_
  intro K6 hK6
  refine wp_region_sq [0, 1, 2, 3, 4] (by kernel_rfl) ?_
  refine wpSq_call rfl (by kernel_rfl) fun K hK => ?_
  obtain ⟨d0, d1, d2, d3⟩ := x_b2.f4
  go_big_op; refine hK _ _ rfl ?_; clear hK K d0 d1 d2 d3
  refine wpSq_call rfl (by kernel_rfl) fun K hK => ?_
  go_big_move; refine hK _ _ rfl ?_; clear hK K
  refine wpSq_call rfl (by kernel_rfl) fun K hK => ?_
  go_big_op
  go_fit (gtop_any cut (PN.mk' hq1 hq2) (by omega) (by omega) (by omega))
  rintro e w_6 ⟨_, rfl, ⟨n_ta, o_ta, k_ta, c_ta, n_tb, o_tb, k_tb, c_tb, rfl, t1, t2⟩, hb_6⟩
  replace ha1 := ha1.bl hb_6; replace ha2 := ha2.bl hb_6; replace hq1 := hq1.bl hb_6; replace hq2 := hq2.bl hb_6; replace x_b1 := x_b1.bl hb_6; replace x_b2 := x_b2.bl hb_6; replace x_b3 := x_b3.bl hb_6; replace hb := hb.trans (hb_6.mono hb.size)
  refine hK _ _ rfl ?_
  clear hK K hb_6
  refine wpSq_call rfl (by kernel_rfl) fun K hK => ?_
  go_big_op
  have lt_b1 := x_b1.lt
  have lt_b2 := x_b2.lt
  have lt_b3 := x_b3.lt
  obtain ⟨p_b4, w_7, eP, eW, x_b4, hn, kb_b4⟩ := newBox w_6 #[.bool false, .slice none 0 0, .bool false, .slice none 0 0] 26 hb.size
  have ne_b1_b4 : Hid (p_b1 ≠ p_b4) := Nat.ne_of_lt (eP ▸ lt_b1)
  have ne_b2_b4 : Hid (p_b2 ≠ p_b4) := Nat.ne_of_lt (eP ▸ lt_b2)
  have ne_b3_b4 : Hid (p_b3 ≠ p_b4) := Nat.ne_of_lt (eP ▸ lt_b3)
  rw [eW, eP]
  clear eW eP lt_b1 lt_b2 lt_b3
  replace ha1 := ha1.bl hn; replace ha2 := ha2.bl hn; replace hq1 := hq1.bl hn; replace hq2 := hq2.bl hn; replace x_b1 := x_b1.bl hn; replace x_b2 := x_b2.bl hn; replace x_b3 := x_b3.bl hn; replace t1 := t1.bl hn; replace t2 := t2.bl hn; replace hb := hb.trans (hn.mono hb.size)
  refine hK _ _ rfl ?_; clear hK K hn
  refine wpSq_call rfl (by kernel_rfl) fun K hK => ?_
  obtain ⟨d0, d1, d2, d3⟩ := x_b4.f4
  have f0 := x_b4.free 0; have f1 := x_b4.free 1; have f2 := x_b4.free 2; have f3 := x_b4.free 3
  go_big_op
  have hnd := x_b4.nod rfl rfl
  obtain ⟨w_8, eW, x_b4', ho⟩ : ∃ w', ((((w_7.setCell ⟨p_b4, 0, none⟩ (.bool n_ta)).setCell ⟨p_b4, 1, none⟩ (.slice o_ta k_ta c_ta)).setCell ⟨p_b4, 2, none⟩ (.bool n_tb)).setCell ⟨p_b4, 3, none⟩ (.slice o_tb k_tb c_tb)) = w' ∧ Bs w' p_b4 #[.bool n_ta, .slice o_ta k_ta c_ta, .bool n_tb, .slice o_tb k_tb c_tb] 26 ∧ Only p_b4 w_7 w' := x_b4.setN [(0, .bool n_ta), (1, .slice o_ta k_ta c_ta), (2, .bool n_tb), (3, .slice o_tb k_tb c_tb)]
  rw [eW]; clear eW d0 d1 d2 d3 f0 f1 f2 f3 x_b4
  have x_b4 := x_b4'; clear x_b4'
  replace ha1 := ha1.fr hnd ho; replace ha2 := ha2.fr hnd ho; replace hq1 := hq1.fr hnd ho; replace hq2 := hq2.fr hnd ho; replace x_b1 := x_b1.frame ho ne_b1_b4; replace x_b2 := x_b2.frame ho ne_b2_b4; replace x_b3 := x_b3.frame ho ne_b3_b4; replace t1 := t1.fr hnd ho; replace t2 := t2.fr hnd ho; replace hb := belowOnly hb ho kb_b4
  refine hK _ _ rfl ?_; clear hK K ho hnd
  apply wpSq_end
  refine hK6 _ _ ?_
  refine wp_seq_k ?_
  intro K7 hK7
  refine wp_region_fl2 [(0, false), (1, false), (3, false), (2, true), (4, true), (5, false), (6, false), (7, false), (8, false)] [11, 12, 13] [9, 10] (fun j => if j = 9 then (.cells #[.bool false, .slice none 0 0, .bool false, .slice none 0 0] 26) else (.cells #[.bool false, .slice none 0 0, .bool false, .slice none 0 0] 26)) [0, 99, 99, 1, 99, 99, 99, 99, 99, 99, 99, 99, 99, 99] [] (fun w' => w'.cell? ⟨p_b1, 0, none⟩ = some (.bool n_0a) ∧ w'.cell? ⟨p_b1, 1, none⟩ = some (.slice o_0a k_0a c_0a) ∧ w'.cell? ⟨p_b1, 2, none⟩ = some (.bool n_0b) ∧ w'.cell? ⟨p_b1, 3, none⟩ = some (.slice o_0b k_0b c_0b) ∧ w'.cell? ⟨p_b4, 0, none⟩ = some (.bool n_ta) ∧ w'.cell? ⟨p_b4, 1, none⟩ = some (.slice o_ta k_ta c_ta) ∧ w'.cell? ⟨p_b4, 2, none⟩ = some (.bool n_tb) ∧ w'.cell? ⟨p_b4, 3, none⟩ = some (.slice o_tb k_tb c_tb)) [fun w' => w'.cell? ⟨p_b1, 0, none⟩ = some (.bool n_0a) ∧ w'.cell? ⟨p_b1, 1, none⟩ = some (.slice o_0a k_0a c_0a) ∧ w'.cell? ⟨p_b1, 2, none⟩ = some (.bool n_0b) ∧ w'.cell? ⟨p_b1, 3, none⟩ = some (.slice o_0b k_0b c_0b), fun w' => w'.cell? ⟨p_b4, 0, none⟩ = some (.bool n_ta) ∧ w'.cell? ⟨p_b4, 1, none⟩ = some (.slice o_ta k_ta c_ta) ∧ w'.cell? ⟨p_b4, 2, none⟩ = some (.bool n_tb) ∧ w'.cell? ⟨p_b4, 3, none⟩ = some (.slice o_tb k_tb c_tb)] (by kernel_rfl) (by kernel_rfl) (by kernel_rfl) (by kernel_rfl) (by kernel_rfl) (by kernel_rfl) (by kernel_rfl) (by kernel_rfl) (by decide) (by intro j hj; simp only [List.mem_cons, List.not_mem_nil, or_false] at hj; rcases hj with rfl | rfl; all_goals exact ⟨_, rfl, rfl, fun ρ w => by unfold ptr; simp [go_sem]⟩) (by intro w' o hC; obtain ⟨c0, c1, c2, c3, c4, c5, c6, c7⟩ := hC; exact ⟨cell_alloc c0 o, cell_alloc c1 o, cell_alloc c2 o, cell_alloc c3 o, cell_alloc c4 o, cell_alloc c5 o, cell_alloc c6 o, cell_alloc c7 o⟩) (by intro w' hC G hG; obtain ⟨c0, c1, c2, c3, c4, c5, c6, c7⟩ := hC; simp only [List.mem_cons, List.not_mem_nil, or_false] at hG; rcases hG with rfl | rfl <;> first | exact ⟨c0, c1, c2, c3⟩ | exact ⟨c4, c5, c6, c7⟩) ?_
  have lt_b1 := x_b1.lt
  have lt_b2 := x_b2.lt
  have lt_b3 := x_b3.lt
  have lt_b4 := x_b4.lt
  intro w_9 hn
  replace lt_b1 := Nat.lt_of_lt_of_le lt_b1 hn.size
  replace lt_b2 := Nat.lt_of_lt_of_le lt_b2 hn.size
  replace lt_b3 := Nat.lt_of_lt_of_le lt_b3 hn.size
  replace lt_b4 := Nat.lt_of_lt_of_le lt_b4 hn.size
  replace ha1 := ha1.bl hn; replace ha2 := ha2.bl hn; replace hq1 := hq1.bl hn; replace hq2 := hq2.bl hn; replace x_b1 := x_b1.bl hn; replace x_b2 := x_b2.bl hn; replace x_b3 := x_b3.bl hn; replace t1 := t1.bl hn; replace t2 := t2.bl hn; replace x_b4 := x_b4.bl hn; replace hb := hb.trans (hn.mono hb.size)
  clear hn
  have kb0 := hb.size
  refine ⟨⟨x_b1.cell 0 rfl, x_b1.cell 1 rfl, x_b1.cell 2 rfl, x_b1.cell 3 rfl, x_b4.cell 0 rfl, x_b4.cell 1 rfl, x_b4.cell 2 rfl, x_b4.cell 3 rfl⟩, ?_⟩
  apply wpFl_ld rfl rfl; (case h1 => intro w' hC K hK; obtain ⟨c0, c1, c2, c3⟩ := hC; go_big_op; exact hK); iterate 4 kernel_rfl
  apply wpFl_ld rfl rfl; (case h1 => intro w' hC K hK; go_big_move; exact hK); iterate 4 kernel_rfl
  apply wpFl_ld rfl rfl; (case h1 => intro w' hC K hK; obtain ⟨c0, c1, c2, c3⟩ := hC; go_big_op; exact hK); iterate 4 kernel_rfl
  refine wpFl_call rfl (by kernel_rfl) fun w_10 hn hC => ?_; clear hC
  replace ha1 := ha1.bl hn; replace ha2 := ha2.bl hn; replace hq1 := hq1.bl hn; replace hq2 := hq2.bl hn; replace x_b1 := x_b1.bl hn; replace x_b2 := x_b2.bl hn; replace x_b3 := x_b3.bl hn; replace t1 := t1.bl hn; replace t2 := t2.bl hn; replace x_b4 := x_b4.bl hn; replace hb := hb.trans (hn.mono hb.size)
  clear hn; intro K hK
  go_big_op
  go_fit (gtop_any cut (PN.mk' ha1 ha2) (by omega) (by omega) (by omega))
  rintro e w_11 ⟨_, rfl, ⟨n_sa, o_sa, k_sa, c_sa, n_sb, o_sb, k_sb, c_sb, rfl, s1, s2⟩, hb_11⟩
  replace ha1 := ha1.bl hb_11; replace ha2 := ha2.bl hb_11; replace hq1 := hq1.bl hb_11; replace hq2 := hq2.bl hb_11; replace x_b1 := x_b1.bl hb_11; replace x_b2 := x_b2.bl hb_11; replace x_b3 := x_b3.bl hb_11; replace t1 := t1.bl hb_11; replace t2 := t2.bl hb_11; replace x_b4 := x_b4.bl hb_11; replace hb := hb.trans (hb_11.mono hb.size)
  refine hK _ _ rfl hb_11 ⟨x_b1.cell 0 rfl, x_b1.cell 1 rfl, x_b1.cell 2 rfl, x_b1.cell 3 rfl, x_b4.cell 0 rfl, x_b4.cell 1 rfl, x_b4.cell 2 rfl, x_b4.cell 3 rfl⟩ ?_
  clear hK K hb_11
  refine wpFl_call rfl (by kernel_rfl) fun w_12 hn hC => ?_; clear hC
  replace ha1 := ha1.bl hn; replace ha2 := ha2.bl hn; replace hq1 := hq1.bl hn; replace hq2 := hq2.bl hn; replace x_b1 := x_b1.bl hn; replace x_b2 := x_b2.bl hn; replace x_b3 := x_b3.bl hn; replace t1 := t1.bl hn; replace t2 := t2.bl hn; replace x_b4 := x_b4.bl hn; replace s1 := s1.bl hn; replace s2 := s2.bl hn; replace hb := hb.trans (hn.mono hb.size)
  clear hn; intro K hK
  go_big_op
  go_fit (gRound_any (PN.mk' s1 s2) (PN.mk' t1 t2) (by omega) (by omega) (by omega) (by omega) HN.out)
  rintro e w_13 ⟨_, _, rfl, ⟨n_ga, o_ga, k_ga, c_ga, n_gb, o_gb, k_gb, c_gb, rfl, g1, g2⟩, ⟨n_ra, o_ra, k_ra, c_ra, n_rb, o_rb, k_rb, c_rb, rfl, r1, r2⟩, hb_13⟩
  replace ha1 := ha1.bl hb_13; replace ha2 := ha2.bl hb_13; replace hq1 := hq1.bl hb_13; replace hq2 := hq2.bl hb_13; replace x_b1 := x_b1.bl hb_13; replace x_b2 := x_b2.bl hb_13; replace x_b3 := x_b3.bl hb_13; replace t1 := t1.bl hb_13; replace t2 := t2.bl hb_13; replace x_b4 := x_b4.bl hb_13; replace s1 := s1.bl hb_13; replace s2 := s2.bl hb_13; replace hb := hb.trans (hb_13.mono hb.size)
  have Lg1 := hide (g1.lenOf (rnd_len (HN.out) (zlen_gT1 (s1.len) (s2.len) (t1.len) (t2.len))))
  have Lg2 := hide (g2.lenOf (rnd_len (HN.out) (zlen_gT2 (s1.len) (s2.len) (t1.len) (t2.len))))
  have Lr1 := hide (r1.lenOf (zlen_gR1 (s1.len) (s2.len) (t1.len) (t2.len) (HN.out)))
  have Lr2 := hide (r2.lenOf (zlen_gR2 (s1.len) (s2.len) (t1.len) (t2.len) (HN.out)))
  refine hK _ _ rfl hb_13 ⟨x_b1.cell 0 rfl, x_b1.cell 1 rfl, x_b1.cell 2 rfl, x_b1.cell 3 rfl, x_b4.cell 0 rfl, x_b4.cell 1 rfl, x_b4.cell 2 rfl, x_b4.cell 3 rfl⟩ ?_
  clear hK K hb_13
  apply wpFl_ld rfl rfl; (case h1 => intro w' hC K hK; go_big_move; exact hK); iterate 4 kernel_rfl
  apply wpFl_ld rfl rfl; (case h1 => intro w' hC K hK; go_big_op; exact hK); iterate 4 kernel_rfl
  apply wpFl_ld rfl rfl; (case h1 => intro w' hC K hK; go_big_op; exact hK); iterate 4 kernel_rfl
  apply wpFl_ld rfl rfl; (case h1 => intro w' hC K hK; go_big_op; exact hK); iterate 4 kernel_rfl
  apply wpFl_end
  case ha => intro pt; simp only [putF, nthO, Act.put, ptr, List.setIfInBounds_toArray, List.set_cons_succ, List.set_cons_zero]; rfl
  case h =>
  intro w_14 pt hn hC hF hD
  clear hC
  clear s1 s2
  replace ha1 := ha1.bl hn; replace ha2 := ha2.bl hn; replace hq1 := hq1.bl hn; replace hq2 := hq2.bl hn; replace x_b1 := x_b1.bl hn; replace x_b2 := x_b2.bl hn; replace x_b3 := x_b3.bl hn; replace t1 := t1.bl hn; replace t2 := t2.bl hn; replace x_b4 := x_b4.bl hn; replace g1 := g1.bl hn; replace g2 := g2.bl hn; replace r1 := r1.bl hn; replace r2 := r2.bl hn; replace hb := hb.trans (hn.mono hb.size)
  clear hn
  obtain ⟨kB_b5, x_b5⟩ := hF 9 (by decide)
  replace x_b5 : Bs w_14 (pt 9) #[.bool false, .slice none 0 0, .bool false, .slice none 0 0] 26 := x_b5
  obtain ⟨kB_b6, x_b6⟩ := hF 10 (by decide)
  replace x_b6 : Bs w_14 (pt 10) #[.bool false, .slice none 0 0, .bool false, .slice none 0 0] 26 := x_b6
  have ne_b5_b6 := hide (hD 9 (by decide) 10 (by decide) (by decide))
  clear hF hD
  generalize pt 9 = p_b5 at *
  generalize pt 10 = p_b6 at *
  clear pt
  have kb_b5 := hide (Nat.le_trans kb0 kB_b5)
  have ne_b1_b5 : Hid (p_b1 ≠ p_b5) := Nat.ne_of_lt (Nat.lt_of_lt_of_le lt_b1 kB_b5)
  have ne_b2_b5 : Hid (p_b2 ≠ p_b5) := Nat.ne_of_lt (Nat.lt_of_lt_of_le lt_b2 kB_b5)
  have ne_b3_b5 : Hid (p_b3 ≠ p_b5) := Nat.ne_of_lt (Nat.lt_of_lt_of_le lt_b3 kB_b5)
  have ne_b4_b5 : Hid (p_b4 ≠ p_b5) := Nat.ne_of_lt (Nat.lt_of_lt_of_le lt_b4 kB_b5)
  clear kB_b5
  have kb_b6 := hide (Nat.le_trans kb0 kB_b6)
  have ne_b1_b6 : Hid (p_b1 ≠ p_b6) := Nat.ne_of_lt (Nat.lt_of_lt_of_le lt_b1 kB_b6)
  have ne_b2_b6 : Hid (p_b2 ≠ p_b6) := Nat.ne_of_lt (Nat.lt_of_lt_of_le lt_b2 kB_b6)
  have ne_b3_b6 : Hid (p_b3 ≠ p_b6) := Nat.ne_of_lt (Nat.lt_of_lt_of_le lt_b3 kB_b6)
  have ne_b4_b6 : Hid (p_b4 ≠ p_b6) := Nat.ne_of_lt (Nat.lt_of_lt_of_le lt_b4 kB_b6)
  clear kB_b6
  clear kb0 lt_b1 lt_b2 lt_b3 lt_b4
  refine wpTail_call rfl (by kernel_rfl) fun K hK => ?_
  obtain ⟨d0, d1, d2, d3⟩ := x_b5.f4
  have f0 := x_b5.free 0; have f1 := x_b5.free 1; have f2 := x_b5.free 2; have f3 := x_b5.free 3
  go_big_op
  have hnd := x_b5.nod rfl rfl
  obtain ⟨w_15, eW, x_b5', ho⟩ : ∃ w', ((((w_14.setCell ⟨p_b5, 0, none⟩ (.bool n_ga)).setCell ⟨p_b5, 1, none⟩ (.slice o_ga k_ga c_ga)).setCell ⟨p_b5, 2, none⟩ (.bool n_gb)).setCell ⟨p_b5, 3, none⟩ (.slice o_gb k_gb c_gb)) = w' ∧ Bs w' p_b5 #[.bool n_ga, .slice o_ga k_ga c_ga, .bool n_gb, .slice o_gb k_gb c_gb] 26 ∧ Only p_b5 w_14 w' := x_b5.setN [(0, .bool n_ga), (1, .slice o_ga k_ga c_ga), (2, .bool n_gb), (3, .slice o_gb k_gb c_gb)]
  rw [eW]; clear eW d0 d1 d2 d3 f0 f1 f2 f3 x_b5
  have x_b5 := x_b5'; clear x_b5'
  replace ha1 := ha1.fr hnd ho; replace ha2 := ha2.fr hnd ho; replace hq1 := hq1.fr hnd ho; replace hq2 := hq2.fr hnd ho; replace x_b1 := x_b1.frame ho ne_b1_b5; replace x_b2 := x_b2.frame ho ne_b2_b5; replace x_b3 := x_b3.frame ho ne_b3_b5; replace t1 := t1.fr hnd ho; replace t2 := t2.fr hnd ho; replace x_b4 := x_b4.frame ho ne_b4_b5; replace g1 := g1.fr hnd ho; replace g2 := g2.fr hnd ho; replace r1 := r1.fr hnd ho; replace r2 := r2.fr hnd ho; replace x_b6 := x_b6.frame ho ne_b5_b6.symm; replace hb := belowOnly hb ho kb_b5
  refine hK _ _ rfl (And.intro ⟨x_b1.cell 0 rfl, x_b1.cell 1 rfl, x_b1.cell 2 rfl, x_b1.cell 3 rfl⟩ (And.intro ⟨x_b4.cell 0 rfl, x_b4.cell 1 rfl, x_b4.cell 2 rfl, x_b4.cell 3 rfl⟩ True.intro)) ?_; clear hK K ho hnd
  refine wpTail_call rfl (by kernel_rfl) fun K hK => ?_
  obtain ⟨d0, d1, d2, d3⟩ := x_b6.f4
  have f0 := x_b6.free 0; have f1 := x_b6.free 1; have f2 := x_b6.free 2; have f3 := x_b6.free 3
  go_big_op
  have hnd := x_b6.nod rfl rfl
  obtain ⟨w_16, eW, x_b6', ho⟩ : ∃ w', ((((w_15.setCell ⟨p_b6, 0, none⟩ (.bool n_ra)).setCell ⟨p_b6, 1, none⟩ (.slice o_ra k_ra c_ra)).setCell ⟨p_b6, 2, none⟩ (.bool n_rb)).setCell ⟨p_b6, 3, none⟩ (.slice o_rb k_rb c_rb)) = w' ∧ Bs w' p_b6 #[.bool n_ra, .slice o_ra k_ra c_ra, .bool n_rb, .slice o_rb k_rb c_rb] 26 ∧ Only p_b6 w_15 w' := x_b6.setN [(0, .bool n_ra), (1, .slice o_ra k_ra c_ra), (2, .bool n_rb), (3, .slice o_rb k_rb c_rb)]
  rw [eW]; clear eW d0 d1 d2 d3 f0 f1 f2 f3 x_b6
  have x_b6 := x_b6'; clear x_b6'
  replace ha1 := ha1.fr hnd ho; replace ha2 := ha2.fr hnd ho; replace hq1 := hq1.fr hnd ho; replace hq2 := hq2.fr hnd ho; replace x_b1 := x_b1.frame ho ne_b1_b6; replace x_b2 := x_b2.frame ho ne_b2_b6; replace x_b3 := x_b3.frame ho ne_b3_b6; replace t1 := t1.fr hnd ho; replace t2 := t2.fr hnd ho; replace x_b4 := x_b4.frame ho ne_b4_b6; replace g1 := g1.fr hnd ho; replace g2 := g2.fr hnd ho; replace r1 := r1.fr hnd ho; replace r2 := r2.fr hnd ho; replace x_b5 := x_b5.frame ho ne_b5_b6; replace hb := belowOnly hb ho kb_b6
  refine hK _ _ rfl (And.intro ⟨x_b1.cell 0 rfl, x_b1.cell 1 rfl, x_b1.cell 2 rfl, x_b1.cell 3 rfl⟩ (And.intro ⟨x_b4.cell 0 rfl, x_b4.cell 1 rfl, x_b4.cell 2 rfl, x_b4.cell 3 rfl⟩ True.intro)) ?_; clear hK K ho hnd
  refine wpTail_call rfl (by kernel_rfl) fun K hK => ?_
  go_big_move; refine hK _ _ rfl (And.intro ⟨x_b1.cell 0 rfl, x_b1.cell 1 rfl, x_b1.cell 2 rfl, x_b1.cell 3 rfl⟩ (And.intro ⟨x_b4.cell 0 rfl, x_b4.cell 1 rfl, x_b4.cell 2 rfl, x_b4.cell 3 rfl⟩ True.intro)) ?_; clear hK K
  apply wpTail_end
  refine hK7 _ _ ?_
  refine wp_seq_k ?_
  intro K8 hK8
  refine wp_region_sq [0, 1, 2] (by kernel_rfl) ?_
  refine wpSq_call rfl (by kernel_rfl) fun K hK => ?_
  obtain ⟨d0, d1, d2, d3⟩ := x_b6.f4
  go_big_op; refine hK _ _ rfl ?_; clear hK K d0 d1 d2 d3
  refine wpSq_call rfl (by kernel_rfl) fun K hK => ?_
  obtain ⟨d0, d1, d2, d3⟩ := x_b4.f4
  go_big_op; refine hK _ _ rfl ?_; clear hK K d0 d1 d2 d3
  refine wpSq_call rfl (by kernel_rfl) fun K hK => ?_
  go_big_op
  go_fit (far_no (.mk' (r1.zn (gR_len HN.out t1.len t2.len).1) (r2.zn (gR_len HN.out t1.len t2.len).2)) (PN.mk' t1 t2) (by omega) (by omega) (by omega) (by omega) HF.out)
  rintro e w_17 ⟨rfl, hb_17⟩
  clear x_b4 x_b6
  replace ha1 := ha1.bl hb_17; replace ha2 := ha2.bl hb_17; replace hq1 := hq1.bl hb_17; replace hq2 := hq2.bl hb_17; replace x_b1 := x_b1.bl hb_17; replace x_b2 := x_b2.bl hb_17; replace x_b3 := x_b3.bl hb_17; replace t1 := t1.bl hb_17; replace t2 := t2.bl hb_17; replace g1 := g1.bl hb_17; replace g2 := g2.bl hb_17; replace r1 := r1.bl hb_17; replace r2 := r2.bl hb_17; replace x_b5 := x_b5.bl hb_17; replace hb := hb.trans (hb_17.mono hb.size)
  refine hK _ _ rfl ?_
  clear hK K hb_17
  apply wpSq_end
  refine hK8 _ _ ?_
  refine wp_cond_false (congrArg Value.bool (show _ = false from (by first | rfl | assumption | (simp; done) | exact decide_eq_false (by omega) | omega))) ?_
  refine wp_skip ?_
  refine hK3 _ _ ?_
  refine wp_seq_k ?_
  intro K9 hK9
  refine wp_region_sq [0, 1, 2, 3, 4, 5, 6, 7, 8, 9, 10, 11] (by kernel_rfl) ?_
  refine wpSq_call rfl (by kernel_rfl) fun K hK => ?_
  obtain ⟨d0, d1, d2, d3⟩ := x_b1.f4
  go_big_op; refine hK _ _ rfl ?_; clear hK K d0 d1 d2 d3
  refine wpSq_call rfl (by kernel_rfl) fun K hK => ?_
  obtain ⟨d0, d1, d2, d3⟩ := x_b2.f4
  go_big_op; refine hK _ _ rfl ?_; clear hK K d0 d1 d2 d3
  refine wpSq_call rfl (by kernel_rfl) fun K hK => ?_
  go_big_op
  go_fit (gRound_any (PN.mk' ha1 ha2) (PN.mk' hq1 hq2) (by omega) (by omega) (by omega) (by omega) H0.out)
  rintro e w_18 ⟨_, _, rfl, ⟨n_oa, o_oa, k_oa, c_oa, n_ob, o_ob, k_ob, c_ob, rfl, o1, o2⟩, ⟨n_qa, o_qa, k_qa, c_qa, n_qb, o_qb, k_qb, c_qb, rfl, q1, q2⟩, hb_18⟩
  clear x_b1 x_b2 t1 t2 g1 g2 r1 r2 x_b5
  replace ha1 := ha1.bl hb_18; replace ha2 := ha2.bl hb_18; replace hq1 := hq1.bl hb_18; replace hq2 := hq2.bl hb_18; replace x_b3 := x_b3.bl hb_18; replace hb := hb.trans (hb_18.mono hb.size)
  have Lo1 := hide (o1.lenOf (rnd_len (H0.out) (zlen_gT1 (ha1.len) (ha2.len) (hq1.len) (hq2.len))))
  have Lo2 := hide (o2.lenOf (rnd_len (H0.out) (zlen_gT2 (ha1.len) (ha2.len) (hq1.len) (hq2.len))))
  have Lq1 := hide (q1.lenOf (zlen_gR1 (ha1.len) (ha2.len) (hq1.len) (hq2.len) (H0.out)))
  have Lq2 := hide (q2.lenOf (zlen_gR2 (ha1.len) (ha2.len) (hq1.len) (hq2.len) (H0.out)))
  refine hK _ _ rfl ?_
  clear hK K hb_18
  refine wpSq_call rfl (by kernel_rfl) fun K hK => ?_
  go_big_move; refine hK _ _ rfl ?_; clear hK K
  refine wpSq_call rfl (by kernel_rfl) fun K hK => ?_
  go_big_op; refine hK _ _ rfl ?_; clear hK K
  refine wpSq_call rfl (by kernel_rfl) fun K hK => ?_
  go_big_op; refine hK _ _ rfl ?_; clear hK K
  refine wpSq_call rfl (by kernel_rfl) fun K hK => ?_
  go_big_op; refine hK _ _ rfl ?_; clear hK K
  refine wpSq_call rfl (by kernel_rfl) fun K hK => ?_
  go_big_op
  clear ha1 ha2 hq1 hq2
  have lt_b3 := x_b3.lt
  obtain ⟨p_b7, w_19, eP, eW, x_b7, hn, kb_b7⟩ := newBox w_18 #[.bool false, .slice none 0 0, .bool false, .slice none 0 0] 26 hb.size
  have ne_b3_b7 : Hid (p_b3 ≠ p_b7) := Nat.ne_of_lt (eP ▸ lt_b3)
  rw [eW, eP]
  clear eW eP lt_b3
  replace x_b3 := x_b3.bl hn; replace o1 := o1.bl hn; replace o2 := o2.bl hn; replace q1 := q1.bl hn; replace q2 := q2.bl hn; replace hb := hb.trans (hn.mono hb.size)
  refine hK _ _ rfl ?_; clear hK K hn
  refine wpSq_call rfl (by kernel_rfl) fun K hK => ?_
  go_big_op
  have lt_b3 := x_b3.lt
  have lt_b7 := x_b7.lt
  obtain ⟨p_b8, w_20, eP, eW, x_b8, hn, kb_b8⟩ := newBox w_19 #[.bool false, .slice none 0 0, .bool false, .slice none 0 0] 26 hb.size
  have ne_b3_b8 : Hid (p_b3 ≠ p_b8) := Nat.ne_of_lt (eP ▸ lt_b3)
  have ne_b7_b8 : Hid (p_b7 ≠ p_b8) := Nat.ne_of_lt (eP ▸ lt_b7)
  rw [eW, eP]
  clear eW eP lt_b3 lt_b7
  replace x_b3 := x_b3.bl hn; replace o1 := o1.bl hn; replace o2 := o2.bl hn; replace q1 := q1.bl hn; replace q2 := q2.bl hn; replace x_b7 := x_b7.bl hn; replace hb := hb.trans (hn.mono hb.size)
  refine hK _ _ rfl ?_; clear hK K hn
  refine wpSq_call rfl (by kernel_rfl) fun K hK => ?_
  obtain ⟨d0, d1, d2, d3⟩ := x_b7.f4
  have f0 := x_b7.free 0; have f1 := x_b7.free 1; have f2 := x_b7.free 2; have f3 := x_b7.free 3
  go_big_op
  have hnd := x_b7.nod rfl rfl
  obtain ⟨w_21, eW, x_b7', ho⟩ : ∃ w', ((((w_20.setCell ⟨p_b7, 0, none⟩ (.bool n_oa)).setCell ⟨p_b7, 1, none⟩ (.slice o_oa k_oa c_oa)).setCell ⟨p_b7, 2, none⟩ (.bool n_ob)).setCell ⟨p_b7, 3, none⟩ (.slice o_ob k_ob c_ob)) = w' ∧ Bs w' p_b7 #[.bool n_oa, .slice o_oa k_oa c_oa, .bool n_ob, .slice o_ob k_ob c_ob] 26 ∧ Only p_b7 w_20 w' := x_b7.setN [(0, .bool n_oa), (1, .slice o_oa k_oa c_oa), (2, .bool n_ob), (3, .slice o_ob k_ob c_ob)]
  rw [eW]; clear eW d0 d1 d2 d3 f0 f1 f2 f3 x_b7
  have x_b7 := x_b7'; clear x_b7'
  replace x_b3 := x_b3.frame ho ne_b3_b7; replace o1 := o1.fr hnd ho; replace o2 := o2.fr hnd ho; replace q1 := q1.fr hnd ho; replace q2 := q2.fr hnd ho; replace x_b8 := x_b8.frame ho ne_b7_b8.symm; replace hb := belowOnly hb ho kb_b7
  refine hK _ _ rfl ?_; clear hK K ho hnd
  refine wpSq_call rfl (by kernel_rfl) fun K hK => ?_
  obtain ⟨d0, d1, d2, d3⟩ := x_b8.f4
  have f0 := x_b8.free 0; have f1 := x_b8.free 1; have f2 := x_b8.free 2; have f3 := x_b8.free 3
  go_big_op
  have hnd := x_b8.nod rfl rfl
  obtain ⟨w_22, eW, x_b8', ho⟩ : ∃ w', ((((w_21.setCell ⟨p_b8, 0, none⟩ (.bool n_qa)).setCell ⟨p_b8, 1, none⟩ (.slice o_qa k_qa c_qa)).setCell ⟨p_b8, 2, none⟩ (.bool n_qb)).setCell ⟨p_b8, 3, none⟩ (.slice o_qb k_qb c_qb)) = w' ∧ Bs w' p_b8 #[.bool n_qa, .slice o_qa k_qa c_qa, .bool n_qb, .slice o_qb k_qb c_qb] 26 ∧ Only p_b8 w_21 w' := x_b8.setN [(0, .bool n_qa), (1, .slice o_qa k_qa c_qa), (2, .bool n_qb), (3, .slice o_qb k_qb c_qb)]
  rw [eW]; clear eW d0 d1 d2 d3 f0 f1 f2 f3 x_b8
  have x_b8 := x_b8'; clear x_b8'
  replace x_b3 := x_b3.frame ho ne_b3_b8; replace o1 := o1.fr hnd ho; replace o2 := o2.fr hnd ho; replace q1 := q1.fr hnd ho; replace q2 := q2.fr hnd ho; replace x_b7 := x_b7.frame ho ne_b7_b8; replace hb := belowOnly hb ho kb_b8
  refine hK _ _ rfl ?_; clear hK K ho hnd
  refine wpSq_call rfl (by kernel_rfl) fun K hK => ?_
  go_big_move; refine hK _ _ rfl ?_; clear hK K
  apply wpSq_end
  refine hK9 _ _ ?_
  refine wp_seq_k ?_
  intro K10 hK10
  refine wp_region_sq [0, 1] (by kernel_rfl) ?_
  refine wpSq_call rfl (by kernel_rfl) fun K hK => ?_
  obtain ⟨d0, d1, d2, d3⟩ := x_b7.f4
  go_big_op; refine hK _ _ rfl ?_; clear hK K d0 d1 d2 d3
  refine wpSq_call rfl (by kernel_rfl) fun K hK => ?_
  obtain ⟨d0, d1, d2, d3⟩ := x_b3.f4
  have f0 := x_b3.free 0; have f1 := x_b3.free 1; have f2 := x_b3.free 2; have f3 := x_b3.free 3
  go_big_op
  have hnd := x_b3.nod rfl rfl
  obtain ⟨w_23, eW, x_b3', ho⟩ : ∃ w', ((((w_22.setCell ⟨p_b3, 0, none⟩ (.bool n_oa)).setCell ⟨p_b3, 1, none⟩ (.slice o_oa k_oa c_oa)).setCell ⟨p_b3, 2, none⟩ (.bool n_ob)).setCell ⟨p_b3, 3, none⟩ (.slice o_ob k_ob c_ob)) = w' ∧ Bs w' p_b3 #[.bool n_oa, .slice o_oa k_oa c_oa, .bool n_ob, .slice o_ob k_ob c_ob] 26 ∧ Only p_b3 w_22 w' := x_b3.setN [(0, .bool n_oa), (1, .slice o_oa k_oa c_oa), (2, .bool n_ob), (3, .slice o_ob k_ob c_ob)]
  rw [eW]; clear eW d0 d1 d2 d3 f0 f1 f2 f3 x_b3
  have x_b3 := x_b3'; clear x_b3'
  clear q1 q2 x_b7 x_b8
  replace o1 := o1.fr hnd ho; replace o2 := o2.fr hnd ho; replace hb := belowOnly hb ho kb_b3
  refine hK _ _ rfl ?_; clear hK K ho hnd
  apply wpSq_end
  refine hK10 _ _ ?_
  refine wp_ret ?_
  try dsimp only [Exit.then, Exit.inBlock]
  obtain ⟨r0_0, r0_1, r0_2, r0_3⟩ := x_b3.f4
  refine bodyPost_ret (v := (.agg #[.bool n_oa, .slice o_oa k_oa c_oa, .bool n_ob, .slice o_ob k_ob c_ob])) (by simp [results, Tryd.results88, go_sem, r0_0, r0_1, r0_2, r0_3]) rfl ?_
  exact ⟨_, rfl, .mk' o1 o2, hb⟩
theorem quot_any (ha : PN w va x l y m) (hq : PN w vb u k v n) (hl : l ≤ 2400000) (hm : m ≤ 2400000) (hk : k ≤ 2400000) (hn : n ≤ 2400000) (h0 : gN u v ≠ 0) :
    Calls Tryd.prog 88 #[va, vb] w fun e w' => ∃ r, e = .returned r ∧ PC w' r (gQ1 x y u v) (gQ2 x y u v) ∧ Below w.heap.size w w' := by
  by_cases h1 : gdig u v ≤ 5
  · exact quot_small ha hq (by omega) (by omega) (by omega) (by omega) h0 h1
  by_cases h2 : gdig u v + 1 < gdig x y
  · exact quot_long ha hq (by omega) (by omega) (by omega) (by omega) h0 (by omega) h2
  obtain ⟨cut, hc⟩ : ∃ cut, gdig u v = cut + 5 := ⟨gdig u v - 5, by omega⟩
  by_cases hf : far (gR1 (tp x cut) (tp y cut) (tp u cut) (tp v cut)) (gR2 (tp x cut) (tp y cut) (tp u cut) (tp v cut)) (tp u cut) (tp v cut)
  · exact quot_far ha hq (by omega) (by omega) (by omega) (by omega) h0 hc (by omega) (by omega) hf
  · exact quot_near ha hq (by omega) (by omega) (by omega) (by omega) h0 hc (by omega) (by omega) (tp_ne hc (by omega)) hf
end
end Go.Proofs.YtgjainmfilkjmaaDoor

/- The divisions of Xgcd: what each keeps, where they end. -/
namespace Go.Proofs.YtgjainmfilkjmaaDoor
open Go Go.RowKit Dig
set_option linter.unusedVariables false

structure GS where
  r1 : Int
  r2 : Int
  x1 : Int
  x2 : Int
  y1 : Int
  y2 : Int
  s1 : Int
  s2 : Int
  u1 : Int
  u2 : Int
  v1 : Int
  v2 : Int
/-- One division further. -/
def GS.step (t : GS) : GS :=
  let q1 := gQ1 t.r1 t.r2 t.s1 t.s2
  let q2 := gQ2 t.r1 t.r2 t.s1 t.s2
  { r1 := t.s1, r2 := t.s2, x1 := t.u1, x2 := t.u2, y1 := t.v1, y2 := t.v2
    s1 := t.r1 - (q1 * t.s1 - q2 * t.s2), s2 := t.r2 - (q1 * t.s2 + q2 * t.s1)
    u1 := t.x1 - (q1 * t.u1 - q2 * t.u2), u2 := t.x2 - (q1 * t.u2 + q2 * t.u1)
    v1 := t.y1 - (q1 * t.v1 - q2 * t.v2), v2 := t.y2 - (q1 * t.v2 + q2 * t.v1) }
def gfin : Nat → GS → GS
  | 0, t => t
  | n + 1, t => if gN t.s1 t.s2 = 0 then t else gfin n t.step
theorem gfin_done {n : Nat} {t : GS} (h : gN t.s1 t.s2 = 0) : gfin n t = t := by
  cases n with
  | zero => rfl
  | succ n => unfold gfin; rw [if_pos h]
theorem step_less {t : GS} (h : gN t.s1 t.s2 ≠ 0) : gN t.step.s1 t.step.s2 + gN t.step.s1 t.step.s2 ≤ gN t.s1 t.s2 := gR_half h
theorem gfin_fuel : ∀ (n m : Nat) (t : GS), (gN t.s1 t.s2).toNat ≤ n → (gN t.s1 t.s2).toNat ≤ m → gfin n t = gfin m t := by
  intro n
  induction n with
  | zero =>
    intro m t h1 h2
    have := gN_nonneg t.s1 t.s2
    rw [gfin_done (by omega), gfin_done (by omega)]
  | succ n ih =>
    intro m t h1 h2
    by_cases h0 : gN t.s1 t.s2 = 0
    · rw [gfin_done h0, gfin_done h0]
    · have hn := gN_nonneg t.s1 t.s2
      have hl := step_less h0
      have hs := gN_nonneg t.step.s1 t.step.s2
      cases m with
      | zero => omega
      | succ m =>
        show (if _ then _ else _) = (if _ then _ else _)
        rw [if_neg h0, if_neg h0]
        exact ih m _ (by omega) (by omega)
/-- Where the divisions end. -/
def GS.fin (t : GS) : GS := gfin (gN t.s1 t.s2).toNat t
theorem fin_done {t : GS} (h : gN t.s1 t.s2 = 0) : t.fin = t := gfin_done h
theorem fin_step {t : GS} (h : gN t.s1 t.s2 ≠ 0) : t.step.fin = t.fin := by
  have hn := gN_nonneg t.s1 t.s2
  have hl := step_less h
  have hs := gN_nonneg t.step.s1 t.step.s2
  unfold GS.fin
  obtain ⟨n, hk⟩ : ∃ n, (gN t.s1 t.s2).toNat = n + 1 := ⟨(gN t.s1 t.s2).toNat - 1, by omega⟩
  rw [hk]
  show _ = (if _ then _ else _)
  rw [if_neg h]
  exact gfin_fuel _ _ _ (Nat.le_refl _) (by omega)
def GS.start (a1 a2 b1 b2 : Int) : GS := { r1 := a1, r2 := a2, x1 := 1, x2 := 0, y1 := 0, y2 := 0, s1 := b1, s2 := b2, u1 := 0, u2 := 0, v1 := 1, v2 := 0 }
/-- What each division keeps. -/
structure GI (a1 a2 b1 b2 : Int) (t : GS) : Prop where
  r : t.r1 = a1 * t.x1 - a2 * t.x2 + (b1 * t.y1 - b2 * t.y2) ∧ t.r2 = a1 * t.x2 + a2 * t.x1 + (b1 * t.y2 + b2 * t.y1)
  s : t.s1 = a1 * t.u1 - a2 * t.u2 + (b1 * t.v1 - b2 * t.v2) ∧ t.s2 = a1 * t.u2 + a2 * t.u1 + (b1 * t.v2 + b2 * t.v1)
  c : ∃ e : Int, (e = 1 ∨ e = -1) ∧ (t.r1 * t.u1 - t.r2 * t.u2 - (t.s1 * t.x1 - t.s2 * t.x2) = e * b1 ∧ t.r1 * t.u2 + t.r2 * t.u1 - (t.s1 * t.x2 + t.s2 * t.x1) = e * b2) ∧
    (t.r1 * t.v1 - t.r2 * t.v2 - (t.s1 * t.y1 - t.s2 * t.y2) = -e * a1 ∧ t.r1 * t.v2 + t.r2 * t.v1 - (t.s1 * t.y2 + t.s2 * t.y1) = -e * a2)
  nr : gN t.r1 t.r2 ≤ gN a1 a2 + gN b1 b2
  ns : gN t.s1 t.s2 ≤ gN a1 a2 + gN b1 b2
  nx : gN t.x1 t.x2 ≤ 4 * (gN a1 a2 + gN b1 b2) + 1
  ny : gN t.y1 t.y2 ≤ 4 * (gN a1 a2 + gN b1 b2) + 1
  nu : gN t.u1 t.u2 ≤ 4 * (gN a1 a2 + gN b1 b2) + 1
  nv : gN t.v1 t.v2 ≤ 4 * (gN a1 a2 + gN b1 b2) + 1
  su : gN t.s1 t.s2 * gN t.u1 t.u2 ≤ 2 * (gN a1 a2 + gN b1 b2)
  sv : gN t.s1 t.s2 * gN t.v1 t.v2 ≤ 2 * (gN a1 a2 + gN b1 b2)
  da : ∃ c1 c2 d1 d2 : Int, a1 = t.r1 * c1 - t.r2 * c2 + (t.s1 * d1 - t.s2 * d2) ∧ a2 = t.r1 * c2 + t.r2 * c1 + (t.s1 * d2 + t.s2 * d1)
  db : ∃ c1 c2 d1 d2 : Int, b1 = t.r1 * c1 - t.r2 * c2 + (t.s1 * d1 - t.s2 * d2) ∧ b2 = t.r1 * c2 + t.r2 * c1 + (t.s1 * d2 + t.s2 * d1)
theorem GI.start (a1 a2 b1 b2 : Int) : GI a1 a2 b1 b2 (GS.start a1 a2 b1 b2) := by
  have h1 := gN_nonneg a1 a2
  have h2 := gN_nonneg b1 b2
  have h3 : gN 0 0 = 0 := rfl
  have h4 : gN 1 0 = 1 := rfl
  exact {
    r := by constructor <;> (simp only [GS.start]; grind)
    s := by constructor <;> (simp only [GS.start]; grind)
    c := ⟨-1, .inr rfl, by constructor <;> (simp only [GS.start]; grind), by constructor <;> (simp only [GS.start]; grind)⟩
    nr := by simp only [GS.start]; omega
    ns := by simp only [GS.start]; omega
    nx := by simp only [GS.start]; omega
    ny := by simp only [GS.start]; omega
    nu := by simp only [GS.start]; omega
    nv := by simp only [GS.start]; omega
    su := by simp only [GS.start]; rw [h3]; omega
    sv := by simp only [GS.start]; rw [h4]; omega
    da := ⟨1, 0, 0, 0, by constructor <;> (simp only [GS.start]; grind)⟩
    db := ⟨0, 0, 1, 0, by constructor <;> (simp only [GS.start]; grind)⟩ }
theorem gN_add (a b c d : Int) : gN (a + c) (b + d) ≤ 2 * gN a b + 2 * gN c d := by
  have h1 := msq (a - c)
  have h2 := msq (b - d)
  have e : 2 * gN a b + 2 * gN c d - gN (a + c) (b + d) = (a - c) * (a - c) + (b - d) * (b - d) := by unfold gN; grind
  omega
theorem gN_sgn (e b1 b2 : Int) (he : e = 1 ∨ e = -1) : gN (e * b1) (e * b2) = gN b1 b2 := by
  rcases he with rfl | rfl <;> unfold gN <;> grind
/-- The factors stay short. -/
theorem fac_step {s1 s2 u1 u2 u1' u2' t1 t2 b1 b2 e M : Int} (he : e = 1 ∨ e = -1) (h0 : gN s1 s2 ≠ 0) (hb : gN b1 b2 ≤ M)
    (e1 : s1 * u1' - s2 * u2' = e * b1 + (t1 * u1 - t2 * u2)) (e2 : s1 * u2' + s2 * u1' = e * b2 + (t1 * u2 + t2 * u1))
    (ht : gN t1 t2 + gN t1 t2 ≤ gN s1 s2) (hu : gN s1 s2 * gN u1 u2 ≤ 2 * M) : gN u1' u2' ≤ 4 * M ∧ gN t1 t2 * gN u1' u2' ≤ 2 * M := by
  have h1 := gN_mul s1 s2 u1' u2'
  rw [e1, e2] at h1
  have h2 := gN_add (e * b1) (e * b2) (t1 * u1 - t2 * u2) (t1 * u2 + t2 * u1)
  rw [gN_sgn e b1 b2 he, gN_mul] at h2
  have hn := gN_nonneg u1 u2
  have hn' := gN_nonneg u1' u2'
  have h3 := Int.mul_le_mul_of_nonneg_right ht hn
  have f1 : (gN t1 t2 + gN t1 t2) * gN u1 u2 = 2 * (gN t1 t2 * gN u1 u2) := by grind
  have h4 : gN s1 s2 * gN u1' u2' ≤ 4 * M := by omega
  have h5 := Int.mul_le_mul_of_nonneg_right ht hn'
  have f2 : (gN t1 t2 + gN t1 t2) * gN u1' u2' = 2 * (gN t1 t2 * gN u1' u2') := by grind
  have hp := gN_pos h0
  have h6 := Int.mul_le_mul_of_nonneg_right (show (1 : Int) ≤ gN s1 s2 by omega) hn'
  constructor <;> omega
theorem lin1 {r1 s1 s2 a1 a2 b1 b2 x1 x2 y1 y2 u1 u2 v1 v2 : Int} (q1 q2 : Int) (hr : r1 = a1 * x1 - a2 * x2 + (b1 * y1 - b2 * y2)) (h1 : s1 = a1 * u1 - a2 * u2 + (b1 * v1 - b2 * v2)) (h2 : s2 = a1 * u2 + a2 * u1 + (b1 * v2 + b2 * v1)) :
    r1 - (q1 * s1 - q2 * s2) = a1 * (x1 - (q1 * u1 - q2 * u2)) - a2 * (x2 - (q1 * u2 + q2 * u1)) + (b1 * (y1 - (q1 * v1 - q2 * v2)) - b2 * (y2 - (q1 * v2 + q2 * v1))) := by
  rw [hr, h1, h2]; clear hr h1 h2; grind
theorem lin2 {r2 s1 s2 a1 a2 b1 b2 x1 x2 y1 y2 u1 u2 v1 v2 : Int} (q1 q2 : Int) (hr : r2 = a1 * x2 + a2 * x1 + (b1 * y2 + b2 * y1)) (h1 : s1 = a1 * u1 - a2 * u2 + (b1 * v1 - b2 * v2)) (h2 : s2 = a1 * u2 + a2 * u1 + (b1 * v2 + b2 * v1)) :
    r2 - (q1 * s2 + q2 * s1) = a1 * (x2 - (q1 * u2 + q2 * u1)) + a2 * (x1 - (q1 * u1 - q2 * u2)) + (b1 * (y2 - (q1 * v2 + q2 * v1)) + b2 * (y1 - (q1 * v1 - q2 * v2))) := by
  rw [hr, h1, h2]; clear hr h1 h2; grind
theorem crs1 (r1 r2 s1 s2 x1 x2 u1 u2 q1 q2 : Int) : s1 * (x1 - (q1 * u1 - q2 * u2)) - s2 * (x2 - (q1 * u2 + q2 * u1)) - ((r1 - (q1 * s1 - q2 * s2)) * u1 - (r2 - (q1 * s2 + q2 * s1)) * u2) = -(r1 * u1 - r2 * u2 - (s1 * x1 - s2 * x2)) := by grind
theorem crs2 (r1 r2 s1 s2 x1 x2 u1 u2 q1 q2 : Int) : s1 * (x2 - (q1 * u2 + q2 * u1)) + s2 * (x1 - (q1 * u1 - q2 * u2)) - ((r1 - (q1 * s1 - q2 * s2)) * u2 + (r2 - (q1 * s2 + q2 * s1)) * u1) = -(r1 * u2 + r2 * u1 - (s1 * x2 + s2 * x1)) := by grind
theorem dvs1 (r1 r2 s1 s2 p1 p2 p3 p4 q1 q2 : Int) : s1 * (q1 * p1 - q2 * p2 + p3) - s2 * (q1 * p2 + q2 * p1 + p4) + ((r1 - (q1 * s1 - q2 * s2)) * p1 - (r2 - (q1 * s2 + q2 * s1)) * p2) = r1 * p1 - r2 * p2 + (s1 * p3 - s2 * p4) := by grind
theorem dvs2 (r1 r2 s1 s2 p1 p2 p3 p4 q1 q2 : Int) : s1 * (q1 * p2 + q2 * p1 + p4) + s2 * (q1 * p1 - q2 * p2 + p3) + ((r1 - (q1 * s1 - q2 * s2)) * p2 + (r2 - (q1 * s2 + q2 * s1)) * p1) = r1 * p2 + r2 * p1 + (s1 * p4 + s2 * p3) := by grind
theorem GI.step {a1 a2 b1 b2 : Int} {t : GS} (h : GI a1 a2 b1 b2 t) (h0 : gN t.s1 t.s2 ≠ 0) : GI a1 a2 b1 b2 t.step := by
  have hl := step_less h0
  have hpos := gN_nonneg t.step.s1 t.step.s2
  have hA := gN_nonneg a1 a2
  have hB := gN_nonneg b1 b2
  have hns := h.ns
  obtain ⟨e, he, ⟨c1, c2⟩, c3, c4⟩ := h.c
  obtain ⟨hr1, hr2⟩ := h.r
  obtain ⟨hs1, hs2⟩ := h.s
  obtain ⟨p1, p2, p3, p4, hp1, hp2⟩ := h.da
  obtain ⟨o1, o2, o3, o4, ho1, ho2⟩ := h.db
  have hnu := h.nu
  have hnv := h.nv
  have hsu := h.su
  have hsv := h.sv
  clear h
  obtain ⟨r1, r2, x1, x2, y1, y2, s1, s2, u1, u2, v1, v2⟩ := t
  simp only [GS.step] at *
  generalize gQ1 r1 r2 s1 s2 = q1 at *
  generalize gQ2 r1 r2 s1 s2 = q2 at *
  have he' : -e = 1 ∨ -e = -1 := by omega
  have F := fac_step (s1 := s1) (s2 := s2) (u1 := u1) (u2 := u2) (u1' := x1 - (q1 * u1 - q2 * u2)) (u2' := x2 - (q1 * u2 + q2 * u1)) (t1 := r1 - (q1 * s1 - q2 * s2)) (t2 := r2 - (q1 * s2 + q2 * s1)) (b1 := b1) (b2 := b2) (e := -e) (M := gN a1 a2 + gN b1 b2) he' h0 (by omega) (by have := crs1 r1 r2 s1 s2 x1 x2 u1 u2 q1 q2; rw [c1] at this; rw [Int.neg_mul]; omega) (by have := crs2 r1 r2 s1 s2 x1 x2 u1 u2 q1 q2; rw [c2] at this; rw [Int.neg_mul]; omega) hl hsu
  have H := fac_step (s1 := s1) (s2 := s2) (u1 := v1) (u2 := v2) (u1' := y1 - (q1 * v1 - q2 * v2)) (u2' := y2 - (q1 * v2 + q2 * v1)) (t1 := r1 - (q1 * s1 - q2 * s2)) (t2 := r2 - (q1 * s2 + q2 * s1)) (b1 := a1) (b2 := a2) (e := e) (M := gN a1 a2 + gN b1 b2) he h0 (by omega) (by have := crs1 r1 r2 s1 s2 y1 y2 v1 v2 q1 q2; rw [c3, Int.neg_mul] at this; omega) (by have := crs2 r1 r2 s1 s2 y1 y2 v1 v2 q1 q2; rw [c4, Int.neg_mul] at this; omega) hl hsv
  exact {
    r := ⟨hs1, hs2⟩
    s := ⟨lin1 q1 q2 hr1 hs1 hs2, lin2 q1 q2 hr2 hs1 hs2⟩
    c := ⟨-e, he', ⟨by rw [crs1, c1, Int.neg_mul], by rw [crs2, c2, Int.neg_mul]⟩, ⟨by rw [crs1, c3, Int.neg_mul (-e)], by rw [crs2, c4, Int.neg_mul (-e)]⟩⟩
    nr := hns
    ns := by
      have h9 : gN (r1 - (q1 * s1 - q2 * s2)) (r2 - (q1 * s2 + q2 * s1)) ≤ gN a1 a2 + gN b1 b2 := by omega
      exact h9
    nx := hnu
    ny := hnv
    nu := Int.le_trans F.1 (by omega)
    nv := Int.le_trans H.1 (by omega)
    su := F.2
    sv := H.2
    da := ⟨q1 * p1 - q2 * p2 + p3, q1 * p2 + q2 * p1 + p4, p1, p2, by rw [dvs1]; exact hp1, by rw [dvs2]; exact hp2⟩
    db := ⟨q1 * o1 - q2 * o2 + o3, q1 * o2 + q2 * o1 + o4, o1, o2, by rw [dvs1]; exact ho1, by rw [dvs2]; exact ho2⟩ }
theorem GI.fin : ∀ (n : Nat) {a1 a2 b1 b2 : Int} {t : GS}, GI a1 a2 b1 b2 t → (gN t.s1 t.s2).toNat ≤ n → GI a1 a2 b1 b2 t.fin ∧ gN t.fin.s1 t.fin.s2 = 0 := by
  intro n
  induction n with
  | zero =>
    intro a1 a2 b1 b2 t h hn
    have := gN_nonneg t.s1 t.s2
    rw [fin_done (by omega)]
    exact ⟨h, by omega⟩
  | succ n ih =>
    intro a1 a2 b1 b2 t h hn
    by_cases h0 : gN t.s1 t.s2 = 0
    · rw [fin_done h0]; exact ⟨h, h0⟩
    · have hp := gN_nonneg t.s1 t.s2
      have hl := step_less h0
      have hs := gN_nonneg t.step.s1 t.step.s2
      rw [← fin_step h0]
      exact ih (h.step h0) (by omega)
/-- What stands in the divisions is hardly longer than the two numbers. -/
theorem len_norm {x y a1 a2 b1 b2 : Int} {l : Nat} (h : gN x y ≤ 4 * (gN a1 a2 + gN b1 b2) + 1) (h1 : (dig a1.natAbs).length ≤ l) (h2 : (dig a2.natAbs).length ≤ l) (h3 : (dig b1.natAbs).length ≤ l) (h4 : (dig b2.natAbs).length ≤ l) :
    (dig x.natAbs).length ≤ l + 1 ∧ (dig y.natAbs).length ≤ l + 1 := by
  have bd : ∀ z : Int, (dig z.natAbs).length ≤ l → -(pw l : Int) ≤ z ∧ z ≤ (pw l : Int) := by
    intro z hz
    have := Nat.lt_of_lt_of_le (lt_pw_dig z.natAbs) (pw_mono hz)
    omega
  have n1 := norm_ge (bd _ h1) (bd _ h2)
  have n2 := norm_ge (bd _ h3) (bd _ h4)
  have hp := pw_pos l
  have hpp : (1 : Int) ≤ (pw l : Int) * (pw l : Int) := by have := Int.mul_le_mul (show (1 : Int) ≤ (pw l : Int) by omega) (show (1 : Int) ≤ (pw l : Int) by omega) (by decide) (by omega); omega
  have e5 : (5 * (pw l : Int)) * (5 * (pw l : Int)) = 25 * ((pw l : Int) * (pw l : Int)) := by grind
  obtain ⟨r1, r2⟩ := norm_le (a := x) (b := y) (A := 5 * (pw l : Int)) (by omega) (by omega)
  have hpw : pw (l + 1) = pw l * 4294967296 := by rw [pw_add]; rfl
  exact ⟨dig_length_le (by omega), dig_length_le (by omega)⟩
end Go.Proofs.YtgjainmfilkjmaaDoor

/- gint.Xgcd. -/
namespace Go.Proofs.YtgjainmfilkjmaaDoor
open Go Go.RowKit Dig
set_option linter.unusedVariables false

/-- Six whole numbers in one struct. -/
def SC (w : World) (v : Value) (z1 z2 z3 z4 z5 z6 : Int) : Prop :=
  ∃ n1 o1 k1 c1 n2 o2 k2 c2 n3 o3 k3 c3 n4 o4 k4 c4 n5 o5 k5 c5 n6 o6 k6 c6, v = .agg #[.bool n1, .slice o1 k1 c1, .bool n2, .slice o2 k2 c2, .bool n3, .slice o3 k3 c3, .bool n4, .slice o4 k4 c4, .bool n5, .slice o5 k5 c5, .bool n6, .slice o6 k6 c6] ∧ ZC w (.agg #[.bool n1, .slice o1 k1 c1]) z1 ∧ ZC w (.agg #[.bool n2, .slice o2 k2 c2]) z2 ∧ ZC w (.agg #[.bool n3, .slice o3 k3 c3]) z3 ∧ ZC w (.agg #[.bool n4, .slice o4 k4 c4]) z4 ∧ ZC w (.agg #[.bool n5, .slice o5 k5 c5]) z5 ∧ ZC w (.agg #[.bool n6, .slice o6 k6 c6]) z6
theorem SC.mk' {w : World} {n1 n2 n3 n4 n5 n6 : Bool} {o1 o2 o3 o4 o5 o6 : Option Addr} {k1 c1 k2 c2 k3 c3 k4 c4 k5 c5 k6 c6 : Nat} {z1 z2 z3 z4 z5 z6 : Int} (h1 : ZC w (.agg #[.bool n1, .slice o1 k1 c1]) z1) (h2 : ZC w (.agg #[.bool n2, .slice o2 k2 c2]) z2) (h3 : ZC w (.agg #[.bool n3, .slice o3 k3 c3]) z3) (h4 : ZC w (.agg #[.bool n4, .slice o4 k4 c4]) z4) (h5 : ZC w (.agg #[.bool n5, .slice o5 k5 c5]) z5) (h6 : ZC w (.agg #[.bool n6, .slice o6 k6 c6]) z6) : SC w (.agg #[.bool n1, .slice o1 k1 c1, .bool n2, .slice o2 k2 c2, .bool n3, .slice o3 k3 c3, .bool n4, .slice o4 k4 c4, .bool n5, .slice o5 k5 c5, .bool n6, .slice o6 k6 c6]) z1 z2 z3 z4 z5 z6 :=
  ⟨_, _, _, _, _, _, _, _, _, _, _, _, _, _, _, _, _, _, _, _, _, _, _, _, rfl, h1, h2, h3, h4, h5, h6⟩
section
variable {w : World} {va vb : Value} {x y u v : Int} {l m k n : Nat}
set_option maxHeartbeats 8000000 in
set_option maxRecDepth 20000 in
theorem isZero_yes (ha : PN w va 0 l 0 m) (hl : l ≤ 100000000) (hm : m ≤ 100000000) :
    Calls Tryd.prog 87 #[va] w fun e w' => e = .returned (.bool true) ∧ Below w.heap.size w w' := by
  obtain ⟨n_0a, o_0a, k_0a, c_0a, n_0b, o_0b, k_0b, c_0b, rfl, ha1, ha2⟩ := ha
  go_enter Tryd.func87, Tryd.ntmps87
  have hb := Below.refl w.heap.size w
  refine wp_seq_k ?_
  intro K1 hK1
  refine wp_region_sq [0, 1] (by kernel_rfl) ?_
  refine wpSq_call rfl (by kernel_rfl) fun K hK => ?_
  go_big_op
  obtain ⟨p_b1, w_1, eP, eW, x_b1, hn, kb_b1⟩ := newBox w #[.bool n_0a, .slice o_0a k_0a c_0a, .bool n_0b, .slice o_0b k_0b c_0b] 26 hb.size
  rw [eW, eP]
  clear eW eP
  replace ha1 := ha1.bl hn; replace ha2 := ha2.bl hn; replace hb := hb.trans (hn.mono hb.size)
  refine hK _ _ rfl ?_; clear hK K hn
  refine wpSq_call rfl (by kernel_rfl) fun K hK => ?_
  go_big_move; refine hK _ _ rfl ?_; clear hK K
  apply wpSq_end
  refine hK1 _ _ ?_
  refine wp_seq_k ?_
  intro K2 hK2
  refine wp_region_sq [0, 1, 2, 3, 4, 5, 6, 7, 8, 9, 10] (by kernel_rfl) ?_
  refine wpSq_call rfl (by kernel_rfl) fun K hK => ?_
  go_big_op; refine hK _ _ rfl ?_; clear hK K
  refine wpSq_call rfl (by kernel_rfl) fun K hK => ?_
  obtain ⟨d0, d1, d2, d3⟩ := x_b1.f4
  go_big_op; refine hK _ _ rfl ?_; clear hK K d0 d1 d2 d3
  refine wpSq_call rfl (by kernel_rfl) fun K hK => ?_
  go_big_op
  go_fit (zsign_any ha1 (by omega) )
  rintro e w_2 ⟨rfl, hb_2⟩
  replace ha1 := ha1.bl hb_2; replace ha2 := ha2.bl hb_2; replace x_b1 := x_b1.bl hb_2; replace hb := hb.trans (hb_2.mono hb.size)
  refine hK _ _ rfl ?_
  clear hK K hb_2
  refine wpSq_call rfl (by kernel_rfl) fun K hK => ?_
  go_big_op; refine hK _ _ rfl ?_; clear hK K
  refine wpSq_call rfl (by kernel_rfl) fun K hK => ?_
  go_big_move; refine hK _ _ rfl ?_; clear hK K
  refine wpSq_call rfl (by kernel_rfl) fun K hK => ?_
  go_big_op; refine hK _ _ rfl ?_; clear hK K
  refine wpSq_call rfl (by kernel_rfl) fun K hK => ?_
  obtain ⟨d0, d1, d2, d3⟩ := x_b1.f4
  go_big_op; refine hK _ _ rfl ?_; clear hK K d0 d1 d2 d3
  refine wpSq_call rfl (by kernel_rfl) fun K hK => ?_
  go_big_op
  go_fit (zsign_any ha2 (by omega) )
  rintro e w_3 ⟨rfl, hb_3⟩
  clear ha1 x_b1
  replace ha2 := ha2.bl hb_3; replace hb := hb.trans (hb_3.mono hb.size)
  refine hK _ _ rfl ?_
  clear hK K hb_3
  refine wpSq_call rfl (by kernel_rfl) fun K hK => ?_
  go_big_op; refine hK _ _ rfl ?_; clear hK K
  refine wpSq_call rfl (by kernel_rfl) fun K hK => ?_
  go_big_op; refine hK _ _ rfl ?_; clear hK K
  refine wpSq_call rfl (by kernel_rfl) fun K hK => ?_
  go_big_move; refine hK _ _ rfl ?_; clear hK K
  apply wpSq_end
  refine hK2 _ _ ?_
  refine wp_ret ?_
  try dsimp only [Exit.then, Exit.inBlock]
  refine bodyPost_ret (v := (.bool true)) (by simp [results, Tryd.results87, go_sem]) rfl ?_
  exact ⟨rfl, hb⟩
set_option maxHeartbeats 8000000 in
set_option maxRecDepth 20000 in
theorem isZero_no1 (ha : PN w va x l y m) (hl : l ≤ 100000000) (hm : m ≤ 100000000) (h : x ≠ 0) :
    Calls Tryd.prog 87 #[va] w fun e w' => e = .returned (.bool false) ∧ Below w.heap.size w w' := by
  have H0 : (x.sign == 0) = false := by simpa using h
  obtain ⟨S, hS⟩ : ∃ S, x.sign = S := ⟨_, rfl⟩
  rw [hS] at H0
  have HS := hide hS
  clear h hS
  obtain ⟨n_0a, o_0a, k_0a, c_0a, n_0b, o_0b, k_0b, c_0b, rfl, ha1, ha2⟩ := ha
  go_enter Tryd.func87, Tryd.ntmps87
  have hb := Below.refl w.heap.size w
  refine wp_seq_k ?_
  intro K1 hK1
  refine wp_region_sq [0, 1] (by kernel_rfl) ?_
  refine wpSq_call rfl (by kernel_rfl) fun K hK => ?_
  go_big_op
  obtain ⟨p_b1, w_1, eP, eW, x_b1, hn, kb_b1⟩ := newBox w #[.bool n_0a, .slice o_0a k_0a c_0a, .bool n_0b, .slice o_0b k_0b c_0b] 26 hb.size
  rw [eW, eP]
  clear eW eP
  replace ha1 := ha1.bl hn; replace ha2 := ha2.bl hn; replace hb := hb.trans (hn.mono hb.size)
  refine hK _ _ rfl ?_; clear hK K hn
  refine wpSq_call rfl (by kernel_rfl) fun K hK => ?_
  go_big_move; refine hK _ _ rfl ?_; clear hK K
  apply wpSq_end
  refine hK1 _ _ ?_
  refine wp_seq_k ?_
  intro K2 hK2
  refine wp_region_sq [0, 1, 2, 3, 4, 5, 6, 7, 8, 9, 10] (by kernel_rfl) ?_
  refine wpSq_call rfl (by kernel_rfl) fun K hK => ?_
  go_big_op; refine hK _ _ rfl ?_; clear hK K
  refine wpSq_call rfl (by kernel_rfl) fun K hK => ?_
  obtain ⟨d0, d1, d2, d3⟩ := x_b1.f4
  go_big_op; refine hK _ _ rfl ?_; clear hK K d0 d1 d2 d3
  refine wpSq_call rfl (by kernel_rfl) fun K hK => ?_
  go_big_op
  go_fit (zsign_any ha1 (by omega) )
  rintro e w_2 ⟨rfl, hb_2⟩
  replace ha1 := ha1.bl hb_2; replace ha2 := ha2.bl hb_2; replace x_b1 := x_b1.bl hb_2; replace hb := hb.trans (hb_2.mono hb.size)
  rw [HS.out]
  refine hK _ _ rfl ?_
  clear hK K hb_2
  refine wpSq_call rfl (by kernel_rfl) fun K hK => ?_
  go_big_op; refine hK _ _ rfl ?_; clear hK K
  refine wpSq_call rfl (by kernel_rfl) fun K hK => ?_
  go_big_move; refine hK _ _ rfl ?_; clear hK K
  apply wpSq_skip
  case hi => rfl
  case hw => kernel_rfl
  case hp => unfold Act.put; simp only [List.setIfInBounds_toArray, List.set_cons_succ, List.set_cons_zero]; rfl
  apply wpSq_skip
  case hi => rfl
  case hw => kernel_rfl
  case hp => unfold Act.put; simp only [List.setIfInBounds_toArray, List.set_cons_succ, List.set_cons_zero]; rfl
  apply wpSq_skip
  case hi => rfl
  case hw => kernel_rfl
  case hp => unfold Act.put; simp only [List.setIfInBounds_toArray, List.set_cons_succ, List.set_cons_zero]; rfl
  apply wpSq_skip
  case hi => rfl
  case hw => kernel_rfl
  case hp => unfold Act.put; simp only [List.setIfInBounds_toArray, List.set_cons_succ, List.set_cons_zero]; rfl
  refine wpSq_call rfl (by kernel_rfl) fun K hK => ?_
  go_big_op; refine hK _ _ rfl ?_; clear hK K
  refine wpSq_call rfl (by kernel_rfl) fun K hK => ?_
  go_big_move; refine hK _ _ rfl ?_; clear hK K
  apply wpSq_end
  refine hK2 _ _ ?_
  refine wp_ret ?_
  try dsimp only [Exit.then, Exit.inBlock]
  refine bodyPost_ret (v := (.bool false)) (by simp [results, Tryd.results87, go_sem]) rfl ?_
  exact ⟨rfl, hb⟩
set_option maxHeartbeats 8000000 in
set_option maxRecDepth 20000 in
theorem isZero_no2 (ha : PN w va 0 l y m) (hl : l ≤ 100000000) (hm : m ≤ 100000000) (h : y ≠ 0) :
    Calls Tryd.prog 87 #[va] w fun e w' => e = .returned (.bool false) ∧ Below w.heap.size w w' := by
  have H0 : (y.sign == 0) = false := by simpa using h
  obtain ⟨S, hS⟩ : ∃ S, y.sign = S := ⟨_, rfl⟩
  rw [hS] at H0
  have HS := hide hS
  clear h hS
  obtain ⟨n_0a, o_0a, k_0a, c_0a, n_0b, o_0b, k_0b, c_0b, rfl, ha1, ha2⟩ := ha
  go_enter Tryd.func87, Tryd.ntmps87
  have hb := Below.refl w.heap.size w
  refine wp_seq_k ?_
  intro K1 hK1
  refine wp_region_sq [0, 1] (by kernel_rfl) ?_
  refine wpSq_call rfl (by kernel_rfl) fun K hK => ?_
  go_big_op
  obtain ⟨p_b1, w_1, eP, eW, x_b1, hn, kb_b1⟩ := newBox w #[.bool n_0a, .slice o_0a k_0a c_0a, .bool n_0b, .slice o_0b k_0b c_0b] 26 hb.size
  rw [eW, eP]
  clear eW eP
  replace ha1 := ha1.bl hn; replace ha2 := ha2.bl hn; replace hb := hb.trans (hn.mono hb.size)
  refine hK _ _ rfl ?_; clear hK K hn
  refine wpSq_call rfl (by kernel_rfl) fun K hK => ?_
  go_big_move; refine hK _ _ rfl ?_; clear hK K
  apply wpSq_end
  refine hK1 _ _ ?_
  refine wp_seq_k ?_
  intro K2 hK2
  refine wp_region_sq [0, 1, 2, 3, 4, 5, 6, 7, 8, 9, 10] (by kernel_rfl) ?_
  refine wpSq_call rfl (by kernel_rfl) fun K hK => ?_
  go_big_op; refine hK _ _ rfl ?_; clear hK K
  refine wpSq_call rfl (by kernel_rfl) fun K hK => ?_
  obtain ⟨d0, d1, d2, d3⟩ := x_b1.f4
  go_big_op; refine hK _ _ rfl ?_; clear hK K d0 d1 d2 d3
  refine wpSq_call rfl (by kernel_rfl) fun K hK => ?_
  go_big_op
  go_fit (zsign_any ha1 (by omega) )
  rintro e w_2 ⟨rfl, hb_2⟩
  replace ha1 := ha1.bl hb_2; replace ha2 := ha2.bl hb_2; replace x_b1 := x_b1.bl hb_2; replace hb := hb.trans (hb_2.mono hb.size)
  refine hK _ _ rfl ?_
  clear hK K hb_2
  refine wpSq_call rfl (by kernel_rfl) fun K hK => ?_
  go_big_op; refine hK _ _ rfl ?_; clear hK K
  refine wpSq_call rfl (by kernel_rfl) fun K hK => ?_
  go_big_move; refine hK _ _ rfl ?_; clear hK K
  refine wpSq_call rfl (by kernel_rfl) fun K hK => ?_
  go_big_op; refine hK _ _ rfl ?_; clear hK K
  refine wpSq_call rfl (by kernel_rfl) fun K hK => ?_
  obtain ⟨d0, d1, d2, d3⟩ := x_b1.f4
  go_big_op; refine hK _ _ rfl ?_; clear hK K d0 d1 d2 d3
  refine wpSq_call rfl (by kernel_rfl) fun K hK => ?_
  go_big_op
  go_fit (zsign_any ha2 (by omega) )
  rintro e w_3 ⟨rfl, hb_3⟩
  clear ha1 x_b1
  replace ha2 := ha2.bl hb_3; replace hb := hb.trans (hb_3.mono hb.size)
  rw [HS.out]
  refine hK _ _ rfl ?_
  clear hK K hb_3
  refine wpSq_call rfl (by kernel_rfl) fun K hK => ?_
  go_big_op; refine hK _ _ rfl ?_; clear hK K
  refine wpSq_call rfl (by kernel_rfl) fun K hK => ?_
  go_big_op; refine hK _ _ rfl ?_; clear hK K
  refine wpSq_call rfl (by kernel_rfl) fun K hK => ?_
  go_big_move; refine hK _ _ rfl ?_; clear hK K
  apply wpSq_end
  refine hK2 _ _ ?_
  refine wp_ret ?_
  try dsimp only [Exit.then, Exit.inBlock]
  refine bodyPost_ret (v := (.bool false)) (by simp [results, Tryd.results87, go_sem]) rfl ?_
  exact ⟨rfl, hb⟩
theorem isZero_no (ha : PN w va x l y m) (hl : l ≤ 100000000) (hm : m ≤ 100000000) (h : gN x y ≠ 0) :
    Calls Tryd.prog 87 #[va] w fun e w' => e = .returned (.bool false) ∧ Below w.heap.size w w' := by
  by_cases hx : x = 0
  · subst hx
    exact isZero_no2 ha hl hm (fun c => h (gN_zero.2 ⟨rfl, c⟩))
  · exact isZero_no1 ha hl hm hx
end
end Go.Proofs.YtgjainmfilkjmaaDoor

