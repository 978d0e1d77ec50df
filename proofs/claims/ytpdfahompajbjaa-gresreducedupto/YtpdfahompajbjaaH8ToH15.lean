/- gres: Mul, Inverse, Crt, Count. -/
import Derived.Test.YtpdfahompajbjaaH4ToH13
import Derived.Test.YtpdfahompajbjaaG8ToG14
import Derived.Test.YtpdfahompajbjaaH2ToH3

namespace Go.Proofs.Ytpdfahompajbjaa
open Go Go.RowKit Dig
set_option maxHeartbeats 4000000
set_option maxRecDepth 20000
set_option linter.unusedVariables false
section
variable {w : World} {va vb vc vd : Value} {x y u v a b c d : Int} {l m k n s t : Nat}
theorem mul1_any {p q r L : Nat} (hp : BP w p x l y m) (hr : BP w r a s b t) (hq : BP w q u L v L) (hl : l ≤ 2200000) (hm : m ≤ 2200000) (hs : s ≤ 2200000) (ht : t ≤ 2200000) (hk : L ≤ 4500000) (h0 : gN u v ≠ 0) :
    Calls Try.prog 31 #[.pointer (some ⟨p, 0, none⟩), .pointer (some ⟨r, 0, none⟩), .pointer (some ⟨q, 0, none⟩)] w fun e w' => ∃ r, e = .returned r ∧ PC w' r (gR1 (x * a - y * b) (x * b + y * a) u v) (gR2 (x * a - y * b) (x * b + y * a) u v) ∧ Below w.heap.size w w' := by
  have H0 := hide h0
  clear h0
  obtain ⟨an1, ao1, ak1, ac1, an2, ao2, ak2, ac2, xa, a1, a2⟩ := hp
  obtain ⟨bn1, bo1, bk1, bc1, bn2, bo2, bk2, bc2, xb, b1, b2⟩ := hq
  obtain ⟨cn1, co1, ck1, cc1, cn2, co2, ck2, cc2, xc, c1, c2⟩ := hr
  go_enter Try.func31, Try.ntmps31
  have hb := Below.refl w.heap.size w
  refine wp_seq_k ?_
  intro K1 hK1
  refine wp_region_sq [0] (by kernel_rfl) ?_
  refine sc fun K hK => ?_
  go_big_op
  have lt_xa := xa.lt
  have lt_xc := xc.lt
  have lt_xb := xb.lt
  obtain ⟨p_b1, w_1, eP, eW, x_b1, hn, kb_b1⟩ := newBox w #[.bool false, .slice none 0 0, .bool false, .slice none 0 0] 26 hb.size
  have ne_xa_b1 : Hid (p ≠ p_b1) := Nat.ne_of_lt (eP ▸ lt_xa)
  have ne_xc_b1 : Hid (r ≠ p_b1) := Nat.ne_of_lt (eP ▸ lt_xc)
  have ne_xb_b1 : Hid (q ≠ p_b1) := Nat.ne_of_lt (eP ▸ lt_xb)
  rw [eW, eP]
  clear eW eP lt_xa lt_xc lt_xb
  replace xa := xa.bl hn; replace a1 := a1.bl hn; replace a2 := a2.bl hn; replace xc := xc.bl hn; replace c1 := c1.bl hn; replace c2 := c2.bl hn; replace xb := xb.bl hn; replace b1 := b1.bl hn; replace b2 := b2.bl hn; replace hb := tm hb hn
  refine hK _ _ rfl ?_; clear hK K hn
  apply wpSq_end
  refine hK1 _ _ ?_
  refine wp_seq_k ?_
  intro K2 hK2
  refine wp_region_fl2 [(0, false), (1, false), (3, false), (2, true), (4, true)] [5] [] (fun _ => default) [0, 1, 99, 2, 99, 99] [] (fun w' => w'.cell? ⟨p, 0, none⟩ = some (.bool an1) ∧ w'.cell? ⟨p, 1, none⟩ = some (.slice ao1 ak1 ac1) ∧ w'.cell? ⟨p, 2, none⟩ = some (.bool an2) ∧ w'.cell? ⟨p, 3, none⟩ = some (.slice ao2 ak2 ac2) ∧ w'.cell? ⟨r, 0, none⟩ = some (.bool cn1) ∧ w'.cell? ⟨r, 1, none⟩ = some (.slice co1 ck1 cc1) ∧ w'.cell? ⟨r, 2, none⟩ = some (.bool cn2) ∧ w'.cell? ⟨r, 3, none⟩ = some (.slice co2 ck2 cc2) ∧ w'.cell? ⟨q, 0, none⟩ = some (.bool bn1) ∧ w'.cell? ⟨q, 1, none⟩ = some (.slice bo1 bk1 bc1) ∧ w'.cell? ⟨q, 2, none⟩ = some (.bool bn2) ∧ w'.cell? ⟨q, 3, none⟩ = some (.slice bo2 bk2 bc2)) [fun w' => w'.cell? ⟨p, 0, none⟩ = some (.bool an1) ∧ w'.cell? ⟨p, 1, none⟩ = some (.slice ao1 ak1 ac1) ∧ w'.cell? ⟨p, 2, none⟩ = some (.bool an2) ∧ w'.cell? ⟨p, 3, none⟩ = some (.slice ao2 ak2 ac2), fun w' => w'.cell? ⟨r, 0, none⟩ = some (.bool cn1) ∧ w'.cell? ⟨r, 1, none⟩ = some (.slice co1 ck1 cc1) ∧ w'.cell? ⟨r, 2, none⟩ = some (.bool cn2) ∧ w'.cell? ⟨r, 3, none⟩ = some (.slice co2 ck2 cc2), fun w' => w'.cell? ⟨q, 0, none⟩ = some (.bool bn1) ∧ w'.cell? ⟨q, 1, none⟩ = some (.slice bo1 bk1 bc1) ∧ w'.cell? ⟨q, 2, none⟩ = some (.bool bn2) ∧ w'.cell? ⟨q, 3, none⟩ = some (.slice bo2 bk2 bc2)] (by kernel_rfl) (by kernel_rfl) (by kernel_rfl) (by kernel_rfl) (by kernel_rfl) (by kernel_rfl) (by kernel_rfl) (by kernel_rfl) (by decide) (by intro j hj; cases hj) (by intro w' o hC; obtain ⟨c0, c1, c2, c3, c4, c5, c6, c7, c8, c9, c10, c11⟩ := hC; exact ⟨cell_alloc c0 o, cell_alloc c1 o, cell_alloc c2 o, cell_alloc c3 o, cell_alloc c4 o, cell_alloc c5 o, cell_alloc c6 o, cell_alloc c7 o, cell_alloc c8 o, cell_alloc c9 o, cell_alloc c10 o, cell_alloc c11 o⟩) (by intro w' hC G hG; obtain ⟨c0, c1, c2, c3, c4, c5, c6, c7, c8, c9, c10, c11⟩ := hC; simp only [List.mem_cons, List.not_mem_nil, or_false] at hG; rcases hG with rfl | rfl | rfl <;> first | exact ⟨c0, c1, c2, c3⟩ | exact ⟨c4, c5, c6, c7⟩ | exact ⟨c8, c9, c10, c11⟩) ?_
  have lt_xa := xa.lt
  have lt_xc := xc.lt
  have lt_xb := xb.lt
  have lt_b1 := x_b1.lt
  intro w_2 hn
  replace lt_xa := Nat.lt_of_lt_of_le lt_xa hn.size
  replace lt_xc := Nat.lt_of_lt_of_le lt_xc hn.size
  replace lt_xb := Nat.lt_of_lt_of_le lt_xb hn.size
  replace lt_b1 := Nat.lt_of_lt_of_le lt_b1 hn.size
  replace xa := xa.bl hn; replace a1 := a1.bl hn; replace a2 := a2.bl hn; replace xc := xc.bl hn; replace c1 := c1.bl hn; replace c2 := c2.bl hn; replace xb := xb.bl hn; replace b1 := b1.bl hn; replace b2 := b2.bl hn; replace x_b1 := x_b1.bl hn; replace hb := tm hb hn
  clear hn
  have kb0 := hb.size
  refine ⟨⟨xa.cell 0 rfl, xa.cell 1 rfl, xa.cell 2 rfl, xa.cell 3 rfl, xc.cell 0 rfl, xc.cell 1 rfl, xc.cell 2 rfl, xc.cell 3 rfl, xb.cell 0 rfl, xb.cell 1 rfl, xb.cell 2 rfl, xb.cell 3 rfl⟩, ?_⟩
  apply wpFl_ld rfl rfl; (case h1 => intro w' hC K hK; obtain ⟨c0, c1, c2, c3⟩ := hC; go_big_op; exact hK); iterate 4 kernel_rfl
  apply wpFl_ld rfl rfl; (case h1 => intro w' hC K hK; obtain ⟨c0, c1, c2, c3⟩ := hC; go_big_op; exact hK); iterate 4 kernel_rfl
  apply wpFl_ld rfl rfl; (case h1 => intro w' hC K hK; obtain ⟨c0, c1, c2, c3⟩ := hC; go_big_op; exact hK); iterate 4 kernel_rfl
  refine wpFl_call rfl (by kernel_rfl) fun w_3 hn hC => ?_; clear hC
  replace xa := xa.bl hn; replace a1 := a1.bl hn; replace a2 := a2.bl hn; replace xc := xc.bl hn; replace c1 := c1.bl hn; replace c2 := c2.bl hn; replace xb := xb.bl hn; replace b1 := b1.bl hn; replace b2 := b2.bl hn; replace x_b1 := x_b1.bl hn; replace hb := tm hb hn
  clear hn; intro K hK
  go_big_op
  go_fit (gMul_any (PN.mk' a1 a2) (PN.mk' c1 c2) (by omega) (by omega) (by omega) (by omega) )
  rintro e w_4 ⟨_, rfl, ⟨n_ga, o_ga, k_ga, c_ga, n_gb, o_gb, k_gb, c_gb, rfl, g1, g2⟩, hb_4⟩
  replace xa := xa.bl hb_4; replace a1 := a1.bl hb_4; replace a2 := a2.bl hb_4; replace xc := xc.bl hb_4; replace c1 := c1.bl hb_4; replace c2 := c2.bl hb_4; replace xb := xb.bl hb_4; replace b1 := b1.bl hb_4; replace b2 := b2.bl hb_4; replace x_b1 := x_b1.bl hb_4; replace hb := tm hb hb_4
  have Lg1 := hide (g1.lenOf (zlen_sub (zlen_mul (a1.len) (c1.len)) (zlen_mul (a2.len) (c2.len))))
  have Lg2 := hide (g2.lenOf (zlen_add (zlen_mul (a1.len) (c2.len)) (zlen_mul (a2.len) (c1.len))))
  refine hK _ _ rfl hb_4 ⟨xa.cell 0 rfl, xa.cell 1 rfl, xa.cell 2 rfl, xa.cell 3 rfl, xc.cell 0 rfl, xc.cell 1 rfl, xc.cell 2 rfl, xc.cell 3 rfl, xb.cell 0 rfl, xb.cell 1 rfl, xb.cell 2 rfl, xb.cell 3 rfl⟩ ?_
  clear hK K hb_4
  refine wpFl_call rfl (by kernel_rfl) fun w_5 hn hC => ?_; clear hC
  replace xa := xa.bl hn; replace a1 := a1.bl hn; replace a2 := a2.bl hn; replace xc := xc.bl hn; replace c1 := c1.bl hn; replace c2 := c2.bl hn; replace xb := xb.bl hn; replace b1 := b1.bl hn; replace b2 := b2.bl hn; replace x_b1 := x_b1.bl hn; replace g1 := g1.bl hn; replace g2 := g2.bl hn; replace hb := tm hb hn
  clear hn; intro K hK
  go_big_op
  go_fit (res_any (PN.mk' (g1.zn Lg1.out) (g2.zn Lg2.out)) (PN.mk' b1 b2) (by omega) (by omega) (by omega) H0.out)
  rintro e w_6 ⟨_, rfl, ⟨n_ha, o_ha, k_ha, c_ha, n_hb, o_hb, k_hb, c_hb, rfl, h1, h2⟩, hb_6⟩
  replace xa := xa.bl hb_6; replace a1 := a1.bl hb_6; replace a2 := a2.bl hb_6; replace xc := xc.bl hb_6; replace c1 := c1.bl hb_6; replace c2 := c2.bl hb_6; replace xb := xb.bl hb_6; replace b1 := b1.bl hb_6; replace b2 := b2.bl hb_6; replace x_b1 := x_b1.bl hb_6; replace g1 := g1.bl hb_6; replace g2 := g2.bl hb_6; replace hb := tm hb hb_6
  refine hK _ _ rfl hb_6 ⟨xa.cell 0 rfl, xa.cell 1 rfl, xa.cell 2 rfl, xa.cell 3 rfl, xc.cell 0 rfl, xc.cell 1 rfl, xc.cell 2 rfl, xc.cell 3 rfl, xb.cell 0 rfl, xb.cell 1 rfl, xb.cell 2 rfl, xb.cell 3 rfl⟩ ?_
  clear hK K hb_6
  apply wpFl_end
  case ha => intro pt; simp only [putF]; rfl
  case h =>
  intro w_7 pt hn hC hF hD
  clear hC
  clear g1 g2
  replace xa := xa.bl hn; replace a1 := a1.bl hn; replace a2 := a2.bl hn; replace xc := xc.bl hn; replace c1 := c1.bl hn; replace c2 := c2.bl hn; replace xb := xb.bl hn; replace b1 := b1.bl hn; replace b2 := b2.bl hn; replace x_b1 := x_b1.bl hn; replace h1 := h1.bl hn; replace h2 := h2.bl hn; replace hb := tm hb hn
  clear hn
  clear hF hD
  clear pt
  clear kb0 lt_xa lt_xc lt_xb lt_b1
  refine tc fun K hK => ?_
  obtain ⟨d0, d1, d2, d3⟩ := x_b1.f4
  have f0 := x_b1.free 0; have f1 := x_b1.free 1; have f2 := x_b1.free 2; have f3 := x_b1.free 3
  go_big_op
  have hnd := x_b1.nod rfl rfl
  obtain ⟨w_8, eW, x_b1', ho⟩ : ∃ w', ((((w_7.setCell ⟨p_b1, 0, none⟩ (.bool n_ha)).setCell ⟨p_b1, 1, none⟩ (.slice o_ha k_ha c_ha)).setCell ⟨p_b1, 2, none⟩ (.bool n_hb)).setCell ⟨p_b1, 3, none⟩ (.slice o_hb k_hb c_hb)) = w' ∧ Bs w' p_b1 #[.bool n_ha, .slice o_ha k_ha c_ha, .bool n_hb, .slice o_hb k_hb c_hb] 26 ∧ Only p_b1 w_7 w' := x_b1.setN [(0, .bool n_ha), (1, .slice o_ha k_ha c_ha), (2, .bool n_hb), (3, .slice o_hb k_hb c_hb)]
  rw [eW]; clear eW d0 d1 d2 d3 f0 f1 f2 f3 x_b1
  have x_b1 := x_b1'; clear x_b1'
  replace xa := xa.frame ho ne_xa_b1; replace a1 := a1.fr hnd ho; replace a2 := a2.fr hnd ho; replace xc := xc.frame ho ne_xc_b1; replace c1 := c1.fr hnd ho; replace c2 := c2.fr hnd ho; replace xb := xb.frame ho ne_xb_b1; replace b1 := b1.fr hnd ho; replace b2 := b2.fr hnd ho; replace h1 := h1.fr hnd ho; replace h2 := h2.fr hnd ho; replace hb := belowOnly hb ho kb_b1
  refine hK _ _ rfl (And.intro ⟨xa.cell 0 rfl, xa.cell 1 rfl, xa.cell 2 rfl, xa.cell 3 rfl⟩ (And.intro ⟨xc.cell 0 rfl, xc.cell 1 rfl, xc.cell 2 rfl, xc.cell 3 rfl⟩ (And.intro ⟨xb.cell 0 rfl, xb.cell 1 rfl, xb.cell 2 rfl, xb.cell 3 rfl⟩ True.intro))) ?_; clear hK K ho hnd
  apply wpTail_end
  refine hK2 _ _ ?_
  refine wp_ret ?_
  try dsimp only [Exit.then, Exit.inBlock]
  obtain ⟨r0_0, r0_1, r0_2, r0_3⟩ := x_b1.f4
  refine bodyPost_ret (v := (.agg #[.bool n_ha, .slice o_ha k_ha c_ha, .bool n_hb, .slice o_hb k_hb c_hb])) (by simp [results, Try.results31, go_sem, r0_0, r0_1, r0_2, r0_3]) rfl ?_
  exact ⟨_, rfl, .mk' h1 h2, hb⟩
theorem mul1_zero {p q r : Nat} (hp : BP w p x l y m) (hr : BP w r a s b t) (hq : BP w q 0 k 0 n) (hl : l ≤ 2200000) (hm : m ≤ 2200000) (hs : s ≤ 2200000) (ht : t ≤ 2200000) (hk : k ≤ 4500000) (hn : n ≤ 4500000) :
    Calls Try.prog 31 #[.pointer (some ⟨p, 0, none⟩), .pointer (some ⟨r, 0, none⟩), .pointer (some ⟨q, 0, none⟩)] w fun e w' => e = .panicked [{ v := .iface 27 (.int .i64 5), recovered := false }] ∧ Below w.heap.size w w' := by
  obtain ⟨an1, ao1, ak1, ac1, an2, ao2, ak2, ac2, xa, a1, a2⟩ := hp
  obtain ⟨bn1, bo1, bk1, bc1, bn2, bo2, bk2, bc2, xb, b1, b2⟩ := hq
  obtain ⟨cn1, co1, ck1, cc1, cn2, co2, ck2, cc2, xc, c1, c2⟩ := hr
  go_enter Try.func31, Try.ntmps31
  have hb := Below.refl w.heap.size w
  obtain ⟨IX, hIX⟩ : ∃ I : Pn.PX, ∀ ch w', I.X ch w' ↔ (ch = [{ v := .iface 27 (.int .i64 5), recovered := false }] ∧ Below w.heap.size w w') := ⟨⟨_⟩, fun _ _ => Iff.rfl⟩
  refine wp_seq_k ?_
  intro K1 hK1
  refine Pn.wp_region_sq [0] (fun ch a' w' hd hx => And.intro hd (And.intro (congrArg Ending.panicked ((hIX ch w').1 hx).1) ((hIX ch w').1 hx).2)) (by kernel_rfl) ?_
  refine Pn.wpSq_call rfl (by kernel_rfl) fun K hK => ?_
  go_big_op
  have lt_xa := xa.lt
  have lt_xc := xc.lt
  have lt_xb := xb.lt
  obtain ⟨p_b1, w_1, eP, eW, x_b1, hn, kb_b1⟩ := newBox w #[.bool false, .slice none 0 0, .bool false, .slice none 0 0] 26 hb.size
  rw [eW, eP]
  clear eW eP lt_xa lt_xc lt_xb
  replace xa := xa.bl hn; replace a1 := a1.bl hn; replace a2 := a2.bl hn; replace xc := xc.bl hn; replace c1 := c1.bl hn; replace c2 := c2.bl hn; replace xb := xb.bl hn; replace b1 := b1.bl hn; replace b2 := b2.bl hn; replace hb := tm hb hn
  refine hK _ _ rfl ?_; clear hK K hn
  apply Pn.wpSq_end
  refine hK1 _ _ ?_
  refine wp_seq_k ?_
  intro K2 hK2
  refine Pn.wp_region_fl2 [(0, false), (1, false), (3, false), (2, true), (4, true)] [5] [] (fun _ => default) [0, 1, 99, 2, 99, 99] [] (fun w' => w'.cell? ⟨p, 0, none⟩ = some (.bool an1) ∧ w'.cell? ⟨p, 1, none⟩ = some (.slice ao1 ak1 ac1) ∧ w'.cell? ⟨p, 2, none⟩ = some (.bool an2) ∧ w'.cell? ⟨p, 3, none⟩ = some (.slice ao2 ak2 ac2) ∧ w'.cell? ⟨r, 0, none⟩ = some (.bool cn1) ∧ w'.cell? ⟨r, 1, none⟩ = some (.slice co1 ck1 cc1) ∧ w'.cell? ⟨r, 2, none⟩ = some (.bool cn2) ∧ w'.cell? ⟨r, 3, none⟩ = some (.slice co2 ck2 cc2) ∧ w'.cell? ⟨q, 0, none⟩ = some (.bool bn1) ∧ w'.cell? ⟨q, 1, none⟩ = some (.slice bo1 bk1 bc1) ∧ w'.cell? ⟨q, 2, none⟩ = some (.bool bn2) ∧ w'.cell? ⟨q, 3, none⟩ = some (.slice bo2 bk2 bc2)) [fun w' => w'.cell? ⟨p, 0, none⟩ = some (.bool an1) ∧ w'.cell? ⟨p, 1, none⟩ = some (.slice ao1 ak1 ac1) ∧ w'.cell? ⟨p, 2, none⟩ = some (.bool an2) ∧ w'.cell? ⟨p, 3, none⟩ = some (.slice ao2 ak2 ac2), fun w' => w'.cell? ⟨r, 0, none⟩ = some (.bool cn1) ∧ w'.cell? ⟨r, 1, none⟩ = some (.slice co1 ck1 cc1) ∧ w'.cell? ⟨r, 2, none⟩ = some (.bool cn2) ∧ w'.cell? ⟨r, 3, none⟩ = some (.slice co2 ck2 cc2), fun w' => w'.cell? ⟨q, 0, none⟩ = some (.bool bn1) ∧ w'.cell? ⟨q, 1, none⟩ = some (.slice bo1 bk1 bc1) ∧ w'.cell? ⟨q, 2, none⟩ = some (.bool bn2) ∧ w'.cell? ⟨q, 3, none⟩ = some (.slice bo2 bk2 bc2)] (fun ch a' w' hd hx => And.intro hd (And.intro (congrArg Ending.panicked ((hIX ch w').1 hx).1) ((hIX ch w').1 hx).2)) (by kernel_rfl) (by kernel_rfl) (by kernel_rfl) (by kernel_rfl) (by kernel_rfl) (by kernel_rfl) (by kernel_rfl) (by kernel_rfl) (by decide) (by intro j hj; cases hj) (by intro w' o hC; obtain ⟨c0, c1, c2, c3, c4, c5, c6, c7, c8, c9, c10, c11⟩ := hC; exact ⟨cell_alloc c0 o, cell_alloc c1 o, cell_alloc c2 o, cell_alloc c3 o, cell_alloc c4 o, cell_alloc c5 o, cell_alloc c6 o, cell_alloc c7 o, cell_alloc c8 o, cell_alloc c9 o, cell_alloc c10 o, cell_alloc c11 o⟩) (by intro w' hC G hG; obtain ⟨c0, c1, c2, c3, c4, c5, c6, c7, c8, c9, c10, c11⟩ := hC; simp only [List.mem_cons, List.not_mem_nil, or_false] at hG; rcases hG with rfl | rfl | rfl <;> first | exact ⟨c0, c1, c2, c3⟩ | exact ⟨c4, c5, c6, c7⟩ | exact ⟨c8, c9, c10, c11⟩) ?_
  have lt_xa := xa.lt
  have lt_xc := xc.lt
  have lt_xb := xb.lt
  have lt_b1 := x_b1.lt
  intro w_2 hn
  replace lt_xa := Nat.lt_of_lt_of_le lt_xa hn.size
  replace lt_xc := Nat.lt_of_lt_of_le lt_xc hn.size
  replace lt_xb := Nat.lt_of_lt_of_le lt_xb hn.size
  replace lt_b1 := Nat.lt_of_lt_of_le lt_b1 hn.size
  replace xa := xa.bl hn; replace a1 := a1.bl hn; replace a2 := a2.bl hn; replace xc := xc.bl hn; replace c1 := c1.bl hn; replace c2 := c2.bl hn; replace xb := xb.bl hn; replace b1 := b1.bl hn; replace b2 := b2.bl hn; replace x_b1 := x_b1.bl hn; replace hb := tm hb hn
  clear hn
  have kb0 := hb.size
  refine ⟨⟨xa.cell 0 rfl, xa.cell 1 rfl, xa.cell 2 rfl, xa.cell 3 rfl, xc.cell 0 rfl, xc.cell 1 rfl, xc.cell 2 rfl, xc.cell 3 rfl, xb.cell 0 rfl, xb.cell 1 rfl, xb.cell 2 rfl, xb.cell 3 rfl⟩, ?_⟩
  apply Pn.wpFl_ld rfl rfl; (case h1 => intro w' hC K hK; obtain ⟨c0, c1, c2, c3⟩ := hC; go_big_op; exact hK); iterate 4 kernel_rfl
  apply Pn.wpFl_ld rfl rfl; (case h1 => intro w' hC K hK; obtain ⟨c0, c1, c2, c3⟩ := hC; go_big_op; exact hK); iterate 4 kernel_rfl
  apply Pn.wpFl_ld rfl rfl; (case h1 => intro w' hC K hK; obtain ⟨c0, c1, c2, c3⟩ := hC; go_big_op; exact hK); iterate 4 kernel_rfl
  refine Pn.wpFl_call rfl (by kernel_rfl) fun w_3 hn hC => ?_; clear hC
  replace xa := xa.bl hn; replace a1 := a1.bl hn; replace a2 := a2.bl hn; replace xc := xc.bl hn; replace c1 := c1.bl hn; replace c2 := c2.bl hn; replace xb := xb.bl hn; replace b1 := b1.bl hn; replace b2 := b2.bl hn; replace x_b1 := x_b1.bl hn; replace hb := tm hb hn
  clear hn; intro K hK
  go_big_op
  go_fit (gMul_any (PN.mk' a1 a2) (PN.mk' c1 c2) (by omega) (by omega) (by omega) (by omega) )
  rintro e w_4 ⟨_, rfl, ⟨n_ga, o_ga, k_ga, c_ga, n_gb, o_gb, k_gb, c_gb, rfl, g1, g2⟩, hb_4⟩
  replace xa := xa.bl hb_4; replace a1 := a1.bl hb_4; replace a2 := a2.bl hb_4; replace xc := xc.bl hb_4; replace c1 := c1.bl hb_4; replace c2 := c2.bl hb_4; replace xb := xb.bl hb_4; replace b1 := b1.bl hb_4; replace b2 := b2.bl hb_4; replace x_b1 := x_b1.bl hb_4; replace hb := tm hb hb_4
  have Lg1 := hide (g1.lenOf (zlen_sub (zlen_mul (a1.len) (c1.len)) (zlen_mul (a2.len) (c2.len))))
  have Lg2 := hide (g2.lenOf (zlen_add (zlen_mul (a1.len) (c2.len)) (zlen_mul (a2.len) (c1.len))))
  refine hK _ _ rfl hb_4 ⟨xa.cell 0 rfl, xa.cell 1 rfl, xa.cell 2 rfl, xa.cell 3 rfl, xc.cell 0 rfl, xc.cell 1 rfl, xc.cell 2 rfl, xc.cell 3 rfl, xb.cell 0 rfl, xb.cell 1 rfl, xb.cell 2 rfl, xb.cell 3 rfl⟩ ?_
  clear hK K hb_4
  refine Pn.wpFl_call rfl (by kernel_rfl) fun w_5 hn hC => ?_; clear hC
  replace xa := xa.bl hn; replace a1 := a1.bl hn; replace a2 := a2.bl hn; replace xc := xc.bl hn; replace c1 := c1.bl hn; replace c2 := c2.bl hn; replace xb := xb.bl hn; replace b1 := b1.bl hn; replace b2 := b2.bl hn; replace x_b1 := x_b1.bl hn; replace g1 := g1.bl hn; replace g2 := g2.bl hn; replace hb := tm hb hn
  clear hn; intro K hK
  clear hK
  go_big_op
  go_fit (res_zero (.mk' (g1.zn Lg1.out) (g2.zn Lg2.out)) (.mk' b1 b2) (by omega) (by omega) hk hn)
  rintro e w_6 ⟨rfl, hb_6⟩
  exact (hIX _ _).2 ⟨rfl, tm hb hb_6⟩
theorem gresMul_any {L : Nat} (ha : PN w va x l y m) (hc : PN w vc a s b t) (hq : PN w vb u L v L) (hl : l ≤ 2200000) (hm : m ≤ 2200000) (hs : s ≤ 2200000) (ht : t ≤ 2200000) (hk : L ≤ 4500000) (h0 : gN u v ≠ 0) :
    Calls Try.prog 6 #[va, vc, vb] w fun e w' => ∃ r, e = .returned (.tuple #[r, .int .i64 0]) ∧ PC w' r (gR1 (x * a - y * b) (x * b + y * a) u v) (gR2 (x * a - y * b) (x * b + y * a) u v) ∧ Below w.heap.size w w' := by
  have H0 := hide h0
  clear h0
  obtain ⟨n_0a, o_0a, k_0a, c_0a, n_0b, o_0b, k_0b, c_0b, rfl, ha1, ha2⟩ := ha
  obtain ⟨n_1a, o_1a, k_1a, c_1a, n_1b, o_1b, k_1b, c_1b, rfl, hc1, hc2⟩ := hc
  obtain ⟨n_2a, o_2a, k_2a, c_2a, n_2b, o_2b, k_2b, c_2b, rfl, hq1, hq2⟩ := hq
  go_enter Try.func6, Try.ntmps6
  have hb := Below.refl w.heap.size w
  refine wp_seq_k ?_
  intro K1 hK1
  refine wp_region_sq [0, 1, 2, 3, 4] (by kernel_rfl) ?_
  refine sc fun K hK => ?_
  go_big_op
  obtain ⟨p_b1, w_1, eP, eW, x_b1, hn, kb_b1⟩ := newBox w #[.bool n_0a, .slice o_0a k_0a c_0a, .bool n_0b, .slice o_0b k_0b c_0b] 26 hb.size
  rw [eW, eP]
  clear eW eP
  replace ha1 := ha1.bl hn; replace ha2 := ha2.bl hn; replace hc1 := hc1.bl hn; replace hc2 := hc2.bl hn; replace hq1 := hq1.bl hn; replace hq2 := hq2.bl hn; replace hb := tm hb hn
  refine hK _ _ rfl ?_; clear hK K hn
  refine sc fun K hK => ?_
  go_big_op
  have lt_b1 := x_b1.lt
  obtain ⟨p_b2, w_2, eP, eW, x_b2, hn, kb_b2⟩ := newBox w_1 #[.bool n_1a, .slice o_1a k_1a c_1a, .bool n_1b, .slice o_1b k_1b c_1b] 26 hb.size
  rw [eW, eP]
  clear eW eP lt_b1
  replace ha1 := ha1.bl hn; replace ha2 := ha2.bl hn; replace hc1 := hc1.bl hn; replace hc2 := hc2.bl hn; replace hq1 := hq1.bl hn; replace hq2 := hq2.bl hn; replace x_b1 := x_b1.bl hn; replace hb := tm hb hn
  refine hK _ _ rfl ?_; clear hK K hn
  refine sc fun K hK => ?_
  go_big_op
  have lt_b1 := x_b1.lt
  have lt_b2 := x_b2.lt
  obtain ⟨p_b3, w_3, eP, eW, x_b3, hn, kb_b3⟩ := newBox w_2 #[.bool n_2a, .slice o_2a k_2a c_2a, .bool n_2b, .slice o_2b k_2b c_2b] 26 hb.size
  rw [eW, eP]
  clear eW eP lt_b1 lt_b2
  replace ha1 := ha1.bl hn; replace ha2 := ha2.bl hn; replace hc1 := hc1.bl hn; replace hc2 := hc2.bl hn; replace hq1 := hq1.bl hn; replace hq2 := hq2.bl hn; replace x_b1 := x_b1.bl hn; replace x_b2 := x_b2.bl hn; replace hb := tm hb hn
  refine hK _ _ rfl ?_; clear hK K hn
  refine sc fun K hK => ?_
  go_big_op
  have lt_b1 := x_b1.lt
  have lt_b2 := x_b2.lt
  obtain ⟨p_b4, w_4, eP, eW, x_b4, hn, kb_b4⟩ := newBox w_3 #[.bool false, .slice none 0 0, .bool false, .slice none 0 0] 26 hb.size
  rw [eW, eP]
  clear eW eP lt_b1 lt_b2
  replace ha1 := ha1.bl hn; replace ha2 := ha2.bl hn; replace hc1 := hc1.bl hn; replace hc2 := hc2.bl hn; replace hq1 := hq1.bl hn; replace hq2 := hq2.bl hn; replace x_b1 := x_b1.bl hn; replace x_b2 := x_b2.bl hn; replace x_b3 := x_b3.bl hn; replace hb := tm hb hn
  refine hK _ _ rfl ?_; clear hK K hn
  refine sc fun K hK => ?_
  go_big_move; refine hK _ _ rfl ?_; clear hK K
  apply wpSq_end
  refine hK1 _ _ ?_
  refine wp_seq_k ?_
  intro K2 hK2
  refine wp_region_sq [0, 1, 2, 3, 4, 5] (by kernel_rfl) ?_
  refine sc fun K hK => ?_
  go_big_op; refine hK _ _ rfl ?_; clear hK K
  refine sc fun K hK => ?_
  go_big_op
  go_fit (ansG_ok (fun _ ↦ by kernel_rfl) (fun w1 h ↦ mul1_any (.mk' (x_b1.bl h) (ha1.bl h) (ha2.bl h)) (.mk' (x_b2.bl h) (hc1.bl h) (hc2.bl h)) (.mk' (x_b3.bl h) (hq1.bl h) (hq2.bl h)) hl hm hs ht hk H0.out))
  rintro e w_5 ⟨_, rfl, ⟨n_ra, o_ra, k_ra, c_ra, n_rb, o_rb, k_rb, c_rb, rfl, r1, r2⟩, hb_5⟩
  replace ha1 := ha1.bl hb_5; replace ha2 := ha2.bl hb_5; replace hc1 := hc1.bl hb_5; replace hc2 := hc2.bl hb_5; replace hq1 := hq1.bl hb_5; replace hq2 := hq2.bl hb_5; replace x_b1 := x_b1.bl hb_5; replace x_b2 := x_b2.bl hb_5; replace x_b3 := x_b3.bl hb_5; replace x_b4 := x_b4.bl hb_5; replace hb := tm hb hb_5
  refine hK _ _ rfl ?_
  clear hK K hb_5
  refine sc fun K hK => ?_
  go_big_op; refine hK _ _ rfl ?_; clear hK K
  refine sc fun K hK => ?_
  go_big_op; refine hK _ _ rfl ?_; clear hK K
  refine sc fun K hK => ?_
  obtain ⟨d0, d1, d2, d3⟩ := x_b4.f4
  have f0 := x_b4.free 0; have f1 := x_b4.free 1; have f2 := x_b4.free 2; have f3 := x_b4.free 3
  go_big_op
  have hnd := x_b4.nod rfl rfl
  obtain ⟨w_6, eW, x_b4', ho⟩ : ∃ w', ((((w_5.setCell ⟨p_b4, 0, none⟩ (.bool n_ra)).setCell ⟨p_b4, 1, none⟩ (.slice o_ra k_ra c_ra)).setCell ⟨p_b4, 2, none⟩ (.bool n_rb)).setCell ⟨p_b4, 3, none⟩ (.slice o_rb k_rb c_rb)) = w' ∧ Bs w' p_b4 #[.bool n_ra, .slice o_ra k_ra c_ra, .bool n_rb, .slice o_rb k_rb c_rb] 26 ∧ Only p_b4 w_5 w' := x_b4.setN [(0, .bool n_ra), (1, .slice o_ra k_ra c_ra), (2, .bool n_rb), (3, .slice o_rb k_rb c_rb)]
  rw [eW]; clear eW d0 d1 d2 d3 f0 f1 f2 f3 x_b4
  have x_b4 := x_b4'; clear x_b4'
  clear ha1 ha2 hc1 hc2 hq1 hq2 x_b1 x_b2 x_b3
  replace r1 := r1.fr hnd ho; replace r2 := r2.fr hnd ho; replace hb := belowOnly hb ho kb_b4
  refine hK _ _ rfl ?_; clear hK K ho hnd
  refine sc fun K hK => ?_
  go_big_move; refine hK _ _ rfl ?_; clear hK K
  apply wpSq_end
  refine hK2 _ _ ?_
  refine wp_ret ?_
  try dsimp only [Exit.then, Exit.inBlock]
  obtain ⟨r0_0, r0_1, r0_2, r0_3⟩ := x_b4.f4
  refine bodyPost_ret (v := (.tuple #[(.agg #[.bool n_ra, .slice o_ra k_ra c_ra, .bool n_rb, .slice o_rb k_rb c_rb]), (.int .i64 0)])) (by simp [results, Try.results6, go_sem, r0_0, r0_1, r0_2, r0_3]) rfl ?_
  exact ⟨_, rfl, .mk' r1 r2, hb⟩
theorem gresMul_zero (ha : PN w va x l y m) (hc : PN w vc a s b t) (hq : PN w vb 0 k 0 n) (hl : l ≤ 2200000) (hm : m ≤ 2200000) (hs : s ≤ 2200000) (ht : t ≤ 2200000) (hk : k ≤ 4500000) (hn : n ≤ 4500000) :
    Calls Try.prog 6 #[va, vc, vb] w fun e w' => e = .returned (.tuple #[.agg #[.bool false, .slice none 0 0, .bool false, .slice none 0 0], .int .i64 5]) ∧ Below w.heap.size w w' := by
  obtain ⟨n_0a, o_0a, k_0a, c_0a, n_0b, o_0b, k_0b, c_0b, rfl, ha1, ha2⟩ := ha
  obtain ⟨n_1a, o_1a, k_1a, c_1a, n_1b, o_1b, k_1b, c_1b, rfl, hc1, hc2⟩ := hc
  obtain ⟨n_2a, o_2a, k_2a, c_2a, n_2b, o_2b, k_2b, c_2b, rfl, hq1, hq2⟩ := hq
  go_enter Try.func6, Try.ntmps6
  have hb := Below.refl w.heap.size w
  refine wp_seq_k ?_
  intro K1 hK1
  refine wp_region_sq [0, 1, 2, 3, 4] (by kernel_rfl) ?_
  refine sc fun K hK => ?_
  go_big_op
  obtain ⟨p_b1, w_1, eP, eW, x_b1, hn, kb_b1⟩ := newBox w #[.bool n_0a, .slice o_0a k_0a c_0a, .bool n_0b, .slice o_0b k_0b c_0b] 26 hb.size
  rw [eW, eP]
  clear eW eP
  replace ha1 := ha1.bl hn; replace ha2 := ha2.bl hn; replace hc1 := hc1.bl hn; replace hc2 := hc2.bl hn; replace hq1 := hq1.bl hn; replace hq2 := hq2.bl hn; replace hb := tm hb hn
  refine hK _ _ rfl ?_; clear hK K hn
  refine sc fun K hK => ?_
  go_big_op
  have lt_b1 := x_b1.lt
  obtain ⟨p_b2, w_2, eP, eW, x_b2, hn, kb_b2⟩ := newBox w_1 #[.bool n_1a, .slice o_1a k_1a c_1a, .bool n_1b, .slice o_1b k_1b c_1b] 26 hb.size
  rw [eW, eP]
  clear eW eP lt_b1
  replace ha1 := ha1.bl hn; replace ha2 := ha2.bl hn; replace hc1 := hc1.bl hn; replace hc2 := hc2.bl hn; replace hq1 := hq1.bl hn; replace hq2 := hq2.bl hn; replace x_b1 := x_b1.bl hn; replace hb := tm hb hn
  refine hK _ _ rfl ?_; clear hK K hn
  refine sc fun K hK => ?_
  go_big_op
  have lt_b1 := x_b1.lt
  have lt_b2 := x_b2.lt
  obtain ⟨p_b3, w_3, eP, eW, x_b3, hn, kb_b3⟩ := newBox w_2 #[.bool n_2a, .slice o_2a k_2a c_2a, .bool n_2b, .slice o_2b k_2b c_2b] 26 hb.size
  rw [eW, eP]
  clear eW eP lt_b1 lt_b2
  replace ha1 := ha1.bl hn; replace ha2 := ha2.bl hn; replace hc1 := hc1.bl hn; replace hc2 := hc2.bl hn; replace hq1 := hq1.bl hn; replace hq2 := hq2.bl hn; replace x_b1 := x_b1.bl hn; replace x_b2 := x_b2.bl hn; replace hb := tm hb hn
  refine hK _ _ rfl ?_; clear hK K hn
  refine sc fun K hK => ?_
  go_big_op
  have lt_b1 := x_b1.lt
  have lt_b2 := x_b2.lt
  obtain ⟨p_b4, w_4, eP, eW, x_b4, hn, kb_b4⟩ := newBox w_3 #[.bool false, .slice none 0 0, .bool false, .slice none 0 0] 26 hb.size
  rw [eW, eP]
  clear eW eP lt_b1 lt_b2
  replace ha1 := ha1.bl hn; replace ha2 := ha2.bl hn; replace hc1 := hc1.bl hn; replace hc2 := hc2.bl hn; replace hq1 := hq1.bl hn; replace hq2 := hq2.bl hn; replace x_b1 := x_b1.bl hn; replace x_b2 := x_b2.bl hn; replace x_b3 := x_b3.bl hn; replace hb := tm hb hn
  refine hK _ _ rfl ?_; clear hK K hn
  refine sc fun K hK => ?_
  go_big_move; refine hK _ _ rfl ?_; clear hK K
  apply wpSq_end
  refine hK1 _ _ ?_
  refine wp_seq_k ?_
  intro K2 hK2
  refine wp_region_sq [0, 1, 2, 3, 4, 5] (by kernel_rfl) ?_
  refine sc fun K hK => ?_
  go_big_op; refine hK _ _ rfl ?_; clear hK K
  refine sc fun K hK => ?_
  go_big_op
  go_fit (ansG_bad (fun _ ↦ by kernel_rfl) (fun w1 h ↦ mul1_zero (.mk' (x_b1.bl h) (ha1.bl h) (ha2.bl h)) (.mk' (x_b2.bl h) (hc1.bl h) (hc2.bl h)) (.mk' (x_b3.bl h) (hq1.bl h) (hq2.bl h)) hl hm hs ht hk hn))
  rintro e w_5 ⟨rfl, hb_5⟩
  replace ha1 := ha1.bl hb_5; replace ha2 := ha2.bl hb_5; replace hc1 := hc1.bl hb_5; replace hc2 := hc2.bl hb_5; replace hq1 := hq1.bl hb_5; replace hq2 := hq2.bl hb_5; replace x_b1 := x_b1.bl hb_5; replace x_b2 := x_b2.bl hb_5; replace x_b3 := x_b3.bl hb_5; replace x_b4 := x_b4.bl hb_5; replace hb := tm hb hb_5
  refine hK _ _ rfl ?_
  clear hK K hb_5
  refine sc fun K hK => ?_
  go_big_op; refine hK _ _ rfl ?_; clear hK K
  refine sc fun K hK => ?_
  go_big_op; refine hK _ _ rfl ?_; clear hK K
  refine sc fun K hK => ?_
  obtain ⟨d0, d1, d2, d3⟩ := x_b4.f4
  have f0 := x_b4.free 0; have f1 := x_b4.free 1; have f2 := x_b4.free 2; have f3 := x_b4.free 3
  go_big_op
  have hnd := x_b4.nod rfl rfl
  obtain ⟨w_6, eW, x_b4', ho⟩ : ∃ w', ((((w_5.setCell ⟨p_b4, 0, none⟩ (.bool false)).setCell ⟨p_b4, 1, none⟩ (.slice none 0 0)).setCell ⟨p_b4, 2, none⟩ (.bool false)).setCell ⟨p_b4, 3, none⟩ (.slice none 0 0)) = w' ∧ Bs w' p_b4 #[.bool false, .slice none 0 0, .bool false, .slice none 0 0] 26 ∧ Only p_b4 w_5 w' := x_b4.setN [(0, .bool false), (1, .slice none 0 0), (2, .bool false), (3, .slice none 0 0)]
  rw [eW]; clear eW d0 d1 d2 d3 f0 f1 f2 f3 x_b4
  have x_b4 := x_b4'; clear x_b4'
  clear ha1 ha2 hc1 hc2 hq1 hq2 x_b1 x_b2 x_b3
  replace hb := belowOnly hb ho kb_b4
  refine hK _ _ rfl ?_; clear hK K ho hnd
  refine sc fun K hK => ?_
  go_big_move; refine hK _ _ rfl ?_; clear hK K
  apply wpSq_end
  refine hK2 _ _ ?_
  refine wp_ret ?_
  try dsimp only [Exit.then, Exit.inBlock]
  obtain ⟨r0_0, r0_1, r0_2, r0_3⟩ := x_b4.f4
  refine bodyPost_ret (v := (.tuple #[(.agg #[.bool false, .slice none 0 0, .bool false, .slice none 0 0]), (.int .i64 5)])) (by simp [results, Try.results6, go_sem, r0_0, r0_1, r0_2, r0_3]) rfl ?_
  exact ⟨rfl, hb⟩
end
end Go.Proofs.Ytpdfahompajbjaa

/- gres.Pow. -/
namespace Go.Proofs.Ytpdfahompajbjaa
open Go Go.RowKit Dig
set_option maxHeartbeats 8000000
set_option maxRecDepth 20000
set_option linter.unusedVariables false
section
variable {w : World} {va vb vn : Value} {x y u v z : Int} {l m k n s L : Nat}
theorem pow1_any {p q g nk nc : Nat} {nb : Bool} {no : Option Addr} (ha : BP w p x l y m) (xn : Bs w g #[.bool nb, .slice no nk nc] 24) (hx : ZN w (.agg #[.bool nb, .slice no nk nc]) z s) (hq : BP w q u L v L) (hl : l ≤ 2200000) (hm : m ≤ 2200000) (hs : s ≤ 2200000) (hL : L ≤ 1100000) (h0 : gN u v ≠ 0) (hz : 0 ≤ z) :
    Calls Try.prog 33 #[.pointer (some ⟨p, 0, none⟩), .pointer (some ⟨g, 0, none⟩), .pointer (some ⟨q, 0, none⟩)] w fun e w' => ∃ r, e = .returned r ∧ PC w' r (pR1 x y u v z.natAbs) (pR2 x y u v z.natAbs) ∧ Below w.heap.size w w' := by
  obtain ⟨an1, ao1, ak1, ac1, an2, ao2, ak2, ac2, xa, a1, a2⟩ := ha
  obtain ⟨bn1, bo1, bk1, bc1, bn2, bo2, bk2, bc2, xb, b1, b2⟩ := hq
  have HH := hide (And.intro h0 hz)
  clear h0 hz
  go_enter Try.func33, Try.ntmps33
  have hb := Below.refl w.heap.size w
  refine wp_seq_k ?_
  intro K1 hK1
  refine wp_region_sq [0] (by kernel_rfl) ?_
  refine sc fun K hK => ?_
  go_big_op
  have lt_xa := xa.lt
  have lt_xn := xn.lt
  have lt_xb := xb.lt
  obtain ⟨p_b1, w_1, eP, eW, x_b1, hn, kb_b1⟩ := newBox w #[.bool false, .slice none 0 0, .bool false, .slice none 0 0] 26 hb.size
  rw [eW, eP]
  clear eW eP lt_xa lt_xn lt_xb
  replace xa := xa.bl hn; replace a1 := a1.bl hn; replace a2 := a2.bl hn; replace xn := xn.bl hn; replace hx := hx.bl hn; replace xb := xb.bl hn; replace b1 := b1.bl hn; replace b2 := b2.bl hn; replace hb := tm hb hn
  refine hK _ _ rfl ?_; clear hK K hn
  apply wpSq_end
  refine hK1 _ _ ?_
  refine wp_seq_k ?_
  intro K2 hK2
  refine wp_region_sq [0, 1, 2, 3, 4] (by kernel_rfl) ?_
  refine sc fun K hK => ?_
  obtain ⟨d0, d1, d2, d3⟩ := xa.f4
  go_big_op; refine hK _ _ rfl ?_; clear hK K d0 d1 d2 d3
  refine sc fun K hK => ?_
  obtain ⟨d0, d1⟩ := xn.f2
  go_big_op; refine hK _ _ rfl ?_; clear hK K d0 d1
  refine sc fun K hK => ?_
  obtain ⟨d0, d1, d2, d3⟩ := xb.f4
  go_big_op; refine hK _ _ rfl ?_; clear hK K d0 d1 d2 d3
  refine sc fun K hK => ?_
  go_big_op
  go_fit (power_any (.mk' a1 a2) hx (.mk' b1 b2) hl hm hs hL HH.out.1 HH.out.2)
  rintro e w_2 ⟨_, rfl, ⟨n_ra, o_ra, k_ra, c_ra, n_rb, o_rb, k_rb, c_rb, rfl, r1, r2⟩, hb_2⟩
  clear xa xn xb
  replace a1 := a1.bl hb_2; replace a2 := a2.bl hb_2; replace hx := hx.bl hb_2; replace b1 := b1.bl hb_2; replace b2 := b2.bl hb_2; replace x_b1 := x_b1.bl hb_2; replace hb := tm hb hb_2
  refine hK _ _ rfl ?_
  clear hK K hb_2
  refine sc fun K hK => ?_
  obtain ⟨d0, d1, d2, d3⟩ := x_b1.f4
  have f0 := x_b1.free 0; have f1 := x_b1.free 1; have f2 := x_b1.free 2; have f3 := x_b1.free 3
  go_big_op
  have hnd := x_b1.nod rfl rfl
  obtain ⟨w_3, eW, x_b1', ho⟩ : ∃ w', ((((w_2.setCell ⟨p_b1, 0, none⟩ (.bool n_ra)).setCell ⟨p_b1, 1, none⟩ (.slice o_ra k_ra c_ra)).setCell ⟨p_b1, 2, none⟩ (.bool n_rb)).setCell ⟨p_b1, 3, none⟩ (.slice o_rb k_rb c_rb)) = w' ∧ Bs w' p_b1 #[.bool n_ra, .slice o_ra k_ra c_ra, .bool n_rb, .slice o_rb k_rb c_rb] 26 ∧ Only p_b1 w_2 w' := x_b1.setN [(0, .bool n_ra), (1, .slice o_ra k_ra c_ra), (2, .bool n_rb), (3, .slice o_rb k_rb c_rb)]
  rw [eW]; clear eW d0 d1 d2 d3 f0 f1 f2 f3 x_b1
  have x_b1 := x_b1'; clear x_b1'
  clear a1 a2 hx b1 b2
  replace r1 := r1.fr hnd ho; replace r2 := r2.fr hnd ho; replace hb := belowOnly hb ho kb_b1
  refine hK _ _ rfl ?_; clear hK K ho hnd
  apply wpSq_end
  refine hK2 _ _ ?_
  refine wp_ret ?_
  try dsimp only [Exit.then, Exit.inBlock]
  obtain ⟨r0_0, r0_1, r0_2, r0_3⟩ := x_b1.f4
  refine bodyPost_ret (v := (.agg #[.bool n_ra, .slice o_ra k_ra c_ra, .bool n_rb, .slice o_rb k_rb c_rb])) (by simp [results, Try.results33, go_sem, r0_0, r0_1, r0_2, r0_3]) rfl ?_
  exact ⟨_, rfl, .mk' r1 r2, hb⟩
theorem pow1_zero {p q g nk nc : Nat} {nb : Bool} {no : Option Addr} (ha : BP w p x l y m) (xn : Bs w g #[.bool nb, .slice no nk nc] 24) (hx : ZN w (.agg #[.bool nb, .slice no nk nc]) z s) (hq : BP w q 0 L 0 L) (hl : l ≤ 2200000) (hm : m ≤ 2200000) (hs : s ≤ 2200000) (hL : L ≤ 1100000)  :
    Calls Try.prog 33 #[.pointer (some ⟨p, 0, none⟩), .pointer (some ⟨g, 0, none⟩), .pointer (some ⟨q, 0, none⟩)] w fun e w' => e = .panicked [{ v := .iface 27 (.int .i64 5), recovered := false }] ∧ Below w.heap.size w w' := by
  obtain ⟨an1, ao1, ak1, ac1, an2, ao2, ak2, ac2, xa, a1, a2⟩ := ha
  obtain ⟨bn1, bo1, bk1, bc1, bn2, bo2, bk2, bc2, xb, b1, b2⟩ := hq
  go_enter Try.func33, Try.ntmps33
  have hb := Below.refl w.heap.size w
  obtain ⟨IX, hIX⟩ : ∃ I : Pn.PX, ∀ ch w', I.X ch w' ↔ (ch = [{ v := .iface 27 (.int .i64 5), recovered := false }] ∧ Below w.heap.size w w') := ⟨⟨_⟩, fun _ _ => Iff.rfl⟩
  refine wp_seq_k ?_
  intro K1 hK1
  refine Pn.wp_region_sq [0] (fun ch a' w' hd hx => And.intro hd (And.intro (congrArg Ending.panicked ((hIX ch w').1 hx).1) ((hIX ch w').1 hx).2)) (by kernel_rfl) ?_
  refine Pn.wpSq_call rfl (by kernel_rfl) fun K hK => ?_
  go_big_op
  have lt_xa := xa.lt
  have lt_xn := xn.lt
  have lt_xb := xb.lt
  obtain ⟨p_b1, w_1, eP, eW, x_b1, hn, kb_b1⟩ := newBox w #[.bool false, .slice none 0 0, .bool false, .slice none 0 0] 26 hb.size
  rw [eW, eP]
  clear eW eP lt_xa lt_xn lt_xb
  replace xa := xa.bl hn; replace a1 := a1.bl hn; replace a2 := a2.bl hn; replace xn := xn.bl hn; replace hx := hx.bl hn; replace xb := xb.bl hn; replace b1 := b1.bl hn; replace b2 := b2.bl hn; replace hb := tm hb hn
  refine hK _ _ rfl ?_; clear hK K hn
  apply Pn.wpSq_end
  refine hK1 _ _ ?_
  refine wp_seq_k ?_
  intro K2 hK2
  refine Pn.wp_region_sq [0, 1, 2, 3, 4] (fun ch a' w' hd hx => And.intro hd (And.intro (congrArg Ending.panicked ((hIX ch w').1 hx).1) ((hIX ch w').1 hx).2)) (by kernel_rfl) ?_
  refine Pn.wpSq_call rfl (by kernel_rfl) fun K hK => ?_
  obtain ⟨d0, d1, d2, d3⟩ := xa.f4
  go_big_op; refine hK _ _ rfl ?_; clear hK K d0 d1 d2 d3
  refine Pn.wpSq_call rfl (by kernel_rfl) fun K hK => ?_
  obtain ⟨d0, d1⟩ := xn.f2
  go_big_op; refine hK _ _ rfl ?_; clear hK K d0 d1
  refine Pn.wpSq_call rfl (by kernel_rfl) fun K hK => ?_
  obtain ⟨d0, d1, d2, d3⟩ := xb.f4
  go_big_op; refine hK _ _ rfl ?_; clear hK K d0 d1 d2 d3
  refine Pn.wpSq_call rfl (by kernel_rfl) fun K hK => ?_
  clear hK
  go_big_op
  go_fit (power_zero (.mk' a1 a2) hx (.mk' b1 b2) hl hm (by omega) (by omega))
  rintro e w_2 ⟨rfl, hb_2⟩
  exact (hIX _ _).2 ⟨rfl, tm hb hb_2⟩
theorem pow1_neg {p q g nk nc : Nat} {nb : Bool} {no : Option Addr} (ha : BP w p x l y m) (xn : Bs w g #[.bool nb, .slice no nk nc] 24) (hx : ZN w (.agg #[.bool nb, .slice no nk nc]) z s) (hq : BP w q u L v L) (hl : l ≤ 2200000) (hm : m ≤ 2200000) (hs : s ≤ 2200000) (hL : L ≤ 1100000) (h0 : gN u v ≠ 0) (hz : z < 0) :
    Calls Try.prog 33 #[.pointer (some ⟨p, 0, none⟩), .pointer (some ⟨g, 0, none⟩), .pointer (some ⟨q, 0, none⟩)] w fun e w' => e = .panicked [{ v := .iface 27 (.int .i64 9), recovered := false }] ∧ Below w.heap.size w w' := by
  obtain ⟨an1, ao1, ak1, ac1, an2, ao2, ak2, ac2, xa, a1, a2⟩ := ha
  obtain ⟨bn1, bo1, bk1, bc1, bn2, bo2, bk2, bc2, xb, b1, b2⟩ := hq
  have HH := hide (And.intro h0 hz)
  clear h0 hz
  go_enter Try.func33, Try.ntmps33
  have hb := Below.refl w.heap.size w
  obtain ⟨IX, hIX⟩ : ∃ I : Pn.PX, ∀ ch w', I.X ch w' ↔ (ch = [{ v := .iface 27 (.int .i64 9), recovered := false }] ∧ Below w.heap.size w w') := ⟨⟨_⟩, fun _ _ => Iff.rfl⟩
  refine wp_seq_k ?_
  intro K1 hK1
  refine Pn.wp_region_sq [0] (fun ch a' w' hd hx => And.intro hd (And.intro (congrArg Ending.panicked ((hIX ch w').1 hx).1) ((hIX ch w').1 hx).2)) (by kernel_rfl) ?_
  refine Pn.wpSq_call rfl (by kernel_rfl) fun K hK => ?_
  go_big_op
  have lt_xa := xa.lt
  have lt_xn := xn.lt
  have lt_xb := xb.lt
  obtain ⟨p_b1, w_1, eP, eW, x_b1, hn, kb_b1⟩ := newBox w #[.bool false, .slice none 0 0, .bool false, .slice none 0 0] 26 hb.size
  rw [eW, eP]
  clear eW eP lt_xa lt_xn lt_xb
  replace xa := xa.bl hn; replace a1 := a1.bl hn; replace a2 := a2.bl hn; replace xn := xn.bl hn; replace hx := hx.bl hn; replace xb := xb.bl hn; replace b1 := b1.bl hn; replace b2 := b2.bl hn; replace hb := tm hb hn
  refine hK _ _ rfl ?_; clear hK K hn
  apply Pn.wpSq_end
  refine hK1 _ _ ?_
  refine wp_seq_k ?_
  intro K2 hK2
  refine Pn.wp_region_sq [0, 1, 2, 3, 4] (fun ch a' w' hd hx => And.intro hd (And.intro (congrArg Ending.panicked ((hIX ch w').1 hx).1) ((hIX ch w').1 hx).2)) (by kernel_rfl) ?_
  refine Pn.wpSq_call rfl (by kernel_rfl) fun K hK => ?_
  obtain ⟨d0, d1, d2, d3⟩ := xa.f4
  go_big_op; refine hK _ _ rfl ?_; clear hK K d0 d1 d2 d3
  refine Pn.wpSq_call rfl (by kernel_rfl) fun K hK => ?_
  obtain ⟨d0, d1⟩ := xn.f2
  go_big_op; refine hK _ _ rfl ?_; clear hK K d0 d1
  refine Pn.wpSq_call rfl (by kernel_rfl) fun K hK => ?_
  obtain ⟨d0, d1, d2, d3⟩ := xb.f4
  go_big_op; refine hK _ _ rfl ?_; clear hK K d0 d1 d2 d3
  refine Pn.wpSq_call rfl (by kernel_rfl) fun K hK => ?_
  clear hK
  go_big_op
  go_fit (power_neg (.mk' a1 a2) hx (.mk' b1 b2) hl hm hs hL HH.out.1 HH.out.2)
  rintro e w_2 ⟨rfl, hb_2⟩
  exact (hIX _ _).2 ⟨rfl, tm hb hb_2⟩
theorem gPow_any (ha : PN w va x l y m) (hx : ZN w vn z s) (hq : PN w vb u L v L) (hl : l ≤ 2200000) (hm : m ≤ 2200000) (hs : s ≤ 2200000) (hL : L ≤ 1100000) (h0 : gN u v ≠ 0) (hz : 0 ≤ z) :
    Calls Try.prog 7 #[va, vn, vb] w fun e w' => ∃ r, e = .returned (.tuple #[r, .int .i64 0]) ∧ PC w' r (pR1 x y u v z.natAbs) (pR2 x y u v z.natAbs) ∧ Below w.heap.size w w' := by
  have HH := hide (And.intro h0 hz)
  clear h0 hz
  obtain ⟨n_0a, o_0a, k_0a, c_0a, n_0b, o_0b, k_0b, c_0b, rfl, ha1, ha2⟩ := ha
  obtain ⟨n_1, o_1, k_1, c_1, rfl⟩ := hx.open2
  obtain ⟨n_2a, o_2a, k_2a, c_2a, n_2b, o_2b, k_2b, c_2b, rfl, hq1, hq2⟩ := hq
  go_enter Try.func7, Try.ntmps7
  have hb := Below.refl w.heap.size w
  refine wp_seq_k ?_
  intro K1 hK1
  refine wp_region_sq [0, 1, 2, 3, 4] (by kernel_rfl) ?_
  refine sc fun K hK => ?_
  go_big_op
  obtain ⟨p_b1, w_1, eP, eW, x_b1, hn, kb_b1⟩ := newBox w #[.bool n_0a, .slice o_0a k_0a c_0a, .bool n_0b, .slice o_0b k_0b c_0b] 26 hb.size
  rw [eW, eP]
  clear eW eP
  replace ha1 := ha1.bl hn; replace ha2 := ha2.bl hn; replace hx := hx.bl hn; replace hq1 := hq1.bl hn; replace hq2 := hq2.bl hn; replace hb := tm hb hn
  refine hK _ _ rfl ?_; clear hK K hn
  refine sc fun K hK => ?_
  go_big_op
  have lt_b1 := x_b1.lt
  obtain ⟨p_b2, w_2, eP, eW, x_b2, hn, kb_b2⟩ := newBox w_1 #[.bool n_1, .slice o_1 k_1 c_1] 24 hb.size
  rw [eW, eP]
  clear eW eP lt_b1
  replace ha1 := ha1.bl hn; replace ha2 := ha2.bl hn; replace hx := hx.bl hn; replace hq1 := hq1.bl hn; replace hq2 := hq2.bl hn; replace x_b1 := x_b1.bl hn; replace hb := tm hb hn
  refine hK _ _ rfl ?_; clear hK K hn
  refine sc fun K hK => ?_
  go_big_op
  have lt_b1 := x_b1.lt
  have lt_b2 := x_b2.lt
  obtain ⟨p_b3, w_3, eP, eW, x_b3, hn, kb_b3⟩ := newBox w_2 #[.bool n_2a, .slice o_2a k_2a c_2a, .bool n_2b, .slice o_2b k_2b c_2b] 26 hb.size
  rw [eW, eP]
  clear eW eP lt_b1 lt_b2
  replace ha1 := ha1.bl hn; replace ha2 := ha2.bl hn; replace hx := hx.bl hn; replace hq1 := hq1.bl hn; replace hq2 := hq2.bl hn; replace x_b1 := x_b1.bl hn; replace x_b2 := x_b2.bl hn; replace hb := tm hb hn
  refine hK _ _ rfl ?_; clear hK K hn
  refine sc fun K hK => ?_
  go_big_op
  have lt_b1 := x_b1.lt
  have lt_b2 := x_b2.lt
  obtain ⟨p_b4, w_4, eP, eW, x_b4, hn, kb_b4⟩ := newBox w_3 #[.bool false, .slice none 0 0, .bool false, .slice none 0 0] 26 hb.size
  rw [eW, eP]
  clear eW eP lt_b1 lt_b2
  replace ha1 := ha1.bl hn; replace ha2 := ha2.bl hn; replace hx := hx.bl hn; replace hq1 := hq1.bl hn; replace hq2 := hq2.bl hn; replace x_b1 := x_b1.bl hn; replace x_b2 := x_b2.bl hn; replace x_b3 := x_b3.bl hn; replace hb := tm hb hn
  refine hK _ _ rfl ?_; clear hK K hn
  refine sc fun K hK => ?_
  go_big_move; refine hK _ _ rfl ?_; clear hK K
  apply wpSq_end
  refine hK1 _ _ ?_
  refine wp_seq_k ?_
  intro K2 hK2
  refine wp_region_sq [0, 1, 2, 3, 4, 5] (by kernel_rfl) ?_
  refine sc fun K hK => ?_
  go_big_op; refine hK _ _ rfl ?_; clear hK K
  refine sc fun K hK => ?_
  go_big_op
  go_fit (ansG_ok (fun _ ↦ by kernel_rfl) (fun w1 h ↦ pow1_any (.mk' (x_b1.bl h) (ha1.bl h) (ha2.bl h)) (x_b2.bl h) (hx.bl h) (.mk' (x_b3.bl h) (hq1.bl h) (hq2.bl h)) hl hm hs hL HH.out.1 HH.out.2))
  rintro e w_5 ⟨_, rfl, ⟨n_ra, o_ra, k_ra, c_ra, n_rb, o_rb, k_rb, c_rb, rfl, r1, r2⟩, hb_5⟩
  replace ha1 := ha1.bl hb_5; replace ha2 := ha2.bl hb_5; replace hx := hx.bl hb_5; replace hq1 := hq1.bl hb_5; replace hq2 := hq2.bl hb_5; replace x_b1 := x_b1.bl hb_5; replace x_b2 := x_b2.bl hb_5; replace x_b3 := x_b3.bl hb_5; replace x_b4 := x_b4.bl hb_5; replace hb := tm hb hb_5
  refine hK _ _ rfl ?_
  clear hK K hb_5
  refine sc fun K hK => ?_
  go_big_op; refine hK _ _ rfl ?_; clear hK K
  refine sc fun K hK => ?_
  go_big_op; refine hK _ _ rfl ?_; clear hK K
  refine sc fun K hK => ?_
  obtain ⟨d0, d1, d2, d3⟩ := x_b4.f4
  have f0 := x_b4.free 0; have f1 := x_b4.free 1; have f2 := x_b4.free 2; have f3 := x_b4.free 3
  go_big_op
  have hnd := x_b4.nod rfl rfl
  obtain ⟨w_6, eW, x_b4', ho⟩ : ∃ w', ((((w_5.setCell ⟨p_b4, 0, none⟩ (.bool n_ra)).setCell ⟨p_b4, 1, none⟩ (.slice o_ra k_ra c_ra)).setCell ⟨p_b4, 2, none⟩ (.bool n_rb)).setCell ⟨p_b4, 3, none⟩ (.slice o_rb k_rb c_rb)) = w' ∧ Bs w' p_b4 #[.bool n_ra, .slice o_ra k_ra c_ra, .bool n_rb, .slice o_rb k_rb c_rb] 26 ∧ Only p_b4 w_5 w' := x_b4.setN [(0, .bool n_ra), (1, .slice o_ra k_ra c_ra), (2, .bool n_rb), (3, .slice o_rb k_rb c_rb)]
  rw [eW]; clear eW d0 d1 d2 d3 f0 f1 f2 f3 x_b4
  have x_b4 := x_b4'; clear x_b4'
  clear ha1 ha2 hx hq1 hq2 x_b1 x_b2 x_b3
  replace r1 := r1.fr hnd ho; replace r2 := r2.fr hnd ho; replace hb := belowOnly hb ho kb_b4
  refine hK _ _ rfl ?_; clear hK K ho hnd
  refine sc fun K hK => ?_
  go_big_move; refine hK _ _ rfl ?_; clear hK K
  apply wpSq_end
  refine hK2 _ _ ?_
  refine wp_ret ?_
  try dsimp only [Exit.then, Exit.inBlock]
  obtain ⟨r0_0, r0_1, r0_2, r0_3⟩ := x_b4.f4
  refine bodyPost_ret (v := (.tuple #[(.agg #[.bool n_ra, .slice o_ra k_ra c_ra, .bool n_rb, .slice o_rb k_rb c_rb]), (.int .i64 0)])) (by simp [results, Try.results7, go_sem, r0_0, r0_1, r0_2, r0_3]) rfl ?_
  exact ⟨_, rfl, .mk' r1 r2, hb⟩
theorem gPow_zero (ha : PN w va x l y m) (hx : ZN w vn z s) (hq : PN w vb 0 L 0 L) (hl : l ≤ 2200000) (hm : m ≤ 2200000) (hs : s ≤ 2200000) (hL : L ≤ 1100000)  :
    Calls Try.prog 7 #[va, vn, vb] w fun e w' => e = .returned (.tuple #[.agg #[.bool false, .slice none 0 0, .bool false, .slice none 0 0], .int .i64 5]) ∧ Below w.heap.size w w' := by
  obtain ⟨n_0a, o_0a, k_0a, c_0a, n_0b, o_0b, k_0b, c_0b, rfl, ha1, ha2⟩ := ha
  obtain ⟨n_1, o_1, k_1, c_1, rfl⟩ := hx.open2
  obtain ⟨n_2a, o_2a, k_2a, c_2a, n_2b, o_2b, k_2b, c_2b, rfl, hq1, hq2⟩ := hq
  go_enter Try.func7, Try.ntmps7
  have hb := Below.refl w.heap.size w
  refine wp_seq_k ?_
  intro K1 hK1
  refine wp_region_sq [0, 1, 2, 3, 4] (by kernel_rfl) ?_
  refine sc fun K hK => ?_
  go_big_op
  obtain ⟨p_b1, w_1, eP, eW, x_b1, hn, kb_b1⟩ := newBox w #[.bool n_0a, .slice o_0a k_0a c_0a, .bool n_0b, .slice o_0b k_0b c_0b] 26 hb.size
  rw [eW, eP]
  clear eW eP
  replace ha1 := ha1.bl hn; replace ha2 := ha2.bl hn; replace hx := hx.bl hn; replace hq1 := hq1.bl hn; replace hq2 := hq2.bl hn; replace hb := tm hb hn
  refine hK _ _ rfl ?_; clear hK K hn
  refine sc fun K hK => ?_
  go_big_op
  have lt_b1 := x_b1.lt
  obtain ⟨p_b2, w_2, eP, eW, x_b2, hn, kb_b2⟩ := newBox w_1 #[.bool n_1, .slice o_1 k_1 c_1] 24 hb.size
  rw [eW, eP]
  clear eW eP lt_b1
  replace ha1 := ha1.bl hn; replace ha2 := ha2.bl hn; replace hx := hx.bl hn; replace hq1 := hq1.bl hn; replace hq2 := hq2.bl hn; replace x_b1 := x_b1.bl hn; replace hb := tm hb hn
  refine hK _ _ rfl ?_; clear hK K hn
  refine sc fun K hK => ?_
  go_big_op
  have lt_b1 := x_b1.lt
  have lt_b2 := x_b2.lt
  obtain ⟨p_b3, w_3, eP, eW, x_b3, hn, kb_b3⟩ := newBox w_2 #[.bool n_2a, .slice o_2a k_2a c_2a, .bool n_2b, .slice o_2b k_2b c_2b] 26 hb.size
  rw [eW, eP]
  clear eW eP lt_b1 lt_b2
  replace ha1 := ha1.bl hn; replace ha2 := ha2.bl hn; replace hx := hx.bl hn; replace hq1 := hq1.bl hn; replace hq2 := hq2.bl hn; replace x_b1 := x_b1.bl hn; replace x_b2 := x_b2.bl hn; replace hb := tm hb hn
  refine hK _ _ rfl ?_; clear hK K hn
  refine sc fun K hK => ?_
  go_big_op
  have lt_b1 := x_b1.lt
  have lt_b2 := x_b2.lt
  obtain ⟨p_b4, w_4, eP, eW, x_b4, hn, kb_b4⟩ := newBox w_3 #[.bool false, .slice none 0 0, .bool false, .slice none 0 0] 26 hb.size
  rw [eW, eP]
  clear eW eP lt_b1 lt_b2
  replace ha1 := ha1.bl hn; replace ha2 := ha2.bl hn; replace hx := hx.bl hn; replace hq1 := hq1.bl hn; replace hq2 := hq2.bl hn; replace x_b1 := x_b1.bl hn; replace x_b2 := x_b2.bl hn; replace x_b3 := x_b3.bl hn; replace hb := tm hb hn
  refine hK _ _ rfl ?_; clear hK K hn
  refine sc fun K hK => ?_
  go_big_move; refine hK _ _ rfl ?_; clear hK K
  apply wpSq_end
  refine hK1 _ _ ?_
  refine wp_seq_k ?_
  intro K2 hK2
  refine wp_region_sq [0, 1, 2, 3, 4, 5] (by kernel_rfl) ?_
  refine sc fun K hK => ?_
  go_big_op; refine hK _ _ rfl ?_; clear hK K
  refine sc fun K hK => ?_
  go_big_op
  go_fit (ansG_bad (fun _ ↦ by kernel_rfl) (fun w1 h ↦ pow1_zero (.mk' (x_b1.bl h) (ha1.bl h) (ha2.bl h)) (x_b2.bl h) (hx.bl h) (.mk' (x_b3.bl h) (hq1.bl h) (hq2.bl h)) hl hm hs hL))
  rintro e w_5 ⟨rfl, hb_5⟩
  replace ha1 := ha1.bl hb_5; replace ha2 := ha2.bl hb_5; replace hx := hx.bl hb_5; replace hq1 := hq1.bl hb_5; replace hq2 := hq2.bl hb_5; replace x_b1 := x_b1.bl hb_5; replace x_b2 := x_b2.bl hb_5; replace x_b3 := x_b3.bl hb_5; replace x_b4 := x_b4.bl hb_5; replace hb := tm hb hb_5
  refine hK _ _ rfl ?_
  clear hK K hb_5
  refine sc fun K hK => ?_
  go_big_op; refine hK _ _ rfl ?_; clear hK K
  refine sc fun K hK => ?_
  go_big_op; refine hK _ _ rfl ?_; clear hK K
  refine sc fun K hK => ?_
  obtain ⟨d0, d1, d2, d3⟩ := x_b4.f4
  have f0 := x_b4.free 0; have f1 := x_b4.free 1; have f2 := x_b4.free 2; have f3 := x_b4.free 3
  go_big_op
  have hnd := x_b4.nod rfl rfl
  obtain ⟨w_6, eW, x_b4', ho⟩ : ∃ w', ((((w_5.setCell ⟨p_b4, 0, none⟩ (.bool false)).setCell ⟨p_b4, 1, none⟩ (.slice none 0 0)).setCell ⟨p_b4, 2, none⟩ (.bool false)).setCell ⟨p_b4, 3, none⟩ (.slice none 0 0)) = w' ∧ Bs w' p_b4 #[.bool false, .slice none 0 0, .bool false, .slice none 0 0] 26 ∧ Only p_b4 w_5 w' := x_b4.setN [(0, .bool false), (1, .slice none 0 0), (2, .bool false), (3, .slice none 0 0)]
  rw [eW]; clear eW d0 d1 d2 d3 f0 f1 f2 f3 x_b4
  have x_b4 := x_b4'; clear x_b4'
  clear ha1 ha2 hx hq1 hq2 x_b1 x_b2 x_b3
  replace hb := belowOnly hb ho kb_b4
  refine hK _ _ rfl ?_; clear hK K ho hnd
  refine sc fun K hK => ?_
  go_big_move; refine hK _ _ rfl ?_; clear hK K
  apply wpSq_end
  refine hK2 _ _ ?_
  refine wp_ret ?_
  try dsimp only [Exit.then, Exit.inBlock]
  obtain ⟨r0_0, r0_1, r0_2, r0_3⟩ := x_b4.f4
  refine bodyPost_ret (v := (.tuple #[(.agg #[.bool false, .slice none 0 0, .bool false, .slice none 0 0]), (.int .i64 5)])) (by simp [results, Try.results7, go_sem, r0_0, r0_1, r0_2, r0_3]) rfl ?_
  exact ⟨rfl, hb⟩
theorem gPow_neg (ha : PN w va x l y m) (hx : ZN w vn z s) (hq : PN w vb u L v L) (hl : l ≤ 2200000) (hm : m ≤ 2200000) (hs : s ≤ 2200000) (hL : L ≤ 1100000) (h0 : gN u v ≠ 0) (hz : z < 0) :
    Calls Try.prog 7 #[va, vn, vb] w fun e w' => e = .returned (.tuple #[.agg #[.bool false, .slice none 0 0, .bool false, .slice none 0 0], .int .i64 9]) ∧ Below w.heap.size w w' := by
  have HH := hide (And.intro h0 hz)
  clear h0 hz
  obtain ⟨n_0a, o_0a, k_0a, c_0a, n_0b, o_0b, k_0b, c_0b, rfl, ha1, ha2⟩ := ha
  obtain ⟨n_1, o_1, k_1, c_1, rfl⟩ := hx.open2
  obtain ⟨n_2a, o_2a, k_2a, c_2a, n_2b, o_2b, k_2b, c_2b, rfl, hq1, hq2⟩ := hq
  go_enter Try.func7, Try.ntmps7
  have hb := Below.refl w.heap.size w
  refine wp_seq_k ?_
  intro K1 hK1
  refine wp_region_sq [0, 1, 2, 3, 4] (by kernel_rfl) ?_
  refine sc fun K hK => ?_
  go_big_op
  obtain ⟨p_b1, w_1, eP, eW, x_b1, hn, kb_b1⟩ := newBox w #[.bool n_0a, .slice o_0a k_0a c_0a, .bool n_0b, .slice o_0b k_0b c_0b] 26 hb.size
  rw [eW, eP]
  clear eW eP
  replace ha1 := ha1.bl hn; replace ha2 := ha2.bl hn; replace hx := hx.bl hn; replace hq1 := hq1.bl hn; replace hq2 := hq2.bl hn; replace hb := tm hb hn
  refine hK _ _ rfl ?_; clear hK K hn
  refine sc fun K hK => ?_
  go_big_op
  have lt_b1 := x_b1.lt
  obtain ⟨p_b2, w_2, eP, eW, x_b2, hn, kb_b2⟩ := newBox w_1 #[.bool n_1, .slice o_1 k_1 c_1] 24 hb.size
  rw [eW, eP]
  clear eW eP lt_b1
  replace ha1 := ha1.bl hn; replace ha2 := ha2.bl hn; replace hx := hx.bl hn; replace hq1 := hq1.bl hn; replace hq2 := hq2.bl hn; replace x_b1 := x_b1.bl hn; replace hb := tm hb hn
  refine hK _ _ rfl ?_; clear hK K hn
  refine sc fun K hK => ?_
  go_big_op
  have lt_b1 := x_b1.lt
  have lt_b2 := x_b2.lt
  obtain ⟨p_b3, w_3, eP, eW, x_b3, hn, kb_b3⟩ := newBox w_2 #[.bool n_2a, .slice o_2a k_2a c_2a, .bool n_2b, .slice o_2b k_2b c_2b] 26 hb.size
  rw [eW, eP]
  clear eW eP lt_b1 lt_b2
  replace ha1 := ha1.bl hn; replace ha2 := ha2.bl hn; replace hx := hx.bl hn; replace hq1 := hq1.bl hn; replace hq2 := hq2.bl hn; replace x_b1 := x_b1.bl hn; replace x_b2 := x_b2.bl hn; replace hb := tm hb hn
  refine hK _ _ rfl ?_; clear hK K hn
  refine sc fun K hK => ?_
  go_big_op
  have lt_b1 := x_b1.lt
  have lt_b2 := x_b2.lt
  obtain ⟨p_b4, w_4, eP, eW, x_b4, hn, kb_b4⟩ := newBox w_3 #[.bool false, .slice none 0 0, .bool false, .slice none 0 0] 26 hb.size
  rw [eW, eP]
  clear eW eP lt_b1 lt_b2
  replace ha1 := ha1.bl hn; replace ha2 := ha2.bl hn; replace hx := hx.bl hn; replace hq1 := hq1.bl hn; replace hq2 := hq2.bl hn; replace x_b1 := x_b1.bl hn; replace x_b2 := x_b2.bl hn; replace x_b3 := x_b3.bl hn; replace hb := tm hb hn
  refine hK _ _ rfl ?_; clear hK K hn
  refine sc fun K hK => ?_
  go_big_move; refine hK _ _ rfl ?_; clear hK K
  apply wpSq_end
  refine hK1 _ _ ?_
  refine wp_seq_k ?_
  intro K2 hK2
  refine wp_region_sq [0, 1, 2, 3, 4, 5] (by kernel_rfl) ?_
  refine sc fun K hK => ?_
  go_big_op; refine hK _ _ rfl ?_; clear hK K
  refine sc fun K hK => ?_
  go_big_op
  go_fit (ansG_bad (fun _ ↦ by kernel_rfl) (fun w1 h ↦ pow1_neg (.mk' (x_b1.bl h) (ha1.bl h) (ha2.bl h)) (x_b2.bl h) (hx.bl h) (.mk' (x_b3.bl h) (hq1.bl h) (hq2.bl h)) hl hm hs hL HH.out.1 HH.out.2))
  rintro e w_5 ⟨rfl, hb_5⟩
  replace ha1 := ha1.bl hb_5; replace ha2 := ha2.bl hb_5; replace hx := hx.bl hb_5; replace hq1 := hq1.bl hb_5; replace hq2 := hq2.bl hb_5; replace x_b1 := x_b1.bl hb_5; replace x_b2 := x_b2.bl hb_5; replace x_b3 := x_b3.bl hb_5; replace x_b4 := x_b4.bl hb_5; replace hb := tm hb hb_5
  refine hK _ _ rfl ?_
  clear hK K hb_5
  refine sc fun K hK => ?_
  go_big_op; refine hK _ _ rfl ?_; clear hK K
  refine sc fun K hK => ?_
  go_big_op; refine hK _ _ rfl ?_; clear hK K
  refine sc fun K hK => ?_
  obtain ⟨d0, d1, d2, d3⟩ := x_b4.f4
  have f0 := x_b4.free 0; have f1 := x_b4.free 1; have f2 := x_b4.free 2; have f3 := x_b4.free 3
  go_big_op
  have hnd := x_b4.nod rfl rfl
  obtain ⟨w_6, eW, x_b4', ho⟩ : ∃ w', ((((w_5.setCell ⟨p_b4, 0, none⟩ (.bool false)).setCell ⟨p_b4, 1, none⟩ (.slice none 0 0)).setCell ⟨p_b4, 2, none⟩ (.bool false)).setCell ⟨p_b4, 3, none⟩ (.slice none 0 0)) = w' ∧ Bs w' p_b4 #[.bool false, .slice none 0 0, .bool false, .slice none 0 0] 26 ∧ Only p_b4 w_5 w' := x_b4.setN [(0, .bool false), (1, .slice none 0 0), (2, .bool false), (3, .slice none 0 0)]
  rw [eW]; clear eW d0 d1 d2 d3 f0 f1 f2 f3 x_b4
  have x_b4 := x_b4'; clear x_b4'
  clear ha1 ha2 hx hq1 hq2 x_b1 x_b2 x_b3
  replace hb := belowOnly hb ho kb_b4
  refine hK _ _ rfl ?_; clear hK K ho hnd
  refine sc fun K hK => ?_
  go_big_move; refine hK _ _ rfl ?_; clear hK K
  apply wpSq_end
  refine hK2 _ _ ?_
  refine wp_ret ?_
  try dsimp only [Exit.then, Exit.inBlock]
  obtain ⟨r0_0, r0_1, r0_2, r0_3⟩ := x_b4.f4
  refine bodyPost_ret (v := (.tuple #[(.agg #[.bool false, .slice none 0 0, .bool false, .slice none 0 0]), (.int .i64 9)])) (by simp [results, Try.results7, go_sem, r0_0, r0_1, r0_2, r0_3]) rfl ?_
  exact ⟨rfl, hb⟩
end
end Go.Proofs.Ytpdfahompajbjaa

/- The reference's power: plain mathematics. -/
namespace Go.Proofs.Ytpdfahompajbjaa
open Go Go.RowKit Dig
set_option linter.unusedVariables false
theorem gpw_sq (x y : Int) : ∀ n, gpw (x * x - y * y) (x * y + y * x) n = gpw x y (2 * n)
  | 0 => rfl
  | n + 1 => by
    rw [show 2 * (n + 1) = 2 * n + 1 + 1 by omega]
    simp only [gpw]
    rw [gpw_sq x y n]
    ext <;> simp only <;> grind
def RP (u v A B O1 O2 X1 X2 : Int) (K : Nat) : Prop := gCg u v A B (O1 * (gpw X1 X2 K).1 - O2 * (gpw X1 X2 K).2) (O1 * (gpw X1 X2 K).2 + O2 * (gpw X1 X2 K).1)
theorem RP.even {u v A B O1 O2 X1 X2 : Int} {q : Nat} (h : RP u v A B O1 O2 X1 X2 (2 * q)) :
    RP u v A B O1 O2 (gR1 (X1 * X1 - X2 * X2) (X1 * X2 + X2 * X1) u v) (gR2 (X1 * X1 - X2 * X2) (X1 * X2 + X2 * X1) u v) q := by
  unfold RP at *
  rw [← gpw_sq] at h
  exact h.trans ((gCg.refl u v O1 O2).mul (gpw_cg (gCg.res _ _ u v).symm q))
theorem RP.odd {u v A B O1 O2 X1 X2 : Int} {q : Nat} (h : RP u v A B O1 O2 X1 X2 (2 * q + 1)) :
    RP u v A B (gR1 (O1 * X1 - O2 * X2) (O1 * X2 + O2 * X1) u v) (gR2 (O1 * X1 - O2 * X2) (O1 * X2 + O2 * X1) u v) (gR1 (X1 * X1 - X2 * X2) (X1 * X2 + X2 * X1) u v) (gR2 (X1 * X1 - X2 * X2) (X1 * X2 + X2 * X1) u v) q := by
  unfold RP at *
  rw [show 2 * q + 1 = (2 * q) + 1 from rfl] at h
  simp only [gpw] at h
  rw [← gpw_sq] at h
  have h2 := (gCg.res (O1 * X1 - O2 * X2) (O1 * X2 + O2 * X1) u v).symm.mul (gpw_cg (gCg.res (X1 * X1 - X2 * X2) (X1 * X2 + X2 * X1) u v).symm q)
  refine h.trans (h2.eq ?_ ?_ rfl rfl)
  · generalize (gpw (X1 * X1 - X2 * X2) (X1 * X2 + X2 * X1) q).1 = a; generalize (gpw (X1 * X1 - X2 * X2) (X1 * X2 + X2 * X1) q).2 = b; clear h h2; grind
  · generalize (gpw (X1 * X1 - X2 * X2) (X1 * X2 + X2 * X1) q).1 = a; generalize (gpw (X1 * X1 - X2 * X2) (X1 * X2 + X2 * X1) q).2 = b; clear h h2; grind
theorem RP.start {u v x y : Int} (N : Nat) : RP u v (gpw x y N).1 (gpw x y N).2 (gR1 1 0 u v) (gR2 1 0 u v) (gR1 x y u v) (gR2 x y u v) N :=
  ((gCg.res 1 0 u v).symm.mul (gpw_cg (gCg.res x y u v).symm N)).eq (by grind) (by grind) rfl rfl
theorem RP.fin {u v x y O1 O2 X1 X2 : Int} {N : Nat} (h0 : gN u v ≠ 0) (h : RP u v (gpw x y N).1 (gpw x y N).2 O1 O2 X1 X2 0) (h1 : gR1 O1 O2 u v = O1) (h2 : gR2 O1 O2 u v = O2) : O1 = pR1 x y u v N ∧ O2 = pR2 x y u v N := by
  have h3 : gCg u v (gpw x y N).1 (gpw x y N).2 O1 O2 := gCg.eq h rfl rfl (by simp [gpw]) (by simp [gpw])
  have h4 := h3.one h0
  rw [h1, h2] at h4
  exact h4
theorem two_fdiv (K : Nat) : ((K : Int)).fdiv 2 = ((K / 2 : Nat) : Int) ∧ ((K : Int)).fmod 2 = ((K % 2 : Nat) : Int) := by
  rw [Int.fdiv_eq_ediv_of_nonneg _ (by decide), Int.fmod_eq_emod_of_nonneg _ (by decide)]
  omega
end Go.Proofs.Ytpdfahompajbjaa
