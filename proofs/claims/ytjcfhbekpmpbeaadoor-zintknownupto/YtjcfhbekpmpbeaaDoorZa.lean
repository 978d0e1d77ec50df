/- The law's awake. -/
import Derived.Test.YtjcfhbekpmpbeaaDoorWkToR10
import Derived.Test.YtjcfhbekpmpbeaaDoorY5ToD1
namespace Go.Proofs.YtjcfhbekpmpbeaaDoor
open Go Go.RowKit Dig
set_option linter.unusedVariables false

set_option maxHeartbeats 4000000 in
set_option maxRecDepth 20000 in
theorem zawake_any (w : World) (htab : Lib.TabIs Tryd.prog w p10 .u64 Lib.pow10Tab) :
    Calls Tryd.prog 17 #[] w fun e w' => e = .returned (.bool true) ∧ Below w.heap.size w w' := by
  have htabs := Lib.tabBelow_of_tabIs htab
  have hd : Lib.decDigits (-2 : Int).natAbs = [50] := by
    show Lib.decDigits 2 = [50]
    rw [Lib.decDigits, dif_pos (by decide)]
    rfl
  have E := hide hd
  have E2 := hide (show (7 : Int) - 9 = -2 by decide)
  have L2 := hide (zlen_i (-2) (by decide) (by decide))
  clear hd
  go_enter Tryd.func17, Tryd.ntmps17
  have hb := Below.refl w.heap.size w
  refine wp_seq_k ?_
  intro K1 hK1
  refine wp_region_sq [0] (by kernel_rfl) ?_
  refine wpSq_call rfl (by kernel_rfl) fun K hK => ?_
  go_big_move; refine hK _ _ rfl ?_; clear hK K
  apply wpSq_end
  refine hK1 _ _ ?_
  refine wp_seq_k ?_
  intro K2 hK2
  refine wp_region_sq [0, 1, 2, 3, 4] (by kernel_rfl) ?_
  refine wpSq_call rfl (by kernel_rfl) fun K hK => ?_
  go_big_op
  go_fit (i_any 7 _ (by decide) (by decide))
  rintro e w_1 ⟨v_a, rfl, a, hb_1⟩
  replace hb := hb.trans (hb_1.mono hb.size)
  replace a := a.rd
  obtain ⟨n_a, o_a, k_a, c_a, rfl⟩ := a.open2
  have La := hide (a.lenOf (zlen_i 7 (by decide) (by decide)))
  refine hK _ _ rfl ?_
  clear hK K hb_1
  refine wpSq_call rfl (by kernel_rfl) fun K hK => ?_
  go_big_op
  go_fit (i_any 9 _ (by decide) (by decide))
  rintro e w_2 ⟨v_b, rfl, b, hb_2⟩
  replace a := a.bl hb_2; replace hb := hb.trans (hb_2.mono hb.size)
  replace b := b.rd
  obtain ⟨n_b, o_b, k_b, c_b, rfl⟩ := b.open2
  have Lb := hide (b.lenOf (zlen_i 9 (by decide) (by decide)))
  refine hK _ _ rfl ?_
  clear hK K hb_2
  refine wpSq_call rfl (by kernel_rfl) fun K hK => ?_
  go_big_op
  go_fit (zsub_any (a.zn La.out) (b.zn Lb.out) (by omega) (by omega) )
  rintro e w_3 ⟨v_c, rfl, c, hb_3⟩
  replace a := a.bl hb_3; replace b := b.bl hb_3; replace hb := hb.trans (hb_3.mono hb.size)
  replace c := c.rd
  obtain ⟨n_c, o_c, k_c, c_c, rfl⟩ := c.open2
  have Lc := hide (c.lenOf (zlen_sub (La.out) (Lb.out)))
  rw [E2.out] at c
  refine hK _ _ rfl ?_
  clear hK K hb_3
  refine wpSq_call rfl (by kernel_rfl) fun K hK => ?_
  go_big_op
  clear a b
  obtain ⟨p_b1, w_4, eP, eW, x_b1, hn, kb_b1⟩ := newBox w_3 #[.bool false, .slice none 0 0] 36 hb.size
  rw [eW, eP]
  clear eW eP
  replace c := c.bl hn; replace hb := hb.trans (hn.mono hb.size)
  refine hK _ _ rfl ?_; clear hK K hn
  refine wpSq_call rfl (by kernel_rfl) fun K hK => ?_
  obtain ⟨d0, d1⟩ := x_b1.f2
  have f0 := x_b1.free 0; have f1 := x_b1.free 1
  go_big_op
  have hnd := x_b1.nod rfl rfl
  obtain ⟨w_5, eW, x_b1', ho⟩ : ∃ w', ((w_4.setCell ⟨p_b1, 0, none⟩ (.bool n_c)).setCell ⟨p_b1, 1, none⟩ (.slice o_c k_c c_c)) = w' ∧ Bs w' p_b1 #[.bool n_c, .slice o_c k_c c_c] 36 ∧ Only p_b1 w_4 w' := x_b1.setN [(0, .bool n_c), (1, .slice o_c k_c c_c)]
  rw [eW]; clear eW d0 d1 f0 f1 x_b1
  have x_b1 := x_b1'; clear x_b1'
  replace c := c.fr hnd ho; replace hb := belowOnly hb ho kb_b1
  refine hK _ _ rfl ?_; clear hK K ho hnd
  apply wpSq_end
  refine hK2 _ _ ?_
  refine wp_seq_k ?_
  intro K3 hK3
  refine wp_region_sq [0, 1, 2, 3, 4, 5, 6, 7, 8, 9, 10, 11, 12] (by kernel_rfl) ?_
  refine wpSq_call rfl (by kernel_rfl) fun K hK => ?_
  obtain ⟨d0, d1⟩ := x_b1.f2
  go_big_op; refine hK _ _ rfl ?_; clear hK K d0 d1
  have Lc := hide (c.lenOf (L2.out))
  refine wpSq_call rfl (by kernel_rfl) fun K hK => ?_
  go_big_op
  go_fit (small_zz (-2) c (by decide) (by decide))
  rintro e w_6 ⟨rfl, hb_6⟩
  replace c := c.bl hb_6; replace x_b1 := x_b1.bl hb_6; replace hb := hb.trans (hb_6.mono hb.size)
  refine hK _ _ rfl ?_
  clear hK K hb_6
  refine wpSq_call rfl (by kernel_rfl) fun K hK => ?_
  go_big_move; refine hK _ _ rfl ?_; clear hK K
  refine wpSq_call rfl (by kernel_rfl) fun K hK => ?_
  obtain ⟨d0, d1⟩ := x_b1.f2
  go_big_op; refine hK _ _ rfl ?_; clear hK K d0 d1
  refine wpSq_call rfl (by kernel_rfl) fun K hK => ?_
  go_big_op
  go_fit (zsign_any (c.zn Lc.out) (by omega) )
  rintro e w_7 ⟨rfl, hb_7⟩
  replace c := c.bl hb_7; replace x_b1 := x_b1.bl hb_7; replace hb := hb.trans (hb_7.mono hb.size)
  refine hK _ _ rfl ?_
  clear hK K hb_7
  refine wpSq_call rfl (by kernel_rfl) fun K hK => ?_
  go_big_op; refine hK _ _ rfl ?_; clear hK K
  refine wpSq_call rfl (by kernel_rfl) fun K hK => ?_
  go_big_op; refine hK _ _ rfl ?_; clear hK K
  refine wpSq_call rfl (by kernel_rfl) fun K hK => ?_
  go_big_move; refine hK _ _ rfl ?_; clear hK K
  refine wpSq_call rfl (by kernel_rfl) fun K hK => ?_
  obtain ⟨d0, d1⟩ := x_b1.f2
  go_big_op; refine hK _ _ rfl ?_; clear hK K d0 d1
  refine wpSq_call rfl (by kernel_rfl) fun K hK => ?_
  go_big_op
  go_fit (ztext_neg (c.zn L2.out) (by decide) (by decide) (by rw [E.out]; decide) (htabs _ hb))
  rintro e w_8 ⟨rfl, hb_8⟩
  clear x_b1
  replace c := c.bl hb_8; replace hb := hb.trans (hb_8.mono hb.size)
  rw [E.out]
  refine hK _ _ rfl ?_
  clear hK K hb_8
  refine wpSq_call rfl (by kernel_rfl) fun K hK => ?_
  go_big_op; refine hK _ _ rfl ?_; clear hK K
  refine wpSq_call rfl (by kernel_rfl) fun K hK => ?_
  go_big_op; refine hK _ _ rfl ?_; clear hK K
  refine wpSq_call rfl (by kernel_rfl) fun K hK => ?_
  go_big_move; refine hK _ _ rfl ?_; clear hK K
  apply wpSq_end
  refine hK3 _ _ ?_
  refine wp_ret ?_
  try dsimp only [Exit.then, Exit.inBlock]
  refine bodyPost_ret (v := (.bool true)) (by simp [results, Tryd.results17, go_sem]) rfl ?_
  exact ⟨rfl, hb⟩
end Go.Proofs.YtjcfhbekpmpbeaaDoor
