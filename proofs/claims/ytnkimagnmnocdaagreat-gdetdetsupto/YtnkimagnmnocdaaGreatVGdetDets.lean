/- The walk of GdetDets. -/
import Derived.Test.YtnkimagnmnocdaaGreatE18
namespace Go.Proofs.YtnkimagnmnocdaaGreat
open Go Go.RowKit Dig
set_option linter.unusedVariables false
section
variable {w : World} {n c k r : Nat} {o : Option Addr} {A : List (List (Int × Int))}
set_option maxHeartbeats 4000000 in
set_option maxRecDepth 20000 in
theorem dets_bad (ha : MN 1048576 w o A) (hn : A.length = n) (ln : n ≤ 1048576) (h : ¬ gd A) :
    Calls Tryz.prog 3 #[.slice o n c] w fun e w' => e = .returned (.bool true) ∧ Below w.heap.size w w' := by
  have HA := hide ha
  have HG := hide h
  have HW := hide (show ¬ (gd A ∧ wd A = n) from fun c => h c.1)
  clear ha h
  go_enter Tryz.func3, Tryz.ntmps3
  have hs := St.nil w
  refine wp_seq_k ?_
  intro K1 hK1
  refine rg [0] ?_
  refine sq ?_
  refine .mv ?_
  apply wpSq_end
  refine hK1 _ _ ?_
  refine wp_seq_k ?_
  intro K2 hK2
  refine rg [0, 1, 2, 3, 4, 5, 6, 7] ?_
  refine sq ?_
  refine .mv ?_
  refine sq ?_
  intro K hK
  have hb := hs.b
  go_big_op
  go_fit (det_bad (HA.out.bl stab_n hb) hn HW.out (by omega))
  rintro e w_1 ⟨rfl, hb_1⟩
  clear hb
  replace hs := hs.bl hb_1
  refine hK _ _ rfl trivial ?_
  clear hK K
  refine sq ?_
  refine .mv ?_
  refine sq ?_
  refine .r0 ?_
  refine sq ?_
  refine .r0 ?_
  refine sq ?_
  refine .al hs ?_; clear hs; intro p_b1 w_2 hs n2 kb_b1
  refine sq ?_
  refine .s4 hs.g0 (fun _ => hs.u0 kb_b1) ?_; clear hs; intro w_3 hs hd3 ho3
  refine sq ?_
  refine .mv ?_
  apply wpSq_end
  refine hK2 _ _ ?_
  refine wp_seq_k ?_
  intro K3 hK3
  refine rg [0, 1, 2, 3, 4, 5, 6] ?_
  refine sq ?_
  refine .mv ?_
  refine sq ?_
  intro K hK
  have hb := hs.b
  go_big_op
  go_fit (rank_bad (HA.out.bl stab_n hb) hn HG.out (by omega))
  rintro e w_4 ⟨rfl, hb_4⟩
  clear hb
  replace hs := hs.bl hb_4
  refine hK _ _ rfl trivial ?_
  clear hK K
  refine sq ?_
  refine .mv ?_
  refine sq ?_
  refine .r0 ?_
  refine sq ?_
  refine .r0 ?_
  refine sq ?_
  refine .mv ?_
  refine sq ?_
  refine .mv ?_
  apply wpSq_end
  refine hK3 _ _ ?_
  refine wp_seq_k ?_
  intro K4 hK4
  refine rg [0, 1, 2, 3, 4, 5, 6] ?_
  refine sq ?_
  refine .mv ?_
  refine sq ?_
  intro K hK
  have hb := hs.b
  go_big_op
  go_fit (independent_bad (HA.out.bl stab_n hb) hn HG.out (by omega))
  rintro e w_5 ⟨rfl, hb_5⟩
  clear hb
  replace hs := hs.bl hb_5
  refine hK _ _ rfl trivial ?_
  clear hK K
  refine sq ?_
  refine .mv ?_
  refine sq ?_
  refine .r0 ?_
  refine sq ?_
  refine .r0 ?_
  refine sq ?_
  refine .mv ?_
  refine sq ?_
  refine .mv ?_
  apply wpSq_end
  refine hK4 _ _ ?_
  refine wp_seq_k ?_
  intro K5 hK5
  refine wp_seq_k ?_
  intro K6 hK6
  refine rg [0, 1] ?_
  refine sq ?_
  intro K hK
  go_big_op
  go_fit (awake9_any _)
  rintro e w_6 ⟨rfl, hb_6⟩
  replace hs := hs.bl hb_6
  refine hK _ _ rfl trivial ?_
  clear hK K
  refine sq ?_
  refine .r0 ?_
  apply wpSq_end
  refine hK6 _ _ ?_
  refine cf ?_
  refine wp_skip ?_
  refine hK5 _ _ ?_
  refine wp_seq_k ?_
  intro K7 hK7
  refine wp_seq_k ?_
  intro K8 hK8
  refine rg [0, 1, 2] ?_
  refine sq ?_
  refine .mv ?_
  refine sq ?_
  intro K hK
  have hb := hs.b
  go_big_op
  go_fit (rGood_any (HA.out.bl stab_n hb) hn (by omega))
  rintro e w_7 ⟨rfl, hb_7⟩
  clear hb
  replace hs := hs.bl hb_7
  rw [decide_eq_false HG.out]
  refine hK _ _ rfl trivial ?_
  clear hK K
  refine sq ?_
  refine .r0 ?_
  apply wpSq_end
  refine hK8 _ _ ?_
  refine ct ?_
  refine wp_seq_k ?_
  intro K9 hK9
  refine rg [0, 1, 2, 3, 4, 5, 6, 7, 8, 9, 10, 11, 12, 13, 14, 15, 16, 17, 18, 19, 20] ?_
  refine sq ?_
  refine .r4 hs.g0.f4 ?_
  refine sq ?_
  refine .mv ?_
  refine sq ?_
  refine .r4 hs.g0.f4 ?_
  refine sq ?_
  intro K hK
  go_big_op
  go_fit (told9_no _)
  rintro e w_8 ⟨rfl, hb_8⟩
  replace hs := hs.bl hb_8
  refine hK _ _ rfl trivial ?_
  clear hK K
  refine sq ?_
  refine .mv ?_
  refine sq ?_
  refine .mv ?_
  refine sq ?_
  refine .r0 ?_
  refine sq ?_
  refine .r0 ?_
  refine sq ?_
  refine .mv ?_
  refine sq ?_
  refine .mv ?_
  refine sq ?_
  refine .r0 ?_
  refine sq ?_
  refine .r0 ?_
  refine sq ?_
  refine .mv ?_
  refine sq ?_
  refine .mv ?_
  refine sq ?_
  refine .r0 ?_
  refine sq ?_
  refine .r0 ?_
  refine sq ?_
  refine .mv ?_
  refine sq ?_
  refine .mv ?_
  refine sq ?_
  refine .r0 ?_
  refine sq ?_
  refine .r0 ?_
  refine sq ?_
  refine .mv ?_
  apply wpSq_end
  refine hK9 _ _ ?_
  refine wp_ret ?_
  try dsimp only [Exit.then, Exit.inBlock]
  refine bodyPost_ret (v := (.bool true)) (by simp [results, Tryz.results3, go_sem]) rfl ?_
  exact ⟨rfl, hs.b⟩
set_option maxHeartbeats 4000000 in
set_option maxRecDepth 20000 in
theorem dets_wide (ha : MN 1048576 w o A) (hn : A.length = n) (ln : n ≤ 1048576) (h : gd A) (hk : wd A = k) (hne : k ≠ n) (hT : Tot 1048576 A) (hr : Dt.Rk n k (at2 A) r) :
    Calls Tryz.prog 3 #[.slice o n c] w fun e w' => e = .returned (.bool true) ∧ Below w.heap.size w w' := by
  have HA := hide ha
  have HG := hide h
  have HK := hide hk
  have HR := hide hr
  have HB := hide (hT.minB (W := k) hn (by have := h.1; omega))
  have HW := hide (show ¬ (gd A ∧ wd A = n) from fun c => hne (hk.symm.trans c.2))
  obtain ⟨b, hb1⟩ : ∃ b, decide (r = n) = b := ⟨_, rfl⟩
  have HB1 := hide hb1
  have t1 : ((r : Int) != (r : Int)) = false := by simp
  have t2 : (b != ((r : Int) == (n : Int))) = false := by
    have : ((r : Int) == (n : Int)) = decide (r = n) := by by_cases h : r = n <;> simp [h]; omega
    rw [this, hb1]; simp
  have t3 : ((n : Int) != (k : Int)) = true := bne_iff_ne.2 (by omega)
  clear ha h hk hr hT hb1
  go_enter Tryz.func3, Tryz.ntmps3
  have hs := St.nil w
  refine wp_seq_k ?_
  intro K1 hK1
  refine rg [0] ?_
  refine sq ?_
  refine .mv ?_
  apply wpSq_end
  refine hK1 _ _ ?_
  refine wp_seq_k ?_
  intro K2 hK2
  refine rg [0, 1, 2, 3, 4, 5, 6, 7] ?_
  refine sq ?_
  refine .mv ?_
  refine sq ?_
  intro K hK
  have hb := hs.b
  go_big_op
  go_fit (det_bad (HA.out.bl stab_n hb) hn HW.out (by omega))
  rintro e w_1 ⟨rfl, hb_1⟩
  clear hb
  replace hs := hs.bl hb_1
  refine hK _ _ rfl trivial ?_
  clear hK K
  refine sq ?_
  refine .mv ?_
  refine sq ?_
  refine .r0 ?_
  refine sq ?_
  refine .r0 ?_
  refine sq ?_
  refine .al hs ?_; clear hs; intro p_b1 w_2 hs n2 kb_b1
  refine sq ?_
  refine .s4 hs.g0 (fun _ => hs.u0 kb_b1) ?_; clear hs; intro w_3 hs hd3 ho3
  refine sq ?_
  refine .mv ?_
  apply wpSq_end
  refine hK2 _ _ ?_
  refine wp_seq_k ?_
  intro K3 hK3
  refine rg [0, 1, 2, 3, 4, 5, 6] ?_
  refine sq ?_
  refine .mv ?_
  refine sq ?_
  intro K hK
  have hb := hs.b
  go_big_op
  go_fit (rank_is (HA.out.bl stab_n hb) hn HG.out HK.out HB.out (by decide) (by decide) HR.out)
  rintro e w_4 ⟨rfl, hb_4⟩
  clear hb
  replace hs := hs.bl hb_4
  refine hK _ _ rfl trivial ?_
  clear hK K
  refine sq ?_
  refine .mv ?_
  refine sq ?_
  refine .r0 ?_
  refine sq ?_
  refine .r0 ?_
  refine sq ?_
  refine .mv ?_
  refine sq ?_
  refine .mv ?_
  apply wpSq_end
  refine hK3 _ _ ?_
  refine wp_seq_k ?_
  intro K4 hK4
  refine rg [0, 1, 2, 3, 4, 5, 6] ?_
  refine sq ?_
  refine .mv ?_
  refine sq ?_
  intro K hK
  have hb := hs.b
  go_big_op
  go_fit (independent_is (HA.out.bl stab_n hb) hn HG.out HK.out HB.out (by decide) (by decide) HR.out)
  rintro e w_5 ⟨rfl, hb_5⟩
  clear hb
  replace hs := hs.bl hb_5
  rw [HB1.out]
  refine hK _ _ rfl trivial ?_
  clear hK K
  refine sq ?_
  refine .mv ?_
  refine sq ?_
  refine .r0 ?_
  refine sq ?_
  refine .r0 ?_
  refine sq ?_
  refine .mv ?_
  refine sq ?_
  refine .mv ?_
  apply wpSq_end
  refine hK4 _ _ ?_
  refine wp_seq_k ?_
  intro K5 hK5
  refine wp_seq_k ?_
  intro K6 hK6
  refine rg [0, 1] ?_
  refine sq ?_
  intro K hK
  go_big_op
  go_fit (awake9_any _)
  rintro e w_6 ⟨rfl, hb_6⟩
  replace hs := hs.bl hb_6
  refine hK _ _ rfl trivial ?_
  clear hK K
  refine sq ?_
  refine .r0 ?_
  apply wpSq_end
  refine hK6 _ _ ?_
  refine cf ?_
  refine wp_skip ?_
  refine hK5 _ _ ?_
  refine wp_seq_k ?_
  intro K7 hK7
  refine wp_seq_k ?_
  intro K8 hK8
  refine rg [0, 1, 2] ?_
  refine sq ?_
  refine .mv ?_
  refine sq ?_
  intro K hK
  have hb := hs.b
  go_big_op
  go_fit (rGood_any (HA.out.bl stab_n hb) hn (by omega))
  rintro e w_7 ⟨rfl, hb_7⟩
  clear hb
  replace hs := hs.bl hb_7
  rw [decide_eq_true HG.out]
  refine hK _ _ rfl trivial ?_
  clear hK K
  refine sq ?_
  refine .r0 ?_
  apply wpSq_end
  refine hK8 _ _ ?_
  refine cf ?_
  refine wp_skip ?_
  refine hK7 _ _ ?_
  refine wp_seq_k ?_
  intro K9 hK9
  refine rg [0, 1, 2] ?_
  refine sq ?_
  refine .mv ?_
  refine sq ?_
  intro K hK
  have hb := hs.b
  go_big_op
  go_fit (rRank_any (HA.out.bl stab_n hb) hn HG.out HK.out HB.out (by decide) (by decide) (by decide) HR.out)
  rintro e w_8 ⟨rfl, hb_8⟩
  clear hb
  replace hs := hs.bl hb_8
  refine hK _ _ rfl trivial ?_
  clear hK K
  refine sq ?_
  refine .mv ?_
  apply wpSq_end
  refine hK9 _ _ ?_
  refine wp_seq_k ?_
  intro K10 hK10
  refine wp_seq_k ?_
  intro K11 hK11
  refine rg [0, 1, 2, 3, 4, 5, 6, 7, 8, 9, 10, 11, 12, 13, 14, 15, 16, 17, 18] ?_
  refine sq ?_
  refine .mv ?_
  refine sq ?_
  refine .r0 ?_
  refine sq ?_
  refine .mv ?_
  refine sq ?_
  refine .mv ?_
  refine sq ?_
  refine .mv ?_
  refine sq ?_
  refine .r0 ?_
  refine sq ?_
  refine .r0 ?_
  refine sq ?_
  refine .mv ?_
  refine sq ?_
  refine .mv ?_
  refine sq ?_
  refine .r0 ?_
  refine sq ?_
  refine .r0 ?_
  refine sq ?_
  refine .mv ?_
  refine sq ?_
  refine .mv ?_
  refine sq ?_
  refine .mv ?_
  refine sq ?_
  refine .mv ?_
  refine sq ?_
  refine .r0 ?_
  refine sq ?_
  refine .r0 ?_
  refine sq ?_
  refine .r0 ?_
  refine sq ?_
  refine .r0 ?_
  apply wpSq_end
  refine hK11 _ _ ?_
  refine cf ?_
  refine wp_skip ?_
  refine hK10 _ _ ?_
  refine wp_seq_k ?_
  intro K12 hK12
  refine wp_seq_k ?_
  intro K13 hK13
  refine rg [0, 1, 2, 3, 4] ?_
  refine sq ?_
  refine .mv ?_
  refine sq ?_
  refine .r0 ?_
  refine sq ?_
  refine .mv ?_
  refine sq ?_
  intro K hK
  have hb := hs.b
  go_big_op
  go_fit (rCols_any (HA.out.bl stab_n hb) hn HK.out)
  rintro e w_9 ⟨rfl, hb_9⟩
  clear hb
  replace hs := hs.bl hb_9
  refine hK _ _ rfl trivial ?_
  clear hK K
  refine sq ?_
  refine .r0 ?_
  apply wpSq_end
  refine hK13 _ _ ?_
  refine ct ?_
  refine wp_seq_k ?_
  intro K14 hK14
  refine rg [0, 1, 2, 3, 4] ?_
  refine sq ?_
  refine .r4 hs.g0.f4 ?_
  refine sq ?_
  refine .mv ?_
  refine sq ?_
  refine .r4 hs.g0.f4 ?_
  refine sq ?_
  intro K hK
  go_big_op
  go_fit (told9_no _)
  rintro e w_10 ⟨rfl, hb_10⟩
  replace hs := hs.bl hb_10
  refine hK _ _ rfl trivial ?_
  clear hK K
  refine sq ?_
  refine .mv ?_
  apply wpSq_end
  refine hK14 _ _ ?_
  refine wp_ret ?_
  try dsimp only [Exit.then, Exit.inBlock]
  refine bodyPost_ret (v := (.bool true)) (by simp [results, Tryz.results3, go_sem]) rfl ?_
  exact ⟨rfl, hs.b⟩
set_option maxHeartbeats 4000000 in
set_option maxRecDepth 20000 in
theorem dets_square (ha : MN 1048576 w o A) (hn : A.length = n) (ln : n ≤ 1048576) (h : gd A) (hk : wd A = n) (hT : Tot 1048576 A) (hr : Dt.Rk n n (at2 A) r) :
    Calls Tryz.prog 3 #[.slice o n c] w fun e w' => e = .returned (.bool true) ∧ Below w.heap.size w w' := by
  have HA := hide ha
  have HG := hide h
  have HK := hide hk
  have HR := hide hr
  have HB := hide (hT.minB (W := n) hn (by have := h.1; omega))
  have LD := hide (show zl 1048641 (Dt.det n (at2 A)) from HB.out n id id (fun r hr => ⟨hr, hr⟩) (fun r q h _ => by simp only [id]; omega))
  obtain ⟨b, hb1⟩ : ∃ b, decide (r = n) = b := ⟨_, rfl⟩
  have HB1 := hide hb1
  have t1 : ((r : Int) != (r : Int)) = false := by simp
  have t2 : (b != ((r : Int) == (n : Int))) = false := by
    have : ((r : Int) == (n : Int)) = decide (r = n) := by by_cases h : r = n <;> simp [h]; omega
    rw [this, hb1]; simp
  have t3 : ((n : Int) != (n : Int)) = false := by simp
  clear ha h hk hr hT hb1
  go_enter Tryz.func3, Tryz.ntmps3
  have hs := St.nil w
  refine wp_seq_k ?_
  intro K1 hK1
  refine rg [0] ?_
  refine sq ?_
  refine .mv ?_
  apply wpSq_end
  refine hK1 _ _ ?_
  refine wp_seq_k ?_
  intro K2 hK2
  refine rg [0, 1, 2, 3, 4, 5, 6, 7] ?_
  refine sq ?_
  refine .mv ?_
  refine sq ?_
  intro K hK
  have hb := hs.b
  go_big_op
  go_fit (det_ok (HA.out.bl stab_n hb) hn HG.out HK.out HB.out (by decide) (by decide))
  rintro e w_1 ⟨_, rfl, ⟨n_da, o_da, k_da, c_da, n_db, o_db, k_db, c_db, rfl, d1, d2⟩, hb_1⟩
  clear hb
  replace hs := hs.bl hb_1
  have Ld1 := hide (d1.lenOf (LD.out.1))
  have Ld2 := hide (d2.lenOf (LD.out.2))
  refine hK _ _ rfl trivial ?_
  clear hK K
  refine sq ?_
  refine .mv ?_
  refine sq ?_
  refine .r0 ?_
  refine sq ?_
  refine .r0 ?_
  refine sq ?_
  refine .al hs ?_; clear hs; intro p_b1 w_2 hs n2 kb_b1
  refine sq ?_
  refine .s4 hs.g0 (fun _ => hs.u0 kb_b1) ?_; clear hs; intro w_3 hs hd3 ho3
  refine sq ?_
  refine .mv ?_
  apply wpSq_end
  refine hK2 _ _ ?_
  refine wp_seq_k ?_
  intro K3 hK3
  refine rg [0, 1, 2, 3, 4, 5, 6] ?_
  refine sq ?_
  refine .mv ?_
  refine sq ?_
  intro K hK
  have hb := hs.b
  go_big_op
  go_fit (rank_is (HA.out.bl stab_n hb) hn HG.out HK.out HB.out (by decide) (by decide) HR.out)
  rintro e w_4 ⟨rfl, hb_4⟩
  clear hb
  replace hs := hs.bl hb_4
  refine hK _ _ rfl trivial ?_
  clear hK K
  refine sq ?_
  refine .mv ?_
  refine sq ?_
  refine .r0 ?_
  refine sq ?_
  refine .r0 ?_
  refine sq ?_
  refine .mv ?_
  refine sq ?_
  refine .mv ?_
  apply wpSq_end
  refine hK3 _ _ ?_
  refine wp_seq_k ?_
  intro K4 hK4
  refine rg [0, 1, 2, 3, 4, 5, 6] ?_
  refine sq ?_
  refine .mv ?_
  refine sq ?_
  intro K hK
  have hb := hs.b
  go_big_op
  go_fit (independent_is (HA.out.bl stab_n hb) hn HG.out HK.out HB.out (by decide) (by decide) HR.out)
  rintro e w_5 ⟨rfl, hb_5⟩
  clear hb
  replace hs := hs.bl hb_5
  rw [HB1.out]
  refine hK _ _ rfl trivial ?_
  clear hK K
  refine sq ?_
  refine .mv ?_
  refine sq ?_
  refine .r0 ?_
  refine sq ?_
  refine .r0 ?_
  refine sq ?_
  refine .mv ?_
  refine sq ?_
  refine .mv ?_
  apply wpSq_end
  refine hK4 _ _ ?_
  refine wp_seq_k ?_
  intro K5 hK5
  refine wp_seq_k ?_
  intro K6 hK6
  refine rg [0, 1] ?_
  refine sq ?_
  intro K hK
  go_big_op
  go_fit (awake9_any _)
  rintro e w_6 ⟨rfl, hb_6⟩
  replace hs := hs.bl hb_6
  refine hK _ _ rfl trivial ?_
  clear hK K
  refine sq ?_
  refine .r0 ?_
  apply wpSq_end
  refine hK6 _ _ ?_
  refine cf ?_
  refine wp_skip ?_
  refine hK5 _ _ ?_
  refine wp_seq_k ?_
  intro K7 hK7
  refine wp_seq_k ?_
  intro K8 hK8
  refine rg [0, 1, 2] ?_
  refine sq ?_
  refine .mv ?_
  refine sq ?_
  intro K hK
  have hb := hs.b
  go_big_op
  go_fit (rGood_any (HA.out.bl stab_n hb) hn (by omega))
  rintro e w_7 ⟨rfl, hb_7⟩
  clear hb
  replace hs := hs.bl hb_7
  rw [decide_eq_true HG.out]
  refine hK _ _ rfl trivial ?_
  clear hK K
  refine sq ?_
  refine .r0 ?_
  apply wpSq_end
  refine hK8 _ _ ?_
  refine cf ?_
  refine wp_skip ?_
  refine hK7 _ _ ?_
  refine wp_seq_k ?_
  intro K9 hK9
  refine rg [0, 1, 2] ?_
  refine sq ?_
  refine .mv ?_
  refine sq ?_
  intro K hK
  have hb := hs.b
  go_big_op
  go_fit (rRank_any (HA.out.bl stab_n hb) hn HG.out HK.out HB.out (by decide) (by decide) (by decide) HR.out)
  rintro e w_8 ⟨rfl, hb_8⟩
  clear hb
  replace hs := hs.bl hb_8
  refine hK _ _ rfl trivial ?_
  clear hK K
  refine sq ?_
  refine .mv ?_
  apply wpSq_end
  refine hK9 _ _ ?_
  refine wp_seq_k ?_
  intro K10 hK10
  refine wp_seq_k ?_
  intro K11 hK11
  refine rg [0, 1, 2, 3, 4, 5, 6, 7, 8, 9, 10, 11, 12, 13, 14, 15, 16, 17, 18] ?_
  refine sq ?_
  refine .mv ?_
  refine sq ?_
  refine .r0 ?_
  refine sq ?_
  refine .mv ?_
  refine sq ?_
  refine .mv ?_
  refine sq ?_
  refine .mv ?_
  refine sq ?_
  refine .r0 ?_
  refine sq ?_
  refine .r0 ?_
  refine sq ?_
  refine .mv ?_
  refine sq ?_
  refine .mv ?_
  refine sq ?_
  refine .r0 ?_
  refine sq ?_
  refine .r0 ?_
  refine sq ?_
  refine .mv ?_
  refine sq ?_
  refine .mv ?_
  refine sq ?_
  refine .mv ?_
  refine sq ?_
  refine .mv ?_
  refine sq ?_
  refine .r0 ?_
  refine sq ?_
  refine .r0 ?_
  refine sq ?_
  refine .r0 ?_
  refine sq ?_
  refine .r0 ?_
  apply wpSq_end
  refine hK11 _ _ ?_
  refine cf ?_
  refine wp_skip ?_
  refine hK10 _ _ ?_
  refine wp_seq_k ?_
  intro K12 hK12
  refine wp_seq_k ?_
  intro K13 hK13
  refine rg [0, 1, 2, 3, 4] ?_
  refine sq ?_
  refine .mv ?_
  refine sq ?_
  refine .r0 ?_
  refine sq ?_
  refine .mv ?_
  refine sq ?_
  intro K hK
  have hb := hs.b
  go_big_op
  go_fit (rCols_any (HA.out.bl stab_n hb) hn HK.out)
  rintro e w_9 ⟨rfl, hb_9⟩
  clear hb
  replace hs := hs.bl hb_9
  refine hK _ _ rfl trivial ?_
  clear hK K
  refine sq ?_
  refine .r0 ?_
  apply wpSq_end
  refine hK13 _ _ ?_
  refine cf ?_
  refine wp_skip ?_
  refine hK12 _ _ ?_
  refine wp_seq_k ?_
  intro K14 hK14
  refine wp_region_f4 [(0, false), (1, false), (2, false), (3, true), (4, true), (5, false)] [] [] (fun _ => default) [0, 99, 99, 99, 99, 99] [] (.c hs.g0 .n) fn fun w_10 n10 => ?_
  replace hs := hs.bl n10
  refine f4 ?_
  refine fmv ?_
  refine fmv ?_
  refine fl fun w_11 n11 => ?_
  replace hs := hs.bl n11
  intro K hK
  have hb := hs.b
  go_big_op
  go_fit (rDet_any (HA.out.bl stab_n hb) hn HG.out HK.out HB.out (by decide) (by decide) (by decide) HR.out)
  rintro e w_12 ⟨_, rfl, ⟨n_qa, o_qa, k_qa, c_qa, n_qb, o_qb, k_qb, c_qb, rfl, q1, q2⟩, hb_12⟩
  clear hb
  replace hs := hs.bl hb_12
  have Lq1 := hide (q1.lenOf (LD.out.1))
  have Lq2 := hide (q2.lenOf (LD.out.2))
  refine hK _ _ rfl ⟨hb_12, (And.intro hs.g0 trivial)⟩ ?_
  clear hK K
  refine fl fun w_13 n13 => ?_
  replace hs := hs.bl n13
  intro K hK
  have k1_13 := (((((((((((kb n2).o hd3 ho3).b hb_4).b hb_5).b hb_6).b hb_7).b hb_8).b hb_9).b n10).b n11).b hb_12).b n13
  replace d1 := d1.k k1_13
  replace d2 := d2.k k1_13
  have k12_13 := kb n13
  replace q1 := q1.k k12_13
  replace q2 := q2.k k12_13
  go_big_op
  go_fit (told9_yes (.mk' d1 d2) (.mk' (q1.zn Lq1.out) (q2.zn Lq2.out)) (by decide) (by decide))
  rintro e w_14 ⟨rfl, hb_14⟩
  replace hs := hs.bl hb_14
  refine hK _ _ rfl ⟨hb_14, (And.intro hs.g0 trivial)⟩ ?_
  clear hK K
  refine fmv ?_
  refine e0 hs ?_; clear hs; intro w_15 hs n15
  apply wpTail_end
  refine hK14 _ _ ?_
  refine wp_ret ?_
  try dsimp only [Exit.then, Exit.inBlock]
  refine bodyPost_ret (v := (.bool true)) (by simp [results, Tryz.results3, go_sem]) rfl ?_
  exact ⟨rfl, hs.b⟩
end
theorem walk_GdetDets (w : World) (oa : Option Addr) (na ca : Nat) (A : List (List (Int × Int))) (ha : MN 1048576 w oa A) (hna : A.length = na) (la : na ≤ 1048576) (ta : Tot 1048576 A) :
    Calls Tryz.prog 3 #[.slice oa na ca] w fun e w' => e = .returned (.bool true) ∧ Below w.heap.size w w' := by
  by_cases h : gd A
  · by_cases hk : wd A = na
    · obtain ⟨r, hr⟩ := Dt.rk_exists one_ne na na (at2 A)
      exact dets_square ha hna la h hk ta hr
    · obtain ⟨r, hr⟩ := Dt.rk_exists one_ne na (wd A) (at2 A)
      exact dets_wide ha hna la h rfl hk ta hr
  · exact dets_bad ha hna la h
end Go.Proofs.YtnkimagnmnocdaaGreat

