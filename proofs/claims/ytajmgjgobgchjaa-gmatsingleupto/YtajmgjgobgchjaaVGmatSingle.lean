/- The walk of GmatSingle. -/
import Derived.Test.YtajmgjgobgchjaaO10ToO11
namespace Go.Proofs.Ytajmgjgobgchjaa
open Go Go.RowKit Dig
set_option linter.unusedVariables false
section
variable {w : World} {n c l : Nat} {o : Option Addr} {A : List (List (Int × Int))} {vg : Value} {u v : Int}
set_option maxHeartbeats 4000000 in
set_option maxRecDepth 20000 in
theorem single_ok (ha : MN 1048576 w o A) (hq : PN w vg u l v l) (hn : A.length = n) (hl : l = 1048576) (h : gd A) :
    Calls Try.prog 4 #[.slice o n c, vg] w fun e w' => e = .returned (.bool true) ∧ Below w.heap.size w w' := by
  obtain ⟨k, hk⟩ : ∃ k, wd A = k := ⟨_, rfl⟩
  have n64 : n ≤ 64 := by have := h.1; omega
  have k64 : k ≤ 64 := by have := h.2.1; omega
  have HB := hide ha.bd
  have HA := hide ha
  have HK := hide hk
  have H := hide h
  have LS := hide (show (scM A (u, v)).length = n from len_mkM.trans hn)
  have LT := hide (show (trM A).length = k from len_mkM.trans hk)
  have LD := hide (show (adjM A).length = k from len_mkM.trans hk)
  have LG := hide (show (gramM A).length = n from len_gram.trans hn)
  have RS := hide (show ∀ r ∈ scM A (u, v), r.length ≤ 1000000000 from mkM_rl h.2.1)
  have RT := hide (show ∀ r ∈ trM A, r.length ≤ 1000000000 from mkM_rl h.1)
  have RD' := hide (show ∀ r ∈ adjM A, r.length ≤ 1000000000 from mkM_rl h.1)
  have RG := hide (show ∀ r ∈ gramM A, r.length ≤ 1000000000 from mkM_rl h.1)
  have BG := hide (show BdM 3000000 (gramM A) from bdM_up (bd_gramM ha.bd) (by omega))
  clear ha hk h
  obtain ⟨n_1a, o_1a, k_1a, c_1a, n_1b, o_1b, k_1b, c_1b, rfl, hq1, hq2⟩ := hq
  go_enter Try.func4, Try.ntmps4
  have hs := St.nil w
  refine wp_seq_k ?_
  intro K1 hK1
  refine rg [0, 1] ?_
  refine sq ?_
  refine .al hs ?_; clear hs; intro p_b1 w_1 hs n1 kb_b1
  refine sq ?_
  refine .mv ?_
  apply wpSq_end
  refine hK1 _ _ ?_
  refine wp_seq_k ?_
  intro K2 hK2
  refine rg [0, 1, 2, 3, 4, 5, 6, 7] ?_
  refine sq ?_
  refine .mv ?_
  refine sq ?_
  refine .r4 hs.g0.f4 ?_
  have k0_1 := kb n1
  replace hq1 := hq1.k k0_1
  replace hq2 := hq2.k k0_1
  have BS := hide (show BdM 3000000 (scM A (u, v)) from bdM_up (bd_scM HB.out hq1.len hq2.len) (by omega))
  refine sq ?_
  intro K hK
  have hb := hs.b
  go_big_op
  go_fit (lScale (HA.out.bl stab_n hb) (.mk' hq1 hq2) hn H.out (by decide) (by omega))
  rintro e w_2 ⟨o_S, c_S, rfl, m_S, hb_2⟩
  clear hb
  replace hs := hs.bl hb_2
  refine hK _ _ rfl trivial ?_
  clear hK K
  refine sq ?_
  refine .mv ?_
  refine sq ?_
  refine .r0 ?_
  refine sq ?_
  refine .r0 ?_
  refine sq ?_
  refine .mv ?_
  refine sq ?_
  refine .mv ?_
  apply wpSq_end
  refine hK2 _ _ ?_
  refine wp_seq_k ?_
  intro K3 hK3
  refine rg [0, 1, 2, 3, 4, 5, 6] ?_
  refine sq ?_
  refine .mv ?_
  refine sq ?_
  intro K hK
  have hb := hs.b
  go_big_op
  go_fit (lTrans (HA.out.bl stab_n hb) hn H.out (by decide) HK.out)
  rintro e w_3 ⟨o_T, c_T, rfl, m_T, hb_3⟩
  clear hb
  replace m_S := m_S.bl hb_3; replace hs := hs.bl hb_3
  refine hK _ _ rfl trivial ?_
  clear hK K
  refine sq ?_
  refine .mv ?_
  refine sq ?_
  refine .r0 ?_
  refine sq ?_
  refine .r0 ?_
  refine sq ?_
  refine .mv ?_
  refine sq ?_
  refine .mv ?_
  apply wpSq_end
  refine hK3 _ _ ?_
  refine wp_seq_k ?_
  intro K4 hK4
  refine rg [0, 1, 2, 3, 4, 5, 6] ?_
  refine sq ?_
  refine .mv ?_
  refine sq ?_
  intro K hK
  have hb := hs.b
  go_big_op
  go_fit (lAdj (HA.out.bl stab_n hb) hn H.out (by decide) HK.out)
  rintro e w_4 ⟨o_U, c_U, rfl, m_U, hb_4⟩
  clear hb
  replace m_S := m_S.bl hb_4; replace m_T := m_T.bl hb_4; replace hs := hs.bl hb_4
  refine hK _ _ rfl trivial ?_
  clear hK K
  refine sq ?_
  refine .mv ?_
  refine sq ?_
  refine .r0 ?_
  refine sq ?_
  refine .r0 ?_
  refine sq ?_
  refine .mv ?_
  refine sq ?_
  refine .mv ?_
  apply wpSq_end
  refine hK4 _ _ ?_
  refine wp_seq_k ?_
  intro K5 hK5
  refine rg [0, 1, 2, 3, 4, 5, 6] ?_
  refine sq ?_
  refine .mv ?_
  refine sq ?_
  intro K hK
  have hb := hs.b
  go_big_op
  go_fit (lGram (HA.out.bl stab_n hb) hn H.out (by decide))
  rintro e w_5 ⟨o_V, c_V, rfl, m_V, hb_5⟩
  clear hb
  replace m_S := m_S.bl hb_5; replace m_T := m_T.bl hb_5; replace m_U := m_U.bl hb_5; replace hs := hs.bl hb_5
  refine hK _ _ rfl trivial ?_
  clear hK K
  refine sq ?_
  refine .mv ?_
  refine sq ?_
  refine .r0 ?_
  refine sq ?_
  refine .r0 ?_
  refine sq ?_
  refine .mv ?_
  refine sq ?_
  refine .mv ?_
  apply wpSq_end
  refine hK5 _ _ ?_
  refine wp_seq_k ?_
  intro K6 hK6
  refine wp_seq_k ?_
  intro K7 hK7
  refine rg [0, 1] ?_
  refine sq ?_
  intro K hK
  go_big_op
  go_fit (awake8_any _)
  rintro e w_6 ⟨rfl, hb_6⟩
  replace m_S := m_S.bl hb_6; replace m_T := m_T.bl hb_6; replace m_U := m_U.bl hb_6; replace m_V := m_V.bl hb_6; replace hs := hs.bl hb_6
  refine hK _ _ rfl trivial ?_
  clear hK K
  refine sq ?_
  refine .r0 ?_
  apply wpSq_end
  refine hK7 _ _ ?_
  refine cf ?_
  refine wp_skip ?_
  refine hK6 _ _ ?_
  refine wp_seq_k ?_
  intro K8 hK8
  refine wp_seq_k ?_
  intro K9 hK9
  refine rg [0, 1, 2] ?_
  refine sq ?_
  refine .mv ?_
  refine sq ?_
  intro K hK
  have hb := hs.b
  go_big_op
  go_fit (rGood_any (HA.out.bl stab_n hb) hn (by omega))
  rintro e w_7 ⟨rfl, hb_7⟩
  clear hb
  replace m_S := m_S.bl hb_7; replace m_T := m_T.bl hb_7; replace m_U := m_U.bl hb_7; replace m_V := m_V.bl hb_7; replace hs := hs.bl hb_7
  rw [decide_eq_true H.out]
  refine hK _ _ rfl trivial ?_
  clear hK K
  refine sq ?_
  refine .r0 ?_
  apply wpSq_end
  refine hK9 _ _ ?_
  refine cf ?_
  refine wp_skip ?_
  refine hK8 _ _ ?_
  refine wp_seq_k ?_
  intro K10 hK10
  refine rg [0, 1, 2, 3, 4, 5, 6, 7, 8, 9, 10, 11, 12, 13, 14, 15, 16, 17, 18, 19, 20, 21, 22, 23, 24, 25, 26, 27] ?_
  refine sq ?_
  refine .mv ?_
  refine sq ?_
  refine .mv ?_
  refine sq ?_
  refine .mv ?_
  refine sq ?_
  refine .r4 hs.g0.f4 ?_
  refine sq ?_
  intro K hK
  have hb := hs.b
  have k1_7 := (((((kb hb_2).b hb_3).b hb_4).b hb_5).b hb_6).b hb_7
  replace hq1 := hq1.k k1_7
  replace hq2 := hq2.k k1_7
  go_big_op
  go_fit (rScale8 (HA.out.bl stab_n hb) (.mk' hq1 hq2) hn H.out (by decide) (by omega))
  rintro e w_8 ⟨o_P, c_P, rfl, m_P, hb_8⟩
  clear hb
  replace m_S := m_S.bl hb_8; replace m_T := m_T.bl hb_8; replace m_U := m_U.bl hb_8; replace m_V := m_V.bl hb_8; replace hs := hs.bl hb_8
  refine hK _ _ rfl trivial ?_
  clear hK K
  refine sq ?_
  intro K hK
  go_big_op
  go_fit (told_yes m_S (m_P.mn BS.out) LS.out (by omega) RS.out (by decide))
  rintro e w_9 ⟨rfl, hb_9⟩
  replace m_S := m_S.bl hb_9; replace m_T := m_T.bl hb_9; replace m_U := m_U.bl hb_9; replace m_V := m_V.bl hb_9; replace m_P := m_P.bl hb_9; replace hs := hs.bl hb_9
  refine hK _ _ rfl trivial ?_
  clear hK K
  refine sq ?_
  refine .mv ?_
  refine sq ?_
  refine .mv ?_
  refine sq ?_
  refine .mv ?_
  refine sq ?_
  refine .mv ?_
  refine sq ?_
  intro K hK
  have hb := hs.b
  go_big_op
  go_fit (rTrans8 (HA.out.bl stab_n hb) hn H.out (by decide) HK.out)
  rintro e w_10 ⟨o_Q, c_Q, rfl, m_Q, hb_10⟩
  clear hb
  replace m_T := m_T.bl hb_10; replace m_U := m_U.bl hb_10; replace m_V := m_V.bl hb_10; replace hs := hs.bl hb_10
  refine hK _ _ rfl trivial ?_
  clear hK K
  refine sq ?_
  intro K hK
  go_big_op
  go_fit (told_yes m_T (m_Q.mn (bd_trM HB.out)) LT.out (by omega) RT.out (by decide))
  rintro e w_11 ⟨rfl, hb_11⟩
  replace m_T := m_T.bl hb_11; replace m_U := m_U.bl hb_11; replace m_V := m_V.bl hb_11; replace m_Q := m_Q.bl hb_11; replace hs := hs.bl hb_11
  refine hK _ _ rfl trivial ?_
  clear hK K
  refine sq ?_
  refine .r0 ?_
  refine sq ?_
  refine .mv ?_
  refine sq ?_
  refine .mv ?_
  refine sq ?_
  refine .mv ?_
  refine sq ?_
  refine .mv ?_
  refine sq ?_
  intro K hK
  have hb := hs.b
  go_big_op
  go_fit (rAdj8 (HA.out.bl stab_n hb) hn H.out (by decide) HK.out)
  rintro e w_12 ⟨o_R, c_R, rfl, m_R, hb_12⟩
  clear hb
  clear hq1 hq2 m_S m_P m_T m_Q
  replace m_U := m_U.bl hb_12; replace m_V := m_V.bl hb_12; replace hs := hs.bl hb_12
  refine hK _ _ rfl trivial ?_
  clear hK K
  refine sq ?_
  intro K hK
  go_big_op
  go_fit (told_yes m_U (m_R.mn (bd_adjM HB.out)) LD.out (by omega) RD'.out (by decide))
  rintro e w_13 ⟨rfl, hb_13⟩
  replace m_U := m_U.bl hb_13; replace m_V := m_V.bl hb_13; replace m_R := m_R.bl hb_13; replace hs := hs.bl hb_13
  refine hK _ _ rfl trivial ?_
  clear hK K
  refine sq ?_
  refine .r0 ?_
  refine sq ?_
  refine .mv ?_
  refine sq ?_
  refine .mv ?_
  refine sq ?_
  refine .mv ?_
  refine sq ?_
  refine .mv ?_
  refine sq ?_
  intro K hK
  have hb := hs.b
  go_big_op
  go_fit (rGram8 (HA.out.bl stab_n hb) hn H.out (by decide))
  rintro e w_14 ⟨o_X, c_X, rfl, m_X, hb_14⟩
  clear hb
  replace m_V := m_V.bl hb_14; replace hs := hs.bl hb_14
  refine hK _ _ rfl trivial ?_
  clear hK K
  refine sq ?_
  intro K hK
  go_big_op
  go_fit (told_yes m_V (m_X.mn BG.out) LG.out (by omega) RG.out (by decide))
  rintro e w_15 ⟨rfl, hb_15⟩
  replace m_V := m_V.bl hb_15; replace m_X := m_X.bl hb_15; replace hs := hs.bl hb_15
  refine hK _ _ rfl trivial ?_
  clear hK K
  refine sq ?_
  refine .r0 ?_
  refine sq ?_
  refine .mv ?_
  apply wpSq_end
  refine hK10 _ _ ?_
  refine wp_ret ?_
  try dsimp only [Exit.then, Exit.inBlock]
  refine bodyPost_ret (v := (.bool true)) (by simp [results, Try.results4, go_sem]) rfl ?_
  exact ⟨rfl, hs.b⟩
set_option maxHeartbeats 4000000 in
set_option maxRecDepth 20000 in
theorem single_bad (ha : MN 1048576 w o A) (hq : PN w vg u l v l) (hn : A.length = n) (hl : l = 1048576) (hln : n ≤ 1048576) (h : ¬ gd A) :
    Calls Try.prog 4 #[.slice o n c, vg] w fun e w' => e = .returned (.bool true) ∧ Below w.heap.size w w' := by
  have HA := hide ha
  have H := hide h
  clear ha h
  obtain ⟨n_1a, o_1a, k_1a, c_1a, n_1b, o_1b, k_1b, c_1b, rfl, hq1, hq2⟩ := hq
  go_enter Try.func4, Try.ntmps4
  have hs := St.nil w
  refine wp_seq_k ?_
  intro K1 hK1
  refine rg [0, 1] ?_
  refine sq ?_
  refine .al hs ?_; clear hs; intro p_b1 w_1 hs n1 kb_b1
  refine sq ?_
  refine .mv ?_
  apply wpSq_end
  refine hK1 _ _ ?_
  refine wp_seq_k ?_
  intro K2 hK2
  refine rg [0, 1, 2, 3, 4, 5, 6, 7] ?_
  refine sq ?_
  refine .mv ?_
  refine sq ?_
  refine .r4 hs.g0.f4 ?_
  refine sq ?_
  intro K hK
  have hb := hs.b
  have k0_1 := kb n1
  replace hq1 := hq1.k k0_1
  replace hq2 := hq2.k k0_1
  go_big_op
  go_fit (mScale_bad (HA.out.bl stab_n hb) (.mk' hq1 hq2) hn H.out (by omega))
  rintro e w_2 ⟨rfl, hb_2⟩
  clear hb
  replace hs := hs.bl hb_2
  refine hK _ _ rfl trivial ?_
  clear hK K
  refine sq ?_
  refine .mv ?_
  refine sq ?_
  refine .r0 ?_
  refine sq ?_
  refine .r0 ?_
  refine sq ?_
  refine .mv ?_
  refine sq ?_
  refine .mv ?_
  apply wpSq_end
  refine hK2 _ _ ?_
  refine wp_seq_k ?_
  intro K3 hK3
  refine rg [0, 1, 2, 3, 4, 5, 6] ?_
  refine sq ?_
  refine .mv ?_
  refine sq ?_
  intro K hK
  have hb := hs.b
  go_big_op
  go_fit (mTrans_bad (HA.out.bl stab_n hb) hn H.out (by omega))
  rintro e w_3 ⟨rfl, hb_3⟩
  clear hb
  replace hs := hs.bl hb_3
  refine hK _ _ rfl trivial ?_
  clear hK K
  refine sq ?_
  refine .mv ?_
  refine sq ?_
  refine .r0 ?_
  refine sq ?_
  refine .r0 ?_
  refine sq ?_
  refine .mv ?_
  refine sq ?_
  refine .mv ?_
  apply wpSq_end
  refine hK3 _ _ ?_
  refine wp_seq_k ?_
  intro K4 hK4
  refine rg [0, 1, 2, 3, 4, 5, 6] ?_
  refine sq ?_
  refine .mv ?_
  refine sq ?_
  intro K hK
  have hb := hs.b
  go_big_op
  go_fit (mAdj_bad (HA.out.bl stab_n hb) hn H.out (by omega))
  rintro e w_4 ⟨rfl, hb_4⟩
  clear hb
  replace hs := hs.bl hb_4
  refine hK _ _ rfl trivial ?_
  clear hK K
  refine sq ?_
  refine .mv ?_
  refine sq ?_
  refine .r0 ?_
  refine sq ?_
  refine .r0 ?_
  refine sq ?_
  refine .mv ?_
  refine sq ?_
  refine .mv ?_
  apply wpSq_end
  refine hK4 _ _ ?_
  refine wp_seq_k ?_
  intro K5 hK5
  refine rg [0, 1, 2, 3, 4, 5, 6] ?_
  refine sq ?_
  refine .mv ?_
  refine sq ?_
  intro K hK
  have hb := hs.b
  go_big_op
  go_fit (mGram_bad (HA.out.bl stab_n hb) hn H.out (by omega))
  rintro e w_5 ⟨rfl, hb_5⟩
  clear hb
  replace hs := hs.bl hb_5
  refine hK _ _ rfl trivial ?_
  clear hK K
  refine sq ?_
  refine .mv ?_
  refine sq ?_
  refine .r0 ?_
  refine sq ?_
  refine .r0 ?_
  refine sq ?_
  refine .mv ?_
  refine sq ?_
  refine .mv ?_
  apply wpSq_end
  refine hK5 _ _ ?_
  refine wp_seq_k ?_
  intro K6 hK6
  refine wp_seq_k ?_
  intro K7 hK7
  refine rg [0, 1] ?_
  refine sq ?_
  intro K hK
  go_big_op
  go_fit (awake8_any _)
  rintro e w_6 ⟨rfl, hb_6⟩
  replace hs := hs.bl hb_6
  refine hK _ _ rfl trivial ?_
  clear hK K
  refine sq ?_
  refine .r0 ?_
  apply wpSq_end
  refine hK7 _ _ ?_
  refine cf ?_
  refine wp_skip ?_
  refine hK6 _ _ ?_
  refine wp_seq_k ?_
  intro K8 hK8
  refine wp_seq_k ?_
  intro K9 hK9
  refine rg [0, 1, 2] ?_
  refine sq ?_
  refine .mv ?_
  refine sq ?_
  intro K hK
  have hb := hs.b
  go_big_op
  go_fit (rGood_any (HA.out.bl stab_n hb) hn (by omega))
  rintro e w_7 ⟨rfl, hb_7⟩
  clear hb
  replace hs := hs.bl hb_7
  rw [decide_eq_false H.out]
  refine hK _ _ rfl trivial ?_
  clear hK K
  refine sq ?_
  refine .r0 ?_
  apply wpSq_end
  refine hK9 _ _ ?_
  refine ct ?_
  refine wp_seq_k ?_
  intro K10 hK10
  refine rg [0, 1, 2, 3, 4, 5, 6, 7, 8, 9, 10, 11, 12, 13, 14, 15, 16, 17, 18, 19, 20, 21, 22] ?_
  refine sq ?_
  refine .mv ?_
  refine sq ?_
  refine .mv ?_
  refine sq ?_
  refine .mv ?_
  refine sq ?_
  intro K hK
  go_big_op
  go_fit (told_no 4 (by decide) rfl)
  rintro e w_8 ⟨rfl, hb_8⟩
  replace hs := hs.bl hb_8
  refine hK _ _ rfl trivial ?_
  clear hK K
  refine sq ?_
  refine .mv ?_
  refine sq ?_
  refine .mv ?_
  refine sq ?_
  refine .mv ?_
  refine sq ?_
  refine .mv ?_
  refine sq ?_
  intro K hK
  go_big_op
  go_fit (told_no 4 (by decide) rfl)
  rintro e w_9 ⟨rfl, hb_9⟩
  replace hs := hs.bl hb_9
  refine hK _ _ rfl trivial ?_
  clear hK K
  refine sq ?_
  refine .r0 ?_
  refine sq ?_
  refine .mv ?_
  refine sq ?_
  refine .mv ?_
  refine sq ?_
  refine .mv ?_
  refine sq ?_
  refine .mv ?_
  refine sq ?_
  intro K hK
  go_big_op
  go_fit (told_no 4 (by decide) rfl)
  rintro e w_10 ⟨rfl, hb_10⟩
  replace hs := hs.bl hb_10
  refine hK _ _ rfl trivial ?_
  clear hK K
  refine sq ?_
  refine .r0 ?_
  refine sq ?_
  refine .mv ?_
  refine sq ?_
  refine .mv ?_
  refine sq ?_
  refine .mv ?_
  refine sq ?_
  refine .mv ?_
  refine sq ?_
  intro K hK
  go_big_op
  go_fit (told_no 4 (by decide) rfl)
  rintro e w_11 ⟨rfl, hb_11⟩
  replace hs := hs.bl hb_11
  refine hK _ _ rfl trivial ?_
  clear hK K
  refine sq ?_
  refine .r0 ?_
  refine sq ?_
  refine .mv ?_
  apply wpSq_end
  refine hK10 _ _ ?_
  refine wp_ret ?_
  try dsimp only [Exit.then, Exit.inBlock]
  refine bodyPost_ret (v := (.bool true)) (by simp [results, Try.results4, go_sem]) rfl ?_
  exact ⟨rfl, hs.b⟩
theorem walk_GmatSingle (w : World) (o : Option Addr) (n c : Nat) (A : List (List (Int × Int))) (ha : MN 1048576 w o A) (hn : A.length = n) (la : n ≤ 1048576)
    (n1 : Bool) (s1 : Value) (xs : List Nat) (h1 : Rd w s1 xs) (l1 : xs.length ≤ 1048576) (n2 : Bool) (s2 : Value) (ys : List Nat) (h2 : Rd w s2 ys) (l2 : ys.length ≤ 1048576) :
    Calls Try.prog 4 #[.slice o n c, .agg #[.bool n1, s1, .bool n2, s2]] w fun e w' => e = .returned (.bool true) ∧ Below w.heap.size w w' := by
  have hq := PN.of_rd n1 n2 h1 l1 h2 l2
  by_cases h : gd A
  · exact single_ok ha hq hn rfl h
  · exact single_bad ha hq hn rfl la h
end
end Go.Proofs.Ytajmgjgobgchjaa

