/- The walk of GmatRows. -/
import Derived.Test.YtnkimagnmnocdaaS4ToS5
namespace Go.Proofs.Ytnkimagnmnocdaa
open Go Go.RowKit Dig
set_option linter.unusedVariables false
section
variable {w : World} {n c l i j : Nat} {a b kt : Int} {o : Option Addr} {A : List (List (Int × Int))} {vg : Value} {u v : Int}

set_option maxHeartbeats 4000000 in
set_option maxRecDepth 20000 in
theorem rows_ll (ha : MN 1048576 w o A) (hq : PN w vg u l v l) (hn : A.length = n) (hl : l = 1048576) (h : gd A) (hi : a < 0) (hj : b < 0) :
    Calls Try.prog 4 #[.slice o n c, .int .i64 a, .int .i64 b, vg, .int .i64 kt] w fun e w' => e = .returned (.bool true) ∧ Below w.heap.size w w' := by
  obtain ⟨k, hk⟩ : ∃ k, wd A = k := ⟨_, rfl⟩
  have n64 : n ≤ 64 := by have := h.1; omega
  have k64 : k ≤ 64 := by have := h.2.1; omega
  have HB := hide ha.bd
  have HA := hide ha
  have HK := hide hk
  have H := hide h
  have HR := hide (show ∀ (F : Nat → Nat → Int × Int), ∀ r ∈ mkM n k F, r.length ≤ 1000000000 from fun F => mkM_rl k64)
  have s1 : ((0 : Int) ≤ a) = False := eq_false (by omega)
  have r1 : ((0 : Int) ≤ b) = False := eq_false (by omega)
  have HZ := hide (show ¬ ((0 ≤ a ∧ a < (n : Int)) ∧ (0 ≤ b ∧ b < (n : Int))) from by omega)
  have HZ1 := hide (show ¬ (0 ≤ a ∧ a < (n : Int)) from by omega)
  clear ha hk h
  obtain ⟨n_3a, o_3a, k_3a, c_3a, n_3b, o_3b, k_3b, c_3b, rfl, hq1, hq2⟩ := hq
  go_enter Try.func4, Try.ntmps4
  have hs := St.nil w
  refine wp_seq_k ?_
  intro K1 hK1
  refine rg [0, 1] ?_
  refine sq ?_
  refine .al hs ?_; clear hs; intro p_b1 w_1 hs n1 kb_b1
  refine sq ?_
  refine .mv ?_
  apply wpSq_end
  refine hK1 _ _ ?_
  refine wp_seq_k ?_
  intro K2 hK2
  refine rg [0, 1, 2, 3, 4, 5, 6, 7, 8, 9] ?_
  refine sq ?_
  refine .mv ?_
  refine sq ?_
  refine .mv ?_
  refine sq ?_
  refine .mv ?_
  refine sq ?_
  refine .r4 hs.g0.f4 ?_
  refine sq ?_
  intro K hK
  have hb := hs.b
  have k0_1 := kb n1
  replace hq1 := hq1.k k0_1
  replace hq2 := hq2.k k0_1
  go_big_op
  go_fit (mAddRow_arg (HA.out.bl stab_n hb) (.mk' hq1 hq2) hn H.out (by decide) HZ.out)
  rintro e w_2 ⟨rfl, hb_2⟩
  clear hb
  replace hs := hs.bl hb_2
  refine hK _ _ rfl trivial ?_
  clear hK K
  refine sq ?_
  refine .mv ?_
  refine sq ?_
  refine .r0 ?_
  refine sq ?_
  refine .r0 ?_
  refine sq ?_
  refine .mv ?_
  refine sq ?_
  refine .mv ?_
  apply wpSq_end
  refine hK2 _ _ ?_
  refine wp_seq_k ?_
  intro K3 hK3
  refine rg [0, 1, 2, 3, 4, 5, 6, 7, 8] ?_
  refine sq ?_
  refine .mv ?_
  refine sq ?_
  refine .mv ?_
  refine sq ?_
  refine .mv ?_
  refine sq ?_
  intro K hK
  have hb := hs.b
  go_big_op
  go_fit (mSwap_arg (HA.out.bl stab_n hb) hn H.out (by decide) HZ.out)
  rintro e w_3 ⟨rfl, hb_3⟩
  clear hb
  replace hs := hs.bl hb_3
  refine hK _ _ rfl trivial ?_
  clear hK K
  refine sq ?_
  refine .mv ?_
  refine sq ?_
  refine .r0 ?_
  refine sq ?_
  refine .r0 ?_
  refine sq ?_
  refine .mv ?_
  refine sq ?_
  refine .mv ?_
  apply wpSq_end
  refine hK3 _ _ ?_
  refine wp_seq_k ?_
  intro K4 hK4
  refine rg [0, 1, 2, 3, 4, 5, 6, 7, 8] ?_
  refine sq ?_
  refine .mv ?_
  refine sq ?_
  refine .mv ?_
  refine sq ?_
  refine .mv ?_
  refine sq ?_
  intro K hK
  have hb := hs.b
  go_big_op
  go_fit (mTurn_arg (kt := kt) (HA.out.bl stab_n hb) hn H.out (by decide) HZ1.out)
  rintro e w_4 ⟨rfl, hb_4⟩
  clear hb
  replace hs := hs.bl hb_4
  refine hK _ _ rfl trivial ?_
  clear hK K
  refine sq ?_
  refine .mv ?_
  refine sq ?_
  refine .r0 ?_
  refine sq ?_
  refine .r0 ?_
  refine sq ?_
  refine .mv ?_
  refine sq ?_
  refine .mv ?_
  apply wpSq_end
  refine hK4 _ _ ?_
  refine wp_seq_k ?_
  intro K5 hK5
  refine wp_seq_k ?_
  intro K6 hK6
  refine rg [0, 1] ?_
  refine sq ?_
  intro K hK
  go_big_op
  go_fit (awake8_any _)
  rintro e w_5 ⟨rfl, hb_5⟩
  replace hs := hs.bl hb_5
  refine hK _ _ rfl trivial ?_
  clear hK K
  refine sq ?_
  refine .r0 ?_
  apply wpSq_end
  refine hK6 _ _ ?_
  refine cf ?_
  refine wp_skip ?_
  refine hK5 _ _ ?_
  refine wp_seq_k ?_
  intro K7 hK7
  refine wp_seq_k ?_
  intro K8 hK8
  refine rg [0, 1, 2] ?_
  refine sq ?_
  refine .mv ?_
  refine sq ?_
  intro K hK
  have hb := hs.b
  go_big_op
  go_fit (rGood_any (HA.out.bl stab_n hb) hn (by omega))
  rintro e w_6 ⟨rfl, hb_6⟩
  clear hb
  replace hs := hs.bl hb_6
  rw [decide_eq_true H.out]
  refine hK _ _ rfl trivial ?_
  clear hK K
  refine sq ?_
  refine .r0 ?_
  apply wpSq_end
  refine hK8 _ _ ?_
  refine cf ?_
  refine wp_skip ?_
  refine hK7 _ _ ?_
  refine wp_seq_k ?_
  intro K9 hK9
  refine rg [0, 1, 2, 3, 4, 5, 6, 7, 8] ?_
  refine sq ?_
  refine .mv ?_
  refine sq ?_
  refine .r0 ?_
  refine sq ?_
  refine .mv ?_
  refine sk ?_
  refine sk ?_
  refine sk ?_
  refine sk ?_
  refine sq ?_
  refine .r0 ?_
  refine sq ?_
  refine .mv ?_
  apply wpSq_end
  refine hK9 _ _ ?_
  refine wp_seq_k ?_
  intro K10 hK10
  refine rg [0, 1, 2, 3, 4, 5, 6, 7, 8] ?_
  refine sq ?_
  refine .mv ?_
  refine sq ?_
  refine .r0 ?_
  refine sq ?_
  refine .mv ?_
  refine sk ?_
  refine sk ?_
  refine sk ?_
  refine sk ?_
  refine sq ?_
  refine .r0 ?_
  refine sq ?_
  refine .mv ?_
  apply wpSq_end
  refine hK10 _ _ ?_
  refine wp_seq_k ?_
  intro K11 hK11
  refine wp_seq_k ?_
  intro K12 hK12
  refine rg [0, 1, 2, 3, 4, 5] ?_
  refine sq ?_
  refine .mv ?_
  refine sq ?_
  refine .r0 ?_
  refine sq ?_
  refine .mv ?_
  refine sk ?_
  refine sk ?_
  refine sq ?_
  refine .r0 ?_
  apply wpSq_end
  refine hK12 _ _ ?_
  refine ct ?_
  refine wp_seq_k ?_
  intro K13 hK13
  refine rg [0, 1, 2, 3, 4, 5, 6, 7, 8, 9, 10, 11] ?_
  refine sq ?_
  refine .mv ?_
  refine sq ?_
  refine .mv ?_
  refine sq ?_
  refine .mv ?_
  refine sq ?_
  intro K hK
  go_big_op
  go_fit (told_no 9 (by decide) rfl)
  rintro e w_7 ⟨rfl, hb_7⟩
  replace hs := hs.bl hb_7
  refine hK _ _ rfl trivial ?_
  clear hK K
  refine sq ?_
  refine .r0 ?_
  refine sq ?_
  refine .mv ?_
  refine sq ?_
  refine .mv ?_
  refine sq ?_
  refine .mv ?_
  refine sq ?_
  refine .mv ?_
  refine sq ?_
  intro K hK
  go_big_op
  go_fit (told_no 9 (by decide) rfl)
  rintro e w_8 ⟨rfl, hb_8⟩
  replace hs := hs.bl hb_8
  refine hK _ _ rfl trivial ?_
  clear hK K
  refine sq ?_
  refine .r0 ?_
  refine sq ?_
  refine .r0 ?_
  apply wpSq_end
  refine hK13 _ _ ?_
  refine cf ?_
  refine wp_skip ?_
  refine hK11 _ _ ?_
  refine wp_seq_k ?_
  intro K14 hK14
  refine wp_seq_k ?_
  intro K15 hK15
  refine rg [0, 1] ?_
  refine sq ?_
  refine .mv ?_
  refine sq ?_
  refine .r0 ?_
  apply wpSq_end
  refine hK15 _ _ ?_
  refine ct ?_
  refine wp_seq_k ?_
  intro K16 hK16
  refine rg [0, 1, 2, 3, 4] ?_
  refine sq ?_
  refine .mv ?_
  refine sq ?_
  refine .mv ?_
  refine sq ?_
  refine .mv ?_
  refine sq ?_
  intro K hK
  go_big_op
  go_fit (told_no 9 (by decide) rfl)
  rintro e w_9 ⟨rfl, hb_9⟩
  replace hs := hs.bl hb_9
  refine hK _ _ rfl trivial ?_
  clear hK K
  refine sq ?_
  refine .mv ?_
  apply wpSq_end
  refine hK16 _ _ ?_
  refine wp_ret ?_
  try dsimp only [Exit.then, Exit.inBlock]
  refine bodyPost_ret (v := (.bool true)) (by simp [results, Try.results4, go_sem]) rfl ?_
  exact ⟨rfl, hs.b⟩
set_option maxHeartbeats 4000000 in
set_option maxRecDepth 20000 in
theorem rows_lh (ha : MN 1048576 w o A) (hq : PN w vg u l v l) (hn : A.length = n) (hl : l = 1048576) (h : gd A) (hi : a < 0) (hj : (n : Int) ≤ b) :
    Calls Try.prog 4 #[.slice o n c, .int .i64 a, .int .i64 b, vg, .int .i64 kt] w fun e w' => e = .returned (.bool true) ∧ Below w.heap.size w w' := by
  obtain ⟨k, hk⟩ : ∃ k, wd A = k := ⟨_, rfl⟩
  have n64 : n ≤ 64 := by have := h.1; omega
  have k64 : k ≤ 64 := by have := h.2.1; omega
  have HB := hide ha.bd
  have HA := hide ha
  have HK := hide hk
  have H := hide h
  have HR := hide (show ∀ (F : Nat → Nat → Int × Int), ∀ r ∈ mkM n k F, r.length ≤ 1000000000 from fun F => mkM_rl k64)
  have s1 : ((0 : Int) ≤ a) = False := eq_false (by omega)
  have r1 : ((0 : Int) ≤ b) = True := eq_true (by omega)
  have r2 : (b < (n : Int)) = False := eq_false (by omega)
  have HZ := hide (show ¬ ((0 ≤ a ∧ a < (n : Int)) ∧ (0 ≤ b ∧ b < (n : Int))) from by omega)
  have HZ1 := hide (show ¬ (0 ≤ a ∧ a < (n : Int)) from by omega)
  clear ha hk h
  obtain ⟨n_3a, o_3a, k_3a, c_3a, n_3b, o_3b, k_3b, c_3b, rfl, hq1, hq2⟩ := hq
  go_enter Try.func4, Try.ntmps4
  have hs := St.nil w
  refine wp_seq_k ?_
  intro K1 hK1
  refine rg [0, 1] ?_
  refine sq ?_
  refine .al hs ?_; clear hs; intro p_b1 w_1 hs n1 kb_b1
  refine sq ?_
  refine .mv ?_
  apply wpSq_end
  refine hK1 _ _ ?_
  refine wp_seq_k ?_
  intro K2 hK2
  refine rg [0, 1, 2, 3, 4, 5, 6, 7, 8, 9] ?_
  refine sq ?_
  refine .mv ?_
  refine sq ?_
  refine .mv ?_
  refine sq ?_
  refine .mv ?_
  refine sq ?_
  refine .r4 hs.g0.f4 ?_
  refine sq ?_
  intro K hK
  have hb := hs.b
  have k0_1 := kb n1
  replace hq1 := hq1.k k0_1
  replace hq2 := hq2.k k0_1
  go_big_op
  go_fit (mAddRow_arg (HA.out.bl stab_n hb) (.mk' hq1 hq2) hn H.out (by decide) HZ.out)
  rintro e w_2 ⟨rfl, hb_2⟩
  clear hb
  replace hs := hs.bl hb_2
  refine hK _ _ rfl trivial ?_
  clear hK K
  refine sq ?_
  refine .mv ?_
  refine sq ?_
  refine .r0 ?_
  refine sq ?_
  refine .r0 ?_
  refine sq ?_
  refine .mv ?_
  refine sq ?_
  refine .mv ?_
  apply wpSq_end
  refine hK2 _ _ ?_
  refine wp_seq_k ?_
  intro K3 hK3
  refine rg [0, 1, 2, 3, 4, 5, 6, 7, 8] ?_
  refine sq ?_
  refine .mv ?_
  refine sq ?_
  refine .mv ?_
  refine sq ?_
  refine .mv ?_
  refine sq ?_
  intro K hK
  have hb := hs.b
  go_big_op
  go_fit (mSwap_arg (HA.out.bl stab_n hb) hn H.out (by decide) HZ.out)
  rintro e w_3 ⟨rfl, hb_3⟩
  clear hb
  replace hs := hs.bl hb_3
  refine hK _ _ rfl trivial ?_
  clear hK K
  refine sq ?_
  refine .mv ?_
  refine sq ?_
  refine .r0 ?_
  refine sq ?_
  refine .r0 ?_
  refine sq ?_
  refine .mv ?_
  refine sq ?_
  refine .mv ?_
  apply wpSq_end
  refine hK3 _ _ ?_
  refine wp_seq_k ?_
  intro K4 hK4
  refine rg [0, 1, 2, 3, 4, 5, 6, 7, 8] ?_
  refine sq ?_
  refine .mv ?_
  refine sq ?_
  refine .mv ?_
  refine sq ?_
  refine .mv ?_
  refine sq ?_
  intro K hK
  have hb := hs.b
  go_big_op
  go_fit (mTurn_arg (kt := kt) (HA.out.bl stab_n hb) hn H.out (by decide) HZ1.out)
  rintro e w_4 ⟨rfl, hb_4⟩
  clear hb
  replace hs := hs.bl hb_4
  refine hK _ _ rfl trivial ?_
  clear hK K
  refine sq ?_
  refine .mv ?_
  refine sq ?_
  refine .r0 ?_
  refine sq ?_
  refine .r0 ?_
  refine sq ?_
  refine .mv ?_
  refine sq ?_
  refine .mv ?_
  apply wpSq_end
  refine hK4 _ _ ?_
  refine wp_seq_k ?_
  intro K5 hK5
  refine wp_seq_k ?_
  intro K6 hK6
  refine rg [0, 1] ?_
  refine sq ?_
  intro K hK
  go_big_op
  go_fit (awake8_any _)
  rintro e w_5 ⟨rfl, hb_5⟩
  replace hs := hs.bl hb_5
  refine hK _ _ rfl trivial ?_
  clear hK K
  refine sq ?_
  refine .r0 ?_
  apply wpSq_end
  refine hK6 _ _ ?_
  refine cf ?_
  refine wp_skip ?_
  refine hK5 _ _ ?_
  refine wp_seq_k ?_
  intro K7 hK7
  refine wp_seq_k ?_
  intro K8 hK8
  refine rg [0, 1, 2] ?_
  refine sq ?_
  refine .mv ?_
  refine sq ?_
  intro K hK
  have hb := hs.b
  go_big_op
  go_fit (rGood_any (HA.out.bl stab_n hb) hn (by omega))
  rintro e w_6 ⟨rfl, hb_6⟩
  clear hb
  replace hs := hs.bl hb_6
  rw [decide_eq_true H.out]
  refine hK _ _ rfl trivial ?_
  clear hK K
  refine sq ?_
  refine .r0 ?_
  apply wpSq_end
  refine hK8 _ _ ?_
  refine cf ?_
  refine wp_skip ?_
  refine hK7 _ _ ?_
  refine wp_seq_k ?_
  intro K9 hK9
  refine rg [0, 1, 2, 3, 4, 5, 6, 7, 8] ?_
  refine sq ?_
  refine .mv ?_
  refine sq ?_
  refine .r0 ?_
  refine sq ?_
  refine .mv ?_
  refine sk ?_
  refine sk ?_
  refine sk ?_
  refine sk ?_
  refine sq ?_
  refine .r0 ?_
  refine sq ?_
  refine .mv ?_
  apply wpSq_end
  refine hK9 _ _ ?_
  refine wp_seq_k ?_
  intro K10 hK10
  refine rg [0, 1, 2, 3, 4, 5, 6, 7, 8] ?_
  refine sq ?_
  refine .mv ?_
  refine sq ?_
  refine .r0 ?_
  refine sq ?_
  refine .mv ?_
  refine sq ?_
  refine .mv ?_
  refine sq ?_
  refine .mv ?_
  refine sq ?_
  refine .r0 ?_
  refine sq ?_
  refine .r0 ?_
  refine sq ?_
  refine .r0 ?_
  refine sq ?_
  refine .mv ?_
  apply wpSq_end
  refine hK10 _ _ ?_
  refine wp_seq_k ?_
  intro K11 hK11
  refine wp_seq_k ?_
  intro K12 hK12
  refine rg [0, 1, 2, 3, 4, 5] ?_
  refine sq ?_
  refine .mv ?_
  refine sq ?_
  refine .r0 ?_
  refine sq ?_
  refine .mv ?_
  refine sk ?_
  refine sk ?_
  refine sq ?_
  refine .r0 ?_
  apply wpSq_end
  refine hK12 _ _ ?_
  refine ct ?_
  refine wp_seq_k ?_
  intro K13 hK13
  refine rg [0, 1, 2, 3, 4, 5, 6, 7, 8, 9, 10, 11] ?_
  refine sq ?_
  refine .mv ?_
  refine sq ?_
  refine .mv ?_
  refine sq ?_
  refine .mv ?_
  refine sq ?_
  intro K hK
  go_big_op
  go_fit (told_no 9 (by decide) rfl)
  rintro e w_7 ⟨rfl, hb_7⟩
  replace hs := hs.bl hb_7
  refine hK _ _ rfl trivial ?_
  clear hK K
  refine sq ?_
  refine .r0 ?_
  refine sq ?_
  refine .mv ?_
  refine sq ?_
  refine .mv ?_
  refine sq ?_
  refine .mv ?_
  refine sq ?_
  refine .mv ?_
  refine sq ?_
  intro K hK
  go_big_op
  go_fit (told_no 9 (by decide) rfl)
  rintro e w_8 ⟨rfl, hb_8⟩
  replace hs := hs.bl hb_8
  refine hK _ _ rfl trivial ?_
  clear hK K
  refine sq ?_
  refine .r0 ?_
  refine sq ?_
  refine .r0 ?_
  apply wpSq_end
  refine hK13 _ _ ?_
  refine cf ?_
  refine wp_skip ?_
  refine hK11 _ _ ?_
  refine wp_seq_k ?_
  intro K14 hK14
  refine wp_seq_k ?_
  intro K15 hK15
  refine rg [0, 1] ?_
  refine sq ?_
  refine .mv ?_
  refine sq ?_
  refine .r0 ?_
  apply wpSq_end
  refine hK15 _ _ ?_
  refine ct ?_
  refine wp_seq_k ?_
  intro K16 hK16
  refine rg [0, 1, 2, 3, 4] ?_
  refine sq ?_
  refine .mv ?_
  refine sq ?_
  refine .mv ?_
  refine sq ?_
  refine .mv ?_
  refine sq ?_
  intro K hK
  go_big_op
  go_fit (told_no 9 (by decide) rfl)
  rintro e w_9 ⟨rfl, hb_9⟩
  replace hs := hs.bl hb_9
  refine hK _ _ rfl trivial ?_
  clear hK K
  refine sq ?_
  refine .mv ?_
  apply wpSq_end
  refine hK16 _ _ ?_
  refine wp_ret ?_
  try dsimp only [Exit.then, Exit.inBlock]
  refine bodyPost_ret (v := (.bool true)) (by simp [results, Try.results4, go_sem]) rfl ?_
  exact ⟨rfl, hs.b⟩
set_option maxHeartbeats 4000000 in
set_option maxRecDepth 20000 in
theorem rows_lo (ha : MN 1048576 w o A) (hq : PN w vg u l v l) (hn : A.length = n) (hl : l = 1048576) (h : gd A) (hi : a < 0) (hj : j < n) :
    Calls Try.prog 4 #[.slice o n c, .int .i64 a, .int .i64 (j : Int), vg, .int .i64 kt] w fun e w' => e = .returned (.bool true) ∧ Below w.heap.size w w' := by
  obtain ⟨k, hk⟩ : ∃ k, wd A = k := ⟨_, rfl⟩
  have n64 : n ≤ 64 := by have := h.1; omega
  have k64 : k ≤ 64 := by have := h.2.1; omega
  have HB := hide ha.bd
  have HA := hide ha
  have HK := hide hk
  have H := hide h
  have HR := hide (show ∀ (F : Nat → Nat → Int × Int), ∀ r ∈ mkM n k F, r.length ≤ 1000000000 from fun F => mkM_rl k64)
  have s1 : ((0 : Int) ≤ a) = False := eq_false (by omega)
  have r1 : ((0 : Int) ≤ (j : Int)) = True := eq_true (by omega)
  have r2 : ((j : Int) < (n : Int)) = True := eq_true (by omega)
  have r3 : (j < n) = True := eq_true (by omega)
  have HJ := hide hj
  have HZ := hide (show ¬ ((0 ≤ a ∧ a < (n : Int)) ∧ (0 ≤ (j : Int) ∧ (j : Int) < (n : Int))) from by omega)
  have HZ1 := hide (show ¬ (0 ≤ a ∧ a < (n : Int)) from by omega)
  clear ha hk h
  obtain ⟨n_3a, o_3a, k_3a, c_3a, n_3b, o_3b, k_3b, c_3b, rfl, hq1, hq2⟩ := hq
  go_enter Try.func4, Try.ntmps4
  have hs := St.nil w
  refine wp_seq_k ?_
  intro K1 hK1
  refine rg [0, 1] ?_
  refine sq ?_
  refine .al hs ?_; clear hs; intro p_b1 w_1 hs n1 kb_b1
  refine sq ?_
  refine .mv ?_
  apply wpSq_end
  refine hK1 _ _ ?_
  refine wp_seq_k ?_
  intro K2 hK2
  refine rg [0, 1, 2, 3, 4, 5, 6, 7, 8, 9] ?_
  refine sq ?_
  refine .mv ?_
  refine sq ?_
  refine .mv ?_
  refine sq ?_
  refine .mv ?_
  refine sq ?_
  refine .r4 hs.g0.f4 ?_
  refine sq ?_
  intro K hK
  have hb := hs.b
  have k0_1 := kb n1
  replace hq1 := hq1.k k0_1
  replace hq2 := hq2.k k0_1
  go_big_op
  go_fit (mAddRow_arg (HA.out.bl stab_n hb) (.mk' hq1 hq2) hn H.out (by decide) HZ.out)
  rintro e w_2 ⟨rfl, hb_2⟩
  clear hb
  replace hs := hs.bl hb_2
  refine hK _ _ rfl trivial ?_
  clear hK K
  refine sq ?_
  refine .mv ?_
  refine sq ?_
  refine .r0 ?_
  refine sq ?_
  refine .r0 ?_
  refine sq ?_
  refine .mv ?_
  refine sq ?_
  refine .mv ?_
  apply wpSq_end
  refine hK2 _ _ ?_
  refine wp_seq_k ?_
  intro K3 hK3
  refine rg [0, 1, 2, 3, 4, 5, 6, 7, 8] ?_
  refine sq ?_
  refine .mv ?_
  refine sq ?_
  refine .mv ?_
  refine sq ?_
  refine .mv ?_
  refine sq ?_
  intro K hK
  have hb := hs.b
  go_big_op
  go_fit (mSwap_arg (HA.out.bl stab_n hb) hn H.out (by decide) HZ.out)
  rintro e w_3 ⟨rfl, hb_3⟩
  clear hb
  replace hs := hs.bl hb_3
  refine hK _ _ rfl trivial ?_
  clear hK K
  refine sq ?_
  refine .mv ?_
  refine sq ?_
  refine .r0 ?_
  refine sq ?_
  refine .r0 ?_
  refine sq ?_
  refine .mv ?_
  refine sq ?_
  refine .mv ?_
  apply wpSq_end
  refine hK3 _ _ ?_
  refine wp_seq_k ?_
  intro K4 hK4
  refine rg [0, 1, 2, 3, 4, 5, 6, 7, 8] ?_
  refine sq ?_
  refine .mv ?_
  refine sq ?_
  refine .mv ?_
  refine sq ?_
  refine .mv ?_
  refine sq ?_
  intro K hK
  have hb := hs.b
  go_big_op
  go_fit (mTurn_arg (kt := kt) (HA.out.bl stab_n hb) hn H.out (by decide) HZ1.out)
  rintro e w_4 ⟨rfl, hb_4⟩
  clear hb
  replace hs := hs.bl hb_4
  refine hK _ _ rfl trivial ?_
  clear hK K
  refine sq ?_
  refine .mv ?_
  refine sq ?_
  refine .r0 ?_
  refine sq ?_
  refine .r0 ?_
  refine sq ?_
  refine .mv ?_
  refine sq ?_
  refine .mv ?_
  apply wpSq_end
  refine hK4 _ _ ?_
  refine wp_seq_k ?_
  intro K5 hK5
  refine wp_seq_k ?_
  intro K6 hK6
  refine rg [0, 1] ?_
  refine sq ?_
  intro K hK
  go_big_op
  go_fit (awake8_any _)
  rintro e w_5 ⟨rfl, hb_5⟩
  replace hs := hs.bl hb_5
  refine hK _ _ rfl trivial ?_
  clear hK K
  refine sq ?_
  refine .r0 ?_
  apply wpSq_end
  refine hK6 _ _ ?_
  refine cf ?_
  refine wp_skip ?_
  refine hK5 _ _ ?_
  refine wp_seq_k ?_
  intro K7 hK7
  refine wp_seq_k ?_
  intro K8 hK8
  refine rg [0, 1, 2] ?_
  refine sq ?_
  refine .mv ?_
  refine sq ?_
  intro K hK
  have hb := hs.b
  go_big_op
  go_fit (rGood_any (HA.out.bl stab_n hb) hn (by omega))
  rintro e w_6 ⟨rfl, hb_6⟩
  clear hb
  replace hs := hs.bl hb_6
  rw [decide_eq_true H.out]
  refine hK _ _ rfl trivial ?_
  clear hK K
  refine sq ?_
  refine .r0 ?_
  apply wpSq_end
  refine hK8 _ _ ?_
  refine cf ?_
  refine wp_skip ?_
  refine hK7 _ _ ?_
  refine wp_seq_k ?_
  intro K9 hK9
  refine rg [0, 1, 2, 3, 4, 5, 6, 7, 8] ?_
  refine sq ?_
  refine .mv ?_
  refine sq ?_
  refine .r0 ?_
  refine sq ?_
  refine .mv ?_
  refine sk ?_
  refine sk ?_
  refine sk ?_
  refine sk ?_
  refine sq ?_
  refine .r0 ?_
  refine sq ?_
  refine .mv ?_
  apply wpSq_end
  refine hK9 _ _ ?_
  refine wp_seq_k ?_
  intro K10 hK10
  refine rg [0, 1, 2, 3, 4, 5, 6, 7, 8] ?_
  refine sq ?_
  refine .mv ?_
  refine sq ?_
  refine .r0 ?_
  refine sq ?_
  refine .mv ?_
  refine sq ?_
  refine .mv ?_
  refine sq ?_
  refine .mv ?_
  refine sq ?_
  refine .r0 ?_
  refine sq ?_
  refine .r0 ?_
  refine sq ?_
  refine .r0 ?_
  refine sq ?_
  refine .mv ?_
  apply wpSq_end
  refine hK10 _ _ ?_
  refine wp_seq_k ?_
  intro K11 hK11
  refine wp_seq_k ?_
  intro K12 hK12
  refine rg [0, 1, 2, 3, 4, 5] ?_
  refine sq ?_
  refine .mv ?_
  refine sq ?_
  refine .r0 ?_
  refine sq ?_
  refine .mv ?_
  refine sk ?_
  refine sk ?_
  refine sq ?_
  refine .r0 ?_
  apply wpSq_end
  refine hK12 _ _ ?_
  refine ct ?_
  refine wp_seq_k ?_
  intro K13 hK13
  refine rg [0, 1, 2, 3, 4, 5, 6, 7, 8, 9, 10, 11] ?_
  refine sq ?_
  refine .mv ?_
  refine sq ?_
  refine .mv ?_
  refine sq ?_
  refine .mv ?_
  refine sq ?_
  intro K hK
  go_big_op
  go_fit (told_no 9 (by decide) rfl)
  rintro e w_7 ⟨rfl, hb_7⟩
  replace hs := hs.bl hb_7
  refine hK _ _ rfl trivial ?_
  clear hK K
  refine sq ?_
  refine .r0 ?_
  refine sq ?_
  refine .mv ?_
  refine sq ?_
  refine .mv ?_
  refine sq ?_
  refine .mv ?_
  refine sq ?_
  refine .mv ?_
  refine sq ?_
  intro K hK
  go_big_op
  go_fit (told_no 9 (by decide) rfl)
  rintro e w_8 ⟨rfl, hb_8⟩
  replace hs := hs.bl hb_8
  refine hK _ _ rfl trivial ?_
  clear hK K
  refine sq ?_
  refine .r0 ?_
  refine sq ?_
  refine .r0 ?_
  apply wpSq_end
  refine hK13 _ _ ?_
  refine cf ?_
  refine wp_skip ?_
  refine hK11 _ _ ?_
  refine wp_seq_k ?_
  intro K14 hK14
  refine wp_seq_k ?_
  intro K15 hK15
  refine rg [0, 1] ?_
  refine sq ?_
  refine .mv ?_
  refine sq ?_
  refine .r0 ?_
  apply wpSq_end
  refine hK15 _ _ ?_
  refine ct ?_
  refine wp_seq_k ?_
  intro K16 hK16
  refine rg [0, 1, 2, 3, 4] ?_
  refine sq ?_
  refine .mv ?_
  refine sq ?_
  refine .mv ?_
  refine sq ?_
  refine .mv ?_
  refine sq ?_
  intro K hK
  go_big_op
  go_fit (told_no 9 (by decide) rfl)
  rintro e w_9 ⟨rfl, hb_9⟩
  replace hs := hs.bl hb_9
  refine hK _ _ rfl trivial ?_
  clear hK K
  refine sq ?_
  refine .mv ?_
  apply wpSq_end
  refine hK16 _ _ ?_
  refine wp_ret ?_
  try dsimp only [Exit.then, Exit.inBlock]
  refine bodyPost_ret (v := (.bool true)) (by simp [results, Try.results4, go_sem]) rfl ?_
  exact ⟨rfl, hs.b⟩
set_option maxHeartbeats 4000000 in
set_option maxRecDepth 20000 in
theorem rows_hl (ha : MN 1048576 w o A) (hq : PN w vg u l v l) (hn : A.length = n) (hl : l = 1048576) (h : gd A) (hi : (n : Int) ≤ a) (hj : b < 0) :
    Calls Try.prog 4 #[.slice o n c, .int .i64 a, .int .i64 b, vg, .int .i64 kt] w fun e w' => e = .returned (.bool true) ∧ Below w.heap.size w w' := by
  obtain ⟨k, hk⟩ : ∃ k, wd A = k := ⟨_, rfl⟩
  have n64 : n ≤ 64 := by have := h.1; omega
  have k64 : k ≤ 64 := by have := h.2.1; omega
  have HB := hide ha.bd
  have HA := hide ha
  have HK := hide hk
  have H := hide h
  have HR := hide (show ∀ (F : Nat → Nat → Int × Int), ∀ r ∈ mkM n k F, r.length ≤ 1000000000 from fun F => mkM_rl k64)
  have s1 : ((0 : Int) ≤ a) = True := eq_true (by omega)
  have s2 : (a < (n : Int)) = False := eq_false (by omega)
  have r1 : ((0 : Int) ≤ b) = False := eq_false (by omega)
  have HZ := hide (show ¬ ((0 ≤ a ∧ a < (n : Int)) ∧ (0 ≤ b ∧ b < (n : Int))) from by omega)
  have HZ1 := hide (show ¬ (0 ≤ a ∧ a < (n : Int)) from by omega)
  clear ha hk h
  obtain ⟨n_3a, o_3a, k_3a, c_3a, n_3b, o_3b, k_3b, c_3b, rfl, hq1, hq2⟩ := hq
  go_enter Try.func4, Try.ntmps4
  have hs := St.nil w
  refine wp_seq_k ?_
  intro K1 hK1
  refine rg [0, 1] ?_
  refine sq ?_
  refine .al hs ?_; clear hs; intro p_b1 w_1 hs n1 kb_b1
  refine sq ?_
  refine .mv ?_
  apply wpSq_end
  refine hK1 _ _ ?_
  refine wp_seq_k ?_
  intro K2 hK2
  refine rg [0, 1, 2, 3, 4, 5, 6, 7, 8, 9] ?_
  refine sq ?_
  refine .mv ?_
  refine sq ?_
  refine .mv ?_
  refine sq ?_
  refine .mv ?_
  refine sq ?_
  refine .r4 hs.g0.f4 ?_
  refine sq ?_
  intro K hK
  have hb := hs.b
  have k0_1 := kb n1
  replace hq1 := hq1.k k0_1
  replace hq2 := hq2.k k0_1
  go_big_op
  go_fit (mAddRow_arg (HA.out.bl stab_n hb) (.mk' hq1 hq2) hn H.out (by decide) HZ.out)
  rintro e w_2 ⟨rfl, hb_2⟩
  clear hb
  replace hs := hs.bl hb_2
  refine hK _ _ rfl trivial ?_
  clear hK K
  refine sq ?_
  refine .mv ?_
  refine sq ?_
  refine .r0 ?_
  refine sq ?_
  refine .r0 ?_
  refine sq ?_
  refine .mv ?_
  refine sq ?_
  refine .mv ?_
  apply wpSq_end
  refine hK2 _ _ ?_
  refine wp_seq_k ?_
  intro K3 hK3
  refine rg [0, 1, 2, 3, 4, 5, 6, 7, 8] ?_
  refine sq ?_
  refine .mv ?_
  refine sq ?_
  refine .mv ?_
  refine sq ?_
  refine .mv ?_
  refine sq ?_
  intro K hK
  have hb := hs.b
  go_big_op
  go_fit (mSwap_arg (HA.out.bl stab_n hb) hn H.out (by decide) HZ.out)
  rintro e w_3 ⟨rfl, hb_3⟩
  clear hb
  replace hs := hs.bl hb_3
  refine hK _ _ rfl trivial ?_
  clear hK K
  refine sq ?_
  refine .mv ?_
  refine sq ?_
  refine .r0 ?_
  refine sq ?_
  refine .r0 ?_
  refine sq ?_
  refine .mv ?_
  refine sq ?_
  refine .mv ?_
  apply wpSq_end
  refine hK3 _ _ ?_
  refine wp_seq_k ?_
  intro K4 hK4
  refine rg [0, 1, 2, 3, 4, 5, 6, 7, 8] ?_
  refine sq ?_
  refine .mv ?_
  refine sq ?_
  refine .mv ?_
  refine sq ?_
  refine .mv ?_
  refine sq ?_
  intro K hK
  have hb := hs.b
  go_big_op
  go_fit (mTurn_arg (kt := kt) (HA.out.bl stab_n hb) hn H.out (by decide) HZ1.out)
  rintro e w_4 ⟨rfl, hb_4⟩
  clear hb
  replace hs := hs.bl hb_4
  refine hK _ _ rfl trivial ?_
  clear hK K
  refine sq ?_
  refine .mv ?_
  refine sq ?_
  refine .r0 ?_
  refine sq ?_
  refine .r0 ?_
  refine sq ?_
  refine .mv ?_
  refine sq ?_
  refine .mv ?_
  apply wpSq_end
  refine hK4 _ _ ?_
  refine wp_seq_k ?_
  intro K5 hK5
  refine wp_seq_k ?_
  intro K6 hK6
  refine rg [0, 1] ?_
  refine sq ?_
  intro K hK
  go_big_op
  go_fit (awake8_any _)
  rintro e w_5 ⟨rfl, hb_5⟩
  replace hs := hs.bl hb_5
  refine hK _ _ rfl trivial ?_
  clear hK K
  refine sq ?_
  refine .r0 ?_
  apply wpSq_end
  refine hK6 _ _ ?_
  refine cf ?_
  refine wp_skip ?_
  refine hK5 _ _ ?_
  refine wp_seq_k ?_
  intro K7 hK7
  refine wp_seq_k ?_
  intro K8 hK8
  refine rg [0, 1, 2] ?_
  refine sq ?_
  refine .mv ?_
  refine sq ?_
  intro K hK
  have hb := hs.b
  go_big_op
  go_fit (rGood_any (HA.out.bl stab_n hb) hn (by omega))
  rintro e w_6 ⟨rfl, hb_6⟩
  clear hb
  replace hs := hs.bl hb_6
  rw [decide_eq_true H.out]
  refine hK _ _ rfl trivial ?_
  clear hK K
  refine sq ?_
  refine .r0 ?_
  apply wpSq_end
  refine hK8 _ _ ?_
  refine cf ?_
  refine wp_skip ?_
  refine hK7 _ _ ?_
  refine wp_seq_k ?_
  intro K9 hK9
  refine rg [0, 1, 2, 3, 4, 5, 6, 7, 8] ?_
  refine sq ?_
  refine .mv ?_
  refine sq ?_
  refine .r0 ?_
  refine sq ?_
  refine .mv ?_
  refine sq ?_
  refine .mv ?_
  refine sq ?_
  refine .mv ?_
  refine sq ?_
  refine .r0 ?_
  refine sq ?_
  refine .r0 ?_
  refine sq ?_
  refine .r0 ?_
  refine sq ?_
  refine .mv ?_
  apply wpSq_end
  refine hK9 _ _ ?_
  refine wp_seq_k ?_
  intro K10 hK10
  refine rg [0, 1, 2, 3, 4, 5, 6, 7, 8] ?_
  refine sq ?_
  refine .mv ?_
  refine sq ?_
  refine .r0 ?_
  refine sq ?_
  refine .mv ?_
  refine sk ?_
  refine sk ?_
  refine sk ?_
  refine sk ?_
  refine sq ?_
  refine .r0 ?_
  refine sq ?_
  refine .mv ?_
  apply wpSq_end
  refine hK10 _ _ ?_
  refine wp_seq_k ?_
  intro K11 hK11
  refine wp_seq_k ?_
  intro K12 hK12
  refine rg [0, 1, 2, 3, 4, 5] ?_
  refine sq ?_
  refine .mv ?_
  refine sq ?_
  refine .r0 ?_
  refine sq ?_
  refine .mv ?_
  refine sk ?_
  refine sk ?_
  refine sq ?_
  refine .r0 ?_
  apply wpSq_end
  refine hK12 _ _ ?_
  refine ct ?_
  refine wp_seq_k ?_
  intro K13 hK13
  refine rg [0, 1, 2, 3, 4, 5, 6, 7, 8, 9, 10, 11] ?_
  refine sq ?_
  refine .mv ?_
  refine sq ?_
  refine .mv ?_
  refine sq ?_
  refine .mv ?_
  refine sq ?_
  intro K hK
  go_big_op
  go_fit (told_no 9 (by decide) rfl)
  rintro e w_7 ⟨rfl, hb_7⟩
  replace hs := hs.bl hb_7
  refine hK _ _ rfl trivial ?_
  clear hK K
  refine sq ?_
  refine .r0 ?_
  refine sq ?_
  refine .mv ?_
  refine sq ?_
  refine .mv ?_
  refine sq ?_
  refine .mv ?_
  refine sq ?_
  refine .mv ?_
  refine sq ?_
  intro K hK
  go_big_op
  go_fit (told_no 9 (by decide) rfl)
  rintro e w_8 ⟨rfl, hb_8⟩
  replace hs := hs.bl hb_8
  refine hK _ _ rfl trivial ?_
  clear hK K
  refine sq ?_
  refine .r0 ?_
  refine sq ?_
  refine .r0 ?_
  apply wpSq_end
  refine hK13 _ _ ?_
  refine cf ?_
  refine wp_skip ?_
  refine hK11 _ _ ?_
  refine wp_seq_k ?_
  intro K14 hK14
  refine wp_seq_k ?_
  intro K15 hK15
  refine rg [0, 1] ?_
  refine sq ?_
  refine .mv ?_
  refine sq ?_
  refine .r0 ?_
  apply wpSq_end
  refine hK15 _ _ ?_
  refine ct ?_
  refine wp_seq_k ?_
  intro K16 hK16
  refine rg [0, 1, 2, 3, 4] ?_
  refine sq ?_
  refine .mv ?_
  refine sq ?_
  refine .mv ?_
  refine sq ?_
  refine .mv ?_
  refine sq ?_
  intro K hK
  go_big_op
  go_fit (told_no 9 (by decide) rfl)
  rintro e w_9 ⟨rfl, hb_9⟩
  replace hs := hs.bl hb_9
  refine hK _ _ rfl trivial ?_
  clear hK K
  refine sq ?_
  refine .mv ?_
  apply wpSq_end
  refine hK16 _ _ ?_
  refine wp_ret ?_
  try dsimp only [Exit.then, Exit.inBlock]
  refine bodyPost_ret (v := (.bool true)) (by simp [results, Try.results4, go_sem]) rfl ?_
  exact ⟨rfl, hs.b⟩
set_option maxHeartbeats 4000000 in
set_option maxRecDepth 20000 in
theorem rows_hh (ha : MN 1048576 w o A) (hq : PN w vg u l v l) (hn : A.length = n) (hl : l = 1048576) (h : gd A) (hi : (n : Int) ≤ a) (hj : (n : Int) ≤ b) :
    Calls Try.prog 4 #[.slice o n c, .int .i64 a, .int .i64 b, vg, .int .i64 kt] w fun e w' => e = .returned (.bool true) ∧ Below w.heap.size w w' := by
  obtain ⟨k, hk⟩ : ∃ k, wd A = k := ⟨_, rfl⟩
  have n64 : n ≤ 64 := by have := h.1; omega
  have k64 : k ≤ 64 := by have := h.2.1; omega
  have HB := hide ha.bd
  have HA := hide ha
  have HK := hide hk
  have H := hide h
  have HR := hide (show ∀ (F : Nat → Nat → Int × Int), ∀ r ∈ mkM n k F, r.length ≤ 1000000000 from fun F => mkM_rl k64)
  have s1 : ((0 : Int) ≤ a) = True := eq_true (by omega)
  have s2 : (a < (n : Int)) = False := eq_false (by omega)
  have r1 : ((0 : Int) ≤ b) = True := eq_true (by omega)
  have r2 : (b < (n : Int)) = False := eq_false (by omega)
  have HZ := hide (show ¬ ((0 ≤ a ∧ a < (n : Int)) ∧ (0 ≤ b ∧ b < (n : Int))) from by omega)
  have HZ1 := hide (show ¬ (0 ≤ a ∧ a < (n : Int)) from by omega)
  clear ha hk h
  obtain ⟨n_3a, o_3a, k_3a, c_3a, n_3b, o_3b, k_3b, c_3b, rfl, hq1, hq2⟩ := hq
  go_enter Try.func4, Try.ntmps4
  have hs := St.nil w
  refine wp_seq_k ?_
  intro K1 hK1
  refine rg [0, 1] ?_
  refine sq ?_
  refine .al hs ?_; clear hs; intro p_b1 w_1 hs n1 kb_b1
  refine sq ?_
  refine .mv ?_
  apply wpSq_end
  refine hK1 _ _ ?_
  refine wp_seq_k ?_
  intro K2 hK2
  refine rg [0, 1, 2, 3, 4, 5, 6, 7, 8, 9] ?_
  refine sq ?_
  refine .mv ?_
  refine sq ?_
  refine .mv ?_
  refine sq ?_
  refine .mv ?_
  refine sq ?_
  refine .r4 hs.g0.f4 ?_
  refine sq ?_
  intro K hK
  have hb := hs.b
  have k0_1 := kb n1
  replace hq1 := hq1.k k0_1
  replace hq2 := hq2.k k0_1
  go_big_op
  go_fit (mAddRow_arg (HA.out.bl stab_n hb) (.mk' hq1 hq2) hn H.out (by decide) HZ.out)
  rintro e w_2 ⟨rfl, hb_2⟩
  clear hb
  replace hs := hs.bl hb_2
  refine hK _ _ rfl trivial ?_
  clear hK K
  refine sq ?_
  refine .mv ?_
  refine sq ?_
  refine .r0 ?_
  refine sq ?_
  refine .r0 ?_
  refine sq ?_
  refine .mv ?_
  refine sq ?_
  refine .mv ?_
  apply wpSq_end
  refine hK2 _ _ ?_
  refine wp_seq_k ?_
  intro K3 hK3
  refine rg [0, 1, 2, 3, 4, 5, 6, 7, 8] ?_
  refine sq ?_
  refine .mv ?_
  refine sq ?_
  refine .mv ?_
  refine sq ?_
  refine .mv ?_
  refine sq ?_
  intro K hK
  have hb := hs.b
  go_big_op
  go_fit (mSwap_arg (HA.out.bl stab_n hb) hn H.out (by decide) HZ.out)
  rintro e w_3 ⟨rfl, hb_3⟩
  clear hb
  replace hs := hs.bl hb_3
  refine hK _ _ rfl trivial ?_
  clear hK K
  refine sq ?_
  refine .mv ?_
  refine sq ?_
  refine .r0 ?_
  refine sq ?_
  refine .r0 ?_
  refine sq ?_
  refine .mv ?_
  refine sq ?_
  refine .mv ?_
  apply wpSq_end
  refine hK3 _ _ ?_
  refine wp_seq_k ?_
  intro K4 hK4
  refine rg [0, 1, 2, 3, 4, 5, 6, 7, 8] ?_
  refine sq ?_
  refine .mv ?_
  refine sq ?_
  refine .mv ?_
  refine sq ?_
  refine .mv ?_
  refine sq ?_
  intro K hK
  have hb := hs.b
  go_big_op
  go_fit (mTurn_arg (kt := kt) (HA.out.bl stab_n hb) hn H.out (by decide) HZ1.out)
  rintro e w_4 ⟨rfl, hb_4⟩
  clear hb
  replace hs := hs.bl hb_4
  refine hK _ _ rfl trivial ?_
  clear hK K
  refine sq ?_
  refine .mv ?_
  refine sq ?_
  refine .r0 ?_
  refine sq ?_
  refine .r0 ?_
  refine sq ?_
  refine .mv ?_
  refine sq ?_
  refine .mv ?_
  apply wpSq_end
  refine hK4 _ _ ?_
  refine wp_seq_k ?_
  intro K5 hK5
  refine wp_seq_k ?_
  intro K6 hK6
  refine rg [0, 1] ?_
  refine sq ?_
  intro K hK
  go_big_op
  go_fit (awake8_any _)
  rintro e w_5 ⟨rfl, hb_5⟩
  replace hs := hs.bl hb_5
  refine hK _ _ rfl trivial ?_
  clear hK K
  refine sq ?_
  refine .r0 ?_
  apply wpSq_end
  refine hK6 _ _ ?_
  refine cf ?_
  refine wp_skip ?_
  refine hK5 _ _ ?_
  refine wp_seq_k ?_
  intro K7 hK7
  refine wp_seq_k ?_
  intro K8 hK8
  refine rg [0, 1, 2] ?_
  refine sq ?_
  refine .mv ?_
  refine sq ?_
  intro K hK
  have hb := hs.b
  go_big_op
  go_fit (rGood_any (HA.out.bl stab_n hb) hn (by omega))
  rintro e w_6 ⟨rfl, hb_6⟩
  clear hb
  replace hs := hs.bl hb_6
  rw [decide_eq_true H.out]
  refine hK _ _ rfl trivial ?_
  clear hK K
  refine sq ?_
  refine .r0 ?_
  apply wpSq_end
  refine hK8 _ _ ?_
  refine cf ?_
  refine wp_skip ?_
  refine hK7 _ _ ?_
  refine wp_seq_k ?_
  intro K9 hK9
  refine rg [0, 1, 2, 3, 4, 5, 6, 7, 8] ?_
  refine sq ?_
  refine .mv ?_
  refine sq ?_
  refine .r0 ?_
  refine sq ?_
  refine .mv ?_
  refine sq ?_
  refine .mv ?_
  refine sq ?_
  refine .mv ?_
  refine sq ?_
  refine .r0 ?_
  refine sq ?_
  refine .r0 ?_
  refine sq ?_
  refine .r0 ?_
  refine sq ?_
  refine .mv ?_
  apply wpSq_end
  refine hK9 _ _ ?_
  refine wp_seq_k ?_
  intro K10 hK10
  refine rg [0, 1, 2, 3, 4, 5, 6, 7, 8] ?_
  refine sq ?_
  refine .mv ?_
  refine sq ?_
  refine .r0 ?_
  refine sq ?_
  refine .mv ?_
  refine sq ?_
  refine .mv ?_
  refine sq ?_
  refine .mv ?_
  refine sq ?_
  refine .r0 ?_
  refine sq ?_
  refine .r0 ?_
  refine sq ?_
  refine .r0 ?_
  refine sq ?_
  refine .mv ?_
  apply wpSq_end
  refine hK10 _ _ ?_
  refine wp_seq_k ?_
  intro K11 hK11
  refine wp_seq_k ?_
  intro K12 hK12
  refine rg [0, 1, 2, 3, 4, 5] ?_
  refine sq ?_
  refine .mv ?_
  refine sq ?_
  refine .r0 ?_
  refine sq ?_
  refine .mv ?_
  refine sk ?_
  refine sk ?_
  refine sq ?_
  refine .r0 ?_
  apply wpSq_end
  refine hK12 _ _ ?_
  refine ct ?_
  refine wp_seq_k ?_
  intro K13 hK13
  refine rg [0, 1, 2, 3, 4, 5, 6, 7, 8, 9, 10, 11] ?_
  refine sq ?_
  refine .mv ?_
  refine sq ?_
  refine .mv ?_
  refine sq ?_
  refine .mv ?_
  refine sq ?_
  intro K hK
  go_big_op
  go_fit (told_no 9 (by decide) rfl)
  rintro e w_7 ⟨rfl, hb_7⟩
  replace hs := hs.bl hb_7
  refine hK _ _ rfl trivial ?_
  clear hK K
  refine sq ?_
  refine .r0 ?_
  refine sq ?_
  refine .mv ?_
  refine sq ?_
  refine .mv ?_
  refine sq ?_
  refine .mv ?_
  refine sq ?_
  refine .mv ?_
  refine sq ?_
  intro K hK
  go_big_op
  go_fit (told_no 9 (by decide) rfl)
  rintro e w_8 ⟨rfl, hb_8⟩
  replace hs := hs.bl hb_8
  refine hK _ _ rfl trivial ?_
  clear hK K
  refine sq ?_
  refine .r0 ?_
  refine sq ?_
  refine .r0 ?_
  apply wpSq_end
  refine hK13 _ _ ?_
  refine cf ?_
  refine wp_skip ?_
  refine hK11 _ _ ?_
  refine wp_seq_k ?_
  intro K14 hK14
  refine wp_seq_k ?_
  intro K15 hK15
  refine rg [0, 1] ?_
  refine sq ?_
  refine .mv ?_
  refine sq ?_
  refine .r0 ?_
  apply wpSq_end
  refine hK15 _ _ ?_
  refine ct ?_
  refine wp_seq_k ?_
  intro K16 hK16
  refine rg [0, 1, 2, 3, 4] ?_
  refine sq ?_
  refine .mv ?_
  refine sq ?_
  refine .mv ?_
  refine sq ?_
  refine .mv ?_
  refine sq ?_
  intro K hK
  go_big_op
  go_fit (told_no 9 (by decide) rfl)
  rintro e w_9 ⟨rfl, hb_9⟩
  replace hs := hs.bl hb_9
  refine hK _ _ rfl trivial ?_
  clear hK K
  refine sq ?_
  refine .mv ?_
  apply wpSq_end
  refine hK16 _ _ ?_
  refine wp_ret ?_
  try dsimp only [Exit.then, Exit.inBlock]
  refine bodyPost_ret (v := (.bool true)) (by simp [results, Try.results4, go_sem]) rfl ?_
  exact ⟨rfl, hs.b⟩
set_option maxHeartbeats 4000000 in
set_option maxRecDepth 20000 in
theorem rows_ho (ha : MN 1048576 w o A) (hq : PN w vg u l v l) (hn : A.length = n) (hl : l = 1048576) (h : gd A) (hi : (n : Int) ≤ a) (hj : j < n) :
    Calls Try.prog 4 #[.slice o n c, .int .i64 a, .int .i64 (j : Int), vg, .int .i64 kt] w fun e w' => e = .returned (.bool true) ∧ Below w.heap.size w w' := by
  obtain ⟨k, hk⟩ : ∃ k, wd A = k := ⟨_, rfl⟩
  have n64 : n ≤ 64 := by have := h.1; omega
  have k64 : k ≤ 64 := by have := h.2.1; omega
  have HB := hide ha.bd
  have HA := hide ha
  have HK := hide hk
  have H := hide h
  have HR := hide (show ∀ (F : Nat → Nat → Int × Int), ∀ r ∈ mkM n k F, r.length ≤ 1000000000 from fun F => mkM_rl k64)
  have s1 : ((0 : Int) ≤ a) = True := eq_true (by omega)
  have s2 : (a < (n : Int)) = False := eq_false (by omega)
  have r1 : ((0 : Int) ≤ (j : Int)) = True := eq_true (by omega)
  have r2 : ((j : Int) < (n : Int)) = True := eq_true (by omega)
  have r3 : (j < n) = True := eq_true (by omega)
  have HJ := hide hj
  have HZ := hide (show ¬ ((0 ≤ a ∧ a < (n : Int)) ∧ (0 ≤ (j : Int) ∧ (j : Int) < (n : Int))) from by omega)
  have HZ1 := hide (show ¬ (0 ≤ a ∧ a < (n : Int)) from by omega)
  clear ha hk h
  obtain ⟨n_3a, o_3a, k_3a, c_3a, n_3b, o_3b, k_3b, c_3b, rfl, hq1, hq2⟩ := hq
  go_enter Try.func4, Try.ntmps4
  have hs := St.nil w
  refine wp_seq_k ?_
  intro K1 hK1
  refine rg [0, 1] ?_
  refine sq ?_
  refine .al hs ?_; clear hs; intro p_b1 w_1 hs n1 kb_b1
  refine sq ?_
  refine .mv ?_
  apply wpSq_end
  refine hK1 _ _ ?_
  refine wp_seq_k ?_
  intro K2 hK2
  refine rg [0, 1, 2, 3, 4, 5, 6, 7, 8, 9] ?_
  refine sq ?_
  refine .mv ?_
  refine sq ?_
  refine .mv ?_
  refine sq ?_
  refine .mv ?_
  refine sq ?_
  refine .r4 hs.g0.f4 ?_
  refine sq ?_
  intro K hK
  have hb := hs.b
  have k0_1 := kb n1
  replace hq1 := hq1.k k0_1
  replace hq2 := hq2.k k0_1
  go_big_op
  go_fit (mAddRow_arg (HA.out.bl stab_n hb) (.mk' hq1 hq2) hn H.out (by decide) HZ.out)
  rintro e w_2 ⟨rfl, hb_2⟩
  clear hb
  replace hs := hs.bl hb_2
  refine hK _ _ rfl trivial ?_
  clear hK K
  refine sq ?_
  refine .mv ?_
  refine sq ?_
  refine .r0 ?_
  refine sq ?_
  refine .r0 ?_
  refine sq ?_
  refine .mv ?_
  refine sq ?_
  refine .mv ?_
  apply wpSq_end
  refine hK2 _ _ ?_
  refine wp_seq_k ?_
  intro K3 hK3
  refine rg [0, 1, 2, 3, 4, 5, 6, 7, 8] ?_
  refine sq ?_
  refine .mv ?_
  refine sq ?_
  refine .mv ?_
  refine sq ?_
  refine .mv ?_
  refine sq ?_
  intro K hK
  have hb := hs.b
  go_big_op
  go_fit (mSwap_arg (HA.out.bl stab_n hb) hn H.out (by decide) HZ.out)
  rintro e w_3 ⟨rfl, hb_3⟩
  clear hb
  replace hs := hs.bl hb_3
  refine hK _ _ rfl trivial ?_
  clear hK K
  refine sq ?_
  refine .mv ?_
  refine sq ?_
  refine .r0 ?_
  refine sq ?_
  refine .r0 ?_
  refine sq ?_
  refine .mv ?_
  refine sq ?_
  refine .mv ?_
  apply wpSq_end
  refine hK3 _ _ ?_
  refine wp_seq_k ?_
  intro K4 hK4
  refine rg [0, 1, 2, 3, 4, 5, 6, 7, 8] ?_
  refine sq ?_
  refine .mv ?_
  refine sq ?_
  refine .mv ?_
  refine sq ?_
  refine .mv ?_
  refine sq ?_
  intro K hK
  have hb := hs.b
  go_big_op
  go_fit (mTurn_arg (kt := kt) (HA.out.bl stab_n hb) hn H.out (by decide) HZ1.out)
  rintro e w_4 ⟨rfl, hb_4⟩
  clear hb
  replace hs := hs.bl hb_4
  refine hK _ _ rfl trivial ?_
  clear hK K
  refine sq ?_
  refine .mv ?_
  refine sq ?_
  refine .r0 ?_
  refine sq ?_
  refine .r0 ?_
  refine sq ?_
  refine .mv ?_
  refine sq ?_
  refine .mv ?_
  apply wpSq_end
  refine hK4 _ _ ?_
  refine wp_seq_k ?_
  intro K5 hK5
  refine wp_seq_k ?_
  intro K6 hK6
  refine rg [0, 1] ?_
  refine sq ?_
  intro K hK
  go_big_op
  go_fit (awake8_any _)
  rintro e w_5 ⟨rfl, hb_5⟩
  replace hs := hs.bl hb_5
  refine hK _ _ rfl trivial ?_
  clear hK K
  refine sq ?_
  refine .r0 ?_
  apply wpSq_end
  refine hK6 _ _ ?_
  refine cf ?_
  refine wp_skip ?_
  refine hK5 _ _ ?_
  refine wp_seq_k ?_
  intro K7 hK7
  refine wp_seq_k ?_
  intro K8 hK8
  refine rg [0, 1, 2] ?_
  refine sq ?_
  refine .mv ?_
  refine sq ?_
  intro K hK
  have hb := hs.b
  go_big_op
  go_fit (rGood_any (HA.out.bl stab_n hb) hn (by omega))
  rintro e w_6 ⟨rfl, hb_6⟩
  clear hb
  replace hs := hs.bl hb_6
  rw [decide_eq_true H.out]
  refine hK _ _ rfl trivial ?_
  clear hK K
  refine sq ?_
  refine .r0 ?_
  apply wpSq_end
  refine hK8 _ _ ?_
  refine cf ?_
  refine wp_skip ?_
  refine hK7 _ _ ?_
  refine wp_seq_k ?_
  intro K9 hK9
  refine rg [0, 1, 2, 3, 4, 5, 6, 7, 8] ?_
  refine sq ?_
  refine .mv ?_
  refine sq ?_
  refine .r0 ?_
  refine sq ?_
  refine .mv ?_
  refine sq ?_
  refine .mv ?_
  refine sq ?_
  refine .mv ?_
  refine sq ?_
  refine .r0 ?_
  refine sq ?_
  refine .r0 ?_
  refine sq ?_
  refine .r0 ?_
  refine sq ?_
  refine .mv ?_
  apply wpSq_end
  refine hK9 _ _ ?_
  refine wp_seq_k ?_
  intro K10 hK10
  refine rg [0, 1, 2, 3, 4, 5, 6, 7, 8] ?_
  refine sq ?_
  refine .mv ?_
  refine sq ?_
  refine .r0 ?_
  refine sq ?_
  refine .mv ?_
  refine sq ?_
  refine .mv ?_
  refine sq ?_
  refine .mv ?_
  refine sq ?_
  refine .r0 ?_
  refine sq ?_
  refine .r0 ?_
  refine sq ?_
  refine .r0 ?_
  refine sq ?_
  refine .mv ?_
  apply wpSq_end
  refine hK10 _ _ ?_
  refine wp_seq_k ?_
  intro K11 hK11
  refine wp_seq_k ?_
  intro K12 hK12
  refine rg [0, 1, 2, 3, 4, 5] ?_
  refine sq ?_
  refine .mv ?_
  refine sq ?_
  refine .r0 ?_
  refine sq ?_
  refine .mv ?_
  refine sk ?_
  refine sk ?_
  refine sq ?_
  refine .r0 ?_
  apply wpSq_end
  refine hK12 _ _ ?_
  refine ct ?_
  refine wp_seq_k ?_
  intro K13 hK13
  refine rg [0, 1, 2, 3, 4, 5, 6, 7, 8, 9, 10, 11] ?_
  refine sq ?_
  refine .mv ?_
  refine sq ?_
  refine .mv ?_
  refine sq ?_
  refine .mv ?_
  refine sq ?_
  intro K hK
  go_big_op
  go_fit (told_no 9 (by decide) rfl)
  rintro e w_7 ⟨rfl, hb_7⟩
  replace hs := hs.bl hb_7
  refine hK _ _ rfl trivial ?_
  clear hK K
  refine sq ?_
  refine .r0 ?_
  refine sq ?_
  refine .mv ?_
  refine sq ?_
  refine .mv ?_
  refine sq ?_
  refine .mv ?_
  refine sq ?_
  refine .mv ?_
  refine sq ?_
  intro K hK
  go_big_op
  go_fit (told_no 9 (by decide) rfl)
  rintro e w_8 ⟨rfl, hb_8⟩
  replace hs := hs.bl hb_8
  refine hK _ _ rfl trivial ?_
  clear hK K
  refine sq ?_
  refine .r0 ?_
  refine sq ?_
  refine .r0 ?_
  apply wpSq_end
  refine hK13 _ _ ?_
  refine cf ?_
  refine wp_skip ?_
  refine hK11 _ _ ?_
  refine wp_seq_k ?_
  intro K14 hK14
  refine wp_seq_k ?_
  intro K15 hK15
  refine rg [0, 1] ?_
  refine sq ?_
  refine .mv ?_
  refine sq ?_
  refine .r0 ?_
  apply wpSq_end
  refine hK15 _ _ ?_
  refine ct ?_
  refine wp_seq_k ?_
  intro K16 hK16
  refine rg [0, 1, 2, 3, 4] ?_
  refine sq ?_
  refine .mv ?_
  refine sq ?_
  refine .mv ?_
  refine sq ?_
  refine .mv ?_
  refine sq ?_
  intro K hK
  go_big_op
  go_fit (told_no 9 (by decide) rfl)
  rintro e w_9 ⟨rfl, hb_9⟩
  replace hs := hs.bl hb_9
  refine hK _ _ rfl trivial ?_
  clear hK K
  refine sq ?_
  refine .mv ?_
  apply wpSq_end
  refine hK16 _ _ ?_
  refine wp_ret ?_
  try dsimp only [Exit.then, Exit.inBlock]
  refine bodyPost_ret (v := (.bool true)) (by simp [results, Try.results4, go_sem]) rfl ?_
  exact ⟨rfl, hs.b⟩
set_option maxHeartbeats 4000000 in
set_option maxRecDepth 20000 in
theorem rows_ol (ha : MN 1048576 w o A) (hq : PN w vg u l v l) (hn : A.length = n) (hl : l = 1048576) (h : gd A) (hi : i < n) (hj : b < 0) :
    Calls Try.prog 4 #[.slice o n c, .int .i64 (i : Int), .int .i64 b, vg, .int .i64 kt] w fun e w' => e = .returned (.bool true) ∧ Below w.heap.size w w' := by
  obtain ⟨k, hk⟩ : ∃ k, wd A = k := ⟨_, rfl⟩
  have n64 : n ≤ 64 := by have := h.1; omega
  have k64 : k ≤ 64 := by have := h.2.1; omega
  have HB := hide ha.bd
  have HA := hide ha
  have HK := hide hk
  have H := hide h
  have HR := hide (show ∀ (F : Nat → Nat → Int × Int), ∀ r ∈ mkM n k F, r.length ≤ 1000000000 from fun F => mkM_rl k64)
  have s1 : ((0 : Int) ≤ (i : Int)) = True := eq_true (by omega)
  have s2 : ((i : Int) < (n : Int)) = True := eq_true (by omega)
  have s3 : (i < n) = True := eq_true (by omega)
  have r1 : ((0 : Int) ≤ b) = False := eq_false (by omega)
  have HI := hide hi
  have HZ := hide (show ¬ ((0 ≤ (i : Int) ∧ (i : Int) < (n : Int)) ∧ (0 ≤ b ∧ b < (n : Int))) from by omega)
  clear ha hk h
  obtain ⟨n_3a, o_3a, k_3a, c_3a, n_3b, o_3b, k_3b, c_3b, rfl, hq1, hq2⟩ := hq
  go_enter Try.func4, Try.ntmps4
  have hs := St.nil w
  refine wp_seq_k ?_
  intro K1 hK1
  refine rg [0, 1] ?_
  refine sq ?_
  refine .al hs ?_; clear hs; intro p_b1 w_1 hs n1 kb_b1
  refine sq ?_
  refine .mv ?_
  apply wpSq_end
  refine hK1 _ _ ?_
  refine wp_seq_k ?_
  intro K2 hK2
  refine rg [0, 1, 2, 3, 4, 5, 6, 7, 8, 9] ?_
  refine sq ?_
  refine .mv ?_
  refine sq ?_
  refine .mv ?_
  refine sq ?_
  refine .mv ?_
  refine sq ?_
  refine .r4 hs.g0.f4 ?_
  refine sq ?_
  intro K hK
  have hb := hs.b
  have k0_1 := kb n1
  replace hq1 := hq1.k k0_1
  replace hq2 := hq2.k k0_1
  go_big_op
  go_fit (mAddRow_arg (HA.out.bl stab_n hb) (.mk' hq1 hq2) hn H.out (by decide) HZ.out)
  rintro e w_2 ⟨rfl, hb_2⟩
  clear hb
  replace hs := hs.bl hb_2
  refine hK _ _ rfl trivial ?_
  clear hK K
  refine sq ?_
  refine .mv ?_
  refine sq ?_
  refine .r0 ?_
  refine sq ?_
  refine .r0 ?_
  refine sq ?_
  refine .mv ?_
  refine sq ?_
  refine .mv ?_
  apply wpSq_end
  refine hK2 _ _ ?_
  refine wp_seq_k ?_
  intro K3 hK3
  refine rg [0, 1, 2, 3, 4, 5, 6, 7, 8] ?_
  refine sq ?_
  refine .mv ?_
  refine sq ?_
  refine .mv ?_
  refine sq ?_
  refine .mv ?_
  refine sq ?_
  intro K hK
  have hb := hs.b
  go_big_op
  go_fit (mSwap_arg (HA.out.bl stab_n hb) hn H.out (by decide) HZ.out)
  rintro e w_3 ⟨rfl, hb_3⟩
  clear hb
  replace hs := hs.bl hb_3
  refine hK _ _ rfl trivial ?_
  clear hK K
  refine sq ?_
  refine .mv ?_
  refine sq ?_
  refine .r0 ?_
  refine sq ?_
  refine .r0 ?_
  refine sq ?_
  refine .mv ?_
  refine sq ?_
  refine .mv ?_
  apply wpSq_end
  refine hK3 _ _ ?_
  refine wp_seq_k ?_
  intro K4 hK4
  refine rg [0, 1, 2, 3, 4, 5, 6, 7, 8] ?_
  refine sq ?_
  refine .mv ?_
  refine sq ?_
  refine .mv ?_
  refine sq ?_
  refine .mv ?_
  refine sq ?_
  intro K hK
  have hb := hs.b
  go_big_op
  go_fit (mxmc (mTurn_ok (kt := kt) (HA.out.bl stab_n hb) hn H.out HK.out HI.out (by decide)))
  rintro e w_4 ⟨o_Z, c_Z, rfl, m_Z, hb_4⟩
  clear hb
  replace hs := hs.bl hb_4
  refine hK _ _ rfl trivial ?_
  clear hK K
  refine sq ?_
  refine .mv ?_
  refine sq ?_
  refine .r0 ?_
  refine sq ?_
  refine .r0 ?_
  refine sq ?_
  refine .mv ?_
  refine sq ?_
  refine .mv ?_
  apply wpSq_end
  refine hK4 _ _ ?_
  refine wp_seq_k ?_
  intro K5 hK5
  refine wp_seq_k ?_
  intro K6 hK6
  refine rg [0, 1] ?_
  refine sq ?_
  intro K hK
  go_big_op
  go_fit (awake8_any _)
  rintro e w_5 ⟨rfl, hb_5⟩
  replace m_Z := m_Z.bl hb_5; replace hs := hs.bl hb_5
  refine hK _ _ rfl trivial ?_
  clear hK K
  refine sq ?_
  refine .r0 ?_
  apply wpSq_end
  refine hK6 _ _ ?_
  refine cf ?_
  refine wp_skip ?_
  refine hK5 _ _ ?_
  refine wp_seq_k ?_
  intro K7 hK7
  refine wp_seq_k ?_
  intro K8 hK8
  refine rg [0, 1, 2] ?_
  refine sq ?_
  refine .mv ?_
  refine sq ?_
  intro K hK
  have hb := hs.b
  go_big_op
  go_fit (rGood_any (HA.out.bl stab_n hb) hn (by omega))
  rintro e w_6 ⟨rfl, hb_6⟩
  clear hb
  replace m_Z := m_Z.bl hb_6; replace hs := hs.bl hb_6
  rw [decide_eq_true H.out]
  refine hK _ _ rfl trivial ?_
  clear hK K
  refine sq ?_
  refine .r0 ?_
  apply wpSq_end
  refine hK8 _ _ ?_
  refine cf ?_
  refine wp_skip ?_
  refine hK7 _ _ ?_
  refine wp_seq_k ?_
  intro K9 hK9
  refine rg [0, 1, 2, 3, 4, 5, 6, 7, 8] ?_
  refine sq ?_
  refine .mv ?_
  refine sq ?_
  refine .r0 ?_
  refine sq ?_
  refine .mv ?_
  refine sq ?_
  refine .mv ?_
  refine sq ?_
  refine .mv ?_
  refine sq ?_
  refine .r0 ?_
  refine sq ?_
  refine .r0 ?_
  refine sq ?_
  refine .r0 ?_
  refine sq ?_
  refine .mv ?_
  apply wpSq_end
  refine hK9 _ _ ?_
  refine wp_seq_k ?_
  intro K10 hK10
  refine rg [0, 1, 2, 3, 4, 5, 6, 7, 8] ?_
  refine sq ?_
  refine .mv ?_
  refine sq ?_
  refine .r0 ?_
  refine sq ?_
  refine .mv ?_
  refine sk ?_
  refine sk ?_
  refine sk ?_
  refine sk ?_
  refine sq ?_
  refine .r0 ?_
  refine sq ?_
  refine .mv ?_
  apply wpSq_end
  refine hK10 _ _ ?_
  refine wp_seq_k ?_
  intro K11 hK11
  refine wp_seq_k ?_
  intro K12 hK12
  refine rg [0, 1, 2, 3, 4, 5] ?_
  refine sq ?_
  refine .mv ?_
  refine sq ?_
  refine .r0 ?_
  refine sq ?_
  refine .mv ?_
  refine sq ?_
  refine .mv ?_
  refine sq ?_
  refine .r0 ?_
  refine sq ?_
  refine .r0 ?_
  apply wpSq_end
  refine hK12 _ _ ?_
  refine ct ?_
  refine wp_seq_k ?_
  intro K13 hK13
  refine rg [0, 1, 2, 3, 4, 5, 6, 7, 8, 9, 10, 11] ?_
  refine sq ?_
  refine .mv ?_
  refine sq ?_
  refine .mv ?_
  refine sq ?_
  refine .mv ?_
  refine sq ?_
  intro K hK
  go_big_op
  go_fit (told_no 9 (by decide) rfl)
  rintro e w_7 ⟨rfl, hb_7⟩
  replace m_Z := m_Z.bl hb_7; replace hs := hs.bl hb_7
  refine hK _ _ rfl trivial ?_
  clear hK K
  refine sq ?_
  refine .r0 ?_
  refine sq ?_
  refine .mv ?_
  refine sq ?_
  refine .mv ?_
  refine sq ?_
  refine .mv ?_
  refine sq ?_
  refine .mv ?_
  refine sq ?_
  intro K hK
  go_big_op
  go_fit (told_no 9 (by decide) rfl)
  rintro e w_8 ⟨rfl, hb_8⟩
  replace m_Z := m_Z.bl hb_8; replace hs := hs.bl hb_8
  refine hK _ _ rfl trivial ?_
  clear hK K
  refine sq ?_
  refine .r0 ?_
  refine sq ?_
  refine .r0 ?_
  apply wpSq_end
  refine hK13 _ _ ?_
  refine cf ?_
  refine wp_skip ?_
  refine hK11 _ _ ?_
  refine wp_seq_k ?_
  intro K14 hK14
  refine wp_seq_k ?_
  intro K15 hK15
  refine rg [0, 1] ?_
  refine sq ?_
  refine .mv ?_
  refine sq ?_
  refine .r0 ?_
  apply wpSq_end
  refine hK15 _ _ ?_
  have hb := hs.b
  replace HA := hide (HA.out.bl stab_n hb)
  have MZ := hide m_Z
  clear hb
  clear m_Z
  have x_b1 := hs.g0
  have hBB := hs.b
  clear hs
  obtain ⟨wb1, e_wb1⟩ : ∃ x, x = w_8 := ⟨_, rfl⟩; subst e_wb1
  have hs := St.nil wb1
  have z_b1 := x_b1
  have lt_b1 := x_b1.lt
  refine cf ?_
  refine wp_skip ?_
  refine hK14 _ _ ?_
  refine wp_seq_k ?_
  intro K16 hK16
  refine rg [0, 1, 2] ?_
  refine sq ?_
  refine .mv ?_
  refine sq ?_
  intro K hK
  have hb := hs.b
  go_big_op
  go_fit (rCopy_own (HA.out.bl stab_n hb) hn H.out HK.out (by decide) (by omega))
  rintro e w_9 ⟨g_W, c_W, rs_W, rfl, hl_W, hs_W, d_W, hb_9⟩
  clear hb
  replace hs := hs.mx hl_W hs_W; simp only [List.nil_append] at hs
  refine hK _ _ rfl trivial ?_
  clear hK K
  refine sq ?_
  refine .mv ?_
  apply wpSq_end
  refine hK16 _ _ ?_
  refine wp_seq_k ?_
  intro K17 hK17
  refine wp_seq_k ?_
  intro K18 hK18
  refine rg [0] ?_
  refine sq ?_
  refine .mv ?_
  apply wpSq_end
  refine hK18 _ _ ?_
  refine wp_block ?_
  have hd10 := hs.2.1
  go_loopg [22] k (fun kk s22 wr => ∃ (q : Nat) (rs : List Rw), s22 = .int .i64 (q : Int) ∧ q + kk = k ∧ rs.length = n ∧ RD wr rs (mkM n k (pr (at2 A) i q fun q => turn (kt % 4).toNat (at2 A i q))) ∧ St wb1 (ls wb1.heap.size 39 1 (.slice (some ⟨g_W, 0, none⟩) n c_W) n (rs.map (·.v)) :: ([] ++ rs.map (Rw.e wb1.heap.size))) wr)
  case atStart => exact ⟨0, rs_W, rfl, by omega, hl_W, by rw [← pr_0]; exact d_W, hs⟩
  case round =>
  clear d_W hq1 hq2 x_b1 hs
  obtain ⟨q, rs, rfl, hqk, hrl, hd, hs⟩ := hrel
  by_cases hqk2 : q < k
  · have HQ := hide hqk2
    obtain ⟨r1, gr, cr, xs, r2, rfl, hr1, hrv, hx, hs⟩ := hs.row (bs := []) hd (p := i) (K := k) (by rw [len_mkM]; exact HI.out) (by rw [mkM_row HI.out]; simp) (by omega)
    have LO : Lst wr wb1.heap.size 39 1 (.slice (some ⟨g_W, 0, none⟩) n c_W) n _ := hs.1.2.1.1
    obtain ⟨gO', curO, eO', xO, hcO⟩ := LO.box (by omega)
    simp only [Option.some.injEq, Addr.mk.injEq, and_true] at eO'
    obtain rfl : g_W = gO' := eO'
    have eO := hcO _ _ hrv
    have LR : Lst wr wb1.heap.size 41 4 (.slice (some ⟨gr, 0, none⟩) k cr) k xs := hs.1.1.1
    obtain ⟨gr', curR, eR, xR, hcR⟩ := LR.box (by omega)
    simp only [Option.some.injEq, Addr.mk.injEq, and_true] at eR
    obtain rfl : gr = gr' := eR
    have hx2 := hx
    rw [mkM_row HI.out] at hx2
    obtain ⟨a1, a2, a3, a4, a5, a6, a7, a8, e1, e2, e3, e4, z1, z2⟩ := hx2.els q (by simpa using hqk2)
    rw [show ((List.range k).map (pr (at2 A) i q (fun q => turn (kt % 4).toNat (at2 A i q)) i))[q]'(by simpa using hqk2) = at2 A i q by simp [pr_here]] at z1 z2
    have LB := hide (at2_bd (i := i) (j := q) HB.out)
    replace z1 := z1.zn LB.out.1
    replace z2 := z2.zn LB.out.2
    replace e1 := hcR _ _ e1
    replace e2 := hcR _ _ e2
    replace e3 := hcR _ _ e3
    replace e4 := hcR _ _ e4
    clear LO hcO hrv LR hcR hx2
    have HGq := hide (show at2 A i q = at2 A i q from rfl)
    refine wp_seq_k ?_
    intro K19 hK19
    refine wp_seq_k ?_
    intro K20 hK20
    refine rg [0, 1, 2, 3, 4, 5, 6] ?_
    refine sq ?_
    refine .mv ?_
    refine sq ?_
    refine .mv ?_
    refine sq ?_
    refine .mv ?_
    refine sq ?_
    refine .r0 ?_
    refine sq ?_
    refine .r1 (xO.cell _ eO) ?_
    refine sq ?_
    refine .r0 ?_
    refine sq ?_
    refine .r0 ?_
    apply wpSq_end
    refine hK20 _ _ ?_
    refine ct ?_
    refine wp_skip ?_
    refine hK19 _ _ ?_
    refine wp_seq_k ?_
    intro K21 hK21
    refine wp_block ?_
    refine wp_region_f4 [(0, false), (1, false), (2, false), (3, false), (4, false), (5, false), (6, false), (7, false), (8, false), (9, false), (10, false), (11, false), (12, false), (13, true), (14, false)] [15] [] (fun _ => default) [99, 99, 99, 0, 99, 99, 99, 99, 0, 99, 99, 1, 99, 99, 99, 99] [(15, 1)] (.c xO (.c xR .n)) fn fun w_11 n11 => ?_
    replace xR := xR.bl n11; replace xO := xO.bl n11; replace hs := hs.bl n11
    refine fmv ?_
    refine fmv ?_
    refine f0 ?_
    apply wpFl_ld rfl rfl; (case h1 => intro w' hC K hK; have c0 := Bs.cell hC (i) eO; go_big_op; exact hK); iterate 4 kernel_rfl
    refine fmv ?_
    refine fmv ?_
    refine fmv ?_
    refine f0 ?_
    apply wpFl_ld rfl rfl; (case h1 => intro w' hC K hK; have c0 := Bs.cell hC (i) eO; go_big_op; exact hK); iterate 4 kernel_rfl
    refine fmv ?_
    refine f0 ?_
    apply wpFl_ld rfl rfl; (case h1 => intro w' hC K hK; have c0 := Bs.cell hC ((q * 4)) e1; have c1 := Bs.cell hC ((q * 4) + 1) e2; have c2 := Bs.cell hC ((q * 4) + 2) e3; have c3 := Bs.cell hC ((q * 4) + 3) e4; go_big_op; exact hK); iterate 4 kernel_rfl
    refine fmv ?_
    refine fl fun w_12 n12 => ?_
    replace xR := xR.bl n12; replace xO := xO.bl n12; replace hs := hs.bl n12
    intro K hK
    have k0_2 := (kb n11).b n12
    replace z1 := z1.k k0_2
    replace z2 := z2.k k0_2
    go_big_op
    go_fit (rgTurn_any kt (.mk' z1 z2) (by decide) (by decide))
    rintro e w_13 ⟨_, rfl, ⟨n_ta, o_ta, k_ta, c_ta, n_tb, o_tb, k_tb, c_tb, rfl, t1, t2⟩, hb_13⟩
    replace xR := xR.bl hb_13; replace xO := xO.bl hb_13; replace hs := hs.bl hb_13
    refine hK _ _ rfl ⟨hb_13, (And.intro xO (And.intro xR trivial))⟩ ?_
    clear hK K
    refine f0 ?_
    refine e0 hs ?_; clear hs; intro w_14 hs n14
    replace xR := xR.bl n14; replace xO := xO.bl n14
    refine tl ?_
    refine .i4 0 hs (j := q) (by omega) ?_ (e := fun _ hB hO => (And.intro (xO.frame hO (hs.ne 1 0)) (And.intro True.intro True.intro))); clear hs; intro w_15 hs kp15 hd15 ho15 hw15; simp only [List.set_cons_zero] at hs
    clear xR
    clear xO
    apply wpTail_end
    refine hK21 _ _ ?_
    refine rg [0, 1, 2] ?_
    refine sq ?_
    refine .mv ?_
    refine sq ?_
    refine .r0 ?_
    refine sq ?_
    refine .mv ?_
    apply wpSq_end
    have k0_5 := ((k0_2.b hb_13).b n14).t kp15
    replace hd := hd.k k0_5
    replace hx := hx.k k0_5
    have k3_5 := (kb n14).t kp15
    replace t1 := t1.k k3_5
    replace t2 := t2.k k3_5
    refine ‹∀ (a' : Act) (w' : World), Handed _ _ a' w' → _› _ _ ?_
    go_roundg (gk - 1)
    case rel => exact ⟨q + 1, _, by rfl, by omega, by simpa using hrl, by rw [← pr_step]; exact hd.upd hr1 HI.out HQ.out hx t1 t2, hs.unrow (bs := [])⟩
    case measure => omega
  · obtain rfl : k = q := by omega
    have HX := hide hqk2
    obtain ⟨oi3, ci3, hrv⟩ := hs.rowv (bs := []) hd (p := i) (K := k) (by rw [len_mkM]; exact HI.out) (by rw [mkM_row HI.out]; simp)
    have LO : Lst wr wb1.heap.size 39 1 (.slice (some ⟨g_W, 0, none⟩) n c_W) n _ := hs.1.1.1
    obtain ⟨gO', curO, eO', xO, hcO⟩ := LO.box (by omega)
    simp only [Option.some.injEq, Addr.mk.injEq, and_true] at eO'
    obtain rfl : g_W = gO' := eO'
    have eO := hcO _ _ hrv
    clear LO hcO hrv
    have mW := MCin (bs := ([] ++ rs.map (Rw.e wb1.heap.size))) hs rfl (fun r hr => List.mem_map_of_mem hr) hrl hd
    rw [pr_end] at mW
    have MW := hide mW
    clear mW
    refine wp_seq_k ?_
    intro K19 hK19
    refine wp_seq_k ?_
    intro K20 hK20
    refine rg [0, 1, 2, 3, 4, 5, 6] ?_
    refine sq ?_
    refine .mv ?_
    refine sq ?_
    refine .mv ?_
    refine sq ?_
    refine .mv ?_
    refine sq ?_
    refine .r0 ?_
    refine sq ?_
    refine .r1 (xO.cell _ eO) ?_
    refine sq ?_
    refine .r0 ?_
    refine sq ?_
    refine .r0 ?_
    apply wpSq_end
    refine hK20 _ _ ?_
    refine cf ?_
    refine wp_exit ?_
    refine hK17 _ _ ?_
    refine wp_seq_k ?_
    intro K21 hK21
    refine rg [0, 1, 2, 3, 4] ?_
    refine sq ?_
    refine .mv ?_
    refine sq ?_
    refine .mv ?_
    refine sq ?_
    refine .mv ?_
    refine sq ?_
    intro K hK
    have hb := hs.b
    go_big_op
    go_fit (told_yes (MZ.out.bl hb) (MW.out.mn (bd_tuM HB.out)) len_mkM (by omega) (HR.out _) (by decide))
    rintro e w_11 ⟨rfl, hb_11⟩
    clear hb
    replace xO := xO.bl hb_11; replace hs := hs.bl hb_11
    refine hK _ _ rfl trivial ?_
    clear hK K
    refine sq ?_
    refine .mv ?_
    apply wpSq_end
    refine hK21 _ _ ?_
    refine wp_ret ?_
    try dsimp only [Exit.then, Exit.inBlock]
    refine bodyPost_ret (v := (.bool true)) (by simp [results, Try.results4, go_sem]) rfl ?_
    exact ⟨rfl, hBB.trans (hs.b.mono hBB.size)⟩
set_option maxHeartbeats 4000000 in
set_option maxRecDepth 20000 in
theorem rows_oh (ha : MN 1048576 w o A) (hq : PN w vg u l v l) (hn : A.length = n) (hl : l = 1048576) (h : gd A) (hi : i < n) (hj : (n : Int) ≤ b) :
    Calls Try.prog 4 #[.slice o n c, .int .i64 (i : Int), .int .i64 b, vg, .int .i64 kt] w fun e w' => e = .returned (.bool true) ∧ Below w.heap.size w w' := by
  obtain ⟨k, hk⟩ : ∃ k, wd A = k := ⟨_, rfl⟩
  have n64 : n ≤ 64 := by have := h.1; omega
  have k64 : k ≤ 64 := by have := h.2.1; omega
  have HB := hide ha.bd
  have HA := hide ha
  have HK := hide hk
  have H := hide h
  have HR := hide (show ∀ (F : Nat → Nat → Int × Int), ∀ r ∈ mkM n k F, r.length ≤ 1000000000 from fun F => mkM_rl k64)
  have s1 : ((0 : Int) ≤ (i : Int)) = True := eq_true (by omega)
  have s2 : ((i : Int) < (n : Int)) = True := eq_true (by omega)
  have s3 : (i < n) = True := eq_true (by omega)
  have r1 : ((0 : Int) ≤ b) = True := eq_true (by omega)
  have r2 : (b < (n : Int)) = False := eq_false (by omega)
  have HI := hide hi
  have HZ := hide (show ¬ ((0 ≤ (i : Int) ∧ (i : Int) < (n : Int)) ∧ (0 ≤ b ∧ b < (n : Int))) from by omega)
  clear ha hk h
  obtain ⟨n_3a, o_3a, k_3a, c_3a, n_3b, o_3b, k_3b, c_3b, rfl, hq1, hq2⟩ := hq
  go_enter Try.func4, Try.ntmps4
  have hs := St.nil w
  refine wp_seq_k ?_
  intro K1 hK1
  refine rg [0, 1] ?_
  refine sq ?_
  refine .al hs ?_; clear hs; intro p_b1 w_1 hs n1 kb_b1
  refine sq ?_
  refine .mv ?_
  apply wpSq_end
  refine hK1 _ _ ?_
  refine wp_seq_k ?_
  intro K2 hK2
  refine rg [0, 1, 2, 3, 4, 5, 6, 7, 8, 9] ?_
  refine sq ?_
  refine .mv ?_
  refine sq ?_
  refine .mv ?_
  refine sq ?_
  refine .mv ?_
  refine sq ?_
  refine .r4 hs.g0.f4 ?_
  refine sq ?_
  intro K hK
  have hb := hs.b
  have k0_1 := kb n1
  replace hq1 := hq1.k k0_1
  replace hq2 := hq2.k k0_1
  go_big_op
  go_fit (mAddRow_arg (HA.out.bl stab_n hb) (.mk' hq1 hq2) hn H.out (by decide) HZ.out)
  rintro e w_2 ⟨rfl, hb_2⟩
  clear hb
  replace hs := hs.bl hb_2
  refine hK _ _ rfl trivial ?_
  clear hK K
  refine sq ?_
  refine .mv ?_
  refine sq ?_
  refine .r0 ?_
  refine sq ?_
  refine .r0 ?_
  refine sq ?_
  refine .mv ?_
  refine sq ?_
  refine .mv ?_
  apply wpSq_end
  refine hK2 _ _ ?_
  refine wp_seq_k ?_
  intro K3 hK3
  refine rg [0, 1, 2, 3, 4, 5, 6, 7, 8] ?_
  refine sq ?_
  refine .mv ?_
  refine sq ?_
  refine .mv ?_
  refine sq ?_
  refine .mv ?_
  refine sq ?_
  intro K hK
  have hb := hs.b
  go_big_op
  go_fit (mSwap_arg (HA.out.bl stab_n hb) hn H.out (by decide) HZ.out)
  rintro e w_3 ⟨rfl, hb_3⟩
  clear hb
  replace hs := hs.bl hb_3
  refine hK _ _ rfl trivial ?_
  clear hK K
  refine sq ?_
  refine .mv ?_
  refine sq ?_
  refine .r0 ?_
  refine sq ?_
  refine .r0 ?_
  refine sq ?_
  refine .mv ?_
  refine sq ?_
  refine .mv ?_
  apply wpSq_end
  refine hK3 _ _ ?_
  refine wp_seq_k ?_
  intro K4 hK4
  refine rg [0, 1, 2, 3, 4, 5, 6, 7, 8] ?_
  refine sq ?_
  refine .mv ?_
  refine sq ?_
  refine .mv ?_
  refine sq ?_
  refine .mv ?_
  refine sq ?_
  intro K hK
  have hb := hs.b
  go_big_op
  go_fit (mxmc (mTurn_ok (kt := kt) (HA.out.bl stab_n hb) hn H.out HK.out HI.out (by decide)))
  rintro e w_4 ⟨o_Z, c_Z, rfl, m_Z, hb_4⟩
  clear hb
  replace hs := hs.bl hb_4
  refine hK _ _ rfl trivial ?_
  clear hK K
  refine sq ?_
  refine .mv ?_
  refine sq ?_
  refine .r0 ?_
  refine sq ?_
  refine .r0 ?_
  refine sq ?_
  refine .mv ?_
  refine sq ?_
  refine .mv ?_
  apply wpSq_end
  refine hK4 _ _ ?_
  refine wp_seq_k ?_
  intro K5 hK5
  refine wp_seq_k ?_
  intro K6 hK6
  refine rg [0, 1] ?_
  refine sq ?_
  intro K hK
  go_big_op
  go_fit (awake8_any _)
  rintro e w_5 ⟨rfl, hb_5⟩
  replace m_Z := m_Z.bl hb_5; replace hs := hs.bl hb_5
  refine hK _ _ rfl trivial ?_
  clear hK K
  refine sq ?_
  refine .r0 ?_
  apply wpSq_end
  refine hK6 _ _ ?_
  refine cf ?_
  refine wp_skip ?_
  refine hK5 _ _ ?_
  refine wp_seq_k ?_
  intro K7 hK7
  refine wp_seq_k ?_
  intro K8 hK8
  refine rg [0, 1, 2] ?_
  refine sq ?_
  refine .mv ?_
  refine sq ?_
  intro K hK
  have hb := hs.b
  go_big_op
  go_fit (rGood_any (HA.out.bl stab_n hb) hn (by omega))
  rintro e w_6 ⟨rfl, hb_6⟩
  clear hb
  replace m_Z := m_Z.bl hb_6; replace hs := hs.bl hb_6
  rw [decide_eq_true H.out]
  refine hK _ _ rfl trivial ?_
  clear hK K
  refine sq ?_
  refine .r0 ?_
  apply wpSq_end
  refine hK8 _ _ ?_
  refine cf ?_
  refine wp_skip ?_
  refine hK7 _ _ ?_
  refine wp_seq_k ?_
  intro K9 hK9
  refine rg [0, 1, 2, 3, 4, 5, 6, 7, 8] ?_
  refine sq ?_
  refine .mv ?_
  refine sq ?_
  refine .r0 ?_
  refine sq ?_
  refine .mv ?_
  refine sq ?_
  refine .mv ?_
  refine sq ?_
  refine .mv ?_
  refine sq ?_
  refine .r0 ?_
  refine sq ?_
  refine .r0 ?_
  refine sq ?_
  refine .r0 ?_
  refine sq ?_
  refine .mv ?_
  apply wpSq_end
  refine hK9 _ _ ?_
  refine wp_seq_k ?_
  intro K10 hK10
  refine rg [0, 1, 2, 3, 4, 5, 6, 7, 8] ?_
  refine sq ?_
  refine .mv ?_
  refine sq ?_
  refine .r0 ?_
  refine sq ?_
  refine .mv ?_
  refine sq ?_
  refine .mv ?_
  refine sq ?_
  refine .mv ?_
  refine sq ?_
  refine .r0 ?_
  refine sq ?_
  refine .r0 ?_
  refine sq ?_
  refine .r0 ?_
  refine sq ?_
  refine .mv ?_
  apply wpSq_end
  refine hK10 _ _ ?_
  refine wp_seq_k ?_
  intro K11 hK11
  refine wp_seq_k ?_
  intro K12 hK12
  refine rg [0, 1, 2, 3, 4, 5] ?_
  refine sq ?_
  refine .mv ?_
  refine sq ?_
  refine .r0 ?_
  refine sq ?_
  refine .mv ?_
  refine sq ?_
  refine .mv ?_
  refine sq ?_
  refine .r0 ?_
  refine sq ?_
  refine .r0 ?_
  apply wpSq_end
  refine hK12 _ _ ?_
  refine ct ?_
  refine wp_seq_k ?_
  intro K13 hK13
  refine rg [0, 1, 2, 3, 4, 5, 6, 7, 8, 9, 10, 11] ?_
  refine sq ?_
  refine .mv ?_
  refine sq ?_
  refine .mv ?_
  refine sq ?_
  refine .mv ?_
  refine sq ?_
  intro K hK
  go_big_op
  go_fit (told_no 9 (by decide) rfl)
  rintro e w_7 ⟨rfl, hb_7⟩
  replace m_Z := m_Z.bl hb_7; replace hs := hs.bl hb_7
  refine hK _ _ rfl trivial ?_
  clear hK K
  refine sq ?_
  refine .r0 ?_
  refine sq ?_
  refine .mv ?_
  refine sq ?_
  refine .mv ?_
  refine sq ?_
  refine .mv ?_
  refine sq ?_
  refine .mv ?_
  refine sq ?_
  intro K hK
  go_big_op
  go_fit (told_no 9 (by decide) rfl)
  rintro e w_8 ⟨rfl, hb_8⟩
  replace m_Z := m_Z.bl hb_8; replace hs := hs.bl hb_8
  refine hK _ _ rfl trivial ?_
  clear hK K
  refine sq ?_
  refine .r0 ?_
  refine sq ?_
  refine .r0 ?_
  apply wpSq_end
  refine hK13 _ _ ?_
  refine cf ?_
  refine wp_skip ?_
  refine hK11 _ _ ?_
  refine wp_seq_k ?_
  intro K14 hK14
  refine wp_seq_k ?_
  intro K15 hK15
  refine rg [0, 1] ?_
  refine sq ?_
  refine .mv ?_
  refine sq ?_
  refine .r0 ?_
  apply wpSq_end
  refine hK15 _ _ ?_
  have hb := hs.b
  replace HA := hide (HA.out.bl stab_n hb)
  have MZ := hide m_Z
  clear hb
  clear m_Z
  have x_b1 := hs.g0
  have hBB := hs.b
  clear hs
  obtain ⟨wb1, e_wb1⟩ : ∃ x, x = w_8 := ⟨_, rfl⟩; subst e_wb1
  have hs := St.nil wb1
  have z_b1 := x_b1
  have lt_b1 := x_b1.lt
  refine cf ?_
  refine wp_skip ?_
  refine hK14 _ _ ?_
  refine wp_seq_k ?_
  intro K16 hK16
  refine rg [0, 1, 2] ?_
  refine sq ?_
  refine .mv ?_
  refine sq ?_
  intro K hK
  have hb := hs.b
  go_big_op
  go_fit (rCopy_own (HA.out.bl stab_n hb) hn H.out HK.out (by decide) (by omega))
  rintro e w_9 ⟨g_W, c_W, rs_W, rfl, hl_W, hs_W, d_W, hb_9⟩
  clear hb
  replace hs := hs.mx hl_W hs_W; simp only [List.nil_append] at hs
  refine hK _ _ rfl trivial ?_
  clear hK K
  refine sq ?_
  refine .mv ?_
  apply wpSq_end
  refine hK16 _ _ ?_
  refine wp_seq_k ?_
  intro K17 hK17
  refine wp_seq_k ?_
  intro K18 hK18
  refine rg [0] ?_
  refine sq ?_
  refine .mv ?_
  apply wpSq_end
  refine hK18 _ _ ?_
  refine wp_block ?_
  have hd10 := hs.2.1
  go_loopg [22] k (fun kk s22 wr => ∃ (q : Nat) (rs : List Rw), s22 = .int .i64 (q : Int) ∧ q + kk = k ∧ rs.length = n ∧ RD wr rs (mkM n k (pr (at2 A) i q fun q => turn (kt % 4).toNat (at2 A i q))) ∧ St wb1 (ls wb1.heap.size 39 1 (.slice (some ⟨g_W, 0, none⟩) n c_W) n (rs.map (·.v)) :: ([] ++ rs.map (Rw.e wb1.heap.size))) wr)
  case atStart => exact ⟨0, rs_W, rfl, by omega, hl_W, by rw [← pr_0]; exact d_W, hs⟩
  case round =>
  clear d_W hq1 hq2 x_b1 hs
  obtain ⟨q, rs, rfl, hqk, hrl, hd, hs⟩ := hrel
  by_cases hqk2 : q < k
  · have HQ := hide hqk2
    obtain ⟨r1, gr, cr, xs, r2, rfl, hr1, hrv, hx, hs⟩ := hs.row (bs := []) hd (p := i) (K := k) (by rw [len_mkM]; exact HI.out) (by rw [mkM_row HI.out]; simp) (by omega)
    have LO : Lst wr wb1.heap.size 39 1 (.slice (some ⟨g_W, 0, none⟩) n c_W) n _ := hs.1.2.1.1
    obtain ⟨gO', curO, eO', xO, hcO⟩ := LO.box (by omega)
    simp only [Option.some.injEq, Addr.mk.injEq, and_true] at eO'
    obtain rfl : g_W = gO' := eO'
    have eO := hcO _ _ hrv
    have LR : Lst wr wb1.heap.size 41 4 (.slice (some ⟨gr, 0, none⟩) k cr) k xs := hs.1.1.1
    obtain ⟨gr', curR, eR, xR, hcR⟩ := LR.box (by omega)
    simp only [Option.some.injEq, Addr.mk.injEq, and_true] at eR
    obtain rfl : gr = gr' := eR
    have hx2 := hx
    rw [mkM_row HI.out] at hx2
    obtain ⟨a1, a2, a3, a4, a5, a6, a7, a8, e1, e2, e3, e4, z1, z2⟩ := hx2.els q (by simpa using hqk2)
    rw [show ((List.range k).map (pr (at2 A) i q (fun q => turn (kt % 4).toNat (at2 A i q)) i))[q]'(by simpa using hqk2) = at2 A i q by simp [pr_here]] at z1 z2
    have LB := hide (at2_bd (i := i) (j := q) HB.out)
    replace z1 := z1.zn LB.out.1
    replace z2 := z2.zn LB.out.2
    replace e1 := hcR _ _ e1
    replace e2 := hcR _ _ e2
    replace e3 := hcR _ _ e3
    replace e4 := hcR _ _ e4
    clear LO hcO hrv LR hcR hx2
    have HGq := hide (show at2 A i q = at2 A i q from rfl)
    refine wp_seq_k ?_
    intro K19 hK19
    refine wp_seq_k ?_
    intro K20 hK20
    refine rg [0, 1, 2, 3, 4, 5, 6] ?_
    refine sq ?_
    refine .mv ?_
    refine sq ?_
    refine .mv ?_
    refine sq ?_
    refine .mv ?_
    refine sq ?_
    refine .r0 ?_
    refine sq ?_
    refine .r1 (xO.cell _ eO) ?_
    refine sq ?_
    refine .r0 ?_
    refine sq ?_
    refine .r0 ?_
    apply wpSq_end
    refine hK20 _ _ ?_
    refine ct ?_
    refine wp_skip ?_
    refine hK19 _ _ ?_
    refine wp_seq_k ?_
    intro K21 hK21
    refine wp_block ?_
    refine wp_region_f4 [(0, false), (1, false), (2, false), (3, false), (4, false), (5, false), (6, false), (7, false), (8, false), (9, false), (10, false), (11, false), (12, false), (13, true), (14, false)] [15] [] (fun _ => default) [99, 99, 99, 0, 99, 99, 99, 99, 0, 99, 99, 1, 99, 99, 99, 99] [(15, 1)] (.c xO (.c xR .n)) fn fun w_11 n11 => ?_
    replace xR := xR.bl n11; replace xO := xO.bl n11; replace hs := hs.bl n11
    refine fmv ?_
    refine fmv ?_
    refine f0 ?_
    apply wpFl_ld rfl rfl; (case h1 => intro w' hC K hK; have c0 := Bs.cell hC (i) eO; go_big_op; exact hK); iterate 4 kernel_rfl
    refine fmv ?_
    refine fmv ?_
    refine fmv ?_
    refine f0 ?_
    apply wpFl_ld rfl rfl; (case h1 => intro w' hC K hK; have c0 := Bs.cell hC (i) eO; go_big_op; exact hK); iterate 4 kernel_rfl
    refine fmv ?_
    refine f0 ?_
    apply wpFl_ld rfl rfl; (case h1 => intro w' hC K hK; have c0 := Bs.cell hC ((q * 4)) e1; have c1 := Bs.cell hC ((q * 4) + 1) e2; have c2 := Bs.cell hC ((q * 4) + 2) e3; have c3 := Bs.cell hC ((q * 4) + 3) e4; go_big_op; exact hK); iterate 4 kernel_rfl
    refine fmv ?_
    refine fl fun w_12 n12 => ?_
    replace xR := xR.bl n12; replace xO := xO.bl n12; replace hs := hs.bl n12
    intro K hK
    have k0_2 := (kb n11).b n12
    replace z1 := z1.k k0_2
    replace z2 := z2.k k0_2
    go_big_op
    go_fit (rgTurn_any kt (.mk' z1 z2) (by decide) (by decide))
    rintro e w_13 ⟨_, rfl, ⟨n_ta, o_ta, k_ta, c_ta, n_tb, o_tb, k_tb, c_tb, rfl, t1, t2⟩, hb_13⟩
    replace xR := xR.bl hb_13; replace xO := xO.bl hb_13; replace hs := hs.bl hb_13
    refine hK _ _ rfl ⟨hb_13, (And.intro xO (And.intro xR trivial))⟩ ?_
    clear hK K
    refine f0 ?_
    refine e0 hs ?_; clear hs; intro w_14 hs n14
    replace xR := xR.bl n14; replace xO := xO.bl n14
    refine tl ?_
    refine .i4 0 hs (j := q) (by omega) ?_ (e := fun _ hB hO => (And.intro (xO.frame hO (hs.ne 1 0)) (And.intro True.intro True.intro))); clear hs; intro w_15 hs kp15 hd15 ho15 hw15; simp only [List.set_cons_zero] at hs
    clear xR
    clear xO
    apply wpTail_end
    refine hK21 _ _ ?_
    refine rg [0, 1, 2] ?_
    refine sq ?_
    refine .mv ?_
    refine sq ?_
    refine .r0 ?_
    refine sq ?_
    refine .mv ?_
    apply wpSq_end
    have k0_5 := ((k0_2.b hb_13).b n14).t kp15
    replace hd := hd.k k0_5
    replace hx := hx.k k0_5
    have k3_5 := (kb n14).t kp15
    replace t1 := t1.k k3_5
    replace t2 := t2.k k3_5
    refine ‹∀ (a' : Act) (w' : World), Handed _ _ a' w' → _› _ _ ?_
    go_roundg (gk - 1)
    case rel => exact ⟨q + 1, _, by rfl, by omega, by simpa using hrl, by rw [← pr_step]; exact hd.upd hr1 HI.out HQ.out hx t1 t2, hs.unrow (bs := [])⟩
    case measure => omega
  · obtain rfl : k = q := by omega
    have HX := hide hqk2
    obtain ⟨oi3, ci3, hrv⟩ := hs.rowv (bs := []) hd (p := i) (K := k) (by rw [len_mkM]; exact HI.out) (by rw [mkM_row HI.out]; simp)
    have LO : Lst wr wb1.heap.size 39 1 (.slice (some ⟨g_W, 0, none⟩) n c_W) n _ := hs.1.1.1
    obtain ⟨gO', curO, eO', xO, hcO⟩ := LO.box (by omega)
    simp only [Option.some.injEq, Addr.mk.injEq, and_true] at eO'
    obtain rfl : g_W = gO' := eO'
    have eO := hcO _ _ hrv
    clear LO hcO hrv
    have mW := MCin (bs := ([] ++ rs.map (Rw.e wb1.heap.size))) hs rfl (fun r hr => List.mem_map_of_mem hr) hrl hd
    rw [pr_end] at mW
    have MW := hide mW
    clear mW
    refine wp_seq_k ?_
    intro K19 hK19
    refine wp_seq_k ?_
    intro K20 hK20
    refine rg [0, 1, 2, 3, 4, 5, 6] ?_
    refine sq ?_
    refine .mv ?_
    refine sq ?_
    refine .mv ?_
    refine sq ?_
    refine .mv ?_
    refine sq ?_
    refine .r0 ?_
    refine sq ?_
    refine .r1 (xO.cell _ eO) ?_
    refine sq ?_
    refine .r0 ?_
    refine sq ?_
    refine .r0 ?_
    apply wpSq_end
    refine hK20 _ _ ?_
    refine cf ?_
    refine wp_exit ?_
    refine hK17 _ _ ?_
    refine wp_seq_k ?_
    intro K21 hK21
    refine rg [0, 1, 2, 3, 4] ?_
    refine sq ?_
    refine .mv ?_
    refine sq ?_
    refine .mv ?_
    refine sq ?_
    refine .mv ?_
    refine sq ?_
    intro K hK
    have hb := hs.b
    go_big_op
    go_fit (told_yes (MZ.out.bl hb) (MW.out.mn (bd_tuM HB.out)) len_mkM (by omega) (HR.out _) (by decide))
    rintro e w_11 ⟨rfl, hb_11⟩
    clear hb
    replace xO := xO.bl hb_11; replace hs := hs.bl hb_11
    refine hK _ _ rfl trivial ?_
    clear hK K
    refine sq ?_
    refine .mv ?_
    apply wpSq_end
    refine hK21 _ _ ?_
    refine wp_ret ?_
    try dsimp only [Exit.then, Exit.inBlock]
    refine bodyPost_ret (v := (.bool true)) (by simp [results, Try.results4, go_sem]) rfl ?_
    exact ⟨rfl, hBB.trans (hs.b.mono hBB.size)⟩
set_option maxHeartbeats 4000000 in
set_option maxRecDepth 20000 in
theorem rows_os (ha : MN 1048576 w o A) (hq : PN w vg u l v l) (hn : A.length = n) (hl : l = 1048576) (h : gd A) (hi : i < n) :
    Calls Try.prog 4 #[.slice o n c, .int .i64 (i : Int), .int .i64 (i : Int), vg, .int .i64 kt] w fun e w' => e = .returned (.bool true) ∧ Below w.heap.size w w' := by
  obtain ⟨k, hk⟩ : ∃ k, wd A = k := ⟨_, rfl⟩
  have n64 : n ≤ 64 := by have := h.1; omega
  have k64 : k ≤ 64 := by have := h.2.1; omega
  have HB := hide ha.bd
  have HA := hide ha
  have HK := hide hk
  have H := hide h
  have HR := hide (show ∀ (F : Nat → Nat → Int × Int), ∀ r ∈ mkM n k F, r.length ≤ 1000000000 from fun F => mkM_rl k64)
  have s1 : ((0 : Int) ≤ (i : Int)) = True := eq_true (by omega)
  have s2 : ((i : Int) < (n : Int)) = True := eq_true (by omega)
  have s3 : (i < n) = True := eq_true (by omega)
  have HI := hide hi
  have t1 : ((i : Int) == (i : Int)) = true := beq_self_eq_true _
  clear ha hk h
  obtain ⟨n_3a, o_3a, k_3a, c_3a, n_3b, o_3b, k_3b, c_3b, rfl, hq1, hq2⟩ := hq
  go_enter Try.func4, Try.ntmps4
  have hs := St.nil w
  refine wp_seq_k ?_
  intro K1 hK1
  refine rg [0, 1] ?_
  refine sq ?_
  refine .al hs ?_; clear hs; intro p_b1 w_1 hs n1 kb_b1
  refine sq ?_
  refine .mv ?_
  apply wpSq_end
  refine hK1 _ _ ?_
  refine wp_seq_k ?_
  intro K2 hK2
  refine rg [0, 1, 2, 3, 4, 5, 6, 7, 8, 9] ?_
  refine sq ?_
  refine .mv ?_
  refine sq ?_
  refine .mv ?_
  refine sq ?_
  refine .mv ?_
  refine sq ?_
  refine .r4 hs.g0.f4 ?_
  refine sq ?_
  intro K hK
  have hb := hs.b
  have k0_1 := kb n1
  replace hq1 := hq1.k k0_1
  replace hq2 := hq2.k k0_1
  go_big_op
  go_fit (mAddRow_same (HA.out.bl stab_n hb) (.mk' hq1 hq2) hn H.out HK.out HI.out (by decide))
  rintro e w_2 ⟨rfl, hb_2⟩
  clear hb
  replace hs := hs.bl hb_2
  refine hK _ _ rfl trivial ?_
  clear hK K
  refine sq ?_
  refine .mv ?_
  refine sq ?_
  refine .r0 ?_
  refine sq ?_
  refine .r0 ?_
  refine sq ?_
  refine .mv ?_
  refine sq ?_
  refine .mv ?_
  apply wpSq_end
  refine hK2 _ _ ?_
  refine wp_seq_k ?_
  intro K3 hK3
  refine rg [0, 1, 2, 3, 4, 5, 6, 7, 8] ?_
  refine sq ?_
  refine .mv ?_
  refine sq ?_
  refine .mv ?_
  refine sq ?_
  refine .mv ?_
  refine sq ?_
  intro K hK
  have hb := hs.b
  go_big_op
  go_fit (mxmc (mSwap_ok (HA.out.bl stab_n hb) hn H.out HK.out HI.out HI.out (by decide)))
  rintro e w_3 ⟨o_Y, c_Y, rfl, m_Y, hb_3⟩
  clear hb
  replace hs := hs.bl hb_3
  refine hK _ _ rfl trivial ?_
  clear hK K
  refine sq ?_
  refine .mv ?_
  refine sq ?_
  refine .r0 ?_
  refine sq ?_
  refine .r0 ?_
  refine sq ?_
  refine .mv ?_
  refine sq ?_
  refine .mv ?_
  apply wpSq_end
  refine hK3 _ _ ?_
  refine wp_seq_k ?_
  intro K4 hK4
  refine rg [0, 1, 2, 3, 4, 5, 6, 7, 8] ?_
  refine sq ?_
  refine .mv ?_
  refine sq ?_
  refine .mv ?_
  refine sq ?_
  refine .mv ?_
  refine sq ?_
  intro K hK
  have hb := hs.b
  go_big_op
  go_fit (mxmc (mTurn_ok (kt := kt) (HA.out.bl stab_n hb) hn H.out HK.out HI.out (by decide)))
  rintro e w_4 ⟨o_Z, c_Z, rfl, m_Z, hb_4⟩
  clear hb
  replace m_Y := m_Y.bl hb_4; replace hs := hs.bl hb_4
  refine hK _ _ rfl trivial ?_
  clear hK K
  refine sq ?_
  refine .mv ?_
  refine sq ?_
  refine .r0 ?_
  refine sq ?_
  refine .r0 ?_
  refine sq ?_
  refine .mv ?_
  refine sq ?_
  refine .mv ?_
  apply wpSq_end
  refine hK4 _ _ ?_
  refine wp_seq_k ?_
  intro K5 hK5
  refine wp_seq_k ?_
  intro K6 hK6
  refine rg [0, 1] ?_
  refine sq ?_
  intro K hK
  go_big_op
  go_fit (awake8_any _)
  rintro e w_5 ⟨rfl, hb_5⟩
  replace m_Y := m_Y.bl hb_5; replace m_Z := m_Z.bl hb_5; replace hs := hs.bl hb_5
  refine hK _ _ rfl trivial ?_
  clear hK K
  refine sq ?_
  refine .r0 ?_
  apply wpSq_end
  refine hK6 _ _ ?_
  refine cf ?_
  refine wp_skip ?_
  refine hK5 _ _ ?_
  refine wp_seq_k ?_
  intro K7 hK7
  refine wp_seq_k ?_
  intro K8 hK8
  refine rg [0, 1, 2] ?_
  refine sq ?_
  refine .mv ?_
  refine sq ?_
  intro K hK
  have hb := hs.b
  go_big_op
  go_fit (rGood_any (HA.out.bl stab_n hb) hn (by omega))
  rintro e w_6 ⟨rfl, hb_6⟩
  clear hb
  replace m_Y := m_Y.bl hb_6; replace m_Z := m_Z.bl hb_6; replace hs := hs.bl hb_6
  rw [decide_eq_true H.out]
  refine hK _ _ rfl trivial ?_
  clear hK K
  refine sq ?_
  refine .r0 ?_
  apply wpSq_end
  refine hK8 _ _ ?_
  refine cf ?_
  refine wp_skip ?_
  refine hK7 _ _ ?_
  refine wp_seq_k ?_
  intro K9 hK9
  refine rg [0, 1, 2, 3, 4, 5, 6, 7, 8] ?_
  refine sq ?_
  refine .mv ?_
  refine sq ?_
  refine .r0 ?_
  refine sq ?_
  refine .mv ?_
  refine sq ?_
  refine .mv ?_
  refine sq ?_
  refine .mv ?_
  refine sq ?_
  refine .r0 ?_
  refine sq ?_
  refine .r0 ?_
  refine sq ?_
  refine .r0 ?_
  refine sq ?_
  refine .mv ?_
  apply wpSq_end
  refine hK9 _ _ ?_
  refine wp_seq_k ?_
  intro K10 hK10
  refine rg [0, 1, 2, 3, 4, 5, 6, 7, 8] ?_
  refine sq ?_
  refine .mv ?_
  refine sq ?_
  refine .r0 ?_
  refine sq ?_
  refine .mv ?_
  refine sq ?_
  refine .mv ?_
  refine sq ?_
  refine .mv ?_
  refine sq ?_
  refine .r0 ?_
  refine sq ?_
  refine .r0 ?_
  refine sq ?_
  refine .r0 ?_
  refine sq ?_
  refine .mv ?_
  apply wpSq_end
  refine hK10 _ _ ?_
  refine wp_seq_k ?_
  intro K11 hK11
  refine wp_seq_k ?_
  intro K12 hK12
  refine rg [0, 1, 2, 3, 4, 5] ?_
  refine sq ?_
  refine .mv ?_
  refine sq ?_
  refine .r0 ?_
  refine sq ?_
  refine .mv ?_
  refine sq ?_
  refine .mv ?_
  refine sq ?_
  refine .r0 ?_
  refine sq ?_
  refine .r0 ?_
  apply wpSq_end
  refine hK12 _ _ ?_
  have hb := hs.b
  replace HA := hide (HA.out.bl stab_n hb)
  have MY := hide m_Y
  have MZ := hide m_Z
  have k1_6 := ((((kb hb_2).b hb_3).b hb_4).b hb_5).b hb_6
  replace hq1 := hq1.k k1_6
  replace hq2 := hq2.k k1_6
  clear hb
  clear m_Y
  clear m_Z
  have x_b1 := hs.g0
  have hBB := hs.b
  clear hs
  obtain ⟨wb1, e_wb1⟩ : ∃ x, x = w_6 := ⟨_, rfl⟩; subst e_wb1
  have hs := St.nil wb1
  have z_b1 := x_b1
  have lt_b1 := x_b1.lt
  refine cf ?_
  refine wp_seq_k ?_
  intro K13 hK13
  refine rg [0, 1, 2] ?_
  refine sq ?_
  refine .mv ?_
  refine sq ?_
  intro K hK
  have hb := hs.b
  go_big_op
  go_fit (rCopy_own (HA.out.bl stab_n hb) hn H.out HK.out (by decide) (by omega))
  rintro e w_7 ⟨g_S, c_S, rs_S, rfl, hl_S, hs_S, d_S, hb_7⟩
  clear hb
  replace x_b1 := x_b1.bl hb_7
  replace hs := hs.mx hl_S hs_S; simp only [List.nil_append] at hs
  refine hK _ _ rfl trivial ?_
  clear hK K
  have LO : Lst w_7 wb1.heap.size 39 1 (.slice (some ⟨g_S, 0, none⟩) n c_S) n _ := hs.1.1.1
  obtain ⟨gS', curS, eS, xS, hcS⟩ := LO.box (by omega)
  simp only [Option.some.injEq, Addr.mk.injEq, and_true] at eS
  obtain rfl : g_S = gS' := eS
  obtain ⟨oi, ci, hvi⟩ := hs.rowv (bs := []) d_S (p := i) (K := k) (by rw [len_mkM]; exact HI.out) (by rw [mkM_row HI.out]; simp)
  have hvj := hvi
  have eI := hcS _ _ hvi
  have eJ := hcS _ _ hvj
  refine sq ?_
  refine .mv ?_
  apply wpSq_end
  refine hK13 _ _ ?_
  refine wp_seq_k ?_
  intro K14 hK14
  refine wp_region_f4 [(0, false), (1, false), (2, false), (3, false), (4, false), (5, false), (6, false), (7, false), (8, false), (9, false), (10, false), (11, false), (12, false)] [13, 14, 15] [] (fun _ => default) [99, 99, 99, 99, 99, 99, 99, 0, 99, 99, 99, 0, 99, 99, 99, 99] [(13, 0), (14, 0), (15, 0)] (.c xS .n) fn fun w_8 n8 => ?_
  replace x_b1 := x_b1.bl n8; replace xS := xS.bl n8; replace hs := hs.bl n8
  refine fmv ?_
  refine fmv ?_
  refine fmv ?_
  refine fmv ?_
  refine fmv ?_
  refine fmv ?_
  refine f0 ?_
  apply wpFl_ld rfl rfl; (case h1 => intro w' hC K hK; have c0 := Bs.cell hC (i) eJ; go_big_op; exact hK); iterate 4 kernel_rfl
  refine fmv ?_
  refine fmv ?_
  refine f0 ?_
  apply wpFl_ld rfl rfl; (case h1 => intro w' hC K hK; have c0 := Bs.cell hC (i) eJ; go_big_op; exact hK); iterate 4 kernel_rfl
  refine f0 ?_
  refine e0 hs ?_; clear hs; intro w_9 hs n9
  replace x_b1 := x_b1.bl n9; replace xS := xS.bl n9
  refine tl ?_
  refine .i1 0 hs (j := i) (by omega) ?_ (e := fun _ hB hO => (And.intro True.intro True.intro)); clear hs; intro w_10 hs kp10 hd10 ho10 hw10; simp only [List.set_cons_zero] at hs
  replace x_b1 := x_b1.lo lt_b1 hw10
  clear xS
  refine tl ?_
  refine .r0 ?_ (e := (And.intro True.intro True.intro))
  refine tl ?_
  refine .i1 0 hs (j := i) (by omega) ?_ (e := fun _ hB hO => (And.intro True.intro True.intro)); clear hs; intro w_11 hs kp11 hd11 ho11 hw11; simp only [List.set_cons_zero] at hs
  replace x_b1 := x_b1.lo lt_b1 hw11
  apply wpTail_end
  refine hK14 _ _ ?_
  refine wp_seq_k ?_
  intro K15 hK15
  refine wp_seq_k ?_
  intro K16 hK16
  refine rg [0, 1, 2, 3, 4] ?_
  refine sq ?_
  refine .mv ?_
  refine sq ?_
  refine .mv ?_
  refine sq ?_
  refine .mv ?_
  have k1_5 := (((kb n8).b n9).t kp10).t kp11
  replace d_S := d_S.k k1_5
  obtain ⟨rs', q1, q2, q3, q4⟩ := RD.swap d_S HI.out HI.out hvi hvj
  have mS := MCin hs q3 (fun r hr => List.mem_map_of_mem (q2.mem_iff.1 hr)) (q1.trans hl_S) q4
  refine sq ?_
  intro K hK
  have hb := hs.b
  go_big_op
  go_fit (told_yes (MY.out.bl hb) (mS.mn (bd_swM HB.out)) len_mkM (by omega) (HR.out _) (by decide))
  rintro e w_12 ⟨rfl, hb_12⟩
  clear hb
  replace x_b1 := x_b1.bl hb_12; replace hs := hs.bl hb_12
  refine hK _ _ rfl trivial ?_
  clear hK K
  refine sq ?_
  refine .r0 ?_
  apply wpSq_end
  refine hK16 _ _ ?_
  clear mS hcS LO
  have hb := hs.b
  replace HA := hide (HA.out.bl stab_n hb)
  replace MZ := hide (MZ.out.bl hb)
  have k0_6 := (((((kb hb_7).b n8).b n9).t kp10).t kp11).b hb_12
  replace hq1 := hq1.k k0_6
  replace hq2 := hq2.k k0_6
  have k5_6 := kb hb_12
  replace d_S := d_S.k k5_6
  clear hb
  replace hBB := hBB.trans (hs.b.mono hBB.size)
  clear hs
  obtain ⟨wb2, e_wb2⟩ : ∃ x, x = w_12 := ⟨_, rfl⟩; subst e_wb2
  have hs := St.nil wb2
  have z_b1 := x_b1
  have lt_b1 := x_b1.lt
  refine cf ?_
  refine wp_skip ?_
  refine hK15 _ _ ?_
  refine wp_seq_k ?_
  intro K17 hK17
  refine rg [0, 1, 2] ?_
  refine sq ?_
  refine .mv ?_
  refine sq ?_
  refine .mv ?_
  refine sq ?_
  refine .r0 ?_
  apply wpSq_end
  refine hK17 _ _ ?_
  refine ct ?_
  refine wp_seq_k ?_
  intro K18 hK18
  refine rg [0, 1, 2, 3, 4] ?_
  refine sq ?_
  refine .mv ?_
  refine sq ?_
  refine .mv ?_
  refine sq ?_
  refine .mv ?_
  refine sq ?_
  intro K hK
  go_big_op
  go_fit (told_no 9 (by decide) rfl)
  rintro e w_13 ⟨rfl, hb_13⟩
  replace hs := hs.bl hb_13
  refine hK _ _ rfl trivial ?_
  clear hK K
  refine sq ?_
  refine .r0 ?_
  apply wpSq_end
  refine hK18 _ _ ?_
  have hb := hs.b
  replace HA := hide (HA.out.bl stab_n hb)
  replace MZ := hide (MZ.out.bl hb)
  have k0_1 := kb hb_13
  replace d_S := d_S.k k0_1
  clear hb
  replace hBB := hBB.trans (hs.b.mono hBB.size)
  clear hs
  obtain ⟨wb3, e_wb3⟩ : ∃ x, x = w_13 := ⟨_, rfl⟩; subst e_wb3
  have hs := St.nil wb3
  refine cf ?_
  refine wp_skip ?_
  refine hK11 _ _ ?_
  refine wp_seq_k ?_
  intro K19 hK19
  refine wp_seq_k ?_
  intro K20 hK20
  refine rg [0, 1] ?_
  refine sq ?_
  refine .mv ?_
  refine sq ?_
  refine .r0 ?_
  apply wpSq_end
  refine hK20 _ _ ?_
  refine cf ?_
  refine wp_skip ?_
  refine hK19 _ _ ?_
  refine wp_seq_k ?_
  intro K21 hK21
  refine rg [0, 1, 2] ?_
  refine sq ?_
  refine .mv ?_
  refine sq ?_
  intro K hK
  have hb := hs.b
  go_big_op
  go_fit (rCopy_own (HA.out.bl stab_n hb) hn H.out HK.out (by decide) (by omega))
  rintro e w_14 ⟨g_W, c_W, rs_W, rfl, hl_W, hs_W, d_W, hb_14⟩
  clear hb
  replace hs := hs.mx hl_W hs_W; simp only [List.nil_append] at hs
  refine hK _ _ rfl trivial ?_
  clear hK K
  refine sq ?_
  refine .mv ?_
  apply wpSq_end
  refine hK21 _ _ ?_
  refine wp_seq_k ?_
  intro K22 hK22
  refine wp_seq_k ?_
  intro K23 hK23
  refine rg [0] ?_
  refine sq ?_
  refine .mv ?_
  apply wpSq_end
  refine hK23 _ _ ?_
  refine wp_block ?_
  have hd15 := hs.2.1
  go_loopg [22] k (fun kk s22 wr => ∃ (q : Nat) (rs : List Rw), s22 = .int .i64 (q : Int) ∧ q + kk = k ∧ rs.length = n ∧ RD wr rs (mkM n k (pr (at2 A) i q fun q => turn (kt % 4).toNat (at2 A i q))) ∧ St wb3 (ls wb3.heap.size 39 1 (.slice (some ⟨g_W, 0, none⟩) n c_W) n (rs.map (·.v)) :: ([] ++ rs.map (Rw.e wb3.heap.size))) wr)
  case atStart => exact ⟨0, rs_W, rfl, by omega, hl_W, by rw [← pr_0]; exact d_W, hs⟩
  case round =>
  clear d_S d_W hq1 hq2 x_b1 hs
  obtain ⟨q, rs, rfl, hqk, hrl, hd, hs⟩ := hrel
  by_cases hqk2 : q < k
  · have HQ := hide hqk2
    obtain ⟨r1, gr, cr, xs, r2, rfl, hr1, hrv, hx, hs⟩ := hs.row (bs := []) hd (p := i) (K := k) (by rw [len_mkM]; exact HI.out) (by rw [mkM_row HI.out]; simp) (by omega)
    have LO : Lst wr wb3.heap.size 39 1 (.slice (some ⟨g_W, 0, none⟩) n c_W) n _ := hs.1.2.1.1
    obtain ⟨gO', curO, eO', xO, hcO⟩ := LO.box (by omega)
    simp only [Option.some.injEq, Addr.mk.injEq, and_true] at eO'
    obtain rfl : g_W = gO' := eO'
    have eO := hcO _ _ hrv
    have LR : Lst wr wb3.heap.size 41 4 (.slice (some ⟨gr, 0, none⟩) k cr) k xs := hs.1.1.1
    obtain ⟨gr', curR, eR, xR, hcR⟩ := LR.box (by omega)
    simp only [Option.some.injEq, Addr.mk.injEq, and_true] at eR
    obtain rfl : gr = gr' := eR
    have hx2 := hx
    rw [mkM_row HI.out] at hx2
    obtain ⟨a1, a2, a3, a4, a5, a6, a7, a8, e1, e2, e3, e4, z1, z2⟩ := hx2.els q (by simpa using hqk2)
    rw [show ((List.range k).map (pr (at2 A) i q (fun q => turn (kt % 4).toNat (at2 A i q)) i))[q]'(by simpa using hqk2) = at2 A i q by simp [pr_here]] at z1 z2
    have LB := hide (at2_bd (i := i) (j := q) HB.out)
    replace z1 := z1.zn LB.out.1
    replace z2 := z2.zn LB.out.2
    replace e1 := hcR _ _ e1
    replace e2 := hcR _ _ e2
    replace e3 := hcR _ _ e3
    replace e4 := hcR _ _ e4
    clear LO hcO hrv LR hcR hx2
    have HGq := hide (show at2 A i q = at2 A i q from rfl)
    refine wp_seq_k ?_
    intro K24 hK24
    refine wp_seq_k ?_
    intro K25 hK25
    refine rg [0, 1, 2, 3, 4, 5, 6] ?_
    refine sq ?_
    refine .mv ?_
    refine sq ?_
    refine .mv ?_
    refine sq ?_
    refine .mv ?_
    refine sq ?_
    refine .r0 ?_
    refine sq ?_
    refine .r1 (xO.cell _ eO) ?_
    refine sq ?_
    refine .r0 ?_
    refine sq ?_
    refine .r0 ?_
    apply wpSq_end
    refine hK25 _ _ ?_
    refine ct ?_
    refine wp_skip ?_
    refine hK24 _ _ ?_
    refine wp_seq_k ?_
    intro K26 hK26
    refine wp_block ?_
    refine wp_region_f4 [(0, false), (1, false), (2, false), (3, false), (4, false), (5, false), (6, false), (7, false), (8, false), (9, false), (10, false), (11, false), (12, false), (13, true), (14, false)] [15] [] (fun _ => default) [99, 99, 99, 0, 99, 99, 99, 99, 0, 99, 99, 1, 99, 99, 99, 99] [(15, 1)] (.c xO (.c xR .n)) fn fun w_16 n16 => ?_
    replace xR := xR.bl n16; replace xO := xO.bl n16; replace hs := hs.bl n16
    refine fmv ?_
    refine fmv ?_
    refine f0 ?_
    apply wpFl_ld rfl rfl; (case h1 => intro w' hC K hK; have c0 := Bs.cell hC (i) eO; go_big_op; exact hK); iterate 4 kernel_rfl
    refine fmv ?_
    refine fmv ?_
    refine fmv ?_
    refine f0 ?_
    apply wpFl_ld rfl rfl; (case h1 => intro w' hC K hK; have c0 := Bs.cell hC (i) eO; go_big_op; exact hK); iterate 4 kernel_rfl
    refine fmv ?_
    refine f0 ?_
    apply wpFl_ld rfl rfl; (case h1 => intro w' hC K hK; have c0 := Bs.cell hC ((q * 4)) e1; have c1 := Bs.cell hC ((q * 4) + 1) e2; have c2 := Bs.cell hC ((q * 4) + 2) e3; have c3 := Bs.cell hC ((q * 4) + 3) e4; go_big_op; exact hK); iterate 4 kernel_rfl
    refine fmv ?_
    refine fl fun w_17 n17 => ?_
    replace xR := xR.bl n17; replace xO := xO.bl n17; replace hs := hs.bl n17
    intro K hK
    have k0_2 := (kb n16).b n17
    replace z1 := z1.k k0_2
    replace z2 := z2.k k0_2
    go_big_op
    go_fit (rgTurn_any kt (.mk' z1 z2) (by decide) (by decide))
    rintro e w_18 ⟨_, rfl, ⟨n_ta, o_ta, k_ta, c_ta, n_tb, o_tb, k_tb, c_tb, rfl, t1, t2⟩, hb_18⟩
    replace xR := xR.bl hb_18; replace xO := xO.bl hb_18; replace hs := hs.bl hb_18
    refine hK _ _ rfl ⟨hb_18, (And.intro xO (And.intro xR trivial))⟩ ?_
    clear hK K
    refine f0 ?_
    refine e0 hs ?_; clear hs; intro w_19 hs n19
    replace xR := xR.bl n19; replace xO := xO.bl n19
    refine tl ?_
    refine .i4 0 hs (j := q) (by omega) ?_ (e := fun _ hB hO => (And.intro (xO.frame hO (hs.ne 1 0)) (And.intro True.intro True.intro))); clear hs; intro w_20 hs kp20 hd20 ho20 hw20; simp only [List.set_cons_zero] at hs
    clear xR
    clear xO
    apply wpTail_end
    refine hK26 _ _ ?_
    refine rg [0, 1, 2] ?_
    refine sq ?_
    refine .mv ?_
    refine sq ?_
    refine .r0 ?_
    refine sq ?_
    refine .mv ?_
    apply wpSq_end
    have k0_5 := ((k0_2.b hb_18).b n19).t kp20
    replace hd := hd.k k0_5
    replace hx := hx.k k0_5
    have k3_5 := (kb n19).t kp20
    replace t1 := t1.k k3_5
    replace t2 := t2.k k3_5
    refine ‹∀ (a' : Act) (w' : World), Handed _ _ a' w' → _› _ _ ?_
    go_roundg (gk - 1)
    case rel => exact ⟨q + 1, _, by rfl, by omega, by simpa using hrl, by rw [← pr_step]; exact hd.upd hr1 HI.out HQ.out hx t1 t2, hs.unrow (bs := [])⟩
    case measure => omega
  · obtain rfl : k = q := by omega
    have HX := hide hqk2
    obtain ⟨oi3, ci3, hrv⟩ := hs.rowv (bs := []) hd (p := i) (K := k) (by rw [len_mkM]; exact HI.out) (by rw [mkM_row HI.out]; simp)
    have LO : Lst wr wb3.heap.size 39 1 (.slice (some ⟨g_W, 0, none⟩) n c_W) n _ := hs.1.1.1
    obtain ⟨gO', curO, eO', xO, hcO⟩ := LO.box (by omega)
    simp only [Option.some.injEq, Addr.mk.injEq, and_true] at eO'
    obtain rfl : g_W = gO' := eO'
    have eO := hcO _ _ hrv
    clear LO hcO hrv
    have mW := MCin (bs := ([] ++ rs.map (Rw.e wb3.heap.size))) hs rfl (fun r hr => List.mem_map_of_mem hr) hrl hd
    rw [pr_end] at mW
    have MW := hide mW
    clear mW
    refine wp_seq_k ?_
    intro K24 hK24
    refine wp_seq_k ?_
    intro K25 hK25
    refine rg [0, 1, 2, 3, 4, 5, 6] ?_
    refine sq ?_
    refine .mv ?_
    refine sq ?_
    refine .mv ?_
    refine sq ?_
    refine .mv ?_
    refine sq ?_
    refine .r0 ?_
    refine sq ?_
    refine .r1 (xO.cell _ eO) ?_
    refine sq ?_
    refine .r0 ?_
    refine sq ?_
    refine .r0 ?_
    apply wpSq_end
    refine hK25 _ _ ?_
    refine cf ?_
    refine wp_exit ?_
    refine hK22 _ _ ?_
    refine wp_seq_k ?_
    intro K26 hK26
    refine rg [0, 1, 2, 3, 4] ?_
    refine sq ?_
    refine .mv ?_
    refine sq ?_
    refine .mv ?_
    refine sq ?_
    refine .mv ?_
    refine sq ?_
    intro K hK
    have hb := hs.b
    go_big_op
    go_fit (told_yes (MZ.out.bl hb) (MW.out.mn (bd_tuM HB.out)) len_mkM (by omega) (HR.out _) (by decide))
    rintro e w_16 ⟨rfl, hb_16⟩
    clear hb
    replace xO := xO.bl hb_16; replace hs := hs.bl hb_16
    refine hK _ _ rfl trivial ?_
    clear hK K
    refine sq ?_
    refine .mv ?_
    apply wpSq_end
    refine hK26 _ _ ?_
    refine wp_ret ?_
    try dsimp only [Exit.then, Exit.inBlock]
    refine bodyPost_ret (v := (.bool true)) (by simp [results, Try.results4, go_sem]) rfl ?_
    exact ⟨rfl, hBB.trans (hs.b.mono hBB.size)⟩
set_option maxHeartbeats 4000000 in
set_option maxRecDepth 20000 in
theorem rows_od (ha : MN 1048576 w o A) (hq : PN w vg u l v l) (hn : A.length = n) (hl : l = 1048576) (h : gd A) (hi : i < n) (hj : j < n) (hij : i ≠ j) :
    Calls Try.prog 4 #[.slice o n c, .int .i64 (i : Int), .int .i64 (j : Int), vg, .int .i64 kt] w fun e w' => e = .returned (.bool true) ∧ Below w.heap.size w w' := by
  obtain ⟨k, hk⟩ : ∃ k, wd A = k := ⟨_, rfl⟩
  have n64 : n ≤ 64 := by have := h.1; omega
  have k64 : k ≤ 64 := by have := h.2.1; omega
  have HB := hide ha.bd
  have HA := hide ha
  have HK := hide hk
  have H := hide h
  have HR := hide (show ∀ (F : Nat → Nat → Int × Int), ∀ r ∈ mkM n k F, r.length ≤ 1000000000 from fun F => mkM_rl k64)
  have s1 : ((0 : Int) ≤ (i : Int)) = True := eq_true (by omega)
  have s2 : ((i : Int) < (n : Int)) = True := eq_true (by omega)
  have s3 : (i < n) = True := eq_true (by omega)
  have r1 : ((0 : Int) ≤ (j : Int)) = True := eq_true (by omega)
  have r2 : ((j : Int) < (n : Int)) = True := eq_true (by omega)
  have r3 : (j < n) = True := eq_true (by omega)
  have HI := hide hi
  have HJ := hide hj
  have HIJ := hide hij
  have t1 : ((i : Int) == (j : Int)) = false := beq_eq_false_iff_ne.2 (by omega)
  clear ha hk h hij
  obtain ⟨n_3a, o_3a, k_3a, c_3a, n_3b, o_3b, k_3b, c_3b, rfl, hq1, hq2⟩ := hq
  go_enter Try.func4, Try.ntmps4
  have hs := St.nil w
  refine wp_seq_k ?_
  intro K1 hK1
  refine rg [0, 1] ?_
  refine sq ?_
  refine .al hs ?_; clear hs; intro p_b1 w_1 hs n1 kb_b1
  refine sq ?_
  refine .mv ?_
  apply wpSq_end
  refine hK1 _ _ ?_
  refine wp_seq_k ?_
  intro K2 hK2
  refine rg [0, 1, 2, 3, 4, 5, 6, 7, 8, 9] ?_
  refine sq ?_
  refine .mv ?_
  refine sq ?_
  refine .mv ?_
  refine sq ?_
  refine .mv ?_
  refine sq ?_
  refine .r4 hs.g0.f4 ?_
  refine sq ?_
  intro K hK
  have hb := hs.b
  have k0_1 := kb n1
  replace hq1 := hq1.k k0_1
  replace hq2 := hq2.k k0_1
  go_big_op
  go_fit (mxmc (mAddRow_ok (HA.out.bl stab_n hb) (.mk' hq1 hq2) hn H.out HK.out HI.out HJ.out HIJ.out (by decide) (by omega)))
  rintro e w_2 ⟨o_X, c_X, rfl, m_X, hb_2⟩
  clear hb
  replace hs := hs.bl hb_2
  refine hK _ _ rfl trivial ?_
  clear hK K
  refine sq ?_
  refine .mv ?_
  refine sq ?_
  refine .r0 ?_
  refine sq ?_
  refine .r0 ?_
  refine sq ?_
  refine .mv ?_
  refine sq ?_
  refine .mv ?_
  apply wpSq_end
  refine hK2 _ _ ?_
  refine wp_seq_k ?_
  intro K3 hK3
  refine rg [0, 1, 2, 3, 4, 5, 6, 7, 8] ?_
  refine sq ?_
  refine .mv ?_
  refine sq ?_
  refine .mv ?_
  refine sq ?_
  refine .mv ?_
  refine sq ?_
  intro K hK
  have hb := hs.b
  go_big_op
  go_fit (mxmc (mSwap_ok (HA.out.bl stab_n hb) hn H.out HK.out HI.out HJ.out (by decide)))
  rintro e w_3 ⟨o_Y, c_Y, rfl, m_Y, hb_3⟩
  clear hb
  replace m_X := m_X.bl hb_3; replace hs := hs.bl hb_3
  refine hK _ _ rfl trivial ?_
  clear hK K
  refine sq ?_
  refine .mv ?_
  refine sq ?_
  refine .r0 ?_
  refine sq ?_
  refine .r0 ?_
  refine sq ?_
  refine .mv ?_
  refine sq ?_
  refine .mv ?_
  apply wpSq_end
  refine hK3 _ _ ?_
  refine wp_seq_k ?_
  intro K4 hK4
  refine rg [0, 1, 2, 3, 4, 5, 6, 7, 8] ?_
  refine sq ?_
  refine .mv ?_
  refine sq ?_
  refine .mv ?_
  refine sq ?_
  refine .mv ?_
  refine sq ?_
  intro K hK
  have hb := hs.b
  go_big_op
  go_fit (mxmc (mTurn_ok (kt := kt) (HA.out.bl stab_n hb) hn H.out HK.out HI.out (by decide)))
  rintro e w_4 ⟨o_Z, c_Z, rfl, m_Z, hb_4⟩
  clear hb
  replace m_X := m_X.bl hb_4; replace m_Y := m_Y.bl hb_4; replace hs := hs.bl hb_4
  refine hK _ _ rfl trivial ?_
  clear hK K
  refine sq ?_
  refine .mv ?_
  refine sq ?_
  refine .r0 ?_
  refine sq ?_
  refine .r0 ?_
  refine sq ?_
  refine .mv ?_
  refine sq ?_
  refine .mv ?_
  apply wpSq_end
  refine hK4 _ _ ?_
  refine wp_seq_k ?_
  intro K5 hK5
  refine wp_seq_k ?_
  intro K6 hK6
  refine rg [0, 1] ?_
  refine sq ?_
  intro K hK
  go_big_op
  go_fit (awake8_any _)
  rintro e w_5 ⟨rfl, hb_5⟩
  replace m_X := m_X.bl hb_5; replace m_Y := m_Y.bl hb_5; replace m_Z := m_Z.bl hb_5; replace hs := hs.bl hb_5
  refine hK _ _ rfl trivial ?_
  clear hK K
  refine sq ?_
  refine .r0 ?_
  apply wpSq_end
  refine hK6 _ _ ?_
  refine cf ?_
  refine wp_skip ?_
  refine hK5 _ _ ?_
  refine wp_seq_k ?_
  intro K7 hK7
  refine wp_seq_k ?_
  intro K8 hK8
  refine rg [0, 1, 2] ?_
  refine sq ?_
  refine .mv ?_
  refine sq ?_
  intro K hK
  have hb := hs.b
  go_big_op
  go_fit (rGood_any (HA.out.bl stab_n hb) hn (by omega))
  rintro e w_6 ⟨rfl, hb_6⟩
  clear hb
  replace m_X := m_X.bl hb_6; replace m_Y := m_Y.bl hb_6; replace m_Z := m_Z.bl hb_6; replace hs := hs.bl hb_6
  rw [decide_eq_true H.out]
  refine hK _ _ rfl trivial ?_
  clear hK K
  refine sq ?_
  refine .r0 ?_
  apply wpSq_end
  refine hK8 _ _ ?_
  refine cf ?_
  refine wp_skip ?_
  refine hK7 _ _ ?_
  refine wp_seq_k ?_
  intro K9 hK9
  refine rg [0, 1, 2, 3, 4, 5, 6, 7, 8] ?_
  refine sq ?_
  refine .mv ?_
  refine sq ?_
  refine .r0 ?_
  refine sq ?_
  refine .mv ?_
  refine sq ?_
  refine .mv ?_
  refine sq ?_
  refine .mv ?_
  refine sq ?_
  refine .r0 ?_
  refine sq ?_
  refine .r0 ?_
  refine sq ?_
  refine .r0 ?_
  refine sq ?_
  refine .mv ?_
  apply wpSq_end
  refine hK9 _ _ ?_
  refine wp_seq_k ?_
  intro K10 hK10
  refine rg [0, 1, 2, 3, 4, 5, 6, 7, 8] ?_
  refine sq ?_
  refine .mv ?_
  refine sq ?_
  refine .r0 ?_
  refine sq ?_
  refine .mv ?_
  refine sq ?_
  refine .mv ?_
  refine sq ?_
  refine .mv ?_
  refine sq ?_
  refine .r0 ?_
  refine sq ?_
  refine .r0 ?_
  refine sq ?_
  refine .r0 ?_
  refine sq ?_
  refine .mv ?_
  apply wpSq_end
  refine hK10 _ _ ?_
  refine wp_seq_k ?_
  intro K11 hK11
  refine wp_seq_k ?_
  intro K12 hK12
  refine rg [0, 1, 2, 3, 4, 5] ?_
  refine sq ?_
  refine .mv ?_
  refine sq ?_
  refine .r0 ?_
  refine sq ?_
  refine .mv ?_
  refine sq ?_
  refine .mv ?_
  refine sq ?_
  refine .r0 ?_
  refine sq ?_
  refine .r0 ?_
  apply wpSq_end
  refine hK12 _ _ ?_
  have hb := hs.b
  replace HA := hide (HA.out.bl stab_n hb)
  have MX := hide m_X
  have MY := hide m_Y
  have MZ := hide m_Z
  have k1_6 := ((((kb hb_2).b hb_3).b hb_4).b hb_5).b hb_6
  replace hq1 := hq1.k k1_6
  replace hq2 := hq2.k k1_6
  clear hb
  clear m_X
  clear m_Y
  clear m_Z
  have x_b1 := hs.g0
  have hBB := hs.b
  clear hs
  obtain ⟨wb1, e_wb1⟩ : ∃ x, x = w_6 := ⟨_, rfl⟩; subst e_wb1
  have hs := St.nil wb1
  have z_b1 := x_b1
  have lt_b1 := x_b1.lt
  refine cf ?_
  refine wp_seq_k ?_
  intro K13 hK13
  refine rg [0, 1, 2] ?_
  refine sq ?_
  refine .mv ?_
  refine sq ?_
  intro K hK
  have hb := hs.b
  go_big_op
  go_fit (rCopy_own (HA.out.bl stab_n hb) hn H.out HK.out (by decide) (by omega))
  rintro e w_7 ⟨g_S, c_S, rs_S, rfl, hl_S, hs_S, d_S, hb_7⟩
  clear hb
  replace x_b1 := x_b1.bl hb_7
  replace hs := hs.mx hl_S hs_S; simp only [List.nil_append] at hs
  refine hK _ _ rfl trivial ?_
  clear hK K
  have LO : Lst w_7 wb1.heap.size 39 1 (.slice (some ⟨g_S, 0, none⟩) n c_S) n _ := hs.1.1.1
  obtain ⟨gS', curS, eS, xS, hcS⟩ := LO.box (by omega)
  simp only [Option.some.injEq, Addr.mk.injEq, and_true] at eS
  obtain rfl : g_S = gS' := eS
  obtain ⟨oi, ci, hvi⟩ := hs.rowv (bs := []) d_S (p := i) (K := k) (by rw [len_mkM]; exact HI.out) (by rw [mkM_row HI.out]; simp)
  obtain ⟨oj, cj, hvj⟩ := hs.rowv (bs := []) d_S (p := j) (K := k) (by rw [len_mkM]; exact HJ.out) (by rw [mkM_row HJ.out]; simp)
  have eI := hcS _ _ hvi
  have eJ := hcS _ _ hvj
  refine sq ?_
  refine .mv ?_
  apply wpSq_end
  refine hK13 _ _ ?_
  refine wp_seq_k ?_
  intro K14 hK14
  refine wp_region_f4 [(0, false), (1, false), (2, false), (3, false), (4, false), (5, false), (6, false), (7, false), (8, false), (9, false), (10, false), (11, false), (12, false)] [13, 14, 15] [] (fun _ => default) [99, 99, 99, 99, 99, 99, 99, 0, 99, 99, 99, 0, 99, 99, 99, 99] [(13, 0), (14, 0), (15, 0)] (.c xS .n) fn fun w_8 n8 => ?_
  replace x_b1 := x_b1.bl n8; replace xS := xS.bl n8; replace hs := hs.bl n8
  refine fmv ?_
  refine fmv ?_
  refine fmv ?_
  refine fmv ?_
  refine fmv ?_
  refine fmv ?_
  refine f0 ?_
  apply wpFl_ld rfl rfl; (case h1 => intro w' hC K hK; have c0 := Bs.cell hC (j) eJ; go_big_op; exact hK); iterate 4 kernel_rfl
  refine fmv ?_
  refine fmv ?_
  refine f0 ?_
  apply wpFl_ld rfl rfl; (case h1 => intro w' hC K hK; have c0 := Bs.cell hC (i) eI; go_big_op; exact hK); iterate 4 kernel_rfl
  refine f0 ?_
  refine e0 hs ?_; clear hs; intro w_9 hs n9
  replace x_b1 := x_b1.bl n9; replace xS := xS.bl n9
  refine tl ?_
  refine .i1 0 hs (j := i) (by omega) ?_ (e := fun _ hB hO => (And.intro True.intro True.intro)); clear hs; intro w_10 hs kp10 hd10 ho10 hw10; simp only [List.set_cons_zero] at hs
  replace x_b1 := x_b1.lo lt_b1 hw10
  clear xS
  refine tl ?_
  refine .r0 ?_ (e := (And.intro True.intro True.intro))
  refine tl ?_
  refine .i1 0 hs (j := j) (by omega) ?_ (e := fun _ hB hO => (And.intro True.intro True.intro)); clear hs; intro w_11 hs kp11 hd11 ho11 hw11; simp only [List.set_cons_zero] at hs
  replace x_b1 := x_b1.lo lt_b1 hw11
  apply wpTail_end
  refine hK14 _ _ ?_
  refine wp_seq_k ?_
  intro K15 hK15
  refine wp_seq_k ?_
  intro K16 hK16
  refine rg [0, 1, 2, 3, 4] ?_
  refine sq ?_
  refine .mv ?_
  refine sq ?_
  refine .mv ?_
  refine sq ?_
  refine .mv ?_
  have k1_5 := (((kb n8).b n9).t kp10).t kp11
  replace d_S := d_S.k k1_5
  obtain ⟨rs', q1, q2, q3, q4⟩ := RD.swap d_S HI.out HJ.out hvi hvj
  have mS := MCin hs q3 (fun r hr => List.mem_map_of_mem (q2.mem_iff.1 hr)) (q1.trans hl_S) q4
  refine sq ?_
  intro K hK
  have hb := hs.b
  go_big_op
  go_fit (told_yes (MY.out.bl hb) (mS.mn (bd_swM HB.out)) len_mkM (by omega) (HR.out _) (by decide))
  rintro e w_12 ⟨rfl, hb_12⟩
  clear hb
  replace x_b1 := x_b1.bl hb_12; replace hs := hs.bl hb_12
  refine hK _ _ rfl trivial ?_
  clear hK K
  refine sq ?_
  refine .r0 ?_
  apply wpSq_end
  refine hK16 _ _ ?_
  clear mS hcS LO
  have hb := hs.b
  replace HA := hide (HA.out.bl stab_n hb)
  replace MX := hide (MX.out.bl hb)
  replace MZ := hide (MZ.out.bl hb)
  have k0_6 := (((((kb hb_7).b n8).b n9).t kp10).t kp11).b hb_12
  replace hq1 := hq1.k k0_6
  replace hq2 := hq2.k k0_6
  have k5_6 := kb hb_12
  replace d_S := d_S.k k5_6
  clear hb
  replace hBB := hBB.trans (hs.b.mono hBB.size)
  clear hs
  obtain ⟨wb2, e_wb2⟩ : ∃ x, x = w_12 := ⟨_, rfl⟩; subst e_wb2
  have hs := St.nil wb2
  have z_b1 := x_b1
  have lt_b1 := x_b1.lt
  refine cf ?_
  refine wp_skip ?_
  refine hK15 _ _ ?_
  refine wp_seq_k ?_
  intro K17 hK17
  refine rg [0, 1, 2] ?_
  refine sq ?_
  refine .mv ?_
  refine sq ?_
  refine .mv ?_
  refine sq ?_
  refine .r0 ?_
  apply wpSq_end
  refine hK17 _ _ ?_
  refine cf ?_
  refine wp_seq_k ?_
  intro K18 hK18
  refine rg [0, 1, 2] ?_
  refine sq ?_
  refine .mv ?_
  refine sq ?_
  intro K hK
  have hb := hs.b
  go_big_op
  go_fit (rCopy_own (HA.out.bl stab_n hb) hn H.out HK.out (by decide) (by omega))
  rintro e w_13 ⟨g_T, c_T, rs_T, rfl, hl_T, hs_T, d_T, hb_13⟩
  clear hb
  replace x_b1 := x_b1.bl hb_13
  replace hs := hs.mx hl_T hs_T; simp only [List.nil_append] at hs
  refine hK _ _ rfl trivial ?_
  clear hK K
  have mT := MCin hs rfl (fun r hr => List.mem_map_of_mem hr) hl_T d_T
  obtain ⟨gT', offT, curT, tyT, fzT, oi2, ci2, eT, xT, e1, s1'⟩ := mT.rowc (i := i) (by rw [len_mkM]; exact HI.out)
  obtain ⟨gT2, offT2, curT2, tyT2, fzT2, oj2, cj2, eT2, xT2, e2, s2'⟩ := mT.rowc (i := j) (by rw [len_mkM]; exact HJ.out)
  simp only [Option.some.injEq, Addr.mk.injEq, and_true] at eT eT2
  obtain ⟨rfl, rfl⟩ := eT
  obtain ⟨rfl, rfl⟩ := eT2
  obtain ⟨rfl, rfl, rfl⟩ : curT = curT2 ∧ tyT = tyT2 ∧ fzT = fzT2 := by have h1 : w_13.heap[g_T]? = _ := xT; have h2 : w_13.heap[g_T]? = _ := xT2; rw [h1] at h2; simp only [Option.some.injEq, Obj.cells.injEq] at h2; exact h2
  rw [show (rw_ (mkM n k (at2 A)) i).length = k by rw [rw_cp HI.out]; simp, Nat.zero_add] at e1
  rw [show (rw_ (mkM n k (at2 A)) j).length = k by rw [rw_cp HJ.out]; simp, Nat.zero_add] at e2
  clear mT xT2
  refine sq ?_
  refine .mv ?_
  apply wpSq_end
  refine hK18 _ _ ?_
  refine wp_seq_k ?_
  intro K19 hK19
  refine wp_region_f4 [(0, false), (1, false), (2, false), (3, false), (4, false), (5, false), (6, false), (7, false), (8, false), (9, false), (10, false), (11, true), (12, false)] [13] [] (fun _ => default) [99, 99, 99, 99, 99, 0, 99, 99, 99, 0, 1, 99, 99, 99] [(13, 0)] (.c xT (.c x_b1 .n)) fn fun w_14 n14 => ?_
  replace x_b1 := x_b1.bl n14; replace s1' := s1'.bl n14; replace s2' := s2'.bl n14; replace xT := xT.bl n14; replace hs := hs.bl n14
  refine fmv ?_
  refine fmv ?_
  refine fmv ?_
  refine fmv ?_
  refine f0 ?_
  apply wpFl_ld rfl rfl; (case h1 => intro w' hC K hK; have c0 := Bs.cell hC (i) e1; go_big_op; exact hK); iterate 4 kernel_rfl
  refine fmv ?_
  refine fmv ?_
  refine f0 ?_
  apply wpFl_ld rfl rfl; (case h1 => intro w' hC K hK; have c0 := Bs.cell hC (j) e2; go_big_op; exact hK); iterate 4 kernel_rfl
  refine f4 ?_
  refine fl fun w_15 n15 => ?_
  replace x_b1 := x_b1.bl n15; replace s1' := s1'.bl n15; replace s2' := s2'.bl n15; replace xT := xT.bl n15; replace hs := hs.bl n15
  intro K hK
  have k0_3 := ((kb hb_13).b n14).b n15
  replace hq1 := hq1.k k0_3
  replace hq2 := hq2.k k0_3
  go_big_op
  go_fit (rRow_any (n := k) (s1'.sn (rw_bd (bd_cpM HB.out))) (s2'.sn (rw_bd (bd_cpM HB.out))) (.mk' hq1 hq2) (by rw [rw_cp HI.out]; simp) (by rw [rw_cp HJ.out]; simp) (by omega) (by omega) (by decide) (by decide) (by omega))
  rintro e w_16 ⟨o_r, c_r, xs_r, rfl, L_r, d_r, hb_16⟩
  replace x_b1 := x_b1.bl hb_16; replace s1' := s1'.bl hb_16; replace s2' := s2'.bl hb_16; replace xT := xT.bl hb_16
  replace hs := hs.la hb_16 L_r
  refine hK _ _ rfl ⟨hb_16, (And.intro xT (And.intro x_b1 trivial))⟩ ?_
  clear hK K
  refine f0 ?_
  refine e0 hs ?_; clear hs; intro w_17 hs n17
  replace x_b1 := x_b1.bl n17; replace s1' := s1'.bl n17; replace s2' := s2'.bl n17; replace xT := xT.bl n17
  refine tl ?_
  refine .i1 1 hs (j := i) (by omega) ?_ (e := fun _ hB hO => (And.intro True.intro (And.intro (z_b1.bl hB) True.intro))); clear hs; intro w_18 hs kp18 hd18 ho18 hw18; simp only [List.set_cons_succ, List.set_cons_zero] at hs
  replace x_b1 := x_b1.lo lt_b1 hw18
  clear s1'
  clear s2'
  clear xT
  apply wpTail_end
  refine hK19 _ _ ?_
  refine wp_seq_k ?_
  intro K20 hK20
  refine rg [0, 1, 2, 3, 4] ?_
  refine sq ?_
  refine .mv ?_
  refine sq ?_
  refine .mv ?_
  refine sq ?_
  refine .mv ?_
  have k1_6 := ((((kb n14).b n15).b hb_16).b n17).t kp18
  replace d_T := d_T.k k1_6
  have k4_6 := (kb n17).t kp18
  replace d_r := d_r.k k4_6
  have mT := MCin (hs.perm (List.Perm.swap _ _ _)) (rs := rs_T.set i (⟨.slice o_r k c_r, k, xs_r⟩ : Rw)) (by rw [List.map_set]) (fun r hr => by rcases List.mem_or_eq_of_mem_set hr with h | h; exact List.mem_cons_of_mem _ (List.mem_map_of_mem h); rw [h]; exact List.mem_cons_self ..) (by simpa using hl_T) (RD.set1 (by simp [rowR]) d_r d_T)
  rw [row_cp HI.out HJ.out] at mT
  refine sq ?_
  intro K hK
  have hb := hs.b
  have k3_6 := ((kb hb_16).b n17).t kp18
  replace hq1 := hq1.k k3_6
  replace hq2 := hq2.k k3_6
  go_big_op
  go_fit (told_yes (MX.out.bl hb) (mT.mn (bd_arM HB.out hq1.len hq2.len)) len_mkM (by omega) (HR.out _) (by omega))
  rintro e w_19 ⟨rfl, hb_19⟩
  clear hb
  replace hs := hs.bl hb_19
  refine hK _ _ rfl trivial ?_
  clear hK K
  refine sq ?_
  refine .r0 ?_
  apply wpSq_end
  refine hK20 _ _ ?_
  clear mT
  have hb := hs.b
  replace HA := hide (HA.out.bl stab_n hb)
  replace MZ := hide (MZ.out.bl hb)
  have k0_7 := (((k0_3.b hb_16).b n17).t kp18).b hb_19
  replace d_S := d_S.k k0_7
  have k6_7 := kb hb_19
  replace d_T := d_T.k k6_7
  clear hb
  replace hBB := hBB.trans (hs.b.mono hBB.size)
  clear hs
  obtain ⟨wb3, e_wb3⟩ : ∃ x, x = w_19 := ⟨_, rfl⟩; subst e_wb3
  have hs := St.nil wb3
  refine cf ?_
  refine wp_skip ?_
  refine hK11 _ _ ?_
  refine wp_seq_k ?_
  intro K21 hK21
  refine wp_seq_k ?_
  intro K22 hK22
  refine rg [0, 1] ?_
  refine sq ?_
  refine .mv ?_
  refine sq ?_
  refine .r0 ?_
  apply wpSq_end
  refine hK22 _ _ ?_
  refine cf ?_
  refine wp_skip ?_
  refine hK21 _ _ ?_
  refine wp_seq_k ?_
  intro K23 hK23
  refine rg [0, 1, 2] ?_
  refine sq ?_
  refine .mv ?_
  refine sq ?_
  intro K hK
  have hb := hs.b
  go_big_op
  go_fit (rCopy_own (HA.out.bl stab_n hb) hn H.out HK.out (by decide) (by omega))
  rintro e w_20 ⟨g_W, c_W, rs_W, rfl, hl_W, hs_W, d_W, hb_20⟩
  clear hb
  replace hs := hs.mx hl_W hs_W; simp only [List.nil_append] at hs
  refine hK _ _ rfl trivial ?_
  clear hK K
  refine sq ?_
  refine .mv ?_
  apply wpSq_end
  refine hK23 _ _ ?_
  refine wp_seq_k ?_
  intro K24 hK24
  refine wp_seq_k ?_
  intro K25 hK25
  refine rg [0] ?_
  refine sq ?_
  refine .mv ?_
  apply wpSq_end
  refine hK25 _ _ ?_
  refine wp_block ?_
  have hd21 := hs.2.1
  go_loopg [22] k (fun kk s22 wr => ∃ (q : Nat) (rs : List Rw), s22 = .int .i64 (q : Int) ∧ q + kk = k ∧ rs.length = n ∧ RD wr rs (mkM n k (pr (at2 A) i q fun q => turn (kt % 4).toNat (at2 A i q))) ∧ St wb3 (ls wb3.heap.size 39 1 (.slice (some ⟨g_W, 0, none⟩) n c_W) n (rs.map (·.v)) :: ([] ++ rs.map (Rw.e wb3.heap.size))) wr)
  case atStart => exact ⟨0, rs_W, rfl, by omega, hl_W, by rw [← pr_0]; exact d_W, hs⟩
  case round =>
  clear d_S d_T d_W hq1 hq2 x_b1 d_r hs
  obtain ⟨q, rs, rfl, hqk, hrl, hd, hs⟩ := hrel
  by_cases hqk2 : q < k
  · have HQ := hide hqk2
    obtain ⟨r1, gr, cr, xs, r2, rfl, hr1, hrv, hx, hs⟩ := hs.row (bs := []) hd (p := i) (K := k) (by rw [len_mkM]; exact HI.out) (by rw [mkM_row HI.out]; simp) (by omega)
    have LO : Lst wr wb3.heap.size 39 1 (.slice (some ⟨g_W, 0, none⟩) n c_W) n _ := hs.1.2.1.1
    obtain ⟨gO', curO, eO', xO, hcO⟩ := LO.box (by omega)
    simp only [Option.some.injEq, Addr.mk.injEq, and_true] at eO'
    obtain rfl : g_W = gO' := eO'
    have eO := hcO _ _ hrv
    have LR : Lst wr wb3.heap.size 41 4 (.slice (some ⟨gr, 0, none⟩) k cr) k xs := hs.1.1.1
    obtain ⟨gr', curR, eR, xR, hcR⟩ := LR.box (by omega)
    simp only [Option.some.injEq, Addr.mk.injEq, and_true] at eR
    obtain rfl : gr = gr' := eR
    have hx2 := hx
    rw [mkM_row HI.out] at hx2
    obtain ⟨a1, a2, a3, a4, a5, a6, a7, a8, e1, e2, e3, e4, z1, z2⟩ := hx2.els q (by simpa using hqk2)
    rw [show ((List.range k).map (pr (at2 A) i q (fun q => turn (kt % 4).toNat (at2 A i q)) i))[q]'(by simpa using hqk2) = at2 A i q by simp [pr_here]] at z1 z2
    have LB := hide (at2_bd (i := i) (j := q) HB.out)
    replace z1 := z1.zn LB.out.1
    replace z2 := z2.zn LB.out.2
    replace e1 := hcR _ _ e1
    replace e2 := hcR _ _ e2
    replace e3 := hcR _ _ e3
    replace e4 := hcR _ _ e4
    clear LO hcO hrv LR hcR hx2
    have HGq := hide (show at2 A i q = at2 A i q from rfl)
    refine wp_seq_k ?_
    intro K26 hK26
    refine wp_seq_k ?_
    intro K27 hK27
    refine rg [0, 1, 2, 3, 4, 5, 6] ?_
    refine sq ?_
    refine .mv ?_
    refine sq ?_
    refine .mv ?_
    refine sq ?_
    refine .mv ?_
    refine sq ?_
    refine .r0 ?_
    refine sq ?_
    refine .r1 (xO.cell _ eO) ?_
    refine sq ?_
    refine .r0 ?_
    refine sq ?_
    refine .r0 ?_
    apply wpSq_end
    refine hK27 _ _ ?_
    refine ct ?_
    refine wp_skip ?_
    refine hK26 _ _ ?_
    refine wp_seq_k ?_
    intro K28 hK28
    refine wp_block ?_
    refine wp_region_f4 [(0, false), (1, false), (2, false), (3, false), (4, false), (5, false), (6, false), (7, false), (8, false), (9, false), (10, false), (11, false), (12, false), (13, true), (14, false)] [15] [] (fun _ => default) [99, 99, 99, 0, 99, 99, 99, 99, 0, 99, 99, 1, 99, 99, 99, 99] [(15, 1)] (.c xO (.c xR .n)) fn fun w_22 n22 => ?_
    replace xR := xR.bl n22; replace xO := xO.bl n22; replace hs := hs.bl n22
    refine fmv ?_
    refine fmv ?_
    refine f0 ?_
    apply wpFl_ld rfl rfl; (case h1 => intro w' hC K hK; have c0 := Bs.cell hC (i) eO; go_big_op; exact hK); iterate 4 kernel_rfl
    refine fmv ?_
    refine fmv ?_
    refine fmv ?_
    refine f0 ?_
    apply wpFl_ld rfl rfl; (case h1 => intro w' hC K hK; have c0 := Bs.cell hC (i) eO; go_big_op; exact hK); iterate 4 kernel_rfl
    refine fmv ?_
    refine f0 ?_
    apply wpFl_ld rfl rfl; (case h1 => intro w' hC K hK; have c0 := Bs.cell hC ((q * 4)) e1; have c1 := Bs.cell hC ((q * 4) + 1) e2; have c2 := Bs.cell hC ((q * 4) + 2) e3; have c3 := Bs.cell hC ((q * 4) + 3) e4; go_big_op; exact hK); iterate 4 kernel_rfl
    refine fmv ?_
    refine fl fun w_23 n23 => ?_
    replace xR := xR.bl n23; replace xO := xO.bl n23; replace hs := hs.bl n23
    intro K hK
    have k0_2 := (kb n22).b n23
    replace z1 := z1.k k0_2
    replace z2 := z2.k k0_2
    go_big_op
    go_fit (rgTurn_any kt (.mk' z1 z2) (by decide) (by decide))
    rintro e w_24 ⟨_, rfl, ⟨n_ta, o_ta, k_ta, c_ta, n_tb, o_tb, k_tb, c_tb, rfl, t1, t2⟩, hb_24⟩
    replace xR := xR.bl hb_24; replace xO := xO.bl hb_24; replace hs := hs.bl hb_24
    refine hK _ _ rfl ⟨hb_24, (And.intro xO (And.intro xR trivial))⟩ ?_
    clear hK K
    refine f0 ?_
    refine e0 hs ?_; clear hs; intro w_25 hs n25
    replace xR := xR.bl n25; replace xO := xO.bl n25
    refine tl ?_
    refine .i4 0 hs (j := q) (by omega) ?_ (e := fun _ hB hO => (And.intro (xO.frame hO (hs.ne 1 0)) (And.intro True.intro True.intro))); clear hs; intro w_26 hs kp26 hd26 ho26 hw26; simp only [List.set_cons_zero] at hs
    clear xR
    clear xO
    apply wpTail_end
    refine hK28 _ _ ?_
    refine rg [0, 1, 2] ?_
    refine sq ?_
    refine .mv ?_
    refine sq ?_
    refine .r0 ?_
    refine sq ?_
    refine .mv ?_
    apply wpSq_end
    have k0_5 := ((k0_2.b hb_24).b n25).t kp26
    replace hd := hd.k k0_5
    replace hx := hx.k k0_5
    have k3_5 := (kb n25).t kp26
    replace t1 := t1.k k3_5
    replace t2 := t2.k k3_5
    refine ‹∀ (a' : Act) (w' : World), Handed _ _ a' w' → _› _ _ ?_
    go_roundg (gk - 1)
    case rel => exact ⟨q + 1, _, by rfl, by omega, by simpa using hrl, by rw [← pr_step]; exact hd.upd hr1 HI.out HQ.out hx t1 t2, hs.unrow (bs := [])⟩
    case measure => omega
  · obtain rfl : k = q := by omega
    have HX := hide hqk2
    obtain ⟨oi3, ci3, hrv⟩ := hs.rowv (bs := []) hd (p := i) (K := k) (by rw [len_mkM]; exact HI.out) (by rw [mkM_row HI.out]; simp)
    have LO : Lst wr wb3.heap.size 39 1 (.slice (some ⟨g_W, 0, none⟩) n c_W) n _ := hs.1.1.1
    obtain ⟨gO', curO, eO', xO, hcO⟩ := LO.box (by omega)
    simp only [Option.some.injEq, Addr.mk.injEq, and_true] at eO'
    obtain rfl : g_W = gO' := eO'
    have eO := hcO _ _ hrv
    clear LO hcO hrv
    have mW := MCin (bs := ([] ++ rs.map (Rw.e wb3.heap.size))) hs rfl (fun r hr => List.mem_map_of_mem hr) hrl hd
    rw [pr_end] at mW
    have MW := hide mW
    clear mW
    refine wp_seq_k ?_
    intro K26 hK26
    refine wp_seq_k ?_
    intro K27 hK27
    refine rg [0, 1, 2, 3, 4, 5, 6] ?_
    refine sq ?_
    refine .mv ?_
    refine sq ?_
    refine .mv ?_
    refine sq ?_
    refine .mv ?_
    refine sq ?_
    refine .r0 ?_
    refine sq ?_
    refine .r1 (xO.cell _ eO) ?_
    refine sq ?_
    refine .r0 ?_
    refine sq ?_
    refine .r0 ?_
    apply wpSq_end
    refine hK27 _ _ ?_
    refine cf ?_
    refine wp_exit ?_
    refine hK24 _ _ ?_
    refine wp_seq_k ?_
    intro K28 hK28
    refine rg [0, 1, 2, 3, 4] ?_
    refine sq ?_
    refine .mv ?_
    refine sq ?_
    refine .mv ?_
    refine sq ?_
    refine .mv ?_
    refine sq ?_
    intro K hK
    have hb := hs.b
    go_big_op
    go_fit (told_yes (MZ.out.bl hb) (MW.out.mn (bd_tuM HB.out)) len_mkM (by omega) (HR.out _) (by decide))
    rintro e w_22 ⟨rfl, hb_22⟩
    clear hb
    replace xO := xO.bl hb_22; replace hs := hs.bl hb_22
    refine hK _ _ rfl trivial ?_
    clear hK K
    refine sq ?_
    refine .mv ?_
    apply wpSq_end
    refine hK28 _ _ ?_
    refine wp_ret ?_
    try dsimp only [Exit.then, Exit.inBlock]
    refine bodyPost_ret (v := (.bool true)) (by simp [results, Try.results4, go_sem]) rfl ?_
    exact ⟨rfl, hBB.trans (hs.b.mono hBB.size)⟩
set_option maxHeartbeats 4000000 in
set_option maxRecDepth 20000 in
theorem rows_bad (ha : MN 1048576 w o A) (hq : PN w vg u l v l) (hn : A.length = n) (hl : l = 1048576) (hln : n ≤ 1048576) (h : ¬ gd A) :
    Calls Try.prog 4 #[.slice o n c, .int .i64 a, .int .i64 b, vg, .int .i64 kt] w fun e w' => e = .returned (.bool true) ∧ Below w.heap.size w w' := by
  have HA := hide ha
  have H := hide h
  clear ha h
  obtain ⟨n_3a, o_3a, k_3a, c_3a, n_3b, o_3b, k_3b, c_3b, rfl, hq1, hq2⟩ := hq
  go_enter Try.func4, Try.ntmps4
  have hs := St.nil w
  refine wp_seq_k ?_
  intro K1 hK1
  refine rg [0, 1] ?_
  refine sq ?_
  refine .al hs ?_; clear hs; intro p_b1 w_1 hs n1 kb_b1
  refine sq ?_
  refine .mv ?_
  apply wpSq_end
  refine hK1 _ _ ?_
  refine wp_seq_k ?_
  intro K2 hK2
  refine rg [0, 1, 2, 3, 4, 5, 6, 7, 8, 9] ?_
  refine sq ?_
  refine .mv ?_
  refine sq ?_
  refine .mv ?_
  refine sq ?_
  refine .mv ?_
  refine sq ?_
  refine .r4 hs.g0.f4 ?_
  refine sq ?_
  intro K hK
  have hb := hs.b
  have k0_1 := kb n1
  replace hq1 := hq1.k k0_1
  replace hq2 := hq2.k k0_1
  go_big_op
  go_fit (mAddRow_bad (HA.out.bl stab_n hb) (.mk' hq1 hq2) hn H.out (by omega))
  rintro e w_2 ⟨rfl, hb_2⟩
  clear hb
  replace hs := hs.bl hb_2
  refine hK _ _ rfl trivial ?_
  clear hK K
  refine sq ?_
  refine .mv ?_
  refine sq ?_
  refine .r0 ?_
  refine sq ?_
  refine .r0 ?_
  refine sq ?_
  refine .mv ?_
  refine sq ?_
  refine .mv ?_
  apply wpSq_end
  refine hK2 _ _ ?_
  refine wp_seq_k ?_
  intro K3 hK3
  refine rg [0, 1, 2, 3, 4, 5, 6, 7, 8] ?_
  refine sq ?_
  refine .mv ?_
  refine sq ?_
  refine .mv ?_
  refine sq ?_
  refine .mv ?_
  refine sq ?_
  intro K hK
  have hb := hs.b
  go_big_op
  go_fit (mSwap_bad (HA.out.bl stab_n hb) hn H.out (by omega))
  rintro e w_3 ⟨rfl, hb_3⟩
  clear hb
  replace hs := hs.bl hb_3
  refine hK _ _ rfl trivial ?_
  clear hK K
  refine sq ?_
  refine .mv ?_
  refine sq ?_
  refine .r0 ?_
  refine sq ?_
  refine .r0 ?_
  refine sq ?_
  refine .mv ?_
  refine sq ?_
  refine .mv ?_
  apply wpSq_end
  refine hK3 _ _ ?_
  refine wp_seq_k ?_
  intro K4 hK4
  refine rg [0, 1, 2, 3, 4, 5, 6, 7, 8] ?_
  refine sq ?_
  refine .mv ?_
  refine sq ?_
  refine .mv ?_
  refine sq ?_
  refine .mv ?_
  refine sq ?_
  intro K hK
  have hb := hs.b
  go_big_op
  go_fit (mTurn_bad (kt := kt) (HA.out.bl stab_n hb) hn H.out (by omega))
  rintro e w_4 ⟨rfl, hb_4⟩
  clear hb
  replace hs := hs.bl hb_4
  refine hK _ _ rfl trivial ?_
  clear hK K
  refine sq ?_
  refine .mv ?_
  refine sq ?_
  refine .r0 ?_
  refine sq ?_
  refine .r0 ?_
  refine sq ?_
  refine .mv ?_
  refine sq ?_
  refine .mv ?_
  apply wpSq_end
  refine hK4 _ _ ?_
  refine wp_seq_k ?_
  intro K5 hK5
  refine wp_seq_k ?_
  intro K6 hK6
  refine rg [0, 1] ?_
  refine sq ?_
  intro K hK
  go_big_op
  go_fit (awake8_any _)
  rintro e w_5 ⟨rfl, hb_5⟩
  replace hs := hs.bl hb_5
  refine hK _ _ rfl trivial ?_
  clear hK K
  refine sq ?_
  refine .r0 ?_
  apply wpSq_end
  refine hK6 _ _ ?_
  refine cf ?_
  refine wp_skip ?_
  refine hK5 _ _ ?_
  refine wp_seq_k ?_
  intro K7 hK7
  refine wp_seq_k ?_
  intro K8 hK8
  refine rg [0, 1, 2] ?_
  refine sq ?_
  refine .mv ?_
  refine sq ?_
  intro K hK
  have hb := hs.b
  go_big_op
  go_fit (rGood_any (HA.out.bl stab_n hb) hn (by omega))
  rintro e w_6 ⟨rfl, hb_6⟩
  clear hb
  replace hs := hs.bl hb_6
  rw [decide_eq_false H.out]
  refine hK _ _ rfl trivial ?_
  clear hK K
  refine sq ?_
  refine .r0 ?_
  apply wpSq_end
  refine hK8 _ _ ?_
  refine ct ?_
  refine wp_seq_k ?_
  intro K9 hK9
  refine rg [0, 1, 2, 3, 4, 5, 6, 7, 8, 9, 10, 11, 12, 13, 14, 15, 16] ?_
  refine sq ?_
  refine .mv ?_
  refine sq ?_
  refine .mv ?_
  refine sq ?_
  refine .mv ?_
  refine sq ?_
  intro K hK
  go_big_op
  go_fit (told_no 4 (by decide) rfl)
  rintro e w_7 ⟨rfl, hb_7⟩
  replace hs := hs.bl hb_7
  refine hK _ _ rfl trivial ?_
  clear hK K
  refine sq ?_
  refine .mv ?_
  refine sq ?_
  refine .mv ?_
  refine sq ?_
  refine .mv ?_
  refine sq ?_
  refine .mv ?_
  refine sq ?_
  intro K hK
  go_big_op
  go_fit (told_no 4 (by decide) rfl)
  rintro e w_8 ⟨rfl, hb_8⟩
  replace hs := hs.bl hb_8
  refine hK _ _ rfl trivial ?_
  clear hK K
  refine sq ?_
  refine .r0 ?_
  refine sq ?_
  refine .mv ?_
  refine sq ?_
  refine .mv ?_
  refine sq ?_
  refine .mv ?_
  refine sq ?_
  refine .mv ?_
  refine sq ?_
  intro K hK
  go_big_op
  go_fit (told_no 4 (by decide) rfl)
  rintro e w_9 ⟨rfl, hb_9⟩
  replace hs := hs.bl hb_9
  refine hK _ _ rfl trivial ?_
  clear hK K
  refine sq ?_
  refine .r0 ?_
  refine sq ?_
  refine .mv ?_
  apply wpSq_end
  refine hK9 _ _ ?_
  refine wp_ret ?_
  try dsimp only [Exit.then, Exit.inBlock]
  refine bodyPost_ret (v := (.bool true)) (by simp [results, Try.results4, go_sem]) rfl ?_
  exact ⟨rfl, hs.b⟩
end
theorem place {n : Nat} (z : Int) : z < 0 ∨ (n : Int) ≤ z ∨ ∃ i : Nat, z = (i : Int) ∧ i < n := by
  by_cases h : z < 0
  · exact .inl h
  · by_cases h2 : (n : Int) ≤ z
    · exact .inr (.inl h2)
    · exact .inr (.inr ⟨z.toNat, by omega, by omega⟩)
theorem walk_GmatRows (w : World) (o : Option Addr) (n c : Nat) (A : List (List (Int × Int))) (ha : MN 1048576 w o A) (hn : A.length = n) (la : n ≤ 1048576)
    (a : Int) (a1 : -9223372036854775808 ≤ a) (a2 : a ≤ 9223372036854775807) (b : Int) (b1 : -9223372036854775808 ≤ b) (b2 : b ≤ 9223372036854775807)
    (n1 : Bool) (s1 : Value) (xs : List Nat) (h1 : Rd w s1 xs) (l1 : xs.length ≤ 1048576) (n2 : Bool) (s2 : Value) (ys : List Nat) (h2 : Rd w s2 ys) (l2 : ys.length ≤ 1048576)
    (k : Int) (k1 : -9223372036854775808 ≤ k) (k2 : k ≤ 9223372036854775807) :
    Calls Try.prog 4 #[.slice o n c, .int .i64 a, .int .i64 b, .agg #[.bool n1, s1, .bool n2, s2], .int .i64 k] w fun e w' => e = .returned (.bool true) ∧ Below w.heap.size w w' := by
  have hq := PN.of_rd n1 n2 h1 l1 h2 l2
  by_cases h : gd A
  · rcases place (n := n) a with ha1 | ha1 | ⟨i, rfl, ha1⟩ <;> rcases place (n := n) b with hb1 | hb1 | ⟨j, rfl, hb1⟩
    · exact rows_ll ha hq hn rfl h ha1 hb1
    · exact rows_lh ha hq hn rfl h ha1 hb1
    · exact rows_lo ha hq hn rfl h ha1 hb1
    · exact rows_hl ha hq hn rfl h ha1 hb1
    · exact rows_hh ha hq hn rfl h ha1 hb1
    · exact rows_ho ha hq hn rfl h ha1 hb1
    · exact rows_ol ha hq hn rfl h ha1 hb1
    · exact rows_oh ha hq hn rfl h ha1 hb1
    · by_cases e : i = j
      · subst e; exact rows_os ha hq hn rfl h ha1
      · exact rows_od ha hq hn rfl h ha1 hb1 e
  · exact rows_bad ha hq hn rfl la h
end Go.Proofs.Ytnkimagnmnocdaa

