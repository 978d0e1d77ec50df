/- The walk of GmatSums, a part. -/
import Derived.Test.YtajmgjgobgchjaaI7ToO16
namespace Go.Proofs.Ytajmgjgobgchjaa
open Go Go.RowKit Dig
set_option linter.unusedVariables false
section
variable {w : World} {na nb ka kb' N ca cb : Nat} {z D : Int} {oa ob : Option Addr} {A B : List (List (Int × Int))}
set_option maxHeartbeats 4000000 in
set_option maxRecDepth 20000 in
theorem sums_aneg (ha : MN 1048576 w oa A) (hb' : MN 1048576 w ob B) (hna : A.length = na) (hnb : B.length = nb) (la : na ≤ 1048576) (lb : nb ≤ 1048576) (h1 : ¬ gd A) (dz : z < 0) :
    Calls Try.prog 3 #[.slice oa na ca, .slice ob nb cb, .int .i64 z] w fun e w' => e = .returned (.bool true) ∧ Below w.heap.size w w' := by
  have OS := hide (show ¬ os2 A B from fun c => h1 c.1)
  have ML := hide (show ¬ ml2 A B from fun c => h1 c.1)
  have HQ := hide (show decide (eqM A B) = false from decide_eq_false fun c => h1 c.1.1)
  have t0 : ((na : Int) != (na : Int)) = false := by simp
  have s1 : (z < 0) = True := eq_true dz
  have s2 : ((64 : Int) < z) = False := eq_false (by omega)
  have s3 : ((0 : Int) ≤ z) = False := eq_false (by omega)
  have HA := hide ha
  have HB := hide hb'
  have H1 := hide h1
  clear ha hb' h1
  go_enter Try.func3, Try.ntmps3
  have hs := St.nil w
  refine wp_seq_k ?_
  intro K1 hK1
  refine rg [0] ?_
  refine sq ?_
  refine .mv ?_
  apply wpSq_end
  refine hK1 _ _ ?_
  refine wp_seq_k ?_
  intro K2 hK2
  refine rg [0, 1, 2, 3, 4, 5, 6, 7, 8] ?_
  refine sq ?_
  refine .mv ?_
  refine sq ?_
  intro K hK
  have hb := hs.b
  go_big_op
  go_fit (mSize_bad (HA.out.bl stab_n hb) hna H1.out (by omega))
  rintro e w_1 ⟨rfl, hb_1⟩
  clear hb
  replace hs := hs.bl hb_1
  refine hK _ _ rfl trivial ?_
  clear hK K
  refine sq ?_
  refine .mv ?_
  refine sq ?_
  refine .r0 ?_
  refine sq ?_
  refine .r0 ?_
  refine sq ?_
  refine .r0 ?_
  refine sq ?_
  refine .mv ?_
  refine sq ?_
  refine .mv ?_
  refine sq ?_
  refine .mv ?_
  apply wpSq_end
  refine hK2 _ _ ?_
  refine wp_seq_k ?_
  intro K3 hK3
  refine rg [0, 1, 2, 3, 4, 5, 6, 7] ?_
  refine sq ?_
  refine .mv ?_
  refine sq ?_
  refine .mv ?_
  refine sq ?_
  intro K hK
  have hb := hs.b
  go_big_op
  go_fit (mAdd_bad (HA.out.bl stab_n hb) (HB.out.bl stab_n hb) hna hnb OS.out (by omega) (by omega))
  rintro e w_2 ⟨rfl, hb_2⟩
  clear hb
  replace hs := hs.bl hb_2
  refine hK _ _ rfl trivial ?_
  clear hK K
  refine sq ?_
  refine .mv ?_
  refine sq ?_
  refine .r0 ?_
  refine sq ?_
  refine .r0 ?_
  refine sq ?_
  refine .mv ?_
  refine sq ?_
  refine .mv ?_
  apply wpSq_end
  refine hK3 _ _ ?_
  refine wp_seq_k ?_
  intro K4 hK4
  refine rg [0, 1, 2, 3, 4, 5, 6, 7] ?_
  refine sq ?_
  refine .mv ?_
  refine sq ?_
  refine .mv ?_
  refine sq ?_
  intro K hK
  have hb := hs.b
  go_big_op
  go_fit (mSub_bad (HA.out.bl stab_n hb) (HB.out.bl stab_n hb) hna hnb OS.out (by omega) (by omega))
  rintro e w_3 ⟨rfl, hb_3⟩
  clear hb
  replace hs := hs.bl hb_3
  refine hK _ _ rfl trivial ?_
  clear hK K
  refine sq ?_
  refine .mv ?_
  refine sq ?_
  refine .r0 ?_
  refine sq ?_
  refine .r0 ?_
  refine sq ?_
  refine .mv ?_
  refine sq ?_
  refine .mv ?_
  apply wpSq_end
  refine hK4 _ _ ?_
  refine wp_seq_k ?_
  intro K5 hK5
  refine rg [0, 1, 2, 3, 4, 5, 6, 7] ?_
  refine sq ?_
  refine .mv ?_
  refine sq ?_
  refine .mv ?_
  refine sq ?_
  intro K hK
  have hb := hs.b
  go_big_op
  go_fit (mMul_bad (HA.out.bl stab_n hb) (HB.out.bl stab_n hb) hna hnb ML.out (by omega) (by omega))
  rintro e w_4 ⟨rfl, hb_4⟩
  clear hb
  replace hs := hs.bl hb_4
  refine hK _ _ rfl trivial ?_
  clear hK K
  refine sq ?_
  refine .mv ?_
  refine sq ?_
  refine .r0 ?_
  refine sq ?_
  refine .r0 ?_
  refine sq ?_
  refine .mv ?_
  refine sq ?_
  refine .mv ?_
  apply wpSq_end
  refine hK5 _ _ ?_
  refine wp_seq_k ?_
  intro K6 hK6
  refine rg [0, 1, 2, 3, 4, 5, 6] ?_
  refine sq ?_
  refine .mv ?_
  refine sq ?_
  intro K hK
  go_big_op
  go_fit (mIdent_neg dz)
  rintro e w_5 ⟨rfl, hb_5⟩
  replace hs := hs.bl hb_5
  refine hK _ _ rfl trivial ?_
  clear hK K
  refine sq ?_
  refine .mv ?_
  refine sq ?_
  refine .r0 ?_
  refine sq ?_
  refine .r0 ?_
  refine sq ?_
  refine .mv ?_
  refine sq ?_
  refine .mv ?_
  apply wpSq_end
  refine hK6 _ _ ?_
  refine wp_seq_k ?_
  intro K7 hK7
  refine rg [0, 1, 2] ?_
  refine sq ?_
  refine .mv ?_
  refine sq ?_
  intro K hK
  have hb := hs.b
  go_big_op
  go_fit (rGood_any (HA.out.bl stab_n hb) hna (by omega))
  rintro e w_6 ⟨rfl, hb_6⟩
  clear hb
  replace hs := hs.bl hb_6
  rw [decide_eq_false H1.out]
  refine hK _ _ rfl trivial ?_
  clear hK K
  refine sq ?_
  refine .mv ?_
  apply wpSq_end
  refine hK7 _ _ ?_
  refine wp_seq_k ?_
  intro K8 hK8
  refine rg [0, 1, 2, 3, 4, 5] ?_
  refine sq ?_
  refine .mv ?_
  refine sq ?_
  refine .mv ?_
  refine sk ?_
  refine sk ?_
  refine sq ?_
  refine .r0 ?_
  refine sq ?_
  refine .mv ?_
  apply wpSq_end
  refine hK8 _ _ ?_
  refine wp_seq_k ?_
  intro K9 hK9
  refine wp_seq_k ?_
  intro K10 hK10
  refine rg [0, 1, 2, 3, 4, 5, 6, 7, 8, 9, 10, 11, 12, 13, 14, 15, 16, 17, 18, 19] ?_
  refine sq ?_
  intro K hK
  go_big_op
  go_fit (awake8_any _)
  rintro e w_7 ⟨rfl, hb_7⟩
  replace hs := hs.bl hb_7
  refine hK _ _ rfl trivial ?_
  clear hK K
  refine sq ?_
  refine .r0 ?_
  refine sq ?_
  refine .mv ?_
  refine sq ?_
  refine .mv ?_
  refine sq ?_
  intro K hK
  have hb := hs.b
  go_big_op
  go_fit (good_no (HA.out.bl stab_n hb) hna (by omega) H1.out)
  rintro e w_8 ⟨rfl, hb_8⟩
  clear hb
  replace hs := hs.bl hb_8
  refine hK _ _ rfl trivial ?_
  clear hK K
  refine sq ?_
  refine .mv ?_
  refine sq ?_
  refine .r0 ?_
  refine sq ?_
  refine .r0 ?_
  refine sq ?_
  refine .mv ?_
  refine sq ?_
  refine .mv ?_
  refine sq ?_
  refine .mv ?_
  refine sq ?_
  intro K hK
  have hb := hs.b
  go_big_op
  go_fit (mEqual_any (HA.out.bl stab_n hb) (HB.out.bl stab_n hb) hna hnb (by omega) (by omega) (by decide) (by decide))
  rintro e w_9 ⟨rfl, hb_9⟩
  clear hb
  replace hs := hs.bl hb_9
  rw [HQ.out]
  refine hK _ _ rfl trivial ?_
  clear hK K
  refine sq ?_
  refine .mv ?_
  refine sq ?_
  refine .mv ?_
  refine sk ?_
  refine sk ?_
  refine sk ?_
  refine sq ?_
  refine .r0 ?_
  refine sq ?_
  refine .r0 ?_
  refine sq ?_
  refine .r0 ?_
  apply wpSq_end
  refine hK10 _ _ ?_
  refine cf ?_
  refine wp_skip ?_
  refine hK9 _ _ ?_
  refine wp_seq_k ?_
  intro K11 hK11
  refine wp_seq_k ?_
  intro K12 hK12
  refine rg [0, 1, 2, 3, 4, 5, 6, 7, 8, 9, 10, 11, 12, 13, 14, 15, 16, 17, 18, 19, 20, 21, 22, 23, 24, 25, 26, 27, 28, 29, 30, 31, 32] ?_
  refine sq ?_
  refine .mv ?_
  refine sq ?_
  refine .mv ?_
  refine sk ?_
  refine sk ?_
  refine sk ?_
  refine sk ?_
  refine sk ?_
  refine sk ?_
  refine sk ?_
  refine sk ?_
  refine sk ?_
  refine sk ?_
  refine sk ?_
  refine sk ?_
  refine sk ?_
  refine sk ?_
  refine sq ?_
  refine .r0 ?_
  refine sq ?_
  refine .mv ?_
  refine sq ?_
  refine .mv ?_
  refine sq ?_
  refine .r0 ?_
  refine sq ?_
  refine .mv ?_
  refine sq ?_
  refine .mv ?_
  refine sq ?_
  refine .r0 ?_
  refine sq ?_
  refine .mv ?_
  refine sq ?_
  refine .mv ?_
  refine sq ?_
  refine .r0 ?_
  refine sq ?_
  refine .r0 ?_
  refine sq ?_
  refine .mv ?_
  refine sq ?_
  refine .mv ?_
  refine sq ?_
  refine .r0 ?_
  refine sq ?_
  refine .r0 ?_
  refine sq ?_
  refine .r0 ?_
  refine sq ?_
  refine .r0 ?_
  apply wpSq_end
  refine hK12 _ _ ?_
  refine cf ?_
  refine wp_skip ?_
  refine hK11 _ _ ?_
  refine wp_seq_k ?_
  intro K13 hK13
  refine wp_seq_k ?_
  intro K14 hK14
  refine rg [0, 1, 2, 3, 4, 5, 6, 7, 8, 9, 10, 11, 12, 13, 14, 15, 16, 17, 18, 19, 20, 21, 22, 23, 24, 25, 26, 27, 28, 29, 30, 31, 32, 33, 34, 35] ?_
  refine sq ?_
  refine .mv ?_
  refine sq ?_
  refine .r0 ?_
  refine sq ?_
  refine .mv ?_
  refine sq ?_
  refine .mv ?_
  refine sq ?_
  refine .mv ?_
  refine sq ?_
  refine .mv ?_
  refine sq ?_
  intro K hK
  go_big_op
  go_fit (told_no 9 (by decide) rfl)
  rintro e w_10 ⟨rfl, hb_10⟩
  replace hs := hs.bl hb_10
  refine hK _ _ rfl trivial ?_
  clear hK K
  refine sq ?_
  refine .r0 ?_
  refine sq ?_
  refine .r0 ?_
  refine sq ?_
  refine .mv ?_
  refine sq ?_
  refine .mv ?_
  refine sq ?_
  refine .r0 ?_
  refine sq ?_
  refine .mv ?_
  refine sk ?_
  refine sk ?_
  refine sk ?_
  refine sk ?_
  refine sk ?_
  refine sq ?_
  refine .r0 ?_
  refine sq ?_
  refine .r0 ?_
  refine sq ?_
  refine .mv ?_
  refine sq ?_
  refine .mv ?_
  refine sq ?_
  refine .r0 ?_
  refine sq ?_
  refine .mv ?_
  refine sk ?_
  refine sk ?_
  refine sq ?_
  refine .r0 ?_
  refine sq ?_
  refine .mv ?_
  refine sk ?_
  refine sk ?_
  refine sk ?_
  refine sk ?_
  refine sk ?_
  refine sk ?_
  refine sq ?_
  refine .r0 ?_
  refine sq ?_
  refine .r0 ?_
  apply wpSq_end
  refine hK14 _ _ ?_
  refine cf ?_
  refine wp_skip ?_
  refine hK13 _ _ ?_
  refine wp_seq_k ?_
  intro K15 hK15
  refine wp_seq_k ?_
  intro K16 hK16
  refine rg [0, 1, 2, 3, 4, 5, 6, 7, 8, 9, 10, 11, 12, 13, 14, 15] ?_
  refine sq ?_
  refine .mv ?_
  refine sq ?_
  refine .r0 ?_
  refine sq ?_
  refine .mv ?_
  refine sk ?_
  refine sk ?_
  refine sk ?_
  refine sk ?_
  refine sk ?_
  refine sq ?_
  refine .r0 ?_
  refine sq ?_
  refine .mv ?_
  refine sk ?_
  refine sk ?_
  refine sk ?_
  refine sk ?_
  refine sk ?_
  refine sq ?_
  refine .r0 ?_
  apply wpSq_end
  refine hK16 _ _ ?_
  refine ct ?_
  refine wp_seq_k ?_
  intro K17 hK17
  refine rg [0, 1, 2, 3, 4, 5, 6, 7, 8, 9, 10, 11] ?_
  refine sq ?_
  refine .mv ?_
  refine sq ?_
  refine .mv ?_
  refine sq ?_
  refine .mv ?_
  refine sq ?_
  intro K hK
  go_big_op
  go_fit (told_no 4 (by decide) rfl)
  rintro e w_11 ⟨rfl, hb_11⟩
  replace hs := hs.bl hb_11
  refine hK _ _ rfl trivial ?_
  clear hK K
  refine sq ?_
  refine .r0 ?_
  refine sq ?_
  refine .mv ?_
  refine sq ?_
  refine .mv ?_
  refine sq ?_
  refine .mv ?_
  refine sq ?_
  refine .mv ?_
  refine sq ?_
  intro K hK
  go_big_op
  go_fit (told_no 4 (by decide) rfl)
  rintro e w_12 ⟨rfl, hb_12⟩
  replace hs := hs.bl hb_12
  refine hK _ _ rfl trivial ?_
  clear hK K
  refine sq ?_
  refine .r0 ?_
  refine sq ?_
  refine .r0 ?_
  apply wpSq_end
  refine hK17 _ _ ?_
  refine cf ?_
  refine wp_skip ?_
  refine hK15 _ _ ?_
  refine wp_seq_k ?_
  intro K18 hK18
  refine wp_seq_k ?_
  intro K19 hK19
  refine rg [0, 1, 2, 3, 4, 5, 6, 7, 8] ?_
  refine sq ?_
  refine .mv ?_
  refine sq ?_
  refine .r0 ?_
  refine sq ?_
  refine .mv ?_
  refine sk ?_
  refine sk ?_
  refine sk ?_
  refine sk ?_
  refine sk ?_
  refine sq ?_
  refine .r0 ?_
  apply wpSq_end
  refine hK19 _ _ ?_
  refine ct ?_
  refine wp_seq_k ?_
  intro K20 hK20
  refine rg [0, 1, 2, 3, 4] ?_
  refine sq ?_
  refine .mv ?_
  refine sq ?_
  refine .mv ?_
  refine sq ?_
  refine .mv ?_
  refine sq ?_
  intro K hK
  go_big_op
  go_fit (told_no 4 (by decide) rfl)
  rintro e w_13 ⟨rfl, hb_13⟩
  replace hs := hs.bl hb_13
  refine hK _ _ rfl trivial ?_
  clear hK K
  refine sq ?_
  refine .mv ?_
  apply wpSq_end
  refine hK20 _ _ ?_
  refine wp_ret ?_
  try dsimp only [Exit.then, Exit.inBlock]
  refine bodyPost_ret (v := (.bool true)) (by simp [results, Try.results3, go_sem]) rfl ?_
  exact ⟨rfl, hs.b⟩
set_option maxHeartbeats 4000000 in
set_option maxRecDepth 20000 in
theorem sums_bneg (ha : MN 1048576 w oa A) (hb' : MN 1048576 w ob B) (hna : A.length = na) (hnb : B.length = nb) (la : na ≤ 1048576) (lb : nb ≤ 1048576) (h1 : gd A) (h2 : ¬ gd B) (hka : wd A = ka) (dz : z < 0) :
    Calls Try.prog 3 #[.slice oa na ca, .slice ob nb cb, .int .i64 z] w fun e w' => e = .returned (.bool true) ∧ Below w.heap.size w w' := by
  have OS := hide (show ¬ os2 A B from fun c => h2 c.2.1)
  have ML := hide (show ¬ ml2 A B from fun c => h2 c.2.1)
  have HQ := hide (show decide (eqM A B) = false from decide_eq_false fun c => h2 c.1.2.1)
  have n64 : na ≤ 64 := by have := h1.1; omega
  have k64 : ka ≤ 64 := by have := h1.2.1; omega
  have t0 : ((na : Int) != (na : Int)) = false := by simp
  have t1 : ((ka : Int) != (ka : Int)) = false := by simp
  have s1 : (z < 0) = True := eq_true dz
  have s2 : ((64 : Int) < z) = False := eq_false (by omega)
  have s3 : ((0 : Int) ≤ z) = False := eq_false (by omega)
  have HA := hide ha
  have HB := hide hb'
  have H1 := hide h1
  clear ha hb' h1
  have H2 := hide h2
  have HK := hide hka
  clear h2 hka
  go_enter Try.func3, Try.ntmps3
  have hs := St.nil w
  refine wp_seq_k ?_
  intro K1 hK1
  refine rg [0] ?_
  refine sq ?_
  refine .mv ?_
  apply wpSq_end
  refine hK1 _ _ ?_
  refine wp_seq_k ?_
  intro K2 hK2
  refine rg [0, 1, 2, 3, 4, 5, 6, 7, 8] ?_
  refine sq ?_
  refine .mv ?_
  refine sq ?_
  intro K hK
  have hb := hs.b
  go_big_op
  go_fit (mSize_ok (HA.out.bl stab_n hb) hna H1.out HK.out)
  rintro e w_1 ⟨rfl, hb_1⟩
  clear hb
  replace hs := hs.bl hb_1
  refine hK _ _ rfl trivial ?_
  clear hK K
  refine sq ?_
  refine .mv ?_
  refine sq ?_
  refine .r0 ?_
  refine sq ?_
  refine .r0 ?_
  refine sq ?_
  refine .r0 ?_
  refine sq ?_
  refine .mv ?_
  refine sq ?_
  refine .mv ?_
  refine sq ?_
  refine .mv ?_
  apply wpSq_end
  refine hK2 _ _ ?_
  refine wp_seq_k ?_
  intro K3 hK3
  refine rg [0, 1, 2, 3, 4, 5, 6, 7] ?_
  refine sq ?_
  refine .mv ?_
  refine sq ?_
  refine .mv ?_
  refine sq ?_
  intro K hK
  have hb := hs.b
  go_big_op
  go_fit (mAdd_bad (HA.out.bl stab_n hb) (HB.out.bl stab_n hb) hna hnb OS.out (by omega) (by omega))
  rintro e w_2 ⟨rfl, hb_2⟩
  clear hb
  replace hs := hs.bl hb_2
  refine hK _ _ rfl trivial ?_
  clear hK K
  refine sq ?_
  refine .mv ?_
  refine sq ?_
  refine .r0 ?_
  refine sq ?_
  refine .r0 ?_
  refine sq ?_
  refine .mv ?_
  refine sq ?_
  refine .mv ?_
  apply wpSq_end
  refine hK3 _ _ ?_
  refine wp_seq_k ?_
  intro K4 hK4
  refine rg [0, 1, 2, 3, 4, 5, 6, 7] ?_
  refine sq ?_
  refine .mv ?_
  refine sq ?_
  refine .mv ?_
  refine sq ?_
  intro K hK
  have hb := hs.b
  go_big_op
  go_fit (mSub_bad (HA.out.bl stab_n hb) (HB.out.bl stab_n hb) hna hnb OS.out (by omega) (by omega))
  rintro e w_3 ⟨rfl, hb_3⟩
  clear hb
  replace hs := hs.bl hb_3
  refine hK _ _ rfl trivial ?_
  clear hK K
  refine sq ?_
  refine .mv ?_
  refine sq ?_
  refine .r0 ?_
  refine sq ?_
  refine .r0 ?_
  refine sq ?_
  refine .mv ?_
  refine sq ?_
  refine .mv ?_
  apply wpSq_end
  refine hK4 _ _ ?_
  refine wp_seq_k ?_
  intro K5 hK5
  refine rg [0, 1, 2, 3, 4, 5, 6, 7] ?_
  refine sq ?_
  refine .mv ?_
  refine sq ?_
  refine .mv ?_
  refine sq ?_
  intro K hK
  have hb := hs.b
  go_big_op
  go_fit (mMul_bad (HA.out.bl stab_n hb) (HB.out.bl stab_n hb) hna hnb ML.out (by omega) (by omega))
  rintro e w_4 ⟨rfl, hb_4⟩
  clear hb
  replace hs := hs.bl hb_4
  refine hK _ _ rfl trivial ?_
  clear hK K
  refine sq ?_
  refine .mv ?_
  refine sq ?_
  refine .r0 ?_
  refine sq ?_
  refine .r0 ?_
  refine sq ?_
  refine .mv ?_
  refine sq ?_
  refine .mv ?_
  apply wpSq_end
  refine hK5 _ _ ?_
  refine wp_seq_k ?_
  intro K6 hK6
  refine rg [0, 1, 2, 3, 4, 5, 6] ?_
  refine sq ?_
  refine .mv ?_
  refine sq ?_
  intro K hK
  go_big_op
  go_fit (mIdent_neg dz)
  rintro e w_5 ⟨rfl, hb_5⟩
  replace hs := hs.bl hb_5
  refine hK _ _ rfl trivial ?_
  clear hK K
  refine sq ?_
  refine .mv ?_
  refine sq ?_
  refine .r0 ?_
  refine sq ?_
  refine .r0 ?_
  refine sq ?_
  refine .mv ?_
  refine sq ?_
  refine .mv ?_
  apply wpSq_end
  refine hK6 _ _ ?_
  refine wp_seq_k ?_
  intro K7 hK7
  refine rg [0, 1, 2] ?_
  refine sq ?_
  refine .mv ?_
  refine sq ?_
  intro K hK
  have hb := hs.b
  go_big_op
  go_fit (rGood_any (HA.out.bl stab_n hb) hna (by omega))
  rintro e w_6 ⟨rfl, hb_6⟩
  clear hb
  replace hs := hs.bl hb_6
  rw [decide_eq_true H1.out]
  refine hK _ _ rfl trivial ?_
  clear hK K
  refine sq ?_
  refine .mv ?_
  apply wpSq_end
  refine hK7 _ _ ?_
  refine wp_seq_k ?_
  intro K8 hK8
  refine rg [0, 1, 2, 3, 4, 5] ?_
  refine sq ?_
  refine .mv ?_
  refine sq ?_
  refine .mv ?_
  refine sq ?_
  refine .mv ?_
  refine sq ?_
  intro K hK
  have hb := hs.b
  go_big_op
  go_fit (rGood_any (HB.out.bl stab_n hb) hnb (by omega))
  rintro e w_7 ⟨rfl, hb_7⟩
  clear hb
  replace hs := hs.bl hb_7
  rw [decide_eq_false H2.out]
  refine hK _ _ rfl trivial ?_
  clear hK K
  refine sq ?_
  refine .r0 ?_
  refine sq ?_
  refine .mv ?_
  apply wpSq_end
  refine hK8 _ _ ?_
  refine wp_seq_k ?_
  intro K9 hK9
  refine wp_seq_k ?_
  intro K10 hK10
  refine rg [0, 1, 2, 3, 4, 5, 6, 7, 8, 9, 10, 11, 12, 13, 14, 15, 16, 17, 18, 19] ?_
  refine sq ?_
  intro K hK
  go_big_op
  go_fit (awake8_any _)
  rintro e w_8 ⟨rfl, hb_8⟩
  replace hs := hs.bl hb_8
  refine hK _ _ rfl trivial ?_
  clear hK K
  refine sq ?_
  refine .r0 ?_
  refine sq ?_
  refine .mv ?_
  refine sq ?_
  refine .mv ?_
  refine sq ?_
  intro K hK
  have hb := hs.b
  go_big_op
  go_fit (good_yes (HA.out.bl stab_n hb) hna (by omega) H1.out)
  rintro e w_9 ⟨rfl, hb_9⟩
  clear hb
  replace hs := hs.bl hb_9
  refine hK _ _ rfl trivial ?_
  clear hK K
  refine sq ?_
  refine .mv ?_
  refine sq ?_
  refine .r0 ?_
  refine sq ?_
  refine .r0 ?_
  refine sq ?_
  refine .mv ?_
  refine sq ?_
  refine .mv ?_
  refine sq ?_
  refine .mv ?_
  refine sq ?_
  intro K hK
  have hb := hs.b
  go_big_op
  go_fit (mEqual_any (HA.out.bl stab_n hb) (HB.out.bl stab_n hb) hna hnb (by omega) (by omega) (by decide) (by decide))
  rintro e w_10 ⟨rfl, hb_10⟩
  clear hb
  replace hs := hs.bl hb_10
  rw [HQ.out]
  refine hK _ _ rfl trivial ?_
  clear hK K
  refine sq ?_
  refine .mv ?_
  refine sq ?_
  refine .mv ?_
  refine sk ?_
  refine sk ?_
  refine sk ?_
  refine sq ?_
  refine .r0 ?_
  refine sq ?_
  refine .r0 ?_
  refine sq ?_
  refine .r0 ?_
  apply wpSq_end
  refine hK10 _ _ ?_
  refine cf ?_
  refine wp_skip ?_
  refine hK9 _ _ ?_
  refine wp_seq_k ?_
  intro K11 hK11
  refine wp_seq_k ?_
  intro K12 hK12
  refine rg [0, 1, 2, 3, 4, 5, 6, 7, 8, 9, 10, 11, 12, 13, 14, 15, 16, 17, 18, 19, 20, 21, 22, 23, 24, 25, 26, 27, 28, 29, 30, 31, 32] ?_
  refine sq ?_
  refine .mv ?_
  refine sq ?_
  refine .mv ?_
  refine sq ?_
  refine .mv ?_
  refine sq ?_
  refine .r0 ?_
  refine sq ?_
  refine .mv ?_
  refine sq ?_
  refine .mv ?_
  refine sq ?_
  refine .mv ?_
  refine sq ?_
  refine .r0 ?_
  refine sq ?_
  refine .r0 ?_
  refine sq ?_
  refine .r0 ?_
  refine sq ?_
  refine .mv ?_
  refine sq ?_
  refine .mv ?_
  refine sq ?_
  refine .mv ?_
  refine sq ?_
  intro K hK
  have hb := hs.b
  go_big_op
  go_fit (rCols_any (HA.out.bl stab_n hb) hna HK.out)
  rintro e w_11 ⟨rfl, hb_11⟩
  clear hb
  replace hs := hs.bl hb_11
  refine hK _ _ rfl trivial ?_
  clear hK K
  refine sq ?_
  refine .r0 ?_
  refine sq ?_
  refine .r0 ?_
  refine sq ?_
  refine .r0 ?_
  refine sq ?_
  refine .mv ?_
  refine sq ?_
  refine .mv ?_
  refine sq ?_
  refine .r0 ?_
  refine sq ?_
  refine .mv ?_
  refine sk ?_
  refine sk ?_
  refine sk ?_
  refine sk ?_
  refine sk ?_
  refine sk ?_
  refine sk ?_
  refine sk ?_
  refine sk ?_
  refine sk ?_
  refine sq ?_
  refine .r0 ?_
  refine sq ?_
  refine .r0 ?_
  apply wpSq_end
  refine hK12 _ _ ?_
  refine cf ?_
  refine wp_skip ?_
  refine hK11 _ _ ?_
  refine wp_seq_k ?_
  intro K13 hK13
  refine wp_seq_k ?_
  intro K14 hK14
  refine rg [0, 1, 2, 3, 4, 5, 6, 7, 8, 9, 10, 11, 12, 13, 14, 15, 16, 17, 18, 19, 20, 21, 22, 23, 24, 25, 26, 27, 28, 29, 30, 31, 32, 33, 34, 35] ?_
  refine sq ?_
  refine .mv ?_
  refine sq ?_
  refine .r0 ?_
  refine sq ?_
  refine .mv ?_
  refine sq ?_
  refine .mv ?_
  refine sq ?_
  refine .mv ?_
  refine sq ?_
  refine .mv ?_
  refine sq ?_
  intro K hK
  go_big_op
  go_fit (told_no 9 (by decide) rfl)
  rintro e w_12 ⟨rfl, hb_12⟩
  replace hs := hs.bl hb_12
  refine hK _ _ rfl trivial ?_
  clear hK K
  refine sq ?_
  refine .r0 ?_
  refine sq ?_
  refine .r0 ?_
  refine sq ?_
  refine .mv ?_
  refine sq ?_
  refine .mv ?_
  refine sq ?_
  refine .r0 ?_
  refine sq ?_
  refine .mv ?_
  refine sk ?_
  refine sk ?_
  refine sk ?_
  refine sk ?_
  refine sk ?_
  refine sq ?_
  refine .r0 ?_
  refine sq ?_
  refine .r0 ?_
  refine sq ?_
  refine .mv ?_
  refine sq ?_
  refine .mv ?_
  refine sq ?_
  refine .r0 ?_
  refine sq ?_
  refine .mv ?_
  refine sk ?_
  refine sk ?_
  refine sq ?_
  refine .r0 ?_
  refine sq ?_
  refine .mv ?_
  refine sk ?_
  refine sk ?_
  refine sk ?_
  refine sk ?_
  refine sk ?_
  refine sk ?_
  refine sq ?_
  refine .r0 ?_
  refine sq ?_
  refine .r0 ?_
  apply wpSq_end
  refine hK14 _ _ ?_
  refine cf ?_
  refine wp_skip ?_
  refine hK13 _ _ ?_
  refine wp_seq_k ?_
  intro K15 hK15
  refine wp_seq_k ?_
  intro K16 hK16
  refine rg [0, 1, 2, 3, 4, 5, 6, 7, 8, 9, 10, 11, 12, 13, 14, 15] ?_
  refine sq ?_
  refine .mv ?_
  refine sq ?_
  refine .r0 ?_
  refine sq ?_
  refine .mv ?_
  refine sk ?_
  refine sk ?_
  refine sk ?_
  refine sk ?_
  refine sk ?_
  refine sq ?_
  refine .r0 ?_
  refine sq ?_
  refine .mv ?_
  refine sk ?_
  refine sk ?_
  refine sk ?_
  refine sk ?_
  refine sk ?_
  refine sq ?_
  refine .r0 ?_
  apply wpSq_end
  refine hK16 _ _ ?_
  refine ct ?_
  refine wp_seq_k ?_
  intro K17 hK17
  refine rg [0, 1, 2, 3, 4, 5, 6, 7, 8, 9, 10, 11] ?_
  refine sq ?_
  refine .mv ?_
  refine sq ?_
  refine .mv ?_
  refine sq ?_
  refine .mv ?_
  refine sq ?_
  intro K hK
  go_big_op
  go_fit (told_no 4 (by decide) rfl)
  rintro e w_13 ⟨rfl, hb_13⟩
  replace hs := hs.bl hb_13
  refine hK _ _ rfl trivial ?_
  clear hK K
  refine sq ?_
  refine .r0 ?_
  refine sq ?_
  refine .mv ?_
  refine sq ?_
  refine .mv ?_
  refine sq ?_
  refine .mv ?_
  refine sq ?_
  refine .mv ?_
  refine sq ?_
  intro K hK
  go_big_op
  go_fit (told_no 4 (by decide) rfl)
  rintro e w_14 ⟨rfl, hb_14⟩
  replace hs := hs.bl hb_14
  refine hK _ _ rfl trivial ?_
  clear hK K
  refine sq ?_
  refine .r0 ?_
  refine sq ?_
  refine .r0 ?_
  apply wpSq_end
  refine hK17 _ _ ?_
  refine cf ?_
  refine wp_skip ?_
  refine hK15 _ _ ?_
  refine wp_seq_k ?_
  intro K18 hK18
  refine wp_seq_k ?_
  intro K19 hK19
  refine rg [0, 1, 2, 3, 4, 5, 6, 7, 8] ?_
  refine sq ?_
  refine .mv ?_
  refine sq ?_
  refine .r0 ?_
  refine sq ?_
  refine .mv ?_
  refine sk ?_
  refine sk ?_
  refine sk ?_
  refine sk ?_
  refine sk ?_
  refine sq ?_
  refine .r0 ?_
  apply wpSq_end
  refine hK19 _ _ ?_
  refine ct ?_
  refine wp_seq_k ?_
  intro K20 hK20
  refine rg [0, 1, 2, 3, 4] ?_
  refine sq ?_
  refine .mv ?_
  refine sq ?_
  refine .mv ?_
  refine sq ?_
  refine .mv ?_
  refine sq ?_
  intro K hK
  go_big_op
  go_fit (told_no 4 (by decide) rfl)
  rintro e w_15 ⟨rfl, hb_15⟩
  replace hs := hs.bl hb_15
  refine hK _ _ rfl trivial ?_
  clear hK K
  refine sq ?_
  refine .mv ?_
  apply wpSq_end
  refine hK20 _ _ ?_
  refine wp_ret ?_
  try dsimp only [Exit.then, Exit.inBlock]
  refine bodyPost_ret (v := (.bool true)) (by simp [results, Try.results3, go_sem]) rfl ?_
  exact ⟨rfl, hs.b⟩
set_option maxHeartbeats 4000000 in
set_option maxRecDepth 20000 in
theorem sums_g111neg (ha : MN 1048576 w oa A) (hb' : MN 1048576 w ob B) (hna : A.length = na) (hnb : B.length = na) (la : na ≤ 1048576) (lb : na ≤ 1048576) (h1 : gd A) (h2 : gd B) (hka : wd A = ka) (hkb : wd B = ka) (d3 : ka = na) (dz : z < 0) :
    Calls Try.prog 3 #[.slice oa na ca, .slice ob na cb, .int .i64 z] w fun e w' => e = .returned (.bool true) ∧ Below w.heap.size w w' := by
  have OS := hide (show os2 A B from ⟨h1, h2, by omega, by omega⟩)
  have ML := hide (show ml2 A B from ⟨h1, h2, by omega⟩)
  obtain ⟨Q, hQ⟩ : ∃ Q, decide (eqM A B) = Q := ⟨_, rfl⟩
  have HQ := hide hQ
  have tQ : (Q != Q) = false := by simp
  clear hQ
  have n64 : na ≤ 64 := by have := h1.1; omega
  have k64 : ka ≤ 64 := by have := h1.2.1; omega
  have m64 : na ≤ 64 := by have := h2.1; omega
  have BA := hide (bd_adM ha.bd hb'.bd)
  have BS := hide (bd_suM ha.bd hb'.bd)
  have LA := hide (show (adM A B).length = na from len_mkM.trans hna)
  have LS := hide (show (suM A B).length = na from len_mkM.trans hna)
  have RA := hide (show ∀ r ∈ adM A B, r.length ≤ 1000000000 from mkM_rl h1.2.1)
  have RS := hide (show ∀ r ∈ suM A B, r.length ≤ 1000000000 from mkM_rl h1.2.1)
  have BM := hide (bd_mulM ha.bd hb'.bd)
  have LM := hide (show (mulM A B).length = na from len_mulM.trans hna)
  have RM := hide (show ∀ r ∈ mulM A B, r.length ≤ 1000000000 from mkM_rl h2.2.1)
  have lB : B.length ≤ 64 := h2.1
  have t0 : ((na : Int) != (na : Int)) = false := by simp
  have t1 : ((ka : Int) != (ka : Int)) = false := by simp
  have t4 : ((ka : Int) != (na : Int)) = false := by simp only [bne_eq_false_iff_eq]; omega
  have s1 : (z < 0) = True := eq_true dz
  have s2 : ((64 : Int) < z) = False := eq_false (by omega)
  have s3 : ((0 : Int) ≤ z) = False := eq_false (by omega)
  have HA := hide ha
  have HB := hide hb'
  have H1 := hide h1
  clear ha hb' h1
  have H2 := hide h2
  have HK := hide hka
  clear h2 hka
  have HL := hide hkb
  have H3 := hide d3
  clear hkb d3
  go_enter Try.func3, Try.ntmps3
  have hs := St.nil w
  refine wp_seq_k ?_
  intro K1 hK1
  refine rg [0] ?_
  refine sq ?_
  refine .mv ?_
  apply wpSq_end
  refine hK1 _ _ ?_
  refine wp_seq_k ?_
  intro K2 hK2
  refine rg [0, 1, 2, 3, 4, 5, 6, 7, 8] ?_
  refine sq ?_
  refine .mv ?_
  refine sq ?_
  intro K hK
  have hb := hs.b
  go_big_op
  go_fit (mSize_ok (HA.out.bl stab_n hb) hna H1.out HK.out)
  rintro e w_1 ⟨rfl, hb_1⟩
  clear hb
  replace hs := hs.bl hb_1
  refine hK _ _ rfl trivial ?_
  clear hK K
  refine sq ?_
  refine .mv ?_
  refine sq ?_
  refine .r0 ?_
  refine sq ?_
  refine .r0 ?_
  refine sq ?_
  refine .r0 ?_
  refine sq ?_
  refine .mv ?_
  refine sq ?_
  refine .mv ?_
  refine sq ?_
  refine .mv ?_
  apply wpSq_end
  refine hK2 _ _ ?_
  refine wp_seq_k ?_
  intro K3 hK3
  refine rg [0, 1, 2, 3, 4, 5, 6, 7] ?_
  refine sq ?_
  refine .mv ?_
  refine sq ?_
  refine .mv ?_
  refine sq ?_
  intro K hK
  have hb := hs.b
  go_big_op
  go_fit (lAdd (HA.out.bl stab_n hb) (HB.out.bl stab_n hb) hna hnb OS.out (by decide) (by decide))
  rintro e w_2 ⟨o_S, c_S, rfl, m_S, hb_2⟩
  clear hb
  replace hs := hs.bl hb_2
  refine hK _ _ rfl trivial ?_
  clear hK K
  refine sq ?_
  refine .mv ?_
  refine sq ?_
  refine .r0 ?_
  refine sq ?_
  refine .r0 ?_
  refine sq ?_
  refine .mv ?_
  refine sq ?_
  refine .mv ?_
  apply wpSq_end
  refine hK3 _ _ ?_
  refine wp_seq_k ?_
  intro K4 hK4
  refine rg [0, 1, 2, 3, 4, 5, 6, 7] ?_
  refine sq ?_
  refine .mv ?_
  refine sq ?_
  refine .mv ?_
  refine sq ?_
  intro K hK
  have hb := hs.b
  go_big_op
  go_fit (lSub (HA.out.bl stab_n hb) (HB.out.bl stab_n hb) hna hnb OS.out (by decide) (by decide))
  rintro e w_3 ⟨o_E, c_E, rfl, m_E, hb_3⟩
  clear hb
  replace m_S := m_S.bl hb_3; replace hs := hs.bl hb_3
  refine hK _ _ rfl trivial ?_
  clear hK K
  refine sq ?_
  refine .mv ?_
  refine sq ?_
  refine .r0 ?_
  refine sq ?_
  refine .r0 ?_
  refine sq ?_
  refine .mv ?_
  refine sq ?_
  refine .mv ?_
  apply wpSq_end
  refine hK4 _ _ ?_
  refine wp_seq_k ?_
  intro K5 hK5
  refine rg [0, 1, 2, 3, 4, 5, 6, 7] ?_
  refine sq ?_
  refine .mv ?_
  refine sq ?_
  refine .mv ?_
  refine sq ?_
  intro K hK
  have hb := hs.b
  go_big_op
  go_fit (lMul (HA.out.bl stab_n hb) (HB.out.bl stab_n hb) hna hnb ML.out (by decide) (by decide))
  rintro e w_4 ⟨o_P, c_P, rfl, m_P, hb_4⟩
  clear hb
  replace m_S := m_S.bl hb_4; replace m_E := m_E.bl hb_4; replace hs := hs.bl hb_4
  refine hK _ _ rfl trivial ?_
  clear hK K
  refine sq ?_
  refine .mv ?_
  refine sq ?_
  refine .r0 ?_
  refine sq ?_
  refine .r0 ?_
  refine sq ?_
  refine .mv ?_
  refine sq ?_
  refine .mv ?_
  apply wpSq_end
  refine hK5 _ _ ?_
  refine wp_seq_k ?_
  intro K6 hK6
  refine rg [0, 1, 2, 3, 4, 5, 6] ?_
  refine sq ?_
  refine .mv ?_
  refine sq ?_
  intro K hK
  go_big_op
  go_fit (mIdent_neg dz)
  rintro e w_5 ⟨rfl, hb_5⟩
  replace m_S := m_S.bl hb_5; replace m_E := m_E.bl hb_5; replace m_P := m_P.bl hb_5; replace hs := hs.bl hb_5
  refine hK _ _ rfl trivial ?_
  clear hK K
  refine sq ?_
  refine .mv ?_
  refine sq ?_
  refine .r0 ?_
  refine sq ?_
  refine .r0 ?_
  refine sq ?_
  refine .mv ?_
  refine sq ?_
  refine .mv ?_
  apply wpSq_end
  refine hK6 _ _ ?_
  refine wp_seq_k ?_
  intro K7 hK7
  refine rg [0, 1, 2] ?_
  refine sq ?_
  refine .mv ?_
  refine sq ?_
  intro K hK
  have hb := hs.b
  go_big_op
  go_fit (rGood_any (HA.out.bl stab_n hb) hna (by omega))
  rintro e w_6 ⟨rfl, hb_6⟩
  clear hb
  replace m_S := m_S.bl hb_6; replace m_E := m_E.bl hb_6; replace m_P := m_P.bl hb_6; replace hs := hs.bl hb_6
  rw [decide_eq_true H1.out]
  refine hK _ _ rfl trivial ?_
  clear hK K
  refine sq ?_
  refine .mv ?_
  apply wpSq_end
  refine hK7 _ _ ?_
  refine wp_seq_k ?_
  intro K8 hK8
  refine rg [0, 1, 2, 3, 4, 5] ?_
  refine sq ?_
  refine .mv ?_
  refine sq ?_
  refine .mv ?_
  refine sq ?_
  refine .mv ?_
  refine sq ?_
  intro K hK
  have hb := hs.b
  go_big_op
  go_fit (rGood_any (HB.out.bl stab_n hb) hnb (by omega))
  rintro e w_7 ⟨rfl, hb_7⟩
  clear hb
  replace m_S := m_S.bl hb_7; replace m_E := m_E.bl hb_7; replace m_P := m_P.bl hb_7; replace hs := hs.bl hb_7
  rw [decide_eq_true H2.out]
  refine hK _ _ rfl trivial ?_
  clear hK K
  refine sq ?_
  refine .r0 ?_
  refine sq ?_
  refine .mv ?_
  apply wpSq_end
  refine hK8 _ _ ?_
  refine wp_seq_k ?_
  intro K9 hK9
  refine wp_seq_k ?_
  intro K10 hK10
  refine rg [0, 1, 2, 3, 4, 5, 6, 7, 8, 9, 10, 11, 12, 13, 14, 15, 16, 17, 18, 19] ?_
  refine sq ?_
  intro K hK
  go_big_op
  go_fit (awake8_any _)
  rintro e w_8 ⟨rfl, hb_8⟩
  replace m_S := m_S.bl hb_8; replace m_E := m_E.bl hb_8; replace m_P := m_P.bl hb_8; replace hs := hs.bl hb_8
  refine hK _ _ rfl trivial ?_
  clear hK K
  refine sq ?_
  refine .r0 ?_
  refine sq ?_
  refine .mv ?_
  refine sq ?_
  refine .mv ?_
  refine sq ?_
  intro K hK
  have hb := hs.b
  go_big_op
  go_fit (good_yes (HA.out.bl stab_n hb) hna (by omega) H1.out)
  rintro e w_9 ⟨rfl, hb_9⟩
  clear hb
  replace m_S := m_S.bl hb_9; replace m_E := m_E.bl hb_9; replace m_P := m_P.bl hb_9; replace hs := hs.bl hb_9
  refine hK _ _ rfl trivial ?_
  clear hK K
  refine sq ?_
  refine .mv ?_
  refine sq ?_
  refine .r0 ?_
  refine sq ?_
  refine .r0 ?_
  refine sq ?_
  refine .mv ?_
  refine sq ?_
  refine .mv ?_
  refine sq ?_
  refine .mv ?_
  refine sq ?_
  intro K hK
  have hb := hs.b
  go_big_op
  go_fit (mEqual_any (HA.out.bl stab_n hb) (HB.out.bl stab_n hb) hna hnb (by omega) (by omega) (by decide) (by decide))
  rintro e w_10 ⟨rfl, hb_10⟩
  clear hb
  replace m_S := m_S.bl hb_10; replace m_E := m_E.bl hb_10; replace m_P := m_P.bl hb_10; replace hs := hs.bl hb_10
  rw [HQ.out]
  refine hK _ _ rfl trivial ?_
  clear hK K
  refine sq ?_
  refine .mv ?_
  refine sq ?_
  refine .mv ?_
  refine sq ?_
  refine .mv ?_
  refine sq ?_
  refine .mv ?_
  refine sq ?_
  intro K hK
  have hb := hs.b
  go_big_op
  go_fit (rEqual_any (HA.out.bl stab_n hb) (HB.out.bl stab_n hb) hna hnb H1.out H2.out (by decide) (by decide))
  rintro e w_11 ⟨rfl, hb_11⟩
  clear hb
  replace m_S := m_S.bl hb_11; replace m_E := m_E.bl hb_11; replace m_P := m_P.bl hb_11; replace hs := hs.bl hb_11
  rw [HQ.out]
  refine hK _ _ rfl trivial ?_
  clear hK K
  refine sq ?_
  refine .r0 ?_
  refine sq ?_
  refine .r0 ?_
  refine sq ?_
  refine .r0 ?_
  apply wpSq_end
  refine hK10 _ _ ?_
  refine cf ?_
  refine wp_skip ?_
  refine hK9 _ _ ?_
  refine wp_seq_k ?_
  intro K11 hK11
  refine wp_seq_k ?_
  intro K12 hK12
  refine rg [0, 1, 2, 3, 4, 5, 6, 7, 8, 9, 10, 11, 12, 13, 14, 15, 16, 17, 18, 19, 20, 21, 22, 23, 24, 25, 26, 27, 28, 29, 30, 31, 32] ?_
  refine sq ?_
  refine .mv ?_
  refine sq ?_
  refine .mv ?_
  refine sq ?_
  refine .mv ?_
  refine sq ?_
  refine .r0 ?_
  refine sq ?_
  refine .mv ?_
  refine sq ?_
  refine .mv ?_
  refine sq ?_
  refine .mv ?_
  refine sq ?_
  refine .r0 ?_
  refine sq ?_
  refine .r0 ?_
  refine sq ?_
  refine .r0 ?_
  refine sq ?_
  refine .mv ?_
  refine sq ?_
  refine .mv ?_
  refine sq ?_
  refine .mv ?_
  refine sq ?_
  intro K hK
  have hb := hs.b
  go_big_op
  go_fit (rCols_any (HA.out.bl stab_n hb) hna HK.out)
  rintro e w_12 ⟨rfl, hb_12⟩
  clear hb
  replace m_S := m_S.bl hb_12; replace m_E := m_E.bl hb_12; replace m_P := m_P.bl hb_12; replace hs := hs.bl hb_12
  refine hK _ _ rfl trivial ?_
  clear hK K
  refine sq ?_
  refine .r0 ?_
  refine sq ?_
  refine .r0 ?_
  refine sq ?_
  refine .r0 ?_
  refine sq ?_
  refine .mv ?_
  refine sq ?_
  refine .mv ?_
  refine sq ?_
  refine .r0 ?_
  refine sq ?_
  refine .mv ?_
  refine sk ?_
  refine sk ?_
  refine sk ?_
  refine sk ?_
  refine sk ?_
  refine sk ?_
  refine sk ?_
  refine sk ?_
  refine sk ?_
  refine sk ?_
  refine sq ?_
  refine .r0 ?_
  refine sq ?_
  refine .r0 ?_
  apply wpSq_end
  refine hK12 _ _ ?_
  refine cf ?_
  refine wp_skip ?_
  refine hK11 _ _ ?_
  refine wp_seq_k ?_
  intro K13 hK13
  refine wp_seq_k ?_
  intro K14 hK14
  refine rg [0, 1, 2, 3, 4, 5, 6, 7, 8, 9, 10, 11, 12, 13, 14, 15, 16, 17, 18, 19, 20, 21, 22, 23, 24, 25, 26, 27, 28, 29, 30, 31, 32, 33, 34, 35] ?_
  refine sq ?_
  refine .mv ?_
  refine sq ?_
  refine .r0 ?_
  refine sq ?_
  refine .mv ?_
  refine sq ?_
  refine .mv ?_
  refine sq ?_
  refine .mv ?_
  refine sq ?_
  refine .mv ?_
  refine sq ?_
  intro K hK
  go_big_op
  go_fit (told_no 9 (by decide) rfl)
  rintro e w_13 ⟨rfl, hb_13⟩
  replace m_S := m_S.bl hb_13; replace m_E := m_E.bl hb_13; replace m_P := m_P.bl hb_13; replace hs := hs.bl hb_13
  refine hK _ _ rfl trivial ?_
  clear hK K
  refine sq ?_
  refine .r0 ?_
  refine sq ?_
  refine .r0 ?_
  refine sq ?_
  refine .mv ?_
  refine sq ?_
  refine .mv ?_
  refine sq ?_
  refine .r0 ?_
  refine sq ?_
  refine .mv ?_
  refine sk ?_
  refine sk ?_
  refine sk ?_
  refine sk ?_
  refine sk ?_
  refine sq ?_
  refine .r0 ?_
  refine sq ?_
  refine .r0 ?_
  refine sq ?_
  refine .mv ?_
  refine sq ?_
  refine .mv ?_
  refine sq ?_
  refine .r0 ?_
  refine sq ?_
  refine .mv ?_
  refine sk ?_
  refine sk ?_
  refine sq ?_
  refine .r0 ?_
  refine sq ?_
  refine .mv ?_
  refine sk ?_
  refine sk ?_
  refine sk ?_
  refine sk ?_
  refine sk ?_
  refine sk ?_
  refine sq ?_
  refine .r0 ?_
  refine sq ?_
  refine .r0 ?_
  apply wpSq_end
  refine hK14 _ _ ?_
  refine cf ?_
  refine wp_skip ?_
  refine hK13 _ _ ?_
  refine wp_seq_k ?_
  intro K15 hK15
  refine wp_seq_k ?_
  intro K16 hK16
  refine rg [0, 1, 2, 3, 4, 5, 6, 7, 8, 9, 10, 11, 12, 13, 14, 15] ?_
  refine sq ?_
  refine .mv ?_
  refine sq ?_
  refine .r0 ?_
  refine sq ?_
  refine .mv ?_
  refine sq ?_
  refine .mv ?_
  refine sq ?_
  refine .r0 ?_
  refine sq ?_
  refine .mv ?_
  refine sq ?_
  refine .r0 ?_
  refine sq ?_
  refine .r0 ?_
  refine sq ?_
  refine .r0 ?_
  refine sq ?_
  refine .mv ?_
  refine sq ?_
  refine .mv ?_
  refine sq ?_
  intro K hK
  have hb := hs.b
  go_big_op
  go_fit (rCols_any (HA.out.bl stab_n hb) hna HK.out)
  rintro e w_14 ⟨rfl, hb_14⟩
  clear hb
  replace m_S := m_S.bl hb_14; replace m_E := m_E.bl hb_14; replace m_P := m_P.bl hb_14; replace hs := hs.bl hb_14
  refine hK _ _ rfl trivial ?_
  clear hK K
  refine sq ?_
  refine .mv ?_
  refine sq ?_
  intro K hK
  have hb := hs.b
  go_big_op
  go_fit (rCols_any (HB.out.bl stab_n hb) hnb HL.out)
  rintro e w_15 ⟨rfl, hb_15⟩
  clear hb
  replace m_S := m_S.bl hb_15; replace m_E := m_E.bl hb_15; replace m_P := m_P.bl hb_15; replace hs := hs.bl hb_15
  refine hK _ _ rfl trivial ?_
  clear hK K
  refine sq ?_
  refine .r0 ?_
  refine sq ?_
  refine .r0 ?_
  apply wpSq_end
  refine hK16 _ _ ?_
  refine cf ?_
  refine wp_seq_k ?_
  intro K17 hK17
  refine rg [0, 1, 2, 3, 4, 5, 6, 7, 8, 9, 10, 11, 12, 13, 14, 15] ?_
  refine sq ?_
  refine .mv ?_
  refine sq ?_
  refine .mv ?_
  refine sq ?_
  refine .mv ?_
  refine sq ?_
  refine .mv ?_
  refine sq ?_
  intro K hK
  have hb := hs.b
  go_big_op
  go_fit (rAdd8 (HA.out.bl stab_n hb) (HB.out.bl stab_n hb) hna hnb OS.out (by decide) (by decide))
  rintro e w_16 ⟨o_X, c_X, rfl, m_X, hb_16⟩
  clear hb
  replace m_S := m_S.bl hb_16; replace m_E := m_E.bl hb_16; replace m_P := m_P.bl hb_16; replace hs := hs.bl hb_16
  refine hK _ _ rfl trivial ?_
  clear hK K
  refine sq ?_
  intro K hK
  go_big_op
  go_fit (told_yes m_S (m_X.mn BA.out) LA.out (by omega) RA.out (by decide))
  rintro e w_17 ⟨rfl, hb_17⟩
  replace m_S := m_S.bl hb_17; replace m_E := m_E.bl hb_17; replace m_P := m_P.bl hb_17; replace m_X := m_X.bl hb_17; replace hs := hs.bl hb_17
  refine hK _ _ rfl trivial ?_
  clear hK K
  refine sq ?_
  refine .r0 ?_
  refine sq ?_
  refine .mv ?_
  refine sq ?_
  refine .mv ?_
  refine sq ?_
  refine .mv ?_
  refine sq ?_
  refine .mv ?_
  refine sq ?_
  refine .mv ?_
  refine sq ?_
  intro K hK
  have hb := hs.b
  go_big_op
  go_fit (rSub8 (HA.out.bl stab_n hb) (HB.out.bl stab_n hb) hna hnb OS.out (by decide) (by decide))
  rintro e w_18 ⟨o_Y, c_Y, rfl, m_Y, hb_18⟩
  clear hb
  replace m_E := m_E.bl hb_18; replace m_P := m_P.bl hb_18; replace hs := hs.bl hb_18
  refine hK _ _ rfl trivial ?_
  clear hK K
  refine sq ?_
  intro K hK
  go_big_op
  go_fit (told_yes m_E (m_Y.mn BS.out) LS.out (by omega) RS.out (by decide))
  rintro e w_19 ⟨rfl, hb_19⟩
  replace m_E := m_E.bl hb_19; replace m_P := m_P.bl hb_19; replace m_Y := m_Y.bl hb_19; replace hs := hs.bl hb_19
  refine hK _ _ rfl trivial ?_
  clear hK K
  refine sq ?_
  refine .r0 ?_
  refine sq ?_
  refine .r0 ?_
  apply wpSq_end
  refine hK17 _ _ ?_
  refine cf ?_
  refine wp_skip ?_
  refine hK15 _ _ ?_
  refine wp_seq_k ?_
  intro K18 hK18
  refine wp_seq_k ?_
  intro K19 hK19
  refine rg [0, 1, 2, 3, 4, 5, 6, 7, 8] ?_
  refine sq ?_
  refine .mv ?_
  refine sq ?_
  refine .r0 ?_
  refine sq ?_
  refine .mv ?_
  refine sq ?_
  refine .mv ?_
  refine sq ?_
  intro K hK
  have hb := hs.b
  go_big_op
  go_fit (rCols_any (HA.out.bl stab_n hb) hna HK.out)
  rintro e w_20 ⟨rfl, hb_20⟩
  clear hb
  replace m_P := m_P.bl hb_20; replace hs := hs.bl hb_20
  refine hK _ _ rfl trivial ?_
  clear hK K
  refine sq ?_
  refine .mv ?_
  refine sq ?_
  refine .r0 ?_
  refine sq ?_
  refine .r0 ?_
  refine sq ?_
  refine .r0 ?_
  apply wpSq_end
  refine hK19 _ _ ?_
  refine cf ?_
  refine wp_skip ?_
  refine hK18 _ _ ?_
  refine wp_seq_k ?_
  intro K20 hK20
  refine rg [0, 1, 2, 3, 4, 5, 6] ?_
  refine sq ?_
  refine .mv ?_
  refine sq ?_
  refine .mv ?_
  refine sq ?_
  refine .mv ?_
  refine sq ?_
  refine .mv ?_
  refine sq ?_
  intro K hK
  have hb := hs.b
  go_big_op
  go_fit (rMul8 (HA.out.bl stab_n hb) (HB.out.bl stab_n hb) hna hnb ML.out (by decide) (by decide))
  rintro e w_21 ⟨o_Z, c_Z, rfl, m_Z, hb_21⟩
  clear hb
  replace m_P := m_P.bl hb_21; replace hs := hs.bl hb_21
  refine hK _ _ rfl trivial ?_
  clear hK K
  refine sq ?_
  intro K hK
  go_big_op
  go_fit (told_yes m_P (m_Z.mn BM.out) LM.out (by omega) RM.out (by omega))
  rintro e w_22 ⟨rfl, hb_22⟩
  replace m_P := m_P.bl hb_22; replace m_Z := m_Z.bl hb_22; replace hs := hs.bl hb_22
  refine hK _ _ rfl trivial ?_
  clear hK K
  refine sq ?_
  refine .mv ?_
  apply wpSq_end
  refine hK20 _ _ ?_
  refine wp_ret ?_
  try dsimp only [Exit.then, Exit.inBlock]
  refine bodyPost_ret (v := (.bool true)) (by simp [results, Try.results3, go_sem]) rfl ?_
  exact ⟨rfl, hs.b⟩
set_option maxHeartbeats 4000000 in
set_option maxRecDepth 20000 in
theorem sums_g110neg (ha : MN 1048576 w oa A) (hb' : MN 1048576 w ob B) (hna : A.length = na) (hnb : B.length = na) (la : na ≤ 1048576) (lb : na ≤ 1048576) (h1 : gd A) (h2 : gd B) (hka : wd A = ka) (hkb : wd B = ka) (d3 : ka ≠ na) (dz : z < 0) :
    Calls Try.prog 3 #[.slice oa na ca, .slice ob na cb, .int .i64 z] w fun e w' => e = .returned (.bool true) ∧ Below w.heap.size w w' := by
  have OS := hide (show os2 A B from ⟨h1, h2, by omega, by omega⟩)
  have ML := hide (show ¬ ml2 A B from fun c => by have := c.2.2; omega)
  obtain ⟨Q, hQ⟩ : ∃ Q, decide (eqM A B) = Q := ⟨_, rfl⟩
  have HQ := hide hQ
  have tQ : (Q != Q) = false := by simp
  clear hQ
  have n64 : na ≤ 64 := by have := h1.1; omega
  have k64 : ka ≤ 64 := by have := h1.2.1; omega
  have m64 : na ≤ 64 := by have := h2.1; omega
  have BA := hide (bd_adM ha.bd hb'.bd)
  have BS := hide (bd_suM ha.bd hb'.bd)
  have LA := hide (show (adM A B).length = na from len_mkM.trans hna)
  have LS := hide (show (suM A B).length = na from len_mkM.trans hna)
  have RA := hide (show ∀ r ∈ adM A B, r.length ≤ 1000000000 from mkM_rl h1.2.1)
  have RS := hide (show ∀ r ∈ suM A B, r.length ≤ 1000000000 from mkM_rl h1.2.1)
  have t0 : ((na : Int) != (na : Int)) = false := by simp
  have t1 : ((ka : Int) != (ka : Int)) = false := by simp
  have t4 : ((ka : Int) != (na : Int)) = true := bne_iff_ne.2 (by omega)
  have s1 : (z < 0) = True := eq_true dz
  have s2 : ((64 : Int) < z) = False := eq_false (by omega)
  have s3 : ((0 : Int) ≤ z) = False := eq_false (by omega)
  have HA := hide ha
  have HB := hide hb'
  have H1 := hide h1
  clear ha hb' h1
  have H2 := hide h2
  have HK := hide hka
  clear h2 hka
  have HL := hide hkb
  have H3 := hide d3
  clear hkb d3
  go_enter Try.func3, Try.ntmps3
  have hs := St.nil w
  refine wp_seq_k ?_
  intro K1 hK1
  refine rg [0] ?_
  refine sq ?_
  refine .mv ?_
  apply wpSq_end
  refine hK1 _ _ ?_
  refine wp_seq_k ?_
  intro K2 hK2
  refine rg [0, 1, 2, 3, 4, 5, 6, 7, 8] ?_
  refine sq ?_
  refine .mv ?_
  refine sq ?_
  intro K hK
  have hb := hs.b
  go_big_op
  go_fit (mSize_ok (HA.out.bl stab_n hb) hna H1.out HK.out)
  rintro e w_1 ⟨rfl, hb_1⟩
  clear hb
  replace hs := hs.bl hb_1
  refine hK _ _ rfl trivial ?_
  clear hK K
  refine sq ?_
  refine .mv ?_
  refine sq ?_
  refine .r0 ?_
  refine sq ?_
  refine .r0 ?_
  refine sq ?_
  refine .r0 ?_
  refine sq ?_
  refine .mv ?_
  refine sq ?_
  refine .mv ?_
  refine sq ?_
  refine .mv ?_
  apply wpSq_end
  refine hK2 _ _ ?_
  refine wp_seq_k ?_
  intro K3 hK3
  refine rg [0, 1, 2, 3, 4, 5, 6, 7] ?_
  refine sq ?_
  refine .mv ?_
  refine sq ?_
  refine .mv ?_
  refine sq ?_
  intro K hK
  have hb := hs.b
  go_big_op
  go_fit (lAdd (HA.out.bl stab_n hb) (HB.out.bl stab_n hb) hna hnb OS.out (by decide) (by decide))
  rintro e w_2 ⟨o_S, c_S, rfl, m_S, hb_2⟩
  clear hb
  replace hs := hs.bl hb_2
  refine hK _ _ rfl trivial ?_
  clear hK K
  refine sq ?_
  refine .mv ?_
  refine sq ?_
  refine .r0 ?_
  refine sq ?_
  refine .r0 ?_
  refine sq ?_
  refine .mv ?_
  refine sq ?_
  refine .mv ?_
  apply wpSq_end
  refine hK3 _ _ ?_
  refine wp_seq_k ?_
  intro K4 hK4
  refine rg [0, 1, 2, 3, 4, 5, 6, 7] ?_
  refine sq ?_
  refine .mv ?_
  refine sq ?_
  refine .mv ?_
  refine sq ?_
  intro K hK
  have hb := hs.b
  go_big_op
  go_fit (lSub (HA.out.bl stab_n hb) (HB.out.bl stab_n hb) hna hnb OS.out (by decide) (by decide))
  rintro e w_3 ⟨o_E, c_E, rfl, m_E, hb_3⟩
  clear hb
  replace m_S := m_S.bl hb_3; replace hs := hs.bl hb_3
  refine hK _ _ rfl trivial ?_
  clear hK K
  refine sq ?_
  refine .mv ?_
  refine sq ?_
  refine .r0 ?_
  refine sq ?_
  refine .r0 ?_
  refine sq ?_
  refine .mv ?_
  refine sq ?_
  refine .mv ?_
  apply wpSq_end
  refine hK4 _ _ ?_
  refine wp_seq_k ?_
  intro K5 hK5
  refine rg [0, 1, 2, 3, 4, 5, 6, 7] ?_
  refine sq ?_
  refine .mv ?_
  refine sq ?_
  refine .mv ?_
  refine sq ?_
  intro K hK
  have hb := hs.b
  go_big_op
  go_fit (mMul_bad (HA.out.bl stab_n hb) (HB.out.bl stab_n hb) hna hnb ML.out (by omega) (by omega))
  rintro e w_4 ⟨rfl, hb_4⟩
  clear hb
  replace m_S := m_S.bl hb_4; replace m_E := m_E.bl hb_4; replace hs := hs.bl hb_4
  refine hK _ _ rfl trivial ?_
  clear hK K
  refine sq ?_
  refine .mv ?_
  refine sq ?_
  refine .r0 ?_
  refine sq ?_
  refine .r0 ?_
  refine sq ?_
  refine .mv ?_
  refine sq ?_
  refine .mv ?_
  apply wpSq_end
  refine hK5 _ _ ?_
  refine wp_seq_k ?_
  intro K6 hK6
  refine rg [0, 1, 2, 3, 4, 5, 6] ?_
  refine sq ?_
  refine .mv ?_
  refine sq ?_
  intro K hK
  go_big_op
  go_fit (mIdent_neg dz)
  rintro e w_5 ⟨rfl, hb_5⟩
  replace m_S := m_S.bl hb_5; replace m_E := m_E.bl hb_5; replace hs := hs.bl hb_5
  refine hK _ _ rfl trivial ?_
  clear hK K
  refine sq ?_
  refine .mv ?_
  refine sq ?_
  refine .r0 ?_
  refine sq ?_
  refine .r0 ?_
  refine sq ?_
  refine .mv ?_
  refine sq ?_
  refine .mv ?_
  apply wpSq_end
  refine hK6 _ _ ?_
  refine wp_seq_k ?_
  intro K7 hK7
  refine rg [0, 1, 2] ?_
  refine sq ?_
  refine .mv ?_
  refine sq ?_
  intro K hK
  have hb := hs.b
  go_big_op
  go_fit (rGood_any (HA.out.bl stab_n hb) hna (by omega))
  rintro e w_6 ⟨rfl, hb_6⟩
  clear hb
  replace m_S := m_S.bl hb_6; replace m_E := m_E.bl hb_6; replace hs := hs.bl hb_6
  rw [decide_eq_true H1.out]
  refine hK _ _ rfl trivial ?_
  clear hK K
  refine sq ?_
  refine .mv ?_
  apply wpSq_end
  refine hK7 _ _ ?_
  refine wp_seq_k ?_
  intro K8 hK8
  refine rg [0, 1, 2, 3, 4, 5] ?_
  refine sq ?_
  refine .mv ?_
  refine sq ?_
  refine .mv ?_
  refine sq ?_
  refine .mv ?_
  refine sq ?_
  intro K hK
  have hb := hs.b
  go_big_op
  go_fit (rGood_any (HB.out.bl stab_n hb) hnb (by omega))
  rintro e w_7 ⟨rfl, hb_7⟩
  clear hb
  replace m_S := m_S.bl hb_7; replace m_E := m_E.bl hb_7; replace hs := hs.bl hb_7
  rw [decide_eq_true H2.out]
  refine hK _ _ rfl trivial ?_
  clear hK K
  refine sq ?_
  refine .r0 ?_
  refine sq ?_
  refine .mv ?_
  apply wpSq_end
  refine hK8 _ _ ?_
  refine wp_seq_k ?_
  intro K9 hK9
  refine wp_seq_k ?_
  intro K10 hK10
  refine rg [0, 1, 2, 3, 4, 5, 6, 7, 8, 9, 10, 11, 12, 13, 14, 15, 16, 17, 18, 19] ?_
  refine sq ?_
  intro K hK
  go_big_op
  go_fit (awake8_any _)
  rintro e w_8 ⟨rfl, hb_8⟩
  replace m_S := m_S.bl hb_8; replace m_E := m_E.bl hb_8; replace hs := hs.bl hb_8
  refine hK _ _ rfl trivial ?_
  clear hK K
  refine sq ?_
  refine .r0 ?_
  refine sq ?_
  refine .mv ?_
  refine sq ?_
  refine .mv ?_
  refine sq ?_
  intro K hK
  have hb := hs.b
  go_big_op
  go_fit (good_yes (HA.out.bl stab_n hb) hna (by omega) H1.out)
  rintro e w_9 ⟨rfl, hb_9⟩
  clear hb
  replace m_S := m_S.bl hb_9; replace m_E := m_E.bl hb_9; replace hs := hs.bl hb_9
  refine hK _ _ rfl trivial ?_
  clear hK K
  refine sq ?_
  refine .mv ?_
  refine sq ?_
  refine .r0 ?_
  refine sq ?_
  refine .r0 ?_
  refine sq ?_
  refine .mv ?_
  refine sq ?_
  refine .mv ?_
  refine sq ?_
  refine .mv ?_
  refine sq ?_
  intro K hK
  have hb := hs.b
  go_big_op
  go_fit (mEqual_any (HA.out.bl stab_n hb) (HB.out.bl stab_n hb) hna hnb (by omega) (by omega) (by decide) (by decide))
  rintro e w_10 ⟨rfl, hb_10⟩
  clear hb
  replace m_S := m_S.bl hb_10; replace m_E := m_E.bl hb_10; replace hs := hs.bl hb_10
  rw [HQ.out]
  refine hK _ _ rfl trivial ?_
  clear hK K
  refine sq ?_
  refine .mv ?_
  refine sq ?_
  refine .mv ?_
  refine sq ?_
  refine .mv ?_
  refine sq ?_
  refine .mv ?_
  refine sq ?_
  intro K hK
  have hb := hs.b
  go_big_op
  go_fit (rEqual_any (HA.out.bl stab_n hb) (HB.out.bl stab_n hb) hna hnb H1.out H2.out (by decide) (by decide))
  rintro e w_11 ⟨rfl, hb_11⟩
  clear hb
  replace m_S := m_S.bl hb_11; replace m_E := m_E.bl hb_11; replace hs := hs.bl hb_11
  rw [HQ.out]
  refine hK _ _ rfl trivial ?_
  clear hK K
  refine sq ?_
  refine .r0 ?_
  refine sq ?_
  refine .r0 ?_
  refine sq ?_
  refine .r0 ?_
  apply wpSq_end
  refine hK10 _ _ ?_
  refine cf ?_
  refine wp_skip ?_
  refine hK9 _ _ ?_
  refine wp_seq_k ?_
  intro K11 hK11
  refine wp_seq_k ?_
  intro K12 hK12
  refine rg [0, 1, 2, 3, 4, 5, 6, 7, 8, 9, 10, 11, 12, 13, 14, 15, 16, 17, 18, 19, 20, 21, 22, 23, 24, 25, 26, 27, 28, 29, 30, 31, 32] ?_
  refine sq ?_
  refine .mv ?_
  refine sq ?_
  refine .mv ?_
  refine sq ?_
  refine .mv ?_
  refine sq ?_
  refine .r0 ?_
  refine sq ?_
  refine .mv ?_
  refine sq ?_
  refine .mv ?_
  refine sq ?_
  refine .mv ?_
  refine sq ?_
  refine .r0 ?_
  refine sq ?_
  refine .r0 ?_
  refine sq ?_
  refine .r0 ?_
  refine sq ?_
  refine .mv ?_
  refine sq ?_
  refine .mv ?_
  refine sq ?_
  refine .mv ?_
  refine sq ?_
  intro K hK
  have hb := hs.b
  go_big_op
  go_fit (rCols_any (HA.out.bl stab_n hb) hna HK.out)
  rintro e w_12 ⟨rfl, hb_12⟩
  clear hb
  replace m_S := m_S.bl hb_12; replace m_E := m_E.bl hb_12; replace hs := hs.bl hb_12
  refine hK _ _ rfl trivial ?_
  clear hK K
  refine sq ?_
  refine .r0 ?_
  refine sq ?_
  refine .r0 ?_
  refine sq ?_
  refine .r0 ?_
  refine sq ?_
  refine .mv ?_
  refine sq ?_
  refine .mv ?_
  refine sq ?_
  refine .r0 ?_
  refine sq ?_
  refine .mv ?_
  refine sk ?_
  refine sk ?_
  refine sk ?_
  refine sk ?_
  refine sk ?_
  refine sk ?_
  refine sk ?_
  refine sk ?_
  refine sk ?_
  refine sk ?_
  refine sq ?_
  refine .r0 ?_
  refine sq ?_
  refine .r0 ?_
  apply wpSq_end
  refine hK12 _ _ ?_
  refine cf ?_
  refine wp_skip ?_
  refine hK11 _ _ ?_
  refine wp_seq_k ?_
  intro K13 hK13
  refine wp_seq_k ?_
  intro K14 hK14
  refine rg [0, 1, 2, 3, 4, 5, 6, 7, 8, 9, 10, 11, 12, 13, 14, 15, 16, 17, 18, 19, 20, 21, 22, 23, 24, 25, 26, 27, 28, 29, 30, 31, 32, 33, 34, 35] ?_
  refine sq ?_
  refine .mv ?_
  refine sq ?_
  refine .r0 ?_
  refine sq ?_
  refine .mv ?_
  refine sq ?_
  refine .mv ?_
  refine sq ?_
  refine .mv ?_
  refine sq ?_
  refine .mv ?_
  refine sq ?_
  intro K hK
  go_big_op
  go_fit (told_no 9 (by decide) rfl)
  rintro e w_13 ⟨rfl, hb_13⟩
  replace m_S := m_S.bl hb_13; replace m_E := m_E.bl hb_13; replace hs := hs.bl hb_13
  refine hK _ _ rfl trivial ?_
  clear hK K
  refine sq ?_
  refine .r0 ?_
  refine sq ?_
  refine .r0 ?_
  refine sq ?_
  refine .mv ?_
  refine sq ?_
  refine .mv ?_
  refine sq ?_
  refine .r0 ?_
  refine sq ?_
  refine .mv ?_
  refine sk ?_
  refine sk ?_
  refine sk ?_
  refine sk ?_
  refine sk ?_
  refine sq ?_
  refine .r0 ?_
  refine sq ?_
  refine .r0 ?_
  refine sq ?_
  refine .mv ?_
  refine sq ?_
  refine .mv ?_
  refine sq ?_
  refine .r0 ?_
  refine sq ?_
  refine .mv ?_
  refine sk ?_
  refine sk ?_
  refine sq ?_
  refine .r0 ?_
  refine sq ?_
  refine .mv ?_
  refine sk ?_
  refine sk ?_
  refine sk ?_
  refine sk ?_
  refine sk ?_
  refine sk ?_
  refine sq ?_
  refine .r0 ?_
  refine sq ?_
  refine .r0 ?_
  apply wpSq_end
  refine hK14 _ _ ?_
  refine cf ?_
  refine wp_skip ?_
  refine hK13 _ _ ?_
  refine wp_seq_k ?_
  intro K15 hK15
  refine wp_seq_k ?_
  intro K16 hK16
  refine rg [0, 1, 2, 3, 4, 5, 6, 7, 8, 9, 10, 11, 12, 13, 14, 15] ?_
  refine sq ?_
  refine .mv ?_
  refine sq ?_
  refine .r0 ?_
  refine sq ?_
  refine .mv ?_
  refine sq ?_
  refine .mv ?_
  refine sq ?_
  refine .r0 ?_
  refine sq ?_
  refine .mv ?_
  refine sq ?_
  refine .r0 ?_
  refine sq ?_
  refine .r0 ?_
  refine sq ?_
  refine .r0 ?_
  refine sq ?_
  refine .mv ?_
  refine sq ?_
  refine .mv ?_
  refine sq ?_
  intro K hK
  have hb := hs.b
  go_big_op
  go_fit (rCols_any (HA.out.bl stab_n hb) hna HK.out)
  rintro e w_14 ⟨rfl, hb_14⟩
  clear hb
  replace m_S := m_S.bl hb_14; replace m_E := m_E.bl hb_14; replace hs := hs.bl hb_14
  refine hK _ _ rfl trivial ?_
  clear hK K
  refine sq ?_
  refine .mv ?_
  refine sq ?_
  intro K hK
  have hb := hs.b
  go_big_op
  go_fit (rCols_any (HB.out.bl stab_n hb) hnb HL.out)
  rintro e w_15 ⟨rfl, hb_15⟩
  clear hb
  replace m_S := m_S.bl hb_15; replace m_E := m_E.bl hb_15; replace hs := hs.bl hb_15
  refine hK _ _ rfl trivial ?_
  clear hK K
  refine sq ?_
  refine .r0 ?_
  refine sq ?_
  refine .r0 ?_
  apply wpSq_end
  refine hK16 _ _ ?_
  refine cf ?_
  refine wp_seq_k ?_
  intro K17 hK17
  refine rg [0, 1, 2, 3, 4, 5, 6, 7, 8, 9, 10, 11, 12, 13, 14, 15] ?_
  refine sq ?_
  refine .mv ?_
  refine sq ?_
  refine .mv ?_
  refine sq ?_
  refine .mv ?_
  refine sq ?_
  refine .mv ?_
  refine sq ?_
  intro K hK
  have hb := hs.b
  go_big_op
  go_fit (rAdd8 (HA.out.bl stab_n hb) (HB.out.bl stab_n hb) hna hnb OS.out (by decide) (by decide))
  rintro e w_16 ⟨o_X, c_X, rfl, m_X, hb_16⟩
  clear hb
  replace m_S := m_S.bl hb_16; replace m_E := m_E.bl hb_16; replace hs := hs.bl hb_16
  refine hK _ _ rfl trivial ?_
  clear hK K
  refine sq ?_
  intro K hK
  go_big_op
  go_fit (told_yes m_S (m_X.mn BA.out) LA.out (by omega) RA.out (by decide))
  rintro e w_17 ⟨rfl, hb_17⟩
  replace m_S := m_S.bl hb_17; replace m_E := m_E.bl hb_17; replace m_X := m_X.bl hb_17; replace hs := hs.bl hb_17
  refine hK _ _ rfl trivial ?_
  clear hK K
  refine sq ?_
  refine .r0 ?_
  refine sq ?_
  refine .mv ?_
  refine sq ?_
  refine .mv ?_
  refine sq ?_
  refine .mv ?_
  refine sq ?_
  refine .mv ?_
  refine sq ?_
  refine .mv ?_
  refine sq ?_
  intro K hK
  have hb := hs.b
  go_big_op
  go_fit (rSub8 (HA.out.bl stab_n hb) (HB.out.bl stab_n hb) hna hnb OS.out (by decide) (by decide))
  rintro e w_18 ⟨o_Y, c_Y, rfl, m_Y, hb_18⟩
  clear hb
  replace m_E := m_E.bl hb_18; replace hs := hs.bl hb_18
  refine hK _ _ rfl trivial ?_
  clear hK K
  refine sq ?_
  intro K hK
  go_big_op
  go_fit (told_yes m_E (m_Y.mn BS.out) LS.out (by omega) RS.out (by decide))
  rintro e w_19 ⟨rfl, hb_19⟩
  replace m_E := m_E.bl hb_19; replace m_Y := m_Y.bl hb_19; replace hs := hs.bl hb_19
  refine hK _ _ rfl trivial ?_
  clear hK K
  refine sq ?_
  refine .r0 ?_
  refine sq ?_
  refine .r0 ?_
  apply wpSq_end
  refine hK17 _ _ ?_
  refine cf ?_
  refine wp_skip ?_
  refine hK15 _ _ ?_
  refine wp_seq_k ?_
  intro K18 hK18
  refine wp_seq_k ?_
  intro K19 hK19
  refine rg [0, 1, 2, 3, 4, 5, 6, 7, 8] ?_
  refine sq ?_
  refine .mv ?_
  refine sq ?_
  refine .r0 ?_
  refine sq ?_
  refine .mv ?_
  refine sq ?_
  refine .mv ?_
  refine sq ?_
  intro K hK
  have hb := hs.b
  go_big_op
  go_fit (rCols_any (HA.out.bl stab_n hb) hna HK.out)
  rintro e w_20 ⟨rfl, hb_20⟩
  clear hb
  replace hs := hs.bl hb_20
  refine hK _ _ rfl trivial ?_
  clear hK K
  refine sq ?_
  refine .mv ?_
  refine sq ?_
  refine .r0 ?_
  refine sq ?_
  refine .r0 ?_
  refine sq ?_
  refine .r0 ?_
  apply wpSq_end
  refine hK19 _ _ ?_
  refine ct ?_
  refine wp_seq_k ?_
  intro K20 hK20
  refine rg [0, 1, 2, 3, 4] ?_
  refine sq ?_
  refine .mv ?_
  refine sq ?_
  refine .mv ?_
  refine sq ?_
  refine .mv ?_
  refine sq ?_
  intro K hK
  go_big_op
  go_fit (told_no 4 (by decide) rfl)
  rintro e w_21 ⟨rfl, hb_21⟩
  replace hs := hs.bl hb_21
  refine hK _ _ rfl trivial ?_
  clear hK K
  refine sq ?_
  refine .mv ?_
  apply wpSq_end
  refine hK20 _ _ ?_
  refine wp_ret ?_
  try dsimp only [Exit.then, Exit.inBlock]
  refine bodyPost_ret (v := (.bool true)) (by simp [results, Try.results3, go_sem]) rfl ?_
  exact ⟨rfl, hs.b⟩
set_option maxHeartbeats 4000000 in
set_option maxRecDepth 20000 in
theorem sums_g101neg (ha : MN 1048576 w oa A) (hb' : MN 1048576 w ob B) (hna : A.length = na) (hnb : B.length = na) (la : na ≤ 1048576) (lb : na ≤ 1048576) (h1 : gd A) (h2 : gd B) (hka : wd A = ka) (hkb : wd B = kb') (d2 : ka ≠ kb') (d3 : ka = na) (dz : z < 0) :
    Calls Try.prog 3 #[.slice oa na ca, .slice ob na cb, .int .i64 z] w fun e w' => e = .returned (.bool true) ∧ Below w.heap.size w w' := by
  have OS := hide (show ¬ os2 A B from fun c => by have := c.2.2.1; have := c.2.2.2; omega)
  have ML := hide (show ml2 A B from ⟨h1, h2, by omega⟩)
  obtain ⟨Q, hQ⟩ : ∃ Q, decide (eqM A B) = Q := ⟨_, rfl⟩
  have HQ := hide hQ
  have tQ : (Q != Q) = false := by simp
  clear hQ
  have n64 : na ≤ 64 := by have := h1.1; omega
  have k64 : ka ≤ 64 := by have := h1.2.1; omega
  have m64 : na ≤ 64 := by have := h2.1; omega
  have BM := hide (bd_mulM ha.bd hb'.bd)
  have LM := hide (show (mulM A B).length = na from len_mulM.trans hna)
  have RM := hide (show ∀ r ∈ mulM A B, r.length ≤ 1000000000 from mkM_rl h2.2.1)
  have lB : B.length ≤ 64 := h2.1
  have t0 : ((na : Int) != (na : Int)) = false := by simp
  have t1 : ((ka : Int) != (ka : Int)) = false := by simp
  have t3 : ((ka : Int) != (kb' : Int)) = true := bne_iff_ne.2 (by omega)
  have t4 : ((ka : Int) != (na : Int)) = false := by simp only [bne_eq_false_iff_eq]; omega
  have s1 : (z < 0) = True := eq_true dz
  have s2 : ((64 : Int) < z) = False := eq_false (by omega)
  have s3 : ((0 : Int) ≤ z) = False := eq_false (by omega)
  have HA := hide ha
  have HB := hide hb'
  have H1 := hide h1
  clear ha hb' h1
  have H2 := hide h2
  have HK := hide hka
  clear h2 hka
  have HL := hide hkb
  have H3 := hide d3
  clear hkb d3
  have G2 := hide d2
  clear d2
  go_enter Try.func3, Try.ntmps3
  have hs := St.nil w
  refine wp_seq_k ?_
  intro K1 hK1
  refine rg [0] ?_
  refine sq ?_
  refine .mv ?_
  apply wpSq_end
  refine hK1 _ _ ?_
  refine wp_seq_k ?_
  intro K2 hK2
  refine rg [0, 1, 2, 3, 4, 5, 6, 7, 8] ?_
  refine sq ?_
  refine .mv ?_
  refine sq ?_
  intro K hK
  have hb := hs.b
  go_big_op
  go_fit (mSize_ok (HA.out.bl stab_n hb) hna H1.out HK.out)
  rintro e w_1 ⟨rfl, hb_1⟩
  clear hb
  replace hs := hs.bl hb_1
  refine hK _ _ rfl trivial ?_
  clear hK K
  refine sq ?_
  refine .mv ?_
  refine sq ?_
  refine .r0 ?_
  refine sq ?_
  refine .r0 ?_
  refine sq ?_
  refine .r0 ?_
  refine sq ?_
  refine .mv ?_
  refine sq ?_
  refine .mv ?_
  refine sq ?_
  refine .mv ?_
  apply wpSq_end
  refine hK2 _ _ ?_
  refine wp_seq_k ?_
  intro K3 hK3
  refine rg [0, 1, 2, 3, 4, 5, 6, 7] ?_
  refine sq ?_
  refine .mv ?_
  refine sq ?_
  refine .mv ?_
  refine sq ?_
  intro K hK
  have hb := hs.b
  go_big_op
  go_fit (mAdd_bad (HA.out.bl stab_n hb) (HB.out.bl stab_n hb) hna hnb OS.out (by omega) (by omega))
  rintro e w_2 ⟨rfl, hb_2⟩
  clear hb
  replace hs := hs.bl hb_2
  refine hK _ _ rfl trivial ?_
  clear hK K
  refine sq ?_
  refine .mv ?_
  refine sq ?_
  refine .r0 ?_
  refine sq ?_
  refine .r0 ?_
  refine sq ?_
  refine .mv ?_
  refine sq ?_
  refine .mv ?_
  apply wpSq_end
  refine hK3 _ _ ?_
  refine wp_seq_k ?_
  intro K4 hK4
  refine rg [0, 1, 2, 3, 4, 5, 6, 7] ?_
  refine sq ?_
  refine .mv ?_
  refine sq ?_
  refine .mv ?_
  refine sq ?_
  intro K hK
  have hb := hs.b
  go_big_op
  go_fit (mSub_bad (HA.out.bl stab_n hb) (HB.out.bl stab_n hb) hna hnb OS.out (by omega) (by omega))
  rintro e w_3 ⟨rfl, hb_3⟩
  clear hb
  replace hs := hs.bl hb_3
  refine hK _ _ rfl trivial ?_
  clear hK K
  refine sq ?_
  refine .mv ?_
  refine sq ?_
  refine .r0 ?_
  refine sq ?_
  refine .r0 ?_
  refine sq ?_
  refine .mv ?_
  refine sq ?_
  refine .mv ?_
  apply wpSq_end
  refine hK4 _ _ ?_
  refine wp_seq_k ?_
  intro K5 hK5
  refine rg [0, 1, 2, 3, 4, 5, 6, 7] ?_
  refine sq ?_
  refine .mv ?_
  refine sq ?_
  refine .mv ?_
  refine sq ?_
  intro K hK
  have hb := hs.b
  go_big_op
  go_fit (lMul (HA.out.bl stab_n hb) (HB.out.bl stab_n hb) hna hnb ML.out (by decide) (by decide))
  rintro e w_4 ⟨o_P, c_P, rfl, m_P, hb_4⟩
  clear hb
  replace hs := hs.bl hb_4
  refine hK _ _ rfl trivial ?_
  clear hK K
  refine sq ?_
  refine .mv ?_
  refine sq ?_
  refine .r0 ?_
  refine sq ?_
  refine .r0 ?_
  refine sq ?_
  refine .mv ?_
  refine sq ?_
  refine .mv ?_
  apply wpSq_end
  refine hK5 _ _ ?_
  refine wp_seq_k ?_
  intro K6 hK6
  refine rg [0, 1, 2, 3, 4, 5, 6] ?_
  refine sq ?_
  refine .mv ?_
  refine sq ?_
  intro K hK
  go_big_op
  go_fit (mIdent_neg dz)
  rintro e w_5 ⟨rfl, hb_5⟩
  replace m_P := m_P.bl hb_5; replace hs := hs.bl hb_5
  refine hK _ _ rfl trivial ?_
  clear hK K
  refine sq ?_
  refine .mv ?_
  refine sq ?_
  refine .r0 ?_
  refine sq ?_
  refine .r0 ?_
  refine sq ?_
  refine .mv ?_
  refine sq ?_
  refine .mv ?_
  apply wpSq_end
  refine hK6 _ _ ?_
  refine wp_seq_k ?_
  intro K7 hK7
  refine rg [0, 1, 2] ?_
  refine sq ?_
  refine .mv ?_
  refine sq ?_
  intro K hK
  have hb := hs.b
  go_big_op
  go_fit (rGood_any (HA.out.bl stab_n hb) hna (by omega))
  rintro e w_6 ⟨rfl, hb_6⟩
  clear hb
  replace m_P := m_P.bl hb_6; replace hs := hs.bl hb_6
  rw [decide_eq_true H1.out]
  refine hK _ _ rfl trivial ?_
  clear hK K
  refine sq ?_
  refine .mv ?_
  apply wpSq_end
  refine hK7 _ _ ?_
  refine wp_seq_k ?_
  intro K8 hK8
  refine rg [0, 1, 2, 3, 4, 5] ?_
  refine sq ?_
  refine .mv ?_
  refine sq ?_
  refine .mv ?_
  refine sq ?_
  refine .mv ?_
  refine sq ?_
  intro K hK
  have hb := hs.b
  go_big_op
  go_fit (rGood_any (HB.out.bl stab_n hb) hnb (by omega))
  rintro e w_7 ⟨rfl, hb_7⟩
  clear hb
  replace m_P := m_P.bl hb_7; replace hs := hs.bl hb_7
  rw [decide_eq_true H2.out]
  refine hK _ _ rfl trivial ?_
  clear hK K
  refine sq ?_
  refine .r0 ?_
  refine sq ?_
  refine .mv ?_
  apply wpSq_end
  refine hK8 _ _ ?_
  refine wp_seq_k ?_
  intro K9 hK9
  refine wp_seq_k ?_
  intro K10 hK10
  refine rg [0, 1, 2, 3, 4, 5, 6, 7, 8, 9, 10, 11, 12, 13, 14, 15, 16, 17, 18, 19] ?_
  refine sq ?_
  intro K hK
  go_big_op
  go_fit (awake8_any _)
  rintro e w_8 ⟨rfl, hb_8⟩
  replace m_P := m_P.bl hb_8; replace hs := hs.bl hb_8
  refine hK _ _ rfl trivial ?_
  clear hK K
  refine sq ?_
  refine .r0 ?_
  refine sq ?_
  refine .mv ?_
  refine sq ?_
  refine .mv ?_
  refine sq ?_
  intro K hK
  have hb := hs.b
  go_big_op
  go_fit (good_yes (HA.out.bl stab_n hb) hna (by omega) H1.out)
  rintro e w_9 ⟨rfl, hb_9⟩
  clear hb
  replace m_P := m_P.bl hb_9; replace hs := hs.bl hb_9
  refine hK _ _ rfl trivial ?_
  clear hK K
  refine sq ?_
  refine .mv ?_
  refine sq ?_
  refine .r0 ?_
  refine sq ?_
  refine .r0 ?_
  refine sq ?_
  refine .mv ?_
  refine sq ?_
  refine .mv ?_
  refine sq ?_
  refine .mv ?_
  refine sq ?_
  intro K hK
  have hb := hs.b
  go_big_op
  go_fit (mEqual_any (HA.out.bl stab_n hb) (HB.out.bl stab_n hb) hna hnb (by omega) (by omega) (by decide) (by decide))
  rintro e w_10 ⟨rfl, hb_10⟩
  clear hb
  replace m_P := m_P.bl hb_10; replace hs := hs.bl hb_10
  rw [HQ.out]
  refine hK _ _ rfl trivial ?_
  clear hK K
  refine sq ?_
  refine .mv ?_
  refine sq ?_
  refine .mv ?_
  refine sq ?_
  refine .mv ?_
  refine sq ?_
  refine .mv ?_
  refine sq ?_
  intro K hK
  have hb := hs.b
  go_big_op
  go_fit (rEqual_any (HA.out.bl stab_n hb) (HB.out.bl stab_n hb) hna hnb H1.out H2.out (by decide) (by decide))
  rintro e w_11 ⟨rfl, hb_11⟩
  clear hb
  replace m_P := m_P.bl hb_11; replace hs := hs.bl hb_11
  rw [HQ.out]
  refine hK _ _ rfl trivial ?_
  clear hK K
  refine sq ?_
  refine .r0 ?_
  refine sq ?_
  refine .r0 ?_
  refine sq ?_
  refine .r0 ?_
  apply wpSq_end
  refine hK10 _ _ ?_
  refine cf ?_
  refine wp_skip ?_
  refine hK9 _ _ ?_
  refine wp_seq_k ?_
  intro K11 hK11
  refine wp_seq_k ?_
  intro K12 hK12
  refine rg [0, 1, 2, 3, 4, 5, 6, 7, 8, 9, 10, 11, 12, 13, 14, 15, 16, 17, 18, 19, 20, 21, 22, 23, 24, 25, 26, 27, 28, 29, 30, 31, 32] ?_
  refine sq ?_
  refine .mv ?_
  refine sq ?_
  refine .mv ?_
  refine sq ?_
  refine .mv ?_
  refine sq ?_
  refine .r0 ?_
  refine sq ?_
  refine .mv ?_
  refine sq ?_
  refine .mv ?_
  refine sq ?_
  refine .mv ?_
  refine sq ?_
  refine .r0 ?_
  refine sq ?_
  refine .r0 ?_
  refine sq ?_
  refine .r0 ?_
  refine sq ?_
  refine .mv ?_
  refine sq ?_
  refine .mv ?_
  refine sq ?_
  refine .mv ?_
  refine sq ?_
  intro K hK
  have hb := hs.b
  go_big_op
  go_fit (rCols_any (HA.out.bl stab_n hb) hna HK.out)
  rintro e w_12 ⟨rfl, hb_12⟩
  clear hb
  replace m_P := m_P.bl hb_12; replace hs := hs.bl hb_12
  refine hK _ _ rfl trivial ?_
  clear hK K
  refine sq ?_
  refine .r0 ?_
  refine sq ?_
  refine .r0 ?_
  refine sq ?_
  refine .r0 ?_
  refine sq ?_
  refine .mv ?_
  refine sq ?_
  refine .mv ?_
  refine sq ?_
  refine .r0 ?_
  refine sq ?_
  refine .mv ?_
  refine sk ?_
  refine sk ?_
  refine sk ?_
  refine sk ?_
  refine sk ?_
  refine sk ?_
  refine sk ?_
  refine sk ?_
  refine sk ?_
  refine sk ?_
  refine sq ?_
  refine .r0 ?_
  refine sq ?_
  refine .r0 ?_
  apply wpSq_end
  refine hK12 _ _ ?_
  refine cf ?_
  refine wp_skip ?_
  refine hK11 _ _ ?_
  refine wp_seq_k ?_
  intro K13 hK13
  refine wp_seq_k ?_
  intro K14 hK14
  refine rg [0, 1, 2, 3, 4, 5, 6, 7, 8, 9, 10, 11, 12, 13, 14, 15, 16, 17, 18, 19, 20, 21, 22, 23, 24, 25, 26, 27, 28, 29, 30, 31, 32, 33, 34, 35] ?_
  refine sq ?_
  refine .mv ?_
  refine sq ?_
  refine .r0 ?_
  refine sq ?_
  refine .mv ?_
  refine sq ?_
  refine .mv ?_
  refine sq ?_
  refine .mv ?_
  refine sq ?_
  refine .mv ?_
  refine sq ?_
  intro K hK
  go_big_op
  go_fit (told_no 9 (by decide) rfl)
  rintro e w_13 ⟨rfl, hb_13⟩
  replace m_P := m_P.bl hb_13; replace hs := hs.bl hb_13
  refine hK _ _ rfl trivial ?_
  clear hK K
  refine sq ?_
  refine .r0 ?_
  refine sq ?_
  refine .r0 ?_
  refine sq ?_
  refine .mv ?_
  refine sq ?_
  refine .mv ?_
  refine sq ?_
  refine .r0 ?_
  refine sq ?_
  refine .mv ?_
  refine sk ?_
  refine sk ?_
  refine sk ?_
  refine sk ?_
  refine sk ?_
  refine sq ?_
  refine .r0 ?_
  refine sq ?_
  refine .r0 ?_
  refine sq ?_
  refine .mv ?_
  refine sq ?_
  refine .mv ?_
  refine sq ?_
  refine .r0 ?_
  refine sq ?_
  refine .mv ?_
  refine sk ?_
  refine sk ?_
  refine sq ?_
  refine .r0 ?_
  refine sq ?_
  refine .mv ?_
  refine sk ?_
  refine sk ?_
  refine sk ?_
  refine sk ?_
  refine sk ?_
  refine sk ?_
  refine sq ?_
  refine .r0 ?_
  refine sq ?_
  refine .r0 ?_
  apply wpSq_end
  refine hK14 _ _ ?_
  refine cf ?_
  refine wp_skip ?_
  refine hK13 _ _ ?_
  refine wp_seq_k ?_
  intro K15 hK15
  refine wp_seq_k ?_
  intro K16 hK16
  refine rg [0, 1, 2, 3, 4, 5, 6, 7, 8, 9, 10, 11, 12, 13, 14, 15] ?_
  refine sq ?_
  refine .mv ?_
  refine sq ?_
  refine .r0 ?_
  refine sq ?_
  refine .mv ?_
  refine sq ?_
  refine .mv ?_
  refine sq ?_
  refine .r0 ?_
  refine sq ?_
  refine .mv ?_
  refine sq ?_
  refine .r0 ?_
  refine sq ?_
  refine .r0 ?_
  refine sq ?_
  refine .r0 ?_
  refine sq ?_
  refine .mv ?_
  refine sq ?_
  refine .mv ?_
  refine sq ?_
  intro K hK
  have hb := hs.b
  go_big_op
  go_fit (rCols_any (HA.out.bl stab_n hb) hna HK.out)
  rintro e w_14 ⟨rfl, hb_14⟩
  clear hb
  replace m_P := m_P.bl hb_14; replace hs := hs.bl hb_14
  refine hK _ _ rfl trivial ?_
  clear hK K
  refine sq ?_
  refine .mv ?_
  refine sq ?_
  intro K hK
  have hb := hs.b
  go_big_op
  go_fit (rCols_any (HB.out.bl stab_n hb) hnb HL.out)
  rintro e w_15 ⟨rfl, hb_15⟩
  clear hb
  replace m_P := m_P.bl hb_15; replace hs := hs.bl hb_15
  refine hK _ _ rfl trivial ?_
  clear hK K
  refine sq ?_
  refine .r0 ?_
  refine sq ?_
  refine .r0 ?_
  apply wpSq_end
  refine hK16 _ _ ?_
  refine ct ?_
  refine wp_seq_k ?_
  intro K17 hK17
  refine rg [0, 1, 2, 3, 4, 5, 6, 7, 8, 9, 10, 11] ?_
  refine sq ?_
  refine .mv ?_
  refine sq ?_
  refine .mv ?_
  refine sq ?_
  refine .mv ?_
  refine sq ?_
  intro K hK
  go_big_op
  go_fit (told_no 4 (by decide) rfl)
  rintro e w_16 ⟨rfl, hb_16⟩
  replace m_P := m_P.bl hb_16; replace hs := hs.bl hb_16
  refine hK _ _ rfl trivial ?_
  clear hK K
  refine sq ?_
  refine .r0 ?_
  refine sq ?_
  refine .mv ?_
  refine sq ?_
  refine .mv ?_
  refine sq ?_
  refine .mv ?_
  refine sq ?_
  refine .mv ?_
  refine sq ?_
  intro K hK
  go_big_op
  go_fit (told_no 4 (by decide) rfl)
  rintro e w_17 ⟨rfl, hb_17⟩
  replace m_P := m_P.bl hb_17; replace hs := hs.bl hb_17
  refine hK _ _ rfl trivial ?_
  clear hK K
  refine sq ?_
  refine .r0 ?_
  refine sq ?_
  refine .r0 ?_
  apply wpSq_end
  refine hK17 _ _ ?_
  refine cf ?_
  refine wp_skip ?_
  refine hK15 _ _ ?_
  refine wp_seq_k ?_
  intro K18 hK18
  refine wp_seq_k ?_
  intro K19 hK19
  refine rg [0, 1, 2, 3, 4, 5, 6, 7, 8] ?_
  refine sq ?_
  refine .mv ?_
  refine sq ?_
  refine .r0 ?_
  refine sq ?_
  refine .mv ?_
  refine sq ?_
  refine .mv ?_
  refine sq ?_
  intro K hK
  have hb := hs.b
  go_big_op
  go_fit (rCols_any (HA.out.bl stab_n hb) hna HK.out)
  rintro e w_18 ⟨rfl, hb_18⟩
  clear hb
  replace m_P := m_P.bl hb_18; replace hs := hs.bl hb_18
  refine hK _ _ rfl trivial ?_
  clear hK K
  refine sq ?_
  refine .mv ?_
  refine sq ?_
  refine .r0 ?_
  refine sq ?_
  refine .r0 ?_
  refine sq ?_
  refine .r0 ?_
  apply wpSq_end
  refine hK19 _ _ ?_
  refine cf ?_
  refine wp_skip ?_
  refine hK18 _ _ ?_
  refine wp_seq_k ?_
  intro K20 hK20
  refine rg [0, 1, 2, 3, 4, 5, 6] ?_
  refine sq ?_
  refine .mv ?_
  refine sq ?_
  refine .mv ?_
  refine sq ?_
  refine .mv ?_
  refine sq ?_
  refine .mv ?_
  refine sq ?_
  intro K hK
  have hb := hs.b
  go_big_op
  go_fit (rMul8 (HA.out.bl stab_n hb) (HB.out.bl stab_n hb) hna hnb ML.out (by decide) (by decide))
  rintro e w_19 ⟨o_Z, c_Z, rfl, m_Z, hb_19⟩
  clear hb
  replace m_P := m_P.bl hb_19; replace hs := hs.bl hb_19
  refine hK _ _ rfl trivial ?_
  clear hK K
  refine sq ?_
  intro K hK
  go_big_op
  go_fit (told_yes m_P (m_Z.mn BM.out) LM.out (by omega) RM.out (by omega))
  rintro e w_20 ⟨rfl, hb_20⟩
  replace m_P := m_P.bl hb_20; replace m_Z := m_Z.bl hb_20; replace hs := hs.bl hb_20
  refine hK _ _ rfl trivial ?_
  clear hK K
  refine sq ?_
  refine .mv ?_
  apply wpSq_end
  refine hK20 _ _ ?_
  refine wp_ret ?_
  try dsimp only [Exit.then, Exit.inBlock]
  refine bodyPost_ret (v := (.bool true)) (by simp [results, Try.results3, go_sem]) rfl ?_
  exact ⟨rfl, hs.b⟩
set_option maxHeartbeats 4000000 in
set_option maxRecDepth 20000 in
theorem sums_g100neg (ha : MN 1048576 w oa A) (hb' : MN 1048576 w ob B) (hna : A.length = na) (hnb : B.length = na) (la : na ≤ 1048576) (lb : na ≤ 1048576) (h1 : gd A) (h2 : gd B) (hka : wd A = ka) (hkb : wd B = kb') (d2 : ka ≠ kb') (d3 : ka ≠ na) (dz : z < 0) :
    Calls Try.prog 3 #[.slice oa na ca, .slice ob na cb, .int .i64 z] w fun e w' => e = .returned (.bool true) ∧ Below w.heap.size w w' := by
  have OS := hide (show ¬ os2 A B from fun c => by have := c.2.2.1; have := c.2.2.2; omega)
  have ML := hide (show ¬ ml2 A B from fun c => by have := c.2.2; omega)
  obtain ⟨Q, hQ⟩ : ∃ Q, decide (eqM A B) = Q := ⟨_, rfl⟩
  have HQ := hide hQ
  have tQ : (Q != Q) = false := by simp
  clear hQ
  have n64 : na ≤ 64 := by have := h1.1; omega
  have k64 : ka ≤ 64 := by have := h1.2.1; omega
  have m64 : na ≤ 64 := by have := h2.1; omega
  have t0 : ((na : Int) != (na : Int)) = false := by simp
  have t1 : ((ka : Int) != (ka : Int)) = false := by simp
  have t3 : ((ka : Int) != (kb' : Int)) = true := bne_iff_ne.2 (by omega)
  have t4 : ((ka : Int) != (na : Int)) = true := bne_iff_ne.2 (by omega)
  have s1 : (z < 0) = True := eq_true dz
  have s2 : ((64 : Int) < z) = False := eq_false (by omega)
  have s3 : ((0 : Int) ≤ z) = False := eq_false (by omega)
  have HA := hide ha
  have HB := hide hb'
  have H1 := hide h1
  clear ha hb' h1
  have H2 := hide h2
  have HK := hide hka
  clear h2 hka
  have HL := hide hkb
  have H3 := hide d3
  clear hkb d3
  have G2 := hide d2
  clear d2
  go_enter Try.func3, Try.ntmps3
  have hs := St.nil w
  refine wp_seq_k ?_
  intro K1 hK1
  refine rg [0] ?_
  refine sq ?_
  refine .mv ?_
  apply wpSq_end
  refine hK1 _ _ ?_
  refine wp_seq_k ?_
  intro K2 hK2
  refine rg [0, 1, 2, 3, 4, 5, 6, 7, 8] ?_
  refine sq ?_
  refine .mv ?_
  refine sq ?_
  intro K hK
  have hb := hs.b
  go_big_op
  go_fit (mSize_ok (HA.out.bl stab_n hb) hna H1.out HK.out)
  rintro e w_1 ⟨rfl, hb_1⟩
  clear hb
  replace hs := hs.bl hb_1
  refine hK _ _ rfl trivial ?_
  clear hK K
  refine sq ?_
  refine .mv ?_
  refine sq ?_
  refine .r0 ?_
  refine sq ?_
  refine .r0 ?_
  refine sq ?_
  refine .r0 ?_
  refine sq ?_
  refine .mv ?_
  refine sq ?_
  refine .mv ?_
  refine sq ?_
  refine .mv ?_
  apply wpSq_end
  refine hK2 _ _ ?_
  refine wp_seq_k ?_
  intro K3 hK3
  refine rg [0, 1, 2, 3, 4, 5, 6, 7] ?_
  refine sq ?_
  refine .mv ?_
  refine sq ?_
  refine .mv ?_
  refine sq ?_
  intro K hK
  have hb := hs.b
  go_big_op
  go_fit (mAdd_bad (HA.out.bl stab_n hb) (HB.out.bl stab_n hb) hna hnb OS.out (by omega) (by omega))
  rintro e w_2 ⟨rfl, hb_2⟩
  clear hb
  replace hs := hs.bl hb_2
  refine hK _ _ rfl trivial ?_
  clear hK K
  refine sq ?_
  refine .mv ?_
  refine sq ?_
  refine .r0 ?_
  refine sq ?_
  refine .r0 ?_
  refine sq ?_
  refine .mv ?_
  refine sq ?_
  refine .mv ?_
  apply wpSq_end
  refine hK3 _ _ ?_
  refine wp_seq_k ?_
  intro K4 hK4
  refine rg [0, 1, 2, 3, 4, 5, 6, 7] ?_
  refine sq ?_
  refine .mv ?_
  refine sq ?_
  refine .mv ?_
  refine sq ?_
  intro K hK
  have hb := hs.b
  go_big_op
  go_fit (mSub_bad (HA.out.bl stab_n hb) (HB.out.bl stab_n hb) hna hnb OS.out (by omega) (by omega))
  rintro e w_3 ⟨rfl, hb_3⟩
  clear hb
  replace hs := hs.bl hb_3
  refine hK _ _ rfl trivial ?_
  clear hK K
  refine sq ?_
  refine .mv ?_
  refine sq ?_
  refine .r0 ?_
  refine sq ?_
  refine .r0 ?_
  refine sq ?_
  refine .mv ?_
  refine sq ?_
  refine .mv ?_
  apply wpSq_end
  refine hK4 _ _ ?_
  refine wp_seq_k ?_
  intro K5 hK5
  refine rg [0, 1, 2, 3, 4, 5, 6, 7] ?_
  refine sq ?_
  refine .mv ?_
  refine sq ?_
  refine .mv ?_
  refine sq ?_
  intro K hK
  have hb := hs.b
  go_big_op
  go_fit (mMul_bad (HA.out.bl stab_n hb) (HB.out.bl stab_n hb) hna hnb ML.out (by omega) (by omega))
  rintro e w_4 ⟨rfl, hb_4⟩
  clear hb
  replace hs := hs.bl hb_4
  refine hK _ _ rfl trivial ?_
  clear hK K
  refine sq ?_
  refine .mv ?_
  refine sq ?_
  refine .r0 ?_
  refine sq ?_
  refine .r0 ?_
  refine sq ?_
  refine .mv ?_
  refine sq ?_
  refine .mv ?_
  apply wpSq_end
  refine hK5 _ _ ?_
  refine wp_seq_k ?_
  intro K6 hK6
  refine rg [0, 1, 2, 3, 4, 5, 6] ?_
  refine sq ?_
  refine .mv ?_
  refine sq ?_
  intro K hK
  go_big_op
  go_fit (mIdent_neg dz)
  rintro e w_5 ⟨rfl, hb_5⟩
  replace hs := hs.bl hb_5
  refine hK _ _ rfl trivial ?_
  clear hK K
  refine sq ?_
  refine .mv ?_
  refine sq ?_
  refine .r0 ?_
  refine sq ?_
  refine .r0 ?_
  refine sq ?_
  refine .mv ?_
  refine sq ?_
  refine .mv ?_
  apply wpSq_end
  refine hK6 _ _ ?_
  refine wp_seq_k ?_
  intro K7 hK7
  refine rg [0, 1, 2] ?_
  refine sq ?_
  refine .mv ?_
  refine sq ?_
  intro K hK
  have hb := hs.b
  go_big_op
  go_fit (rGood_any (HA.out.bl stab_n hb) hna (by omega))
  rintro e w_6 ⟨rfl, hb_6⟩
  clear hb
  replace hs := hs.bl hb_6
  rw [decide_eq_true H1.out]
  refine hK _ _ rfl trivial ?_
  clear hK K
  refine sq ?_
  refine .mv ?_
  apply wpSq_end
  refine hK7 _ _ ?_
  refine wp_seq_k ?_
  intro K8 hK8
  refine rg [0, 1, 2, 3, 4, 5] ?_
  refine sq ?_
  refine .mv ?_
  refine sq ?_
  refine .mv ?_
  refine sq ?_
  refine .mv ?_
  refine sq ?_
  intro K hK
  have hb := hs.b
  go_big_op
  go_fit (rGood_any (HB.out.bl stab_n hb) hnb (by omega))
  rintro e w_7 ⟨rfl, hb_7⟩
  clear hb
  replace hs := hs.bl hb_7
  rw [decide_eq_true H2.out]
  refine hK _ _ rfl trivial ?_
  clear hK K
  refine sq ?_
  refine .r0 ?_
  refine sq ?_
  refine .mv ?_
  apply wpSq_end
  refine hK8 _ _ ?_
  refine wp_seq_k ?_
  intro K9 hK9
  refine wp_seq_k ?_
  intro K10 hK10
  refine rg [0, 1, 2, 3, 4, 5, 6, 7, 8, 9, 10, 11, 12, 13, 14, 15, 16, 17, 18, 19] ?_
  refine sq ?_
  intro K hK
  go_big_op
  go_fit (awake8_any _)
  rintro e w_8 ⟨rfl, hb_8⟩
  replace hs := hs.bl hb_8
  refine hK _ _ rfl trivial ?_
  clear hK K
  refine sq ?_
  refine .r0 ?_
  refine sq ?_
  refine .mv ?_
  refine sq ?_
  refine .mv ?_
  refine sq ?_
  intro K hK
  have hb := hs.b
  go_big_op
  go_fit (good_yes (HA.out.bl stab_n hb) hna (by omega) H1.out)
  rintro e w_9 ⟨rfl, hb_9⟩
  clear hb
  replace hs := hs.bl hb_9
  refine hK _ _ rfl trivial ?_
  clear hK K
  refine sq ?_
  refine .mv ?_
  refine sq ?_
  refine .r0 ?_
  refine sq ?_
  refine .r0 ?_
  refine sq ?_
  refine .mv ?_
  refine sq ?_
  refine .mv ?_
  refine sq ?_
  refine .mv ?_
  refine sq ?_
  intro K hK
  have hb := hs.b
  go_big_op
  go_fit (mEqual_any (HA.out.bl stab_n hb) (HB.out.bl stab_n hb) hna hnb (by omega) (by omega) (by decide) (by decide))
  rintro e w_10 ⟨rfl, hb_10⟩
  clear hb
  replace hs := hs.bl hb_10
  rw [HQ.out]
  refine hK _ _ rfl trivial ?_
  clear hK K
  refine sq ?_
  refine .mv ?_
  refine sq ?_
  refine .mv ?_
  refine sq ?_
  refine .mv ?_
  refine sq ?_
  refine .mv ?_
  refine sq ?_
  intro K hK
  have hb := hs.b
  go_big_op
  go_fit (rEqual_any (HA.out.bl stab_n hb) (HB.out.bl stab_n hb) hna hnb H1.out H2.out (by decide) (by decide))
  rintro e w_11 ⟨rfl, hb_11⟩
  clear hb
  replace hs := hs.bl hb_11
  rw [HQ.out]
  refine hK _ _ rfl trivial ?_
  clear hK K
  refine sq ?_
  refine .r0 ?_
  refine sq ?_
  refine .r0 ?_
  refine sq ?_
  refine .r0 ?_
  apply wpSq_end
  refine hK10 _ _ ?_
  refine cf ?_
  refine wp_skip ?_
  refine hK9 _ _ ?_
  refine wp_seq_k ?_
  intro K11 hK11
  refine wp_seq_k ?_
  intro K12 hK12
  refine rg [0, 1, 2, 3, 4, 5, 6, 7, 8, 9, 10, 11, 12, 13, 14, 15, 16, 17, 18, 19, 20, 21, 22, 23, 24, 25, 26, 27, 28, 29, 30, 31, 32] ?_
  refine sq ?_
  refine .mv ?_
  refine sq ?_
  refine .mv ?_
  refine sq ?_
  refine .mv ?_
  refine sq ?_
  refine .r0 ?_
  refine sq ?_
  refine .mv ?_
  refine sq ?_
  refine .mv ?_
  refine sq ?_
  refine .mv ?_
  refine sq ?_
  refine .r0 ?_
  refine sq ?_
  refine .r0 ?_
  refine sq ?_
  refine .r0 ?_
  refine sq ?_
  refine .mv ?_
  refine sq ?_
  refine .mv ?_
  refine sq ?_
  refine .mv ?_
  refine sq ?_
  intro K hK
  have hb := hs.b
  go_big_op
  go_fit (rCols_any (HA.out.bl stab_n hb) hna HK.out)
  rintro e w_12 ⟨rfl, hb_12⟩
  clear hb
  replace hs := hs.bl hb_12
  refine hK _ _ rfl trivial ?_
  clear hK K
  refine sq ?_
  refine .r0 ?_
  refine sq ?_
  refine .r0 ?_
  refine sq ?_
  refine .r0 ?_
  refine sq ?_
  refine .mv ?_
  refine sq ?_
  refine .mv ?_
  refine sq ?_
  refine .r0 ?_
  refine sq ?_
  refine .mv ?_
  refine sk ?_
  refine sk ?_
  refine sk ?_
  refine sk ?_
  refine sk ?_
  refine sk ?_
  refine sk ?_
  refine sk ?_
  refine sk ?_
  refine sk ?_
  refine sq ?_
  refine .r0 ?_
  refine sq ?_
  refine .r0 ?_
  apply wpSq_end
  refine hK12 _ _ ?_
  refine cf ?_
  refine wp_skip ?_
  refine hK11 _ _ ?_
  refine wp_seq_k ?_
  intro K13 hK13
  refine wp_seq_k ?_
  intro K14 hK14
  refine rg [0, 1, 2, 3, 4, 5, 6, 7, 8, 9, 10, 11, 12, 13, 14, 15, 16, 17, 18, 19, 20, 21, 22, 23, 24, 25, 26, 27, 28, 29, 30, 31, 32, 33, 34, 35] ?_
  refine sq ?_
  refine .mv ?_
  refine sq ?_
  refine .r0 ?_
  refine sq ?_
  refine .mv ?_
  refine sq ?_
  refine .mv ?_
  refine sq ?_
  refine .mv ?_
  refine sq ?_
  refine .mv ?_
  refine sq ?_
  intro K hK
  go_big_op
  go_fit (told_no 9 (by decide) rfl)
  rintro e w_13 ⟨rfl, hb_13⟩
  replace hs := hs.bl hb_13
  refine hK _ _ rfl trivial ?_
  clear hK K
  refine sq ?_
  refine .r0 ?_
  refine sq ?_
  refine .r0 ?_
  refine sq ?_
  refine .mv ?_
  refine sq ?_
  refine .mv ?_
  refine sq ?_
  refine .r0 ?_
  refine sq ?_
  refine .mv ?_
  refine sk ?_
  refine sk ?_
  refine sk ?_
  refine sk ?_
  refine sk ?_
  refine sq ?_
  refine .r0 ?_
  refine sq ?_
  refine .r0 ?_
  refine sq ?_
  refine .mv ?_
  refine sq ?_
  refine .mv ?_
  refine sq ?_
  refine .r0 ?_
  refine sq ?_
  refine .mv ?_
  refine sk ?_
  refine sk ?_
  refine sq ?_
  refine .r0 ?_
  refine sq ?_
  refine .mv ?_
  refine sk ?_
  refine sk ?_
  refine sk ?_
  refine sk ?_
  refine sk ?_
  refine sk ?_
  refine sq ?_
  refine .r0 ?_
  refine sq ?_
  refine .r0 ?_
  apply wpSq_end
  refine hK14 _ _ ?_
  refine cf ?_
  refine wp_skip ?_
  refine hK13 _ _ ?_
  refine wp_seq_k ?_
  intro K15 hK15
  refine wp_seq_k ?_
  intro K16 hK16
  refine rg [0, 1, 2, 3, 4, 5, 6, 7, 8, 9, 10, 11, 12, 13, 14, 15] ?_
  refine sq ?_
  refine .mv ?_
  refine sq ?_
  refine .r0 ?_
  refine sq ?_
  refine .mv ?_
  refine sq ?_
  refine .mv ?_
  refine sq ?_
  refine .r0 ?_
  refine sq ?_
  refine .mv ?_
  refine sq ?_
  refine .r0 ?_
  refine sq ?_
  refine .r0 ?_
  refine sq ?_
  refine .r0 ?_
  refine sq ?_
  refine .mv ?_
  refine sq ?_
  refine .mv ?_
  refine sq ?_
  intro K hK
  have hb := hs.b
  go_big_op
  go_fit (rCols_any (HA.out.bl stab_n hb) hna HK.out)
  rintro e w_14 ⟨rfl, hb_14⟩
  clear hb
  replace hs := hs.bl hb_14
  refine hK _ _ rfl trivial ?_
  clear hK K
  refine sq ?_
  refine .mv ?_
  refine sq ?_
  intro K hK
  have hb := hs.b
  go_big_op
  go_fit (rCols_any (HB.out.bl stab_n hb) hnb HL.out)
  rintro e w_15 ⟨rfl, hb_15⟩
  clear hb
  replace hs := hs.bl hb_15
  refine hK _ _ rfl trivial ?_
  clear hK K
  refine sq ?_
  refine .r0 ?_
  refine sq ?_
  refine .r0 ?_
  apply wpSq_end
  refine hK16 _ _ ?_
  refine ct ?_
  refine wp_seq_k ?_
  intro K17 hK17
  refine rg [0, 1, 2, 3, 4, 5, 6, 7, 8, 9, 10, 11] ?_
  refine sq ?_
  refine .mv ?_
  refine sq ?_
  refine .mv ?_
  refine sq ?_
  refine .mv ?_
  refine sq ?_
  intro K hK
  go_big_op
  go_fit (told_no 4 (by decide) rfl)
  rintro e w_16 ⟨rfl, hb_16⟩
  replace hs := hs.bl hb_16
  refine hK _ _ rfl trivial ?_
  clear hK K
  refine sq ?_
  refine .r0 ?_
  refine sq ?_
  refine .mv ?_
  refine sq ?_
  refine .mv ?_
  refine sq ?_
  refine .mv ?_
  refine sq ?_
  refine .mv ?_
  refine sq ?_
  intro K hK
  go_big_op
  go_fit (told_no 4 (by decide) rfl)
  rintro e w_17 ⟨rfl, hb_17⟩
  replace hs := hs.bl hb_17
  refine hK _ _ rfl trivial ?_
  clear hK K
  refine sq ?_
  refine .r0 ?_
  refine sq ?_
  refine .r0 ?_
  apply wpSq_end
  refine hK17 _ _ ?_
  refine cf ?_
  refine wp_skip ?_
  refine hK15 _ _ ?_
  refine wp_seq_k ?_
  intro K18 hK18
  refine wp_seq_k ?_
  intro K19 hK19
  refine rg [0, 1, 2, 3, 4, 5, 6, 7, 8] ?_
  refine sq ?_
  refine .mv ?_
  refine sq ?_
  refine .r0 ?_
  refine sq ?_
  refine .mv ?_
  refine sq ?_
  refine .mv ?_
  refine sq ?_
  intro K hK
  have hb := hs.b
  go_big_op
  go_fit (rCols_any (HA.out.bl stab_n hb) hna HK.out)
  rintro e w_18 ⟨rfl, hb_18⟩
  clear hb
  replace hs := hs.bl hb_18
  refine hK _ _ rfl trivial ?_
  clear hK K
  refine sq ?_
  refine .mv ?_
  refine sq ?_
  refine .r0 ?_
  refine sq ?_
  refine .r0 ?_
  refine sq ?_
  refine .r0 ?_
  apply wpSq_end
  refine hK19 _ _ ?_
  refine ct ?_
  refine wp_seq_k ?_
  intro K20 hK20
  refine rg [0, 1, 2, 3, 4] ?_
  refine sq ?_
  refine .mv ?_
  refine sq ?_
  refine .mv ?_
  refine sq ?_
  refine .mv ?_
  refine sq ?_
  intro K hK
  go_big_op
  go_fit (told_no 4 (by decide) rfl)
  rintro e w_19 ⟨rfl, hb_19⟩
  replace hs := hs.bl hb_19
  refine hK _ _ rfl trivial ?_
  clear hK K
  refine sq ?_
  refine .mv ?_
  apply wpSq_end
  refine hK20 _ _ ?_
  refine wp_ret ?_
  try dsimp only [Exit.then, Exit.inBlock]
  refine bodyPost_ret (v := (.bool true)) (by simp [results, Try.results3, go_sem]) rfl ?_
  exact ⟨rfl, hs.b⟩
set_option maxHeartbeats 4000000 in
set_option maxRecDepth 20000 in
theorem sums_g001neg (ha : MN 1048576 w oa A) (hb' : MN 1048576 w ob B) (hna : A.length = na) (hnb : B.length = nb) (la : na ≤ 1048576) (lb : nb ≤ 1048576) (h1 : gd A) (h2 : gd B) (hka : wd A = ka) (hkb : wd B = kb') (d1 : na ≠ nb) (d3 : ka = nb) (dz : z < 0) :
    Calls Try.prog 3 #[.slice oa na ca, .slice ob nb cb, .int .i64 z] w fun e w' => e = .returned (.bool true) ∧ Below w.heap.size w w' := by
  have OS := hide (show ¬ os2 A B from fun c => by have := c.2.2.1; have := c.2.2.2; omega)
  have ML := hide (show ml2 A B from ⟨h1, h2, by omega⟩)
  obtain ⟨Q, hQ⟩ : ∃ Q, decide (eqM A B) = Q := ⟨_, rfl⟩
  have HQ := hide hQ
  have tQ : (Q != Q) = false := by simp
  clear hQ
  have n64 : na ≤ 64 := by have := h1.1; omega
  have k64 : ka ≤ 64 := by have := h1.2.1; omega
  have m64 : nb ≤ 64 := by have := h2.1; omega
  have BM := hide (bd_mulM ha.bd hb'.bd)
  have LM := hide (show (mulM A B).length = na from len_mulM.trans hna)
  have RM := hide (show ∀ r ∈ mulM A B, r.length ≤ 1000000000 from mkM_rl h2.2.1)
  have lB : B.length ≤ 64 := h2.1
  have t0 : ((na : Int) != (na : Int)) = false := by simp
  have t1 : ((ka : Int) != (ka : Int)) = false := by simp
  have t2 : ((na : Int) != (nb : Int)) = true := bne_iff_ne.2 (by omega)
  have t4 : ((ka : Int) != (nb : Int)) = false := by simp only [bne_eq_false_iff_eq]; omega
  have s1 : (z < 0) = True := eq_true dz
  have s2 : ((64 : Int) < z) = False := eq_false (by omega)
  have s3 : ((0 : Int) ≤ z) = False := eq_false (by omega)
  have HA := hide ha
  have HB := hide hb'
  have H1 := hide h1
  clear ha hb' h1
  have H2 := hide h2
  have HK := hide hka
  clear h2 hka
  have HL := hide hkb
  have H3 := hide d3
  clear hkb d3
  have G1 := hide d1
  clear d1
  go_enter Try.func3, Try.ntmps3
  have hs := St.nil w
  refine wp_seq_k ?_
  intro K1 hK1
  refine rg [0] ?_
  refine sq ?_
  refine .mv ?_
  apply wpSq_end
  refine hK1 _ _ ?_
  refine wp_seq_k ?_
  intro K2 hK2
  refine rg [0, 1, 2, 3, 4, 5, 6, 7, 8] ?_
  refine sq ?_
  refine .mv ?_
  refine sq ?_
  intro K hK
  have hb := hs.b
  go_big_op
  go_fit (mSize_ok (HA.out.bl stab_n hb) hna H1.out HK.out)
  rintro e w_1 ⟨rfl, hb_1⟩
  clear hb
  replace hs := hs.bl hb_1
  refine hK _ _ rfl trivial ?_
  clear hK K
  refine sq ?_
  refine .mv ?_
  refine sq ?_
  refine .r0 ?_
  refine sq ?_
  refine .r0 ?_
  refine sq ?_
  refine .r0 ?_
  refine sq ?_
  refine .mv ?_
  refine sq ?_
  refine .mv ?_
  refine sq ?_
  refine .mv ?_
  apply wpSq_end
  refine hK2 _ _ ?_
  refine wp_seq_k ?_
  intro K3 hK3
  refine rg [0, 1, 2, 3, 4, 5, 6, 7] ?_
  refine sq ?_
  refine .mv ?_
  refine sq ?_
  refine .mv ?_
  refine sq ?_
  intro K hK
  have hb := hs.b
  go_big_op
  go_fit (mAdd_bad (HA.out.bl stab_n hb) (HB.out.bl stab_n hb) hna hnb OS.out (by omega) (by omega))
  rintro e w_2 ⟨rfl, hb_2⟩
  clear hb
  replace hs := hs.bl hb_2
  refine hK _ _ rfl trivial ?_
  clear hK K
  refine sq ?_
  refine .mv ?_
  refine sq ?_
  refine .r0 ?_
  refine sq ?_
  refine .r0 ?_
  refine sq ?_
  refine .mv ?_
  refine sq ?_
  refine .mv ?_
  apply wpSq_end
  refine hK3 _ _ ?_
  refine wp_seq_k ?_
  intro K4 hK4
  refine rg [0, 1, 2, 3, 4, 5, 6, 7] ?_
  refine sq ?_
  refine .mv ?_
  refine sq ?_
  refine .mv ?_
  refine sq ?_
  intro K hK
  have hb := hs.b
  go_big_op
  go_fit (mSub_bad (HA.out.bl stab_n hb) (HB.out.bl stab_n hb) hna hnb OS.out (by omega) (by omega))
  rintro e w_3 ⟨rfl, hb_3⟩
  clear hb
  replace hs := hs.bl hb_3
  refine hK _ _ rfl trivial ?_
  clear hK K
  refine sq ?_
  refine .mv ?_
  refine sq ?_
  refine .r0 ?_
  refine sq ?_
  refine .r0 ?_
  refine sq ?_
  refine .mv ?_
  refine sq ?_
  refine .mv ?_
  apply wpSq_end
  refine hK4 _ _ ?_
  refine wp_seq_k ?_
  intro K5 hK5
  refine rg [0, 1, 2, 3, 4, 5, 6, 7] ?_
  refine sq ?_
  refine .mv ?_
  refine sq ?_
  refine .mv ?_
  refine sq ?_
  intro K hK
  have hb := hs.b
  go_big_op
  go_fit (lMul (HA.out.bl stab_n hb) (HB.out.bl stab_n hb) hna hnb ML.out (by decide) (by decide))
  rintro e w_4 ⟨o_P, c_P, rfl, m_P, hb_4⟩
  clear hb
  replace hs := hs.bl hb_4
  refine hK _ _ rfl trivial ?_
  clear hK K
  refine sq ?_
  refine .mv ?_
  refine sq ?_
  refine .r0 ?_
  refine sq ?_
  refine .r0 ?_
  refine sq ?_
  refine .mv ?_
  refine sq ?_
  refine .mv ?_
  apply wpSq_end
  refine hK5 _ _ ?_
  refine wp_seq_k ?_
  intro K6 hK6
  refine rg [0, 1, 2, 3, 4, 5, 6] ?_
  refine sq ?_
  refine .mv ?_
  refine sq ?_
  intro K hK
  go_big_op
  go_fit (mIdent_neg dz)
  rintro e w_5 ⟨rfl, hb_5⟩
  replace m_P := m_P.bl hb_5; replace hs := hs.bl hb_5
  refine hK _ _ rfl trivial ?_
  clear hK K
  refine sq ?_
  refine .mv ?_
  refine sq ?_
  refine .r0 ?_
  refine sq ?_
  refine .r0 ?_
  refine sq ?_
  refine .mv ?_
  refine sq ?_
  refine .mv ?_
  apply wpSq_end
  refine hK6 _ _ ?_
  refine wp_seq_k ?_
  intro K7 hK7
  refine rg [0, 1, 2] ?_
  refine sq ?_
  refine .mv ?_
  refine sq ?_
  intro K hK
  have hb := hs.b
  go_big_op
  go_fit (rGood_any (HA.out.bl stab_n hb) hna (by omega))
  rintro e w_6 ⟨rfl, hb_6⟩
  clear hb
  replace m_P := m_P.bl hb_6; replace hs := hs.bl hb_6
  rw [decide_eq_true H1.out]
  refine hK _ _ rfl trivial ?_
  clear hK K
  refine sq ?_
  refine .mv ?_
  apply wpSq_end
  refine hK7 _ _ ?_
  refine wp_seq_k ?_
  intro K8 hK8
  refine rg [0, 1, 2, 3, 4, 5] ?_
  refine sq ?_
  refine .mv ?_
  refine sq ?_
  refine .mv ?_
  refine sq ?_
  refine .mv ?_
  refine sq ?_
  intro K hK
  have hb := hs.b
  go_big_op
  go_fit (rGood_any (HB.out.bl stab_n hb) hnb (by omega))
  rintro e w_7 ⟨rfl, hb_7⟩
  clear hb
  replace m_P := m_P.bl hb_7; replace hs := hs.bl hb_7
  rw [decide_eq_true H2.out]
  refine hK _ _ rfl trivial ?_
  clear hK K
  refine sq ?_
  refine .r0 ?_
  refine sq ?_
  refine .mv ?_
  apply wpSq_end
  refine hK8 _ _ ?_
  refine wp_seq_k ?_
  intro K9 hK9
  refine wp_seq_k ?_
  intro K10 hK10
  refine rg [0, 1, 2, 3, 4, 5, 6, 7, 8, 9, 10, 11, 12, 13, 14, 15, 16, 17, 18, 19] ?_
  refine sq ?_
  intro K hK
  go_big_op
  go_fit (awake8_any _)
  rintro e w_8 ⟨rfl, hb_8⟩
  replace m_P := m_P.bl hb_8; replace hs := hs.bl hb_8
  refine hK _ _ rfl trivial ?_
  clear hK K
  refine sq ?_
  refine .r0 ?_
  refine sq ?_
  refine .mv ?_
  refine sq ?_
  refine .mv ?_
  refine sq ?_
  intro K hK
  have hb := hs.b
  go_big_op
  go_fit (good_yes (HA.out.bl stab_n hb) hna (by omega) H1.out)
  rintro e w_9 ⟨rfl, hb_9⟩
  clear hb
  replace m_P := m_P.bl hb_9; replace hs := hs.bl hb_9
  refine hK _ _ rfl trivial ?_
  clear hK K
  refine sq ?_
  refine .mv ?_
  refine sq ?_
  refine .r0 ?_
  refine sq ?_
  refine .r0 ?_
  refine sq ?_
  refine .mv ?_
  refine sq ?_
  refine .mv ?_
  refine sq ?_
  refine .mv ?_
  refine sq ?_
  intro K hK
  have hb := hs.b
  go_big_op
  go_fit (mEqual_any (HA.out.bl stab_n hb) (HB.out.bl stab_n hb) hna hnb (by omega) (by omega) (by decide) (by decide))
  rintro e w_10 ⟨rfl, hb_10⟩
  clear hb
  replace m_P := m_P.bl hb_10; replace hs := hs.bl hb_10
  rw [HQ.out]
  refine hK _ _ rfl trivial ?_
  clear hK K
  refine sq ?_
  refine .mv ?_
  refine sq ?_
  refine .mv ?_
  refine sq ?_
  refine .mv ?_
  refine sq ?_
  refine .mv ?_
  refine sq ?_
  intro K hK
  have hb := hs.b
  go_big_op
  go_fit (rEqual_any (HA.out.bl stab_n hb) (HB.out.bl stab_n hb) hna hnb H1.out H2.out (by decide) (by decide))
  rintro e w_11 ⟨rfl, hb_11⟩
  clear hb
  replace m_P := m_P.bl hb_11; replace hs := hs.bl hb_11
  rw [HQ.out]
  refine hK _ _ rfl trivial ?_
  clear hK K
  refine sq ?_
  refine .r0 ?_
  refine sq ?_
  refine .r0 ?_
  refine sq ?_
  refine .r0 ?_
  apply wpSq_end
  refine hK10 _ _ ?_
  refine cf ?_
  refine wp_skip ?_
  refine hK9 _ _ ?_
  refine wp_seq_k ?_
  intro K11 hK11
  refine wp_seq_k ?_
  intro K12 hK12
  refine rg [0, 1, 2, 3, 4, 5, 6, 7, 8, 9, 10, 11, 12, 13, 14, 15, 16, 17, 18, 19, 20, 21, 22, 23, 24, 25, 26, 27, 28, 29, 30, 31, 32] ?_
  refine sq ?_
  refine .mv ?_
  refine sq ?_
  refine .mv ?_
  refine sq ?_
  refine .mv ?_
  refine sq ?_
  refine .r0 ?_
  refine sq ?_
  refine .mv ?_
  refine sq ?_
  refine .mv ?_
  refine sq ?_
  refine .mv ?_
  refine sq ?_
  refine .r0 ?_
  refine sq ?_
  refine .r0 ?_
  refine sq ?_
  refine .r0 ?_
  refine sq ?_
  refine .mv ?_
  refine sq ?_
  refine .mv ?_
  refine sq ?_
  refine .mv ?_
  refine sq ?_
  intro K hK
  have hb := hs.b
  go_big_op
  go_fit (rCols_any (HA.out.bl stab_n hb) hna HK.out)
  rintro e w_12 ⟨rfl, hb_12⟩
  clear hb
  replace m_P := m_P.bl hb_12; replace hs := hs.bl hb_12
  refine hK _ _ rfl trivial ?_
  clear hK K
  refine sq ?_
  refine .r0 ?_
  refine sq ?_
  refine .r0 ?_
  refine sq ?_
  refine .r0 ?_
  refine sq ?_
  refine .mv ?_
  refine sq ?_
  refine .mv ?_
  refine sq ?_
  refine .r0 ?_
  refine sq ?_
  refine .mv ?_
  refine sk ?_
  refine sk ?_
  refine sk ?_
  refine sk ?_
  refine sk ?_
  refine sk ?_
  refine sk ?_
  refine sk ?_
  refine sk ?_
  refine sk ?_
  refine sq ?_
  refine .r0 ?_
  refine sq ?_
  refine .r0 ?_
  apply wpSq_end
  refine hK12 _ _ ?_
  refine cf ?_
  refine wp_skip ?_
  refine hK11 _ _ ?_
  refine wp_seq_k ?_
  intro K13 hK13
  refine wp_seq_k ?_
  intro K14 hK14
  refine rg [0, 1, 2, 3, 4, 5, 6, 7, 8, 9, 10, 11, 12, 13, 14, 15, 16, 17, 18, 19, 20, 21, 22, 23, 24, 25, 26, 27, 28, 29, 30, 31, 32, 33, 34, 35] ?_
  refine sq ?_
  refine .mv ?_
  refine sq ?_
  refine .r0 ?_
  refine sq ?_
  refine .mv ?_
  refine sq ?_
  refine .mv ?_
  refine sq ?_
  refine .mv ?_
  refine sq ?_
  refine .mv ?_
  refine sq ?_
  intro K hK
  go_big_op
  go_fit (told_no 9 (by decide) rfl)
  rintro e w_13 ⟨rfl, hb_13⟩
  replace m_P := m_P.bl hb_13; replace hs := hs.bl hb_13
  refine hK _ _ rfl trivial ?_
  clear hK K
  refine sq ?_
  refine .r0 ?_
  refine sq ?_
  refine .r0 ?_
  refine sq ?_
  refine .mv ?_
  refine sq ?_
  refine .mv ?_
  refine sq ?_
  refine .r0 ?_
  refine sq ?_
  refine .mv ?_
  refine sk ?_
  refine sk ?_
  refine sk ?_
  refine sk ?_
  refine sk ?_
  refine sq ?_
  refine .r0 ?_
  refine sq ?_
  refine .r0 ?_
  refine sq ?_
  refine .mv ?_
  refine sq ?_
  refine .mv ?_
  refine sq ?_
  refine .r0 ?_
  refine sq ?_
  refine .mv ?_
  refine sk ?_
  refine sk ?_
  refine sq ?_
  refine .r0 ?_
  refine sq ?_
  refine .mv ?_
  refine sk ?_
  refine sk ?_
  refine sk ?_
  refine sk ?_
  refine sk ?_
  refine sk ?_
  refine sq ?_
  refine .r0 ?_
  refine sq ?_
  refine .r0 ?_
  apply wpSq_end
  refine hK14 _ _ ?_
  refine cf ?_
  refine wp_skip ?_
  refine hK13 _ _ ?_
  refine wp_seq_k ?_
  intro K15 hK15
  refine wp_seq_k ?_
  intro K16 hK16
  refine rg [0, 1, 2, 3, 4, 5, 6, 7, 8, 9, 10, 11, 12, 13, 14, 15] ?_
  refine sq ?_
  refine .mv ?_
  refine sq ?_
  refine .r0 ?_
  refine sq ?_
  refine .mv ?_
  refine sq ?_
  refine .mv ?_
  refine sq ?_
  refine .r0 ?_
  refine sq ?_
  refine .mv ?_
  refine sq ?_
  refine .r0 ?_
  refine sq ?_
  refine .r0 ?_
  refine sq ?_
  refine .r0 ?_
  refine sq ?_
  refine .mv ?_
  refine sk ?_
  refine sk ?_
  refine sk ?_
  refine sk ?_
  refine sk ?_
  refine sq ?_
  refine .r0 ?_
  apply wpSq_end
  refine hK16 _ _ ?_
  refine ct ?_
  refine wp_seq_k ?_
  intro K17 hK17
  refine rg [0, 1, 2, 3, 4, 5, 6, 7, 8, 9, 10, 11] ?_
  refine sq ?_
  refine .mv ?_
  refine sq ?_
  refine .mv ?_
  refine sq ?_
  refine .mv ?_
  refine sq ?_
  intro K hK
  go_big_op
  go_fit (told_no 4 (by decide) rfl)
  rintro e w_14 ⟨rfl, hb_14⟩
  replace m_P := m_P.bl hb_14; replace hs := hs.bl hb_14
  refine hK _ _ rfl trivial ?_
  clear hK K
  refine sq ?_
  refine .r0 ?_
  refine sq ?_
  refine .mv ?_
  refine sq ?_
  refine .mv ?_
  refine sq ?_
  refine .mv ?_
  refine sq ?_
  refine .mv ?_
  refine sq ?_
  intro K hK
  go_big_op
  go_fit (told_no 4 (by decide) rfl)
  rintro e w_15 ⟨rfl, hb_15⟩
  replace m_P := m_P.bl hb_15; replace hs := hs.bl hb_15
  refine hK _ _ rfl trivial ?_
  clear hK K
  refine sq ?_
  refine .r0 ?_
  refine sq ?_
  refine .r0 ?_
  apply wpSq_end
  refine hK17 _ _ ?_
  refine cf ?_
  refine wp_skip ?_
  refine hK15 _ _ ?_
  refine wp_seq_k ?_
  intro K18 hK18
  refine wp_seq_k ?_
  intro K19 hK19
  refine rg [0, 1, 2, 3, 4, 5, 6, 7, 8] ?_
  refine sq ?_
  refine .mv ?_
  refine sq ?_
  refine .r0 ?_
  refine sq ?_
  refine .mv ?_
  refine sq ?_
  refine .mv ?_
  refine sq ?_
  intro K hK
  have hb := hs.b
  go_big_op
  go_fit (rCols_any (HA.out.bl stab_n hb) hna HK.out)
  rintro e w_16 ⟨rfl, hb_16⟩
  clear hb
  replace m_P := m_P.bl hb_16; replace hs := hs.bl hb_16
  refine hK _ _ rfl trivial ?_
  clear hK K
  refine sq ?_
  refine .mv ?_
  refine sq ?_
  refine .r0 ?_
  refine sq ?_
  refine .r0 ?_
  refine sq ?_
  refine .r0 ?_
  apply wpSq_end
  refine hK19 _ _ ?_
  refine cf ?_
  refine wp_skip ?_
  refine hK18 _ _ ?_
  refine wp_seq_k ?_
  intro K20 hK20
  refine rg [0, 1, 2, 3, 4, 5, 6] ?_
  refine sq ?_
  refine .mv ?_
  refine sq ?_
  refine .mv ?_
  refine sq ?_
  refine .mv ?_
  refine sq ?_
  refine .mv ?_
  refine sq ?_
  intro K hK
  have hb := hs.b
  go_big_op
  go_fit (rMul8 (HA.out.bl stab_n hb) (HB.out.bl stab_n hb) hna hnb ML.out (by decide) (by decide))
  rintro e w_17 ⟨o_Z, c_Z, rfl, m_Z, hb_17⟩
  clear hb
  replace m_P := m_P.bl hb_17; replace hs := hs.bl hb_17
  refine hK _ _ rfl trivial ?_
  clear hK K
  refine sq ?_
  intro K hK
  go_big_op
  go_fit (told_yes m_P (m_Z.mn BM.out) LM.out (by omega) RM.out (by omega))
  rintro e w_18 ⟨rfl, hb_18⟩
  replace m_P := m_P.bl hb_18; replace m_Z := m_Z.bl hb_18; replace hs := hs.bl hb_18
  refine hK _ _ rfl trivial ?_
  clear hK K
  refine sq ?_
  refine .mv ?_
  apply wpSq_end
  refine hK20 _ _ ?_
  refine wp_ret ?_
  try dsimp only [Exit.then, Exit.inBlock]
  refine bodyPost_ret (v := (.bool true)) (by simp [results, Try.results3, go_sem]) rfl ?_
  exact ⟨rfl, hs.b⟩
set_option maxHeartbeats 4000000 in
set_option maxRecDepth 20000 in
theorem sums_g000neg (ha : MN 1048576 w oa A) (hb' : MN 1048576 w ob B) (hna : A.length = na) (hnb : B.length = nb) (la : na ≤ 1048576) (lb : nb ≤ 1048576) (h1 : gd A) (h2 : gd B) (hka : wd A = ka) (hkb : wd B = kb') (d1 : na ≠ nb) (d3 : ka ≠ nb) (dz : z < 0) :
    Calls Try.prog 3 #[.slice oa na ca, .slice ob nb cb, .int .i64 z] w fun e w' => e = .returned (.bool true) ∧ Below w.heap.size w w' := by
  have OS := hide (show ¬ os2 A B from fun c => by have := c.2.2.1; have := c.2.2.2; omega)
  have ML := hide (show ¬ ml2 A B from fun c => by have := c.2.2; omega)
  obtain ⟨Q, hQ⟩ : ∃ Q, decide (eqM A B) = Q := ⟨_, rfl⟩
  have HQ := hide hQ
  have tQ : (Q != Q) = false := by simp
  clear hQ
  have n64 : na ≤ 64 := by have := h1.1; omega
  have k64 : ka ≤ 64 := by have := h1.2.1; omega
  have m64 : nb ≤ 64 := by have := h2.1; omega
  have t0 : ((na : Int) != (na : Int)) = false := by simp
  have t1 : ((ka : Int) != (ka : Int)) = false := by simp
  have t2 : ((na : Int) != (nb : Int)) = true := bne_iff_ne.2 (by omega)
  have t4 : ((ka : Int) != (nb : Int)) = true := bne_iff_ne.2 (by omega)
  have s1 : (z < 0) = True := eq_true dz
  have s2 : ((64 : Int) < z) = False := eq_false (by omega)
  have s3 : ((0 : Int) ≤ z) = False := eq_false (by omega)
  have HA := hide ha
  have HB := hide hb'
  have H1 := hide h1
  clear ha hb' h1
  have H2 := hide h2
  have HK := hide hka
  clear h2 hka
  have HL := hide hkb
  have H3 := hide d3
  clear hkb d3
  have G1 := hide d1
  clear d1
  go_enter Try.func3, Try.ntmps3
  have hs := St.nil w
  refine wp_seq_k ?_
  intro K1 hK1
  refine rg [0] ?_
  refine sq ?_
  refine .mv ?_
  apply wpSq_end
  refine hK1 _ _ ?_
  refine wp_seq_k ?_
  intro K2 hK2
  refine rg [0, 1, 2, 3, 4, 5, 6, 7, 8] ?_
  refine sq ?_
  refine .mv ?_
  refine sq ?_
  intro K hK
  have hb := hs.b
  go_big_op
  go_fit (mSize_ok (HA.out.bl stab_n hb) hna H1.out HK.out)
  rintro e w_1 ⟨rfl, hb_1⟩
  clear hb
  replace hs := hs.bl hb_1
  refine hK _ _ rfl trivial ?_
  clear hK K
  refine sq ?_
  refine .mv ?_
  refine sq ?_
  refine .r0 ?_
  refine sq ?_
  refine .r0 ?_
  refine sq ?_
  refine .r0 ?_
  refine sq ?_
  refine .mv ?_
  refine sq ?_
  refine .mv ?_
  refine sq ?_
  refine .mv ?_
  apply wpSq_end
  refine hK2 _ _ ?_
  refine wp_seq_k ?_
  intro K3 hK3
  refine rg [0, 1, 2, 3, 4, 5, 6, 7] ?_
  refine sq ?_
  refine .mv ?_
  refine sq ?_
  refine .mv ?_
  refine sq ?_
  intro K hK
  have hb := hs.b
  go_big_op
  go_fit (mAdd_bad (HA.out.bl stab_n hb) (HB.out.bl stab_n hb) hna hnb OS.out (by omega) (by omega))
  rintro e w_2 ⟨rfl, hb_2⟩
  clear hb
  replace hs := hs.bl hb_2
  refine hK _ _ rfl trivial ?_
  clear hK K
  refine sq ?_
  refine .mv ?_
  refine sq ?_
  refine .r0 ?_
  refine sq ?_
  refine .r0 ?_
  refine sq ?_
  refine .mv ?_
  refine sq ?_
  refine .mv ?_
  apply wpSq_end
  refine hK3 _ _ ?_
  refine wp_seq_k ?_
  intro K4 hK4
  refine rg [0, 1, 2, 3, 4, 5, 6, 7] ?_
  refine sq ?_
  refine .mv ?_
  refine sq ?_
  refine .mv ?_
  refine sq ?_
  intro K hK
  have hb := hs.b
  go_big_op
  go_fit (mSub_bad (HA.out.bl stab_n hb) (HB.out.bl stab_n hb) hna hnb OS.out (by omega) (by omega))
  rintro e w_3 ⟨rfl, hb_3⟩
  clear hb
  replace hs := hs.bl hb_3
  refine hK _ _ rfl trivial ?_
  clear hK K
  refine sq ?_
  refine .mv ?_
  refine sq ?_
  refine .r0 ?_
  refine sq ?_
  refine .r0 ?_
  refine sq ?_
  refine .mv ?_
  refine sq ?_
  refine .mv ?_
  apply wpSq_end
  refine hK4 _ _ ?_
  refine wp_seq_k ?_
  intro K5 hK5
  refine rg [0, 1, 2, 3, 4, 5, 6, 7] ?_
  refine sq ?_
  refine .mv ?_
  refine sq ?_
  refine .mv ?_
  refine sq ?_
  intro K hK
  have hb := hs.b
  go_big_op
  go_fit (mMul_bad (HA.out.bl stab_n hb) (HB.out.bl stab_n hb) hna hnb ML.out (by omega) (by omega))
  rintro e w_4 ⟨rfl, hb_4⟩
  clear hb
  replace hs := hs.bl hb_4
  refine hK _ _ rfl trivial ?_
  clear hK K
  refine sq ?_
  refine .mv ?_
  refine sq ?_
  refine .r0 ?_
  refine sq ?_
  refine .r0 ?_
  refine sq ?_
  refine .mv ?_
  refine sq ?_
  refine .mv ?_
  apply wpSq_end
  refine hK5 _ _ ?_
  refine wp_seq_k ?_
  intro K6 hK6
  refine rg [0, 1, 2, 3, 4, 5, 6] ?_
  refine sq ?_
  refine .mv ?_
  refine sq ?_
  intro K hK
  go_big_op
  go_fit (mIdent_neg dz)
  rintro e w_5 ⟨rfl, hb_5⟩
  replace hs := hs.bl hb_5
  refine hK _ _ rfl trivial ?_
  clear hK K
  refine sq ?_
  refine .mv ?_
  refine sq ?_
  refine .r0 ?_
  refine sq ?_
  refine .r0 ?_
  refine sq ?_
  refine .mv ?_
  refine sq ?_
  refine .mv ?_
  apply wpSq_end
  refine hK6 _ _ ?_
  refine wp_seq_k ?_
  intro K7 hK7
  refine rg [0, 1, 2] ?_
  refine sq ?_
  refine .mv ?_
  refine sq ?_
  intro K hK
  have hb := hs.b
  go_big_op
  go_fit (rGood_any (HA.out.bl stab_n hb) hna (by omega))
  rintro e w_6 ⟨rfl, hb_6⟩
  clear hb
  replace hs := hs.bl hb_6
  rw [decide_eq_true H1.out]
  refine hK _ _ rfl trivial ?_
  clear hK K
  refine sq ?_
  refine .mv ?_
  apply wpSq_end
  refine hK7 _ _ ?_
  refine wp_seq_k ?_
  intro K8 hK8
  refine rg [0, 1, 2, 3, 4, 5] ?_
  refine sq ?_
  refine .mv ?_
  refine sq ?_
  refine .mv ?_
  refine sq ?_
  refine .mv ?_
  refine sq ?_
  intro K hK
  have hb := hs.b
  go_big_op
  go_fit (rGood_any (HB.out.bl stab_n hb) hnb (by omega))
  rintro e w_7 ⟨rfl, hb_7⟩
  clear hb
  replace hs := hs.bl hb_7
  rw [decide_eq_true H2.out]
  refine hK _ _ rfl trivial ?_
  clear hK K
  refine sq ?_
  refine .r0 ?_
  refine sq ?_
  refine .mv ?_
  apply wpSq_end
  refine hK8 _ _ ?_
  refine wp_seq_k ?_
  intro K9 hK9
  refine wp_seq_k ?_
  intro K10 hK10
  refine rg [0, 1, 2, 3, 4, 5, 6, 7, 8, 9, 10, 11, 12, 13, 14, 15, 16, 17, 18, 19] ?_
  refine sq ?_
  intro K hK
  go_big_op
  go_fit (awake8_any _)
  rintro e w_8 ⟨rfl, hb_8⟩
  replace hs := hs.bl hb_8
  refine hK _ _ rfl trivial ?_
  clear hK K
  refine sq ?_
  refine .r0 ?_
  refine sq ?_
  refine .mv ?_
  refine sq ?_
  refine .mv ?_
  refine sq ?_
  intro K hK
  have hb := hs.b
  go_big_op
  go_fit (good_yes (HA.out.bl stab_n hb) hna (by omega) H1.out)
  rintro e w_9 ⟨rfl, hb_9⟩
  clear hb
  replace hs := hs.bl hb_9
  refine hK _ _ rfl trivial ?_
  clear hK K
  refine sq ?_
  refine .mv ?_
  refine sq ?_
  refine .r0 ?_
  refine sq ?_
  refine .r0 ?_
  refine sq ?_
  refine .mv ?_
  refine sq ?_
  refine .mv ?_
  refine sq ?_
  refine .mv ?_
  refine sq ?_
  intro K hK
  have hb := hs.b
  go_big_op
  go_fit (mEqual_any (HA.out.bl stab_n hb) (HB.out.bl stab_n hb) hna hnb (by omega) (by omega) (by decide) (by decide))
  rintro e w_10 ⟨rfl, hb_10⟩
  clear hb
  replace hs := hs.bl hb_10
  rw [HQ.out]
  refine hK _ _ rfl trivial ?_
  clear hK K
  refine sq ?_
  refine .mv ?_
  refine sq ?_
  refine .mv ?_
  refine sq ?_
  refine .mv ?_
  refine sq ?_
  refine .mv ?_
  refine sq ?_
  intro K hK
  have hb := hs.b
  go_big_op
  go_fit (rEqual_any (HA.out.bl stab_n hb) (HB.out.bl stab_n hb) hna hnb H1.out H2.out (by decide) (by decide))
  rintro e w_11 ⟨rfl, hb_11⟩
  clear hb
  replace hs := hs.bl hb_11
  rw [HQ.out]
  refine hK _ _ rfl trivial ?_
  clear hK K
  refine sq ?_
  refine .r0 ?_
  refine sq ?_
  refine .r0 ?_
  refine sq ?_
  refine .r0 ?_
  apply wpSq_end
  refine hK10 _ _ ?_
  refine cf ?_
  refine wp_skip ?_
  refine hK9 _ _ ?_
  refine wp_seq_k ?_
  intro K11 hK11
  refine wp_seq_k ?_
  intro K12 hK12
  refine rg [0, 1, 2, 3, 4, 5, 6, 7, 8, 9, 10, 11, 12, 13, 14, 15, 16, 17, 18, 19, 20, 21, 22, 23, 24, 25, 26, 27, 28, 29, 30, 31, 32] ?_
  refine sq ?_
  refine .mv ?_
  refine sq ?_
  refine .mv ?_
  refine sq ?_
  refine .mv ?_
  refine sq ?_
  refine .r0 ?_
  refine sq ?_
  refine .mv ?_
  refine sq ?_
  refine .mv ?_
  refine sq ?_
  refine .mv ?_
  refine sq ?_
  refine .r0 ?_
  refine sq ?_
  refine .r0 ?_
  refine sq ?_
  refine .r0 ?_
  refine sq ?_
  refine .mv ?_
  refine sq ?_
  refine .mv ?_
  refine sq ?_
  refine .mv ?_
  refine sq ?_
  intro K hK
  have hb := hs.b
  go_big_op
  go_fit (rCols_any (HA.out.bl stab_n hb) hna HK.out)
  rintro e w_12 ⟨rfl, hb_12⟩
  clear hb
  replace hs := hs.bl hb_12
  refine hK _ _ rfl trivial ?_
  clear hK K
  refine sq ?_
  refine .r0 ?_
  refine sq ?_
  refine .r0 ?_
  refine sq ?_
  refine .r0 ?_
  refine sq ?_
  refine .mv ?_
  refine sq ?_
  refine .mv ?_
  refine sq ?_
  refine .r0 ?_
  refine sq ?_
  refine .mv ?_
  refine sk ?_
  refine sk ?_
  refine sk ?_
  refine sk ?_
  refine sk ?_
  refine sk ?_
  refine sk ?_
  refine sk ?_
  refine sk ?_
  refine sk ?_
  refine sq ?_
  refine .r0 ?_
  refine sq ?_
  refine .r0 ?_
  apply wpSq_end
  refine hK12 _ _ ?_
  refine cf ?_
  refine wp_skip ?_
  refine hK11 _ _ ?_
  refine wp_seq_k ?_
  intro K13 hK13
  refine wp_seq_k ?_
  intro K14 hK14
  refine rg [0, 1, 2, 3, 4, 5, 6, 7, 8, 9, 10, 11, 12, 13, 14, 15, 16, 17, 18, 19, 20, 21, 22, 23, 24, 25, 26, 27, 28, 29, 30, 31, 32, 33, 34, 35] ?_
  refine sq ?_
  refine .mv ?_
  refine sq ?_
  refine .r0 ?_
  refine sq ?_
  refine .mv ?_
  refine sq ?_
  refine .mv ?_
  refine sq ?_
  refine .mv ?_
  refine sq ?_
  refine .mv ?_
  refine sq ?_
  intro K hK
  go_big_op
  go_fit (told_no 9 (by decide) rfl)
  rintro e w_13 ⟨rfl, hb_13⟩
  replace hs := hs.bl hb_13
  refine hK _ _ rfl trivial ?_
  clear hK K
  refine sq ?_
  refine .r0 ?_
  refine sq ?_
  refine .r0 ?_
  refine sq ?_
  refine .mv ?_
  refine sq ?_
  refine .mv ?_
  refine sq ?_
  refine .r0 ?_
  refine sq ?_
  refine .mv ?_
  refine sk ?_
  refine sk ?_
  refine sk ?_
  refine sk ?_
  refine sk ?_
  refine sq ?_
  refine .r0 ?_
  refine sq ?_
  refine .r0 ?_
  refine sq ?_
  refine .mv ?_
  refine sq ?_
  refine .mv ?_
  refine sq ?_
  refine .r0 ?_
  refine sq ?_
  refine .mv ?_
  refine sk ?_
  refine sk ?_
  refine sq ?_
  refine .r0 ?_
  refine sq ?_
  refine .mv ?_
  refine sk ?_
  refine sk ?_
  refine sk ?_
  refine sk ?_
  refine sk ?_
  refine sk ?_
  refine sq ?_
  refine .r0 ?_
  refine sq ?_
  refine .r0 ?_
  apply wpSq_end
  refine hK14 _ _ ?_
  refine cf ?_
  refine wp_skip ?_
  refine hK13 _ _ ?_
  refine wp_seq_k ?_
  intro K15 hK15
  refine wp_seq_k ?_
  intro K16 hK16
  refine rg [0, 1, 2, 3, 4, 5, 6, 7, 8, 9, 10, 11, 12, 13, 14, 15] ?_
  refine sq ?_
  refine .mv ?_
  refine sq ?_
  refine .r0 ?_
  refine sq ?_
  refine .mv ?_
  refine sq ?_
  refine .mv ?_
  refine sq ?_
  refine .r0 ?_
  refine sq ?_
  refine .mv ?_
  refine sq ?_
  refine .r0 ?_
  refine sq ?_
  refine .r0 ?_
  refine sq ?_
  refine .r0 ?_
  refine sq ?_
  refine .mv ?_
  refine sk ?_
  refine sk ?_
  refine sk ?_
  refine sk ?_
  refine sk ?_
  refine sq ?_
  refine .r0 ?_
  apply wpSq_end
  refine hK16 _ _ ?_
  refine ct ?_
  refine wp_seq_k ?_
  intro K17 hK17
  refine rg [0, 1, 2, 3, 4, 5, 6, 7, 8, 9, 10, 11] ?_
  refine sq ?_
  refine .mv ?_
  refine sq ?_
  refine .mv ?_
  refine sq ?_
  refine .mv ?_
  refine sq ?_
  intro K hK
  go_big_op
  go_fit (told_no 4 (by decide) rfl)
  rintro e w_14 ⟨rfl, hb_14⟩
  replace hs := hs.bl hb_14
  refine hK _ _ rfl trivial ?_
  clear hK K
  refine sq ?_
  refine .r0 ?_
  refine sq ?_
  refine .mv ?_
  refine sq ?_
  refine .mv ?_
  refine sq ?_
  refine .mv ?_
  refine sq ?_
  refine .mv ?_
  refine sq ?_
  intro K hK
  go_big_op
  go_fit (told_no 4 (by decide) rfl)
  rintro e w_15 ⟨rfl, hb_15⟩
  replace hs := hs.bl hb_15
  refine hK _ _ rfl trivial ?_
  clear hK K
  refine sq ?_
  refine .r0 ?_
  refine sq ?_
  refine .r0 ?_
  apply wpSq_end
  refine hK17 _ _ ?_
  refine cf ?_
  refine wp_skip ?_
  refine hK15 _ _ ?_
  refine wp_seq_k ?_
  intro K18 hK18
  refine wp_seq_k ?_
  intro K19 hK19
  refine rg [0, 1, 2, 3, 4, 5, 6, 7, 8] ?_
  refine sq ?_
  refine .mv ?_
  refine sq ?_
  refine .r0 ?_
  refine sq ?_
  refine .mv ?_
  refine sq ?_
  refine .mv ?_
  refine sq ?_
  intro K hK
  have hb := hs.b
  go_big_op
  go_fit (rCols_any (HA.out.bl stab_n hb) hna HK.out)
  rintro e w_16 ⟨rfl, hb_16⟩
  clear hb
  replace hs := hs.bl hb_16
  refine hK _ _ rfl trivial ?_
  clear hK K
  refine sq ?_
  refine .mv ?_
  refine sq ?_
  refine .r0 ?_
  refine sq ?_
  refine .r0 ?_
  refine sq ?_
  refine .r0 ?_
  apply wpSq_end
  refine hK19 _ _ ?_
  refine ct ?_
  refine wp_seq_k ?_
  intro K20 hK20
  refine rg [0, 1, 2, 3, 4] ?_
  refine sq ?_
  refine .mv ?_
  refine sq ?_
  refine .mv ?_
  refine sq ?_
  refine .mv ?_
  refine sq ?_
  intro K hK
  go_big_op
  go_fit (told_no 4 (by decide) rfl)
  rintro e w_17 ⟨rfl, hb_17⟩
  replace hs := hs.bl hb_17
  refine hK _ _ rfl trivial ?_
  clear hK K
  refine sq ?_
  refine .mv ?_
  apply wpSq_end
  refine hK20 _ _ ?_
  refine wp_ret ?_
  try dsimp only [Exit.then, Exit.inBlock]
  refine bodyPost_ret (v := (.bool true)) (by simp [results, Try.results3, go_sem]) rfl ?_
  exact ⟨rfl, hs.b⟩
end
end Go.Proofs.Ytajmgjgobgchjaa

