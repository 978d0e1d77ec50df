/- GprimeSquares: the law's walk. -/
import Derived.Test.YtbiiglcfdphmaaaJ9
namespace Go.Proofs.Ytbiiglcfdphmaaa
open Go Go.RowKit Dig
set_option linter.unusedVariables false

section
variable {w : World} {va : Value} {z : Int} {l : Nat}
set_option maxHeartbeats 4000000 in
set_option maxRecDepth 20000 in
theorem gsquares_walk (ha : ZN w va z l) (hl : l ≤ 1048576) :
    Calls Try.prog 6 #[va] w fun e w' => e = .returned (.bool true) ∧ Below w.heap.size w w' := by
  rcases Int.lt_or_le z 0 with h | h
  · have hs1 := Int.sign_eq_neg_one_of_neg h
    obtain ⟨n_0, o_0, k_0, c_0, rfl⟩ := ha.open2
    go_enter Try.func6, Try.ntmps6
    have hs := St.nil w
    refine wp_seq_k ?_
    intro K1 hK1
    refine rg [0, 1] ?_
    refine sq ?_
    refine .al hs ?_; clear hs; intro p_b1 w_1 hs n1 kb_b1
    refine sq ?_
    refine .mv ?_
    apply wpSq_end
    refine hK1 _ _ ?_
    refine wp_seq_k ?_
    intro K2 hK2
    refine rg [0, 1, 2, 3, 4, 5, 6] ?_
    refine sq ?_
    refine .r2 hs.g0.f2 ?_
    refine sq ?_
    intro K hK
    have k0_1 := kb n1
    replace ha := ha.k k0_1
    go_big_op
    go_fit (gsq_low ha (by omega) h)
    rintro e w_2 ⟨rfl, hb_2⟩
    replace hs := hs.bl hb_2
    refine hK _ _ rfl trivial ?_
    clear hK K
    refine sq ?_
    refine .mv ?_
    refine sq ?_
    refine .r0 ?_
    refine sq ?_
    refine .r0 ?_
    refine sq ?_
    refine .mv ?_
    refine sq ?_
    refine .mv ?_
    apply wpSq_end
    refine hK2 _ _ ?_
    refine wp_seq_k ?_
    intro K3 hK3
    refine wp_seq_k ?_
    intro K4 hK4
    refine rg [0, 1] ?_
    refine sq ?_
    intro K hK
    go_big_op
    go_fit (awake6_any _)
    rintro e w_3 ⟨rfl, hb_3⟩
    replace hs := hs.bl hb_3
    refine hK _ _ rfl trivial ?_
    clear hK K
    refine sq ?_
    refine .r0 ?_
    apply wpSq_end
    refine hK4 _ _ ?_
    refine cf ?_
    refine wp_skip ?_
    refine hK3 _ _ ?_
    refine wp_seq_k ?_
    intro K5 hK5
    refine wp_seq_k ?_
    intro K6 hK6
    refine rg [0, 1, 2] ?_
    refine sq ?_
    refine .r2 hs.g0.f2 ?_
    refine sq ?_
    intro K hK
    have k1_3 := (kb hb_2).b hb_3
    replace ha := ha.k k1_3
    go_big_op
    go_fit (rzsign_any ha (by omega) )
    rintro e w_4 ⟨rfl, hb_4⟩
    replace hs := hs.bl hb_4
    rw [hs1]
    refine hK _ _ rfl trivial ?_
    clear hK K
    refine sq ?_
    refine .r0 ?_
    apply wpSq_end
    refine hK6 _ _ ?_
    refine ct ?_
    refine wp_seq_k ?_
    intro K7 hK7
    refine rg [0, 1, 2, 3, 4, 5, 6, 7] ?_
    refine sq ?_
    refine .mv ?_
    refine sq ?_
    refine .r0 ?_
    refine sq ?_
    refine .mv ?_
    refine sq ?_
    refine .mv ?_
    refine sq ?_
    refine .r0 ?_
    refine sq ?_
    refine .r0 ?_
    refine sq ?_
    refine .r0 ?_
    refine sq ?_
    refine .mv ?_
    apply wpSq_end
    refine hK7 _ _ ?_
    refine wp_ret ?_
    try dsimp only [Exit.then, Exit.inBlock]
    refine bodyPost_ret (v := (.bool true)) (by simp [results, Try.results6, go_sem]) rfl ?_
    exact ⟨rfl, hs.b⟩
  rcases Int.lt_or_le z 4294967296 with h2 | h2
  · obtain ⟨N, rfl⟩ : ∃ N : Nat, z = (N : Int) := ⟨z.toNat, by omega⟩
    have hN : N < 4294967296 := by omega
    have hsg : ¬ ((N : Int).sign < 0) := by have := Int.sign_nonneg_iff.2 h; omega
    have hln := sqAll_len hN
    have HM := hide (sqAll_mem hN)
    have hge : ((4294967296 : Int) ≤ (N : Int)) = False := by simp; omega
    obtain ⟨n_0, o_0, k_0, c_0, rfl⟩ := ha.open2
    go_enter Try.func6, Try.ntmps6
    have hs := St.nil w
    refine wp_seq_k ?_
    intro K1 hK1
    refine rg [0, 1] ?_
    refine sq ?_
    refine .al hs ?_; clear hs; intro p_b1 w_1 hs n1 kb_b1
    refine sq ?_
    refine .mv ?_
    apply wpSq_end
    refine hK1 _ _ ?_
    refine wp_seq_k ?_
    intro K2 hK2
    refine rg [0, 1, 2, 3, 4, 5, 6] ?_
    refine sq ?_
    refine .r2 hs.g0.f2 ?_
    refine sq ?_
    intro K hK
    have k0_1 := kb n1
    replace ha := ha.k k0_1
    go_big_op
    go_fit (gsq_any N ha (by omega) hN)
    rintro e w_2 ⟨o_A, c_A, xs_A, rfl, L_A, d_A, hb_2⟩
    replace hs := hs.la hb_2 L_A
    refine hK _ _ rfl trivial ?_
    clear hK K
    refine sq ?_
    refine .mv ?_
    refine sq ?_
    refine .r0 ?_
    refine sq ?_
    refine .r0 ?_
    refine sq ?_
    refine .mv ?_
    refine sq ?_
    refine .mv ?_
    apply wpSq_end
    refine hK2 _ _ ?_
    refine wp_seq_k ?_
    intro K3 hK3
    refine wp_seq_k ?_
    intro K4 hK4
    refine rg [0, 1] ?_
    refine sq ?_
    intro K hK
    go_big_op
    go_fit (awake6_any _)
    rintro e w_3 ⟨rfl, hb_3⟩
    replace hs := hs.bl hb_3
    refine hK _ _ rfl trivial ?_
    clear hK K
    refine sq ?_
    refine .r0 ?_
    apply wpSq_end
    refine hK4 _ _ ?_
    refine cf ?_
    refine wp_skip ?_
    refine hK3 _ _ ?_
    refine wp_seq_k ?_
    intro K5 hK5
    refine wp_seq_k ?_
    intro K6 hK6
    refine rg [0, 1, 2] ?_
    refine sq ?_
    refine .r2 hs.g1.f2 ?_
    refine sq ?_
    intro K hK
    have k1_3 := (kb hb_2).b hb_3
    replace ha := ha.k k1_3
    go_big_op
    go_fit (rzsign_any ha (by omega) )
    rintro e w_4 ⟨rfl, hb_4⟩
    replace hs := hs.bl hb_4
    refine hK _ _ rfl trivial ?_
    clear hK K
    refine sq ?_
    refine .r0 ?_
    apply wpSq_end
    refine hK6 _ _ ?_
    refine cf ?_
    refine wp_skip ?_
    refine hK5 _ _ ?_
    refine wp_seq_k ?_
    intro K7 hK7
    refine rg [0, 1, 2, 3, 4, 5, 6] ?_
    refine sq ?_
    refine .r2 hs.g1.f2 ?_
    refine sq ?_
    intro K hK
    have k3_4 := kb hb_4
    replace ha := ha.k k3_4
    go_big_op
    go_fit (rsmall_any ha (by omega) (by omega))
    rintro e w_5 ⟨rfl, hb_5⟩
    replace hs := hs.bl hb_5
    refine hK _ _ rfl trivial ?_
    clear hK K
    refine sq ?_
    refine .mv ?_
    refine sq ?_
    refine .r0 ?_
    refine sq ?_
    refine .r0 ?_
    refine sq ?_
    refine .mv ?_
    refine sq ?_
    refine .mv ?_
    apply wpSq_end
    refine hK7 _ _ ?_
    refine wp_seq_k ?_
    intro K8 hK8
    refine wp_seq_k ?_
    intro K9 hK9
    refine rg [0, 1, 2, 3, 4, 5] ?_
    refine sq ?_
    refine .mv ?_
    refine sq ?_
    refine .r0 ?_
    refine sq ?_
    refine .mv ?_
    refine sq ?_
    refine .mv ?_
    refine sq ?_
    refine .r0 ?_
    refine sq ?_
    refine .r0 ?_
    apply wpSq_end
    refine hK9 _ _ ?_
    refine cf ?_
    refine wp_skip ?_
    refine hK8 _ _ ?_
    refine wp_seq_k ?_
    intro K10 hK10
    refine rg [0, 1, 2, 3, 4, 5, 6, 7, 8] ?_
    refine sq ?_
    refine .mv ?_
    refine sq ?_
    refine .r0 ?_
    refine sq ?_
    refine .mv ?_
    refine sq ?_
    refine .mv ?_
    refine sq ?_
    refine .mv ?_
    refine sq ?_
    intro K hK
    go_big_op
    go_fit (rsquares_any N hN)
    rintro e w_6 ⟨o_B, c_B, xs_B, rfl, L_B, d_B, hb_6⟩
    replace hs := hs.la hb_6 L_B
    refine hK _ _ rfl trivial ?_
    clear hK K
    refine sq ?_
    intro K hK
    have k2_6 := (((kb hb_3).b hb_4).b hb_5).b hb_6
    replace d_A := d_A.k k2_6
    go_big_op
    go_fit (list6_any hs.1.2.1.1 d_A hs.1.1.1 d_B rfl (by omega) HM.out)
    rintro e w_7 ⟨rfl, hb_7⟩
    replace hs := hs.bl hb_7
    refine hK _ _ rfl trivial ?_
    clear hK K
    refine sq ?_
    refine .r0 ?_
    refine sq ?_
    refine .mv ?_
    apply wpSq_end
    refine hK10 _ _ ?_
    refine wp_ret ?_
    try dsimp only [Exit.then, Exit.inBlock]
    refine bodyPost_ret (v := (.bool true)) (by simp [results, Try.results6, go_sem]) rfl ?_
    exact ⟨rfl, hs.b⟩
  · have hs1 : z.sign = 1 := Int.sign_eq_one_of_pos (by omega)
    by_cases h3 : z.natAbs < 4611686018427387904
    · have hge : ((4294967296 : Int) ≤ z) = True := by simp; omega
      obtain ⟨n_0, o_0, k_0, c_0, rfl⟩ := ha.open2
      go_enter Try.func6, Try.ntmps6
      have hs := St.nil w
      refine wp_seq_k ?_
      intro K1 hK1
      refine rg [0, 1] ?_
      refine sq ?_
      refine .al hs ?_; clear hs; intro p_b1 w_1 hs n1 kb_b1
      refine sq ?_
      refine .mv ?_
      apply wpSq_end
      refine hK1 _ _ ?_
      refine wp_seq_k ?_
      intro K2 hK2
      refine rg [0, 1, 2, 3, 4, 5, 6] ?_
      refine sq ?_
      refine .r2 hs.g0.f2 ?_
      refine sq ?_
      intro K hK
      have k0_1 := kb n1
      replace ha := ha.k k0_1
      go_big_op
      go_fit (gsq_high ha (by omega) h2)
      rintro e w_2 ⟨rfl, hb_2⟩
      replace hs := hs.bl hb_2
      refine hK _ _ rfl trivial ?_
      clear hK K
      refine sq ?_
      refine .mv ?_
      refine sq ?_
      refine .r0 ?_
      refine sq ?_
      refine .r0 ?_
      refine sq ?_
      refine .mv ?_
      refine sq ?_
      refine .mv ?_
      apply wpSq_end
      refine hK2 _ _ ?_
      refine wp_seq_k ?_
      intro K3 hK3
      refine wp_seq_k ?_
      intro K4 hK4
      refine rg [0, 1] ?_
      refine sq ?_
      intro K hK
      go_big_op
      go_fit (awake6_any _)
      rintro e w_3 ⟨rfl, hb_3⟩
      replace hs := hs.bl hb_3
      refine hK _ _ rfl trivial ?_
      clear hK K
      refine sq ?_
      refine .r0 ?_
      apply wpSq_end
      refine hK4 _ _ ?_
      refine cf ?_
      refine wp_skip ?_
      refine hK3 _ _ ?_
      refine wp_seq_k ?_
      intro K5 hK5
      refine wp_seq_k ?_
      intro K6 hK6
      refine rg [0, 1, 2] ?_
      refine sq ?_
      refine .r2 hs.g0.f2 ?_
      refine sq ?_
      intro K hK
      have k1_3 := (kb hb_2).b hb_3
      replace ha := ha.k k1_3
      go_big_op
      go_fit (rzsign_any ha (by omega) )
      rintro e w_4 ⟨rfl, hb_4⟩
      replace hs := hs.bl hb_4
      rw [hs1]
      refine hK _ _ rfl trivial ?_
      clear hK K
      refine sq ?_
      refine .r0 ?_
      apply wpSq_end
      refine hK6 _ _ ?_
      refine cf ?_
      refine wp_skip ?_
      refine hK5 _ _ ?_
      refine wp_seq_k ?_
      intro K7 hK7
      refine rg [0, 1, 2, 3, 4, 5, 6] ?_
      refine sq ?_
      refine .r2 hs.g0.f2 ?_
      refine sq ?_
      intro K hK
      have k3_4 := kb hb_4
      replace ha := ha.k k3_4
      go_big_op
      go_fit (rsmall_any ha (by omega) h3)
      rintro e w_5 ⟨rfl, hb_5⟩
      replace hs := hs.bl hb_5
      refine hK _ _ rfl trivial ?_
      clear hK K
      refine sq ?_
      refine .mv ?_
      refine sq ?_
      refine .r0 ?_
      refine sq ?_
      refine .r0 ?_
      refine sq ?_
      refine .mv ?_
      refine sq ?_
      refine .mv ?_
      apply wpSq_end
      refine hK7 _ _ ?_
      refine wp_seq_k ?_
      intro K8 hK8
      refine wp_seq_k ?_
      intro K9 hK9
      refine rg [0, 1, 2, 3, 4, 5] ?_
      refine sq ?_
      refine .mv ?_
      refine sq ?_
      refine .r0 ?_
      refine sq ?_
      refine .mv ?_
      refine sq ?_
      refine .mv ?_
      refine sq ?_
      refine .r0 ?_
      refine sq ?_
      refine .r0 ?_
      apply wpSq_end
      refine hK9 _ _ ?_
      refine ct ?_
      refine wp_seq_k ?_
      intro K10 hK10
      refine rg [0, 1, 2, 3, 4, 5, 6, 7] ?_
      refine sq ?_
      refine .mv ?_
      refine sq ?_
      refine .r0 ?_
      refine sq ?_
      refine .mv ?_
      refine sq ?_
      refine .mv ?_
      refine sq ?_
      refine .r0 ?_
      refine sq ?_
      refine .r0 ?_
      refine sq ?_
      refine .r0 ?_
      refine sq ?_
      refine .mv ?_
      apply wpSq_end
      refine hK10 _ _ ?_
      refine wp_ret ?_
      try dsimp only [Exit.then, Exit.inBlock]
      refine bodyPost_ret (v := (.bool true)) (by simp [results, Try.results6, go_sem]) rfl ?_
      exact ⟨rfl, hs.b⟩
    · have HX := hide h3
      obtain ⟨n_0, o_0, k_0, c_0, rfl⟩ := ha.open2
      go_enter Try.func6, Try.ntmps6
      have hs := St.nil w
      refine wp_seq_k ?_
      intro K1 hK1
      refine rg [0, 1] ?_
      refine sq ?_
      refine .al hs ?_; clear hs; intro p_b1 w_1 hs n1 kb_b1
      refine sq ?_
      refine .mv ?_
      apply wpSq_end
      refine hK1 _ _ ?_
      refine wp_seq_k ?_
      intro K2 hK2
      refine rg [0, 1, 2, 3, 4, 5, 6] ?_
      refine sq ?_
      refine .r2 hs.g0.f2 ?_
      refine sq ?_
      intro K hK
      have k0_1 := kb n1
      replace ha := ha.k k0_1
      go_big_op
      go_fit (gsq_high ha (by omega) h2)
      rintro e w_2 ⟨rfl, hb_2⟩
      replace hs := hs.bl hb_2
      refine hK _ _ rfl trivial ?_
      clear hK K
      refine sq ?_
      refine .mv ?_
      refine sq ?_
      refine .r0 ?_
      refine sq ?_
      refine .r0 ?_
      refine sq ?_
      refine .mv ?_
      refine sq ?_
      refine .mv ?_
      apply wpSq_end
      refine hK2 _ _ ?_
      refine wp_seq_k ?_
      intro K3 hK3
      refine wp_seq_k ?_
      intro K4 hK4
      refine rg [0, 1] ?_
      refine sq ?_
      intro K hK
      go_big_op
      go_fit (awake6_any _)
      rintro e w_3 ⟨rfl, hb_3⟩
      replace hs := hs.bl hb_3
      refine hK _ _ rfl trivial ?_
      clear hK K
      refine sq ?_
      refine .r0 ?_
      apply wpSq_end
      refine hK4 _ _ ?_
      refine cf ?_
      refine wp_skip ?_
      refine hK3 _ _ ?_
      refine wp_seq_k ?_
      intro K5 hK5
      refine wp_seq_k ?_
      intro K6 hK6
      refine rg [0, 1, 2] ?_
      refine sq ?_
      refine .r2 hs.g0.f2 ?_
      refine sq ?_
      intro K hK
      have k1_3 := (kb hb_2).b hb_3
      replace ha := ha.k k1_3
      go_big_op
      go_fit (rzsign_any ha (by omega) )
      rintro e w_4 ⟨rfl, hb_4⟩
      replace hs := hs.bl hb_4
      rw [hs1]
      refine hK _ _ rfl trivial ?_
      clear hK K
      refine sq ?_
      refine .r0 ?_
      apply wpSq_end
      refine hK6 _ _ ?_
      refine cf ?_
      refine wp_skip ?_
      refine hK5 _ _ ?_
      refine wp_seq_k ?_
      intro K7 hK7
      refine rg [0, 1, 2, 3, 4, 5, 6] ?_
      refine sq ?_
      refine .r2 hs.g0.f2 ?_
      refine sq ?_
      intro K hK
      have k3_4 := kb hb_4
      replace ha := ha.k k3_4
      go_big_op
      go_fit (rsmall_big ha (by omega) (by omega))
      rintro e w_5 ⟨rfl, hb_5⟩
      replace hs := hs.bl hb_5
      refine hK _ _ rfl trivial ?_
      clear hK K
      refine sq ?_
      refine .mv ?_
      refine sq ?_
      refine .r0 ?_
      refine sq ?_
      refine .r0 ?_
      refine sq ?_
      refine .mv ?_
      refine sq ?_
      refine .mv ?_
      apply wpSq_end
      refine hK7 _ _ ?_
      refine wp_seq_k ?_
      intro K8 hK8
      refine wp_seq_k ?_
      intro K9 hK9
      refine rg [0, 1, 2, 3, 4, 5] ?_
      refine sq ?_
      refine .mv ?_
      refine sq ?_
      refine .r0 ?_
      refine sq ?_
      refine .mv ?_
      refine sk ?_
      refine sk ?_
      refine sq ?_
      refine .r0 ?_
      apply wpSq_end
      refine hK9 _ _ ?_
      refine ct ?_
      refine wp_seq_k ?_
      intro K10 hK10
      refine rg [0, 1, 2, 3, 4, 5, 6, 7] ?_
      refine sq ?_
      refine .mv ?_
      refine sq ?_
      refine .r0 ?_
      refine sq ?_
      refine .mv ?_
      refine sq ?_
      refine .mv ?_
      refine sq ?_
      refine .r0 ?_
      refine sq ?_
      refine .r0 ?_
      refine sq ?_
      refine .r0 ?_
      refine sq ?_
      refine .mv ?_
      apply wpSq_end
      refine hK10 _ _ ?_
      refine wp_ret ?_
      try dsimp only [Exit.then, Exit.inBlock]
      refine bodyPost_ret (v := (.bool true)) (by simp [results, Try.results6, go_sem]) rfl ?_
      exact ⟨rfl, hs.b⟩
end
theorem walk_GprimeSquares (w : World) (n1 : Bool) (s1 : Value) (xs : List Nat) (h1 : Rd w s1 xs) (l1 : xs.length ≤ 1048576) :
    Calls Try.prog 6 #[.agg #[.bool n1, s1]] w fun e w' => e = .returned (.bool true) ∧ Below w.heap.size w w' :=
  gsquares_walk ⟨n1, s1, xs, rfl, h1, rfl, l1⟩ (Nat.le_refl _)
end Go.Proofs.Ytbiiglcfdphmaaa

