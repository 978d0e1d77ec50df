/- GprimePrimes: the law's walk. -/
import Derived.Test.YtbiiglcfdphmaaaJ5ToJ6
namespace Go.Proofs.Ytbiiglcfdphmaaa
open Go Go.RowKit Dig
set_option linter.unusedVariables false

section
variable {w : World} {va : Value} {x y : Int} {l m : Nat}
set_option maxHeartbeats 4000000 in
set_option maxRecDepth 20000 in
theorem gprimes_walk (ha : PN w va x l y m) (hl : l ≤ 1048576) (hm : m ≤ 1048576) :
    Calls Try.prog 4 #[va] w fun e w' => e = .returned (.bool true) ∧ Below w.heap.size w w' := by
  rcases Int.lt_or_le (gN x y) 4294967296 with h | h
  · obtain ⟨N, hN⟩ : ∃ N : Nat, gN x y = (N : Int) := ⟨(gN x y).toNat, by have := gN_nonneg x y; omega⟩
    have HN := hide hN
    have hNb : N < 4294967296 := by omega
    obtain ⟨b, hB⟩ : ∃ b, primeB N = b := ⟨_, rfl⟩
    have HB := hide hB
    have hbb : (b == b) = true := by simp
    clear h hN hB
    obtain ⟨n_0a, o_0a, k_0a, c_0a, n_0b, o_0b, k_0b, c_0b, rfl, ha1, ha2⟩ := ha
    go_enter Try.func4, Try.ntmps4
    have hs := St.nil w
    refine wp_seq_k ?_
    intro K1 hK1
    refine rg [0, 1] ?_
    refine sq ?_
    refine .al hs ?_; clear hs; intro p_b1 w_1 hs n1 kb_b1
    refine sq ?_
    refine .mv ?_
    apply wpSq_end
    refine hK1 _ _ ?_
    refine wp_seq_k ?_
    intro K2 hK2
    refine rg [0, 1, 2, 3, 4, 5, 6] ?_
    refine sq ?_
    refine .r4 hs.g0.f4 ?_
    refine sq ?_
    intro K hK
    have k0_1 := kb n1
    replace ha1 := ha1.k k0_1
    replace ha2 := ha2.k k0_1
    go_big_op
    go_fit (gprime_any N (PN.mk' ha1 ha2) (by omega) (by omega) HN.out hNb)
    rintro e w_2 ⟨rfl, hb_2⟩
    replace hs := hs.bl hb_2
    rw [HB.out]
    refine hK _ _ rfl trivial ?_
    clear hK K
    refine sq ?_
    refine .mv ?_
    refine sq ?_
    refine .r0 ?_
    refine sq ?_
    refine .r0 ?_
    refine sq ?_
    refine .mv ?_
    refine sq ?_
    refine .mv ?_
    apply wpSq_end
    refine hK2 _ _ ?_
    refine wp_seq_k ?_
    intro K3 hK3
    refine rg [0, 1, 2, 3, 4, 5, 6] ?_
    refine sq ?_
    refine .r4 hs.g0.f4 ?_
    refine sq ?_
    intro K hK
    have k1_2 := kb hb_2
    replace ha1 := ha1.k k1_2
    replace ha2 := ha2.k k1_2
    go_big_op
    go_fit (rsmallg_any N (PN.mk' ha1 ha2) (by omega) (by omega) HN.out hNb)
    rintro e w_3 ⟨rfl, hb_3⟩
    replace hs := hs.bl hb_3
    refine hK _ _ rfl trivial ?_
    clear hK K
    refine sq ?_
    refine .mv ?_
    refine sq ?_
    refine .r0 ?_
    refine sq ?_
    refine .r0 ?_
    refine sq ?_
    refine .mv ?_
    refine sq ?_
    refine .mv ?_
    apply wpSq_end
    refine hK3 _ _ ?_
    refine wp_seq_k ?_
    intro K4 hK4
    refine wp_seq_k ?_
    intro K5 hK5
    refine rg [0, 1] ?_
    refine sq ?_
    refine .mv ?_
    refine sq ?_
    refine .r0 ?_
    apply wpSq_end
    refine hK5 _ _ ?_
    refine cf ?_
    refine wp_skip ?_
    refine hK4 _ _ ?_
    refine wp_seq_k ?_
    intro K6 hK6
    refine rg [0, 1, 2, 3, 4, 5, 6, 7, 8, 9, 10, 11, 12] ?_
    refine sq ?_
    intro K hK
    go_big_op
    go_fit (awake6_any _)
    rintro e w_4 ⟨rfl, hb_4⟩
    replace hs := hs.bl hb_4
    refine hK _ _ rfl trivial ?_
    clear hK K
    refine sq ?_
    refine .mv ?_
    refine sq ?_
    refine .mv ?_
    refine sq ?_
    refine .r0 ?_
    refine sq ?_
    refine .r0 ?_
    refine sq ?_
    refine .mv ?_
    refine sq ?_
    refine .mv ?_
    refine sq ?_
    refine .r4 hs.g0.f4 ?_
    refine sq ?_
    refine .mv ?_
    refine sq ?_
    intro K hK
    have k2_4 := (kb hb_3).b hb_4
    replace ha1 := ha1.k k2_4
    replace ha2 := ha2.k k2_4
    go_big_op
    go_fit (rprime_any N (PN.mk' ha1 ha2) (by omega) (by omega) HN.out hNb)
    rintro e w_5 ⟨rfl, hb_5⟩
    replace hs := hs.bl hb_5
    rw [HB.out]
    refine hK _ _ rfl trivial ?_
    clear hK K
    refine sq ?_
    refine .r0 ?_
    refine sq ?_
    refine .r0 ?_
    refine sq ?_
    refine .mv ?_
    apply wpSq_end
    refine hK6 _ _ ?_
    refine wp_ret ?_
    try dsimp only [Exit.then, Exit.inBlock]
    refine bodyPost_ret (v := (.bool true)) (by simp [results, Try.results4, go_sem]) rfl ?_
    exact ⟨rfl, hs.b⟩
  · obtain ⟨n_0a, o_0a, k_0a, c_0a, n_0b, o_0b, k_0b, c_0b, rfl, ha1, ha2⟩ := ha
    go_enter Try.func4, Try.ntmps4
    have hs := St.nil w
    refine wp_seq_k ?_
    intro K1 hK1
    refine rg [0, 1] ?_
    refine sq ?_
    refine .al hs ?_; clear hs; intro p_b1 w_1 hs n1 kb_b1
    refine sq ?_
    refine .mv ?_
    apply wpSq_end
    refine hK1 _ _ ?_
    refine wp_seq_k ?_
    intro K2 hK2
    refine rg [0, 1, 2, 3, 4, 5, 6] ?_
    refine sq ?_
    refine .r4 hs.g0.f4 ?_
    refine sq ?_
    intro K hK
    have k0_1 := kb n1
    replace ha1 := ha1.k k0_1
    replace ha2 := ha2.k k0_1
    go_big_op
    go_fit (gprime_big (PN.mk' ha1 ha2) (by omega) (by omega) h)
    rintro e w_2 ⟨rfl, hb_2⟩
    replace hs := hs.bl hb_2
    refine hK _ _ rfl trivial ?_
    clear hK K
    refine sq ?_
    refine .mv ?_
    refine sq ?_
    refine .r0 ?_
    refine sq ?_
    refine .r0 ?_
    refine sq ?_
    refine .mv ?_
    refine sq ?_
    refine .mv ?_
    apply wpSq_end
    refine hK2 _ _ ?_
    refine wp_seq_k ?_
    intro K3 hK3
    refine rg [0, 1, 2, 3, 4, 5, 6] ?_
    refine sq ?_
    refine .r4 hs.g0.f4 ?_
    refine sq ?_
    intro K hK
    have k1_2 := kb hb_2
    replace ha1 := ha1.k k1_2
    replace ha2 := ha2.k k1_2
    go_big_op
    go_fit (rsmallg_big (PN.mk' ha1 ha2) (by omega) (by omega) h)
    rintro e w_3 ⟨v, rfl, hb_3⟩
    replace hs := hs.bl hb_3
    refine hK _ _ rfl trivial ?_
    clear hK K
    refine sq ?_
    refine .mv ?_
    refine sq ?_
    refine .r0 ?_
    refine sq ?_
    refine .r0 ?_
    refine sq ?_
    refine .mv ?_
    refine sq ?_
    refine .mv ?_
    apply wpSq_end
    refine hK3 _ _ ?_
    refine wp_seq_k ?_
    intro K4 hK4
    refine wp_seq_k ?_
    intro K5 hK5
    refine rg [0, 1] ?_
    refine sq ?_
    refine .mv ?_
    refine sq ?_
    refine .r0 ?_
    apply wpSq_end
    refine hK5 _ _ ?_
    refine ct ?_
    refine wp_seq_k ?_
    intro K6 hK6
    refine rg [0, 1, 2, 3, 4, 5, 6, 7, 8, 9] ?_
    refine sq ?_
    intro K hK
    go_big_op
    go_fit (awake6_any _)
    rintro e w_4 ⟨rfl, hb_4⟩
    replace hs := hs.bl hb_4
    refine hK _ _ rfl trivial ?_
    clear hK K
    refine sq ?_
    refine .mv ?_
    refine sq ?_
    refine .mv ?_
    refine sq ?_
    refine .r0 ?_
    refine sq ?_
    refine .r0 ?_
    refine sq ?_
    refine .mv ?_
    refine sq ?_
    refine .mv ?_
    refine sq ?_
    refine .r0 ?_
    refine sq ?_
    refine .r0 ?_
    refine sq ?_
    refine .mv ?_
    apply wpSq_end
    refine hK6 _ _ ?_
    refine wp_ret ?_
    try dsimp only [Exit.then, Exit.inBlock]
    refine bodyPost_ret (v := (.bool true)) (by simp [results, Try.results4, go_sem]) rfl ?_
    exact ⟨rfl, hs.b⟩
end
theorem walk_GprimePrimes (w : World) (n1 : Bool) (s1 : Value) (xs : List Nat) (h1 : Rd w s1 xs) (l1 : xs.length ≤ 1048576) (n2 : Bool) (s2 : Value) (ys : List Nat) (h2 : Rd w s2 ys) (l2 : ys.length ≤ 1048576) :
    Calls Try.prog 4 #[.agg #[.bool n1, s1, .bool n2, s2]] w fun e w' => e = .returned (.bool true) ∧ Below w.heap.size w w' :=
  gprimes_walk (PN.of_rd n1 n2 h1 l1 h2 l2) (Nat.le_refl _) (Nat.le_refl _)
end Go.Proofs.Ytbiiglcfdphmaaa

