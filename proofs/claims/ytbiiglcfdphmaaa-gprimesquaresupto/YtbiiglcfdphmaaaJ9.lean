/- The law's list, is; gprime.Squares; the reference's Squares. -/
import Derived.Test.YtbiiglcfdphmaaaJ7ToJ6
namespace Go.Proofs.Ytbiiglcfdphmaaa
open Go Go.RowKit Dig
set_option linter.unusedVariables false

section
variable {w : World} {va vb : Value} {x y z : Int} {l m : Nat}
set_option maxHeartbeats 4000000 in
set_option maxRecDepth 20000 in
theorem g6is_any (ha : PC w va x y) (hq : PN w vb x l y m) (hl : l ≤ 100000000) (hm : m ≤ 100000000) :
    Calls Try.prog 13 #[va, vb] w fun e w' => e = .returned (.bool true) ∧ Below w.heap.size w w' := by
  obtain ⟨n_0a, o_0a, k_0a, c_0a, n_0b, o_0b, k_0b, c_0b, rfl, ha1, ha2⟩ := ha
  obtain ⟨n_1a, o_1a, k_1a, c_1a, n_1b, o_1b, k_1b, c_1b, rfl, hq1, hq2⟩ := hq
  go_enter Try.func13, Try.ntmps13
  have hs := St.nil w
  refine wp_seq_k ?_
  intro K1 hK1
  refine rg [0, 1, 2] ?_
  refine sq ?_
  refine .al hs ?_; clear hs; intro p_b1 w_1 hs n1 kb_b1
  refine sq ?_
  refine .al hs ?_; clear hs; intro p_b2 w_2 hs n2 kb_b2
  refine sq ?_
  refine .mv ?_
  apply wpSq_end
  refine hK1 _ _ ?_
  refine wp_seq_k ?_
  intro K2 hK2
  refine rg [0, 1, 2, 3] ?_
  refine sq ?_
  refine .r4 hs.g1.f4 ?_
  refine sq ?_
  refine .r4 hs.g0.f4 ?_
  refine sq ?_
  intro K hK
  have k0_2 := (kb n1).b n2
  replace ha1 := ha1.k k0_2
  replace ha2 := ha2.k k0_2
  replace hq1 := hq1.k k0_2
  replace hq2 := hq2.k k0_2
  go_big_op
  go_fit (rgSame_any (PC.mk' ha1 ha2) (PN.mk' hq1 hq2) (by omega) (by omega) )
  rintro e w_3 ⟨rfl, hb_3⟩
  replace hs := hs.bl hb_3
  refine hK _ _ rfl trivial ?_
  clear hK K
  refine sq ?_
  refine .mv ?_
  apply wpSq_end
  refine hK2 _ _ ?_
  refine wp_ret ?_
  try dsimp only [Exit.then, Exit.inBlock]
  refine bodyPost_ret (v := (.bool true)) (by simp [results, Try.results13, go_sem]) rfl ?_
  exact ⟨rfl, hs.b⟩
set_option maxHeartbeats 4000000 in
set_option maxRecDepth 20000 in
/-- Two lists that hold the same. -/
theorem list6_any {B1 B2 n c1 c2 : Nat} {o1 o2 : Option Addr} {xs ys : List Value} {ps : List (Int × Int)} (L1 : Lst w B1 29 4 (.slice o1 n c1) n xs) (d1 : GD w xs ps) (L2 : Lst w B2 29 4 (.slice o2 n c2) n ys) (d2 : GD w ys ps) (hn : n = ps.length) (hn2 : n ≤ 1000000000)
    (hl : ∀ p ∈ ps, (dig p.1.natAbs).length ≤ 100000000 ∧ (dig p.2.natAbs).length ≤ 100000000) :
    Calls Try.prog 16 #[.slice o1 n c1, .slice o2 n c2] w fun e w' => e = .returned (.bool true) ∧ Below w.heap.size w w' := by
  rcases Nat.eq_zero_or_pos n with h0 | h0
  · subst h0
    go_enter Try.func16, Try.ntmps16
    have hs := St.nil w
    refine wp_seq_k ?_
    intro K1 hK1
    refine rg [0] ?_
    refine sq ?_
    refine .mv ?_
    apply wpSq_end
    refine hK1 _ _ ?_
    refine wp_seq_k ?_
    intro K2 hK2
    refine wp_seq_k ?_
    intro K3 hK3
    refine rg [0, 1, 2, 3, 4] ?_
    refine sq ?_
    refine .mv ?_
    refine sq ?_
    refine .r0 ?_
    refine sq ?_
    refine .mv ?_
    refine sq ?_
    refine .r0 ?_
    refine sq ?_
    refine .r0 ?_
    apply wpSq_end
    refine hK3 _ _ ?_
    refine cf ?_
    refine wp_skip ?_
    refine hK2 _ _ ?_
    refine wp_seq_k ?_
    intro K4 hK4
    refine wp_seq_k ?_
    intro K5 hK5
    refine rg [0] ?_
    refine sq ?_
    refine .mv ?_
    apply wpSq_end
    refine hK5 _ _ ?_
    refine wp_block ?_
    have hd1 := hs.2.1
    go_loopg [5] 0 (fun k s5 wr => s5 = .int .i64 0 ∧ St w [] wr)
    case atStart => exact ⟨rfl, hs⟩
    case round =>
    clear d1 d2 hs
    obtain ⟨rfl, hs⟩ := hrel
    refine wp_seq_k ?_
    intro K6 hK6
    refine wp_seq_k ?_
    intro K7 hK7
    refine rg [0, 1, 2, 3] ?_
    refine sq ?_
    refine .mv ?_
    refine sq ?_
    refine .mv ?_
    refine sq ?_
    refine .r0 ?_
    refine sq ?_
    refine .r0 ?_
    apply wpSq_end
    refine hK7 _ _ ?_
    refine cf ?_
    refine wp_exit ?_
    refine hK4 _ _ ?_
    refine wp_seq_k ?_
    intro K8 hK8
    refine rg [0] ?_
    refine sq ?_
    refine .mv ?_
    apply wpSq_end
    refine hK8 _ _ ?_
    refine wp_ret ?_
    try dsimp only [Exit.then, Exit.inBlock]
    refine bodyPost_ret (v := (.bool true)) (by simp [results, Try.results16, go_sem]) rfl ?_
    exact ⟨rfl, hs.b⟩
  · obtain ⟨g1, cur1, rfl, x1, h1⟩ := L1.box h0
    obtain ⟨g2, cur2, rfl, x2, h2⟩ := L2.box h0
    clear L1 L2
    have HL := hide hl
    have H1 := hide h1
    have H2 := hide h2
    clear hl h1 h2
    go_enter Try.func16, Try.ntmps16
    have hs := St.nil w
    refine wp_seq_k ?_
    intro K1 hK1
    refine rg [0] ?_
    refine sq ?_
    refine .mv ?_
    apply wpSq_end
    refine hK1 _ _ ?_
    refine wp_seq_k ?_
    intro K2 hK2
    refine wp_seq_k ?_
    intro K3 hK3
    refine rg [0, 1, 2, 3, 4] ?_
    refine sq ?_
    refine .mv ?_
    refine sq ?_
    refine .r0 ?_
    refine sq ?_
    refine .mv ?_
    refine sq ?_
    refine .r0 ?_
    refine sq ?_
    refine .r0 ?_
    apply wpSq_end
    refine hK3 _ _ ?_
    refine cf ?_
    refine wp_skip ?_
    refine hK2 _ _ ?_
    refine wp_seq_k ?_
    intro K4 hK4
    refine wp_seq_k ?_
    intro K5 hK5
    refine rg [0] ?_
    refine sq ?_
    refine .mv ?_
    apply wpSq_end
    refine hK5 _ _ ?_
    refine wp_block ?_
    have hd1 := hs.2.1
    go_loopg [5] n (fun k s5 wr => ∃ i : Nat, s5 = .int .i64 (i : Int) ∧ i + k = n ∧ Bs wr g1 cur1 29 ∧ Bs wr g2 cur2 29 ∧ GD wr xs ps ∧ GD wr ys ps ∧ St w [] wr)
    case atStart => exact ⟨0, rfl, by omega, x1, x2, d1, d2, hs⟩
    case round =>
    clear d1 d2 x1 x2 hs
    obtain ⟨i, rfl, hik, x1, x2, d1, d2, hs⟩ := hrel
    by_cases hi : i < n
    · have hip : i < ps.length := by omega
      obtain ⟨n1, o1, k1, q1, n2, o2, k2, q2, e1, e2, e3, e4, z1, z2⟩ := d1.at hip
      obtain ⟨n3, o3, k3, q3, n4, o4, k4, q4, e5, e6, e7, e8, z3, z4⟩ := d2.at hip
      replace e1 := hide (H1.out _ _ e1); replace e2 := hide (H1.out _ _ e2); replace e3 := hide (H1.out _ _ e3); replace e4 := hide (H1.out _ _ e4)
      replace e5 := hide (H2.out _ _ e5); replace e6 := hide (H2.out _ _ e6); replace e7 := hide (H2.out _ _ e7); replace e8 := hide (H2.out _ _ e8)
      have Lz3 := hide (HL.out _ (List.getElem_mem hip)).1
      have Lz4 := hide (HL.out _ (List.getElem_mem hip)).2
      have hnp : ps[i].1 = ps[i].1 := rfl
      generalize ps[i].1 = P1 at *
      generalize ps[i].2 = P2 at *
      refine wp_seq_k ?_
      intro K6 hK6
      refine wp_seq_k ?_
      intro K7 hK7
      refine rg [0, 1, 2, 3] ?_
      refine sq ?_
      refine .mv ?_
      refine sq ?_
      refine .mv ?_
      refine sq ?_
      refine .r0 ?_
      refine sq ?_
      refine .r0 ?_
      apply wpSq_end
      refine hK7 _ _ ?_
      refine ct ?_
      refine wp_skip ?_
      refine hK6 _ _ ?_
      refine wp_seq_k ?_
      intro K8 hK8
      refine wp_block ?_
      refine wp_seq_k ?_
      intro K9 hK9
      refine wp_region_f4 [(0, false), (1, false), (2, false), (3, false), (4, false), (5, false), (6, false), (7, false), (8, true), (9, false)] [] [] (fun _ => default) [99, 99, 99, 0, 99, 99, 99, 1, 99, 99] [] (.c x1 (.c x2 .n)) fn fun w_2 n2 => ?_
      replace x1 := x1.bl n2; replace x2 := x2.bl n2; replace hs := hs.bl n2
      refine fmv ?_
      refine fmv ?_
      refine f0 ?_
      apply wpFl_ld rfl rfl; (case h1 => intro w' hC K hK; have c0 := Bs.cell hC ((i * 4)) e1.out; have c1 := Bs.cell hC ((i * 4) + 1) e2.out; have c2 := Bs.cell hC ((i * 4) + 2) e3.out; have c3 := Bs.cell hC ((i * 4) + 3) e4.out; go_big_op; exact hK); iterate 4 kernel_rfl
      refine fmv ?_
      refine fmv ?_
      refine f0 ?_
      apply wpFl_ld rfl rfl; (case h1 => intro w' hC K hK; have c0 := Bs.cell hC ((i * 4)) e5.out; have c1 := Bs.cell hC ((i * 4) + 1) e6.out; have c2 := Bs.cell hC ((i * 4) + 2) e7.out; have c3 := Bs.cell hC ((i * 4) + 3) e8.out; go_big_op; exact hK); iterate 4 kernel_rfl
      refine fl fun w_3 n3 => ?_
      replace x1 := x1.bl n3; replace x2 := x2.bl n3; replace hs := hs.bl n3
      intro K hK
      have k0_2 := (kb n2).b n3
      replace z1 := z1.k k0_2
      replace z2 := z2.k k0_2
      replace z3 := z3.k k0_2
      replace z4 := z4.k k0_2
      go_big_op
      go_fit (g6is_any (PC.mk' z1 z2) (PN.mk' (z3.zn Lz3.out) (z4.zn Lz4.out)) (by omega) (by omega) )
      rintro e w_4 ⟨rfl, hb_4⟩
      replace x1 := x1.bl hb_4; replace x2 := x2.bl hb_4; replace hs := hs.bl hb_4
      refine hK _ _ rfl ⟨hb_4, (And.intro x1 (And.intro x2 trivial))⟩ ?_
      clear hK K
      refine f0 ?_
      refine e0 hs ?_; clear hs; intro w_5 hs n5
      replace x1 := x1.bl n5; replace x2 := x2.bl n5
      apply wpTail_end
      refine hK9 _ _ ?_
      refine cf ?_
      refine wp_skip ?_
      refine hK8 _ _ ?_
      refine rg [0, 1, 2] ?_
      refine sq ?_
      refine .mv ?_
      refine sq ?_
      refine .r0 ?_
      refine sq ?_
      refine .mv ?_
      apply wpSq_end
      have k0_4 := (k0_2.b hb_4).b n5
      replace d1 := d1.k k0_4
      replace d2 := d2.k k0_4
      refine ‹∀ (a' : Act) (w' : World), Handed _ _ a' w' → _› _ _ ?_
      go_roundg (gk - 1)
      case rel => exact ⟨i + 1, by rfl, by omega, x1, x2, d1, d2, hs⟩
      case measure => omega
    · have HX := hide hi
      refine wp_seq_k ?_
      intro K6 hK6
      refine wp_seq_k ?_
      intro K7 hK7
      refine rg [0, 1, 2, 3] ?_
      refine sq ?_
      refine .mv ?_
      refine sq ?_
      refine .mv ?_
      refine sq ?_
      refine .r0 ?_
      refine sq ?_
      refine .r0 ?_
      apply wpSq_end
      refine hK7 _ _ ?_
      refine cf ?_
      refine wp_exit ?_
      refine hK4 _ _ ?_
      refine wp_seq_k ?_
      intro K8 hK8
      refine rg [0] ?_
      refine sq ?_
      refine .mv ?_
      apply wpSq_end
      refine hK8 _ _ ?_
      refine wp_ret ?_
      try dsimp only [Exit.then, Exit.inBlock]
      refine bodyPost_ret (v := (.bool true)) (by simp [results, Try.results16, go_sem]) rfl ?_
      exact ⟨rfl, hs.b⟩
theorem sqAll_mem {n : Nat} (hn : n < 4294967296) : ∀ p ∈ sqAll n, (dig p.1.natAbs).length ≤ 100000000 ∧ (dig p.2.natAbs).length ≤ 100000000 := by
  have key : ∀ k, ∀ p ∈ sqs n k, (dig p.1.natAbs).length ≤ 100000000 ∧ (dig p.2.natAbs).length ≤ 100000000 := by
    intro k
    induction k with
    | zero => intro p hp; cases hp
    | succ k ih =>
      intro p hp
      rw [sqs] at hp
      rcases List.mem_append.1 hp with h | h
      · exact ih p h
      · cases e : sqAt n k with
        | none => rw [e] at h; cases h
        | some q =>
          rw [e] at h
          obtain rfl : p = q := by simpa using h
          obtain ⟨b, rfl, hb, hbk⟩ := sqAt_get e
          have h1 : ∀ c : Nat, c * c ≤ n → c < 4294967296 := fun c hc => by
            rcases Nat.lt_or_ge c 4294967296 with h | h
            · exact h
            · have := Nat.mul_le_mul h h; omega
          exact ⟨Nat.le_trans (zlen_small6 (by have := h1 k (by omega); omega)) (by decide), Nat.le_trans (zlen_small6 (by have := h1 b (by omega); omega)) (by decide)⟩
  exact key _
theorem sqAll_len {n : Nat} (hn : n < 4294967296) : (sqAll n).length ≤ 65537 := by
  have h1 := sqs_len n (rt n + 1)
  have h2 := rt_spec n
  have h3 : rt n < 65536 := sq_lt (by omega)
  unfold sqAll
  omega
set_option maxHeartbeats 4000000 in
set_option maxRecDepth 20000 in
theorem gsq_any (N : Nat) (ha : ZN w va (N : Int) l) (hl : l ≤ 20000000) (hN : N < 4294967296) :
    Calls Try.prog 17 #[va] w fun e w' => ∃ o c xs, e = .returned (.tuple #[.slice o (sqAll N).length c, .int .i64 0]) ∧ Lst w' w.heap.size 29 4 (.slice o (sqAll N).length c) (sqAll N).length xs ∧ GD w' xs (sqAll N) ∧ Below w.heap.size w w' := by
  have hs1 : ¬ ((N : Int).sign < 0) := by have := Int.sign_nonneg_iff.2 (show (0 : Int) ≤ (N : Int) by omega); omega
  have hbN := bits_32.2 hN
  obtain ⟨n_0, o_0, k_0, c_0, rfl⟩ := ha.open2
  go_enter Try.func17, Try.ntmps17
  have hs := St.nil w
  refine wp_seq_k ?_
  intro K1 hK1
  refine rg [0, 1, 2] ?_
  refine sq ?_
  refine .al hs ?_; clear hs; intro p_b1 w_1 hs n1 kb_b1
  refine sq ?_
  refine .mv ?_
  refine sq ?_
  refine .mv ?_
  apply wpSq_end
  refine hK1 _ _ ?_
  refine wp_seq_k ?_
  intro K2 hK2
  refine wp_seq_k ?_
  intro K3 hK3
  refine rg [0, 1, 2] ?_
  refine sq ?_
  refine .r2 hs.g0.f2 ?_
  refine sq ?_
  intro K hK
  have k0_1 := kb n1
  replace ha := ha.k k0_1
  go_big_op
  go_fit (zsign_any ha (by omega) )
  rintro e w_2 ⟨rfl, hb_2⟩
  replace hs := hs.bl hb_2
  refine hK _ _ rfl trivial ?_
  clear hK K
  refine sq ?_
  refine .r0 ?_
  apply wpSq_end
  refine hK3 _ _ ?_
  refine cf ?_
  refine wp_skip ?_
  refine hK2 _ _ ?_
  refine wp_seq_k ?_
  intro K4 hK4
  refine wp_seq_k ?_
  intro K5 hK5
  refine rg [0, 1, 2] ?_
  refine sq ?_
  refine .r2 hs.g0.f2 ?_
  refine sq ?_
  intro K hK
  have k1_2 := kb hb_2
  replace ha := ha.k k1_2
  go_big_op
  go_fit (zbits_any ha (by omega) )
  rintro e w_3 ⟨rfl, hb_3⟩
  replace hs := hs.bl hb_3
  rw [Int.natAbs_natCast]
  refine hK _ _ rfl trivial ?_
  clear hK K
  refine sq ?_
  refine .r0 ?_
  apply wpSq_end
  refine hK5 _ _ ?_
  refine cf ?_
  refine wp_skip ?_
  refine hK4 _ _ ?_
  refine wp_seq_k ?_
  intro K6 hK6
  refine rg [0, 1, 2, 3, 4] ?_
  refine sq ?_
  refine .r2 hs.g0.f2 ?_
  refine sq ?_
  intro K hK
  have k2_3 := kb hb_3
  replace ha := ha.k k2_3
  go_big_op
  go_fit (psmall_any N ha (by omega) (by omega))
  rintro e w_4 ⟨rfl, hb_4⟩
  replace hs := hs.bl hb_4
  refine hK _ _ rfl trivial ?_
  clear hK K
  refine sq ?_
  intro K hK
  go_big_op
  go_fit (squares_any N hN)
  rintro e w_5 ⟨o_L, c_L, xs_L, rfl, L_L, d_L, hb_5⟩
  replace hs := hs.la hb_5 L_L
  refine hK _ _ rfl trivial ?_
  clear hK K
  refine sq ?_
  refine .mv ?_
  refine sq ?_
  refine .mv ?_
  apply wpSq_end
  refine hK6 _ _ ?_
  refine wp_ret ?_
  try dsimp only [Exit.then, Exit.inBlock]
  refine bodyPost_ret (v := (.tuple #[(.slice o_L (sqAll N).length c_L), (.int .i64 0)])) (by simp [results, Try.results17, go_sem]) rfl ?_
  exact ⟨_, _, _, rfl, hs.1.1.1, d_L, hs.b⟩
set_option maxHeartbeats 4000000 in
set_option maxRecDepth 20000 in
theorem gsq_low (ha : ZN w va z l) (hl : l ≤ 20000000) (hz : z < 0) :
    Calls Try.prog 17 #[va] w fun e w' => e = .returned (.tuple #[.slice none 0 0, .int .i64 9]) ∧ Below w.heap.size w w' := by
  have hs1 := Int.sign_eq_neg_one_of_neg hz
  obtain ⟨n_0, o_0, k_0, c_0, rfl⟩ := ha.open2
  go_enter Try.func17, Try.ntmps17
  have hs := St.nil w
  refine wp_seq_k ?_
  intro K1 hK1
  refine rg [0, 1, 2] ?_
  refine sq ?_
  refine .al hs ?_; clear hs; intro p_b1 w_1 hs n1 kb_b1
  refine sq ?_
  refine .mv ?_
  refine sq ?_
  refine .mv ?_
  apply wpSq_end
  refine hK1 _ _ ?_
  refine wp_seq_k ?_
  intro K2 hK2
  refine wp_seq_k ?_
  intro K3 hK3
  refine rg [0, 1, 2] ?_
  refine sq ?_
  refine .r2 hs.g0.f2 ?_
  refine sq ?_
  intro K hK
  have k0_1 := kb n1
  replace ha := ha.k k0_1
  go_big_op
  go_fit (zsign_any ha (by omega) )
  rintro e w_2 ⟨rfl, hb_2⟩
  replace hs := hs.bl hb_2
  rw [hs1]
  refine hK _ _ rfl trivial ?_
  clear hK K
  refine sq ?_
  refine .r0 ?_
  apply wpSq_end
  refine hK3 _ _ ?_
  refine ct ?_
  refine wp_seq_k ?_
  intro K4 hK4
  refine rg [0, 1] ?_
  refine sq ?_
  refine .mv ?_
  refine sq ?_
  refine .mv ?_
  apply wpSq_end
  refine hK4 _ _ ?_
  refine wp_ret ?_
  try dsimp only [Exit.then, Exit.inBlock]
  refine bodyPost_ret (v := (.tuple #[(.slice none 0 0), (.int .i64 9)])) (by simp [results, Try.results17, go_sem]) rfl ?_
  exact ⟨rfl, hs.b⟩
set_option maxHeartbeats 4000000 in
set_option maxRecDepth 20000 in
theorem gsq_high (ha : ZN w va z l) (hl : l ≤ 20000000) (hz : 4294967296 ≤ z) :
    Calls Try.prog 17 #[va] w fun e w' => e = .returned (.tuple #[.slice none 0 0, .int .i64 12]) ∧ Below w.heap.size w w' := by
  have hs1 : z.sign = 1 := Int.sign_eq_one_of_pos (by omega)
  have hbN : ¬ bitsN z.natAbs ≤ 32 := fun hc => by have := bits_32.1 hc; omega
  obtain ⟨n_0, o_0, k_0, c_0, rfl⟩ := ha.open2
  go_enter Try.func17, Try.ntmps17
  have hs := St.nil w
  refine wp_seq_k ?_
  intro K1 hK1
  refine rg [0, 1, 2] ?_
  refine sq ?_
  refine .al hs ?_; clear hs; intro p_b1 w_1 hs n1 kb_b1
  refine sq ?_
  refine .mv ?_
  refine sq ?_
  refine .mv ?_
  apply wpSq_end
  refine hK1 _ _ ?_
  refine wp_seq_k ?_
  intro K2 hK2
  refine wp_seq_k ?_
  intro K3 hK3
  refine rg [0, 1, 2] ?_
  refine sq ?_
  refine .r2 hs.g0.f2 ?_
  refine sq ?_
  intro K hK
  have k0_1 := kb n1
  replace ha := ha.k k0_1
  go_big_op
  go_fit (zsign_any ha (by omega) )
  rintro e w_2 ⟨rfl, hb_2⟩
  replace hs := hs.bl hb_2
  rw [hs1]
  refine hK _ _ rfl trivial ?_
  clear hK K
  refine sq ?_
  refine .r0 ?_
  apply wpSq_end
  refine hK3 _ _ ?_
  refine cf ?_
  refine wp_skip ?_
  refine hK2 _ _ ?_
  refine wp_seq_k ?_
  intro K4 hK4
  refine wp_seq_k ?_
  intro K5 hK5
  refine rg [0, 1, 2] ?_
  refine sq ?_
  refine .r2 hs.g0.f2 ?_
  refine sq ?_
  intro K hK
  have k1_2 := kb hb_2
  replace ha := ha.k k1_2
  go_big_op
  go_fit (zbits_any ha (by omega) )
  rintro e w_3 ⟨rfl, hb_3⟩
  replace hs := hs.bl hb_3
  refine hK _ _ rfl trivial ?_
  clear hK K
  refine sq ?_
  refine .r0 ?_
  apply wpSq_end
  refine hK5 _ _ ?_
  refine ct ?_
  refine wp_seq_k ?_
  intro K6 hK6
  refine rg [0, 1] ?_
  refine sq ?_
  refine .mv ?_
  refine sq ?_
  refine .mv ?_
  apply wpSq_end
  refine hK6 _ _ ?_
  refine wp_ret ?_
  try dsimp only [Exit.then, Exit.inBlock]
  refine bodyPost_ret (v := (.tuple #[(.slice none 0 0), (.int .i64 12)])) (by simp [results, Try.results17, go_sem]) rfl ?_
  exact ⟨rfl, hs.b⟩
set_option maxHeartbeats 4000000 in
set_option maxRecDepth 20000 in
theorem rsquares_any (n : Nat) (hn : n < 4294967296) :
    Calls Try.prog 25 #[.int .i64 (n : Int)] w fun e w' => ∃ o c xs, e = .returned (.slice o (sqAll n).length c) ∧ Lst w' w.heap.size 29 4 (.slice o (sqAll n).length c) (sqAll n).length xs ∧ GD w' xs (sqAll n) ∧ Below w.heap.size w w' := by
  go_enter Try.func25, Try.ntmps25
  have hs := St.nil w
  refine wp_seq_k ?_
  intro K1 hK1
  refine rg [0] ?_
  refine sq ?_
  refine .mv ?_
  apply wpSq_end
  refine hK1 _ _ ?_
  refine wp_seq_k ?_
  intro K2 hK2
  refine rg [0] ?_
  refine sq ?_
  refine .mv ?_
  apply wpSq_end
  refine hK2 _ _ ?_
  refine wp_seq_k ?_
  intro K3 hK3
  refine wp_seq_k ?_
  intro K4 hK4
  refine rg [0] ?_
  refine sq ?_
  refine .mv ?_
  apply wpSq_end
  refine hK4 _ _ ?_
  refine wp_block ?_
  have hd1 := hs.2.1
  go_loopg [3, 4] 65537 (fun k s3 s4 wr => ∃ (r N : Nat) (o : Option Addr) (c : Nat) (xs : List Value) (L : List (Int × Int)), s4 = .int .i64 (r : Int) ∧ s3 = .slice o N c ∧ r + k = 65537 ∧ N ≤ r ∧ Hid (L = sqs n r ∧ N = L.length) ∧ GD wr xs L ∧ St w [ls w.heap.size 29 4 (.slice o N c) N xs] wr)
  case atStart => exact ⟨0, 0, none, 0, [], [], rfl, rfl, rfl, by omega, hide ⟨rfl, rfl⟩, GD.nil _, hs.l0 _ _⟩
  case round =>
  clear hs
  obtain ⟨r, N, o, c, xs, L, rfl, rfl, hrk, hN, HI, d, hs⟩ := hrel
  have hp1 : (r : Int) * (r : Int) = ((r * r : Nat) : Int) := by simp
  have hp2 : (r : Int) * 2 * (r : Int) = ((2 * r * r : Nat) : Int) := by simp; grind
  have hp3 : 2 * (r : Int) * (r : Int) = ((2 * r * r : Nat) : Int) := by simp
  have hb1 : r * r ≤ 4295098369 := Nat.mul_le_mul (show r ≤ 65537 by omega) (show r ≤ 65537 by omega)
  have hb2 : 2 * r * r = 2 * (r * r) := Nat.mul_assoc _ _ _
  by_cases h1 : r * r ≤ n
  · have hr65 : r ≤ 65535 := by
      rcases Nat.lt_or_ge r 65536 with h | h
      · omega
      · have := Nat.mul_le_mul h h; omega
    by_cases h2 : 2 * r * r < n
    · have HI' := hide (show L = sqs n (r + 1) ∧ N = L.length from ⟨by rw [sqs_none (sqAt_low h2)]; exact HI.out.1, HI.out.2⟩)
      clear HI
      generalize 2 * r * r = q2 at *
      generalize r * r = q1 at *
      have h5 : ((q1 : Int) ≤ (n : Int)) = True := by simp; omega
      have h6 : ((q2 : Int) < (n : Int)) = True := by simp; omega
      clear hb2
      refine wp_seq_k ?_
      intro K5 hK5
      refine wp_seq_k ?_
      intro K6 hK6
      refine rg [0, 1, 2, 3, 4] ?_
      refine sq ?_
      refine .mv ?_
      refine sq ?_
      refine .mv ?_
      refine sq ?_
      refine .r0 ?_
      refine sq ?_
      refine .mv ?_
      refine sq ?_
      refine .r0 ?_
      apply wpSq_end
      refine hK6 _ _ ?_
      refine ct ?_
      refine wp_skip ?_
      refine hK5 _ _ ?_
      refine wp_seq_k ?_
      intro K7 hK7
      refine wp_block ?_
      refine wp_seq_k ?_
      intro K8 hK8
      refine wp_seq_k ?_
      intro K9 hK9
      refine rg [0, 1, 2, 3, 4, 5] ?_
      refine sq ?_
      refine .mv ?_
      refine sq ?_
      refine .r0 ?_
      refine sq ?_
      refine .mv ?_
      refine sq ?_
      refine .r0 ?_
      refine sq ?_
      refine .mv ?_
      refine sq ?_
      refine .r0 ?_
      apply wpSq_end
      refine hK9 _ _ ?_
      refine ct ?_
      refine wp_exit ?_
      refine hK7 _ _ ?_
      refine rg [0, 1, 2] ?_
      refine sq ?_
      refine .mv ?_
      refine sq ?_
      refine .r0 ?_
      refine sq ?_
      refine .mv ?_
      apply wpSq_end
      refine ‹∀ (a' : Act) (w' : World), Handed _ _ a' w' → _› _ _ ?_
      go_roundg (gk - 1)
      case rel => exact ⟨r + 1, N, o, c, xs, L, by rfl, by rfl, by omega, by omega, HI', d, hs⟩
      case measure => omega
    · have hroot := root_any (n - r * r) w (by omega)
      by_cases h3 : r * r + rt (n - r * r) * rt (n - r * r) = n
      · have HA := hide (show sqAt n r = some ((r : Int), ((rt (n - r * r) : Nat) : Int)) from by unfold sqAt; rw [if_pos ⟨by omega, h1, h3⟩])
        have HI' := hide (show L ++ [((r : Int), ((rt (n - r * r) : Nat) : Int))] = sqs n (r + 1) ∧ N + 1 = (L ++ [((r : Int), ((rt (n - r * r) : Nat) : Int))]).length from ⟨by rw [sqs_some HA.out, HI.out.1], by rw [List.length_append, HI.out.2]; rfl⟩)
        have HR := hide (fun w => root_any (n - r * r) w (by omega))
        have hle : rt (n - r * r) ≤ r := sq_le2 (by omega)
        clear HI HA hroot
        generalize rt (n - r * r) = b at *
        have hp4 : (b : Int) * (b : Int) = ((b * b : Nat) : Int) := by simp
        obtain ⟨q3, hq3⟩ : ∃ q, b * b = q := ⟨_, rfl⟩
        rw [hq3] at h3 hp4
        have hsub : (n : Int) - ((r * r : Nat) : Int) = ((n - r * r : Nat) : Int) := by omega
        obtain ⟨q1, hq1⟩ : ∃ q, r * r = q := ⟨_, rfl⟩
        rw [hq1] at h3 hp1 hsub HR h1 hb1 hb2
        obtain ⟨q2, hq2⟩ : ∃ q, 2 * r * r = q := ⟨_, rfl⟩
        rw [hq2] at h2 hp2 hp3 hb2
        clear hq1 hq2 hq3
        have h5 : ((q1 : Int) ≤ (n : Int)) = True := by simp; omega
        have h6 : ((q2 : Int) < (n : Int)) = False := by simp; omega
        have h7 : ((q1 : Int) + (q3 : Int) == (n : Int)) = true := by simp; omega
        have h8 : ((b : Int) ≤ (r : Int)) = True := by simp; omega
        have hq2b : q2 ≤ 8590196738 := by omega
        clear hb2
        refine wp_seq_k ?_
        intro K5 hK5
        refine wp_seq_k ?_
        intro K6 hK6
        refine rg [0, 1, 2, 3, 4] ?_
        refine sq ?_
        refine .mv ?_
        refine sq ?_
        refine .mv ?_
        refine sq ?_
        refine .r0 ?_
        refine sq ?_
        refine .mv ?_
        refine sq ?_
        refine .r0 ?_
        apply wpSq_end
        refine hK6 _ _ ?_
        refine ct ?_
        refine wp_skip ?_
        refine hK5 _ _ ?_
        refine wp_seq_k ?_
        intro K7 hK7
        refine wp_block ?_
        refine wp_seq_k ?_
        intro K8 hK8
        refine wp_seq_k ?_
        intro K9 hK9
        refine rg [0, 1, 2, 3, 4, 5] ?_
        refine sq ?_
        refine .mv ?_
        refine sq ?_
        refine .r0 ?_
        refine sq ?_
        refine .mv ?_
        refine sq ?_
        refine .r0 ?_
        refine sq ?_
        refine .mv ?_
        refine sq ?_
        refine .r0 ?_
        apply wpSq_end
        refine hK9 _ _ ?_
        refine cf ?_
        refine wp_skip ?_
        refine hK8 _ _ ?_
        refine wp_seq_k ?_
        intro K10 hK10
        refine rg [0, 1, 2, 3, 4, 5, 6] ?_
        refine sq ?_
        refine .mv ?_
        refine sq ?_
        refine .mv ?_
        refine sq ?_
        refine .mv ?_
        refine sq ?_
        refine .r0 ?_
        refine sq ?_
        refine .r0 ?_
        refine sq ?_
        intro K hK
        go_big_op
        go_fit (HR.out _)
        rintro e w_2 ⟨rfl, e_2⟩
        (first | rw [e_2] | rw [← e_2]); clear e_2 w_2
        refine hK _ _ rfl trivial ?_
        clear hK K
        refine sq ?_
        refine .mv ?_
        apply wpSq_end
        refine hK10 _ _ ?_
        refine wp_seq_k ?_
        intro K11 hK11
        refine rg [0, 1, 2, 3, 4, 5, 6, 7, 8, 9, 10, 11, 12, 13] ?_
        refine sq ?_
        refine .mv ?_
        refine sq ?_
        refine .mv ?_
        refine sq ?_
        refine .r0 ?_
        refine sq ?_
        refine .mv ?_
        refine sq ?_
        refine .mv ?_
        refine sq ?_
        refine .r0 ?_
        refine sq ?_
        refine .r0 ?_
        refine sq ?_
        refine .mv ?_
        refine sq ?_
        refine .r0 ?_
        refine sq ?_
        refine .mv ?_
        refine sq ?_
        refine .mv ?_
        refine sq ?_
        refine .mv ?_
        refine sq ?_
        refine .r0 ?_
        refine sq ?_
        refine .r0 ?_
        apply wpSq_end
        refine hK11 _ _ ?_
        refine ct ?_
        refine rg [0, 1, 2, 3, 4, 5, 6] ?_
        refine sq ?_
        refine .mv ?_
        refine sq ?_
        refine .mv ?_
        refine sq ?_
        refine .mv ?_
        refine sq ?_
        intro K hK
        go_big_op
        go_fit (rgI_any (r : Int) (b : Int) _ (by omega) (by omega) (by omega) (by omega))
        rintro e w_3 ⟨_, rfl, ⟨n_ea, o_ea, k_ea, c_ea, n_eb, o_eb, k_eb, c_eb, rfl, e1, e2⟩, hb_3⟩
        replace hs := hs.bl hb_3
        refine hK _ _ rfl trivial ?_
        clear hK K
        refine sq ?_
        refine .al hs ?_; clear hs; intro p_b1 w_4 hs n4 kb_b1
        refine sq ?_
        have k1_2 := kb n4
        replace e1 := e1.k k1_2
        replace e2 := e2.k k1_2
        have k0_2 := (kb hb_3).b n4
        replace d := d.k k0_2
        replace d := d.snoc (.mk' e1 e2)
        refine .ap 1 hs hs.g0 ?_; clear hs; intro o_L_5 c_L_5 w_5 hs kp5; simp only [List.set_cons_succ, List.set_cons_zero] at hs
        refine sq ?_
        refine .mv ?_
        apply wpSq_end
        refine hK7 _ _ ?_
        refine rg [0, 1, 2] ?_
        refine sq ?_
        refine .mv ?_
        refine sq ?_
        refine .r0 ?_
        refine sq ?_
        refine .mv ?_
        apply wpSq_end
        have k2_3 := kp5
        replace d := d.k k2_3
        refine ‹∀ (a' : Act) (w' : World), Handed _ _ a' w' → _› _ _ ?_
        go_roundg (gk - 1)
        case rel => exact ⟨r + 1, N + 1, _, _, _, _, by rfl, by rfl, by omega, by omega, HI', d, hs.sub (.cons _ (.cons_cons _ .slnil))⟩
        case measure => omega
      · have HI' := hide (show L = sqs n (r + 1) ∧ N = L.length from ⟨by rw [sqs_none (by unfold sqAt; rw [if_neg (fun hc => h3 hc.2.2)])]; exact HI.out.1, HI.out.2⟩)
        have HR := hide (fun w => root_any (n - r * r) w (by omega))
        have hbb := (rt_spec (n - r * r)).1
        clear HI hroot
        generalize rt (n - r * r) = b at *
        have hp4 : (b : Int) * (b : Int) = ((b * b : Nat) : Int) := by simp
        obtain ⟨q3, hq3⟩ : ∃ q, b * b = q := ⟨_, rfl⟩
        rw [hq3] at h3 hp4 hbb
        have hsub : (n : Int) - ((r * r : Nat) : Int) = ((n - r * r : Nat) : Int) := by omega
        obtain ⟨q1, hq1⟩ : ∃ q, r * r = q := ⟨_, rfl⟩
        rw [hq1] at h3 hp1 hsub HR h1 hb1 hb2 hbb
        obtain ⟨q2, hq2⟩ : ∃ q, 2 * r * r = q := ⟨_, rfl⟩
        rw [hq2] at h2 hp2 hp3 hb2
        clear hq1 hq2 hq3
        have h5 : ((q1 : Int) ≤ (n : Int)) = True := by simp; omega
        have h6 : ((q2 : Int) < (n : Int)) = False := by simp; omega
        have h7 : ((q1 : Int) + (q3 : Int) == (n : Int)) = false := by simp; omega
        have hq2b : q2 ≤ 8590196738 := by omega
        clear hb2
        refine wp_seq_k ?_
        intro K5 hK5
        refine wp_seq_k ?_
        intro K6 hK6
        refine rg [0, 1, 2, 3, 4] ?_
        refine sq ?_
        refine .mv ?_
        refine sq ?_
        refine .mv ?_
        refine sq ?_
        refine .r0 ?_
        refine sq ?_
        refine .mv ?_
        refine sq ?_
        refine .r0 ?_
        apply wpSq_end
        refine hK6 _ _ ?_
        refine ct ?_
        refine wp_skip ?_
        refine hK5 _ _ ?_
        refine wp_seq_k ?_
        intro K7 hK7
        refine wp_block ?_
        refine wp_seq_k ?_
        intro K8 hK8
        refine wp_seq_k ?_
        intro K9 hK9
        refine rg [0, 1, 2, 3, 4, 5] ?_
        refine sq ?_
        refine .mv ?_
        refine sq ?_
        refine .r0 ?_
        refine sq ?_
        refine .mv ?_
        refine sq ?_
        refine .r0 ?_
        refine sq ?_
        refine .mv ?_
        refine sq ?_
        refine .r0 ?_
        apply wpSq_end
        refine hK9 _ _ ?_
        refine cf ?_
        refine wp_skip ?_
        refine hK8 _ _ ?_
        refine wp_seq_k ?_
        intro K10 hK10
        refine rg [0, 1, 2, 3, 4, 5, 6] ?_
        refine sq ?_
        refine .mv ?_
        refine sq ?_
        refine .mv ?_
        refine sq ?_
        refine .mv ?_
        refine sq ?_
        refine .r0 ?_
        refine sq ?_
        refine .r0 ?_
        refine sq ?_
        intro K hK
        go_big_op
        go_fit (HR.out _)
        rintro e w_2 ⟨rfl, e_2⟩
        (first | rw [e_2] | rw [← e_2]); clear e_2 w_2
        refine hK _ _ rfl trivial ?_
        clear hK K
        refine sq ?_
        refine .mv ?_
        apply wpSq_end
        refine hK10 _ _ ?_
        refine wp_seq_k ?_
        intro K11 hK11
        refine rg [0, 1, 2, 3, 4, 5, 6, 7, 8, 9, 10, 11, 12, 13] ?_
        refine sq ?_
        refine .mv ?_
        refine sq ?_
        refine .mv ?_
        refine sq ?_
        refine .r0 ?_
        refine sq ?_
        refine .mv ?_
        refine sq ?_
        refine .mv ?_
        refine sq ?_
        refine .r0 ?_
        refine sq ?_
        refine .r0 ?_
        refine sq ?_
        refine .mv ?_
        refine sq ?_
        refine .r0 ?_
        refine sq ?_
        refine .mv ?_
        refine sk ?_
        refine sk ?_
        refine sk ?_
        refine sq ?_
        refine .r0 ?_
        apply wpSq_end
        refine hK11 _ _ ?_
        refine cf ?_
        refine wp_skip ?_
        refine hK7 _ _ ?_
        refine rg [0, 1, 2] ?_
        refine sq ?_
        refine .mv ?_
        refine sq ?_
        refine .r0 ?_
        refine sq ?_
        refine .mv ?_
        apply wpSq_end
        refine ‹∀ (a' : Act) (w' : World), Handed _ _ a' w' → _› _ _ ?_
        go_roundg (gk - 1)
        case rel => exact ⟨r + 1, N, o, c, xs, L, by rfl, by rfl, by omega, by omega, HI', d, hs⟩
        case measure => omega
  · have HE := hide (show sqs n r = sqAll n from sqs_all (by omega))
    have HI' := hide (show L = sqAll n ∧ N = L.length from ⟨HI.out.1.trans HE.out, HI.out.2⟩)
    clear HI HE
    generalize r * r = q1 at *
    have h5 : ((q1 : Int) ≤ (n : Int)) = False := by simp; omega
    clear hb2
    refine wp_seq_k ?_
    intro K5 hK5
    refine wp_seq_k ?_
    intro K6 hK6
    refine rg [0, 1, 2, 3, 4] ?_
    refine sq ?_
    refine .mv ?_
    refine sq ?_
    refine .mv ?_
    refine sq ?_
    refine .r0 ?_
    refine sq ?_
    refine .mv ?_
    refine sq ?_
    refine .r0 ?_
    apply wpSq_end
    refine hK6 _ _ ?_
    refine cf ?_
    refine wp_exit ?_
    refine hK3 _ _ ?_
    refine wp_seq_k ?_
    intro K7 hK7
    refine rg [0, 1] ?_
    refine sq ?_
    refine .mv ?_
    refine sq ?_
    refine .mv ?_
    apply wpSq_end
    refine hK7 _ _ ?_
    refine wp_ret ?_
    try dsimp only [Exit.then, Exit.inBlock]
    refine bodyPost_ret (v := (.slice o N c)) (by simp [results, Try.results25, go_sem]) rfl ?_
    obtain ⟨rfl, rfl⟩ := HI'.out; exact ⟨_, _, _, rfl, hs.1.1.1, d, hs.b⟩
end
end Go.Proofs.Ytbiiglcfdphmaaa

