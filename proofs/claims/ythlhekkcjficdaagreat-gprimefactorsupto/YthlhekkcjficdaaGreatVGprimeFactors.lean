/- GprimeFactors: the law's walk. -/
import Derived.Test.YthlhekkcjficdaaGreatF4ToK24
import Derived.Test.YthlhekkcjficdaaGreatK6ToJ9
namespace Go.Proofs.YthlhekkcjficdaaGreat
open Go Go.RowKit Dig
set_option linter.unusedVariables false
section
variable {w : World} {va : Value} {x y : Int} {l m : Nat}
set_option maxHeartbeats 4000000 in
set_option maxRecDepth 20000 in
theorem gfacs_zero (ha : PN w va x l y m) (hl : l ≤ 20000000) (hm : m ≤ 20000000) (hn : gN x y = 0) :
    Calls Tryz.prog 3 #[va] w fun e w' => e = .returned (.bool true) ∧ Below w.heap.size w w' := by
  have HN := hide hn
  obtain ⟨rfl, rfl⟩ := gN_zero.1 hn
  clear hn
  obtain ⟨n_0a, o_0a, k_0a, c_0a, n_0b, o_0b, k_0b, c_0b, rfl, ha1, ha2⟩ := ha
  go_enter Tryz.func3, Tryz.ntmps3
  have hs := St.nil w
  refine wp_seq_k ?_
  intro K1 hK1
  refine rg [0, 1] ?_
  refine sq ?_
  refine .al hs ?_; clear hs; intro p_b1 w_1 hs n1 kb_b1
  refine sq ?_
  refine .mv ?_
  apply wpSq_end
  refine hK1 _ _ ?_
  refine wp_seq_k ?_
  intro K2 hK2
  refine rg [0, 1, 2, 3, 4, 5, 6, 7, 8] ?_
  refine sq ?_
  refine .r4 hs.g0.f4 ?_
  refine sq ?_
  intro K hK
  have k0_1 := kb n1
  replace ha1 := ha1.k k0_1
  replace ha2 := ha2.k k0_1
  go_big_op
  go_fit (gfactor_zero (.mk' ha1 ha2) hl hm HN.out)
  rintro e w_2 ⟨rfl, hb_2⟩
  replace hs := hs.bl hb_2
  refine hK _ _ rfl trivial ?_
  clear hK K
  refine sq ?_
  refine .mv ?_
  refine sq ?_
  refine .r0 ?_
  refine sq ?_
  refine .r0 ?_
  refine sq ?_
  refine .r0 ?_
  refine sq ?_
  refine .mv ?_
  refine sq ?_
  refine .mv ?_
  refine sq ?_
  refine .mv ?_
  apply wpSq_end
  refine hK2 _ _ ?_
  refine wp_seq_k ?_
  intro K3 hK3
  refine wp_seq_k ?_
  intro K4 hK4
  refine rg [0, 1] ?_
  refine sq ?_
  intro K hK
  go_big_op
  go_fit (awake6_any _)
  rintro e w_3 ⟨rfl, hb_3⟩
  replace hs := hs.bl hb_3
  refine hK _ _ rfl trivial ?_
  clear hK K
  refine sq ?_
  refine .r0 ?_
  apply wpSq_end
  refine hK4 _ _ ?_
  refine cf ?_
  refine wp_skip ?_
  refine hK3 _ _ ?_
  refine wp_seq_k ?_
  intro K5 hK5
  refine wp_seq_k ?_
  intro K6 hK6
  refine rg [0, 1] ?_
  refine sq ?_
  refine .r4 hs.g0.f4 ?_
  refine sq ?_
  intro K hK
  have k1_3 := (kb hb_2).b hb_3
  replace ha1 := ha1.k k1_3
  replace ha2 := ha2.k k1_3
  go_big_op
  go_fit (rgNull_yes (.mk' ha1 ha2) (by omega) (by omega))
  rintro e w_4 ⟨rfl, hb_4⟩
  replace hs := hs.bl hb_4
  refine hK _ _ rfl trivial ?_
  clear hK K
  apply wpSq_end
  refine hK6 _ _ ?_
  refine ct ?_
  refine wp_seq_k ?_
  intro K7 hK7
  refine rg [0, 1, 2, 3, 4, 5, 6, 7, 8, 9, 10, 11] ?_
  refine sq ?_
  refine .mv ?_
  refine sq ?_
  refine .r0 ?_
  refine sq ?_
  refine .mv ?_
  refine sq ?_
  refine .mv ?_
  refine sq ?_
  refine .r0 ?_
  refine sq ?_
  refine .r0 ?_
  refine sq ?_
  refine .mv ?_
  refine sq ?_
  refine .mv ?_
  refine sq ?_
  refine .r0 ?_
  refine sq ?_
  refine .r0 ?_
  refine sq ?_
  refine .r0 ?_
  refine sq ?_
  refine .mv ?_
  apply wpSq_end
  refine hK7 _ _ ?_
  refine wp_ret ?_
  try dsimp only [Exit.then, Exit.inBlock]
  refine bodyPost_ret (v := (.bool true)) (by simp [results, Tryz.results3, go_sem]) rfl ?_
  exact ⟨rfl, hs.b⟩
set_option maxHeartbeats 4000000 in
set_option maxRecDepth 20000 in
theorem gfacs_big (ha : PN w va x l y m) (hl : l ≤ 20000000) (hm : m ≤ 20000000) (hn : 4294967296 ≤ gN x y) :
    Calls Tryz.prog 3 #[va] w fun e w' => e = .returned (.bool true) ∧ Below w.heap.size w w' := by
  have HN := hide hn
  have HD := hide (show decide (x = 0 ∧ y = 0) = false from decide_eq_false (fun c => by have := gN_zero.2 c; omega))
  clear hn
  obtain ⟨n_0a, o_0a, k_0a, c_0a, n_0b, o_0b, k_0b, c_0b, rfl, ha1, ha2⟩ := ha
  go_enter Tryz.func3, Tryz.ntmps3
  have hs := St.nil w
  refine wp_seq_k ?_
  intro K1 hK1
  refine rg [0, 1] ?_
  refine sq ?_
  refine .al hs ?_; clear hs; intro p_b1 w_1 hs n1 kb_b1
  refine sq ?_
  refine .mv ?_
  apply wpSq_end
  refine hK1 _ _ ?_
  refine wp_seq_k ?_
  intro K2 hK2
  refine rg [0, 1, 2, 3, 4, 5, 6, 7, 8] ?_
  refine sq ?_
  refine .r4 hs.g0.f4 ?_
  refine sq ?_
  intro K hK
  have k0_1 := kb n1
  replace ha1 := ha1.k k0_1
  replace ha2 := ha2.k k0_1
  go_big_op
  go_fit (gfactor_big (.mk' ha1 ha2) hl hm HN.out)
  rintro e w_2 ⟨rfl, hb_2⟩
  replace hs := hs.bl hb_2
  refine hK _ _ rfl trivial ?_
  clear hK K
  refine sq ?_
  refine .mv ?_
  refine sq ?_
  refine .r0 ?_
  refine sq ?_
  refine .r0 ?_
  refine sq ?_
  refine .r0 ?_
  refine sq ?_
  refine .mv ?_
  refine sq ?_
  refine .mv ?_
  refine sq ?_
  refine .mv ?_
  apply wpSq_end
  refine hK2 _ _ ?_
  refine wp_seq_k ?_
  intro K3 hK3
  refine wp_seq_k ?_
  intro K4 hK4
  refine rg [0, 1] ?_
  refine sq ?_
  intro K hK
  go_big_op
  go_fit (awake6_any _)
  rintro e w_3 ⟨rfl, hb_3⟩
  replace hs := hs.bl hb_3
  refine hK _ _ rfl trivial ?_
  clear hK K
  refine sq ?_
  refine .r0 ?_
  apply wpSq_end
  refine hK4 _ _ ?_
  refine cf ?_
  refine wp_skip ?_
  refine hK3 _ _ ?_
  refine wp_seq_k ?_
  intro K5 hK5
  refine wp_seq_k ?_
  intro K6 hK6
  refine rg [0, 1] ?_
  refine sq ?_
  refine .r4 hs.g0.f4 ?_
  refine sq ?_
  intro K hK
  have k1_3 := (kb hb_2).b hb_3
  replace ha1 := ha1.k k1_3
  replace ha2 := ha2.k k1_3
  go_big_op
  go_fit (rgNull_any (.mk' ha1 ha2) (by omega) (by omega))
  rintro e w_4 ⟨rfl, hb_4⟩
  replace hs := hs.bl hb_4
  rw [HD.out]
  refine hK _ _ rfl trivial ?_
  clear hK K
  apply wpSq_end
  refine hK6 _ _ ?_
  refine cf ?_
  refine wp_skip ?_
  refine hK5 _ _ ?_
  refine wp_seq_k ?_
  intro K7 hK7
  refine rg [0, 1, 2, 3, 4, 5, 6] ?_
  refine sq ?_
  refine .r4 hs.g0.f4 ?_
  refine sq ?_
  intro K hK
  have k3_4 := kb hb_4
  replace ha1 := ha1.k k3_4
  replace ha2 := ha2.k k3_4
  go_big_op
  go_fit (rsmallg_big (.mk' ha1 ha2) (by omega) (by omega) HN.out)
  rintro e w_5 ⟨v, rfl, hb_5⟩
  replace hs := hs.bl hb_5
  refine hK _ _ rfl trivial ?_
  clear hK K
  refine sq ?_
  refine .mv ?_
  refine sq ?_
  refine .r0 ?_
  refine sq ?_
  refine .r0 ?_
  refine sq ?_
  refine .mv ?_
  refine sq ?_
  refine .mv ?_
  apply wpSq_end
  refine hK7 _ _ ?_
  refine wp_seq_k ?_
  intro K8 hK8
  refine wp_seq_k ?_
  intro K9 hK9
  refine rg [0, 1] ?_
  refine sq ?_
  refine .mv ?_
  refine sq ?_
  refine .r0 ?_
  apply wpSq_end
  refine hK9 _ _ ?_
  refine ct ?_
  refine wp_seq_k ?_
  intro K10 hK10
  refine rg [0, 1, 2, 3, 4, 5, 6, 7, 8, 9, 10, 11] ?_
  refine sq ?_
  refine .mv ?_
  refine sq ?_
  refine .r0 ?_
  refine sq ?_
  refine .mv ?_
  refine sq ?_
  refine .mv ?_
  refine sq ?_
  refine .r0 ?_
  refine sq ?_
  refine .r0 ?_
  refine sq ?_
  refine .mv ?_
  refine sq ?_
  refine .mv ?_
  refine sq ?_
  refine .r0 ?_
  refine sq ?_
  refine .r0 ?_
  refine sq ?_
  refine .r0 ?_
  refine sq ?_
  refine .mv ?_
  apply wpSq_end
  refine hK10 _ _ ?_
  refine wp_ret ?_
  try dsimp only [Exit.then, Exit.inBlock]
  refine bodyPost_ret (v := (.bool true)) (by simp [results, Tryz.results3, go_sem]) rfl ?_
  exact ⟨rfl, hs.b⟩
set_option maxHeartbeats 8000000 in
set_option maxRecDepth 20000 in
theorem gfacs_some {lg : Nat} (ha : PN w va x lg y lg) (hlg : 1 ≤ lg) (hlm : lg ≤ 2000000) (h0 : gN x y ≠ 0) (hN : gN x y < 4294967296) :
    Calls Tryz.prog 3 #[va] w fun e w' => e = .returned (.bool true) ∧ Below w.heap.size w w' := by
  obtain ⟨ps, K0, hfa, HF, HR⟩ := rf_ex h0 hN
  have HF := hide HF
  have HR := hide HR
  have h1 := gN_nonneg x y
  have HD := hide (show decide (x = 0 ∧ y = 0) = false from decide_eq_false (fun c => h0 (gN_zero.2 c)))
  have HG := hide (show gN x y = (((gN x y).toNat : Nat) : Int) from by omega)
  have hGN : (gN x y).toNat < 4294967296 := by omega
  have HH := hide (And.intro h0 hN)
  have hlen := hfa.2.2.2.1
  have hex := expd_few hfa hN
  have HA := hide hfa
  obtain ⟨W, hW⟩ : ∃ W, expd ps = W := ⟨_, rfl⟩
  have HW := hide hW
  rw [hW] at HR hex
  clear hfa h0 hN h1 hW
  generalize (gN x y).toNat = N0 at *
  obtain ⟨n_0a, o_0a, k_0a, c_0a, n_0b, o_0b, k_0b, c_0b, rfl, ha1, ha2⟩ := ha
  go_enter Tryz.func3, Tryz.ntmps3
  have hs := St.nil w
  refine wp_seq_k ?_
  intro K1 hK1
  refine rg [0, 1] ?_
  refine sq ?_
  refine .al hs ?_; clear hs; intro p_b1 w_1 hs n1 kb_b1
  refine sq ?_
  refine .mv ?_
  apply wpSq_end
  refine hK1 _ _ ?_
  refine wp_seq_k ?_
  intro K2 hK2
  refine rg [0, 1, 2, 3, 4, 5, 6, 7, 8] ?_
  refine sq ?_
  refine .r4 hs.g0.f4 ?_
  refine sq ?_
  intro K hK
  have k0_1 := kb n1
  replace ha1 := ha1.k k0_1
  replace ha2 := ha2.k k0_1
  go_big_op
  go_fit (HF.out _ _ _ (.mk' ha1 ha2) hlg (by omega))
  rintro e w_2 ⟨o_F, c_F, xs_F, rfl, L_F, d_F, hb_2⟩
  replace hs := hs.la hb_2 L_F
  refine hK _ _ rfl trivial ?_
  clear hK K
  refine sq ?_
  refine .mv ?_
  refine sq ?_
  refine .r0 ?_
  refine sq ?_
  refine .r0 ?_
  refine sq ?_
  refine .r0 ?_
  refine sq ?_
  refine .mv ?_
  refine sq ?_
  refine .mv ?_
  refine sq ?_
  refine .mv ?_
  apply wpSq_end
  refine hK2 _ _ ?_
  refine wp_seq_k ?_
  intro K3 hK3
  refine wp_seq_k ?_
  intro K4 hK4
  refine rg [0, 1] ?_
  refine sq ?_
  intro K hK
  go_big_op
  go_fit (awake6_any _)
  rintro e w_3 ⟨rfl, hb_3⟩
  replace hs := hs.bl hb_3
  refine hK _ _ rfl trivial ?_
  clear hK K
  refine sq ?_
  refine .r0 ?_
  apply wpSq_end
  refine hK4 _ _ ?_
  refine cf ?_
  refine wp_skip ?_
  refine hK3 _ _ ?_
  refine wp_seq_k ?_
  intro K5 hK5
  refine wp_seq_k ?_
  intro K6 hK6
  refine rg [0, 1] ?_
  refine sq ?_
  refine .r4 hs.g1.f4 ?_
  refine sq ?_
  intro K hK
  have k1_3 := (kb hb_2).b hb_3
  replace ha1 := ha1.k k1_3
  replace ha2 := ha2.k k1_3
  go_big_op
  go_fit (rgNull_any (.mk' ha1 ha2) (by omega) (by omega))
  rintro e w_4 ⟨rfl, hb_4⟩
  replace hs := hs.bl hb_4
  rw [HD.out]
  refine hK _ _ rfl trivial ?_
  clear hK K
  apply wpSq_end
  refine hK6 _ _ ?_
  refine cf ?_
  refine wp_skip ?_
  refine hK5 _ _ ?_
  refine wp_seq_k ?_
  intro K7 hK7
  refine rg [0, 1, 2, 3, 4, 5, 6] ?_
  refine sq ?_
  refine .r4 hs.g1.f4 ?_
  refine sq ?_
  intro K hK
  have k3_4 := kb hb_4
  replace ha1 := ha1.k k3_4
  replace ha2 := ha2.k k3_4
  go_big_op
  go_fit (rsmallg_any N0 (.mk' ha1 ha2) (by omega) (by omega) HG.out hGN)
  rintro e w_5 ⟨rfl, hb_5⟩
  replace hs := hs.bl hb_5
  refine hK _ _ rfl trivial ?_
  clear hK K
  refine sq ?_
  refine .mv ?_
  refine sq ?_
  refine .r0 ?_
  refine sq ?_
  refine .r0 ?_
  refine sq ?_
  refine .mv ?_
  refine sq ?_
  refine .mv ?_
  apply wpSq_end
  refine hK7 _ _ ?_
  refine wp_seq_k ?_
  intro K8 hK8
  refine wp_seq_k ?_
  intro K9 hK9
  refine rg [0, 1] ?_
  refine sq ?_
  refine .mv ?_
  refine sq ?_
  refine .r0 ?_
  apply wpSq_end
  refine hK9 _ _ ?_
  refine cf ?_
  refine wp_skip ?_
  refine hK8 _ _ ?_
  refine wp_seq_k ?_
  intro K10 hK10
  refine rg [0, 1, 2, 3, 4, 5, 6, 7] ?_
  refine sq ?_
  refine .r4 hs.g1.f4 ?_
  refine sq ?_
  refine .mv ?_
  refine sq ?_
  intro K hK
  have k4_5 := kb hb_5
  replace ha1 := ha1.k k4_5
  replace ha2 := ha2.k k4_5
  go_big_op
  go_fit (HR.out _ _ _ (.mk' ha1 ha2) hlg (by omega))
  rintro e w_6 ⟨o_W, c_W, xs_W, rfl, L_W, d_W, hb_6⟩
  replace hs := hs.la hb_6 L_W
  refine hK _ _ rfl trivial ?_
  clear hK K
  refine sq ?_
  refine .mv ?_
  refine sq ?_
  refine .r0 ?_
  refine sq ?_
  refine .r0 ?_
  refine sq ?_
  refine .mv ?_
  refine sq ?_
  refine .mv ?_
  apply wpSq_end
  refine hK10 _ _ ?_
  refine wp_seq_k ?_
  intro K11 hK11
  refine rg [0] ?_
  refine sq ?_
  refine .mv ?_
  apply wpSq_end
  refine hK11 _ _ ?_
  refine wp_seq_k ?_
  intro K12 hK12
  refine wp_seq_k ?_
  intro K13 hK13
  refine rg [0] ?_
  refine sq ?_
  refine .mv ?_
  apply wpSq_end
  refine hK13 _ _ ?_
  refine wp_block ?_
  have k2_6 := (((kb hb_3).b hb_4).b hb_5).b hb_6
  replace d_F := d_F.k k2_6
  have hd7 := hs.2.1
  go_loopg [10, 11] ps.length (fun k s10 s11 wr => ∃ (i a : Nat), s10 = .int .i64 (a : Int) ∧ s11 = .int .i64 (i : Int) ∧ i + k = ps.length ∧ a ≤ W.length ∧ Hid (a = (expd (ps.take i)).length) ∧ FacL wr xs_F ps ∧ GD wr xs_W W ∧
    St w [ls w.heap.size 26 4 (.slice o_W W.length c_W) W.length xs_W, ls w.heap.size 39 5 (.slice o_F ps.length c_F) ps.length xs_F] wr)
  case atStart => exact ⟨0, 0, rfl, rfl, by omega, Nat.zero_le _, hide rfl, d_F, d_W, hs.sub (.cons_cons _ (.cons_cons _ (.cons _ .slnil)))⟩
  case round =>
  clear ha1 ha2 d_F d_W hs
  obtain ⟨i, a, rfl, rfl, hik, haW, HI, dF, dW, hs⟩ := hrel
  by_cases hi : i < ps.length
  · obtain ⟨t, ht⟩ : ∃ t, ps[i] = t := ⟨_, rfl⟩
    have HQ := hide (show gN t.1 t.2.1 < 4294967296 ∧ 1 ≤ t.2.2 ∧ t.2.2 ≤ 31 from by
      have h := (HA.out.2.2.2.2 _ (List.getElem_mem hi)).1
      rw [ht] at h
      exact ⟨Int.lt_of_le_of_lt h.2.2.2.1 HH.out.2, h.2.2.2.2.1, h.2.2.2.2.2⟩)
    have HZ := hide (len_of_norm HQ.out.1)
    obtain ⟨nq, hnq⟩ : ∃ nq : Nat, t.2.2 = (nq : Int) := ⟨t.2.2.toNat, by have := HQ.out.2.1; omega⟩
    have hn1 : 1 ≤ nq := by have := HQ.out.2.1; omega
    have hn2 : nq ≤ 31 := by have := HQ.out.2.2; omega
    have hNt : ps[i].2.2.toNat = nq := by rw [ht, hnq]; rfl
    have hsum : (expd (ps.take (i + 1))).length = a + nq := by rw [expd_lens hi, hNt, ← HI.out]
    have hle : a + nq ≤ W.length := by rw [← hsum, ← HW.out]; exact expd_le _ _
    have HS := hide hsum
    have hb := hs.b
    have HC := hide (show ∀ n, n < nq → ∀ hb : a + n < W.length, W[a + n] = (t.1, t.2.1) from by
      intro n hn hb
      have h := expd_at (n := n) hi (by rw [hNt]; exact hn) (by rw [← HI.out, HW.out]; exact hb)
      rw [ht] at h
      have e := HW.out
      subst e
      have e2 := HI.out
      subst e2
      exact h)
    have HX := hide (show ∀ hb : a + nq < W.length, ¬ (W[a + nq].1 = t.1 ∧ W[a + nq].2 = t.2.1) from by
      intro hb
      have e := HW.out
      subst e
      have h := expd_next hi (fun s hs => (HA.out.2.2.2.2 s hs).1.2.2.2.2.1) HA.out.2.2.1 (by rw [hsum]; exact hb)
      rw [ht] at h
      intro hc
      apply h
      simp only [hsum]
      exact hc)
    have tn1 : ((nq : Int) < 1) = False := by simp; omega
    have tn2 : ((W.length : Int) - (a : Int) < (nq : Int)) = False := by simp; omega
    obtain ⟨n1, o1, k1, q1, n2, o2, k2, q2, e1, e2, e3, e4, e5, z1, z2⟩ := dF.at hi
    rw [ht] at z1 z2 e5
    rw [hnq] at e5
    obtain ⟨gl, curl, rfl, xl, hcur⟩ := (hs.1.2.1.1).box (by omega)
    replace e1 := hide (hcur _ _ e1)
    replace e2 := hide (hcur _ _ e2)
    replace e3 := hide (hcur _ _ e3)
    replace e4 := hide (hcur _ _ e4)
    replace e5 := hide (hcur _ _ e5)
    clear hcur hsum hNt
    refine wp_seq_k ?_
    intro K14 hK14
    refine wp_seq_k ?_
    intro K15 hK15
    refine rg [0, 1, 2, 3] ?_
    refine sq ?_
    refine .mv ?_
    refine sq ?_
    refine .mv ?_
    refine sq ?_
    refine .r0 ?_
    refine sq ?_
    refine .r0 ?_
    apply wpSq_end
    refine hK15 _ _ ?_
    refine ct ?_
    refine wp_skip ?_
    refine hK14 _ _ ?_
    refine wp_seq_k ?_
    intro K16 hK16
    refine wp_block ?_
    refine wp_seq_k ?_
    intro K17 hK17
    refine wp_seq_k ?_
    intro K18 hK18
    refine rg [0, 1, 2, 3, 4, 5, 6, 7, 8, 9, 10, 11, 12, 13, 14, 15, 16, 17] ?_
    refine sq ?_
    refine .mv ?_
    refine sq ?_
    refine .mv ?_
    refine sq ?_
    refine .r0 ?_
    refine sq ?_
    refine .r0 ?_
    refine sq ?_
    refine .r1 (xl.cell _ e5.out) ?_
    refine sq ?_
    refine .r0 ?_
    refine sq ?_
    refine .mv ?_
    refine sq ?_
    refine .mv ?_
    refine sq ?_
    refine .mv ?_
    refine sq ?_
    refine .r0 ?_
    refine sq ?_
    refine .r0 ?_
    refine sq ?_
    refine .r1 (xl.cell _ e5.out) ?_
    refine sq ?_
    refine .mv ?_
    refine sq ?_
    refine .r0 ?_
    refine sq ?_
    refine .mv ?_
    refine sq ?_
    refine .r0 ?_
    refine sq ?_
    refine .r0 ?_
    refine sq ?_
    refine .r0 ?_
    apply wpSq_end
    refine hK18 _ _ ?_
    refine cf ?_
    refine wp_skip ?_
    refine hK17 _ _ ?_
    refine wp_seq_k ?_
    intro K19 hK19
    refine wp_seq_k ?_
    intro K20 hK20
    refine rg [0] ?_
    refine sq ?_
    refine .mv ?_
    apply wpSq_end
    refine hK20 _ _ ?_
    refine wp_block ?_
    have HO := ‹∀ (a' : Act) (w' : World), Handed _ _ a' w' → _›
    obtain ⟨gg, hgg⟩ : ∃ g, gk = g := ⟨_, rfl⟩
    have hd8 := hs.2.1
    go_loopg [10, 12] nq (fun k s10 s12 wr => ∃ (n b : Nat), s10 = .int .i64 (b : Int) ∧ s12 = .int .i64 (n : Int) ∧ n + k = nq ∧ b ≤ W.length ∧ Hid (b = a + n) ∧ FacL wr xs_F ps ∧ GD wr xs_W W ∧
      St w [ls w.heap.size 26 4 (.slice o_W W.length c_W) W.length xs_W, ls w.heap.size 39 5 (.slice (some ⟨gl, 0, none⟩) ps.length c_F) ps.length xs_F] wr)
    case atStart => exact ⟨0, a, rfl, rfl, by omega, haW, hide rfl, dF, dW, hs⟩
    case round =>
    clear dW dF xl z1 z2 hs
    obtain ⟨n, b, rfl, rfl, hnk, hbl, HBn, dF, dW, hs⟩ := hrel
    obtain ⟨n1, o1, k1, q1, n2, o2, k2, q2, e1, e2, e3, e4, e5, z1, z2⟩ := dF.at hi
    rw [ht] at z1 z2 e5
    rw [hnq] at e5
    obtain ⟨gl2, curl2, hg2, xl2, hcur⟩ := (hs.1.2.1.1).box (by omega)
    obtain rfl : gl = gl2 := by simpa using hg2
    clear hg2
    replace e1 := hide (hcur _ _ e1)
    replace e2 := hide (hcur _ _ e2)
    replace e3 := hide (hcur _ _ e3)
    replace e4 := hide (hcur _ _ e4)
    replace e5 := hide (hcur _ _ e5)
    clear hcur
    by_cases hn : n < nq
    · have hbW : b < W.length := by have := HBn.out; omega
      have HWe := hide (show W[b] = (t.1, t.2.1) from by have e := HBn.out; subst e; exact HC.out n hn hbW)
      have HBs := hide (show b + 1 = a + (n + 1) from by rw [HBn.out]; rfl)
      obtain ⟨n3, o3, k3, q3, n4, o4, k4, q4, f1, f2, f3, f4, z3, z4⟩ := dW.at hbW
      rw [HWe.out] at z3 z4
      change ZC _ _ t.1 at z3
      change ZC _ _ t.2.1 at z4
      obtain ⟨gw, curw, rfl, xw, hcw⟩ := (hs.1.1.1).box (by omega)
      replace f1 := hide (hcw _ _ f1)
      replace f2 := hide (hcw _ _ f2)
      replace f3 := hide (hcw _ _ f3)
      replace f4 := hide (hcw _ _ f4)
      clear hcw
      refine wp_seq_k ?_
      intro K21 hK21
      refine wp_seq_k ?_
      intro K22 hK22
      refine rg [0, 1, 2, 3, 4, 5, 6] ?_
      refine sq ?_
      refine .mv ?_
      refine sq ?_
      refine .mv ?_
      refine sq ?_
      refine .mv ?_
      refine sq ?_
      refine .r0 ?_
      refine sq ?_
      refine .r0 ?_
      refine sq ?_
      refine .r1 (xl2.cell _ e5.out) ?_
      refine sq ?_
      refine .r0 ?_
      apply wpSq_end
      refine hK22 _ _ ?_
      refine ct ?_
      refine wp_skip ?_
      refine hK21 _ _ ?_
      refine wp_seq_k ?_
      intro K23 hK23
      refine wp_block ?_
      refine wp_seq_k ?_
      intro K24 hK24
      refine wp_seq_k ?_
      intro K25 hK25
      refine wp_region_f4 [(0, false), (1, false), (2, false), (3, false), (4, false), (5, false), (6, false), (7, false), (8, false), (9, true), (10, false)] [] [] (fun _ => default) [99, 99, 99, 99, 0, 99, 99, 99, 1, 99, 99] [] (.c xl2 (.c xw .n)) fn fun w_9 n9 => ?_
      replace xl2 := xl2.bl n9; replace xw := xw.bl n9; replace hs := hs.bl n9
      refine fmv ?_
      refine fmv ?_
      refine f0 ?_
      refine f0 ?_
      apply wpFl_ld rfl rfl; (case h1 => intro w' hC K hK; have c0 := Bs.cell hC ((i * 5)) e1.out; have c1 := Bs.cell hC ((i * 5) + 1) e2.out; have c2 := Bs.cell hC ((i * 5) + 2) e3.out; have c3 := Bs.cell hC ((i * 5) + 3) e4.out; go_big_op; exact hK); iterate 4 kernel_rfl
      refine fmv ?_
      refine fmv ?_
      refine f0 ?_
      apply wpFl_ld rfl rfl; (case h1 => intro w' hC K hK; have c0 := Bs.cell hC ((b * 4)) f1.out; have c1 := Bs.cell hC ((b * 4) + 1) f2.out; have c2 := Bs.cell hC ((b * 4) + 2) f3.out; have c3 := Bs.cell hC ((b * 4) + 3) f4.out; go_big_op; exact hK); iterate 4 kernel_rfl
      refine fl fun w_10 n10 => ?_
      replace xl2 := xl2.bl n10; replace xw := xw.bl n10; replace hs := hs.bl n10
      intro K hK
      have k0_2 := (kb n9).b n10
      replace z1 := z1.k k0_2
      replace z2 := z2.k k0_2
      replace z3 := z3.k k0_2
      replace z4 := z4.k k0_2
      go_big_op
      go_fit (g6is_any (.mk' z1 z2) (.mk' (z3.zn HZ.out.1) (z4.zn HZ.out.2)) (by omega) (by omega))
      rintro e w_11 ⟨rfl, hb_11⟩
      replace xl2 := xl2.bl hb_11; replace xw := xw.bl hb_11; replace hs := hs.bl hb_11
      refine hK _ _ rfl ⟨hb_11, (And.intro xl2 (And.intro xw trivial))⟩ ?_
      clear hK K
      refine f0 ?_
      refine e0 hs ?_; clear hs; intro w_12 hs n12
      replace xl2 := xl2.bl n12; replace xw := xw.bl n12
      apply wpTail_end
      refine hK25 _ _ ?_
      refine cf ?_
      refine wp_skip ?_
      refine hK24 _ _ ?_
      refine rg [0, 1, 2] ?_
      refine sq ?_
      refine .mv ?_
      refine sq ?_
      refine .r0 ?_
      refine sq ?_
      refine .mv ?_
      apply wpSq_end
      refine hK23 _ _ ?_
      refine rg [0, 1, 2] ?_
      refine sq ?_
      refine .mv ?_
      refine sq ?_
      refine .r0 ?_
      refine sq ?_
      refine .mv ?_
      apply wpSq_end
      have k0_4 := (k0_2.b hb_11).b n12
      replace dF := dF.k k0_4
      replace dW := dW.k k0_4
      have k2_4 := (kb hb_11).b n12
      replace z3 := z3.k k2_4
      replace z4 := z4.k k2_4
      refine ‹∀ (a' : Act) (w' : World), Handed _ _ a' w' → _› _ _ ?_
      go_roundg (gk - 1)
      case rel => exact ⟨n + 1, b + 1, by rfl, by rfl, by omega, by omega, HBs, dF, dW, hs⟩
      case measure => omega
    · have HBq := hide (show b = a + nq from by have := HBn.out; omega)
      have HI2 := hide (show b = (expd (ps.take (i + 1))).length from by rw [HS.out, HBq.out])
      have hW1 : 1 ≤ W.length := by omega
      by_cases hbW : b < W.length
      · have HN2 := hide (show decide (W[b].1 = t.1 ∧ W[b].2 = t.2.1) = false from decide_eq_false (by have e := HBq.out; subst e; exact HX.out hbW))
        obtain ⟨n3, o3, k3, q3, n4, o4, k4, q4, f1, f2, f3, f4, z3, z4⟩ := dW.at hbW
        have HWl := hide (show (dig W[b].1.natAbs).length ≤ 1 ∧ (dig W[b].2.natAbs).length ≤ 1 from by
          have hm : W[b] ∈ expd ps := by rw [HW.out]; exact List.getElem_mem hbW
          obtain ⟨s, hs1, hs2⟩ := List.mem_flatMap.1 hm
          rw [(List.mem_replicate.1 hs2).2]
          exact len_of_norm (Int.lt_of_le_of_lt (HA.out.2.2.2.2 s hs1).1.2.2.2.1 HH.out.2))
        generalize W[b].1 = P1 at *
        generalize W[b].2 = P2 at *
        obtain ⟨gw, curw, rfl, xw, hcw⟩ := (hs.1.1.1).box (by omega)
        replace f1 := hide (hcw _ _ f1)
        replace f2 := hide (hcw _ _ f2)
        replace f3 := hide (hcw _ _ f3)
        replace f4 := hide (hcw _ _ f4)
        clear hcw
        refine wp_seq_k ?_
        intro K21 hK21
        refine wp_seq_k ?_
        intro K22 hK22
        refine rg [0, 1, 2, 3, 4, 5, 6] ?_
        refine sq ?_
        refine .mv ?_
        refine sq ?_
        refine .mv ?_
        refine sq ?_
        refine .mv ?_
        refine sq ?_
        refine .r0 ?_
        refine sq ?_
        refine .r0 ?_
        refine sq ?_
        refine .r1 (xl2.cell _ e5.out) ?_
        refine sq ?_
        refine .r0 ?_
        apply wpSq_end
        refine hK22 _ _ ?_
        refine cf ?_
        refine wp_exit ?_
        refine hK19 _ _ ?_
        refine wp_seq_k ?_
        intro K23 hK23
        refine wp_region_f4 [(0, false), (1, false), (2, false), (3, false), (4, false), (5, false), (6, false), (7, false), (8, false), (9, false), (10, false), (11, false), (12, false), (13, false), (14, true), (15, false)] [] [] (fun _ => default) [99, 99, 99, 99, 99, 99, 99, 99, 0, 99, 99, 99, 99, 1, 99, 99] [] (.c xw (.c xl2 .n)) fn fun w_9 n9 => ?_
        replace xl2 := xl2.bl n9; replace xw := xw.bl n9; replace hs := hs.bl n9
        refine fmv ?_
        refine fmv ?_
        refine fb ?_
        refine f0 ?_
        refine fmv ?_
        refine fmv ?_
        refine fmv ?_
        refine f0 ?_
        apply wpFl_ld rfl rfl; (case h1 => intro w' hC K hK; have c0 := Bs.cell hC ((b * 4)) f1.out; have c1 := Bs.cell hC ((b * 4) + 1) f2.out; have c2 := Bs.cell hC ((b * 4) + 2) f3.out; have c3 := Bs.cell hC ((b * 4) + 3) f4.out; go_big_op; exact hK); iterate 4 kernel_rfl
        refine fmv ?_
        refine fmv ?_
        refine f0 ?_
        refine f0 ?_
        apply wpFl_ld rfl rfl; (case h1 => intro w' hC K hK; have c0 := Bs.cell hC ((i * 5)) e1.out; have c1 := Bs.cell hC ((i * 5) + 1) e2.out; have c2 := Bs.cell hC ((i * 5) + 2) e3.out; have c3 := Bs.cell hC ((i * 5) + 3) e4.out; go_big_op; exact hK); iterate 4 kernel_rfl
        refine fl fun w_10 n10 => ?_
        replace xl2 := xl2.bl n10; replace xw := xw.bl n10; replace hs := hs.bl n10
        intro K hK
        have k0_2 := (kb n9).b n10
        replace z3 := z3.k k0_2
        replace z4 := z4.k k0_2
        replace z1 := z1.k k0_2
        replace z2 := z2.k k0_2
        go_big_op
        go_fit (rgEqual_any (.mk' (z3.zn HWl.out.1) (z4.zn HWl.out.2)) (.mk' (z1.zn HZ.out.1) (z2.zn HZ.out.2)) (by omega) (by omega) (by omega) (by omega))
        rintro e w_11 ⟨rfl, hb_11⟩
        replace xl2 := xl2.bl hb_11; replace xw := xw.bl hb_11; replace hs := hs.bl hb_11
        rw [HN2.out]
        refine hK _ _ rfl ⟨hb_11, (And.intro xw (And.intro xl2 trivial))⟩ ?_
        clear hK K
        refine f0 ?_
        refine e0 hs ?_; clear hs; intro w_12 hs n12
        replace xl2 := xl2.bl n12; replace xw := xw.bl n12
        apply wpTail_end
        refine hK23 _ _ ?_
        refine cf ?_
        refine wp_skip ?_
        refine hK16 _ _ ?_
        refine rg [0, 1, 2] ?_
        refine sq ?_
        refine .mv ?_
        refine sq ?_
        refine .r0 ?_
        refine sq ?_
        refine .mv ?_
        apply wpSq_end
        have k0_4 := (k0_2.b hb_11).b n12
        replace dF := dF.k k0_4
        replace dW := dW.k k0_4
        refine HO _ _ ?_
        go_roundg (gg - 1)
        case rel => exact ⟨i + 1, b, by rfl, by rfl, by omega, by omega, HI2, dF, dW, hs⟩
        case measure => omega
      · have tb : ((b : Int) < (W.length : Int)) = False := by simp; omega
        obtain ⟨gw, curw, rfl, xw, hcw⟩ := (hs.1.1.1).box (by omega)
        clear hcw
        refine wp_seq_k ?_
        intro K21 hK21
        refine wp_seq_k ?_
        intro K22 hK22
        refine rg [0, 1, 2, 3, 4, 5, 6] ?_
        refine sq ?_
        refine .mv ?_
        refine sq ?_
        refine .mv ?_
        refine sq ?_
        refine .mv ?_
        refine sq ?_
        refine .r0 ?_
        refine sq ?_
        refine .r0 ?_
        refine sq ?_
        refine .r1 (xl2.cell _ e5.out) ?_
        refine sq ?_
        refine .r0 ?_
        apply wpSq_end
        refine hK22 _ _ ?_
        refine cf ?_
        refine wp_exit ?_
        refine hK19 _ _ ?_
        refine wp_seq_k ?_
        intro K23 hK23
        refine wp_region_f4 [(0, false), (1, false), (2, false), (3, false), (4, false), (5, false), (6, false), (7, false), (8, false), (9, false), (10, false), (11, false), (12, false), (13, false), (14, true), (15, false)] [] [] (fun _ => default) [99, 99, 99, 99, 99, 99, 99, 99, 0, 99, 99, 99, 99, 1, 99, 99] [] (.c xw (.c xl2 .n)) fn fun w_9 n9 => ?_
        replace xl2 := xl2.bl n9; replace xw := xw.bl n9; replace hs := hs.bl n9
        refine fmv ?_
        refine fmv ?_
        refine fb ?_
        refine f0 ?_
        refine fmv ?_
        refine fk ?_
        refine fk ?_
        refine fk ?_
        refine fk ?_
        refine fk ?_
        refine fk ?_
        refine fk ?_
        refine fk ?_
        refine fk ?_
        refine fkc ?_
        refine f0 ?_
        refine e0 hs ?_; clear hs; intro w_10 hs n10
        replace xl2 := xl2.bl n10; replace xw := xw.bl n10
        apply wpTail_end
        refine hK23 _ _ ?_
        refine cf ?_
        refine wp_skip ?_
        refine hK16 _ _ ?_
        refine rg [0, 1, 2] ?_
        refine sq ?_
        refine .mv ?_
        refine sq ?_
        refine .r0 ?_
        refine sq ?_
        refine .mv ?_
        apply wpSq_end
        have k0_2 := (kb n9).b n10
        replace dF := dF.k k0_2
        replace dW := dW.k k0_2
        refine HO _ _ ?_
        go_roundg (gg - 1)
        case rel => exact ⟨i + 1, b, by rfl, by rfl, by omega, by omega, HI2, dF, dW, hs⟩
        case measure => omega
  · have haE : a = W.length := by rw [HI.out, ← HW.out, List.take_of_length_le (by omega)]
    have tE : ((a : Int) == (W.length : Int)) = true := by rw [beq_iff_eq]; omega
    refine wp_seq_k ?_
    intro K14 hK14
    refine wp_seq_k ?_
    intro K15 hK15
    refine rg [0, 1, 2, 3] ?_
    refine sq ?_
    refine .mv ?_
    refine sq ?_
    refine .mv ?_
    refine sq ?_
    refine .r0 ?_
    refine sq ?_
    refine .r0 ?_
    apply wpSq_end
    refine hK15 _ _ ?_
    refine cf ?_
    refine wp_exit ?_
    refine hK12 _ _ ?_
    refine wp_seq_k ?_
    intro K16 hK16
    refine rg [0, 1, 2, 3, 4, 5, 6, 7, 8, 9, 10, 11, 12, 13] ?_
    refine sq ?_
    refine .mv ?_
    refine sq ?_
    refine .r0 ?_
    refine sq ?_
    refine .mv ?_
    refine sq ?_
    refine .mv ?_
    refine sq ?_
    refine .mv ?_
    refine sq ?_
    refine .r0 ?_
    refine sq ?_
    refine .r0 ?_
    refine sq ?_
    refine .mv ?_
    refine sq ?_
    refine .mv ?_
    refine sq ?_
    refine .mv ?_
    refine sq ?_
    refine .r0 ?_
    refine sq ?_
    refine .r0 ?_
    refine sq ?_
    refine .r0 ?_
    refine sq ?_
    refine .mv ?_
    apply wpSq_end
    refine hK16 _ _ ?_
    refine wp_ret ?_
    try dsimp only [Exit.then, Exit.inBlock]
    refine bodyPost_ret (v := (.bool true)) (by simp [results, Tryz.results3, go_sem]) rfl ?_
    exact ⟨rfl, hs.b⟩
theorem walk_GprimeFactors (w : World) (n1 : Bool) (s1 : Value) (xs : List Nat) (h1 : Rd w s1 xs) (l1 : xs.length ≤ 1048576) (n2 : Bool) (s2 : Value) (ys : List Nat) (h2 : Rd w s2 ys) (l2 : ys.length ≤ 1048576) :
    Calls Tryz.prog 3 #[.agg #[.bool n1, s1, .bool n2, s2]] w fun e w' => e = .returned (.bool true) ∧ Below w.heap.size w w' := by
  have ha := PN.of_rd n1 n2 h1 l1 h2 l2
  by_cases h0 : gN (zv n1 xs) (zv n2 ys) = 0
  · exact gfacs_zero ha (by omega) (by omega) h0
  by_cases hN : gN (zv n1 xs) (zv n2 ys) < 4294967296
  · exact gfacs_some ha (by omega) (by omega) h0 hN
  · exact gfacs_big ha (by omega) (by omega) (by omega)
end
end Go.Proofs.YthlhekkcjficdaaGreat

