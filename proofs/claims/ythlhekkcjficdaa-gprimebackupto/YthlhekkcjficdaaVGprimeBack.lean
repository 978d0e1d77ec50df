/- GprimeBack: the law's walk. -/
import Derived.Test.YthlhekkcjficdaaK10ToWo
import Derived.Test.YthlhekkcjficdaaZaToJ6
namespace Go.Proofs.Ythlhekkcjficdaa
open Go Go.RowKit Dig
set_option linter.unusedVariables false
section
variable {w : World} {va : Value} {x y : Int} {l m : Nat}
set_option maxHeartbeats 4000000 in
set_option maxRecDepth 20000 in
theorem gback_big (ha : PN w va x l y m) (hl : l ≤ 20000000) (hm : m ≤ 20000000) (hn : 4294967296 ≤ gN x y) :
    Calls Try.prog 4 #[va] w fun e w' => e = .returned (.bool true) ∧ Below w.heap.size w w' := by
  have HN := hide hn
  clear hn
  obtain ⟨n_0a, o_0a, k_0a, c_0a, n_0b, o_0b, k_0b, c_0b, rfl, ha1, ha2⟩ := ha
  go_enter Try.func4, Try.ntmps4
  have hs := St.nil w
  refine wp_seq_k ?_
  intro K1 hK1
  refine rg [0, 1] ?_
  refine sq ?_
  refine .al hs ?_; clear hs; intro p_b1 w_1 hs n1 kb_b1
  refine sq ?_
  refine .mv ?_
  apply wpSq_end
  refine hK1 _ _ ?_
  refine wp_seq_k ?_
  intro K2 hK2
  refine wp_seq_k ?_
  intro K3 hK3
  refine rg [0, 1] ?_
  refine sq ?_
  intro K hK
  go_big_op
  go_fit (awake6_any _)
  rintro e w_2 ⟨rfl, hb_2⟩
  replace hs := hs.bl hb_2
  refine hK _ _ rfl trivial ?_
  clear hK K
  refine sq ?_
  refine .r0 ?_
  apply wpSq_end
  refine hK3 _ _ ?_
  refine cf ?_
  refine wp_skip ?_
  refine hK2 _ _ ?_
  refine wp_seq_k ?_
  intro K4 hK4
  refine rg [0, 1, 2, 3, 4, 5, 6, 7, 8] ?_
  refine sq ?_
  refine .r4 hs.g0.f4 ?_
  refine sq ?_
  intro K hK
  have k0_2 := (kb n1).b hb_2
  replace ha1 := ha1.k k0_2
  replace ha2 := ha2.k k0_2
  go_big_op
  go_fit (gfactor_big (.mk' ha1 ha2) hl hm HN.out)
  rintro e w_3 ⟨rfl, hb_3⟩
  replace hs := hs.bl hb_3
  refine hK _ _ rfl trivial ?_
  clear hK K
  refine sq ?_
  refine .mv ?_
  refine sq ?_
  refine .r0 ?_
  refine sq ?_
  refine .r0 ?_
  refine sq ?_
  refine .r0 ?_
  refine sq ?_
  refine .mv ?_
  refine sq ?_
  refine .mv ?_
  refine sq ?_
  refine .mv ?_
  apply wpSq_end
  refine hK4 _ _ ?_
  refine wp_seq_k ?_
  intro K5 hK5
  refine wp_seq_k ?_
  intro K6 hK6
  refine rg [0, 1] ?_
  refine sq ?_
  refine .mv ?_
  refine sq ?_
  refine .r0 ?_
  apply wpSq_end
  refine hK6 _ _ ?_
  refine ct ?_
  refine wp_seq_k ?_
  intro K7 hK7
  refine rg [0, 1, 2, 3, 4, 5, 6, 7] ?_
  refine sq ?_
  refine .mv ?_
  refine sq ?_
  refine .r0 ?_
  refine sq ?_
  refine .mv ?_
  refine sq ?_
  refine .mv ?_
  refine sq ?_
  refine .r0 ?_
  refine sq ?_
  refine .r0 ?_
  refine sq ?_
  refine .r0 ?_
  refine sq ?_
  refine .mv ?_
  apply wpSq_end
  refine hK7 _ _ ?_
  refine wp_ret ?_
  try dsimp only [Exit.then, Exit.inBlock]
  refine bodyPost_ret (v := (.bool true)) (by simp [results, Try.results4, go_sem]) rfl ?_
  exact ⟨rfl, hs.b⟩
set_option maxHeartbeats 4000000 in
set_option maxRecDepth 20000 in
theorem gback_zero (ha : PN w va x l y m) (hl : l ≤ 20000000) (hm : m ≤ 20000000) (hn : gN x y = 0) :
    Calls Try.prog 4 #[va] w fun e w' => e = .returned (.bool true) ∧ Below w.heap.size w w' := by
  have HN := hide hn
  clear hn
  obtain ⟨n_0a, o_0a, k_0a, c_0a, n_0b, o_0b, k_0b, c_0b, rfl, ha1, ha2⟩ := ha
  go_enter Try.func4, Try.ntmps4
  have hs := St.nil w
  refine wp_seq_k ?_
  intro K1 hK1
  refine rg [0, 1] ?_
  refine sq ?_
  refine .al hs ?_; clear hs; intro p_b1 w_1 hs n1 kb_b1
  refine sq ?_
  refine .mv ?_
  apply wpSq_end
  refine hK1 _ _ ?_
  refine wp_seq_k ?_
  intro K2 hK2
  refine wp_seq_k ?_
  intro K3 hK3
  refine rg [0, 1] ?_
  refine sq ?_
  intro K hK
  go_big_op
  go_fit (awake6_any _)
  rintro e w_2 ⟨rfl, hb_2⟩
  replace hs := hs.bl hb_2
  refine hK _ _ rfl trivial ?_
  clear hK K
  refine sq ?_
  refine .r0 ?_
  apply wpSq_end
  refine hK3 _ _ ?_
  refine cf ?_
  refine wp_skip ?_
  refine hK2 _ _ ?_
  refine wp_seq_k ?_
  intro K4 hK4
  refine rg [0, 1, 2, 3, 4, 5, 6, 7, 8] ?_
  refine sq ?_
  refine .r4 hs.g0.f4 ?_
  refine sq ?_
  intro K hK
  have k0_2 := (kb n1).b hb_2
  replace ha1 := ha1.k k0_2
  replace ha2 := ha2.k k0_2
  go_big_op
  go_fit (gfactor_zero (.mk' ha1 ha2) hl hm HN.out)
  rintro e w_3 ⟨rfl, hb_3⟩
  replace hs := hs.bl hb_3
  refine hK _ _ rfl trivial ?_
  clear hK K
  refine sq ?_
  refine .mv ?_
  refine sq ?_
  refine .r0 ?_
  refine sq ?_
  refine .r0 ?_
  refine sq ?_
  refine .r0 ?_
  refine sq ?_
  refine .mv ?_
  refine sq ?_
  refine .mv ?_
  refine sq ?_
  refine .mv ?_
  apply wpSq_end
  refine hK4 _ _ ?_
  refine wp_seq_k ?_
  intro K5 hK5
  refine wp_seq_k ?_
  intro K6 hK6
  refine rg [0, 1] ?_
  refine sq ?_
  refine .mv ?_
  refine sq ?_
  refine .r0 ?_
  apply wpSq_end
  refine hK6 _ _ ?_
  refine ct ?_
  refine wp_seq_k ?_
  intro K7 hK7
  refine rg [0, 1, 2, 3, 4, 5, 6, 7] ?_
  refine sq ?_
  refine .mv ?_
  refine sq ?_
  refine .r0 ?_
  refine sq ?_
  refine .mv ?_
  refine sq ?_
  refine .mv ?_
  refine sq ?_
  refine .r0 ?_
  refine sq ?_
  refine .r0 ?_
  refine sq ?_
  refine .r0 ?_
  refine sq ?_
  refine .mv ?_
  apply wpSq_end
  refine hK7 _ _ ?_
  refine wp_ret ?_
  try dsimp only [Exit.then, Exit.inBlock]
  refine bodyPost_ret (v := (.bool true)) (by simp [results, Try.results4, go_sem]) rfl ?_
  exact ⟨rfl, hs.b⟩
theorem canon_self (ha : PN w va x l y m) (hl : l ≤ 40000000) (hm : m ≤ 40000000) (h : kq x y = 0) :
    Calls Try.prog 17 #[va] w fun e w' => ∃ r, e = .returned (.tuple #[r, .int .i64 0]) ∧ PC w' r x y ∧ Below w.heap.size w w' := by
  have := gCanon_any ha hl hm
  rw [h] at this
  exact this
theorem prime_yes (ha : PN w va x l y m) (hl : l ≤ 20000000) (hm : m ≤ 20000000) (hn : gN x y < 4294967296) (hp : primeB (gN x y).toNat = true) :
    Calls Try.prog 6 #[va] w fun e w' => e = .returned (.tuple #[.bool true, .int .i64 0]) ∧ Below w.heap.size w w' := by
  have h0 := gN_nonneg x y
  have := gprime_any (gN x y).toNat ha hl hm (by omega) (by omega)
  rw [hp] at this
  exact this
set_option maxHeartbeats 8000000 in
set_option maxRecDepth 20000 in
theorem gback_some {lg : Nat} (ha : PN w va x lg y lg) (hlg : 1 ≤ lg) (hlm : lg ≤ 10000000) (h0 : gN x y ≠ 0) (hN : gN x y < 4294967296) :
    Calls Try.prog 4 #[va] w fun e w' => e = .returned (.bool true) ∧ Below w.heap.size w w' := by
  obtain ⟨ps, K0, hfa, HF⟩ := fa_ex h0 hN
  have HF := hide HF
  have H0 := hide (And.intro h0 hN)
  obtain ⟨⟨hk0, hk4⟩, _, _, hlen, _⟩ := id hfa
  have HA := hide hfa
  have HK := hide (show (turn (K0 % 4).toNat (1, 0)) = bkP K0 ps 0 0 from by rw [bkP_start, Int.emod_eq_of_lt hk0 hk4])
  obtain ⟨X0, Y0, hXY⟩ : ∃ X0 Y0, bkP K0 ps 0 0 = (X0, Y0) := ⟨_, _, rfl⟩
  rw [hXY] at HK
  have HX := hide hXY
  have HL0 := hide (len_of_norm (x := X0) (y := Y0) (by
    have e := gP_norm (X0, Y0) (gPs ps)
    rw [show gP (X0, Y0) (gPs ps) = (x, y) from by rw [← hXY, bkP_start]; exact hfa.2.1] at e
    rcases Nat.eq_zero_or_pos ps.length with hz | hz
    · rw [List.length_eq_zero_iff.1 hz, show gPs [] = (1, 0) from rfl, show gN (1, 0).1 (1, 0).2 = 1 from rfl, Int.mul_one] at e
      exact e ▸ hN
    · have := bkP_lt hfa h0 hz (Nat.zero_le _)
      rw [hXY] at this
      exact Int.lt_of_le_of_lt this hN))
  have k01 : (K0 < 4) = True := by simp; omega
  have k02 : (0 ≤ K0) = True := by simp; omega
  clear hfa h0 hN hXY
  obtain ⟨n_0a, o_0a, k_0a, c_0a, n_0b, o_0b, k_0b, c_0b, rfl, ha1, ha2⟩ := ha
  go_enter Try.func4, Try.ntmps4
  have hs := St.nil w
  refine wp_seq_k ?_
  intro K1 hK1
  refine rg [0, 1] ?_
  refine sq ?_
  refine .al hs ?_; clear hs; intro p_b1 w_1 hs n1 kb_b1
  refine sq ?_
  refine .mv ?_
  apply wpSq_end
  refine hK1 _ _ ?_
  refine wp_seq_k ?_
  intro K2 hK2
  refine wp_seq_k ?_
  intro K3 hK3
  refine rg [0, 1] ?_
  refine sq ?_
  intro K hK
  go_big_op
  go_fit (awake6_any _)
  rintro e w_2 ⟨rfl, hb_2⟩
  replace hs := hs.bl hb_2
  refine hK _ _ rfl trivial ?_
  clear hK K
  refine sq ?_
  refine .r0 ?_
  apply wpSq_end
  refine hK3 _ _ ?_
  refine cf ?_
  refine wp_skip ?_
  refine hK2 _ _ ?_
  refine wp_seq_k ?_
  intro K4 hK4
  refine rg [0, 1, 2, 3, 4, 5, 6, 7, 8] ?_
  refine sq ?_
  refine .r4 hs.g0.f4 ?_
  refine sq ?_
  intro K hK
  have k0_2 := (kb n1).b hb_2
  replace ha1 := ha1.k k0_2
  replace ha2 := ha2.k k0_2
  go_big_op
  go_fit (HF.out _ _ _ (.mk' ha1 ha2) hlg hlm)
  rintro e w_3 ⟨o_F, c_F, xs_F, rfl, L_F, d_F, hb_3⟩
  replace hs := hs.la hb_3 L_F
  refine hK _ _ rfl trivial ?_
  clear hK K
  refine sq ?_
  refine .mv ?_
  refine sq ?_
  refine .r0 ?_
  refine sq ?_
  refine .r0 ?_
  refine sq ?_
  refine .r0 ?_
  refine sq ?_
  refine .mv ?_
  refine sq ?_
  refine .mv ?_
  refine sq ?_
  refine .mv ?_
  apply wpSq_end
  refine hK4 _ _ ?_
  refine wp_seq_k ?_
  intro K5 hK5
  refine wp_seq_k ?_
  intro K6 hK6
  refine rg [0, 1] ?_
  refine sq ?_
  refine .mv ?_
  refine sq ?_
  refine .r0 ?_
  apply wpSq_end
  refine hK6 _ _ ?_
  refine cf ?_
  refine wp_skip ?_
  refine hK5 _ _ ?_
  refine wp_seq_k ?_
  intro K7 hK7
  refine rg [0, 1, 2, 3, 4] ?_
  refine sq ?_
  intro K hK
  go_big_op
  go_fit (gFrom_any 1 0 _ (by decide) (by decide) (by decide) (by decide))
  rintro e w_4 ⟨_, rfl, ⟨n_fra, o_fra, k_fra, c_fra, n_frb, o_frb, k_frb, c_frb, rfl, fr1, fr2⟩, hb_4⟩
  replace hs := hs.bl hb_4
  have Lfr1 := hide (fr1.lenOf (zlen_small6 (z := 1) (by decide)))
  have Lfr2 := hide (fr2.lenOf (zlen_small6 (z := 0) (by decide)))
  refine hK _ _ rfl trivial ?_
  clear hK K
  refine sq ?_
  refine .mv ?_
  refine sq ?_
  intro K hK
  go_big_op
  go_fit (gTurn_any K0 (.mk' (fr1.zn Lfr1.out) (fr2.zn Lfr2.out)) (by omega) (by omega))
  rintro e w_5 ⟨_, rfl, ⟨n_pa, o_pa, k_pa, c_pa, n_pb, o_pb, k_pb, c_pb, rfl, p1, p2⟩, hb_5⟩
  replace hs := hs.bl hb_5
  rw [HK.out] at p1 p2
  refine hK _ _ rfl trivial ?_
  clear hK K
  refine sq ?_
  refine .al hs ?_; clear hs; intro p_b2 w_6 hs n6 kb_b2
  refine sq ?_
  refine .s4 hs.g0 (fun _ => hs.u0 kb_b2) ?_; clear hs; intro w_7 hs hd7 ho7
  apply wpSq_end
  refine hK7 _ _ ?_
  refine wp_seq_k ?_
  intro K8 hK8
  refine wp_seq_k ?_
  intro K9 hK9
  refine rg [0] ?_
  refine sq ?_
  refine .mv ?_
  apply wpSq_end
  refine hK9 _ _ ?_
  refine wp_block ?_
  have k5_7 := (kb n6).o hd7 ho7
  replace p1 := p1.k k5_7
  replace p2 := p2.k k5_7
  have k3_7 := (((kb hb_4).b hb_5).b n6).o hd7 ho7
  replace d_F := d_F.k k3_7
  have k2_7 := ((((kb hb_3).b hb_4).b hb_5).b n6).o hd7 ho7
  replace ha1 := ha1.k k2_7
  replace ha2 := ha2.k k2_7
  have hd8 := hs.2.1
  go_loopg [7] ps.length (fun k s7 wr => ∃ (i : Nat) (X Y : Int) (an1 an2 : Bool) (ao1 ao2 : Option Addr) (ak1 ac1 ak2 ac2 : Nat), s7 = .int .i64 (i : Int) ∧ i + k = ps.length ∧ Hid (bkP K0 ps i 0 = (X, Y)) ∧ Hid ((dig X.natAbs).length ≤ 1 ∧ (dig Y.natAbs).length ≤ 1) ∧ ZC wr (.agg #[.bool an1, .slice ao1 ak1 ac1]) X ∧ ZC wr (.agg #[.bool an2, .slice ao2 ak2 ac2]) Y ∧ FacL wr xs_F ps ∧ ZN wr (.agg #[.bool n_0a, .slice o_0a k_0a c_0a]) x lg ∧ ZN wr (.agg #[.bool n_0b, .slice o_0b k_0b c_0b]) y lg ∧
    St w [bx p_b2 #[.bool an1, .slice ao1 ak1 ac1, .bool an2, .slice ao2 ak2 ac2] 29, ls w.heap.size 37 5 (.slice o_F ps.length c_F) ps.length xs_F, bx p_b1 #[.bool n_0a, .slice o_0a k_0a c_0a, .bool n_0b, .slice o_0b k_0b c_0b] 29] wr)
  case atStart => exact ⟨0, X0, Y0, _, _, _, _, _, _, _, _, rfl, by omega, HX, HL0, p1, p2, d_F, ha1, ha2, hs⟩
  case round =>
  clear ha1 ha2 d_F p1 p2 fr1 fr2 hs
  obtain ⟨i, X, Y, an1, an2, ao1, ao2, ak1, ac1, ak2, ac2, rfl, hik, HI, HL, a1, a2, dF, ha1, ha2, hs⟩ := hrel
  by_cases hi : i < ps.length
  · obtain ⟨q, hq⟩ : ∃ q, ps[i] = q := ⟨_, rfl⟩
    have HQ := hide (show kq q.1 q.2.1 = 0 ∧ primeB (gN q.1 q.2.1).toNat = true ∧ 2 ≤ gN q.1 q.2.1 ∧ gN q.1 q.2.1 ≤ gN x y ∧ 1 ≤ q.2.2 ∧ q.2.2 ≤ 31 from hq ▸ (HA.out.2.2.2.2 _ (List.getElem_mem hi)).1)
    have HqN := hide (Int.lt_of_le_of_lt HQ.out.2.2.2.1 H0.out.2)
    have HZ := hide (len_of_norm HqN.out)
    obtain ⟨nq, hnq⟩ : ∃ nq : Nat, q.2.2 = (nq : Int) := ⟨q.2.2.toNat, by have := HQ.out.2.2.2.2.1; omega⟩
    have hn1 : 1 ≤ nq := by have := HQ.out.2.2.2.2.1; omega
    have hn2 : nq ≤ 31 := by have := HQ.out.2.2.2.2.2; omega
    have tn1 : ((nq : Int) < 1) = False := by simp; omega
    have tn2 : (32 < (nq : Int)) = False := by simp; omega
    have HN := hide (show ps[i].2.2.toNat = nq from by rw [hq, hnq]; rfl)
    have HS := hide (fun n => bkP_step (k := K0) (n := n) hi)
    rw [hq] at HS
    have HE := hide (bkP_next (k := K0) hi)
    rw [HN.out] at HE
    have HB := hide (fun n (h : n ≤ nq) => bkP_lt HA.out H0.out.1 hi (n := n) (by rw [HN.out]; exact h))
    obtain ⟨n1, o1, k1, q1, n2, o2, k2, q2, e1, e2, e3, e4, e5, z1, z2⟩ := dF.at hi
    rw [hq] at z1 z2 e5
    rw [hnq] at e5
    obtain ⟨gl, curl, rfl, xl, hcur⟩ := (hs.1.2.1.1).box (by omega)
    replace e1 := hide (hcur _ _ e1)
    replace e2 := hide (hcur _ _ e2)
    replace e3 := hide (hcur _ _ e3)
    replace e4 := hide (hcur _ _ e4)
    replace e5 := hide (hcur _ _ e5)
    replace hcur := hide hcur
    refine wp_seq_k ?_
    intro K10 hK10
    refine wp_seq_k ?_
    intro K11 hK11
    refine rg [0, 1, 2, 3] ?_
    refine sq ?_
    refine .mv ?_
    refine sq ?_
    refine .mv ?_
    refine sq ?_
    refine .r0 ?_
    refine sq ?_
    refine .r0 ?_
    apply wpSq_end
    refine hK11 _ _ ?_
    refine ct ?_
    refine wp_skip ?_
    refine hK10 _ _ ?_
    refine wp_seq_k ?_
    intro K12 hK12
    refine wp_block ?_
    refine wp_seq_k ?_
    intro K13 hK13
    refine rg [0, 1, 2, 3, 4, 5, 6, 7, 8, 9, 10] ?_
    refine sq ?_
    refine .mv ?_
    refine sq ?_
    refine .mv ?_
    refine sq ?_
    refine .r0 ?_
    refine sq ?_
    refine .r0 ?_
    refine sq ?_
    refine .r4 ⟨xl.cell _ e1.out, xl.cell _ e2.out, xl.cell _ e3.out, xl.cell _ e4.out⟩ ?_
    refine sq ?_
    intro K hK
    go_big_op
    go_fit (prime_yes (.mk' (z1.zn HZ.out.1) (z2.zn HZ.out.2)) (by omega) (by omega) HqN.out HQ.out.2.1)
    rintro e w_9 ⟨rfl, hb_9⟩
    replace xl := xl.bl hb_9; replace hs := hs.bl hb_9
    refine hK _ _ rfl trivial ?_
    clear hK K
    refine sq ?_
    refine .mv ?_
    refine sq ?_
    refine .r0 ?_
    refine sq ?_
    refine .r0 ?_
    refine sq ?_
    refine .mv ?_
    refine sq ?_
    refine .mv ?_
    apply wpSq_end
    refine hK13 _ _ ?_
    refine wp_seq_k ?_
    intro K14 hK14
    refine rg [0, 1, 2, 3, 4, 5, 6, 7, 8, 9, 10, 11] ?_
    refine sq ?_
    refine .mv ?_
    refine sq ?_
    refine .mv ?_
    refine sq ?_
    refine .r0 ?_
    refine sq ?_
    refine .r0 ?_
    refine sq ?_
    refine .r4 ⟨xl.cell _ e1.out, xl.cell _ e2.out, xl.cell _ e3.out, xl.cell _ e4.out⟩ ?_
    refine sq ?_
    intro K hK
    have k0_1 := kb hb_9
    replace z1 := z1.k k0_1
    replace z2 := z2.k k0_1
    go_big_op
    go_fit (canon_self (.mk' (z1.zn HZ.out.1) (z2.zn HZ.out.2)) (by omega) (by omega) HQ.out.1)
    rintro e w_10 ⟨_, rfl, ⟨n_ca, o_ca, k_ca, c_ca, n_cb, o_cb, k_cb, c_cb, rfl, c1, c2⟩, hb_10⟩
    replace xl := xl.bl hb_10; replace hs := hs.bl hb_10
    have Lc1 := hide (c1.lenOf (HZ.out.1))
    have Lc2 := hide (c2.lenOf (HZ.out.2))
    refine hK _ _ rfl trivial ?_
    clear hK K
    refine sq ?_
    refine .mv ?_
    refine sq ?_
    refine .r0 ?_
    refine sq ?_
    refine .r0 ?_
    refine sq ?_
    refine .al hs ?_; clear hs; intro p_b3 w_11 hs n11 kb_b3
    replace xl := xl.bl n11
    refine sq ?_
    refine .s4 hs.g0 (fun _ => hs.u0 kb_b3) ?_; clear hs; intro w_12 hs hd12 ho12
    replace xl := xl.frame ho12 (hs.ne 2 0)
    refine sq ?_
    refine .mv ?_
    apply wpSq_end
    refine hK14 _ _ ?_
    refine wp_seq_k ?_
    intro K15 hK15
    refine wp_seq_k ?_
    intro K16 hK16
    refine wp_region_f4 [(0, false), (1, false), (2, false), (3, false), (4, false), (5, false), (6, false), (7, false), (8, false), (9, false), (10, false), (11, false), (12, false), (13, false), (14, false), (15, false), (16, false), (17, true), (18, false), (19, false), (20, false), (21, false), (22, false), (23, false), (24, false), (25, false), (26, false), (27, false), (28, false), (29, false), (30, false), (31, false), (32, false), (33, false), (34, false), (35, false)] [] [] (fun _ => default) [99, 99, 99, 99, 99, 99, 99, 99, 99, 99, 99, 0, 99, 99, 99, 99, 1, 99, 99, 99, 99, 99, 99, 99, 99, 1, 99, 99, 99, 99, 99, 99, 99, 1, 99, 99] [] (.c hs.g0 (.c xl .n)) fn fun w_13 n13 => ?_
    replace xl := xl.bl n13; replace hs := hs.bl n13
    refine fmv ?_
    refine f0 ?_
    refine fmv ?_
    refine fmv ?_
    refine f0 ?_
    refine f0 ?_
    refine fmv ?_
    refine fmv ?_
    refine f0 ?_
    refine f0 ?_
    refine fmv ?_
    refine f4 ?_
    refine fmv ?_
    refine fmv ?_
    refine f0 ?_
    refine f0 ?_
    apply wpFl_ld rfl rfl; (case h1 => intro w' hC K hK; have c0 := Bs.cell hC ((i * 5)) e1.out; have c1 := Bs.cell hC ((i * 5) + 1) e2.out; have c2 := Bs.cell hC ((i * 5) + 2) e3.out; have c3 := Bs.cell hC ((i * 5) + 3) e4.out; go_big_op; exact hK); iterate 4 kernel_rfl
    refine fl fun w_14 n14 => ?_
    replace xl := xl.bl n14; replace hs := hs.bl n14
    intro K hK
    have k2_6 := (((kb n11).o hd12 ho12).b n13).b n14
    replace c1 := c1.k k2_6
    replace c2 := c2.k k2_6
    have k1_6 := ((((kb hb_10).b n11).o hd12 ho12).b n13).b n14
    replace z1 := z1.k k1_6
    replace z2 := z2.k k1_6
    go_big_op
    go_fit (gEqual_yes (.mk' (c1.zn HZ.out.1) (c2.zn HZ.out.2)) (.mk' (z1.zn HZ.out.1) (z2.zn HZ.out.2)) (by omega) (by omega) (by omega) (by omega) rfl rfl)
    rintro e w_15 ⟨rfl, hb_15⟩
    replace xl := xl.bl hb_15; replace hs := hs.bl hb_15
    refine hK _ _ rfl ⟨hb_15, (And.intro hs.g0 (And.intro xl trivial))⟩ ?_
    clear hK K
    refine f0 ?_
    refine f0 ?_
    refine fmv ?_
    refine fmv ?_
    refine fmv ?_
    refine f0 ?_
    refine f0 ?_
    apply wpFl_ld rfl rfl; (case h1 => intro w' hC K hK; have c4 := Bs.cell hC ((i * 5) + 4) e5.out; go_big_op; exact hK); iterate 4 kernel_rfl
    refine f0 ?_
    refine f0 ?_
    refine fmv ?_
    refine fmv ?_
    refine fmv ?_
    refine f0 ?_
    refine f0 ?_
    apply wpFl_ld rfl rfl; (case h1 => intro w' hC K hK; have c4 := Bs.cell hC ((i * 5) + 4) e5.out; go_big_op; exact hK); iterate 4 kernel_rfl
    refine f0 ?_
    refine f0 ?_
    refine e0 hs ?_; clear hs; intro w_16 hs n16
    replace xl := xl.bl n16
    apply wpTail_end
    refine hK16 _ _ ?_
    have HO := ‹∀ (a' : Act) (w' : World), Handed _ _ a' w' → _›
    obtain ⟨gg, hgg⟩ : ∃ g, gk = g := ⟨_, rfl⟩
    by_cases hz : i = 0
    · have tz : (0 < (i : Int)) = False := by simp; omega
      have tz2 : (0 < i) = False := by simp; omega
      clear hz
      refine cf ?_
      refine wp_skip ?_
      refine hK15 _ _ ?_
      refine wp_seq_k ?_
      intro K17 hK17
      refine wp_seq_k ?_
      intro K18 hK18
      refine wp_region_f4 [(0, false), (1, false), (2, false), (3, false), (4, false), (5, false), (6, false), (7, false), (8, false), (9, false), (10, false), (11, false), (12, false), (13, false), (14, true), (15, false), (16, false)] [] [] (fun _ => default) [99, 99, 99, 99, 99, 99, 99, 99, 0, 99, 99, 99, 99, 0, 99, 99, 99] [] (.c xl .n) fn fun w_17 n17 => ?_
      replace xl := xl.bl n17; replace hs := hs.bl n17
      refine fmv ?_
      refine f0 ?_
      refine fmv ?_
      refine fk ?_
      refine fk ?_
      refine fk ?_
      refine fk ?_
      refine fk ?_
      refine fk ?_
      refine fk ?_
      refine fk ?_
      refine fk ?_
      refine fk ?_
      refine fk ?_
      refine fkc ?_
      refine fk ?_
      refine f0 ?_
      refine e0 hs ?_; clear hs; intro w_18 hs n18
      replace xl := xl.bl n18
      apply wpTail_end
      refine hK18 _ _ ?_
      refine cf ?_
      refine wp_skip ?_
      refine hK17 _ _ ?_
      refine wp_seq_k ?_
      intro K19 hK19
      refine rg [0] ?_
      refine sq ?_
      refine .mv ?_
      apply wpSq_end
      refine hK19 _ _ ?_
      refine wp_block ?_
      have k0_10 := ((((((((k0_1.b hb_10).b n11).o hd12 ho12).b n13).b n14).b hb_15).b n16).b n17).b n18
      replace a1 := a1.k k0_10
      replace a2 := a2.k k0_10
      replace dF := dF.k k0_10
      replace ha1 := ha1.k k0_10
      replace ha2 := ha2.k k0_10
      have hd19 := hs.2.1
      go_loopg [12] nq (fun k s12 wr => ∃ (n : Nat) (X Y : Int) (an1 an2 : Bool) (ao1 ao2 : Option Addr) (ak1 ac1 ak2 ac2 : Nat), s12 = .int .i64 (n : Int) ∧ n + k = nq ∧ Hid (bkP K0 ps i n = (X, Y)) ∧ Hid ((dig X.natAbs).length ≤ 1 ∧ (dig Y.natAbs).length ≤ 1) ∧ ZC wr (.agg #[.bool an1, .slice ao1 ak1 ac1]) X ∧ ZC wr (.agg #[.bool an2, .slice ao2 ak2 ac2]) Y ∧ FacL wr xs_F ps ∧ ZN wr (.agg #[.bool n_0a, .slice o_0a k_0a c_0a]) x lg ∧ ZN wr (.agg #[.bool n_0b, .slice o_0b k_0b c_0b]) y lg ∧
        St w [bx p_b2 #[.bool an1, .slice ao1 ak1 ac1, .bool an2, .slice ao2 ak2 ac2] 29, ls w.heap.size 37 5 (.slice (some ⟨gl, 0, none⟩) ps.length c_F) ps.length xs_F, bx p_b1 #[.bool n_0a, .slice o_0a k_0a c_0a, .bool n_0b, .slice o_0b k_0b c_0b] 29] wr)
      case atStart => exact ⟨0, X, Y, _, _, _, _, _, _, _, _, rfl, by omega, HI, HL, a1, a2, dF, ha1, ha2, hs.sub (.cons _ (List.Sublist.refl _))⟩
      case round =>
      clear ha1 ha2 a1 a2 dF xl z1 z2 c1 c2 hs
      obtain ⟨n, X2, Y2, bn1, bn2, bo1, bo2, bk1, bc1, bk2, bc2, rfl, hnk, HJ, HM, b1, b2, dF, ha1, ha2, hs⟩ := hrel
      obtain ⟨n1, o1, k1, q1, n2, o2, k2, q2, e1, e2, e3, e4, e5, z1, z2⟩ := dF.at hi
      rw [hq] at z1 z2 e5
      rw [hnq] at e5
      obtain ⟨gl2, curl2, hg2, xl2, hcur⟩ := (hs.1.2.1.1).box (by omega)
      obtain rfl : gl = gl2 := by simpa using hg2
      clear hg2
      replace e1 := hide (hcur _ _ e1)
      replace e2 := hide (hcur _ _ e2)
      replace e3 := hide (hcur _ _ e3)
      replace e4 := hide (hcur _ _ e4)
      replace e5 := hide (hcur _ _ e5)
      clear hcur
      by_cases hn : n < nq
      · obtain ⟨X3, Y3, hXY3⟩ : ∃ X3 Y3, bkP K0 ps i (n + 1) = (X3, Y3) := ⟨_, _, rfl⟩
        have HG := hide (show X2 * q.1 - Y2 * q.2.1 = X3 ∧ X2 * q.2.1 + Y2 * q.1 = Y3 from by
          have h1 := HS.out n
          rw [HJ.out, hXY3] at h1
          injection h1 with h1 h2
          exact ⟨h1.symm, h2.symm⟩)
        have HM3 := hide (len_of_norm (x := X3) (y := Y3) (by have h1 := HB.out (n + 1) hn; rw [hXY3] at h1; exact Int.lt_of_le_of_lt h1 H0.out.2))
        replace hXY3 := hide hXY3
        refine wp_seq_k ?_
        intro K20 hK20
        refine wp_seq_k ?_
        intro K21 hK21
        refine rg [0, 1, 2, 3, 4, 5, 6] ?_
        refine sq ?_
        refine .mv ?_
        refine sq ?_
        refine .mv ?_
        refine sq ?_
        refine .mv ?_
        refine sq ?_
        refine .r0 ?_
        refine sq ?_
        refine .r0 ?_
        refine sq ?_
        refine .r1 (xl2.cell _ e5.out) ?_
        refine sq ?_
        refine .r0 ?_
        apply wpSq_end
        refine hK21 _ _ ?_
        refine ct ?_
        refine wp_skip ?_
        refine hK20 _ _ ?_
        refine wp_seq_k ?_
        intro K22 hK22
        refine wp_block ?_
        refine wp_region_f4 [(0, false), (1, false), (2, false), (3, false), (4, false), (5, false), (6, true)] [7] [] (fun _ => default) [0, 99, 99, 99, 99, 1, 99, 99] [(7, 0)] (.c hs.g0 (.c xl2 .n)) fn fun w_20 n20 => ?_
        replace xl2 := xl2.bl n20; replace hs := hs.bl n20
        refine f4 ?_
        refine fmv ?_
        refine fmv ?_
        refine f0 ?_
        refine f0 ?_
        apply wpFl_ld rfl rfl; (case h1 => intro w' hC K hK; have c0 := Bs.cell hC ((i * 5)) e1.out; have c1 := Bs.cell hC ((i * 5) + 1) e2.out; have c2 := Bs.cell hC ((i * 5) + 2) e3.out; have c3 := Bs.cell hC ((i * 5) + 3) e4.out; go_big_op; exact hK); iterate 4 kernel_rfl
        refine fl fun w_21 n21 => ?_
        replace xl2 := xl2.bl n21; replace hs := hs.bl n21
        intro K hK
        have k0_2 := (kb n20).b n21
        replace b1 := b1.k k0_2
        replace b2 := b2.k k0_2
        replace z1 := z1.k k0_2
        replace z2 := z2.k k0_2
        go_big_op
        go_fit (gMul_any (.mk' (b1.zn HM.out.1) (b2.zn HM.out.2)) (.mk' (z1.zn HZ.out.1) (z2.zn HZ.out.2)) (by omega) (by omega) (by omega) (by omega))
        rintro e w_22 ⟨_, rfl, ⟨n_ga, o_ga, k_ga, c_ga, n_gb, o_gb, k_gb, c_gb, rfl, g1, g2⟩, hb_22⟩
        replace xl2 := xl2.bl hb_22; replace hs := hs.bl hb_22
        rw [HG.out.1] at g1
        rw [HG.out.2] at g2
        refine hK _ _ rfl ⟨hb_22, (And.intro hs.g0 (And.intro xl2 trivial))⟩ ?_
        clear hK K
        refine e0 hs ?_; clear hs; intro w_23 hs n23
        replace xl2 := xl2.bl n23
        refine tl ?_
        refine .s4o hs.g0 (fun _ => hs.u0 kb_b2) ?_ (e := fun _ hs hO => (And.intro True.intro (And.intro (xl2.frame hO (hs.ne 1 0)) True.intro))); clear hs; intro w_24 hs hd24 ho24
        replace xl2 := xl2.frame ho24 (hs.ne 1 0)
        apply wpTail_end
        refine hK22 _ _ ?_
        refine rg [0, 1, 2] ?_
        refine sq ?_
        refine .mv ?_
        refine sq ?_
        refine .r0 ?_
        refine sq ?_
        refine .mv ?_
        apply wpSq_end
        have k3_5 := (kb n23).o hd24 ho24
        replace g1 := g1.k k3_5
        replace g2 := g2.k k3_5
        have k0_5 := ((k0_2.b hb_22).b n23).o hd24 ho24
        replace dF := dF.k k0_5
        replace ha1 := ha1.k k0_5
        replace ha2 := ha2.k k0_5
        refine ‹∀ (a' : Act) (w' : World), Handed _ _ a' w' → _› _ _ ?_
        go_roundg (gk - 1)
        case rel => exact ⟨n + 1, X3, Y3, _, _, _, _, _, _, _, _, by rfl, by omega, hXY3, HM3, g1, g2, dF, ha1, ha2, hs⟩
        case measure => omega
      · have HJ2 := hide (show bkP K0 ps (i + 1) 0 = (X2, Y2) from by rw [← HE.out, ← HJ.out, show n = nq by omega])
        refine wp_seq_k ?_
        intro K20 hK20
        refine wp_seq_k ?_
        intro K21 hK21
        refine rg [0, 1, 2, 3, 4, 5, 6] ?_
        refine sq ?_
        refine .mv ?_
        refine sq ?_
        refine .mv ?_
        refine sq ?_
        refine .mv ?_
        refine sq ?_
        refine .r0 ?_
        refine sq ?_
        refine .r0 ?_
        refine sq ?_
        refine .r1 (xl2.cell _ e5.out) ?_
        refine sq ?_
        refine .r0 ?_
        apply wpSq_end
        refine hK21 _ _ ?_
        refine cf ?_
        refine wp_exit ?_
        refine hK12 _ _ ?_
        refine rg [0, 1, 2] ?_
        refine sq ?_
        refine .mv ?_
        refine sq ?_
        refine .r0 ?_
        refine sq ?_
        refine .mv ?_
        apply wpSq_end
        refine HO _ _ ?_
        go_roundg (gg - 1)
        case rel => exact ⟨i + 1, X2, Y2, _, _, _, _, _, _, _, _, by rfl, by omega, HJ2, HM, b1, b2, dF, ha1, ha2, hs⟩
        case measure => omega
    · have tz : (0 < (i : Int)) = True := by simp; omega
      have tz2 : (0 < i) = True := by simp; omega
      have hjl : i - 1 < ps.length := by omega
      have ti1 : (1 ≤ (i : Int)) = True := by simp; omega
      have ti2 : ((i : Int) - 1 < (ps.length : Int)) = True := by simp; omega
      obtain ⟨t, ht⟩ : ∃ t, ps[i - 1] = t := ⟨_, rfl⟩
      have HT := hide (len_of_norm (Int.lt_of_le_of_lt (show gN t.1 t.2.1 ≤ gN x y from ht ▸ (HA.out.2.2.2.2 _ (List.getElem_mem hjl)).1.2.2.2.1) H0.out.2))
      obtain ⟨C, hC⟩ : ∃ C, gcmp t.1 t.2.1 q.1 q.2.1 = C := ⟨_, rfl⟩
      have HC0 : C < 0 := by
        have h1 := List.pairwise_iff_getElem.1 HA.out.2.2.1 (i - 1) i hjl hi (by omega)
        rw [ht, hq] at h1
        exact hC ▸ h1
      have HC := hide hC
      clear hC hz
      have tc : (0 ≤ C) = False := by simp; omega
      have k0_8 := ((((((k0_1.b hb_10).b n11).o hd12 ho12).b n13).b n14).b hb_15).b n16
      replace dF := dF.k k0_8
      obtain ⟨n3, o3, k3, q3, n4, o4, k4, q4, fa1, fa2, fa3, fa4, fa5, z3, z4⟩ := dF.at hjl
      rw [ht] at z3 z4
      replace fa1 := hide (hcur.out _ _ fa1)
      replace fa2 := hide (hcur.out _ _ fa2)
      replace fa3 := hide (hcur.out _ _ fa3)
      replace fa4 := hide (hcur.out _ _ fa4)
      replace fa5 := hide (hcur.out _ _ fa5)
      refine cf ?_
      refine wp_skip ?_
      refine hK15 _ _ ?_
      refine wp_seq_k ?_
      intro K17 hK17
      refine wp_seq_k ?_
      intro K18 hK18
      refine wp_region_f4 [(0, false), (1, false), (2, false), (3, false), (4, false), (5, false), (6, false), (7, false), (8, false), (9, false), (10, false), (11, false), (12, false), (13, false), (14, true), (15, false), (16, false)] [] [] (fun _ => default) [99, 99, 99, 99, 99, 99, 99, 99, 0, 99, 99, 99, 99, 0, 99, 99, 99] [] (.c xl .n) fn fun w_17 n17 => ?_
      replace xl := xl.bl n17; replace hs := hs.bl n17
      refine fmv ?_
      refine f0 ?_
      refine fmv ?_
      refine fmv ?_
      refine fmv ?_
      refine f0 ?_
      refine f0 ?_
      refine f0 ?_
      apply wpFl_ld rfl rfl; (case h1 => intro w' hC K hK; have c0 := Bs.cell hC (((i - 1) * 5)) fa1.out; have c1 := Bs.cell hC (((i - 1) * 5) + 1) fa2.out; have c2 := Bs.cell hC (((i - 1) * 5) + 2) fa3.out; have c3 := Bs.cell hC (((i - 1) * 5) + 3) fa4.out; go_big_op; exact hK); iterate 4 kernel_rfl
      refine fmv ?_
      refine fmv ?_
      refine f0 ?_
      refine f0 ?_
      apply wpFl_ld rfl rfl; (case h1 => intro w' hC K hK; have c0 := Bs.cell hC ((i * 5)) e1.out; have c1 := Bs.cell hC ((i * 5) + 1) e2.out; have c2 := Bs.cell hC ((i * 5) + 2) e3.out; have c3 := Bs.cell hC ((i * 5) + 3) e4.out; go_big_op; exact hK); iterate 4 kernel_rfl
      refine fl fun w_18 n18 => ?_
      replace xl := xl.bl n18; replace hs := hs.bl n18
      intro K hK
      have k8_10 := (kb n17).b n18
      replace z3 := z3.k k8_10
      replace z4 := z4.k k8_10
      have k6_10 := (((kb hb_15).b n16).b n17).b n18
      replace z1 := z1.k k6_10
      replace z2 := z2.k k6_10
      go_big_op
      go_fit (gCmp_any (.mk' (z3.zn HT.out.1) (z4.zn HT.out.2)) (.mk' (z1.zn HZ.out.1) (z2.zn HZ.out.2)) (by omega) (by omega) (by omega) (by omega))
      rintro e w_19 ⟨rfl, hb_19⟩
      replace xl := xl.bl hb_19; replace hs := hs.bl hb_19
      rw [HC.out]
      refine hK _ _ rfl ⟨hb_19, (And.intro xl trivial)⟩ ?_
      clear hK K
      refine f0 ?_
      refine f0 ?_
      refine e0 hs ?_; clear hs; intro w_20 hs n20
      replace xl := xl.bl n20
      apply wpTail_end
      refine hK18 _ _ ?_
      refine cf ?_
      refine wp_skip ?_
      refine hK17 _ _ ?_
      refine wp_seq_k ?_
      intro K19 hK19
      refine rg [0] ?_
      refine sq ?_
      refine .mv ?_
      apply wpSq_end
      refine hK19 _ _ ?_
      refine wp_block ?_
      have k0_12 := (((k0_8.b n17).b n18).b hb_19).b n20
      replace a1 := a1.k k0_12
      replace a2 := a2.k k0_12
      have k8_12 := (k8_10.b hb_19).b n20
      replace dF := dF.k k8_12
      replace ha1 := ha1.k k0_12
      replace ha2 := ha2.k k0_12
      have hd21 := hs.2.1
      go_loopg [12] nq (fun k s12 wr => ∃ (n : Nat) (X Y : Int) (an1 an2 : Bool) (ao1 ao2 : Option Addr) (ak1 ac1 ak2 ac2 : Nat), s12 = .int .i64 (n : Int) ∧ n + k = nq ∧ Hid (bkP K0 ps i n = (X, Y)) ∧ Hid ((dig X.natAbs).length ≤ 1 ∧ (dig Y.natAbs).length ≤ 1) ∧ ZC wr (.agg #[.bool an1, .slice ao1 ak1 ac1]) X ∧ ZC wr (.agg #[.bool an2, .slice ao2 ak2 ac2]) Y ∧ FacL wr xs_F ps ∧ ZN wr (.agg #[.bool n_0a, .slice o_0a k_0a c_0a]) x lg ∧ ZN wr (.agg #[.bool n_0b, .slice o_0b k_0b c_0b]) y lg ∧
        St w [bx p_b2 #[.bool an1, .slice ao1 ak1 ac1, .bool an2, .slice ao2 ak2 ac2] 29, ls w.heap.size 37 5 (.slice (some ⟨gl, 0, none⟩) ps.length c_F) ps.length xs_F, bx p_b1 #[.bool n_0a, .slice o_0a k_0a c_0a, .bool n_0b, .slice o_0b k_0b c_0b] 29] wr)
      case atStart => exact ⟨0, X, Y, _, _, _, _, _, _, _, _, rfl, by omega, HI, HL, a1, a2, dF, ha1, ha2, hs.sub (.cons _ (List.Sublist.refl _))⟩
      case round =>
      clear ha1 ha2 a1 a2 dF xl z1 z2 z3 z4 c1 c2 hs
      obtain ⟨n, X2, Y2, bn1, bn2, bo1, bo2, bk1, bc1, bk2, bc2, rfl, hnk, HJ, HM, b1, b2, dF, ha1, ha2, hs⟩ := hrel
      obtain ⟨n1, o1, k1, q1, n2, o2, k2, q2, e1, e2, e3, e4, e5, z1, z2⟩ := dF.at hi
      rw [hq] at z1 z2 e5
      rw [hnq] at e5
      obtain ⟨gl2, curl2, hg2, xl2, hcur⟩ := (hs.1.2.1.1).box (by omega)
      obtain rfl : gl = gl2 := by simpa using hg2
      clear hg2
      replace e1 := hide (hcur _ _ e1)
      replace e2 := hide (hcur _ _ e2)
      replace e3 := hide (hcur _ _ e3)
      replace e4 := hide (hcur _ _ e4)
      replace e5 := hide (hcur _ _ e5)
      clear hcur
      by_cases hn : n < nq
      · obtain ⟨X3, Y3, hXY3⟩ : ∃ X3 Y3, bkP K0 ps i (n + 1) = (X3, Y3) := ⟨_, _, rfl⟩
        have HG := hide (show X2 * q.1 - Y2 * q.2.1 = X3 ∧ X2 * q.2.1 + Y2 * q.1 = Y3 from by
          have h1 := HS.out n
          rw [HJ.out, hXY3] at h1
          injection h1 with h1 h2
          exact ⟨h1.symm, h2.symm⟩)
        have HM3 := hide (len_of_norm (x := X3) (y := Y3) (by have h1 := HB.out (n + 1) hn; rw [hXY3] at h1; exact Int.lt_of_le_of_lt h1 H0.out.2))
        replace hXY3 := hide hXY3
        refine wp_seq_k ?_
        intro K20 hK20
        refine wp_seq_k ?_
        intro K21 hK21
        refine rg [0, 1, 2, 3, 4, 5, 6] ?_
        refine sq ?_
        refine .mv ?_
        refine sq ?_
        refine .mv ?_
        refine sq ?_
        refine .mv ?_
        refine sq ?_
        refine .r0 ?_
        refine sq ?_
        refine .r0 ?_
        refine sq ?_
        refine .r1 (xl2.cell _ e5.out) ?_
        refine sq ?_
        refine .r0 ?_
        apply wpSq_end
        refine hK21 _ _ ?_
        refine ct ?_
        refine wp_skip ?_
        refine hK20 _ _ ?_
        refine wp_seq_k ?_
        intro K22 hK22
        refine wp_block ?_
        refine wp_region_f4 [(0, false), (1, false), (2, false), (3, false), (4, false), (5, false), (6, true)] [7] [] (fun _ => default) [0, 99, 99, 99, 99, 1, 99, 99] [(7, 0)] (.c hs.g0 (.c xl2 .n)) fn fun w_22 n22 => ?_
        replace xl2 := xl2.bl n22; replace hs := hs.bl n22
        refine f4 ?_
        refine fmv ?_
        refine fmv ?_
        refine f0 ?_
        refine f0 ?_
        apply wpFl_ld rfl rfl; (case h1 => intro w' hC K hK; have c0 := Bs.cell hC ((i * 5)) e1.out; have c1 := Bs.cell hC ((i * 5) + 1) e2.out; have c2 := Bs.cell hC ((i * 5) + 2) e3.out; have c3 := Bs.cell hC ((i * 5) + 3) e4.out; go_big_op; exact hK); iterate 4 kernel_rfl
        refine fl fun w_23 n23 => ?_
        replace xl2 := xl2.bl n23; replace hs := hs.bl n23
        intro K hK
        have k0_2 := (kb n22).b n23
        replace b1 := b1.k k0_2
        replace b2 := b2.k k0_2
        replace z1 := z1.k k0_2
        replace z2 := z2.k k0_2
        go_big_op
        go_fit (gMul_any (.mk' (b1.zn HM.out.1) (b2.zn HM.out.2)) (.mk' (z1.zn HZ.out.1) (z2.zn HZ.out.2)) (by omega) (by omega) (by omega) (by omega))
        rintro e w_24 ⟨_, rfl, ⟨n_ga, o_ga, k_ga, c_ga, n_gb, o_gb, k_gb, c_gb, rfl, g1, g2⟩, hb_24⟩
        replace xl2 := xl2.bl hb_24; replace hs := hs.bl hb_24
        rw [HG.out.1] at g1
        rw [HG.out.2] at g2
        refine hK _ _ rfl ⟨hb_24, (And.intro hs.g0 (And.intro xl2 trivial))⟩ ?_
        clear hK K
        refine e0 hs ?_; clear hs; intro w_25 hs n25
        replace xl2 := xl2.bl n25
        refine tl ?_
        refine .s4o hs.g0 (fun _ => hs.u0 kb_b2) ?_ (e := fun _ hs hO => (And.intro True.intro (And.intro (xl2.frame hO (hs.ne 1 0)) True.intro))); clear hs; intro w_26 hs hd26 ho26
        replace xl2 := xl2.frame ho26 (hs.ne 1 0)
        apply wpTail_end
        refine hK22 _ _ ?_
        refine rg [0, 1, 2] ?_
        refine sq ?_
        refine .mv ?_
        refine sq ?_
        refine .r0 ?_
        refine sq ?_
        refine .mv ?_
        apply wpSq_end
        have k3_5 := (kb n25).o hd26 ho26
        replace g1 := g1.k k3_5
        replace g2 := g2.k k3_5
        have k0_5 := ((k0_2.b hb_24).b n25).o hd26 ho26
        replace dF := dF.k k0_5
        replace ha1 := ha1.k k0_5
        replace ha2 := ha2.k k0_5
        refine ‹∀ (a' : Act) (w' : World), Handed _ _ a' w' → _› _ _ ?_
        go_roundg (gk - 1)
        case rel => exact ⟨n + 1, X3, Y3, _, _, _, _, _, _, _, _, by rfl, by omega, hXY3, HM3, g1, g2, dF, ha1, ha2, hs⟩
        case measure => omega
      · have HJ2 := hide (show bkP K0 ps (i + 1) 0 = (X2, Y2) from by rw [← HE.out, ← HJ.out, show n = nq by omega])
        refine wp_seq_k ?_
        intro K20 hK20
        refine wp_seq_k ?_
        intro K21 hK21
        refine rg [0, 1, 2, 3, 4, 5, 6] ?_
        refine sq ?_
        refine .mv ?_
        refine sq ?_
        refine .mv ?_
        refine sq ?_
        refine .mv ?_
        refine sq ?_
        refine .r0 ?_
        refine sq ?_
        refine .r0 ?_
        refine sq ?_
        refine .r1 (xl2.cell _ e5.out) ?_
        refine sq ?_
        refine .r0 ?_
        apply wpSq_end
        refine hK21 _ _ ?_
        refine cf ?_
        refine wp_exit ?_
        refine hK12 _ _ ?_
        refine rg [0, 1, 2] ?_
        refine sq ?_
        refine .mv ?_
        refine sq ?_
        refine .r0 ?_
        refine sq ?_
        refine .mv ?_
        apply wpSq_end
        refine HO _ _ ?_
        go_roundg (gg - 1)
        case rel => exact ⟨i + 1, X2, Y2, _, _, _, _, _, _, _, _, by rfl, by omega, HJ2, HM, b1, b2, dF, ha1, ha2, hs⟩
        case measure => omega
  · have HX2 := hide (show x = X ∧ y = Y from by
      have h1 := HI.out
      rw [bkP_end HA.out (by omega)] at h1
      injection h1 with h1 h2
      exact ⟨h1, h2⟩)
    refine wp_seq_k ?_
    intro K10 hK10
    refine wp_seq_k ?_
    intro K11 hK11
    refine rg [0, 1, 2, 3] ?_
    refine sq ?_
    refine .mv ?_
    refine sq ?_
    refine .mv ?_
    refine sq ?_
    refine .r0 ?_
    refine sq ?_
    refine .r0 ?_
    apply wpSq_end
    refine hK11 _ _ ?_
    refine cf ?_
    refine wp_exit ?_
    refine hK8 _ _ ?_
    refine wp_seq_k ?_
    intro K12 hK12
    refine rg [0, 1, 2, 3, 4, 5, 6, 7, 8, 9, 10, 11] ?_
    refine sq ?_
    refine .mv ?_
    refine sq ?_
    refine .r0 ?_
    refine sq ?_
    refine .mv ?_
    refine sq ?_
    refine .mv ?_
    refine sq ?_
    refine .r0 ?_
    refine sq ?_
    refine .r0 ?_
    refine sq ?_
    refine .mv ?_
    refine sq ?_
    refine .r4 hs.g0.f4 ?_
    refine sq ?_
    refine .r4 hs.g2.f4 ?_
    refine sq ?_
    intro K hK
    go_big_op
    go_fit (gEqual_yes (.mk' (a1.zn HL.out.1) (a2.zn HL.out.2)) (.mk' ha1 ha2) (by omega) (by omega) (by omega) (by omega) HX2.out.1.symm HX2.out.2.symm)
    rintro e w_9 ⟨rfl, hb_9⟩
    replace hs := hs.bl hb_9
    refine hK _ _ rfl trivial ?_
    clear hK K
    refine sq ?_
    refine .r0 ?_
    refine sq ?_
    refine .mv ?_
    apply wpSq_end
    refine hK12 _ _ ?_
    refine wp_ret ?_
    try dsimp only [Exit.then, Exit.inBlock]
    refine bodyPost_ret (v := (.bool true)) (by simp [results, Try.results4, go_sem]) rfl ?_
    exact ⟨rfl, hs.b⟩
theorem walk_GprimeBack (w : World) (n1 : Bool) (s1 : Value) (xs : List Nat) (h1 : Rd w s1 xs) (l1 : xs.length ≤ 1048576) (n2 : Bool) (s2 : Value) (ys : List Nat) (h2 : Rd w s2 ys) (l2 : ys.length ≤ 1048576) :
    Calls Try.prog 4 #[.agg #[.bool n1, s1, .bool n2, s2]] w fun e w' => e = .returned (.bool true) ∧ Below w.heap.size w w' := by
  have ha := PN.of_rd n1 n2 h1 l1 h2 l2
  by_cases h0 : gN (zv n1 xs) (zv n2 ys) = 0
  · exact gback_zero ha (by omega) (by omega) h0
  by_cases hN : gN (zv n1 xs) (zv n2 ys) < 4294967296
  · exact gback_some ha (by omega) (by omega) h0 hN
  · exact gback_big ha (by omega) (by omega) (by omega)
end
end Go.Proofs.Ythlhekkcjficdaa

