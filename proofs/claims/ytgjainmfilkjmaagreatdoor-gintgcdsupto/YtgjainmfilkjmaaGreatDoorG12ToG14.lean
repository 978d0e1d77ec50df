/- gint.quotient: the nearest, whichever way it is found. -/
import Derived.Test.YtgjainmfilkjmaaGreatDoorG10ToG11

namespace Go.Proofs.YtgjainmfilkjmaaGreatDoor
open Go Go.RowKit Dig
set_option linter.unusedVariables false

theorem pw4 : pw 4 = 340282366920938463463374607431768211456 := by decide
theorem pw6 : pw 6 = 18446744073709551616 * 340282366920938463463374607431768211456 := by decide
theorem tp_one (n : Int) (h : 0 ≤ n) : tp n 1 = n / 4294967296 := by
  unfold tp
  rw [if_neg (by omega), show pw 1 = 4294967296 by decide]
  omega
/-- What is far inside leads to the nearest quotient. -/
theorem quot_top {x y u v : Int} {cut : Nat} (hc : gdig u v = cut + 5) (hd : gdig x y ≤ gdig u v + 1) (hf : far (gR1 (tp x cut) (tp y cut) (tp u cut) (tp v cut)) (gR2 (tp x cut) (tp y cut) (tp u cut) (tp v cut)) (tp u cut) (tp v cut)) :
    gN (tp u cut) (tp v cut) ≠ 0 ∧ gQ1 (tp x cut) (tp y cut) (tp u cut) (tp v cut) = gQ1 x y u v ∧ gQ2 (tp x cut) (tp y cut) (tp u cut) (tp v cut) = gQ2 x y u v := by
  obtain ⟨c1, ex, bx, _⟩ := tp_split x cut
  obtain ⟨c2, ey, byy, _⟩ := tp_split y cut
  obtain ⟨d1, eu, bu, su⟩ := tp_split u cut
  obtain ⟨d2, ev, bv, sv⟩ := tp_split v cut
  obtain ⟨tx, ty⟩ := gdig_top (x := x) (y := y)
  obtain ⟨tu, tv⟩ := gdig_top (x := u) (y := v)
  have hlow := gdig_low (x := u) (y := v) (by omega)
  have ax := tp_abs x cut
  have ay := tp_abs y cut
  have au := tp_abs u cut
  have av := tp_abs v cut
  have hp := pw_pos cut
  -- the longer part of the divisor's top
  have low : ∀ z : Nat, pw (gdig u v - 1) ≤ z → pw 4 ≤ z / pw cut := by
    intro z hz
    rw [show gdig u v - 1 = 4 + cut by omega, pw_add] at hz
    exact (Nat.le_div_iff_mul_le hp).2 hz
  have high : ∀ z : Nat, z < pw (gdig x y) → z / pw cut < pw 6 := by
    intro z hz
    refine (Nat.div_lt_iff_lt_mul hp).2 (Nat.lt_of_lt_of_le hz ?_)
    rw [← pw_add]; exact pw_mono (by omega)
  have hx6 := high _ tx
  have hy6 := high _ ty
  have hm4 : pw 4 ≤ max (tp u cut).natAbs (tp v cut).natAbs := by
    rw [au, av]
    rcases hlow with h | h
    · exact Nat.le_trans (low _ h) (Nat.le_max_left _ _)
    · exact Nat.le_trans (low _ h) (Nat.le_max_right _ _)
  rw [← ax] at hx6
  rw [← ay] at hy6
  clear ax ay au av low high hlow tx ty tu tv
  generalize tp x cut = X at *
  generalize tp y cut = Y at *
  generalize tp u cut = U at *
  generalize tp v cut = V at *
  obtain ⟨M, hM⟩ : ∃ M : Nat, max U.natAbs V.natAbs = M := ⟨_, rfl⟩
  rw [hM] at hm4
  rw [pw4] at hm4
  rw [pw6] at hx6 hy6
  have hUM : -(M : Int) ≤ U ∧ U ≤ (M : Int) := by omega
  have hVM : -(M : Int) ≤ V ∧ V ≤ (M : Int) := by omega
  have hmm : (M : Int) * M ≤ gN U V := by
    have h1 := msq U
    have h2 := msq V
    have h3 : ∀ z : Int, z.natAbs = M → z * z = (M : Int) * M := by
      intro z hz
      rw [← Int.natAbs_mul_self, hz]; rfl
    unfold gN
    rcases (show U.natAbs = M ∨ V.natAbs = M by omega) with h | h
    · rw [h3 U h]; omega
    · rw [h3 V h]; omega
  have hM0 : 0 < (M : Int) := by omega
  have hn0 : gN U V ≠ 0 := by have := Int.mul_pos hM0 hM0; omega
  have hn := gN_nonneg U V
  obtain ⟨f1, f2⟩ := hf
  rw [tp_one _ hn] at f1 f2
  have hb1 := (gR_back X Y U V).1
  have hb2 := (gR_back X Y U V).2
  have hh := gR_half (x := X) (y := Y) hn0
  have g1 : gT1 (gR1 X Y U V) (gR2 X Y U V) U V = gR1 X Y U V * U + gR2 X Y U V * V := by unfold gT1; rw [Int.mul_neg]; omega
  have g2 : gT2 (gR1 X Y U V) (gR2 X Y U V) U V = gR2 X Y U V * U - gR1 X Y U V * V := by unfold gT2; rw [Int.mul_neg]; omega
  rw [g1] at f1
  rw [g2] at f2
  have key := guess (B := (pw cut : Int)) (a1 := X) (a2 := Y) (b1 := U) (b2 := V) (c1 := c1) (c2 := c2) (d1 := d1) (d2 := d2) (m := (M : Int)) (q1 := gQ1 X Y U V) (q2 := gQ2 X Y U V) (r1 := gR1 X Y U V) (r2 := gR2 X Y U V)
    (by omega) bx byy bu bv su sv (by omega) hUM hVM hmm (by omega) (by omega) (by omega) (by omega) hh (by omega) (by omega)
  rw [← ex, ← ey, ← eu, ← ev] at key
  exact ⟨hn0, key.1.symm, key.2.symm⟩
theorem gdig_le {x y : Int} {l m : Nat} (h1 : (dig x.natAbs).length ≤ l) (h2 : (dig y.natAbs).length ≤ m) (hl : l ≤ 8000000) (hm : m ≤ 8000000) : gdig x y ≤ 16000000 := by
  have b1 := bits_bd (Nat.lt_of_lt_of_le (lt_pw_dig x.natAbs) (pw_mono h1))
  have b2 := bits_bd (Nat.lt_of_lt_of_le (lt_pw_dig y.natAbs) (pw_mono h2))
  unfold gdig; omega
theorem tp_len {x : Int} {l k : Nat} (h : (dig x.natAbs).length ≤ l) : (dig (tp x k).natAbs).length ≤ l := by
  rw [tp_abs]; exact len_le (Nat.div_le_self _ _) h
/-- A rest is no longer than the divisor. -/
theorem gR_len {x y u v : Int} {k n : Nat} (h0 : gN u v ≠ 0) (h1 : (dig u.natAbs).length ≤ k) (h2 : (dig v.natAbs).length ≤ n) : (dig (gR1 x y u v).natAbs).length ≤ k + n + 1 ∧ (dig (gR2 x y u v).natAbs).length ≤ k + n + 1 := by
  have hh := gR_half (x := x) (y := y) h0
  have hr := gN_nonneg (gR1 x y u v) (gR2 x y u v)
  obtain ⟨A, hA⟩ : ∃ A : Nat, A = u.natAbs + v.natAbs := ⟨_, rfl⟩
  have hb : gN u v ≤ (A : Int) * A := by
    have e1 : u * u = ((u.natAbs : Nat) : Int) * (u.natAbs : Nat) := (Int.natAbs_mul_self' u).symm
    have e2 : v * v = ((v.natAbs : Nat) : Int) * (v.natAbs : Nat) := (Int.natAbs_mul_self' v).symm
    have h3 : (0 : Int) ≤ ((u.natAbs : Nat) : Int) * (v.natAbs : Nat) := Int.mul_nonneg (by omega) (by omega)
    unfold gN
    rw [e1, e2, hA]
    push_cast
    grind
  obtain ⟨n1, n2⟩ := norm_le (a := gR1 x y u v) (b := gR2 x y u v) (A := (A : Int)) (by omega) (by omega)
  have hl : (dig A).length ≤ k + n + 1 := by
    have := zlen_add (x := (u.natAbs : Int)) (y := (v.natAbs : Int)) (by rw [Int.natAbs_natCast]; exact h1) (by rw [Int.natAbs_natCast]; exact h2)
    rw [← Int.natCast_add, Int.natAbs_natCast, ← hA] at this
    exact this
  exact ⟨len_le (by omega) hl, len_le (by omega) hl⟩
theorem tp_ne {u v : Int} {cut : Nat} (hc : gdig u v = cut + 5) (h : 0 < gdig u v) : gN (tp u cut) (tp v cut) ≠ 0 := by
  intro h0
  obtain ⟨h1, h2⟩ := gN_zero.1 h0
  have au := tp_abs u cut
  have av := tp_abs v cut
  rw [h1] at au
  rw [h2] at av
  have low : ∀ z : Nat, pw (gdig u v - 1) ≤ z → z / pw cut ≠ 0 := by
    intro z hz hz0
    rw [show gdig u v - 1 = 4 + cut by omega, pw_add] at hz
    have := (Nat.le_div_iff_mul_le (pw_pos cut)).2 hz
    rw [pw4] at this
    omega
  rcases gdig_low h with h3 | h3
  · exact low _ h3 au.symm
  · exact low _ h3 av.symm
section
variable {w : World} {va vb : Value} {x y u v : Int} {l m k n : Nat}
theorem far_no (ha : PN w va x l y m) (hq : PN w vb u k v n) (hl : l ≤ 20000000) (hm : m ≤ 20000000) (hk : k ≤ 20000000) (hn : n ≤ 20000000) (hf : ¬ far x y u v) :
    Calls Tryz.prog 83 #[va, vb] w fun e w' => e = .returned (.bool false) ∧ Below w.heap.size w w' := by
  by_cases h1 : ((gT1 x y u v + gT1 x y u v).natAbs : Int) < gN u v - tp (gN u v) 1
  · exact far_no2 ha hq hl hm hk hn h1 (fun h2 => hf ⟨h1, h2⟩)
  · exact far_no1 ha hq hl hm hk hn h1
set_option maxHeartbeats 4000000 in
set_option maxRecDepth 20000 in
theorem quot_small (ha : PN w va x l y m) (hq : PN w vb u k v n) (hl : l ≤ 8000000) (hm : m ≤ 8000000) (hk : k ≤ 8000000) (hn : n ≤ 8000000) (h0 : gN u v ≠ 0) (h1 : gdig u v ≤ 5) :
    Calls Tryz.prog 43 #[va, vb] w fun e w' => ∃ r, e = .returned r ∧ PC w' r (gQ1 x y u v) (gQ2 x y u v) ∧ Below w.heap.size w w' := by
  have H0 := hide h0
  obtain ⟨S, hS⟩ : ∃ S, gdig u v = S := ⟨_, rfl⟩
  rw [hS] at h1
  have HS := hide hS
  have hg : (0 < (S : Int) - 5) = False := eq_false (by omega)
  have hgA : (5 < (S : Int)) = False := eq_false (by omega)
  have hgB : (5 < S) = False := eq_false (by omega)
  clear h0 hS
  obtain ⟨n_0a, o_0a, k_0a, c_0a, n_0b, o_0b, k_0b, c_0b, rfl, ha1, ha2⟩ := ha
  obtain ⟨n_1a, o_1a, k_1a, c_1a, n_1b, o_1b, k_1b, c_1b, rfl, hq1, hq2⟩ := hq
  go_enter Tryz.func43, Tryz.ntmps43
  have hs := St.nil w
  refine wp_seq_k ?_
  intro K1 hK1
  refine rg [0, 1, 2] ?_
  refine sq ?_
  refine .al hs ?_; clear hs; intro p_b1 w_1 hs n1 kb_b1
  refine sq ?_
  refine .al hs ?_; clear hs; intro p_b2 w_2 hs n2 kb_b2
  refine sq ?_
  refine .al hs ?_; clear hs; intro p_b3 w_3 hs n3 kb_b3
  apply wpSq_end
  refine hK1 _ _ ?_
  refine wp_seq_k ?_
  intro K2 hK2
  refine rg [0, 1, 2] ?_
  refine sq ?_
  refine .r4 hs.g1.f4 ?_
  refine sq ?_
  intro K hK
  have k0_3 := ((kb n1).b n2).b n3
  replace hq1 := hq1.k k0_3
  replace hq2 := hq2.k k0_3
  go_big_op
  go_fit (gdigits_any (PN.mk' hq1 hq2) (by omega) (by omega))
  rintro e w_4 ⟨rfl, hb_4⟩
  replace hs := hs.bl hb_4
  rw [HS.out]
  refine hK _ _ rfl trivial ?_
  clear hK K
  refine sq ?_
  refine .mv ?_
  apply wpSq_end
  refine hK2 _ _ ?_
  refine wp_seq_k ?_
  intro K3 hK3
  refine wp_seq_k ?_
  intro K4 hK4
  refine rg [0, 1, 2] ?_
  refine sq ?_
  refine .mv ?_
  refine sq ?_
  refine .r0 ?_
  refine sq ?_
  refine .mv ?_
  apply wpSq_end
  refine hK4 _ _ ?_
  refine wp_seq_k ?_
  intro K5 hK5
  refine rg [0, 1, 2, 3, 4, 5, 6, 7, 8] ?_
  refine sq ?_
  refine .mv ?_
  refine sq ?_
  refine .r0 ?_
  refine sq ?_
  refine .mv ?_
  refine sk ?_
  refine sk ?_
  refine sk ?_
  refine sk ?_
  refine sk ?_
  refine sq ?_
  refine .r0 ?_
  apply wpSq_end
  refine hK5 _ _ ?_
  refine cf ?_
  refine wp_skip ?_
  refine hK3 _ _ ?_
  refine wp_seq_k ?_
  intro K6 hK6
  refine rg [0, 1, 2, 3, 4, 5, 6, 7, 8, 9, 10, 11] ?_
  refine sq ?_
  refine .r4 hs.g2.f4 ?_
  refine sq ?_
  refine .r4 hs.g1.f4 ?_
  refine sq ?_
  intro K hK
  have k0_4 := k0_3.b hb_4
  replace ha1 := ha1.k k0_4
  replace ha2 := ha2.k k0_4
  have k3_4 := kb hb_4
  replace hq1 := hq1.k k3_4
  replace hq2 := hq2.k k3_4
  go_big_op
  go_fit (gRound_any (PN.mk' ha1 ha2) (PN.mk' hq1 hq2) (by omega) (by omega) (by omega) (by omega) H0.out)
  rintro e w_5 ⟨_, _, rfl, ⟨n_ga, o_ga, k_ga, c_ga, n_gb, o_gb, k_gb, c_gb, rfl, g1, g2⟩, ⟨n_ra, o_ra, k_ra, c_ra, n_rb, o_rb, k_rb, c_rb, rfl, r1, r2⟩, hb_5⟩
  replace hs := hs.bl hb_5
  have Lg1 := hide (g1.lenOf (rnd_len (H0.out) (zlen_gT1 (ha1.len) (ha2.len) (hq1.len) (hq2.len))))
  have Lg2 := hide (g2.lenOf (rnd_len (H0.out) (zlen_gT2 (ha1.len) (ha2.len) (hq1.len) (hq2.len))))
  have Lr1 := hide (r1.lenOf (zlen_gR1 (ha1.len) (ha2.len) (hq1.len) (hq2.len) (H0.out)))
  have Lr2 := hide (r2.lenOf (zlen_gR2 (ha1.len) (ha2.len) (hq1.len) (hq2.len) (H0.out)))
  refine hK _ _ rfl trivial ?_
  clear hK K
  refine sq ?_
  refine .mv ?_
  refine sq ?_
  refine .r0 ?_
  refine sq ?_
  refine .r0 ?_
  refine sq ?_
  refine .r0 ?_
  refine sq ?_
  refine .al hs ?_; clear hs; intro p_b4 w_6 hs n6 kb_b4
  refine sq ?_
  refine .al hs ?_; clear hs; intro p_b5 w_7 hs n7 kb_b5
  refine sq ?_
  refine .s4 hs.g1 (fun _ => hs.u1 kb_b4) ?_; clear hs; intro w_8 hs hd8 ho8
  refine sq ?_
  refine .s4 hs.g0 (fun _ => hs.u0 kb_b5) ?_; clear hs; intro w_9 hs hd9 ho9
  refine sq ?_
  refine .mv ?_
  apply wpSq_end
  refine hK6 _ _ ?_
  refine wp_seq_k ?_
  intro K7 hK7
  refine rg [0, 1] ?_
  refine sq ?_
  refine .r4 hs.g1.f4 ?_
  refine sq ?_
  refine .s4 hs.g2 (fun _ => hs.u2 kb_b3) ?_; clear hs; intro w_10 hs hd10 ho10
  clear ha1 ha2 hq1 hq2 r1 r2
  apply wpSq_end
  refine hK7 _ _ ?_
  refine wp_ret ?_
  try dsimp only [Exit.then, Exit.inBlock]
  obtain ⟨r0_0, r0_1, r0_2, r0_3⟩ := hs.g2.f4
  refine bodyPost_ret (v := (.agg #[.bool n_ga, .slice o_ga k_ga c_ga, .bool n_gb, .slice o_gb k_gb c_gb])) (by simp [results, Tryz.results43, go_sem, r0_0, r0_1, r0_2, r0_3]) rfl ?_
  have k5_10 := ((((kb n6).b n7).o hd8 ho8).o hd9 ho9).o hd10 ho10
  replace g1 := g1.k k5_10
  replace g2 := g2.k k5_10
  exact ⟨_, rfl, .mk' g1 g2, hs.b⟩
set_option maxHeartbeats 4000000 in
set_option maxRecDepth 20000 in
theorem quot_long (ha : PN w va x l y m) (hq : PN w vb u k v n) (hl : l ≤ 8000000) (hm : m ≤ 8000000) (hk : k ≤ 8000000) (hn : n ≤ 8000000) (h0 : gN u v ≠ 0) (h1 : 5 < gdig u v) (h2 : gdig u v + 1 < gdig x y) :
    Calls Tryz.prog 43 #[va, vb] w fun e w' => ∃ r, e = .returned r ∧ PC w' r (gQ1 x y u v) (gQ2 x y u v) ∧ Below w.heap.size w w' := by
  have H0 := hide h0
  obtain ⟨S, hS⟩ : ∃ S, gdig u v = S := ⟨_, rfl⟩
  obtain ⟨D, hD⟩ : ∃ D, gdig x y = D := ⟨_, rfl⟩
  have hSb : S ≤ 16000000 := by rw [← hS]; exact gdig_le hq.len1 hq.len2 hk hn
  have hDb : D ≤ 16000000 := by rw [← hD]; exact gdig_le ha.len1 ha.len2 hl hm
  rw [hS] at h1 h2
  rw [hD] at h2
  have HS := hide hS
  have HD := hide hD
  have hg : (0 < (S : Int) - 5) = True := eq_true (by omega)
  have hgA : (5 < (S : Int)) = True := eq_true (by omega)
  have hgB : (5 < S) = True := eq_true (by omega)
  have hg2 : ((D : Int) ≤ (S : Int) + 1) = False := eq_false (by omega)
  have hg3 : (D ≤ S + 1) = False := eq_false (by omega)
  clear h0 hS hD
  obtain ⟨n_0a, o_0a, k_0a, c_0a, n_0b, o_0b, k_0b, c_0b, rfl, ha1, ha2⟩ := ha
  obtain ⟨n_1a, o_1a, k_1a, c_1a, n_1b, o_1b, k_1b, c_1b, rfl, hq1, hq2⟩ := hq
  go_enter Tryz.func43, Tryz.ntmps43
  have hs := St.nil w
  refine wp_seq_k ?_
  intro K1 hK1
  refine rg [0, 1, 2] ?_
  refine sq ?_
  refine .al hs ?_; clear hs; intro p_b1 w_1 hs n1 kb_b1
  refine sq ?_
  refine .al hs ?_; clear hs; intro p_b2 w_2 hs n2 kb_b2
  refine sq ?_
  refine .al hs ?_; clear hs; intro p_b3 w_3 hs n3 kb_b3
  apply wpSq_end
  refine hK1 _ _ ?_
  refine wp_seq_k ?_
  intro K2 hK2
  refine rg [0, 1, 2] ?_
  refine sq ?_
  refine .r4 hs.g1.f4 ?_
  refine sq ?_
  intro K hK
  have k0_3 := ((kb n1).b n2).b n3
  replace hq1 := hq1.k k0_3
  replace hq2 := hq2.k k0_3
  go_big_op
  go_fit (gdigits_any (PN.mk' hq1 hq2) (by omega) (by omega))
  rintro e w_4 ⟨rfl, hb_4⟩
  replace hs := hs.bl hb_4
  rw [HS.out]
  refine hK _ _ rfl trivial ?_
  clear hK K
  refine sq ?_
  refine .mv ?_
  apply wpSq_end
  refine hK2 _ _ ?_
  refine wp_seq_k ?_
  intro K3 hK3
  refine wp_seq_k ?_
  intro K4 hK4
  refine rg [0, 1, 2] ?_
  refine sq ?_
  refine .mv ?_
  refine sq ?_
  refine .r0 ?_
  refine sq ?_
  refine .mv ?_
  apply wpSq_end
  refine hK4 _ _ ?_
  refine wp_seq_k ?_
  intro K5 hK5
  refine rg [0, 1, 2, 3, 4, 5, 6, 7, 8] ?_
  refine sq ?_
  refine .mv ?_
  refine sq ?_
  refine .r0 ?_
  refine sq ?_
  refine .mv ?_
  refine sq ?_
  refine .r4 hs.g2.f4 ?_
  refine sq ?_
  intro K hK
  have k0_4 := k0_3.b hb_4
  replace ha1 := ha1.k k0_4
  replace ha2 := ha2.k k0_4
  go_big_op
  go_fit (gdigits_any (PN.mk' ha1 ha2) (by omega) (by omega))
  rintro e w_5 ⟨rfl, hb_5⟩
  replace hs := hs.bl hb_5
  rw [HD.out]
  refine hK _ _ rfl trivial ?_
  clear hK K
  refine sq ?_
  refine .mv ?_
  refine sq ?_
  refine .r0 ?_
  refine sq ?_
  refine .r0 ?_
  refine sq ?_
  refine .r0 ?_
  apply wpSq_end
  refine hK5 _ _ ?_
  refine cf ?_
  refine wp_skip ?_
  refine hK3 _ _ ?_
  refine wp_seq_k ?_
  intro K6 hK6
  refine rg [0, 1, 2, 3, 4, 5, 6, 7, 8, 9, 10, 11] ?_
  refine sq ?_
  refine .r4 hs.g2.f4 ?_
  refine sq ?_
  refine .r4 hs.g1.f4 ?_
  refine sq ?_
  intro K hK
  have k4_5 := kb hb_5
  replace ha1 := ha1.k k4_5
  replace ha2 := ha2.k k4_5
  have k3_5 := (kb hb_4).b hb_5
  replace hq1 := hq1.k k3_5
  replace hq2 := hq2.k k3_5
  go_big_op
  go_fit (gRound_any (PN.mk' ha1 ha2) (PN.mk' hq1 hq2) (by omega) (by omega) (by omega) (by omega) H0.out)
  rintro e w_6 ⟨_, _, rfl, ⟨n_ga, o_ga, k_ga, c_ga, n_gb, o_gb, k_gb, c_gb, rfl, g1, g2⟩, ⟨n_ra, o_ra, k_ra, c_ra, n_rb, o_rb, k_rb, c_rb, rfl, r1, r2⟩, hb_6⟩
  replace hs := hs.bl hb_6
  have Lg1 := hide (g1.lenOf (rnd_len (H0.out) (zlen_gT1 (ha1.len) (ha2.len) (hq1.len) (hq2.len))))
  have Lg2 := hide (g2.lenOf (rnd_len (H0.out) (zlen_gT2 (ha1.len) (ha2.len) (hq1.len) (hq2.len))))
  have Lr1 := hide (r1.lenOf (zlen_gR1 (ha1.len) (ha2.len) (hq1.len) (hq2.len) (H0.out)))
  have Lr2 := hide (r2.lenOf (zlen_gR2 (ha1.len) (ha2.len) (hq1.len) (hq2.len) (H0.out)))
  refine hK _ _ rfl trivial ?_
  clear hK K
  refine sq ?_
  refine .mv ?_
  refine sq ?_
  refine .r0 ?_
  refine sq ?_
  refine .r0 ?_
  refine sq ?_
  refine .r0 ?_
  refine sq ?_
  refine .al hs ?_; clear hs; intro p_b4 w_7 hs n7 kb_b4
  refine sq ?_
  refine .al hs ?_; clear hs; intro p_b5 w_8 hs n8 kb_b5
  refine sq ?_
  refine .s4 hs.g1 (fun _ => hs.u1 kb_b4) ?_; clear hs; intro w_9 hs hd9 ho9
  refine sq ?_
  refine .s4 hs.g0 (fun _ => hs.u0 kb_b5) ?_; clear hs; intro w_10 hs hd10 ho10
  refine sq ?_
  refine .mv ?_
  apply wpSq_end
  refine hK6 _ _ ?_
  refine wp_seq_k ?_
  intro K7 hK7
  refine rg [0, 1] ?_
  refine sq ?_
  refine .r4 hs.g1.f4 ?_
  refine sq ?_
  refine .s4 hs.g2 (fun _ => hs.u2 kb_b3) ?_; clear hs; intro w_11 hs hd11 ho11
  clear ha1 ha2 hq1 hq2 r1 r2
  apply wpSq_end
  refine hK7 _ _ ?_
  refine wp_ret ?_
  try dsimp only [Exit.then, Exit.inBlock]
  obtain ⟨r0_0, r0_1, r0_2, r0_3⟩ := hs.g2.f4
  refine bodyPost_ret (v := (.agg #[.bool n_ga, .slice o_ga k_ga c_ga, .bool n_gb, .slice o_gb k_gb c_gb])) (by simp [results, Tryz.results43, go_sem, r0_0, r0_1, r0_2, r0_3]) rfl ?_
  have k6_11 := ((((kb n7).b n8).o hd9 ho9).o hd10 ho10).o hd11 ho11
  replace g1 := g1.k k6_11
  replace g2 := g2.k k6_11
  exact ⟨_, rfl, .mk' g1 g2, hs.b⟩
set_option maxHeartbeats 4000000 in
set_option maxRecDepth 20000 in
theorem quot_far {cut : Nat} (ha : PN w va x l y m) (hq : PN w vb u k v n) (hl : l ≤ 8000000) (hm : m ≤ 8000000) (hk : k ≤ 8000000) (hn : n ≤ 8000000) (h0 : gN u v ≠ 0) (hc : gdig u v = cut + 5) (hc0 : 0 < cut) (h2 : gdig x y ≤ gdig u v + 1) (hf : far (gR1 (tp x cut) (tp y cut) (tp u cut) (tp v cut)) (gR2 (tp x cut) (tp y cut) (tp u cut) (tp v cut)) (tp u cut) (tp v cut)) :
    Calls Tryz.prog 43 #[va, vb] w fun e w' => ∃ r, e = .returned r ∧ PC w' r (gQ1 x y u v) (gQ2 x y u v) ∧ Below w.heap.size w w' := by
  obtain ⟨hn0, hq1', hq2'⟩ := quot_top hc h2 hf
  have EQ := hide (And.intro hq1' hq2')
  have H0 := hide h0
  obtain ⟨S, hS⟩ : ∃ S, gdig u v = S := ⟨_, rfl⟩
  obtain ⟨D, hD⟩ : ∃ D, gdig x y = D := ⟨_, rfl⟩
  have hSb : S ≤ 16000000 := by rw [← hS]; exact gdig_le hq.len1 hq.len2 hk hn
  have hDb : D ≤ 16000000 := by rw [← hD]; exact gdig_le ha.len1 ha.len2 hl hm
  rw [hS] at hc h2
  rw [hD] at h2
  have HS := hide hS
  have HD := hide hD
  have hsub : (S : Int) - 5 = (cut : Int) := by omega
  have hg : (0 < (cut : Int)) = True := eq_true (by omega)
  have hg1 : (0 < cut) = True := eq_true hc0
  have hg2 : ((D : Int) ≤ (S : Int) + 1) = True := eq_true (by omega)
  have hg3 : (D ≤ S + 1) = True := eq_true h2
  have HN := hide hn0
  have HF := hide hf
  have LA := hide (And.intro (tp_len (k := cut) ha.len1) (tp_len (k := cut) ha.len2))
  clear h0 hS hD hf hn0 hq1' hq2'
  obtain ⟨n_0a, o_0a, k_0a, c_0a, n_0b, o_0b, k_0b, c_0b, rfl, ha1, ha2⟩ := ha
  obtain ⟨n_1a, o_1a, k_1a, c_1a, n_1b, o_1b, k_1b, c_1b, rfl, hq1, hq2⟩ := hq
  go_enter Tryz.func43, Tryz.ntmps43
  have hs := St.nil w
  refine wp_seq_k ?_
  intro K1 hK1
  refine rg [0, 1, 2] ?_
  refine sq ?_
  refine .al hs ?_; clear hs; intro p_b1 w_1 hs n1 kb_b1
  refine sq ?_
  refine .al hs ?_; clear hs; intro p_b2 w_2 hs n2 kb_b2
  refine sq ?_
  refine .al hs ?_; clear hs; intro p_b3 w_3 hs n3 kb_b3
  apply wpSq_end
  refine hK1 _ _ ?_
  refine wp_seq_k ?_
  intro K2 hK2
  refine rg [0, 1, 2] ?_
  refine sq ?_
  refine .r4 hs.g1.f4 ?_
  refine sq ?_
  intro K hK
  have k0_3 := ((kb n1).b n2).b n3
  replace hq1 := hq1.k k0_3
  replace hq2 := hq2.k k0_3
  go_big_op
  go_fit (gdigits_any (PN.mk' hq1 hq2) (by omega) (by omega))
  rintro e w_4 ⟨rfl, hb_4⟩
  replace hs := hs.bl hb_4
  rw [HS.out]
  refine hK _ _ rfl trivial ?_
  clear hK K
  refine sq ?_
  refine .mv ?_
  apply wpSq_end
  refine hK2 _ _ ?_
  refine wp_seq_k ?_
  intro K3 hK3
  refine wp_seq_k ?_
  intro K4 hK4
  refine rg [0, 1, 2] ?_
  refine sq ?_
  refine .mv ?_
  refine sq ?_
  refine .r0 ?_
  refine sq ?_
  refine .mv ?_
  apply wpSq_end
  refine hK4 _ _ ?_
  refine wp_seq_k ?_
  intro K5 hK5
  refine rg [0, 1, 2, 3, 4, 5, 6, 7, 8] ?_
  refine sq ?_
  refine .mv ?_
  refine sq ?_
  refine .r0 ?_
  refine sq ?_
  refine .mv ?_
  refine sq ?_
  refine .r4 hs.g2.f4 ?_
  refine sq ?_
  intro K hK
  have k0_4 := k0_3.b hb_4
  replace ha1 := ha1.k k0_4
  replace ha2 := ha2.k k0_4
  go_big_op
  go_fit (gdigits_any (PN.mk' ha1 ha2) (by omega) (by omega))
  rintro e w_5 ⟨rfl, hb_5⟩
  replace hs := hs.bl hb_5
  rw [HD.out]
  refine hK _ _ rfl trivial ?_
  clear hK K
  refine sq ?_
  refine .mv ?_
  refine sq ?_
  refine .r0 ?_
  refine sq ?_
  refine .r0 ?_
  refine sq ?_
  refine .r0 ?_
  apply wpSq_end
  refine hK5 _ _ ?_
  refine ct ?_
  refine wp_seq_k ?_
  intro K6 hK6
  refine rg [0, 1, 2, 3, 4] ?_
  refine sq ?_
  refine .r4 hs.g1.f4 ?_
  refine sq ?_
  refine .mv ?_
  refine sq ?_
  intro K hK
  have k3_5 := (kb hb_4).b hb_5
  replace hq1 := hq1.k k3_5
  replace hq2 := hq2.k k3_5
  go_big_op
  go_fit (gtop_any cut (PN.mk' hq1 hq2) (by omega) (by omega) (by omega))
  rintro e w_6 ⟨_, rfl, ⟨n_ta, o_ta, k_ta, c_ta, n_tb, o_tb, k_tb, c_tb, rfl, t1, t2⟩, hb_6⟩
  replace hs := hs.bl hb_6
  refine hK _ _ rfl trivial ?_
  clear hK K
  refine sq ?_
  refine .al hs ?_; clear hs; intro p_b4 w_7 hs n7 kb_b4
  refine sq ?_
  refine .s4 hs.g0 (fun _ => hs.u0 kb_b4) ?_; clear hs; intro w_8 hs hd8 ho8
  apply wpSq_end
  refine hK6 _ _ ?_
  refine wp_seq_k ?_
  intro K7 hK7
  refine wp_region_f4 [(0, false), (1, false), (3, false), (2, true), (4, true), (5, false), (6, false), (7, false), (8, false)] [11, 12, 13] [9, 10] (fun j => if j = 9 then (.cells #[.bool false, .slice none 0 0, .bool false, .slice none 0 0] 29) else (.cells #[.bool false, .slice none 0 0, .bool false, .slice none 0 0] 29)) [0, 99, 99, 1, 99, 99, 99, 99, 99, 99, 99, 99, 99, 99] [] (.c hs.g3 (.c hs.g0 .n)) (fm (fm fn)) fun w_9 n9 => ?_
  replace hs := hs.bl n9
  have hl := hs.lt; have hk := hs.k
  refine f4 ?_
  refine fmv ?_
  refine f4 ?_
  refine fl fun w_10 n10 => ?_
  replace hs := hs.bl n10
  intro K hK
  have k4_10 := (((((kb hb_5).b hb_6).b n7).o hd8 ho8).b n9).b n10
  replace ha1 := ha1.k k4_10
  replace ha2 := ha2.k k4_10
  go_big_op
  go_fit (gtop_any cut (PN.mk' ha1 ha2) (by omega) (by omega) (by omega))
  rintro e w_11 ⟨_, rfl, ⟨n_sa, o_sa, k_sa, c_sa, n_sb, o_sb, k_sb, c_sb, rfl, s1, s2⟩, hb_11⟩
  replace hs := hs.bl hb_11
  refine hK _ _ rfl ⟨hb_11, (And.intro hs.g3 (And.intro hs.g0 trivial))⟩ ?_
  clear hK K
  refine fl fun w_12 n12 => ?_
  replace hs := hs.bl n12
  intro K hK
  have k11_12 := kb n12
  replace s1 := s1.k k11_12
  replace s2 := s2.k k11_12
  have k6_12 := (((((kb n7).o hd8 ho8).b n9).b n10).b hb_11).b n12
  replace t1 := t1.k k6_12
  replace t2 := t2.k k6_12
  go_big_op
  go_fit (gRound_any (PN.mk' s1 s2) (PN.mk' t1 t2) (by omega) (by omega) (by omega) (by omega) HN.out)
  rintro e w_13 ⟨_, _, rfl, ⟨n_ga, o_ga, k_ga, c_ga, n_gb, o_gb, k_gb, c_gb, rfl, g1, g2⟩, ⟨n_ra, o_ra, k_ra, c_ra, n_rb, o_rb, k_rb, c_rb, rfl, r1, r2⟩, hb_13⟩
  replace hs := hs.bl hb_13
  have Lg1 := hide (g1.lenOf (rnd_len (HN.out) (zlen_gT1 (s1.len) (s2.len) (t1.len) (t2.len))))
  have Lg2 := hide (g2.lenOf (rnd_len (HN.out) (zlen_gT2 (s1.len) (s2.len) (t1.len) (t2.len))))
  have Lr1 := hide (r1.lenOf (zlen_gR1 (s1.len) (s2.len) (t1.len) (t2.len) (HN.out)))
  have Lr2 := hide (r2.lenOf (zlen_gR2 (s1.len) (s2.len) (t1.len) (t2.len) (HN.out)))
  refine hK _ _ rfl ⟨hb_13, (And.intro hs.g3 (And.intro hs.g0 trivial))⟩ ?_
  clear hK K
  refine fmv ?_
  refine f0 ?_
  refine f0 ?_
  refine f0 ?_
  refine e2 hs hl hk ?_; clear hs hl hk; intro w_14 p_b5 p_b6 hs n14 kb_b5 kb_b6
  refine tl ?_
  refine .s4 hs.g0 (fun _ => hs.u0 kb_b5) ?_ (e := fun _ hs => (And.intro hs.g5 (And.intro hs.g2 True.intro))); clear hs; intro w_15 hs hd15 ho15
  refine tl ?_
  refine .s4 hs.g1 (fun _ => hs.u1 kb_b6) ?_ (e := fun _ hs => (And.intro hs.g5 (And.intro hs.g2 True.intro))); clear hs; intro w_16 hs hd16 ho16
  refine tl ?_
  refine .mv ?_ (e := (And.intro hs.g5 (And.intro hs.g2 True.intro)))
  apply wpTail_end
  refine hK7 _ _ ?_
  refine wp_seq_k ?_
  intro K8 hK8
  refine rg [0, 1, 2] ?_
  refine sq ?_
  refine .r4 hs.g1.f4 ?_
  refine sq ?_
  refine .r4 hs.g2.f4 ?_
  refine sq ?_
  intro K hK
  have k13_16 := ((kb n14).o hd15 ho15).o hd16 ho16
  replace r1 := r1.k k13_16
  have k12_16 := (((kb hb_13).b n14).o hd15 ho15).o hd16 ho16
  replace t1 := t1.k k12_16
  replace t2 := t2.k k12_16
  replace r2 := r2.k k13_16
  go_big_op
  go_fit (far_yes (.mk' (r1.zn (gR_len HN.out t1.len t2.len).1) (r2.zn (gR_len HN.out t1.len t2.len).2)) (PN.mk' t1 t2) (by omega) (by omega) (by omega) (by omega) HF.out.1 HF.out.2)
  rintro e w_17 ⟨rfl, hb_17⟩
  replace hs := hs.bl hb_17
  refine hK _ _ rfl trivial ?_
  clear hK K
  apply wpSq_end
  refine hK8 _ _ ?_
  refine ct ?_
  refine wp_seq_k ?_
  intro K9 hK9
  refine rg [0, 1] ?_
  refine sq ?_
  refine .r4 hs.g0.f4 ?_
  refine sq ?_
  refine .s4 hs.g3 (fun _ => hs.u3 kb_b3) ?_; clear hs; intro w_18 hs hd18 ho18
  clear s1 s2 t1 t2 r1 r2
  apply wpSq_end
  refine hK9 _ _ ?_
  refine wp_ret ?_
  have k13_18 := (k13_16.b hb_17).o hd18 ho18
  replace g1 := g1.k k13_18
  rw [EQ.out.1] at g1
  replace g2 := g2.k k13_18
  rw [EQ.out.2] at g2
  try dsimp only [Exit.then, Exit.inBlock]
  obtain ⟨r0_0, r0_1, r0_2, r0_3⟩ := hs.g3.f4
  refine bodyPost_ret (v := (.agg #[.bool n_ga, .slice o_ga k_ga c_ga, .bool n_gb, .slice o_gb k_gb c_gb])) (by simp [results, Tryz.results43, go_sem, r0_0, r0_1, r0_2, r0_3]) rfl ?_
  exact ⟨_, rfl, .mk' g1 g2, hs.b⟩
set_option maxHeartbeats 4000000 in
set_option maxRecDepth 20000 in
theorem quot_near {cut : Nat} (ha : PN w va x l y m) (hq : PN w vb u k v n) (hl : l ≤ 8000000) (hm : m ≤ 8000000) (hk : k ≤ 8000000) (hn : n ≤ 8000000) (h0 : gN u v ≠ 0) (hc : gdig u v = cut + 5) (hc0 : 0 < cut) (h2 : gdig x y ≤ gdig u v + 1) (hn0 : gN (tp u cut) (tp v cut) ≠ 0) (hf : ¬ far (gR1 (tp x cut) (tp y cut) (tp u cut) (tp v cut)) (gR2 (tp x cut) (tp y cut) (tp u cut) (tp v cut)) (tp u cut) (tp v cut)) :
    Calls Tryz.prog 43 #[va, vb] w fun e w' => ∃ r, e = .returned r ∧ PC w' r (gQ1 x y u v) (gQ2 x y u v) ∧ Below w.heap.size w w' := by
  have H0 := hide h0
  obtain ⟨S, hS⟩ : ∃ S, gdig u v = S := ⟨_, rfl⟩
  obtain ⟨D, hD⟩ : ∃ D, gdig x y = D := ⟨_, rfl⟩
  have hSb : S ≤ 16000000 := by rw [← hS]; exact gdig_le hq.len1 hq.len2 hk hn
  have hDb : D ≤ 16000000 := by rw [← hD]; exact gdig_le ha.len1 ha.len2 hl hm
  rw [hS] at hc h2
  rw [hD] at h2
  have HS := hide hS
  have HD := hide hD
  have hsub : (S : Int) - 5 = (cut : Int) := by omega
  have hg : (0 < (cut : Int)) = True := eq_true (by omega)
  have hg1 : (0 < cut) = True := eq_true hc0
  have hg2 : ((D : Int) ≤ (S : Int) + 1) = True := eq_true (by omega)
  have hg3 : (D ≤ S + 1) = True := eq_true h2
  have HN := hide hn0
  have HF := hide hf
  have LA := hide (And.intro (tp_len (k := cut) ha.len1) (tp_len (k := cut) ha.len2))
  clear h0 hS hD hf hn0
  obtain ⟨n_0a, o_0a, k_0a, c_0a, n_0b, o_0b, k_0b, c_0b, rfl, ha1, ha2⟩ := ha
  obtain ⟨n_1a, o_1a, k_1a, c_1a, n_1b, o_1b, k_1b, c_1b, rfl, hq1, hq2⟩ := hq
  go_enter Tryz.func43, Tryz.ntmps43
  have hs := St.nil w
  refine wp_seq_k ?_
  intro K1 hK1
  refine rg [0, 1, 2] ?_
  refine sq ?_
  refine .al hs ?_; clear hs; intro p_b1 w_1 hs n1 kb_b1
  refine sq ?_
  refine .al hs ?_; clear hs; intro p_b2 w_2 hs n2 kb_b2
  refine sq ?_
  refine .al hs ?_; clear hs; intro p_b3 w_3 hs n3 kb_b3
  apply wpSq_end
  refine hK1 _ _ ?_
  refine wp_seq_k ?_
  intro K2 hK2
  refine rg [0, 1, 2] ?_
  refine sq ?_
  refine .r4 hs.g1.f4 ?_
  refine sq ?_
  intro K hK
  have k0_3 := ((kb n1).b n2).b n3
  replace hq1 := hq1.k k0_3
  replace hq2 := hq2.k k0_3
  go_big_op
  go_fit (gdigits_any (PN.mk' hq1 hq2) (by omega) (by omega))
  rintro e w_4 ⟨rfl, hb_4⟩
  replace hs := hs.bl hb_4
  rw [HS.out]
  refine hK _ _ rfl trivial ?_
  clear hK K
  refine sq ?_
  refine .mv ?_
  apply wpSq_end
  refine hK2 _ _ ?_
  refine wp_seq_k ?_
  intro K3 hK3
  refine wp_seq_k ?_
  intro K4 hK4
  refine rg [0, 1, 2] ?_
  refine sq ?_
  refine .mv ?_
  refine sq ?_
  refine .r0 ?_
  refine sq ?_
  refine .mv ?_
  apply wpSq_end
  refine hK4 _ _ ?_
  refine wp_seq_k ?_
  intro K5 hK5
  refine rg [0, 1, 2, 3, 4, 5, 6, 7, 8] ?_
  refine sq ?_
  refine .mv ?_
  refine sq ?_
  refine .r0 ?_
  refine sq ?_
  refine .mv ?_
  refine sq ?_
  refine .r4 hs.g2.f4 ?_
  refine sq ?_
  intro K hK
  have k0_4 := k0_3.b hb_4
  replace ha1 := ha1.k k0_4
  replace ha2 := ha2.k k0_4
  go_big_op
  go_fit (gdigits_any (PN.mk' ha1 ha2) (by omega) (by omega))
  rintro e w_5 ⟨rfl, hb_5⟩
  replace hs := hs.bl hb_5
  rw [HD.out]
  refine hK _ _ rfl trivial ?_
  clear hK K
  refine sq ?_
  refine .mv ?_
  refine sq ?_
  refine .r0 ?_
  refine sq ?_
  refine .r0 ?_
  refine sq ?_
  refine .r0 ?_
  apply wpSq_end
  refine hK5 _ _ ?_
  refine ct ?_
  refine wp_seq_k ?_
  intro K6 hK6
  refine rg [0, 1, 2, 3, 4] ?_
  refine sq ?_
  refine .r4 hs.g1.f4 ?_
  refine sq ?_
  refine .mv ?_
  refine sq ?_
  intro K hK
  have k3_5 := (kb hb_4).b hb_5
  replace hq1 := hq1.k k3_5
  replace hq2 := hq2.k k3_5
  go_big_op
  go_fit (gtop_any cut (PN.mk' hq1 hq2) (by omega) (by omega) (by omega))
  rintro e w_6 ⟨_, rfl, ⟨n_ta, o_ta, k_ta, c_ta, n_tb, o_tb, k_tb, c_tb, rfl, t1, t2⟩, hb_6⟩
  replace hs := hs.bl hb_6
  refine hK _ _ rfl trivial ?_
  clear hK K
  refine sq ?_
  refine .al hs ?_; clear hs; intro p_b4 w_7 hs n7 kb_b4
  refine sq ?_
  refine .s4 hs.g0 (fun _ => hs.u0 kb_b4) ?_; clear hs; intro w_8 hs hd8 ho8
  apply wpSq_end
  refine hK6 _ _ ?_
  refine wp_seq_k ?_
  intro K7 hK7
  refine wp_region_f4 [(0, false), (1, false), (3, false), (2, true), (4, true), (5, false), (6, false), (7, false), (8, false)] [11, 12, 13] [9, 10] (fun j => if j = 9 then (.cells #[.bool false, .slice none 0 0, .bool false, .slice none 0 0] 29) else (.cells #[.bool false, .slice none 0 0, .bool false, .slice none 0 0] 29)) [0, 99, 99, 1, 99, 99, 99, 99, 99, 99, 99, 99, 99, 99] [] (.c hs.g3 (.c hs.g0 .n)) (fm (fm fn)) fun w_9 n9 => ?_
  replace hs := hs.bl n9
  have hl := hs.lt; have hk := hs.k
  refine f4 ?_
  refine fmv ?_
  refine f4 ?_
  refine fl fun w_10 n10 => ?_
  replace hs := hs.bl n10
  intro K hK
  have k4_10 := (((((kb hb_5).b hb_6).b n7).o hd8 ho8).b n9).b n10
  replace ha1 := ha1.k k4_10
  replace ha2 := ha2.k k4_10
  go_big_op
  go_fit (gtop_any cut (PN.mk' ha1 ha2) (by omega) (by omega) (by omega))
  rintro e w_11 ⟨_, rfl, ⟨n_sa, o_sa, k_sa, c_sa, n_sb, o_sb, k_sb, c_sb, rfl, s1, s2⟩, hb_11⟩
  replace hs := hs.bl hb_11
  refine hK _ _ rfl ⟨hb_11, (And.intro hs.g3 (And.intro hs.g0 trivial))⟩ ?_
  clear hK K
  refine fl fun w_12 n12 => ?_
  replace hs := hs.bl n12
  intro K hK
  have k11_12 := kb n12
  replace s1 := s1.k k11_12
  replace s2 := s2.k k11_12
  have k6_12 := (((((kb n7).o hd8 ho8).b n9).b n10).b hb_11).b n12
  replace t1 := t1.k k6_12
  replace t2 := t2.k k6_12
  go_big_op
  go_fit (gRound_any (PN.mk' s1 s2) (PN.mk' t1 t2) (by omega) (by omega) (by omega) (by omega) HN.out)
  rintro e w_13 ⟨_, _, rfl, ⟨n_ga, o_ga, k_ga, c_ga, n_gb, o_gb, k_gb, c_gb, rfl, g1, g2⟩, ⟨n_ra, o_ra, k_ra, c_ra, n_rb, o_rb, k_rb, c_rb, rfl, r1, r2⟩, hb_13⟩
  replace hs := hs.bl hb_13
  have Lg1 := hide (g1.lenOf (rnd_len (HN.out) (zlen_gT1 (s1.len) (s2.len) (t1.len) (t2.len))))
  have Lg2 := hide (g2.lenOf (rnd_len (HN.out) (zlen_gT2 (s1.len) (s2.len) (t1.len) (t2.len))))
  have Lr1 := hide (r1.lenOf (zlen_gR1 (s1.len) (s2.len) (t1.len) (t2.len) (HN.out)))
  have Lr2 := hide (r2.lenOf (zlen_gR2 (s1.len) (s2.len) (t1.len) (t2.len) (HN.out)))
  refine hK _ _ rfl ⟨hb_13, (And.intro hs.g3 (And.intro hs.g0 trivial))⟩ ?_
  clear hK K
  refine fmv ?_
  refine f0 ?_
  refine f0 ?_
  refine f0 ?_
  refine e2 hs hl hk ?_; clear hs hl hk; intro w_14 p_b5 p_b6 hs n14 kb_b5 kb_b6
  refine tl ?_
  refine .s4 hs.g0 (fun _ => hs.u0 kb_b5) ?_ (e := fun _ hs => (And.intro hs.g5 (And.intro hs.g2 True.intro))); clear hs; intro w_15 hs hd15 ho15
  refine tl ?_
  refine .s4 hs.g1 (fun _ => hs.u1 kb_b6) ?_ (e := fun _ hs => (And.intro hs.g5 (And.intro hs.g2 True.intro))); clear hs; intro w_16 hs hd16 ho16
  refine tl ?_
  refine .mv ?_ (e := (And.intro hs.g5 (And.intro hs.g2 True.intro)))
  apply wpTail_end
  refine hK7 _ _ ?_
  refine wp_seq_k ?_
  intro K8 hK8
  refine rg [0, 1, 2] ?_
  refine sq ?_
  refine .r4 hs.g1.f4 ?_
  refine sq ?_
  refine .r4 hs.g2.f4 ?_
  refine sq ?_
  intro K hK
  have k13_16 := ((kb n14).o hd15 ho15).o hd16 ho16
  replace r1 := r1.k k13_16
  have k12_16 := (((kb hb_13).b n14).o hd15 ho15).o hd16 ho16
  replace t1 := t1.k k12_16
  replace t2 := t2.k k12_16
  replace r2 := r2.k k13_16
  go_big_op
  go_fit (far_no (.mk' (r1.zn (gR_len HN.out t1.len t2.len).1) (r2.zn (gR_len HN.out t1.len t2.len).2)) (PN.mk' t1 t2) (by omega) (by omega) (by omega) (by omega) HF.out)
  rintro e w_17 ⟨rfl, hb_17⟩
  replace hs := hs.bl hb_17
  refine hK _ _ rfl trivial ?_
  clear hK K
  apply wpSq_end
  refine hK8 _ _ ?_
  refine cf ?_
  refine wp_skip ?_
  refine hK3 _ _ ?_
  refine wp_seq_k ?_
  intro K9 hK9
  refine rg [0, 1, 2, 3, 4, 5, 6, 7, 8, 9, 10, 11] ?_
  refine sq ?_
  refine .r4 hs.g5.f4 ?_
  refine sq ?_
  refine .r4 hs.g4.f4 ?_
  refine sq ?_
  intro K hK
  have k10_17 := ((((((kb hb_11).b n12).b hb_13).b n14).o hd15 ho15).o hd16 ho16).b hb_17
  replace ha1 := ha1.k k10_17
  replace ha2 := ha2.k k10_17
  have k5_17 := (((((((((((kb hb_6).b n7).o hd8 ho8).b n9).b n10).b hb_11).b n12).b hb_13).b n14).o hd15 ho15).o hd16 ho16).b hb_17
  replace hq1 := hq1.k k5_17
  replace hq2 := hq2.k k5_17
  go_big_op
  go_fit (gRound_any (PN.mk' ha1 ha2) (PN.mk' hq1 hq2) (by omega) (by omega) (by omega) (by omega) H0.out)
  rintro e w_18 ⟨_, _, rfl, ⟨n_oa, o_oa, k_oa, c_oa, n_ob, o_ob, k_ob, c_ob, rfl, o1, o2⟩, ⟨n_qa, o_qa, k_qa, c_qa, n_qb, o_qb, k_qb, c_qb, rfl, q1, q2⟩, hb_18⟩
  clear s1 s2 t1 t2 g1 g2 r1 r2
  replace hs := hs.bl hb_18
  have Lo1 := hide (o1.lenOf (rnd_len (H0.out) (zlen_gT1 (ha1.len) (ha2.len) (hq1.len) (hq2.len))))
  have Lo2 := hide (o2.lenOf (rnd_len (H0.out) (zlen_gT2 (ha1.len) (ha2.len) (hq1.len) (hq2.len))))
  have Lq1 := hide (q1.lenOf (zlen_gR1 (ha1.len) (ha2.len) (hq1.len) (hq2.len) (H0.out)))
  have Lq2 := hide (q2.lenOf (zlen_gR2 (ha1.len) (ha2.len) (hq1.len) (hq2.len) (H0.out)))
  refine hK _ _ rfl trivial ?_
  clear hK K
  refine sq ?_
  refine .mv ?_
  refine sq ?_
  refine .r0 ?_
  refine sq ?_
  refine .r0 ?_
  refine sq ?_
  refine .r0 ?_
  refine sq ?_
  refine .al hs ?_; clear hs; intro p_b7 w_19 hs n19 kb_b7
  refine sq ?_
  refine .al hs ?_; clear hs; intro p_b8 w_20 hs n20 kb_b8
  refine sq ?_
  refine .s4 hs.g1 (fun _ => hs.u1 kb_b7) ?_; clear hs; intro w_21 hs hd21 ho21
  refine sq ?_
  refine .s4 hs.g0 (fun _ => hs.u0 kb_b8) ?_; clear hs; intro w_22 hs hd22 ho22
  refine sq ?_
  refine .mv ?_
  apply wpSq_end
  refine hK9 _ _ ?_
  refine wp_seq_k ?_
  intro K10 hK10
  refine rg [0, 1] ?_
  refine sq ?_
  refine .r4 hs.g1.f4 ?_
  refine sq ?_
  refine .s4 hs.g5 (fun _ => hs.u5 kb_b3) ?_; clear hs; intro w_23 hs hd23 ho23
  clear ha1 ha2 hq1 hq2 q1 q2
  apply wpSq_end
  refine hK10 _ _ ?_
  refine wp_ret ?_
  try dsimp only [Exit.then, Exit.inBlock]
  obtain ⟨r0_0, r0_1, r0_2, r0_3⟩ := hs.g5.f4
  refine bodyPost_ret (v := (.agg #[.bool n_oa, .slice o_oa k_oa c_oa, .bool n_ob, .slice o_ob k_ob c_ob])) (by simp [results, Tryz.results43, go_sem, r0_0, r0_1, r0_2, r0_3]) rfl ?_
  have k18_23 := ((((kb n19).b n20).o hd21 ho21).o hd22 ho22).o hd23 ho23
  replace o1 := o1.k k18_23
  replace o2 := o2.k k18_23
  exact ⟨_, rfl, .mk' o1 o2, hs.b⟩
theorem quot_any (ha : PN w va x l y m) (hq : PN w vb u k v n) (hl : l ≤ 2400000) (hm : m ≤ 2400000) (hk : k ≤ 2400000) (hn : n ≤ 2400000) (h0 : gN u v ≠ 0) :
    Calls Tryz.prog 43 #[va, vb] w fun e w' => ∃ r, e = .returned r ∧ PC w' r (gQ1 x y u v) (gQ2 x y u v) ∧ Below w.heap.size w w' := by
  by_cases h1 : gdig u v ≤ 5
  · exact quot_small ha hq (by omega) (by omega) (by omega) (by omega) h0 h1
  by_cases h2 : gdig u v + 1 < gdig x y
  · exact quot_long ha hq (by omega) (by omega) (by omega) (by omega) h0 (by omega) h2
  obtain ⟨cut, hc⟩ : ∃ cut, gdig u v = cut + 5 := ⟨gdig u v - 5, by omega⟩
  by_cases hf : far (gR1 (tp x cut) (tp y cut) (tp u cut) (tp v cut)) (gR2 (tp x cut) (tp y cut) (tp u cut) (tp v cut)) (tp u cut) (tp v cut)
  · exact quot_far ha hq (by omega) (by omega) (by omega) (by omega) h0 hc (by omega) (by omega) hf
  · exact quot_near ha hq (by omega) (by omega) (by omega) (by omega) h0 hc (by omega) (by omega) (tp_ne hc (by omega)) hf
end
end Go.Proofs.YtgjainmfilkjmaaGreatDoor


/- The divisions of Xgcd: what each keeps, where they end. -/
namespace Go.Proofs.YtgjainmfilkjmaaGreatDoor
open Go Go.RowKit Dig
set_option linter.unusedVariables false

structure GS where
  r1 : Int
  r2 : Int
  x1 : Int
  x2 : Int
  y1 : Int
  y2 : Int
  s1 : Int
  s2 : Int
  u1 : Int
  u2 : Int
  v1 : Int
  v2 : Int
/-- One division further. -/
def GS.step (t : GS) : GS :=
  let q1 := gQ1 t.r1 t.r2 t.s1 t.s2
  let q2 := gQ2 t.r1 t.r2 t.s1 t.s2
  { r1 := t.s1, r2 := t.s2, x1 := t.u1, x2 := t.u2, y1 := t.v1, y2 := t.v2
    s1 := t.r1 - (q1 * t.s1 - q2 * t.s2), s2 := t.r2 - (q1 * t.s2 + q2 * t.s1)
    u1 := t.x1 - (q1 * t.u1 - q2 * t.u2), u2 := t.x2 - (q1 * t.u2 + q2 * t.u1)
    v1 := t.y1 - (q1 * t.v1 - q2 * t.v2), v2 := t.y2 - (q1 * t.v2 + q2 * t.v1) }
def gfin : Nat → GS → GS
  | 0, t => t
  | n + 1, t => if gN t.s1 t.s2 = 0 then t else gfin n t.step
theorem gfin_done {n : Nat} {t : GS} (h : gN t.s1 t.s2 = 0) : gfin n t = t := by
  cases n with
  | zero => rfl
  | succ n => unfold gfin; rw [if_pos h]
theorem step_less {t : GS} (h : gN t.s1 t.s2 ≠ 0) : gN t.step.s1 t.step.s2 + gN t.step.s1 t.step.s2 ≤ gN t.s1 t.s2 := gR_half h
theorem gfin_fuel : ∀ (n m : Nat) (t : GS), (gN t.s1 t.s2).toNat ≤ n → (gN t.s1 t.s2).toNat ≤ m → gfin n t = gfin m t := by
  intro n
  induction n with
  | zero =>
    intro m t h1 h2
    have := gN_nonneg t.s1 t.s2
    rw [gfin_done (by omega), gfin_done (by omega)]
  | succ n ih =>
    intro m t h1 h2
    by_cases h0 : gN t.s1 t.s2 = 0
    · rw [gfin_done h0, gfin_done h0]
    · have hn := gN_nonneg t.s1 t.s2
      have hl := step_less h0
      have hs := gN_nonneg t.step.s1 t.step.s2
      cases m with
      | zero => omega
      | succ m =>
        show (if _ then _ else _) = (if _ then _ else _)
        rw [if_neg h0, if_neg h0]
        exact ih m _ (by omega) (by omega)
/-- Where the divisions end. -/
def GS.fin (t : GS) : GS := gfin (gN t.s1 t.s2).toNat t
theorem fin_done {t : GS} (h : gN t.s1 t.s2 = 0) : t.fin = t := gfin_done h
theorem fin_step {t : GS} (h : gN t.s1 t.s2 ≠ 0) : t.step.fin = t.fin := by
  have hn := gN_nonneg t.s1 t.s2
  have hl := step_less h
  have hs := gN_nonneg t.step.s1 t.step.s2
  unfold GS.fin
  obtain ⟨n, hk⟩ : ∃ n, (gN t.s1 t.s2).toNat = n + 1 := ⟨(gN t.s1 t.s2).toNat - 1, by omega⟩
  rw [hk]
  show _ = (if _ then _ else _)
  rw [if_neg h]
  exact gfin_fuel _ _ _ (Nat.le_refl _) (by omega)
def GS.start (a1 a2 b1 b2 : Int) : GS := { r1 := a1, r2 := a2, x1 := 1, x2 := 0, y1 := 0, y2 := 0, s1 := b1, s2 := b2, u1 := 0, u2 := 0, v1 := 1, v2 := 0 }
/-- What each division keeps. -/
structure GI (a1 a2 b1 b2 : Int) (t : GS) : Prop where
  r : t.r1 = a1 * t.x1 - a2 * t.x2 + (b1 * t.y1 - b2 * t.y2) ∧ t.r2 = a1 * t.x2 + a2 * t.x1 + (b1 * t.y2 + b2 * t.y1)
  s : t.s1 = a1 * t.u1 - a2 * t.u2 + (b1 * t.v1 - b2 * t.v2) ∧ t.s2 = a1 * t.u2 + a2 * t.u1 + (b1 * t.v2 + b2 * t.v1)
  c : ∃ e : Int, (e = 1 ∨ e = -1) ∧ (t.r1 * t.u1 - t.r2 * t.u2 - (t.s1 * t.x1 - t.s2 * t.x2) = e * b1 ∧ t.r1 * t.u2 + t.r2 * t.u1 - (t.s1 * t.x2 + t.s2 * t.x1) = e * b2) ∧
    (t.r1 * t.v1 - t.r2 * t.v2 - (t.s1 * t.y1 - t.s2 * t.y2) = -e * a1 ∧ t.r1 * t.v2 + t.r2 * t.v1 - (t.s1 * t.y2 + t.s2 * t.y1) = -e * a2)
  nr : gN t.r1 t.r2 ≤ gN a1 a2 + gN b1 b2
  ns : gN t.s1 t.s2 ≤ gN a1 a2 + gN b1 b2
  nx : gN t.x1 t.x2 ≤ 4 * (gN a1 a2 + gN b1 b2) + 1
  ny : gN t.y1 t.y2 ≤ 4 * (gN a1 a2 + gN b1 b2) + 1
  nu : gN t.u1 t.u2 ≤ 4 * (gN a1 a2 + gN b1 b2) + 1
  nv : gN t.v1 t.v2 ≤ 4 * (gN a1 a2 + gN b1 b2) + 1
  su : gN t.s1 t.s2 * gN t.u1 t.u2 ≤ 2 * (gN a1 a2 + gN b1 b2)
  sv : gN t.s1 t.s2 * gN t.v1 t.v2 ≤ 2 * (gN a1 a2 + gN b1 b2)
  da : ∃ c1 c2 d1 d2 : Int, a1 = t.r1 * c1 - t.r2 * c2 + (t.s1 * d1 - t.s2 * d2) ∧ a2 = t.r1 * c2 + t.r2 * c1 + (t.s1 * d2 + t.s2 * d1)
  db : ∃ c1 c2 d1 d2 : Int, b1 = t.r1 * c1 - t.r2 * c2 + (t.s1 * d1 - t.s2 * d2) ∧ b2 = t.r1 * c2 + t.r2 * c1 + (t.s1 * d2 + t.s2 * d1)
theorem GI.start (a1 a2 b1 b2 : Int) : GI a1 a2 b1 b2 (GS.start a1 a2 b1 b2) := by
  have h1 := gN_nonneg a1 a2
  have h2 := gN_nonneg b1 b2
  have h3 : gN 0 0 = 0 := rfl
  have h4 : gN 1 0 = 1 := rfl
  exact {
    r := by constructor <;> (simp only [GS.start]; grind)
    s := by constructor <;> (simp only [GS.start]; grind)
    c := ⟨-1, .inr rfl, by constructor <;> (simp only [GS.start]; grind), by constructor <;> (simp only [GS.start]; grind)⟩
    nr := by simp only [GS.start]; omega
    ns := by simp only [GS.start]; omega
    nx := by simp only [GS.start]; omega
    ny := by simp only [GS.start]; omega
    nu := by simp only [GS.start]; omega
    nv := by simp only [GS.start]; omega
    su := by simp only [GS.start]; rw [h3]; omega
    sv := by simp only [GS.start]; rw [h4]; omega
    da := ⟨1, 0, 0, 0, by constructor <;> (simp only [GS.start]; grind)⟩
    db := ⟨0, 0, 1, 0, by constructor <;> (simp only [GS.start]; grind)⟩ }
theorem gN_add (a b c d : Int) : gN (a + c) (b + d) ≤ 2 * gN a b + 2 * gN c d := by
  have h1 := msq (a - c)
  have h2 := msq (b - d)
  have e : 2 * gN a b + 2 * gN c d - gN (a + c) (b + d) = (a - c) * (a - c) + (b - d) * (b - d) := by unfold gN; grind
  omega
theorem gN_sgn (e b1 b2 : Int) (he : e = 1 ∨ e = -1) : gN (e * b1) (e * b2) = gN b1 b2 := by
  rcases he with rfl | rfl <;> unfold gN <;> grind
/-- The factors stay short. -/
theorem fac_step {s1 s2 u1 u2 u1' u2' t1 t2 b1 b2 e M : Int} (he : e = 1 ∨ e = -1) (h0 : gN s1 s2 ≠ 0) (hb : gN b1 b2 ≤ M)
    (e1 : s1 * u1' - s2 * u2' = e * b1 + (t1 * u1 - t2 * u2)) (e2 : s1 * u2' + s2 * u1' = e * b2 + (t1 * u2 + t2 * u1))
    (ht : gN t1 t2 + gN t1 t2 ≤ gN s1 s2) (hu : gN s1 s2 * gN u1 u2 ≤ 2 * M) : gN u1' u2' ≤ 4 * M ∧ gN t1 t2 * gN u1' u2' ≤ 2 * M := by
  have h1 := gN_mul s1 s2 u1' u2'
  rw [e1, e2] at h1
  have h2 := gN_add (e * b1) (e * b2) (t1 * u1 - t2 * u2) (t1 * u2 + t2 * u1)
  rw [gN_sgn e b1 b2 he, gN_mul] at h2
  have hn := gN_nonneg u1 u2
  have hn' := gN_nonneg u1' u2'
  have h3 := Int.mul_le_mul_of_nonneg_right ht hn
  have f1 : (gN t1 t2 + gN t1 t2) * gN u1 u2 = 2 * (gN t1 t2 * gN u1 u2) := by grind
  have h4 : gN s1 s2 * gN u1' u2' ≤ 4 * M := by omega
  have h5 := Int.mul_le_mul_of_nonneg_right ht hn'
  have f2 : (gN t1 t2 + gN t1 t2) * gN u1' u2' = 2 * (gN t1 t2 * gN u1' u2') := by grind
  have hp := gN_pos h0
  have h6 := Int.mul_le_mul_of_nonneg_right (show (1 : Int) ≤ gN s1 s2 by omega) hn'
  constructor <;> omega
theorem lin1 {r1 s1 s2 a1 a2 b1 b2 x1 x2 y1 y2 u1 u2 v1 v2 : Int} (q1 q2 : Int) (hr : r1 = a1 * x1 - a2 * x2 + (b1 * y1 - b2 * y2)) (h1 : s1 = a1 * u1 - a2 * u2 + (b1 * v1 - b2 * v2)) (h2 : s2 = a1 * u2 + a2 * u1 + (b1 * v2 + b2 * v1)) :
    r1 - (q1 * s1 - q2 * s2) = a1 * (x1 - (q1 * u1 - q2 * u2)) - a2 * (x2 - (q1 * u2 + q2 * u1)) + (b1 * (y1 - (q1 * v1 - q2 * v2)) - b2 * (y2 - (q1 * v2 + q2 * v1))) := by
  rw [hr, h1, h2]; clear hr h1 h2; grind
theorem lin2 {r2 s1 s2 a1 a2 b1 b2 x1 x2 y1 y2 u1 u2 v1 v2 : Int} (q1 q2 : Int) (hr : r2 = a1 * x2 + a2 * x1 + (b1 * y2 + b2 * y1)) (h1 : s1 = a1 * u1 - a2 * u2 + (b1 * v1 - b2 * v2)) (h2 : s2 = a1 * u2 + a2 * u1 + (b1 * v2 + b2 * v1)) :
    r2 - (q1 * s2 + q2 * s1) = a1 * (x2 - (q1 * u2 + q2 * u1)) + a2 * (x1 - (q1 * u1 - q2 * u2)) + (b1 * (y2 - (q1 * v2 + q2 * v1)) + b2 * (y1 - (q1 * v1 - q2 * v2))) := by
  rw [hr, h1, h2]; clear hr h1 h2; grind
theorem crs1 (r1 r2 s1 s2 x1 x2 u1 u2 q1 q2 : Int) : s1 * (x1 - (q1 * u1 - q2 * u2)) - s2 * (x2 - (q1 * u2 + q2 * u1)) - ((r1 - (q1 * s1 - q2 * s2)) * u1 - (r2 - (q1 * s2 + q2 * s1)) * u2) = -(r1 * u1 - r2 * u2 - (s1 * x1 - s2 * x2)) := by grind
theorem crs2 (r1 r2 s1 s2 x1 x2 u1 u2 q1 q2 : Int) : s1 * (x2 - (q1 * u2 + q2 * u1)) + s2 * (x1 - (q1 * u1 - q2 * u2)) - ((r1 - (q1 * s1 - q2 * s2)) * u2 + (r2 - (q1 * s2 + q2 * s1)) * u1) = -(r1 * u2 + r2 * u1 - (s1 * x2 + s2 * x1)) := by grind
theorem dvs1 (r1 r2 s1 s2 p1 p2 p3 p4 q1 q2 : Int) : s1 * (q1 * p1 - q2 * p2 + p3) - s2 * (q1 * p2 + q2 * p1 + p4) + ((r1 - (q1 * s1 - q2 * s2)) * p1 - (r2 - (q1 * s2 + q2 * s1)) * p2) = r1 * p1 - r2 * p2 + (s1 * p3 - s2 * p4) := by grind
theorem dvs2 (r1 r2 s1 s2 p1 p2 p3 p4 q1 q2 : Int) : s1 * (q1 * p2 + q2 * p1 + p4) + s2 * (q1 * p1 - q2 * p2 + p3) + ((r1 - (q1 * s1 - q2 * s2)) * p2 + (r2 - (q1 * s2 + q2 * s1)) * p1) = r1 * p2 + r2 * p1 + (s1 * p4 + s2 * p3) := by grind
theorem GI.step {a1 a2 b1 b2 : Int} {t : GS} (h : GI a1 a2 b1 b2 t) (h0 : gN t.s1 t.s2 ≠ 0) : GI a1 a2 b1 b2 t.step := by
  have hl := step_less h0
  have hpos := gN_nonneg t.step.s1 t.step.s2
  have hA := gN_nonneg a1 a2
  have hB := gN_nonneg b1 b2
  have hns := h.ns
  obtain ⟨e, he, ⟨c1, c2⟩, c3, c4⟩ := h.c
  obtain ⟨hr1, hr2⟩ := h.r
  obtain ⟨hs1, hs2⟩ := h.s
  obtain ⟨p1, p2, p3, p4, hp1, hp2⟩ := h.da
  obtain ⟨o1, o2, o3, o4, ho1, ho2⟩ := h.db
  have hnu := h.nu
  have hnv := h.nv
  have hsu := h.su
  have hsv := h.sv
  clear h
  obtain ⟨r1, r2, x1, x2, y1, y2, s1, s2, u1, u2, v1, v2⟩ := t
  simp only [GS.step] at *
  generalize gQ1 r1 r2 s1 s2 = q1 at *
  generalize gQ2 r1 r2 s1 s2 = q2 at *
  have he' : -e = 1 ∨ -e = -1 := by omega
  have F := fac_step (s1 := s1) (s2 := s2) (u1 := u1) (u2 := u2) (u1' := x1 - (q1 * u1 - q2 * u2)) (u2' := x2 - (q1 * u2 + q2 * u1)) (t1 := r1 - (q1 * s1 - q2 * s2)) (t2 := r2 - (q1 * s2 + q2 * s1)) (b1 := b1) (b2 := b2) (e := -e) (M := gN a1 a2 + gN b1 b2) he' h0 (by omega) (by have := crs1 r1 r2 s1 s2 x1 x2 u1 u2 q1 q2; rw [c1] at this; rw [Int.neg_mul]; omega) (by have := crs2 r1 r2 s1 s2 x1 x2 u1 u2 q1 q2; rw [c2] at this; rw [Int.neg_mul]; omega) hl hsu
  have H := fac_step (s1 := s1) (s2 := s2) (u1 := v1) (u2 := v2) (u1' := y1 - (q1 * v1 - q2 * v2)) (u2' := y2 - (q1 * v2 + q2 * v1)) (t1 := r1 - (q1 * s1 - q2 * s2)) (t2 := r2 - (q1 * s2 + q2 * s1)) (b1 := a1) (b2 := a2) (e := e) (M := gN a1 a2 + gN b1 b2) he h0 (by omega) (by have := crs1 r1 r2 s1 s2 y1 y2 v1 v2 q1 q2; rw [c3, Int.neg_mul] at this; omega) (by have := crs2 r1 r2 s1 s2 y1 y2 v1 v2 q1 q2; rw [c4, Int.neg_mul] at this; omega) hl hsv
  exact {
    r := ⟨hs1, hs2⟩
    s := ⟨lin1 q1 q2 hr1 hs1 hs2, lin2 q1 q2 hr2 hs1 hs2⟩
    c := ⟨-e, he', ⟨by rw [crs1, c1, Int.neg_mul], by rw [crs2, c2, Int.neg_mul]⟩, ⟨by rw [crs1, c3, Int.neg_mul (-e)], by rw [crs2, c4, Int.neg_mul (-e)]⟩⟩
    nr := hns
    ns := by
      have h9 : gN (r1 - (q1 * s1 - q2 * s2)) (r2 - (q1 * s2 + q2 * s1)) ≤ gN a1 a2 + gN b1 b2 := by omega
      exact h9
    nx := hnu
    ny := hnv
    nu := Int.le_trans F.1 (by omega)
    nv := Int.le_trans H.1 (by omega)
    su := F.2
    sv := H.2
    da := ⟨q1 * p1 - q2 * p2 + p3, q1 * p2 + q2 * p1 + p4, p1, p2, by rw [dvs1]; exact hp1, by rw [dvs2]; exact hp2⟩
    db := ⟨q1 * o1 - q2 * o2 + o3, q1 * o2 + q2 * o1 + o4, o1, o2, by rw [dvs1]; exact ho1, by rw [dvs2]; exact ho2⟩ }
theorem GI.fin : ∀ (n : Nat) {a1 a2 b1 b2 : Int} {t : GS}, GI a1 a2 b1 b2 t → (gN t.s1 t.s2).toNat ≤ n → GI a1 a2 b1 b2 t.fin ∧ gN t.fin.s1 t.fin.s2 = 0 := by
  intro n
  induction n with
  | zero =>
    intro a1 a2 b1 b2 t h hn
    have := gN_nonneg t.s1 t.s2
    rw [fin_done (by omega)]
    exact ⟨h, by omega⟩
  | succ n ih =>
    intro a1 a2 b1 b2 t h hn
    by_cases h0 : gN t.s1 t.s2 = 0
    · rw [fin_done h0]; exact ⟨h, h0⟩
    · have hp := gN_nonneg t.s1 t.s2
      have hl := step_less h0
      have hs := gN_nonneg t.step.s1 t.step.s2
      rw [← fin_step h0]
      exact ih (h.step h0) (by omega)
/-- What stands in the divisions is hardly longer than the two numbers. -/
theorem len_norm {x y a1 a2 b1 b2 : Int} {l : Nat} (h : gN x y ≤ 4 * (gN a1 a2 + gN b1 b2) + 1) (h1 : (dig a1.natAbs).length ≤ l) (h2 : (dig a2.natAbs).length ≤ l) (h3 : (dig b1.natAbs).length ≤ l) (h4 : (dig b2.natAbs).length ≤ l) :
    (dig x.natAbs).length ≤ l + 1 ∧ (dig y.natAbs).length ≤ l + 1 := by
  have bd : ∀ z : Int, (dig z.natAbs).length ≤ l → -(pw l : Int) ≤ z ∧ z ≤ (pw l : Int) := by
    intro z hz
    have := Nat.lt_of_lt_of_le (lt_pw_dig z.natAbs) (pw_mono hz)
    omega
  have n1 := norm_ge (bd _ h1) (bd _ h2)
  have n2 := norm_ge (bd _ h3) (bd _ h4)
  have hp := pw_pos l
  have hpp : (1 : Int) ≤ (pw l : Int) * (pw l : Int) := by have := Int.mul_le_mul (show (1 : Int) ≤ (pw l : Int) by omega) (show (1 : Int) ≤ (pw l : Int) by omega) (by decide) (by omega); omega
  have e5 : (5 * (pw l : Int)) * (5 * (pw l : Int)) = 25 * ((pw l : Int) * (pw l : Int)) := by grind
  obtain ⟨r1, r2⟩ := norm_le (a := x) (b := y) (A := 5 * (pw l : Int)) (by omega) (by omega)
  have hpw : pw (l + 1) = pw l * 4294967296 := by rw [pw_add]; rfl
  exact ⟨dig_length_le (by omega), dig_length_le (by omega)⟩
end Go.Proofs.YtgjainmfilkjmaaGreatDoor


/- gint: Canon; the reference's. -/
namespace Go.Proofs.YtgjainmfilkjmaaGreatDoor
open Go Go.RowKit Dig
set_option linter.unusedVariables false

section
variable {w : World} {va vb : Value} {x y u v : Int} {l m k n : Nat}
set_option maxHeartbeats 4000000 in
set_option maxRecDepth 20000 in
theorem quarters_mm (w : World) :
    Calls Tryz.prog 36 #[.int .i64 (-1), .int .i64 (-1)] w fun e w' => e = .returned (.int .i64 2) ∧ Below w.heap.size w w' := by
  go_enter Tryz.func36, Tryz.ntmps36
  have hs := St.nil w
  refine wp_seq_k ?_
  intro K1 hK1
  refine rg [0] ?_
  refine sq ?_
  refine .mv ?_
  apply wpSq_end
  refine hK1 _ _ ?_
  refine wp_seq_k ?_
  intro K2 hK2
  refine wp_block ?_
  refine wp_seq_k ?_
  intro K3 hK3
  refine rg [0, 1, 2, 3, 4, 5, 6] ?_
  refine sq ?_
  refine .mv ?_
  refine sq ?_
  refine .r0 ?_
  refine sq ?_
  refine .mv ?_
  refine sq ?_
  refine .mv ?_
  refine sq ?_
  refine .r0 ?_
  refine sq ?_
  refine .r0 ?_
  refine sq ?_
  refine .mv ?_
  apply wpSq_end
  refine hK3 _ _ ?_
  refine cf ?_
  refine wp_seq_k ?_
  intro K4 hK4
  refine rg [0, 1, 2, 3, 4, 5, 6] ?_
  refine sq ?_
  refine .mv ?_
  refine sq ?_
  refine .r0 ?_
  refine sq ?_
  refine .mv ?_
  refine sq ?_
  refine .mv ?_
  refine sq ?_
  refine .r0 ?_
  refine sq ?_
  refine .r0 ?_
  refine sq ?_
  refine .mv ?_
  apply wpSq_end
  refine hK4 _ _ ?_
  refine ct ?_
  refine wp_seq_k ?_
  intro K5 hK5
  refine rg [0] ?_
  refine sq ?_
  refine .mv ?_
  apply wpSq_end
  refine hK5 _ _ ?_
  refine wp_ret ?_
  try dsimp only [Exit.then, Exit.inBlock]
  refine bodyPost_ret (v := (.int .i64 2)) (by simp [results, Tryz.results36, go_sem]) rfl ?_
  have hb := hs.b
  exact ⟨rfl, hb⟩
set_option maxHeartbeats 4000000 in
set_option maxRecDepth 20000 in
theorem quarters_mz (w : World) :
    Calls Tryz.prog 36 #[.int .i64 (-1), .int .i64 0] w fun e w' => e = .returned (.int .i64 2) ∧ Below w.heap.size w w' := by
  go_enter Tryz.func36, Tryz.ntmps36
  have hs := St.nil w
  refine wp_seq_k ?_
  intro K1 hK1
  refine rg [0] ?_
  refine sq ?_
  refine .mv ?_
  apply wpSq_end
  refine hK1 _ _ ?_
  refine wp_seq_k ?_
  intro K2 hK2
  refine wp_block ?_
  refine wp_seq_k ?_
  intro K3 hK3
  refine rg [0, 1, 2, 3, 4, 5, 6] ?_
  refine sq ?_
  refine .mv ?_
  refine sq ?_
  refine .r0 ?_
  refine sq ?_
  refine .mv ?_
  refine sk ?_
  refine sk ?_
  refine sq ?_
  refine .r0 ?_
  refine sq ?_
  refine .mv ?_
  apply wpSq_end
  refine hK3 _ _ ?_
  refine cf ?_
  refine wp_seq_k ?_
  intro K4 hK4
  refine rg [0, 1, 2, 3, 4, 5, 6] ?_
  refine sq ?_
  refine .mv ?_
  refine sq ?_
  refine .r0 ?_
  refine sq ?_
  refine .mv ?_
  refine sq ?_
  refine .mv ?_
  refine sq ?_
  refine .r0 ?_
  refine sq ?_
  refine .r0 ?_
  refine sq ?_
  refine .mv ?_
  apply wpSq_end
  refine hK4 _ _ ?_
  refine ct ?_
  refine wp_seq_k ?_
  intro K5 hK5
  refine rg [0] ?_
  refine sq ?_
  refine .mv ?_
  apply wpSq_end
  refine hK5 _ _ ?_
  refine wp_ret ?_
  try dsimp only [Exit.then, Exit.inBlock]
  refine bodyPost_ret (v := (.int .i64 2)) (by simp [results, Tryz.results36, go_sem]) rfl ?_
  have hb := hs.b
  exact ⟨rfl, hb⟩
set_option maxHeartbeats 4000000 in
set_option maxRecDepth 20000 in
theorem quarters_mp (w : World) :
    Calls Tryz.prog 36 #[.int .i64 (-1), .int .i64 1] w fun e w' => e = .returned (.int .i64 3) ∧ Below w.heap.size w w' := by
  go_enter Tryz.func36, Tryz.ntmps36
  have hs := St.nil w
  refine wp_seq_k ?_
  intro K1 hK1
  refine rg [0] ?_
  refine sq ?_
  refine .mv ?_
  apply wpSq_end
  refine hK1 _ _ ?_
  refine wp_seq_k ?_
  intro K2 hK2
  refine wp_block ?_
  refine wp_seq_k ?_
  intro K3 hK3
  refine rg [0, 1, 2, 3, 4, 5, 6] ?_
  refine sq ?_
  refine .mv ?_
  refine sq ?_
  refine .r0 ?_
  refine sq ?_
  refine .mv ?_
  refine sk ?_
  refine sk ?_
  refine sq ?_
  refine .r0 ?_
  refine sq ?_
  refine .mv ?_
  apply wpSq_end
  refine hK3 _ _ ?_
  refine cf ?_
  refine wp_seq_k ?_
  intro K4 hK4
  refine rg [0, 1, 2, 3, 4, 5, 6] ?_
  refine sq ?_
  refine .mv ?_
  refine sq ?_
  refine .r0 ?_
  refine sq ?_
  refine .mv ?_
  refine sq ?_
  refine .mv ?_
  refine sq ?_
  refine .r0 ?_
  refine sq ?_
  refine .r0 ?_
  refine sq ?_
  refine .mv ?_
  apply wpSq_end
  refine hK4 _ _ ?_
  refine cf ?_
  refine wp_seq_k ?_
  intro K5 hK5
  refine rg [0, 1, 2, 3, 4, 5, 6] ?_
  refine sq ?_
  refine .mv ?_
  refine sq ?_
  refine .r0 ?_
  refine sq ?_
  refine .mv ?_
  refine sq ?_
  refine .mv ?_
  refine sq ?_
  refine .r0 ?_
  refine sq ?_
  refine .r0 ?_
  refine sq ?_
  refine .mv ?_
  apply wpSq_end
  refine hK5 _ _ ?_
  refine ct ?_
  refine wp_seq_k ?_
  intro K6 hK6
  refine rg [0] ?_
  refine sq ?_
  refine .mv ?_
  apply wpSq_end
  refine hK6 _ _ ?_
  refine wp_ret ?_
  try dsimp only [Exit.then, Exit.inBlock]
  refine bodyPost_ret (v := (.int .i64 3)) (by simp [results, Tryz.results36, go_sem]) rfl ?_
  have hb := hs.b
  exact ⟨rfl, hb⟩
set_option maxHeartbeats 4000000 in
set_option maxRecDepth 20000 in
theorem quarters_zm (w : World) :
    Calls Tryz.prog 36 #[.int .i64 0, .int .i64 (-1)] w fun e w' => e = .returned (.int .i64 1) ∧ Below w.heap.size w w' := by
  go_enter Tryz.func36, Tryz.ntmps36
  have hs := St.nil w
  refine wp_seq_k ?_
  intro K1 hK1
  refine rg [0] ?_
  refine sq ?_
  refine .mv ?_
  apply wpSq_end
  refine hK1 _ _ ?_
  refine wp_seq_k ?_
  intro K2 hK2
  refine wp_block ?_
  refine wp_seq_k ?_
  intro K3 hK3
  refine rg [0, 1, 2, 3, 4, 5, 6] ?_
  refine sq ?_
  refine .mv ?_
  refine sq ?_
  refine .r0 ?_
  refine sq ?_
  refine .mv ?_
  refine sq ?_
  refine .mv ?_
  refine sq ?_
  refine .r0 ?_
  refine sq ?_
  refine .r0 ?_
  refine sq ?_
  refine .mv ?_
  apply wpSq_end
  refine hK3 _ _ ?_
  refine ct ?_
  refine wp_seq_k ?_
  intro K4 hK4
  refine rg [0] ?_
  refine sq ?_
  refine .mv ?_
  apply wpSq_end
  refine hK4 _ _ ?_
  refine wp_ret ?_
  try dsimp only [Exit.then, Exit.inBlock]
  refine bodyPost_ret (v := (.int .i64 1)) (by simp [results, Tryz.results36, go_sem]) rfl ?_
  have hb := hs.b
  exact ⟨rfl, hb⟩
set_option maxHeartbeats 4000000 in
set_option maxRecDepth 20000 in
theorem quarters_zz (w : World) :
    Calls Tryz.prog 36 #[.int .i64 0, .int .i64 0] w fun e w' => e = .returned (.int .i64 0) ∧ Below w.heap.size w w' := by
  go_enter Tryz.func36, Tryz.ntmps36
  have hs := St.nil w
  refine wp_seq_k ?_
  intro K1 hK1
  refine rg [0] ?_
  refine sq ?_
  refine .mv ?_
  apply wpSq_end
  refine hK1 _ _ ?_
  refine wp_seq_k ?_
  intro K2 hK2
  refine wp_block ?_
  refine wp_seq_k ?_
  intro K3 hK3
  refine rg [0, 1, 2, 3, 4, 5, 6] ?_
  refine sq ?_
  refine .mv ?_
  refine sq ?_
  refine .r0 ?_
  refine sq ?_
  refine .mv ?_
  refine sk ?_
  refine sk ?_
  refine sq ?_
  refine .r0 ?_
  refine sq ?_
  refine .mv ?_
  apply wpSq_end
  refine hK3 _ _ ?_
  refine cf ?_
  refine wp_seq_k ?_
  intro K4 hK4
  refine rg [0, 1, 2, 3, 4, 5, 6] ?_
  refine sq ?_
  refine .mv ?_
  refine sq ?_
  refine .r0 ?_
  refine sq ?_
  refine .mv ?_
  refine sk ?_
  refine sk ?_
  refine sq ?_
  refine .r0 ?_
  refine sq ?_
  refine .mv ?_
  apply wpSq_end
  refine hK4 _ _ ?_
  refine cf ?_
  refine wp_seq_k ?_
  intro K5 hK5
  refine rg [0, 1, 2, 3, 4, 5, 6] ?_
  refine sq ?_
  refine .mv ?_
  refine sq ?_
  refine .r0 ?_
  refine sq ?_
  refine .mv ?_
  refine sk ?_
  refine sk ?_
  refine sq ?_
  refine .r0 ?_
  refine sq ?_
  refine .mv ?_
  apply wpSq_end
  refine hK5 _ _ ?_
  refine cf ?_
  refine wp_skip ?_
  refine hK2 _ _ ?_
  refine wp_seq_k ?_
  intro K6 hK6
  refine rg [0] ?_
  refine sq ?_
  refine .mv ?_
  apply wpSq_end
  refine hK6 _ _ ?_
  refine wp_ret ?_
  try dsimp only [Exit.then, Exit.inBlock]
  refine bodyPost_ret (v := (.int .i64 0)) (by simp [results, Tryz.results36, go_sem]) rfl ?_
  have hb := hs.b
  exact ⟨rfl, hb⟩
set_option maxHeartbeats 4000000 in
set_option maxRecDepth 20000 in
theorem quarters_zp (w : World) :
    Calls Tryz.prog 36 #[.int .i64 0, .int .i64 1] w fun e w' => e = .returned (.int .i64 3) ∧ Below w.heap.size w w' := by
  go_enter Tryz.func36, Tryz.ntmps36
  have hs := St.nil w
  refine wp_seq_k ?_
  intro K1 hK1
  refine rg [0] ?_
  refine sq ?_
  refine .mv ?_
  apply wpSq_end
  refine hK1 _ _ ?_
  refine wp_seq_k ?_
  intro K2 hK2
  refine wp_block ?_
  refine wp_seq_k ?_
  intro K3 hK3
  refine rg [0, 1, 2, 3, 4, 5, 6] ?_
  refine sq ?_
  refine .mv ?_
  refine sq ?_
  refine .r0 ?_
  refine sq ?_
  refine .mv ?_
  refine sk ?_
  refine sk ?_
  refine sq ?_
  refine .r0 ?_
  refine sq ?_
  refine .mv ?_
  apply wpSq_end
  refine hK3 _ _ ?_
  refine cf ?_
  refine wp_seq_k ?_
  intro K4 hK4
  refine rg [0, 1, 2, 3, 4, 5, 6] ?_
  refine sq ?_
  refine .mv ?_
  refine sq ?_
  refine .r0 ?_
  refine sq ?_
  refine .mv ?_
  refine sk ?_
  refine sk ?_
  refine sq ?_
  refine .r0 ?_
  refine sq ?_
  refine .mv ?_
  apply wpSq_end
  refine hK4 _ _ ?_
  refine cf ?_
  refine wp_seq_k ?_
  intro K5 hK5
  refine rg [0, 1, 2, 3, 4, 5, 6] ?_
  refine sq ?_
  refine .mv ?_
  refine sq ?_
  refine .r0 ?_
  refine sq ?_
  refine .mv ?_
  refine sq ?_
  refine .mv ?_
  refine sq ?_
  refine .r0 ?_
  refine sq ?_
  refine .r0 ?_
  refine sq ?_
  refine .mv ?_
  apply wpSq_end
  refine hK5 _ _ ?_
  refine ct ?_
  refine wp_seq_k ?_
  intro K6 hK6
  refine rg [0] ?_
  refine sq ?_
  refine .mv ?_
  apply wpSq_end
  refine hK6 _ _ ?_
  refine wp_ret ?_
  try dsimp only [Exit.then, Exit.inBlock]
  refine bodyPost_ret (v := (.int .i64 3)) (by simp [results, Tryz.results36, go_sem]) rfl ?_
  have hb := hs.b
  exact ⟨rfl, hb⟩
set_option maxHeartbeats 4000000 in
set_option maxRecDepth 20000 in
theorem quarters_pm (w : World) :
    Calls Tryz.prog 36 #[.int .i64 1, .int .i64 (-1)] w fun e w' => e = .returned (.int .i64 1) ∧ Below w.heap.size w w' := by
  go_enter Tryz.func36, Tryz.ntmps36
  have hs := St.nil w
  refine wp_seq_k ?_
  intro K1 hK1
  refine rg [0] ?_
  refine sq ?_
  refine .mv ?_
  apply wpSq_end
  refine hK1 _ _ ?_
  refine wp_seq_k ?_
  intro K2 hK2
  refine wp_block ?_
  refine wp_seq_k ?_
  intro K3 hK3
  refine rg [0, 1, 2, 3, 4, 5, 6] ?_
  refine sq ?_
  refine .mv ?_
  refine sq ?_
  refine .r0 ?_
  refine sq ?_
  refine .mv ?_
  refine sq ?_
  refine .mv ?_
  refine sq ?_
  refine .r0 ?_
  refine sq ?_
  refine .r0 ?_
  refine sq ?_
  refine .mv ?_
  apply wpSq_end
  refine hK3 _ _ ?_
  refine ct ?_
  refine wp_seq_k ?_
  intro K4 hK4
  refine rg [0] ?_
  refine sq ?_
  refine .mv ?_
  apply wpSq_end
  refine hK4 _ _ ?_
  refine wp_ret ?_
  try dsimp only [Exit.then, Exit.inBlock]
  refine bodyPost_ret (v := (.int .i64 1)) (by simp [results, Tryz.results36, go_sem]) rfl ?_
  have hb := hs.b
  exact ⟨rfl, hb⟩
set_option maxHeartbeats 4000000 in
set_option maxRecDepth 20000 in
theorem quarters_pz (w : World) :
    Calls Tryz.prog 36 #[.int .i64 1, .int .i64 0] w fun e w' => e = .returned (.int .i64 0) ∧ Below w.heap.size w w' := by
  go_enter Tryz.func36, Tryz.ntmps36
  have hs := St.nil w
  refine wp_seq_k ?_
  intro K1 hK1
  refine rg [0] ?_
  refine sq ?_
  refine .mv ?_
  apply wpSq_end
  refine hK1 _ _ ?_
  refine wp_seq_k ?_
  intro K2 hK2
  refine wp_block ?_
  refine wp_seq_k ?_
  intro K3 hK3
  refine rg [0, 1, 2, 3, 4, 5, 6] ?_
  refine sq ?_
  refine .mv ?_
  refine sq ?_
  refine .r0 ?_
  refine sq ?_
  refine .mv ?_
  refine sk ?_
  refine sk ?_
  refine sq ?_
  refine .r0 ?_
  refine sq ?_
  refine .mv ?_
  apply wpSq_end
  refine hK3 _ _ ?_
  refine cf ?_
  refine wp_seq_k ?_
  intro K4 hK4
  refine rg [0, 1, 2, 3, 4, 5, 6] ?_
  refine sq ?_
  refine .mv ?_
  refine sq ?_
  refine .r0 ?_
  refine sq ?_
  refine .mv ?_
  refine sk ?_
  refine sk ?_
  refine sq ?_
  refine .r0 ?_
  refine sq ?_
  refine .mv ?_
  apply wpSq_end
  refine hK4 _ _ ?_
  refine cf ?_
  refine wp_seq_k ?_
  intro K5 hK5
  refine rg [0, 1, 2, 3, 4, 5, 6] ?_
  refine sq ?_
  refine .mv ?_
  refine sq ?_
  refine .r0 ?_
  refine sq ?_
  refine .mv ?_
  refine sk ?_
  refine sk ?_
  refine sq ?_
  refine .r0 ?_
  refine sq ?_
  refine .mv ?_
  apply wpSq_end
  refine hK5 _ _ ?_
  refine cf ?_
  refine wp_skip ?_
  refine hK2 _ _ ?_
  refine wp_seq_k ?_
  intro K6 hK6
  refine rg [0] ?_
  refine sq ?_
  refine .mv ?_
  apply wpSq_end
  refine hK6 _ _ ?_
  refine wp_ret ?_
  try dsimp only [Exit.then, Exit.inBlock]
  refine bodyPost_ret (v := (.int .i64 0)) (by simp [results, Tryz.results36, go_sem]) rfl ?_
  have hb := hs.b
  exact ⟨rfl, hb⟩
set_option maxHeartbeats 4000000 in
set_option maxRecDepth 20000 in
theorem quarters_pp (w : World) :
    Calls Tryz.prog 36 #[.int .i64 1, .int .i64 1] w fun e w' => e = .returned (.int .i64 0) ∧ Below w.heap.size w w' := by
  go_enter Tryz.func36, Tryz.ntmps36
  have hs := St.nil w
  refine wp_seq_k ?_
  intro K1 hK1
  refine rg [0] ?_
  refine sq ?_
  refine .mv ?_
  apply wpSq_end
  refine hK1 _ _ ?_
  refine wp_seq_k ?_
  intro K2 hK2
  refine wp_block ?_
  refine wp_seq_k ?_
  intro K3 hK3
  refine rg [0, 1, 2, 3, 4, 5, 6] ?_
  refine sq ?_
  refine .mv ?_
  refine sq ?_
  refine .r0 ?_
  refine sq ?_
  refine .mv ?_
  refine sk ?_
  refine sk ?_
  refine sq ?_
  refine .r0 ?_
  refine sq ?_
  refine .mv ?_
  apply wpSq_end
  refine hK3 _ _ ?_
  refine cf ?_
  refine wp_seq_k ?_
  intro K4 hK4
  refine rg [0, 1, 2, 3, 4, 5, 6] ?_
  refine sq ?_
  refine .mv ?_
  refine sq ?_
  refine .r0 ?_
  refine sq ?_
  refine .mv ?_
  refine sk ?_
  refine sk ?_
  refine sq ?_
  refine .r0 ?_
  refine sq ?_
  refine .mv ?_
  apply wpSq_end
  refine hK4 _ _ ?_
  refine cf ?_
  refine wp_seq_k ?_
  intro K5 hK5
  refine rg [0, 1, 2, 3, 4, 5, 6] ?_
  refine sq ?_
  refine .mv ?_
  refine sq ?_
  refine .r0 ?_
  refine sq ?_
  refine .mv ?_
  refine sq ?_
  refine .mv ?_
  refine sq ?_
  refine .r0 ?_
  refine sq ?_
  refine .r0 ?_
  refine sq ?_
  refine .mv ?_
  apply wpSq_end
  refine hK5 _ _ ?_
  refine cf ?_
  refine wp_skip ?_
  refine hK2 _ _ ?_
  refine wp_seq_k ?_
  intro K6 hK6
  refine rg [0] ?_
  refine sq ?_
  refine .mv ?_
  apply wpSq_end
  refine hK6 _ _ ?_
  refine wp_ret ?_
  try dsimp only [Exit.then, Exit.inBlock]
  refine bodyPost_ret (v := (.int .i64 0)) (by simp [results, Tryz.results36, go_sem]) rfl ?_
  have hb := hs.b
  exact ⟨rfl, hb⟩
theorem sign3' (x : Int) : x.sign = -1 ∨ x.sign = 0 ∨ x.sign = 1 := by have := sign_bd x; omega
theorem quarters_any (x y : Int) (w : World) :
    Calls Tryz.prog 36 #[.int .i64 x.sign, .int .i64 y.sign] w fun e w' => e = .returned (.int .i64 ((kq x y : Nat) : Int)) ∧ Below w.heap.size w w' := by
  rw [← kq_sign]
  rcases sign3' x with h | h | h <;> rcases sign3' y with h2 | h2 | h2 <;> rw [h, h2]
  · exact quarters_mm w
  · exact quarters_mz w
  · exact quarters_mp w
  · exact quarters_zm w
  · exact quarters_zz w
  · exact quarters_zp w
  · exact quarters_pm w
  · exact quarters_pz w
  · exact quarters_pp w
set_option maxHeartbeats 4000000 in
set_option maxRecDepth 20000 in
theorem gCanon_any (ha : PN w va x l y m) (hl : l ≤ 40000000) (hm : m ≤ 40000000) :
    Calls Tryz.prog 13 #[va] w fun e w' => ∃ r, e = .returned (.tuple #[r, .int .i64 ((kq x y : Nat) : Int)]) ∧ PC w' r (turn (kq x y) (x, y)).1 (turn (kq x y) (x, y)).2 ∧ Below w.heap.size w w' := by
  have HM := hide (kq_mod x y)
  obtain ⟨S, hS⟩ : ∃ S, x.sign = S := ⟨_, rfl⟩
  obtain ⟨T, hT⟩ : ∃ T, y.sign = T := ⟨_, rfl⟩
  have HS := hide hS
  have HT := hide hT
  have HQ := hide (fun w => quarters_any x y w)
  rw [hS, hT] at HQ
  obtain ⟨J, hK⟩ : ∃ J, kq x y = J := ⟨_, rfl⟩
  rw [hK] at HM HQ ⊢
  clear hS hT hK
  obtain ⟨n_0a, o_0a, k_0a, c_0a, n_0b, o_0b, k_0b, c_0b, rfl, ha1, ha2⟩ := ha
  go_enter Tryz.func13, Tryz.ntmps13
  have hs := St.nil w
  refine wp_seq_k ?_
  intro K1 hK1
  refine rg [0, 1, 2] ?_
  refine sq ?_
  refine .al hs ?_; clear hs; intro p_b1 w_1 hs n1 kb_b1
  refine sq ?_
  refine .al hs ?_; clear hs; intro p_b2 w_2 hs n2 kb_b2
  refine sq ?_
  refine .mv ?_
  apply wpSq_end
  refine hK1 _ _ ?_
  refine wp_seq_k ?_
  intro K2 hK2
  refine wp_region_f4 [(0, false), (1, false), (3, false), (4, false), (2, true), (5, true), (6, true), (7, false)] [] [] (fun _ => default) [99, 0, 99, 99, 0, 99, 99, 99] [] (.c hs.g1 .n) fn fun w_3 n3 => ?_
  replace hs := hs.bl n3
  refine f0 ?_
  refine f4 ?_
  refine f0 ?_
  refine f4 ?_
  refine fl fun w_4 n4 => ?_
  replace hs := hs.bl n4
  intro K hK
  have k0_4 := (((kb n1).b n2).b n3).b n4
  replace ha1 := ha1.k k0_4
  go_big_op
  go_fit (zsign_any ha1 (by omega))
  rintro e w_5 ⟨rfl, hb_5⟩
  replace hs := hs.bl hb_5
  rw [HS.out]
  refine hK _ _ rfl ⟨hb_5, (And.intro hs.g1 trivial)⟩ ?_
  clear hK K
  refine fl fun w_6 n6 => ?_
  replace hs := hs.bl n6
  intro K hK
  have k0_6 := (k0_4.b hb_5).b n6
  replace ha2 := ha2.k k0_6
  go_big_op
  go_fit (zsign_any ha2 (by omega))
  rintro e w_7 ⟨rfl, hb_7⟩
  replace hs := hs.bl hb_7
  rw [HT.out]
  refine hK _ _ rfl ⟨hb_7, (And.intro hs.g1 trivial)⟩ ?_
  clear hK K
  refine fl fun w_8 n8 => ?_
  replace hs := hs.bl n8
  intro K hK
  go_big_op
  go_fit (HQ.out _)
  rintro e w_9 ⟨rfl, hb_9⟩
  replace hs := hs.bl hb_9
  refine hK _ _ rfl ⟨hb_9, (And.intro hs.g1 trivial)⟩ ?_
  clear hK K
  refine fmv ?_
  refine e0 hs ?_; clear hs; intro w_10 hs n10
  apply wpTail_end
  refine hK2 _ _ ?_
  refine wp_seq_k ?_
  intro K3 hK3
  refine rg [0, 1, 2, 3, 4, 5] ?_
  refine sq ?_
  refine .r4 hs.g1.f4 ?_
  refine sq ?_
  refine .mv ?_
  refine sq ?_
  intro K hK
  have k4_10 := (((((kb hb_5).b n6).b hb_7).b n8).b hb_9).b n10
  replace ha1 := ha1.k k4_10
  have k6_10 := (((kb hb_7).b n8).b hb_9).b n10
  replace ha2 := ha2.k k6_10
  go_big_op
  go_fit (gTurn_any (J : Int) (PN.mk' ha1 ha2) (by omega) (by omega))
  rintro e w_11 ⟨_, rfl, ⟨n_ga, o_ga, k_ga, c_ga, n_gb, o_gb, k_gb, c_gb, rfl, g1, g2⟩, hb_11⟩
  replace hs := hs.bl hb_11
  rw [HM.out] at g1 g2
  refine hK _ _ rfl trivial ?_
  clear hK K
  refine sq ?_
  refine .mv ?_
  refine sq ?_
  refine .s4 hs.g0 (fun _ => hs.u0 kb_b2) ?_; clear hs; intro w_12 hs hd12 ho12
  refine sq ?_
  refine .mv ?_
  apply wpSq_end
  refine hK3 _ _ ?_
  refine wp_ret ?_
  try dsimp only [Exit.then, Exit.inBlock]
  obtain ⟨r0_0, r0_1, r0_2, r0_3⟩ := hs.g0.f4
  refine bodyPost_ret (v := (.tuple #[(.agg #[.bool n_ga, .slice o_ga k_ga c_ga, .bool n_gb, .slice o_gb k_gb c_gb]), (.int .i64 (J : Int))])) (by simp [results, Tryz.results13, go_sem, r0_0, r0_1, r0_2, r0_3]) rfl ?_
  have k11_12 := ko hd12 ho12
  replace g1 := g1.k k11_12
  replace g2 := g2.k k11_12
  exact ⟨_, rfl, .mk' g1 g2, hs.b⟩
set_option maxHeartbeats 4000000 in
set_option maxRecDepth 20000 in
theorem rgFirst_yes (ha : PN w va x l y m) (hl : l ≤ 40000000) (hm : m ≤ 40000000) (h1 : 0 < x) (h2 : 0 ≤ y) :
    Calls Tryz.prog 94 #[va] w fun e w' => e = .returned (.bool true) ∧ Below w.heap.size w w' := by
  have hs := sign3' x
  have ht := sign3' y
  have hs1 : (0 < x.sign) = True := eq_true (Int.sign_pos_iff.2 h1)
  have ht1 : (0 ≤ y.sign) = True := eq_true (Int.sign_nonneg_iff.2 h2)
  obtain ⟨S, hS⟩ : ∃ S, x.sign = S := ⟨_, rfl⟩
  obtain ⟨T, hT⟩ : ∃ T, y.sign = T := ⟨_, rfl⟩
  rw [hS] at hs1
  rw [hT] at ht1
  have HS := hide hS
  have HT := hide hT
  clear hS hT hs ht h1 h2
  obtain ⟨n_0a, o_0a, k_0a, c_0a, n_0b, o_0b, k_0b, c_0b, rfl, ha1, ha2⟩ := ha
  go_enter Tryz.func94, Tryz.ntmps94
  have hs := St.nil w
  refine wp_seq_k ?_
  intro K1 hK1
  refine rg [0, 1] ?_
  refine sq ?_
  refine .al hs ?_; clear hs; intro p_b1 w_1 hs n1 kb_b1
  refine sq ?_
  refine .mv ?_
  apply wpSq_end
  refine hK1 _ _ ?_
  refine wp_seq_k ?_
  intro K2 hK2
  refine rg [0, 1, 2, 3, 4, 5, 6, 7, 8, 9, 10] ?_
  refine sq ?_
  refine .r0 ?_
  refine sq ?_
  refine .r4 hs.g0.f4 ?_
  refine sq ?_
  intro K hK
  have k0_1 := kb n1
  replace ha1 := ha1.k k0_1
  go_big_op
  go_fit (rzsign_any ha1 (by omega) )
  rintro e w_2 ⟨rfl, hb_2⟩
  replace hs := hs.bl hb_2
  rw [HS.out]
  refine hK _ _ rfl trivial ?_
  clear hK K
  refine sq ?_
  refine .r0 ?_
  refine sq ?_
  refine .mv ?_
  refine sq ?_
  refine .r0 ?_
  refine sq ?_
  refine .r4 hs.g0.f4 ?_
  refine sq ?_
  intro K hK
  have k0_2 := k0_1.b hb_2
  replace ha2 := ha2.k k0_2
  go_big_op
  go_fit (rzsign_any ha2 (by omega) )
  rintro e w_3 ⟨rfl, hb_3⟩
  replace hs := hs.bl hb_3
  rw [HT.out]
  refine hK _ _ rfl trivial ?_
  clear hK K
  refine sq ?_
  refine .r0 ?_
  refine sq ?_
  refine .r0 ?_
  refine sq ?_
  refine .mv ?_
  apply wpSq_end
  refine hK2 _ _ ?_
  refine wp_ret ?_
  try dsimp only [Exit.then, Exit.inBlock]
  refine bodyPost_ret (v := (.bool true)) (by simp [results, Tryz.results94, go_sem]) rfl ?_
  have hb := hs.b
  exact ⟨rfl, hb⟩
set_option maxHeartbeats 4000000 in
set_option maxRecDepth 20000 in
theorem rgFirst_no1 (ha : PN w va x l y m) (hl : l ≤ 40000000) (hm : m ≤ 40000000) (h1 : ¬ 0 < x) :
    Calls Tryz.prog 94 #[va] w fun e w' => e = .returned (.bool false) ∧ Below w.heap.size w w' := by
  have hs := sign3' x
  have ht := sign3' y
  have hs1 : (0 < x.sign) = False := eq_false (by rw [Int.sign_pos_iff]; exact h1)
  obtain ⟨S, hS⟩ : ∃ S, x.sign = S := ⟨_, rfl⟩
  obtain ⟨T, hT⟩ : ∃ T, y.sign = T := ⟨_, rfl⟩
  rw [hS] at hs1
  have HS := hide hS
  have HT := hide hT
  clear hS hT hs ht h1
  obtain ⟨n_0a, o_0a, k_0a, c_0a, n_0b, o_0b, k_0b, c_0b, rfl, ha1, ha2⟩ := ha
  go_enter Tryz.func94, Tryz.ntmps94
  have hs := St.nil w
  refine wp_seq_k ?_
  intro K1 hK1
  refine rg [0, 1] ?_
  refine sq ?_
  refine .al hs ?_; clear hs; intro p_b1 w_1 hs n1 kb_b1
  refine sq ?_
  refine .mv ?_
  apply wpSq_end
  refine hK1 _ _ ?_
  refine wp_seq_k ?_
  intro K2 hK2
  refine rg [0, 1, 2, 3, 4, 5, 6, 7, 8, 9, 10] ?_
  refine sq ?_
  refine .r0 ?_
  refine sq ?_
  refine .r4 hs.g0.f4 ?_
  refine sq ?_
  intro K hK
  have k0_1 := kb n1
  replace ha1 := ha1.k k0_1
  go_big_op
  go_fit (rzsign_any ha1 (by omega) )
  rintro e w_2 ⟨rfl, hb_2⟩
  replace hs := hs.bl hb_2
  rw [HS.out]
  refine hK _ _ rfl trivial ?_
  clear hK K
  refine sq ?_
  refine .r0 ?_
  refine sq ?_
  refine .mv ?_
  refine sk ?_
  refine sk ?_
  refine sk ?_
  refine sk ?_
  refine sq ?_
  refine .r0 ?_
  refine sq ?_
  refine .mv ?_
  apply wpSq_end
  refine hK2 _ _ ?_
  refine wp_ret ?_
  try dsimp only [Exit.then, Exit.inBlock]
  refine bodyPost_ret (v := (.bool false)) (by simp [results, Tryz.results94, go_sem]) rfl ?_
  have hb := hs.b
  exact ⟨rfl, hb⟩
set_option maxHeartbeats 4000000 in
set_option maxRecDepth 20000 in
theorem rgFirst_no2 (ha : PN w va x l y m) (hl : l ≤ 40000000) (hm : m ≤ 40000000) (h1 : 0 < x) (h2 : ¬ 0 ≤ y) :
    Calls Tryz.prog 94 #[va] w fun e w' => e = .returned (.bool false) ∧ Below w.heap.size w w' := by
  have hs := sign3' x
  have ht := sign3' y
  have hs1 : (0 < x.sign) = True := eq_true (Int.sign_pos_iff.2 h1)
  have ht1 : (0 ≤ y.sign) = False := eq_false (by rw [Int.sign_nonneg_iff]; exact h2)
  obtain ⟨S, hS⟩ : ∃ S, x.sign = S := ⟨_, rfl⟩
  obtain ⟨T, hT⟩ : ∃ T, y.sign = T := ⟨_, rfl⟩
  rw [hS] at hs1
  rw [hT] at ht1
  have HS := hide hS
  have HT := hide hT
  clear hS hT hs ht h1 h2
  obtain ⟨n_0a, o_0a, k_0a, c_0a, n_0b, o_0b, k_0b, c_0b, rfl, ha1, ha2⟩ := ha
  go_enter Tryz.func94, Tryz.ntmps94
  have hs := St.nil w
  refine wp_seq_k ?_
  intro K1 hK1
  refine rg [0, 1] ?_
  refine sq ?_
  refine .al hs ?_; clear hs; intro p_b1 w_1 hs n1 kb_b1
  refine sq ?_
  refine .mv ?_
  apply wpSq_end
  refine hK1 _ _ ?_
  refine wp_seq_k ?_
  intro K2 hK2
  refine rg [0, 1, 2, 3, 4, 5, 6, 7, 8, 9, 10] ?_
  refine sq ?_
  refine .r0 ?_
  refine sq ?_
  refine .r4 hs.g0.f4 ?_
  refine sq ?_
  intro K hK
  have k0_1 := kb n1
  replace ha1 := ha1.k k0_1
  go_big_op
  go_fit (rzsign_any ha1 (by omega) )
  rintro e w_2 ⟨rfl, hb_2⟩
  replace hs := hs.bl hb_2
  rw [HS.out]
  refine hK _ _ rfl trivial ?_
  clear hK K
  refine sq ?_
  refine .r0 ?_
  refine sq ?_
  refine .mv ?_
  refine sq ?_
  refine .r0 ?_
  refine sq ?_
  refine .r4 hs.g0.f4 ?_
  refine sq ?_
  intro K hK
  have k0_2 := k0_1.b hb_2
  replace ha2 := ha2.k k0_2
  go_big_op
  go_fit (rzsign_any ha2 (by omega) )
  rintro e w_3 ⟨rfl, hb_3⟩
  replace hs := hs.bl hb_3
  rw [HT.out]
  refine hK _ _ rfl trivial ?_
  clear hK K
  refine sq ?_
  refine .r0 ?_
  refine sq ?_
  refine .r0 ?_
  refine sq ?_
  refine .mv ?_
  apply wpSq_end
  refine hK2 _ _ ?_
  refine wp_ret ?_
  try dsimp only [Exit.then, Exit.inBlock]
  refine bodyPost_ret (v := (.bool false)) (by simp [results, Tryz.results94, go_sem]) rfl ?_
  have hb := hs.b
  exact ⟨rfl, hb⟩
theorem rgFirst_any (ha : PN w va x l y m) (hl : l ≤ 40000000) (hm : m ≤ 40000000) :
    Calls Tryz.prog 94 #[va] w fun e w' => e = .returned (.bool (decide (0 < x ∧ 0 ≤ y))) ∧ Below w.heap.size w w' := by
  by_cases h1 : 0 < x
  · by_cases h2 : 0 ≤ y
    · rw [decide_eq_true (And.intro h1 h2)]; exact rgFirst_yes ha hl hm h1 h2
    · rw [decide_eq_false (fun c => h2 c.2)]; exact rgFirst_no2 ha hl hm h1 h2
  · rw [decide_eq_false (fun c => h1 c.1)]; exact rgFirst_no1 ha hl hm h1
set_option maxHeartbeats 4000000 in
set_option maxRecDepth 20000 in
theorem rgCanon_0 (ha : PN w va x l y m) (hl : l ≤ 20000000) (hm : m ≤ 20000000) (hx : 0 < x ∧ 0 ≤ y) :
    Calls Tryz.prog 55 #[va] w fun e w' => ∃ r, e = .returned (.tuple #[r, .int .i64 0]) ∧ PC w' r (turn 0 (x, y)).1 (turn 0 (x, y)).2 ∧ Below w.heap.size w w' := by
  have L0 := hide (zlen_turn ha.len1 ha.len2 0)
  have F0 := hide (decide_eq_true (p := 0 < (turn 0 (x, y)).1 ∧ 0 ≤ (turn 0 (x, y)).2) (by simp only [turn_0]; omega))
  clear hx
  obtain ⟨n_0a, o_0a, k_0a, c_0a, n_0b, o_0b, k_0b, c_0b, rfl, ha1, ha2⟩ := ha
  go_enter Tryz.func55, Tryz.ntmps55
  have hs := St.nil w
  refine wp_seq_k ?_
  intro K1 hK1
  refine rg [0, 1, 2] ?_
  refine sq ?_
  refine .al hs ?_; clear hs; intro p_b1 w_1 hs n1 kb_b1
  refine sq ?_
  refine .al hs ?_; clear hs; intro p_b2 w_2 hs n2 kb_b2
  refine sq ?_
  refine .mv ?_
  apply wpSq_end
  refine hK1 _ _ ?_
  refine wp_seq_k ?_
  intro K2 hK2
  refine wp_seq_k ?_
  intro K3 hK3
  refine rg [0] ?_
  refine sq ?_
  refine .mv ?_
  apply wpSq_end
  refine hK3 _ _ ?_
  refine wp_block ?_
  refine wp_loop_rounds 5 ?_
  show Code.wp _ _ _ _ _
  refine wp_seq_k ?_
  intro K4 hK4
  refine wp_seq_k ?_
  intro K5 hK5
  refine rg [0, 1] ?_
  refine sq ?_
  refine .mv ?_
  refine sq ?_
  refine .r0 ?_
  apply wpSq_end
  refine hK5 _ _ ?_
  refine ct ?_
  refine wp_skip ?_
  refine hK4 _ _ ?_
  refine wp_seq_k ?_
  intro K6 hK6
  refine wp_block ?_
  refine wp_seq_k ?_
  intro K7 hK7
  refine rg [0, 1, 2, 3, 4] ?_
  refine sq ?_
  refine .r4 hs.g1.f4 ?_
  refine sq ?_
  refine .mv ?_
  refine sq ?_
  intro K hK
  have k0_2 := (kb n1).b n2
  replace ha1 := ha1.k k0_2
  replace ha2 := ha2.k k0_2
  go_big_op
  go_fit (rgTurn_p0 0 (by decide) (PN.mk' ha1 ha2) (by omega) (by omega))
  rintro e w_3 ⟨_, rfl, ⟨n_g0a, o_g0a, k_g0a, c_g0a, n_g0b, o_g0b, k_g0b, c_g0b, rfl, g01, g02⟩, hb_3⟩
  replace hs := hs.bl hb_3
  have Lg01 := hide (g01.lenOf (L0.out.1))
  have Lg02 := hide (g02.lenOf (L0.out.2))
  refine hK _ _ rfl trivial ?_
  clear hK K
  refine sq ?_
  refine .al hs ?_; clear hs; intro p_b3 w_4 hs n4 kb_b3
  refine sq ?_
  refine .s4 hs.g0 (fun _ => hs.u0 kb_b3) ?_; clear hs; intro w_5 hs hd5 ho5
  apply wpSq_end
  refine hK7 _ _ ?_
  refine wp_seq_k ?_
  intro K8 hK8
  refine rg [0, 1] ?_
  refine sq ?_
  refine .r4 hs.g0.f4 ?_
  refine sq ?_
  intro K hK
  have k3_5 := (kb n4).o hd5 ho5
  replace g01 := g01.k k3_5
  replace g02 := g02.k k3_5
  go_big_op
  go_fit (rgFirst_any (.mk' (g01.zn L0.out.1) (g02.zn L0.out.2)) (by omega) (by omega))
  rintro e w_6 ⟨rfl, hb_6⟩
  replace hs := hs.bl hb_6
  rw [F0.out]
  refine hK _ _ rfl trivial ?_
  clear hK K
  apply wpSq_end
  refine hK8 _ _ ?_
  refine ct ?_
  refine wp_seq_k ?_
  intro K9 hK9
  refine rg [0, 1, 2, 3] ?_
  refine sq ?_
  refine .r4 hs.g0.f4 ?_
  refine sq ?_
  refine .mv ?_
  refine sq ?_
  refine .s4 hs.g1 (fun _ => hs.u1 kb_b2) ?_; clear hs; intro w_7 hs hd7 ho7
  refine sq ?_
  refine .mv ?_
  apply wpSq_end
  refine hK9 _ _ ?_
  refine wp_ret ?_
  try dsimp only [Exit.then, Exit.inBlock]
  obtain ⟨r0_0, r0_1, r0_2, r0_3⟩ := hs.g1.f4
  refine bodyPost_ret (v := (.tuple #[(.agg #[.bool n_g0a, .slice o_g0a k_g0a c_g0a, .bool n_g0b, .slice o_g0b k_g0b c_g0b]), (.int .i64 0)])) (by simp [results, Tryz.results55, go_sem, r0_0, r0_1, r0_2, r0_3]) rfl ?_
  have k5_7 := (kb hb_6).o hd7 ho7
  replace g01 := g01.k k5_7
  replace g02 := g02.k k5_7
  exact ⟨_, rfl, .mk' g01 g02, hs.b⟩
set_option maxHeartbeats 4000000 in
set_option maxRecDepth 20000 in
theorem rgCanon_1 (ha : PN w va x l y m) (hl : l ≤ 20000000) (hm : m ≤ 20000000) (hx : y < 0 ∧ 0 ≤ x) :
    Calls Tryz.prog 55 #[va] w fun e w' => ∃ r, e = .returned (.tuple #[r, .int .i64 1]) ∧ PC w' r (turn 1 (x, y)).1 (turn 1 (x, y)).2 ∧ Below w.heap.size w w' := by
  have L0 := hide (zlen_turn ha.len1 ha.len2 0)
  have F0 := hide (decide_eq_false (p := 0 < (turn 0 (x, y)).1 ∧ 0 ≤ (turn 0 (x, y)).2) (by simp only [turn_0]; omega))
  have L1 := hide (zlen_turn ha.len1 ha.len2 1)
  have F1 := hide (decide_eq_true (p := 0 < (turn 1 (x, y)).1 ∧ 0 ≤ (turn 1 (x, y)).2) (by simp only [turn_1]; omega))
  clear hx
  obtain ⟨n_0a, o_0a, k_0a, c_0a, n_0b, o_0b, k_0b, c_0b, rfl, ha1, ha2⟩ := ha
  go_enter Tryz.func55, Tryz.ntmps55
  have hs := St.nil w
  refine wp_seq_k ?_
  intro K1 hK1
  refine rg [0, 1, 2] ?_
  refine sq ?_
  refine .al hs ?_; clear hs; intro p_b1 w_1 hs n1 kb_b1
  refine sq ?_
  refine .al hs ?_; clear hs; intro p_b2 w_2 hs n2 kb_b2
  refine sq ?_
  refine .mv ?_
  apply wpSq_end
  refine hK1 _ _ ?_
  refine wp_seq_k ?_
  intro K2 hK2
  refine wp_seq_k ?_
  intro K3 hK3
  refine rg [0] ?_
  refine sq ?_
  refine .mv ?_
  apply wpSq_end
  refine hK3 _ _ ?_
  refine wp_block ?_
  refine wp_loop_rounds 5 ?_
  show Code.wp _ _ _ _ _
  refine wp_seq_k ?_
  intro K4 hK4
  refine wp_seq_k ?_
  intro K5 hK5
  refine rg [0, 1] ?_
  refine sq ?_
  refine .mv ?_
  refine sq ?_
  refine .r0 ?_
  apply wpSq_end
  refine hK5 _ _ ?_
  refine ct ?_
  refine wp_skip ?_
  refine hK4 _ _ ?_
  refine wp_seq_k ?_
  intro K6 hK6
  refine wp_block ?_
  refine wp_seq_k ?_
  intro K7 hK7
  refine rg [0, 1, 2, 3, 4] ?_
  refine sq ?_
  refine .r4 hs.g1.f4 ?_
  refine sq ?_
  refine .mv ?_
  refine sq ?_
  intro K hK
  have k0_2 := (kb n1).b n2
  replace ha1 := ha1.k k0_2
  replace ha2 := ha2.k k0_2
  go_big_op
  go_fit (rgTurn_p0 0 (by decide) (PN.mk' ha1 ha2) (by omega) (by omega))
  rintro e w_3 ⟨_, rfl, ⟨n_g0a, o_g0a, k_g0a, c_g0a, n_g0b, o_g0b, k_g0b, c_g0b, rfl, g01, g02⟩, hb_3⟩
  replace hs := hs.bl hb_3
  have Lg01 := hide (g01.lenOf (L0.out.1))
  have Lg02 := hide (g02.lenOf (L0.out.2))
  refine hK _ _ rfl trivial ?_
  clear hK K
  refine sq ?_
  refine .al hs ?_; clear hs; intro p_b3 w_4 hs n4 kb_b3
  refine sq ?_
  refine .s4 hs.g0 (fun _ => hs.u0 kb_b3) ?_; clear hs; intro w_5 hs hd5 ho5
  apply wpSq_end
  refine hK7 _ _ ?_
  refine wp_seq_k ?_
  intro K8 hK8
  refine rg [0, 1] ?_
  refine sq ?_
  refine .r4 hs.g0.f4 ?_
  refine sq ?_
  intro K hK
  have k3_5 := (kb n4).o hd5 ho5
  replace g01 := g01.k k3_5
  replace g02 := g02.k k3_5
  go_big_op
  go_fit (rgFirst_any (.mk' (g01.zn L0.out.1) (g02.zn L0.out.2)) (by omega) (by omega))
  rintro e w_6 ⟨rfl, hb_6⟩
  replace hs := hs.bl hb_6
  rw [F0.out]
  refine hK _ _ rfl trivial ?_
  clear hK K
  apply wpSq_end
  refine hK8 _ _ ?_
  refine cf ?_
  refine wp_skip ?_
  refine hK6 _ _ ?_
  refine rg [0, 1, 2] ?_
  refine sq ?_
  refine .mv ?_
  refine sq ?_
  refine .r0 ?_
  refine sq ?_
  refine .mv ?_
  apply wpSq_end
  show Code.wp _ _ _ _ _
  refine wp_seq_k ?_
  intro K9 hK9
  refine wp_seq_k ?_
  intro K10 hK10
  refine rg [0, 1] ?_
  refine sq ?_
  refine .mv ?_
  refine sq ?_
  refine .r0 ?_
  apply wpSq_end
  refine hK10 _ _ ?_
  refine ct ?_
  refine wp_skip ?_
  refine hK9 _ _ ?_
  refine wp_seq_k ?_
  intro K11 hK11
  refine wp_block ?_
  refine wp_seq_k ?_
  intro K12 hK12
  refine rg [0, 1, 2, 3, 4] ?_
  refine sq ?_
  refine .r4 hs.g2.f4 ?_
  refine sq ?_
  refine .mv ?_
  refine sq ?_
  intro K hK
  have k2_6 := (((kb hb_3).b n4).o hd5 ho5).b hb_6
  replace ha1 := ha1.k k2_6
  replace ha2 := ha2.k k2_6
  go_big_op
  go_fit (rgTurn_p1 1 (by decide) (PN.mk' ha1 ha2) (by omega) (by omega))
  rintro e w_7 ⟨_, rfl, ⟨n_g1a, o_g1a, k_g1a, c_g1a, n_g1b, o_g1b, k_g1b, c_g1b, rfl, g11, g12⟩, hb_7⟩
  replace hs := hs.bl hb_7
  have Lg11 := hide (g11.lenOf (L1.out.1))
  have Lg12 := hide (g12.lenOf (L1.out.2))
  refine hK _ _ rfl trivial ?_
  clear hK K
  refine sq ?_
  refine .al hs ?_; clear hs; intro p_b4 w_8 hs n8 kb_b4
  refine sq ?_
  refine .s4 hs.g0 (fun _ => hs.u0 kb_b4) ?_; clear hs; intro w_9 hs hd9 ho9
  apply wpSq_end
  refine hK12 _ _ ?_
  refine wp_seq_k ?_
  intro K13 hK13
  refine rg [0, 1] ?_
  refine sq ?_
  refine .r4 hs.g0.f4 ?_
  refine sq ?_
  intro K hK
  have k7_9 := (kb n8).o hd9 ho9
  replace g11 := g11.k k7_9
  replace g12 := g12.k k7_9
  go_big_op
  go_fit (rgFirst_any (.mk' (g11.zn L1.out.1) (g12.zn L1.out.2)) (by omega) (by omega))
  rintro e w_10 ⟨rfl, hb_10⟩
  replace hs := hs.bl hb_10
  rw [F1.out]
  refine hK _ _ rfl trivial ?_
  clear hK K
  apply wpSq_end
  refine hK13 _ _ ?_
  refine ct ?_
  refine wp_seq_k ?_
  intro K14 hK14
  refine rg [0, 1, 2, 3] ?_
  refine sq ?_
  refine .r4 hs.g0.f4 ?_
  refine sq ?_
  refine .mv ?_
  refine sq ?_
  refine .s4 hs.g2 (fun _ => hs.u2 kb_b2) ?_; clear hs; intro w_11 hs hd11 ho11
  refine sq ?_
  refine .mv ?_
  apply wpSq_end
  refine hK14 _ _ ?_
  refine wp_ret ?_
  try dsimp only [Exit.then, Exit.inBlock]
  obtain ⟨r0_0, r0_1, r0_2, r0_3⟩ := hs.g2.f4
  refine bodyPost_ret (v := (.tuple #[(.agg #[.bool n_g1a, .slice o_g1a k_g1a c_g1a, .bool n_g1b, .slice o_g1b k_g1b c_g1b]), (.int .i64 1)])) (by simp [results, Tryz.results55, go_sem, r0_0, r0_1, r0_2, r0_3]) rfl ?_
  have k9_11 := (kb hb_10).o hd11 ho11
  replace g11 := g11.k k9_11
  replace g12 := g12.k k9_11
  exact ⟨_, rfl, .mk' g11 g12, hs.b⟩
set_option maxHeartbeats 4000000 in
set_option maxRecDepth 20000 in
theorem rgCanon_2 (ha : PN w va x l y m) (hl : l ≤ 20000000) (hm : m ≤ 20000000) (hx : x < 0 ∧ y ≤ 0) :
    Calls Tryz.prog 55 #[va] w fun e w' => ∃ r, e = .returned (.tuple #[r, .int .i64 2]) ∧ PC w' r (turn 2 (x, y)).1 (turn 2 (x, y)).2 ∧ Below w.heap.size w w' := by
  have L0 := hide (zlen_turn ha.len1 ha.len2 0)
  have F0 := hide (decide_eq_false (p := 0 < (turn 0 (x, y)).1 ∧ 0 ≤ (turn 0 (x, y)).2) (by simp only [turn_0]; omega))
  have L1 := hide (zlen_turn ha.len1 ha.len2 1)
  have F1 := hide (decide_eq_false (p := 0 < (turn 1 (x, y)).1 ∧ 0 ≤ (turn 1 (x, y)).2) (by simp only [turn_1]; omega))
  have L2 := hide (zlen_turn ha.len1 ha.len2 2)
  have F2 := hide (decide_eq_true (p := 0 < (turn 2 (x, y)).1 ∧ 0 ≤ (turn 2 (x, y)).2) (by simp only [turn_2]; omega))
  clear hx
  obtain ⟨n_0a, o_0a, k_0a, c_0a, n_0b, o_0b, k_0b, c_0b, rfl, ha1, ha2⟩ := ha
  go_enter Tryz.func55, Tryz.ntmps55
  have hs := St.nil w
  refine wp_seq_k ?_
  intro K1 hK1
  refine rg [0, 1, 2] ?_
  refine sq ?_
  refine .al hs ?_; clear hs; intro p_b1 w_1 hs n1 kb_b1
  refine sq ?_
  refine .al hs ?_; clear hs; intro p_b2 w_2 hs n2 kb_b2
  refine sq ?_
  refine .mv ?_
  apply wpSq_end
  refine hK1 _ _ ?_
  refine wp_seq_k ?_
  intro K2 hK2
  refine wp_seq_k ?_
  intro K3 hK3
  refine rg [0] ?_
  refine sq ?_
  refine .mv ?_
  apply wpSq_end
  refine hK3 _ _ ?_
  refine wp_block ?_
  refine wp_loop_rounds 5 ?_
  show Code.wp _ _ _ _ _
  refine wp_seq_k ?_
  intro K4 hK4
  refine wp_seq_k ?_
  intro K5 hK5
  refine rg [0, 1] ?_
  refine sq ?_
  refine .mv ?_
  refine sq ?_
  refine .r0 ?_
  apply wpSq_end
  refine hK5 _ _ ?_
  refine ct ?_
  refine wp_skip ?_
  refine hK4 _ _ ?_
  refine wp_seq_k ?_
  intro K6 hK6
  refine wp_block ?_
  refine wp_seq_k ?_
  intro K7 hK7
  refine rg [0, 1, 2, 3, 4] ?_
  refine sq ?_
  refine .r4 hs.g1.f4 ?_
  refine sq ?_
  refine .mv ?_
  refine sq ?_
  intro K hK
  have k0_2 := (kb n1).b n2
  replace ha1 := ha1.k k0_2
  replace ha2 := ha2.k k0_2
  go_big_op
  go_fit (rgTurn_p0 0 (by decide) (PN.mk' ha1 ha2) (by omega) (by omega))
  rintro e w_3 ⟨_, rfl, ⟨n_g0a, o_g0a, k_g0a, c_g0a, n_g0b, o_g0b, k_g0b, c_g0b, rfl, g01, g02⟩, hb_3⟩
  replace hs := hs.bl hb_3
  have Lg01 := hide (g01.lenOf (L0.out.1))
  have Lg02 := hide (g02.lenOf (L0.out.2))
  refine hK _ _ rfl trivial ?_
  clear hK K
  refine sq ?_
  refine .al hs ?_; clear hs; intro p_b3 w_4 hs n4 kb_b3
  refine sq ?_
  refine .s4 hs.g0 (fun _ => hs.u0 kb_b3) ?_; clear hs; intro w_5 hs hd5 ho5
  apply wpSq_end
  refine hK7 _ _ ?_
  refine wp_seq_k ?_
  intro K8 hK8
  refine rg [0, 1] ?_
  refine sq ?_
  refine .r4 hs.g0.f4 ?_
  refine sq ?_
  intro K hK
  have k3_5 := (kb n4).o hd5 ho5
  replace g01 := g01.k k3_5
  replace g02 := g02.k k3_5
  go_big_op
  go_fit (rgFirst_any (.mk' (g01.zn L0.out.1) (g02.zn L0.out.2)) (by omega) (by omega))
  rintro e w_6 ⟨rfl, hb_6⟩
  replace hs := hs.bl hb_6
  rw [F0.out]
  refine hK _ _ rfl trivial ?_
  clear hK K
  apply wpSq_end
  refine hK8 _ _ ?_
  refine cf ?_
  refine wp_skip ?_
  refine hK6 _ _ ?_
  refine rg [0, 1, 2] ?_
  refine sq ?_
  refine .mv ?_
  refine sq ?_
  refine .r0 ?_
  refine sq ?_
  refine .mv ?_
  apply wpSq_end
  show Code.wp _ _ _ _ _
  refine wp_seq_k ?_
  intro K9 hK9
  refine wp_seq_k ?_
  intro K10 hK10
  refine rg [0, 1] ?_
  refine sq ?_
  refine .mv ?_
  refine sq ?_
  refine .r0 ?_
  apply wpSq_end
  refine hK10 _ _ ?_
  refine ct ?_
  refine wp_skip ?_
  refine hK9 _ _ ?_
  refine wp_seq_k ?_
  intro K11 hK11
  refine wp_block ?_
  refine wp_seq_k ?_
  intro K12 hK12
  refine rg [0, 1, 2, 3, 4] ?_
  refine sq ?_
  refine .r4 hs.g2.f4 ?_
  refine sq ?_
  refine .mv ?_
  refine sq ?_
  intro K hK
  have k2_6 := (((kb hb_3).b n4).o hd5 ho5).b hb_6
  replace ha1 := ha1.k k2_6
  replace ha2 := ha2.k k2_6
  go_big_op
  go_fit (rgTurn_p1 1 (by decide) (PN.mk' ha1 ha2) (by omega) (by omega))
  rintro e w_7 ⟨_, rfl, ⟨n_g1a, o_g1a, k_g1a, c_g1a, n_g1b, o_g1b, k_g1b, c_g1b, rfl, g11, g12⟩, hb_7⟩
  replace hs := hs.bl hb_7
  have Lg11 := hide (g11.lenOf (L1.out.1))
  have Lg12 := hide (g12.lenOf (L1.out.2))
  refine hK _ _ rfl trivial ?_
  clear hK K
  refine sq ?_
  refine .al hs ?_; clear hs; intro p_b4 w_8 hs n8 kb_b4
  refine sq ?_
  refine .s4 hs.g0 (fun _ => hs.u0 kb_b4) ?_; clear hs; intro w_9 hs hd9 ho9
  apply wpSq_end
  refine hK12 _ _ ?_
  refine wp_seq_k ?_
  intro K13 hK13
  refine rg [0, 1] ?_
  refine sq ?_
  refine .r4 hs.g0.f4 ?_
  refine sq ?_
  intro K hK
  have k7_9 := (kb n8).o hd9 ho9
  replace g11 := g11.k k7_9
  replace g12 := g12.k k7_9
  go_big_op
  go_fit (rgFirst_any (.mk' (g11.zn L1.out.1) (g12.zn L1.out.2)) (by omega) (by omega))
  rintro e w_10 ⟨rfl, hb_10⟩
  replace hs := hs.bl hb_10
  rw [F1.out]
  refine hK _ _ rfl trivial ?_
  clear hK K
  apply wpSq_end
  refine hK13 _ _ ?_
  refine cf ?_
  refine wp_skip ?_
  refine hK11 _ _ ?_
  refine rg [0, 1, 2] ?_
  refine sq ?_
  refine .mv ?_
  refine sq ?_
  refine .r0 ?_
  refine sq ?_
  refine .mv ?_
  apply wpSq_end
  show Code.wp _ _ _ _ _
  refine wp_seq_k ?_
  intro K14 hK14
  refine wp_seq_k ?_
  intro K15 hK15
  refine rg [0, 1] ?_
  refine sq ?_
  refine .mv ?_
  refine sq ?_
  refine .r0 ?_
  apply wpSq_end
  refine hK15 _ _ ?_
  refine ct ?_
  refine wp_skip ?_
  refine hK14 _ _ ?_
  refine wp_seq_k ?_
  intro K16 hK16
  refine wp_block ?_
  refine wp_seq_k ?_
  intro K17 hK17
  refine rg [0, 1, 2, 3, 4] ?_
  refine sq ?_
  refine .r4 hs.g3.f4 ?_
  refine sq ?_
  refine .mv ?_
  refine sq ?_
  intro K hK
  have k6_10 := (((kb hb_7).b n8).o hd9 ho9).b hb_10
  replace ha1 := ha1.k k6_10
  replace ha2 := ha2.k k6_10
  go_big_op
  go_fit (rgTurn_p2 2 (by decide) (PN.mk' ha1 ha2) (by omega) (by omega))
  rintro e w_11 ⟨_, rfl, ⟨n_g2a, o_g2a, k_g2a, c_g2a, n_g2b, o_g2b, k_g2b, c_g2b, rfl, g21, g22⟩, hb_11⟩
  replace hs := hs.bl hb_11
  have Lg21 := hide (g21.lenOf (L2.out.1))
  have Lg22 := hide (g22.lenOf (L2.out.2))
  refine hK _ _ rfl trivial ?_
  clear hK K
  refine sq ?_
  refine .al hs ?_; clear hs; intro p_b5 w_12 hs n12 kb_b5
  refine sq ?_
  refine .s4 hs.g0 (fun _ => hs.u0 kb_b5) ?_; clear hs; intro w_13 hs hd13 ho13
  apply wpSq_end
  refine hK17 _ _ ?_
  refine wp_seq_k ?_
  intro K18 hK18
  refine rg [0, 1] ?_
  refine sq ?_
  refine .r4 hs.g0.f4 ?_
  refine sq ?_
  intro K hK
  have k11_13 := (kb n12).o hd13 ho13
  replace g21 := g21.k k11_13
  replace g22 := g22.k k11_13
  go_big_op
  go_fit (rgFirst_any (.mk' (g21.zn L2.out.1) (g22.zn L2.out.2)) (by omega) (by omega))
  rintro e w_14 ⟨rfl, hb_14⟩
  replace hs := hs.bl hb_14
  rw [F2.out]
  refine hK _ _ rfl trivial ?_
  clear hK K
  apply wpSq_end
  refine hK18 _ _ ?_
  refine ct ?_
  refine wp_seq_k ?_
  intro K19 hK19
  refine rg [0, 1, 2, 3] ?_
  refine sq ?_
  refine .r4 hs.g0.f4 ?_
  refine sq ?_
  refine .mv ?_
  refine sq ?_
  refine .s4 hs.g3 (fun _ => hs.u3 kb_b2) ?_; clear hs; intro w_15 hs hd15 ho15
  refine sq ?_
  refine .mv ?_
  apply wpSq_end
  refine hK19 _ _ ?_
  refine wp_ret ?_
  try dsimp only [Exit.then, Exit.inBlock]
  obtain ⟨r0_0, r0_1, r0_2, r0_3⟩ := hs.g3.f4
  refine bodyPost_ret (v := (.tuple #[(.agg #[.bool n_g2a, .slice o_g2a k_g2a c_g2a, .bool n_g2b, .slice o_g2b k_g2b c_g2b]), (.int .i64 2)])) (by simp [results, Tryz.results55, go_sem, r0_0, r0_1, r0_2, r0_3]) rfl ?_
  have k13_15 := (kb hb_14).o hd15 ho15
  replace g21 := g21.k k13_15
  replace g22 := g22.k k13_15
  exact ⟨_, rfl, .mk' g21 g22, hs.b⟩
set_option maxHeartbeats 4000000 in
set_option maxRecDepth 20000 in
theorem rgCanon_3 (ha : PN w va x l y m) (hl : l ≤ 20000000) (hm : m ≤ 20000000) (hx : 0 < y ∧ x ≤ 0) :
    Calls Tryz.prog 55 #[va] w fun e w' => ∃ r, e = .returned (.tuple #[r, .int .i64 3]) ∧ PC w' r (turn 3 (x, y)).1 (turn 3 (x, y)).2 ∧ Below w.heap.size w w' := by
  have L0 := hide (zlen_turn ha.len1 ha.len2 0)
  have F0 := hide (decide_eq_false (p := 0 < (turn 0 (x, y)).1 ∧ 0 ≤ (turn 0 (x, y)).2) (by simp only [turn_0]; omega))
  have L1 := hide (zlen_turn ha.len1 ha.len2 1)
  have F1 := hide (decide_eq_false (p := 0 < (turn 1 (x, y)).1 ∧ 0 ≤ (turn 1 (x, y)).2) (by simp only [turn_1]; omega))
  have L2 := hide (zlen_turn ha.len1 ha.len2 2)
  have F2 := hide (decide_eq_false (p := 0 < (turn 2 (x, y)).1 ∧ 0 ≤ (turn 2 (x, y)).2) (by simp only [turn_2]; omega))
  have L3 := hide (zlen_turn ha.len1 ha.len2 3)
  have F3 := hide (decide_eq_true (p := 0 < (turn 3 (x, y)).1 ∧ 0 ≤ (turn 3 (x, y)).2) (by simp only [turn_3]; omega))
  clear hx
  obtain ⟨n_0a, o_0a, k_0a, c_0a, n_0b, o_0b, k_0b, c_0b, rfl, ha1, ha2⟩ := ha
  go_enter Tryz.func55, Tryz.ntmps55
  have hs := St.nil w
  refine wp_seq_k ?_
  intro K1 hK1
  refine rg [0, 1, 2] ?_
  refine sq ?_
  refine .al hs ?_; clear hs; intro p_b1 w_1 hs n1 kb_b1
  refine sq ?_
  refine .al hs ?_; clear hs; intro p_b2 w_2 hs n2 kb_b2
  refine sq ?_
  refine .mv ?_
  apply wpSq_end
  refine hK1 _ _ ?_
  refine wp_seq_k ?_
  intro K2 hK2
  refine wp_seq_k ?_
  intro K3 hK3
  refine rg [0] ?_
  refine sq ?_
  refine .mv ?_
  apply wpSq_end
  refine hK3 _ _ ?_
  refine wp_block ?_
  refine wp_loop_rounds 5 ?_
  show Code.wp _ _ _ _ _
  refine wp_seq_k ?_
  intro K4 hK4
  refine wp_seq_k ?_
  intro K5 hK5
  refine rg [0, 1] ?_
  refine sq ?_
  refine .mv ?_
  refine sq ?_
  refine .r0 ?_
  apply wpSq_end
  refine hK5 _ _ ?_
  refine ct ?_
  refine wp_skip ?_
  refine hK4 _ _ ?_
  refine wp_seq_k ?_
  intro K6 hK6
  refine wp_block ?_
  refine wp_seq_k ?_
  intro K7 hK7
  refine rg [0, 1, 2, 3, 4] ?_
  refine sq ?_
  refine .r4 hs.g1.f4 ?_
  refine sq ?_
  refine .mv ?_
  refine sq ?_
  intro K hK
  have k0_2 := (kb n1).b n2
  replace ha1 := ha1.k k0_2
  replace ha2 := ha2.k k0_2
  go_big_op
  go_fit (rgTurn_p0 0 (by decide) (PN.mk' ha1 ha2) (by omega) (by omega))
  rintro e w_3 ⟨_, rfl, ⟨n_g0a, o_g0a, k_g0a, c_g0a, n_g0b, o_g0b, k_g0b, c_g0b, rfl, g01, g02⟩, hb_3⟩
  replace hs := hs.bl hb_3
  have Lg01 := hide (g01.lenOf (L0.out.1))
  have Lg02 := hide (g02.lenOf (L0.out.2))
  refine hK _ _ rfl trivial ?_
  clear hK K
  refine sq ?_
  refine .al hs ?_; clear hs; intro p_b3 w_4 hs n4 kb_b3
  refine sq ?_
  refine .s4 hs.g0 (fun _ => hs.u0 kb_b3) ?_; clear hs; intro w_5 hs hd5 ho5
  apply wpSq_end
  refine hK7 _ _ ?_
  refine wp_seq_k ?_
  intro K8 hK8
  refine rg [0, 1] ?_
  refine sq ?_
  refine .r4 hs.g0.f4 ?_
  refine sq ?_
  intro K hK
  have k3_5 := (kb n4).o hd5 ho5
  replace g01 := g01.k k3_5
  replace g02 := g02.k k3_5
  go_big_op
  go_fit (rgFirst_any (.mk' (g01.zn L0.out.1) (g02.zn L0.out.2)) (by omega) (by omega))
  rintro e w_6 ⟨rfl, hb_6⟩
  replace hs := hs.bl hb_6
  rw [F0.out]
  refine hK _ _ rfl trivial ?_
  clear hK K
  apply wpSq_end
  refine hK8 _ _ ?_
  refine cf ?_
  refine wp_skip ?_
  refine hK6 _ _ ?_
  refine rg [0, 1, 2] ?_
  refine sq ?_
  refine .mv ?_
  refine sq ?_
  refine .r0 ?_
  refine sq ?_
  refine .mv ?_
  apply wpSq_end
  show Code.wp _ _ _ _ _
  refine wp_seq_k ?_
  intro K9 hK9
  refine wp_seq_k ?_
  intro K10 hK10
  refine rg [0, 1] ?_
  refine sq ?_
  refine .mv ?_
  refine sq ?_
  refine .r0 ?_
  apply wpSq_end
  refine hK10 _ _ ?_
  refine ct ?_
  refine wp_skip ?_
  refine hK9 _ _ ?_
  refine wp_seq_k ?_
  intro K11 hK11
  refine wp_block ?_
  refine wp_seq_k ?_
  intro K12 hK12
  refine rg [0, 1, 2, 3, 4] ?_
  refine sq ?_
  refine .r4 hs.g2.f4 ?_
  refine sq ?_
  refine .mv ?_
  refine sq ?_
  intro K hK
  have k2_6 := (((kb hb_3).b n4).o hd5 ho5).b hb_6
  replace ha1 := ha1.k k2_6
  replace ha2 := ha2.k k2_6
  go_big_op
  go_fit (rgTurn_p1 1 (by decide) (PN.mk' ha1 ha2) (by omega) (by omega))
  rintro e w_7 ⟨_, rfl, ⟨n_g1a, o_g1a, k_g1a, c_g1a, n_g1b, o_g1b, k_g1b, c_g1b, rfl, g11, g12⟩, hb_7⟩
  replace hs := hs.bl hb_7
  have Lg11 := hide (g11.lenOf (L1.out.1))
  have Lg12 := hide (g12.lenOf (L1.out.2))
  refine hK _ _ rfl trivial ?_
  clear hK K
  refine sq ?_
  refine .al hs ?_; clear hs; intro p_b4 w_8 hs n8 kb_b4
  refine sq ?_
  refine .s4 hs.g0 (fun _ => hs.u0 kb_b4) ?_; clear hs; intro w_9 hs hd9 ho9
  apply wpSq_end
  refine hK12 _ _ ?_
  refine wp_seq_k ?_
  intro K13 hK13
  refine rg [0, 1] ?_
  refine sq ?_
  refine .r4 hs.g0.f4 ?_
  refine sq ?_
  intro K hK
  have k7_9 := (kb n8).o hd9 ho9
  replace g11 := g11.k k7_9
  replace g12 := g12.k k7_9
  go_big_op
  go_fit (rgFirst_any (.mk' (g11.zn L1.out.1) (g12.zn L1.out.2)) (by omega) (by omega))
  rintro e w_10 ⟨rfl, hb_10⟩
  replace hs := hs.bl hb_10
  rw [F1.out]
  refine hK _ _ rfl trivial ?_
  clear hK K
  apply wpSq_end
  refine hK13 _ _ ?_
  refine cf ?_
  refine wp_skip ?_
  refine hK11 _ _ ?_
  refine rg [0, 1, 2] ?_
  refine sq ?_
  refine .mv ?_
  refine sq ?_
  refine .r0 ?_
  refine sq ?_
  refine .mv ?_
  apply wpSq_end
  show Code.wp _ _ _ _ _
  refine wp_seq_k ?_
  intro K14 hK14
  refine wp_seq_k ?_
  intro K15 hK15
  refine rg [0, 1] ?_
  refine sq ?_
  refine .mv ?_
  refine sq ?_
  refine .r0 ?_
  apply wpSq_end
  refine hK15 _ _ ?_
  refine ct ?_
  refine wp_skip ?_
  refine hK14 _ _ ?_
  refine wp_seq_k ?_
  intro K16 hK16
  refine wp_block ?_
  refine wp_seq_k ?_
  intro K17 hK17
  refine rg [0, 1, 2, 3, 4] ?_
  refine sq ?_
  refine .r4 hs.g3.f4 ?_
  refine sq ?_
  refine .mv ?_
  refine sq ?_
  intro K hK
  have k6_10 := (((kb hb_7).b n8).o hd9 ho9).b hb_10
  replace ha1 := ha1.k k6_10
  replace ha2 := ha2.k k6_10
  go_big_op
  go_fit (rgTurn_p2 2 (by decide) (PN.mk' ha1 ha2) (by omega) (by omega))
  rintro e w_11 ⟨_, rfl, ⟨n_g2a, o_g2a, k_g2a, c_g2a, n_g2b, o_g2b, k_g2b, c_g2b, rfl, g21, g22⟩, hb_11⟩
  replace hs := hs.bl hb_11
  have Lg21 := hide (g21.lenOf (L2.out.1))
  have Lg22 := hide (g22.lenOf (L2.out.2))
  refine hK _ _ rfl trivial ?_
  clear hK K
  refine sq ?_
  refine .al hs ?_; clear hs; intro p_b5 w_12 hs n12 kb_b5
  refine sq ?_
  refine .s4 hs.g0 (fun _ => hs.u0 kb_b5) ?_; clear hs; intro w_13 hs hd13 ho13
  apply wpSq_end
  refine hK17 _ _ ?_
  refine wp_seq_k ?_
  intro K18 hK18
  refine rg [0, 1] ?_
  refine sq ?_
  refine .r4 hs.g0.f4 ?_
  refine sq ?_
  intro K hK
  have k11_13 := (kb n12).o hd13 ho13
  replace g21 := g21.k k11_13
  replace g22 := g22.k k11_13
  go_big_op
  go_fit (rgFirst_any (.mk' (g21.zn L2.out.1) (g22.zn L2.out.2)) (by omega) (by omega))
  rintro e w_14 ⟨rfl, hb_14⟩
  replace hs := hs.bl hb_14
  rw [F2.out]
  refine hK _ _ rfl trivial ?_
  clear hK K
  apply wpSq_end
  refine hK18 _ _ ?_
  refine cf ?_
  refine wp_skip ?_
  refine hK16 _ _ ?_
  refine rg [0, 1, 2] ?_
  refine sq ?_
  refine .mv ?_
  refine sq ?_
  refine .r0 ?_
  refine sq ?_
  refine .mv ?_
  apply wpSq_end
  show Code.wp _ _ _ _ _
  refine wp_seq_k ?_
  intro K19 hK19
  refine wp_seq_k ?_
  intro K20 hK20
  refine rg [0, 1] ?_
  refine sq ?_
  refine .mv ?_
  refine sq ?_
  refine .r0 ?_
  apply wpSq_end
  refine hK20 _ _ ?_
  refine ct ?_
  refine wp_skip ?_
  refine hK19 _ _ ?_
  refine wp_seq_k ?_
  intro K21 hK21
  refine wp_block ?_
  refine wp_seq_k ?_
  intro K22 hK22
  refine rg [0, 1, 2, 3, 4] ?_
  refine sq ?_
  refine .r4 hs.g4.f4 ?_
  refine sq ?_
  refine .mv ?_
  refine sq ?_
  intro K hK
  have k10_14 := (((kb hb_11).b n12).o hd13 ho13).b hb_14
  replace ha1 := ha1.k k10_14
  replace ha2 := ha2.k k10_14
  go_big_op
  go_fit (rgTurn_p3 3 (by decide) (PN.mk' ha1 ha2) (by omega) (by omega))
  rintro e w_15 ⟨_, rfl, ⟨n_g3a, o_g3a, k_g3a, c_g3a, n_g3b, o_g3b, k_g3b, c_g3b, rfl, g31, g32⟩, hb_15⟩
  replace hs := hs.bl hb_15
  have Lg31 := hide (g31.lenOf (L3.out.1))
  have Lg32 := hide (g32.lenOf (L3.out.2))
  refine hK _ _ rfl trivial ?_
  clear hK K
  refine sq ?_
  refine .al hs ?_; clear hs; intro p_b6 w_16 hs n16 kb_b6
  refine sq ?_
  refine .s4 hs.g0 (fun _ => hs.u0 kb_b6) ?_; clear hs; intro w_17 hs hd17 ho17
  apply wpSq_end
  refine hK22 _ _ ?_
  refine wp_seq_k ?_
  intro K23 hK23
  refine rg [0, 1] ?_
  refine sq ?_
  refine .r4 hs.g0.f4 ?_
  refine sq ?_
  intro K hK
  have k15_17 := (kb n16).o hd17 ho17
  replace g31 := g31.k k15_17
  replace g32 := g32.k k15_17
  go_big_op
  go_fit (rgFirst_any (.mk' (g31.zn L3.out.1) (g32.zn L3.out.2)) (by omega) (by omega))
  rintro e w_18 ⟨rfl, hb_18⟩
  clear g01 g02 g11 g12 g21 g22
  replace hs := hs.bl hb_18
  rw [F3.out]
  refine hK _ _ rfl trivial ?_
  clear hK K
  apply wpSq_end
  refine hK23 _ _ ?_
  refine ct ?_
  refine wp_seq_k ?_
  intro K24 hK24
  refine rg [0, 1, 2, 3] ?_
  refine sq ?_
  refine .r4 hs.g0.f4 ?_
  refine sq ?_
  refine .mv ?_
  refine sq ?_
  refine .s4 hs.g4 (fun _ => hs.u4 kb_b2) ?_; clear hs; intro w_19 hs hd19 ho19
  refine sq ?_
  refine .mv ?_
  apply wpSq_end
  refine hK24 _ _ ?_
  refine wp_ret ?_
  try dsimp only [Exit.then, Exit.inBlock]
  obtain ⟨r0_0, r0_1, r0_2, r0_3⟩ := hs.g4.f4
  refine bodyPost_ret (v := (.tuple #[(.agg #[.bool n_g3a, .slice o_g3a k_g3a c_g3a, .bool n_g3b, .slice o_g3b k_g3b c_g3b]), (.int .i64 3)])) (by simp [results, Tryz.results55, go_sem, r0_0, r0_1, r0_2, r0_3]) rfl ?_
  have k17_19 := (kb hb_18).o hd19 ho19
  replace g31 := g31.k k17_19
  replace g32 := g32.k k17_19
  exact ⟨_, rfl, .mk' g31 g32, hs.b⟩
set_option maxHeartbeats 4000000 in
set_option maxRecDepth 20000 in
theorem rgCanon_4 (ha : PN w va x l y m) (hl : l ≤ 20000000) (hm : m ≤ 20000000) (hx : x = 0 ∧ y = 0) :
    Calls Tryz.prog 55 #[va] w fun e w' => ∃ r, e = .returned (.tuple #[r, .int .i64 0]) ∧ PC w' r 0 0 ∧ Below w.heap.size w w' := by
  have L0 := hide (zlen_turn ha.len1 ha.len2 0)
  have F0 := hide (decide_eq_false (p := 0 < (turn 0 (x, y)).1 ∧ 0 ≤ (turn 0 (x, y)).2) (by simp only [turn_0]; omega))
  have L1 := hide (zlen_turn ha.len1 ha.len2 1)
  have F1 := hide (decide_eq_false (p := 0 < (turn 1 (x, y)).1 ∧ 0 ≤ (turn 1 (x, y)).2) (by simp only [turn_1]; omega))
  have L2 := hide (zlen_turn ha.len1 ha.len2 2)
  have F2 := hide (decide_eq_false (p := 0 < (turn 2 (x, y)).1 ∧ 0 ≤ (turn 2 (x, y)).2) (by simp only [turn_2]; omega))
  have L3 := hide (zlen_turn ha.len1 ha.len2 3)
  have F3 := hide (decide_eq_false (p := 0 < (turn 3 (x, y)).1 ∧ 0 ≤ (turn 3 (x, y)).2) (by simp only [turn_3]; omega))
  clear hx
  obtain ⟨n_0a, o_0a, k_0a, c_0a, n_0b, o_0b, k_0b, c_0b, rfl, ha1, ha2⟩ := ha
  go_enter Tryz.func55, Tryz.ntmps55
  have hs := St.nil w
  refine wp_seq_k ?_
  intro K1 hK1
  refine rg [0, 1, 2] ?_
  refine sq ?_
  refine .al hs ?_; clear hs; intro p_b1 w_1 hs n1 kb_b1
  refine sq ?_
  refine .al hs ?_; clear hs; intro p_b2 w_2 hs n2 kb_b2
  refine sq ?_
  refine .mv ?_
  apply wpSq_end
  refine hK1 _ _ ?_
  refine wp_seq_k ?_
  intro K2 hK2
  refine wp_seq_k ?_
  intro K3 hK3
  refine rg [0] ?_
  refine sq ?_
  refine .mv ?_
  apply wpSq_end
  refine hK3 _ _ ?_
  refine wp_block ?_
  refine wp_loop_rounds 5 ?_
  show Code.wp _ _ _ _ _
  refine wp_seq_k ?_
  intro K4 hK4
  refine wp_seq_k ?_
  intro K5 hK5
  refine rg [0, 1] ?_
  refine sq ?_
  refine .mv ?_
  refine sq ?_
  refine .r0 ?_
  apply wpSq_end
  refine hK5 _ _ ?_
  refine ct ?_
  refine wp_skip ?_
  refine hK4 _ _ ?_
  refine wp_seq_k ?_
  intro K6 hK6
  refine wp_block ?_
  refine wp_seq_k ?_
  intro K7 hK7
  refine rg [0, 1, 2, 3, 4] ?_
  refine sq ?_
  refine .r4 hs.g1.f4 ?_
  refine sq ?_
  refine .mv ?_
  refine sq ?_
  intro K hK
  have k0_2 := (kb n1).b n2
  replace ha1 := ha1.k k0_2
  replace ha2 := ha2.k k0_2
  go_big_op
  go_fit (rgTurn_p0 0 (by decide) (PN.mk' ha1 ha2) (by omega) (by omega))
  rintro e w_3 ⟨_, rfl, ⟨n_g0a, o_g0a, k_g0a, c_g0a, n_g0b, o_g0b, k_g0b, c_g0b, rfl, g01, g02⟩, hb_3⟩
  replace hs := hs.bl hb_3
  have Lg01 := hide (g01.lenOf (L0.out.1))
  have Lg02 := hide (g02.lenOf (L0.out.2))
  refine hK _ _ rfl trivial ?_
  clear hK K
  refine sq ?_
  refine .al hs ?_; clear hs; intro p_b3 w_4 hs n4 kb_b3
  refine sq ?_
  refine .s4 hs.g0 (fun _ => hs.u0 kb_b3) ?_; clear hs; intro w_5 hs hd5 ho5
  apply wpSq_end
  refine hK7 _ _ ?_
  refine wp_seq_k ?_
  intro K8 hK8
  refine rg [0, 1] ?_
  refine sq ?_
  refine .r4 hs.g0.f4 ?_
  refine sq ?_
  intro K hK
  have k3_5 := (kb n4).o hd5 ho5
  replace g01 := g01.k k3_5
  replace g02 := g02.k k3_5
  go_big_op
  go_fit (rgFirst_any (.mk' (g01.zn L0.out.1) (g02.zn L0.out.2)) (by omega) (by omega))
  rintro e w_6 ⟨rfl, hb_6⟩
  replace hs := hs.bl hb_6
  rw [F0.out]
  refine hK _ _ rfl trivial ?_
  clear hK K
  apply wpSq_end
  refine hK8 _ _ ?_
  refine cf ?_
  refine wp_skip ?_
  refine hK6 _ _ ?_
  refine rg [0, 1, 2] ?_
  refine sq ?_
  refine .mv ?_
  refine sq ?_
  refine .r0 ?_
  refine sq ?_
  refine .mv ?_
  apply wpSq_end
  show Code.wp _ _ _ _ _
  refine wp_seq_k ?_
  intro K9 hK9
  refine wp_seq_k ?_
  intro K10 hK10
  refine rg [0, 1] ?_
  refine sq ?_
  refine .mv ?_
  refine sq ?_
  refine .r0 ?_
  apply wpSq_end
  refine hK10 _ _ ?_
  refine ct ?_
  refine wp_skip ?_
  refine hK9 _ _ ?_
  refine wp_seq_k ?_
  intro K11 hK11
  refine wp_block ?_
  refine wp_seq_k ?_
  intro K12 hK12
  refine rg [0, 1, 2, 3, 4] ?_
  refine sq ?_
  refine .r4 hs.g2.f4 ?_
  refine sq ?_
  refine .mv ?_
  refine sq ?_
  intro K hK
  have k2_6 := (((kb hb_3).b n4).o hd5 ho5).b hb_6
  replace ha1 := ha1.k k2_6
  replace ha2 := ha2.k k2_6
  go_big_op
  go_fit (rgTurn_p1 1 (by decide) (PN.mk' ha1 ha2) (by omega) (by omega))
  rintro e w_7 ⟨_, rfl, ⟨n_g1a, o_g1a, k_g1a, c_g1a, n_g1b, o_g1b, k_g1b, c_g1b, rfl, g11, g12⟩, hb_7⟩
  replace hs := hs.bl hb_7
  have Lg11 := hide (g11.lenOf (L1.out.1))
  have Lg12 := hide (g12.lenOf (L1.out.2))
  refine hK _ _ rfl trivial ?_
  clear hK K
  refine sq ?_
  refine .al hs ?_; clear hs; intro p_b4 w_8 hs n8 kb_b4
  refine sq ?_
  refine .s4 hs.g0 (fun _ => hs.u0 kb_b4) ?_; clear hs; intro w_9 hs hd9 ho9
  apply wpSq_end
  refine hK12 _ _ ?_
  refine wp_seq_k ?_
  intro K13 hK13
  refine rg [0, 1] ?_
  refine sq ?_
  refine .r4 hs.g0.f4 ?_
  refine sq ?_
  intro K hK
  have k7_9 := (kb n8).o hd9 ho9
  replace g11 := g11.k k7_9
  replace g12 := g12.k k7_9
  go_big_op
  go_fit (rgFirst_any (.mk' (g11.zn L1.out.1) (g12.zn L1.out.2)) (by omega) (by omega))
  rintro e w_10 ⟨rfl, hb_10⟩
  replace hs := hs.bl hb_10
  rw [F1.out]
  refine hK _ _ rfl trivial ?_
  clear hK K
  apply wpSq_end
  refine hK13 _ _ ?_
  refine cf ?_
  refine wp_skip ?_
  refine hK11 _ _ ?_
  refine rg [0, 1, 2] ?_
  refine sq ?_
  refine .mv ?_
  refine sq ?_
  refine .r0 ?_
  refine sq ?_
  refine .mv ?_
  apply wpSq_end
  show Code.wp _ _ _ _ _
  refine wp_seq_k ?_
  intro K14 hK14
  refine wp_seq_k ?_
  intro K15 hK15
  refine rg [0, 1] ?_
  refine sq ?_
  refine .mv ?_
  refine sq ?_
  refine .r0 ?_
  apply wpSq_end
  refine hK15 _ _ ?_
  refine ct ?_
  refine wp_skip ?_
  refine hK14 _ _ ?_
  refine wp_seq_k ?_
  intro K16 hK16
  refine wp_block ?_
  refine wp_seq_k ?_
  intro K17 hK17
  refine rg [0, 1, 2, 3, 4] ?_
  refine sq ?_
  refine .r4 hs.g3.f4 ?_
  refine sq ?_
  refine .mv ?_
  refine sq ?_
  intro K hK
  have k6_10 := (((kb hb_7).b n8).o hd9 ho9).b hb_10
  replace ha1 := ha1.k k6_10
  replace ha2 := ha2.k k6_10
  go_big_op
  go_fit (rgTurn_p2 2 (by decide) (PN.mk' ha1 ha2) (by omega) (by omega))
  rintro e w_11 ⟨_, rfl, ⟨n_g2a, o_g2a, k_g2a, c_g2a, n_g2b, o_g2b, k_g2b, c_g2b, rfl, g21, g22⟩, hb_11⟩
  replace hs := hs.bl hb_11
  have Lg21 := hide (g21.lenOf (L2.out.1))
  have Lg22 := hide (g22.lenOf (L2.out.2))
  refine hK _ _ rfl trivial ?_
  clear hK K
  refine sq ?_
  refine .al hs ?_; clear hs; intro p_b5 w_12 hs n12 kb_b5
  refine sq ?_
  refine .s4 hs.g0 (fun _ => hs.u0 kb_b5) ?_; clear hs; intro w_13 hs hd13 ho13
  apply wpSq_end
  refine hK17 _ _ ?_
  refine wp_seq_k ?_
  intro K18 hK18
  refine rg [0, 1] ?_
  refine sq ?_
  refine .r4 hs.g0.f4 ?_
  refine sq ?_
  intro K hK
  have k11_13 := (kb n12).o hd13 ho13
  replace g21 := g21.k k11_13
  replace g22 := g22.k k11_13
  go_big_op
  go_fit (rgFirst_any (.mk' (g21.zn L2.out.1) (g22.zn L2.out.2)) (by omega) (by omega))
  rintro e w_14 ⟨rfl, hb_14⟩
  replace hs := hs.bl hb_14
  rw [F2.out]
  refine hK _ _ rfl trivial ?_
  clear hK K
  apply wpSq_end
  refine hK18 _ _ ?_
  refine cf ?_
  refine wp_skip ?_
  refine hK16 _ _ ?_
  refine rg [0, 1, 2] ?_
  refine sq ?_
  refine .mv ?_
  refine sq ?_
  refine .r0 ?_
  refine sq ?_
  refine .mv ?_
  apply wpSq_end
  show Code.wp _ _ _ _ _
  refine wp_seq_k ?_
  intro K19 hK19
  refine wp_seq_k ?_
  intro K20 hK20
  refine rg [0, 1] ?_
  refine sq ?_
  refine .mv ?_
  refine sq ?_
  refine .r0 ?_
  apply wpSq_end
  refine hK20 _ _ ?_
  refine ct ?_
  refine wp_skip ?_
  refine hK19 _ _ ?_
  refine wp_seq_k ?_
  intro K21 hK21
  refine wp_block ?_
  refine wp_seq_k ?_
  intro K22 hK22
  refine rg [0, 1, 2, 3, 4] ?_
  refine sq ?_
  refine .r4 hs.g4.f4 ?_
  refine sq ?_
  refine .mv ?_
  refine sq ?_
  intro K hK
  have k10_14 := (((kb hb_11).b n12).o hd13 ho13).b hb_14
  replace ha1 := ha1.k k10_14
  replace ha2 := ha2.k k10_14
  go_big_op
  go_fit (rgTurn_p3 3 (by decide) (PN.mk' ha1 ha2) (by omega) (by omega))
  rintro e w_15 ⟨_, rfl, ⟨n_g3a, o_g3a, k_g3a, c_g3a, n_g3b, o_g3b, k_g3b, c_g3b, rfl, g31, g32⟩, hb_15⟩
  replace hs := hs.bl hb_15
  have Lg31 := hide (g31.lenOf (L3.out.1))
  have Lg32 := hide (g32.lenOf (L3.out.2))
  refine hK _ _ rfl trivial ?_
  clear hK K
  refine sq ?_
  refine .al hs ?_; clear hs; intro p_b6 w_16 hs n16 kb_b6
  refine sq ?_
  refine .s4 hs.g0 (fun _ => hs.u0 kb_b6) ?_; clear hs; intro w_17 hs hd17 ho17
  apply wpSq_end
  refine hK22 _ _ ?_
  refine wp_seq_k ?_
  intro K23 hK23
  refine rg [0, 1] ?_
  refine sq ?_
  refine .r4 hs.g0.f4 ?_
  refine sq ?_
  intro K hK
  have k15_17 := (kb n16).o hd17 ho17
  replace g31 := g31.k k15_17
  replace g32 := g32.k k15_17
  go_big_op
  go_fit (rgFirst_any (.mk' (g31.zn L3.out.1) (g32.zn L3.out.2)) (by omega) (by omega))
  rintro e w_18 ⟨rfl, hb_18⟩
  clear g01 g02 g11 g12 g21 g22
  replace hs := hs.bl hb_18
  rw [F3.out]
  refine hK _ _ rfl trivial ?_
  clear hK K
  apply wpSq_end
  refine hK23 _ _ ?_
  refine cf ?_
  refine wp_skip ?_
  refine hK21 _ _ ?_
  refine rg [0, 1, 2] ?_
  refine sq ?_
  refine .mv ?_
  refine sq ?_
  refine .r0 ?_
  refine sq ?_
  refine .mv ?_
  apply wpSq_end
  show Code.wp _ _ _ _ _
  refine wp_seq_k ?_
  intro K24 hK24
  refine wp_seq_k ?_
  intro K25 hK25
  refine rg [0, 1] ?_
  refine sq ?_
  refine .mv ?_
  refine sq ?_
  refine .r0 ?_
  apply wpSq_end
  refine hK25 _ _ ?_
  refine cf ?_
  refine wp_exit ?_
  refine hK2 _ _ ?_
  refine wp_seq_k ?_
  intro K26 hK26
  refine rg [0, 1, 2] ?_
  refine sq ?_
  intro K hK
  go_big_op
  go_fit (rgI_any 0 0 _ (by decide) (by decide) (by decide) (by decide))
  rintro e w_19 ⟨_, rfl, ⟨n_ha, o_ha, k_ha, c_ha, n_hb, o_hb, k_hb, c_hb, rfl, h1, h2⟩, hb_19⟩
  replace hs := hs.bl hb_19
  refine hK _ _ rfl trivial ?_
  clear hK K
  refine sq ?_
  refine .s4 hs.g4 (fun _ => hs.u4 kb_b2) ?_; clear hs; intro w_20 hs hd20 ho20
  refine sq ?_
  refine .mv ?_
  apply wpSq_end
  refine hK26 _ _ ?_
  refine wp_ret ?_
  try dsimp only [Exit.then, Exit.inBlock]
  obtain ⟨r0_0, r0_1, r0_2, r0_3⟩ := hs.g4.f4
  refine bodyPost_ret (v := (.tuple #[(.agg #[.bool n_ha, .slice o_ha k_ha c_ha, .bool n_hb, .slice o_hb k_hb c_hb]), (.int .i64 0)])) (by simp [results, Tryz.results55, go_sem, r0_0, r0_1, r0_2, r0_3]) rfl ?_
  have k19_20 := ko hd20 ho20
  replace h1 := h1.k k19_20
  replace h2 := h2.k k19_20
  exact ⟨_, rfl, .mk' h1 h2, hs.b⟩
theorem rgCanon_any (ha : PN w va x l y m) (hl : l ≤ 20000000) (hm : m ≤ 20000000) :
    Calls Tryz.prog 55 #[va] w fun e w' => ∃ r, e = .returned (.tuple #[r, .int .i64 ((kq x y : Nat) : Int)]) ∧ PC w' r (turn (kq x y) (x, y)).1 (turn (kq x y) (x, y)).2 ∧ Below w.heap.size w w' := by
  rcases kq_cases x y with ⟨e, h⟩ | ⟨e, h⟩ | ⟨e, h⟩ | ⟨e, h | h⟩ <;> rw [e]
  · exact rgCanon_1 ha hl hm h
  · exact rgCanon_2 ha hl hm h
  · exact rgCanon_3 ha hl hm h
  · exact rgCanon_0 ha hl hm h
  · obtain ⟨rfl, rfl⟩ := h; exact rgCanon_4 ha hl hm ⟨rfl, rfl⟩
end
end Go.Proofs.YtgjainmfilkjmaaGreatDoor


/- gint.Xgcd. -/
namespace Go.Proofs.YtgjainmfilkjmaaGreatDoor
open Go Go.RowKit Dig
set_option linter.unusedVariables false

/-- Six whole numbers in one struct. -/
def SC (w : World) (v : Value) (z1 z2 z3 z4 z5 z6 : Int) : Prop :=
  ∃ n1 o1 k1 c1 n2 o2 k2 c2 n3 o3 k3 c3 n4 o4 k4 c4 n5 o5 k5 c5 n6 o6 k6 c6, v = .agg #[.bool n1, .slice o1 k1 c1, .bool n2, .slice o2 k2 c2, .bool n3, .slice o3 k3 c3, .bool n4, .slice o4 k4 c4, .bool n5, .slice o5 k5 c5, .bool n6, .slice o6 k6 c6] ∧ ZC w (.agg #[.bool n1, .slice o1 k1 c1]) z1 ∧ ZC w (.agg #[.bool n2, .slice o2 k2 c2]) z2 ∧ ZC w (.agg #[.bool n3, .slice o3 k3 c3]) z3 ∧ ZC w (.agg #[.bool n4, .slice o4 k4 c4]) z4 ∧ ZC w (.agg #[.bool n5, .slice o5 k5 c5]) z5 ∧ ZC w (.agg #[.bool n6, .slice o6 k6 c6]) z6
theorem SC.mk' {w : World} {n1 n2 n3 n4 n5 n6 : Bool} {o1 o2 o3 o4 o5 o6 : Option Addr} {k1 c1 k2 c2 k3 c3 k4 c4 k5 c5 k6 c6 : Nat} {z1 z2 z3 z4 z5 z6 : Int} (h1 : ZC w (.agg #[.bool n1, .slice o1 k1 c1]) z1) (h2 : ZC w (.agg #[.bool n2, .slice o2 k2 c2]) z2) (h3 : ZC w (.agg #[.bool n3, .slice o3 k3 c3]) z3) (h4 : ZC w (.agg #[.bool n4, .slice o4 k4 c4]) z4) (h5 : ZC w (.agg #[.bool n5, .slice o5 k5 c5]) z5) (h6 : ZC w (.agg #[.bool n6, .slice o6 k6 c6]) z6) : SC w (.agg #[.bool n1, .slice o1 k1 c1, .bool n2, .slice o2 k2 c2, .bool n3, .slice o3 k3 c3, .bool n4, .slice o4 k4 c4, .bool n5, .slice o5 k5 c5, .bool n6, .slice o6 k6 c6]) z1 z2 z3 z4 z5 z6 :=
  ⟨_, _, _, _, _, _, _, _, _, _, _, _, _, _, _, _, _, _, _, _, _, _, _, _, rfl, h1, h2, h3, h4, h5, h6⟩
section
variable {w : World} {va vb : Value} {x y u v : Int} {l m k n : Nat}
set_option maxHeartbeats 8000000 in
set_option maxRecDepth 20000 in
theorem isZero_yes (ha : PN w va 0 l 0 m) (hl : l ≤ 100000000) (hm : m ≤ 100000000) :
    Calls Tryz.prog 41 #[va] w fun e w' => e = .returned (.bool true) ∧ Below w.heap.size w w' := by
  obtain ⟨n_0a, o_0a, k_0a, c_0a, n_0b, o_0b, k_0b, c_0b, rfl, ha1, ha2⟩ := ha
  go_enter Tryz.func41, Tryz.ntmps41
  have hs := St.nil w
  refine wp_seq_k ?_
  intro K1 hK1
  refine rg [0, 1] ?_
  refine sq ?_
  refine .al hs ?_; clear hs; intro p_b1 w_1 hs n1 kb_b1
  refine sq ?_
  refine .mv ?_
  apply wpSq_end
  refine hK1 _ _ ?_
  refine wp_seq_k ?_
  intro K2 hK2
  refine rg [0, 1, 2, 3, 4, 5, 6, 7, 8, 9, 10] ?_
  refine sq ?_
  refine .r0 ?_
  refine sq ?_
  refine .r4 hs.g0.f4 ?_
  refine sq ?_
  intro K hK
  have k0_1 := kb n1
  replace ha1 := ha1.k k0_1
  go_big_op
  go_fit (zsign_any ha1 (by omega) )
  rintro e w_2 ⟨rfl, hb_2⟩
  replace hs := hs.bl hb_2
  refine hK _ _ rfl trivial ?_
  clear hK K
  refine sq ?_
  refine .r0 ?_
  refine sq ?_
  refine .mv ?_
  refine sq ?_
  refine .r0 ?_
  refine sq ?_
  refine .r4 hs.g0.f4 ?_
  refine sq ?_
  intro K hK
  have k0_2 := k0_1.b hb_2
  replace ha2 := ha2.k k0_2
  go_big_op
  go_fit (zsign_any ha2 (by omega) )
  rintro e w_3 ⟨rfl, hb_3⟩
  replace hs := hs.bl hb_3
  refine hK _ _ rfl trivial ?_
  clear hK K
  refine sq ?_
  refine .r0 ?_
  refine sq ?_
  refine .r0 ?_
  refine sq ?_
  refine .mv ?_
  apply wpSq_end
  refine hK2 _ _ ?_
  refine wp_ret ?_
  try dsimp only [Exit.then, Exit.inBlock]
  refine bodyPost_ret (v := (.bool true)) (by simp [results, Tryz.results41, go_sem]) rfl ?_
  have hb := hs.b
  exact ⟨rfl, hb⟩
set_option maxHeartbeats 8000000 in
set_option maxRecDepth 20000 in
theorem isZero_no1 (ha : PN w va x l y m) (hl : l ≤ 100000000) (hm : m ≤ 100000000) (h : x ≠ 0) :
    Calls Tryz.prog 41 #[va] w fun e w' => e = .returned (.bool false) ∧ Below w.heap.size w w' := by
  have H0 : (x.sign == 0) = false := by simpa using h
  obtain ⟨S, hS⟩ : ∃ S, x.sign = S := ⟨_, rfl⟩
  rw [hS] at H0
  have HS := hide hS
  clear h hS
  obtain ⟨n_0a, o_0a, k_0a, c_0a, n_0b, o_0b, k_0b, c_0b, rfl, ha1, ha2⟩ := ha
  go_enter Tryz.func41, Tryz.ntmps41
  have hs := St.nil w
  refine wp_seq_k ?_
  intro K1 hK1
  refine rg [0, 1] ?_
  refine sq ?_
  refine .al hs ?_; clear hs; intro p_b1 w_1 hs n1 kb_b1
  refine sq ?_
  refine .mv ?_
  apply wpSq_end
  refine hK1 _ _ ?_
  refine wp_seq_k ?_
  intro K2 hK2
  refine rg [0, 1, 2, 3, 4, 5, 6, 7, 8, 9, 10] ?_
  refine sq ?_
  refine .r0 ?_
  refine sq ?_
  refine .r4 hs.g0.f4 ?_
  refine sq ?_
  intro K hK
  have k0_1 := kb n1
  replace ha1 := ha1.k k0_1
  go_big_op
  go_fit (zsign_any ha1 (by omega) )
  rintro e w_2 ⟨rfl, hb_2⟩
  replace hs := hs.bl hb_2
  rw [HS.out]
  refine hK _ _ rfl trivial ?_
  clear hK K
  refine sq ?_
  refine .r0 ?_
  refine sq ?_
  refine .mv ?_
  refine sk ?_
  refine sk ?_
  refine sk ?_
  refine sk ?_
  refine sq ?_
  refine .r0 ?_
  refine sq ?_
  refine .mv ?_
  apply wpSq_end
  refine hK2 _ _ ?_
  refine wp_ret ?_
  try dsimp only [Exit.then, Exit.inBlock]
  refine bodyPost_ret (v := (.bool false)) (by simp [results, Tryz.results41, go_sem]) rfl ?_
  have hb := hs.b
  exact ⟨rfl, hb⟩
set_option maxHeartbeats 8000000 in
set_option maxRecDepth 20000 in
theorem isZero_no2 (ha : PN w va 0 l y m) (hl : l ≤ 100000000) (hm : m ≤ 100000000) (h : y ≠ 0) :
    Calls Tryz.prog 41 #[va] w fun e w' => e = .returned (.bool false) ∧ Below w.heap.size w w' := by
  have H0 : (y.sign == 0) = false := by simpa using h
  obtain ⟨S, hS⟩ : ∃ S, y.sign = S := ⟨_, rfl⟩
  rw [hS] at H0
  have HS := hide hS
  clear h hS
  obtain ⟨n_0a, o_0a, k_0a, c_0a, n_0b, o_0b, k_0b, c_0b, rfl, ha1, ha2⟩ := ha
  go_enter Tryz.func41, Tryz.ntmps41
  have hs := St.nil w
  refine wp_seq_k ?_
  intro K1 hK1
  refine rg [0, 1] ?_
  refine sq ?_
  refine .al hs ?_; clear hs; intro p_b1 w_1 hs n1 kb_b1
  refine sq ?_
  refine .mv ?_
  apply wpSq_end
  refine hK1 _ _ ?_
  refine wp_seq_k ?_
  intro K2 hK2
  refine rg [0, 1, 2, 3, 4, 5, 6, 7, 8, 9, 10] ?_
  refine sq ?_
  refine .r0 ?_
  refine sq ?_
  refine .r4 hs.g0.f4 ?_
  refine sq ?_
  intro K hK
  have k0_1 := kb n1
  replace ha1 := ha1.k k0_1
  go_big_op
  go_fit (zsign_any ha1 (by omega) )
  rintro e w_2 ⟨rfl, hb_2⟩
  replace hs := hs.bl hb_2
  refine hK _ _ rfl trivial ?_
  clear hK K
  refine sq ?_
  refine .r0 ?_
  refine sq ?_
  refine .mv ?_
  refine sq ?_
  refine .r0 ?_
  refine sq ?_
  refine .r4 hs.g0.f4 ?_
  refine sq ?_
  intro K hK
  have k0_2 := k0_1.b hb_2
  replace ha2 := ha2.k k0_2
  go_big_op
  go_fit (zsign_any ha2 (by omega) )
  rintro e w_3 ⟨rfl, hb_3⟩
  replace hs := hs.bl hb_3
  rw [HS.out]
  refine hK _ _ rfl trivial ?_
  clear hK K
  refine sq ?_
  refine .r0 ?_
  refine sq ?_
  refine .r0 ?_
  refine sq ?_
  refine .mv ?_
  apply wpSq_end
  refine hK2 _ _ ?_
  refine wp_ret ?_
  try dsimp only [Exit.then, Exit.inBlock]
  refine bodyPost_ret (v := (.bool false)) (by simp [results, Tryz.results41, go_sem]) rfl ?_
  have hb := hs.b
  exact ⟨rfl, hb⟩
theorem isZero_no (ha : PN w va x l y m) (hl : l ≤ 100000000) (hm : m ≤ 100000000) (h : gN x y ≠ 0) :
    Calls Tryz.prog 41 #[va] w fun e w' => e = .returned (.bool false) ∧ Below w.heap.size w w' := by
  by_cases hx : x = 0
  · subst hx
    exact isZero_no2 ha hl hm (fun c => h (gN_zero.2 ⟨rfl, c⟩))
  · exact isZero_no1 ha hl hm hx
end
end Go.Proofs.YtgjainmfilkjmaaGreatDoor

