/- gint: digits, isFarInside, quotient. -/
import Derived.Test.YtbiiglcfdphmaaaGreatG10ToG7

namespace Go.Proofs.YtbiiglcfdphmaaaGreat
open Go Go.RowKit Dig
set_option maxHeartbeats 4000000
set_option maxRecDepth 20000
set_option linter.unusedVariables false
def gdig (x y : Int) : Nat := (max (bitsN x.natAbs) (bitsN y.natAbs) + 31) / 32
def far (x y u v : Int) : Prop := ((gT1 x y u v + gT1 x y u v).natAbs : Int) < gN u v - tp (gN u v) 1 ∧ ((gT2 x y u v + gT2 x y u v).natAbs : Int) < gN u v - tp (gN u v) 1
theorem pow_pw (k : Nat) : 2 ^ (32 * k) = pw k := (pw_eq k).symm
theorem gdig_top {x y : Int} : x.natAbs < pw (gdig x y) ∧ y.natAbs < pw (gdig x y) := by
  have h1 := bitsN_lt x.natAbs
  have h2 := bitsN_lt y.natAbs
  have h3 : bitsN x.natAbs ≤ 32 * gdig x y := by unfold gdig; omega
  have h4 : bitsN y.natAbs ≤ 32 * gdig x y := by unfold gdig; omega
  rw [← pow_pw]
  exact ⟨Nat.lt_of_lt_of_le h1 (Nat.pow_le_pow_right (by decide) h3), Nat.lt_of_lt_of_le h2 (Nat.pow_le_pow_right (by decide) h4)⟩
theorem gdig_low {x y : Int} (h : 0 < gdig x y) : pw (gdig x y - 1) ≤ x.natAbs ∨ pw (gdig x y - 1) ≤ y.natAbs := by
  have key : ∀ n : Nat, 32 * (gdig x y - 1) < bitsN n → pw (gdig x y - 1) ≤ n := by
    intro n hn
    have h0 : n ≠ 0 := fun c => by rw [c, bits_zero.2 rfl] at hn; omega
    rw [← pow_pw]
    exact Nat.le_trans (Nat.pow_le_pow_right (by decide) (by omega)) (bitsN_le h0)
  have : 32 * (gdig x y - 1) < max (bitsN x.natAbs) (bitsN y.natAbs) := by unfold gdig at h ⊢; omega
  rcases Nat.le_total (bitsN x.natAbs) (bitsN y.natAbs) with hc | hc
  · rw [Nat.max_eq_right hc] at this; exact .inr (key _ this)
  · rw [Nat.max_eq_left hc] at this; exact .inl (key _ this)
theorem tp_abs (x : Int) (k : Nat) : (tp x k).natAbs = x.natAbs / pw k := by
  unfold tp
  generalize x.natAbs / pw k = q
  split <;> omega
section
variable {w : World} {va vb : Value} {x y u v : Int} {l m k n : Nat}
theorem gdigits_any (ha : PN w va x l y m) (hl : l ≤ 100000000) (hm : m ≤ 100000000) :
    Calls Tryz.prog 149 #[va] w fun e w' => e = .returned (.int .i64 ((gdig x y : Nat) : Int)) ∧ Below w.heap.size w w' := by
  have h1 := bits_bd (Nat.lt_of_lt_of_le (lt_pw_dig x.natAbs) (pw_mono ha.len1))
  have h2 := bits_bd (Nat.lt_of_lt_of_le (lt_pw_dig y.natAbs) (pw_mono ha.len2))
  obtain ⟨A, hA⟩ : ∃ A, bitsN x.natAbs = A := ⟨_, rfl⟩
  obtain ⟨B, hB⟩ : ∃ B, bitsN y.natAbs = B := ⟨_, rfl⟩
  have e : gdig x y = (max A B + 31) / 32 := by unfold gdig; rw [hA, hB]
  rw [hA] at h1
  rw [hB] at h2
  have HA := hide hA
  have HB := hide hB
  obtain ⟨M, hM⟩ : ∃ M, max A B = M := ⟨_, rfl⟩
  have hmx : max (A : Int) (B : Int) = (M : Int) := by omega
  have hM2 : M ≤ 32000000000 := by omega
  obtain ⟨D, hD⟩ : ∃ D, (M + 31) / 32 = D := ⟨_, rfl⟩
  have hd : ((M : Int) + 31) / 32 = (D : Int) := by omega
  have hd2 : Int.tdiv ((M : Int) + 31) 32 = (D : Int) := by rw [Int.tdiv_eq_ediv_of_nonneg (by omega)]; exact hd
  have hD2 : D ≤ 32000000000 := by omega
  have e2 : gdig x y = D := by rw [e, hM, hD]
  rw [e2]
  clear hA hB e e2 h1 h2 hM hD
  obtain ⟨n_0a, o_0a, k_0a, c_0a, n_0b, o_0b, k_0b, c_0b, rfl, ha1, ha2⟩ := ha
  go_enter Tryz.func149, Tryz.ntmps149
  have hs := St.nil w
  refine wp_seq_k ?_
  intro K1 hK1
  refine rg [0, 1] ?_
  refine sq ?_
  refine .al hs ?_; clear hs; intro p_b1 w_1 hs n1 kb_b1
  refine sq ?_
  refine .mv ?_
  apply wpSq_end
  refine hK1 _ _ ?_
  refine wp_seq_k ?_
  intro K2 hK2
  refine wp_region_f4 [(0, false), (1, false), (3, false), (4, false), (2, true), (5, true), (6, true), (7, false), (8, false), (9, false)] [] [] (fun _ => default) [99, 0, 99, 99, 0, 99, 99, 99, 99, 99] [] (.c hs.g0 .n) fn fun w_2 n2 => ?_
  replace hs := hs.bl n2
  refine f0 ?_
  refine f4 ?_
  refine f0 ?_
  refine f4 ?_
  refine fl fun w_3 n3 => ?_
  replace hs := hs.bl n3
  intro K hK
  have k0_3 := ((kb n1).b n2).b n3
  replace ha1 := ha1.k k0_3
  go_big_op
  go_fit (zbits_any ha1 (by omega) )
  rintro e w_4 ⟨rfl, hb_4⟩
  replace hs := hs.bl hb_4
  rw [HA.out]
  refine hK _ _ rfl ⟨hb_4, (And.intro hs.g0 trivial)⟩ ?_
  clear hK K
  refine fl fun w_5 n5 => ?_
  replace hs := hs.bl n5
  intro K hK
  have k0_5 := (k0_3.b hb_4).b n5
  replace ha2 := ha2.k k0_5
  go_big_op
  go_fit (zbits_any ha2 (by omega) )
  rintro e w_6 ⟨rfl, hb_6⟩
  replace hs := hs.bl hb_6
  rw [HB.out]
  refine hK _ _ rfl ⟨hb_6, (And.intro hs.g0 trivial)⟩ ?_
  clear hK K
  refine fl fun w_7 n7 => ?_
  replace hs := hs.bl n7
  refine .r0 ?_ (e := ⟨Below.refl _ _, (And.intro hs.g0 trivial)⟩)
  refine f0 ?_
  refine f0 ?_
  refine fmv ?_
  refine e0 hs ?_; clear hs; intro w_8 hs n8
  apply wpTail_end
  refine hK2 _ _ ?_
  refine wp_ret ?_
  try dsimp only [Exit.then, Exit.inBlock]
  refine bodyPost_ret (v := (.int .i64 (D : Int))) (by simp [results, Tryz.results149, go_sem]) rfl ?_
  have hb := hs.b
  exact ⟨rfl, hb⟩
theorem far_yes (ha : PN w va x l y m) (hq : PN w vb u k v n) (hl : l ≤ 20000000) (hm : m ≤ 20000000) (hk : k ≤ 20000000) (hn : n ≤ 20000000) (h1 : ((gT1 x y u v + gT1 x y u v).natAbs : Int) < gN u v - tp (gN u v) 1) (h2 : ((gT2 x y u v + gT2 x y u v).natAbs : Int) < gN u v - tp (gN u v) 1) :
    Calls Tryz.prog 151 #[va, vb] w fun e w' => e = .returned (.bool true) ∧ Below w.heap.size w w' := by
  have HC1 := hide (zcmp_lt h1)
  have HC2 := hide (zcmp_lt h2)
  clear h1 h2
  obtain ⟨n_0a, o_0a, k_0a, c_0a, n_0b, o_0b, k_0b, c_0b, rfl, ha1, ha2⟩ := ha
  obtain ⟨n_1a, o_1a, k_1a, c_1a, n_1b, o_1b, k_1b, c_1b, rfl, hq1, hq2⟩ := hq
  go_enter Tryz.func151, Tryz.ntmps151
  have hs := St.nil w
  refine wp_seq_k ?_
  intro K1 hK1
  refine rg [0, 1, 2] ?_
  refine sq ?_
  refine .al hs ?_; clear hs; intro p_b1 w_1 hs n1 kb_b1
  refine sq ?_
  refine .al hs ?_; clear hs; intro p_b2 w_2 hs n2 kb_b2
  refine sq ?_
  refine .mv ?_
  apply wpSq_end
  refine hK1 _ _ ?_
  refine wp_seq_k ?_
  intro K2 hK2
  refine rg [0, 1, 2, 3, 4, 5, 6, 7, 8, 9] ?_
  refine sq ?_
  refine .r4 hs.g1.f4 ?_
  refine sq ?_
  refine .r4 hs.g0.f4 ?_
  refine sq ?_
  intro K hK
  have k0_2 := (kb n1).b n2
  replace ha1 := ha1.k k0_2
  replace ha2 := ha2.k k0_2
  replace hq1 := hq1.k k0_2
  replace hq2 := hq2.k k0_2
  go_big_op
  go_fit (overNorm_any (PN.mk' ha1 ha2) (PN.mk' hq1 hq2) (by omega) (by omega) (by omega) (by omega) )
  rintro e w_3 ⟨_, v_g2, rfl, ⟨n_g1a, o_g1a, k_g1a, c_g1a, n_g1b, o_g1b, k_g1b, c_g1b, rfl, g11, g12⟩, g2, hb_3⟩
  replace hs := hs.bl hb_3
  obtain ⟨n_g2, o_g2, k_g2, c_g2, rfl⟩ := g2.open2
  have Lg11 := hide (g11.lenOf (zlen_gT1 (ha1.len) (ha2.len) (hq1.len) (hq2.len)))
  have Lg12 := hide (g12.lenOf (zlen_gT2 (ha1.len) (ha2.len) (hq1.len) (hq2.len)))
  have Lg2 := hide (g2.lenOf (zlen_gN (hq1.len) (hq2.len)))
  refine hK _ _ rfl trivial ?_
  clear hK K
  refine sq ?_
  refine .mv ?_
  refine sq ?_
  refine .r0 ?_
  refine sq ?_
  refine .r0 ?_
  refine sq ?_
  refine .al hs ?_; clear hs; intro p_b3 w_4 hs n4 kb_b3
  refine sq ?_
  refine .al hs ?_; clear hs; intro p_b4 w_5 hs n5 kb_b4
  refine sq ?_
  refine .s4 hs.g1 (fun _ => hs.u1 kb_b3) ?_; clear hs; intro w_6 hs hd6 ho6
  refine sq ?_
  refine .s2 hs.g0 (fun _ => hs.u0 kb_b4) ?_; clear hs; intro w_7 hs hd7 ho7
  apply wpSq_end
  refine hK2 _ _ ?_
  refine wp_seq_k ?_
  intro K3 hK3
  refine wp_region_f4 [(0, false), (1, false), (2, true), (3, true)] [4] [] (fun _ => default) [0, 0, 99, 99, 99] [(4, 0)] (.c hs.g0 .n) fn fun w_8 n8 => ?_
  replace hs := hs.bl n8
  refine f2 ?_
  refine f2 ?_
  refine fl fun w_9 n9 => ?_
  replace hs := hs.bl n9
  intro K hK
  have k3_9 := (((((kb n4).b n5).o hd6 ho6).o hd7 ho7).b n8).b n9
  replace g2 := g2.k k3_9
  go_big_op
  go_fit (topOf_any 1 (g2.zn Lg2.out) (by omega) (by decide))
  rintro e w_10 ⟨v_g3, rfl, g3, hb_10⟩
  replace hs := hs.bl hb_10
  obtain ⟨n_g3, o_g3, k_g3, c_g3, rfl⟩ := g3.open2
  refine hK _ _ rfl ⟨hb_10, (And.intro hs.g0 trivial)⟩ ?_
  clear hK K
  refine fl fun w_11 n11 => ?_
  replace hs := hs.bl n11
  intro K hK
  have k9_11 := (kb hb_10).b n11
  replace g2 := g2.k k9_11
  have k10_11 := kb n11
  replace g3 := g3.k k10_11
  go_big_op
  go_fit (zsub_any (g2.zn Lg2.out) g3 (by omega) (by omega) )
  rintro e w_12 ⟨v_g4, rfl, g4, hb_12⟩
  replace hs := hs.bl hb_12
  replace g4 := g4.rd
  obtain ⟨n_g4, o_g4, k_g4, c_g4, rfl⟩ := g4.open2
  have Lg4 := hide (g4.lenOf (zlen_sub (Lg2.out) (g3.len)))
  refine hK _ _ rfl ⟨hb_12, (And.intro hs.g0 trivial)⟩ ?_
  clear hK K
  refine e0 hs ?_; clear hs; intro w_13 hs n13
  refine tl ?_
  refine .s2 hs.g0 (fun _ => hs.u0 kb_b4) ?_ (e := fun _ hs => (And.intro True.intro True.intro)); clear hs; intro w_14 hs hd14 ho14
  clear ha1 ha2 hq1 hq2 g3 g2
  apply wpTail_end
  refine hK3 _ _ ?_
  refine wp_seq_k ?_
  intro K4 hK4
  refine wp_seq_k ?_
  intro K5 hK5
  refine rg [0, 1, 2, 3, 4, 5, 6] ?_
  refine sq ?_
  refine .r0 ?_
  refine sq ?_
  refine .r4 hs.g1.f4 ?_
  refine sq ?_
  refine .r0 ?_
  refine sq ?_
  refine .r4 hs.g1.f4 ?_
  refine sq ?_
  refine .al hs ?_; clear hs; intro p_b5 w_15 hs n15 kb_b5
  refine sq ?_
  refine .r0 ?_
  refine sq ?_
  refine .mv ?_
  apply wpSq_end
  refine hK5 _ _ ?_
  refine wp_block ?_
  refine wp_loop_rounds 3 ?_
  show Code.wp _ _ _ _ _
  refine wp_seq_k ?_
  intro K6 hK6
  refine rg [0] ?_
  refine sq ?_
  refine .r0 ?_
  apply wpSq_end
  refine hK6 _ _ ?_
  refine wp_seq_k ?_
  intro K7 hK7
  refine ct ?_
  refine wp_skip ?_
  refine hK7 _ _ ?_
  refine wp_seq_k ?_
  intro K8 hK8
  refine wp_block ?_
  refine wp_seq_k ?_
  intro K9 hK9
  refine rg [0, 1, 2, 3] ?_
  refine sq ?_
  refine .r0 ?_
  refine sq ?_
  refine .r4 hs.g0.f4 ?_
  refine sq ?_
  refine .al hs ?_; clear hs; intro p_b6 w_16 hs n16 kb_b6
  refine sq ?_
  refine .s2 hs.g0 (fun _ => hs.u0 kb_b6) ?_; clear hs; intro w_17 hs hd17 ho17
  apply wpSq_end
  refine hK9 _ _ ?_
  refine wp_seq_k ?_
  intro K10 hK10
  refine wp_region_f4 [(0, false), (1, false), (4, false), (2, true), (3, true), (5, true), (6, false)] [] [] (fun _ => default) [0, 0, 99, 99, 1, 99, 99] [] (.c hs.g0 (.c hs.g2 .n)) fn fun w_18 n18 => ?_
  replace hs := hs.bl n18
  refine f2 ?_
  refine f2 ?_
  refine f2 ?_
  refine fl fun w_19 n19 => ?_
  replace hs := hs.bl n19
  intro K hK
  have k3_19 := (((((((((k3_9.b hb_10).b n11).b hb_12).b n13).o hd14 ho14).b n15).b n16).o hd17 ho17).b n18).b n19
  replace g11 := g11.k k3_19
  go_big_op
  go_fit (zadd_any (g11.zn Lg11.out) (g11.zn Lg11.out) (by omega) (by omega) )
  rintro e w_20 ⟨v_g5, rfl, g5, hb_20⟩
  replace hs := hs.bl hb_20
  replace g5 := g5.rd
  obtain ⟨n_g5, o_g5, k_g5, c_g5, rfl⟩ := g5.open2
  have Lg5 := hide (g5.lenOf (zlen_add (Lg11.out) (Lg11.out)))
  refine hK _ _ rfl ⟨hb_20, (And.intro hs.g0 (And.intro hs.g2 trivial))⟩ ?_
  clear hK K
  refine fl fun w_21 n21 => ?_
  replace hs := hs.bl n21
  intro K hK
  have k20_21 := kb n21
  replace g5 := g5.k k20_21
  go_big_op
  go_fit (zabs_any (g5.zn Lg5.out) (by omega) )
  rintro e w_22 ⟨v_g6, rfl, g6, hb_22⟩
  replace hs := hs.bl hb_22
  replace g6 := g6.rd
  obtain ⟨n_g6, o_g6, k_g6, c_g6, rfl⟩ := g6.open2
  have Lg6 := hide (g6.lenOf (zlen_abs (Lg5.out)))
  refine hK _ _ rfl ⟨hb_22, (And.intro hs.g0 (And.intro hs.g2 trivial))⟩ ?_
  clear hK K
  refine fl fun w_23 n23 => ?_
  replace hs := hs.bl n23
  intro K hK
  have k22_23 := kb n23
  replace g6 := g6.k k22_23
  have k12_23 := ((((((((((kb n13).o hd14 ho14).b n15).b n16).o hd17 ho17).b n18).b n19).b hb_20).b n21).b hb_22).b n23
  replace g4 := g4.k k12_23
  go_big_op
  go_fit (zcmp_any (g6.zn Lg6.out) (g4.zn Lg4.out) (by omega) (by omega) )
  rintro e w_24 ⟨rfl, hb_24⟩
  replace hs := hs.bl hb_24
  rw [HC1.out]
  refine hK _ _ rfl ⟨hb_24, (And.intro hs.g0 (And.intro hs.g2 trivial))⟩ ?_
  clear hK K
  refine f0 ?_
  refine e0 hs ?_; clear hs; intro w_25 hs n25
  apply wpTail_end
  refine hK10 _ _ ?_
  refine cf ?_
  refine wp_skip ?_
  refine hK8 _ _ ?_
  refine rg [0, 1] ?_
  refine sq ?_
  refine .r0 ?_
  refine sq ?_
  refine .mv ?_
  apply wpSq_end
  show Code.wp _ _ _ _ _
  refine wp_seq_k ?_
  intro K11 hK11
  refine rg [0] ?_
  refine sq ?_
  refine .r0 ?_
  apply wpSq_end
  refine hK11 _ _ ?_
  refine wp_seq_k ?_
  intro K12 hK12
  refine ct ?_
  refine wp_skip ?_
  refine hK12 _ _ ?_
  refine wp_seq_k ?_
  intro K13 hK13
  refine wp_block ?_
  refine wp_seq_k ?_
  intro K14 hK14
  refine rg [0, 1, 2, 3] ?_
  refine sq ?_
  refine .r0 ?_
  refine sq ?_
  refine .r4 hs.g1.f4 ?_
  refine sq ?_
  refine .al hs ?_; clear hs; intro p_b7 w_26 hs n26 kb_b7
  refine sq ?_
  refine .s2 hs.g0 (fun _ => hs.u0 kb_b7) ?_; clear hs; intro w_27 hs hd27 ho27
  apply wpSq_end
  refine hK14 _ _ ?_
  refine wp_seq_k ?_
  intro K15 hK15
  refine wp_region_f4 [(0, false), (1, false), (4, false), (2, true), (3, true), (5, true), (6, false)] [] [] (fun _ => default) [0, 0, 99, 99, 1, 99, 99] [] (.c hs.g0 (.c hs.g3 .n)) fn fun w_28 n28 => ?_
  replace hs := hs.bl n28
  refine f2 ?_
  refine f2 ?_
  refine f2 ?_
  refine fl fun w_29 n29 => ?_
  replace hs := hs.bl n29
  intro K hK
  have k3_29 := (((((((((k3_19.b hb_20).b n21).b hb_22).b n23).b hb_24).b n25).b n26).o hd27 ho27).b n28).b n29
  replace g12 := g12.k k3_29
  go_big_op
  go_fit (zadd_any (g12.zn Lg12.out) (g12.zn Lg12.out) (by omega) (by omega) )
  rintro e w_30 ⟨v_g7, rfl, g7, hb_30⟩
  replace hs := hs.bl hb_30
  replace g7 := g7.rd
  obtain ⟨n_g7, o_g7, k_g7, c_g7, rfl⟩ := g7.open2
  have Lg7 := hide (g7.lenOf (zlen_add (Lg12.out) (Lg12.out)))
  refine hK _ _ rfl ⟨hb_30, (And.intro hs.g0 (And.intro hs.g3 trivial))⟩ ?_
  clear hK K
  refine fl fun w_31 n31 => ?_
  replace hs := hs.bl n31
  intro K hK
  have k30_31 := kb n31
  replace g7 := g7.k k30_31
  go_big_op
  go_fit (zabs_any (g7.zn Lg7.out) (by omega) )
  rintro e w_32 ⟨v_g8, rfl, g8, hb_32⟩
  replace hs := hs.bl hb_32
  replace g8 := g8.rd
  obtain ⟨n_g8, o_g8, k_g8, c_g8, rfl⟩ := g8.open2
  have Lg8 := hide (g8.lenOf (zlen_abs (Lg7.out)))
  refine hK _ _ rfl ⟨hb_32, (And.intro hs.g0 (And.intro hs.g3 trivial))⟩ ?_
  clear hK K
  refine fl fun w_33 n33 => ?_
  replace hs := hs.bl n33
  intro K hK
  have k32_33 := kb n33
  replace g8 := g8.k k32_33
  have k23_33 := (((((((((kb hb_24).b n25).b n26).o hd27 ho27).b n28).b n29).b hb_30).b n31).b hb_32).b n33
  replace g4 := g4.k k23_33
  go_big_op
  go_fit (zcmp_any (g8.zn Lg8.out) (g4.zn Lg4.out) (by omega) (by omega) )
  rintro e w_34 ⟨rfl, hb_34⟩
  replace hs := hs.bl hb_34
  rw [HC2.out]
  refine hK _ _ rfl ⟨hb_34, (And.intro hs.g0 (And.intro hs.g3 trivial))⟩ ?_
  clear hK K
  refine f0 ?_
  refine e0 hs ?_; clear hs; intro w_35 hs n35
  apply wpTail_end
  refine hK15 _ _ ?_
  refine cf ?_
  refine wp_skip ?_
  refine hK13 _ _ ?_
  refine rg [0, 1] ?_
  refine sq ?_
  refine .r0 ?_
  refine sq ?_
  refine .mv ?_
  apply wpSq_end
  show Code.wp _ _ _ _ _
  refine wp_seq_k ?_
  intro K16 hK16
  refine rg [0] ?_
  refine sq ?_
  refine .r0 ?_
  apply wpSq_end
  refine hK16 _ _ ?_
  refine wp_seq_k ?_
  intro K17 hK17
  refine cf ?_
  refine wp_exit ?_
  refine hK4 _ _ ?_
  refine wp_seq_k ?_
  intro K18 hK18
  refine rg [0] ?_
  refine sq ?_
  refine .mv ?_
  apply wpSq_end
  refine hK18 _ _ ?_
  refine wp_ret ?_
  try dsimp only [Exit.then, Exit.inBlock]
  refine bodyPost_ret (v := (.bool true)) (by simp [results, Tryz.results151, go_sem]) rfl ?_
  have hb := hs.b
  exact ⟨rfl, hb⟩
theorem far_no1 (ha : PN w va x l y m) (hq : PN w vb u k v n) (hl : l ≤ 20000000) (hm : m ≤ 20000000) (hk : k ≤ 20000000) (hn : n ≤ 20000000) (h1 : ¬ ((gT1 x y u v + gT1 x y u v).natAbs : Int) < gN u v - tp (gN u v) 1) :
    Calls Tryz.prog 151 #[va, vb] w fun e w' => e = .returned (.bool false) ∧ Below w.heap.size w w' := by
  have hg1 := zcmp_ge (Int.not_lt.1 h1)
  obtain ⟨C1, hC1⟩ : ∃ C, zcmp ((gT1 x y u v + gT1 x y u v).natAbs : Int) (gN u v - tp (gN u v) 1) = C := ⟨_, rfl⟩
  rw [hC1] at hg1
  have HC1 := hide hC1
  have hgt1 : (0 ≤ C1) = True := eq_true hg1
  clear hC1
  clear h1
  obtain ⟨n_0a, o_0a, k_0a, c_0a, n_0b, o_0b, k_0b, c_0b, rfl, ha1, ha2⟩ := ha
  obtain ⟨n_1a, o_1a, k_1a, c_1a, n_1b, o_1b, k_1b, c_1b, rfl, hq1, hq2⟩ := hq
  go_enter Tryz.func151, Tryz.ntmps151
  have hs := St.nil w
  refine wp_seq_k ?_
  intro K1 hK1
  refine rg [0, 1, 2] ?_
  refine sq ?_
  refine .al hs ?_; clear hs; intro p_b1 w_1 hs n1 kb_b1
  refine sq ?_
  refine .al hs ?_; clear hs; intro p_b2 w_2 hs n2 kb_b2
  refine sq ?_
  refine .mv ?_
  apply wpSq_end
  refine hK1 _ _ ?_
  refine wp_seq_k ?_
  intro K2 hK2
  refine rg [0, 1, 2, 3, 4, 5, 6, 7, 8, 9] ?_
  refine sq ?_
  refine .r4 hs.g1.f4 ?_
  refine sq ?_
  refine .r4 hs.g0.f4 ?_
  refine sq ?_
  intro K hK
  have k0_2 := (kb n1).b n2
  replace ha1 := ha1.k k0_2
  replace ha2 := ha2.k k0_2
  replace hq1 := hq1.k k0_2
  replace hq2 := hq2.k k0_2
  go_big_op
  go_fit (overNorm_any (PN.mk' ha1 ha2) (PN.mk' hq1 hq2) (by omega) (by omega) (by omega) (by omega) )
  rintro e w_3 ⟨_, v_g2, rfl, ⟨n_g1a, o_g1a, k_g1a, c_g1a, n_g1b, o_g1b, k_g1b, c_g1b, rfl, g11, g12⟩, g2, hb_3⟩
  replace hs := hs.bl hb_3
  obtain ⟨n_g2, o_g2, k_g2, c_g2, rfl⟩ := g2.open2
  have Lg11 := hide (g11.lenOf (zlen_gT1 (ha1.len) (ha2.len) (hq1.len) (hq2.len)))
  have Lg2 := hide (g2.lenOf (zlen_gN (hq1.len) (hq2.len)))
  refine hK _ _ rfl trivial ?_
  clear hK K
  refine sq ?_
  refine .mv ?_
  refine sq ?_
  refine .r0 ?_
  refine sq ?_
  refine .r0 ?_
  refine sq ?_
  refine .al hs ?_; clear hs; intro p_b3 w_4 hs n4 kb_b3
  refine sq ?_
  refine .al hs ?_; clear hs; intro p_b4 w_5 hs n5 kb_b4
  refine sq ?_
  refine .s4 hs.g1 (fun _ => hs.u1 kb_b3) ?_; clear hs; intro w_6 hs hd6 ho6
  refine sq ?_
  refine .s2 hs.g0 (fun _ => hs.u0 kb_b4) ?_; clear hs; intro w_7 hs hd7 ho7
  apply wpSq_end
  refine hK2 _ _ ?_
  refine wp_seq_k ?_
  intro K3 hK3
  refine wp_region_f4 [(0, false), (1, false), (2, true), (3, true)] [4] [] (fun _ => default) [0, 0, 99, 99, 99] [(4, 0)] (.c hs.g0 .n) fn fun w_8 n8 => ?_
  replace hs := hs.bl n8
  refine f2 ?_
  refine f2 ?_
  refine fl fun w_9 n9 => ?_
  replace hs := hs.bl n9
  intro K hK
  have k3_9 := (((((kb n4).b n5).o hd6 ho6).o hd7 ho7).b n8).b n9
  replace g2 := g2.k k3_9
  go_big_op
  go_fit (topOf_any 1 (g2.zn Lg2.out) (by omega) (by decide))
  rintro e w_10 ⟨v_g3, rfl, g3, hb_10⟩
  replace hs := hs.bl hb_10
  obtain ⟨n_g3, o_g3, k_g3, c_g3, rfl⟩ := g3.open2
  refine hK _ _ rfl ⟨hb_10, (And.intro hs.g0 trivial)⟩ ?_
  clear hK K
  refine fl fun w_11 n11 => ?_
  replace hs := hs.bl n11
  intro K hK
  have k9_11 := (kb hb_10).b n11
  replace g2 := g2.k k9_11
  have k10_11 := kb n11
  replace g3 := g3.k k10_11
  go_big_op
  go_fit (zsub_any (g2.zn Lg2.out) g3 (by omega) (by omega) )
  rintro e w_12 ⟨v_g4, rfl, g4, hb_12⟩
  replace hs := hs.bl hb_12
  replace g4 := g4.rd
  obtain ⟨n_g4, o_g4, k_g4, c_g4, rfl⟩ := g4.open2
  have Lg4 := hide (g4.lenOf (zlen_sub (Lg2.out) (g3.len)))
  refine hK _ _ rfl ⟨hb_12, (And.intro hs.g0 trivial)⟩ ?_
  clear hK K
  refine e0 hs ?_; clear hs; intro w_13 hs n13
  refine tl ?_
  refine .s2 hs.g0 (fun _ => hs.u0 kb_b4) ?_ (e := fun _ hs => (And.intro True.intro True.intro)); clear hs; intro w_14 hs hd14 ho14
  clear ha1 ha2 hq1 hq2 g3 g2
  apply wpTail_end
  refine hK3 _ _ ?_
  refine wp_seq_k ?_
  intro K4 hK4
  refine wp_seq_k ?_
  intro K5 hK5
  refine rg [0, 1, 2, 3, 4, 5, 6] ?_
  refine sq ?_
  refine .r0 ?_
  refine sq ?_
  refine .r4 hs.g1.f4 ?_
  refine sq ?_
  refine .r0 ?_
  refine sq ?_
  refine .r4 hs.g1.f4 ?_
  refine sq ?_
  refine .al hs ?_; clear hs; intro p_b5 w_15 hs n15 kb_b5
  refine sq ?_
  refine .r0 ?_
  refine sq ?_
  refine .mv ?_
  apply wpSq_end
  refine hK5 _ _ ?_
  refine wp_block ?_
  refine wp_loop_rounds 3 ?_
  show Code.wp _ _ _ _ _
  refine wp_seq_k ?_
  intro K6 hK6
  refine rg [0] ?_
  refine sq ?_
  refine .r0 ?_
  apply wpSq_end
  refine hK6 _ _ ?_
  refine wp_seq_k ?_
  intro K7 hK7
  refine ct ?_
  refine wp_skip ?_
  refine hK7 _ _ ?_
  refine wp_seq_k ?_
  intro K8 hK8
  refine wp_block ?_
  refine wp_seq_k ?_
  intro K9 hK9
  refine rg [0, 1, 2, 3] ?_
  refine sq ?_
  refine .r0 ?_
  refine sq ?_
  refine .r4 hs.g0.f4 ?_
  refine sq ?_
  refine .al hs ?_; clear hs; intro p_b6 w_16 hs n16 kb_b6
  refine sq ?_
  refine .s2 hs.g0 (fun _ => hs.u0 kb_b6) ?_; clear hs; intro w_17 hs hd17 ho17
  apply wpSq_end
  refine hK9 _ _ ?_
  refine wp_seq_k ?_
  intro K10 hK10
  refine wp_region_f4 [(0, false), (1, false), (4, false), (2, true), (3, true), (5, true), (6, false)] [] [] (fun _ => default) [0, 0, 99, 99, 1, 99, 99] [] (.c hs.g0 (.c hs.g2 .n)) fn fun w_18 n18 => ?_
  replace hs := hs.bl n18
  refine f2 ?_
  refine f2 ?_
  refine f2 ?_
  refine fl fun w_19 n19 => ?_
  replace hs := hs.bl n19
  intro K hK
  have k3_19 := (((((((((k3_9.b hb_10).b n11).b hb_12).b n13).o hd14 ho14).b n15).b n16).o hd17 ho17).b n18).b n19
  replace g11 := g11.k k3_19
  go_big_op
  go_fit (zadd_any (g11.zn Lg11.out) (g11.zn Lg11.out) (by omega) (by omega) )
  rintro e w_20 ⟨v_g5, rfl, g5, hb_20⟩
  replace hs := hs.bl hb_20
  replace g5 := g5.rd
  obtain ⟨n_g5, o_g5, k_g5, c_g5, rfl⟩ := g5.open2
  have Lg5 := hide (g5.lenOf (zlen_add (Lg11.out) (Lg11.out)))
  refine hK _ _ rfl ⟨hb_20, (And.intro hs.g0 (And.intro hs.g2 trivial))⟩ ?_
  clear hK K
  refine fl fun w_21 n21 => ?_
  replace hs := hs.bl n21
  intro K hK
  have k20_21 := kb n21
  replace g5 := g5.k k20_21
  go_big_op
  go_fit (zabs_any (g5.zn Lg5.out) (by omega) )
  rintro e w_22 ⟨v_g6, rfl, g6, hb_22⟩
  replace hs := hs.bl hb_22
  replace g6 := g6.rd
  obtain ⟨n_g6, o_g6, k_g6, c_g6, rfl⟩ := g6.open2
  have Lg6 := hide (g6.lenOf (zlen_abs (Lg5.out)))
  refine hK _ _ rfl ⟨hb_22, (And.intro hs.g0 (And.intro hs.g2 trivial))⟩ ?_
  clear hK K
  refine fl fun w_23 n23 => ?_
  replace hs := hs.bl n23
  intro K hK
  have k22_23 := kb n23
  replace g6 := g6.k k22_23
  have k12_23 := ((((((((((kb n13).o hd14 ho14).b n15).b n16).o hd17 ho17).b n18).b n19).b hb_20).b n21).b hb_22).b n23
  replace g4 := g4.k k12_23
  go_big_op
  go_fit (zcmp_any (g6.zn Lg6.out) (g4.zn Lg4.out) (by omega) (by omega) )
  rintro e w_24 ⟨rfl, hb_24⟩
  replace hs := hs.bl hb_24
  rw [HC1.out]
  refine hK _ _ rfl ⟨hb_24, (And.intro hs.g0 (And.intro hs.g2 trivial))⟩ ?_
  clear hK K
  refine f0 ?_
  refine e0 hs ?_; clear hs; intro w_25 hs n25
  apply wpTail_end
  refine hK10 _ _ ?_
  refine ct ?_
  refine wp_seq_k ?_
  intro K11 hK11
  refine rg [0] ?_
  refine sq ?_
  refine .mv ?_
  apply wpSq_end
  refine hK11 _ _ ?_
  refine wp_ret ?_
  try dsimp only [Exit.then, Exit.inBlock]
  refine bodyPost_ret (v := (.bool false)) (by simp [results, Tryz.results151, go_sem]) rfl ?_
  have hb := hs.b
  exact ⟨rfl, hb⟩
theorem far_no2 (ha : PN w va x l y m) (hq : PN w vb u k v n) (hl : l ≤ 20000000) (hm : m ≤ 20000000) (hk : k ≤ 20000000) (hn : n ≤ 20000000) (h1 : ((gT1 x y u v + gT1 x y u v).natAbs : Int) < gN u v - tp (gN u v) 1) (h2 : ¬ ((gT2 x y u v + gT2 x y u v).natAbs : Int) < gN u v - tp (gN u v) 1) :
    Calls Tryz.prog 151 #[va, vb] w fun e w' => e = .returned (.bool false) ∧ Below w.heap.size w w' := by
  have HC1 := hide (zcmp_lt h1)
  have hg2 := zcmp_ge (Int.not_lt.1 h2)
  obtain ⟨C2, hC2⟩ : ∃ C, zcmp ((gT2 x y u v + gT2 x y u v).natAbs : Int) (gN u v - tp (gN u v) 1) = C := ⟨_, rfl⟩
  rw [hC2] at hg2
  have HC2 := hide hC2
  have hgt2 : (0 ≤ C2) = True := eq_true hg2
  clear hC2
  clear h1 h2
  obtain ⟨n_0a, o_0a, k_0a, c_0a, n_0b, o_0b, k_0b, c_0b, rfl, ha1, ha2⟩ := ha
  obtain ⟨n_1a, o_1a, k_1a, c_1a, n_1b, o_1b, k_1b, c_1b, rfl, hq1, hq2⟩ := hq
  go_enter Tryz.func151, Tryz.ntmps151
  have hs := St.nil w
  refine wp_seq_k ?_
  intro K1 hK1
  refine rg [0, 1, 2] ?_
  refine sq ?_
  refine .al hs ?_; clear hs; intro p_b1 w_1 hs n1 kb_b1
  refine sq ?_
  refine .al hs ?_; clear hs; intro p_b2 w_2 hs n2 kb_b2
  refine sq ?_
  refine .mv ?_
  apply wpSq_end
  refine hK1 _ _ ?_
  refine wp_seq_k ?_
  intro K2 hK2
  refine rg [0, 1, 2, 3, 4, 5, 6, 7, 8, 9] ?_
  refine sq ?_
  refine .r4 hs.g1.f4 ?_
  refine sq ?_
  refine .r4 hs.g0.f4 ?_
  refine sq ?_
  intro K hK
  have k0_2 := (kb n1).b n2
  replace ha1 := ha1.k k0_2
  replace ha2 := ha2.k k0_2
  replace hq1 := hq1.k k0_2
  replace hq2 := hq2.k k0_2
  go_big_op
  go_fit (overNorm_any (PN.mk' ha1 ha2) (PN.mk' hq1 hq2) (by omega) (by omega) (by omega) (by omega) )
  rintro e w_3 ⟨_, v_g2, rfl, ⟨n_g1a, o_g1a, k_g1a, c_g1a, n_g1b, o_g1b, k_g1b, c_g1b, rfl, g11, g12⟩, g2, hb_3⟩
  replace hs := hs.bl hb_3
  obtain ⟨n_g2, o_g2, k_g2, c_g2, rfl⟩ := g2.open2
  have Lg11 := hide (g11.lenOf (zlen_gT1 (ha1.len) (ha2.len) (hq1.len) (hq2.len)))
  have Lg12 := hide (g12.lenOf (zlen_gT2 (ha1.len) (ha2.len) (hq1.len) (hq2.len)))
  have Lg2 := hide (g2.lenOf (zlen_gN (hq1.len) (hq2.len)))
  refine hK _ _ rfl trivial ?_
  clear hK K
  refine sq ?_
  refine .mv ?_
  refine sq ?_
  refine .r0 ?_
  refine sq ?_
  refine .r0 ?_
  refine sq ?_
  refine .al hs ?_; clear hs; intro p_b3 w_4 hs n4 kb_b3
  refine sq ?_
  refine .al hs ?_; clear hs; intro p_b4 w_5 hs n5 kb_b4
  refine sq ?_
  refine .s4 hs.g1 (fun _ => hs.u1 kb_b3) ?_; clear hs; intro w_6 hs hd6 ho6
  refine sq ?_
  refine .s2 hs.g0 (fun _ => hs.u0 kb_b4) ?_; clear hs; intro w_7 hs hd7 ho7
  apply wpSq_end
  refine hK2 _ _ ?_
  refine wp_seq_k ?_
  intro K3 hK3
  refine wp_region_f4 [(0, false), (1, false), (2, true), (3, true)] [4] [] (fun _ => default) [0, 0, 99, 99, 99] [(4, 0)] (.c hs.g0 .n) fn fun w_8 n8 => ?_
  replace hs := hs.bl n8
  refine f2 ?_
  refine f2 ?_
  refine fl fun w_9 n9 => ?_
  replace hs := hs.bl n9
  intro K hK
  have k3_9 := (((((kb n4).b n5).o hd6 ho6).o hd7 ho7).b n8).b n9
  replace g2 := g2.k k3_9
  go_big_op
  go_fit (topOf_any 1 (g2.zn Lg2.out) (by omega) (by decide))
  rintro e w_10 ⟨v_g3, rfl, g3, hb_10⟩
  replace hs := hs.bl hb_10
  obtain ⟨n_g3, o_g3, k_g3, c_g3, rfl⟩ := g3.open2
  refine hK _ _ rfl ⟨hb_10, (And.intro hs.g0 trivial)⟩ ?_
  clear hK K
  refine fl fun w_11 n11 => ?_
  replace hs := hs.bl n11
  intro K hK
  have k9_11 := (kb hb_10).b n11
  replace g2 := g2.k k9_11
  have k10_11 := kb n11
  replace g3 := g3.k k10_11
  go_big_op
  go_fit (zsub_any (g2.zn Lg2.out) g3 (by omega) (by omega) )
  rintro e w_12 ⟨v_g4, rfl, g4, hb_12⟩
  replace hs := hs.bl hb_12
  replace g4 := g4.rd
  obtain ⟨n_g4, o_g4, k_g4, c_g4, rfl⟩ := g4.open2
  have Lg4 := hide (g4.lenOf (zlen_sub (Lg2.out) (g3.len)))
  refine hK _ _ rfl ⟨hb_12, (And.intro hs.g0 trivial)⟩ ?_
  clear hK K
  refine e0 hs ?_; clear hs; intro w_13 hs n13
  refine tl ?_
  refine .s2 hs.g0 (fun _ => hs.u0 kb_b4) ?_ (e := fun _ hs => (And.intro True.intro True.intro)); clear hs; intro w_14 hs hd14 ho14
  clear ha1 ha2 hq1 hq2 g3 g2
  apply wpTail_end
  refine hK3 _ _ ?_
  refine wp_seq_k ?_
  intro K4 hK4
  refine wp_seq_k ?_
  intro K5 hK5
  refine rg [0, 1, 2, 3, 4, 5, 6] ?_
  refine sq ?_
  refine .r0 ?_
  refine sq ?_
  refine .r4 hs.g1.f4 ?_
  refine sq ?_
  refine .r0 ?_
  refine sq ?_
  refine .r4 hs.g1.f4 ?_
  refine sq ?_
  refine .al hs ?_; clear hs; intro p_b5 w_15 hs n15 kb_b5
  refine sq ?_
  refine .r0 ?_
  refine sq ?_
  refine .mv ?_
  apply wpSq_end
  refine hK5 _ _ ?_
  refine wp_block ?_
  refine wp_loop_rounds 3 ?_
  show Code.wp _ _ _ _ _
  refine wp_seq_k ?_
  intro K6 hK6
  refine rg [0] ?_
  refine sq ?_
  refine .r0 ?_
  apply wpSq_end
  refine hK6 _ _ ?_
  refine wp_seq_k ?_
  intro K7 hK7
  refine ct ?_
  refine wp_skip ?_
  refine hK7 _ _ ?_
  refine wp_seq_k ?_
  intro K8 hK8
  refine wp_block ?_
  refine wp_seq_k ?_
  intro K9 hK9
  refine rg [0, 1, 2, 3] ?_
  refine sq ?_
  refine .r0 ?_
  refine sq ?_
  refine .r4 hs.g0.f4 ?_
  refine sq ?_
  refine .al hs ?_; clear hs; intro p_b6 w_16 hs n16 kb_b6
  refine sq ?_
  refine .s2 hs.g0 (fun _ => hs.u0 kb_b6) ?_; clear hs; intro w_17 hs hd17 ho17
  apply wpSq_end
  refine hK9 _ _ ?_
  refine wp_seq_k ?_
  intro K10 hK10
  refine wp_region_f4 [(0, false), (1, false), (4, false), (2, true), (3, true), (5, true), (6, false)] [] [] (fun _ => default) [0, 0, 99, 99, 1, 99, 99] [] (.c hs.g0 (.c hs.g2 .n)) fn fun w_18 n18 => ?_
  replace hs := hs.bl n18
  refine f2 ?_
  refine f2 ?_
  refine f2 ?_
  refine fl fun w_19 n19 => ?_
  replace hs := hs.bl n19
  intro K hK
  have k3_19 := (((((((((k3_9.b hb_10).b n11).b hb_12).b n13).o hd14 ho14).b n15).b n16).o hd17 ho17).b n18).b n19
  replace g11 := g11.k k3_19
  go_big_op
  go_fit (zadd_any (g11.zn Lg11.out) (g11.zn Lg11.out) (by omega) (by omega) )
  rintro e w_20 ⟨v_g5, rfl, g5, hb_20⟩
  replace hs := hs.bl hb_20
  replace g5 := g5.rd
  obtain ⟨n_g5, o_g5, k_g5, c_g5, rfl⟩ := g5.open2
  have Lg5 := hide (g5.lenOf (zlen_add (Lg11.out) (Lg11.out)))
  refine hK _ _ rfl ⟨hb_20, (And.intro hs.g0 (And.intro hs.g2 trivial))⟩ ?_
  clear hK K
  refine fl fun w_21 n21 => ?_
  replace hs := hs.bl n21
  intro K hK
  have k20_21 := kb n21
  replace g5 := g5.k k20_21
  go_big_op
  go_fit (zabs_any (g5.zn Lg5.out) (by omega) )
  rintro e w_22 ⟨v_g6, rfl, g6, hb_22⟩
  replace hs := hs.bl hb_22
  replace g6 := g6.rd
  obtain ⟨n_g6, o_g6, k_g6, c_g6, rfl⟩ := g6.open2
  have Lg6 := hide (g6.lenOf (zlen_abs (Lg5.out)))
  refine hK _ _ rfl ⟨hb_22, (And.intro hs.g0 (And.intro hs.g2 trivial))⟩ ?_
  clear hK K
  refine fl fun w_23 n23 => ?_
  replace hs := hs.bl n23
  intro K hK
  have k22_23 := kb n23
  replace g6 := g6.k k22_23
  have k12_23 := ((((((((((kb n13).o hd14 ho14).b n15).b n16).o hd17 ho17).b n18).b n19).b hb_20).b n21).b hb_22).b n23
  replace g4 := g4.k k12_23
  go_big_op
  go_fit (zcmp_any (g6.zn Lg6.out) (g4.zn Lg4.out) (by omega) (by omega) )
  rintro e w_24 ⟨rfl, hb_24⟩
  replace hs := hs.bl hb_24
  rw [HC1.out]
  refine hK _ _ rfl ⟨hb_24, (And.intro hs.g0 (And.intro hs.g2 trivial))⟩ ?_
  clear hK K
  refine f0 ?_
  refine e0 hs ?_; clear hs; intro w_25 hs n25
  apply wpTail_end
  refine hK10 _ _ ?_
  refine cf ?_
  refine wp_skip ?_
  refine hK8 _ _ ?_
  refine rg [0, 1] ?_
  refine sq ?_
  refine .r0 ?_
  refine sq ?_
  refine .mv ?_
  apply wpSq_end
  show Code.wp _ _ _ _ _
  refine wp_seq_k ?_
  intro K11 hK11
  refine rg [0] ?_
  refine sq ?_
  refine .r0 ?_
  apply wpSq_end
  refine hK11 _ _ ?_
  refine wp_seq_k ?_
  intro K12 hK12
  refine ct ?_
  refine wp_skip ?_
  refine hK12 _ _ ?_
  refine wp_seq_k ?_
  intro K13 hK13
  refine wp_block ?_
  refine wp_seq_k ?_
  intro K14 hK14
  refine rg [0, 1, 2, 3] ?_
  refine sq ?_
  refine .r0 ?_
  refine sq ?_
  refine .r4 hs.g1.f4 ?_
  refine sq ?_
  refine .al hs ?_; clear hs; intro p_b7 w_26 hs n26 kb_b7
  refine sq ?_
  refine .s2 hs.g0 (fun _ => hs.u0 kb_b7) ?_; clear hs; intro w_27 hs hd27 ho27
  apply wpSq_end
  refine hK14 _ _ ?_
  refine wp_seq_k ?_
  intro K15 hK15
  refine wp_region_f4 [(0, false), (1, false), (4, false), (2, true), (3, true), (5, true), (6, false)] [] [] (fun _ => default) [0, 0, 99, 99, 1, 99, 99] [] (.c hs.g0 (.c hs.g3 .n)) fn fun w_28 n28 => ?_
  replace hs := hs.bl n28
  refine f2 ?_
  refine f2 ?_
  refine f2 ?_
  refine fl fun w_29 n29 => ?_
  replace hs := hs.bl n29
  intro K hK
  have k3_29 := (((((((((k3_19.b hb_20).b n21).b hb_22).b n23).b hb_24).b n25).b n26).o hd27 ho27).b n28).b n29
  replace g12 := g12.k k3_29
  go_big_op
  go_fit (zadd_any (g12.zn Lg12.out) (g12.zn Lg12.out) (by omega) (by omega) )
  rintro e w_30 ⟨v_g7, rfl, g7, hb_30⟩
  replace hs := hs.bl hb_30
  replace g7 := g7.rd
  obtain ⟨n_g7, o_g7, k_g7, c_g7, rfl⟩ := g7.open2
  have Lg7 := hide (g7.lenOf (zlen_add (Lg12.out) (Lg12.out)))
  refine hK _ _ rfl ⟨hb_30, (And.intro hs.g0 (And.intro hs.g3 trivial))⟩ ?_
  clear hK K
  refine fl fun w_31 n31 => ?_
  replace hs := hs.bl n31
  intro K hK
  have k30_31 := kb n31
  replace g7 := g7.k k30_31
  go_big_op
  go_fit (zabs_any (g7.zn Lg7.out) (by omega) )
  rintro e w_32 ⟨v_g8, rfl, g8, hb_32⟩
  replace hs := hs.bl hb_32
  replace g8 := g8.rd
  obtain ⟨n_g8, o_g8, k_g8, c_g8, rfl⟩ := g8.open2
  have Lg8 := hide (g8.lenOf (zlen_abs (Lg7.out)))
  refine hK _ _ rfl ⟨hb_32, (And.intro hs.g0 (And.intro hs.g3 trivial))⟩ ?_
  clear hK K
  refine fl fun w_33 n33 => ?_
  replace hs := hs.bl n33
  intro K hK
  have k32_33 := kb n33
  replace g8 := g8.k k32_33
  have k23_33 := (((((((((kb hb_24).b n25).b n26).o hd27 ho27).b n28).b n29).b hb_30).b n31).b hb_32).b n33
  replace g4 := g4.k k23_33
  go_big_op
  go_fit (zcmp_any (g8.zn Lg8.out) (g4.zn Lg4.out) (by omega) (by omega) )
  rintro e w_34 ⟨rfl, hb_34⟩
  replace hs := hs.bl hb_34
  rw [HC2.out]
  refine hK _ _ rfl ⟨hb_34, (And.intro hs.g0 (And.intro hs.g3 trivial))⟩ ?_
  clear hK K
  refine f0 ?_
  refine e0 hs ?_; clear hs; intro w_35 hs n35
  apply wpTail_end
  refine hK15 _ _ ?_
  refine ct ?_
  refine wp_seq_k ?_
  intro K16 hK16
  refine rg [0] ?_
  refine sq ?_
  refine .mv ?_
  apply wpSq_end
  refine hK16 _ _ ?_
  refine wp_ret ?_
  try dsimp only [Exit.then, Exit.inBlock]
  refine bodyPost_ret (v := (.bool false)) (by simp [results, Tryz.results151, go_sem]) rfl ?_
  have hb := hs.b
  exact ⟨rfl, hb⟩
end
end Go.Proofs.YtbiiglcfdphmaaaGreat

/- gint.quotient: the nearest, whichever way it is found. -/
namespace Go.Proofs.YtbiiglcfdphmaaaGreat
open Go Go.RowKit Dig
set_option maxHeartbeats 4000000
set_option maxRecDepth 20000
set_option linter.unusedVariables false
theorem pw4 : pw 4 = 340282366920938463463374607431768211456 := by decide
theorem pw6 : pw 6 = 18446744073709551616 * 340282366920938463463374607431768211456 := by decide
theorem tp_one (n : Int) (h : 0 ≤ n) : tp n 1 = n / 4294967296 := by
  unfold tp
  rw [if_neg (by omega), show pw 1 = 4294967296 by decide]
  omega
theorem quot_top {x y u v : Int} {cut : Nat} (hc : gdig u v = cut + 5) (hd : gdig x y ≤ gdig u v + 1) (hf : far (gR1 (tp x cut) (tp y cut) (tp u cut) (tp v cut)) (gR2 (tp x cut) (tp y cut) (tp u cut) (tp v cut)) (tp u cut) (tp v cut)) :
    gN (tp u cut) (tp v cut) ≠ 0 ∧ gQ1 (tp x cut) (tp y cut) (tp u cut) (tp v cut) = gQ1 x y u v ∧ gQ2 (tp x cut) (tp y cut) (tp u cut) (tp v cut) = gQ2 x y u v := by
  obtain ⟨c1, ex, bx, _⟩ := tp_split x cut
  obtain ⟨c2, ey, byy, _⟩ := tp_split y cut
  obtain ⟨d1, eu, bu, su⟩ := tp_split u cut
  obtain ⟨d2, ev, bv, sv⟩ := tp_split v cut
  obtain ⟨tx, ty⟩ := gdig_top (x := x) (y := y)
  obtain ⟨tu, tv⟩ := gdig_top (x := u) (y := v)
  have hlow := gdig_low (x := u) (y := v) (by omega)
  have ax := tp_abs x cut
  have ay := tp_abs y cut
  have au := tp_abs u cut
  have av := tp_abs v cut
  have hp := pw_pos cut
  -- the longer part of the divisor's top
  have low : ∀ z : Nat, pw (gdig u v - 1) ≤ z → pw 4 ≤ z / pw cut := by
    intro z hz
    rw [show gdig u v - 1 = 4 + cut by omega, pw_add] at hz
    exact (Nat.le_div_iff_mul_le hp).2 hz
  have high : ∀ z : Nat, z < pw (gdig x y) → z / pw cut < pw 6 := by
    intro z hz
    refine (Nat.div_lt_iff_lt_mul hp).2 (Nat.lt_of_lt_of_le hz ?_)
    rw [← pw_add]; exact pw_mono (by omega)
  have hx6 := high _ tx
  have hy6 := high _ ty
  have hm4 : pw 4 ≤ max (tp u cut).natAbs (tp v cut).natAbs := by
    rw [au, av]
    rcases hlow with h | h
    · exact Nat.le_trans (low _ h) (Nat.le_max_left _ _)
    · exact Nat.le_trans (low _ h) (Nat.le_max_right _ _)
  rw [← ax] at hx6
  rw [← ay] at hy6
  clear ax ay au av low high hlow tx ty tu tv
  generalize tp x cut = X at *
  generalize tp y cut = Y at *
  generalize tp u cut = U at *
  generalize tp v cut = V at *
  obtain ⟨M, hM⟩ : ∃ M : Nat, max U.natAbs V.natAbs = M := ⟨_, rfl⟩
  rw [hM] at hm4
  rw [pw4] at hm4
  rw [pw6] at hx6 hy6
  have hUM : -(M : Int) ≤ U ∧ U ≤ (M : Int) := by omega
  have hVM : -(M : Int) ≤ V ∧ V ≤ (M : Int) := by omega
  have hmm : (M : Int) * M ≤ gN U V := by
    have h1 := msq U
    have h2 := msq V
    have h3 : ∀ z : Int, z.natAbs = M → z * z = (M : Int) * M := by
      intro z hz
      rw [← Int.natAbs_mul_self, hz]; rfl
    unfold gN
    rcases (show U.natAbs = M ∨ V.natAbs = M by omega) with h | h
    · rw [h3 U h]; omega
    · rw [h3 V h]; omega
  have hM0 : 0 < (M : Int) := by omega
  have hn0 : gN U V ≠ 0 := by have := Int.mul_pos hM0 hM0; omega
  have hn := gN_nonneg U V
  obtain ⟨f1, f2⟩ := hf
  rw [tp_one _ hn] at f1 f2
  have hb1 := (gR_back X Y U V).1
  have hb2 := (gR_back X Y U V).2
  have hh := gR_half (x := X) (y := Y) hn0
  have g1 : gT1 (gR1 X Y U V) (gR2 X Y U V) U V = gR1 X Y U V * U + gR2 X Y U V * V := by unfold gT1; rw [Int.mul_neg]; omega
  have g2 : gT2 (gR1 X Y U V) (gR2 X Y U V) U V = gR2 X Y U V * U - gR1 X Y U V * V := by unfold gT2; rw [Int.mul_neg]; omega
  rw [g1] at f1
  rw [g2] at f2
  have key := guess (B := (pw cut : Int)) (a1 := X) (a2 := Y) (b1 := U) (b2 := V) (c1 := c1) (c2 := c2) (d1 := d1) (d2 := d2) (m := (M : Int)) (q1 := gQ1 X Y U V) (q2 := gQ2 X Y U V) (r1 := gR1 X Y U V) (r2 := gR2 X Y U V)
    (by omega) bx byy bu bv su sv (by omega) hUM hVM hmm (by omega) (by omega) (by omega) (by omega) hh (by omega) (by omega)
  rw [← ex, ← ey, ← eu, ← ev] at key
  exact ⟨hn0, key.1.symm, key.2.symm⟩
theorem gdig_le {x y : Int} {l m : Nat} (h1 : (dig x.natAbs).length ≤ l) (h2 : (dig y.natAbs).length ≤ m) (hl : l ≤ 8000000) (hm : m ≤ 8000000) : gdig x y ≤ 16000000 := by
  have b1 := bits_bd (Nat.lt_of_lt_of_le (lt_pw_dig x.natAbs) (pw_mono h1))
  have b2 := bits_bd (Nat.lt_of_lt_of_le (lt_pw_dig y.natAbs) (pw_mono h2))
  unfold gdig; omega
theorem tp_len {x : Int} {l k : Nat} (h : (dig x.natAbs).length ≤ l) : (dig (tp x k).natAbs).length ≤ l := by
  rw [tp_abs]; exact len_le (Nat.div_le_self _ _) h
theorem gR_len {x y u v : Int} {k n : Nat} (h0 : gN u v ≠ 0) (h1 : (dig u.natAbs).length ≤ k) (h2 : (dig v.natAbs).length ≤ n) : (dig (gR1 x y u v).natAbs).length ≤ k + n + 1 ∧ (dig (gR2 x y u v).natAbs).length ≤ k + n + 1 := by
  have hh := gR_half (x := x) (y := y) h0
  have hr := gN_nonneg (gR1 x y u v) (gR2 x y u v)
  obtain ⟨A, hA⟩ : ∃ A : Nat, A = u.natAbs + v.natAbs := ⟨_, rfl⟩
  have hb : gN u v ≤ (A : Int) * A := by
    have e1 : u * u = ((u.natAbs : Nat) : Int) * (u.natAbs : Nat) := (Int.natAbs_mul_self' u).symm
    have e2 : v * v = ((v.natAbs : Nat) : Int) * (v.natAbs : Nat) := (Int.natAbs_mul_self' v).symm
    have h3 : (0 : Int) ≤ ((u.natAbs : Nat) : Int) * (v.natAbs : Nat) := Int.mul_nonneg (by omega) (by omega)
    unfold gN
    rw [e1, e2, hA]
    push_cast
    grind
  obtain ⟨n1, n2⟩ := norm_le (a := gR1 x y u v) (b := gR2 x y u v) (A := (A : Int)) (by omega) (by omega)
  have hl : (dig A).length ≤ k + n + 1 := by
    have := zlen_add (x := (u.natAbs : Int)) (y := (v.natAbs : Int)) (by rw [Int.natAbs_natCast]; exact h1) (by rw [Int.natAbs_natCast]; exact h2)
    rw [← Int.natCast_add, Int.natAbs_natCast, ← hA] at this
    exact this
  exact ⟨len_le (by omega) hl, len_le (by omega) hl⟩
theorem tp_ne {u v : Int} {cut : Nat} (hc : gdig u v = cut + 5) (h : 0 < gdig u v) : gN (tp u cut) (tp v cut) ≠ 0 := by
  intro h0
  obtain ⟨h1, h2⟩ := gN_zero.1 h0
  have au := tp_abs u cut
  have av := tp_abs v cut
  rw [h1] at au
  rw [h2] at av
  have low : ∀ z : Nat, pw (gdig u v - 1) ≤ z → z / pw cut ≠ 0 := by
    intro z hz hz0
    rw [show gdig u v - 1 = 4 + cut by omega, pw_add] at hz
    have := (Nat.le_div_iff_mul_le (pw_pos cut)).2 hz
    rw [pw4] at this
    omega
  rcases gdig_low h with h3 | h3
  · exact low _ h3 au.symm
  · exact low _ h3 av.symm
section
variable {w : World} {va vb : Value} {x y u v : Int} {l m k n : Nat}
theorem far_no (ha : PN w va x l y m) (hq : PN w vb u k v n) (hl : l ≤ 20000000) (hm : m ≤ 20000000) (hk : k ≤ 20000000) (hn : n ≤ 20000000) (hf : ¬ far x y u v) :
    Calls Tryz.prog 151 #[va, vb] w fun e w' => e = .returned (.bool false) ∧ Below w.heap.size w w' := by
  by_cases h1 : ((gT1 x y u v + gT1 x y u v).natAbs : Int) < gN u v - tp (gN u v) 1
  · exact far_no2 ha hq hl hm hk hn h1 (fun h2 => hf ⟨h1, h2⟩)
  · exact far_no1 ha hq hl hm hk hn h1
theorem quot_small (ha : PN w va x l y m) (hq : PN w vb u k v n) (hl : l ≤ 8000000) (hm : m ≤ 8000000) (hk : k ≤ 8000000) (hn : n ≤ 8000000) (h0 : gN u v ≠ 0) (h1 : gdig u v ≤ 5) :
    Calls Tryz.prog 128 #[va, vb] w fun e w' => ∃ r, e = .returned r ∧ PC w' r (gQ1 x y u v) (gQ2 x y u v) ∧ Below w.heap.size w w' := by
  have H0 := hide h0
  obtain ⟨S, hS⟩ : ∃ S, gdig u v = S := ⟨_, rfl⟩
  rw [hS] at h1
  have HS := hide hS
  have hg : (0 < (S : Int) - 5) = False := eq_false (by omega)
  have hgA : (5 < (S : Int)) = False := eq_false (by omega)
  have hgB : (5 < S) = False := eq_false (by omega)
  clear h0 hS
  obtain ⟨n_0a, o_0a, k_0a, c_0a, n_0b, o_0b, k_0b, c_0b, rfl, ha1, ha2⟩ := ha
  obtain ⟨n_1a, o_1a, k_1a, c_1a, n_1b, o_1b, k_1b, c_1b, rfl, hq1, hq2⟩ := hq
  go_enter Tryz.func128, Tryz.ntmps128
  have hs := St.nil w
  refine wp_seq_k ?_
  intro K1 hK1
  refine rg [0, 1, 2] ?_
  refine sq ?_
  refine .al hs ?_; clear hs; intro p_b1 w_1 hs n1 kb_b1
  refine sq ?_
  refine .al hs ?_; clear hs; intro p_b2 w_2 hs n2 kb_b2
  refine sq ?_
  refine .al hs ?_; clear hs; intro p_b3 w_3 hs n3 kb_b3
  apply wpSq_end
  refine hK1 _ _ ?_
  refine wp_seq_k ?_
  intro K2 hK2
  refine rg [0, 1, 2] ?_
  refine sq ?_
  refine .r4 hs.g1.f4 ?_
  refine sq ?_
  intro K hK
  have k0_3 := ((kb n1).b n2).b n3
  replace hq1 := hq1.k k0_3
  replace hq2 := hq2.k k0_3
  go_big_op
  go_fit (gdigits_any (PN.mk' hq1 hq2) (by omega) (by omega))
  rintro e w_4 ⟨rfl, hb_4⟩
  replace hs := hs.bl hb_4
  rw [HS.out]
  refine hK _ _ rfl trivial ?_
  clear hK K
  refine sq ?_
  refine .mv ?_
  apply wpSq_end
  refine hK2 _ _ ?_
  refine wp_seq_k ?_
  intro K3 hK3
  refine wp_seq_k ?_
  intro K4 hK4
  refine rg [0, 1, 2] ?_
  refine sq ?_
  refine .mv ?_
  refine sq ?_
  refine .r0 ?_
  refine sq ?_
  refine .mv ?_
  apply wpSq_end
  refine hK4 _ _ ?_
  refine wp_seq_k ?_
  intro K5 hK5
  refine rg [0, 1, 2, 3, 4, 5, 6, 7, 8] ?_
  refine sq ?_
  refine .mv ?_
  refine sq ?_
  refine .r0 ?_
  refine sq ?_
  refine .mv ?_
  refine sk ?_
  refine sk ?_
  refine sk ?_
  refine sk ?_
  refine sk ?_
  refine sq ?_
  refine .r0 ?_
  apply wpSq_end
  refine hK5 _ _ ?_
  refine cf ?_
  refine wp_skip ?_
  refine hK3 _ _ ?_
  refine wp_seq_k ?_
  intro K6 hK6
  refine rg [0, 1, 2, 3, 4, 5, 6, 7, 8, 9, 10, 11] ?_
  refine sq ?_
  refine .r4 hs.g2.f4 ?_
  refine sq ?_
  refine .r4 hs.g1.f4 ?_
  refine sq ?_
  intro K hK
  have k0_4 := k0_3.b hb_4
  replace ha1 := ha1.k k0_4
  replace ha2 := ha2.k k0_4
  have k3_4 := kb hb_4
  replace hq1 := hq1.k k3_4
  replace hq2 := hq2.k k3_4
  go_big_op
  go_fit (gRound_any (PN.mk' ha1 ha2) (PN.mk' hq1 hq2) (by omega) (by omega) (by omega) (by omega) H0.out)
  rintro e w_5 ⟨_, _, rfl, ⟨n_ga, o_ga, k_ga, c_ga, n_gb, o_gb, k_gb, c_gb, rfl, g1, g2⟩, ⟨n_ra, o_ra, k_ra, c_ra, n_rb, o_rb, k_rb, c_rb, rfl, r1, r2⟩, hb_5⟩
  replace hs := hs.bl hb_5
  refine hK _ _ rfl trivial ?_
  clear hK K
  refine sq ?_
  refine .mv ?_
  refine sq ?_
  refine .r0 ?_
  refine sq ?_
  refine .r0 ?_
  refine sq ?_
  refine .r0 ?_
  refine sq ?_
  refine .al hs ?_; clear hs; intro p_b4 w_6 hs n6 kb_b4
  refine sq ?_
  refine .al hs ?_; clear hs; intro p_b5 w_7 hs n7 kb_b5
  refine sq ?_
  refine .s4 hs.g1 (fun _ => hs.u1 kb_b4) ?_; clear hs; intro w_8 hs hd8 ho8
  refine sq ?_
  refine .s4 hs.g0 (fun _ => hs.u0 kb_b5) ?_; clear hs; intro w_9 hs hd9 ho9
  refine sq ?_
  refine .mv ?_
  apply wpSq_end
  refine hK6 _ _ ?_
  refine wp_seq_k ?_
  intro K7 hK7
  refine rg [0, 1] ?_
  refine sq ?_
  refine .r4 hs.g1.f4 ?_
  refine sq ?_
  refine .s4 hs.g2 (fun _ => hs.u2 kb_b3) ?_; clear hs; intro w_10 hs hd10 ho10
  clear ha1 ha2 hq1 hq2 r1 r2
  apply wpSq_end
  refine hK7 _ _ ?_
  refine wp_ret ?_
  try dsimp only [Exit.then, Exit.inBlock]
  obtain ⟨r0_0, r0_1, r0_2, r0_3⟩ := hs.g2.f4
  refine bodyPost_ret (v := (.agg #[.bool n_ga, .slice o_ga k_ga c_ga, .bool n_gb, .slice o_gb k_gb c_gb])) (by simp [results, Tryz.results128, go_sem, r0_0, r0_1, r0_2, r0_3]) rfl ?_
  have k5_10 := ((((kb n6).b n7).o hd8 ho8).o hd9 ho9).o hd10 ho10
  replace g1 := g1.k k5_10
  replace g2 := g2.k k5_10
  exact ⟨_, rfl, .mk' g1 g2, hs.b⟩
theorem quot_long (ha : PN w va x l y m) (hq : PN w vb u k v n) (hl : l ≤ 8000000) (hm : m ≤ 8000000) (hk : k ≤ 8000000) (hn : n ≤ 8000000) (h0 : gN u v ≠ 0) (h1 : 5 < gdig u v) (h2 : gdig u v + 1 < gdig x y) :
    Calls Tryz.prog 128 #[va, vb] w fun e w' => ∃ r, e = .returned r ∧ PC w' r (gQ1 x y u v) (gQ2 x y u v) ∧ Below w.heap.size w w' := by
  have H0 := hide h0
  obtain ⟨S, hS⟩ : ∃ S, gdig u v = S := ⟨_, rfl⟩
  obtain ⟨D, hD⟩ : ∃ D, gdig x y = D := ⟨_, rfl⟩
  have hSb : S ≤ 16000000 := by rw [← hS]; exact gdig_le hq.len1 hq.len2 hk hn
  have hDb : D ≤ 16000000 := by rw [← hD]; exact gdig_le ha.len1 ha.len2 hl hm
  rw [hS] at h1 h2
  rw [hD] at h2
  have HS := hide hS
  have HD := hide hD
  have hg : (0 < (S : Int) - 5) = True := eq_true (by omega)
  have hgA : (5 < (S : Int)) = True := eq_true (by omega)
  have hgB : (5 < S) = True := eq_true (by omega)
  have hg2 : ((D : Int) ≤ (S : Int) + 1) = False := eq_false (by omega)
  have hg3 : (D ≤ S + 1) = False := eq_false (by omega)
  clear h0 hS hD
  obtain ⟨n_0a, o_0a, k_0a, c_0a, n_0b, o_0b, k_0b, c_0b, rfl, ha1, ha2⟩ := ha
  obtain ⟨n_1a, o_1a, k_1a, c_1a, n_1b, o_1b, k_1b, c_1b, rfl, hq1, hq2⟩ := hq
  go_enter Tryz.func128, Tryz.ntmps128
  have hs := St.nil w
  refine wp_seq_k ?_
  intro K1 hK1
  refine rg [0, 1, 2] ?_
  refine sq ?_
  refine .al hs ?_; clear hs; intro p_b1 w_1 hs n1 kb_b1
  refine sq ?_
  refine .al hs ?_; clear hs; intro p_b2 w_2 hs n2 kb_b2
  refine sq ?_
  refine .al hs ?_; clear hs; intro p_b3 w_3 hs n3 kb_b3
  apply wpSq_end
  refine hK1 _ _ ?_
  refine wp_seq_k ?_
  intro K2 hK2
  refine rg [0, 1, 2] ?_
  refine sq ?_
  refine .r4 hs.g1.f4 ?_
  refine sq ?_
  intro K hK
  have k0_3 := ((kb n1).b n2).b n3
  replace hq1 := hq1.k k0_3
  replace hq2 := hq2.k k0_3
  go_big_op
  go_fit (gdigits_any (PN.mk' hq1 hq2) (by omega) (by omega))
  rintro e w_4 ⟨rfl, hb_4⟩
  replace hs := hs.bl hb_4
  rw [HS.out]
  refine hK _ _ rfl trivial ?_
  clear hK K
  refine sq ?_
  refine .mv ?_
  apply wpSq_end
  refine hK2 _ _ ?_
  refine wp_seq_k ?_
  intro K3 hK3
  refine wp_seq_k ?_
  intro K4 hK4
  refine rg [0, 1, 2] ?_
  refine sq ?_
  refine .mv ?_
  refine sq ?_
  refine .r0 ?_
  refine sq ?_
  refine .mv ?_
  apply wpSq_end
  refine hK4 _ _ ?_
  refine wp_seq_k ?_
  intro K5 hK5
  refine rg [0, 1, 2, 3, 4, 5, 6, 7, 8] ?_
  refine sq ?_
  refine .mv ?_
  refine sq ?_
  refine .r0 ?_
  refine sq ?_
  refine .mv ?_
  refine sq ?_
  refine .r4 hs.g2.f4 ?_
  refine sq ?_
  intro K hK
  have k0_4 := k0_3.b hb_4
  replace ha1 := ha1.k k0_4
  replace ha2 := ha2.k k0_4
  go_big_op
  go_fit (gdigits_any (PN.mk' ha1 ha2) (by omega) (by omega))
  rintro e w_5 ⟨rfl, hb_5⟩
  replace hs := hs.bl hb_5
  rw [HD.out]
  refine hK _ _ rfl trivial ?_
  clear hK K
  refine sq ?_
  refine .mv ?_
  refine sq ?_
  refine .r0 ?_
  refine sq ?_
  refine .r0 ?_
  refine sq ?_
  refine .r0 ?_
  apply wpSq_end
  refine hK5 _ _ ?_
  refine cf ?_
  refine wp_skip ?_
  refine hK3 _ _ ?_
  refine wp_seq_k ?_
  intro K6 hK6
  refine rg [0, 1, 2, 3, 4, 5, 6, 7, 8, 9, 10, 11] ?_
  refine sq ?_
  refine .r4 hs.g2.f4 ?_
  refine sq ?_
  refine .r4 hs.g1.f4 ?_
  refine sq ?_
  intro K hK
  have k4_5 := kb hb_5
  replace ha1 := ha1.k k4_5
  replace ha2 := ha2.k k4_5
  have k3_5 := (kb hb_4).b hb_5
  replace hq1 := hq1.k k3_5
  replace hq2 := hq2.k k3_5
  go_big_op
  go_fit (gRound_any (PN.mk' ha1 ha2) (PN.mk' hq1 hq2) (by omega) (by omega) (by omega) (by omega) H0.out)
  rintro e w_6 ⟨_, _, rfl, ⟨n_ga, o_ga, k_ga, c_ga, n_gb, o_gb, k_gb, c_gb, rfl, g1, g2⟩, ⟨n_ra, o_ra, k_ra, c_ra, n_rb, o_rb, k_rb, c_rb, rfl, r1, r2⟩, hb_6⟩
  replace hs := hs.bl hb_6
  refine hK _ _ rfl trivial ?_
  clear hK K
  refine sq ?_
  refine .mv ?_
  refine sq ?_
  refine .r0 ?_
  refine sq ?_
  refine .r0 ?_
  refine sq ?_
  refine .r0 ?_
  refine sq ?_
  refine .al hs ?_; clear hs; intro p_b4 w_7 hs n7 kb_b4
  refine sq ?_
  refine .al hs ?_; clear hs; intro p_b5 w_8 hs n8 kb_b5
  refine sq ?_
  refine .s4 hs.g1 (fun _ => hs.u1 kb_b4) ?_; clear hs; intro w_9 hs hd9 ho9
  refine sq ?_
  refine .s4 hs.g0 (fun _ => hs.u0 kb_b5) ?_; clear hs; intro w_10 hs hd10 ho10
  refine sq ?_
  refine .mv ?_
  apply wpSq_end
  refine hK6 _ _ ?_
  refine wp_seq_k ?_
  intro K7 hK7
  refine rg [0, 1] ?_
  refine sq ?_
  refine .r4 hs.g1.f4 ?_
  refine sq ?_
  refine .s4 hs.g2 (fun _ => hs.u2 kb_b3) ?_; clear hs; intro w_11 hs hd11 ho11
  clear ha1 ha2 hq1 hq2 r1 r2
  apply wpSq_end
  refine hK7 _ _ ?_
  refine wp_ret ?_
  try dsimp only [Exit.then, Exit.inBlock]
  obtain ⟨r0_0, r0_1, r0_2, r0_3⟩ := hs.g2.f4
  refine bodyPost_ret (v := (.agg #[.bool n_ga, .slice o_ga k_ga c_ga, .bool n_gb, .slice o_gb k_gb c_gb])) (by simp [results, Tryz.results128, go_sem, r0_0, r0_1, r0_2, r0_3]) rfl ?_
  have k6_11 := ((((kb n7).b n8).o hd9 ho9).o hd10 ho10).o hd11 ho11
  replace g1 := g1.k k6_11
  replace g2 := g2.k k6_11
  exact ⟨_, rfl, .mk' g1 g2, hs.b⟩
theorem quot_far {cut : Nat} (ha : PN w va x l y m) (hq : PN w vb u k v n) (hl : l ≤ 8000000) (hm : m ≤ 8000000) (hk : k ≤ 8000000) (hn : n ≤ 8000000) (h0 : gN u v ≠ 0) (hc : gdig u v = cut + 5) (hc0 : 0 < cut) (h2 : gdig x y ≤ gdig u v + 1) (hf : far (gR1 (tp x cut) (tp y cut) (tp u cut) (tp v cut)) (gR2 (tp x cut) (tp y cut) (tp u cut) (tp v cut)) (tp u cut) (tp v cut)) :
    Calls Tryz.prog 128 #[va, vb] w fun e w' => ∃ r, e = .returned r ∧ PC w' r (gQ1 x y u v) (gQ2 x y u v) ∧ Below w.heap.size w w' := by
  obtain ⟨hn0, hq1', hq2'⟩ := quot_top hc h2 hf
  have EQ := hide (And.intro hq1' hq2')
  have H0 := hide h0
  obtain ⟨S, hS⟩ : ∃ S, gdig u v = S := ⟨_, rfl⟩
  obtain ⟨D, hD⟩ : ∃ D, gdig x y = D := ⟨_, rfl⟩
  have hSb : S ≤ 16000000 := by rw [← hS]; exact gdig_le hq.len1 hq.len2 hk hn
  have hDb : D ≤ 16000000 := by rw [← hD]; exact gdig_le ha.len1 ha.len2 hl hm
  rw [hS] at hc h2
  rw [hD] at h2
  have HS := hide hS
  have HD := hide hD
  have hsub : (S : Int) - 5 = (cut : Int) := by omega
  have hg : (0 < (cut : Int)) = True := eq_true (by omega)
  have hg1 : (0 < cut) = True := eq_true hc0
  have hg2 : ((D : Int) ≤ (S : Int) + 1) = True := eq_true (by omega)
  have hg3 : (D ≤ S + 1) = True := eq_true h2
  have HN := hide hn0
  have HF := hide hf
  clear h0 hS hD hf hn0 hq1' hq2'
  obtain ⟨n_0a, o_0a, k_0a, c_0a, n_0b, o_0b, k_0b, c_0b, rfl, ha1, ha2⟩ := ha
  obtain ⟨n_1a, o_1a, k_1a, c_1a, n_1b, o_1b, k_1b, c_1b, rfl, hq1, hq2⟩ := hq
  go_enter Tryz.func128, Tryz.ntmps128
  have hs := St.nil w
  refine wp_seq_k ?_
  intro K1 hK1
  refine rg [0, 1, 2] ?_
  refine sq ?_
  refine .al hs ?_; clear hs; intro p_b1 w_1 hs n1 kb_b1
  refine sq ?_
  refine .al hs ?_; clear hs; intro p_b2 w_2 hs n2 kb_b2
  refine sq ?_
  refine .al hs ?_; clear hs; intro p_b3 w_3 hs n3 kb_b3
  apply wpSq_end
  refine hK1 _ _ ?_
  refine wp_seq_k ?_
  intro K2 hK2
  refine rg [0, 1, 2] ?_
  refine sq ?_
  refine .r4 hs.g1.f4 ?_
  refine sq ?_
  intro K hK
  have k0_3 := ((kb n1).b n2).b n3
  replace hq1 := hq1.k k0_3
  replace hq2 := hq2.k k0_3
  go_big_op
  go_fit (gdigits_any (PN.mk' hq1 hq2) (by omega) (by omega))
  rintro e w_4 ⟨rfl, hb_4⟩
  replace hs := hs.bl hb_4
  rw [HS.out]
  refine hK _ _ rfl trivial ?_
  clear hK K
  refine sq ?_
  refine .mv ?_
  apply wpSq_end
  refine hK2 _ _ ?_
  refine wp_seq_k ?_
  intro K3 hK3
  refine wp_seq_k ?_
  intro K4 hK4
  refine rg [0, 1, 2] ?_
  refine sq ?_
  refine .mv ?_
  refine sq ?_
  refine .r0 ?_
  refine sq ?_
  refine .mv ?_
  apply wpSq_end
  refine hK4 _ _ ?_
  refine wp_seq_k ?_
  intro K5 hK5
  refine rg [0, 1, 2, 3, 4, 5, 6, 7, 8] ?_
  refine sq ?_
  refine .mv ?_
  refine sq ?_
  refine .r0 ?_
  refine sq ?_
  refine .mv ?_
  refine sq ?_
  refine .r4 hs.g2.f4 ?_
  refine sq ?_
  intro K hK
  have k0_4 := k0_3.b hb_4
  replace ha1 := ha1.k k0_4
  replace ha2 := ha2.k k0_4
  go_big_op
  go_fit (gdigits_any (PN.mk' ha1 ha2) (by omega) (by omega))
  rintro e w_5 ⟨rfl, hb_5⟩
  replace hs := hs.bl hb_5
  rw [HD.out]
  refine hK _ _ rfl trivial ?_
  clear hK K
  refine sq ?_
  refine .mv ?_
  refine sq ?_
  refine .r0 ?_
  refine sq ?_
  refine .r0 ?_
  refine sq ?_
  refine .r0 ?_
  apply wpSq_end
  refine hK5 _ _ ?_
  refine ct ?_
  refine wp_seq_k ?_
  intro K6 hK6
  refine rg [0, 1, 2, 3, 4] ?_
  refine sq ?_
  refine .r4 hs.g1.f4 ?_
  refine sq ?_
  refine .mv ?_
  refine sq ?_
  intro K hK
  have k3_5 := (kb hb_4).b hb_5
  replace hq1 := hq1.k k3_5
  replace hq2 := hq2.k k3_5
  go_big_op
  go_fit (gtop_any cut (PN.mk' hq1 hq2) (by omega) (by omega) (by omega))
  rintro e w_6 ⟨_, rfl, ⟨n_ta, o_ta, k_ta, c_ta, n_tb, o_tb, k_tb, c_tb, rfl, t1, t2⟩, hb_6⟩
  replace hs := hs.bl hb_6
  refine hK _ _ rfl trivial ?_
  clear hK K
  refine sq ?_
  refine .al hs ?_; clear hs; intro p_b4 w_7 hs n7 kb_b4
  refine sq ?_
  refine .s4 hs.g0 (fun _ => hs.u0 kb_b4) ?_; clear hs; intro w_8 hs hd8 ho8
  apply wpSq_end
  refine hK6 _ _ ?_
  refine wp_seq_k ?_
  intro K7 hK7
  refine wp_region_f4 [(0, false), (1, false), (3, false), (2, true), (4, true), (5, false), (6, false), (7, false), (8, false)] [11, 12, 13] [9, 10] (fun j => if j = 9 then (.cells #[.bool false, .slice none 0 0, .bool false, .slice none 0 0] 26) else (.cells #[.bool false, .slice none 0 0, .bool false, .slice none 0 0] 26)) [0, 99, 99, 1, 99, 99, 99, 99, 99, 99, 99, 99, 99, 99] [] (.c hs.g3 (.c hs.g0 .n)) (fm (fm fn)) fun w_9 n9 => ?_
  replace hs := hs.bl n9
  have hlB := hs.lt; have hkB := hs.k
  refine f4 ?_
  refine fmv ?_
  refine f4 ?_
  refine fl fun w_10 n10 => ?_
  replace hs := hs.bl n10
  intro K hK
  have k4_10 := (((((kb hb_5).b hb_6).b n7).o hd8 ho8).b n9).b n10
  replace ha1 := ha1.k k4_10
  replace ha2 := ha2.k k4_10
  go_big_op
  go_fit (gtop_any cut (PN.mk' ha1 ha2) (by omega) (by omega) (by omega))
  rintro e w_11 ⟨_, rfl, ⟨n_sa, o_sa, k_sa, c_sa, n_sb, o_sb, k_sb, c_sb, rfl, s1, s2⟩, hb_11⟩
  replace hs := hs.bl hb_11
  refine hK _ _ rfl ⟨hb_11, (And.intro hs.g3 (And.intro hs.g0 trivial))⟩ ?_
  clear hK K
  refine fl fun w_12 n12 => ?_
  replace hs := hs.bl n12
  intro K hK
  have k11_12 := kb n12
  replace s1 := s1.k k11_12
  replace s2 := s2.k k11_12
  have k6_12 := (((((kb n7).o hd8 ho8).b n9).b n10).b hb_11).b n12
  replace t1 := t1.k k6_12
  replace t2 := t2.k k6_12
  go_big_op
  go_fit (gRound_any (PN.mk' s1 s2) (PN.mk' t1 t2) (by omega) (by omega) (by omega) (by omega) HN.out)
  rintro e w_13 ⟨_, _, rfl, ⟨n_ga, o_ga, k_ga, c_ga, n_gb, o_gb, k_gb, c_gb, rfl, g1, g2⟩, ⟨n_ra, o_ra, k_ra, c_ra, n_rb, o_rb, k_rb, c_rb, rfl, r1, r2⟩, hb_13⟩
  replace hs := hs.bl hb_13
  refine hK _ _ rfl ⟨hb_13, (And.intro hs.g3 (And.intro hs.g0 trivial))⟩ ?_
  clear hK K
  refine fmv ?_
  refine f0 ?_
  refine f0 ?_
  refine f0 ?_
  refine e2 hs hlB hkB ?_; clear hs hlB hkB; intro w_14 p_b5 p_b6 hs n14 kb_b5 kb_b6
  refine tl ?_
  refine .s4 hs.g0 (fun _ => hs.u0 kb_b5) ?_ (e := fun _ hs => (And.intro hs.g5 (And.intro hs.g2 True.intro))); clear hs; intro w_15 hs hd15 ho15
  refine tl ?_
  refine .s4 hs.g1 (fun _ => hs.u1 kb_b6) ?_ (e := fun _ hs => (And.intro hs.g5 (And.intro hs.g2 True.intro))); clear hs; intro w_16 hs hd16 ho16
  refine tl ?_
  refine .mv ?_ (e := (And.intro hs.g5 (And.intro hs.g2 True.intro)))
  apply wpTail_end
  refine hK7 _ _ ?_
  refine wp_seq_k ?_
  intro K8 hK8
  refine rg [0, 1, 2] ?_
  refine sq ?_
  refine .r4 hs.g1.f4 ?_
  refine sq ?_
  refine .r4 hs.g2.f4 ?_
  refine sq ?_
  intro K hK
  have k13_16 := ((kb n14).o hd15 ho15).o hd16 ho16
  replace r1 := r1.k k13_16
  have k12_16 := (((kb hb_13).b n14).o hd15 ho15).o hd16 ho16
  replace t1 := t1.k k12_16
  replace t2 := t2.k k12_16
  replace r2 := r2.k k13_16
  go_big_op
  go_fit (far_yes (.mk' (r1.zn (gR_len HN.out t1.len t2.len).1) (r2.zn (gR_len HN.out t1.len t2.len).2)) (PN.mk' t1 t2) (by omega) (by omega) (by omega) (by omega) HF.out.1 HF.out.2)
  rintro e w_17 ⟨rfl, hb_17⟩
  replace hs := hs.bl hb_17
  refine hK _ _ rfl trivial ?_
  clear hK K
  apply wpSq_end
  refine hK8 _ _ ?_
  refine ct ?_
  refine wp_seq_k ?_
  intro K9 hK9
  refine rg [0, 1] ?_
  refine sq ?_
  refine .r4 hs.g0.f4 ?_
  refine sq ?_
  refine .s4 hs.g3 (fun _ => hs.u3 kb_b3) ?_; clear hs; intro w_18 hs hd18 ho18
  clear s1 s2 t1 t2 r1 r2
  apply wpSq_end
  refine hK9 _ _ ?_
  refine wp_ret ?_
  have k13_18 := (k13_16.b hb_17).o hd18 ho18
  replace g1 := g1.k k13_18
  rw [EQ.out.1] at g1
  replace g2 := g2.k k13_18
  rw [EQ.out.2] at g2
  try dsimp only [Exit.then, Exit.inBlock]
  obtain ⟨r0_0, r0_1, r0_2, r0_3⟩ := hs.g3.f4
  refine bodyPost_ret (v := (.agg #[.bool n_ga, .slice o_ga k_ga c_ga, .bool n_gb, .slice o_gb k_gb c_gb])) (by simp [results, Tryz.results128, go_sem, r0_0, r0_1, r0_2, r0_3]) rfl ?_
  exact ⟨_, rfl, .mk' g1 g2, hs.b⟩
theorem quot_near {cut : Nat} (ha : PN w va x l y m) (hq : PN w vb u k v n) (hl : l ≤ 8000000) (hm : m ≤ 8000000) (hk : k ≤ 8000000) (hn : n ≤ 8000000) (h0 : gN u v ≠ 0) (hc : gdig u v = cut + 5) (hc0 : 0 < cut) (h2 : gdig x y ≤ gdig u v + 1) (hn0 : gN (tp u cut) (tp v cut) ≠ 0) (hf : ¬ far (gR1 (tp x cut) (tp y cut) (tp u cut) (tp v cut)) (gR2 (tp x cut) (tp y cut) (tp u cut) (tp v cut)) (tp u cut) (tp v cut)) :
    Calls Tryz.prog 128 #[va, vb] w fun e w' => ∃ r, e = .returned r ∧ PC w' r (gQ1 x y u v) (gQ2 x y u v) ∧ Below w.heap.size w w' := by
  have H0 := hide h0
  obtain ⟨S, hS⟩ : ∃ S, gdig u v = S := ⟨_, rfl⟩
  obtain ⟨D, hD⟩ : ∃ D, gdig x y = D := ⟨_, rfl⟩
  have hSb : S ≤ 16000000 := by rw [← hS]; exact gdig_le hq.len1 hq.len2 hk hn
  have hDb : D ≤ 16000000 := by rw [← hD]; exact gdig_le ha.len1 ha.len2 hl hm
  rw [hS] at hc h2
  rw [hD] at h2
  have HS := hide hS
  have HD := hide hD
  have hsub : (S : Int) - 5 = (cut : Int) := by omega
  have hg : (0 < (cut : Int)) = True := eq_true (by omega)
  have hg1 : (0 < cut) = True := eq_true hc0
  have hg2 : ((D : Int) ≤ (S : Int) + 1) = True := eq_true (by omega)
  have hg3 : (D ≤ S + 1) = True := eq_true h2
  have HN := hide hn0
  have HF := hide hf
  clear h0 hS hD hf hn0
  obtain ⟨n_0a, o_0a, k_0a, c_0a, n_0b, o_0b, k_0b, c_0b, rfl, ha1, ha2⟩ := ha
  obtain ⟨n_1a, o_1a, k_1a, c_1a, n_1b, o_1b, k_1b, c_1b, rfl, hq1, hq2⟩ := hq
  go_enter Tryz.func128, Tryz.ntmps128
  have hs := St.nil w
  refine wp_seq_k ?_
  intro K1 hK1
  refine rg [0, 1, 2] ?_
  refine sq ?_
  refine .al hs ?_; clear hs; intro p_b1 w_1 hs n1 kb_b1
  refine sq ?_
  refine .al hs ?_; clear hs; intro p_b2 w_2 hs n2 kb_b2
  refine sq ?_
  refine .al hs ?_; clear hs; intro p_b3 w_3 hs n3 kb_b3
  apply wpSq_end
  refine hK1 _ _ ?_
  refine wp_seq_k ?_
  intro K2 hK2
  refine rg [0, 1, 2] ?_
  refine sq ?_
  refine .r4 hs.g1.f4 ?_
  refine sq ?_
  intro K hK
  have k0_3 := ((kb n1).b n2).b n3
  replace hq1 := hq1.k k0_3
  replace hq2 := hq2.k k0_3
  go_big_op
  go_fit (gdigits_any (PN.mk' hq1 hq2) (by omega) (by omega))
  rintro e w_4 ⟨rfl, hb_4⟩
  replace hs := hs.bl hb_4
  rw [HS.out]
  refine hK _ _ rfl trivial ?_
  clear hK K
  refine sq ?_
  refine .mv ?_
  apply wpSq_end
  refine hK2 _ _ ?_
  refine wp_seq_k ?_
  intro K3 hK3
  refine wp_seq_k ?_
  intro K4 hK4
  refine rg [0, 1, 2] ?_
  refine sq ?_
  refine .mv ?_
  refine sq ?_
  refine .r0 ?_
  refine sq ?_
  refine .mv ?_
  apply wpSq_end
  refine hK4 _ _ ?_
  refine wp_seq_k ?_
  intro K5 hK5
  refine rg [0, 1, 2, 3, 4, 5, 6, 7, 8] ?_
  refine sq ?_
  refine .mv ?_
  refine sq ?_
  refine .r0 ?_
  refine sq ?_
  refine .mv ?_
  refine sq ?_
  refine .r4 hs.g2.f4 ?_
  refine sq ?_
  intro K hK
  have k0_4 := k0_3.b hb_4
  replace ha1 := ha1.k k0_4
  replace ha2 := ha2.k k0_4
  go_big_op
  go_fit (gdigits_any (PN.mk' ha1 ha2) (by omega) (by omega))
  rintro e w_5 ⟨rfl, hb_5⟩
  replace hs := hs.bl hb_5
  rw [HD.out]
  refine hK _ _ rfl trivial ?_
  clear hK K
  refine sq ?_
  refine .mv ?_
  refine sq ?_
  refine .r0 ?_
  refine sq ?_
  refine .r0 ?_
  refine sq ?_
  refine .r0 ?_
  apply wpSq_end
  refine hK5 _ _ ?_
  refine ct ?_
  refine wp_seq_k ?_
  intro K6 hK6
  refine rg [0, 1, 2, 3, 4] ?_
  refine sq ?_
  refine .r4 hs.g1.f4 ?_
  refine sq ?_
  refine .mv ?_
  refine sq ?_
  intro K hK
  have k3_5 := (kb hb_4).b hb_5
  replace hq1 := hq1.k k3_5
  replace hq2 := hq2.k k3_5
  go_big_op
  go_fit (gtop_any cut (PN.mk' hq1 hq2) (by omega) (by omega) (by omega))
  rintro e w_6 ⟨_, rfl, ⟨n_ta, o_ta, k_ta, c_ta, n_tb, o_tb, k_tb, c_tb, rfl, t1, t2⟩, hb_6⟩
  replace hs := hs.bl hb_6
  refine hK _ _ rfl trivial ?_
  clear hK K
  refine sq ?_
  refine .al hs ?_; clear hs; intro p_b4 w_7 hs n7 kb_b4
  refine sq ?_
  refine .s4 hs.g0 (fun _ => hs.u0 kb_b4) ?_; clear hs; intro w_8 hs hd8 ho8
  apply wpSq_end
  refine hK6 _ _ ?_
  refine wp_seq_k ?_
  intro K7 hK7
  refine wp_region_f4 [(0, false), (1, false), (3, false), (2, true), (4, true), (5, false), (6, false), (7, false), (8, false)] [11, 12, 13] [9, 10] (fun j => if j = 9 then (.cells #[.bool false, .slice none 0 0, .bool false, .slice none 0 0] 26) else (.cells #[.bool false, .slice none 0 0, .bool false, .slice none 0 0] 26)) [0, 99, 99, 1, 99, 99, 99, 99, 99, 99, 99, 99, 99, 99] [] (.c hs.g3 (.c hs.g0 .n)) (fm (fm fn)) fun w_9 n9 => ?_
  replace hs := hs.bl n9
  have hlB := hs.lt; have hkB := hs.k
  refine f4 ?_
  refine fmv ?_
  refine f4 ?_
  refine fl fun w_10 n10 => ?_
  replace hs := hs.bl n10
  intro K hK
  have k4_10 := (((((kb hb_5).b hb_6).b n7).o hd8 ho8).b n9).b n10
  replace ha1 := ha1.k k4_10
  replace ha2 := ha2.k k4_10
  go_big_op
  go_fit (gtop_any cut (PN.mk' ha1 ha2) (by omega) (by omega) (by omega))
  rintro e w_11 ⟨_, rfl, ⟨n_sa, o_sa, k_sa, c_sa, n_sb, o_sb, k_sb, c_sb, rfl, s1, s2⟩, hb_11⟩
  replace hs := hs.bl hb_11
  refine hK _ _ rfl ⟨hb_11, (And.intro hs.g3 (And.intro hs.g0 trivial))⟩ ?_
  clear hK K
  refine fl fun w_12 n12 => ?_
  replace hs := hs.bl n12
  intro K hK
  have k11_12 := kb n12
  replace s1 := s1.k k11_12
  replace s2 := s2.k k11_12
  have k6_12 := (((((kb n7).o hd8 ho8).b n9).b n10).b hb_11).b n12
  replace t1 := t1.k k6_12
  replace t2 := t2.k k6_12
  go_big_op
  go_fit (gRound_any (PN.mk' s1 s2) (PN.mk' t1 t2) (by omega) (by omega) (by omega) (by omega) HN.out)
  rintro e w_13 ⟨_, _, rfl, ⟨n_ga, o_ga, k_ga, c_ga, n_gb, o_gb, k_gb, c_gb, rfl, g1, g2⟩, ⟨n_ra, o_ra, k_ra, c_ra, n_rb, o_rb, k_rb, c_rb, rfl, r1, r2⟩, hb_13⟩
  replace hs := hs.bl hb_13
  refine hK _ _ rfl ⟨hb_13, (And.intro hs.g3 (And.intro hs.g0 trivial))⟩ ?_
  clear hK K
  refine fmv ?_
  refine f0 ?_
  refine f0 ?_
  refine f0 ?_
  refine e2 hs hlB hkB ?_; clear hs hlB hkB; intro w_14 p_b5 p_b6 hs n14 kb_b5 kb_b6
  refine tl ?_
  refine .s4 hs.g0 (fun _ => hs.u0 kb_b5) ?_ (e := fun _ hs => (And.intro hs.g5 (And.intro hs.g2 True.intro))); clear hs; intro w_15 hs hd15 ho15
  refine tl ?_
  refine .s4 hs.g1 (fun _ => hs.u1 kb_b6) ?_ (e := fun _ hs => (And.intro hs.g5 (And.intro hs.g2 True.intro))); clear hs; intro w_16 hs hd16 ho16
  refine tl ?_
  refine .mv ?_ (e := (And.intro hs.g5 (And.intro hs.g2 True.intro)))
  apply wpTail_end
  refine hK7 _ _ ?_
  refine wp_seq_k ?_
  intro K8 hK8
  refine rg [0, 1, 2] ?_
  refine sq ?_
  refine .r4 hs.g1.f4 ?_
  refine sq ?_
  refine .r4 hs.g2.f4 ?_
  refine sq ?_
  intro K hK
  have k13_16 := ((kb n14).o hd15 ho15).o hd16 ho16
  replace r1 := r1.k k13_16
  have k12_16 := (((kb hb_13).b n14).o hd15 ho15).o hd16 ho16
  replace t1 := t1.k k12_16
  replace t2 := t2.k k12_16
  replace r2 := r2.k k13_16
  go_big_op
  go_fit (far_no (.mk' (r1.zn (gR_len HN.out t1.len t2.len).1) (r2.zn (gR_len HN.out t1.len t2.len).2)) (PN.mk' t1 t2) (by omega) (by omega) (by omega) (by omega) HF.out)
  rintro e w_17 ⟨rfl, hb_17⟩
  replace hs := hs.bl hb_17
  refine hK _ _ rfl trivial ?_
  clear hK K
  apply wpSq_end
  refine hK8 _ _ ?_
  refine cf ?_
  refine wp_skip ?_
  refine hK3 _ _ ?_
  refine wp_seq_k ?_
  intro K9 hK9
  refine rg [0, 1, 2, 3, 4, 5, 6, 7, 8, 9, 10, 11] ?_
  refine sq ?_
  refine .r4 hs.g5.f4 ?_
  refine sq ?_
  refine .r4 hs.g4.f4 ?_
  refine sq ?_
  intro K hK
  have k10_17 := ((((((kb hb_11).b n12).b hb_13).b n14).o hd15 ho15).o hd16 ho16).b hb_17
  replace ha1 := ha1.k k10_17
  replace ha2 := ha2.k k10_17
  have k5_17 := (((((((((((kb hb_6).b n7).o hd8 ho8).b n9).b n10).b hb_11).b n12).b hb_13).b n14).o hd15 ho15).o hd16 ho16).b hb_17
  replace hq1 := hq1.k k5_17
  replace hq2 := hq2.k k5_17
  go_big_op
  go_fit (gRound_any (PN.mk' ha1 ha2) (PN.mk' hq1 hq2) (by omega) (by omega) (by omega) (by omega) H0.out)
  rintro e w_18 ⟨_, _, rfl, ⟨n_oa, o_oa, k_oa, c_oa, n_ob, o_ob, k_ob, c_ob, rfl, o1, o2⟩, ⟨n_qa, o_qa, k_qa, c_qa, n_qb, o_qb, k_qb, c_qb, rfl, q1, q2⟩, hb_18⟩
  clear s1 s2 t1 t2 g1 g2 r1 r2
  replace hs := hs.bl hb_18
  refine hK _ _ rfl trivial ?_
  clear hK K
  refine sq ?_
  refine .mv ?_
  refine sq ?_
  refine .r0 ?_
  refine sq ?_
  refine .r0 ?_
  refine sq ?_
  refine .r0 ?_
  refine sq ?_
  refine .al hs ?_; clear hs; intro p_b7 w_19 hs n19 kb_b7
  refine sq ?_
  refine .al hs ?_; clear hs; intro p_b8 w_20 hs n20 kb_b8
  refine sq ?_
  refine .s4 hs.g1 (fun _ => hs.u1 kb_b7) ?_; clear hs; intro w_21 hs hd21 ho21
  refine sq ?_
  refine .s4 hs.g0 (fun _ => hs.u0 kb_b8) ?_; clear hs; intro w_22 hs hd22 ho22
  refine sq ?_
  refine .mv ?_
  apply wpSq_end
  refine hK9 _ _ ?_
  refine wp_seq_k ?_
  intro K10 hK10
  refine rg [0, 1] ?_
  refine sq ?_
  refine .r4 hs.g1.f4 ?_
  refine sq ?_
  refine .s4 hs.g5 (fun _ => hs.u5 kb_b3) ?_; clear hs; intro w_23 hs hd23 ho23
  clear ha1 ha2 hq1 hq2 q1 q2
  apply wpSq_end
  refine hK10 _ _ ?_
  refine wp_ret ?_
  try dsimp only [Exit.then, Exit.inBlock]
  obtain ⟨r0_0, r0_1, r0_2, r0_3⟩ := hs.g5.f4
  refine bodyPost_ret (v := (.agg #[.bool n_oa, .slice o_oa k_oa c_oa, .bool n_ob, .slice o_ob k_ob c_ob])) (by simp [results, Tryz.results128, go_sem, r0_0, r0_1, r0_2, r0_3]) rfl ?_
  have k18_23 := ((((kb n19).b n20).o hd21 ho21).o hd22 ho22).o hd23 ho23
  replace o1 := o1.k k18_23
  replace o2 := o2.k k18_23
  exact ⟨_, rfl, .mk' o1 o2, hs.b⟩
theorem quot_any (ha : PN w va x l y m) (hq : PN w vb u k v n) (hl : l ≤ 2400000) (hm : m ≤ 2400000) (hk : k ≤ 2400000) (hn : n ≤ 2400000) (h0 : gN u v ≠ 0) :
    Calls Tryz.prog 128 #[va, vb] w fun e w' => ∃ r, e = .returned r ∧ PC w' r (gQ1 x y u v) (gQ2 x y u v) ∧ Below w.heap.size w w' := by
  by_cases h1 : gdig u v ≤ 5
  · exact quot_small ha hq (by omega) (by omega) (by omega) (by omega) h0 h1
  by_cases h2 : gdig u v + 1 < gdig x y
  · exact quot_long ha hq (by omega) (by omega) (by omega) (by omega) h0 (by omega) h2
  obtain ⟨cut, hc⟩ : ∃ cut, gdig u v = cut + 5 := ⟨gdig u v - 5, by omega⟩
  by_cases hf : far (gR1 (tp x cut) (tp y cut) (tp u cut) (tp v cut)) (gR2 (tp x cut) (tp y cut) (tp u cut) (tp v cut)) (tp u cut) (tp v cut)
  · exact quot_far ha hq (by omega) (by omega) (by omega) (by omega) h0 hc (by omega) (by omega) hf
  · exact quot_near ha hq (by omega) (by omega) (by omega) (by omega) h0 hc (by omega) (by omega) (tp_ne hc (by omega)) hf
end
end Go.Proofs.YtbiiglcfdphmaaaGreat

/- The divisions of Xgcd: what each keeps, where they end. -/
namespace Go.Proofs.YtbiiglcfdphmaaaGreat
open Go Go.RowKit Dig
set_option linter.unusedVariables false
structure GS where
  r1 : Int
  r2 : Int
  x1 : Int
  x2 : Int
  y1 : Int
  y2 : Int
  s1 : Int
  s2 : Int
  u1 : Int
  u2 : Int
  v1 : Int
  v2 : Int
def GS.step (t : GS) : GS :=
  let q1 := gQ1 t.r1 t.r2 t.s1 t.s2
  let q2 := gQ2 t.r1 t.r2 t.s1 t.s2
  { r1 := t.s1, r2 := t.s2, x1 := t.u1, x2 := t.u2, y1 := t.v1, y2 := t.v2
    s1 := t.r1 - (q1 * t.s1 - q2 * t.s2), s2 := t.r2 - (q1 * t.s2 + q2 * t.s1)
    u1 := t.x1 - (q1 * t.u1 - q2 * t.u2), u2 := t.x2 - (q1 * t.u2 + q2 * t.u1)
    v1 := t.y1 - (q1 * t.v1 - q2 * t.v2), v2 := t.y2 - (q1 * t.v2 + q2 * t.v1) }
def gfin : Nat → GS → GS
  | 0, t => t
  | n + 1, t => if gN t.s1 t.s2 = 0 then t else gfin n t.step
theorem gfin_done {n : Nat} {t : GS} (h : gN t.s1 t.s2 = 0) : gfin n t = t := by
  cases n with
  | zero => rfl
  | succ n => unfold gfin; rw [if_pos h]
theorem step_less {t : GS} (h : gN t.s1 t.s2 ≠ 0) : gN t.step.s1 t.step.s2 + gN t.step.s1 t.step.s2 ≤ gN t.s1 t.s2 := gR_half h
theorem gfin_fuel : ∀ (n m : Nat) (t : GS), (gN t.s1 t.s2).toNat ≤ n → (gN t.s1 t.s2).toNat ≤ m → gfin n t = gfin m t := by
  intro n
  induction n with
  | zero =>
    intro m t h1 h2
    have := gN_nonneg t.s1 t.s2
    rw [gfin_done (by omega), gfin_done (by omega)]
  | succ n ih =>
    intro m t h1 h2
    by_cases h0 : gN t.s1 t.s2 = 0
    · rw [gfin_done h0, gfin_done h0]
    · have hn := gN_nonneg t.s1 t.s2
      have hl := step_less h0
      have hs := gN_nonneg t.step.s1 t.step.s2
      cases m with
      | zero => omega
      | succ m =>
        show (if _ then _ else _) = (if _ then _ else _)
        rw [if_neg h0, if_neg h0]
        exact ih m _ (by omega) (by omega)
def GS.fin (t : GS) : GS := gfin (gN t.s1 t.s2).toNat t
theorem fin_done {t : GS} (h : gN t.s1 t.s2 = 0) : t.fin = t := gfin_done h
theorem fin_step {t : GS} (h : gN t.s1 t.s2 ≠ 0) : t.step.fin = t.fin := by
  have hn := gN_nonneg t.s1 t.s2
  have hl := step_less h
  have hs := gN_nonneg t.step.s1 t.step.s2
  unfold GS.fin
  obtain ⟨n, hk⟩ : ∃ n, (gN t.s1 t.s2).toNat = n + 1 := ⟨(gN t.s1 t.s2).toNat - 1, by omega⟩
  rw [hk]
  show _ = (if _ then _ else _)
  rw [if_neg h]
  exact gfin_fuel _ _ _ (Nat.le_refl _) (by omega)
def GS.start (a1 a2 b1 b2 : Int) : GS := { r1 := a1, r2 := a2, x1 := 1, x2 := 0, y1 := 0, y2 := 0, s1 := b1, s2 := b2, u1 := 0, u2 := 0, v1 := 1, v2 := 0 }
structure GI (a1 a2 b1 b2 : Int) (t : GS) : Prop where
  r : t.r1 = a1 * t.x1 - a2 * t.x2 + (b1 * t.y1 - b2 * t.y2) ∧ t.r2 = a1 * t.x2 + a2 * t.x1 + (b1 * t.y2 + b2 * t.y1)
  s : t.s1 = a1 * t.u1 - a2 * t.u2 + (b1 * t.v1 - b2 * t.v2) ∧ t.s2 = a1 * t.u2 + a2 * t.u1 + (b1 * t.v2 + b2 * t.v1)
  c : ∃ e : Int, (e = 1 ∨ e = -1) ∧ (t.r1 * t.u1 - t.r2 * t.u2 - (t.s1 * t.x1 - t.s2 * t.x2) = e * b1 ∧ t.r1 * t.u2 + t.r2 * t.u1 - (t.s1 * t.x2 + t.s2 * t.x1) = e * b2) ∧
    (t.r1 * t.v1 - t.r2 * t.v2 - (t.s1 * t.y1 - t.s2 * t.y2) = -e * a1 ∧ t.r1 * t.v2 + t.r2 * t.v1 - (t.s1 * t.y2 + t.s2 * t.y1) = -e * a2)
  nr : gN t.r1 t.r2 ≤ gN a1 a2 + gN b1 b2
  ns : gN t.s1 t.s2 ≤ gN a1 a2 + gN b1 b2
  nx : gN t.x1 t.x2 ≤ 4 * (gN a1 a2 + gN b1 b2) + 1
  ny : gN t.y1 t.y2 ≤ 4 * (gN a1 a2 + gN b1 b2) + 1
  nu : gN t.u1 t.u2 ≤ 4 * (gN a1 a2 + gN b1 b2) + 1
  nv : gN t.v1 t.v2 ≤ 4 * (gN a1 a2 + gN b1 b2) + 1
  su : gN t.s1 t.s2 * gN t.u1 t.u2 ≤ 2 * (gN a1 a2 + gN b1 b2)
  sv : gN t.s1 t.s2 * gN t.v1 t.v2 ≤ 2 * (gN a1 a2 + gN b1 b2)
  da : ∃ c1 c2 d1 d2 : Int, a1 = t.r1 * c1 - t.r2 * c2 + (t.s1 * d1 - t.s2 * d2) ∧ a2 = t.r1 * c2 + t.r2 * c1 + (t.s1 * d2 + t.s2 * d1)
  db : ∃ c1 c2 d1 d2 : Int, b1 = t.r1 * c1 - t.r2 * c2 + (t.s1 * d1 - t.s2 * d2) ∧ b2 = t.r1 * c2 + t.r2 * c1 + (t.s1 * d2 + t.s2 * d1)
theorem GI.start (a1 a2 b1 b2 : Int) : GI a1 a2 b1 b2 (GS.start a1 a2 b1 b2) := by
  have h1 := gN_nonneg a1 a2
  have h2 := gN_nonneg b1 b2
  have h3 : gN 0 0 = 0 := rfl
  have h4 : gN 1 0 = 1 := rfl
  exact {
    r := by constructor <;> (simp only [GS.start]; grind)
    s := by constructor <;> (simp only [GS.start]; grind)
    c := ⟨-1, .inr rfl, by constructor <;> (simp only [GS.start]; grind), by constructor <;> (simp only [GS.start]; grind)⟩
    nr := by simp only [GS.start]; omega
    ns := by simp only [GS.start]; omega
    nx := by simp only [GS.start]; omega
    ny := by simp only [GS.start]; omega
    nu := by simp only [GS.start]; omega
    nv := by simp only [GS.start]; omega
    su := by simp only [GS.start]; rw [h3]; omega
    sv := by simp only [GS.start]; rw [h4]; omega
    da := ⟨1, 0, 0, 0, by constructor <;> (simp only [GS.start]; grind)⟩
    db := ⟨0, 0, 1, 0, by constructor <;> (simp only [GS.start]; grind)⟩ }
theorem gN_add (a b c d : Int) : gN (a + c) (b + d) ≤ 2 * gN a b + 2 * gN c d := by
  have h1 := msq (a - c)
  have h2 := msq (b - d)
  have e : 2 * gN a b + 2 * gN c d - gN (a + c) (b + d) = (a - c) * (a - c) + (b - d) * (b - d) := by unfold gN; grind
  omega
theorem gN_sgn (e b1 b2 : Int) (he : e = 1 ∨ e = -1) : gN (e * b1) (e * b2) = gN b1 b2 := by
  rcases he with rfl | rfl <;> unfold gN <;> grind
theorem fac_step {s1 s2 u1 u2 u1' u2' t1 t2 b1 b2 e M : Int} (he : e = 1 ∨ e = -1) (h0 : gN s1 s2 ≠ 0) (hb : gN b1 b2 ≤ M)
    (e1 : s1 * u1' - s2 * u2' = e * b1 + (t1 * u1 - t2 * u2)) (e2 : s1 * u2' + s2 * u1' = e * b2 + (t1 * u2 + t2 * u1))
    (ht : gN t1 t2 + gN t1 t2 ≤ gN s1 s2) (hu : gN s1 s2 * gN u1 u2 ≤ 2 * M) : gN u1' u2' ≤ 4 * M ∧ gN t1 t2 * gN u1' u2' ≤ 2 * M := by
  have h1 := gN_mul s1 s2 u1' u2'
  rw [e1, e2] at h1
  have h2 := gN_add (e * b1) (e * b2) (t1 * u1 - t2 * u2) (t1 * u2 + t2 * u1)
  rw [gN_sgn e b1 b2 he, gN_mul] at h2
  have hn := gN_nonneg u1 u2
  have hn' := gN_nonneg u1' u2'
  have h3 := Int.mul_le_mul_of_nonneg_right ht hn
  have f1 : (gN t1 t2 + gN t1 t2) * gN u1 u2 = 2 * (gN t1 t2 * gN u1 u2) := by grind
  have h4 : gN s1 s2 * gN u1' u2' ≤ 4 * M := by omega
  have h5 := Int.mul_le_mul_of_nonneg_right ht hn'
  have f2 : (gN t1 t2 + gN t1 t2) * gN u1' u2' = 2 * (gN t1 t2 * gN u1' u2') := by grind
  have hp := gN_pos h0
  have h6 := Int.mul_le_mul_of_nonneg_right (show (1 : Int) ≤ gN s1 s2 by omega) hn'
  constructor <;> omega
theorem lin1 {r1 s1 s2 a1 a2 b1 b2 x1 x2 y1 y2 u1 u2 v1 v2 : Int} (q1 q2 : Int) (hr : r1 = a1 * x1 - a2 * x2 + (b1 * y1 - b2 * y2)) (h1 : s1 = a1 * u1 - a2 * u2 + (b1 * v1 - b2 * v2)) (h2 : s2 = a1 * u2 + a2 * u1 + (b1 * v2 + b2 * v1)) :
    r1 - (q1 * s1 - q2 * s2) = a1 * (x1 - (q1 * u1 - q2 * u2)) - a2 * (x2 - (q1 * u2 + q2 * u1)) + (b1 * (y1 - (q1 * v1 - q2 * v2)) - b2 * (y2 - (q1 * v2 + q2 * v1))) := by
  rw [hr, h1, h2]; clear hr h1 h2; grind
theorem lin2 {r2 s1 s2 a1 a2 b1 b2 x1 x2 y1 y2 u1 u2 v1 v2 : Int} (q1 q2 : Int) (hr : r2 = a1 * x2 + a2 * x1 + (b1 * y2 + b2 * y1)) (h1 : s1 = a1 * u1 - a2 * u2 + (b1 * v1 - b2 * v2)) (h2 : s2 = a1 * u2 + a2 * u1 + (b1 * v2 + b2 * v1)) :
    r2 - (q1 * s2 + q2 * s1) = a1 * (x2 - (q1 * u2 + q2 * u1)) + a2 * (x1 - (q1 * u1 - q2 * u2)) + (b1 * (y2 - (q1 * v2 + q2 * v1)) + b2 * (y1 - (q1 * v1 - q2 * v2))) := by
  rw [hr, h1, h2]; clear hr h1 h2; grind
theorem crs1 (r1 r2 s1 s2 x1 x2 u1 u2 q1 q2 : Int) : s1 * (x1 - (q1 * u1 - q2 * u2)) - s2 * (x2 - (q1 * u2 + q2 * u1)) - ((r1 - (q1 * s1 - q2 * s2)) * u1 - (r2 - (q1 * s2 + q2 * s1)) * u2) = -(r1 * u1 - r2 * u2 - (s1 * x1 - s2 * x2)) := by grind
theorem crs2 (r1 r2 s1 s2 x1 x2 u1 u2 q1 q2 : Int) : s1 * (x2 - (q1 * u2 + q2 * u1)) + s2 * (x1 - (q1 * u1 - q2 * u2)) - ((r1 - (q1 * s1 - q2 * s2)) * u2 + (r2 - (q1 * s2 + q2 * s1)) * u1) = -(r1 * u2 + r2 * u1 - (s1 * x2 + s2 * x1)) := by grind
theorem dvs1 (r1 r2 s1 s2 p1 p2 p3 p4 q1 q2 : Int) : s1 * (q1 * p1 - q2 * p2 + p3) - s2 * (q1 * p2 + q2 * p1 + p4) + ((r1 - (q1 * s1 - q2 * s2)) * p1 - (r2 - (q1 * s2 + q2 * s1)) * p2) = r1 * p1 - r2 * p2 + (s1 * p3 - s2 * p4) := by grind
theorem dvs2 (r1 r2 s1 s2 p1 p2 p3 p4 q1 q2 : Int) : s1 * (q1 * p2 + q2 * p1 + p4) + s2 * (q1 * p1 - q2 * p2 + p3) + ((r1 - (q1 * s1 - q2 * s2)) * p2 + (r2 - (q1 * s2 + q2 * s1)) * p1) = r1 * p2 + r2 * p1 + (s1 * p4 + s2 * p3) := by grind
theorem GI.step {a1 a2 b1 b2 : Int} {t : GS} (h : GI a1 a2 b1 b2 t) (h0 : gN t.s1 t.s2 ≠ 0) : GI a1 a2 b1 b2 t.step := by
  have hl := step_less h0
  have hpos := gN_nonneg t.step.s1 t.step.s2
  have hA := gN_nonneg a1 a2
  have hB := gN_nonneg b1 b2
  have hns := h.ns
  obtain ⟨e, he, ⟨c1, c2⟩, c3, c4⟩ := h.c
  obtain ⟨hr1, hr2⟩ := h.r
  obtain ⟨hs1, hs2⟩ := h.s
  obtain ⟨p1, p2, p3, p4, hp1, hp2⟩ := h.da
  obtain ⟨o1, o2, o3, o4, ho1, ho2⟩ := h.db
  have hnu := h.nu
  have hnv := h.nv
  have hsu := h.su
  have hsv := h.sv
  clear h
  obtain ⟨r1, r2, x1, x2, y1, y2, s1, s2, u1, u2, v1, v2⟩ := t
  simp only [GS.step] at *
  generalize gQ1 r1 r2 s1 s2 = q1 at *
  generalize gQ2 r1 r2 s1 s2 = q2 at *
  have he' : -e = 1 ∨ -e = -1 := by omega
  have F := fac_step (s1 := s1) (s2 := s2) (u1 := u1) (u2 := u2) (u1' := x1 - (q1 * u1 - q2 * u2)) (u2' := x2 - (q1 * u2 + q2 * u1)) (t1 := r1 - (q1 * s1 - q2 * s2)) (t2 := r2 - (q1 * s2 + q2 * s1)) (b1 := b1) (b2 := b2) (e := -e) (M := gN a1 a2 + gN b1 b2) he' h0 (by omega) (by have := crs1 r1 r2 s1 s2 x1 x2 u1 u2 q1 q2; rw [c1] at this; rw [Int.neg_mul]; omega) (by have := crs2 r1 r2 s1 s2 x1 x2 u1 u2 q1 q2; rw [c2] at this; rw [Int.neg_mul]; omega) hl hsu
  have H := fac_step (s1 := s1) (s2 := s2) (u1 := v1) (u2 := v2) (u1' := y1 - (q1 * v1 - q2 * v2)) (u2' := y2 - (q1 * v2 + q2 * v1)) (t1 := r1 - (q1 * s1 - q2 * s2)) (t2 := r2 - (q1 * s2 + q2 * s1)) (b1 := a1) (b2 := a2) (e := e) (M := gN a1 a2 + gN b1 b2) he h0 (by omega) (by have := crs1 r1 r2 s1 s2 y1 y2 v1 v2 q1 q2; rw [c3, Int.neg_mul] at this; omega) (by have := crs2 r1 r2 s1 s2 y1 y2 v1 v2 q1 q2; rw [c4, Int.neg_mul] at this; omega) hl hsv
  exact {
    r := ⟨hs1, hs2⟩
    s := ⟨lin1 q1 q2 hr1 hs1 hs2, lin2 q1 q2 hr2 hs1 hs2⟩
    c := ⟨-e, he', ⟨by rw [crs1, c1, Int.neg_mul], by rw [crs2, c2, Int.neg_mul]⟩, ⟨by rw [crs1, c3, Int.neg_mul (-e)], by rw [crs2, c4, Int.neg_mul (-e)]⟩⟩
    nr := hns
    ns := by
      have h9 : gN (r1 - (q1 * s1 - q2 * s2)) (r2 - (q1 * s2 + q2 * s1)) ≤ gN a1 a2 + gN b1 b2 := by omega
      exact h9
    nx := hnu
    ny := hnv
    nu := Int.le_trans F.1 (by omega)
    nv := Int.le_trans H.1 (by omega)
    su := F.2
    sv := H.2
    da := ⟨q1 * p1 - q2 * p2 + p3, q1 * p2 + q2 * p1 + p4, p1, p2, by rw [dvs1]; exact hp1, by rw [dvs2]; exact hp2⟩
    db := ⟨q1 * o1 - q2 * o2 + o3, q1 * o2 + q2 * o1 + o4, o1, o2, by rw [dvs1]; exact ho1, by rw [dvs2]; exact ho2⟩ }
theorem GI.fin : ∀ (n : Nat) {a1 a2 b1 b2 : Int} {t : GS}, GI a1 a2 b1 b2 t → (gN t.s1 t.s2).toNat ≤ n → GI a1 a2 b1 b2 t.fin ∧ gN t.fin.s1 t.fin.s2 = 0 := by
  intro n
  induction n with
  | zero =>
    intro a1 a2 b1 b2 t h hn
    have := gN_nonneg t.s1 t.s2
    rw [fin_done (by omega)]
    exact ⟨h, by omega⟩
  | succ n ih =>
    intro a1 a2 b1 b2 t h hn
    by_cases h0 : gN t.s1 t.s2 = 0
    · rw [fin_done h0]; exact ⟨h, h0⟩
    · have hp := gN_nonneg t.s1 t.s2
      have hl := step_less h0
      have hs := gN_nonneg t.step.s1 t.step.s2
      rw [← fin_step h0]
      exact ih (h.step h0) (by omega)
theorem len_norm {x y a1 a2 b1 b2 : Int} {l : Nat} (h : gN x y ≤ 4 * (gN a1 a2 + gN b1 b2) + 1) (h1 : (dig a1.natAbs).length ≤ l) (h2 : (dig a2.natAbs).length ≤ l) (h3 : (dig b1.natAbs).length ≤ l) (h4 : (dig b2.natAbs).length ≤ l) :
    (dig x.natAbs).length ≤ l + 1 ∧ (dig y.natAbs).length ≤ l + 1 := by
  have bd : ∀ z : Int, (dig z.natAbs).length ≤ l → -(pw l : Int) ≤ z ∧ z ≤ (pw l : Int) := by
    intro z hz
    have := Nat.lt_of_lt_of_le (lt_pw_dig z.natAbs) (pw_mono hz)
    omega
  have n1 := norm_ge (bd _ h1) (bd _ h2)
  have n2 := norm_ge (bd _ h3) (bd _ h4)
  have hp := pw_pos l
  have hpp : (1 : Int) ≤ (pw l : Int) * (pw l : Int) := by have := Int.mul_le_mul (show (1 : Int) ≤ (pw l : Int) by omega) (show (1 : Int) ≤ (pw l : Int) by omega) (by decide) (by omega); omega
  have e5 : (5 * (pw l : Int)) * (5 * (pw l : Int)) = 25 * ((pw l : Int) * (pw l : Int)) := by grind
  obtain ⟨r1, r2⟩ := norm_le (a := x) (b := y) (A := 5 * (pw l : Int)) (by omega) (by omega)
  have hpw : pw (l + 1) = pw l * 4294967296 := by rw [pw_add]; rfl
  exact ⟨dig_length_le (by omega), dig_length_le (by omega)⟩
end Go.Proofs.YtbiiglcfdphmaaaGreat
