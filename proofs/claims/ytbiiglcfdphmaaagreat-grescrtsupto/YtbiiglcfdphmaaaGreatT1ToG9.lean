/- Texts with a sign: CutPrefix, the references Is and Parse. -/
import Derived.Test.YtbiiglcfdphmaaaGreatG3ToR10
import Derived.Test.YtbiiglcfdphmaaaGreatR11
import Derived.Test.YtbiiglcfdphmaaaGreatR12

namespace Go.Proofs.YtbiiglcfdphmaaaGreat
open Go.RowKit Dig
end Go.Proofs.YtbiiglcfdphmaaaGreat

/- zint.Parse, Text; the reference's Text. -/
namespace Go.Proofs.YtbiiglcfdphmaaaGreat
open Go.RowKit Dig
end Go.Proofs.YtbiiglcfdphmaaaGreat

/- Texts with a sign, in one piece: what is a number, and which. -/
namespace Go.Proofs.YtbiiglcfdphmaaaGreat
open Go Go.RowKit Dig
set_option linter.unusedVariables false
end Go.Proofs.YtbiiglcfdphmaaaGreat

/- gint: Text; the law's awake. -/
namespace Go.Proofs.YtbiiglcfdphmaaaGreat
open Go Go.RowKit Dig
set_option linter.unusedVariables false
section
variable {w : World} {va vb : Value} {x y u v : Int} {l m k n : Nat}
end
end Go.Proofs.YtbiiglcfdphmaaaGreat

/- The reference's Round, Zero; what quotients and rests are. -/
namespace Go.Proofs.YtbiiglcfdphmaaaGreat
open Go Go.RowKit Dig
set_option maxHeartbeats 4000000
set_option maxRecDepth 20000
set_option linter.unusedVariables false
section
variable {w : World} {va vb : Value} {x y u v : Int} {l m k n : Nat}
theorem rgRound_any (ha : PN w va x l y m) (hq : PN w vb u k v n) (hl : l ≤ 2000000) (hm : m ≤ 2000000) (hk : k ≤ 2000000) (hn : n ≤ 2000000) (h0 : gN u v ≠ 0) :
    Calls Tryz.prog 78 #[va, vb] w fun e w' => ∃ r s, e = .returned (.tuple #[r, s]) ∧ PC w' r (gQ1 x y u v) (gQ2 x y u v) ∧ PC w' s (gR1 x y u v) (gR2 x y u v) ∧ Below w.heap.size w w' := by
  have H0 := hide h0
  clear h0
  unfold gR1 gR2 gQ1 gQ2 gT1 gT2
  obtain ⟨n_0a, o_0a, k_0a, c_0a, n_0b, o_0b, k_0b, c_0b, rfl, ha1, ha2⟩ := ha
  obtain ⟨n_1a, o_1a, k_1a, c_1a, n_1b, o_1b, k_1b, c_1b, rfl, hq1, hq2⟩ := hq
  go_enter Tryz.func78, Tryz.ntmps78
  have hs := St.nil w
  refine wp_seq_k ?_
  intro K1 hK1
  refine rg [0, 1, 2, 3] ?_
  refine sq ?_
  refine .al hs ?_; clear hs; intro p_b1 w_1 hs n1 kb_b1
  refine sq ?_
  refine .al hs ?_; clear hs; intro p_b2 w_2 hs n2 kb_b2
  refine sq ?_
  refine .al hs ?_; clear hs; intro p_b3 w_3 hs n3 kb_b3
  refine sq ?_
  refine .al hs ?_; clear hs; intro p_b4 w_4 hs n4 kb_b4
  apply wpSq_end
  refine hK1 _ _ ?_
  refine wp_seq_k ?_
  intro K2 hK2
  refine rg [0, 1, 2, 3] ?_
  refine sq ?_
  refine .r4 hs.g2.f4 ?_
  refine sq ?_
  intro K hK
  have k0_4 := (((kb n1).b n2).b n3).b n4
  replace hq1 := hq1.k k0_4
  replace hq2 := hq2.k k0_4
  go_big_op
  go_fit (rgNorm_any (PN.mk' hq1 hq2) (by omega) (by omega) )
  rintro e w_5 ⟨v_g2, rfl, g2, hb_5⟩
  replace hs := hs.bl hb_5
  obtain ⟨n_g2, o_g2, k_g2, c_g2, rfl⟩ := g2.open2
  have Lg2 := hide (g2.lenOf (zlen_add (zlen_mul (hq1.len) (hq1.len)) (zlen_mul (hq2.len) (hq2.len))))
  refine hK _ _ rfl trivial ?_
  clear hK K
  refine sq ?_
  refine .al hs ?_; clear hs; intro p_b5 w_6 hs n6 kb_b5
  refine sq ?_
  refine .s2 hs.g0 (fun _ => hs.u0 kb_b5) ?_; clear hs; intro w_7 hs hd7 ho7
  apply wpSq_end
  refine hK2 _ _ ?_
  refine wp_seq_k ?_
  intro K3 hK3
  refine wp_region_f4 [(0, false), (1, false), (2, true), (3, true)] [5] [4] (fun j => (.cells #[.bool false, .slice none 0 0, .bool false, .slice none 0 0] 26)) [0, 1, 99, 99, 99, 99] [] (.c hs.g4 (.c hs.g3 .n)) (fm fn) fun w_8 n8 => ?_
  replace hs := hs.bl n8
  have hlB := hs.lt; have hkB := hs.k
  refine f4 ?_
  refine f4 ?_
  refine fl fun w_9 n9 => ?_
  replace hs := hs.bl n9
  intro K hK
  have k4_9 := ((((kb hb_5).b n6).o hd7 ho7).b n8).b n9
  replace hq1 := hq1.k k4_9
  replace hq2 := hq2.k k4_9
  go_big_op
  go_fit (rgConj_any (PN.mk' hq1 hq2) (by omega) (by omega) )
  rintro e w_10 ⟨_, rfl, ⟨n_g1a, o_g1a, k_g1a, c_g1a, n_g1b, o_g1b, k_g1b, c_g1b, rfl, g11, g12⟩, hb_10⟩
  replace hs := hs.bl hb_10
  have Lg11 := hide (g11.lenOf ((hq1.len)))
  have Lg12 := hide (g12.lenOf (zlen_neg (hq2.len)))
  refine hK _ _ rfl ⟨hb_10, (And.intro hs.g4 (And.intro hs.g3 trivial))⟩ ?_
  clear hK K
  refine fl fun w_11 n11 => ?_
  replace hs := hs.bl n11
  intro K hK
  have k0_11 := ((((((k0_4.b hb_5).b n6).o hd7 ho7).b n8).b n9).b hb_10).b n11
  replace ha1 := ha1.k k0_11
  replace ha2 := ha2.k k0_11
  have k10_11 := kb n11
  replace g11 := g11.k k10_11
  replace g12 := g12.k k10_11
  go_big_op
  go_fit (rgMul_any (PN.mk' ha1 ha2) (PN.mk' (g11.zn Lg11.out) (g12.zn Lg12.out)) (by omega) (by omega) (by omega) (by omega) )
  rintro e w_12 ⟨_, rfl, ⟨n_g0a, o_g0a, k_g0a, c_g0a, n_g0b, o_g0b, k_g0b, c_g0b, rfl, g01, g02⟩, hb_12⟩
  replace hs := hs.bl hb_12
  have Lg01 := hide (g01.lenOf (zlen_sub (zlen_mul (ha1.len) (Lg11.out)) (zlen_mul (ha2.len) (Lg12.out))))
  have Lg02 := hide (g02.lenOf (zlen_add (zlen_mul (ha1.len) (Lg12.out)) (zlen_mul (ha2.len) (Lg11.out))))
  refine hK _ _ rfl ⟨hb_12, (And.intro hs.g4 (And.intro hs.g3 trivial))⟩ ?_
  clear hK K
  refine e1 hs hlB hkB ?_; clear hs hlB hkB; intro w_13 p_b6 hs n13 kb_b6
  refine tl ?_
  refine .s4 hs.g0 (fun _ => hs.u0 kb_b6) ?_ (e := fun _ hs => (And.intro hs.g5 (And.intro hs.g4 True.intro))); clear hs; intro w_14 hs hd14 ho14
  apply wpTail_end
  refine hK3 _ _ ?_
  refine wp_seq_k ?_
  intro K4 hK4
  refine rg [0, 1, 2, 3, 4, 5, 6, 7, 8, 9, 10] ?_
  refine sq ?_
  refine .r0 ?_
  refine sq ?_
  refine .r4 hs.g0.f4 ?_
  refine sq ?_
  refine .r2 hs.g1.f2 ?_
  refine sq ?_
  intro K hK
  have k12_14 := (kb n13).o hd14 ho14
  replace g01 := g01.k k12_14
  have k5_14 := ((((((((kb n6).o hd7 ho7).b n8).b n9).b hb_10).b n11).b hb_12).b n13).o hd14 ho14
  replace g2 := g2.k k5_14
  go_big_op
  go_fit (rround_any (g01.zn Lg01.out) (g2.zn Lg2.out) (by omega) (by omega) H0.out)
  rintro e w_15 ⟨v_g3, v_g4, rfl, g3, g4, hb_15⟩
  replace hs := hs.bl hb_15
  obtain ⟨n_g3, o_g3, k_g3, c_g3, rfl⟩ := g3.open2
  obtain ⟨n_g4, o_g4, k_g4, c_g4, rfl⟩ := g4.open2
  have Lg3 := hide (g3.lenOf (rnd_len (H0.out) (Lg01.out)))
  refine hK _ _ rfl trivial ?_
  clear hK K
  refine sq ?_
  refine .mv ?_
  refine sq ?_
  refine .r0 ?_
  refine sq ?_
  refine .r0 ?_
  refine sq ?_
  refine .al hs ?_; clear hs; intro p_b7 w_16 hs n16 kb_b7
  refine sq ?_
  refine .al hs ?_; clear hs; intro p_b8 w_17 hs n17 kb_b8
  refine sq ?_
  refine .s2 hs.g1 (fun _ => hs.u1 kb_b7) ?_; clear hs; intro w_18 hs hd18 ho18
  refine sq ?_
  refine .s2 hs.g0 (fun _ => hs.u0 kb_b8) ?_; clear hs; intro w_19 hs hd19 ho19
  apply wpSq_end
  refine hK4 _ _ ?_
  refine wp_seq_k ?_
  intro K5 hK5
  refine rg [0, 1, 2, 3, 4, 5, 6, 7, 8, 9, 10] ?_
  refine sq ?_
  refine .r0 ?_
  refine sq ?_
  refine .r4 hs.g2.f4 ?_
  refine sq ?_
  refine .r2 hs.g3.f2 ?_
  refine sq ?_
  intro K hK
  have k12_19 := ((((k12_14.b hb_15).b n16).b n17).o hd18 ho18).o hd19 ho19
  replace g02 := g02.k k12_19
  have k14_19 := ((((kb hb_15).b n16).b n17).o hd18 ho18).o hd19 ho19
  replace g2 := g2.k k14_19
  go_big_op
  go_fit (rround_any (g02.zn Lg02.out) (g2.zn Lg2.out) (by omega) (by omega) H0.out)
  rintro e w_20 ⟨v_g5, v_g6, rfl, g5, g6, hb_20⟩
  replace hs := hs.bl hb_20
  obtain ⟨n_g5, o_g5, k_g5, c_g5, rfl⟩ := g5.open2
  obtain ⟨n_g6, o_g6, k_g6, c_g6, rfl⟩ := g6.open2
  have Lg5 := hide (g5.lenOf (rnd_len (H0.out) (Lg02.out)))
  refine hK _ _ rfl trivial ?_
  clear hK K
  refine sq ?_
  refine .mv ?_
  refine sq ?_
  refine .r0 ?_
  refine sq ?_
  refine .r0 ?_
  refine sq ?_
  refine .al hs ?_; clear hs; intro p_b9 w_21 hs n21 kb_b9
  clear g11 g12 g01 g4 g2 g02
  refine sq ?_
  refine .al hs ?_; clear hs; intro p_b10 w_22 hs n22 kb_b10
  refine sq ?_
  refine .s2 hs.g1 (fun _ => hs.u1 kb_b9) ?_; clear hs; intro w_23 hs hd23 ho23
  refine sq ?_
  refine .s2 hs.g0 (fun _ => hs.u0 kb_b10) ?_; clear hs; intro w_24 hs hd24 ho24
  apply wpSq_end
  refine hK5 _ _ ?_
  refine wp_seq_k ?_
  intro K6 hK6
  refine rg [0, 1, 2, 3, 4] ?_
  refine sq ?_
  refine .r2 hs.g3.f2 ?_
  refine sq ?_
  refine .r2 hs.g1.f2 ?_
  refine sq ?_
  refine .r0 ?_
  refine sq ?_
  refine .al hs ?_; clear hs; intro p_b11 w_25 hs n25 kb_b11
  refine sq ?_
  refine .s4 hs.g0 (fun _ => hs.u0 kb_b11) ?_; clear hs; intro w_26 hs hd26 ho26
  apply wpSq_end
  refine hK6 _ _ ?_
  refine wp_seq_k ?_
  intro K7 hK7
  refine wp_region_f4 [(0, false), (1, false), (2, false), (3, false), (4, true), (5, true)] [6, 7] [] (fun _ => default) [0, 1, 0, 2, 99, 99, 99, 99] [] (.c hs.g0 (.c hs.g10 (.c hs.g9 .n))) fn fun w_27 n27 => ?_
  replace hs := hs.bl n27
  refine f4 ?_
  refine f4 ?_
  refine f4 ?_
  refine f4 ?_
  refine fl fun w_28 n28 => ?_
  replace hs := hs.bl n28
  intro K hK
  have k15_28 := ((((((((((((kb n16).b n17).o hd18 ho18).o hd19 ho19).b hb_20).b n21).b n22).o hd23 ho23).o hd24 ho24).b n25).o hd26 ho26).b n27).b n28
  replace g3 := g3.k k15_28
  have k20_28 := (((((((kb n21).b n22).o hd23 ho23).o hd24 ho24).b n25).o hd26 ho26).b n27).b n28
  replace g5 := g5.k k20_28
  have k9_28 := ((((((((((((((((((kb hb_10).b n11).b hb_12).b n13).o hd14 ho14).b hb_15).b n16).b n17).o hd18 ho18).o hd19 ho19).b hb_20).b n21).b n22).o hd23 ho23).o hd24 ho24).b n25).o hd26 ho26).b n27).b n28
  replace hq1 := hq1.k k9_28
  replace hq2 := hq2.k k9_28
  go_big_op
  go_fit (rgMul_any (PN.mk' (g3.zn Lg3.out) (g5.zn Lg5.out)) (PN.mk' hq1 hq2) (by omega) (by omega) (by omega) (by omega) )
  rintro e w_29 ⟨_, rfl, ⟨n_g7a, o_g7a, k_g7a, c_g7a, n_g7b, o_g7b, k_g7b, c_g7b, rfl, g71, g72⟩, hb_29⟩
  replace hs := hs.bl hb_29
  have Lg71 := hide (g71.lenOf (zlen_sub (zlen_mul (Lg3.out) (hq1.len)) (zlen_mul (Lg5.out) (hq2.len))))
  have Lg72 := hide (g72.lenOf (zlen_add (zlen_mul (Lg3.out) (hq2.len)) (zlen_mul (Lg5.out) (hq1.len))))
  refine hK _ _ rfl ⟨hb_29, (And.intro hs.g0 (And.intro hs.g10 (And.intro hs.g9 trivial)))⟩ ?_
  clear hK K
  refine fl fun w_30 n30 => ?_
  replace hs := hs.bl n30
  intro K hK
  have k11_30 := ((((((((((((((((((kb hb_12).b n13).o hd14 ho14).b hb_15).b n16).b n17).o hd18 ho18).o hd19 ho19).b hb_20).b n21).b n22).o hd23 ho23).o hd24 ho24).b n25).o hd26 ho26).b n27).b n28).b hb_29).b n30
  replace ha1 := ha1.k k11_30
  replace ha2 := ha2.k k11_30
  have k29_30 := kb n30
  replace g71 := g71.k k29_30
  replace g72 := g72.k k29_30
  go_big_op
  go_fit (rgSub_any (PN.mk' ha1 ha2) (PN.mk' (g71.zn Lg71.out) (g72.zn Lg72.out)) (by omega) (by omega) (by omega) (by omega) )
  rintro e w_31 ⟨_, rfl, ⟨n_g8a, o_g8a, k_g8a, c_g8a, n_g8b, o_g8b, k_g8b, c_g8b, rfl, g81, g82⟩, hb_31⟩
  replace hs := hs.bl hb_31
  refine hK _ _ rfl ⟨hb_31, (And.intro hs.g0 (And.intro hs.g10 (And.intro hs.g9 trivial)))⟩ ?_
  clear hK K
  refine e0 hs ?_; clear hs; intro w_32 hs n32
  refine tl ?_
  refine .s4 hs.g8 (fun _ => hs.u8 kb_b3) ?_ (e := fun _ hs => (And.intro hs.g0 (And.intro hs.g10 (And.intro hs.g9 True.intro)))); clear hs; intro w_33 hs hd33 ho33
  refine tl ?_
  refine .s4 hs.g7 (fun _ => hs.u7 kb_b4) ?_ (e := fun _ hs => (And.intro hs.g0 (And.intro hs.g10 (And.intro hs.g9 True.intro)))); clear hs; intro w_34 hs hd34 ho34
  apply wpTail_end
  refine hK7 _ _ ?_
  refine wp_ret ?_
  try dsimp only [Exit.then, Exit.inBlock]
  obtain ⟨r0_0, r0_1, r0_2, r0_3⟩ := hs.g8.f4
  obtain ⟨r4_0, r4_1, r4_2, r4_3⟩ := hs.g7.f4
  refine bodyPost_ret (v := (.tuple #[(.agg #[.bool n_g3, .slice o_g3 k_g3 c_g3, .bool n_g5, .slice o_g5 k_g5 c_g5]), (.agg #[.bool n_g8a, .slice o_g8a k_g8a c_g8a, .bool n_g8b, .slice o_g8b k_g8b c_g8b])])) (by simp [results, Tryz.results78, go_sem, r0_0, r0_1, r0_2, r0_3, r4_0, r4_1, r4_2, r4_3]) rfl ?_
  have k28_34 := (((((kb hb_29).b n30).b hb_31).b n32).o hd33 ho33).o hd34 ho34
  replace g3 := g3.k k28_34
  replace g5 := g5.k k28_34
  have k31_34 := ((kb n32).o hd33 ho33).o hd34 ho34
  replace g81 := g81.k k31_34
  replace g82 := g82.k k31_34
  exact ⟨_, _, rfl, .mk' g3 g5, .mk' g81 g82, hs.b⟩
theorem rgZero_any (w : World) :
    Calls Tryz.prog 45 #[.agg #[.bool false, .slice none 0 0, .bool false, .slice none 0 0]] w fun e w' => e = .returned (.bool true) ∧ Below w.heap.size w w' := by
  go_enter Tryz.func45, Tryz.ntmps45
  have hs := St.nil w
  refine wp_seq_k ?_
  intro K1 hK1
  refine rg [0, 1] ?_
  refine sq ?_
  refine .al hs ?_; clear hs; intro p_b1 w_1 hs n1 kb_b1
  refine sq ?_
  refine .mv ?_
  apply wpSq_end
  refine hK1 _ _ ?_
  refine wp_seq_k ?_
  intro K2 hK2
  refine rg [0, 1, 2, 3, 4, 5, 6, 7, 8] ?_
  refine sq ?_
  refine .r0 ?_
  refine sq ?_
  refine .r4 hs.g0.f4 ?_
  refine sq ?_
  intro K hK
  go_big_op
  go_fit (rzero_any _)
  rintro e w_2 ⟨rfl, hb_2⟩
  replace hs := hs.bl hb_2
  refine hK _ _ rfl trivial ?_
  clear hK K
  refine sq ?_
  refine .mv ?_
  refine sq ?_
  refine .r0 ?_
  refine sq ?_
  refine .r4 hs.g0.f4 ?_
  refine sq ?_
  intro K hK
  go_big_op
  go_fit (rzero_any _)
  rintro e w_3 ⟨rfl, hb_3⟩
  replace hs := hs.bl hb_3
  refine hK _ _ rfl trivial ?_
  clear hK K
  refine sq ?_
  refine .r0 ?_
  refine sq ?_
  refine .mv ?_
  apply wpSq_end
  refine hK2 _ _ ?_
  refine wp_ret ?_
  try dsimp only [Exit.then, Exit.inBlock]
  refine bodyPost_ret (v := (.bool true)) (by simp [results, Tryz.results45, go_sem]) rfl ?_
  have hb := hs.b
  exact ⟨rfl, hb⟩
end
theorem sq_le {a n : Int} (h1 : -n ≤ a) (h2 : a ≤ n) : a * a ≤ n * n := by
  have h := Int.mul_nonneg (show 0 ≤ n - a by omega) (show 0 ≤ n + a by omega)
  have e : (n - a) * (n + a) = n * n - a * a := by grind
  omega
theorem gR_conj (x y u v : Int) : gR1 x y u v * u - gR2 x y u v * -v = gT1 x y u v - gQ1 x y u v * gN u v ∧ gR1 x y u v * -v + gR2 x y u v * u = gT2 x y u v - gQ2 x y u v * gN u v := by
  unfold gR1 gR2 gT1 gT2 gN
  generalize gQ1 x y u v = a
  generalize gQ2 x y u v = b
  constructor <;> grind
theorem gR_back (x y u v : Int) : gQ1 x y u v * u - gQ2 x y u v * v + gR1 x y u v = x ∧ gQ1 x y u v * v + gQ2 x y u v * u + gR2 x y u v = y := by
  unfold gR1 gR2; omega
theorem gN_mul (a b c d : Int) : gN (a * c - b * d) (a * d + b * c) = gN a b * gN c d := by unfold gN; grind
theorem gN_conj (a b : Int) : gN a (-b) = gN a b := by unfold gN; grind
theorem gN_pos {u v : Int} (h : gN u v ≠ 0) : 0 < gN u v := by have := gN_nonneg u v; omega
theorem gR_half {x y u v : Int} (h0 : gN u v ≠ 0) : gN (gR1 x y u v) (gR2 x y u v) + gN (gR1 x y u v) (gR2 x y u v) ≤ gN u v := by
  have hp := gN_pos h0
  have b1 := (rnd_bd (x := gT1 x y u v) h0).1 hp
  have b2 := (rnd_bd (x := gT2 x y u v) h0).1 hp
  obtain ⟨e1, e2⟩ := gR_conj x y u v
  have hm := gN_mul (gR1 x y u v) (gR2 x y u v) u (-v)
  rw [gN_conj] at hm
  rw [show gR1 x y u v * u - gR2 x y u v * -v = gT1 x y u v - rnd (gT1 x y u v) (gN u v) * gN u v from e1, show gR1 x y u v * -v + gR2 x y u v * u = gT2 x y u v - rnd (gT2 x y u v) (gN u v) * gN u v from e2] at hm
  generalize gT1 x y u v - rnd (gT1 x y u v) (gN u v) * gN u v = a at *
  generalize gT2 x y u v - rnd (gT2 x y u v) (gN u v) * gN u v = b at *
  generalize gN (gR1 x y u v) (gR2 x y u v) = r at *
  generalize gN u v = n at *
  have s1 := sq_le (a := 2 * a) (n := n) (by omega) (by omega)
  have s2 := sq_le (a := 2 * b) (n := n) (by omega) (by omega)
  have hab : gN a b = a * a + b * b := rfl
  rw [hab] at hm
  have f1 : 2 * a * (2 * a) = 4 * (a * a) := by grind
  have f2 : 2 * b * (2 * b) = 4 * (b * b) := by grind
  have h3 : (r + r) * n ≤ n * n := by
    have : (r + r) * n = 2 * (r * n) := by grind
    omega
  exact Int.le_of_mul_le_mul_right h3 hp
end Go.Proofs.YtbiiglcfdphmaaaGreat

/- A quotient guessed from the tops of two numbers. -/
namespace Go.Proofs.YtbiiglcfdphmaaaGreat
open Go Go.RowKit Dig
set_option linter.unusedVariables false
theorem rnd_of {t n q : Int} (hn : 0 < n) (h1 : -n ≤ 2 * (t - q * n)) (h2 : 2 * (t - q * n) < n) : rnd t n = q := by
  unfold rnd
  rw [Int.fdiv_eq_ediv_of_nonneg _ (by omega)]
  have e : 2 * t + n = (2 * (t - q * n) + n) + q * (2 * n) := by grind
  rw [e, Int.add_mul_ediv_right _ _ (by omega), Int.ediv_eq_zero_of_lt (by omega) (by omega)]
  omega
theorem abs_mul_le {a b A B : Int} (ha : -A ≤ a ∧ a ≤ A) (hb : -B ≤ b ∧ b ≤ B) : -(A * B) ≤ a * b ∧ a * b ≤ A * B := by
  have hA : 0 ≤ A := by omega
  have hB : 0 ≤ B := by omega
  have h1 := Int.mul_nonneg (show 0 ≤ A - a by omega) (show 0 ≤ B + b by omega)
  have h2 := Int.mul_nonneg (show 0 ≤ A + a by omega) (show 0 ≤ B - b by omega)
  have h3 := Int.mul_nonneg (show 0 ≤ A - a by omega) (show 0 ≤ B - b by omega)
  have h4 := Int.mul_nonneg (show 0 ≤ A + a by omega) (show 0 ≤ B + b by omega)
  have e1 : (A - a) * (B + b) = A * B + A * b - a * B - a * b := by grind
  have e2 : (A + a) * (B - b) = A * B - A * b + a * B - a * b := by grind
  have e3 : (A - a) * (B - b) = A * B - A * b - a * B + a * b := by grind
  have e4 : (A + a) * (B + b) = A * B + A * b + a * B + a * b := by grind
  constructor <;> omega
theorem sq_lt {a A : Int} (hA : 0 ≤ A) (h : a * a ≤ A * A) : -A ≤ a ∧ a ≤ A := by
  have key : ∀ c : Int, 0 ≤ c → c * c ≤ A * A → c ≤ A := by
    intro c hc hcc
    rcases Int.lt_or_le A c with h1 | h1
    · have := Int.mul_self_lt_mul_self hA h1; omega
    · exact h1
  rcases Int.le_total 0 a with h0 | h0
  · have := key a h0 h; omega
  · have := key (-a) (by omega) (by rw [Int.neg_mul_neg]; exact h); omega
theorem msq (x : Int) : 0 ≤ x * x := by
  rcases Int.le_total 0 x with h | h
  · exact Int.mul_nonneg h h
  · exact Int.mul_nonneg_of_nonpos_of_nonpos h h
theorem norm_le {a b A : Int} (hA : 0 ≤ A) (h : gN a b ≤ A * A) : (-A ≤ a ∧ a ≤ A) ∧ (-A ≤ b ∧ b ≤ A) := by
  unfold gN at h
  have h1 := msq a
  have h2 := msq b
  exact ⟨sq_lt hA (by omega), sq_lt hA (by omega)⟩
theorem norm_ge {a b A : Int} (ha : -A ≤ a ∧ a ≤ A) (hb : -A ≤ b ∧ b ≤ A) : gN a b ≤ 2 * (A * A) := by
  have h1 := (abs_mul_le ha ha).2
  have h2 := (abs_mul_le hb hb).2
  unfold gN; omega
theorem guess {B a1 a2 b1 b2 c1 c2 d1 d2 m : Int} (hB : 0 < B) (hc1 : -B ≤ c1 ∧ c1 ≤ B) (hc2 : -B ≤ c2 ∧ c2 ≤ B) (hd1 : -B ≤ d1 ∧ d1 ≤ B) (hd2 : -B ≤ d2 ∧ d2 ≤ B) (hs1 : 0 ≤ b1 * d1) (hs2 : 0 ≤ b2 * d2)
    (hm : 340282366920938463463374607431768211456 ≤ m) (hb1 : -m ≤ b1 ∧ b1 ≤ m) (hb2 : -m ≤ b2 ∧ b2 ≤ m) (hmm : m * m ≤ gN b1 b2) (ha1 : -(18446744073709551616 * m) ≤ a1 ∧ a1 ≤ 18446744073709551616 * m) (ha2 : -(18446744073709551616 * m) ≤ a2 ∧ a2 ≤ 18446744073709551616 * m)
    {q1 q2 r1 r2 : Int} (hr1 : a1 = q1 * b1 - q2 * b2 + r1) (hr2 : a2 = q1 * b2 + q2 * b1 + r2) (hrr : gN r1 r2 + gN r1 r2 ≤ gN b1 b2)
    (hp1 : 2 * (r1 * b1 + r2 * b2) < gN b1 b2 - gN b1 b2 / 4294967296 ∧ -(gN b1 b2 - gN b1 b2 / 4294967296) < 2 * (r1 * b1 + r2 * b2))
    (hp2 : 2 * (r2 * b1 - r1 * b2) < gN b1 b2 - gN b1 b2 / 4294967296 ∧ -(gN b1 b2 - gN b1 b2 / 4294967296) < 2 * (r2 * b1 - r1 * b2)) :
    gQ1 (a1 * B + c1) (a2 * B + c2) (b1 * B + d1) (b2 * B + d2) = q1 ∧ gQ2 (a1 * B + c1) (a2 * B + c2) (b1 * B + d1) (b2 * B + d2) = q2 := by
  have hm0 : 0 ≤ m := by omega
  have hN2 : gN b1 b2 ≤ 2 * (m * m) := norm_ge hb1 hb2
  obtain ⟨R1, R2⟩ := norm_le (a := r1) (b := r2) hm0 (by omega)
  -- the quotient's parts
  have hq : gN q1 q2 ≤ 5444517870735015415413993718908291383296 := by
    have e1 : q1 * b1 - q2 * b2 = a1 - r1 := by omega
    have e2 : q1 * b2 + q2 * b1 = a2 - r2 := by omega
    have h1 := gN_mul q1 q2 b1 b2
    rw [e1, e2] at h1
    have h2 : gN (a1 - r1) (a2 - r2) ≤ 2 * ((36893488147419103232 * m) * (36893488147419103232 * m)) := norm_ge (by omega) (by omega)
    have h3 : (36893488147419103232 * m) * (36893488147419103232 * m) = 1361129467683753853853498429727072845824 * (m * m) := by grind
    rw [h3] at h2
    have h4 : 0 ≤ gN q1 q2 := by unfold gN; have := msq q1; have := msq q2; omega
    have h5 : gN q1 q2 * (m * m) ≤ gN q1 q2 * gN b1 b2 := Int.mul_le_mul_of_nonneg_left hmm h4
    have h6 : 0 < m * m := Int.mul_pos (by omega) (by omega)
    have h7 : gN q1 q2 * (m * m) ≤ 2722258935367507707706996859454145691648 * (m * m) := by omega
    have := Int.le_of_mul_le_mul_right h7 h6
    omega
  obtain ⟨Q1, Q2⟩ := norm_le (a := q1) (b := q2) (A := 73786976294838206464) (by decide) (by omega)
  -- what is left
  obtain ⟨e1, he1⟩ : ∃ e, e = c1 - (q1 * d1 - q2 * d2) := ⟨_, rfl⟩
  obtain ⟨e2, he2⟩ : ∃ e, e = c2 - (q1 * d2 + q2 * d1) := ⟨_, rfl⟩
  have k1 := abs_mul_le Q1 hd1
  have k2 := abs_mul_le Q2 hd2
  have k3 := abs_mul_le Q1 hd2
  have k4 := abs_mul_le Q2 hd1
  have E1 : -(295147905179352825856 * B) ≤ e1 ∧ e1 ≤ 295147905179352825856 * B := by omega
  have E2 : -(295147905179352825856 * B) ≤ e2 ∧ e2 ≤ 295147905179352825856 * B := by omega
  have hmB : B ≤ m * B := by
    have := Int.mul_le_mul_of_nonneg_right (show (1 : Int) ≤ m by omega) (Int.le_of_lt hB); omega
  have j1 := abs_mul_le hb1 (show -B ≤ B ∧ B ≤ B by omega)
  have j2 := abs_mul_le hb2 (show -B ≤ B ∧ B ≤ B by omega)
  have U : -(2 * (m * B)) ≤ b1 * B + d1 ∧ b1 * B + d1 ≤ 2 * (m * B) := by omega
  have V : -(2 * (m * B)) ≤ b2 * B + d2 ∧ b2 * B + d2 ≤ 2 * (m * B) := by omega
  have w1 := abs_mul_le E1 U
  have w2 := abs_mul_le E2 V
  have w3 := abs_mul_le E2 U
  have w4 := abs_mul_le E1 V
  have z1 := abs_mul_le R1 hd1
  have z2 := abs_mul_le R2 hd2
  have z3 := abs_mul_le R2 hd1
  have z4 := abs_mul_le R1 hd2
  have g0 : (295147905179352825856 * B) * (2 * (m * B)) = 590295810358705651712 * (m * (B * B)) := by grind
  rw [g0] at w1 w2 w3 w4
  -- r d, times B
  have y1 := abs_mul_le (a := r1 * d1 + r2 * d2) (b := B) (A := 2 * (m * B)) (B := B) (by omega) (by omega)
  have y2 := abs_mul_le (a := r2 * d1 - r1 * d2) (b := B) (A := 2 * (m * B)) (B := B) (by omega) (by omega)
  have g1 : 2 * (m * B) * B = 2 * (m * (B * B)) := by grind
  rw [g1] at y1 y2
  obtain ⟨S, hS⟩ : ∃ S, S = B * B := ⟨_, rfl⟩
  have hS0 : 0 < S := by rw [hS]; exact Int.mul_pos hB hB
  -- the norm below
  have hn : gN (b1 * B + d1) (b2 * B + d2) = gN b1 b2 * S + 2 * ((b1 * d1) * B) + 2 * ((b2 * d2) * B) + (d1 * d1 + d2 * d2) := by rw [hS]; unfold gN; grind
  have n1 := Int.mul_nonneg hs1 (Int.le_of_lt hB)
  have n2 := Int.mul_nonneg hs2 (Int.le_of_lt hB)
  have n3 := msq d1
  have n4 := msq d2
  have D1 : gT1 (a1 * B + c1) (a2 * B + c2) (b1 * B + d1) (b2 * B + d2) - q1 * gN (b1 * B + d1) (b2 * B + d2) = (r1 * b1 + r2 * b2) * S + (r1 * d1 + r2 * d2) * B + e1 * (b1 * B + d1) + e2 * (b2 * B + d2) := by
    rw [he1, he2, hS, hr1, hr2]; unfold gT1 gN; grind
  have D2 : gT2 (a1 * B + c1) (a2 * B + c2) (b1 * B + d1) (b2 * B + d2) - q2 * gN (b1 * B + d1) (b2 * B + d2) = (r2 * b1 - r1 * b2) * S + (r2 * d1 - r1 * d2) * B + e2 * (b1 * B + d1) - e1 * (b2 * B + d2) := by
    rw [he1, he2, hS, hr1, hr2]; unfold gT2 gN; grind
  rw [← hS] at w1 w2 w3 w4 y1 y2
  -- the far inside
  have hmS : 340282366920938463463374607431768211456 * (m * S) ≤ gN b1 b2 * S := by
    have h1 : 340282366920938463463374607431768211456 * m ≤ m * m := Int.mul_le_mul_of_nonneg_right hm hm0
    have h2 := Int.mul_le_mul_of_nonneg_right (Int.le_trans h1 hmm) (Int.le_of_lt hS0)
    have h3 : 340282366920938463463374607431768211456 * m * S = 340282366920938463463374607431768211456 * (m * S) := by grind
    omega
  have hmS0 : 0 < m * S := Int.mul_pos (by omega) hS0
  have far : ∀ p : Int, 2 * p < gN b1 b2 - gN b1 b2 / 4294967296 → -(gN b1 b2 - gN b1 b2 / 4294967296) < 2 * p → 4294967296 * (2 * (p * S)) ≤ 4294967295 * (gN b1 b2 * S) ∧ -(4294967295 * (gN b1 b2 * S)) ≤ 4294967296 * (2 * (p * S)) := by
    intro p h1 h2
    have h3 : 4294967296 * (2 * p) ≤ 4294967295 * gN b1 b2 := by omega
    have h4 : -(4294967295 * gN b1 b2) ≤ 4294967296 * (2 * p) := by omega
    have h5 := Int.mul_le_mul_of_nonneg_right h3 (Int.le_of_lt hS0)
    have h6 := Int.mul_le_mul_of_nonneg_right h4 (Int.le_of_lt hS0)
    have f1 : 4294967296 * (2 * p) * S = 4294967296 * (2 * (p * S)) := by grind
    have f2 : 4294967295 * gN b1 b2 * S = 4294967295 * (gN b1 b2 * S) := by grind
    have f3 : -(4294967295 * gN b1 b2) * S = -(4294967295 * (gN b1 b2 * S)) := by grind
    omega
  have F1 := far _ hp1.1 hp1.2
  have F2 := far _ hp2.1 hp2.2
  clear hp1 hp2 far
  generalize (r1 * b1 + r2 * b2) * S = p1 at *
  generalize (r2 * b1 - r1 * b2) * S = p2 at *
  generalize gN b1 b2 * S = NS at *
  generalize m * S = mS at *
  generalize (r1 * d1 + r2 * d2) * B = t1 at *
  generalize (r2 * d1 - r1 * d2) * B = t2 at *
  generalize e1 * (b1 * B + d1) = o1 at *
  generalize e2 * (b2 * B + d2) = o2 at *
  generalize e2 * (b1 * B + d1) = o3 at *
  generalize e1 * (b2 * B + d2) = o4 at *
  have hpos : 0 < gN (b1 * B + d1) (b2 * B + d2) := by omega
  refine ⟨rnd_of hpos ?_ ?_, rnd_of hpos ?_ ?_⟩
  · rw [D1]; omega
  · rw [D1]; omega
  · rw [D2]; omega
  · rw [D2]; omega
end Go.Proofs.YtbiiglcfdphmaaaGreat
