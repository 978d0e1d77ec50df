/- What GfracField asks besides. -/
import Derived.Test.YthlhekkcjficdaaGreatDoorX5ToX10
import Derived.Test.YthlhekkcjficdaaGreatDoorT1ToX1
import Derived.Test.YthlhekkcjficdaaGreatDoorShelf
import Derived.Lib.BitFns
import Derived.Lib.ItoaNum
import Derived.Lib.IndexLaws
import Derived.Test.YthlhekkcjficdaaGreatDoorQ5

namespace Go.Proofs.YthlhekkcjficdaaGreatDoor
open Go Go.RowKit Dig
set_option maxHeartbeats 4000000
set_option maxRecDepth 20000
set_option linter.unusedVariables false
section
variable {w : World} {va vb : Value} {x y u v p q s t : Int} {l m k n l2 m2 k2 n2 : Nat}
theorem rfsame_raw (ha : PC w va (rv x y).num (rv x y).den) (hq : PN w vb x l y m) (hl : l ≤ 44000000) (hm : m ≤ 44000000) (h0 : y ≠ 0) :
   Calls Tryz.prog 14 #[va, vb] w fun e w' => e = .returned (.bool true) ∧ Below w.heap.size w w' :=
 rfsame_any (by rw [(q_num h0).1, (q_num h0).2]; exact ha) hq hl hm h0
theorem r7Same_raw (ha : CC w va (rv x y).num (rv x y).den (rv u v).num (rv u v).den) (hq : CN w vb x l y m u k v n) (hl : l ≤ 44000000) (hm : m ≤ 44000000) (hk : k ≤ 44000000) (hn : n ≤ 44000000) (hy : y ≠ 0) (hv : v ≠ 0) :
   Calls Tryz.prog 88 #[va, vb] w fun e w' => e = .returned (.bool true) ∧ Below w.heap.size w w' := by
 have HY := hide (And.intro hy hv)
 clear hy hv
 obtain ⟨n_0a, o_0a, k_0a, c_0a, n_0b, o_0b, k_0b, c_0b, n_0c, o_0c, k_0c, c_0c, n_0d, o_0d, k_0d, c_0d, rfl, ha1, ha2, ha3, ha4⟩ := ha
 obtain ⟨n_1a, o_1a, k_1a, c_1a, n_1b, o_1b, k_1b, c_1b, n_1c, o_1c, k_1c, c_1c, n_1d, o_1d, k_1d, c_1d, rfl, hq1, hq2, hq3, hq4⟩ := hq
 go_enter Tryz.func88, Tryz.ntmps88
 have hs := St.nil w
 refine wp_seq_k fun K1 hK1 => rg [0, 1, 2] ?_
 refine sq ?_
 refine .al hs ?_; clear hs; intro p_b1 w_1 hs n1 kb_b1
 refine sq ?_
 refine .al hs ?_; clear hs; intro p_b2 w_2 hs n2 kb_b2
 refine sm ?_
 apply wpSq_end
 refine hK1 _ _ ?_
 refine wp_seq_k fun K2 hK2 => rg [0, 1, 2, 3, 4, 5, 6, 7, 8, 9, 10, 11, 12] ?_
 refine sr ?_
 refine sq ?_
 refine .r4 ⟨hs.g1.cell 0 rfl, hs.g1.cell 1 rfl, hs.g1.cell 2 rfl, hs.g1.cell 3 rfl⟩ ?_
 refine sr ?_
 refine sq ?_
 refine .r4 ⟨hs.g0.cell 0 rfl, hs.g0.cell 1 rfl, hs.g0.cell 2 rfl, hs.g0.cell 3 rfl⟩ ?_
 refine sq ?_
 intro K hK
 have k0_2 := (kb n1).b n2
 replace ha1 := ha1.k k0_2
 replace ha2 := ha2.k k0_2
 replace hq1 := hq1.k k0_2
 replace hq2 := hq2.k k0_2
 go_big_op
 go_fit (rfsame_raw (.mk' ha1 ha2) (.mk' hq1 hq2) hl hm HY.out.1)
 rintro e w_3 ⟨rfl, hb_3⟩
 replace hs := hs.bl hb_3
 refine hK _ _ rfl trivial ?_
 clear hK K
 refine sm ?_
 refine sr ?_
 refine sq ?_
 refine .r4 ⟨hs.g1.cell 4 rfl, hs.g1.cell 5 rfl, hs.g1.cell 6 rfl, hs.g1.cell 7 rfl⟩ ?_
 refine sr ?_
 refine sq ?_
 refine .r4 ⟨hs.g0.cell 4 rfl, hs.g0.cell 5 rfl, hs.g0.cell 6 rfl, hs.g0.cell 7 rfl⟩ ?_
 refine sq ?_
 intro K hK
 have k0_3 := k0_2.b hb_3
 replace ha3 := ha3.k k0_3
 replace ha4 := ha4.k k0_3
 replace hq3 := hq3.k k0_3
 replace hq4 := hq4.k k0_3
 go_big_op
 go_fit (rfsame_raw (.mk' ha3 ha4) (.mk' hq3 hq4) hk hn HY.out.2)
 rintro e w_4 ⟨rfl, hb_4⟩
 replace hs := hs.bl hb_4
 refine hK _ _ rfl trivial ?_
 clear hK K
 refine sr ?_
 refine sm ?_
 apply wpSq_end
 refine hK2 _ _ ?_
 refine wp_ret ?_
 try dsimp only [Exit.then, Exit.inBlock]
 refine bodyPost_ret (v := (.bool true)) (by simp [results, Tryz.results88, go_sem]) rfl ?_
 have hb := hs.b
 exact ⟨rfl, hb⟩
theorem is7_raw (ha : CC w va (rv x y).num (rv x y).den (rv u v).num (rv u v).den) (hq : CN w vb x l y m u k v n) (hl : l ≤ 44000000) (hm : m ≤ 44000000) (hk : k ≤ 44000000) (hn : n ≤ 44000000) (hy : y ≠ 0) (hv : v ≠ 0) :
   Calls Tryz.prog 35 #[va, vb] w fun e w' => e = .returned (.bool true) ∧ Below w.heap.size w w' := by
 have HY := hide (And.intro hy hv)
 clear hy hv
 obtain ⟨n_0a, o_0a, k_0a, c_0a, n_0b, o_0b, k_0b, c_0b, n_0c, o_0c, k_0c, c_0c, n_0d, o_0d, k_0d, c_0d, rfl, ha1, ha2, ha3, ha4⟩ := ha
 obtain ⟨n_1a, o_1a, k_1a, c_1a, n_1b, o_1b, k_1b, c_1b, n_1c, o_1c, k_1c, c_1c, n_1d, o_1d, k_1d, c_1d, rfl, hq1, hq2, hq3, hq4⟩ := hq
 go_enter Tryz.func35, Tryz.ntmps35
 have hs := St.nil w
 refine wp_seq_k fun K1 hK1 => rg [0, 1, 2] ?_
 refine sq ?_
 refine .al hs ?_; clear hs; intro p_b1 w_1 hs n1 kb_b1
 refine sq ?_
 refine .al hs ?_; clear hs; intro p_b2 w_2 hs n2 kb_b2
 refine sm ?_
 apply wpSq_end
 refine hK1 _ _ ?_
 refine wp_seq_k fun K2 hK2 => rg [0, 1, 2, 3] ?_
 refine sq ?_
 intro K hK
 have d0 : w_2.cell? ⟨p_b1, 0, none⟩ = some (.bool n_0a) := hs.g1.cell 0 rfl
 have d1 : w_2.cell? ⟨p_b1, 1, none⟩ = some (.slice o_0a k_0a c_0a) := hs.g1.cell 1 rfl
 have d2 : w_2.cell? ⟨p_b1, 2, none⟩ = some (.bool n_0b) := hs.g1.cell 2 rfl
 have d3 : w_2.cell? ⟨p_b1, 3, none⟩ = some (.slice o_0b k_0b c_0b) := hs.g1.cell 3 rfl
 have d4 : w_2.cell? ⟨p_b1, 4, none⟩ = some (.bool n_0c) := hs.g1.cell 4 rfl
 have d5 : w_2.cell? ⟨p_b1, 5, none⟩ = some (.slice o_0c k_0c c_0c) := hs.g1.cell 5 rfl
 have d6 : w_2.cell? ⟨p_b1, 6, none⟩ = some (.bool n_0d) := hs.g1.cell 6 rfl
 have d7 : w_2.cell? ⟨p_b1, 7, none⟩ = some (.slice o_0d k_0d c_0d) := hs.g1.cell 7 rfl
 go_big_op; refine hK _ _ rfl trivial ?_; clear hK K d0 d1 d2 d3 d4 d5 d6 d7
 refine sq ?_
 intro K hK
 have d0 : w_2.cell? ⟨p_b2, 0, none⟩ = some (.bool n_1a) := hs.g0.cell 0 rfl
 have d1 : w_2.cell? ⟨p_b2, 1, none⟩ = some (.slice o_1a k_1a c_1a) := hs.g0.cell 1 rfl
 have d2 : w_2.cell? ⟨p_b2, 2, none⟩ = some (.bool n_1b) := hs.g0.cell 2 rfl
 have d3 : w_2.cell? ⟨p_b2, 3, none⟩ = some (.slice o_1b k_1b c_1b) := hs.g0.cell 3 rfl
 have d4 : w_2.cell? ⟨p_b2, 4, none⟩ = some (.bool n_1c) := hs.g0.cell 4 rfl
 have d5 : w_2.cell? ⟨p_b2, 5, none⟩ = some (.slice o_1c k_1c c_1c) := hs.g0.cell 5 rfl
 have d6 : w_2.cell? ⟨p_b2, 6, none⟩ = some (.bool n_1d) := hs.g0.cell 6 rfl
 have d7 : w_2.cell? ⟨p_b2, 7, none⟩ = some (.slice o_1d k_1d c_1d) := hs.g0.cell 7 rfl
 go_big_op; refine hK _ _ rfl trivial ?_; clear hK K d0 d1 d2 d3 d4 d5 d6 d7
 refine sq ?_
 intro K hK
 have k0_2 := (kb n1).b n2
 replace ha1 := ha1.k k0_2
 replace ha2 := ha2.k k0_2
 replace ha3 := ha3.k k0_2
 replace ha4 := ha4.k k0_2
 replace hq1 := hq1.k k0_2
 replace hq2 := hq2.k k0_2
 replace hq3 := hq3.k k0_2
 replace hq4 := hq4.k k0_2
 go_big_op
 go_fit (r7Same_raw (.mk' ha1 ha2 ha3 ha4) (.mk' hq1 hq2 hq3 hq4) hl hm hk hn HY.out.1 HY.out.2)
 rintro e w_3 ⟨rfl, hb_3⟩
 replace hs := hs.bl hb_3
 refine hK _ _ rfl trivial ?_
 clear hK K
 refine sm ?_
 apply wpSq_end
 refine hK2 _ _ ?_
 refine wp_ret ?_
 try dsimp only [Exit.then, Exit.inBlock]
 refine bodyPost_ret (v := (.bool true)) (by simp [results, Tryz.results35, go_sem]) rfl ?_
 have hb := hs.b
 exact ⟨rfl, hb⟩
end
end Go.Proofs.YthlhekkcjficdaaGreatDoor

/- frac: powers by squares. -/
namespace Go.Proofs.YthlhekkcjficdaaGreatDoor
open Go Go.RowKit Dig
set_option linter.unusedVariables false
theorem i64_and_one (n : Int) : bits .and .i64 n 1 = n % 2 := by
 have h1 : (BitVec.ofInt 64 1).toNat = 2 ^ 1 - 1 := by decide
 have key : (BitVec.ofInt 64 n &&& BitVec.ofInt 64 1).toNat = (n % ((2 ^ 64 : Nat) : Int)).toNat % 2 ^ 1 := by
   rw [BitVec.toNat_and, BitVec.toNat_ofInt, h1, Nat.and_two_pow_sub_one_eq_mod]
 show IntKind.i64.wrap ((BitVec.ofInt 64 n &&& BitVec.ofInt 64 1).toNat : Nat) = n % 2
 rw [key, IntKind.wrap_i64]
 omega
theorem bitLen_div (N : Nat) (h : N < 18446744073709551616) : N / 2 ^ Lib.bitLen N = 0 ∧ Lib.bitLen N ≤ 64 := by
 by_cases h0 : N = 0
 · subst h0; decide
 · have hb := Lib.bitLenAux_bounds 64 N (by omega) h0
   have hL : Lib.bitLen N = Lib.bitLenAux 64 N := rfl
   rw [← hL] at hb
   refine ⟨Nat.div_eq_of_lt hb.2.2, ?_⟩
   have : 2 ^ (Lib.bitLen N - 1) < 2 ^ 64 := by omega
   have := (Nat.pow_lt_pow_iff_right (by decide : 1 < 2)).1 this
   omega
theorem ipow_bit (x : Int) (n i : Nat) : (x ^ (n / 2 ^ (i + 1)) * x ^ (n / 2 ^ (i + 1)) * if n / 2 ^ i % 2 = 1 then x else 1) = x ^ (n / 2 ^ i) ∧ 2 * (n / 2 ^ (i + 1)) ≤ n / 2 ^ i := by
 have e : n / 2 ^ (i + 1) = n / 2 ^ i / 2 := by rw [Nat.pow_succ, Nat.div_div_eq_div_mul]
 rw [e, ← Int.pow_add]
 generalize n / 2 ^ i = z
 refine ⟨?_, by omega⟩
 by_cases h : z % 2 = 1
 · rw [if_pos h, ← Int.pow_succ]; congr 1; omega
 · rw [if_neg h, Int.mul_one]; congr 1; omega
theorem ipow_twice (x : Int) (k : Nat) : x ^ k * x ^ k = x ^ (2 * k) := by rw [← Int.pow_add]; congr 1; omega
set_option maxHeartbeats 4000000 in
set_option maxRecDepth 20000 in
theorem qpow_any {w : World} {va : Value} {x : Int} {l M : Nat} (N : Nat) (ha : ZN w va x l) (hl : l ≤ 10000000) (hN : N ≤ 9223372036854775807) (hM : M ≤ 10000000) (hlen : ∀ m, m ≤ N → (dig (x ^ m).natAbs).length ≤ M) :
   Calls Tryz.prog 168 #[va, .int .i64 N] w fun e w' => ∃ r, e = .returned r ∧ ZC w' r (x ^ N) ∧ Below w.heap.size w w' := by
 have HL := hide hlen
 obtain ⟨hd, hLe⟩ := bitLen_div N (by omega)
 have HD := hide hd
 clear hlen hd
 obtain ⟨n_0, o_0, k_0, c_0, rfl⟩ := ha.open2
 go_enter Tryz.func168, Tryz.ntmps168
 have hs := St.nil w
 refine wp_seq_k fun K1 hK1 => rg [0, 1] ?_
 refine sq ?_
 refine .al hs ?_; clear hs; intro p_b1 w_1 hs n1 kb_b1
 refine sq ?_
 refine .al hs ?_; clear hs; intro p_b2 w_2 hs n2 kb_b2
 apply wpSq_end
 refine hK1 _ _ ?_
 refine wp_seq_k fun K2 hK2 => rg [0, 1, 2] ?_
 refine sq ?_
 intro K hK
 go_big_op
 go_fit (from_any (1 : Int) _ (by decide) (by decide))
 rintro e w_3 ⟨v_g1, rfl, g1, hb_3⟩
 replace hs := hs.bl hb_3
 replace g1 := g1.rd
 obtain ⟨n_g1, o_g1, k_g1, c_g1, rfl⟩ := g1.open2
 refine hK _ _ rfl trivial ?_
 clear hK K
 refine sq ?_
 refine .al hs ?_; clear hs; intro p_b3 w_4 hs n4 kb_b3
 refine sq ?_
 refine .s2 hs.g0 (fun _ => hs.u0 kb_b3) ?_; clear hs; intro w_5 hs hd5 ho5
 apply wpSq_end
 refine hK2 _ _ ?_
 refine wp_seq_k ?_
 intro K3 hK3
 refine wp_seq_k fun K4 hK4 => rg [0, 1, 2, 3, 4] ?_
 refine sm ?_
 refine sr ?_
 refine sq ?_
 intro K hK
 go_big_op
 go_fit (Tryz.bits_Len (N : Int) _ (by omega) (by omega))
 rintro e w_6 ⟨rfl, e_6⟩
 (first | rw [e_6] | rw [← e_6]); clear e_6 w_6
 rw [Int.toNat_natCast]
 refine hK _ _ rfl trivial ?_
 clear hK K
 refine sr ?_
 refine sm ?_
 apply wpSq_end
 refine hK4 _ _ ?_
 refine wp_block ?_
 generalize Lib.bitLen N = L at *
 have x_b1 := hs.g2
 have x_b2 := hs.g1
 have x_b3 := hs.g0
 have k0_5 := ((((kb n1).b n2).b hb_3).b n4).o hd5 ho5
 replace ha := ha.k k0_5
 have k3_5 := (kb n4).o hd5 ho5
 replace g1 := g1.k k3_5
 have hb := hs.b
 have hd7 := hs.2.1
 go_loopg [6] L (fun k s6 wr => s6 = .int .i64 ((k : Int) - 1) ∧ k ≤ L ∧ ∃ sb so sk sc, Bs wr p_b1 #[.bool n_0, .slice o_0 k_0 c_0] 24 ∧ Bs wr p_b2 #[.bool false, .slice none 0 0] 24 ∧ Bs wr p_b3 #[.bool sb, .slice so sk sc] 24 ∧ ZN wr (.agg #[.bool n_0, .slice o_0 k_0 c_0]) x l ∧ ZC wr (.agg #[.bool sb, .slice so sk sc]) (x ^ (N / 2 ^ k)) ∧ Below w.heap.size w wr)
 case atStart => exact ⟨rfl, Nat.le_refl _, _, _, _, _, x_b1, x_b2, x_b3, ha, by rw [HD.out, Int.pow_zero]; exact g1, hb⟩
 case round =>
 clear ha g1 x_b1 x_b2 x_b3 hb hs
 obtain ⟨rfl, hk, sb, so, sk, sc, x_b1, x_b2, x_b3, ha, g, hb⟩ := hrel
 cases gk with
 | zero =>
   have Lg := hide (g.lenOf (HL.out _ (Nat.div_le_self _ _)))
   have e0 : N / 2 ^ 0 = N := by rw [Nat.pow_zero, Nat.div_one]
   rw [e0] at g
   have hs := St.re (.c x_b3 (.c x_b2 (.c x_b1 .n))) hd7 (List.Sublist.refl _) hb
   refine wp_seq_k ?_
   intro K5 hK5
   refine wp_seq_k fun K6 hK6 => rg [0, 1] ?_
   refine sm ?_
   refine sr ?_
   apply wpSq_end
   refine hK6 _ _ ?_
   refine cf ?_
   refine wp_exit ?_
   refine hK3 _ _ ?_
   refine wp_seq_k fun K7 hK7 => rg [0, 1] ?_
   refine sq ?_
   refine .r2 hs.g0.f2 ?_
   refine sq ?_
   refine .s2 hs.g1 (fun _ => hs.u1 kb_b2) ?_; clear hs; intro w_8 hs hd8 ho8
   clear hb x_b1 x_b2 x_b3
   apply wpSq_end
   refine hK7 _ _ ?_
   refine wp_ret ?_
   try dsimp only [Exit.then, Exit.inBlock]
   obtain ⟨r0_0, r0_1⟩ := hs.g1.f2
   refine bodyPost_ret (v := (.agg #[.bool sb, .slice so sk sc])) (by simp [results, Tryz.results168, go_sem, r0_0, r0_1]) rfl ?_
   have k0_1 := ko hd8 ho8
   replace g := g.k k0_1
   exact ⟨_, rfl, g, hs.b⟩
 | succ k =>
   have hpb := (ipow_bit x N k).1
   have hle := (ipow_bit x N k).2
   have Lg := hide (g.lenOf (HL.out _ (Nat.div_le_self _ _)))
   have hd2 := Nat.div_le_self N (2 ^ k)
   have HL2 := hide (show (dig (x ^ (N / 2 ^ (k + 1)) * x ^ (N / 2 ^ (k + 1))).natAbs).length ≤ M by rw [ipow_twice]; exact HL.out _ (Nat.le_trans hle hd2))
   have HP := hide hpb
   rw [show (((k + 1 : Nat) : Int) - 1) = (k : Int) from by omega]
   have hk64 : k < 64 := by omega
   clear hpb hle hd2
   have hs := St.re (.c x_b3 (.c x_b2 (.c x_b1 .n))) hd7 (List.Sublist.refl _) hb
   refine wp_seq_k ?_
   intro K5 hK5
   refine wp_seq_k fun K6 hK6 => rg [0, 1] ?_
   refine sm ?_
   refine sr ?_
   apply wpSq_end
   refine hK6 _ _ ?_
   refine ct ?_
   refine wp_skip ?_
   refine hK5 _ _ ?_
   refine wp_seq_k ?_
   intro K7 hK7
   refine wp_block ?_
   refine wp_seq_k fun K8 hK8 => rg [0, 1, 2, 3] ?_
   refine sq ?_
   refine .r2 hs.g0.f2 ?_
   refine sq ?_
   refine .r2 hs.g0.f2 ?_
   refine sq ?_
   intro K hK
   go_big_op
   go_fit (zmul_any (g.zn Lg.out) (g.zn Lg.out) (by omega) (by omega) )
   rintro e w_8 ⟨v_g2, rfl, g2, hb_8⟩
   clear hb x_b1 x_b2 x_b3
   replace hs := hs.bl hb_8
   replace g2 := g2.rd
   obtain ⟨n_g2, o_g2, k_g2, c_g2, rfl⟩ := g2.open2
   have Lg2 := hide (g2.lenOf (zlen_mul (Lg.out) (Lg.out)))
   refine hK _ _ rfl trivial ?_
   clear hK K
   refine sq ?_
   refine .s2 hs.g0 (fun _ => hs.u0 kb_b3) ?_; clear hs; intro w_9 hs hd9 ho9
   apply wpSq_end
   refine hK8 _ _ ?_
   refine wp_seq_k fun K9 hK9 => rg [0, 1, 2, 3, 4] ?_
   refine sm ?_
   refine sm ?_
   refine sr ?_
   refine sr ?_
   refine sr ?_
   apply wpSq_end
   refine hK9 _ _ ?_
   have Lg2 := hide (g2.lenOf (HL2.out))
   by_cases hbit : N / 2 ^ k % 2 = 1
   · have HB := hide (show ((N : Int) / 2 ^ k % 2 == 1) = true by
       have : (N : Int) / 2 ^ k % 2 = 1 := by exact_mod_cast hbit
       rw [this]; rfl)
     rw [if_pos hbit] at HP
     clear hbit
     refine wp_cond_true (congrArg Value.bool (show _ = true from (by rw [i64_and_one]; exact HB.out))) ?_
     refine rg [0, 1, 2, 3] ?_
     refine sq ?_
     refine .r2 hs.g0.f2 ?_
     refine sq ?_
     refine .r2 hs.g2.f2 ?_
     refine sq ?_
     intro K hK
     have k1_2 := ko hd9 ho9
     replace g2 := g2.k k1_2
     have k0_2 := (kb hb_8).o hd9 ho9
     replace ha := ha.k k0_2
     go_big_op
     go_fit (zmul_any (g2.zn Lg2.out) ha (by omega) (by omega) )
     rintro e w_10 ⟨v_g3, rfl, g3, hb_10⟩
     replace hs := hs.bl hb_10
     replace g3 := g3.rd
     obtain ⟨n_g3, o_g3, k_g3, c_g3, rfl⟩ := g3.open2
     rw [HP.out] at g3
     refine hK _ _ rfl trivial ?_
     clear hK K
     refine sq ?_
     refine .s2 hs.g0 (fun _ => hs.u0 kb_b3) ?_; clear hs; intro w_11 hs hd11 ho11
     apply wpSq_end
     refine hK7 _ _ ?_
     refine rg [0, 1, 2] ?_
     refine sm ?_
     refine sr ?_
     refine sm ?_
     apply wpSq_end
     have x_b1 := hs.g2
     have x_b2 := hs.g1
     have x_b3 := hs.g0
     have k2_4 := (kb hb_10).o hd11 ho11
     replace ha := ha.k k2_4
     have k3_4 := ko hd11 ho11
     replace g3 := g3.k k3_4
     have hb := hs.b
     refine ‹∀ (a' : Act) (w' : World), Handed _ _ a' w' → _› _ _ ?_
     go_roundg k
     case rel => exact ⟨rfl, by omega, _, _, _, _, x_b1, x_b2, x_b3, ha, g3, hb⟩
     case measure => omega
   · have HB := hide (show ((N : Int) / 2 ^ k % 2 == 1) = false by
       have : (N : Int) / 2 ^ k % 2 = 0 := by have h2 : N / 2 ^ k % 2 = 0 := by omega
                                              exact_mod_cast h2
       rw [this]; rfl)
     rw [if_neg hbit, Int.mul_one] at HP
     rw [HP.out] at g2
     clear hbit
     refine wp_cond_false (congrArg Value.bool (show _ = false from (by rw [i64_and_one]; exact HB.out))) ?_
     refine wp_skip ?_
     refine hK7 _ _ ?_
     refine rg [0, 1, 2] ?_
     refine sm ?_
     refine sr ?_
     refine sm ?_
     apply wpSq_end
     have x_b1 := hs.g2
     have x_b2 := hs.g1
     have x_b3 := hs.g0
     have k0_2 := (kb hb_8).o hd9 ho9
     replace ha := ha.k k0_2
     have k1_2 := ko hd9 ho9
     replace g2 := g2.k k1_2
     have hb := hs.b
     refine ‹∀ (a' : Act) (w' : World), Handed _ _ a' w' → _› _ _ ?_
     go_roundg k
     case rel => exact ⟨rfl, by omega, _, _, _, _, x_b1, x_b2, x_b3, ha, g2, hb⟩
     case measure => omega
end Go.Proofs.YthlhekkcjficdaaGreatDoor

/- Texts with a sign, in one piece: what is a number, and which. -/
namespace Go.Proofs.YthlhekkcjficdaaGreatDoor
open Go Go.RowKit Dig
set_option linter.unusedVariables false
end Go.Proofs.YthlhekkcjficdaaGreatDoor

/- frac.Parse, and the reference's. -/
namespace Go.Proofs.YthlhekkcjficdaaGreatDoor
open Go Go.RowKit Dig
set_option linter.unusedVariables false
end Go.Proofs.YthlhekkcjficdaaGreatDoor

/- frac.Parse of two parts; the reference's Parse. -/
namespace Go.Proofs.YthlhekkcjficdaaGreatDoor
open Go Go.RowKit Dig
set_option linter.unusedVariables false
section
variable {s : ByteArray} {k : Nat}
end
/-! the reference -/
section
variable {s : ByteArray} {k : Nat}
set_option maxHeartbeats 4000000 in
set_option maxRecDepth 20000 in
theorem rZ_any {w : World} {va : Value} {x : Int} {l : Nat} (ha : ZN w va x l) (hl : l ≤ 10000000) :
   Calls Tryz.prog 90 #[va] w fun e w' => ∃ r, e = .returned r ∧ PC w' r x 1 ∧ Below w.heap.size w w' := by
 obtain ⟨n_0, o_0, k_0, c_0, rfl⟩ := ha.open2
 go_enter Tryz.func90, Tryz.ntmps90
 have hs := St.nil w
 refine wp_seq_k fun K1 hK1 => rg [0, 1] ?_
 refine sq ?_
 refine .al hs ?_; clear hs; intro p_b1 w_1 hs n1 kb_b1
 refine sq ?_
 refine .al hs ?_; clear hs; intro p_b2 w_2 hs n2 kb_b2
 apply wpSq_end
 refine hK1 _ _ ?_
 refine wp_seq_k fun K2 hK2 => rg [0, 1, 2, 3, 4] ?_
 refine sq ?_
 refine .r2 hs.g1.f2 ?_
 refine sq ?_
 intro K hK
 have k0_2 := (kb n1).b n2
 replace ha := ha.k k0_2
 go_big_op
 go_fit (rnorm_any ha (by omega) )
 rintro e w_3 ⟨v_g1, rfl, g1, hb_3⟩
 replace hs := hs.bl hb_3
 replace g1 := g1.rd
 obtain ⟨n_g1, o_g1, k_g1, c_g1, rfl⟩ := g1.open2
 refine hK _ _ rfl trivial ?_
 clear hK K
 refine sq ?_
 intro K hK
 go_big_op
 go_fit (ri_any 1 _ (by decide) (by decide))
 rintro e w_4 ⟨v_g2, rfl, g2, hb_4⟩
 replace hs := hs.bl hb_4
 replace g2 := g2.rd
 obtain ⟨n_g2, o_g2, k_g2, c_g2, rfl⟩ := g2.open2
 refine hK _ _ rfl trivial ?_
 clear hK K
 refine sr ?_
 refine sq ?_
 refine .s4 hs.g0 (fun _ => hs.u0 kb_b2) ?_; clear hs; intro w_5 hs hd5 ho5
 apply wpSq_end
 refine hK2 _ _ ?_
 refine wp_ret ?_
 try dsimp only [Exit.then, Exit.inBlock]
 obtain ⟨r0_0, r0_1, r0_2, r0_3⟩ := hs.g0.f4
 refine bodyPost_ret (v := (.agg #[.bool n_g1, .slice o_g1 k_g1 c_g1, .bool n_g2, .slice o_g2 k_g2 c_g2])) (by simp [results, Tryz.results90, go_sem, r0_0, r0_1, r0_2, r0_3]) rfl ?_
 have k3_5 := (kb hb_4).o hd5 ho5
 replace g1 := g1.k k3_5
 have k4_5 := ko hd5 ho5
 replace g2 := g2.k k4_5
 exact ⟨_, rfl, .mk' g1 g2, hs.b⟩
end
end Go.Proofs.YthlhekkcjficdaaGreatDoor

/- Texts of rationals by the reference; what both Parses answer. -/
namespace Go.Proofs.YthlhekkcjficdaaGreatDoor
open Go Go.RowKit Dig
set_option linter.unusedVariables false
section
variable {w : World} {va vb : Value} {x y u v : Int} {l m k n : Nat}
end
end Go.Proofs.YthlhekkcjficdaaGreatDoor
