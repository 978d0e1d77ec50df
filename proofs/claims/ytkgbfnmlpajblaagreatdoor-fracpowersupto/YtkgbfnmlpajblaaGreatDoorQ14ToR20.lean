/- frac.Parse of two parts; the reference's Parse. -/
import Derived.Test.YtkgbfnmlpajblaaGreatDoorT1ToQ10
import Derived.Test.YtkgbfnmlpajblaaGreatDoorQ5
import Derived.Test.YtkgbfnmlpajblaaGreatDoorShelf
import Derived.Lib.BitFns
import Derived.Lib.ItoaNum
import Derived.Test.YtkgbfnmlpajblaaGreatDoorZ1
import Derived.Test.YtkgbfnmlpajblaaGreatDoorR8
import Derived.Test.YtkgbfnmlpajblaaGreatDoorR17
import Derived.Deep.LoopGhost

namespace Go.Proofs.YtkgbfnmlpajblaaGreatDoor
open Go Go.RowKit Dig
set_option linter.unusedVariables false

section
variable {s : ByteArray} {k : Nat}
end
/-! the reference -/
section
variable {s : ByteArray} {k : Nat}
end
end Go.Proofs.YtkgbfnmlpajblaaGreatDoor

/- Texts of rationals by the reference; what both Parses answer. -/
namespace Go.Proofs.YtkgbfnmlpajblaaGreatDoor
open Go Go.RowKit Dig
set_option linter.unusedVariables false

section
variable {w : World} {va vb : Value} {x y u v : Int} {l m k n : Nat}
end

end Go.Proofs.YtkgbfnmlpajblaaGreatDoor

/- frac: powers by squares. -/
namespace Go.Proofs.YtkgbfnmlpajblaaGreatDoor
open Go Go.RowKit Dig
set_option linter.unusedVariables false

theorem i64_and_one (n : Int) : bits .and .i64 n 1 = n % 2 := by
  have h1 : (BitVec.ofInt 64 1).toNat = 2 ^ 1 - 1 := by decide
  have key : (BitVec.ofInt 64 n &&& BitVec.ofInt 64 1).toNat = (n % ((2 ^ 64 : Nat) : Int)).toNat % 2 ^ 1 := by
    rw [BitVec.toNat_and, BitVec.toNat_ofInt, h1, Nat.and_two_pow_sub_one_eq_mod]
  show IntKind.i64.wrap ((BitVec.ofInt 64 n &&& BitVec.ofInt 64 1).toNat : Nat) = n % 2
  rw [key, IntKind.wrap_i64]
  omega
theorem bitLen_div (N : Nat) (h : N < 18446744073709551616) : N / 2 ^ Lib.bitLen N = 0 ∧ Lib.bitLen N ≤ 64 := by
  by_cases h0 : N = 0
  · subst h0; decide
  · have hb := Lib.bitLenAux_bounds 64 N (by omega) h0
    have hL : Lib.bitLen N = Lib.bitLenAux 64 N := rfl
    rw [← hL] at hb
    refine ⟨Nat.div_eq_of_lt hb.2.2, ?_⟩
    have : 2 ^ (Lib.bitLen N - 1) < 2 ^ 64 := by omega
    have := (Nat.pow_lt_pow_iff_right (by decide : 1 < 2)).1 this
    omega
/-- One bit more of the exponent. -/
theorem ipow_bit (x : Int) (n i : Nat) : (x ^ (n / 2 ^ (i + 1)) * x ^ (n / 2 ^ (i + 1)) * if n / 2 ^ i % 2 = 1 then x else 1) = x ^ (n / 2 ^ i) ∧ 2 * (n / 2 ^ (i + 1)) ≤ n / 2 ^ i := by
  have e : n / 2 ^ (i + 1) = n / 2 ^ i / 2 := by rw [Nat.pow_succ, Nat.div_div_eq_div_mul]
  rw [e, ← Int.pow_add]
  generalize n / 2 ^ i = z
  refine ⟨?_, by omega⟩
  by_cases h : z % 2 = 1
  · rw [if_pos h, ← Int.pow_succ]; congr 1; omega
  · rw [if_neg h, Int.mul_one]; congr 1; omega
theorem ipow_twice (x : Int) (k : Nat) : x ^ k * x ^ k = x ^ (2 * k) := by rw [← Int.pow_add]; congr 1; omega
set_option maxHeartbeats 4000000 in
set_option maxRecDepth 20000 in
theorem qpow_any {w : World} {va : Value} {x : Int} {l M : Nat} (N : Nat) (ha : ZN w va x l) (hl : l ≤ 10000000) (hN : N ≤ 9223372036854775807) (hM : M ≤ 10000000) (hlen : ∀ m, m ≤ N → (dig (x ^ m).natAbs).length ≤ M) :
    Calls Tryz.prog 73 #[va, .int .i64 N] w fun e w' => ∃ r, e = .returned r ∧ ZC w' r (x ^ N) ∧ Below w.heap.size w w' := by
  have HL := hide hlen
  obtain ⟨hd, hLe⟩ := bitLen_div N (by omega)
  have HD := hide hd
  clear hlen hd
  obtain ⟨n_0, o_0, k_0, c_0, rfl⟩ := ha.open2
  go_enter Tryz.func73, Tryz.ntmps73
  have hb := Below.refl w.heap.size w
  refine wp_seq_k ?_
  intro K1 hK1
  refine wp_region_sq [0, 1] (by kernel_rfl) ?_
  refine wpSq_call rfl (by kernel_rfl) fun K hK => ?_
  go_big_op
  obtain ⟨p_b1, w_1, eP, eW, x_b1, hn, kb_b1⟩ := newBox w #[.bool n_0, .slice o_0 k_0 c_0] 24 hb.size
  rw [eW, eP]
  clear eW eP
  replace ha := ha.bl hn; replace hb := hb.trans (hn.mono hb.size)
  refine hK _ _ rfl ?_; clear hK K hn
  refine wpSq_call rfl (by kernel_rfl) fun K hK => ?_
  go_big_op
  have lt_b1 := x_b1.lt
  obtain ⟨p_b2, w_2, eP, eW, x_b2, hn, kb_b2⟩ := newBox w_1 #[.bool false, .slice none 0 0] 24 hb.size
  have ne_b1_b2 : Hid (p_b1 ≠ p_b2) := Nat.ne_of_lt (eP ▸ lt_b1)
  rw [eW, eP]
  clear eW eP lt_b1
  replace ha := ha.bl hn; replace x_b1 := x_b1.bl hn; replace hb := hb.trans (hn.mono hb.size)
  refine hK _ _ rfl ?_; clear hK K hn
  apply wpSq_end
  refine hK1 _ _ ?_
  refine wp_seq_k ?_
  intro K2 hK2
  refine wp_region_sq [0, 1, 2] (by kernel_rfl) ?_
  refine wpSq_call rfl (by kernel_rfl) fun K hK => ?_
  go_big_op
  go_fit (from_any (1 : Int) _ (by decide) (by decide))
  rintro e w_3 ⟨v_g1, rfl, g1, hb_3⟩
  replace ha := ha.bl hb_3; replace x_b1 := x_b1.bl hb_3; replace x_b2 := x_b2.bl hb_3; replace hb := hb.trans (hb_3.mono hb.size)
  replace g1 := g1.rd
  obtain ⟨n_g1, o_g1, k_g1, c_g1, rfl⟩ := g1.open2
  have Lg1 := hide (g1.lenOf (zlen_i (1 : Int) (by decide) (by decide)))
  refine hK _ _ rfl ?_
  clear hK K hb_3
  refine wpSq_call rfl (by kernel_rfl) fun K hK => ?_
  go_big_op
  have lt_b1 := x_b1.lt
  have lt_b2 := x_b2.lt
  obtain ⟨p_b3, w_4, eP, eW, x_b3, hn, kb_b3⟩ := newBox w_3 #[.bool false, .slice none 0 0] 24 hb.size
  have ne_b1_b3 : Hid (p_b1 ≠ p_b3) := Nat.ne_of_lt (eP ▸ lt_b1)
  have ne_b2_b3 : Hid (p_b2 ≠ p_b3) := Nat.ne_of_lt (eP ▸ lt_b2)
  rw [eW, eP]
  clear eW eP lt_b1 lt_b2
  replace ha := ha.bl hn; replace x_b1 := x_b1.bl hn; replace x_b2 := x_b2.bl hn; replace g1 := g1.bl hn; replace hb := hb.trans (hn.mono hb.size)
  refine hK _ _ rfl ?_; clear hK K hn
  refine wpSq_call rfl (by kernel_rfl) fun K hK => ?_
  obtain ⟨d0, d1⟩ := x_b3.f2
  have f0 := x_b3.free 0; have f1 := x_b3.free 1
  go_big_op
  have hnd := x_b3.nod rfl rfl
  obtain ⟨w_5, eW, x_b3', ho⟩ : ∃ w', ((w_4.setCell ⟨p_b3, 0, none⟩ (.bool n_g1)).setCell ⟨p_b3, 1, none⟩ (.slice o_g1 k_g1 c_g1)) = w' ∧ Bs w' p_b3 #[.bool n_g1, .slice o_g1 k_g1 c_g1] 24 ∧ Only p_b3 w_4 w' := x_b3.setN [(0, .bool n_g1), (1, .slice o_g1 k_g1 c_g1)]
  rw [eW]; clear eW d0 d1 f0 f1 x_b3
  have x_b3 := x_b3'; clear x_b3'
  replace ha := ha.fr hnd ho; replace x_b1 := x_b1.frame ho ne_b1_b3; replace x_b2 := x_b2.frame ho ne_b2_b3; replace g1 := g1.fr hnd ho; replace hb := belowOnly hb ho kb_b3
  refine hK _ _ rfl ?_; clear hK K ho hnd
  apply wpSq_end
  refine hK2 _ _ ?_
  refine wp_seq_k ?_
  intro K3 hK3
  refine wp_seq_k ?_
  intro K4 hK4
  refine wp_region_sq [0, 1, 2, 3, 4] (by kernel_rfl) ?_
  refine wpSq_call rfl (by kernel_rfl) fun K hK => ?_
  go_big_move; refine hK _ _ rfl ?_; clear hK K
  refine wpSq_call rfl (by kernel_rfl) fun K hK => ?_
  go_big_op; refine hK _ _ rfl ?_; clear hK K
  refine wpSq_call rfl (by kernel_rfl) fun K hK => ?_
  go_big_op
  go_fit (Tryz.bits_Len (N : Int) _ (by omega) (by omega))
  rintro e w_6 ⟨rfl, e_6⟩
  (first | rw [e_6] | rw [← e_6]); clear e_6 w_6
  rw [Int.toNat_natCast]
  refine hK _ _ rfl ?_
  clear hK K
  refine wpSq_call rfl (by kernel_rfl) fun K hK => ?_
  go_big_op; refine hK _ _ rfl ?_; clear hK K
  refine wpSq_call rfl (by kernel_rfl) fun K hK => ?_
  go_big_move; refine hK _ _ rfl ?_; clear hK K
  apply wpSq_end
  refine hK4 _ _ ?_
  refine wp_block ?_
  generalize Lib.bitLen N = L at *
  go_loopg [6] L (fun k s6 wr => s6 = .int .i64 ((k : Int) - 1) ∧ k ≤ L ∧ ∃ sb so sk sc, Bs wr p_b1 #[.bool n_0, .slice o_0 k_0 c_0] 24 ∧ Bs wr p_b2 #[.bool false, .slice none 0 0] 24 ∧ Bs wr p_b3 #[.bool sb, .slice so sk sc] 24 ∧ ZN wr (.agg #[.bool n_0, .slice o_0 k_0 c_0]) x l ∧ ZC wr (.agg #[.bool sb, .slice so sk sc]) (x ^ (N / 2 ^ k)) ∧ Below w.heap.size w wr)
  case atStart => exact ⟨rfl, Nat.le_refl _, _, _, _, _, x_b1, x_b2, x_b3, ha, by rw [HD.out, Int.pow_zero]; exact g1, hb⟩
  case round =>
  clear ha x_b1 x_b2 g1 x_b3
  obtain ⟨rfl, hk, sb, so, sk, sc, x_b1, x_b2, x_b3, ha, g, hb⟩ := hrel
  cases gk with
  | zero =>
    have Lg := hide (g.lenOf (HL.out _ (Nat.div_le_self _ _)))
    have e0 : N / 2 ^ 0 = N := by rw [Nat.pow_zero, Nat.div_one]
    rw [e0] at g
    refine wp_seq_k ?_
    intro K5 hK5
    refine wp_seq_k ?_
    intro K6 hK6
    refine wp_region_sq [0, 1] (by kernel_rfl) ?_
    refine wpSq_call rfl (by kernel_rfl) fun K hK => ?_
    go_big_move; refine hK _ _ rfl ?_; clear hK K
    refine wpSq_call rfl (by kernel_rfl) fun K hK => ?_
    go_big_op; refine hK _ _ rfl ?_; clear hK K
    apply wpSq_end
    refine hK6 _ _ ?_
    refine wp_cond_false (congrArg Value.bool (show _ = false from (by first | rfl | assumption | (simp; done) | exact decide_eq_false (by omega) | omega))) ?_
    refine wp_exit ?_
    refine hK3 _ _ ?_
    refine wp_seq_k ?_
    intro K7 hK7
    refine wp_region_sq [0, 1] (by kernel_rfl) ?_
    refine wpSq_call rfl (by kernel_rfl) fun K hK => ?_
    obtain ⟨d0, d1⟩ := x_b3.f2
    go_big_op; refine hK _ _ rfl ?_; clear hK K d0 d1
    refine wpSq_call rfl (by kernel_rfl) fun K hK => ?_
    obtain ⟨d0, d1⟩ := x_b2.f2
    have f0 := x_b2.free 0; have f1 := x_b2.free 1
    go_big_op
    have hnd := x_b2.nod rfl rfl
    obtain ⟨w_7, eW, x_b2', ho⟩ : ∃ w', ((wr.setCell ⟨p_b2, 0, none⟩ (.bool sb)).setCell ⟨p_b2, 1, none⟩ (.slice so sk sc)) = w' ∧ Bs w' p_b2 #[.bool sb, .slice so sk sc] 24 ∧ Only p_b2 wr w' := x_b2.setN [(0, .bool sb), (1, .slice so sk sc)]
    rw [eW]; clear eW d0 d1 f0 f1 x_b2
    have x_b2 := x_b2'; clear x_b2'
    replace x_b1 := x_b1.frame ho ne_b1_b2; replace ha := ha.fr hnd ho; replace x_b3 := x_b3.frame ho ne_b2_b3.symm; replace g := g.fr hnd ho; replace hb := belowOnly hb ho kb_b2
    refine hK _ _ rfl ?_; clear hK K ho hnd
    apply wpSq_end
    refine hK7 _ _ ?_
    refine wp_ret ?_
    try dsimp only [Exit.then, Exit.inBlock]
    obtain ⟨r0_0, r0_1⟩ := x_b2.f2
    refine bodyPost_ret (v := (.agg #[.bool sb, .slice so sk sc])) (by simp [results, Tryz.results73, go_sem, r0_0, r0_1]) rfl ?_
    exact ⟨_, rfl, g, hb⟩
  | succ k =>
    have hpb := (ipow_bit x N k).1
    have hle := (ipow_bit x N k).2
    have Lg := hide (g.lenOf (HL.out _ (Nat.div_le_self _ _)))
    have hd2 := Nat.div_le_self N (2 ^ k)
    have HL2 := hide (show (dig (x ^ (N / 2 ^ (k + 1)) * x ^ (N / 2 ^ (k + 1))).natAbs).length ≤ M by rw [ipow_twice]; exact HL.out _ (Nat.le_trans hle hd2))
    have HP := hide hpb
    rw [show (((k + 1 : Nat) : Int) - 1) = (k : Int) from by omega]
    have hk64 : k < 64 := by omega
    clear hpb hle hd2
    refine wp_seq_k ?_
    intro K5 hK5
    refine wp_seq_k ?_
    intro K6 hK6
    refine wp_region_sq [0, 1] (by kernel_rfl) ?_
    refine wpSq_call rfl (by kernel_rfl) fun K hK => ?_
    go_big_move; refine hK _ _ rfl ?_; clear hK K
    refine wpSq_call rfl (by kernel_rfl) fun K hK => ?_
    go_big_op; refine hK _ _ rfl ?_; clear hK K
    apply wpSq_end
    refine hK6 _ _ ?_
    refine wp_cond_true (congrArg Value.bool (show _ = true from (by first | rfl | assumption | (simp; done) | exact decide_eq_true (by omega) | omega))) ?_
    refine wp_skip ?_
    refine hK5 _ _ ?_
    refine wp_seq_k ?_
    intro K7 hK7
    refine wp_block ?_
    refine wp_seq_k ?_
    intro K8 hK8
    refine wp_region_sq [0, 1, 2, 3] (by kernel_rfl) ?_
    refine wpSq_call rfl (by kernel_rfl) fun K hK => ?_
    obtain ⟨d0, d1⟩ := x_b3.f2
    go_big_op; refine hK _ _ rfl ?_; clear hK K d0 d1
    refine wpSq_call rfl (by kernel_rfl) fun K hK => ?_
    obtain ⟨d0, d1⟩ := x_b3.f2
    go_big_op; refine hK _ _ rfl ?_; clear hK K d0 d1
    refine wpSq_call rfl (by kernel_rfl) fun K hK => ?_
    go_big_op
    go_fit (zmul_any (g.zn Lg.out) (g.zn Lg.out) (by omega) (by omega) )
    rintro e w_7 ⟨v_g2, rfl, g2, hb_7⟩
    replace x_b1 := x_b1.bl hb_7; replace ha := ha.bl hb_7; replace x_b2 := x_b2.bl hb_7; replace x_b3 := x_b3.bl hb_7; replace g := g.bl hb_7; replace hb := hb.trans (hb_7.mono hb.size)
    replace g2 := g2.rd
    obtain ⟨n_g2, o_g2, k_g2, c_g2, rfl⟩ := g2.open2
    have Lg2 := hide (g2.lenOf (zlen_mul (Lg.out) (Lg.out)))
    refine hK _ _ rfl ?_
    clear hK K hb_7
    refine wpSq_call rfl (by kernel_rfl) fun K hK => ?_
    obtain ⟨d0, d1⟩ := x_b3.f2
    have f0 := x_b3.free 0; have f1 := x_b3.free 1
    go_big_op
    have hnd := x_b3.nod rfl rfl
    obtain ⟨w_8, eW, x_b3', ho⟩ : ∃ w', ((w_7.setCell ⟨p_b3, 0, none⟩ (.bool n_g2)).setCell ⟨p_b3, 1, none⟩ (.slice o_g2 k_g2 c_g2)) = w' ∧ Bs w' p_b3 #[.bool n_g2, .slice o_g2 k_g2 c_g2] 24 ∧ Only p_b3 w_7 w' := x_b3.setN [(0, .bool n_g2), (1, .slice o_g2 k_g2 c_g2)]
    rw [eW]; clear eW d0 d1 f0 f1 x_b3
    have x_b3 := x_b3'; clear x_b3'
    clear g
    replace x_b1 := x_b1.frame ho ne_b1_b3; replace ha := ha.fr hnd ho; replace x_b2 := x_b2.frame ho ne_b2_b3; replace g2 := g2.fr hnd ho; replace hb := belowOnly hb ho kb_b3
    refine hK _ _ rfl ?_; clear hK K ho hnd
    apply wpSq_end
    refine hK8 _ _ ?_
    refine wp_seq_k ?_
    intro K9 hK9
    refine wp_region_sq [0, 1, 2, 3, 4] (by kernel_rfl) ?_
    refine wpSq_call rfl (by kernel_rfl) fun K hK => ?_
    go_big_move; refine hK _ _ rfl ?_; clear hK K
    refine wpSq_call rfl (by kernel_rfl) fun K hK => ?_
    go_big_move; refine hK _ _ rfl ?_; clear hK K
    refine wpSq_call rfl (by kernel_rfl) fun K hK => ?_
    go_big_op; refine hK _ _ rfl ?_; clear hK K
    refine wpSq_call rfl (by kernel_rfl) fun K hK => ?_
    go_big_op; refine hK _ _ rfl ?_; clear hK K
    refine wpSq_call rfl (by kernel_rfl) fun K hK => ?_
    go_big_op; refine hK _ _ rfl ?_; clear hK K
    apply wpSq_end
    refine hK9 _ _ ?_
    have Lg2 := hide (g2.lenOf (HL2.out))
    by_cases hbit : N / 2 ^ k % 2 = 1
    · have HB := hide (show ((N : Int) / 2 ^ k % 2 == 1) = true by
        have : (N : Int) / 2 ^ k % 2 = 1 := by exact_mod_cast hbit
        rw [this]; rfl)
      rw [if_pos hbit] at HP
      clear hbit
      refine wp_cond_true (congrArg Value.bool (show _ = true from (by rw [i64_and_one]; exact HB.out))) ?_
      refine wp_region_sq [0, 1, 2, 3] (by kernel_rfl) ?_
      refine wpSq_call rfl (by kernel_rfl) fun K hK => ?_
      obtain ⟨d0, d1⟩ := x_b3.f2
      go_big_op; refine hK _ _ rfl ?_; clear hK K d0 d1
      refine wpSq_call rfl (by kernel_rfl) fun K hK => ?_
      obtain ⟨d0, d1⟩ := x_b1.f2
      go_big_op; refine hK _ _ rfl ?_; clear hK K d0 d1
      refine wpSq_call rfl (by kernel_rfl) fun K hK => ?_
      go_big_op
      go_fit (zmul_any (g2.zn Lg2.out) ha (by omega) (by omega) )
      rintro e w_9 ⟨v_g3, rfl, g3, hb_9⟩
      replace x_b1 := x_b1.bl hb_9; replace ha := ha.bl hb_9; replace x_b2 := x_b2.bl hb_9; replace x_b3 := x_b3.bl hb_9; replace g2 := g2.bl hb_9; replace hb := hb.trans (hb_9.mono hb.size)
      replace g3 := g3.rd
      obtain ⟨n_g3, o_g3, k_g3, c_g3, rfl⟩ := g3.open2
      have Lg3 := hide (g3.lenOf (zlen_mul (Lg2.out) (ha.len)))
      rw [HP.out] at g3
      refine hK _ _ rfl ?_
      clear hK K hb_9
      refine wpSq_call rfl (by kernel_rfl) fun K hK => ?_
      obtain ⟨d0, d1⟩ := x_b3.f2
      have f0 := x_b3.free 0; have f1 := x_b3.free 1
      go_big_op
      have hnd := x_b3.nod rfl rfl
      obtain ⟨w_10, eW, x_b3', ho⟩ : ∃ w', ((w_9.setCell ⟨p_b3, 0, none⟩ (.bool n_g3)).setCell ⟨p_b3, 1, none⟩ (.slice o_g3 k_g3 c_g3)) = w' ∧ Bs w' p_b3 #[.bool n_g3, .slice o_g3 k_g3 c_g3] 24 ∧ Only p_b3 w_9 w' := x_b3.setN [(0, .bool n_g3), (1, .slice o_g3 k_g3 c_g3)]
      rw [eW]; clear eW d0 d1 f0 f1 x_b3
      have x_b3 := x_b3'; clear x_b3'
      clear g2
      replace x_b1 := x_b1.frame ho ne_b1_b3; replace ha := ha.fr hnd ho; replace x_b2 := x_b2.frame ho ne_b2_b3; replace g3 := g3.fr hnd ho; replace hb := belowOnly hb ho kb_b3
      refine hK _ _ rfl ?_; clear hK K ho hnd
      apply wpSq_end
      refine hK7 _ _ ?_
      refine wp_region_sq [0, 1, 2] (by kernel_rfl) ?_
      refine wpSq_call rfl (by kernel_rfl) fun K hK => ?_
      go_big_move; refine hK _ _ rfl ?_; clear hK K
      refine wpSq_call rfl (by kernel_rfl) fun K hK => ?_
      go_big_op; refine hK _ _ rfl ?_; clear hK K
      refine wpSq_call rfl (by kernel_rfl) fun K hK => ?_
      go_big_move; refine hK _ _ rfl ?_; clear hK K
      apply wpSq_end
      refine ‹∀ (a' : Act) (w' : World), Handed _ _ a' w' → _› _ _ ?_
      go_roundg k
      case rel => exact ⟨rfl, by omega, _, _, _, _, x_b1, x_b2, x_b3, ha, g3, hb⟩
      case measure => omega
    · have HB := hide (show ((N : Int) / 2 ^ k % 2 == 1) = false by
        have : (N : Int) / 2 ^ k % 2 = 0 := by have h2 : N / 2 ^ k % 2 = 0 := by omega
                                               exact_mod_cast h2
        rw [this]; rfl)
      rw [if_neg hbit, Int.mul_one] at HP
      rw [HP.out] at g2
      clear hbit
      refine wp_cond_false (congrArg Value.bool (show _ = false from (by rw [i64_and_one]; exact HB.out))) ?_
      refine wp_skip ?_
      refine hK7 _ _ ?_
      refine wp_region_sq [0, 1, 2] (by kernel_rfl) ?_
      refine wpSq_call rfl (by kernel_rfl) fun K hK => ?_
      go_big_move; refine hK _ _ rfl ?_; clear hK K
      refine wpSq_call rfl (by kernel_rfl) fun K hK => ?_
      go_big_op; refine hK _ _ rfl ?_; clear hK K
      refine wpSq_call rfl (by kernel_rfl) fun K hK => ?_
      go_big_move; refine hK _ _ rfl ?_; clear hK K
      apply wpSq_end
      refine ‹∀ (a' : Act) (w' : World), Handed _ _ a' w' → _› _ _ ?_
      go_roundg k
      case rel => exact ⟨rfl, by omega, _, _, _, _, x_b1, x_b2, x_b3, ha, g2, hb⟩
      case measure => omega
end Go.Proofs.YtkgbfnmlpajblaaGreatDoor

/- The reference's Bits, Shl and Pow, where the seat has no Root. -/
namespace Go.Proofs.YtkgbfnmlpajblaaGreatDoor
open Go.RowKit Dig

theorem Rd.bl {w w' : World} {v : Value} {ds : List Nat} (h : Rd w v ds) (hb : Below w.heap.size w w') : Rd w' v ds := h.below hb (Nat.le_refl _)
theorem rbits_rd' {w : World} {va : Value} {xs : List Nat} (hx : Rd w va xs) (hxl : xs.length ≤ 100000000000) :
    Calls Tryz.prog 91 #[va] w fun e w' => e = .returned (.int .i64 ((bitsN (val xs) : Nat) : Int)) ∧ Below w.heap.size w w' := by
  obtain ⟨oa, ca, rfl, hca, okx, hcx⟩ := hx
  exact rbits_any oa ca xs w (by omega) hca okx hcx
theorem rcmp_rd2 {w : World} {va vb : Value} {xs ys : List Nat} (hx : Rd w va xs) (hy : Rd w vb ys) (hxl : xs.length ≤ 100000000000) (hyl : ys.length ≤ 100000000000) :
    Calls Tryz.prog 121 #[va, vb] w fun e w' => e = .returned (.int .i64 (cmpI (val xs) (val ys))) ∧ Below w.heap.size w w' := by
  obtain ⟨oa, ca, rfl, hca, okx, hcx⟩ := hx
  obtain ⟨ob, cb, rfl, hcb, oky, hcy⟩ := hy
  exact rcmp_any oa ob ca cb xs ys w (by omega) (by omega) hca hcb okx oky hcx hcy
theorem rmul_rd3 {w : World} {va vb : Value} {xs ys : List Nat} (hx : Rd w va xs) (hy : Rd w vb ys) (hxl : xs.length ≤ 100000000000) (hyl : ys.length ≤ 100000000000) :
    Calls Tryz.prog 123 #[va, vb] w fun e w' => ∃ v, e = .returned v ∧ Rd w' v (dig (val xs * val ys)) ∧ Below w.heap.size w w' := by
  obtain ⟨oa, ca, rfl, hca, okx, hcx⟩ := hx
  obtain ⟨ob, cb, rfl, hcb, oky, hcy⟩ := hy
  exact rmul_any oa ob ca cb xs ys w (by omega) (by omega) okx oky hcx hcy
theorem cmpI_le {m n : Nat} : cmpI m n ≤ 0 ↔ m ≤ n := by
  unfold cmpI
  by_cases h : m < n
  · rw [if_pos h]; omega
  · rw [if_neg h]
    by_cases h2 : m = n
    · rw [if_pos h2]; omega
    · rw [if_neg h2]; omega
theorem bitsN_le_one {A : Nat} : bitsN A ≤ 1 ↔ A ≤ 1 := by
  constructor
  · intro h
    have := bitsN_lt A
    have h2 : 2 ^ bitsN A ≤ 2 ^ 1 := Nat.pow_le_pow_right (by decide) h
    omega
  · intro h
    rcases (show A = 0 ∨ A = 1 by omega) with rfl | rfl <;> decide
theorem rpow_step (o X k : Nat) (hk : 0 < k) : (if k % 2 = 1 then o * X else o) * (if 1 < k then X * X else X) ^ (k / 2) = o * X ^ k := by
  rcases (show k = 1 ∨ 1 < k by omega) with rfl | h
  · simp
  · rw [if_pos h]
    have e : (X * X) ^ (k / 2) = X ^ (2 * (k / 2)) := by rw [Nat.pow_mul, Nat.pow_two]
    rw [e]
    by_cases h2 : k % 2 = 1
    · rw [if_pos h2, Nat.mul_assoc, ← Nat.pow_succ']; congr 2; omega
    · rw [if_neg h2]; congr 2; omega
theorem le_pow_of {X k : Nat} (hX : 0 < X) (hk : 0 < k) : X ≤ X ^ k := by
  obtain ⟨j, rfl⟩ : ∃ j, k = j + 1 := ⟨k - 1, by omega⟩
  rw [Nat.pow_succ]
  exact Nat.le_mul_of_pos_left _ (Nat.pow_pos hX)
theorem sq_le_pow {X k : Nat} (hX : 0 < X) (hk : 1 < k) : X * X ≤ X ^ k := by
  rw [← Nat.pow_two]; exact Nat.pow_le_pow_right hX hk
set_option maxHeartbeats 1000000 in
set_option maxRecDepth 20000 in
theorem rpow_rd {w : World} {va : Value} {xs : List Nat} (n : Nat) (hx : Rd w va xs) (hxl : xs.length ≤ 1048576) (hn : n ≤ 9223372036854775807) (hlen : (dig (val xs ^ n)).length ≤ 1048576) :
    Calls Tryz.prog 92 #[va, .int .i64 (n : Int)] w fun e w' => ∃ v, e = .returned v ∧ Rd w' v (dig (val xs ^ n)) ∧ Below w.heap.size w w' := by
  have dx := dig_val hx.ok
  have slx := strip_length_le xs
  have v1 : val [1] = 1 := by simp [val]
  have d1 : dig 1 = [1] := by decide
  obtain ⟨A, hA⟩ : ∃ A, val xs = A := ⟨_, rfl⟩
  rw [hA] at dx hlen ⊢
  have HA := hide hA
  have HD := hide dx
  have hsx : val (strip xs) = A := by rw [val_strip]; exact hA
  have HSX := hide hsx
  have V1 := hide v1
  have D1 := hide d1
  clear hA dx hsx v1 d1
  have hc : ∃ c, Hid (cmpI A 1 = c) ∧ (c ≤ 0 ↔ A ≤ 1) := ⟨_, hide rfl, cmpI_le⟩
  obtain ⟨c, HC, hc⟩ := hc
  by_cases hA1 : A ≤ 1
  · have hc0 : c ≤ 0 := hc.2 hA1
    clear hc
    by_cases hn0 : n = 0
    · subst hn0
      have hz : (((0 : Nat) : Int) == 0) = true := rfl
      go_enter Tryz.func92, Tryz.ntmps92
      have hb := Below.refl w.heap.size w
      have ho := lit1 w 1 (by first | decide | omega)
      replace hx := hx.alloc (.cells #[.int .u32 (1 : Int)] 72)
      replace hb := hb.alloc hb.size (.cells #[.int .u32 (1 : Int)] 72)
      go_wp2_with fail
      refine (rtrim_rd hx (by omega)).mono ?_
      rintro e w_1 ⟨vx, rfl, hX, hb_1⟩
      replace hx := hx.below hb_1 (Nat.le_refl _)
      replace ho := ho.below hb_1 (Nat.le_refl _)
      replace hb := hb.trans (hb_1.mono hb.size)
      clear hb_1
      have h1 := lit1 w_1 1 (by first | decide | omega)
      replace hx := hx.alloc (.cells #[.int .u32 (1 : Int)] 72)
      replace ho := ho.alloc (.cells #[.int .u32 (1 : Int)] 72)
      replace hX := hX.alloc (.cells #[.int .u32 (1 : Int)] 72)
      replace hb := hb.alloc hb.size (.cells #[.int .u32 (1 : Int)] 72)
      go_wp2_with fail
      refine (rcmp_rd2 hX h1 (by omega) (by simp)).mono ?_
      rintro e w_2 ⟨rfl, hb_2⟩
      replace hx := hx.below hb_2 (Nat.le_refl _)
      replace ho := ho.below hb_2 (Nat.le_refl _)
      replace hX := hX.below hb_2 (Nat.le_refl _)
      replace h1 := h1.below hb_2 (Nat.le_refl _)
      replace hb := hb.trans (hb_2.mono hb.size)
      clear hb_2
      rw [HSX.out, V1.out, HC.out]
      go_wp2
      go_ret
      exact ⟨_, rfl, by rw [Nat.pow_zero, D1.out]; exact ho, hb⟩
    · have hz : ((n : Int) == 0) = false := by rw [beq_eq_false_iff_ne]; omega
      have hp : A ^ n = A := by
        rcases (show A = 0 ∨ A = 1 by omega) with rfl | rfl
        · exact Nat.zero_pow (Nat.pos_of_ne_zero hn0)
        · exact Nat.one_pow _
      have HP := hide hp
      clear hp
      go_enter Tryz.func92, Tryz.ntmps92
      have hb := Below.refl w.heap.size w
      have ho := lit1 w 1 (by first | decide | omega)
      replace hx := hx.alloc (.cells #[.int .u32 (1 : Int)] 72)
      replace hb := hb.alloc hb.size (.cells #[.int .u32 (1 : Int)] 72)
      go_wp2_with fail
      refine (rtrim_rd hx (by omega)).mono ?_
      rintro e w_1 ⟨vx, rfl, hX, hb_1⟩
      replace hx := hx.below hb_1 (Nat.le_refl _)
      replace ho := ho.below hb_1 (Nat.le_refl _)
      replace hb := hb.trans (hb_1.mono hb.size)
      clear hb_1
      have h1 := lit1 w_1 1 (by first | decide | omega)
      replace hx := hx.alloc (.cells #[.int .u32 (1 : Int)] 72)
      replace ho := ho.alloc (.cells #[.int .u32 (1 : Int)] 72)
      replace hX := hX.alloc (.cells #[.int .u32 (1 : Int)] 72)
      replace hb := hb.alloc hb.size (.cells #[.int .u32 (1 : Int)] 72)
      go_wp2_with fail
      refine (rcmp_rd2 hX h1 (by omega) (by simp)).mono ?_
      rintro e w_2 ⟨rfl, hb_2⟩
      replace hx := hx.below hb_2 (Nat.le_refl _)
      replace ho := ho.below hb_2 (Nat.le_refl _)
      replace hX := hX.below hb_2 (Nat.le_refl _)
      replace h1 := h1.below hb_2 (Nat.le_refl _)
      replace hb := hb.trans (hb_2.mono hb.size)
      clear hb_2
      rw [HSX.out, V1.out, HC.out]
      go_wp2
      go_ret
      exact ⟨_, rfl, by rw [HP.out, HD.out]; exact hX, hb⟩
  · have hc0 : ¬ c ≤ 0 := fun h => hA1 (hc.1 h)
    clear hc
    have HL := hide hlen
    clear hlen
    go_enter Tryz.func92, Tryz.ntmps92
    have hb := Below.refl w.heap.size w
    have ho := lit1 w 1 (by first | decide | omega)
    replace hx := hx.alloc (.cells #[.int .u32 (1 : Int)] 72)
    replace hb := hb.alloc hb.size (.cells #[.int .u32 (1 : Int)] 72)
    go_wp2_with fail
    refine (rtrim_rd hx (by omega)).mono ?_
    rintro e w_1 ⟨vx, rfl, hX, hb_1⟩
    replace hx := hx.below hb_1 (Nat.le_refl _)
    replace ho := ho.below hb_1 (Nat.le_refl _)
    replace hb := hb.trans (hb_1.mono hb.size)
    clear hb_1
    have h1 := lit1 w_1 1 (by first | decide | omega)
    replace hx := hx.alloc (.cells #[.int .u32 (1 : Int)] 72)
    replace ho := ho.alloc (.cells #[.int .u32 (1 : Int)] 72)
    replace hX := hX.alloc (.cells #[.int .u32 (1 : Int)] 72)
    replace hb := hb.alloc hb.size (.cells #[.int .u32 (1 : Int)] 72)
    go_wp2_with fail
    refine (rcmp_rd2 hX h1 (by omega) (by simp)).mono ?_
    rintro e w_2 ⟨rfl, hb_2⟩
    replace hx := hx.below hb_2 (Nat.le_refl _)
    replace ho := ho.below hb_2 (Nat.le_refl _)
    replace hX := hX.below hb_2 (Nat.le_refl _)
    replace h1 := h1.below hb_2 (Nat.le_refl _)
    replace hb := hb.trans (hb_2.mono hb.size)
    clear hb_2
    rw [HSX.out, V1.out, HC.out]
    rw [← HD.out] at hX
    go_wp2_with fail
    have hbW := hb
    have hAp : 0 < A := by omega
    have HA1 := hide hA1
    clear hA1
    go_loopg [5, 6, 7] n (fun k s5 s6 s7 wr => ∃ o X : Nat, Rd wr s5 (dig o) ∧ Rd wr s6 (dig X) ∧ s7 = .int .i64 (k : Int) ∧ Hid (o * X ^ k = A ^ n ∧ 0 < o ∧ 0 < X ∧ (0 < k → (dig o).length ≤ 1048576 ∧ (dig X).length ≤ 1048576)) ∧ Rd wr va xs ∧ k ≤ n ∧ Below w.heap.size w wr)
    case atStart =>
      refine ⟨1, A, by rw [D1.out]; exact ho, hX, rfl, hide ⟨Nat.one_mul _, by decide, hAp, fun _ => ⟨by rw [D1.out]; simp, ?_⟩⟩, hx, Nat.le_refl _, hb⟩
      rw [HD.out]; omega
    case round =>
      clear ho hX hx hb hbW h1
      obtain ⟨o, X, hO, hX, rfl, HI, hx, hkn, hbW⟩ := hrel
      rcases Nat.eq_zero_or_pos gk with hk0 | hk0
      · subst hk0
        go_wp2_with fail
        go_ret
        refine ⟨_, rfl, ?_, hbW⟩
        have := HI.out.1
        rw [Nat.pow_zero, Nat.mul_one] at this
        rw [← this]; exact hO
      · obtain ⟨i1, i2, i3, i4⟩ := HI.out
        obtain ⟨l1, l2⟩ := i4 hk0
        have st := rpow_step o X gk hk0
        have hXk : X ≤ X ^ gk := le_pow_of i3 hk0
        have hoX : o * X ≤ A ^ n := by rw [← i1]; exact Nat.mul_le_mul_left _ hXk
        have lo : (dig (o * X)).length ≤ 1048576 := Nat.le_trans (dig_length_mono hoX) HL.out
        have lXX : 1 < gk → (dig (X * X)).length ≤ 1048576 := fun h => Nat.le_trans (dig_length_mono (Nat.le_trans (sq_le_pow i3 h) (by rw [← i1]; exact Nat.le_mul_of_pos_left _ i2))) HL.out
        have hmod : (gk : Int) % 2 = ((gk % 2 : Nat) : Int) := by omega
        rw [i1] at st
        clear i1 i4 hXk hoX HI
        by_cases hodd : gk % 2 = 1
        · rw [if_pos hodd] at st
          rw [hodd] at hmod
          have hob : (((1 : Nat) : Int) == 1) = true := rfl
          by_cases hmore : 1 < gk
          · rw [if_pos hmore] at st
            have hXX := lXX hmore
            have HST := hide (And.intro st (And.intro (Nat.mul_pos i2 i3) (And.intro (Nat.mul_pos i3 i3) (fun _ : 0 < gk / 2 => And.intro lo hXX))))
            clear st i2 i3 lXX hodd
            have hb := Below.refl wr.heap.size wr
            go_wp2_with fail
            refine (rmul_rd3 hO hX (by omega) (by omega)).mono ?_
            rintro e w_1 ⟨v3, rfl, h3, hb_1⟩
            replace hx := hx.below hb_1 (Nat.le_refl _)
            replace hO := hO.below hb_1 (Nat.le_refl _)
            replace hX := hX.below hb_1 (Nat.le_refl _)
            replace hb := hb.trans (hb_1.mono hb.size)
            clear hb_1
            rw [val_dig, val_dig] at h3
            go_wp2_with fail
            refine (rmul_rd3 hX hX (by omega) (by omega)).mono ?_
            rintro e w_2 ⟨v4, rfl, h4, hb_2⟩
            replace hx := hx.below hb_2 (Nat.le_refl _)
            replace hO := hO.below hb_2 (Nat.le_refl _)
            replace hX := hX.below hb_2 (Nat.le_refl _)
            replace h3 := h3.below hb_2 (Nat.le_refl _)
            replace hb := hb.trans (hb_2.mono hb.size)
            clear hb_2
            rw [val_dig] at h4
            go_wp2_with fail
            go_roundg (gk / 2)
            case rel =>
              exact ⟨_, _, h3, h4, by go_num, hide ⟨HST.out.1, HST.out.2.1, HST.out.2.2.1, HST.out.2.2.2⟩, hx, by omega, hbW.trans (hb.mono hbW.size)⟩
            case measure => omega
          · rw [if_neg hmore] at st
            have HST := hide (And.intro st (And.intro (Nat.mul_pos i2 i3) (And.intro i3 (fun _ : 0 < gk / 2 => And.intro lo l2))))
            clear st i2 i3 lXX hodd
            have hb := Below.refl wr.heap.size wr
            go_wp2_with fail
            refine (rmul_rd3 hO hX (by omega) (by omega)).mono ?_
            rintro e w_1 ⟨v3, rfl, h3, hb_1⟩
            replace hx := hx.below hb_1 (Nat.le_refl _)
            replace hO := hO.below hb_1 (Nat.le_refl _)
            replace hX := hX.below hb_1 (Nat.le_refl _)
            replace hb := hb.trans (hb_1.mono hb.size)
            clear hb_1
            rw [val_dig, val_dig] at h3
            go_wp2_with fail
            go_roundg (gk / 2)
            case rel =>
              exact ⟨_, _, h3, hX, by go_num, hide ⟨HST.out.1, HST.out.2.1, HST.out.2.2.1, HST.out.2.2.2⟩, hx, by omega, hbW.trans (hb.mono hbW.size)⟩
            case measure => omega
        · rw [if_neg hodd] at st
          have hev : gk % 2 = 0 := by omega
          rw [hev] at hmod
          have hob : (((0 : Nat) : Int) == 1) = false := rfl
          have hmore : 1 < gk := by omega
          rw [if_pos hmore] at st
          have hXX := lXX hmore
          have HST := hide (And.intro st (And.intro i2 (And.intro (Nat.mul_pos i3 i3) (fun _ : 0 < gk / 2 => And.intro l1 hXX))))
          clear st i2 i3 lXX hodd hev
          have hb := Below.refl wr.heap.size wr
          go_wp2_with fail
          refine (rmul_rd3 hX hX (by omega) (by omega)).mono ?_
          rintro e w_1 ⟨v4, rfl, h4, hb_1⟩
          replace hx := hx.below hb_1 (Nat.le_refl _)
          replace hO := hO.below hb_1 (Nat.le_refl _)
          replace hX := hX.below hb_1 (Nat.le_refl _)
          replace hb := hb.trans (hb_1.mono hb.size)
          clear hb_1
          rw [val_dig] at h4
          go_wp2_with fail
          go_roundg (gk / 2)
          case rel =>
            exact ⟨_, _, hO, h4, by go_num, hide ⟨HST.out.1, HST.out.2.1, HST.out.2.2.1, HST.out.2.2.2⟩, hx, by omega, hbW.trans (hb.mono hbW.size)⟩
          case measure => omega
end Go.Proofs.YtkgbfnmlpajblaaGreatDoor

