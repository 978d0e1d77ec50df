/- frac.Pow and the reference's. -/
import Derived.Test.YtkgbfnmlpajblaaGreatDoorQ14ToR20

namespace Go.Proofs.YtkgbfnmlpajblaaGreatDoor
open Go Go.RowKit Dig
set_option linter.unusedVariables false

/-- Is a power beyond the limit? -/
def tooHigh (a : Int) (n : Nat) : Prop := 1 < bitsN a.natAbs ∧ 65536 / bitsN a.natAbs < n
theorem high_cases (a : Int) (n : Nat) (b : Nat) (hb : bitsN a.natAbs = b) : (tooHigh a n → 1 < b ∧ 65536 / b < n) ∧ (¬ tooHigh a n → b ≤ 1 ∨ (1 < b ∧ n ≤ 65536 / b)) := by
  unfold tooHigh; rw [hb]; omega
theorem natAbs_pow' (x : Int) (n : Nat) : (x ^ n).natAbs = x.natAbs ^ n := Int.natAbs_pow x n
/-- The powers that are not refused are short. -/
theorem pow_len {a : Int} {n : Nat} (h : ¬ tooHigh a n) : ∀ m, m ≤ n → (dig (a ^ m).natAbs).length ≤ 2049 := by
  intro m hm
  rw [natAbs_pow']
  obtain ⟨A, hA⟩ : ∃ A, a.natAbs = A := ⟨_, rfl⟩
  have hc := (high_cases a n (bitsN A) (by rw [hA])).2 h
  rw [hA]
  rcases hc with h1 | ⟨h1, h2⟩
  · have hA1 := bitsN_le_one.1 h1
    have : A ^ m ≤ 1 := by
      calc A ^ m ≤ 1 ^ m := Nat.pow_le_pow_left hA1 m
        _ = 1 := Nat.one_pow m
    exact Nat.le_trans (dig_length_mono this) (by decide)
  · have h3 := bitsN_lt A
    obtain ⟨T, hT⟩ : ∃ T, T = 65536 := ⟨_, rfl⟩
    have h4 : bitsN A * m ≤ T := by
      have := Nat.mul_div_le 65536 (bitsN A)
      rw [hT]
      exact Nat.le_trans (Nat.mul_le_mul_left _ (Nat.le_trans hm h2)) this
    have h5 : A ^ m ≤ 2 ^ (bitsN A * m) := by rw [Nat.pow_mul]; exact Nat.pow_le_pow_left (Nat.le_of_lt h3) m
    have h6 : (2 : Nat) ^ (bitsN A * m) ≤ 2 ^ T := Nat.pow_le_pow_right (by decide) h4
    refine dig_length_le (Nat.lt_of_le_of_lt (Nat.le_trans h5 h6) ?_)
    exact Nat.lt_of_lt_of_le (Nat.pow_lt_pow_right (by decide) (Nat.lt_succ_self T)) (two_le_pw' (by omega))
section
variable {w : World} {va vb : Value} {x y u v : Int} {l m k n : Nat}
set_option maxHeartbeats 4000000 in
set_option maxRecDepth 20000 in
theorem high_small (N : Nat) (ha : ZN w va x l) (hl : l ≤ 10000000) (hN : N ≤ 9223372036854775807) (h : bitsN x.natAbs ≤ 1) :
    Calls Tryz.prog 72 #[va, .int .i64 N] w fun e w' => e = .returned (.bool false) ∧ Below w.heap.size w w' := by
  obtain ⟨b, hb'⟩ : ∃ b, bitsN x.natAbs = b := ⟨_, rfl⟩
  rw [hb'] at h
  have HB := hide hb'
  have hg : (1 < (b : Int)) = False := eq_false (by omega)
  clear hb'
  obtain ⟨n_0, o_0, k_0, c_0, rfl⟩ := ha.open2
  go_enter Tryz.func72, Tryz.ntmps72
  have hb := Below.refl w.heap.size w
  refine wp_seq_k ?_
  intro K1 hK1
  refine wp_region_sq [0, 1] (by kernel_rfl) ?_
  refine wpSq_call rfl (by kernel_rfl) fun K hK => ?_
  go_big_op
  obtain ⟨p_b1, w_1, eP, eW, x_b1, hn, kb_b1⟩ := newBox w #[.bool n_0, .slice o_0 k_0 c_0] 24 hb.size
  rw [eW, eP]
  clear eW eP
  replace ha := ha.bl hn; replace hb := hb.trans (hn.mono hb.size)
  refine hK _ _ rfl ?_; clear hK K hn
  refine wpSq_call rfl (by kernel_rfl) fun K hK => ?_
  go_big_move; refine hK _ _ rfl ?_; clear hK K
  apply wpSq_end
  refine hK1 _ _ ?_
  refine wp_seq_k ?_
  intro K2 hK2
  refine wp_region_sq [0, 1, 2] (by kernel_rfl) ?_
  refine wpSq_call rfl (by kernel_rfl) fun K hK => ?_
  obtain ⟨d0, d1⟩ := x_b1.f2
  go_big_op; refine hK _ _ rfl ?_; clear hK K d0 d1
  refine wpSq_call rfl (by kernel_rfl) fun K hK => ?_
  go_big_op
  go_fit (zbits_any ha (by omega) )
  rintro e w_2 ⟨rfl, hb_2⟩
  clear x_b1
  replace ha := ha.bl hb_2; replace hb := hb.trans (hb_2.mono hb.size)
  rw [HB.out]
  refine hK _ _ rfl ?_
  clear hK K hb_2
  refine wpSq_call rfl (by kernel_rfl) fun K hK => ?_
  go_big_move; refine hK _ _ rfl ?_; clear hK K
  apply wpSq_end
  refine hK2 _ _ ?_
  refine wp_seq_k ?_
  intro K3 hK3
  refine wp_region_sq [0, 1, 2, 3, 4, 5, 6, 7, 8] (by kernel_rfl) ?_
  refine wpSq_call rfl (by kernel_rfl) fun K hK => ?_
  go_big_move; refine hK _ _ rfl ?_; clear hK K
  refine wpSq_call rfl (by kernel_rfl) fun K hK => ?_
  go_big_op; refine hK _ _ rfl ?_; clear hK K
  refine wpSq_call rfl (by kernel_rfl) fun K hK => ?_
  go_big_move; refine hK _ _ rfl ?_; clear hK K
  apply wpSq_skip
  case hi => rfl
  case hw => kernel_rfl
  case hp => unfold Act.put; simp only [List.setIfInBounds_toArray, List.set_cons_succ, List.set_cons_zero]; rfl
  apply wpSq_skip
  case hi => rfl
  case hw => kernel_rfl
  case hp => unfold Act.put; simp only [List.setIfInBounds_toArray, List.set_cons_succ, List.set_cons_zero]; rfl
  apply wpSq_skip
  case hi => rfl
  case hw => kernel_rfl
  case hp => unfold Act.put; simp only [List.setIfInBounds_toArray, List.set_cons_succ, List.set_cons_zero]; rfl
  apply wpSq_skip
  case hi => rfl
  case hw => kernel_rfl
  case hp => unfold Act.put; simp only [List.setIfInBounds_toArray, List.set_cons_succ, List.set_cons_zero]; rfl
  refine wpSq_call rfl (by kernel_rfl) fun K hK => ?_
  go_big_op; refine hK _ _ rfl ?_; clear hK K
  refine wpSq_call rfl (by kernel_rfl) fun K hK => ?_
  go_big_move; refine hK _ _ rfl ?_; clear hK K
  apply wpSq_end
  refine hK3 _ _ ?_
  refine wp_ret ?_
  try dsimp only [Exit.then, Exit.inBlock]
  refine bodyPost_ret (v := (.bool false)) (by simp [results, Tryz.results72, go_sem]) rfl ?_
  exact ⟨rfl, hb⟩
set_option maxHeartbeats 4000000 in
set_option maxRecDepth 20000 in
theorem high_yes (N : Nat) (ha : ZN w va x l) (hl : l ≤ 10000000) (hN : N ≤ 9223372036854775807) (h : tooHigh x N) :
    Calls Tryz.prog 72 #[va, .int .i64 N] w fun e w' => e = .returned (.bool true) ∧ Below w.heap.size w w' := by
  obtain ⟨b, hb'⟩ : ∃ b, bitsN x.natAbs = b := ⟨_, rfl⟩
  have h2 := (high_cases x N b hb').1 h
  have HB := hide hb'
  have hg : (1 < (b : Int)) = True := eq_true (by omega)
  have h0 : (b = 0) = False := eq_false (by omega)
  have hd : ((65536 : Int) / (b : Int)) = ((65536 / b : Nat) : Int) := rfl
  have hd2 : Int.tdiv 65536 (b : Int) = ((65536 / b : Nat) : Int) := rfl
  generalize 65536 / b = q at *
  have hq : ((q : Int) < (N : Int)) = True := eq_true (by omega)
  clear hb' h
  obtain ⟨n_0, o_0, k_0, c_0, rfl⟩ := ha.open2
  go_enter Tryz.func72, Tryz.ntmps72
  have hb := Below.refl w.heap.size w
  refine wp_seq_k ?_
  intro K1 hK1
  refine wp_region_sq [0, 1] (by kernel_rfl) ?_
  refine wpSq_call rfl (by kernel_rfl) fun K hK => ?_
  go_big_op
  obtain ⟨p_b1, w_1, eP, eW, x_b1, hn, kb_b1⟩ := newBox w #[.bool n_0, .slice o_0 k_0 c_0] 24 hb.size
  rw [eW, eP]
  clear eW eP
  replace ha := ha.bl hn; replace hb := hb.trans (hn.mono hb.size)
  refine hK _ _ rfl ?_; clear hK K hn
  refine wpSq_call rfl (by kernel_rfl) fun K hK => ?_
  go_big_move; refine hK _ _ rfl ?_; clear hK K
  apply wpSq_end
  refine hK1 _ _ ?_
  refine wp_seq_k ?_
  intro K2 hK2
  refine wp_region_sq [0, 1, 2] (by kernel_rfl) ?_
  refine wpSq_call rfl (by kernel_rfl) fun K hK => ?_
  obtain ⟨d0, d1⟩ := x_b1.f2
  go_big_op; refine hK _ _ rfl ?_; clear hK K d0 d1
  refine wpSq_call rfl (by kernel_rfl) fun K hK => ?_
  go_big_op
  go_fit (zbits_any ha (by omega) )
  rintro e w_2 ⟨rfl, hb_2⟩
  clear x_b1
  replace ha := ha.bl hb_2; replace hb := hb.trans (hb_2.mono hb.size)
  rw [HB.out]
  refine hK _ _ rfl ?_
  clear hK K hb_2
  refine wpSq_call rfl (by kernel_rfl) fun K hK => ?_
  go_big_move; refine hK _ _ rfl ?_; clear hK K
  apply wpSq_end
  refine hK2 _ _ ?_
  refine wp_seq_k ?_
  intro K3 hK3
  refine wp_region_sq [0, 1, 2, 3, 4, 5, 6, 7, 8] (by kernel_rfl) ?_
  refine wpSq_call rfl (by kernel_rfl) fun K hK => ?_
  go_big_move; refine hK _ _ rfl ?_; clear hK K
  refine wpSq_call rfl (by kernel_rfl) fun K hK => ?_
  go_big_op; refine hK _ _ rfl ?_; clear hK K
  refine wpSq_call rfl (by kernel_rfl) fun K hK => ?_
  go_big_move; refine hK _ _ rfl ?_; clear hK K
  refine wpSq_call rfl (by kernel_rfl) fun K hK => ?_
  go_big_move; refine hK _ _ rfl ?_; clear hK K
  refine wpSq_call rfl (by kernel_rfl) fun K hK => ?_
  go_big_move; refine hK _ _ rfl ?_; clear hK K
  refine wpSq_call rfl (by kernel_rfl) fun K hK => ?_
  go_big_op; refine hK _ _ rfl ?_; clear hK K
  refine wpSq_call rfl (by kernel_rfl) fun K hK => ?_
  go_big_op; refine hK _ _ rfl ?_; clear hK K
  refine wpSq_call rfl (by kernel_rfl) fun K hK => ?_
  go_big_op; refine hK _ _ rfl ?_; clear hK K
  refine wpSq_call rfl (by kernel_rfl) fun K hK => ?_
  go_big_move; refine hK _ _ rfl ?_; clear hK K
  apply wpSq_end
  refine hK3 _ _ ?_
  refine wp_ret ?_
  try dsimp only [Exit.then, Exit.inBlock]
  refine bodyPost_ret (v := (.bool true)) (by simp [results, Tryz.results72, go_sem]) rfl ?_
  exact ⟨rfl, hb⟩
set_option maxHeartbeats 4000000 in
set_option maxRecDepth 20000 in
theorem high_two (N : Nat) (ha : ZN w va x l) (hl : l ≤ 10000000) (hN : N ≤ 9223372036854775807) (h1 : 1 < bitsN x.natAbs) (h : N ≤ 65536 / bitsN x.natAbs) :
    Calls Tryz.prog 72 #[va, .int .i64 N] w fun e w' => e = .returned (.bool false) ∧ Below w.heap.size w w' := by
  obtain ⟨b, hb'⟩ : ∃ b, bitsN x.natAbs = b := ⟨_, rfl⟩
  rw [hb'] at h h1
  have HB := hide hb'
  have hg : (1 < (b : Int)) = True := eq_true (by omega)
  have h0 : (b = 0) = False := eq_false (by omega)
  have hd : ((65536 : Int) / (b : Int)) = ((65536 / b : Nat) : Int) := rfl
  have hd2 : Int.tdiv 65536 (b : Int) = ((65536 / b : Nat) : Int) := rfl
  have hq65 : 65536 / b ≤ 65536 := Nat.div_le_self _ _
  generalize 65536 / b = q at *
  have hw : wrap64 (q : Int) = (q : Int) := by unfold wrap64; omega
  have hq : ((q : Int) < (N : Int)) = False := eq_false (by omega)
  clear hb' h h1
  obtain ⟨n_0, o_0, k_0, c_0, rfl⟩ := ha.open2
  go_enter Tryz.func72, Tryz.ntmps72
  have hb := Below.refl w.heap.size w
  refine wp_seq_k ?_
  intro K1 hK1
  refine wp_region_sq [0, 1] (by kernel_rfl) ?_
  refine wpSq_call rfl (by kernel_rfl) fun K hK => ?_
  go_big_op
  obtain ⟨p_b1, w_1, eP, eW, x_b1, hn, kb_b1⟩ := newBox w #[.bool n_0, .slice o_0 k_0 c_0] 24 hb.size
  rw [eW, eP]
  clear eW eP
  replace ha := ha.bl hn; replace hb := hb.trans (hn.mono hb.size)
  refine hK _ _ rfl ?_; clear hK K hn
  refine wpSq_call rfl (by kernel_rfl) fun K hK => ?_
  go_big_move; refine hK _ _ rfl ?_; clear hK K
  apply wpSq_end
  refine hK1 _ _ ?_
  refine wp_seq_k ?_
  intro K2 hK2
  refine wp_region_sq [0, 1, 2] (by kernel_rfl) ?_
  refine wpSq_call rfl (by kernel_rfl) fun K hK => ?_
  obtain ⟨d0, d1⟩ := x_b1.f2
  go_big_op; refine hK _ _ rfl ?_; clear hK K d0 d1
  refine wpSq_call rfl (by kernel_rfl) fun K hK => ?_
  go_big_op
  go_fit (zbits_any ha (by omega) )
  rintro e w_2 ⟨rfl, hb_2⟩
  clear x_b1
  replace ha := ha.bl hb_2; replace hb := hb.trans (hb_2.mono hb.size)
  rw [HB.out]
  refine hK _ _ rfl ?_
  clear hK K hb_2
  refine wpSq_call rfl (by kernel_rfl) fun K hK => ?_
  go_big_move; refine hK _ _ rfl ?_; clear hK K
  apply wpSq_end
  refine hK2 _ _ ?_
  refine wp_seq_k ?_
  intro K3 hK3
  refine wp_region_sq [0, 1, 2, 3, 4, 5, 6, 7, 8] (by kernel_rfl) ?_
  refine wpSq_call rfl (by kernel_rfl) fun K hK => ?_
  go_big_move; refine hK _ _ rfl ?_; clear hK K
  refine wpSq_call rfl (by kernel_rfl) fun K hK => ?_
  go_big_op; refine hK _ _ rfl ?_; clear hK K
  refine wpSq_call rfl (by kernel_rfl) fun K hK => ?_
  go_big_move; refine hK _ _ rfl ?_; clear hK K
  refine wpSq_call rfl (by kernel_rfl) fun K hK => ?_
  go_big_move; refine hK _ _ rfl ?_; clear hK K
  refine wpSq_call rfl (by kernel_rfl) fun K hK => ?_
  go_big_move; refine hK _ _ rfl ?_; clear hK K
  refine wpSq_call rfl (by kernel_rfl) fun K hK => ?_
  go_big_op; refine hK _ _ rfl ?_; clear hK K
  refine wpSq_call rfl (by kernel_rfl) fun K hK => ?_
  go_big_op; refine hK _ _ rfl ?_; clear hK K
  refine wpSq_call rfl (by kernel_rfl) fun K hK => ?_
  go_big_op; refine hK _ _ rfl ?_; clear hK K
  refine wpSq_call rfl (by kernel_rfl) fun K hK => ?_
  go_big_move; refine hK _ _ rfl ?_; clear hK K
  apply wpSq_end
  refine hK3 _ _ ?_
  refine wp_ret ?_
  try dsimp only [Exit.then, Exit.inBlock]
  refine bodyPost_ret (v := (.bool false)) (by simp [results, Tryz.results72, go_sem]) rfl ?_
  exact ⟨rfl, hb⟩
theorem high_no (N : Nat) (ha : ZN w va x l) (hl : l ≤ 10000000) (hN : N ≤ 9223372036854775807) (h : ¬ tooHigh x N) :
    Calls Tryz.prog 72 #[va, .int .i64 N] w fun e w' => e = .returned (.bool false) ∧ Below w.heap.size w w' := by
  rcases (high_cases x N _ rfl).2 h with h1 | ⟨h1, h2⟩
  · exact high_small N ha hl hN h1
  · exact high_two N ha hl hN h1 h2
set_option maxHeartbeats 4000000 in
set_option maxRecDepth 20000 in
theorem fPow_neg (n : Int) (ha : PN w va x l y m) (hl : l ≤ 10000000) (hm : m ≤ 10000000) (h0 : y ≠ 0) (hn : n < 0) :
    Calls Tryz.prog 26 #[va, .int .i64 n] w fun e w' => e = .returned (.tuple #[.agg #[.bool false, .slice none 0 0, .bool false, .slice none 0 0], .int .i64 9]) ∧ Below w.heap.size w w' := by
  have H0 := hide h0
  clear h0
  obtain ⟨n_0a, o_0a, k_0a, c_0a, n_0b, o_0b, k_0b, c_0b, rfl, ha1, ha2⟩ := ha
  go_enter Tryz.func26, Tryz.ntmps26
  have hb := Below.refl w.heap.size w
  refine wp_seq_k ?_
  intro K1 hK1
  refine wp_region_sq [0, 1, 2] (by kernel_rfl) ?_
  refine wpSq_call rfl (by kernel_rfl) fun K hK => ?_
  go_big_op
  obtain ⟨p_b1, w_1, eP, eW, x_b1, hn, kb_b1⟩ := newBox w #[.bool n_0a, .slice o_0a k_0a c_0a, .bool n_0b, .slice o_0b k_0b c_0b] 26 hb.size
  rw [eW, eP]
  clear eW eP
  replace ha1 := ha1.bl hn; replace ha2 := ha2.bl hn; replace hb := hb.trans (hn.mono hb.size)
  refine hK _ _ rfl ?_; clear hK K hn
  refine wpSq_call rfl (by kernel_rfl) fun K hK => ?_
  go_big_op
  have lt_b1 := x_b1.lt
  obtain ⟨p_b2, w_2, eP, eW, x_b2, hn, kb_b2⟩ := newBox w_1 #[.bool false, .slice none 0 0, .bool false, .slice none 0 0] 26 hb.size
  have ne_b1_b2 : Hid (p_b1 ≠ p_b2) := Nat.ne_of_lt (eP ▸ lt_b1)
  rw [eW, eP]
  clear eW eP lt_b1
  replace ha1 := ha1.bl hn; replace ha2 := ha2.bl hn; replace x_b1 := x_b1.bl hn; replace hb := hb.trans (hn.mono hb.size)
  refine hK _ _ rfl ?_; clear hK K hn
  refine wpSq_call rfl (by kernel_rfl) fun K hK => ?_
  go_big_move; refine hK _ _ rfl ?_; clear hK K
  apply wpSq_end
  refine hK1 _ _ ?_
  refine wp_seq_k ?_
  intro K2 hK2
  refine wp_region_sq [0, 1, 2, 3, 4, 5, 6, 7, 8, 9, 10] (by kernel_rfl) ?_
  refine wpSq_call rfl (by kernel_rfl) fun K hK => ?_
  go_big_op; refine hK _ _ rfl ?_; clear hK K
  refine wpSq_call rfl (by kernel_rfl) fun K hK => ?_
  obtain ⟨d0, d1, d2, d3⟩ := x_b1.f4
  go_big_op; refine hK _ _ rfl ?_; clear hK K d0 d1 d2 d3
  refine wpSq_call rfl (by kernel_rfl) fun K hK => ?_
  go_big_op; refine hK _ _ rfl ?_; clear hK K
  refine wpSq_call rfl (by kernel_rfl) fun K hK => ?_
  obtain ⟨d0, d1, d2, d3⟩ := x_b1.f4
  go_big_op; refine hK _ _ rfl ?_; clear hK K d0 d1 d2 d3
  refine wpSq_call rfl (by kernel_rfl) fun K hK => ?_
  go_big_op
  go_fit (fmake_any ha1 ha2 (by omega) (by omega) H0.out)
  rintro e w_3 ⟨_, rfl, ⟨n_ga, o_ga, k_ga, c_ga, n_gb, o_gb, k_gb, c_gb, rfl, g1, g2⟩, hb_3⟩
  clear x_b1
  replace ha1 := ha1.bl hb_3; replace ha2 := ha2.bl hb_3; replace x_b2 := x_b2.bl hb_3; replace hb := hb.trans (hb_3.mono hb.size)
  have Lg1 := hide (g1.lenOf (qN_len (H0.out) (ha1.len)))
  have Lg2 := hide (g2.lenOf (qD_len (H0.out) (ha2.len)))
  refine hK _ _ rfl ?_
  clear hK K hb_3
  refine wpSq_call rfl (by kernel_rfl) fun K hK => ?_
  go_big_move; refine hK _ _ rfl ?_; clear hK K
  refine wpSq_call rfl (by kernel_rfl) fun K hK => ?_
  go_big_op; refine hK _ _ rfl ?_; clear hK K
  refine wpSq_call rfl (by kernel_rfl) fun K hK => ?_
  go_big_op; refine hK _ _ rfl ?_; clear hK K
  refine wpSq_call rfl (by kernel_rfl) fun K hK => ?_
  go_big_op
  clear ha1 ha2
  have lt_b2 := x_b2.lt
  obtain ⟨p_b3, w_4, eP, eW, x_b3, hn, kb_b3⟩ := newBox w_3 #[.bool false, .slice none 0 0, .bool false, .slice none 0 0] 26 hb.size
  have ne_b2_b3 : Hid (p_b2 ≠ p_b3) := Nat.ne_of_lt (eP ▸ lt_b2)
  rw [eW, eP]
  clear eW eP lt_b2
  replace x_b2 := x_b2.bl hn; replace g1 := g1.bl hn; replace g2 := g2.bl hn; replace hb := hb.trans (hn.mono hb.size)
  refine hK _ _ rfl ?_; clear hK K hn
  refine wpSq_call rfl (by kernel_rfl) fun K hK => ?_
  obtain ⟨d0, d1, d2, d3⟩ := x_b3.f4
  have f0 := x_b3.free 0; have f1 := x_b3.free 1; have f2 := x_b3.free 2; have f3 := x_b3.free 3
  go_big_op
  have hnd := x_b3.nod rfl rfl
  obtain ⟨w_5, eW, x_b3', ho⟩ : ∃ w', ((((w_4.setCell ⟨p_b3, 0, none⟩ (.bool n_ga)).setCell ⟨p_b3, 1, none⟩ (.slice o_ga k_ga c_ga)).setCell ⟨p_b3, 2, none⟩ (.bool n_gb)).setCell ⟨p_b3, 3, none⟩ (.slice o_gb k_gb c_gb)) = w' ∧ Bs w' p_b3 #[.bool n_ga, .slice o_ga k_ga c_ga, .bool n_gb, .slice o_gb k_gb c_gb] 26 ∧ Only p_b3 w_4 w' := x_b3.setN [(0, .bool n_ga), (1, .slice o_ga k_ga c_ga), (2, .bool n_gb), (3, .slice o_gb k_gb c_gb)]
  rw [eW]; clear eW d0 d1 d2 d3 f0 f1 f2 f3 x_b3
  have x_b3 := x_b3'; clear x_b3'
  replace x_b2 := x_b2.frame ho ne_b2_b3; replace g1 := g1.fr hnd ho; replace g2 := g2.fr hnd ho; replace hb := belowOnly hb ho kb_b3
  refine hK _ _ rfl ?_; clear hK K ho hnd
  refine wpSq_call rfl (by kernel_rfl) fun K hK => ?_
  go_big_move; refine hK _ _ rfl ?_; clear hK K
  apply wpSq_end
  refine hK2 _ _ ?_
  refine wp_seq_k ?_
  intro K3 hK3
  refine wp_seq_k ?_
  intro K4 hK4
  refine wp_region_sq [0, 1] (by kernel_rfl) ?_
  refine wpSq_call rfl (by kernel_rfl) fun K hK => ?_
  go_big_move; refine hK _ _ rfl ?_; clear hK K
  refine wpSq_call rfl (by kernel_rfl) fun K hK => ?_
  go_big_op; refine hK _ _ rfl ?_; clear hK K
  apply wpSq_end
  refine hK4 _ _ ?_
  refine wp_cond_false (congrArg Value.bool (show _ = false from (by first | rfl | assumption | (simp; done) | omega))) ?_
  refine wp_skip ?_
  refine hK3 _ _ ?_
  refine wp_seq_k ?_
  intro K5 hK5
  refine wp_seq_k ?_
  intro K6 hK6
  refine wp_region_sq [0, 1] (by kernel_rfl) ?_
  refine wpSq_call rfl (by kernel_rfl) fun K hK => ?_
  go_big_move; refine hK _ _ rfl ?_; clear hK K
  refine wpSq_call rfl (by kernel_rfl) fun K hK => ?_
  go_big_op; refine hK _ _ rfl ?_; clear hK K
  apply wpSq_end
  refine hK6 _ _ ?_
  refine wp_cond_true (congrArg Value.bool (show _ = true from (by first | rfl | assumption | (simp; done) | omega))) ?_
  refine wp_seq_k ?_
  intro K7 hK7
  refine wp_region_sq [0, 1, 2] (by kernel_rfl) ?_
  refine wpSq_call rfl (by kernel_rfl) fun K hK => ?_
  go_big_op; refine hK _ _ rfl ?_; clear hK K
  refine wpSq_call rfl (by kernel_rfl) fun K hK => ?_
  obtain ⟨d0, d1, d2, d3⟩ := x_b2.f4
  have f0 := x_b2.free 0; have f1 := x_b2.free 1; have f2 := x_b2.free 2; have f3 := x_b2.free 3
  go_big_op
  have hnd := x_b2.nod rfl rfl
  obtain ⟨w_6, eW, x_b2', ho⟩ : ∃ w', ((((w_5.setCell ⟨p_b2, 0, none⟩ (.bool false)).setCell ⟨p_b2, 1, none⟩ (.slice none 0 0)).setCell ⟨p_b2, 2, none⟩ (.bool false)).setCell ⟨p_b2, 3, none⟩ (.slice none 0 0)) = w' ∧ Bs w' p_b2 #[.bool false, .slice none 0 0, .bool false, .slice none 0 0] 26 ∧ Only p_b2 w_5 w' := x_b2.setN [(0, .bool false), (1, .slice none 0 0), (2, .bool false), (3, .slice none 0 0)]
  rw [eW]; clear eW d0 d1 d2 d3 f0 f1 f2 f3 x_b2
  have x_b2 := x_b2'; clear x_b2'
  replace g1 := g1.fr hnd ho; replace g2 := g2.fr hnd ho; replace x_b3 := x_b3.frame ho ne_b2_b3.symm; replace hb := belowOnly hb ho kb_b2
  refine hK _ _ rfl ?_; clear hK K ho hnd
  refine wpSq_call rfl (by kernel_rfl) fun K hK => ?_
  go_big_move; refine hK _ _ rfl ?_; clear hK K
  apply wpSq_end
  refine hK7 _ _ ?_
  refine wp_ret ?_
  try dsimp only [Exit.then, Exit.inBlock]
  obtain ⟨r0_0, r0_1, r0_2, r0_3⟩ := x_b2.f4
  refine bodyPost_ret (v := (.tuple #[(.agg #[.bool false, .slice none 0 0, .bool false, .slice none 0 0]), (.int .i64 9)])) (by simp [results, Tryz.results26, go_sem, r0_0, r0_1, r0_2, r0_3]) rfl ?_
  exact ⟨rfl, hb⟩
set_option maxHeartbeats 4000000 in
set_option maxRecDepth 20000 in
theorem fPow_high1 (N : Nat) (ha : PN w va x l y m) (hl : l ≤ 10000000) (hm : m ≤ 10000000) (h0 : y ≠ 0) (hN : N ≤ 9223372036854775807) (h1 : tooHigh (qN x y) N) :
    Calls Tryz.prog 26 #[va, .int .i64 N] w fun e w' => e = .returned (.tuple #[.agg #[.bool false, .slice none 0 0, .bool false, .slice none 0 0], .int .i64 12]) ∧ Below w.heap.size w w' := by
  have H0 := hide h0
  have H1 := hide h1
  clear h0 h1
  obtain ⟨n_0a, o_0a, k_0a, c_0a, n_0b, o_0b, k_0b, c_0b, rfl, ha1, ha2⟩ := ha
  go_enter Tryz.func26, Tryz.ntmps26
  have hb := Below.refl w.heap.size w
  refine wp_seq_k ?_
  intro K1 hK1
  refine wp_region_sq [0, 1, 2] (by kernel_rfl) ?_
  refine wpSq_call rfl (by kernel_rfl) fun K hK => ?_
  go_big_op
  obtain ⟨p_b1, w_1, eP, eW, x_b1, hn, kb_b1⟩ := newBox w #[.bool n_0a, .slice o_0a k_0a c_0a, .bool n_0b, .slice o_0b k_0b c_0b] 26 hb.size
  rw [eW, eP]
  clear eW eP
  replace ha1 := ha1.bl hn; replace ha2 := ha2.bl hn; replace hb := hb.trans (hn.mono hb.size)
  refine hK _ _ rfl ?_; clear hK K hn
  refine wpSq_call rfl (by kernel_rfl) fun K hK => ?_
  go_big_op
  have lt_b1 := x_b1.lt
  obtain ⟨p_b2, w_2, eP, eW, x_b2, hn, kb_b2⟩ := newBox w_1 #[.bool false, .slice none 0 0, .bool false, .slice none 0 0] 26 hb.size
  have ne_b1_b2 : Hid (p_b1 ≠ p_b2) := Nat.ne_of_lt (eP ▸ lt_b1)
  rw [eW, eP]
  clear eW eP lt_b1
  replace ha1 := ha1.bl hn; replace ha2 := ha2.bl hn; replace x_b1 := x_b1.bl hn; replace hb := hb.trans (hn.mono hb.size)
  refine hK _ _ rfl ?_; clear hK K hn
  refine wpSq_call rfl (by kernel_rfl) fun K hK => ?_
  go_big_move; refine hK _ _ rfl ?_; clear hK K
  apply wpSq_end
  refine hK1 _ _ ?_
  refine wp_seq_k ?_
  intro K2 hK2
  refine wp_region_sq [0, 1, 2, 3, 4, 5, 6, 7, 8, 9, 10] (by kernel_rfl) ?_
  refine wpSq_call rfl (by kernel_rfl) fun K hK => ?_
  go_big_op; refine hK _ _ rfl ?_; clear hK K
  refine wpSq_call rfl (by kernel_rfl) fun K hK => ?_
  obtain ⟨d0, d1, d2, d3⟩ := x_b1.f4
  go_big_op; refine hK _ _ rfl ?_; clear hK K d0 d1 d2 d3
  refine wpSq_call rfl (by kernel_rfl) fun K hK => ?_
  go_big_op; refine hK _ _ rfl ?_; clear hK K
  refine wpSq_call rfl (by kernel_rfl) fun K hK => ?_
  obtain ⟨d0, d1, d2, d3⟩ := x_b1.f4
  go_big_op; refine hK _ _ rfl ?_; clear hK K d0 d1 d2 d3
  refine wpSq_call rfl (by kernel_rfl) fun K hK => ?_
  go_big_op
  go_fit (fmake_any ha1 ha2 (by omega) (by omega) H0.out)
  rintro e w_3 ⟨_, rfl, ⟨n_ga, o_ga, k_ga, c_ga, n_gb, o_gb, k_gb, c_gb, rfl, g1, g2⟩, hb_3⟩
  clear x_b1
  replace ha1 := ha1.bl hb_3; replace ha2 := ha2.bl hb_3; replace x_b2 := x_b2.bl hb_3; replace hb := hb.trans (hb_3.mono hb.size)
  have Lg1 := hide (g1.lenOf (qN_len (H0.out) (ha1.len)))
  have Lg2 := hide (g2.lenOf (qD_len (H0.out) (ha2.len)))
  refine hK _ _ rfl ?_
  clear hK K hb_3
  refine wpSq_call rfl (by kernel_rfl) fun K hK => ?_
  go_big_move; refine hK _ _ rfl ?_; clear hK K
  refine wpSq_call rfl (by kernel_rfl) fun K hK => ?_
  go_big_op; refine hK _ _ rfl ?_; clear hK K
  refine wpSq_call rfl (by kernel_rfl) fun K hK => ?_
  go_big_op; refine hK _ _ rfl ?_; clear hK K
  refine wpSq_call rfl (by kernel_rfl) fun K hK => ?_
  go_big_op
  clear ha1 ha2
  have lt_b2 := x_b2.lt
  obtain ⟨p_b3, w_4, eP, eW, x_b3, hn, kb_b3⟩ := newBox w_3 #[.bool false, .slice none 0 0, .bool false, .slice none 0 0] 26 hb.size
  have ne_b2_b3 : Hid (p_b2 ≠ p_b3) := Nat.ne_of_lt (eP ▸ lt_b2)
  rw [eW, eP]
  clear eW eP lt_b2
  replace x_b2 := x_b2.bl hn; replace g1 := g1.bl hn; replace g2 := g2.bl hn; replace hb := hb.trans (hn.mono hb.size)
  refine hK _ _ rfl ?_; clear hK K hn
  refine wpSq_call rfl (by kernel_rfl) fun K hK => ?_
  obtain ⟨d0, d1, d2, d3⟩ := x_b3.f4
  have f0 := x_b3.free 0; have f1 := x_b3.free 1; have f2 := x_b3.free 2; have f3 := x_b3.free 3
  go_big_op
  have hnd := x_b3.nod rfl rfl
  obtain ⟨w_5, eW, x_b3', ho⟩ : ∃ w', ((((w_4.setCell ⟨p_b3, 0, none⟩ (.bool n_ga)).setCell ⟨p_b3, 1, none⟩ (.slice o_ga k_ga c_ga)).setCell ⟨p_b3, 2, none⟩ (.bool n_gb)).setCell ⟨p_b3, 3, none⟩ (.slice o_gb k_gb c_gb)) = w' ∧ Bs w' p_b3 #[.bool n_ga, .slice o_ga k_ga c_ga, .bool n_gb, .slice o_gb k_gb c_gb] 26 ∧ Only p_b3 w_4 w' := x_b3.setN [(0, .bool n_ga), (1, .slice o_ga k_ga c_ga), (2, .bool n_gb), (3, .slice o_gb k_gb c_gb)]
  rw [eW]; clear eW d0 d1 d2 d3 f0 f1 f2 f3 x_b3
  have x_b3 := x_b3'; clear x_b3'
  replace x_b2 := x_b2.frame ho ne_b2_b3; replace g1 := g1.fr hnd ho; replace g2 := g2.fr hnd ho; replace hb := belowOnly hb ho kb_b3
  refine hK _ _ rfl ?_; clear hK K ho hnd
  refine wpSq_call rfl (by kernel_rfl) fun K hK => ?_
  go_big_move; refine hK _ _ rfl ?_; clear hK K
  apply wpSq_end
  refine hK2 _ _ ?_
  refine wp_seq_k ?_
  intro K3 hK3
  refine wp_seq_k ?_
  intro K4 hK4
  refine wp_region_sq [0, 1] (by kernel_rfl) ?_
  refine wpSq_call rfl (by kernel_rfl) fun K hK => ?_
  go_big_move; refine hK _ _ rfl ?_; clear hK K
  refine wpSq_call rfl (by kernel_rfl) fun K hK => ?_
  go_big_op; refine hK _ _ rfl ?_; clear hK K
  apply wpSq_end
  refine hK4 _ _ ?_
  refine wp_cond_false (congrArg Value.bool (show _ = false from (by first | rfl | assumption | (simp; done) | omega))) ?_
  refine wp_skip ?_
  refine hK3 _ _ ?_
  refine wp_seq_k ?_
  intro K5 hK5
  refine wp_seq_k ?_
  intro K6 hK6
  refine wp_region_sq [0, 1] (by kernel_rfl) ?_
  refine wpSq_call rfl (by kernel_rfl) fun K hK => ?_
  go_big_move; refine hK _ _ rfl ?_; clear hK K
  refine wpSq_call rfl (by kernel_rfl) fun K hK => ?_
  go_big_op; refine hK _ _ rfl ?_; clear hK K
  apply wpSq_end
  refine hK6 _ _ ?_
  refine wp_cond_false (congrArg Value.bool (show _ = false from (by first | rfl | assumption | (simp; done) | omega))) ?_
  refine wp_skip ?_
  refine hK5 _ _ ?_
  refine wp_seq_k ?_
  intro K7 hK7
  refine wp_seq_k ?_
  intro K8 hK8
  refine wp_region_sq [0, 1, 2, 3, 4, 5, 6, 7, 8, 9] (by kernel_rfl) ?_
  refine wpSq_call rfl (by kernel_rfl) fun K hK => ?_
  go_big_op; refine hK _ _ rfl ?_; clear hK K
  refine wpSq_call rfl (by kernel_rfl) fun K hK => ?_
  obtain ⟨d0, d1, d2, d3⟩ := x_b3.f4
  go_big_op; refine hK _ _ rfl ?_; clear hK K d0 d1 d2 d3
  refine wpSq_call rfl (by kernel_rfl) fun K hK => ?_
  go_big_move; refine hK _ _ rfl ?_; clear hK K
  refine wpSq_call rfl (by kernel_rfl) fun K hK => ?_
  go_big_op
  go_fit (high_yes N (g1.zn Lg1.out) (by omega) hN H1.out)
  rintro e w_6 ⟨rfl, hb_6⟩
  replace x_b2 := x_b2.bl hb_6; replace g1 := g1.bl hb_6; replace g2 := g2.bl hb_6; replace x_b3 := x_b3.bl hb_6; replace hb := hb.trans (hb_6.mono hb.size)
  refine hK _ _ rfl ?_
  clear hK K hb_6
  refine wpSq_call rfl (by kernel_rfl) fun K hK => ?_
  go_big_move; refine hK _ _ rfl ?_; clear hK K
  apply wpSq_skip
  case hi => rfl
  case hw => kernel_rfl
  case hp => unfold Act.put; simp only [List.setIfInBounds_toArray, List.set_cons_succ, List.set_cons_zero]; rfl
  apply wpSq_skip
  case hi => rfl
  case hw => kernel_rfl
  case hp => unfold Act.put; simp only [List.setIfInBounds_toArray, List.set_cons_succ, List.set_cons_zero]; rfl
  apply wpSq_skip
  case hi => rfl
  case hw => kernel_rfl
  case hp => unfold Act.put; simp only [List.setIfInBounds_toArray, List.set_cons_succ, List.set_cons_zero]; rfl
  apply wpSq_skip
  case hi => rfl
  case hw => kernel_rfl
  case hp => unfold Act.put; simp only [List.setIfInBounds_toArray, List.set_cons_succ, List.set_cons_zero]; rfl
  refine wpSq_call rfl (by kernel_rfl) fun K hK => ?_
  go_big_op; refine hK _ _ rfl ?_; clear hK K
  apply wpSq_end
  refine hK8 _ _ ?_
  refine wp_cond_true (congrArg Value.bool (show _ = true from (by first | rfl | assumption | (simp; done) | omega))) ?_
  refine wp_seq_k ?_
  intro K9 hK9
  refine wp_region_sq [0, 1, 2] (by kernel_rfl) ?_
  refine wpSq_call rfl (by kernel_rfl) fun K hK => ?_
  go_big_op; refine hK _ _ rfl ?_; clear hK K
  refine wpSq_call rfl (by kernel_rfl) fun K hK => ?_
  obtain ⟨d0, d1, d2, d3⟩ := x_b2.f4
  have f0 := x_b2.free 0; have f1 := x_b2.free 1; have f2 := x_b2.free 2; have f3 := x_b2.free 3
  go_big_op
  have hnd := x_b2.nod rfl rfl
  obtain ⟨w_7, eW, x_b2', ho⟩ : ∃ w', ((((w_6.setCell ⟨p_b2, 0, none⟩ (.bool false)).setCell ⟨p_b2, 1, none⟩ (.slice none 0 0)).setCell ⟨p_b2, 2, none⟩ (.bool false)).setCell ⟨p_b2, 3, none⟩ (.slice none 0 0)) = w' ∧ Bs w' p_b2 #[.bool false, .slice none 0 0, .bool false, .slice none 0 0] 26 ∧ Only p_b2 w_6 w' := x_b2.setN [(0, .bool false), (1, .slice none 0 0), (2, .bool false), (3, .slice none 0 0)]
  rw [eW]; clear eW d0 d1 d2 d3 f0 f1 f2 f3 x_b2
  have x_b2 := x_b2'; clear x_b2'
  replace g1 := g1.fr hnd ho; replace g2 := g2.fr hnd ho; replace x_b3 := x_b3.frame ho ne_b2_b3.symm; replace hb := belowOnly hb ho kb_b2
  refine hK _ _ rfl ?_; clear hK K ho hnd
  refine wpSq_call rfl (by kernel_rfl) fun K hK => ?_
  go_big_move; refine hK _ _ rfl ?_; clear hK K
  apply wpSq_end
  refine hK9 _ _ ?_
  refine wp_ret ?_
  try dsimp only [Exit.then, Exit.inBlock]
  obtain ⟨r0_0, r0_1, r0_2, r0_3⟩ := x_b2.f4
  refine bodyPost_ret (v := (.tuple #[(.agg #[.bool false, .slice none 0 0, .bool false, .slice none 0 0]), (.int .i64 12)])) (by simp [results, Tryz.results26, go_sem, r0_0, r0_1, r0_2, r0_3]) rfl ?_
  exact ⟨rfl, hb⟩
set_option maxHeartbeats 4000000 in
set_option maxRecDepth 20000 in
theorem fPow_high2 (N : Nat) (ha : PN w va x l y m) (hl : l ≤ 10000000) (hm : m ≤ 10000000) (h0 : y ≠ 0) (hN : N ≤ 9223372036854775807) (h1 : ¬ tooHigh (qN x y) N) (h2 : tooHigh (qD x y) N) :
    Calls Tryz.prog 26 #[va, .int .i64 N] w fun e w' => e = .returned (.tuple #[.agg #[.bool false, .slice none 0 0, .bool false, .slice none 0 0], .int .i64 12]) ∧ Below w.heap.size w w' := by
  have H0 := hide h0
  have H1 := hide h1
  have H2 := hide h2
  clear h0 h1 h2
  obtain ⟨n_0a, o_0a, k_0a, c_0a, n_0b, o_0b, k_0b, c_0b, rfl, ha1, ha2⟩ := ha
  go_enter Tryz.func26, Tryz.ntmps26
  have hb := Below.refl w.heap.size w
  refine wp_seq_k ?_
  intro K1 hK1
  refine wp_region_sq [0, 1, 2] (by kernel_rfl) ?_
  refine wpSq_call rfl (by kernel_rfl) fun K hK => ?_
  go_big_op
  obtain ⟨p_b1, w_1, eP, eW, x_b1, hn, kb_b1⟩ := newBox w #[.bool n_0a, .slice o_0a k_0a c_0a, .bool n_0b, .slice o_0b k_0b c_0b] 26 hb.size
  rw [eW, eP]
  clear eW eP
  replace ha1 := ha1.bl hn; replace ha2 := ha2.bl hn; replace hb := hb.trans (hn.mono hb.size)
  refine hK _ _ rfl ?_; clear hK K hn
  refine wpSq_call rfl (by kernel_rfl) fun K hK => ?_
  go_big_op
  have lt_b1 := x_b1.lt
  obtain ⟨p_b2, w_2, eP, eW, x_b2, hn, kb_b2⟩ := newBox w_1 #[.bool false, .slice none 0 0, .bool false, .slice none 0 0] 26 hb.size
  have ne_b1_b2 : Hid (p_b1 ≠ p_b2) := Nat.ne_of_lt (eP ▸ lt_b1)
  rw [eW, eP]
  clear eW eP lt_b1
  replace ha1 := ha1.bl hn; replace ha2 := ha2.bl hn; replace x_b1 := x_b1.bl hn; replace hb := hb.trans (hn.mono hb.size)
  refine hK _ _ rfl ?_; clear hK K hn
  refine wpSq_call rfl (by kernel_rfl) fun K hK => ?_
  go_big_move; refine hK _ _ rfl ?_; clear hK K
  apply wpSq_end
  refine hK1 _ _ ?_
  refine wp_seq_k ?_
  intro K2 hK2
  refine wp_region_sq [0, 1, 2, 3, 4, 5, 6, 7, 8, 9, 10] (by kernel_rfl) ?_
  refine wpSq_call rfl (by kernel_rfl) fun K hK => ?_
  go_big_op; refine hK _ _ rfl ?_; clear hK K
  refine wpSq_call rfl (by kernel_rfl) fun K hK => ?_
  obtain ⟨d0, d1, d2, d3⟩ := x_b1.f4
  go_big_op; refine hK _ _ rfl ?_; clear hK K d0 d1 d2 d3
  refine wpSq_call rfl (by kernel_rfl) fun K hK => ?_
  go_big_op; refine hK _ _ rfl ?_; clear hK K
  refine wpSq_call rfl (by kernel_rfl) fun K hK => ?_
  obtain ⟨d0, d1, d2, d3⟩ := x_b1.f4
  go_big_op; refine hK _ _ rfl ?_; clear hK K d0 d1 d2 d3
  refine wpSq_call rfl (by kernel_rfl) fun K hK => ?_
  go_big_op
  go_fit (fmake_any ha1 ha2 (by omega) (by omega) H0.out)
  rintro e w_3 ⟨_, rfl, ⟨n_ga, o_ga, k_ga, c_ga, n_gb, o_gb, k_gb, c_gb, rfl, g1, g2⟩, hb_3⟩
  clear x_b1
  replace ha1 := ha1.bl hb_3; replace ha2 := ha2.bl hb_3; replace x_b2 := x_b2.bl hb_3; replace hb := hb.trans (hb_3.mono hb.size)
  have Lg1 := hide (g1.lenOf (qN_len (H0.out) (ha1.len)))
  have Lg2 := hide (g2.lenOf (qD_len (H0.out) (ha2.len)))
  refine hK _ _ rfl ?_
  clear hK K hb_3
  refine wpSq_call rfl (by kernel_rfl) fun K hK => ?_
  go_big_move; refine hK _ _ rfl ?_; clear hK K
  refine wpSq_call rfl (by kernel_rfl) fun K hK => ?_
  go_big_op; refine hK _ _ rfl ?_; clear hK K
  refine wpSq_call rfl (by kernel_rfl) fun K hK => ?_
  go_big_op; refine hK _ _ rfl ?_; clear hK K
  refine wpSq_call rfl (by kernel_rfl) fun K hK => ?_
  go_big_op
  clear ha1 ha2
  have lt_b2 := x_b2.lt
  obtain ⟨p_b3, w_4, eP, eW, x_b3, hn, kb_b3⟩ := newBox w_3 #[.bool false, .slice none 0 0, .bool false, .slice none 0 0] 26 hb.size
  have ne_b2_b3 : Hid (p_b2 ≠ p_b3) := Nat.ne_of_lt (eP ▸ lt_b2)
  rw [eW, eP]
  clear eW eP lt_b2
  replace x_b2 := x_b2.bl hn; replace g1 := g1.bl hn; replace g2 := g2.bl hn; replace hb := hb.trans (hn.mono hb.size)
  refine hK _ _ rfl ?_; clear hK K hn
  refine wpSq_call rfl (by kernel_rfl) fun K hK => ?_
  obtain ⟨d0, d1, d2, d3⟩ := x_b3.f4
  have f0 := x_b3.free 0; have f1 := x_b3.free 1; have f2 := x_b3.free 2; have f3 := x_b3.free 3
  go_big_op
  have hnd := x_b3.nod rfl rfl
  obtain ⟨w_5, eW, x_b3', ho⟩ : ∃ w', ((((w_4.setCell ⟨p_b3, 0, none⟩ (.bool n_ga)).setCell ⟨p_b3, 1, none⟩ (.slice o_ga k_ga c_ga)).setCell ⟨p_b3, 2, none⟩ (.bool n_gb)).setCell ⟨p_b3, 3, none⟩ (.slice o_gb k_gb c_gb)) = w' ∧ Bs w' p_b3 #[.bool n_ga, .slice o_ga k_ga c_ga, .bool n_gb, .slice o_gb k_gb c_gb] 26 ∧ Only p_b3 w_4 w' := x_b3.setN [(0, .bool n_ga), (1, .slice o_ga k_ga c_ga), (2, .bool n_gb), (3, .slice o_gb k_gb c_gb)]
  rw [eW]; clear eW d0 d1 d2 d3 f0 f1 f2 f3 x_b3
  have x_b3 := x_b3'; clear x_b3'
  replace x_b2 := x_b2.frame ho ne_b2_b3; replace g1 := g1.fr hnd ho; replace g2 := g2.fr hnd ho; replace hb := belowOnly hb ho kb_b3
  refine hK _ _ rfl ?_; clear hK K ho hnd
  refine wpSq_call rfl (by kernel_rfl) fun K hK => ?_
  go_big_move; refine hK _ _ rfl ?_; clear hK K
  apply wpSq_end
  refine hK2 _ _ ?_
  refine wp_seq_k ?_
  intro K3 hK3
  refine wp_seq_k ?_
  intro K4 hK4
  refine wp_region_sq [0, 1] (by kernel_rfl) ?_
  refine wpSq_call rfl (by kernel_rfl) fun K hK => ?_
  go_big_move; refine hK _ _ rfl ?_; clear hK K
  refine wpSq_call rfl (by kernel_rfl) fun K hK => ?_
  go_big_op; refine hK _ _ rfl ?_; clear hK K
  apply wpSq_end
  refine hK4 _ _ ?_
  refine wp_cond_false (congrArg Value.bool (show _ = false from (by first | rfl | assumption | (simp; done) | omega))) ?_
  refine wp_skip ?_
  refine hK3 _ _ ?_
  refine wp_seq_k ?_
  intro K5 hK5
  refine wp_seq_k ?_
  intro K6 hK6
  refine wp_region_sq [0, 1] (by kernel_rfl) ?_
  refine wpSq_call rfl (by kernel_rfl) fun K hK => ?_
  go_big_move; refine hK _ _ rfl ?_; clear hK K
  refine wpSq_call rfl (by kernel_rfl) fun K hK => ?_
  go_big_op; refine hK _ _ rfl ?_; clear hK K
  apply wpSq_end
  refine hK6 _ _ ?_
  refine wp_cond_false (congrArg Value.bool (show _ = false from (by first | rfl | assumption | (simp; done) | omega))) ?_
  refine wp_skip ?_
  refine hK5 _ _ ?_
  refine wp_seq_k ?_
  intro K7 hK7
  refine wp_seq_k ?_
  intro K8 hK8
  refine wp_region_sq [0, 1, 2, 3, 4, 5, 6, 7, 8, 9] (by kernel_rfl) ?_
  refine wpSq_call rfl (by kernel_rfl) fun K hK => ?_
  go_big_op; refine hK _ _ rfl ?_; clear hK K
  refine wpSq_call rfl (by kernel_rfl) fun K hK => ?_
  obtain ⟨d0, d1, d2, d3⟩ := x_b3.f4
  go_big_op; refine hK _ _ rfl ?_; clear hK K d0 d1 d2 d3
  refine wpSq_call rfl (by kernel_rfl) fun K hK => ?_
  go_big_move; refine hK _ _ rfl ?_; clear hK K
  refine wpSq_call rfl (by kernel_rfl) fun K hK => ?_
  go_big_op
  go_fit (high_no N (g1.zn Lg1.out) (by omega) hN H1.out)
  rintro e w_6 ⟨rfl, hb_6⟩
  replace x_b2 := x_b2.bl hb_6; replace g1 := g1.bl hb_6; replace g2 := g2.bl hb_6; replace x_b3 := x_b3.bl hb_6; replace hb := hb.trans (hb_6.mono hb.size)
  refine hK _ _ rfl ?_
  clear hK K hb_6
  refine wpSq_call rfl (by kernel_rfl) fun K hK => ?_
  go_big_move; refine hK _ _ rfl ?_; clear hK K
  refine wpSq_call rfl (by kernel_rfl) fun K hK => ?_
  go_big_op; refine hK _ _ rfl ?_; clear hK K
  refine wpSq_call rfl (by kernel_rfl) fun K hK => ?_
  obtain ⟨d0, d1, d2, d3⟩ := x_b3.f4
  go_big_op; refine hK _ _ rfl ?_; clear hK K d0 d1 d2 d3
  refine wpSq_call rfl (by kernel_rfl) fun K hK => ?_
  go_big_move; refine hK _ _ rfl ?_; clear hK K
  refine wpSq_call rfl (by kernel_rfl) fun K hK => ?_
  go_big_op
  go_fit (high_yes N (g2.zn Lg2.out) (by omega) hN H2.out)
  rintro e w_7 ⟨rfl, hb_7⟩
  replace x_b2 := x_b2.bl hb_7; replace g1 := g1.bl hb_7; replace g2 := g2.bl hb_7; replace x_b3 := x_b3.bl hb_7; replace hb := hb.trans (hb_7.mono hb.size)
  refine hK _ _ rfl ?_
  clear hK K hb_7
  refine wpSq_call rfl (by kernel_rfl) fun K hK => ?_
  go_big_op; refine hK _ _ rfl ?_; clear hK K
  apply wpSq_end
  refine hK8 _ _ ?_
  refine wp_cond_true (congrArg Value.bool (show _ = true from (by first | rfl | assumption | (simp; done) | omega))) ?_
  refine wp_seq_k ?_
  intro K9 hK9
  refine wp_region_sq [0, 1, 2] (by kernel_rfl) ?_
  refine wpSq_call rfl (by kernel_rfl) fun K hK => ?_
  go_big_op; refine hK _ _ rfl ?_; clear hK K
  refine wpSq_call rfl (by kernel_rfl) fun K hK => ?_
  obtain ⟨d0, d1, d2, d3⟩ := x_b2.f4
  have f0 := x_b2.free 0; have f1 := x_b2.free 1; have f2 := x_b2.free 2; have f3 := x_b2.free 3
  go_big_op
  have hnd := x_b2.nod rfl rfl
  obtain ⟨w_8, eW, x_b2', ho⟩ : ∃ w', ((((w_7.setCell ⟨p_b2, 0, none⟩ (.bool false)).setCell ⟨p_b2, 1, none⟩ (.slice none 0 0)).setCell ⟨p_b2, 2, none⟩ (.bool false)).setCell ⟨p_b2, 3, none⟩ (.slice none 0 0)) = w' ∧ Bs w' p_b2 #[.bool false, .slice none 0 0, .bool false, .slice none 0 0] 26 ∧ Only p_b2 w_7 w' := x_b2.setN [(0, .bool false), (1, .slice none 0 0), (2, .bool false), (3, .slice none 0 0)]
  rw [eW]; clear eW d0 d1 d2 d3 f0 f1 f2 f3 x_b2
  have x_b2 := x_b2'; clear x_b2'
  replace g1 := g1.fr hnd ho; replace g2 := g2.fr hnd ho; replace x_b3 := x_b3.frame ho ne_b2_b3.symm; replace hb := belowOnly hb ho kb_b2
  refine hK _ _ rfl ?_; clear hK K ho hnd
  refine wpSq_call rfl (by kernel_rfl) fun K hK => ?_
  go_big_move; refine hK _ _ rfl ?_; clear hK K
  apply wpSq_end
  refine hK9 _ _ ?_
  refine wp_ret ?_
  try dsimp only [Exit.then, Exit.inBlock]
  obtain ⟨r0_0, r0_1, r0_2, r0_3⟩ := x_b2.f4
  refine bodyPost_ret (v := (.tuple #[(.agg #[.bool false, .slice none 0 0, .bool false, .slice none 0 0]), (.int .i64 12)])) (by simp [results, Tryz.results26, go_sem, r0_0, r0_1, r0_2, r0_3]) rfl ?_
  exact ⟨rfl, hb⟩
theorem fPow_high (N : Nat) (ha : PN w va x l y m) (hl : l ≤ 10000000) (hm : m ≤ 10000000) (h0 : y ≠ 0) (hN : N ≤ 9223372036854775807) (h : tooHigh (qN x y) N ∨ tooHigh (qD x y) N) :
    Calls Tryz.prog 26 #[va, .int .i64 N] w fun e w' => e = .returned (.tuple #[.agg #[.bool false, .slice none 0 0, .bool false, .slice none 0 0], .int .i64 12]) ∧ Below w.heap.size w w' := by
  by_cases h1 : tooHigh (qN x y) N
  · exact fPow_high1 N ha hl hm h0 hN h1
  · exact fPow_high2 N ha hl hm h0 hN h1 (h.resolve_left h1)
set_option maxHeartbeats 4000000 in
set_option maxRecDepth 20000 in
theorem fPow_any (N : Nat) (ha : PN w va x l y m) (hl : l ≤ 10000000) (hm : m ≤ 10000000) (h0 : y ≠ 0) (hN : N ≤ 9223372036854775807) (h1 : ¬ tooHigh (qN x y) N) (h2 : ¬ tooHigh (qD x y) N) :
    Calls Tryz.prog 26 #[va, .int .i64 N] w fun e w' => ∃ r, e = .returned (.tuple #[r, .int .i64 0]) ∧ PC w' r (qN x y ^ N) (qD x y ^ N) ∧ Below w.heap.size w w' := by
  have H0 := hide h0
  have H1 := hide h1
  have H2 := hide h2
  have L1 := hide (pow_len h1)
  have L2 := hide (pow_len h2)
  clear h0 h1 h2
  obtain ⟨n_0a, o_0a, k_0a, c_0a, n_0b, o_0b, k_0b, c_0b, rfl, ha1, ha2⟩ := ha
  go_enter Tryz.func26, Tryz.ntmps26
  have hb := Below.refl w.heap.size w
  refine wp_seq_k ?_
  intro K1 hK1
  refine wp_region_sq [0, 1, 2] (by kernel_rfl) ?_
  refine wpSq_call rfl (by kernel_rfl) fun K hK => ?_
  go_big_op
  obtain ⟨p_b1, w_1, eP, eW, x_b1, hn, kb_b1⟩ := newBox w #[.bool n_0a, .slice o_0a k_0a c_0a, .bool n_0b, .slice o_0b k_0b c_0b] 26 hb.size
  rw [eW, eP]
  clear eW eP
  replace ha1 := ha1.bl hn; replace ha2 := ha2.bl hn; replace hb := hb.trans (hn.mono hb.size)
  refine hK _ _ rfl ?_; clear hK K hn
  refine wpSq_call rfl (by kernel_rfl) fun K hK => ?_
  go_big_op
  have lt_b1 := x_b1.lt
  obtain ⟨p_b2, w_2, eP, eW, x_b2, hn, kb_b2⟩ := newBox w_1 #[.bool false, .slice none 0 0, .bool false, .slice none 0 0] 26 hb.size
  have ne_b1_b2 : Hid (p_b1 ≠ p_b2) := Nat.ne_of_lt (eP ▸ lt_b1)
  rw [eW, eP]
  clear eW eP lt_b1
  replace ha1 := ha1.bl hn; replace ha2 := ha2.bl hn; replace x_b1 := x_b1.bl hn; replace hb := hb.trans (hn.mono hb.size)
  refine hK _ _ rfl ?_; clear hK K hn
  refine wpSq_call rfl (by kernel_rfl) fun K hK => ?_
  go_big_move; refine hK _ _ rfl ?_; clear hK K
  apply wpSq_end
  refine hK1 _ _ ?_
  refine wp_seq_k ?_
  intro K2 hK2
  refine wp_region_sq [0, 1, 2, 3, 4, 5, 6, 7, 8, 9, 10] (by kernel_rfl) ?_
  refine wpSq_call rfl (by kernel_rfl) fun K hK => ?_
  go_big_op; refine hK _ _ rfl ?_; clear hK K
  refine wpSq_call rfl (by kernel_rfl) fun K hK => ?_
  obtain ⟨d0, d1, d2, d3⟩ := x_b1.f4
  go_big_op; refine hK _ _ rfl ?_; clear hK K d0 d1 d2 d3
  refine wpSq_call rfl (by kernel_rfl) fun K hK => ?_
  go_big_op; refine hK _ _ rfl ?_; clear hK K
  refine wpSq_call rfl (by kernel_rfl) fun K hK => ?_
  obtain ⟨d0, d1, d2, d3⟩ := x_b1.f4
  go_big_op; refine hK _ _ rfl ?_; clear hK K d0 d1 d2 d3
  refine wpSq_call rfl (by kernel_rfl) fun K hK => ?_
  go_big_op
  go_fit (fmake_any ha1 ha2 (by omega) (by omega) H0.out)
  rintro e w_3 ⟨_, rfl, ⟨n_ga, o_ga, k_ga, c_ga, n_gb, o_gb, k_gb, c_gb, rfl, g1, g2⟩, hb_3⟩
  clear x_b1
  replace ha1 := ha1.bl hb_3; replace ha2 := ha2.bl hb_3; replace x_b2 := x_b2.bl hb_3; replace hb := hb.trans (hb_3.mono hb.size)
  have Lg1 := hide (g1.lenOf (qN_len (H0.out) (ha1.len)))
  have Lg2 := hide (g2.lenOf (qD_len (H0.out) (ha2.len)))
  refine hK _ _ rfl ?_
  clear hK K hb_3
  refine wpSq_call rfl (by kernel_rfl) fun K hK => ?_
  go_big_move; refine hK _ _ rfl ?_; clear hK K
  refine wpSq_call rfl (by kernel_rfl) fun K hK => ?_
  go_big_op; refine hK _ _ rfl ?_; clear hK K
  refine wpSq_call rfl (by kernel_rfl) fun K hK => ?_
  go_big_op; refine hK _ _ rfl ?_; clear hK K
  refine wpSq_call rfl (by kernel_rfl) fun K hK => ?_
  go_big_op
  clear ha1 ha2
  have lt_b2 := x_b2.lt
  obtain ⟨p_b3, w_4, eP, eW, x_b3, hn, kb_b3⟩ := newBox w_3 #[.bool false, .slice none 0 0, .bool false, .slice none 0 0] 26 hb.size
  have ne_b2_b3 : Hid (p_b2 ≠ p_b3) := Nat.ne_of_lt (eP ▸ lt_b2)
  rw [eW, eP]
  clear eW eP lt_b2
  replace x_b2 := x_b2.bl hn; replace g1 := g1.bl hn; replace g2 := g2.bl hn; replace hb := hb.trans (hn.mono hb.size)
  refine hK _ _ rfl ?_; clear hK K hn
  refine wpSq_call rfl (by kernel_rfl) fun K hK => ?_
  obtain ⟨d0, d1, d2, d3⟩ := x_b3.f4
  have f0 := x_b3.free 0; have f1 := x_b3.free 1; have f2 := x_b3.free 2; have f3 := x_b3.free 3
  go_big_op
  have hnd := x_b3.nod rfl rfl
  obtain ⟨w_5, eW, x_b3', ho⟩ : ∃ w', ((((w_4.setCell ⟨p_b3, 0, none⟩ (.bool n_ga)).setCell ⟨p_b3, 1, none⟩ (.slice o_ga k_ga c_ga)).setCell ⟨p_b3, 2, none⟩ (.bool n_gb)).setCell ⟨p_b3, 3, none⟩ (.slice o_gb k_gb c_gb)) = w' ∧ Bs w' p_b3 #[.bool n_ga, .slice o_ga k_ga c_ga, .bool n_gb, .slice o_gb k_gb c_gb] 26 ∧ Only p_b3 w_4 w' := x_b3.setN [(0, .bool n_ga), (1, .slice o_ga k_ga c_ga), (2, .bool n_gb), (3, .slice o_gb k_gb c_gb)]
  rw [eW]; clear eW d0 d1 d2 d3 f0 f1 f2 f3 x_b3
  have x_b3 := x_b3'; clear x_b3'
  replace x_b2 := x_b2.frame ho ne_b2_b3; replace g1 := g1.fr hnd ho; replace g2 := g2.fr hnd ho; replace hb := belowOnly hb ho kb_b3
  refine hK _ _ rfl ?_; clear hK K ho hnd
  refine wpSq_call rfl (by kernel_rfl) fun K hK => ?_
  go_big_move; refine hK _ _ rfl ?_; clear hK K
  apply wpSq_end
  refine hK2 _ _ ?_
  refine wp_seq_k ?_
  intro K3 hK3
  refine wp_seq_k ?_
  intro K4 hK4
  refine wp_region_sq [0, 1] (by kernel_rfl) ?_
  refine wpSq_call rfl (by kernel_rfl) fun K hK => ?_
  go_big_move; refine hK _ _ rfl ?_; clear hK K
  refine wpSq_call rfl (by kernel_rfl) fun K hK => ?_
  go_big_op; refine hK _ _ rfl ?_; clear hK K
  apply wpSq_end
  refine hK4 _ _ ?_
  refine wp_cond_false (congrArg Value.bool (show _ = false from (by first | rfl | assumption | (simp; done) | omega))) ?_
  refine wp_skip ?_
  refine hK3 _ _ ?_
  refine wp_seq_k ?_
  intro K5 hK5
  refine wp_seq_k ?_
  intro K6 hK6
  refine wp_region_sq [0, 1] (by kernel_rfl) ?_
  refine wpSq_call rfl (by kernel_rfl) fun K hK => ?_
  go_big_move; refine hK _ _ rfl ?_; clear hK K
  refine wpSq_call rfl (by kernel_rfl) fun K hK => ?_
  go_big_op; refine hK _ _ rfl ?_; clear hK K
  apply wpSq_end
  refine hK6 _ _ ?_
  refine wp_cond_false (congrArg Value.bool (show _ = false from (by first | rfl | assumption | (simp; done) | omega))) ?_
  refine wp_skip ?_
  refine hK5 _ _ ?_
  refine wp_seq_k ?_
  intro K7 hK7
  refine wp_seq_k ?_
  intro K8 hK8
  refine wp_region_sq [0, 1, 2, 3, 4, 5, 6, 7, 8, 9] (by kernel_rfl) ?_
  refine wpSq_call rfl (by kernel_rfl) fun K hK => ?_
  go_big_op; refine hK _ _ rfl ?_; clear hK K
  refine wpSq_call rfl (by kernel_rfl) fun K hK => ?_
  obtain ⟨d0, d1, d2, d3⟩ := x_b3.f4
  go_big_op; refine hK _ _ rfl ?_; clear hK K d0 d1 d2 d3
  refine wpSq_call rfl (by kernel_rfl) fun K hK => ?_
  go_big_move; refine hK _ _ rfl ?_; clear hK K
  refine wpSq_call rfl (by kernel_rfl) fun K hK => ?_
  go_big_op
  go_fit (high_no N (g1.zn Lg1.out) (by omega) hN H1.out)
  rintro e w_6 ⟨rfl, hb_6⟩
  replace x_b2 := x_b2.bl hb_6; replace g1 := g1.bl hb_6; replace g2 := g2.bl hb_6; replace x_b3 := x_b3.bl hb_6; replace hb := hb.trans (hb_6.mono hb.size)
  refine hK _ _ rfl ?_
  clear hK K hb_6
  refine wpSq_call rfl (by kernel_rfl) fun K hK => ?_
  go_big_move; refine hK _ _ rfl ?_; clear hK K
  refine wpSq_call rfl (by kernel_rfl) fun K hK => ?_
  go_big_op; refine hK _ _ rfl ?_; clear hK K
  refine wpSq_call rfl (by kernel_rfl) fun K hK => ?_
  obtain ⟨d0, d1, d2, d3⟩ := x_b3.f4
  go_big_op; refine hK _ _ rfl ?_; clear hK K d0 d1 d2 d3
  refine wpSq_call rfl (by kernel_rfl) fun K hK => ?_
  go_big_move; refine hK _ _ rfl ?_; clear hK K
  refine wpSq_call rfl (by kernel_rfl) fun K hK => ?_
  go_big_op
  go_fit (high_no N (g2.zn Lg2.out) (by omega) hN H2.out)
  rintro e w_7 ⟨rfl, hb_7⟩
  replace x_b2 := x_b2.bl hb_7; replace g1 := g1.bl hb_7; replace g2 := g2.bl hb_7; replace x_b3 := x_b3.bl hb_7; replace hb := hb.trans (hb_7.mono hb.size)
  refine hK _ _ rfl ?_
  clear hK K hb_7
  refine wpSq_call rfl (by kernel_rfl) fun K hK => ?_
  go_big_op; refine hK _ _ rfl ?_; clear hK K
  apply wpSq_end
  refine hK8 _ _ ?_
  refine wp_cond_false (congrArg Value.bool (show _ = false from (by first | rfl | assumption | (simp; done) | omega))) ?_
  refine wp_skip ?_
  refine hK7 _ _ ?_
  refine wp_seq_k ?_
  intro K9 hK9
  refine wp_region_fl2 [(0, false), (1, false), (2, false), (4, false), (5, false), (6, false), (3, true), (7, true), (8, false)] [9, 10] [] (fun _ => default) [99, 0, 99, 99, 99, 0, 99, 99, 99, 99, 99] [] (fun w' => w'.cell? ⟨p_b3, 0, none⟩ = some (.bool n_ga) ∧ w'.cell? ⟨p_b3, 1, none⟩ = some (.slice o_ga k_ga c_ga) ∧ w'.cell? ⟨p_b3, 2, none⟩ = some (.bool n_gb) ∧ w'.cell? ⟨p_b3, 3, none⟩ = some (.slice o_gb k_gb c_gb)) [fun w' => w'.cell? ⟨p_b3, 0, none⟩ = some (.bool n_ga) ∧ w'.cell? ⟨p_b3, 1, none⟩ = some (.slice o_ga k_ga c_ga) ∧ w'.cell? ⟨p_b3, 2, none⟩ = some (.bool n_gb) ∧ w'.cell? ⟨p_b3, 3, none⟩ = some (.slice o_gb k_gb c_gb)] (by kernel_rfl) (by kernel_rfl) (by kernel_rfl) (by kernel_rfl) (by kernel_rfl) (by kernel_rfl) (by kernel_rfl) (by kernel_rfl) (by decide) (by intro j hj; cases hj) (by intro w' o hC; obtain ⟨c0, c1, c2, c3⟩ := hC; exact ⟨cell_alloc c0 o, cell_alloc c1 o, cell_alloc c2 o, cell_alloc c3 o⟩) (by intro w' hC G hG; obtain ⟨c0, c1, c2, c3⟩ := hC; simp only [List.mem_cons, List.not_mem_nil, or_false] at hG; rcases hG with rfl <;> first | exact ⟨c0, c1, c2, c3⟩) ?_
  have lt_b2 := x_b2.lt
  have lt_b3 := x_b3.lt
  intro w_8 hn
  replace lt_b2 := Nat.lt_of_lt_of_le lt_b2 hn.size
  replace lt_b3 := Nat.lt_of_lt_of_le lt_b3 hn.size
  replace x_b2 := x_b2.bl hn; replace g1 := g1.bl hn; replace g2 := g2.bl hn; replace x_b3 := x_b3.bl hn; replace hb := hb.trans (hn.mono hb.size)
  clear hn
  have kb0 := hb.size
  refine ⟨⟨x_b3.cell 0 rfl, x_b3.cell 1 rfl, x_b3.cell 2 rfl, x_b3.cell 3 rfl⟩, ?_⟩
  apply wpFl_ld rfl rfl; (case h1 => intro w' hC K hK; go_big_op; exact hK); iterate 4 kernel_rfl
  apply wpFl_ld rfl rfl; (case h1 => intro w' hC K hK; obtain ⟨c0, c1, c2, c3⟩ := hC; go_big_op; exact hK); iterate 4 kernel_rfl
  apply wpFl_ld rfl rfl; (case h1 => intro w' hC K hK; go_big_move; exact hK); iterate 4 kernel_rfl
  apply wpFl_ld rfl rfl; (case h1 => intro w' hC K hK; go_big_op; exact hK); iterate 4 kernel_rfl
  apply wpFl_ld rfl rfl; (case h1 => intro w' hC K hK; obtain ⟨c0, c1, c2, c3⟩ := hC; go_big_op; exact hK); iterate 4 kernel_rfl
  apply wpFl_ld rfl rfl; (case h1 => intro w' hC K hK; go_big_move; exact hK); iterate 4 kernel_rfl
  refine wpFl_call rfl (by kernel_rfl) fun w_9 hn hC => ?_; clear hC
  replace x_b2 := x_b2.bl hn; replace g1 := g1.bl hn; replace g2 := g2.bl hn; replace x_b3 := x_b3.bl hn; replace hb := hb.trans (hn.mono hb.size)
  clear hn; intro K hK
  go_big_op
  go_fit (qpow_any N (g1.zn Lg1.out) (by omega) hN (by decide) L1.out)
  rintro e w_10 ⟨v_g3, rfl, g3, hb_10⟩
  replace x_b2 := x_b2.bl hb_10; replace g1 := g1.bl hb_10; replace g2 := g2.bl hb_10; replace x_b3 := x_b3.bl hb_10; replace hb := hb.trans (hb_10.mono hb.size)
  obtain ⟨n_g3, o_g3, k_g3, c_g3, rfl⟩ := g3.open2
  have Lg3 := hide (g3.lenOf (L1.out _ (Nat.le_refl _)))
  refine hK _ _ rfl hb_10 ⟨x_b3.cell 0 rfl, x_b3.cell 1 rfl, x_b3.cell 2 rfl, x_b3.cell 3 rfl⟩ ?_
  clear hK K hb_10
  refine wpFl_call rfl (by kernel_rfl) fun w_11 hn hC => ?_; clear hC
  replace x_b2 := x_b2.bl hn; replace g1 := g1.bl hn; replace g2 := g2.bl hn; replace x_b3 := x_b3.bl hn; replace g3 := g3.bl hn; replace hb := hb.trans (hn.mono hb.size)
  clear hn; intro K hK
  go_big_op
  go_fit (qpow_any N (g2.zn Lg2.out) (by omega) hN (by decide) L2.out)
  rintro e w_12 ⟨v_g4, rfl, g4, hb_12⟩
  replace x_b2 := x_b2.bl hb_12; replace g1 := g1.bl hb_12; replace g2 := g2.bl hb_12; replace x_b3 := x_b3.bl hb_12; replace g3 := g3.bl hb_12; replace hb := hb.trans (hb_12.mono hb.size)
  obtain ⟨n_g4, o_g4, k_g4, c_g4, rfl⟩ := g4.open2
  have Lg4 := hide (g4.lenOf (L2.out _ (Nat.le_refl _)))
  refine hK _ _ rfl hb_12 ⟨x_b3.cell 0 rfl, x_b3.cell 1 rfl, x_b3.cell 2 rfl, x_b3.cell 3 rfl⟩ ?_
  clear hK K hb_12
  apply wpFl_ld rfl rfl; (case h1 => intro w' hC K hK; go_big_op; exact hK); iterate 4 kernel_rfl
  apply wpFl_end
  case ha => intro pt; simp only [putF]; rfl
  case h =>
  intro w_13 pt hn hC hF hD
  clear hC
  replace x_b2 := x_b2.bl hn; replace g1 := g1.bl hn; replace g2 := g2.bl hn; replace x_b3 := x_b3.bl hn; replace g3 := g3.bl hn; replace g4 := g4.bl hn; replace hb := hb.trans (hn.mono hb.size)
  clear hn
  clear hF hD
  clear pt
  clear kb0 lt_b2 lt_b3
  refine wpTail_call rfl (by kernel_rfl) fun K hK => ?_
  obtain ⟨d0, d1, d2, d3⟩ := x_b2.f4
  have f0 := x_b2.free 0; have f1 := x_b2.free 1; have f2 := x_b2.free 2; have f3 := x_b2.free 3
  go_big_op
  have hnd := x_b2.nod rfl rfl
  obtain ⟨w_14, eW, x_b2', ho⟩ : ∃ w', ((((w_13.setCell ⟨p_b2, 0, none⟩ (.bool n_g3)).setCell ⟨p_b2, 1, none⟩ (.slice o_g3 k_g3 c_g3)).setCell ⟨p_b2, 2, none⟩ (.bool n_g4)).setCell ⟨p_b2, 3, none⟩ (.slice o_g4 k_g4 c_g4)) = w' ∧ Bs w' p_b2 #[.bool n_g3, .slice o_g3 k_g3 c_g3, .bool n_g4, .slice o_g4 k_g4 c_g4] 26 ∧ Only p_b2 w_13 w' := x_b2.setN [(0, .bool n_g3), (1, .slice o_g3 k_g3 c_g3), (2, .bool n_g4), (3, .slice o_g4 k_g4 c_g4)]
  rw [eW]; clear eW d0 d1 d2 d3 f0 f1 f2 f3 x_b2
  have x_b2 := x_b2'; clear x_b2'
  replace g1 := g1.fr hnd ho; replace g2 := g2.fr hnd ho; replace x_b3 := x_b3.frame ho ne_b2_b3.symm; replace g3 := g3.fr hnd ho; replace g4 := g4.fr hnd ho; replace hb := belowOnly hb ho kb_b2
  refine hK _ _ rfl (And.intro ⟨x_b3.cell 0 rfl, x_b3.cell 1 rfl, x_b3.cell 2 rfl, x_b3.cell 3 rfl⟩ True.intro) ?_; clear hK K ho hnd
  refine wpTail_call rfl (by kernel_rfl) fun K hK => ?_
  go_big_move; refine hK _ _ rfl (And.intro ⟨x_b3.cell 0 rfl, x_b3.cell 1 rfl, x_b3.cell 2 rfl, x_b3.cell 3 rfl⟩ True.intro) ?_; clear hK K
  apply wpTail_end
  refine hK9 _ _ ?_
  refine wp_ret ?_
  try dsimp only [Exit.then, Exit.inBlock]
  obtain ⟨r0_0, r0_1, r0_2, r0_3⟩ := x_b2.f4
  refine bodyPost_ret (v := (.tuple #[(.agg #[.bool n_g3, .slice o_g3 k_g3 c_g3, .bool n_g4, .slice o_g4 k_g4 c_g4]), (.int .i64 0)])) (by simp [results, Tryz.results26, go_sem, r0_0, r0_1, r0_2, r0_3]) rfl ?_
  exact ⟨_, rfl, .mk' g3 g4, hb⟩
end
end Go.Proofs.YtkgbfnmlpajblaaGreatDoor

/- The reference's Pow. -/
namespace Go.Proofs.YtkgbfnmlpajblaaGreatDoor
open Go Go.RowKit Dig
set_option linter.unusedVariables false

theorem ZC.neg {w : World} {n : Bool} {s : Value} {z : Int} (h : ZC w (.agg #[.bool n, s]) z) : n = decide (z < 0) := by
  obtain ⟨t, hv, _⟩ := h
  simp at hv
  exact hv.1
end Go.Proofs.YtkgbfnmlpajblaaGreatDoor

/- The reference's Pow: Q12A. -/
namespace Go.Proofs.YtkgbfnmlpajblaaGreatDoor
open Go Go.RowKit Dig
set_option linter.unusedVariables false
section
variable {w : World} {va vb : Value} {x y u v : Int} {l m k n : Nat}
end
end Go.Proofs.YtkgbfnmlpajblaaGreatDoor

