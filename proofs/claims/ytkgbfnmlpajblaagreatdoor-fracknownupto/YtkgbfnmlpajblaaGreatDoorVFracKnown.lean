/- FracKnown: the law's walk. -/
import Derived.Test.YtkgbfnmlpajblaaGreatDoorQ8ToQ19
namespace Go.Proofs.YtkgbfnmlpajblaaGreatDoor
open Go Go.RowKit Dig
set_option linter.unusedVariables false

set_option maxHeartbeats 8000000 in
set_option maxRecDepth 20000 in
theorem rzeroc0 {w : World} (oa : Option Addr) (cap : Nat) :
    Calls Tryz.prog 25 #[.agg #[.bool (decide ((0 : Int) < 0)), .slice oa 0 cap]] w fun e w' => e = .returned (.bool true) ∧ Below w.heap.size w w' := by
  show Calls Tryz.prog 25 #[.agg #[.bool false, .slice oa 0 cap]] w _
  go_enter Tryz.func25, Tryz.ntmps25
  have hb := Below.refl w.heap.size w
  refine wp_seq_k ?_
  intro K1 hK1
  refine wp_region_sq [0, 1] (by kernel_rfl) ?_
  refine wpSq_call rfl (by kernel_rfl) fun K hK => ?_
  go_big_op
  obtain ⟨p_b1, w_1, eP, eW, x_b1, hn, kb_b1⟩ := newBox w #[.bool false, .slice oa 0 cap] 24 hb.size
  rw [eW, eP]
  clear eW eP
  replace hb := hb.trans (hn.mono hb.size)
  refine hK _ _ rfl ?_; clear hK K hn
  refine wpSq_call rfl (by kernel_rfl) fun K hK => ?_
  go_big_move; refine hK _ _ rfl ?_; clear hK K
  apply wpSq_end
  refine hK1 _ _ ?_
  refine wp_seq_k ?_
  intro K2 hK2
  refine wp_region_sq [0, 1, 2, 3, 4, 5, 6, 7, 8, 9] (by kernel_rfl) ?_
  refine wpSq_call rfl (by kernel_rfl) fun K hK => ?_
  go_big_op; refine hK _ _ rfl ?_; clear hK K
  refine wpSq_call rfl (by kernel_rfl) fun K hK => ?_
  obtain ⟨d0, d1⟩ := x_b1.f2
  go_big_op; refine hK _ _ rfl ?_; clear hK K d0 d1
  refine wpSq_call rfl (by kernel_rfl) fun K hK => ?_
  go_big_op; refine hK _ _ rfl ?_; clear hK K
  refine wpSq_call rfl (by kernel_rfl) fun K hK => ?_
  go_big_move; refine hK _ _ rfl ?_; clear hK K
  refine wpSq_call rfl (by kernel_rfl) fun K hK => ?_
  go_big_op; refine hK _ _ rfl ?_; clear hK K
  refine wpSq_call rfl (by kernel_rfl) fun K hK => ?_
  obtain ⟨d0, d1⟩ := x_b1.f2
  go_big_op; refine hK _ _ rfl ?_; clear hK K d0 d1
  refine wpSq_call rfl (by kernel_rfl) fun K hK => ?_
  go_big_op; refine hK _ _ rfl ?_; clear hK K
  refine wpSq_call rfl (by kernel_rfl) fun K hK => ?_
  go_big_op; refine hK _ _ rfl ?_; clear hK K
  refine wpSq_call rfl (by kernel_rfl) fun K hK => ?_
  go_big_op; refine hK _ _ rfl ?_; clear hK K
  refine wpSq_call rfl (by kernel_rfl) fun K hK => ?_
  go_big_move; refine hK _ _ rfl ?_; clear hK K
  apply wpSq_end
  refine hK2 _ _ ?_
  refine wp_ret ?_
  try dsimp only [Exit.then, Exit.inBlock]
  refine bodyPost_ret (v := (.bool true)) (by simp [results, Tryz.results25, go_sem]) rfl ?_
  exact ⟨rfl, hb⟩
/-- What is 0 and canonical is the zero value, up to its memory: Zero says yes. -/
theorem rzeroc {w : World} {v : Value} (h : ZC w v 0) :
    Calls Tryz.prog 25 #[v] w fun e w' => e = .returned (.bool true) ∧ Below w.heap.size w w' := by
  obtain ⟨s, rfl, oa, cap, hs, hc, ok, hx⟩ := h
  have hl : (dig (Int.natAbs 0)).length = 0 := by decide
  rw [hl] at hs
  subst hs
  exact rzeroc0 oa cap
theorem bits_two (P : Nat) : bitsN (2 ^ P) = P + 1 :=
  bitsN_unique (by omega) (by rw [Nat.add_sub_cancel]; exact Nat.le_refl _) (Nat.pow_lt_pow_right (by decide) (by omega))
theorem ext_fromI (n : Int) (w : World) : Sem.run Tryz.prog (callFunc 29 #[.int .u64 n]) w = Result.ok (Next.value (.float .f64 n.toNat)) w := by kernel_rfl
theorem pow_m1 : qN (-1) 1 ^ 4611686018427387904 = qN 1 1 ∧ qD (-1) 1 ^ 4611686018427387904 = qD 1 1 := by
  obtain ⟨K, hK⟩ : ∃ K, K = 2305843009213693952 := ⟨_, rfl⟩
  rw [show 4611686018427387904 = 2 * K by omega, show qN (-1) 1 = -1 by decide, show qD (-1) 1 = 1 by decide, Int.pow_mul, Int.one_pow, show (-1 : Int) ^ 2 = 1 by decide, Int.one_pow]
  decide
theorem low_one_two (P : Nat) : low 1 (2 ^ P) := ⟨Int.pow_pos (by decide), Int.gcd_one_left _⟩
section
variable {w : World} {va vb : Value} {x y u v : Int} {l m k n : Nat}
set_option maxHeartbeats 8000000 in
set_option maxRecDepth 20000 in
theorem copysign_z (w : World) :
    Calls Tryz.prog 17 #[.float .f64 0, .float .f64 13830554455654793216] w fun e w' => e = .returned (.float .f64 9223372036854775808) ∧ Below w.heap.size w w' := by
  have hA : bits .andNot .u64 0 9223372036854775808 = 0 := by decide
  have hB : bits .and .u64 13830554455654793216 9223372036854775808 = 9223372036854775808 := by decide
  have hC : bits .or .u64 0 9223372036854775808 = 9223372036854775808 := by decide
  go_enter Tryz.func17, Tryz.ntmps17
  have hb := Below.refl w.heap.size w
  refine wp_seq_k ?_
  intro K1 hK1
  refine wp_region_sq [0] (by kernel_rfl) ?_
  refine wpSq_call rfl (by kernel_rfl) fun K hK => ?_
  go_big_move; refine hK _ _ rfl ?_; clear hK K
  apply wpSq_end
  refine hK1 _ _ ?_
  refine wp_seq_k ?_
  intro K2 hK2
  refine wp_region_sq [0, 1, 2, 3, 4, 5, 6, 7, 8] (by kernel_rfl) ?_
  refine wpSq_call rfl (by kernel_rfl) fun K hK => ?_
  go_big_move; refine hK _ _ rfl ?_; clear hK K
  refine wpSq_call rfl (by kernel_rfl) fun K hK => ?_
  go_big_op; rw [ext_bits]; simp only [Oper.upon, Act.put, List.setIfInBounds_toArray, List.set_cons_succ, List.set_cons_zero]; refine hK _ _ rfl ?_; clear hK K
  refine wpSq_call rfl (by kernel_rfl) fun K hK => ?_
  go_big_op; refine hK _ _ rfl ?_; clear hK K
  refine wpSq_call rfl (by kernel_rfl) fun K hK => ?_
  go_big_move; refine hK _ _ rfl ?_; clear hK K
  refine wpSq_call rfl (by kernel_rfl) fun K hK => ?_
  go_big_op; rw [ext_bits]; simp only [Oper.upon, Act.put, List.setIfInBounds_toArray, List.set_cons_succ, List.set_cons_zero]; refine hK _ _ rfl ?_; clear hK K
  refine wpSq_call rfl (by kernel_rfl) fun K hK => ?_
  go_big_op; refine hK _ _ rfl ?_; clear hK K
  refine wpSq_call rfl (by kernel_rfl) fun K hK => ?_
  go_big_op; refine hK _ _ rfl ?_; clear hK K
  refine wpSq_call rfl (by kernel_rfl) fun K hK => ?_
  go_big_op; (first | rw [ext_from] | rw [ext_fromI]); simp only [Oper.upon, Act.put, List.setIfInBounds_toArray, List.set_cons_succ, List.set_cons_zero]; refine hK _ _ rfl ?_; clear hK K
  refine wpSq_call rfl (by kernel_rfl) fun K hK => ?_
  go_big_move; refine hK _ _ rfl ?_; clear hK K
  apply wpSq_end
  refine hK2 _ _ ?_
  refine wp_ret ?_
  try dsimp only [Exit.then, Exit.inBlock]
  refine bodyPost_ret (v := (.float .f64 (Int.toNat 9223372036854775808))) (by simp [results, Tryz.results17, go_sem]) rfl ?_
  exact ⟨rfl, hb⟩
set_option maxHeartbeats 8000000 in
set_option maxRecDepth 20000 in
theorem inf_one (w : World) :
    Calls Tryz.prog 18 #[.int .i64 1] w fun e w' => e = .returned (.float .f64 9218868437227405312) ∧ Below w.heap.size w w' := by
  go_enter Tryz.func18, Tryz.ntmps18
  have hb := Below.refl w.heap.size w
  refine wp_seq_k ?_
  intro K1 hK1
  refine wp_region_sq [0] (by kernel_rfl) ?_
  refine wpSq_call rfl (by kernel_rfl) fun K hK => ?_
  go_big_move; refine hK _ _ rfl ?_; clear hK K
  apply wpSq_end
  refine hK1 _ _ ?_
  refine wp_seq_k ?_
  intro K2 hK2
  refine wp_region_sq [0] (by kernel_rfl) ?_
  refine wpSq_call rfl (by kernel_rfl) fun K hK => ?_
  go_big_move; refine hK _ _ rfl ?_; clear hK K
  apply wpSq_end
  refine hK2 _ _ ?_
  refine wp_seq_k ?_
  intro K3 hK3
  refine wp_seq_k ?_
  intro K4 hK4
  refine wp_region_sq [0, 1] (by kernel_rfl) ?_
  refine wpSq_call rfl (by kernel_rfl) fun K hK => ?_
  go_big_move; refine hK _ _ rfl ?_; clear hK K
  refine wpSq_call rfl (by kernel_rfl) fun K hK => ?_
  go_big_op; refine hK _ _ rfl ?_; clear hK K
  apply wpSq_end
  refine hK4 _ _ ?_
  refine wp_cond_true (congrArg Value.bool (show _ = true from (by first | rfl | assumption | (simp; done) | exact decide_eq_true (by omega) | omega))) ?_
  refine wp_region_sq [0] (by kernel_rfl) ?_
  refine wpSq_call rfl (by kernel_rfl) fun K hK => ?_
  go_big_move; refine hK _ _ rfl ?_; clear hK K
  apply wpSq_end
  refine hK3 _ _ ?_
  refine wp_seq_k ?_
  intro K5 hK5
  refine wp_region_sq [0, 1, 2] (by kernel_rfl) ?_
  refine wpSq_call rfl (by kernel_rfl) fun K hK => ?_
  go_big_move; refine hK _ _ rfl ?_; clear hK K
  refine wpSq_call rfl (by kernel_rfl) fun K hK => ?_
  go_big_op; (first | rw [ext_from] | rw [ext_fromI]); simp only [Oper.upon, Act.put, List.setIfInBounds_toArray, List.set_cons_succ, List.set_cons_zero]; refine hK _ _ rfl ?_; clear hK K
  refine wpSq_call rfl (by kernel_rfl) fun K hK => ?_
  go_big_move; refine hK _ _ rfl ?_; clear hK K
  apply wpSq_end
  refine hK5 _ _ ?_
  refine wp_ret ?_
  try dsimp only [Exit.then, Exit.inBlock]
  refine bodyPost_ret (v := (.float .f64 (Int.toNat 9218868437227405312))) (by simp [results, Tryz.results18, go_sem]) rfl ?_
  exact ⟨rfl, hb⟩
theorem fpk_64 (w : World) : Calls Tryz.prog 48 #[.string ⟨#[54, 47, 52]⟩] w fun e w' => ∃ r, e = .returned (.tuple #[r, .int .i64 0]) ∧ PC w' r (qN 3 2) (qD 3 2) ∧ Below w.heap.size w w' := by
  have h := fParse_ok (s := ⟨#[54, 47, 52]⟩) w (by decide) (show (1 : Nat) < (⟨#[54, 47, 52]⟩ : ByteArray).size by decide) (show Lib.indexByte (⟨#[54, 47, 52]⟩ : ByteArray).data.toList 47 = ((1 : Nat) : Int) by decide) ⟨#[54]⟩ ⟨#[52]⟩ (by decide +kernel) (by decide +kernel) (by decide) (by decide +kernel) (by decide) (by decide +kernel) (by decide +kernel) (by decide +kernel)
  rw [show zvl ⟨#[54]⟩ = 6 by decide +kernel, show zvl ⟨#[52]⟩ = 4 by decide +kernel, show qN 6 4 = qN 3 2 by decide, show qD 6 4 = qD 3 2 by decide] at h
  exact h
set_option maxHeartbeats 8000000 in
set_option maxRecDepth 20000 in
theorem parsed_64 {vb : Value} (hq : PC w vb 3 2) :
    Calls Tryz.prog 28 #[.string ⟨#[54, 47, 52]⟩, vb, .int .i64 0] w fun e w' => e = .returned (.bool true) ∧ Below w.heap.size w w' := by
  have LA := hide (show (dig (3 : Int).natAbs).length ≤ 2 by decide)
  have LB := hide (show (dig (2 : Int).natAbs).length ≤ 2 by decide)
  obtain ⟨n_1a, o_1a, k_1a, c_1a, n_1b, o_1b, k_1b, c_1b, rfl, hq1, hq2⟩ := hq
  go_enter Tryz.func28, Tryz.ntmps28
  have hb := Below.refl w.heap.size w
  refine wp_seq_k ?_
  intro K1 hK1
  refine wp_region_sq [0, 1] (by kernel_rfl) ?_
  refine wpSq_call rfl (by kernel_rfl) fun K hK => ?_
  go_big_op
  obtain ⟨p_b1, w_1, eP, eW, x_b1, hn, kb_b1⟩ := newBox w #[.bool n_1a, .slice o_1a k_1a c_1a, .bool n_1b, .slice o_1b k_1b c_1b] 26 hb.size
  rw [eW, eP]
  clear eW eP
  replace hq1 := hq1.bl hn; replace hq2 := hq2.bl hn; replace hb := hb.trans (hn.mono hb.size)
  refine hK _ _ rfl ?_; clear hK K hn
  refine wpSq_call rfl (by kernel_rfl) fun K hK => ?_
  go_big_move; refine hK _ _ rfl ?_; clear hK K
  apply wpSq_end
  refine hK1 _ _ ?_
  refine wp_seq_k ?_
  intro K2 hK2
  refine wp_region_sq [0, 1, 2, 3, 4, 5, 6, 7] (by kernel_rfl) ?_
  refine wpSq_call rfl (by kernel_rfl) fun K hK => ?_
  go_big_move; refine hK _ _ rfl ?_; clear hK K
  refine wpSq_call rfl (by kernel_rfl) fun K hK => ?_
  go_big_op
  go_fit (fpk_64 _)
  rintro e w_2 ⟨_, rfl, ⟨n_ga, o_ga, k_ga, c_ga, n_gb, o_gb, k_gb, c_gb, rfl, g1, g2⟩, hb_2⟩
  replace hq1 := hq1.bl hb_2; replace hq2 := hq2.bl hb_2; replace x_b1 := x_b1.bl hb_2; replace hb := hb.trans (hb_2.mono hb.size)
  refine hK _ _ rfl ?_
  clear hK K hb_2
  refine wpSq_call rfl (by kernel_rfl) fun K hK => ?_
  go_big_move; refine hK _ _ rfl ?_; clear hK K
  refine wpSq_call rfl (by kernel_rfl) fun K hK => ?_
  go_big_op; refine hK _ _ rfl ?_; clear hK K
  refine wpSq_call rfl (by kernel_rfl) fun K hK => ?_
  go_big_op; refine hK _ _ rfl ?_; clear hK K
  refine wpSq_call rfl (by kernel_rfl) fun K hK => ?_
  go_big_op
  have lt_b1 := x_b1.lt
  obtain ⟨p_b2, w_3, eP, eW, x_b2, hn, kb_b2⟩ := newBox w_2 #[.bool false, .slice none 0 0, .bool false, .slice none 0 0] 26 hb.size
  have ne_b1_b2 : Hid (p_b1 ≠ p_b2) := Nat.ne_of_lt (eP ▸ lt_b1)
  rw [eW, eP]
  clear eW eP lt_b1
  replace hq1 := hq1.bl hn; replace hq2 := hq2.bl hn; replace x_b1 := x_b1.bl hn; replace g1 := g1.bl hn; replace g2 := g2.bl hn; replace hb := hb.trans (hn.mono hb.size)
  refine hK _ _ rfl ?_; clear hK K hn
  refine wpSq_call rfl (by kernel_rfl) fun K hK => ?_
  obtain ⟨d0, d1, d2, d3⟩ := x_b2.f4
  have f0 := x_b2.free 0; have f1 := x_b2.free 1; have f2 := x_b2.free 2; have f3 := x_b2.free 3
  go_big_op
  have hnd := x_b2.nod rfl rfl
  obtain ⟨w_4, eW, x_b2', ho⟩ : ∃ w', ((((w_3.setCell ⟨p_b2, 0, none⟩ (.bool n_ga)).setCell ⟨p_b2, 1, none⟩ (.slice o_ga k_ga c_ga)).setCell ⟨p_b2, 2, none⟩ (.bool n_gb)).setCell ⟨p_b2, 3, none⟩ (.slice o_gb k_gb c_gb)) = w' ∧ Bs w' p_b2 #[.bool n_ga, .slice o_ga k_ga c_ga, .bool n_gb, .slice o_gb k_gb c_gb] 26 ∧ Only p_b2 w_3 w' := x_b2.setN [(0, .bool n_ga), (1, .slice o_ga k_ga c_ga), (2, .bool n_gb), (3, .slice o_gb k_gb c_gb)]
  rw [eW]; clear eW d0 d1 d2 d3 f0 f1 f2 f3 x_b2
  have x_b2 := x_b2'; clear x_b2'
  replace hq1 := hq1.fr hnd ho; replace hq2 := hq2.fr hnd ho; replace x_b1 := x_b1.frame ho ne_b1_b2; replace g1 := g1.fr hnd ho; replace g2 := g2.fr hnd ho; replace hb := belowOnly hb ho kb_b2
  refine hK _ _ rfl ?_; clear hK K ho hnd
  refine wpSq_call rfl (by kernel_rfl) fun K hK => ?_
  go_big_move; refine hK _ _ rfl ?_; clear hK K
  apply wpSq_end
  refine hK2 _ _ ?_
  refine wp_seq_k ?_
  intro K3 hK3
  refine wp_region_sq [0, 1, 2, 3, 4, 5] (by kernel_rfl) ?_
  refine wpSq_call rfl (by kernel_rfl) fun K hK => ?_
  obtain ⟨d0, d1, d2, d3⟩ := x_b2.f4
  go_big_op; refine hK _ _ rfl ?_; clear hK K d0 d1 d2 d3
  refine wpSq_call rfl (by kernel_rfl) fun K hK => ?_
  go_big_move; refine hK _ _ rfl ?_; clear hK K
  refine wpSq_call rfl (by kernel_rfl) fun K hK => ?_
  obtain ⟨d0, d1, d2, d3⟩ := x_b1.f4
  go_big_op; refine hK _ _ rfl ?_; clear hK K d0 d1 d2 d3
  refine wpSq_call rfl (by kernel_rfl) fun K hK => ?_
  go_big_move; refine hK _ _ rfl ?_; clear hK K
  refine wpSq_call rfl (by kernel_rfl) fun K hK => ?_
  go_big_op
  go_fit (ftold_ok (.mk' g1 g2) (.mk' (hq1.zn LA.out) (hq2.zn LB.out)) (by decide) (by decide) (by decide))
  rintro e w_5 ⟨rfl, hb_5⟩
  clear x_b1 x_b2
  replace hq1 := hq1.bl hb_5; replace hq2 := hq2.bl hb_5; replace g1 := g1.bl hb_5; replace g2 := g2.bl hb_5; replace hb := hb.trans (hb_5.mono hb.size)
  refine hK _ _ rfl ?_
  clear hK K hb_5
  refine wpSq_call rfl (by kernel_rfl) fun K hK => ?_
  go_big_move; refine hK _ _ rfl ?_; clear hK K
  apply wpSq_end
  refine hK3 _ _ ?_
  refine wp_ret ?_
  try dsimp only [Exit.then, Exit.inBlock]
  refine bodyPost_ret (v := (.bool true)) (by simp [results, Tryz.results28, go_sem]) rfl ?_
  exact ⟨rfl, hb⟩
theorem fpk_10 (w : World) : Calls Tryz.prog 48 #[.string ⟨#[49, 47, 48]⟩] w fun e w' => e = .returned (.tuple #[.agg #[.bool false, .slice none 0 0, .bool false, .slice none 0 0], .int .i64 5]) ∧ Below w.heap.size w w' := by
  exact fParse_z (s := ⟨#[49, 47, 48]⟩) w (by decide) (show (1 : Nat) < (⟨#[49, 47, 48]⟩ : ByteArray).size by decide) (show Lib.indexByte (⟨#[49, 47, 48]⟩ : ByteArray).data.toList 47 = ((1 : Nat) : Int) by decide) ⟨#[49]⟩ ⟨#[48]⟩ (by decide +kernel) (by decide +kernel) (by decide) (by decide +kernel) (by decide) (by decide +kernel) (by decide +kernel) (by decide +kernel)
set_option maxHeartbeats 8000000 in
set_option maxRecDepth 20000 in
theorem parsed_10 {vb : Value} (hq : PC w vb 0 1) :
    Calls Tryz.prog 28 #[.string ⟨#[49, 47, 48]⟩, vb, .int .i64 5] w fun e w' => e = .returned (.bool true) ∧ Below w.heap.size w w' := by
  have LA := hide (show (dig (0 : Int).natAbs).length ≤ 2 by decide)
  have LB := hide (show (dig (1 : Int).natAbs).length ≤ 2 by decide)
  obtain ⟨n_1a, o_1a, k_1a, c_1a, n_1b, o_1b, k_1b, c_1b, rfl, hq1, hq2⟩ := hq
  go_enter Tryz.func28, Tryz.ntmps28
  have hb := Below.refl w.heap.size w
  refine wp_seq_k ?_
  intro K1 hK1
  refine wp_region_sq [0, 1] (by kernel_rfl) ?_
  refine wpSq_call rfl (by kernel_rfl) fun K hK => ?_
  go_big_op
  obtain ⟨p_b1, w_1, eP, eW, x_b1, hn, kb_b1⟩ := newBox w #[.bool n_1a, .slice o_1a k_1a c_1a, .bool n_1b, .slice o_1b k_1b c_1b] 26 hb.size
  rw [eW, eP]
  clear eW eP
  replace hq1 := hq1.bl hn; replace hq2 := hq2.bl hn; replace hb := hb.trans (hn.mono hb.size)
  refine hK _ _ rfl ?_; clear hK K hn
  refine wpSq_call rfl (by kernel_rfl) fun K hK => ?_
  go_big_move; refine hK _ _ rfl ?_; clear hK K
  apply wpSq_end
  refine hK1 _ _ ?_
  refine wp_seq_k ?_
  intro K2 hK2
  refine wp_region_sq [0, 1, 2, 3, 4, 5, 6, 7] (by kernel_rfl) ?_
  refine wpSq_call rfl (by kernel_rfl) fun K hK => ?_
  go_big_move; refine hK _ _ rfl ?_; clear hK K
  refine wpSq_call rfl (by kernel_rfl) fun K hK => ?_
  go_big_op
  go_fit (fpk_10 _)
  rintro e w_2 ⟨rfl, hb_2⟩
  replace hq1 := hq1.bl hb_2; replace hq2 := hq2.bl hb_2; replace x_b1 := x_b1.bl hb_2; replace hb := hb.trans (hb_2.mono hb.size)
  refine hK _ _ rfl ?_
  clear hK K hb_2
  refine wpSq_call rfl (by kernel_rfl) fun K hK => ?_
  go_big_move; refine hK _ _ rfl ?_; clear hK K
  refine wpSq_call rfl (by kernel_rfl) fun K hK => ?_
  go_big_op; refine hK _ _ rfl ?_; clear hK K
  refine wpSq_call rfl (by kernel_rfl) fun K hK => ?_
  go_big_op; refine hK _ _ rfl ?_; clear hK K
  refine wpSq_call rfl (by kernel_rfl) fun K hK => ?_
  go_big_op
  have lt_b1 := x_b1.lt
  obtain ⟨p_b2, w_3, eP, eW, x_b2, hn, kb_b2⟩ := newBox w_2 #[.bool false, .slice none 0 0, .bool false, .slice none 0 0] 26 hb.size
  have ne_b1_b2 : Hid (p_b1 ≠ p_b2) := Nat.ne_of_lt (eP ▸ lt_b1)
  rw [eW, eP]
  clear eW eP lt_b1
  replace hq1 := hq1.bl hn; replace hq2 := hq2.bl hn; replace x_b1 := x_b1.bl hn; replace hb := hb.trans (hn.mono hb.size)
  refine hK _ _ rfl ?_; clear hK K hn
  refine wpSq_call rfl (by kernel_rfl) fun K hK => ?_
  obtain ⟨d0, d1, d2, d3⟩ := x_b2.f4
  have f0 := x_b2.free 0; have f1 := x_b2.free 1; have f2 := x_b2.free 2; have f3 := x_b2.free 3
  go_big_op
  have hnd := x_b2.nod rfl rfl
  obtain ⟨w_4, eW, x_b2', ho⟩ : ∃ w', ((((w_3.setCell ⟨p_b2, 0, none⟩ (.bool false)).setCell ⟨p_b2, 1, none⟩ (.slice none 0 0)).setCell ⟨p_b2, 2, none⟩ (.bool false)).setCell ⟨p_b2, 3, none⟩ (.slice none 0 0)) = w' ∧ Bs w' p_b2 #[.bool false, .slice none 0 0, .bool false, .slice none 0 0] 26 ∧ Only p_b2 w_3 w' := x_b2.setN [(0, .bool false), (1, .slice none 0 0), (2, .bool false), (3, .slice none 0 0)]
  rw [eW]; clear eW d0 d1 d2 d3 f0 f1 f2 f3 x_b2
  have x_b2 := x_b2'; clear x_b2'
  replace hq1 := hq1.fr hnd ho; replace hq2 := hq2.fr hnd ho; replace x_b1 := x_b1.frame ho ne_b1_b2; replace hb := belowOnly hb ho kb_b2
  refine hK _ _ rfl ?_; clear hK K ho hnd
  refine wpSq_call rfl (by kernel_rfl) fun K hK => ?_
  go_big_move; refine hK _ _ rfl ?_; clear hK K
  apply wpSq_end
  refine hK2 _ _ ?_
  refine wp_seq_k ?_
  intro K3 hK3
  refine wp_region_sq [0, 1, 2, 3, 4, 5] (by kernel_rfl) ?_
  refine wpSq_call rfl (by kernel_rfl) fun K hK => ?_
  obtain ⟨d0, d1, d2, d3⟩ := x_b2.f4
  go_big_op; refine hK _ _ rfl ?_; clear hK K d0 d1 d2 d3
  refine wpSq_call rfl (by kernel_rfl) fun K hK => ?_
  go_big_move; refine hK _ _ rfl ?_; clear hK K
  refine wpSq_call rfl (by kernel_rfl) fun K hK => ?_
  obtain ⟨d0, d1, d2, d3⟩ := x_b1.f4
  go_big_op; refine hK _ _ rfl ?_; clear hK K d0 d1 d2 d3
  refine wpSq_call rfl (by kernel_rfl) fun K hK => ?_
  go_big_move; refine hK _ _ rfl ?_; clear hK K
  refine wpSq_call rfl (by kernel_rfl) fun K hK => ?_
  go_big_op
  go_fit (ftold_err 5 (.mk' hq1 hq2) (by decide))
  rintro e w_5 ⟨rfl, hb_5⟩
  clear x_b1 x_b2
  replace hq1 := hq1.bl hb_5; replace hq2 := hq2.bl hb_5; replace hb := hb.trans (hb_5.mono hb.size)
  refine hK _ _ rfl ?_
  clear hK K hb_5
  refine wpSq_call rfl (by kernel_rfl) fun K hK => ?_
  go_big_move; refine hK _ _ rfl ?_; clear hK K
  apply wpSq_end
  refine hK3 _ _ ?_
  refine wp_ret ?_
  try dsimp only [Exit.then, Exit.inBlock]
  refine bodyPost_ret (v := (.bool true)) (by simp [results, Tryz.results28, go_sem]) rfl ?_
  exact ⟨rfl, hb⟩
theorem fpk_1m (w : World) : Calls Tryz.prog 48 #[.string ⟨#[49, 47, 45, 50]⟩] w fun e w' => e = .returned (.tuple #[.agg #[.bool false, .slice none 0 0, .bool false, .slice none 0 0], .int .i64 7]) ∧ Below w.heap.size w w' := by
  exact fParse_b0 (s := ⟨#[49, 47, 45, 50]⟩) w (by decide) (show (1 : Nat) < (⟨#[49, 47, 45, 50]⟩ : ByteArray).size by decide) (show Lib.indexByte (⟨#[49, 47, 45, 50]⟩ : ByteArray).data.toList 47 = ((1 : Nat) : Int) by decide) ⟨#[49]⟩ ⟨#[45, 50]⟩ (by decide +kernel) (by decide +kernel) (by decide) (by decide +kernel) (fun w => parseDen_minus _ w (by decide +kernel))
set_option maxHeartbeats 8000000 in
set_option maxRecDepth 20000 in
theorem parsed_1m {vb : Value} (hq : PC w vb 0 1) :
    Calls Tryz.prog 28 #[.string ⟨#[49, 47, 45, 50]⟩, vb, .int .i64 7] w fun e w' => e = .returned (.bool true) ∧ Below w.heap.size w w' := by
  have LA := hide (show (dig (0 : Int).natAbs).length ≤ 2 by decide)
  have LB := hide (show (dig (1 : Int).natAbs).length ≤ 2 by decide)
  obtain ⟨n_1a, o_1a, k_1a, c_1a, n_1b, o_1b, k_1b, c_1b, rfl, hq1, hq2⟩ := hq
  go_enter Tryz.func28, Tryz.ntmps28
  have hb := Below.refl w.heap.size w
  refine wp_seq_k ?_
  intro K1 hK1
  refine wp_region_sq [0, 1] (by kernel_rfl) ?_
  refine wpSq_call rfl (by kernel_rfl) fun K hK => ?_
  go_big_op
  obtain ⟨p_b1, w_1, eP, eW, x_b1, hn, kb_b1⟩ := newBox w #[.bool n_1a, .slice o_1a k_1a c_1a, .bool n_1b, .slice o_1b k_1b c_1b] 26 hb.size
  rw [eW, eP]
  clear eW eP
  replace hq1 := hq1.bl hn; replace hq2 := hq2.bl hn; replace hb := hb.trans (hn.mono hb.size)
  refine hK _ _ rfl ?_; clear hK K hn
  refine wpSq_call rfl (by kernel_rfl) fun K hK => ?_
  go_big_move; refine hK _ _ rfl ?_; clear hK K
  apply wpSq_end
  refine hK1 _ _ ?_
  refine wp_seq_k ?_
  intro K2 hK2
  refine wp_region_sq [0, 1, 2, 3, 4, 5, 6, 7] (by kernel_rfl) ?_
  refine wpSq_call rfl (by kernel_rfl) fun K hK => ?_
  go_big_move; refine hK _ _ rfl ?_; clear hK K
  refine wpSq_call rfl (by kernel_rfl) fun K hK => ?_
  go_big_op
  go_fit (fpk_1m _)
  rintro e w_2 ⟨rfl, hb_2⟩
  replace hq1 := hq1.bl hb_2; replace hq2 := hq2.bl hb_2; replace x_b1 := x_b1.bl hb_2; replace hb := hb.trans (hb_2.mono hb.size)
  refine hK _ _ rfl ?_
  clear hK K hb_2
  refine wpSq_call rfl (by kernel_rfl) fun K hK => ?_
  go_big_move; refine hK _ _ rfl ?_; clear hK K
  refine wpSq_call rfl (by kernel_rfl) fun K hK => ?_
  go_big_op; refine hK _ _ rfl ?_; clear hK K
  refine wpSq_call rfl (by kernel_rfl) fun K hK => ?_
  go_big_op; refine hK _ _ rfl ?_; clear hK K
  refine wpSq_call rfl (by kernel_rfl) fun K hK => ?_
  go_big_op
  have lt_b1 := x_b1.lt
  obtain ⟨p_b2, w_3, eP, eW, x_b2, hn, kb_b2⟩ := newBox w_2 #[.bool false, .slice none 0 0, .bool false, .slice none 0 0] 26 hb.size
  have ne_b1_b2 : Hid (p_b1 ≠ p_b2) := Nat.ne_of_lt (eP ▸ lt_b1)
  rw [eW, eP]
  clear eW eP lt_b1
  replace hq1 := hq1.bl hn; replace hq2 := hq2.bl hn; replace x_b1 := x_b1.bl hn; replace hb := hb.trans (hn.mono hb.size)
  refine hK _ _ rfl ?_; clear hK K hn
  refine wpSq_call rfl (by kernel_rfl) fun K hK => ?_
  obtain ⟨d0, d1, d2, d3⟩ := x_b2.f4
  have f0 := x_b2.free 0; have f1 := x_b2.free 1; have f2 := x_b2.free 2; have f3 := x_b2.free 3
  go_big_op
  have hnd := x_b2.nod rfl rfl
  obtain ⟨w_4, eW, x_b2', ho⟩ : ∃ w', ((((w_3.setCell ⟨p_b2, 0, none⟩ (.bool false)).setCell ⟨p_b2, 1, none⟩ (.slice none 0 0)).setCell ⟨p_b2, 2, none⟩ (.bool false)).setCell ⟨p_b2, 3, none⟩ (.slice none 0 0)) = w' ∧ Bs w' p_b2 #[.bool false, .slice none 0 0, .bool false, .slice none 0 0] 26 ∧ Only p_b2 w_3 w' := x_b2.setN [(0, .bool false), (1, .slice none 0 0), (2, .bool false), (3, .slice none 0 0)]
  rw [eW]; clear eW d0 d1 d2 d3 f0 f1 f2 f3 x_b2
  have x_b2 := x_b2'; clear x_b2'
  replace hq1 := hq1.fr hnd ho; replace hq2 := hq2.fr hnd ho; replace x_b1 := x_b1.frame ho ne_b1_b2; replace hb := belowOnly hb ho kb_b2
  refine hK _ _ rfl ?_; clear hK K ho hnd
  refine wpSq_call rfl (by kernel_rfl) fun K hK => ?_
  go_big_move; refine hK _ _ rfl ?_; clear hK K
  apply wpSq_end
  refine hK2 _ _ ?_
  refine wp_seq_k ?_
  intro K3 hK3
  refine wp_region_sq [0, 1, 2, 3, 4, 5] (by kernel_rfl) ?_
  refine wpSq_call rfl (by kernel_rfl) fun K hK => ?_
  obtain ⟨d0, d1, d2, d3⟩ := x_b2.f4
  go_big_op; refine hK _ _ rfl ?_; clear hK K d0 d1 d2 d3
  refine wpSq_call rfl (by kernel_rfl) fun K hK => ?_
  go_big_move; refine hK _ _ rfl ?_; clear hK K
  refine wpSq_call rfl (by kernel_rfl) fun K hK => ?_
  obtain ⟨d0, d1, d2, d3⟩ := x_b1.f4
  go_big_op; refine hK _ _ rfl ?_; clear hK K d0 d1 d2 d3
  refine wpSq_call rfl (by kernel_rfl) fun K hK => ?_
  go_big_move; refine hK _ _ rfl ?_; clear hK K
  refine wpSq_call rfl (by kernel_rfl) fun K hK => ?_
  go_big_op
  go_fit (ftold_err 7 (.mk' hq1 hq2) (by decide))
  rintro e w_5 ⟨rfl, hb_5⟩
  clear x_b1 x_b2
  replace hq1 := hq1.bl hb_5; replace hq2 := hq2.bl hb_5; replace hb := hb.trans (hb_5.mono hb.size)
  refine hK _ _ rfl ?_
  clear hK K hb_5
  refine wpSq_call rfl (by kernel_rfl) fun K hK => ?_
  go_big_move; refine hK _ _ rfl ?_; clear hK K
  apply wpSq_end
  refine hK3 _ _ ?_
  refine wp_ret ?_
  try dsimp only [Exit.then, Exit.inBlock]
  refine bodyPost_ret (v := (.bool true)) (by simp [results, Tryz.results28, go_sem]) rfl ?_
  exact ⟨rfl, hb⟩
theorem fpk_1e (w : World) : Calls Tryz.prog 48 #[.string ⟨#[49, 47]⟩] w fun e w' => e = .returned (.tuple #[.agg #[.bool false, .slice none 0 0, .bool false, .slice none 0 0], .int .i64 7]) ∧ Below w.heap.size w w' := by
  exact fParse_b0 (s := ⟨#[49, 47]⟩) w (by decide) (show (1 : Nat) < (⟨#[49, 47]⟩ : ByteArray).size by decide) (show Lib.indexByte (⟨#[49, 47]⟩ : ByteArray).data.toList 47 = ((1 : Nat) : Int) by decide) ⟨#[49]⟩ ⟨#[]⟩ (by decide +kernel) (by decide +kernel) (by decide) (by decide +kernel) (fun w => parseDen_no _ w (by decide) (by decide +kernel) (by decide +kernel))
set_option maxHeartbeats 8000000 in
set_option maxRecDepth 20000 in
theorem parsed_1e {vb : Value} (hq : PC w vb 0 1) :
    Calls Tryz.prog 28 #[.string ⟨#[49, 47]⟩, vb, .int .i64 7] w fun e w' => e = .returned (.bool true) ∧ Below w.heap.size w w' := by
  have LA := hide (show (dig (0 : Int).natAbs).length ≤ 2 by decide)
  have LB := hide (show (dig (1 : Int).natAbs).length ≤ 2 by decide)
  obtain ⟨n_1a, o_1a, k_1a, c_1a, n_1b, o_1b, k_1b, c_1b, rfl, hq1, hq2⟩ := hq
  go_enter Tryz.func28, Tryz.ntmps28
  have hb := Below.refl w.heap.size w
  refine wp_seq_k ?_
  intro K1 hK1
  refine wp_region_sq [0, 1] (by kernel_rfl) ?_
  refine wpSq_call rfl (by kernel_rfl) fun K hK => ?_
  go_big_op
  obtain ⟨p_b1, w_1, eP, eW, x_b1, hn, kb_b1⟩ := newBox w #[.bool n_1a, .slice o_1a k_1a c_1a, .bool n_1b, .slice o_1b k_1b c_1b] 26 hb.size
  rw [eW, eP]
  clear eW eP
  replace hq1 := hq1.bl hn; replace hq2 := hq2.bl hn; replace hb := hb.trans (hn.mono hb.size)
  refine hK _ _ rfl ?_; clear hK K hn
  refine wpSq_call rfl (by kernel_rfl) fun K hK => ?_
  go_big_move; refine hK _ _ rfl ?_; clear hK K
  apply wpSq_end
  refine hK1 _ _ ?_
  refine wp_seq_k ?_
  intro K2 hK2
  refine wp_region_sq [0, 1, 2, 3, 4, 5, 6, 7] (by kernel_rfl) ?_
  refine wpSq_call rfl (by kernel_rfl) fun K hK => ?_
  go_big_move; refine hK _ _ rfl ?_; clear hK K
  refine wpSq_call rfl (by kernel_rfl) fun K hK => ?_
  go_big_op
  go_fit (fpk_1e _)
  rintro e w_2 ⟨rfl, hb_2⟩
  replace hq1 := hq1.bl hb_2; replace hq2 := hq2.bl hb_2; replace x_b1 := x_b1.bl hb_2; replace hb := hb.trans (hb_2.mono hb.size)
  refine hK _ _ rfl ?_
  clear hK K hb_2
  refine wpSq_call rfl (by kernel_rfl) fun K hK => ?_
  go_big_move; refine hK _ _ rfl ?_; clear hK K
  refine wpSq_call rfl (by kernel_rfl) fun K hK => ?_
  go_big_op; refine hK _ _ rfl ?_; clear hK K
  refine wpSq_call rfl (by kernel_rfl) fun K hK => ?_
  go_big_op; refine hK _ _ rfl ?_; clear hK K
  refine wpSq_call rfl (by kernel_rfl) fun K hK => ?_
  go_big_op
  have lt_b1 := x_b1.lt
  obtain ⟨p_b2, w_3, eP, eW, x_b2, hn, kb_b2⟩ := newBox w_2 #[.bool false, .slice none 0 0, .bool false, .slice none 0 0] 26 hb.size
  have ne_b1_b2 : Hid (p_b1 ≠ p_b2) := Nat.ne_of_lt (eP ▸ lt_b1)
  rw [eW, eP]
  clear eW eP lt_b1
  replace hq1 := hq1.bl hn; replace hq2 := hq2.bl hn; replace x_b1 := x_b1.bl hn; replace hb := hb.trans (hn.mono hb.size)
  refine hK _ _ rfl ?_; clear hK K hn
  refine wpSq_call rfl (by kernel_rfl) fun K hK => ?_
  obtain ⟨d0, d1, d2, d3⟩ := x_b2.f4
  have f0 := x_b2.free 0; have f1 := x_b2.free 1; have f2 := x_b2.free 2; have f3 := x_b2.free 3
  go_big_op
  have hnd := x_b2.nod rfl rfl
  obtain ⟨w_4, eW, x_b2', ho⟩ : ∃ w', ((((w_3.setCell ⟨p_b2, 0, none⟩ (.bool false)).setCell ⟨p_b2, 1, none⟩ (.slice none 0 0)).setCell ⟨p_b2, 2, none⟩ (.bool false)).setCell ⟨p_b2, 3, none⟩ (.slice none 0 0)) = w' ∧ Bs w' p_b2 #[.bool false, .slice none 0 0, .bool false, .slice none 0 0] 26 ∧ Only p_b2 w_3 w' := x_b2.setN [(0, .bool false), (1, .slice none 0 0), (2, .bool false), (3, .slice none 0 0)]
  rw [eW]; clear eW d0 d1 d2 d3 f0 f1 f2 f3 x_b2
  have x_b2 := x_b2'; clear x_b2'
  replace hq1 := hq1.fr hnd ho; replace hq2 := hq2.fr hnd ho; replace x_b1 := x_b1.frame ho ne_b1_b2; replace hb := belowOnly hb ho kb_b2
  refine hK _ _ rfl ?_; clear hK K ho hnd
  refine wpSq_call rfl (by kernel_rfl) fun K hK => ?_
  go_big_move; refine hK _ _ rfl ?_; clear hK K
  apply wpSq_end
  refine hK2 _ _ ?_
  refine wp_seq_k ?_
  intro K3 hK3
  refine wp_region_sq [0, 1, 2, 3, 4, 5] (by kernel_rfl) ?_
  refine wpSq_call rfl (by kernel_rfl) fun K hK => ?_
  obtain ⟨d0, d1, d2, d3⟩ := x_b2.f4
  go_big_op; refine hK _ _ rfl ?_; clear hK K d0 d1 d2 d3
  refine wpSq_call rfl (by kernel_rfl) fun K hK => ?_
  go_big_move; refine hK _ _ rfl ?_; clear hK K
  refine wpSq_call rfl (by kernel_rfl) fun K hK => ?_
  obtain ⟨d0, d1, d2, d3⟩ := x_b1.f4
  go_big_op; refine hK _ _ rfl ?_; clear hK K d0 d1 d2 d3
  refine wpSq_call rfl (by kernel_rfl) fun K hK => ?_
  go_big_move; refine hK _ _ rfl ?_; clear hK K
  refine wpSq_call rfl (by kernel_rfl) fun K hK => ?_
  go_big_op
  go_fit (ftold_err 7 (.mk' hq1 hq2) (by decide))
  rintro e w_5 ⟨rfl, hb_5⟩
  clear x_b1 x_b2
  replace hq1 := hq1.bl hb_5; replace hq2 := hq2.bl hb_5; replace hb := hb.trans (hb_5.mono hb.size)
  refine hK _ _ rfl ?_
  clear hK K hb_5
  refine wpSq_call rfl (by kernel_rfl) fun K hK => ?_
  go_big_move; refine hK _ _ rfl ?_; clear hK K
  apply wpSq_end
  refine hK3 _ _ ?_
  refine wp_ret ?_
  try dsimp only [Exit.then, Exit.inBlock]
  refine bodyPost_ret (v := (.bool true)) (by simp [results, Tryz.results28, go_sem]) rfl ?_
  exact ⟨rfl, hb⟩
theorem fpk_m0 (w : World) : Calls Tryz.prog 48 #[.string ⟨#[45, 48, 47, 53]⟩] w fun e w' => ∃ r, e = .returned (.tuple #[r, .int .i64 0]) ∧ PC w' r (qN 0 1) (qD 0 1) ∧ Below w.heap.size w w' := by
  have h := fParse_ok (s := ⟨#[45, 48, 47, 53]⟩) w (by decide) (show (2 : Nat) < (⟨#[45, 48, 47, 53]⟩ : ByteArray).size by decide) (show Lib.indexByte (⟨#[45, 48, 47, 53]⟩ : ByteArray).data.toList 47 = ((2 : Nat) : Int) by decide) ⟨#[45, 48]⟩ ⟨#[53]⟩ (by decide +kernel) (by decide +kernel) (by decide) (by decide +kernel) (by decide) (by decide +kernel) (by decide +kernel) (by decide +kernel)
  rw [show zvl ⟨#[45, 48]⟩ = 0 by decide +kernel, show zvl ⟨#[53]⟩ = 5 by decide +kernel, show qN 0 5 = qN 0 1 by decide, show qD 0 5 = qD 0 1 by decide] at h
  exact h
set_option maxHeartbeats 8000000 in
set_option maxRecDepth 20000 in
theorem parsed_m0 {vb : Value} (hq : PC w vb 0 1) :
    Calls Tryz.prog 28 #[.string ⟨#[45, 48, 47, 53]⟩, vb, .int .i64 0] w fun e w' => e = .returned (.bool true) ∧ Below w.heap.size w w' := by
  have LA := hide (show (dig (0 : Int).natAbs).length ≤ 2 by decide)
  have LB := hide (show (dig (1 : Int).natAbs).length ≤ 2 by decide)
  obtain ⟨n_1a, o_1a, k_1a, c_1a, n_1b, o_1b, k_1b, c_1b, rfl, hq1, hq2⟩ := hq
  go_enter Tryz.func28, Tryz.ntmps28
  have hb := Below.refl w.heap.size w
  refine wp_seq_k ?_
  intro K1 hK1
  refine wp_region_sq [0, 1] (by kernel_rfl) ?_
  refine wpSq_call rfl (by kernel_rfl) fun K hK => ?_
  go_big_op
  obtain ⟨p_b1, w_1, eP, eW, x_b1, hn, kb_b1⟩ := newBox w #[.bool n_1a, .slice o_1a k_1a c_1a, .bool n_1b, .slice o_1b k_1b c_1b] 26 hb.size
  rw [eW, eP]
  clear eW eP
  replace hq1 := hq1.bl hn; replace hq2 := hq2.bl hn; replace hb := hb.trans (hn.mono hb.size)
  refine hK _ _ rfl ?_; clear hK K hn
  refine wpSq_call rfl (by kernel_rfl) fun K hK => ?_
  go_big_move; refine hK _ _ rfl ?_; clear hK K
  apply wpSq_end
  refine hK1 _ _ ?_
  refine wp_seq_k ?_
  intro K2 hK2
  refine wp_region_sq [0, 1, 2, 3, 4, 5, 6, 7] (by kernel_rfl) ?_
  refine wpSq_call rfl (by kernel_rfl) fun K hK => ?_
  go_big_move; refine hK _ _ rfl ?_; clear hK K
  refine wpSq_call rfl (by kernel_rfl) fun K hK => ?_
  go_big_op
  go_fit (fpk_m0 _)
  rintro e w_2 ⟨_, rfl, ⟨n_ga, o_ga, k_ga, c_ga, n_gb, o_gb, k_gb, c_gb, rfl, g1, g2⟩, hb_2⟩
  replace hq1 := hq1.bl hb_2; replace hq2 := hq2.bl hb_2; replace x_b1 := x_b1.bl hb_2; replace hb := hb.trans (hb_2.mono hb.size)
  refine hK _ _ rfl ?_
  clear hK K hb_2
  refine wpSq_call rfl (by kernel_rfl) fun K hK => ?_
  go_big_move; refine hK _ _ rfl ?_; clear hK K
  refine wpSq_call rfl (by kernel_rfl) fun K hK => ?_
  go_big_op; refine hK _ _ rfl ?_; clear hK K
  refine wpSq_call rfl (by kernel_rfl) fun K hK => ?_
  go_big_op; refine hK _ _ rfl ?_; clear hK K
  refine wpSq_call rfl (by kernel_rfl) fun K hK => ?_
  go_big_op
  have lt_b1 := x_b1.lt
  obtain ⟨p_b2, w_3, eP, eW, x_b2, hn, kb_b2⟩ := newBox w_2 #[.bool false, .slice none 0 0, .bool false, .slice none 0 0] 26 hb.size
  have ne_b1_b2 : Hid (p_b1 ≠ p_b2) := Nat.ne_of_lt (eP ▸ lt_b1)
  rw [eW, eP]
  clear eW eP lt_b1
  replace hq1 := hq1.bl hn; replace hq2 := hq2.bl hn; replace x_b1 := x_b1.bl hn; replace g1 := g1.bl hn; replace g2 := g2.bl hn; replace hb := hb.trans (hn.mono hb.size)
  refine hK _ _ rfl ?_; clear hK K hn
  refine wpSq_call rfl (by kernel_rfl) fun K hK => ?_
  obtain ⟨d0, d1, d2, d3⟩ := x_b2.f4
  have f0 := x_b2.free 0; have f1 := x_b2.free 1; have f2 := x_b2.free 2; have f3 := x_b2.free 3
  go_big_op
  have hnd := x_b2.nod rfl rfl
  obtain ⟨w_4, eW, x_b2', ho⟩ : ∃ w', ((((w_3.setCell ⟨p_b2, 0, none⟩ (.bool n_ga)).setCell ⟨p_b2, 1, none⟩ (.slice o_ga k_ga c_ga)).setCell ⟨p_b2, 2, none⟩ (.bool n_gb)).setCell ⟨p_b2, 3, none⟩ (.slice o_gb k_gb c_gb)) = w' ∧ Bs w' p_b2 #[.bool n_ga, .slice o_ga k_ga c_ga, .bool n_gb, .slice o_gb k_gb c_gb] 26 ∧ Only p_b2 w_3 w' := x_b2.setN [(0, .bool n_ga), (1, .slice o_ga k_ga c_ga), (2, .bool n_gb), (3, .slice o_gb k_gb c_gb)]
  rw [eW]; clear eW d0 d1 d2 d3 f0 f1 f2 f3 x_b2
  have x_b2 := x_b2'; clear x_b2'
  replace hq1 := hq1.fr hnd ho; replace hq2 := hq2.fr hnd ho; replace x_b1 := x_b1.frame ho ne_b1_b2; replace g1 := g1.fr hnd ho; replace g2 := g2.fr hnd ho; replace hb := belowOnly hb ho kb_b2
  refine hK _ _ rfl ?_; clear hK K ho hnd
  refine wpSq_call rfl (by kernel_rfl) fun K hK => ?_
  go_big_move; refine hK _ _ rfl ?_; clear hK K
  apply wpSq_end
  refine hK2 _ _ ?_
  refine wp_seq_k ?_
  intro K3 hK3
  refine wp_region_sq [0, 1, 2, 3, 4, 5] (by kernel_rfl) ?_
  refine wpSq_call rfl (by kernel_rfl) fun K hK => ?_
  obtain ⟨d0, d1, d2, d3⟩ := x_b2.f4
  go_big_op; refine hK _ _ rfl ?_; clear hK K d0 d1 d2 d3
  refine wpSq_call rfl (by kernel_rfl) fun K hK => ?_
  go_big_move; refine hK _ _ rfl ?_; clear hK K
  refine wpSq_call rfl (by kernel_rfl) fun K hK => ?_
  obtain ⟨d0, d1, d2, d3⟩ := x_b1.f4
  go_big_op; refine hK _ _ rfl ?_; clear hK K d0 d1 d2 d3
  refine wpSq_call rfl (by kernel_rfl) fun K hK => ?_
  go_big_move; refine hK _ _ rfl ?_; clear hK K
  refine wpSq_call rfl (by kernel_rfl) fun K hK => ?_
  go_big_op
  go_fit (ftold_ok (.mk' g1 g2) (.mk' (hq1.zn LA.out) (hq2.zn LB.out)) (by decide) (by decide) (by decide))
  rintro e w_5 ⟨rfl, hb_5⟩
  clear x_b1 x_b2
  replace hq1 := hq1.bl hb_5; replace hq2 := hq2.bl hb_5; replace g1 := g1.bl hb_5; replace g2 := g2.bl hb_5; replace hb := hb.trans (hb_5.mono hb.size)
  refine hK _ _ rfl ?_
  clear hK K hb_5
  refine wpSq_call rfl (by kernel_rfl) fun K hK => ?_
  go_big_move; refine hK _ _ rfl ?_; clear hK K
  apply wpSq_end
  refine hK3 _ _ ?_
  refine wp_ret ?_
  try dsimp only [Exit.then, Exit.inBlock]
  refine bodyPost_ret (v := (.bool true)) (by simp [results, Tryz.results28, go_sem]) rfl ?_
  exact ⟨rfl, hb⟩
theorem fb_tenth : FB 4591870180066957722 1019 2702159776422298 0 := ⟨by decide, by decide, by decide, by decide, by decide, by decide, by decide⟩
theorem fb_least : FB 1 0 1 0 := ⟨by decide, by decide, by decide, by decide, by decide, by decide, by decide⟩
theorem fb_zero : FB 9223372036854775808 0 0 1 := ⟨by decide, by decide, by decide, by decide, by decide, by decide, by decide⟩
theorem fb_inf : FB 9218868437227405312 2047 0 0 := ⟨by decide, by decide, by decide, by decide, by decide, by decide, by decide⟩
theorem of_tenth (w : World) : Calls Tryz.prog 16 #[.float .f64 4591870180066957722] w fun e w' => ∃ r, e = .returned (.tuple #[r, .int .i64 0]) ∧ PC w' r (qN 3602879701896397 36028797018963968) (qD 3602879701896397 36028797018963968) ∧ Below w.heap.size w w' := by
  have hz := (fZ_len 1019 2702159776422298 0 (by decide)).1
  have e := q_congr (x := fZ 1019 2702159776422298 0) (y := 2 ^ 56) (u := 3602879701896397) (v := 36028797018963968) (by decide) (by decide) (by decide)
  rw [← e.1, ← e.2]
  exact fOf_n0 (R := fun _ _ => True) fb_tenth (by decide) (by decide) (fun v w g => scaled_neg 56 _ (by decide) (by decide) (by decide) (g.zn hz) (by decide))
theorem of_least (P : Nat) (hP : P = 1074) (w : World) : Calls Tryz.prog 16 #[.float .f64 1] w fun e w' => ∃ r, e = .returned (.tuple #[r, .int .i64 0]) ∧ PC w' r 1 (2 ^ P) ∧ Below w.heap.size w w' := by
  have hz := (fZ_len 0 1 0 (by decide)).1
  have h1 := qN_low (low_one_two P)
  have h2 := qD_low (low_one_two P)
  have hf : fZ 0 1 0 = 1 := by decide
  have := fOf_z0 (e := 0) (R := fun _ _ => True) (w := w) fb_least (fun v w g => scaled_neg P _ (by omega) (by omega) (by omega) (g.zn hz) (by decide))
  rw [hf, h1, h2] at this
  exact this
theorem of_mzero (w : World) : Calls Tryz.prog 16 #[.float .f64 9223372036854775808] w fun e w' => ∃ r, e = .returned (.tuple #[r, .int .i64 0]) ∧ PC w' r (qN 0 1) (qD 0 1) ∧ Below w.heap.size w w' := by
  obtain ⟨P, hP⟩ : ∃ P, P = 1074 := ⟨_, rfl⟩
  have hz := (fZ_len 0 0 1 (by decide)).1
  have e := q_congr (x := fZ 0 0 1) (y := 2 ^ P) (u := 0) (v := 1) (Int.pow_ne_zero (by decide)) (by decide) (by rw [show fZ 0 0 1 = 0 by decide]; simp)
  rw [← e.1, ← e.2]
  exact fOf_z1 (e := 0) (R := fun _ _ => True) fb_zero (fun v w g => scaled_neg P _ (by omega) (by omega) (by omega) (g.zn hz) (by decide))
theorem qts_84 : qts 8 4 = ⟨#[50]⟩ := by
  unfold qts
  rw [show qD 8 4 = 1 by decide, show qN 8 4 = 2 by decide, if_pos rfl]
  unfold zts ztx
  rw [if_neg (by decide), show Int.natAbs 2 = 2 from rfl, dec1 2 (by decide)]
  rfl
set_option maxHeartbeats 8000000 in
set_option maxRecDepth 20000 in
theorem walk_FracKnown (w : World) (htab : Lib.TabIs Tryz.prog w p10 .u64 Lib.pow10Tab) :
    Calls Tryz.prog 3 #[] w fun e w' => e = .returned (.bool true) ∧ Below w.heap.size w w' := by
  have htabs := Lib.tabBelow_of_tabIs htab
  obtain ⟨P, hP⟩ : ∃ P, P = 1074 := ⟨_, rfl⟩
  have LP := hide (two_len P (by omega) P (Nat.le_refl _))
  have HB := hide (show ((bitsN ((2 : Int) ^ P).natAbs : Nat) : Int) = 1075 by rw [Int.natAbs_pow]; show ((bitsN (2 ^ P) : Nat) : Int) = 1075; rw [bits_two]; omega)
  have HP := hide (fun w => of_least P hP w)
  have E2 := hide qts_84
  have TH := hide (show tooHigh (qN 2 1) 32769 by unfold tooHigh; decide +kernel)
  have T1 := hide (show ¬ tooHigh (qN (-2) 3) 3 ∧ ¬ tooHigh (qD (-2) 3) 3 by unfold tooHigh; decide +kernel)
  have T2 := hide (show ¬ tooHigh (qN 0 1) 0 ∧ ¬ tooHigh (qD 0 1) 0 by unfold tooHigh; decide +kernel)
  have T3 := hide (show ¬ tooHigh (qN (-1) 1) 4611686018427387904 ∧ ¬ tooHigh (qD (-1) 1) 4611686018427387904 by unfold tooHigh; decide +kernel)
  have W1 := hide (show qN (-2) 3 ^ 3 = qN (-8) 27 ∧ qD (-2) 3 ^ 3 = qD (-8) 27 by decide)
  have W2 := hide (show qN 0 1 ^ 0 = qN 1 1 ∧ qD 0 1 ^ 0 = qD 1 1 by decide)
  have W3 := hide (show qN (-1) 1 ^ 4611686018427387904 = qN 1 1 ∧ qD (-1) 1 ^ 4611686018427387904 = qD 1 1 from pow_m1)
  clear hP
  go_enter Tryz.func3, Tryz.ntmps3
  have hb := Below.refl w.heap.size w
  refine wp_seq_k ?_
  intro K1 hK1
  refine wp_region_sq [0] (by kernel_rfl) ?_
  refine wpSq_call rfl (by kernel_rfl) fun K hK => ?_
  go_big_move; refine hK _ _ rfl ?_; clear hK K
  apply wpSq_end
  refine hK1 _ _ ?_
  refine wp_seq_k ?_
  intro K2 hK2
  refine wp_region_sq [0, 1, 2, 3, 4, 5, 6, 7, 8] (by kernel_rfl) ?_
  refine wpSq_call rfl (by kernel_rfl) fun K hK => ?_
  go_big_op
  go_fit (ri_any 6 _ (by decide) (by decide))
  rintro e w_1 ⟨v_a1x, rfl, a1x, hb_1⟩
  replace hb := hb.trans (hb_1.mono hb.size)
  replace a1x := a1x.rd
  obtain ⟨n_a1x, o_a1x, k_a1x, c_a1x, rfl⟩ := a1x.open2
  have La1x := hide (a1x.lenOf (zlen_i 6 (by decide) (by decide)))
  refine hK _ _ rfl ?_
  clear hK K hb_1
  refine wpSq_call rfl (by kernel_rfl) fun K hK => ?_
  go_big_op
  go_fit (ri_any (-4) _ (by decide) (by decide))
  rintro e w_2 ⟨v_a2x, rfl, a2x, hb_2⟩
  replace a1x := a1x.bl hb_2; replace hb := hb.trans (hb_2.mono hb.size)
  replace a2x := a2x.rd
  obtain ⟨n_a2x, o_a2x, k_a2x, c_a2x, rfl⟩ := a2x.open2
  have La2x := hide (a2x.lenOf (zlen_i (-4) (by decide) (by decide)))
  refine hK _ _ rfl ?_
  clear hK K hb_2
  refine wpSq_call rfl (by kernel_rfl) fun K hK => ?_
  go_big_op
  go_fit (fmake_any (a1x.zn La1x.out) (a2x.zn La2x.out) (by omega) (by omega) (show (-4) ≠ (0 : Int) by decide))
  rintro e w_3 ⟨_, rfl, ⟨n_aa, o_aa, k_aa, c_aa, n_ab, o_ab, k_ab, c_ab, rfl, a1, a2⟩, hb_3⟩
  replace a1x := a1x.bl hb_3; replace a2x := a2x.bl hb_3; replace hb := hb.trans (hb_3.mono hb.size)
  have La1 := hide (a1.lenOf (qN_len ((show (-4) ≠ (0 : Int) by decide)) (La1x.out)))
  have La2 := hide (a2.lenOf (qD_len ((show (-4) ≠ (0 : Int) by decide)) (La2x.out)))
  rw [show qN 6 (-4) = qN (-3) 2 from by decide] at a1
  rw [show qD 6 (-4) = qD (-3) 2 from by decide] at a2
  refine hK _ _ rfl ?_
  clear hK K hb_3
  refine wpSq_call rfl (by kernel_rfl) fun K hK => ?_
  go_big_move; refine hK _ _ rfl ?_; clear hK K
  refine wpSq_call rfl (by kernel_rfl) fun K hK => ?_
  go_big_op; refine hK _ _ rfl ?_; clear hK K
  refine wpSq_call rfl (by kernel_rfl) fun K hK => ?_
  go_big_op; refine hK _ _ rfl ?_; clear hK K
  refine wpSq_call rfl (by kernel_rfl) fun K hK => ?_
  go_big_op
  clear a1x a2x
  obtain ⟨p_b1, w_4, eP, eW, x_b1, hn, kb_b1⟩ := newBox w_3 #[.bool false, .slice none 0 0, .bool false, .slice none 0 0] 26 hb.size
  rw [eW, eP]
  clear eW eP
  replace a1 := a1.bl hn; replace a2 := a2.bl hn; replace hb := hb.trans (hn.mono hb.size)
  refine hK _ _ rfl ?_; clear hK K hn
  refine wpSq_call rfl (by kernel_rfl) fun K hK => ?_
  obtain ⟨d0, d1, d2, d3⟩ := x_b1.f4
  have f0 := x_b1.free 0; have f1 := x_b1.free 1; have f2 := x_b1.free 2; have f3 := x_b1.free 3
  go_big_op
  have hnd := x_b1.nod rfl rfl
  obtain ⟨w_5, eW, x_b1', ho⟩ : ∃ w', ((((w_4.setCell ⟨p_b1, 0, none⟩ (.bool n_aa)).setCell ⟨p_b1, 1, none⟩ (.slice o_aa k_aa c_aa)).setCell ⟨p_b1, 2, none⟩ (.bool n_ab)).setCell ⟨p_b1, 3, none⟩ (.slice o_ab k_ab c_ab)) = w' ∧ Bs w' p_b1 #[.bool n_aa, .slice o_aa k_aa c_aa, .bool n_ab, .slice o_ab k_ab c_ab] 26 ∧ Only p_b1 w_4 w' := x_b1.setN [(0, .bool n_aa), (1, .slice o_aa k_aa c_aa), (2, .bool n_ab), (3, .slice o_ab k_ab c_ab)]
  rw [eW]; clear eW d0 d1 d2 d3 f0 f1 f2 f3 x_b1
  have x_b1 := x_b1'; clear x_b1'
  replace a1 := a1.fr hnd ho; replace a2 := a2.fr hnd ho; replace hb := belowOnly hb ho kb_b1
  refine hK _ _ rfl ?_; clear hK K ho hnd
  refine wpSq_call rfl (by kernel_rfl) fun K hK => ?_
  go_big_move; refine hK _ _ rfl ?_; clear hK K
  apply wpSq_end
  refine hK2 _ _ ?_
  refine wp_seq_k ?_
  intro K3 hK3
  refine wp_region_sq [0, 1, 2, 3, 4, 5, 6, 7, 8] (by kernel_rfl) ?_
  refine wpSq_call rfl (by kernel_rfl) fun K hK => ?_
  go_big_op
  go_fit (ri_any 0 _ (by decide) (by decide))
  rintro e w_6 ⟨v_b1x, rfl, b1x, hb_6⟩
  replace a1 := a1.bl hb_6; replace a2 := a2.bl hb_6; replace x_b1 := x_b1.bl hb_6; replace hb := hb.trans (hb_6.mono hb.size)
  replace b1x := b1x.rd
  obtain ⟨n_b1x, o_b1x, k_b1x, c_b1x, rfl⟩ := b1x.open2
  have Lb1x := hide (b1x.lenOf (zlen_i 0 (by decide) (by decide)))
  refine hK _ _ rfl ?_
  clear hK K hb_6
  refine wpSq_call rfl (by kernel_rfl) fun K hK => ?_
  go_big_op
  go_fit (ri_any (-3) _ (by decide) (by decide))
  rintro e w_7 ⟨v_b2x, rfl, b2x, hb_7⟩
  replace a1 := a1.bl hb_7; replace a2 := a2.bl hb_7; replace x_b1 := x_b1.bl hb_7; replace b1x := b1x.bl hb_7; replace hb := hb.trans (hb_7.mono hb.size)
  replace b2x := b2x.rd
  obtain ⟨n_b2x, o_b2x, k_b2x, c_b2x, rfl⟩ := b2x.open2
  have Lb2x := hide (b2x.lenOf (zlen_i (-3) (by decide) (by decide)))
  refine hK _ _ rfl ?_
  clear hK K hb_7
  refine wpSq_call rfl (by kernel_rfl) fun K hK => ?_
  go_big_op
  go_fit (fmake_any (b1x.zn Lb1x.out) (b2x.zn Lb2x.out) (by omega) (by omega) (show (-3) ≠ (0 : Int) by decide))
  rintro e w_8 ⟨_, rfl, ⟨n_ba, o_ba, k_ba, c_ba, n_bb, o_bb, k_bb, c_bb, rfl, b1, b2⟩, hb_8⟩
  replace a1 := a1.bl hb_8; replace a2 := a2.bl hb_8; replace x_b1 := x_b1.bl hb_8; replace b1x := b1x.bl hb_8; replace b2x := b2x.bl hb_8; replace hb := hb.trans (hb_8.mono hb.size)
  have Lb1 := hide (b1.lenOf (qN_len ((show (-3) ≠ (0 : Int) by decide)) (Lb1x.out)))
  have Lb2 := hide (b2.lenOf (qD_len ((show (-3) ≠ (0 : Int) by decide)) (Lb2x.out)))
  rw [show qN 0 (-3) = qN 0 1 from by decide] at b1
  rw [show qD 0 (-3) = qD 0 1 from by decide] at b2
  refine hK _ _ rfl ?_
  clear hK K hb_8
  refine wpSq_call rfl (by kernel_rfl) fun K hK => ?_
  go_big_move; refine hK _ _ rfl ?_; clear hK K
  refine wpSq_call rfl (by kernel_rfl) fun K hK => ?_
  go_big_op; refine hK _ _ rfl ?_; clear hK K
  refine wpSq_call rfl (by kernel_rfl) fun K hK => ?_
  go_big_op; refine hK _ _ rfl ?_; clear hK K
  refine wpSq_call rfl (by kernel_rfl) fun K hK => ?_
  go_big_op
  clear b1x b2x
  have lt_b1 := x_b1.lt
  obtain ⟨p_b2, w_9, eP, eW, x_b2, hn, kb_b2⟩ := newBox w_8 #[.bool false, .slice none 0 0, .bool false, .slice none 0 0] 26 hb.size
  have ne_b1_b2 : Hid (p_b1 ≠ p_b2) := Nat.ne_of_lt (eP ▸ lt_b1)
  rw [eW, eP]
  clear eW eP lt_b1
  replace a1 := a1.bl hn; replace a2 := a2.bl hn; replace x_b1 := x_b1.bl hn; replace b1 := b1.bl hn; replace b2 := b2.bl hn; replace hb := hb.trans (hn.mono hb.size)
  refine hK _ _ rfl ?_; clear hK K hn
  refine wpSq_call rfl (by kernel_rfl) fun K hK => ?_
  obtain ⟨d0, d1, d2, d3⟩ := x_b2.f4
  have f0 := x_b2.free 0; have f1 := x_b2.free 1; have f2 := x_b2.free 2; have f3 := x_b2.free 3
  go_big_op
  have hnd := x_b2.nod rfl rfl
  obtain ⟨w_10, eW, x_b2', ho⟩ : ∃ w', ((((w_9.setCell ⟨p_b2, 0, none⟩ (.bool n_ba)).setCell ⟨p_b2, 1, none⟩ (.slice o_ba k_ba c_ba)).setCell ⟨p_b2, 2, none⟩ (.bool n_bb)).setCell ⟨p_b2, 3, none⟩ (.slice o_bb k_bb c_bb)) = w' ∧ Bs w' p_b2 #[.bool n_ba, .slice o_ba k_ba c_ba, .bool n_bb, .slice o_bb k_bb c_bb] 26 ∧ Only p_b2 w_9 w' := x_b2.setN [(0, .bool n_ba), (1, .slice o_ba k_ba c_ba), (2, .bool n_bb), (3, .slice o_bb k_bb c_bb)]
  rw [eW]; clear eW d0 d1 d2 d3 f0 f1 f2 f3 x_b2
  have x_b2 := x_b2'; clear x_b2'
  replace a1 := a1.fr hnd ho; replace a2 := a2.fr hnd ho; replace x_b1 := x_b1.frame ho ne_b1_b2; replace b1 := b1.fr hnd ho; replace b2 := b2.fr hnd ho; replace hb := belowOnly hb ho kb_b2
  refine hK _ _ rfl ?_; clear hK K ho hnd
  refine wpSq_call rfl (by kernel_rfl) fun K hK => ?_
  go_big_move; refine hK _ _ rfl ?_; clear hK K
  apply wpSq_end
  refine hK3 _ _ ?_
  refine wp_seq_k ?_
  intro K4 hK4
  refine wp_region_sq [0, 1, 2, 3, 4, 5, 6, 7, 8] (by kernel_rfl) ?_
  refine wpSq_call rfl (by kernel_rfl) fun K hK => ?_
  go_big_op
  go_fit (ri_any 1 _ (by decide) (by decide))
  rintro e w_11 ⟨v_c1x, rfl, c1x, hb_11⟩
  replace a1 := a1.bl hb_11; replace a2 := a2.bl hb_11; replace x_b1 := x_b1.bl hb_11; replace b1 := b1.bl hb_11; replace b2 := b2.bl hb_11; replace x_b2 := x_b2.bl hb_11; replace hb := hb.trans (hb_11.mono hb.size)
  replace c1x := c1x.rd
  obtain ⟨n_c1x, o_c1x, k_c1x, c_c1x, rfl⟩ := c1x.open2
  have Lc1x := hide (c1x.lenOf (zlen_i 1 (by decide) (by decide)))
  refine hK _ _ rfl ?_
  clear hK K hb_11
  refine wpSq_call rfl (by kernel_rfl) fun K hK => ?_
  go_big_op
  go_fit (ri_any 0 _ (by decide) (by decide))
  rintro e w_12 ⟨v_c2x, rfl, c2x, hb_12⟩
  replace a1 := a1.bl hb_12; replace a2 := a2.bl hb_12; replace x_b1 := x_b1.bl hb_12; replace b1 := b1.bl hb_12; replace b2 := b2.bl hb_12; replace x_b2 := x_b2.bl hb_12; replace c1x := c1x.bl hb_12; replace hb := hb.trans (hb_12.mono hb.size)
  replace c2x := c2x.rd
  obtain ⟨n_c2x, o_c2x, k_c2x, c_c2x, rfl⟩ := c2x.open2
  have Lc2x := hide (c2x.lenOf (zlen_i 0 (by decide) (by decide)))
  refine hK _ _ rfl ?_
  clear hK K hb_12
  refine wpSq_call rfl (by kernel_rfl) fun K hK => ?_
  go_big_op
  go_fit (fmake_zero (c1x.zn Lc1x.out) (c2x.zn Lc2x.out) (by omega) (by omega) )
  rintro e w_13 ⟨rfl, hb_13⟩
  replace a1 := a1.bl hb_13; replace a2 := a2.bl hb_13; replace x_b1 := x_b1.bl hb_13; replace b1 := b1.bl hb_13; replace b2 := b2.bl hb_13; replace x_b2 := x_b2.bl hb_13; replace c1x := c1x.bl hb_13; replace c2x := c2x.bl hb_13; replace hb := hb.trans (hb_13.mono hb.size)
  refine hK _ _ rfl ?_
  clear hK K hb_13
  refine wpSq_call rfl (by kernel_rfl) fun K hK => ?_
  go_big_move; refine hK _ _ rfl ?_; clear hK K
  refine wpSq_call rfl (by kernel_rfl) fun K hK => ?_
  go_big_op; refine hK _ _ rfl ?_; clear hK K
  refine wpSq_call rfl (by kernel_rfl) fun K hK => ?_
  go_big_op; refine hK _ _ rfl ?_; clear hK K
  refine wpSq_call rfl (by kernel_rfl) fun K hK => ?_
  go_big_op
  clear c1x c2x
  have lt_b1 := x_b1.lt
  have lt_b2 := x_b2.lt
  obtain ⟨p_b3, w_14, eP, eW, x_b3, hn, kb_b3⟩ := newBox w_13 #[.bool false, .slice none 0 0, .bool false, .slice none 0 0] 26 hb.size
  have ne_b1_b3 : Hid (p_b1 ≠ p_b3) := Nat.ne_of_lt (eP ▸ lt_b1)
  have ne_b2_b3 : Hid (p_b2 ≠ p_b3) := Nat.ne_of_lt (eP ▸ lt_b2)
  rw [eW, eP]
  clear eW eP lt_b1 lt_b2
  replace a1 := a1.bl hn; replace a2 := a2.bl hn; replace x_b1 := x_b1.bl hn; replace b1 := b1.bl hn; replace b2 := b2.bl hn; replace x_b2 := x_b2.bl hn; replace hb := hb.trans (hn.mono hb.size)
  refine hK _ _ rfl ?_; clear hK K hn
  refine wpSq_call rfl (by kernel_rfl) fun K hK => ?_
  obtain ⟨d0, d1, d2, d3⟩ := x_b3.f4
  have f0 := x_b3.free 0; have f1 := x_b3.free 1; have f2 := x_b3.free 2; have f3 := x_b3.free 3
  go_big_op
  have hnd := x_b3.nod rfl rfl
  obtain ⟨w_15, eW, x_b3', ho⟩ : ∃ w', ((((w_14.setCell ⟨p_b3, 0, none⟩ (.bool false)).setCell ⟨p_b3, 1, none⟩ (.slice none 0 0)).setCell ⟨p_b3, 2, none⟩ (.bool false)).setCell ⟨p_b3, 3, none⟩ (.slice none 0 0)) = w' ∧ Bs w' p_b3 #[.bool false, .slice none 0 0, .bool false, .slice none 0 0] 26 ∧ Only p_b3 w_14 w' := x_b3.setN [(0, .bool false), (1, .slice none 0 0), (2, .bool false), (3, .slice none 0 0)]
  rw [eW]; clear eW d0 d1 d2 d3 f0 f1 f2 f3 x_b3
  have x_b3 := x_b3'; clear x_b3'
  replace a1 := a1.fr hnd ho; replace a2 := a2.fr hnd ho; replace x_b1 := x_b1.frame ho ne_b1_b3; replace b1 := b1.fr hnd ho; replace b2 := b2.fr hnd ho; replace x_b2 := x_b2.frame ho ne_b2_b3; replace hb := belowOnly hb ho kb_b3
  refine hK _ _ rfl ?_; clear hK K ho hnd
  refine wpSq_call rfl (by kernel_rfl) fun K hK => ?_
  go_big_move; refine hK _ _ rfl ?_; clear hK K
  apply wpSq_end
  refine hK4 _ _ ?_
  refine wp_seq_k ?_
  intro K5 hK5
  refine wp_seq_k ?_
  intro K6 hK6
  refine wp_region_fl2 [(0, true), (1, false), (2, false), (3, false), (4, false), (5, true), (6, true), (7, false), (8, false), (9, false), (10, false), (11, false), (12, true), (13, true), (14, false), (15, false), (16, false), (17, false), (18, false), (19, false)] [] [] (fun _ => default) [99, 99, 99, 0, 99, 99, 99, 99, 99, 99, 1, 99, 99, 99, 99, 99, 99, 99, 99, 99] [] (fun w' => w'.cell? ⟨p_b1, 0, none⟩ = some (.bool n_aa) ∧ w'.cell? ⟨p_b1, 1, none⟩ = some (.slice o_aa k_aa c_aa) ∧ w'.cell? ⟨p_b1, 2, none⟩ = some (.bool n_ab) ∧ w'.cell? ⟨p_b1, 3, none⟩ = some (.slice o_ab k_ab c_ab) ∧ w'.cell? ⟨p_b2, 0, none⟩ = some (.bool n_ba) ∧ w'.cell? ⟨p_b2, 1, none⟩ = some (.slice o_ba k_ba c_ba) ∧ w'.cell? ⟨p_b2, 2, none⟩ = some (.bool n_bb) ∧ w'.cell? ⟨p_b2, 3, none⟩ = some (.slice o_bb k_bb c_bb)) [fun w' => w'.cell? ⟨p_b1, 0, none⟩ = some (.bool n_aa) ∧ w'.cell? ⟨p_b1, 1, none⟩ = some (.slice o_aa k_aa c_aa) ∧ w'.cell? ⟨p_b1, 2, none⟩ = some (.bool n_ab) ∧ w'.cell? ⟨p_b1, 3, none⟩ = some (.slice o_ab k_ab c_ab), fun w' => w'.cell? ⟨p_b2, 0, none⟩ = some (.bool n_ba) ∧ w'.cell? ⟨p_b2, 1, none⟩ = some (.slice o_ba k_ba c_ba) ∧ w'.cell? ⟨p_b2, 2, none⟩ = some (.bool n_bb) ∧ w'.cell? ⟨p_b2, 3, none⟩ = some (.slice o_bb k_bb c_bb)] (by kernel_rfl) (by kernel_rfl) (by kernel_rfl) (by kernel_rfl) (by kernel_rfl) (by kernel_rfl) (by kernel_rfl) (by kernel_rfl) (by decide) (by intro j hj; cases hj) (by intro w' o hC; obtain ⟨c0, c1, c2, c3, c4, c5, c6, c7⟩ := hC; exact ⟨cell_alloc c0 o, cell_alloc c1 o, cell_alloc c2 o, cell_alloc c3 o, cell_alloc c4 o, cell_alloc c5 o, cell_alloc c6 o, cell_alloc c7 o⟩) (by intro w' hC G hG; obtain ⟨c0, c1, c2, c3, c4, c5, c6, c7⟩ := hC; simp only [List.mem_cons, List.not_mem_nil, or_false] at hG; rcases hG with rfl | rfl <;> first | exact ⟨c0, c1, c2, c3⟩ | exact ⟨c4, c5, c6, c7⟩) ?_
  clear x_b3
  have lt_b1 := x_b1.lt
  have lt_b2 := x_b2.lt
  intro w_16 hn
  replace lt_b1 := Nat.lt_of_lt_of_le lt_b1 hn.size
  replace lt_b2 := Nat.lt_of_lt_of_le lt_b2 hn.size
  replace a1 := a1.bl hn; replace a2 := a2.bl hn; replace x_b1 := x_b1.bl hn; replace b1 := b1.bl hn; replace b2 := b2.bl hn; replace x_b2 := x_b2.bl hn; replace hb := hb.trans (hn.mono hb.size)
  clear hn
  have kb0 := hb.size
  refine ⟨⟨x_b1.cell 0 rfl, x_b1.cell 1 rfl, x_b1.cell 2 rfl, x_b1.cell 3 rfl, x_b2.cell 0 rfl, x_b2.cell 1 rfl, x_b2.cell 2 rfl, x_b2.cell 3 rfl⟩, ?_⟩
  refine wpFl_call rfl (by kernel_rfl) fun w_17 hn hC => ?_; clear hC
  replace a1 := a1.bl hn; replace a2 := a2.bl hn; replace x_b1 := x_b1.bl hn; replace b1 := b1.bl hn; replace b2 := b2.bl hn; replace x_b2 := x_b2.bl hn; replace hb := hb.trans (hn.mono hb.size)
  clear hn; intro K hK
  go_big_op
  go_fit (fawake_any _ (htabs _ hb))
  rintro e w_18 ⟨rfl, hb_18⟩
  replace a1 := a1.bl hb_18; replace a2 := a2.bl hb_18; replace x_b1 := x_b1.bl hb_18; replace b1 := b1.bl hb_18; replace b2 := b2.bl hb_18; replace x_b2 := x_b2.bl hb_18; replace hb := hb.trans (hb_18.mono hb.size)
  refine hK _ _ rfl hb_18 ⟨x_b1.cell 0 rfl, x_b1.cell 1 rfl, x_b1.cell 2 rfl, x_b1.cell 3 rfl, x_b2.cell 0 rfl, x_b2.cell 1 rfl, x_b2.cell 2 rfl, x_b2.cell 3 rfl⟩ ?_
  clear hK K hb_18
  apply wpFl_ld rfl rfl; (case h1 => intro w' hC K hK; go_big_op; exact hK); iterate 4 kernel_rfl
  apply wpFl_ld rfl rfl; (case h1 => intro w' hC K hK; go_big_move; exact hK); iterate 4 kernel_rfl
  apply wpFl_ld rfl rfl; (case h1 => intro w' hC K hK; obtain ⟨c0, c1, c2, c3⟩ := hC; go_big_op; exact hK); iterate 4 kernel_rfl
  apply wpFl_ld rfl rfl; (case h1 => intro w' hC K hK; go_big_move; exact hK); iterate 4 kernel_rfl
  refine wpFl_call rfl (by kernel_rfl) fun w_19 hn hC => ?_; clear hC
  replace a1 := a1.bl hn; replace a2 := a2.bl hn; replace x_b1 := x_b1.bl hn; replace b1 := b1.bl hn; replace b2 := b2.bl hn; replace x_b2 := x_b2.bl hn; replace hb := hb.trans (hn.mono hb.size)
  clear hn; intro K hK
  go_big_op
  go_fit (fq_any (-3) 2 _ (by decide) (by decide) (by decide) (by decide))
  rintro e w_20 ⟨_, rfl, ⟨n_da, o_da, k_da, c_da, n_db, o_db, k_db, c_db, rfl, d1, d2⟩, hb_20⟩
  replace a1 := a1.bl hb_20; replace a2 := a2.bl hb_20; replace x_b1 := x_b1.bl hb_20; replace b1 := b1.bl hb_20; replace b2 := b2.bl hb_20; replace x_b2 := x_b2.bl hb_20; replace hb := hb.trans (hb_20.mono hb.size)
  have Ld1 := hide (d1.lenOf (zlen_i (-3) (by decide) (by decide)))
  have Ld2 := hide (d2.lenOf (zlen_i 2 (by decide) (by decide)))
  refine hK _ _ rfl hb_20 ⟨x_b1.cell 0 rfl, x_b1.cell 1 rfl, x_b1.cell 2 rfl, x_b1.cell 3 rfl, x_b2.cell 0 rfl, x_b2.cell 1 rfl, x_b2.cell 2 rfl, x_b2.cell 3 rfl⟩ ?_
  clear hK K hb_20
  refine wpFl_call rfl (by kernel_rfl) fun w_21 hn hC => ?_; clear hC
  replace a1 := a1.bl hn; replace a2 := a2.bl hn; replace x_b1 := x_b1.bl hn; replace b1 := b1.bl hn; replace b2 := b2.bl hn; replace x_b2 := x_b2.bl hn; replace d1 := d1.bl hn; replace d2 := d2.bl hn; replace hb := hb.trans (hn.mono hb.size)
  clear hn; intro K hK
  go_big_op
  go_fit (ftold_ok (.mk' a1 a2) (.mk' (d1.zn Ld1.out) (d2.zn Ld2.out)) (by decide) (by decide) (by decide))
  rintro e w_22 ⟨rfl, hb_22⟩
  replace a1 := a1.bl hb_22; replace a2 := a2.bl hb_22; replace x_b1 := x_b1.bl hb_22; replace b1 := b1.bl hb_22; replace b2 := b2.bl hb_22; replace x_b2 := x_b2.bl hb_22; replace d1 := d1.bl hb_22; replace d2 := d2.bl hb_22; replace hb := hb.trans (hb_22.mono hb.size)
  refine hK _ _ rfl hb_22 ⟨x_b1.cell 0 rfl, x_b1.cell 1 rfl, x_b1.cell 2 rfl, x_b1.cell 3 rfl, x_b2.cell 0 rfl, x_b2.cell 1 rfl, x_b2.cell 2 rfl, x_b2.cell 3 rfl⟩ ?_
  clear hK K hb_22
  apply wpFl_ld rfl rfl; (case h1 => intro w' hC K hK; go_big_op; exact hK); iterate 4 kernel_rfl
  apply wpFl_ld rfl rfl; (case h1 => intro w' hC K hK; go_big_op; exact hK); iterate 4 kernel_rfl
  apply wpFl_ld rfl rfl; (case h1 => intro w' hC K hK; go_big_move; exact hK); iterate 4 kernel_rfl
  apply wpFl_ld rfl rfl; (case h1 => intro w' hC K hK; obtain ⟨c0, c1, c2, c3⟩ := hC; go_big_op; exact hK); iterate 4 kernel_rfl
  apply wpFl_ld rfl rfl; (case h1 => intro w' hC K hK; go_big_move; exact hK); iterate 4 kernel_rfl
  refine wpFl_call rfl (by kernel_rfl) fun w_23 hn hC => ?_; clear hC
  clear d1 d2
  replace a1 := a1.bl hn; replace a2 := a2.bl hn; replace x_b1 := x_b1.bl hn; replace b1 := b1.bl hn; replace b2 := b2.bl hn; replace x_b2 := x_b2.bl hn; replace hb := hb.trans (hn.mono hb.size)
  clear hn; intro K hK
  go_big_op
  go_fit (fq_any 0 1 _ (by decide) (by decide) (by decide) (by decide))
  rintro e w_24 ⟨_, rfl, ⟨n_fa, o_fa, k_fa, c_fa, n_fb, o_fb, k_fb, c_fb, rfl, f1, f2⟩, hb_24⟩
  replace a1 := a1.bl hb_24; replace a2 := a2.bl hb_24; replace x_b1 := x_b1.bl hb_24; replace b1 := b1.bl hb_24; replace b2 := b2.bl hb_24; replace x_b2 := x_b2.bl hb_24; replace hb := hb.trans (hb_24.mono hb.size)
  have Lf1 := hide (f1.lenOf (zlen_i 0 (by decide) (by decide)))
  have Lf2 := hide (f2.lenOf (zlen_i 1 (by decide) (by decide)))
  refine hK _ _ rfl hb_24 ⟨x_b1.cell 0 rfl, x_b1.cell 1 rfl, x_b1.cell 2 rfl, x_b1.cell 3 rfl, x_b2.cell 0 rfl, x_b2.cell 1 rfl, x_b2.cell 2 rfl, x_b2.cell 3 rfl⟩ ?_
  clear hK K hb_24
  refine wpFl_call rfl (by kernel_rfl) fun w_25 hn hC => ?_; clear hC
  replace a1 := a1.bl hn; replace a2 := a2.bl hn; replace x_b1 := x_b1.bl hn; replace b1 := b1.bl hn; replace b2 := b2.bl hn; replace x_b2 := x_b2.bl hn; replace f1 := f1.bl hn; replace f2 := f2.bl hn; replace hb := hb.trans (hn.mono hb.size)
  clear hn; intro K hK
  go_big_op
  go_fit (ftold_ok (.mk' b1 b2) (.mk' (f1.zn Lf1.out) (f2.zn Lf2.out)) (by decide) (by decide) (by decide))
  rintro e w_26 ⟨rfl, hb_26⟩
  replace a1 := a1.bl hb_26; replace a2 := a2.bl hb_26; replace x_b1 := x_b1.bl hb_26; replace b1 := b1.bl hb_26; replace b2 := b2.bl hb_26; replace x_b2 := x_b2.bl hb_26; replace f1 := f1.bl hb_26; replace f2 := f2.bl hb_26; replace hb := hb.trans (hb_26.mono hb.size)
  refine hK _ _ rfl hb_26 ⟨x_b1.cell 0 rfl, x_b1.cell 1 rfl, x_b1.cell 2 rfl, x_b1.cell 3 rfl, x_b2.cell 0 rfl, x_b2.cell 1 rfl, x_b2.cell 2 rfl, x_b2.cell 3 rfl⟩ ?_
  clear hK K hb_26
  apply wpFl_ld rfl rfl; (case h1 => intro w' hC K hK; go_big_op; exact hK); iterate 4 kernel_rfl
  apply wpFl_ld rfl rfl; (case h1 => intro w' hC K hK; go_big_op; exact hK); iterate 4 kernel_rfl
  apply wpFl_ld rfl rfl; (case h1 => intro w' hC K hK; go_big_move; exact hK); iterate 4 kernel_rfl
  apply wpFl_ld rfl rfl; (case h1 => intro w' hC K hK; go_big_move; exact hK); iterate 4 kernel_rfl
  apply wpFl_ld rfl rfl; (case h1 => intro w' hC K hK; go_big_op; exact hK); iterate 4 kernel_rfl
  apply wpFl_ld rfl rfl; (case h1 => intro w' hC K hK; go_big_op; exact hK); iterate 4 kernel_rfl
  apply wpFl_end
  case ha => intro pt; simp only [putF]; rfl
  case h =>
  intro w_27 pt hn hC hF hD
  clear hC
  clear f1 f2
  replace a1 := a1.bl hn; replace a2 := a2.bl hn; replace x_b1 := x_b1.bl hn; replace b1 := b1.bl hn; replace b2 := b2.bl hn; replace x_b2 := x_b2.bl hn; replace hb := hb.trans (hn.mono hb.size)
  clear hn
  clear hF hD
  clear pt
  clear kb0 lt_b1 lt_b2
  apply wpTail_end
  refine hK6 _ _ ?_
  refine wp_cond_false (congrArg Value.bool (show _ = false from (by first | rfl | assumption | (simp; done) | exact decide_eq_false (by omega) | omega))) ?_
  refine wp_skip ?_
  refine hK5 _ _ ?_
  refine wp_seq_k ?_
  intro K7 hK7
  refine wp_region_sq [0, 1, 2, 3, 4, 5] (by kernel_rfl) ?_
  refine wpSq_call rfl (by kernel_rfl) fun K hK => ?_
  go_big_op
  go_fit (of_tenth _)
  rintro e w_28 ⟨_, rfl, ⟨n_ga, o_ga, k_ga, c_ga, n_gb, o_gb, k_gb, c_gb, rfl, g1, g2⟩, hb_28⟩
  replace a1 := a1.bl hb_28; replace a2 := a2.bl hb_28; replace x_b1 := x_b1.bl hb_28; replace b1 := b1.bl hb_28; replace b2 := b2.bl hb_28; replace x_b2 := x_b2.bl hb_28; replace hb := hb.trans (hb_28.mono hb.size)
  refine hK _ _ rfl ?_
  clear hK K hb_28
  refine wpSq_call rfl (by kernel_rfl) fun K hK => ?_
  go_big_move; refine hK _ _ rfl ?_; clear hK K
  refine wpSq_call rfl (by kernel_rfl) fun K hK => ?_
  go_big_op; refine hK _ _ rfl ?_; clear hK K
  refine wpSq_call rfl (by kernel_rfl) fun K hK => ?_
  go_big_op; refine hK _ _ rfl ?_; clear hK K
  refine wpSq_call rfl (by kernel_rfl) fun K hK => ?_
  obtain ⟨d0, d1, d2, d3⟩ := x_b1.f4
  have f0 := x_b1.free 0; have f1 := x_b1.free 1; have f2 := x_b1.free 2; have f3 := x_b1.free 3
  go_big_op
  have hnd := x_b1.nod rfl rfl
  obtain ⟨w_29, eW, x_b1', ho⟩ : ∃ w', ((((w_28.setCell ⟨p_b1, 0, none⟩ (.bool n_ga)).setCell ⟨p_b1, 1, none⟩ (.slice o_ga k_ga c_ga)).setCell ⟨p_b1, 2, none⟩ (.bool n_gb)).setCell ⟨p_b1, 3, none⟩ (.slice o_gb k_gb c_gb)) = w' ∧ Bs w' p_b1 #[.bool n_ga, .slice o_ga k_ga c_ga, .bool n_gb, .slice o_gb k_gb c_gb] 26 ∧ Only p_b1 w_28 w' := x_b1.setN [(0, .bool n_ga), (1, .slice o_ga k_ga c_ga), (2, .bool n_gb), (3, .slice o_gb k_gb c_gb)]
  rw [eW]; clear eW d0 d1 d2 d3 f0 f1 f2 f3 x_b1
  have x_b1 := x_b1'; clear x_b1'
  clear a1 a2
  replace b1 := b1.fr hnd ho; replace b2 := b2.fr hnd ho; replace x_b2 := x_b2.frame ho ne_b1_b2.symm; replace g1 := g1.fr hnd ho; replace g2 := g2.fr hnd ho; replace hb := belowOnly hb ho kb_b1
  refine hK _ _ rfl ?_; clear hK K ho hnd
  refine wpSq_call rfl (by kernel_rfl) fun K hK => ?_
  go_big_move; refine hK _ _ rfl ?_; clear hK K
  apply wpSq_end
  refine hK7 _ _ ?_
  refine wp_seq_k ?_
  intro K8 hK8
  refine wp_region_sq [0, 1, 2, 3, 4, 5, 6] (by kernel_rfl) ?_
  refine wpSq_call rfl (by kernel_rfl) fun K hK => ?_
  go_big_op
  go_fit (copysign_z _)
  rintro e w_30 ⟨rfl, hb_30⟩
  replace x_b1 := x_b1.bl hb_30; replace b1 := b1.bl hb_30; replace b2 := b2.bl hb_30; replace x_b2 := x_b2.bl hb_30; replace g1 := g1.bl hb_30; replace g2 := g2.bl hb_30; replace hb := hb.trans (hb_30.mono hb.size)
  refine hK _ _ rfl ?_
  clear hK K hb_30
  refine wpSq_call rfl (by kernel_rfl) fun K hK => ?_
  go_big_op
  go_fit (of_mzero _)
  rintro e w_31 ⟨_, rfl, ⟨n_ha, o_ha, k_ha, c_ha, n_hb, o_hb, k_hb, c_hb, rfl, h1, h2⟩, hb_31⟩
  replace x_b1 := x_b1.bl hb_31; replace b1 := b1.bl hb_31; replace b2 := b2.bl hb_31; replace x_b2 := x_b2.bl hb_31; replace g1 := g1.bl hb_31; replace g2 := g2.bl hb_31; replace hb := hb.trans (hb_31.mono hb.size)
  refine hK _ _ rfl ?_
  clear hK K hb_31
  refine wpSq_call rfl (by kernel_rfl) fun K hK => ?_
  go_big_move; refine hK _ _ rfl ?_; clear hK K
  refine wpSq_call rfl (by kernel_rfl) fun K hK => ?_
  go_big_op; refine hK _ _ rfl ?_; clear hK K
  refine wpSq_call rfl (by kernel_rfl) fun K hK => ?_
  go_big_op; refine hK _ _ rfl ?_; clear hK K
  refine wpSq_call rfl (by kernel_rfl) fun K hK => ?_
  obtain ⟨d0, d1, d2, d3⟩ := x_b2.f4
  have f0 := x_b2.free 0; have f1 := x_b2.free 1; have f2 := x_b2.free 2; have f3 := x_b2.free 3
  go_big_op
  have hnd := x_b2.nod rfl rfl
  obtain ⟨w_32, eW, x_b2', ho⟩ : ∃ w', ((((w_31.setCell ⟨p_b2, 0, none⟩ (.bool n_ha)).setCell ⟨p_b2, 1, none⟩ (.slice o_ha k_ha c_ha)).setCell ⟨p_b2, 2, none⟩ (.bool n_hb)).setCell ⟨p_b2, 3, none⟩ (.slice o_hb k_hb c_hb)) = w' ∧ Bs w' p_b2 #[.bool n_ha, .slice o_ha k_ha c_ha, .bool n_hb, .slice o_hb k_hb c_hb] 26 ∧ Only p_b2 w_31 w' := x_b2.setN [(0, .bool n_ha), (1, .slice o_ha k_ha c_ha), (2, .bool n_hb), (3, .slice o_hb k_hb c_hb)]
  rw [eW]; clear eW d0 d1 d2 d3 f0 f1 f2 f3 x_b2
  have x_b2 := x_b2'; clear x_b2'
  clear b1 b2
  replace x_b1 := x_b1.frame ho ne_b1_b2; replace g1 := g1.fr hnd ho; replace g2 := g2.fr hnd ho; replace h1 := h1.fr hnd ho; replace h2 := h2.fr hnd ho; replace hb := belowOnly hb ho kb_b2
  refine hK _ _ rfl ?_; clear hK K ho hnd
  refine wpSq_call rfl (by kernel_rfl) fun K hK => ?_
  go_big_move; refine hK _ _ rfl ?_; clear hK K
  apply wpSq_end
  refine hK8 _ _ ?_
  refine wp_seq_k ?_
  intro K9 hK9
  refine wp_region_sq [0, 1, 2, 3, 4, 5, 6] (by kernel_rfl) ?_
  refine wpSq_call rfl (by kernel_rfl) fun K hK => ?_
  go_big_op
  go_fit (HP.out _)
  rintro e w_33 ⟨_, rfl, ⟨n_ja, o_ja, k_ja, c_ja, n_jb, o_jb, k_jb, c_jb, rfl, j1, j2⟩, hb_33⟩
  replace x_b1 := x_b1.bl hb_33; replace x_b2 := x_b2.bl hb_33; replace g1 := g1.bl hb_33; replace g2 := g2.bl hb_33; replace h1 := h1.bl hb_33; replace h2 := h2.bl hb_33; replace hb := hb.trans (hb_33.mono hb.size)
  have Lj2 := hide (j2.lenOf (LP.out))
  refine hK _ _ rfl ?_
  clear hK K hb_33
  refine wpSq_call rfl (by kernel_rfl) fun K hK => ?_
  go_big_move; refine hK _ _ rfl ?_; clear hK K
  refine wpSq_call rfl (by kernel_rfl) fun K hK => ?_
  go_big_op; refine hK _ _ rfl ?_; clear hK K
  refine wpSq_call rfl (by kernel_rfl) fun K hK => ?_
  go_big_op; refine hK _ _ rfl ?_; clear hK K
  refine wpSq_call rfl (by kernel_rfl) fun K hK => ?_
  go_big_op
  have lt_b1 := x_b1.lt
  have lt_b2 := x_b2.lt
  obtain ⟨p_b4, w_34, eP, eW, x_b4, hn, kb_b4⟩ := newBox w_33 #[.bool false, .slice none 0 0, .bool false, .slice none 0 0] 26 hb.size
  have ne_b1_b4 : Hid (p_b1 ≠ p_b4) := Nat.ne_of_lt (eP ▸ lt_b1)
  have ne_b2_b4 : Hid (p_b2 ≠ p_b4) := Nat.ne_of_lt (eP ▸ lt_b2)
  rw [eW, eP]
  clear eW eP lt_b1 lt_b2
  replace x_b1 := x_b1.bl hn; replace x_b2 := x_b2.bl hn; replace g1 := g1.bl hn; replace g2 := g2.bl hn; replace h1 := h1.bl hn; replace h2 := h2.bl hn; replace j1 := j1.bl hn; replace j2 := j2.bl hn; replace hb := hb.trans (hn.mono hb.size)
  refine hK _ _ rfl ?_; clear hK K hn
  refine wpSq_call rfl (by kernel_rfl) fun K hK => ?_
  obtain ⟨d0, d1, d2, d3⟩ := x_b4.f4
  have f0 := x_b4.free 0; have f1 := x_b4.free 1; have f2 := x_b4.free 2; have f3 := x_b4.free 3
  go_big_op
  have hnd := x_b4.nod rfl rfl
  obtain ⟨w_35, eW, x_b4', ho⟩ : ∃ w', ((((w_34.setCell ⟨p_b4, 0, none⟩ (.bool n_ja)).setCell ⟨p_b4, 1, none⟩ (.slice o_ja k_ja c_ja)).setCell ⟨p_b4, 2, none⟩ (.bool n_jb)).setCell ⟨p_b4, 3, none⟩ (.slice o_jb k_jb c_jb)) = w' ∧ Bs w' p_b4 #[.bool n_ja, .slice o_ja k_ja c_ja, .bool n_jb, .slice o_jb k_jb c_jb] 26 ∧ Only p_b4 w_34 w' := x_b4.setN [(0, .bool n_ja), (1, .slice o_ja k_ja c_ja), (2, .bool n_jb), (3, .slice o_jb k_jb c_jb)]
  rw [eW]; clear eW d0 d1 d2 d3 f0 f1 f2 f3 x_b4
  have x_b4 := x_b4'; clear x_b4'
  replace x_b1 := x_b1.frame ho ne_b1_b4; replace x_b2 := x_b2.frame ho ne_b2_b4; replace g1 := g1.fr hnd ho; replace g2 := g2.fr hnd ho; replace h1 := h1.fr hnd ho; replace h2 := h2.fr hnd ho; replace j1 := j1.fr hnd ho; replace j2 := j2.fr hnd ho; replace hb := belowOnly hb ho kb_b4
  refine hK _ _ rfl ?_; clear hK K ho hnd
  refine wpSq_call rfl (by kernel_rfl) fun K hK => ?_
  go_big_move; refine hK _ _ rfl ?_; clear hK K
  apply wpSq_end
  refine hK9 _ _ ?_
  refine wp_seq_k ?_
  intro K10 hK10
  refine wp_region_sq [0, 1, 2, 3, 4, 5, 6, 7] (by kernel_rfl) ?_
  refine wpSq_call rfl (by kernel_rfl) fun K hK => ?_
  go_big_op
  go_fit (inf_one _)
  rintro e w_36 ⟨rfl, hb_36⟩
  replace x_b1 := x_b1.bl hb_36; replace x_b2 := x_b2.bl hb_36; replace g1 := g1.bl hb_36; replace g2 := g2.bl hb_36; replace h1 := h1.bl hb_36; replace h2 := h2.bl hb_36; replace j1 := j1.bl hb_36; replace j2 := j2.bl hb_36; replace x_b4 := x_b4.bl hb_36; replace hb := hb.trans (hb_36.mono hb.size)
  refine hK _ _ rfl ?_
  clear hK K hb_36
  refine wpSq_call rfl (by kernel_rfl) fun K hK => ?_
  go_big_op
  go_fit (fOf_inf fb_inf)
  rintro e w_37 ⟨rfl, hb_37⟩
  replace x_b1 := x_b1.bl hb_37; replace x_b2 := x_b2.bl hb_37; replace g1 := g1.bl hb_37; replace g2 := g2.bl hb_37; replace h1 := h1.bl hb_37; replace h2 := h2.bl hb_37; replace j1 := j1.bl hb_37; replace j2 := j2.bl hb_37; replace x_b4 := x_b4.bl hb_37; replace hb := hb.trans (hb_37.mono hb.size)
  refine hK _ _ rfl ?_
  clear hK K hb_37
  refine wpSq_call rfl (by kernel_rfl) fun K hK => ?_
  go_big_move; refine hK _ _ rfl ?_; clear hK K
  refine wpSq_call rfl (by kernel_rfl) fun K hK => ?_
  go_big_op; refine hK _ _ rfl ?_; clear hK K
  refine wpSq_call rfl (by kernel_rfl) fun K hK => ?_
  go_big_op; refine hK _ _ rfl ?_; clear hK K
  refine wpSq_call rfl (by kernel_rfl) fun K hK => ?_
  go_big_op
  have lt_b1 := x_b1.lt
  have lt_b2 := x_b2.lt
  have lt_b4 := x_b4.lt
  obtain ⟨p_b5, w_38, eP, eW, x_b5, hn, kb_b5⟩ := newBox w_37 #[.bool false, .slice none 0 0, .bool false, .slice none 0 0] 26 hb.size
  have ne_b1_b5 : Hid (p_b1 ≠ p_b5) := Nat.ne_of_lt (eP ▸ lt_b1)
  have ne_b2_b5 : Hid (p_b2 ≠ p_b5) := Nat.ne_of_lt (eP ▸ lt_b2)
  have ne_b4_b5 : Hid (p_b4 ≠ p_b5) := Nat.ne_of_lt (eP ▸ lt_b4)
  rw [eW, eP]
  clear eW eP lt_b1 lt_b2 lt_b4
  replace x_b1 := x_b1.bl hn; replace x_b2 := x_b2.bl hn; replace g1 := g1.bl hn; replace g2 := g2.bl hn; replace h1 := h1.bl hn; replace h2 := h2.bl hn; replace j1 := j1.bl hn; replace j2 := j2.bl hn; replace x_b4 := x_b4.bl hn; replace hb := hb.trans (hn.mono hb.size)
  refine hK _ _ rfl ?_; clear hK K hn
  refine wpSq_call rfl (by kernel_rfl) fun K hK => ?_
  obtain ⟨d0, d1, d2, d3⟩ := x_b5.f4
  have f0 := x_b5.free 0; have f1 := x_b5.free 1; have f2 := x_b5.free 2; have f3 := x_b5.free 3
  go_big_op
  have hnd := x_b5.nod rfl rfl
  obtain ⟨w_39, eW, x_b5', ho⟩ : ∃ w', ((((w_38.setCell ⟨p_b5, 0, none⟩ (.bool false)).setCell ⟨p_b5, 1, none⟩ (.slice none 0 0)).setCell ⟨p_b5, 2, none⟩ (.bool false)).setCell ⟨p_b5, 3, none⟩ (.slice none 0 0)) = w' ∧ Bs w' p_b5 #[.bool false, .slice none 0 0, .bool false, .slice none 0 0] 26 ∧ Only p_b5 w_38 w' := x_b5.setN [(0, .bool false), (1, .slice none 0 0), (2, .bool false), (3, .slice none 0 0)]
  rw [eW]; clear eW d0 d1 d2 d3 f0 f1 f2 f3 x_b5
  have x_b5 := x_b5'; clear x_b5'
  replace x_b1 := x_b1.frame ho ne_b1_b5; replace x_b2 := x_b2.frame ho ne_b2_b5; replace g1 := g1.fr hnd ho; replace g2 := g2.fr hnd ho; replace h1 := h1.fr hnd ho; replace h2 := h2.fr hnd ho; replace j1 := j1.fr hnd ho; replace j2 := j2.fr hnd ho; replace x_b4 := x_b4.frame ho ne_b4_b5; replace hb := belowOnly hb ho kb_b5
  refine hK _ _ rfl ?_; clear hK K ho hnd
  refine wpSq_call rfl (by kernel_rfl) fun K hK => ?_
  go_big_move; refine hK _ _ rfl ?_; clear hK K
  apply wpSq_end
  refine hK10 _ _ ?_
  refine wp_seq_k ?_
  intro K11 hK11
  refine wp_seq_k ?_
  intro K12 hK12
  refine wp_region_fl2 [(0, false), (1, false), (2, true), (3, true), (4, false), (5, false), (6, false), (7, false), (8, true), (9, true), (10, false), (11, false), (12, false), (13, false), (14, false), (15, false), (16, false), (17, false), (18, false), (19, true), (20, false), (21, false), (22, false), (23, false), (24, false), (25, false)] [] [] (fun _ => default) [0, 99, 99, 99, 99, 99, 1, 99, 99, 99, 99, 99, 99, 99, 99, 99, 99, 99, 2, 99, 99, 99, 99, 99, 99, 99] [] (fun w' => w'.cell? ⟨p_b1, 0, none⟩ = some (.bool n_ga) ∧ w'.cell? ⟨p_b1, 1, none⟩ = some (.slice o_ga k_ga c_ga) ∧ w'.cell? ⟨p_b1, 2, none⟩ = some (.bool n_gb) ∧ w'.cell? ⟨p_b1, 3, none⟩ = some (.slice o_gb k_gb c_gb) ∧ w'.cell? ⟨p_b2, 0, none⟩ = some (.bool n_ha) ∧ w'.cell? ⟨p_b2, 1, none⟩ = some (.slice o_ha k_ha c_ha) ∧ w'.cell? ⟨p_b2, 2, none⟩ = some (.bool n_hb) ∧ w'.cell? ⟨p_b2, 3, none⟩ = some (.slice o_hb k_hb c_hb) ∧ w'.cell? ⟨p_b4, 0, none⟩ = some (.bool n_ja) ∧ w'.cell? ⟨p_b4, 1, none⟩ = some (.slice o_ja k_ja c_ja) ∧ w'.cell? ⟨p_b4, 2, none⟩ = some (.bool n_jb) ∧ w'.cell? ⟨p_b4, 3, none⟩ = some (.slice o_jb k_jb c_jb)) [fun w' => w'.cell? ⟨p_b1, 0, none⟩ = some (.bool n_ga) ∧ w'.cell? ⟨p_b1, 1, none⟩ = some (.slice o_ga k_ga c_ga) ∧ w'.cell? ⟨p_b1, 2, none⟩ = some (.bool n_gb) ∧ w'.cell? ⟨p_b1, 3, none⟩ = some (.slice o_gb k_gb c_gb), fun w' => w'.cell? ⟨p_b2, 0, none⟩ = some (.bool n_ha) ∧ w'.cell? ⟨p_b2, 1, none⟩ = some (.slice o_ha k_ha c_ha) ∧ w'.cell? ⟨p_b2, 2, none⟩ = some (.bool n_hb) ∧ w'.cell? ⟨p_b2, 3, none⟩ = some (.slice o_hb k_hb c_hb), fun w' => w'.cell? ⟨p_b4, 0, none⟩ = some (.bool n_ja) ∧ w'.cell? ⟨p_b4, 1, none⟩ = some (.slice o_ja k_ja c_ja) ∧ w'.cell? ⟨p_b4, 2, none⟩ = some (.bool n_jb) ∧ w'.cell? ⟨p_b4, 3, none⟩ = some (.slice o_jb k_jb c_jb)] (by kernel_rfl) (by kernel_rfl) (by kernel_rfl) (by kernel_rfl) (by kernel_rfl) (by kernel_rfl) (by kernel_rfl) (by kernel_rfl) (by decide) (by intro j hj; cases hj) (by intro w' o hC; obtain ⟨c0, c1, c2, c3, c4, c5, c6, c7, c8, c9, c10, c11⟩ := hC; exact ⟨cell_alloc c0 o, cell_alloc c1 o, cell_alloc c2 o, cell_alloc c3 o, cell_alloc c4 o, cell_alloc c5 o, cell_alloc c6 o, cell_alloc c7 o, cell_alloc c8 o, cell_alloc c9 o, cell_alloc c10 o, cell_alloc c11 o⟩) (by intro w' hC G hG; obtain ⟨c0, c1, c2, c3, c4, c5, c6, c7, c8, c9, c10, c11⟩ := hC; simp only [List.mem_cons, List.not_mem_nil, or_false] at hG; rcases hG with rfl | rfl | rfl <;> first | exact ⟨c0, c1, c2, c3⟩ | exact ⟨c4, c5, c6, c7⟩ | exact ⟨c8, c9, c10, c11⟩) ?_
  clear x_b5
  have lt_b1 := x_b1.lt
  have lt_b2 := x_b2.lt
  have lt_b4 := x_b4.lt
  intro w_40 hn
  replace lt_b1 := Nat.lt_of_lt_of_le lt_b1 hn.size
  replace lt_b2 := Nat.lt_of_lt_of_le lt_b2 hn.size
  replace lt_b4 := Nat.lt_of_lt_of_le lt_b4 hn.size
  replace x_b1 := x_b1.bl hn; replace x_b2 := x_b2.bl hn; replace g1 := g1.bl hn; replace g2 := g2.bl hn; replace h1 := h1.bl hn; replace h2 := h2.bl hn; replace j1 := j1.bl hn; replace j2 := j2.bl hn; replace x_b4 := x_b4.bl hn; replace hb := hb.trans (hn.mono hb.size)
  clear hn
  have kb0 := hb.size
  refine ⟨⟨x_b1.cell 0 rfl, x_b1.cell 1 rfl, x_b1.cell 2 rfl, x_b1.cell 3 rfl, x_b2.cell 0 rfl, x_b2.cell 1 rfl, x_b2.cell 2 rfl, x_b2.cell 3 rfl, x_b4.cell 0 rfl, x_b4.cell 1 rfl, x_b4.cell 2 rfl, x_b4.cell 3 rfl⟩, ?_⟩
  apply wpFl_ld rfl rfl; (case h1 => intro w' hC K hK; obtain ⟨c0, c1, c2, c3⟩ := hC; go_big_op; exact hK); iterate 4 kernel_rfl
  apply wpFl_ld rfl rfl; (case h1 => intro w' hC K hK; go_big_move; exact hK); iterate 4 kernel_rfl
  refine wpFl_call rfl (by kernel_rfl) fun w_41 hn hC => ?_; clear hC
  replace x_b1 := x_b1.bl hn; replace x_b2 := x_b2.bl hn; replace g1 := g1.bl hn; replace g2 := g2.bl hn; replace h1 := h1.bl hn; replace h2 := h2.bl hn; replace j1 := j1.bl hn; replace j2 := j2.bl hn; replace x_b4 := x_b4.bl hn; replace hb := hb.trans (hn.mono hb.size)
  clear hn; intro K hK
  go_big_op
  go_fit (fq_any 3602879701896397 36028797018963968 _ (by decide) (by decide) (by decide) (by decide))
  rintro e w_42 ⟨_, rfl, ⟨n_oa, o_oa, k_oa, c_oa, n_ob, o_ob, k_ob, c_ob, rfl, o1, o2⟩, hb_42⟩
  replace x_b1 := x_b1.bl hb_42; replace x_b2 := x_b2.bl hb_42; replace g1 := g1.bl hb_42; replace g2 := g2.bl hb_42; replace h1 := h1.bl hb_42; replace h2 := h2.bl hb_42; replace j1 := j1.bl hb_42; replace j2 := j2.bl hb_42; replace x_b4 := x_b4.bl hb_42; replace hb := hb.trans (hb_42.mono hb.size)
  have Lo1 := hide (o1.lenOf (zlen_i 3602879701896397 (by decide) (by decide)))
  have Lo2 := hide (o2.lenOf (zlen_i 36028797018963968 (by decide) (by decide)))
  refine hK _ _ rfl hb_42 ⟨x_b1.cell 0 rfl, x_b1.cell 1 rfl, x_b1.cell 2 rfl, x_b1.cell 3 rfl, x_b2.cell 0 rfl, x_b2.cell 1 rfl, x_b2.cell 2 rfl, x_b2.cell 3 rfl, x_b4.cell 0 rfl, x_b4.cell 1 rfl, x_b4.cell 2 rfl, x_b4.cell 3 rfl⟩ ?_
  clear hK K hb_42
  refine wpFl_call rfl (by kernel_rfl) fun w_43 hn hC => ?_; clear hC
  replace x_b1 := x_b1.bl hn; replace x_b2 := x_b2.bl hn; replace g1 := g1.bl hn; replace g2 := g2.bl hn; replace h1 := h1.bl hn; replace h2 := h2.bl hn; replace j1 := j1.bl hn; replace j2 := j2.bl hn; replace x_b4 := x_b4.bl hn; replace o1 := o1.bl hn; replace o2 := o2.bl hn; replace hb := hb.trans (hn.mono hb.size)
  clear hn; intro K hK
  go_big_op
  go_fit (ftold_ok (.mk' g1 g2) (.mk' (o1.zn Lo1.out) (o2.zn Lo2.out)) (by decide) (by decide) (by decide))
  rintro e w_44 ⟨rfl, hb_44⟩
  replace x_b1 := x_b1.bl hb_44; replace x_b2 := x_b2.bl hb_44; replace g1 := g1.bl hb_44; replace g2 := g2.bl hb_44; replace h1 := h1.bl hb_44; replace h2 := h2.bl hb_44; replace j1 := j1.bl hb_44; replace j2 := j2.bl hb_44; replace x_b4 := x_b4.bl hb_44; replace o1 := o1.bl hb_44; replace o2 := o2.bl hb_44; replace hb := hb.trans (hb_44.mono hb.size)
  refine hK _ _ rfl hb_44 ⟨x_b1.cell 0 rfl, x_b1.cell 1 rfl, x_b1.cell 2 rfl, x_b1.cell 3 rfl, x_b2.cell 0 rfl, x_b2.cell 1 rfl, x_b2.cell 2 rfl, x_b2.cell 3 rfl, x_b4.cell 0 rfl, x_b4.cell 1 rfl, x_b4.cell 2 rfl, x_b4.cell 3 rfl⟩ ?_
  clear hK K hb_44
  apply wpFl_ld rfl rfl; (case h1 => intro w' hC K hK; go_big_op; exact hK); iterate 4 kernel_rfl
  apply wpFl_ld rfl rfl; (case h1 => intro w' hC K hK; go_big_move; exact hK); iterate 4 kernel_rfl
  apply wpFl_ld rfl rfl; (case h1 => intro w' hC K hK; obtain ⟨c0, c1, c2, c3⟩ := hC; go_big_op; exact hK); iterate 4 kernel_rfl
  apply wpFl_ld rfl rfl; (case h1 => intro w' hC K hK; go_big_move; exact hK); iterate 4 kernel_rfl
  refine wpFl_call rfl (by kernel_rfl) fun w_45 hn hC => ?_; clear hC
  clear o1 o2
  replace x_b1 := x_b1.bl hn; replace x_b2 := x_b2.bl hn; replace g1 := g1.bl hn; replace g2 := g2.bl hn; replace h1 := h1.bl hn; replace h2 := h2.bl hn; replace j1 := j1.bl hn; replace j2 := j2.bl hn; replace x_b4 := x_b4.bl hn; replace hb := hb.trans (hn.mono hb.size)
  clear hn; intro K hK
  go_big_op
  go_fit (fq_any 0 1 _ (by decide) (by decide) (by decide) (by decide))
  rintro e w_46 ⟨_, rfl, ⟨n_pa, o_pa, k_pa, c_pa, n_pb, o_pb, k_pb, c_pb, rfl, p1, p2⟩, hb_46⟩
  replace x_b1 := x_b1.bl hb_46; replace x_b2 := x_b2.bl hb_46; replace g1 := g1.bl hb_46; replace g2 := g2.bl hb_46; replace h1 := h1.bl hb_46; replace h2 := h2.bl hb_46; replace j1 := j1.bl hb_46; replace j2 := j2.bl hb_46; replace x_b4 := x_b4.bl hb_46; replace hb := hb.trans (hb_46.mono hb.size)
  have Lp1 := hide (p1.lenOf (zlen_i 0 (by decide) (by decide)))
  have Lp2 := hide (p2.lenOf (zlen_i 1 (by decide) (by decide)))
  refine hK _ _ rfl hb_46 ⟨x_b1.cell 0 rfl, x_b1.cell 1 rfl, x_b1.cell 2 rfl, x_b1.cell 3 rfl, x_b2.cell 0 rfl, x_b2.cell 1 rfl, x_b2.cell 2 rfl, x_b2.cell 3 rfl, x_b4.cell 0 rfl, x_b4.cell 1 rfl, x_b4.cell 2 rfl, x_b4.cell 3 rfl⟩ ?_
  clear hK K hb_46
  refine wpFl_call rfl (by kernel_rfl) fun w_47 hn hC => ?_; clear hC
  replace x_b1 := x_b1.bl hn; replace x_b2 := x_b2.bl hn; replace g1 := g1.bl hn; replace g2 := g2.bl hn; replace h1 := h1.bl hn; replace h2 := h2.bl hn; replace j1 := j1.bl hn; replace j2 := j2.bl hn; replace x_b4 := x_b4.bl hn; replace p1 := p1.bl hn; replace p2 := p2.bl hn; replace hb := hb.trans (hn.mono hb.size)
  clear hn; intro K hK
  go_big_op
  go_fit (ftold_ok (.mk' h1 h2) (.mk' (p1.zn Lp1.out) (p2.zn Lp2.out)) (by decide) (by decide) (by decide))
  rintro e w_48 ⟨rfl, hb_48⟩
  replace x_b1 := x_b1.bl hb_48; replace x_b2 := x_b2.bl hb_48; replace g1 := g1.bl hb_48; replace g2 := g2.bl hb_48; replace h1 := h1.bl hb_48; replace h2 := h2.bl hb_48; replace j1 := j1.bl hb_48; replace j2 := j2.bl hb_48; replace x_b4 := x_b4.bl hb_48; replace p1 := p1.bl hb_48; replace p2 := p2.bl hb_48; replace hb := hb.trans (hb_48.mono hb.size)
  refine hK _ _ rfl hb_48 ⟨x_b1.cell 0 rfl, x_b1.cell 1 rfl, x_b1.cell 2 rfl, x_b1.cell 3 rfl, x_b2.cell 0 rfl, x_b2.cell 1 rfl, x_b2.cell 2 rfl, x_b2.cell 3 rfl, x_b4.cell 0 rfl, x_b4.cell 1 rfl, x_b4.cell 2 rfl, x_b4.cell 3 rfl⟩ ?_
  clear hK K hb_48
  apply wpFl_ld rfl rfl; (case h1 => intro w' hC K hK; go_big_op; exact hK); iterate 4 kernel_rfl
  apply wpFl_ld rfl rfl; (case h1 => intro w' hC K hK; go_big_op; exact hK); iterate 4 kernel_rfl
  apply wpFl_ld rfl rfl; (case h1 => intro w' hC K hK; go_big_move; exact hK); iterate 4 kernel_rfl
  apply wpFl_ld rfl rfl; (case h1 => intro w' hC K hK; go_big_move; exact hK); iterate 4 kernel_rfl
  apply wpFl_ld rfl rfl; (case h1 => intro w' hC K hK; go_big_op; exact hK); iterate 4 kernel_rfl
  apply wpFl_ld rfl rfl; (case h1 => intro w' hC K hK; go_big_op; exact hK); iterate 4 kernel_rfl
  apply wpFl_ld rfl rfl; (case h1 => intro w' hC K hK; go_big_move; exact hK); iterate 4 kernel_rfl
  apply wpFl_ld rfl rfl; (case h1 => intro w' hC K hK; go_big_op; exact hK); iterate 4 kernel_rfl
  apply wpFl_ld rfl rfl; (case h1 => intro w' hC K hK; obtain ⟨c0, c1, c2, c3⟩ := hC; go_big_op; exact hK); iterate 4 kernel_rfl
  refine wpFl_call rfl (by kernel_rfl) fun w_49 hn hC => ?_; clear hC
  clear p1 p2
  replace x_b1 := x_b1.bl hn; replace x_b2 := x_b2.bl hn; replace g1 := g1.bl hn; replace g2 := g2.bl hn; replace h1 := h1.bl hn; replace h2 := h2.bl hn; replace j1 := j1.bl hn; replace j2 := j2.bl hn; replace x_b4 := x_b4.bl hn; replace hb := hb.trans (hn.mono hb.size)
  clear hn; intro K hK
  go_big_op
  go_fit (zbits_any (j2.zn LP.out) (by decide))
  rintro e w_50 ⟨rfl, hb_50⟩
  replace x_b1 := x_b1.bl hb_50; replace x_b2 := x_b2.bl hb_50; replace g1 := g1.bl hb_50; replace g2 := g2.bl hb_50; replace h1 := h1.bl hb_50; replace h2 := h2.bl hb_50; replace j1 := j1.bl hb_50; replace j2 := j2.bl hb_50; replace x_b4 := x_b4.bl hb_50; replace hb := hb.trans (hb_50.mono hb.size)
  rw [HB.out]
  refine hK _ _ rfl hb_50 ⟨x_b1.cell 0 rfl, x_b1.cell 1 rfl, x_b1.cell 2 rfl, x_b1.cell 3 rfl, x_b2.cell 0 rfl, x_b2.cell 1 rfl, x_b2.cell 2 rfl, x_b2.cell 3 rfl, x_b4.cell 0 rfl, x_b4.cell 1 rfl, x_b4.cell 2 rfl, x_b4.cell 3 rfl⟩ ?_
  clear hK K hb_50
  apply wpFl_ld rfl rfl; (case h1 => intro w' hC K hK; go_big_op; exact hK); iterate 4 kernel_rfl
  apply wpFl_ld rfl rfl; (case h1 => intro w' hC K hK; go_big_op; exact hK); iterate 4 kernel_rfl
  apply wpFl_ld rfl rfl; (case h1 => intro w' hC K hK; go_big_move; exact hK); iterate 4 kernel_rfl
  apply wpFl_ld rfl rfl; (case h1 => intro w' hC K hK; go_big_move; exact hK); iterate 4 kernel_rfl
  apply wpFl_ld rfl rfl; (case h1 => intro w' hC K hK; go_big_op; exact hK); iterate 4 kernel_rfl
  apply wpFl_ld rfl rfl; (case h1 => intro w' hC K hK; go_big_op; exact hK); iterate 4 kernel_rfl
  apply wpFl_end
  case ha => intro pt; simp only [putF]; rfl
  case h =>
  intro w_51 pt hn hC hF hD
  clear hC
  replace x_b1 := x_b1.bl hn; replace x_b2 := x_b2.bl hn; replace g1 := g1.bl hn; replace g2 := g2.bl hn; replace h1 := h1.bl hn; replace h2 := h2.bl hn; replace j1 := j1.bl hn; replace j2 := j2.bl hn; replace x_b4 := x_b4.bl hn; replace hb := hb.trans (hn.mono hb.size)
  clear hn
  clear hF hD
  clear pt
  clear kb0 lt_b1 lt_b2 lt_b4
  apply wpTail_end
  refine hK12 _ _ ?_
  refine wp_cond_false (congrArg Value.bool (show _ = false from (by first | rfl | assumption | (simp; done) | exact decide_eq_false (by omega) | omega))) ?_
  refine wp_skip ?_
  refine hK11 _ _ ?_
  refine wp_seq_k ?_
  intro K13 hK13
  refine wp_region_sq [0, 1, 2, 3, 4, 5, 6] (by kernel_rfl) ?_
  refine wpSq_call rfl (by kernel_rfl) fun K hK => ?_
  go_big_op
  go_fit (fq_any 1 2 _ (by decide) (by decide) (by decide) (by decide))
  rintro e w_52 ⟨_, rfl, ⟨n_qa, o_qa, k_qa, c_qa, n_qb, o_qb, k_qb, c_qb, rfl, q1, q2⟩, hb_52⟩
  replace x_b1 := x_b1.bl hb_52; replace x_b2 := x_b2.bl hb_52; replace g1 := g1.bl hb_52; replace g2 := g2.bl hb_52; replace h1 := h1.bl hb_52; replace h2 := h2.bl hb_52; replace j1 := j1.bl hb_52; replace j2 := j2.bl hb_52; replace x_b4 := x_b4.bl hb_52; replace hb := hb.trans (hb_52.mono hb.size)
  have Lq1 := hide (q1.lenOf (zlen_i 1 (by decide) (by decide)))
  have Lq2 := hide (q2.lenOf (zlen_i 2 (by decide) (by decide)))
  refine hK _ _ rfl ?_
  clear hK K hb_52
  refine wpSq_call rfl (by kernel_rfl) fun K hK => ?_
  go_big_op
  go_fit (fq_any 0 5 _ (by decide) (by decide) (by decide) (by decide))
  rintro e w_53 ⟨_, rfl, ⟨n_ra, o_ra, k_ra, c_ra, n_rb, o_rb, k_rb, c_rb, rfl, r1, r2⟩, hb_53⟩
  replace x_b1 := x_b1.bl hb_53; replace x_b2 := x_b2.bl hb_53; replace g1 := g1.bl hb_53; replace g2 := g2.bl hb_53; replace h1 := h1.bl hb_53; replace h2 := h2.bl hb_53; replace j1 := j1.bl hb_53; replace j2 := j2.bl hb_53; replace x_b4 := x_b4.bl hb_53; replace q1 := q1.bl hb_53; replace q2 := q2.bl hb_53; replace hb := hb.trans (hb_53.mono hb.size)
  have Lr1 := hide (r1.lenOf (zlen_i 0 (by decide) (by decide)))
  have Lr2 := hide (r2.lenOf (zlen_i 5 (by decide) (by decide)))
  refine hK _ _ rfl ?_
  clear hK K hb_53
  refine wpSq_call rfl (by kernel_rfl) fun K hK => ?_
  go_big_op
  go_fit (fQuo_zero (.mk' (q1.zn Lq1.out) (q2.zn Lq2.out)) (.mk' (r1.zn Lr1.out) (r2.zn Lr2.out)) (by decide) (by decide) (by decide) (by decide) (by decide) (by decide))
  rintro e w_54 ⟨rfl, hb_54⟩
  replace x_b1 := x_b1.bl hb_54; replace x_b2 := x_b2.bl hb_54; replace g1 := g1.bl hb_54; replace g2 := g2.bl hb_54; replace h1 := h1.bl hb_54; replace h2 := h2.bl hb_54; replace j1 := j1.bl hb_54; replace j2 := j2.bl hb_54; replace x_b4 := x_b4.bl hb_54; replace q1 := q1.bl hb_54; replace q2 := q2.bl hb_54; replace r1 := r1.bl hb_54; replace r2 := r2.bl hb_54; replace hb := hb.trans (hb_54.mono hb.size)
  refine hK _ _ rfl ?_
  clear hK K hb_54
  refine wpSq_call rfl (by kernel_rfl) fun K hK => ?_
  go_big_move; refine hK _ _ rfl ?_; clear hK K
  refine wpSq_call rfl (by kernel_rfl) fun K hK => ?_
  go_big_op; refine hK _ _ rfl ?_; clear hK K
  refine wpSq_call rfl (by kernel_rfl) fun K hK => ?_
  go_big_op; refine hK _ _ rfl ?_; clear hK K
  refine wpSq_call rfl (by kernel_rfl) fun K hK => ?_
  go_big_move; refine hK _ _ rfl ?_; clear hK K
  apply wpSq_end
  refine hK13 _ _ ?_
  refine wp_seq_k ?_
  intro K14 hK14
  refine wp_region_sq [0, 1, 2, 3, 4, 5, 6, 7] (by kernel_rfl) ?_
  refine wpSq_call rfl (by kernel_rfl) fun K hK => ?_
  go_big_op
  go_fit (fq_any 1 3 _ (by decide) (by decide) (by decide) (by decide))
  rintro e w_55 ⟨_, rfl, ⟨n_sa, o_sa, k_sa, c_sa, n_sb, o_sb, k_sb, c_sb, rfl, s1, s2⟩, hb_55⟩
  clear q1 q2 r1 r2
  replace x_b1 := x_b1.bl hb_55; replace x_b2 := x_b2.bl hb_55; replace g1 := g1.bl hb_55; replace g2 := g2.bl hb_55; replace h1 := h1.bl hb_55; replace h2 := h2.bl hb_55; replace j1 := j1.bl hb_55; replace j2 := j2.bl hb_55; replace x_b4 := x_b4.bl hb_55; replace hb := hb.trans (hb_55.mono hb.size)
  have Ls1 := hide (s1.lenOf (zlen_i 1 (by decide) (by decide)))
  have Ls2 := hide (s2.lenOf (zlen_i 3 (by decide) (by decide)))
  refine hK _ _ rfl ?_
  clear hK K hb_55
  refine wpSq_call rfl (by kernel_rfl) fun K hK => ?_
  go_big_op
  go_fit (fq_any (-1) (-2) _ (by decide) (by decide) (by decide) (by decide))
  rintro e w_56 ⟨_, rfl, ⟨n_ta, o_ta, k_ta, c_ta, n_tb, o_tb, k_tb, c_tb, rfl, t1, t2⟩, hb_56⟩
  replace x_b1 := x_b1.bl hb_56; replace x_b2 := x_b2.bl hb_56; replace g1 := g1.bl hb_56; replace g2 := g2.bl hb_56; replace h1 := h1.bl hb_56; replace h2 := h2.bl hb_56; replace j1 := j1.bl hb_56; replace j2 := j2.bl hb_56; replace x_b4 := x_b4.bl hb_56; replace s1 := s1.bl hb_56; replace s2 := s2.bl hb_56; replace hb := hb.trans (hb_56.mono hb.size)
  have Lt1 := hide (t1.lenOf (zlen_i (-1) (by decide) (by decide)))
  have Lt2 := hide (t2.lenOf (zlen_i (-2) (by decide) (by decide)))
  refine hK _ _ rfl ?_
  clear hK K hb_56
  refine wpSq_call rfl (by kernel_rfl) fun K hK => ?_
  go_big_op
  go_fit (fCmp_any (.mk' (s1.zn Ls1.out) (s2.zn Ls2.out)) (.mk' (t1.zn Lt1.out) (t2.zn Lt2.out)) (by decide) (by decide) (by decide) (by decide) (by decide) (by decide))
  rintro e w_57 ⟨rfl, hb_57⟩
  replace x_b1 := x_b1.bl hb_57; replace x_b2 := x_b2.bl hb_57; replace g1 := g1.bl hb_57; replace g2 := g2.bl hb_57; replace h1 := h1.bl hb_57; replace h2 := h2.bl hb_57; replace j1 := j1.bl hb_57; replace j2 := j2.bl hb_57; replace x_b4 := x_b4.bl hb_57; replace s1 := s1.bl hb_57; replace s2 := s2.bl hb_57; replace t1 := t1.bl hb_57; replace t2 := t2.bl hb_57; replace hb := hb.trans (hb_57.mono hb.size)
  rw [show qcmp 1 3 (-1) (-2) = -1 from by decide]
  refine hK _ _ rfl ?_
  clear hK K hb_57
  refine wpSq_call rfl (by kernel_rfl) fun K hK => ?_
  go_big_move; refine hK _ _ rfl ?_; clear hK K
  refine wpSq_call rfl (by kernel_rfl) fun K hK => ?_
  go_big_op; refine hK _ _ rfl ?_; clear hK K
  refine wpSq_call rfl (by kernel_rfl) fun K hK => ?_
  go_big_op; refine hK _ _ rfl ?_; clear hK K
  refine wpSq_call rfl (by kernel_rfl) fun K hK => ?_
  go_big_move; refine hK _ _ rfl ?_; clear hK K
  refine wpSq_call rfl (by kernel_rfl) fun K hK => ?_
  go_big_move; refine hK _ _ rfl ?_; clear hK K
  apply wpSq_end
  refine hK14 _ _ ?_
  refine wp_seq_k ?_
  intro K15 hK15
  refine wp_region_sq [0, 1, 2, 3, 4, 5, 6, 7] (by kernel_rfl) ?_
  refine wpSq_call rfl (by kernel_rfl) fun K hK => ?_
  go_big_op
  go_fit (fq_any (-1) 2 _ (by decide) (by decide) (by decide) (by decide))
  rintro e w_58 ⟨_, rfl, ⟨n_ua, o_ua, k_ua, c_ua, n_ub, o_ub, k_ub, c_ub, rfl, u1, u2⟩, hb_58⟩
  clear s1 s2 t1 t2
  replace x_b1 := x_b1.bl hb_58; replace x_b2 := x_b2.bl hb_58; replace g1 := g1.bl hb_58; replace g2 := g2.bl hb_58; replace h1 := h1.bl hb_58; replace h2 := h2.bl hb_58; replace j1 := j1.bl hb_58; replace j2 := j2.bl hb_58; replace x_b4 := x_b4.bl hb_58; replace hb := hb.trans (hb_58.mono hb.size)
  have Lu1 := hide (u1.lenOf (zlen_i (-1) (by decide) (by decide)))
  have Lu2 := hide (u2.lenOf (zlen_i 2 (by decide) (by decide)))
  refine hK _ _ rfl ?_
  clear hK K hb_58
  refine wpSq_call rfl (by kernel_rfl) fun K hK => ?_
  go_big_op
  go_fit (fFloor_any (PN.mk' (u1.zn Lu1.out) (u2.zn Lu2.out)) (by omega) (by omega) (show (2 : Int) ≠ 0 by decide))
  rintro e w_59 ⟨v_v, rfl, v, hb_59⟩
  replace x_b1 := x_b1.bl hb_59; replace x_b2 := x_b2.bl hb_59; replace g1 := g1.bl hb_59; replace g2 := g2.bl hb_59; replace h1 := h1.bl hb_59; replace h2 := h2.bl hb_59; replace j1 := j1.bl hb_59; replace j2 := j2.bl hb_59; replace x_b4 := x_b4.bl hb_59; replace u1 := u1.bl hb_59; replace u2 := u2.bl hb_59; replace hb := hb.trans (hb_59.mono hb.size)
  obtain ⟨n_v, o_v, k_v, c_v, rfl⟩ := v.open2
  have Lv := hide (v.lenOf (fdiv_len ((show (2 : Int) ≠ 0 by decide)) (Lu1.out)))
  rw [show (-1 : Int).fdiv 2 = -1 from by decide] at v
  refine hK _ _ rfl ?_
  clear hK K hb_59
  refine wpSq_call rfl (by kernel_rfl) fun K hK => ?_
  go_big_move; refine hK _ _ rfl ?_; clear hK K
  refine wpSq_call rfl (by kernel_rfl) fun K hK => ?_
  go_big_op; refine hK _ _ rfl ?_; clear hK K
  refine wpSq_call rfl (by kernel_rfl) fun K hK => ?_
  go_big_op; refine hK _ _ rfl ?_; clear hK K
  refine wpSq_call rfl (by kernel_rfl) fun K hK => ?_
  go_big_op
  clear u1 u2
  have lt_b1 := x_b1.lt
  have lt_b2 := x_b2.lt
  have lt_b4 := x_b4.lt
  obtain ⟨p_b6, w_60, eP, eW, x_b6, hn, kb_b6⟩ := newBox w_59 #[.bool false, .slice none 0 0] 24 hb.size
  have ne_b1_b6 : Hid (p_b1 ≠ p_b6) := Nat.ne_of_lt (eP ▸ lt_b1)
  have ne_b2_b6 : Hid (p_b2 ≠ p_b6) := Nat.ne_of_lt (eP ▸ lt_b2)
  have ne_b4_b6 : Hid (p_b4 ≠ p_b6) := Nat.ne_of_lt (eP ▸ lt_b4)
  rw [eW, eP]
  clear eW eP lt_b1 lt_b2 lt_b4
  replace x_b1 := x_b1.bl hn; replace x_b2 := x_b2.bl hn; replace g1 := g1.bl hn; replace g2 := g2.bl hn; replace h1 := h1.bl hn; replace h2 := h2.bl hn; replace j1 := j1.bl hn; replace j2 := j2.bl hn; replace x_b4 := x_b4.bl hn; replace v := v.bl hn; replace hb := hb.trans (hn.mono hb.size)
  refine hK _ _ rfl ?_; clear hK K hn
  refine wpSq_call rfl (by kernel_rfl) fun K hK => ?_
  obtain ⟨d0, d1⟩ := x_b6.f2
  have f0 := x_b6.free 0; have f1 := x_b6.free 1
  go_big_op
  have hnd := x_b6.nod rfl rfl
  obtain ⟨w_61, eW, x_b6', ho⟩ : ∃ w', ((w_60.setCell ⟨p_b6, 0, none⟩ (.bool n_v)).setCell ⟨p_b6, 1, none⟩ (.slice o_v k_v c_v)) = w' ∧ Bs w' p_b6 #[.bool n_v, .slice o_v k_v c_v] 24 ∧ Only p_b6 w_60 w' := x_b6.setN [(0, .bool n_v), (1, .slice o_v k_v c_v)]
  rw [eW]; clear eW d0 d1 f0 f1 x_b6
  have x_b6 := x_b6'; clear x_b6'
  replace x_b1 := x_b1.frame ho ne_b1_b6; replace x_b2 := x_b2.frame ho ne_b2_b6; replace g1 := g1.fr hnd ho; replace g2 := g2.fr hnd ho; replace h1 := h1.fr hnd ho; replace h2 := h2.fr hnd ho; replace j1 := j1.fr hnd ho; replace j2 := j2.fr hnd ho; replace x_b4 := x_b4.frame ho ne_b4_b6; replace v := v.fr hnd ho; replace hb := belowOnly hb ho kb_b6
  refine hK _ _ rfl ?_; clear hK K ho hnd
  refine wpSq_call rfl (by kernel_rfl) fun K hK => ?_
  go_big_move; refine hK _ _ rfl ?_; clear hK K
  apply wpSq_end
  refine hK15 _ _ ?_
  refine wp_seq_k ?_
  intro K16 hK16
  refine wp_region_sq [0, 1, 2, 3, 4, 5, 6, 7] (by kernel_rfl) ?_
  refine wpSq_call rfl (by kernel_rfl) fun K hK => ?_
  go_big_op
  go_fit (fq_any 1 2 _ (by decide) (by decide) (by decide) (by decide))
  rintro e w_62 ⟨_, rfl, ⟨n_z1xa, o_z1xa, k_z1xa, c_z1xa, n_z1xb, o_z1xb, k_z1xb, c_z1xb, rfl, z1x1, z1x2⟩, hb_62⟩
  replace x_b1 := x_b1.bl hb_62; replace x_b2 := x_b2.bl hb_62; replace g1 := g1.bl hb_62; replace g2 := g2.bl hb_62; replace h1 := h1.bl hb_62; replace h2 := h2.bl hb_62; replace j1 := j1.bl hb_62; replace j2 := j2.bl hb_62; replace x_b4 := x_b4.bl hb_62; replace v := v.bl hb_62; replace x_b6 := x_b6.bl hb_62; replace hb := hb.trans (hb_62.mono hb.size)
  have Lz1x1 := hide (z1x1.lenOf (zlen_i 1 (by decide) (by decide)))
  have Lz1x2 := hide (z1x2.lenOf (zlen_i 2 (by decide) (by decide)))
  refine hK _ _ rfl ?_
  clear hK K hb_62
  refine wpSq_call rfl (by kernel_rfl) fun K hK => ?_
  go_big_op
  go_fit (fRound_any (PN.mk' (z1x1.zn Lz1x1.out) (z1x2.zn Lz1x2.out)) (by omega) (by omega) (show (2 : Int) ≠ 0 by decide))
  rintro e w_63 ⟨v_z2x, rfl, z2x, hb_63⟩
  replace x_b1 := x_b1.bl hb_63; replace x_b2 := x_b2.bl hb_63; replace g1 := g1.bl hb_63; replace g2 := g2.bl hb_63; replace h1 := h1.bl hb_63; replace h2 := h2.bl hb_63; replace j1 := j1.bl hb_63; replace j2 := j2.bl hb_63; replace x_b4 := x_b4.bl hb_63; replace v := v.bl hb_63; replace x_b6 := x_b6.bl hb_63; replace z1x1 := z1x1.bl hb_63; replace z1x2 := z1x2.bl hb_63; replace hb := hb.trans (hb_63.mono hb.size)
  obtain ⟨n_z2x, o_z2x, k_z2x, c_z2x, rfl⟩ := z2x.open2
  have Lz2x := hide (z2x.lenOf (rnd_len ((show (2 : Int) ≠ 0 by decide)) (Lz1x1.out)))
  rw [show rnd 1 2 = 1 from by decide] at z2x
  refine hK _ _ rfl ?_
  clear hK K hb_63
  refine wpSq_call rfl (by kernel_rfl) fun K hK => ?_
  go_big_move; refine hK _ _ rfl ?_; clear hK K
  refine wpSq_call rfl (by kernel_rfl) fun K hK => ?_
  go_big_op; refine hK _ _ rfl ?_; clear hK K
  refine wpSq_call rfl (by kernel_rfl) fun K hK => ?_
  go_big_op; refine hK _ _ rfl ?_; clear hK K
  refine wpSq_call rfl (by kernel_rfl) fun K hK => ?_
  go_big_op
  clear z1x1 z1x2
  have lt_b1 := x_b1.lt
  have lt_b2 := x_b2.lt
  have lt_b4 := x_b4.lt
  have lt_b6 := x_b6.lt
  obtain ⟨p_b7, w_64, eP, eW, x_b7, hn, kb_b7⟩ := newBox w_63 #[.bool false, .slice none 0 0] 24 hb.size
  have ne_b1_b7 : Hid (p_b1 ≠ p_b7) := Nat.ne_of_lt (eP ▸ lt_b1)
  have ne_b2_b7 : Hid (p_b2 ≠ p_b7) := Nat.ne_of_lt (eP ▸ lt_b2)
  have ne_b4_b7 : Hid (p_b4 ≠ p_b7) := Nat.ne_of_lt (eP ▸ lt_b4)
  have ne_b6_b7 : Hid (p_b6 ≠ p_b7) := Nat.ne_of_lt (eP ▸ lt_b6)
  rw [eW, eP]
  clear eW eP lt_b1 lt_b2 lt_b4 lt_b6
  replace x_b1 := x_b1.bl hn; replace x_b2 := x_b2.bl hn; replace g1 := g1.bl hn; replace g2 := g2.bl hn; replace h1 := h1.bl hn; replace h2 := h2.bl hn; replace j1 := j1.bl hn; replace j2 := j2.bl hn; replace x_b4 := x_b4.bl hn; replace v := v.bl hn; replace x_b6 := x_b6.bl hn; replace z2x := z2x.bl hn; replace hb := hb.trans (hn.mono hb.size)
  refine hK _ _ rfl ?_; clear hK K hn
  refine wpSq_call rfl (by kernel_rfl) fun K hK => ?_
  obtain ⟨d0, d1⟩ := x_b7.f2
  have f0 := x_b7.free 0; have f1 := x_b7.free 1
  go_big_op
  have hnd := x_b7.nod rfl rfl
  obtain ⟨w_65, eW, x_b7', ho⟩ : ∃ w', ((w_64.setCell ⟨p_b7, 0, none⟩ (.bool n_z2x)).setCell ⟨p_b7, 1, none⟩ (.slice o_z2x k_z2x c_z2x)) = w' ∧ Bs w' p_b7 #[.bool n_z2x, .slice o_z2x k_z2x c_z2x] 24 ∧ Only p_b7 w_64 w' := x_b7.setN [(0, .bool n_z2x), (1, .slice o_z2x k_z2x c_z2x)]
  rw [eW]; clear eW d0 d1 f0 f1 x_b7
  have x_b7 := x_b7'; clear x_b7'
  replace x_b1 := x_b1.frame ho ne_b1_b7; replace x_b2 := x_b2.frame ho ne_b2_b7; replace g1 := g1.fr hnd ho; replace g2 := g2.fr hnd ho; replace h1 := h1.fr hnd ho; replace h2 := h2.fr hnd ho; replace j1 := j1.fr hnd ho; replace j2 := j2.fr hnd ho; replace x_b4 := x_b4.frame ho ne_b4_b7; replace v := v.fr hnd ho; replace x_b6 := x_b6.frame ho ne_b6_b7; replace z2x := z2x.fr hnd ho; replace hb := belowOnly hb ho kb_b7
  refine hK _ _ rfl ?_; clear hK K ho hnd
  refine wpSq_call rfl (by kernel_rfl) fun K hK => ?_
  go_big_move; refine hK _ _ rfl ?_; clear hK K
  apply wpSq_end
  refine hK16 _ _ ?_
  refine wp_seq_k ?_
  intro K17 hK17
  refine wp_region_sq [0, 1, 2, 3, 4, 5, 6, 7] (by kernel_rfl) ?_
  refine wpSq_call rfl (by kernel_rfl) fun K hK => ?_
  go_big_op
  go_fit (fq_any (-1) 2 _ (by decide) (by decide) (by decide) (by decide))
  rintro e w_66 ⟨_, rfl, ⟨n_z3xa, o_z3xa, k_z3xa, c_z3xa, n_z3xb, o_z3xb, k_z3xb, c_z3xb, rfl, z3x1, z3x2⟩, hb_66⟩
  replace x_b1 := x_b1.bl hb_66; replace x_b2 := x_b2.bl hb_66; replace g1 := g1.bl hb_66; replace g2 := g2.bl hb_66; replace h1 := h1.bl hb_66; replace h2 := h2.bl hb_66; replace j1 := j1.bl hb_66; replace j2 := j2.bl hb_66; replace x_b4 := x_b4.bl hb_66; replace v := v.bl hb_66; replace x_b6 := x_b6.bl hb_66; replace z2x := z2x.bl hb_66; replace x_b7 := x_b7.bl hb_66; replace hb := hb.trans (hb_66.mono hb.size)
  have Lz3x1 := hide (z3x1.lenOf (zlen_i (-1) (by decide) (by decide)))
  have Lz3x2 := hide (z3x2.lenOf (zlen_i 2 (by decide) (by decide)))
  refine hK _ _ rfl ?_
  clear hK K hb_66
  refine wpSq_call rfl (by kernel_rfl) fun K hK => ?_
  go_big_op
  go_fit (fRound_any (PN.mk' (z3x1.zn Lz3x1.out) (z3x2.zn Lz3x2.out)) (by omega) (by omega) (show (2 : Int) ≠ 0 by decide))
  rintro e w_67 ⟨v_z4x, rfl, z4x, hb_67⟩
  replace x_b1 := x_b1.bl hb_67; replace x_b2 := x_b2.bl hb_67; replace g1 := g1.bl hb_67; replace g2 := g2.bl hb_67; replace h1 := h1.bl hb_67; replace h2 := h2.bl hb_67; replace j1 := j1.bl hb_67; replace j2 := j2.bl hb_67; replace x_b4 := x_b4.bl hb_67; replace v := v.bl hb_67; replace x_b6 := x_b6.bl hb_67; replace z2x := z2x.bl hb_67; replace x_b7 := x_b7.bl hb_67; replace z3x1 := z3x1.bl hb_67; replace z3x2 := z3x2.bl hb_67; replace hb := hb.trans (hb_67.mono hb.size)
  obtain ⟨n_z4x, o_z4x, k_z4x, c_z4x, rfl⟩ := z4x.open2
  have Lz4x := hide (z4x.lenOf (rnd_len ((show (2 : Int) ≠ 0 by decide)) (Lz3x1.out)))
  rw [show rnd (-1) 2 = 0 from by decide] at z4x
  refine hK _ _ rfl ?_
  clear hK K hb_67
  refine wpSq_call rfl (by kernel_rfl) fun K hK => ?_
  go_big_move; refine hK _ _ rfl ?_; clear hK K
  refine wpSq_call rfl (by kernel_rfl) fun K hK => ?_
  go_big_op; refine hK _ _ rfl ?_; clear hK K
  refine wpSq_call rfl (by kernel_rfl) fun K hK => ?_
  go_big_op; refine hK _ _ rfl ?_; clear hK K
  refine wpSq_call rfl (by kernel_rfl) fun K hK => ?_
  go_big_op
  clear z3x1 z3x2
  have lt_b1 := x_b1.lt
  have lt_b2 := x_b2.lt
  have lt_b4 := x_b4.lt
  have lt_b6 := x_b6.lt
  have lt_b7 := x_b7.lt
  obtain ⟨p_b8, w_68, eP, eW, x_b8, hn, kb_b8⟩ := newBox w_67 #[.bool false, .slice none 0 0] 24 hb.size
  have ne_b1_b8 : Hid (p_b1 ≠ p_b8) := Nat.ne_of_lt (eP ▸ lt_b1)
  have ne_b2_b8 : Hid (p_b2 ≠ p_b8) := Nat.ne_of_lt (eP ▸ lt_b2)
  have ne_b4_b8 : Hid (p_b4 ≠ p_b8) := Nat.ne_of_lt (eP ▸ lt_b4)
  have ne_b6_b8 : Hid (p_b6 ≠ p_b8) := Nat.ne_of_lt (eP ▸ lt_b6)
  have ne_b7_b8 : Hid (p_b7 ≠ p_b8) := Nat.ne_of_lt (eP ▸ lt_b7)
  rw [eW, eP]
  clear eW eP lt_b1 lt_b2 lt_b4 lt_b6 lt_b7
  replace x_b1 := x_b1.bl hn; replace x_b2 := x_b2.bl hn; replace g1 := g1.bl hn; replace g2 := g2.bl hn; replace h1 := h1.bl hn; replace h2 := h2.bl hn; replace j1 := j1.bl hn; replace j2 := j2.bl hn; replace x_b4 := x_b4.bl hn; replace v := v.bl hn; replace x_b6 := x_b6.bl hn; replace z2x := z2x.bl hn; replace x_b7 := x_b7.bl hn; replace z4x := z4x.bl hn; replace hb := hb.trans (hn.mono hb.size)
  refine hK _ _ rfl ?_; clear hK K hn
  refine wpSq_call rfl (by kernel_rfl) fun K hK => ?_
  obtain ⟨d0, d1⟩ := x_b8.f2
  have f0 := x_b8.free 0; have f1 := x_b8.free 1
  go_big_op
  have hnd := x_b8.nod rfl rfl
  obtain ⟨w_69, eW, x_b8', ho⟩ : ∃ w', ((w_68.setCell ⟨p_b8, 0, none⟩ (.bool n_z4x)).setCell ⟨p_b8, 1, none⟩ (.slice o_z4x k_z4x c_z4x)) = w' ∧ Bs w' p_b8 #[.bool n_z4x, .slice o_z4x k_z4x c_z4x] 24 ∧ Only p_b8 w_68 w' := x_b8.setN [(0, .bool n_z4x), (1, .slice o_z4x k_z4x c_z4x)]
  rw [eW]; clear eW d0 d1 f0 f1 x_b8
  have x_b8 := x_b8'; clear x_b8'
  replace x_b1 := x_b1.frame ho ne_b1_b8; replace x_b2 := x_b2.frame ho ne_b2_b8; replace g1 := g1.fr hnd ho; replace g2 := g2.fr hnd ho; replace h1 := h1.fr hnd ho; replace h2 := h2.fr hnd ho; replace j1 := j1.fr hnd ho; replace j2 := j2.fr hnd ho; replace x_b4 := x_b4.frame ho ne_b4_b8; replace v := v.fr hnd ho; replace x_b6 := x_b6.frame ho ne_b6_b8; replace z2x := z2x.fr hnd ho; replace x_b7 := x_b7.frame ho ne_b7_b8; replace z4x := z4x.fr hnd ho; replace hb := belowOnly hb ho kb_b8
  refine hK _ _ rfl ?_; clear hK K ho hnd
  refine wpSq_call rfl (by kernel_rfl) fun K hK => ?_
  go_big_move; refine hK _ _ rfl ?_; clear hK K
  apply wpSq_end
  refine hK17 _ _ ?_
  refine wp_seq_k ?_
  intro K18 hK18
  refine wp_region_sq [0, 1, 2, 3, 4, 5, 6, 7] (by kernel_rfl) ?_
  refine wpSq_call rfl (by kernel_rfl) fun K hK => ?_
  go_big_op
  go_fit (fq_any (-3) 2 _ (by decide) (by decide) (by decide) (by decide))
  rintro e w_70 ⟨_, rfl, ⟨n_z5xa, o_z5xa, k_z5xa, c_z5xa, n_z5xb, o_z5xb, k_z5xb, c_z5xb, rfl, z5x1, z5x2⟩, hb_70⟩
  replace x_b1 := x_b1.bl hb_70; replace x_b2 := x_b2.bl hb_70; replace g1 := g1.bl hb_70; replace g2 := g2.bl hb_70; replace h1 := h1.bl hb_70; replace h2 := h2.bl hb_70; replace j1 := j1.bl hb_70; replace j2 := j2.bl hb_70; replace x_b4 := x_b4.bl hb_70; replace v := v.bl hb_70; replace x_b6 := x_b6.bl hb_70; replace z2x := z2x.bl hb_70; replace x_b7 := x_b7.bl hb_70; replace z4x := z4x.bl hb_70; replace x_b8 := x_b8.bl hb_70; replace hb := hb.trans (hb_70.mono hb.size)
  have Lz5x1 := hide (z5x1.lenOf (zlen_i (-3) (by decide) (by decide)))
  have Lz5x2 := hide (z5x2.lenOf (zlen_i 2 (by decide) (by decide)))
  refine hK _ _ rfl ?_
  clear hK K hb_70
  refine wpSq_call rfl (by kernel_rfl) fun K hK => ?_
  go_big_op
  go_fit (fRound_any (PN.mk' (z5x1.zn Lz5x1.out) (z5x2.zn Lz5x2.out)) (by omega) (by omega) (show (2 : Int) ≠ 0 by decide))
  rintro e w_71 ⟨v_z6x, rfl, z6x, hb_71⟩
  replace x_b1 := x_b1.bl hb_71; replace x_b2 := x_b2.bl hb_71; replace g1 := g1.bl hb_71; replace g2 := g2.bl hb_71; replace h1 := h1.bl hb_71; replace h2 := h2.bl hb_71; replace j1 := j1.bl hb_71; replace j2 := j2.bl hb_71; replace x_b4 := x_b4.bl hb_71; replace v := v.bl hb_71; replace x_b6 := x_b6.bl hb_71; replace z2x := z2x.bl hb_71; replace x_b7 := x_b7.bl hb_71; replace z4x := z4x.bl hb_71; replace x_b8 := x_b8.bl hb_71; replace z5x1 := z5x1.bl hb_71; replace z5x2 := z5x2.bl hb_71; replace hb := hb.trans (hb_71.mono hb.size)
  obtain ⟨n_z6x, o_z6x, k_z6x, c_z6x, rfl⟩ := z6x.open2
  have Lz6x := hide (z6x.lenOf (rnd_len ((show (2 : Int) ≠ 0 by decide)) (Lz5x1.out)))
  rw [show rnd (-3) 2 = -1 from by decide] at z6x
  refine hK _ _ rfl ?_
  clear hK K hb_71
  refine wpSq_call rfl (by kernel_rfl) fun K hK => ?_
  go_big_move; refine hK _ _ rfl ?_; clear hK K
  refine wpSq_call rfl (by kernel_rfl) fun K hK => ?_
  go_big_op; refine hK _ _ rfl ?_; clear hK K
  refine wpSq_call rfl (by kernel_rfl) fun K hK => ?_
  go_big_op; refine hK _ _ rfl ?_; clear hK K
  refine wpSq_call rfl (by kernel_rfl) fun K hK => ?_
  go_big_op
  clear z5x1 z5x2
  have lt_b1 := x_b1.lt
  have lt_b2 := x_b2.lt
  have lt_b4 := x_b4.lt
  have lt_b6 := x_b6.lt
  have lt_b7 := x_b7.lt
  have lt_b8 := x_b8.lt
  obtain ⟨p_b9, w_72, eP, eW, x_b9, hn, kb_b9⟩ := newBox w_71 #[.bool false, .slice none 0 0] 24 hb.size
  have ne_b1_b9 : Hid (p_b1 ≠ p_b9) := Nat.ne_of_lt (eP ▸ lt_b1)
  have ne_b2_b9 : Hid (p_b2 ≠ p_b9) := Nat.ne_of_lt (eP ▸ lt_b2)
  have ne_b4_b9 : Hid (p_b4 ≠ p_b9) := Nat.ne_of_lt (eP ▸ lt_b4)
  have ne_b6_b9 : Hid (p_b6 ≠ p_b9) := Nat.ne_of_lt (eP ▸ lt_b6)
  have ne_b7_b9 : Hid (p_b7 ≠ p_b9) := Nat.ne_of_lt (eP ▸ lt_b7)
  have ne_b8_b9 : Hid (p_b8 ≠ p_b9) := Nat.ne_of_lt (eP ▸ lt_b8)
  rw [eW, eP]
  clear eW eP lt_b1 lt_b2 lt_b4 lt_b6 lt_b7 lt_b8
  replace x_b1 := x_b1.bl hn; replace x_b2 := x_b2.bl hn; replace g1 := g1.bl hn; replace g2 := g2.bl hn; replace h1 := h1.bl hn; replace h2 := h2.bl hn; replace j1 := j1.bl hn; replace j2 := j2.bl hn; replace x_b4 := x_b4.bl hn; replace v := v.bl hn; replace x_b6 := x_b6.bl hn; replace z2x := z2x.bl hn; replace x_b7 := x_b7.bl hn; replace z4x := z4x.bl hn; replace x_b8 := x_b8.bl hn; replace z6x := z6x.bl hn; replace hb := hb.trans (hn.mono hb.size)
  refine hK _ _ rfl ?_; clear hK K hn
  refine wpSq_call rfl (by kernel_rfl) fun K hK => ?_
  obtain ⟨d0, d1⟩ := x_b9.f2
  have f0 := x_b9.free 0; have f1 := x_b9.free 1
  go_big_op
  have hnd := x_b9.nod rfl rfl
  obtain ⟨w_73, eW, x_b9', ho⟩ : ∃ w', ((w_72.setCell ⟨p_b9, 0, none⟩ (.bool n_z6x)).setCell ⟨p_b9, 1, none⟩ (.slice o_z6x k_z6x c_z6x)) = w' ∧ Bs w' p_b9 #[.bool n_z6x, .slice o_z6x k_z6x c_z6x] 24 ∧ Only p_b9 w_72 w' := x_b9.setN [(0, .bool n_z6x), (1, .slice o_z6x k_z6x c_z6x)]
  rw [eW]; clear eW d0 d1 f0 f1 x_b9
  have x_b9 := x_b9'; clear x_b9'
  replace x_b1 := x_b1.frame ho ne_b1_b9; replace x_b2 := x_b2.frame ho ne_b2_b9; replace g1 := g1.fr hnd ho; replace g2 := g2.fr hnd ho; replace h1 := h1.fr hnd ho; replace h2 := h2.fr hnd ho; replace j1 := j1.fr hnd ho; replace j2 := j2.fr hnd ho; replace x_b4 := x_b4.frame ho ne_b4_b9; replace v := v.fr hnd ho; replace x_b6 := x_b6.frame ho ne_b6_b9; replace z2x := z2x.fr hnd ho; replace x_b7 := x_b7.frame ho ne_b7_b9; replace z4x := z4x.fr hnd ho; replace x_b8 := x_b8.frame ho ne_b8_b9; replace z6x := z6x.fr hnd ho; replace hb := belowOnly hb ho kb_b9
  refine hK _ _ rfl ?_; clear hK K ho hnd
  refine wpSq_call rfl (by kernel_rfl) fun K hK => ?_
  go_big_move; refine hK _ _ rfl ?_; clear hK K
  apply wpSq_end
  refine hK18 _ _ ?_
  refine wp_seq_k ?_
  intro K19 hK19
  refine wp_seq_k ?_
  intro K20 hK20
  refine wp_region_fl2 [(0, false), (1, false), (2, false), (3, false), (4, false), (5, false), (6, false), (7, false), (8, false), (9, false), (10, false), (11, false), (12, false), (13, false), (14, false), (15, false), (16, true), (17, true), (18, false), (19, false), (20, false), (21, false), (22, false), (23, false), (24, false), (25, false), (26, true), (27, true), (28, false), (29, false), (30, false), (31, false), (32, false), (33, false), (34, false), (35, false), (36, true), (37, false), (38, false), (39, false), (40, false), (41, false), (42, false), (43, false), (44, false), (45, true), (46, true), (47, false), (48, false)] [] [] (fun _ => default) [99, 99, 99, 99, 99, 99, 99, 99, 99, 99, 99, 99, 99, 99, 99, 0, 99, 99, 99, 99, 99, 99, 99, 99, 99, 1, 99, 99, 99, 99, 99, 99, 99, 99, 99, 2, 99, 99, 99, 99, 99, 99, 99, 99, 3, 99, 99, 99, 99] [] (fun w' => w'.cell? ⟨p_b6, 0, none⟩ = some (.bool n_v) ∧ w'.cell? ⟨p_b6, 1, none⟩ = some (.slice o_v k_v c_v) ∧ w'.cell? ⟨p_b7, 0, none⟩ = some (.bool n_z2x) ∧ w'.cell? ⟨p_b7, 1, none⟩ = some (.slice o_z2x k_z2x c_z2x) ∧ w'.cell? ⟨p_b8, 0, none⟩ = some (.bool n_z4x) ∧ w'.cell? ⟨p_b8, 1, none⟩ = some (.slice o_z4x k_z4x c_z4x) ∧ w'.cell? ⟨p_b9, 0, none⟩ = some (.bool n_z6x) ∧ w'.cell? ⟨p_b9, 1, none⟩ = some (.slice o_z6x k_z6x c_z6x)) [fun w' => w'.cell? ⟨p_b6, 0, none⟩ = some (.bool n_v) ∧ w'.cell? ⟨p_b6, 1, none⟩ = some (.slice o_v k_v c_v), fun w' => w'.cell? ⟨p_b7, 0, none⟩ = some (.bool n_z2x) ∧ w'.cell? ⟨p_b7, 1, none⟩ = some (.slice o_z2x k_z2x c_z2x), fun w' => w'.cell? ⟨p_b8, 0, none⟩ = some (.bool n_z4x) ∧ w'.cell? ⟨p_b8, 1, none⟩ = some (.slice o_z4x k_z4x c_z4x), fun w' => w'.cell? ⟨p_b9, 0, none⟩ = some (.bool n_z6x) ∧ w'.cell? ⟨p_b9, 1, none⟩ = some (.slice o_z6x k_z6x c_z6x)] (by kernel_rfl) (by kernel_rfl) (by kernel_rfl) (by kernel_rfl) (by kernel_rfl) (by kernel_rfl) (by kernel_rfl) (by kernel_rfl) (by decide) (by intro j hj; cases hj) (by intro w' o hC; obtain ⟨c0, c1, c2, c3, c4, c5, c6, c7⟩ := hC; exact ⟨cell_alloc c0 o, cell_alloc c1 o, cell_alloc c2 o, cell_alloc c3 o, cell_alloc c4 o, cell_alloc c5 o, cell_alloc c6 o, cell_alloc c7 o⟩) (by intro w' hC G hG; obtain ⟨c0, c1, c2, c3, c4, c5, c6, c7⟩ := hC; simp only [List.mem_cons, List.not_mem_nil, or_false] at hG; rcases hG with rfl | rfl | rfl | rfl <;> first | exact ⟨c0, c1⟩ | exact ⟨c2, c3⟩ | exact ⟨c4, c5⟩ | exact ⟨c6, c7⟩) ?_
  have lt_b1 := x_b1.lt
  have lt_b2 := x_b2.lt
  have lt_b4 := x_b4.lt
  have lt_b6 := x_b6.lt
  have lt_b7 := x_b7.lt
  have lt_b8 := x_b8.lt
  have lt_b9 := x_b9.lt
  intro w_74 hn
  replace lt_b1 := Nat.lt_of_lt_of_le lt_b1 hn.size
  replace lt_b2 := Nat.lt_of_lt_of_le lt_b2 hn.size
  replace lt_b4 := Nat.lt_of_lt_of_le lt_b4 hn.size
  replace lt_b6 := Nat.lt_of_lt_of_le lt_b6 hn.size
  replace lt_b7 := Nat.lt_of_lt_of_le lt_b7 hn.size
  replace lt_b8 := Nat.lt_of_lt_of_le lt_b8 hn.size
  replace lt_b9 := Nat.lt_of_lt_of_le lt_b9 hn.size
  replace x_b1 := x_b1.bl hn; replace x_b2 := x_b2.bl hn; replace g1 := g1.bl hn; replace g2 := g2.bl hn; replace h1 := h1.bl hn; replace h2 := h2.bl hn; replace j1 := j1.bl hn; replace j2 := j2.bl hn; replace x_b4 := x_b4.bl hn; replace v := v.bl hn; replace x_b6 := x_b6.bl hn; replace z2x := z2x.bl hn; replace x_b7 := x_b7.bl hn; replace z4x := z4x.bl hn; replace x_b8 := x_b8.bl hn; replace z6x := z6x.bl hn; replace x_b9 := x_b9.bl hn; replace hb := hb.trans (hn.mono hb.size)
  clear hn
  have kb0 := hb.size
  refine ⟨⟨x_b6.cell 0 rfl, x_b6.cell 1 rfl, x_b7.cell 0 rfl, x_b7.cell 1 rfl, x_b8.cell 0 rfl, x_b8.cell 1 rfl, x_b9.cell 0 rfl, x_b9.cell 1 rfl⟩, ?_⟩
  apply wpFl_ld rfl rfl; (case h1 => intro w' hC K hK; go_big_move; exact hK); iterate 4 kernel_rfl
  apply wpFl_ld rfl rfl; (case h1 => intro w' hC K hK; go_big_op; exact hK); iterate 4 kernel_rfl
  apply wpFl_ld rfl rfl; (case h1 => intro w' hC K hK; go_big_move; exact hK); iterate 4 kernel_rfl
  apply wpFl_ld rfl rfl; (case h1 => intro w' hC K hK; go_big_move; exact hK); iterate 4 kernel_rfl
  apply wpFl_ld rfl rfl; (case h1 => intro w' hC K hK; go_big_op; exact hK); iterate 4 kernel_rfl
  apply wpFl_ld rfl rfl; (case h1 => intro w' hC K hK; go_big_op; exact hK); iterate 4 kernel_rfl
  apply wpFl_ld rfl rfl; (case h1 => intro w' hC K hK; go_big_move; exact hK); iterate 4 kernel_rfl
  apply wpFl_ld rfl rfl; (case h1 => intro w' hC K hK; go_big_move; exact hK); iterate 4 kernel_rfl
  apply wpFl_ld rfl rfl; (case h1 => intro w' hC K hK; go_big_op; exact hK); iterate 4 kernel_rfl
  apply wpFl_ld rfl rfl; (case h1 => intro w' hC K hK; go_big_op; exact hK); iterate 4 kernel_rfl
  apply wpFl_ld rfl rfl; (case h1 => intro w' hC K hK; go_big_move; exact hK); iterate 4 kernel_rfl
  apply wpFl_ld rfl rfl; (case h1 => intro w' hC K hK; go_big_move; exact hK); iterate 4 kernel_rfl
  apply wpFl_ld rfl rfl; (case h1 => intro w' hC K hK; go_big_op; exact hK); iterate 4 kernel_rfl
  apply wpFl_ld rfl rfl; (case h1 => intro w' hC K hK; go_big_op; exact hK); iterate 4 kernel_rfl
  apply wpFl_ld rfl rfl; (case h1 => intro w' hC K hK; go_big_move; exact hK); iterate 4 kernel_rfl
  apply wpFl_ld rfl rfl; (case h1 => intro w' hC K hK; obtain ⟨c0, c1⟩ := hC; go_big_op; exact hK); iterate 4 kernel_rfl
  refine wpFl_call rfl (by kernel_rfl) fun w_75 hn hC => ?_; clear hC
  replace x_b1 := x_b1.bl hn; replace x_b2 := x_b2.bl hn; replace g1 := g1.bl hn; replace g2 := g2.bl hn; replace h1 := h1.bl hn; replace h2 := h2.bl hn; replace j1 := j1.bl hn; replace j2 := j2.bl hn; replace x_b4 := x_b4.bl hn; replace v := v.bl hn; replace x_b6 := x_b6.bl hn; replace z2x := z2x.bl hn; replace x_b7 := x_b7.bl hn; replace z4x := z4x.bl hn; replace x_b8 := x_b8.bl hn; replace z6x := z6x.bl hn; replace x_b9 := x_b9.bl hn; replace hb := hb.trans (hn.mono hb.size)
  clear hn; intro K hK
  go_big_op
  go_fit (ri_any (-1) _ (by decide) (by decide))
  rintro e w_76 ⟨v_y1x, rfl, y1x, hb_76⟩
  replace x_b1 := x_b1.bl hb_76; replace x_b2 := x_b2.bl hb_76; replace g1 := g1.bl hb_76; replace g2 := g2.bl hb_76; replace h1 := h1.bl hb_76; replace h2 := h2.bl hb_76; replace j1 := j1.bl hb_76; replace j2 := j2.bl hb_76; replace x_b4 := x_b4.bl hb_76; replace v := v.bl hb_76; replace x_b6 := x_b6.bl hb_76; replace z2x := z2x.bl hb_76; replace x_b7 := x_b7.bl hb_76; replace z4x := z4x.bl hb_76; replace x_b8 := x_b8.bl hb_76; replace z6x := z6x.bl hb_76; replace x_b9 := x_b9.bl hb_76; replace hb := hb.trans (hb_76.mono hb.size)
  replace y1x := y1x.rd
  obtain ⟨n_y1x, o_y1x, k_y1x, c_y1x, rfl⟩ := y1x.open2
  have Ly1x := hide (y1x.lenOf (zlen_i (-1) (by decide) (by decide)))
  refine hK _ _ rfl hb_76 ⟨x_b6.cell 0 rfl, x_b6.cell 1 rfl, x_b7.cell 0 rfl, x_b7.cell 1 rfl, x_b8.cell 0 rfl, x_b8.cell 1 rfl, x_b9.cell 0 rfl, x_b9.cell 1 rfl⟩ ?_
  clear hK K hb_76
  refine wpFl_call rfl (by kernel_rfl) fun w_77 hn hC => ?_; clear hC
  replace x_b1 := x_b1.bl hn; replace x_b2 := x_b2.bl hn; replace g1 := g1.bl hn; replace g2 := g2.bl hn; replace h1 := h1.bl hn; replace h2 := h2.bl hn; replace j1 := j1.bl hn; replace j2 := j2.bl hn; replace x_b4 := x_b4.bl hn; replace v := v.bl hn; replace x_b6 := x_b6.bl hn; replace z2x := z2x.bl hn; replace x_b7 := x_b7.bl hn; replace z4x := z4x.bl hn; replace x_b8 := x_b8.bl hn; replace z6x := z6x.bl hn; replace x_b9 := x_b9.bl hn; replace y1x := y1x.bl hn; replace hb := hb.trans (hn.mono hb.size)
  clear hn; intro K hK
  go_big_op
  go_fit (rsame_zz v (y1x.zn Ly1x.out) (by omega) )
  rintro e w_78 ⟨rfl, hb_78⟩
  replace x_b1 := x_b1.bl hb_78; replace x_b2 := x_b2.bl hb_78; replace g1 := g1.bl hb_78; replace g2 := g2.bl hb_78; replace h1 := h1.bl hb_78; replace h2 := h2.bl hb_78; replace j1 := j1.bl hb_78; replace j2 := j2.bl hb_78; replace x_b4 := x_b4.bl hb_78; replace v := v.bl hb_78; replace x_b6 := x_b6.bl hb_78; replace z2x := z2x.bl hb_78; replace x_b7 := x_b7.bl hb_78; replace z4x := z4x.bl hb_78; replace x_b8 := x_b8.bl hb_78; replace z6x := z6x.bl hb_78; replace x_b9 := x_b9.bl hb_78; replace y1x := y1x.bl hb_78; replace hb := hb.trans (hb_78.mono hb.size)
  refine hK _ _ rfl hb_78 ⟨x_b6.cell 0 rfl, x_b6.cell 1 rfl, x_b7.cell 0 rfl, x_b7.cell 1 rfl, x_b8.cell 0 rfl, x_b8.cell 1 rfl, x_b9.cell 0 rfl, x_b9.cell 1 rfl⟩ ?_
  clear hK K hb_78
  apply wpFl_ld rfl rfl; (case h1 => intro w' hC K hK; go_big_op; exact hK); iterate 4 kernel_rfl
  apply wpFl_ld rfl rfl; (case h1 => intro w' hC K hK; go_big_op; exact hK); iterate 4 kernel_rfl
  apply wpFl_ld rfl rfl; (case h1 => intro w' hC K hK; go_big_move; exact hK); iterate 4 kernel_rfl
  apply wpFl_ld rfl rfl; (case h1 => intro w' hC K hK; go_big_move; exact hK); iterate 4 kernel_rfl
  apply wpFl_ld rfl rfl; (case h1 => intro w' hC K hK; go_big_op; exact hK); iterate 4 kernel_rfl
  apply wpFl_ld rfl rfl; (case h1 => intro w' hC K hK; go_big_op; exact hK); iterate 4 kernel_rfl
  apply wpFl_ld rfl rfl; (case h1 => intro w' hC K hK; go_big_move; exact hK); iterate 4 kernel_rfl
  apply wpFl_ld rfl rfl; (case h1 => intro w' hC K hK; obtain ⟨c0, c1⟩ := hC; go_big_op; exact hK); iterate 4 kernel_rfl
  refine wpFl_call rfl (by kernel_rfl) fun w_79 hn hC => ?_; clear hC
  clear y1x
  replace x_b1 := x_b1.bl hn; replace x_b2 := x_b2.bl hn; replace g1 := g1.bl hn; replace g2 := g2.bl hn; replace h1 := h1.bl hn; replace h2 := h2.bl hn; replace j1 := j1.bl hn; replace j2 := j2.bl hn; replace x_b4 := x_b4.bl hn; replace v := v.bl hn; replace x_b6 := x_b6.bl hn; replace z2x := z2x.bl hn; replace x_b7 := x_b7.bl hn; replace z4x := z4x.bl hn; replace x_b8 := x_b8.bl hn; replace z6x := z6x.bl hn; replace x_b9 := x_b9.bl hn; replace hb := hb.trans (hn.mono hb.size)
  clear hn; intro K hK
  go_big_op
  go_fit (ri_any 1 _ (by decide) (by decide))
  rintro e w_80 ⟨v_y2x, rfl, y2x, hb_80⟩
  replace x_b1 := x_b1.bl hb_80; replace x_b2 := x_b2.bl hb_80; replace g1 := g1.bl hb_80; replace g2 := g2.bl hb_80; replace h1 := h1.bl hb_80; replace h2 := h2.bl hb_80; replace j1 := j1.bl hb_80; replace j2 := j2.bl hb_80; replace x_b4 := x_b4.bl hb_80; replace v := v.bl hb_80; replace x_b6 := x_b6.bl hb_80; replace z2x := z2x.bl hb_80; replace x_b7 := x_b7.bl hb_80; replace z4x := z4x.bl hb_80; replace x_b8 := x_b8.bl hb_80; replace z6x := z6x.bl hb_80; replace x_b9 := x_b9.bl hb_80; replace hb := hb.trans (hb_80.mono hb.size)
  replace y2x := y2x.rd
  obtain ⟨n_y2x, o_y2x, k_y2x, c_y2x, rfl⟩ := y2x.open2
  have Ly2x := hide (y2x.lenOf (zlen_i 1 (by decide) (by decide)))
  refine hK _ _ rfl hb_80 ⟨x_b6.cell 0 rfl, x_b6.cell 1 rfl, x_b7.cell 0 rfl, x_b7.cell 1 rfl, x_b8.cell 0 rfl, x_b8.cell 1 rfl, x_b9.cell 0 rfl, x_b9.cell 1 rfl⟩ ?_
  clear hK K hb_80
  refine wpFl_call rfl (by kernel_rfl) fun w_81 hn hC => ?_; clear hC
  replace x_b1 := x_b1.bl hn; replace x_b2 := x_b2.bl hn; replace g1 := g1.bl hn; replace g2 := g2.bl hn; replace h1 := h1.bl hn; replace h2 := h2.bl hn; replace j1 := j1.bl hn; replace j2 := j2.bl hn; replace x_b4 := x_b4.bl hn; replace v := v.bl hn; replace x_b6 := x_b6.bl hn; replace z2x := z2x.bl hn; replace x_b7 := x_b7.bl hn; replace z4x := z4x.bl hn; replace x_b8 := x_b8.bl hn; replace z6x := z6x.bl hn; replace x_b9 := x_b9.bl hn; replace y2x := y2x.bl hn; replace hb := hb.trans (hn.mono hb.size)
  clear hn; intro K hK
  go_big_op
  go_fit (rsame_zz z2x (y2x.zn Ly2x.out) (by omega) )
  rintro e w_82 ⟨rfl, hb_82⟩
  replace x_b1 := x_b1.bl hb_82; replace x_b2 := x_b2.bl hb_82; replace g1 := g1.bl hb_82; replace g2 := g2.bl hb_82; replace h1 := h1.bl hb_82; replace h2 := h2.bl hb_82; replace j1 := j1.bl hb_82; replace j2 := j2.bl hb_82; replace x_b4 := x_b4.bl hb_82; replace v := v.bl hb_82; replace x_b6 := x_b6.bl hb_82; replace z2x := z2x.bl hb_82; replace x_b7 := x_b7.bl hb_82; replace z4x := z4x.bl hb_82; replace x_b8 := x_b8.bl hb_82; replace z6x := z6x.bl hb_82; replace x_b9 := x_b9.bl hb_82; replace y2x := y2x.bl hb_82; replace hb := hb.trans (hb_82.mono hb.size)
  refine hK _ _ rfl hb_82 ⟨x_b6.cell 0 rfl, x_b6.cell 1 rfl, x_b7.cell 0 rfl, x_b7.cell 1 rfl, x_b8.cell 0 rfl, x_b8.cell 1 rfl, x_b9.cell 0 rfl, x_b9.cell 1 rfl⟩ ?_
  clear hK K hb_82
  apply wpFl_ld rfl rfl; (case h1 => intro w' hC K hK; go_big_op; exact hK); iterate 4 kernel_rfl
  apply wpFl_ld rfl rfl; (case h1 => intro w' hC K hK; go_big_op; exact hK); iterate 4 kernel_rfl
  apply wpFl_ld rfl rfl; (case h1 => intro w' hC K hK; go_big_move; exact hK); iterate 4 kernel_rfl
  apply wpFl_ld rfl rfl; (case h1 => intro w' hC K hK; go_big_move; exact hK); iterate 4 kernel_rfl
  apply wpFl_ld rfl rfl; (case h1 => intro w' hC K hK; go_big_op; exact hK); iterate 4 kernel_rfl
  apply wpFl_ld rfl rfl; (case h1 => intro w' hC K hK; go_big_op; exact hK); iterate 4 kernel_rfl
  apply wpFl_ld rfl rfl; (case h1 => intro w' hC K hK; go_big_move; exact hK); iterate 4 kernel_rfl
  apply wpFl_ld rfl rfl; (case h1 => intro w' hC K hK; obtain ⟨c0, c1⟩ := hC; go_big_op; exact hK); iterate 4 kernel_rfl
  refine wpFl_call rfl (by kernel_rfl) fun w_83 hn hC => ?_; clear hC
  clear y2x
  replace x_b1 := x_b1.bl hn; replace x_b2 := x_b2.bl hn; replace g1 := g1.bl hn; replace g2 := g2.bl hn; replace h1 := h1.bl hn; replace h2 := h2.bl hn; replace j1 := j1.bl hn; replace j2 := j2.bl hn; replace x_b4 := x_b4.bl hn; replace v := v.bl hn; replace x_b6 := x_b6.bl hn; replace z2x := z2x.bl hn; replace x_b7 := x_b7.bl hn; replace z4x := z4x.bl hn; replace x_b8 := x_b8.bl hn; replace z6x := z6x.bl hn; replace x_b9 := x_b9.bl hn; replace hb := hb.trans (hn.mono hb.size)
  clear hn; intro K hK
  go_big_op
  go_fit (rzeroc z4x)
  rintro e w_84 ⟨rfl, hb_84⟩
  replace x_b1 := x_b1.bl hb_84; replace x_b2 := x_b2.bl hb_84; replace g1 := g1.bl hb_84; replace g2 := g2.bl hb_84; replace h1 := h1.bl hb_84; replace h2 := h2.bl hb_84; replace j1 := j1.bl hb_84; replace j2 := j2.bl hb_84; replace x_b4 := x_b4.bl hb_84; replace v := v.bl hb_84; replace x_b6 := x_b6.bl hb_84; replace z2x := z2x.bl hb_84; replace x_b7 := x_b7.bl hb_84; replace z4x := z4x.bl hb_84; replace x_b8 := x_b8.bl hb_84; replace z6x := z6x.bl hb_84; replace x_b9 := x_b9.bl hb_84; replace hb := hb.trans (hb_84.mono hb.size)
  refine hK _ _ rfl hb_84 ⟨x_b6.cell 0 rfl, x_b6.cell 1 rfl, x_b7.cell 0 rfl, x_b7.cell 1 rfl, x_b8.cell 0 rfl, x_b8.cell 1 rfl, x_b9.cell 0 rfl, x_b9.cell 1 rfl⟩ ?_
  clear hK K hb_84
  apply wpFl_ld rfl rfl; (case h1 => intro w' hC K hK; go_big_op; exact hK); iterate 4 kernel_rfl
  apply wpFl_ld rfl rfl; (case h1 => intro w' hC K hK; go_big_op; exact hK); iterate 4 kernel_rfl
  apply wpFl_ld rfl rfl; (case h1 => intro w' hC K hK; go_big_move; exact hK); iterate 4 kernel_rfl
  apply wpFl_ld rfl rfl; (case h1 => intro w' hC K hK; go_big_move; exact hK); iterate 4 kernel_rfl
  apply wpFl_ld rfl rfl; (case h1 => intro w' hC K hK; go_big_op; exact hK); iterate 4 kernel_rfl
  apply wpFl_ld rfl rfl; (case h1 => intro w' hC K hK; go_big_op; exact hK); iterate 4 kernel_rfl
  apply wpFl_ld rfl rfl; (case h1 => intro w' hC K hK; go_big_move; exact hK); iterate 4 kernel_rfl
  apply wpFl_ld rfl rfl; (case h1 => intro w' hC K hK; obtain ⟨c0, c1⟩ := hC; go_big_op; exact hK); iterate 4 kernel_rfl
  refine wpFl_call rfl (by kernel_rfl) fun w_85 hn hC => ?_; clear hC
  replace x_b1 := x_b1.bl hn; replace x_b2 := x_b2.bl hn; replace g1 := g1.bl hn; replace g2 := g2.bl hn; replace h1 := h1.bl hn; replace h2 := h2.bl hn; replace j1 := j1.bl hn; replace j2 := j2.bl hn; replace x_b4 := x_b4.bl hn; replace v := v.bl hn; replace x_b6 := x_b6.bl hn; replace z2x := z2x.bl hn; replace x_b7 := x_b7.bl hn; replace z4x := z4x.bl hn; replace x_b8 := x_b8.bl hn; replace z6x := z6x.bl hn; replace x_b9 := x_b9.bl hn; replace hb := hb.trans (hn.mono hb.size)
  clear hn; intro K hK
  go_big_op
  go_fit (ri_any (-1) _ (by decide) (by decide))
  rintro e w_86 ⟨v_y3x, rfl, y3x, hb_86⟩
  replace x_b1 := x_b1.bl hb_86; replace x_b2 := x_b2.bl hb_86; replace g1 := g1.bl hb_86; replace g2 := g2.bl hb_86; replace h1 := h1.bl hb_86; replace h2 := h2.bl hb_86; replace j1 := j1.bl hb_86; replace j2 := j2.bl hb_86; replace x_b4 := x_b4.bl hb_86; replace v := v.bl hb_86; replace x_b6 := x_b6.bl hb_86; replace z2x := z2x.bl hb_86; replace x_b7 := x_b7.bl hb_86; replace z4x := z4x.bl hb_86; replace x_b8 := x_b8.bl hb_86; replace z6x := z6x.bl hb_86; replace x_b9 := x_b9.bl hb_86; replace hb := hb.trans (hb_86.mono hb.size)
  replace y3x := y3x.rd
  obtain ⟨n_y3x, o_y3x, k_y3x, c_y3x, rfl⟩ := y3x.open2
  have Ly3x := hide (y3x.lenOf (zlen_i (-1) (by decide) (by decide)))
  refine hK _ _ rfl hb_86 ⟨x_b6.cell 0 rfl, x_b6.cell 1 rfl, x_b7.cell 0 rfl, x_b7.cell 1 rfl, x_b8.cell 0 rfl, x_b8.cell 1 rfl, x_b9.cell 0 rfl, x_b9.cell 1 rfl⟩ ?_
  clear hK K hb_86
  refine wpFl_call rfl (by kernel_rfl) fun w_87 hn hC => ?_; clear hC
  replace x_b1 := x_b1.bl hn; replace x_b2 := x_b2.bl hn; replace g1 := g1.bl hn; replace g2 := g2.bl hn; replace h1 := h1.bl hn; replace h2 := h2.bl hn; replace j1 := j1.bl hn; replace j2 := j2.bl hn; replace x_b4 := x_b4.bl hn; replace v := v.bl hn; replace x_b6 := x_b6.bl hn; replace z2x := z2x.bl hn; replace x_b7 := x_b7.bl hn; replace z4x := z4x.bl hn; replace x_b8 := x_b8.bl hn; replace z6x := z6x.bl hn; replace x_b9 := x_b9.bl hn; replace y3x := y3x.bl hn; replace hb := hb.trans (hn.mono hb.size)
  clear hn; intro K hK
  go_big_op
  go_fit (rsame_zz z6x (y3x.zn Ly3x.out) (by omega) )
  rintro e w_88 ⟨rfl, hb_88⟩
  replace x_b1 := x_b1.bl hb_88; replace x_b2 := x_b2.bl hb_88; replace g1 := g1.bl hb_88; replace g2 := g2.bl hb_88; replace h1 := h1.bl hb_88; replace h2 := h2.bl hb_88; replace j1 := j1.bl hb_88; replace j2 := j2.bl hb_88; replace x_b4 := x_b4.bl hb_88; replace v := v.bl hb_88; replace x_b6 := x_b6.bl hb_88; replace z2x := z2x.bl hb_88; replace x_b7 := x_b7.bl hb_88; replace z4x := z4x.bl hb_88; replace x_b8 := x_b8.bl hb_88; replace z6x := z6x.bl hb_88; replace x_b9 := x_b9.bl hb_88; replace y3x := y3x.bl hb_88; replace hb := hb.trans (hb_88.mono hb.size)
  refine hK _ _ rfl hb_88 ⟨x_b6.cell 0 rfl, x_b6.cell 1 rfl, x_b7.cell 0 rfl, x_b7.cell 1 rfl, x_b8.cell 0 rfl, x_b8.cell 1 rfl, x_b9.cell 0 rfl, x_b9.cell 1 rfl⟩ ?_
  clear hK K hb_88
  apply wpFl_ld rfl rfl; (case h1 => intro w' hC K hK; go_big_op; exact hK); iterate 4 kernel_rfl
  apply wpFl_ld rfl rfl; (case h1 => intro w' hC K hK; go_big_op; exact hK); iterate 4 kernel_rfl
  apply wpFl_end
  case ha => intro pt; simp only [putF]; rfl
  case h =>
  intro w_89 pt hn hC hF hD
  clear hC
  clear y3x
  replace x_b1 := x_b1.bl hn; replace x_b2 := x_b2.bl hn; replace g1 := g1.bl hn; replace g2 := g2.bl hn; replace h1 := h1.bl hn; replace h2 := h2.bl hn; replace j1 := j1.bl hn; replace j2 := j2.bl hn; replace x_b4 := x_b4.bl hn; replace v := v.bl hn; replace x_b6 := x_b6.bl hn; replace z2x := z2x.bl hn; replace x_b7 := x_b7.bl hn; replace z4x := z4x.bl hn; replace x_b8 := x_b8.bl hn; replace z6x := z6x.bl hn; replace x_b9 := x_b9.bl hn; replace hb := hb.trans (hn.mono hb.size)
  clear hn
  clear hF hD
  clear pt
  clear kb0 lt_b1 lt_b2 lt_b4 lt_b6 lt_b7 lt_b8 lt_b9
  apply wpTail_end
  refine hK20 _ _ ?_
  refine wp_cond_false (congrArg Value.bool (show _ = false from (by first | rfl | assumption | (simp; done) | exact decide_eq_false (by omega) | omega))) ?_
  refine wp_skip ?_
  refine hK19 _ _ ?_
  refine wp_seq_k ?_
  intro K21 hK21
  refine wp_region_sq [0, 1, 2, 3, 4, 5, 6] (by kernel_rfl) ?_
  refine wpSq_call rfl (by kernel_rfl) fun K hK => ?_
  go_big_op
  go_fit (fq_any (-2) 3 _ (by decide) (by decide) (by decide) (by decide))
  rintro e w_90 ⟨_, rfl, ⟨n_k1xa, o_k1xa, k_k1xa, c_k1xa, n_k1xb, o_k1xb, k_k1xb, c_k1xb, rfl, k1x1, k1x2⟩, hb_90⟩
  clear v x_b6 z2x x_b7 z4x x_b8 z6x x_b9
  replace x_b1 := x_b1.bl hb_90; replace x_b2 := x_b2.bl hb_90; replace g1 := g1.bl hb_90; replace g2 := g2.bl hb_90; replace h1 := h1.bl hb_90; replace h2 := h2.bl hb_90; replace j1 := j1.bl hb_90; replace j2 := j2.bl hb_90; replace x_b4 := x_b4.bl hb_90; replace hb := hb.trans (hb_90.mono hb.size)
  have Lk1x1 := hide (k1x1.lenOf (zlen_i (-2) (by decide) (by decide)))
  have Lk1x2 := hide (k1x2.lenOf (zlen_i 3 (by decide) (by decide)))
  refine hK _ _ rfl ?_
  clear hK K hb_90
  refine wpSq_call rfl (by kernel_rfl) fun K hK => ?_
  go_big_op
  go_fit (fPow_any 3 (.mk' (k1x1.zn Lk1x1.out) (k1x2.zn Lk1x2.out)) (by decide) (by decide) (by decide) (by decide) T1.out.1 T1.out.2)
  rintro e w_91 ⟨_, rfl, ⟨n_k2xa, o_k2xa, k_k2xa, c_k2xa, n_k2xb, o_k2xb, k_k2xb, c_k2xb, rfl, k2x1, k2x2⟩, hb_91⟩
  replace x_b1 := x_b1.bl hb_91; replace x_b2 := x_b2.bl hb_91; replace g1 := g1.bl hb_91; replace g2 := g2.bl hb_91; replace h1 := h1.bl hb_91; replace h2 := h2.bl hb_91; replace j1 := j1.bl hb_91; replace j2 := j2.bl hb_91; replace x_b4 := x_b4.bl hb_91; replace k1x1 := k1x1.bl hb_91; replace k1x2 := k1x2.bl hb_91; replace hb := hb.trans (hb_91.mono hb.size)
  rw [W1.out.1] at k2x1
  rw [W1.out.2] at k2x2
  refine hK _ _ rfl ?_
  clear hK K hb_91
  refine wpSq_call rfl (by kernel_rfl) fun K hK => ?_
  go_big_move; refine hK _ _ rfl ?_; clear hK K
  refine wpSq_call rfl (by kernel_rfl) fun K hK => ?_
  go_big_op; refine hK _ _ rfl ?_; clear hK K
  refine wpSq_call rfl (by kernel_rfl) fun K hK => ?_
  go_big_op; refine hK _ _ rfl ?_; clear hK K
  refine wpSq_call rfl (by kernel_rfl) fun K hK => ?_
  obtain ⟨d0, d1, d2, d3⟩ := x_b1.f4
  have f0 := x_b1.free 0; have f1 := x_b1.free 1; have f2 := x_b1.free 2; have f3 := x_b1.free 3
  go_big_op
  have hnd := x_b1.nod rfl rfl
  obtain ⟨w_92, eW, x_b1', ho⟩ : ∃ w', ((((w_91.setCell ⟨p_b1, 0, none⟩ (.bool n_k2xa)).setCell ⟨p_b1, 1, none⟩ (.slice o_k2xa k_k2xa c_k2xa)).setCell ⟨p_b1, 2, none⟩ (.bool n_k2xb)).setCell ⟨p_b1, 3, none⟩ (.slice o_k2xb k_k2xb c_k2xb)) = w' ∧ Bs w' p_b1 #[.bool n_k2xa, .slice o_k2xa k_k2xa c_k2xa, .bool n_k2xb, .slice o_k2xb k_k2xb c_k2xb] 26 ∧ Only p_b1 w_91 w' := x_b1.setN [(0, .bool n_k2xa), (1, .slice o_k2xa k_k2xa c_k2xa), (2, .bool n_k2xb), (3, .slice o_k2xb k_k2xb c_k2xb)]
  rw [eW]; clear eW d0 d1 d2 d3 f0 f1 f2 f3 x_b1
  have x_b1 := x_b1'; clear x_b1'
  clear g1 g2 k1x1 k1x2
  replace x_b2 := x_b2.frame ho ne_b1_b2.symm; replace h1 := h1.fr hnd ho; replace h2 := h2.fr hnd ho; replace j1 := j1.fr hnd ho; replace j2 := j2.fr hnd ho; replace x_b4 := x_b4.frame ho ne_b1_b4.symm; replace k2x1 := k2x1.fr hnd ho; replace k2x2 := k2x2.fr hnd ho; replace hb := belowOnly hb ho kb_b1
  refine hK _ _ rfl ?_; clear hK K ho hnd
  refine wpSq_call rfl (by kernel_rfl) fun K hK => ?_
  go_big_move; refine hK _ _ rfl ?_; clear hK K
  apply wpSq_end
  refine hK21 _ _ ?_
  refine wp_seq_k ?_
  intro K22 hK22
  refine wp_region_sq [0, 1, 2, 3, 4, 5, 6] (by kernel_rfl) ?_
  refine wpSq_call rfl (by kernel_rfl) fun K hK => ?_
  go_big_op
  go_fit (fq_any 0 1 _ (by decide) (by decide) (by decide) (by decide))
  rintro e w_93 ⟨_, rfl, ⟨n_k3xa, o_k3xa, k_k3xa, c_k3xa, n_k3xb, o_k3xb, k_k3xb, c_k3xb, rfl, k3x1, k3x2⟩, hb_93⟩
  replace x_b1 := x_b1.bl hb_93; replace x_b2 := x_b2.bl hb_93; replace h1 := h1.bl hb_93; replace h2 := h2.bl hb_93; replace j1 := j1.bl hb_93; replace j2 := j2.bl hb_93; replace x_b4 := x_b4.bl hb_93; replace k2x1 := k2x1.bl hb_93; replace k2x2 := k2x2.bl hb_93; replace hb := hb.trans (hb_93.mono hb.size)
  have Lk3x1 := hide (k3x1.lenOf (zlen_i 0 (by decide) (by decide)))
  have Lk3x2 := hide (k3x2.lenOf (zlen_i 1 (by decide) (by decide)))
  refine hK _ _ rfl ?_
  clear hK K hb_93
  refine wpSq_call rfl (by kernel_rfl) fun K hK => ?_
  go_big_op
  go_fit (fPow_any 0 (.mk' (k3x1.zn Lk3x1.out) (k3x2.zn Lk3x2.out)) (by decide) (by decide) (by decide) (by decide) T2.out.1 T2.out.2)
  rintro e w_94 ⟨_, rfl, ⟨n_k4xa, o_k4xa, k_k4xa, c_k4xa, n_k4xb, o_k4xb, k_k4xb, c_k4xb, rfl, k4x1, k4x2⟩, hb_94⟩
  replace x_b1 := x_b1.bl hb_94; replace x_b2 := x_b2.bl hb_94; replace h1 := h1.bl hb_94; replace h2 := h2.bl hb_94; replace j1 := j1.bl hb_94; replace j2 := j2.bl hb_94; replace x_b4 := x_b4.bl hb_94; replace k2x1 := k2x1.bl hb_94; replace k2x2 := k2x2.bl hb_94; replace k3x1 := k3x1.bl hb_94; replace k3x2 := k3x2.bl hb_94; replace hb := hb.trans (hb_94.mono hb.size)
  rw [W2.out.1] at k4x1
  rw [W2.out.2] at k4x2
  refine hK _ _ rfl ?_
  clear hK K hb_94
  refine wpSq_call rfl (by kernel_rfl) fun K hK => ?_
  go_big_move; refine hK _ _ rfl ?_; clear hK K
  refine wpSq_call rfl (by kernel_rfl) fun K hK => ?_
  go_big_op; refine hK _ _ rfl ?_; clear hK K
  refine wpSq_call rfl (by kernel_rfl) fun K hK => ?_
  go_big_op; refine hK _ _ rfl ?_; clear hK K
  refine wpSq_call rfl (by kernel_rfl) fun K hK => ?_
  obtain ⟨d0, d1, d2, d3⟩ := x_b2.f4
  have f0 := x_b2.free 0; have f1 := x_b2.free 1; have f2 := x_b2.free 2; have f3 := x_b2.free 3
  go_big_op
  have hnd := x_b2.nod rfl rfl
  obtain ⟨w_95, eW, x_b2', ho⟩ : ∃ w', ((((w_94.setCell ⟨p_b2, 0, none⟩ (.bool n_k4xa)).setCell ⟨p_b2, 1, none⟩ (.slice o_k4xa k_k4xa c_k4xa)).setCell ⟨p_b2, 2, none⟩ (.bool n_k4xb)).setCell ⟨p_b2, 3, none⟩ (.slice o_k4xb k_k4xb c_k4xb)) = w' ∧ Bs w' p_b2 #[.bool n_k4xa, .slice o_k4xa k_k4xa c_k4xa, .bool n_k4xb, .slice o_k4xb k_k4xb c_k4xb] 26 ∧ Only p_b2 w_94 w' := x_b2.setN [(0, .bool n_k4xa), (1, .slice o_k4xa k_k4xa c_k4xa), (2, .bool n_k4xb), (3, .slice o_k4xb k_k4xb c_k4xb)]
  rw [eW]; clear eW d0 d1 d2 d3 f0 f1 f2 f3 x_b2
  have x_b2 := x_b2'; clear x_b2'
  clear h1 h2 k3x1 k3x2
  replace x_b1 := x_b1.frame ho ne_b1_b2; replace j1 := j1.fr hnd ho; replace j2 := j2.fr hnd ho; replace x_b4 := x_b4.frame ho ne_b2_b4.symm; replace k2x1 := k2x1.fr hnd ho; replace k2x2 := k2x2.fr hnd ho; replace k4x1 := k4x1.fr hnd ho; replace k4x2 := k4x2.fr hnd ho; replace hb := belowOnly hb ho kb_b2
  refine hK _ _ rfl ?_; clear hK K ho hnd
  refine wpSq_call rfl (by kernel_rfl) fun K hK => ?_
  go_big_move; refine hK _ _ rfl ?_; clear hK K
  apply wpSq_end
  refine hK22 _ _ ?_
  refine wp_seq_k ?_
  intro K23 hK23
  refine wp_region_sq [0, 1, 2, 3, 4, 5] (by kernel_rfl) ?_
  refine wpSq_call rfl (by kernel_rfl) fun K hK => ?_
  go_big_op
  go_fit (fq_any 2 1 _ (by decide) (by decide) (by decide) (by decide))
  rintro e w_96 ⟨_, rfl, ⟨n_k5xa, o_k5xa, k_k5xa, c_k5xa, n_k5xb, o_k5xb, k_k5xb, c_k5xb, rfl, k5x1, k5x2⟩, hb_96⟩
  replace x_b1 := x_b1.bl hb_96; replace x_b2 := x_b2.bl hb_96; replace j1 := j1.bl hb_96; replace j2 := j2.bl hb_96; replace x_b4 := x_b4.bl hb_96; replace k2x1 := k2x1.bl hb_96; replace k2x2 := k2x2.bl hb_96; replace k4x1 := k4x1.bl hb_96; replace k4x2 := k4x2.bl hb_96; replace hb := hb.trans (hb_96.mono hb.size)
  have Lk5x1 := hide (k5x1.lenOf (zlen_i 2 (by decide) (by decide)))
  have Lk5x2 := hide (k5x2.lenOf (zlen_i 1 (by decide) (by decide)))
  refine hK _ _ rfl ?_
  clear hK K hb_96
  refine wpSq_call rfl (by kernel_rfl) fun K hK => ?_
  go_big_op
  go_fit (fPow_high 32769 (.mk' (k5x1.zn Lk5x1.out) (k5x2.zn Lk5x2.out)) (by decide) (by decide) (by decide) (by decide) (.inl TH.out))
  rintro e w_97 ⟨rfl, hb_97⟩
  replace x_b1 := x_b1.bl hb_97; replace x_b2 := x_b2.bl hb_97; replace j1 := j1.bl hb_97; replace j2 := j2.bl hb_97; replace x_b4 := x_b4.bl hb_97; replace k2x1 := k2x1.bl hb_97; replace k2x2 := k2x2.bl hb_97; replace k4x1 := k4x1.bl hb_97; replace k4x2 := k4x2.bl hb_97; replace k5x1 := k5x1.bl hb_97; replace k5x2 := k5x2.bl hb_97; replace hb := hb.trans (hb_97.mono hb.size)
  refine hK _ _ rfl ?_
  clear hK K hb_97
  refine wpSq_call rfl (by kernel_rfl) fun K hK => ?_
  go_big_move; refine hK _ _ rfl ?_; clear hK K
  refine wpSq_call rfl (by kernel_rfl) fun K hK => ?_
  go_big_op; refine hK _ _ rfl ?_; clear hK K
  refine wpSq_call rfl (by kernel_rfl) fun K hK => ?_
  go_big_op; refine hK _ _ rfl ?_; clear hK K
  refine wpSq_call rfl (by kernel_rfl) fun K hK => ?_
  go_big_move; refine hK _ _ rfl ?_; clear hK K
  apply wpSq_end
  refine hK23 _ _ ?_
  refine wp_seq_k ?_
  intro K24 hK24
  refine wp_region_sq [0, 1, 2, 3, 4, 5, 6] (by kernel_rfl) ?_
  refine wpSq_call rfl (by kernel_rfl) fun K hK => ?_
  go_big_op
  go_fit (fq_any (-1) 1 _ (by decide) (by decide) (by decide) (by decide))
  rintro e w_98 ⟨_, rfl, ⟨n_k6xa, o_k6xa, k_k6xa, c_k6xa, n_k6xb, o_k6xb, k_k6xb, c_k6xb, rfl, k6x1, k6x2⟩, hb_98⟩
  clear k5x1 k5x2
  replace x_b1 := x_b1.bl hb_98; replace x_b2 := x_b2.bl hb_98; replace j1 := j1.bl hb_98; replace j2 := j2.bl hb_98; replace x_b4 := x_b4.bl hb_98; replace k2x1 := k2x1.bl hb_98; replace k2x2 := k2x2.bl hb_98; replace k4x1 := k4x1.bl hb_98; replace k4x2 := k4x2.bl hb_98; replace hb := hb.trans (hb_98.mono hb.size)
  have Lk6x1 := hide (k6x1.lenOf (zlen_i (-1) (by decide) (by decide)))
  have Lk6x2 := hide (k6x2.lenOf (zlen_i 1 (by decide) (by decide)))
  refine hK _ _ rfl ?_
  clear hK K hb_98
  refine wpSq_call rfl (by kernel_rfl) fun K hK => ?_
  go_big_op
  go_fit (fPow_any 4611686018427387904 (.mk' (k6x1.zn Lk6x1.out) (k6x2.zn Lk6x2.out)) (by decide) (by decide) (by decide) (by decide) T3.out.1 T3.out.2)
  rintro e w_99 ⟨_, rfl, ⟨n_k7xa, o_k7xa, k_k7xa, c_k7xa, n_k7xb, o_k7xb, k_k7xb, c_k7xb, rfl, k7x1, k7x2⟩, hb_99⟩
  replace x_b1 := x_b1.bl hb_99; replace x_b2 := x_b2.bl hb_99; replace j1 := j1.bl hb_99; replace j2 := j2.bl hb_99; replace x_b4 := x_b4.bl hb_99; replace k2x1 := k2x1.bl hb_99; replace k2x2 := k2x2.bl hb_99; replace k4x1 := k4x1.bl hb_99; replace k4x2 := k4x2.bl hb_99; replace k6x1 := k6x1.bl hb_99; replace k6x2 := k6x2.bl hb_99; replace hb := hb.trans (hb_99.mono hb.size)
  rw [W3.out.1] at k7x1
  rw [W3.out.2] at k7x2
  refine hK _ _ rfl ?_
  clear hK K hb_99
  refine wpSq_call rfl (by kernel_rfl) fun K hK => ?_
  go_big_move; refine hK _ _ rfl ?_; clear hK K
  refine wpSq_call rfl (by kernel_rfl) fun K hK => ?_
  go_big_op; refine hK _ _ rfl ?_; clear hK K
  refine wpSq_call rfl (by kernel_rfl) fun K hK => ?_
  go_big_op; refine hK _ _ rfl ?_; clear hK K
  refine wpSq_call rfl (by kernel_rfl) fun K hK => ?_
  obtain ⟨d0, d1, d2, d3⟩ := x_b4.f4
  have f0 := x_b4.free 0; have f1 := x_b4.free 1; have f2 := x_b4.free 2; have f3 := x_b4.free 3
  go_big_op
  have hnd := x_b4.nod rfl rfl
  obtain ⟨w_100, eW, x_b4', ho⟩ : ∃ w', ((((w_99.setCell ⟨p_b4, 0, none⟩ (.bool n_k7xa)).setCell ⟨p_b4, 1, none⟩ (.slice o_k7xa k_k7xa c_k7xa)).setCell ⟨p_b4, 2, none⟩ (.bool n_k7xb)).setCell ⟨p_b4, 3, none⟩ (.slice o_k7xb k_k7xb c_k7xb)) = w' ∧ Bs w' p_b4 #[.bool n_k7xa, .slice o_k7xa k_k7xa c_k7xa, .bool n_k7xb, .slice o_k7xb k_k7xb c_k7xb] 26 ∧ Only p_b4 w_99 w' := x_b4.setN [(0, .bool n_k7xa), (1, .slice o_k7xa k_k7xa c_k7xa), (2, .bool n_k7xb), (3, .slice o_k7xb k_k7xb c_k7xb)]
  rw [eW]; clear eW d0 d1 d2 d3 f0 f1 f2 f3 x_b4
  have x_b4 := x_b4'; clear x_b4'
  clear j1 j2 k6x1 k6x2
  replace x_b1 := x_b1.frame ho ne_b1_b4; replace x_b2 := x_b2.frame ho ne_b2_b4; replace k2x1 := k2x1.fr hnd ho; replace k2x2 := k2x2.fr hnd ho; replace k4x1 := k4x1.fr hnd ho; replace k4x2 := k4x2.fr hnd ho; replace k7x1 := k7x1.fr hnd ho; replace k7x2 := k7x2.fr hnd ho; replace hb := belowOnly hb ho kb_b4
  refine hK _ _ rfl ?_; clear hK K ho hnd
  refine wpSq_call rfl (by kernel_rfl) fun K hK => ?_
  go_big_move; refine hK _ _ rfl ?_; clear hK K
  apply wpSq_end
  refine hK24 _ _ ?_
  refine wp_seq_k ?_
  intro K25 hK25
  refine wp_region_sq [0, 1, 2, 3, 4, 5] (by kernel_rfl) ?_
  refine wpSq_call rfl (by kernel_rfl) fun K hK => ?_
  go_big_op
  go_fit (fq_any 1 2 _ (by decide) (by decide) (by decide) (by decide))
  rintro e w_101 ⟨_, rfl, ⟨n_k8xa, o_k8xa, k_k8xa, c_k8xa, n_k8xb, o_k8xb, k_k8xb, c_k8xb, rfl, k8x1, k8x2⟩, hb_101⟩
  replace x_b1 := x_b1.bl hb_101; replace x_b2 := x_b2.bl hb_101; replace x_b4 := x_b4.bl hb_101; replace k2x1 := k2x1.bl hb_101; replace k2x2 := k2x2.bl hb_101; replace k4x1 := k4x1.bl hb_101; replace k4x2 := k4x2.bl hb_101; replace k7x1 := k7x1.bl hb_101; replace k7x2 := k7x2.bl hb_101; replace hb := hb.trans (hb_101.mono hb.size)
  have Lk8x1 := hide (k8x1.lenOf (zlen_i 1 (by decide) (by decide)))
  have Lk8x2 := hide (k8x2.lenOf (zlen_i 2 (by decide) (by decide)))
  refine hK _ _ rfl ?_
  clear hK K hb_101
  refine wpSq_call rfl (by kernel_rfl) fun K hK => ?_
  go_big_op
  go_fit (fPow_neg (-1) (.mk' (k8x1.zn Lk8x1.out) (k8x2.zn Lk8x2.out)) (by decide) (by decide) (by decide) (by decide))
  rintro e w_102 ⟨rfl, hb_102⟩
  replace x_b1 := x_b1.bl hb_102; replace x_b2 := x_b2.bl hb_102; replace x_b4 := x_b4.bl hb_102; replace k2x1 := k2x1.bl hb_102; replace k2x2 := k2x2.bl hb_102; replace k4x1 := k4x1.bl hb_102; replace k4x2 := k4x2.bl hb_102; replace k7x1 := k7x1.bl hb_102; replace k7x2 := k7x2.bl hb_102; replace k8x1 := k8x1.bl hb_102; replace k8x2 := k8x2.bl hb_102; replace hb := hb.trans (hb_102.mono hb.size)
  refine hK _ _ rfl ?_
  clear hK K hb_102
  refine wpSq_call rfl (by kernel_rfl) fun K hK => ?_
  go_big_move; refine hK _ _ rfl ?_; clear hK K
  refine wpSq_call rfl (by kernel_rfl) fun K hK => ?_
  go_big_op; refine hK _ _ rfl ?_; clear hK K
  refine wpSq_call rfl (by kernel_rfl) fun K hK => ?_
  go_big_op; refine hK _ _ rfl ?_; clear hK K
  refine wpSq_call rfl (by kernel_rfl) fun K hK => ?_
  go_big_move; refine hK _ _ rfl ?_; clear hK K
  apply wpSq_end
  refine hK25 _ _ ?_
  refine wp_seq_k ?_
  intro K26 hK26
  refine wp_seq_k ?_
  intro K27 hK27
  refine wp_region_fl2 [(0, false), (1, false), (2, true), (3, true), (4, false), (5, false), (6, false), (7, false), (8, true), (9, true), (10, false), (11, false), (12, false), (13, false), (14, false), (15, false), (16, false), (17, false), (18, false), (19, true), (20, true), (21, false), (22, false), (23, false), (24, false), (25, false), (26, false)] [] [] (fun _ => default) [0, 99, 99, 99, 99, 99, 1, 99, 99, 99, 99, 99, 99, 99, 99, 99, 99, 2, 99, 99, 99, 99, 99, 99, 99, 99, 99] [] (fun w' => w'.cell? ⟨p_b1, 0, none⟩ = some (.bool n_k2xa) ∧ w'.cell? ⟨p_b1, 1, none⟩ = some (.slice o_k2xa k_k2xa c_k2xa) ∧ w'.cell? ⟨p_b1, 2, none⟩ = some (.bool n_k2xb) ∧ w'.cell? ⟨p_b1, 3, none⟩ = some (.slice o_k2xb k_k2xb c_k2xb) ∧ w'.cell? ⟨p_b2, 0, none⟩ = some (.bool n_k4xa) ∧ w'.cell? ⟨p_b2, 1, none⟩ = some (.slice o_k4xa k_k4xa c_k4xa) ∧ w'.cell? ⟨p_b2, 2, none⟩ = some (.bool n_k4xb) ∧ w'.cell? ⟨p_b2, 3, none⟩ = some (.slice o_k4xb k_k4xb c_k4xb) ∧ w'.cell? ⟨p_b4, 0, none⟩ = some (.bool n_k7xa) ∧ w'.cell? ⟨p_b4, 1, none⟩ = some (.slice o_k7xa k_k7xa c_k7xa) ∧ w'.cell? ⟨p_b4, 2, none⟩ = some (.bool n_k7xb) ∧ w'.cell? ⟨p_b4, 3, none⟩ = some (.slice o_k7xb k_k7xb c_k7xb)) [fun w' => w'.cell? ⟨p_b1, 0, none⟩ = some (.bool n_k2xa) ∧ w'.cell? ⟨p_b1, 1, none⟩ = some (.slice o_k2xa k_k2xa c_k2xa) ∧ w'.cell? ⟨p_b1, 2, none⟩ = some (.bool n_k2xb) ∧ w'.cell? ⟨p_b1, 3, none⟩ = some (.slice o_k2xb k_k2xb c_k2xb), fun w' => w'.cell? ⟨p_b2, 0, none⟩ = some (.bool n_k4xa) ∧ w'.cell? ⟨p_b2, 1, none⟩ = some (.slice o_k4xa k_k4xa c_k4xa) ∧ w'.cell? ⟨p_b2, 2, none⟩ = some (.bool n_k4xb) ∧ w'.cell? ⟨p_b2, 3, none⟩ = some (.slice o_k4xb k_k4xb c_k4xb), fun w' => w'.cell? ⟨p_b4, 0, none⟩ = some (.bool n_k7xa) ∧ w'.cell? ⟨p_b4, 1, none⟩ = some (.slice o_k7xa k_k7xa c_k7xa) ∧ w'.cell? ⟨p_b4, 2, none⟩ = some (.bool n_k7xb) ∧ w'.cell? ⟨p_b4, 3, none⟩ = some (.slice o_k7xb k_k7xb c_k7xb)] (by kernel_rfl) (by kernel_rfl) (by kernel_rfl) (by kernel_rfl) (by kernel_rfl) (by kernel_rfl) (by kernel_rfl) (by kernel_rfl) (by decide) (by intro j hj; cases hj) (by intro w' o hC; obtain ⟨c0, c1, c2, c3, c4, c5, c6, c7, c8, c9, c10, c11⟩ := hC; exact ⟨cell_alloc c0 o, cell_alloc c1 o, cell_alloc c2 o, cell_alloc c3 o, cell_alloc c4 o, cell_alloc c5 o, cell_alloc c6 o, cell_alloc c7 o, cell_alloc c8 o, cell_alloc c9 o, cell_alloc c10 o, cell_alloc c11 o⟩) (by intro w' hC G hG; obtain ⟨c0, c1, c2, c3, c4, c5, c6, c7, c8, c9, c10, c11⟩ := hC; simp only [List.mem_cons, List.not_mem_nil, or_false] at hG; rcases hG with rfl | rfl | rfl <;> first | exact ⟨c0, c1, c2, c3⟩ | exact ⟨c4, c5, c6, c7⟩ | exact ⟨c8, c9, c10, c11⟩) ?_
  clear k8x1 k8x2
  have lt_b1 := x_b1.lt
  have lt_b2 := x_b2.lt
  have lt_b4 := x_b4.lt
  intro w_103 hn
  replace lt_b1 := Nat.lt_of_lt_of_le lt_b1 hn.size
  replace lt_b2 := Nat.lt_of_lt_of_le lt_b2 hn.size
  replace lt_b4 := Nat.lt_of_lt_of_le lt_b4 hn.size
  replace x_b1 := x_b1.bl hn; replace x_b2 := x_b2.bl hn; replace x_b4 := x_b4.bl hn; replace k2x1 := k2x1.bl hn; replace k2x2 := k2x2.bl hn; replace k4x1 := k4x1.bl hn; replace k4x2 := k4x2.bl hn; replace k7x1 := k7x1.bl hn; replace k7x2 := k7x2.bl hn; replace hb := hb.trans (hn.mono hb.size)
  clear hn
  have kb0 := hb.size
  refine ⟨⟨x_b1.cell 0 rfl, x_b1.cell 1 rfl, x_b1.cell 2 rfl, x_b1.cell 3 rfl, x_b2.cell 0 rfl, x_b2.cell 1 rfl, x_b2.cell 2 rfl, x_b2.cell 3 rfl, x_b4.cell 0 rfl, x_b4.cell 1 rfl, x_b4.cell 2 rfl, x_b4.cell 3 rfl⟩, ?_⟩
  apply wpFl_ld rfl rfl; (case h1 => intro w' hC K hK; obtain ⟨c0, c1, c2, c3⟩ := hC; go_big_op; exact hK); iterate 4 kernel_rfl
  apply wpFl_ld rfl rfl; (case h1 => intro w' hC K hK; go_big_move; exact hK); iterate 4 kernel_rfl
  refine wpFl_call rfl (by kernel_rfl) fun w_104 hn hC => ?_; clear hC
  replace x_b1 := x_b1.bl hn; replace x_b2 := x_b2.bl hn; replace x_b4 := x_b4.bl hn; replace k2x1 := k2x1.bl hn; replace k2x2 := k2x2.bl hn; replace k4x1 := k4x1.bl hn; replace k4x2 := k4x2.bl hn; replace k7x1 := k7x1.bl hn; replace k7x2 := k7x2.bl hn; replace hb := hb.trans (hn.mono hb.size)
  clear hn; intro K hK
  go_big_op
  go_fit (fq_any (-8) 27 _ (by decide) (by decide) (by decide) (by decide))
  rintro e w_105 ⟨_, rfl, ⟨n_m1xa, o_m1xa, k_m1xa, c_m1xa, n_m1xb, o_m1xb, k_m1xb, c_m1xb, rfl, m1x1, m1x2⟩, hb_105⟩
  replace x_b1 := x_b1.bl hb_105; replace x_b2 := x_b2.bl hb_105; replace x_b4 := x_b4.bl hb_105; replace k2x1 := k2x1.bl hb_105; replace k2x2 := k2x2.bl hb_105; replace k4x1 := k4x1.bl hb_105; replace k4x2 := k4x2.bl hb_105; replace k7x1 := k7x1.bl hb_105; replace k7x2 := k7x2.bl hb_105; replace hb := hb.trans (hb_105.mono hb.size)
  have Lm1x1 := hide (m1x1.lenOf (zlen_i (-8) (by decide) (by decide)))
  have Lm1x2 := hide (m1x2.lenOf (zlen_i 27 (by decide) (by decide)))
  refine hK _ _ rfl hb_105 ⟨x_b1.cell 0 rfl, x_b1.cell 1 rfl, x_b1.cell 2 rfl, x_b1.cell 3 rfl, x_b2.cell 0 rfl, x_b2.cell 1 rfl, x_b2.cell 2 rfl, x_b2.cell 3 rfl, x_b4.cell 0 rfl, x_b4.cell 1 rfl, x_b4.cell 2 rfl, x_b4.cell 3 rfl⟩ ?_
  clear hK K hb_105
  refine wpFl_call rfl (by kernel_rfl) fun w_106 hn hC => ?_; clear hC
  replace x_b1 := x_b1.bl hn; replace x_b2 := x_b2.bl hn; replace x_b4 := x_b4.bl hn; replace k2x1 := k2x1.bl hn; replace k2x2 := k2x2.bl hn; replace k4x1 := k4x1.bl hn; replace k4x2 := k4x2.bl hn; replace k7x1 := k7x1.bl hn; replace k7x2 := k7x2.bl hn; replace m1x1 := m1x1.bl hn; replace m1x2 := m1x2.bl hn; replace hb := hb.trans (hn.mono hb.size)
  clear hn; intro K hK
  go_big_op
  go_fit (ftold_ok (.mk' k2x1 k2x2) (.mk' (m1x1.zn Lm1x1.out) (m1x2.zn Lm1x2.out)) (by decide) (by decide) (by decide))
  rintro e w_107 ⟨rfl, hb_107⟩
  replace x_b1 := x_b1.bl hb_107; replace x_b2 := x_b2.bl hb_107; replace x_b4 := x_b4.bl hb_107; replace k2x1 := k2x1.bl hb_107; replace k2x2 := k2x2.bl hb_107; replace k4x1 := k4x1.bl hb_107; replace k4x2 := k4x2.bl hb_107; replace k7x1 := k7x1.bl hb_107; replace k7x2 := k7x2.bl hb_107; replace m1x1 := m1x1.bl hb_107; replace m1x2 := m1x2.bl hb_107; replace hb := hb.trans (hb_107.mono hb.size)
  refine hK _ _ rfl hb_107 ⟨x_b1.cell 0 rfl, x_b1.cell 1 rfl, x_b1.cell 2 rfl, x_b1.cell 3 rfl, x_b2.cell 0 rfl, x_b2.cell 1 rfl, x_b2.cell 2 rfl, x_b2.cell 3 rfl, x_b4.cell 0 rfl, x_b4.cell 1 rfl, x_b4.cell 2 rfl, x_b4.cell 3 rfl⟩ ?_
  clear hK K hb_107
  apply wpFl_ld rfl rfl; (case h1 => intro w' hC K hK; go_big_op; exact hK); iterate 4 kernel_rfl
  apply wpFl_ld rfl rfl; (case h1 => intro w' hC K hK; go_big_move; exact hK); iterate 4 kernel_rfl
  apply wpFl_ld rfl rfl; (case h1 => intro w' hC K hK; obtain ⟨c0, c1, c2, c3⟩ := hC; go_big_op; exact hK); iterate 4 kernel_rfl
  apply wpFl_ld rfl rfl; (case h1 => intro w' hC K hK; go_big_move; exact hK); iterate 4 kernel_rfl
  refine wpFl_call rfl (by kernel_rfl) fun w_108 hn hC => ?_; clear hC
  clear m1x1 m1x2
  replace x_b1 := x_b1.bl hn; replace x_b2 := x_b2.bl hn; replace x_b4 := x_b4.bl hn; replace k2x1 := k2x1.bl hn; replace k2x2 := k2x2.bl hn; replace k4x1 := k4x1.bl hn; replace k4x2 := k4x2.bl hn; replace k7x1 := k7x1.bl hn; replace k7x2 := k7x2.bl hn; replace hb := hb.trans (hn.mono hb.size)
  clear hn; intro K hK
  go_big_op
  go_fit (fq_any 1 1 _ (by decide) (by decide) (by decide) (by decide))
  rintro e w_109 ⟨_, rfl, ⟨n_m2xa, o_m2xa, k_m2xa, c_m2xa, n_m2xb, o_m2xb, k_m2xb, c_m2xb, rfl, m2x1, m2x2⟩, hb_109⟩
  replace x_b1 := x_b1.bl hb_109; replace x_b2 := x_b2.bl hb_109; replace x_b4 := x_b4.bl hb_109; replace k2x1 := k2x1.bl hb_109; replace k2x2 := k2x2.bl hb_109; replace k4x1 := k4x1.bl hb_109; replace k4x2 := k4x2.bl hb_109; replace k7x1 := k7x1.bl hb_109; replace k7x2 := k7x2.bl hb_109; replace hb := hb.trans (hb_109.mono hb.size)
  have Lm2x1 := hide (m2x1.lenOf (zlen_i 1 (by decide) (by decide)))
  have Lm2x2 := hide (m2x2.lenOf (zlen_i 1 (by decide) (by decide)))
  refine hK _ _ rfl hb_109 ⟨x_b1.cell 0 rfl, x_b1.cell 1 rfl, x_b1.cell 2 rfl, x_b1.cell 3 rfl, x_b2.cell 0 rfl, x_b2.cell 1 rfl, x_b2.cell 2 rfl, x_b2.cell 3 rfl, x_b4.cell 0 rfl, x_b4.cell 1 rfl, x_b4.cell 2 rfl, x_b4.cell 3 rfl⟩ ?_
  clear hK K hb_109
  refine wpFl_call rfl (by kernel_rfl) fun w_110 hn hC => ?_; clear hC
  replace x_b1 := x_b1.bl hn; replace x_b2 := x_b2.bl hn; replace x_b4 := x_b4.bl hn; replace k2x1 := k2x1.bl hn; replace k2x2 := k2x2.bl hn; replace k4x1 := k4x1.bl hn; replace k4x2 := k4x2.bl hn; replace k7x1 := k7x1.bl hn; replace k7x2 := k7x2.bl hn; replace m2x1 := m2x1.bl hn; replace m2x2 := m2x2.bl hn; replace hb := hb.trans (hn.mono hb.size)
  clear hn; intro K hK
  go_big_op
  go_fit (ftold_ok (.mk' k4x1 k4x2) (.mk' (m2x1.zn Lm2x1.out) (m2x2.zn Lm2x2.out)) (by decide) (by decide) (by decide))
  rintro e w_111 ⟨rfl, hb_111⟩
  replace x_b1 := x_b1.bl hb_111; replace x_b2 := x_b2.bl hb_111; replace x_b4 := x_b4.bl hb_111; replace k2x1 := k2x1.bl hb_111; replace k2x2 := k2x2.bl hb_111; replace k4x1 := k4x1.bl hb_111; replace k4x2 := k4x2.bl hb_111; replace k7x1 := k7x1.bl hb_111; replace k7x2 := k7x2.bl hb_111; replace m2x1 := m2x1.bl hb_111; replace m2x2 := m2x2.bl hb_111; replace hb := hb.trans (hb_111.mono hb.size)
  refine hK _ _ rfl hb_111 ⟨x_b1.cell 0 rfl, x_b1.cell 1 rfl, x_b1.cell 2 rfl, x_b1.cell 3 rfl, x_b2.cell 0 rfl, x_b2.cell 1 rfl, x_b2.cell 2 rfl, x_b2.cell 3 rfl, x_b4.cell 0 rfl, x_b4.cell 1 rfl, x_b4.cell 2 rfl, x_b4.cell 3 rfl⟩ ?_
  clear hK K hb_111
  apply wpFl_ld rfl rfl; (case h1 => intro w' hC K hK; go_big_op; exact hK); iterate 4 kernel_rfl
  apply wpFl_ld rfl rfl; (case h1 => intro w' hC K hK; go_big_op; exact hK); iterate 4 kernel_rfl
  apply wpFl_ld rfl rfl; (case h1 => intro w' hC K hK; go_big_move; exact hK); iterate 4 kernel_rfl
  apply wpFl_ld rfl rfl; (case h1 => intro w' hC K hK; go_big_move; exact hK); iterate 4 kernel_rfl
  apply wpFl_ld rfl rfl; (case h1 => intro w' hC K hK; go_big_op; exact hK); iterate 4 kernel_rfl
  apply wpFl_ld rfl rfl; (case h1 => intro w' hC K hK; go_big_op; exact hK); iterate 4 kernel_rfl
  apply wpFl_ld rfl rfl; (case h1 => intro w' hC K hK; go_big_move; exact hK); iterate 4 kernel_rfl
  apply wpFl_ld rfl rfl; (case h1 => intro w' hC K hK; obtain ⟨c0, c1, c2, c3⟩ := hC; go_big_op; exact hK); iterate 4 kernel_rfl
  apply wpFl_ld rfl rfl; (case h1 => intro w' hC K hK; go_big_move; exact hK); iterate 4 kernel_rfl
  refine wpFl_call rfl (by kernel_rfl) fun w_112 hn hC => ?_; clear hC
  clear m2x1 m2x2
  replace x_b1 := x_b1.bl hn; replace x_b2 := x_b2.bl hn; replace x_b4 := x_b4.bl hn; replace k2x1 := k2x1.bl hn; replace k2x2 := k2x2.bl hn; replace k4x1 := k4x1.bl hn; replace k4x2 := k4x2.bl hn; replace k7x1 := k7x1.bl hn; replace k7x2 := k7x2.bl hn; replace hb := hb.trans (hn.mono hb.size)
  clear hn; intro K hK
  go_big_op
  go_fit (fq_any 1 1 _ (by decide) (by decide) (by decide) (by decide))
  rintro e w_113 ⟨_, rfl, ⟨n_m3xa, o_m3xa, k_m3xa, c_m3xa, n_m3xb, o_m3xb, k_m3xb, c_m3xb, rfl, m3x1, m3x2⟩, hb_113⟩
  replace x_b1 := x_b1.bl hb_113; replace x_b2 := x_b2.bl hb_113; replace x_b4 := x_b4.bl hb_113; replace k2x1 := k2x1.bl hb_113; replace k2x2 := k2x2.bl hb_113; replace k4x1 := k4x1.bl hb_113; replace k4x2 := k4x2.bl hb_113; replace k7x1 := k7x1.bl hb_113; replace k7x2 := k7x2.bl hb_113; replace hb := hb.trans (hb_113.mono hb.size)
  have Lm3x1 := hide (m3x1.lenOf (zlen_i 1 (by decide) (by decide)))
  have Lm3x2 := hide (m3x2.lenOf (zlen_i 1 (by decide) (by decide)))
  refine hK _ _ rfl hb_113 ⟨x_b1.cell 0 rfl, x_b1.cell 1 rfl, x_b1.cell 2 rfl, x_b1.cell 3 rfl, x_b2.cell 0 rfl, x_b2.cell 1 rfl, x_b2.cell 2 rfl, x_b2.cell 3 rfl, x_b4.cell 0 rfl, x_b4.cell 1 rfl, x_b4.cell 2 rfl, x_b4.cell 3 rfl⟩ ?_
  clear hK K hb_113
  refine wpFl_call rfl (by kernel_rfl) fun w_114 hn hC => ?_; clear hC
  replace x_b1 := x_b1.bl hn; replace x_b2 := x_b2.bl hn; replace x_b4 := x_b4.bl hn; replace k2x1 := k2x1.bl hn; replace k2x2 := k2x2.bl hn; replace k4x1 := k4x1.bl hn; replace k4x2 := k4x2.bl hn; replace k7x1 := k7x1.bl hn; replace k7x2 := k7x2.bl hn; replace m3x1 := m3x1.bl hn; replace m3x2 := m3x2.bl hn; replace hb := hb.trans (hn.mono hb.size)
  clear hn; intro K hK
  go_big_op
  go_fit (ftold_ok (.mk' k7x1 k7x2) (.mk' (m3x1.zn Lm3x1.out) (m3x2.zn Lm3x2.out)) (by decide) (by decide) (by decide))
  rintro e w_115 ⟨rfl, hb_115⟩
  replace x_b1 := x_b1.bl hb_115; replace x_b2 := x_b2.bl hb_115; replace x_b4 := x_b4.bl hb_115; replace k2x1 := k2x1.bl hb_115; replace k2x2 := k2x2.bl hb_115; replace k4x1 := k4x1.bl hb_115; replace k4x2 := k4x2.bl hb_115; replace k7x1 := k7x1.bl hb_115; replace k7x2 := k7x2.bl hb_115; replace m3x1 := m3x1.bl hb_115; replace m3x2 := m3x2.bl hb_115; replace hb := hb.trans (hb_115.mono hb.size)
  refine hK _ _ rfl hb_115 ⟨x_b1.cell 0 rfl, x_b1.cell 1 rfl, x_b1.cell 2 rfl, x_b1.cell 3 rfl, x_b2.cell 0 rfl, x_b2.cell 1 rfl, x_b2.cell 2 rfl, x_b2.cell 3 rfl, x_b4.cell 0 rfl, x_b4.cell 1 rfl, x_b4.cell 2 rfl, x_b4.cell 3 rfl⟩ ?_
  clear hK K hb_115
  apply wpFl_ld rfl rfl; (case h1 => intro w' hC K hK; go_big_op; exact hK); iterate 4 kernel_rfl
  apply wpFl_ld rfl rfl; (case h1 => intro w' hC K hK; go_big_op; exact hK); iterate 4 kernel_rfl
  apply wpFl_ld rfl rfl; (case h1 => intro w' hC K hK; go_big_move; exact hK); iterate 4 kernel_rfl
  apply wpFl_ld rfl rfl; (case h1 => intro w' hC K hK; go_big_move; exact hK); iterate 4 kernel_rfl
  apply wpFl_ld rfl rfl; (case h1 => intro w' hC K hK; go_big_op; exact hK); iterate 4 kernel_rfl
  apply wpFl_ld rfl rfl; (case h1 => intro w' hC K hK; go_big_op; exact hK); iterate 4 kernel_rfl
  apply wpFl_end
  case ha => intro pt; simp only [putF]; rfl
  case h =>
  intro w_116 pt hn hC hF hD
  clear hC
  clear m3x1 m3x2
  replace x_b1 := x_b1.bl hn; replace x_b2 := x_b2.bl hn; replace x_b4 := x_b4.bl hn; replace k2x1 := k2x1.bl hn; replace k2x2 := k2x2.bl hn; replace k4x1 := k4x1.bl hn; replace k4x2 := k4x2.bl hn; replace k7x1 := k7x1.bl hn; replace k7x2 := k7x2.bl hn; replace hb := hb.trans (hn.mono hb.size)
  clear hn
  clear hF hD
  clear pt
  clear kb0 lt_b1 lt_b2 lt_b4
  apply wpTail_end
  refine hK27 _ _ ?_
  refine wp_cond_false (congrArg Value.bool (show _ = false from (by first | rfl | assumption | (simp; done) | exact decide_eq_false (by omega) | omega))) ?_
  refine wp_skip ?_
  refine hK26 _ _ ?_
  refine wp_seq_k ?_
  intro K28 hK28
  refine wp_region_sq [0, 1, 2, 3, 4, 5, 6] (by kernel_rfl) ?_
  refine wpSq_call rfl (by kernel_rfl) fun K hK => ?_
  go_big_op
  go_fit (fq_any 8 4 _ (by decide) (by decide) (by decide) (by decide))
  rintro e w_117 ⟨_, rfl, ⟨n_m4xa, o_m4xa, k_m4xa, c_m4xa, n_m4xb, o_m4xb, k_m4xb, c_m4xb, rfl, m4x1, m4x2⟩, hb_117⟩
  clear x_b1 x_b2 x_b4 k2x1 k2x2 k4x1 k4x2 k7x1 k7x2
  replace hb := hb.trans (hb_117.mono hb.size)
  have Lm4x1 := hide (m4x1.lenOf (zlen_i 8 (by decide) (by decide)))
  have Lm4x2 := hide (m4x2.lenOf (zlen_i 4 (by decide) (by decide)))
  refine hK _ _ rfl ?_
  clear hK K hb_117
  refine wpSq_call rfl (by kernel_rfl) fun K hK => ?_
  go_big_op
  go_fit (fText_any (.mk' (m4x1.zn Lm4x1.out) (m4x2.zn Lm4x2.out)) (by decide) (by decide) (by decide) (htabs _ hb))
  rintro e w_118 ⟨rfl, hb_118⟩
  replace m4x1 := m4x1.bl hb_118; replace m4x2 := m4x2.bl hb_118; replace hb := hb.trans (hb_118.mono hb.size)
  rw [E2.out]
  refine hK _ _ rfl ?_
  clear hK K hb_118
  refine wpSq_call rfl (by kernel_rfl) fun K hK => ?_
  go_big_move; refine hK _ _ rfl ?_; clear hK K
  refine wpSq_call rfl (by kernel_rfl) fun K hK => ?_
  go_big_op; refine hK _ _ rfl ?_; clear hK K
  refine wpSq_call rfl (by kernel_rfl) fun K hK => ?_
  go_big_op; refine hK _ _ rfl ?_; clear hK K
  refine wpSq_call rfl (by kernel_rfl) fun K hK => ?_
  go_big_move; refine hK _ _ rfl ?_; clear hK K
  refine wpSq_call rfl (by kernel_rfl) fun K hK => ?_
  go_big_move; refine hK _ _ rfl ?_; clear hK K
  apply wpSq_end
  refine hK28 _ _ ?_
  refine wp_seq_k ?_
  intro K29 hK29
  refine wp_region_sq [0, 1, 2, 3, 4, 5, 6, 7, 8, 9, 10, 11, 12, 13, 14, 15, 16, 17, 18, 19, 20, 21, 22, 23, 24, 25, 26] (by kernel_rfl) ?_
  refine wpSq_call rfl (by kernel_rfl) fun K hK => ?_
  go_big_move; refine hK _ _ rfl ?_; clear hK K
  refine wpSq_call rfl (by kernel_rfl) fun K hK => ?_
  go_big_op; refine hK _ _ rfl ?_; clear hK K
  refine wpSq_call rfl (by kernel_rfl) fun K hK => ?_
  go_big_move; refine hK _ _ rfl ?_; clear hK K
  refine wpSq_call rfl (by kernel_rfl) fun K hK => ?_
  go_big_move; refine hK _ _ rfl ?_; clear hK K
  refine wpSq_call rfl (by kernel_rfl) fun K hK => ?_
  go_big_op; refine hK _ _ rfl ?_; clear hK K
  refine wpSq_call rfl (by kernel_rfl) fun K hK => ?_
  go_big_op; refine hK _ _ rfl ?_; clear hK K
  refine wpSq_call rfl (by kernel_rfl) fun K hK => ?_
  go_big_move; refine hK _ _ rfl ?_; clear hK K
  refine wpSq_call rfl (by kernel_rfl) fun K hK => ?_
  go_big_op
  go_fit (fq_any 3 2 _ (by decide) (by decide) (by decide) (by decide))
  rintro e w_119 ⟨_, rfl, ⟨n_n64xa, o_n64xa, k_n64xa, c_n64xa, n_n64xb, o_n64xb, k_n64xb, c_n64xb, rfl, n64x1, n64x2⟩, hb_119⟩
  clear m4x1 m4x2
  replace hb := hb.trans (hb_119.mono hb.size)
  have Ln64x1 := hide (n64x1.lenOf (zlen_i 3 (by decide) (by decide)))
  have Ln64x2 := hide (n64x2.lenOf (zlen_i 2 (by decide) (by decide)))
  refine hK _ _ rfl ?_
  clear hK K hb_119
  refine wpSq_call rfl (by kernel_rfl) fun K hK => ?_
  go_big_op
  go_fit (parsed_64 (.mk' n64x1 n64x2))
  rintro e w_120 ⟨rfl, hb_120⟩
  replace n64x1 := n64x1.bl hb_120; replace n64x2 := n64x2.bl hb_120; replace hb := hb.trans (hb_120.mono hb.size)
  refine hK _ _ rfl ?_
  clear hK K hb_120
  refine wpSq_call rfl (by kernel_rfl) fun K hK => ?_
  go_big_op; refine hK _ _ rfl ?_; clear hK K
  refine wpSq_call rfl (by kernel_rfl) fun K hK => ?_
  go_big_move; refine hK _ _ rfl ?_; clear hK K
  refine wpSq_call rfl (by kernel_rfl) fun K hK => ?_
  go_big_op
  go_fit (fq_any 0 1 _ (by decide) (by decide) (by decide) (by decide))
  rintro e w_121 ⟨_, rfl, ⟨n_n10xa, o_n10xa, k_n10xa, c_n10xa, n_n10xb, o_n10xb, k_n10xb, c_n10xb, rfl, n10x1, n10x2⟩, hb_121⟩
  clear n64x1 n64x2
  replace hb := hb.trans (hb_121.mono hb.size)
  have Ln10x1 := hide (n10x1.lenOf (zlen_i 0 (by decide) (by decide)))
  have Ln10x2 := hide (n10x2.lenOf (zlen_i 1 (by decide) (by decide)))
  refine hK _ _ rfl ?_
  clear hK K hb_121
  refine wpSq_call rfl (by kernel_rfl) fun K hK => ?_
  go_big_op
  go_fit (parsed_10 (.mk' n10x1 n10x2))
  rintro e w_122 ⟨rfl, hb_122⟩
  replace n10x1 := n10x1.bl hb_122; replace n10x2 := n10x2.bl hb_122; replace hb := hb.trans (hb_122.mono hb.size)
  refine hK _ _ rfl ?_
  clear hK K hb_122
  refine wpSq_call rfl (by kernel_rfl) fun K hK => ?_
  go_big_op; refine hK _ _ rfl ?_; clear hK K
  refine wpSq_call rfl (by kernel_rfl) fun K hK => ?_
  go_big_move; refine hK _ _ rfl ?_; clear hK K
  refine wpSq_call rfl (by kernel_rfl) fun K hK => ?_
  go_big_op
  go_fit (fq_any 0 1 _ (by decide) (by decide) (by decide) (by decide))
  rintro e w_123 ⟨_, rfl, ⟨n_n1mxa, o_n1mxa, k_n1mxa, c_n1mxa, n_n1mxb, o_n1mxb, k_n1mxb, c_n1mxb, rfl, n1mx1, n1mx2⟩, hb_123⟩
  clear n10x1 n10x2
  replace hb := hb.trans (hb_123.mono hb.size)
  have Ln1mx1 := hide (n1mx1.lenOf (zlen_i 0 (by decide) (by decide)))
  have Ln1mx2 := hide (n1mx2.lenOf (zlen_i 1 (by decide) (by decide)))
  refine hK _ _ rfl ?_
  clear hK K hb_123
  refine wpSq_call rfl (by kernel_rfl) fun K hK => ?_
  go_big_op
  go_fit (parsed_1m (.mk' n1mx1 n1mx2))
  rintro e w_124 ⟨rfl, hb_124⟩
  replace n1mx1 := n1mx1.bl hb_124; replace n1mx2 := n1mx2.bl hb_124; replace hb := hb.trans (hb_124.mono hb.size)
  refine hK _ _ rfl ?_
  clear hK K hb_124
  refine wpSq_call rfl (by kernel_rfl) fun K hK => ?_
  go_big_op; refine hK _ _ rfl ?_; clear hK K
  refine wpSq_call rfl (by kernel_rfl) fun K hK => ?_
  go_big_move; refine hK _ _ rfl ?_; clear hK K
  refine wpSq_call rfl (by kernel_rfl) fun K hK => ?_
  go_big_op
  go_fit (fq_any 0 1 _ (by decide) (by decide) (by decide) (by decide))
  rintro e w_125 ⟨_, rfl, ⟨n_n1exa, o_n1exa, k_n1exa, c_n1exa, n_n1exb, o_n1exb, k_n1exb, c_n1exb, rfl, n1ex1, n1ex2⟩, hb_125⟩
  clear n1mx1 n1mx2
  replace hb := hb.trans (hb_125.mono hb.size)
  have Ln1ex1 := hide (n1ex1.lenOf (zlen_i 0 (by decide) (by decide)))
  have Ln1ex2 := hide (n1ex2.lenOf (zlen_i 1 (by decide) (by decide)))
  refine hK _ _ rfl ?_
  clear hK K hb_125
  refine wpSq_call rfl (by kernel_rfl) fun K hK => ?_
  go_big_op
  go_fit (parsed_1e (.mk' n1ex1 n1ex2))
  rintro e w_126 ⟨rfl, hb_126⟩
  replace n1ex1 := n1ex1.bl hb_126; replace n1ex2 := n1ex2.bl hb_126; replace hb := hb.trans (hb_126.mono hb.size)
  refine hK _ _ rfl ?_
  clear hK K hb_126
  refine wpSq_call rfl (by kernel_rfl) fun K hK => ?_
  go_big_op; refine hK _ _ rfl ?_; clear hK K
  refine wpSq_call rfl (by kernel_rfl) fun K hK => ?_
  go_big_move; refine hK _ _ rfl ?_; clear hK K
  refine wpSq_call rfl (by kernel_rfl) fun K hK => ?_
  go_big_op
  go_fit (fq_any 0 1 _ (by decide) (by decide) (by decide) (by decide))
  rintro e w_127 ⟨_, rfl, ⟨n_nm0xa, o_nm0xa, k_nm0xa, c_nm0xa, n_nm0xb, o_nm0xb, k_nm0xb, c_nm0xb, rfl, nm0x1, nm0x2⟩, hb_127⟩
  clear n1ex1 n1ex2
  replace hb := hb.trans (hb_127.mono hb.size)
  have Lnm0x1 := hide (nm0x1.lenOf (zlen_i 0 (by decide) (by decide)))
  have Lnm0x2 := hide (nm0x2.lenOf (zlen_i 1 (by decide) (by decide)))
  refine hK _ _ rfl ?_
  clear hK K hb_127
  refine wpSq_call rfl (by kernel_rfl) fun K hK => ?_
  go_big_op
  go_fit (parsed_m0 (.mk' nm0x1 nm0x2))
  rintro e w_128 ⟨rfl, hb_128⟩
  replace nm0x1 := nm0x1.bl hb_128; replace nm0x2 := nm0x2.bl hb_128; replace hb := hb.trans (hb_128.mono hb.size)
  refine hK _ _ rfl ?_
  clear hK K hb_128
  refine wpSq_call rfl (by kernel_rfl) fun K hK => ?_
  go_big_op; refine hK _ _ rfl ?_; clear hK K
  refine wpSq_call rfl (by kernel_rfl) fun K hK => ?_
  go_big_move; refine hK _ _ rfl ?_; clear hK K
  apply wpSq_end
  refine hK29 _ _ ?_
  refine wp_ret ?_
  try dsimp only [Exit.then, Exit.inBlock]
  refine bodyPost_ret (v := (.bool true)) (by simp [results, Tryz.results3, go_sem]) rfl ?_
  exact ⟨rfl, hb⟩
end
end Go.Proofs.YtkgbfnmlpajblaaGreatDoor

