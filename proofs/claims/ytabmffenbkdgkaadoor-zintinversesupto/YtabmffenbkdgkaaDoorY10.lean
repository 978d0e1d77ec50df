/- zint's reference: Xgcd by a number that is not 0. -/
import Derived.Test.YtabmffenbkdgkaaDoorY9
namespace Go.Proofs.YtabmffenbkdgkaaDoor
open Go.RowKit Dig

theorem FF.flip {x y G k X Y : Int} (h : FF (-x) y G k X Y) : FF x y G k (-X) (-Y) := by
  obtain ⟨k0, kG, Gy, hg, d1, d2, a, b, ha, hb, hay, hby, hs, hXY⟩ := h
  refine ⟨k0, kG, Gy, by rw [hg, Int.neg_gcd], ?_, ?_, a, b, ha, hb, hay, hby, hs, ?_⟩
  · rw [Int.mul_neg, ← Int.neg_mul]; exact d1
  · rw [Int.mul_neg, ← Int.neg_mul]; exact d2
  · rcases hXY with ⟨rfl, rfl⟩ | ⟨rfl, rfl⟩
    · right; exact ⟨by omega, rfl⟩
    · left; exact ⟨rfl, by omega⟩

/-- How far the reference's search has come. -/
def FR (x y r s X U : Int) : Prop := (r = x ∧ s = y ∧ X = 1 ∧ U = 0) ∨ (0 < y ∧ FF x y r s X U) ∨ (y < 0 ∧ FF x (-y) (-r) (-s) (-X) (-U))

theorem neg_floor (x y : Int) (h0 : y ≠ 0) : (-x).fdiv (-y) = x.fdiv y ∧ (-x).fmod (-y) = -(x.fmod y) := by
  have he := fmod_eq x y
  obtain ⟨b1, b2⟩ := fmod_bd (x := x) h0
  refine floor_is ?_ ?_ ?_ (by omega)
  · rw [Int.mul_neg]; omega
  · intro h; have := b2 (by omega); omega
  · intro h; have := b1 (by omega); omega

theorem FR.step {x y r s X U : Int} (hy : y ≠ 0) (h : FR x y r s X U) (hs : s ≠ 0) : FR x y s (r.fmod s) U (X - r.fdiv s * U) := by
  rcases h with ⟨rfl, rfl, rfl, rfl⟩ | ⟨h0, h⟩ | ⟨h0, h⟩
  · rw [Int.mul_zero, Int.sub_zero]
    rcases Int.lt_or_gt_of_ne hy with h | h
    · right; right
      refine ⟨h, ?_⟩
      have h2 := (FF.start (x := -r) (y := -s) (by omega)).flip
      rw [(neg_floor r s hs).2] at h2
      exact h2
    · right; left; exact ⟨h, FF.start h⟩
  · right; left
    exact ⟨h0, h.step (by have := h.k0; omega)⟩
  · right; right
    have h2 := h.step (by have := h.k0; omega)
    rw [(neg_floor r s hs).1, (neg_floor r s hs).2] at h2
    refine ⟨h0, ?_⟩
    have e : -(X - r.fdiv s * U) = -X - r.fdiv s * -U := by rw [Int.mul_neg]; omega
    rw [e]; exact h2

theorem FR.bd {x y r s X U : Int} (hy : y ≠ 0) (h : FR x y r s X U) : (r.natAbs ≤ x.natAbs ∨ r.natAbs ≤ y.natAbs) ∧ s.natAbs ≤ y.natAbs ∧ X.natAbs ≤ y.natAbs ∧ U.natAbs ≤ y.natAbs := by
  rcases h with ⟨rfl, rfl, rfl, rfl⟩ | ⟨h0, h⟩ | ⟨h0, h⟩
  · refine ⟨.inl (Nat.le_refl _), Nat.le_refl _, ?_, ?_⟩ <;> omega
  · obtain ⟨b1, b2, b3, b4⟩ := h.bd
    exact ⟨.inr b3, b4, b1, b2⟩
  · obtain ⟨b1, b2, b3, b4⟩ := h.bd
    simp only [Int.natAbs_neg] at b1 b2 b3 b4
    exact ⟨.inr b3, b4, b1, b2⟩

/-- At the end: the divisor, with the sign of y, and how often x is in it. -/
theorem FR.done {x y r X U : Int} (hy : y ≠ 0) (h : FR x y r 0 X U) : (0 < r ∧ y ∣ (Int.gcd x y : Int) - x * X) ∨ (r < 0 ∧ y ∣ (Int.gcd x y : Int) - x * -X) := by
  rcases h with ⟨rfl, e, rfl, rfl⟩ | ⟨h0, h⟩ | ⟨h0, h⟩
  · exact absurd e.symm hy
  · left
    have h1 := h.gcd
    have h2 := h.kG
    have h3 := h.d1
    have e1 : r.natAbs = Int.gcd x y := by rw [← h1]; exact (Int.gcd_zero_right r).symm
    refine ⟨h2, ?_⟩
    rw [← e1, show ((r.natAbs : Nat) : Int) = r by omega]
    exact h3
  · right
    have h1 := h.gcd
    have h2 := h.kG
    have h3 := h.d1
    have e1 : r.natAbs = Int.gcd x y := by
      simp only [Int.neg_zero, Int.gcd_neg, Int.gcd_zero_right] at h1
      rw [Int.natAbs_neg] at h1
      exact h1
    refine ⟨by omega, ?_⟩
    rw [← e1, show ((r.natAbs : Nat) : Int) = -r by omega]
    exact Int.neg_dvd.1 h3

/-- What the loop of the reference's Xgcd keeps. -/
def FRrel (w : World) (A2 A3 A4 A5 A6 A7 A8 A9 A10 A11 : Nat) (va vb vg : Bool × Value) (x y : Int) (l m : Nat) (k : Nat) (wr : World) : Prop :=
  ∃ (r s X U : Int) (s8 s9 s10 s11 : Bool) (o8 o9 o10 o11 : Option Addr) (n8 n9 n10 n11 c8 c9 c10 c11 : Nat), FR x y r s X U ∧ s.natAbs = k ∧ Below w.heap.size w wr ∧
    Bk wr A2 va.1 va.2 ∧ Bk wr A3 vb.1 vb.2 ∧ Bk wr A4 false (.slice none 0 0) ∧ Bk wr A5 false (.slice none 0 0) ∧ Bk wr A6 false (.slice none 0 0) ∧ Bk wr A7 vg.1 vg.2 ∧
    ZN wr (.agg #[.bool va.1, va.2]) x l ∧ ZN wr (.agg #[.bool vb.1, vb.2]) y m ∧ ZC wr (.agg #[.bool vg.1, vg.2]) (Int.gcd x y) ∧
    Bk wr A8 s8 (.slice o8 n8 c8) ∧ Bk wr A9 s9 (.slice o9 n9 c9) ∧ Bk wr A10 s10 (.slice o10 n10 c10) ∧ Bk wr A11 s11 (.slice o11 n11 c11) ∧
    ZN wr (.agg #[.bool s8, .slice o8 n8 c8]) r (l + m) ∧ ZN wr (.agg #[.bool s9, .slice o9 n9 c9]) s m ∧ ZC wr (.agg #[.bool s10, .slice o10 n10 c10]) X ∧ ZC wr (.agg #[.bool s11, .slice o11 n11 c11]) U

set_option maxHeartbeats 8000000 in
set_option maxRecDepth 20000 in
/-- tesselref2.Xgcd by a number that is not 0. -/
theorem rxgcd_any {w : World} {va vb : Value} {x y : Int} {l m : Nat} (ha : ZN w va x l) (hb' : ZN w vb y m) (hl : l ≤ 4000000) (hm : m ≤ 4000000) (h0 : y ≠ 0) :
    Calls Tryd.prog 49 #[va, vb] w fun e w' => ∃ v1 v2 v3, e = .returned (.tuple #[v1, v2, v3]) ∧ (∃ c : Int, XG x y c ∧ ZC w' v1 (Int.gcd x y) ∧ ZC w' v2 c ∧ ZC w' v3 (((Int.gcd x y : Int) - x * c).fdiv y)) ∧ Below w.heap.size w w' := by
  have Lx := hide ha.len
  have Ly := hb'.len
  have LY := hide Ly
  have LA := hide (show (dig ((y.natAbs : Int)).natAbs).length ≤ m from Ly)
  have LG := hide (show (dig ((Int.gcd x y : Int)).natAbs).length ≤ m from len_le (gcd_le h0) Ly)
  have HG0 := hide (show (Int.gcd x y : Int) ≠ 0 by have := gcd_pos (x := x) h0; omega)
  have LP := hide (fdiv_len HG0.out LA.out)
  have HPP := hide (show ((y.natAbs : Int)).fdiv (Int.gcd x y) ≠ 0 by have := period_pos (x := x) h0; omega)
  obtain ⟨S, hS⟩ : ∃ S, y.sign = S := ⟨_, rfl⟩
  have hS0 : (S == 0) = false := by rw [beq_eq_false_iff_ne, ← hS]; exact fun h => h0 (Int.sign_eq_zero_iff_zero.1 h)
  have HS := hide hS
  have H0 := hide h0
  obtain ⟨N, hN⟩ : ∃ N : Nat, y.natAbs = N := ⟨_, rfl⟩
  have HN := hide hN
  clear h0 hS Ly hN
  obtain ⟨na, oa, ca, xs, rfl, hca, _, _, hxl⟩ := ha.open_
  obtain ⟨nb, ob, cb, ys, rfl, hcb, _, _, hyl⟩ := hb'.open_
  go_enter Tryd.func49, Tryd.ntmps49
  have hb := Below.refl w.heap.size w
  have hp := Bk.new w na (.slice oa xs.length ca)
  replace ha := ha.alloc (.cells #[.bool na, (.slice oa xs.length ca)] 24)
  replace hb' := hb'.alloc (.cells #[.bool na, (.slice oa xs.length ca)] 24)
  replace hb := hb.alloc hb.size (.cells #[.bool na, (.slice oa xs.length ca)] 24)
  have hq := Bk.new (w.alloc (.cells #[.bool na, (.slice oa xs.length ca)] 24)) nb (.slice ob ys.length cb)
  simp only [Bk.size_alloc] at hq
  replace ha := ha.alloc (.cells #[.bool nb, (.slice ob ys.length cb)] 24)
  replace hb' := hb'.alloc (.cells #[.bool nb, (.slice ob ys.length cb)] 24)
  replace hp := hp.alloc (.cells #[.bool nb, (.slice ob ys.length cb)] 24)
  replace hb := hb.alloc hb.size (.cells #[.bool nb, (.slice ob ys.length cb)] 24)
  have hz1 := Bk.new ((w.alloc (.cells #[.bool na, (.slice oa xs.length ca)] 24)).alloc (.cells #[.bool nb, (.slice ob ys.length cb)] 24)) false (.slice none 0 0)
  simp only [Bk.size_alloc] at hz1
  replace ha := ha.alloc (.cells #[.bool false, (.slice none 0 0)] 24)
  replace hb' := hb'.alloc (.cells #[.bool false, (.slice none 0 0)] 24)
  replace hp := hp.alloc (.cells #[.bool false, (.slice none 0 0)] 24)
  replace hq := hq.alloc (.cells #[.bool false, (.slice none 0 0)] 24)
  replace hb := hb.alloc hb.size (.cells #[.bool false, (.slice none 0 0)] 24)
  have hz2 := Bk.new (((w.alloc (.cells #[.bool na, (.slice oa xs.length ca)] 24)).alloc (.cells #[.bool nb, (.slice ob ys.length cb)] 24)).alloc (.cells #[.bool false, (.slice none 0 0)] 24)) false (.slice none 0 0)
  simp only [Bk.size_alloc] at hz2
  replace ha := ha.alloc (.cells #[.bool false, (.slice none 0 0)] 24)
  replace hb' := hb'.alloc (.cells #[.bool false, (.slice none 0 0)] 24)
  replace hp := hp.alloc (.cells #[.bool false, (.slice none 0 0)] 24)
  replace hq := hq.alloc (.cells #[.bool false, (.slice none 0 0)] 24)
  replace hz1 := hz1.alloc (.cells #[.bool false, (.slice none 0 0)] 24)
  replace hb := hb.alloc hb.size (.cells #[.bool false, (.slice none 0 0)] 24)
  have hz3 := Bk.new ((((w.alloc (.cells #[.bool na, (.slice oa xs.length ca)] 24)).alloc (.cells #[.bool nb, (.slice ob ys.length cb)] 24)).alloc (.cells #[.bool false, (.slice none 0 0)] 24)).alloc (.cells #[.bool false, (.slice none 0 0)] 24)) false (.slice none 0 0)
  simp only [Bk.size_alloc] at hz3
  replace ha := ha.alloc (.cells #[.bool false, (.slice none 0 0)] 24)
  replace hb' := hb'.alloc (.cells #[.bool false, (.slice none 0 0)] 24)
  replace hp := hp.alloc (.cells #[.bool false, (.slice none 0 0)] 24)
  replace hq := hq.alloc (.cells #[.bool false, (.slice none 0 0)] 24)
  replace hz1 := hz1.alloc (.cells #[.bool false, (.slice none 0 0)] 24)
  replace hz2 := hz2.alloc (.cells #[.bool false, (.slice none 0 0)] 24)
  replace hb := hb.alloc hb.size (.cells #[.bool false, (.slice none 0 0)] 24)
  have f_hp := hp.facts
  have f_hq := hq.facts
  go_wp2_with fail
  refine (rzgcd_any ha hb' (by omega) (by omega)).mono ?_
  rintro e w_1 ⟨v1, rfl, g1, hb_1⟩
  replace ha := ha.below hb_1 (Nat.le_refl _)
  replace hb' := hb'.below hb_1 (Nat.le_refl _)
  replace hp := hp.below hb_1 (Nat.le_refl _)
  replace hq := hq.below hb_1 (Nat.le_refl _)
  replace hz1 := hz1.below hb_1 (Nat.le_refl _)
  replace hz2 := hz2.below hb_1 (Nat.le_refl _)
  replace hz3 := hz3.below hb_1 (Nat.le_refl _)
  replace hb := hb.trans (hb_1.mono hb.size)
  clear hb_1
  clear f_hp f_hq
  have kb_h7 := hb.size
  have ne_hp_h7 : w.heap.size ≠ w_1.heap.size := by have := hp.lt; (try simp only [Bk.size_alloc] at this); omega
  have ne_hq_h7 : w.heap.size + 1 ≠ w_1.heap.size := by have := hq.lt; (try simp only [Bk.size_alloc] at this); omega
  have ne_hz1_h7 : w.heap.size + 1 + 1 ≠ w_1.heap.size := by have := hz1.lt; (try simp only [Bk.size_alloc] at this); omega
  have ne_hz2_h7 : w.heap.size + 1 + 1 + 1 ≠ w_1.heap.size := by have := hz2.lt; (try simp only [Bk.size_alloc] at this); omega
  have ne_hz3_h7 : w.heap.size + 1 + 1 + 1 + 1 ≠ w_1.heap.size := by have := hz3.lt; (try simp only [Bk.size_alloc] at this); omega
  have h7 := Bk.new w_1 false (.slice none 0 0)
  replace ha := ha.alloc (.cells #[.bool false, (.slice none 0 0)] 24)
  replace hb' := hb'.alloc (.cells #[.bool false, (.slice none 0 0)] 24)
  replace hp := hp.alloc (.cells #[.bool false, (.slice none 0 0)] 24)
  replace hq := hq.alloc (.cells #[.bool false, (.slice none 0 0)] 24)
  replace hz1 := hz1.alloc (.cells #[.bool false, (.slice none 0 0)] 24)
  replace hz2 := hz2.alloc (.cells #[.bool false, (.slice none 0 0)] 24)
  replace hz3 := hz3.alloc (.cells #[.bool false, (.slice none 0 0)] 24)
  replace g1 := g1.alloc (.cells #[.bool false, (.slice none 0 0)] 24)
  replace hb := hb.alloc hb.size (.cells #[.bool false, (.slice none 0 0)] 24)
  obtain ⟨w_2, hw_2⟩ : ∃ v, (w_1.alloc (.cells #[.bool false, (.slice none 0 0)] 24)) = v := ⟨_, rfl⟩
  rw [hw_2] at ha hb' hp hq hz1 hz2 hz3 g1 h7 hb
  obtain ⟨sb_h7, o_h7, n_h7, c_h7, rfl⟩ := g1.open2
  have f_h7 := h7.facts
  have ho := Bk.only w_2 (w_1.heap.size) sb_h7 (.slice o_h7 n_h7 c_h7)
  have hbx_ := h7.bx
  replace ha := ha.frame hbx_ ho
  replace hb' := hb'.frame hbx_ ho
  replace hp := hp.frame ho (by first | assumption | (apply Ne.symm; assumption) | (simp; done) | omega)
  replace hq := hq.frame ho (by first | assumption | (apply Ne.symm; assumption) | (simp; done) | omega)
  replace hz1 := hz1.frame ho (by first | assumption | (apply Ne.symm; assumption) | (simp; done) | omega)
  replace hz2 := hz2.frame ho (by first | assumption | (apply Ne.symm; assumption) | (simp; done) | omega)
  replace hz3 := hz3.frame ho (by first | assumption | (apply Ne.symm; assumption) | (simp; done) | omega)
  replace g1 := g1.frame hbx_ ho
  replace h7 := h7.store sb_h7 (.slice o_h7 n_h7 c_h7)
  replace hb := (hb.setCell (p := ⟨w_1.heap.size, 0, none⟩) (show w.heap.size ≤ w_1.heap.size by first | assumption | (simp; done) | omega) (.bool sb_h7)).setCell (p := ⟨w_1.heap.size, 1, none⟩) (show w.heap.size ≤ w_1.heap.size by first | assumption | (simp; done) | omega) (.slice o_h7 n_h7 c_h7)
  clear ho hbx_
  obtain ⟨w_3, hw_3⟩ : ∃ v, ((w_2.setCell ⟨w_1.heap.size, 0, none⟩ (.bool sb_h7)).setCell ⟨w_1.heap.size, 1, none⟩ (.slice o_h7 n_h7 c_h7)) = v := ⟨_, rfl⟩
  rw [hw_3] at ha hb' hp hq hz1 hz2 hz3 g1 h7 hb
  have f_hq := hq.facts
  go_wp2_with fail
  refine (rzsign_any hb' (by omega)).mono ?_
  rintro e w_4 ⟨rfl, hb_4⟩
  replace ha := ha.below hb_4 (Nat.le_refl _)
  replace hb' := hb'.below hb_4 (Nat.le_refl _)
  replace hp := hp.below hb_4 (Nat.le_refl _)
  replace hq := hq.below hb_4 (Nat.le_refl _)
  replace hz1 := hz1.below hb_4 (Nat.le_refl _)
  replace hz2 := hz2.below hb_4 (Nat.le_refl _)
  replace hz3 := hz3.below hb_4 (Nat.le_refl _)
  replace g1 := g1.below hb_4 (Nat.le_refl _)
  replace h7 := h7.below hb_4 (Nat.le_refl _)
  replace hb := hb.trans (hb_4.mono hb.size)
  clear hb_4
  rw [HS.out]
  clear f_hq f_h7
  replace ha := ha.drew
  replace hb' := hb'.drew
  replace hp := hp.drew
  replace hq := hq.drew
  replace hz1 := hz1.drew
  replace hz2 := hz2.drew
  replace hz3 := hz3.drew
  replace g1 := g1.drew
  replace h7 := h7.drew
  replace hb := hb.drew
  have lt_hp := hp.lt
  have lt_hq := hq.lt
  have lt_hz1 := hz1.lt
  have lt_hz2 := hz2.lt
  have lt_hz3 := hz3.lt
  have lt_h7 := h7.lt
  have kb0 := hb.size
  go_wp2_with fail
  refine wp_region_fl [(0, false), (1, false)] [4, 5] [2, 3] (fun _ => obZ) [0, 1, 99, 99, 99, 99] [] (fun w' => w'.cell? ⟨w.heap.size, 0, none⟩ = some (.bool na) ∧ w'.cell? ⟨w.heap.size, 1, none⟩ = some (.slice oa xs.length ca) ∧ w'.cell? ⟨w.heap.size + 1, 0, none⟩ = some (.bool nb) ∧ w'.cell? ⟨w.heap.size + 1, 1, none⟩ = some (.slice ob ys.length cb)) [fun w' => w'.cell? ⟨w.heap.size, 0, none⟩ = some (.bool na) ∧ w'.cell? ⟨w.heap.size, 1, none⟩ = some (.slice oa xs.length ca), fun w' => w'.cell? ⟨w.heap.size + 1, 0, none⟩ = some (.bool nb) ∧ w'.cell? ⟨w.heap.size + 1, 1, none⟩ = some (.slice ob ys.length cb)] (by kernel_rfl) (by kernel_rfl) (by kernel_rfl) (by kernel_rfl) (by kernel_rfl) (by kernel_rfl) (by kernel_rfl) (by kernel_rfl) (by decide) (by intro j hj; simp only [List.mem_cons, List.not_mem_nil, or_false] at hj; rcases hj with rfl | rfl; all_goals exact ⟨_, rfl, rfl, fun ρ w => run_alloc_z w⟩) (by intro w' o hC; obtain ⟨c0, c1, c2, c3⟩ := hC; exact ⟨cell_alloc c0 o, cell_alloc c1 o, cell_alloc c2 o, cell_alloc c3 o⟩) (by intro w' hC G hG; obtain ⟨c0, c1, c2, c3⟩ := hC; simp only [List.mem_cons, List.not_mem_nil, or_false] at hG; rcases hG with rfl | rfl <;> first | exact ⟨c0, c1⟩ | exact ⟨c2, c3⟩) ⟨hp.facts.1, hp.facts.2.1, hq.facts.1, hq.facts.2.1⟩ ?_
  apply wpFl_ld
  case hG => rfl
  case hi => rfl
  case h1 => intro w' hC K hK; obtain ⟨c0, c1⟩ := hC; (first | go_big_move | go_big_op); exact hK
  case hw => kernel_rfl
  case hv => kernel_rfl
  case hb => kernel_rfl
  case hp => kernel_rfl
  apply wpFl_ld
  case hG => rfl
  case hi => rfl
  case h1 => intro w' hC K hK; obtain ⟨c0, c1⟩ := hC; (first | go_big_move | go_big_op); exact hK
  case hw => kernel_rfl
  case hv => kernel_rfl
  case hb => kernel_rfl
  case hp => kernel_rfl
  apply wpFl_end
  case ha => intro pt; simp only [putF, nthO, Act.put, ptr, List.setIfInBounds_toArray, List.set_cons_succ, List.set_cons_zero]; rfl
  case h =>
  intro w_5 pt hn hC hF hD
  clear hC
  replace ha := ha.below hn (Nat.le_refl _)
  replace hb' := hb'.below hn (Nat.le_refl _)
  replace hp := hp.below hn (Nat.le_refl _)
  replace hq := hq.below hn (Nat.le_refl _)
  replace hz1 := hz1.below hn (Nat.le_refl _)
  replace hz2 := hz2.below hn (Nat.le_refl _)
  replace hz3 := hz3.below hn (Nat.le_refl _)
  replace g1 := g1.below hn (Nat.le_refl _)
  replace h7 := h7.below hn (Nat.le_refl _)
  replace hb := hb.trans (hn.mono hb.size)
  clear hn
  obtain ⟨kB_h8, h8⟩ := hF 2 (by decide)
  replace h8 := obZ_bk h8
  obtain ⟨kB_h9, h9⟩ := hF 3 (by decide)
  replace h9 := obZ_bk h9
  have ne_h8_h9 := hD 2 (by decide) 3 (by decide) (by decide)
  clear hF hD
  generalize pt 2 = p_h8 at *
  generalize pt 3 = p_h9 at *
  clear pt
  have kb_h8 := Nat.le_trans kb0 kB_h8
  have ne_hp_h8 : w.heap.size ≠ p_h8 := Nat.ne_of_lt (Nat.lt_of_lt_of_le lt_hp kB_h8)
  have ne_hq_h8 : w.heap.size + 1 ≠ p_h8 := Nat.ne_of_lt (Nat.lt_of_lt_of_le lt_hq kB_h8)
  have ne_hz1_h8 : w.heap.size + 1 + 1 ≠ p_h8 := Nat.ne_of_lt (Nat.lt_of_lt_of_le lt_hz1 kB_h8)
  have ne_hz2_h8 : w.heap.size + 1 + 1 + 1 ≠ p_h8 := Nat.ne_of_lt (Nat.lt_of_lt_of_le lt_hz2 kB_h8)
  have ne_hz3_h8 : w.heap.size + 1 + 1 + 1 + 1 ≠ p_h8 := Nat.ne_of_lt (Nat.lt_of_lt_of_le lt_hz3 kB_h8)
  have ne_h7_h8 : w_1.heap.size ≠ p_h8 := Nat.ne_of_lt (Nat.lt_of_lt_of_le lt_h7 kB_h8)
  clear kB_h8
  have kb_h9 := Nat.le_trans kb0 kB_h9
  have ne_hp_h9 : w.heap.size ≠ p_h9 := Nat.ne_of_lt (Nat.lt_of_lt_of_le lt_hp kB_h9)
  have ne_hq_h9 : w.heap.size + 1 ≠ p_h9 := Nat.ne_of_lt (Nat.lt_of_lt_of_le lt_hq kB_h9)
  have ne_hz1_h9 : w.heap.size + 1 + 1 ≠ p_h9 := Nat.ne_of_lt (Nat.lt_of_lt_of_le lt_hz1 kB_h9)
  have ne_hz2_h9 : w.heap.size + 1 + 1 + 1 ≠ p_h9 := Nat.ne_of_lt (Nat.lt_of_lt_of_le lt_hz2 kB_h9)
  have ne_hz3_h9 : w.heap.size + 1 + 1 + 1 + 1 ≠ p_h9 := Nat.ne_of_lt (Nat.lt_of_lt_of_le lt_hz3 kB_h9)
  have ne_h7_h9 : w_1.heap.size ≠ p_h9 := Nat.ne_of_lt (Nat.lt_of_lt_of_le lt_h7 kB_h9)
  clear kB_h9
  clear lt_hp
  clear lt_hq
  clear lt_hz1
  clear lt_hz2
  clear lt_hz3
  clear lt_h7
  clear kb0
  apply wpTail_call
  case hi => rfl
  case hw => kernel_rfl
  case h =>
  intro K hK
  have c9_ := h8.facts
  go_big_op
  have ho := Bk.only w_5 (p_h8) na (.slice oa xs.length ca)
  have hbx_ := h8.bx
  replace ha := ha.frame hbx_ ho
  replace hb' := hb'.frame hbx_ ho
  replace hp := hp.frame ho (by first | assumption | (apply Ne.symm; assumption) | (simp; done) | omega)
  replace hq := hq.frame ho (by first | assumption | (apply Ne.symm; assumption) | (simp; done) | omega)
  replace hz1 := hz1.frame ho (by first | assumption | (apply Ne.symm; assumption) | (simp; done) | omega)
  replace hz2 := hz2.frame ho (by first | assumption | (apply Ne.symm; assumption) | (simp; done) | omega)
  replace hz3 := hz3.frame ho (by first | assumption | (apply Ne.symm; assumption) | (simp; done) | omega)
  replace g1 := g1.frame hbx_ ho
  replace h7 := h7.frame ho (by first | assumption | (apply Ne.symm; assumption) | (simp; done) | omega)
  replace h9 := h9.frame ho (by first | assumption | (apply Ne.symm; assumption) | (simp; done) | omega)
  replace h8 := h8.store na (.slice oa xs.length ca)
  replace hb := (hb.setCell (p := ⟨p_h8, 0, none⟩) (show w.heap.size ≤ p_h8 by first | assumption | (simp; done) | omega) (.bool na)).setCell (p := ⟨p_h8, 1, none⟩) (show w.heap.size ≤ p_h8 by first | assumption | (simp; done) | omega) (.slice oa xs.length ca)
  refine hK _ _ rfl (And.intro (And.intro hp.facts.1 hp.facts.2.1) (And.intro (And.intro hq.facts.1 hq.facts.2.1) True.intro)) ?_
  clear hK K hbx_ ho c9_
  apply wpTail_call
  case hi => rfl
  case hw => kernel_rfl
  case h =>
  intro K hK
  have c9_ := h9.facts
  go_big_op
  have ho := Bk.only ((w_5.setCell ⟨p_h8, 0, none⟩ (.bool na)).setCell ⟨p_h8, 1, none⟩ (.slice oa xs.length ca)) (p_h9) nb (.slice ob ys.length cb)
  have hbx_ := h9.bx
  replace ha := ha.frame hbx_ ho
  replace hb' := hb'.frame hbx_ ho
  replace hp := hp.frame ho (by first | assumption | (apply Ne.symm; assumption) | (simp; done) | omega)
  replace hq := hq.frame ho (by first | assumption | (apply Ne.symm; assumption) | (simp; done) | omega)
  replace hz1 := hz1.frame ho (by first | assumption | (apply Ne.symm; assumption) | (simp; done) | omega)
  replace hz2 := hz2.frame ho (by first | assumption | (apply Ne.symm; assumption) | (simp; done) | omega)
  replace hz3 := hz3.frame ho (by first | assumption | (apply Ne.symm; assumption) | (simp; done) | omega)
  replace g1 := g1.frame hbx_ ho
  replace h7 := h7.frame ho (by first | assumption | (apply Ne.symm; assumption) | (simp; done) | omega)
  replace h8 := h8.frame ho (by first | assumption | (apply Ne.symm; assumption) | (simp; done) | omega)
  replace h9 := h9.store nb (.slice ob ys.length cb)
  replace hb := (hb.setCell (p := ⟨p_h9, 0, none⟩) (show w.heap.size ≤ p_h9 by first | assumption | (simp; done) | omega) (.bool nb)).setCell (p := ⟨p_h9, 1, none⟩) (show w.heap.size ≤ p_h9 by first | assumption | (simp; done) | omega) (.slice ob ys.length cb)
  refine hK _ _ rfl (And.intro (And.intro hp.facts.1 hp.facts.2.1) (And.intro (And.intro hq.facts.1 hq.facts.2.1) True.intro)) ?_
  clear hK K hbx_ ho c9_
  apply wpTail_end
  go_wp2_with fail
  refine (ri_any 1 _ (by decide) (by decide)).mono ?_
  rintro e w_6 ⟨v2, rfl, g2, hb_6⟩
  replace ha := ha.below hb_6 (Nat.le_refl _)
  replace hb' := hb'.below hb_6 (Nat.le_refl _)
  replace hp := hp.below hb_6 (Nat.le_refl _)
  replace hq := hq.below hb_6 (Nat.le_refl _)
  replace hz1 := hz1.below hb_6 (Nat.le_refl _)
  replace hz2 := hz2.below hb_6 (Nat.le_refl _)
  replace hz3 := hz3.below hb_6 (Nat.le_refl _)
  replace g1 := g1.below hb_6 (Nat.le_refl _)
  replace h7 := h7.below hb_6 (Nat.le_refl _)
  replace h8 := h8.below hb_6 (Nat.le_refl _)
  replace h9 := h9.below hb_6 (Nat.le_refl _)
  replace hb := hb.trans (hb_6.mono hb.size)
  clear hb_6
  replace g2 := g2.rd
  go_wp2_with fail
  refine (ri_any 0 _ (by decide) (by decide)).mono ?_
  rintro e w_7 ⟨v3, rfl, g3, hb_7⟩
  replace ha := ha.below hb_7 (Nat.le_refl _)
  replace hb' := hb'.below hb_7 (Nat.le_refl _)
  replace hp := hp.below hb_7 (Nat.le_refl _)
  replace hq := hq.below hb_7 (Nat.le_refl _)
  replace hz1 := hz1.below hb_7 (Nat.le_refl _)
  replace hz2 := hz2.below hb_7 (Nat.le_refl _)
  replace hz3 := hz3.below hb_7 (Nat.le_refl _)
  replace g1 := g1.below hb_7 (Nat.le_refl _)
  replace h7 := h7.below hb_7 (Nat.le_refl _)
  replace h8 := h8.below hb_7 (Nat.le_refl _)
  replace h9 := h9.below hb_7 (Nat.le_refl _)
  replace g2 := g2.below hb_7 (Nat.le_refl _)
  replace hb := hb.trans (hb_7.mono hb.size)
  clear hb_7
  replace g3 := g3.rd
  have kb_h10 := hb.size
  have ne_hp_h10 : w.heap.size ≠ w_7.heap.size := by have := hp.lt; (try simp only [Bk.size_alloc] at this); omega
  have ne_hq_h10 : w.heap.size + 1 ≠ w_7.heap.size := by have := hq.lt; (try simp only [Bk.size_alloc] at this); omega
  have ne_hz1_h10 : w.heap.size + 1 + 1 ≠ w_7.heap.size := by have := hz1.lt; (try simp only [Bk.size_alloc] at this); omega
  have ne_hz2_h10 : w.heap.size + 1 + 1 + 1 ≠ w_7.heap.size := by have := hz2.lt; (try simp only [Bk.size_alloc] at this); omega
  have ne_hz3_h10 : w.heap.size + 1 + 1 + 1 + 1 ≠ w_7.heap.size := by have := hz3.lt; (try simp only [Bk.size_alloc] at this); omega
  have ne_h7_h10 : w_1.heap.size ≠ w_7.heap.size := by have := h7.lt; (try simp only [Bk.size_alloc] at this); omega
  have ne_h8_h10 : p_h8 ≠ w_7.heap.size := by have := h8.lt; (try simp only [Bk.size_alloc] at this); omega
  have ne_h9_h10 : p_h9 ≠ w_7.heap.size := by have := h9.lt; (try simp only [Bk.size_alloc] at this); omega
  have h10 := Bk.new w_7 false (.slice none 0 0)
  replace ha := ha.alloc (.cells #[.bool false, (.slice none 0 0)] 24)
  replace hb' := hb'.alloc (.cells #[.bool false, (.slice none 0 0)] 24)
  replace hp := hp.alloc (.cells #[.bool false, (.slice none 0 0)] 24)
  replace hq := hq.alloc (.cells #[.bool false, (.slice none 0 0)] 24)
  replace hz1 := hz1.alloc (.cells #[.bool false, (.slice none 0 0)] 24)
  replace hz2 := hz2.alloc (.cells #[.bool false, (.slice none 0 0)] 24)
  replace hz3 := hz3.alloc (.cells #[.bool false, (.slice none 0 0)] 24)
  replace g1 := g1.alloc (.cells #[.bool false, (.slice none 0 0)] 24)
  replace h7 := h7.alloc (.cells #[.bool false, (.slice none 0 0)] 24)
  replace h8 := h8.alloc (.cells #[.bool false, (.slice none 0 0)] 24)
  replace h9 := h9.alloc (.cells #[.bool false, (.slice none 0 0)] 24)
  replace g2 := g2.alloc (.cells #[.bool false, (.slice none 0 0)] 24)
  replace g3 := g3.alloc (.cells #[.bool false, (.slice none 0 0)] 24)
  replace hb := hb.alloc hb.size (.cells #[.bool false, (.slice none 0 0)] 24)
  obtain ⟨w_8, hw_8⟩ : ∃ v, (w_7.alloc (.cells #[.bool false, (.slice none 0 0)] 24)) = v := ⟨_, rfl⟩
  rw [hw_8] at ha hb' hp hq hz1 hz2 hz3 g1 h7 h8 h9 g2 g3 h10 hb
  have kb_h11 := hb.size
  have ne_hp_h11 : w.heap.size ≠ w_8.heap.size := by have := hp.lt; (try simp only [Bk.size_alloc] at this); omega
  have ne_hq_h11 : w.heap.size + 1 ≠ w_8.heap.size := by have := hq.lt; (try simp only [Bk.size_alloc] at this); omega
  have ne_hz1_h11 : w.heap.size + 1 + 1 ≠ w_8.heap.size := by have := hz1.lt; (try simp only [Bk.size_alloc] at this); omega
  have ne_hz2_h11 : w.heap.size + 1 + 1 + 1 ≠ w_8.heap.size := by have := hz2.lt; (try simp only [Bk.size_alloc] at this); omega
  have ne_hz3_h11 : w.heap.size + 1 + 1 + 1 + 1 ≠ w_8.heap.size := by have := hz3.lt; (try simp only [Bk.size_alloc] at this); omega
  have ne_h7_h11 : w_1.heap.size ≠ w_8.heap.size := by have := h7.lt; (try simp only [Bk.size_alloc] at this); omega
  have ne_h8_h11 : p_h8 ≠ w_8.heap.size := by have := h8.lt; (try simp only [Bk.size_alloc] at this); omega
  have ne_h9_h11 : p_h9 ≠ w_8.heap.size := by have := h9.lt; (try simp only [Bk.size_alloc] at this); omega
  have ne_h10_h11 : w_7.heap.size ≠ w_8.heap.size := by have := h10.lt; (try simp only [Bk.size_alloc] at this); omega
  have h11 := Bk.new w_8 false (.slice none 0 0)
  replace ha := ha.alloc (.cells #[.bool false, (.slice none 0 0)] 24)
  replace hb' := hb'.alloc (.cells #[.bool false, (.slice none 0 0)] 24)
  replace hp := hp.alloc (.cells #[.bool false, (.slice none 0 0)] 24)
  replace hq := hq.alloc (.cells #[.bool false, (.slice none 0 0)] 24)
  replace hz1 := hz1.alloc (.cells #[.bool false, (.slice none 0 0)] 24)
  replace hz2 := hz2.alloc (.cells #[.bool false, (.slice none 0 0)] 24)
  replace hz3 := hz3.alloc (.cells #[.bool false, (.slice none 0 0)] 24)
  replace g1 := g1.alloc (.cells #[.bool false, (.slice none 0 0)] 24)
  replace h7 := h7.alloc (.cells #[.bool false, (.slice none 0 0)] 24)
  replace h8 := h8.alloc (.cells #[.bool false, (.slice none 0 0)] 24)
  replace h9 := h9.alloc (.cells #[.bool false, (.slice none 0 0)] 24)
  replace g2 := g2.alloc (.cells #[.bool false, (.slice none 0 0)] 24)
  replace g3 := g3.alloc (.cells #[.bool false, (.slice none 0 0)] 24)
  replace h10 := h10.alloc (.cells #[.bool false, (.slice none 0 0)] 24)
  replace hb := hb.alloc hb.size (.cells #[.bool false, (.slice none 0 0)] 24)
  obtain ⟨w_9, hw_9⟩ : ∃ v, (w_8.alloc (.cells #[.bool false, (.slice none 0 0)] 24)) = v := ⟨_, rfl⟩
  rw [hw_9] at ha hb' hp hq hz1 hz2 hz3 g1 h7 h8 h9 g2 g3 h10 h11 hb
  obtain ⟨sb_h10, o_h10, n_h10, c_h10, rfl⟩ := g2.open2
  have f_h10 := h10.facts
  have ho := Bk.only w_9 (w_7.heap.size) sb_h10 (.slice o_h10 n_h10 c_h10)
  have hbx_ := h10.bx
  replace ha := ha.frame hbx_ ho
  replace hb' := hb'.frame hbx_ ho
  replace hp := hp.frame ho (by first | assumption | (apply Ne.symm; assumption) | (simp; done) | omega)
  replace hq := hq.frame ho (by first | assumption | (apply Ne.symm; assumption) | (simp; done) | omega)
  replace hz1 := hz1.frame ho (by first | assumption | (apply Ne.symm; assumption) | (simp; done) | omega)
  replace hz2 := hz2.frame ho (by first | assumption | (apply Ne.symm; assumption) | (simp; done) | omega)
  replace hz3 := hz3.frame ho (by first | assumption | (apply Ne.symm; assumption) | (simp; done) | omega)
  replace g1 := g1.frame hbx_ ho
  replace h7 := h7.frame ho (by first | assumption | (apply Ne.symm; assumption) | (simp; done) | omega)
  replace h8 := h8.frame ho (by first | assumption | (apply Ne.symm; assumption) | (simp; done) | omega)
  replace h9 := h9.frame ho (by first | assumption | (apply Ne.symm; assumption) | (simp; done) | omega)
  replace g2 := g2.frame hbx_ ho
  replace g3 := g3.frame hbx_ ho
  replace h11 := h11.frame ho (by first | assumption | (apply Ne.symm; assumption) | (simp; done) | omega)
  replace h10 := h10.store sb_h10 (.slice o_h10 n_h10 c_h10)
  replace hb := (hb.setCell (p := ⟨w_7.heap.size, 0, none⟩) (show w.heap.size ≤ w_7.heap.size by first | assumption | (simp; done) | omega) (.bool sb_h10)).setCell (p := ⟨w_7.heap.size, 1, none⟩) (show w.heap.size ≤ w_7.heap.size by first | assumption | (simp; done) | omega) (.slice o_h10 n_h10 c_h10)
  clear ho hbx_
  obtain ⟨w_10, hw_10⟩ : ∃ v, ((w_9.setCell ⟨w_7.heap.size, 0, none⟩ (.bool sb_h10)).setCell ⟨w_7.heap.size, 1, none⟩ (.slice o_h10 n_h10 c_h10)) = v := ⟨_, rfl⟩
  rw [hw_10] at ha hb' hp hq hz1 hz2 hz3 g1 h7 h8 h9 g2 g3 h10 h11 hb
  obtain ⟨sb_h11, o_h11, n_h11, c_h11, rfl⟩ := g3.open2
  have f_h11 := h11.facts
  have ho := Bk.only w_10 (w_8.heap.size) sb_h11 (.slice o_h11 n_h11 c_h11)
  have hbx_ := h11.bx
  replace ha := ha.frame hbx_ ho
  replace hb' := hb'.frame hbx_ ho
  replace hp := hp.frame ho (by first | assumption | (apply Ne.symm; assumption) | (simp; done) | omega)
  replace hq := hq.frame ho (by first | assumption | (apply Ne.symm; assumption) | (simp; done) | omega)
  replace hz1 := hz1.frame ho (by first | assumption | (apply Ne.symm; assumption) | (simp; done) | omega)
  replace hz2 := hz2.frame ho (by first | assumption | (apply Ne.symm; assumption) | (simp; done) | omega)
  replace hz3 := hz3.frame ho (by first | assumption | (apply Ne.symm; assumption) | (simp; done) | omega)
  replace g1 := g1.frame hbx_ ho
  replace h7 := h7.frame ho (by first | assumption | (apply Ne.symm; assumption) | (simp; done) | omega)
  replace h8 := h8.frame ho (by first | assumption | (apply Ne.symm; assumption) | (simp; done) | omega)
  replace h9 := h9.frame ho (by first | assumption | (apply Ne.symm; assumption) | (simp; done) | omega)
  replace g2 := g2.frame hbx_ ho
  replace g3 := g3.frame hbx_ ho
  replace h10 := h10.frame ho (by first | assumption | (apply Ne.symm; assumption) | (simp; done) | omega)
  replace h11 := h11.store sb_h11 (.slice o_h11 n_h11 c_h11)
  replace hb := (hb.setCell (p := ⟨w_8.heap.size, 0, none⟩) (show w.heap.size ≤ w_8.heap.size by first | assumption | (simp; done) | omega) (.bool sb_h11)).setCell (p := ⟨w_8.heap.size, 1, none⟩) (show w.heap.size ≤ w_8.heap.size by first | assumption | (simp; done) | omega) (.slice o_h11 n_h11 c_h11)
  clear ho hbx_
  obtain ⟨w_11, hw_11⟩ : ∃ v, ((w_10.setCell ⟨w_8.heap.size, 0, none⟩ (.bool sb_h11)).setCell ⟨w_8.heap.size, 1, none⟩ (.slice o_h11 n_h11 c_h11)) = v := ⟨_, rfl⟩
  rw [hw_11] at ha hb' hp hq hz1 hz2 hz3 g1 h7 h8 h9 g2 g3 h10 h11 hb
  go_wp2_with fail
  have NE := hide (And.intro (show (p_h8) ≠ (p_h9) by omega) (And.intro (show (p_h8) ≠ (w_7.heap.size) by omega) (And.intro (show (p_h8) ≠ (w_8.heap.size) by omega) (And.intro (show (p_h9) ≠ (w_7.heap.size) by omega) (And.intro (show (p_h9) ≠ (w_8.heap.size) by omega) (show (w_7.heap.size) ≠ (w_8.heap.size) by omega))))))
  have NB := hide (And.intro (show w.heap.size ≤ (p_h8) by omega) (And.intro (show w.heap.size ≤ (p_h9) by omega) (And.intro (show w.heap.size ≤ (w_7.heap.size) by omega) (show w.heap.size ≤ (w_8.heap.size) by omega))))
  have NEhp := hide (And.intro (show (w.heap.size) ≠ (p_h8) by omega) (And.intro (show (w.heap.size) ≠ (p_h9) by omega) (And.intro (show (w.heap.size) ≠ (w_7.heap.size) by omega) (show (w.heap.size) ≠ (w_8.heap.size) by omega))))
  have NEhq := hide (And.intro (show (w.heap.size + 1) ≠ (p_h8) by omega) (And.intro (show (w.heap.size + 1) ≠ (p_h9) by omega) (And.intro (show (w.heap.size + 1) ≠ (w_7.heap.size) by omega) (show (w.heap.size + 1) ≠ (w_8.heap.size) by omega))))
  have NEhz1 := hide (And.intro (show (w.heap.size + 1 + 1) ≠ (p_h8) by omega) (And.intro (show (w.heap.size + 1 + 1) ≠ (p_h9) by omega) (And.intro (show (w.heap.size + 1 + 1) ≠ (w_7.heap.size) by omega) (show (w.heap.size + 1 + 1) ≠ (w_8.heap.size) by omega))))
  have NEhz2 := hide (And.intro (show (w.heap.size + 1 + 1 + 1) ≠ (p_h8) by omega) (And.intro (show (w.heap.size + 1 + 1 + 1) ≠ (p_h9) by omega) (And.intro (show (w.heap.size + 1 + 1 + 1) ≠ (w_7.heap.size) by omega) (show (w.heap.size + 1 + 1 + 1) ≠ (w_8.heap.size) by omega))))
  have NEhz3 := hide (And.intro (show (w.heap.size + 1 + 1 + 1 + 1) ≠ (p_h8) by omega) (And.intro (show (w.heap.size + 1 + 1 + 1 + 1) ≠ (p_h9) by omega) (And.intro (show (w.heap.size + 1 + 1 + 1 + 1) ≠ (w_7.heap.size) by omega) (show (w.heap.size + 1 + 1 + 1 + 1) ≠ (w_8.heap.size) by omega))))
  have NEh7 := hide (And.intro (show (w_1.heap.size) ≠ (p_h8) by omega) (And.intro (show (w_1.heap.size) ≠ (p_h9) by omega) (And.intro (show (w_1.heap.size) ≠ (w_7.heap.size) by omega) (show (w_1.heap.size) ≠ (w_8.heap.size) by omega))))
  have NE7 := hide (And.intro (show (w.heap.size) ≠ (w_1.heap.size) by omega) (And.intro (show (w.heap.size + 1) ≠ (w_1.heap.size) by omega) (And.intro (show (w.heap.size + 1 + 1) ≠ (w_1.heap.size) by omega) (And.intro (show (w.heap.size + 1 + 1 + 1) ≠ (w_1.heap.size) by omega) (show (w.heap.size + 1 + 1 + 1 + 1) ≠ (w_1.heap.size) by omega)))))
  have hstart : FRrel w (w.heap.size) (w.heap.size + 1) (w.heap.size + 1 + 1) (w.heap.size + 1 + 1 + 1) (w.heap.size + 1 + 1 + 1 + 1) (w_1.heap.size) (p_h8) (p_h9) (w_7.heap.size) (w_8.heap.size) (na, .slice oa xs.length ca) (nb, .slice ob ys.length cb) (sb_h7, .slice o_h7 n_h7 c_h7) x y l m N w_11 :=
    ⟨x, y, 1, 0, _, _, _, _, _, _, _, _, _, _, _, _, _, _, _, _, .inl ⟨rfl, rfl, rfl, rfl⟩, HN.out, hb, hp, hq, hz1, hz2, hz3, h7, ha, hb', g1, h8, h9, h10, h11, ha.mono (by omega), hb', g2, g3⟩
  clear hb hp hq ha hb' hz1 hz2 hz3 h7 h8 h9 h10 h11 g1 g2 g3
  go_loopg [] N (fun k wr => FRrel w (w.heap.size) (w.heap.size + 1) (w.heap.size + 1 + 1) (w.heap.size + 1 + 1 + 1) (w.heap.size + 1 + 1 + 1 + 1) (w_1.heap.size) (p_h8) (p_h9) (w_7.heap.size) (w_8.heap.size) (na, .slice oa xs.length ca) (nb, .slice ob ys.length cb) (sb_h7, .slice o_h7 n_h7 c_h7) x y l m k wr)
  case atStart => exact hstart
  case round =>
    obtain ⟨r, s, X, U, s8, s9, s10, s11, o8, o9, o10, o11, n8, n9, n10, n11, c8, c9, c10, c11, hfr, hsk, hb, hp, hq, hz1, hz2, hz3, h7, ha, hb', g1, h8, h9, h10, h11, g8, g9, g10, g11⟩ := hrel
    obtain ⟨b1, b2, b3, b4⟩ := hfr.bd H0.out
    have HFR := hide hfr
    have LX := hide (len_le b3 LY.out)
    have LU := hide (len_le b4 LY.out)
    clear b1 b2 b3 b4 hfr
    by_cases hk : gk = 0
    · have HDN := hide (show (0 < r ∧ y ∣ (Int.gcd x y : Int) - x * X) ∨ (r < 0 ∧ y ∣ (Int.gcd x y : Int) - x * -X) from FR.done H0.out (by have h := HFR.out; rwa [show s = 0 by omega] at h))
      have HSS := hide (show s.sign = 0 by rw [show s = 0 by omega]; rfl)
      have q0 : ((0 : Int) != 0) = false := rfl
      clear hsk hk
      obtain ⟨e1, e2, e3, e4, e5, e6⟩ := NE.out
      obtain ⟨e7, e8, e9, e10⟩ := NB.out
      obtain ⟨ehp1, ehp2, ehp3, ehp4⟩ := NEhp.out
      obtain ⟨ehq1, ehq2, ehq3, ehq4⟩ := NEhq.out
      obtain ⟨ehz11, ehz12, ehz13, ehz14⟩ := NEhz1.out
      obtain ⟨ehz21, ehz22, ehz23, ehz24⟩ := NEhz2.out
      obtain ⟨ehz31, ehz32, ehz33, ehz34⟩ := NEhz3.out
      obtain ⟨eh71, eh72, eh73, eh74⟩ := NEh7.out
      obtain ⟨e71, e72, e73, e74, e75⟩ := NE7.out
      have f_h9 := h9.facts
      go_wp2_with fail
      refine (rzsign_any g9 (by omega)).mono ?_
      rintro e w_12 ⟨rfl, hb_12⟩
      replace ha := ha.below hb_12 (Nat.le_refl _)
      replace hb' := hb'.below hb_12 (Nat.le_refl _)
      replace g1 := g1.below hb_12 (Nat.le_refl _)
      replace g8 := g8.below hb_12 (Nat.le_refl _)
      replace g10 := g10.below hb_12 (Nat.le_refl _)
      replace hp := hp.below hb_12 (Nat.le_refl _)
      replace hq := hq.below hb_12 (Nat.le_refl _)
      replace hz1 := hz1.below hb_12 (Nat.le_refl _)
      replace hz2 := hz2.below hb_12 (Nat.le_refl _)
      replace hz3 := hz3.below hb_12 (Nat.le_refl _)
      replace h7 := h7.below hb_12 (Nat.le_refl _)
      replace h8 := h8.below hb_12 (Nat.le_refl _)
      replace h9 := h9.below hb_12 (Nat.le_refl _)
      replace h10 := h10.below hb_12 (Nat.le_refl _)
      replace h11 := h11.below hb_12 (Nat.le_refl _)
      replace hb := hb.trans (hb_12.mono hb.size)
      clear hb_12
      rw [HSS.out]
      clear f_h9
      have f_h8 := h8.facts
      rcases HDN.out with ⟨hr, hdv⟩ | ⟨hr, hdv⟩
      · have HR := hide (show r.sign = 1 from Int.sign_eq_one_of_pos hr)
        go_wp2_with fail
        refine (rzsign_any g8 (by omega)).mono ?_
        rintro e w_13 ⟨rfl, hb_13⟩
        replace ha := ha.below hb_13 (Nat.le_refl _)
        replace hb' := hb'.below hb_13 (Nat.le_refl _)
        replace g1 := g1.below hb_13 (Nat.le_refl _)
        replace g8 := g8.below hb_13 (Nat.le_refl _)
        replace g10 := g10.below hb_13 (Nat.le_refl _)
        replace hp := hp.below hb_13 (Nat.le_refl _)
        replace hq := hq.below hb_13 (Nat.le_refl _)
        replace hz1 := hz1.below hb_13 (Nat.le_refl _)
        replace hz2 := hz2.below hb_13 (Nat.le_refl _)
        replace hz3 := hz3.below hb_13 (Nat.le_refl _)
        replace h7 := h7.below hb_13 (Nat.le_refl _)
        replace h8 := h8.below hb_13 (Nat.le_refl _)
        replace h9 := h9.below hb_13 (Nat.le_refl _)
        replace h10 := h10.below hb_13 (Nat.le_refl _)
        replace h11 := h11.below hb_13 (Nat.le_refl _)
        replace hb := hb.trans (hb_13.mono hb.size)
        clear hb_13
        rw [HR.out]
        clear f_h8
        replace ha := ha.drew
        replace hb' := hb'.drew
        replace g1 := g1.drew
        replace g8 := g8.drew
        replace g10 := g10.drew
        replace hp := hp.drew
        replace hq := hq.drew
        replace hz1 := hz1.drew
        replace hz2 := hz2.drew
        replace hz3 := hz3.drew
        replace h7 := h7.drew
        replace h8 := h8.drew
        replace h9 := h9.drew
        replace h10 := h10.drew
        replace h11 := h11.drew
        replace hb := hb.drew
        have lt_hp := hp.lt
        have lt_hq := hq.lt
        have lt_hz1 := hz1.lt
        have lt_hz2 := hz2.lt
        have lt_hz3 := hz3.lt
        have lt_h7 := h7.lt
        have lt_h8 := h8.lt
        have lt_h9 := h9.lt
        have lt_h10 := h10.lt
        have lt_h11 := h11.lt
        have kb0 := hb.size
        go_wp2_with fail
        refine wp_region_fl [(0, false), (2, false), (1, true), (3, true), (4, false), (5, false), (6, false)] [9, 10] [7, 8] (fun _ => obZ) [0, 99, 1, 99, 99, 99, 99, 99, 99, 99, 99] [] (fun w' => w'.cell? ⟨w.heap.size + 1, 0, none⟩ = some (.bool nb) ∧ w'.cell? ⟨w.heap.size + 1, 1, none⟩ = some (.slice ob ys.length cb) ∧ w'.cell? ⟨w_1.heap.size, 0, none⟩ = some (.bool sb_h7) ∧ w'.cell? ⟨w_1.heap.size, 1, none⟩ = some (.slice o_h7 n_h7 c_h7)) [fun w' => w'.cell? ⟨w.heap.size + 1, 0, none⟩ = some (.bool nb) ∧ w'.cell? ⟨w.heap.size + 1, 1, none⟩ = some (.slice ob ys.length cb), fun w' => w'.cell? ⟨w_1.heap.size, 0, none⟩ = some (.bool sb_h7) ∧ w'.cell? ⟨w_1.heap.size, 1, none⟩ = some (.slice o_h7 n_h7 c_h7)] (by kernel_rfl) (by kernel_rfl) (by kernel_rfl) (by kernel_rfl) (by kernel_rfl) (by kernel_rfl) (by kernel_rfl) (by kernel_rfl) (by decide) (by intro j hj; simp only [List.mem_cons, List.not_mem_nil, or_false] at hj; rcases hj with rfl | rfl; all_goals exact ⟨_, rfl, rfl, fun ρ w => run_alloc_z w⟩) (by intro w' o hC; obtain ⟨c0, c1, c2, c3⟩ := hC; exact ⟨cell_alloc c0 o, cell_alloc c1 o, cell_alloc c2 o, cell_alloc c3 o⟩) (by intro w' hC G hG; obtain ⟨c0, c1, c2, c3⟩ := hC; simp only [List.mem_cons, List.not_mem_nil, or_false] at hG; rcases hG with rfl | rfl <;> first | exact ⟨c0, c1⟩ | exact ⟨c2, c3⟩) ⟨hq.facts.1, hq.facts.2.1, h7.facts.1, h7.facts.2.1⟩ ?_
        apply wpFl_ld
        case hG => rfl
        case hi => rfl
        case h1 => intro w' hC K hK; obtain ⟨c0, c1⟩ := hC; (first | go_big_move | go_big_op); exact hK
        case hw => kernel_rfl
        case hv => kernel_rfl
        case hb => kernel_rfl
        case hp => kernel_rfl
        apply wpFl_ld
        case hG => rfl
        case hi => rfl
        case h1 => intro w' hC K hK; obtain ⟨c0, c1⟩ := hC; (first | go_big_move | go_big_op); exact hK
        case hw => kernel_rfl
        case hv => kernel_rfl
        case hb => kernel_rfl
        case hp => kernel_rfl
        apply wpFl_call
        case hi => rfl
        case hw => kernel_rfl
        case h =>
        intro w_14 hn hC
        clear hC
        replace ha := ha.below hn (Nat.le_refl _)
        replace hb' := hb'.below hn (Nat.le_refl _)
        replace g1 := g1.below hn (Nat.le_refl _)
        replace g8 := g8.below hn (Nat.le_refl _)
        replace g10 := g10.below hn (Nat.le_refl _)
        replace hp := hp.below hn (Nat.le_refl _)
        replace hq := hq.below hn (Nat.le_refl _)
        replace hz1 := hz1.below hn (Nat.le_refl _)
        replace hz2 := hz2.below hn (Nat.le_refl _)
        replace hz3 := hz3.below hn (Nat.le_refl _)
        replace h7 := h7.below hn (Nat.le_refl _)
        replace h8 := h8.below hn (Nat.le_refl _)
        replace h9 := h9.below hn (Nat.le_refl _)
        replace h10 := h10.below hn (Nat.le_refl _)
        replace h11 := h11.below hn (Nat.le_refl _)
        replace hb := hb.trans (hn.mono hb.size)
        clear hn
        intro K hK
        have kb_15 := hb.size
        go_big_op
        go_fit (rabs_any hb' (by omega))
        rintro e w_15 ⟨v20, rfl, g20, hb_15⟩
        replace ha := ha.below hb_15 (Nat.le_refl _)
        replace hb' := hb'.below hb_15 (Nat.le_refl _)
        replace g1 := g1.below hb_15 (Nat.le_refl _)
        replace g8 := g8.below hb_15 (Nat.le_refl _)
        replace g10 := g10.below hb_15 (Nat.le_refl _)
        replace hp := hp.below hb_15 (Nat.le_refl _)
        replace hq := hq.below hb_15 (Nat.le_refl _)
        replace hz1 := hz1.below hb_15 (Nat.le_refl _)
        replace hz2 := hz2.below hb_15 (Nat.le_refl _)
        replace hz3 := hz3.below hb_15 (Nat.le_refl _)
        replace h7 := h7.below hb_15 (Nat.le_refl _)
        replace h8 := h8.below hb_15 (Nat.le_refl _)
        replace h9 := h9.below hb_15 (Nat.le_refl _)
        replace h10 := h10.below hb_15 (Nat.le_refl _)
        replace h11 := h11.below hb_15 (Nat.le_refl _)
        replace hb := hb.trans (hb_15.mono hb.size)
        refine hK _ _ rfl hb_15 ⟨hq.facts.1, hq.facts.2.1, h7.facts.1, h7.facts.2.1⟩ ?_
        clear hK K hb_15
        replace g20 := g20.rd
        apply wpFl_call
        case hi => rfl
        case hw => kernel_rfl
        case h =>
        intro w_16 hn hC
        clear hC
        replace ha := ha.below hn (Nat.le_refl _)
        replace hb' := hb'.below hn (Nat.le_refl _)
        replace g1 := g1.below hn (Nat.le_refl _)
        replace g8 := g8.below hn (Nat.le_refl _)
        replace g10 := g10.below hn (Nat.le_refl _)
        replace hp := hp.below hn (Nat.le_refl _)
        replace hq := hq.below hn (Nat.le_refl _)
        replace hz1 := hz1.below hn (Nat.le_refl _)
        replace hz2 := hz2.below hn (Nat.le_refl _)
        replace hz3 := hz3.below hn (Nat.le_refl _)
        replace h7 := h7.below hn (Nat.le_refl _)
        replace h8 := h8.below hn (Nat.le_refl _)
        replace h9 := h9.below hn (Nat.le_refl _)
        replace h10 := h10.below hn (Nat.le_refl _)
        replace h11 := h11.below hn (Nat.le_refl _)
        replace g20 := g20.below hn (Nat.le_refl _)
        replace hb := hb.trans (hn.mono hb.size)
        clear hn
        intro K hK
        have kb_17 := hb.size
        go_big_op
        go_fit (rfloor_any (g20.zn LA.out) (g1.zn LG.out) (by omega) (by omega) HG0.out)
        rintro e w_17 ⟨v21, v22, rfl, g21, g22, hb_17⟩
        replace ha := ha.below hb_17 (Nat.le_refl _)
        replace hb' := hb'.below hb_17 (Nat.le_refl _)
        replace g1 := g1.below hb_17 (Nat.le_refl _)
        replace g8 := g8.below hb_17 (Nat.le_refl _)
        replace g10 := g10.below hb_17 (Nat.le_refl _)
        replace hp := hp.below hb_17 (Nat.le_refl _)
        replace hq := hq.below hb_17 (Nat.le_refl _)
        replace hz1 := hz1.below hb_17 (Nat.le_refl _)
        replace hz2 := hz2.below hb_17 (Nat.le_refl _)
        replace hz3 := hz3.below hb_17 (Nat.le_refl _)
        replace h7 := h7.below hb_17 (Nat.le_refl _)
        replace h8 := h8.below hb_17 (Nat.le_refl _)
        replace h9 := h9.below hb_17 (Nat.le_refl _)
        replace h10 := h10.below hb_17 (Nat.le_refl _)
        replace h11 := h11.below hb_17 (Nat.le_refl _)
        replace g20 := g20.below hb_17 (Nat.le_refl _)
        replace hb := hb.trans (hb_17.mono hb.size)
        refine hK _ _ rfl hb_17 ⟨hq.facts.1, hq.facts.2.1, h7.facts.1, h7.facts.2.1⟩ ?_
        clear hK K hb_17
        clear g20
        apply wpFl_ld
        case hG => rfl
        case hi => rfl
        case h1 => intro w' hC K hK; clear hC; (first | go_big_move | go_big_op); exact hK
        case hw => kernel_rfl
        case hv => kernel_rfl
        case hb => kernel_rfl
        case hp => kernel_rfl
        apply wpFl_ld
        case hG => rfl
        case hi => rfl
        case h1 => intro w' hC K hK; clear hC; (first | go_big_move | go_big_op); exact hK
        case hw => kernel_rfl
        case hv => kernel_rfl
        case hb => kernel_rfl
        case hp => kernel_rfl
        apply wpFl_ld
        case hG => rfl
        case hi => rfl
        case h1 => intro w' hC K hK; clear hC; (first | go_big_move | go_big_op); exact hK
        case hw => kernel_rfl
        case hv => kernel_rfl
        case hb => kernel_rfl
        case hp => kernel_rfl
        apply wpFl_end
        case ha => intro pt; simp only [putF, nthO, Act.put, ptr, List.setIfInBounds_toArray, List.set_cons_succ, List.set_cons_zero]; rfl
        case h =>
        intro w_18 pt hn hC hF hD
        clear hC
        replace ha := ha.below hn (Nat.le_refl _)
        replace hb' := hb'.below hn (Nat.le_refl _)
        replace g1 := g1.below hn (Nat.le_refl _)
        replace g8 := g8.below hn (Nat.le_refl _)
        replace g10 := g10.below hn (Nat.le_refl _)
        replace hp := hp.below hn (Nat.le_refl _)
        replace hq := hq.below hn (Nat.le_refl _)
        replace hz1 := hz1.below hn (Nat.le_refl _)
        replace hz2 := hz2.below hn (Nat.le_refl _)
        replace hz3 := hz3.below hn (Nat.le_refl _)
        replace h7 := h7.below hn (Nat.le_refl _)
        replace h8 := h8.below hn (Nat.le_refl _)
        replace h9 := h9.below hn (Nat.le_refl _)
        replace h10 := h10.below hn (Nat.le_refl _)
        replace h11 := h11.below hn (Nat.le_refl _)
        replace g21 := g21.below hn (Nat.le_refl _)
        replace g22 := g22.below hn (Nat.le_refl _)
        replace hb := hb.trans (hn.mono hb.size)
        clear hn
        obtain ⟨kB_h14, h14⟩ := hF 7 (by decide)
        replace h14 := obZ_bk h14
        obtain ⟨kB_h15, h15⟩ := hF 8 (by decide)
        replace h15 := obZ_bk h15
        have ne_h14_h15 := hD 7 (by decide) 8 (by decide) (by decide)
        clear hF hD
        generalize pt 7 = p_h14 at *
        generalize pt 8 = p_h15 at *
        clear pt
        have kb_h14 := Nat.le_trans kb0 kB_h14
        have ne_hp_h14 : w.heap.size ≠ p_h14 := Nat.ne_of_lt (Nat.lt_of_lt_of_le lt_hp kB_h14)
        have ne_hq_h14 : w.heap.size + 1 ≠ p_h14 := Nat.ne_of_lt (Nat.lt_of_lt_of_le lt_hq kB_h14)
        have ne_hz1_h14 : w.heap.size + 1 + 1 ≠ p_h14 := Nat.ne_of_lt (Nat.lt_of_lt_of_le lt_hz1 kB_h14)
        have ne_hz2_h14 : w.heap.size + 1 + 1 + 1 ≠ p_h14 := Nat.ne_of_lt (Nat.lt_of_lt_of_le lt_hz2 kB_h14)
        have ne_hz3_h14 : w.heap.size + 1 + 1 + 1 + 1 ≠ p_h14 := Nat.ne_of_lt (Nat.lt_of_lt_of_le lt_hz3 kB_h14)
        have ne_h7_h14 : w_1.heap.size ≠ p_h14 := Nat.ne_of_lt (Nat.lt_of_lt_of_le lt_h7 kB_h14)
        have ne_h8_h14 : p_h8 ≠ p_h14 := Nat.ne_of_lt (Nat.lt_of_lt_of_le lt_h8 kB_h14)
        have ne_h9_h14 : p_h9 ≠ p_h14 := Nat.ne_of_lt (Nat.lt_of_lt_of_le lt_h9 kB_h14)
        have ne_h10_h14 : w_7.heap.size ≠ p_h14 := Nat.ne_of_lt (Nat.lt_of_lt_of_le lt_h10 kB_h14)
        have ne_h11_h14 : w_8.heap.size ≠ p_h14 := Nat.ne_of_lt (Nat.lt_of_lt_of_le lt_h11 kB_h14)
        clear kB_h14
        have kb_h15 := Nat.le_trans kb0 kB_h15
        have ne_hp_h15 : w.heap.size ≠ p_h15 := Nat.ne_of_lt (Nat.lt_of_lt_of_le lt_hp kB_h15)
        have ne_hq_h15 : w.heap.size + 1 ≠ p_h15 := Nat.ne_of_lt (Nat.lt_of_lt_of_le lt_hq kB_h15)
        have ne_hz1_h15 : w.heap.size + 1 + 1 ≠ p_h15 := Nat.ne_of_lt (Nat.lt_of_lt_of_le lt_hz1 kB_h15)
        have ne_hz2_h15 : w.heap.size + 1 + 1 + 1 ≠ p_h15 := Nat.ne_of_lt (Nat.lt_of_lt_of_le lt_hz2 kB_h15)
        have ne_hz3_h15 : w.heap.size + 1 + 1 + 1 + 1 ≠ p_h15 := Nat.ne_of_lt (Nat.lt_of_lt_of_le lt_hz3 kB_h15)
        have ne_h7_h15 : w_1.heap.size ≠ p_h15 := Nat.ne_of_lt (Nat.lt_of_lt_of_le lt_h7 kB_h15)
        have ne_h8_h15 : p_h8 ≠ p_h15 := Nat.ne_of_lt (Nat.lt_of_lt_of_le lt_h8 kB_h15)
        have ne_h9_h15 : p_h9 ≠ p_h15 := Nat.ne_of_lt (Nat.lt_of_lt_of_le lt_h9 kB_h15)
        have ne_h10_h15 : w_7.heap.size ≠ p_h15 := Nat.ne_of_lt (Nat.lt_of_lt_of_le lt_h10 kB_h15)
        have ne_h11_h15 : w_8.heap.size ≠ p_h15 := Nat.ne_of_lt (Nat.lt_of_lt_of_le lt_h11 kB_h15)
        clear kB_h15
        clear lt_hp
        clear lt_hq
        clear lt_hz1
        clear lt_hz2
        clear lt_hz3
        clear lt_h7
        clear lt_h8
        clear lt_h9
        clear lt_h10
        clear lt_h11
        clear kb0
        obtain ⟨sb_h14, o_h14, n_h14, c_h14, rfl⟩ := g21.open2
        apply wpTail_call
        case hi => rfl
        case hw => kernel_rfl
        case h =>
        intro K hK
        have c9_ := h14.facts
        go_big_op
        have ho := Bk.only w_18 (p_h14) sb_h14 (.slice o_h14 n_h14 c_h14)
        have hbx_ := h14.bx
        replace ha := ha.frame hbx_ ho
        replace hb' := hb'.frame hbx_ ho
        replace g1 := g1.frame hbx_ ho
        replace g8 := g8.frame hbx_ ho
        replace g10 := g10.frame hbx_ ho
        replace hp := hp.frame ho (by first | assumption | (apply Ne.symm; assumption) | (simp; done) | omega)
        replace hq := hq.frame ho (by first | assumption | (apply Ne.symm; assumption) | (simp; done) | omega)
        replace hz1 := hz1.frame ho (by first | assumption | (apply Ne.symm; assumption) | (simp; done) | omega)
        replace hz2 := hz2.frame ho (by first | assumption | (apply Ne.symm; assumption) | (simp; done) | omega)
        replace hz3 := hz3.frame ho (by first | assumption | (apply Ne.symm; assumption) | (simp; done) | omega)
        replace h7 := h7.frame ho (by first | assumption | (apply Ne.symm; assumption) | (simp; done) | omega)
        replace h8 := h8.frame ho (by first | assumption | (apply Ne.symm; assumption) | (simp; done) | omega)
        replace h9 := h9.frame ho (by first | assumption | (apply Ne.symm; assumption) | (simp; done) | omega)
        replace h10 := h10.frame ho (by first | assumption | (apply Ne.symm; assumption) | (simp; done) | omega)
        replace h11 := h11.frame ho (by first | assumption | (apply Ne.symm; assumption) | (simp; done) | omega)
        replace g21 := g21.frame hbx_ ho
        replace g22 := g22.frame hbx_ ho
        replace h15 := h15.frame ho (by first | assumption | (apply Ne.symm; assumption) | (simp; done) | omega)
        replace h14 := h14.store sb_h14 (.slice o_h14 n_h14 c_h14)
        replace hb := (hb.setCell (p := ⟨p_h14, 0, none⟩) (show w.heap.size ≤ p_h14 by first | assumption | (simp; done) | omega) (.bool sb_h14)).setCell (p := ⟨p_h14, 1, none⟩) (show w.heap.size ≤ p_h14 by first | assumption | (simp; done) | omega) (.slice o_h14 n_h14 c_h14)
        refine hK _ _ rfl (And.intro (And.intro hq.facts.1 hq.facts.2.1) (And.intro (And.intro h7.facts.1 h7.facts.2.1) True.intro)) ?_
        clear hK K hbx_ ho c9_
        obtain ⟨sb_h15, o_h15, n_h15, c_h15, rfl⟩ := g22.open2
        apply wpTail_call
        case hi => rfl
        case hw => kernel_rfl
        case h =>
        intro K hK
        have c9_ := h15.facts
        go_big_op
        have ho := Bk.only ((w_18.setCell ⟨p_h14, 0, none⟩ (.bool sb_h14)).setCell ⟨p_h14, 1, none⟩ (.slice o_h14 n_h14 c_h14)) (p_h15) sb_h15 (.slice o_h15 n_h15 c_h15)
        have hbx_ := h15.bx
        replace ha := ha.frame hbx_ ho
        replace hb' := hb'.frame hbx_ ho
        replace g1 := g1.frame hbx_ ho
        replace g8 := g8.frame hbx_ ho
        replace g10 := g10.frame hbx_ ho
        replace hp := hp.frame ho (by first | assumption | (apply Ne.symm; assumption) | (simp; done) | omega)
        replace hq := hq.frame ho (by first | assumption | (apply Ne.symm; assumption) | (simp; done) | omega)
        replace hz1 := hz1.frame ho (by first | assumption | (apply Ne.symm; assumption) | (simp; done) | omega)
        replace hz2 := hz2.frame ho (by first | assumption | (apply Ne.symm; assumption) | (simp; done) | omega)
        replace hz3 := hz3.frame ho (by first | assumption | (apply Ne.symm; assumption) | (simp; done) | omega)
        replace h7 := h7.frame ho (by first | assumption | (apply Ne.symm; assumption) | (simp; done) | omega)
        replace h8 := h8.frame ho (by first | assumption | (apply Ne.symm; assumption) | (simp; done) | omega)
        replace h9 := h9.frame ho (by first | assumption | (apply Ne.symm; assumption) | (simp; done) | omega)
        replace h10 := h10.frame ho (by first | assumption | (apply Ne.symm; assumption) | (simp; done) | omega)
        replace h11 := h11.frame ho (by first | assumption | (apply Ne.symm; assumption) | (simp; done) | omega)
        replace g21 := g21.frame hbx_ ho
        replace g22 := g22.frame hbx_ ho
        replace h14 := h14.frame ho (by first | assumption | (apply Ne.symm; assumption) | (simp; done) | omega)
        replace h15 := h15.store sb_h15 (.slice o_h15 n_h15 c_h15)
        replace hb := (hb.setCell (p := ⟨p_h15, 0, none⟩) (show w.heap.size ≤ p_h15 by first | assumption | (simp; done) | omega) (.bool sb_h15)).setCell (p := ⟨p_h15, 1, none⟩) (show w.heap.size ≤ p_h15 by first | assumption | (simp; done) | omega) (.slice o_h15 n_h15 c_h15)
        refine hK _ _ rfl (And.intro (And.intro hq.facts.1 hq.facts.2.1) (And.intro (And.intro h7.facts.1 h7.facts.2.1) True.intro)) ?_
        clear hK K hbx_ ho c9_
        apply wpTail_end
        have HXG := hide (XG.of H0.out hdv)
        obtain ⟨c, hc⟩ : ∃ c, (X).fmod (((y.natAbs : Int)).fdiv (Int.gcd x y)) = c := ⟨_, rfl⟩
        rw [hc] at HXG
        have HC := hide hc
        clear hc
        have LC := hide (show (dig c.natAbs).length ≤ m from len_le (HXG.out.le H0.out) LY.out)
        have LMC := hide (zlen_mul Lx.out LC.out)
        have LD := hide (zlen_sub LG.out LMC.out)
        have f_h10 := h10.facts
        have f_h14 := h14.facts
        go_wp2_with fail
        refine (rfloor_any (g10.zn LX.out) (g21.zn LP.out) (by omega) (by omega) HPP.out).mono ?_
        rintro e w_19 ⟨v23, v24, rfl, g23, g24, hb_19⟩
        replace ha := ha.below hb_19 (Nat.le_refl _)
        replace hb' := hb'.below hb_19 (Nat.le_refl _)
        replace g1 := g1.below hb_19 (Nat.le_refl _)
        replace g8 := g8.below hb_19 (Nat.le_refl _)
        replace g10 := g10.below hb_19 (Nat.le_refl _)
        replace hp := hp.below hb_19 (Nat.le_refl _)
        replace hq := hq.below hb_19 (Nat.le_refl _)
        replace hz1 := hz1.below hb_19 (Nat.le_refl _)
        replace hz2 := hz2.below hb_19 (Nat.le_refl _)
        replace hz3 := hz3.below hb_19 (Nat.le_refl _)
        replace h7 := h7.below hb_19 (Nat.le_refl _)
        replace h8 := h8.below hb_19 (Nat.le_refl _)
        replace h9 := h9.below hb_19 (Nat.le_refl _)
        replace h10 := h10.below hb_19 (Nat.le_refl _)
        replace h11 := h11.below hb_19 (Nat.le_refl _)
        replace g21 := g21.below hb_19 (Nat.le_refl _)
        replace g22 := g22.below hb_19 (Nat.le_refl _)
        replace h14 := h14.below hb_19 (Nat.le_refl _)
        replace h15 := h15.below hb_19 (Nat.le_refl _)
        have kk24 := hb.size
        replace hb := hb.trans (hb_19.mono hb.size)
        clear hb_19
        rw [HC.out] at g24
        clear f_h10 f_h14
        clear g23
        obtain ⟨sb_h10, o_h10, n_h10, c_h10, rfl⟩ := g24.open2
        have f_h10 := h10.facts
        have ho := Bk.only w_19 (w_7.heap.size) sb_h10 (.slice o_h10 n_h10 c_h10)
        have hbx_ := h10.bx
        replace ha := ha.frame hbx_ ho
        replace hb' := hb'.frame hbx_ ho
        replace g1 := g1.frame hbx_ ho
        replace g8 := g8.frame hbx_ ho
        replace g10 := g10.frame hbx_ ho
        replace hp := hp.frame ho (by first | assumption | (apply Ne.symm; assumption) | (simp; done) | omega)
        replace hq := hq.frame ho (by first | assumption | (apply Ne.symm; assumption) | (simp; done) | omega)
        replace hz1 := hz1.frame ho (by first | assumption | (apply Ne.symm; assumption) | (simp; done) | omega)
        replace hz2 := hz2.frame ho (by first | assumption | (apply Ne.symm; assumption) | (simp; done) | omega)
        replace hz3 := hz3.frame ho (by first | assumption | (apply Ne.symm; assumption) | (simp; done) | omega)
        replace h7 := h7.frame ho (by first | assumption | (apply Ne.symm; assumption) | (simp; done) | omega)
        replace h8 := h8.frame ho (by first | assumption | (apply Ne.symm; assumption) | (simp; done) | omega)
        replace h9 := h9.frame ho (by first | assumption | (apply Ne.symm; assumption) | (simp; done) | omega)
        replace h11 := h11.frame ho (by first | assumption | (apply Ne.symm; assumption) | (simp; done) | omega)
        replace g21 := g21.frame hbx_ ho
        replace g22 := g22.frame hbx_ ho
        replace h14 := h14.frame ho (by first | assumption | (apply Ne.symm; assumption) | (simp; done) | omega)
        replace h15 := h15.frame ho (by first | assumption | (apply Ne.symm; assumption) | (simp; done) | omega)
        replace g24 := g24.frame hbx_ ho
        replace h10 := h10.store sb_h10 (.slice o_h10 n_h10 c_h10)
        replace hb := (hb.setCell (p := ⟨w_7.heap.size, 0, none⟩) (show w.heap.size ≤ w_7.heap.size by first | assumption | (simp; done) | omega) (.bool sb_h10)).setCell (p := ⟨w_7.heap.size, 1, none⟩) (show w.heap.size ≤ w_7.heap.size by first | assumption | (simp; done) | omega) (.slice o_h10 n_h10 c_h10)
        clear ho hbx_
        obtain ⟨w_20, hw_20⟩ : ∃ v, ((w_19.setCell ⟨w_7.heap.size, 0, none⟩ (.bool sb_h10)).setCell ⟨w_7.heap.size, 1, none⟩ (.slice o_h10 n_h10 c_h10)) = v := ⟨_, rfl⟩
        rw [hw_20] at ha hb' g1 g8 g10 hp hq hz1 hz2 hz3 h7 h8 h9 h10 h11 g21 g22 h14 h15 g24 hb
        replace ha := ha.drew
        replace hb' := hb'.drew
        replace g1 := g1.drew
        replace g8 := g8.drew
        replace g10 := g10.drew
        replace hp := hp.drew
        replace hq := hq.drew
        replace hz1 := hz1.drew
        replace hz2 := hz2.drew
        replace hz3 := hz3.drew
        replace h7 := h7.drew
        replace h8 := h8.drew
        replace h9 := h9.drew
        replace h10 := h10.drew
        replace h11 := h11.drew
        replace g21 := g21.drew
        replace g22 := g22.drew
        replace h14 := h14.drew
        replace h15 := h15.drew
        replace g24 := g24.drew
        replace hb := hb.drew
        have lt_hp := hp.lt
        have lt_hq := hq.lt
        have lt_hz1 := hz1.lt
        have lt_hz2 := hz2.lt
        have lt_hz3 := hz3.lt
        have lt_h7 := h7.lt
        have lt_h8 := h8.lt
        have lt_h9 := h9.lt
        have lt_h10 := h10.lt
        have lt_h11 := h11.lt
        have lt_h14 := h14.lt
        have lt_h15 := h15.lt
        have kb0 := hb.size
        go_wp2_with fail
        refine wp_region_fl [(0, false), (1, false), (2, false), (5, false), (3, true), (4, true), (6, true), (7, false), (8, false), (9, false)] [12, 13] [10, 11] (fun _ => obZ) [2, 0, 3, 99, 99, 1, 99, 99, 99, 99, 99, 99, 99, 99] [] (fun w' => w'.cell? ⟨w.heap.size, 0, none⟩ = some (.bool na) ∧ w'.cell? ⟨w.heap.size, 1, none⟩ = some (.slice oa xs.length ca) ∧ w'.cell? ⟨w.heap.size + 1, 0, none⟩ = some (.bool nb) ∧ w'.cell? ⟨w.heap.size + 1, 1, none⟩ = some (.slice ob ys.length cb) ∧ w'.cell? ⟨w_1.heap.size, 0, none⟩ = some (.bool sb_h7) ∧ w'.cell? ⟨w_1.heap.size, 1, none⟩ = some (.slice o_h7 n_h7 c_h7) ∧ w'.cell? ⟨w_7.heap.size, 0, none⟩ = some (.bool sb_h10) ∧ w'.cell? ⟨w_7.heap.size, 1, none⟩ = some (.slice o_h10 n_h10 c_h10)) [fun w' => w'.cell? ⟨w.heap.size, 0, none⟩ = some (.bool na) ∧ w'.cell? ⟨w.heap.size, 1, none⟩ = some (.slice oa xs.length ca), fun w' => w'.cell? ⟨w.heap.size + 1, 0, none⟩ = some (.bool nb) ∧ w'.cell? ⟨w.heap.size + 1, 1, none⟩ = some (.slice ob ys.length cb), fun w' => w'.cell? ⟨w_1.heap.size, 0, none⟩ = some (.bool sb_h7) ∧ w'.cell? ⟨w_1.heap.size, 1, none⟩ = some (.slice o_h7 n_h7 c_h7), fun w' => w'.cell? ⟨w_7.heap.size, 0, none⟩ = some (.bool sb_h10) ∧ w'.cell? ⟨w_7.heap.size, 1, none⟩ = some (.slice o_h10 n_h10 c_h10)] (by kernel_rfl) (by kernel_rfl) (by kernel_rfl) (by kernel_rfl) (by kernel_rfl) (by kernel_rfl) (by kernel_rfl) (by kernel_rfl) (by decide) (by intro j hj; simp only [List.mem_cons, List.not_mem_nil, or_false] at hj; rcases hj with rfl | rfl; all_goals exact ⟨_, rfl, rfl, fun ρ w => run_alloc_z w⟩) (by intro w' o hC; obtain ⟨c0, c1, c2, c3, c4, c5, c6, c7⟩ := hC; exact ⟨cell_alloc c0 o, cell_alloc c1 o, cell_alloc c2 o, cell_alloc c3 o, cell_alloc c4 o, cell_alloc c5 o, cell_alloc c6 o, cell_alloc c7 o⟩) (by intro w' hC G hG; obtain ⟨c0, c1, c2, c3, c4, c5, c6, c7⟩ := hC; simp only [List.mem_cons, List.not_mem_nil, or_false] at hG; rcases hG with rfl | rfl | rfl | rfl <;> first | exact ⟨c0, c1⟩ | exact ⟨c2, c3⟩ | exact ⟨c4, c5⟩ | exact ⟨c6, c7⟩) ⟨hp.facts.1, hp.facts.2.1, hq.facts.1, hq.facts.2.1, h7.facts.1, h7.facts.2.1, h10.facts.1, h10.facts.2.1⟩ ?_
        clear f_h10
        apply wpFl_ld
        case hG => rfl
        case hi => rfl
        case h1 => intro w' hC K hK; obtain ⟨c0, c1⟩ := hC; (first | go_big_move | go_big_op); exact hK
        case hw => kernel_rfl
        case hv => kernel_rfl
        case hb => kernel_rfl
        case hp => kernel_rfl
        apply wpFl_ld
        case hG => rfl
        case hi => rfl
        case h1 => intro w' hC K hK; obtain ⟨c0, c1⟩ := hC; (first | go_big_move | go_big_op); exact hK
        case hw => kernel_rfl
        case hv => kernel_rfl
        case hb => kernel_rfl
        case hp => kernel_rfl
        apply wpFl_ld
        case hG => rfl
        case hi => rfl
        case h1 => intro w' hC K hK; obtain ⟨c0, c1⟩ := hC; (first | go_big_move | go_big_op); exact hK
        case hw => kernel_rfl
        case hv => kernel_rfl
        case hb => kernel_rfl
        case hp => kernel_rfl
        apply wpFl_ld
        case hG => rfl
        case hi => rfl
        case h1 => intro w' hC K hK; obtain ⟨c0, c1⟩ := hC; (first | go_big_move | go_big_op); exact hK
        case hw => kernel_rfl
        case hv => kernel_rfl
        case hb => kernel_rfl
        case hp => kernel_rfl
        apply wpFl_call
        case hi => rfl
        case hw => kernel_rfl
        case h =>
        intro w_21 hn hC
        clear hC
        replace ha := ha.below hn (Nat.le_refl _)
        replace hb' := hb'.below hn (Nat.le_refl _)
        replace g1 := g1.below hn (Nat.le_refl _)
        replace g8 := g8.below hn (Nat.le_refl _)
        replace g10 := g10.below hn (Nat.le_refl _)
        replace hp := hp.below hn (Nat.le_refl _)
        replace hq := hq.below hn (Nat.le_refl _)
        replace hz1 := hz1.below hn (Nat.le_refl _)
        replace hz2 := hz2.below hn (Nat.le_refl _)
        replace hz3 := hz3.below hn (Nat.le_refl _)
        replace h7 := h7.below hn (Nat.le_refl _)
        replace h8 := h8.below hn (Nat.le_refl _)
        replace h9 := h9.below hn (Nat.le_refl _)
        replace h10 := h10.below hn (Nat.le_refl _)
        replace h11 := h11.below hn (Nat.le_refl _)
        replace g21 := g21.below hn (Nat.le_refl _)
        replace g22 := g22.below hn (Nat.le_refl _)
        replace h14 := h14.below hn (Nat.le_refl _)
        replace h15 := h15.below hn (Nat.le_refl _)
        replace g24 := g24.below hn (Nat.le_refl _)
        replace hb := hb.trans (hn.mono hb.size)
        clear hn
        intro K hK
        have kb_22 := hb.size
        go_big_op
        go_fit (rzmul_any ha (g24.zn LC.out) (by omega) (by omega))
        rintro e w_22 ⟨v25, rfl, g25, hb_22⟩
        replace ha := ha.below hb_22 (Nat.le_refl _)
        replace hb' := hb'.below hb_22 (Nat.le_refl _)
        replace g1 := g1.below hb_22 (Nat.le_refl _)
        replace g8 := g8.below hb_22 (Nat.le_refl _)
        replace g10 := g10.below hb_22 (Nat.le_refl _)
        replace hp := hp.below hb_22 (Nat.le_refl _)
        replace hq := hq.below hb_22 (Nat.le_refl _)
        replace hz1 := hz1.below hb_22 (Nat.le_refl _)
        replace hz2 := hz2.below hb_22 (Nat.le_refl _)
        replace hz3 := hz3.below hb_22 (Nat.le_refl _)
        replace h7 := h7.below hb_22 (Nat.le_refl _)
        replace h8 := h8.below hb_22 (Nat.le_refl _)
        replace h9 := h9.below hb_22 (Nat.le_refl _)
        replace h10 := h10.below hb_22 (Nat.le_refl _)
        replace h11 := h11.below hb_22 (Nat.le_refl _)
        replace g21 := g21.below hb_22 (Nat.le_refl _)
        replace g22 := g22.below hb_22 (Nat.le_refl _)
        replace h14 := h14.below hb_22 (Nat.le_refl _)
        replace h15 := h15.below hb_22 (Nat.le_refl _)
        replace g24 := g24.below hb_22 (Nat.le_refl _)
        replace hb := hb.trans (hb_22.mono hb.size)
        refine hK _ _ rfl hb_22 ⟨hp.facts.1, hp.facts.2.1, hq.facts.1, hq.facts.2.1, h7.facts.1, h7.facts.2.1, h10.facts.1, h10.facts.2.1⟩ ?_
        clear hK K hb_22
        replace g25 := g25.rd
        apply wpFl_call
        case hi => rfl
        case hw => kernel_rfl
        case h =>
        intro w_23 hn hC
        clear hC
        replace ha := ha.below hn (Nat.le_refl _)
        replace hb' := hb'.below hn (Nat.le_refl _)
        replace g1 := g1.below hn (Nat.le_refl _)
        replace g8 := g8.below hn (Nat.le_refl _)
        replace g10 := g10.below hn (Nat.le_refl _)
        replace hp := hp.below hn (Nat.le_refl _)
        replace hq := hq.below hn (Nat.le_refl _)
        replace hz1 := hz1.below hn (Nat.le_refl _)
        replace hz2 := hz2.below hn (Nat.le_refl _)
        replace hz3 := hz3.below hn (Nat.le_refl _)
        replace h7 := h7.below hn (Nat.le_refl _)
        replace h8 := h8.below hn (Nat.le_refl _)
        replace h9 := h9.below hn (Nat.le_refl _)
        replace h10 := h10.below hn (Nat.le_refl _)
        replace h11 := h11.below hn (Nat.le_refl _)
        replace g21 := g21.below hn (Nat.le_refl _)
        replace g22 := g22.below hn (Nat.le_refl _)
        replace h14 := h14.below hn (Nat.le_refl _)
        replace h15 := h15.below hn (Nat.le_refl _)
        replace g24 := g24.below hn (Nat.le_refl _)
        replace g25 := g25.below hn (Nat.le_refl _)
        replace hb := hb.trans (hn.mono hb.size)
        clear hn
        intro K hK
        have kb_24 := hb.size
        go_big_op
        go_fit (rzsub_any (g1.zn LG.out) (g25.zn LMC.out) (by omega) (by omega))
        rintro e w_24 ⟨v26, rfl, g26, hb_24⟩
        replace ha := ha.below hb_24 (Nat.le_refl _)
        replace hb' := hb'.below hb_24 (Nat.le_refl _)
        replace g1 := g1.below hb_24 (Nat.le_refl _)
        replace g8 := g8.below hb_24 (Nat.le_refl _)
        replace g10 := g10.below hb_24 (Nat.le_refl _)
        replace hp := hp.below hb_24 (Nat.le_refl _)
        replace hq := hq.below hb_24 (Nat.le_refl _)
        replace hz1 := hz1.below hb_24 (Nat.le_refl _)
        replace hz2 := hz2.below hb_24 (Nat.le_refl _)
        replace hz3 := hz3.below hb_24 (Nat.le_refl _)
        replace h7 := h7.below hb_24 (Nat.le_refl _)
        replace h8 := h8.below hb_24 (Nat.le_refl _)
        replace h9 := h9.below hb_24 (Nat.le_refl _)
        replace h10 := h10.below hb_24 (Nat.le_refl _)
        replace h11 := h11.below hb_24 (Nat.le_refl _)
        replace g21 := g21.below hb_24 (Nat.le_refl _)
        replace g22 := g22.below hb_24 (Nat.le_refl _)
        replace h14 := h14.below hb_24 (Nat.le_refl _)
        replace h15 := h15.below hb_24 (Nat.le_refl _)
        replace g24 := g24.below hb_24 (Nat.le_refl _)
        replace g25 := g25.below hb_24 (Nat.le_refl _)
        replace hb := hb.trans (hb_24.mono hb.size)
        refine hK _ _ rfl hb_24 ⟨hp.facts.1, hp.facts.2.1, hq.facts.1, hq.facts.2.1, h7.facts.1, h7.facts.2.1, h10.facts.1, h10.facts.2.1⟩ ?_
        clear hK K hb_24
        replace g26 := g26.rd
        clear g25
        apply wpFl_call
        case hi => rfl
        case hw => kernel_rfl
        case h =>
        intro w_25 hn hC
        clear hC
        replace ha := ha.below hn (Nat.le_refl _)
        replace hb' := hb'.below hn (Nat.le_refl _)
        replace g1 := g1.below hn (Nat.le_refl _)
        replace g8 := g8.below hn (Nat.le_refl _)
        replace g10 := g10.below hn (Nat.le_refl _)
        replace hp := hp.below hn (Nat.le_refl _)
        replace hq := hq.below hn (Nat.le_refl _)
        replace hz1 := hz1.below hn (Nat.le_refl _)
        replace hz2 := hz2.below hn (Nat.le_refl _)
        replace hz3 := hz3.below hn (Nat.le_refl _)
        replace h7 := h7.below hn (Nat.le_refl _)
        replace h8 := h8.below hn (Nat.le_refl _)
        replace h9 := h9.below hn (Nat.le_refl _)
        replace h10 := h10.below hn (Nat.le_refl _)
        replace h11 := h11.below hn (Nat.le_refl _)
        replace g21 := g21.below hn (Nat.le_refl _)
        replace g22 := g22.below hn (Nat.le_refl _)
        replace h14 := h14.below hn (Nat.le_refl _)
        replace h15 := h15.below hn (Nat.le_refl _)
        replace g24 := g24.below hn (Nat.le_refl _)
        replace g26 := g26.below hn (Nat.le_refl _)
        replace hb := hb.trans (hn.mono hb.size)
        clear hn
        intro K hK
        have kb_26 := hb.size
        go_big_op
        go_fit (rfloor_any (g26.zn LD.out) hb' (by omega) (by omega) H0.out)
        rintro e w_26 ⟨v27, v28, rfl, g27, g28, hb_26⟩
        replace ha := ha.below hb_26 (Nat.le_refl _)
        replace hb' := hb'.below hb_26 (Nat.le_refl _)
        replace g1 := g1.below hb_26 (Nat.le_refl _)
        replace g8 := g8.below hb_26 (Nat.le_refl _)
        replace g10 := g10.below hb_26 (Nat.le_refl _)
        replace hp := hp.below hb_26 (Nat.le_refl _)
        replace hq := hq.below hb_26 (Nat.le_refl _)
        replace hz1 := hz1.below hb_26 (Nat.le_refl _)
        replace hz2 := hz2.below hb_26 (Nat.le_refl _)
        replace hz3 := hz3.below hb_26 (Nat.le_refl _)
        replace h7 := h7.below hb_26 (Nat.le_refl _)
        replace h8 := h8.below hb_26 (Nat.le_refl _)
        replace h9 := h9.below hb_26 (Nat.le_refl _)
        replace h10 := h10.below hb_26 (Nat.le_refl _)
        replace h11 := h11.below hb_26 (Nat.le_refl _)
        replace g21 := g21.below hb_26 (Nat.le_refl _)
        replace g22 := g22.below hb_26 (Nat.le_refl _)
        replace h14 := h14.below hb_26 (Nat.le_refl _)
        replace h15 := h15.below hb_26 (Nat.le_refl _)
        replace g24 := g24.below hb_26 (Nat.le_refl _)
        replace g26 := g26.below hb_26 (Nat.le_refl _)
        replace hb := hb.trans (hb_26.mono hb.size)
        refine hK _ _ rfl hb_26 ⟨hp.facts.1, hp.facts.2.1, hq.facts.1, hq.facts.2.1, h7.facts.1, h7.facts.2.1, h10.facts.1, h10.facts.2.1⟩ ?_
        clear hK K hb_26
        clear g26
        apply wpFl_ld
        case hG => rfl
        case hi => rfl
        case h1 => intro w' hC K hK; clear hC; (first | go_big_move | go_big_op); exact hK
        case hw => kernel_rfl
        case hv => kernel_rfl
        case hb => kernel_rfl
        case hp => kernel_rfl
        apply wpFl_ld
        case hG => rfl
        case hi => rfl
        case h1 => intro w' hC K hK; clear hC; (first | go_big_move | go_big_op); exact hK
        case hw => kernel_rfl
        case hv => kernel_rfl
        case hb => kernel_rfl
        case hp => kernel_rfl
        apply wpFl_ld
        case hG => rfl
        case hi => rfl
        case h1 => intro w' hC K hK; clear hC; (first | go_big_move | go_big_op); exact hK
        case hw => kernel_rfl
        case hv => kernel_rfl
        case hb => kernel_rfl
        case hp => kernel_rfl
        apply wpFl_end
        case ha => intro pt; simp only [putF, nthO, Act.put, ptr, List.setIfInBounds_toArray, List.set_cons_succ, List.set_cons_zero]; rfl
        case h =>
        intro w_27 pt hn hC hF hD
        clear hC
        replace ha := ha.below hn (Nat.le_refl _)
        replace hb' := hb'.below hn (Nat.le_refl _)
        replace g1 := g1.below hn (Nat.le_refl _)
        replace g8 := g8.below hn (Nat.le_refl _)
        replace g10 := g10.below hn (Nat.le_refl _)
        replace hp := hp.below hn (Nat.le_refl _)
        replace hq := hq.below hn (Nat.le_refl _)
        replace hz1 := hz1.below hn (Nat.le_refl _)
        replace hz2 := hz2.below hn (Nat.le_refl _)
        replace hz3 := hz3.below hn (Nat.le_refl _)
        replace h7 := h7.below hn (Nat.le_refl _)
        replace h8 := h8.below hn (Nat.le_refl _)
        replace h9 := h9.below hn (Nat.le_refl _)
        replace h10 := h10.below hn (Nat.le_refl _)
        replace h11 := h11.below hn (Nat.le_refl _)
        replace g21 := g21.below hn (Nat.le_refl _)
        replace g22 := g22.below hn (Nat.le_refl _)
        replace h14 := h14.below hn (Nat.le_refl _)
        replace h15 := h15.below hn (Nat.le_refl _)
        replace g24 := g24.below hn (Nat.le_refl _)
        replace g27 := g27.below hn (Nat.le_refl _)
        replace g28 := g28.below hn (Nat.le_refl _)
        replace hb := hb.trans (hn.mono hb.size)
        clear hn
        obtain ⟨kB_h16, h16⟩ := hF 10 (by decide)
        replace h16 := obZ_bk h16
        obtain ⟨kB_h17, h17⟩ := hF 11 (by decide)
        replace h17 := obZ_bk h17
        have ne_h16_h17 := hD 10 (by decide) 11 (by decide) (by decide)
        clear hF hD
        generalize pt 10 = p_h16 at *
        generalize pt 11 = p_h17 at *
        clear pt
        have kb_h16 := Nat.le_trans kb0 kB_h16
        have ne_hp_h16 : w.heap.size ≠ p_h16 := Nat.ne_of_lt (Nat.lt_of_lt_of_le lt_hp kB_h16)
        have ne_hq_h16 : w.heap.size + 1 ≠ p_h16 := Nat.ne_of_lt (Nat.lt_of_lt_of_le lt_hq kB_h16)
        have ne_hz1_h16 : w.heap.size + 1 + 1 ≠ p_h16 := Nat.ne_of_lt (Nat.lt_of_lt_of_le lt_hz1 kB_h16)
        have ne_hz2_h16 : w.heap.size + 1 + 1 + 1 ≠ p_h16 := Nat.ne_of_lt (Nat.lt_of_lt_of_le lt_hz2 kB_h16)
        have ne_hz3_h16 : w.heap.size + 1 + 1 + 1 + 1 ≠ p_h16 := Nat.ne_of_lt (Nat.lt_of_lt_of_le lt_hz3 kB_h16)
        have ne_h7_h16 : w_1.heap.size ≠ p_h16 := Nat.ne_of_lt (Nat.lt_of_lt_of_le lt_h7 kB_h16)
        have ne_h8_h16 : p_h8 ≠ p_h16 := Nat.ne_of_lt (Nat.lt_of_lt_of_le lt_h8 kB_h16)
        have ne_h9_h16 : p_h9 ≠ p_h16 := Nat.ne_of_lt (Nat.lt_of_lt_of_le lt_h9 kB_h16)
        have ne_h10_h16 : w_7.heap.size ≠ p_h16 := Nat.ne_of_lt (Nat.lt_of_lt_of_le lt_h10 kB_h16)
        have ne_h11_h16 : w_8.heap.size ≠ p_h16 := Nat.ne_of_lt (Nat.lt_of_lt_of_le lt_h11 kB_h16)
        have ne_h14_h16 : p_h14 ≠ p_h16 := Nat.ne_of_lt (Nat.lt_of_lt_of_le lt_h14 kB_h16)
        have ne_h15_h16 : p_h15 ≠ p_h16 := Nat.ne_of_lt (Nat.lt_of_lt_of_le lt_h15 kB_h16)
        clear kB_h16
        have kb_h17 := Nat.le_trans kb0 kB_h17
        have ne_hp_h17 : w.heap.size ≠ p_h17 := Nat.ne_of_lt (Nat.lt_of_lt_of_le lt_hp kB_h17)
        have ne_hq_h17 : w.heap.size + 1 ≠ p_h17 := Nat.ne_of_lt (Nat.lt_of_lt_of_le lt_hq kB_h17)
        have ne_hz1_h17 : w.heap.size + 1 + 1 ≠ p_h17 := Nat.ne_of_lt (Nat.lt_of_lt_of_le lt_hz1 kB_h17)
        have ne_hz2_h17 : w.heap.size + 1 + 1 + 1 ≠ p_h17 := Nat.ne_of_lt (Nat.lt_of_lt_of_le lt_hz2 kB_h17)
        have ne_hz3_h17 : w.heap.size + 1 + 1 + 1 + 1 ≠ p_h17 := Nat.ne_of_lt (Nat.lt_of_lt_of_le lt_hz3 kB_h17)
        have ne_h7_h17 : w_1.heap.size ≠ p_h17 := Nat.ne_of_lt (Nat.lt_of_lt_of_le lt_h7 kB_h17)
        have ne_h8_h17 : p_h8 ≠ p_h17 := Nat.ne_of_lt (Nat.lt_of_lt_of_le lt_h8 kB_h17)
        have ne_h9_h17 : p_h9 ≠ p_h17 := Nat.ne_of_lt (Nat.lt_of_lt_of_le lt_h9 kB_h17)
        have ne_h10_h17 : w_7.heap.size ≠ p_h17 := Nat.ne_of_lt (Nat.lt_of_lt_of_le lt_h10 kB_h17)
        have ne_h11_h17 : w_8.heap.size ≠ p_h17 := Nat.ne_of_lt (Nat.lt_of_lt_of_le lt_h11 kB_h17)
        have ne_h14_h17 : p_h14 ≠ p_h17 := Nat.ne_of_lt (Nat.lt_of_lt_of_le lt_h14 kB_h17)
        have ne_h15_h17 : p_h15 ≠ p_h17 := Nat.ne_of_lt (Nat.lt_of_lt_of_le lt_h15 kB_h17)
        clear kB_h17
        clear lt_hp
        clear lt_hq
        clear lt_hz1
        clear lt_hz2
        clear lt_hz3
        clear lt_h7
        clear lt_h8
        clear lt_h9
        clear lt_h10
        clear lt_h11
        clear lt_h14
        clear lt_h15
        clear kb0
        obtain ⟨sb_h16, o_h16, n_h16, c_h16, rfl⟩ := g27.open2
        apply wpTail_call
        case hi => rfl
        case hw => kernel_rfl
        case h =>
        intro K hK
        have c9_ := h16.facts
        go_big_op
        have ho := Bk.only w_27 (p_h16) sb_h16 (.slice o_h16 n_h16 c_h16)
        have hbx_ := h16.bx
        replace ha := ha.frame hbx_ ho
        replace hb' := hb'.frame hbx_ ho
        replace g1 := g1.frame hbx_ ho
        replace g8 := g8.frame hbx_ ho
        replace g10 := g10.frame hbx_ ho
        replace hp := hp.frame ho (by first | assumption | (apply Ne.symm; assumption) | (simp; done) | omega)
        replace hq := hq.frame ho (by first | assumption | (apply Ne.symm; assumption) | (simp; done) | omega)
        replace hz1 := hz1.frame ho (by first | assumption | (apply Ne.symm; assumption) | (simp; done) | omega)
        replace hz2 := hz2.frame ho (by first | assumption | (apply Ne.symm; assumption) | (simp; done) | omega)
        replace hz3 := hz3.frame ho (by first | assumption | (apply Ne.symm; assumption) | (simp; done) | omega)
        replace h7 := h7.frame ho (by first | assumption | (apply Ne.symm; assumption) | (simp; done) | omega)
        replace h8 := h8.frame ho (by first | assumption | (apply Ne.symm; assumption) | (simp; done) | omega)
        replace h9 := h9.frame ho (by first | assumption | (apply Ne.symm; assumption) | (simp; done) | omega)
        replace h10 := h10.frame ho (by first | assumption | (apply Ne.symm; assumption) | (simp; done) | omega)
        replace h11 := h11.frame ho (by first | assumption | (apply Ne.symm; assumption) | (simp; done) | omega)
        replace g21 := g21.frame hbx_ ho
        replace g22 := g22.frame hbx_ ho
        replace h14 := h14.frame ho (by first | assumption | (apply Ne.symm; assumption) | (simp; done) | omega)
        replace h15 := h15.frame ho (by first | assumption | (apply Ne.symm; assumption) | (simp; done) | omega)
        replace g24 := g24.frame hbx_ ho
        replace g27 := g27.frame hbx_ ho
        replace g28 := g28.frame hbx_ ho
        replace h17 := h17.frame ho (by first | assumption | (apply Ne.symm; assumption) | (simp; done) | omega)
        replace h16 := h16.store sb_h16 (.slice o_h16 n_h16 c_h16)
        replace hb := (hb.setCell (p := ⟨p_h16, 0, none⟩) (show w.heap.size ≤ p_h16 by first | assumption | (simp; done) | omega) (.bool sb_h16)).setCell (p := ⟨p_h16, 1, none⟩) (show w.heap.size ≤ p_h16 by first | assumption | (simp; done) | omega) (.slice o_h16 n_h16 c_h16)
        refine hK _ _ rfl (And.intro (And.intro hp.facts.1 hp.facts.2.1) (And.intro (And.intro hq.facts.1 hq.facts.2.1) (And.intro (And.intro h7.facts.1 h7.facts.2.1) (And.intro (And.intro h10.facts.1 h10.facts.2.1) True.intro)))) ?_
        clear hK K hbx_ ho c9_
        obtain ⟨sb_h17, o_h17, n_h17, c_h17, rfl⟩ := g28.open2
        apply wpTail_call
        case hi => rfl
        case hw => kernel_rfl
        case h =>
        intro K hK
        have c9_ := h17.facts
        go_big_op
        have ho := Bk.only ((w_27.setCell ⟨p_h16, 0, none⟩ (.bool sb_h16)).setCell ⟨p_h16, 1, none⟩ (.slice o_h16 n_h16 c_h16)) (p_h17) sb_h17 (.slice o_h17 n_h17 c_h17)
        have hbx_ := h17.bx
        replace ha := ha.frame hbx_ ho
        replace hb' := hb'.frame hbx_ ho
        replace g1 := g1.frame hbx_ ho
        replace g8 := g8.frame hbx_ ho
        replace g10 := g10.frame hbx_ ho
        replace hp := hp.frame ho (by first | assumption | (apply Ne.symm; assumption) | (simp; done) | omega)
        replace hq := hq.frame ho (by first | assumption | (apply Ne.symm; assumption) | (simp; done) | omega)
        replace hz1 := hz1.frame ho (by first | assumption | (apply Ne.symm; assumption) | (simp; done) | omega)
        replace hz2 := hz2.frame ho (by first | assumption | (apply Ne.symm; assumption) | (simp; done) | omega)
        replace hz3 := hz3.frame ho (by first | assumption | (apply Ne.symm; assumption) | (simp; done) | omega)
        replace h7 := h7.frame ho (by first | assumption | (apply Ne.symm; assumption) | (simp; done) | omega)
        replace h8 := h8.frame ho (by first | assumption | (apply Ne.symm; assumption) | (simp; done) | omega)
        replace h9 := h9.frame ho (by first | assumption | (apply Ne.symm; assumption) | (simp; done) | omega)
        replace h10 := h10.frame ho (by first | assumption | (apply Ne.symm; assumption) | (simp; done) | omega)
        replace h11 := h11.frame ho (by first | assumption | (apply Ne.symm; assumption) | (simp; done) | omega)
        replace g21 := g21.frame hbx_ ho
        replace g22 := g22.frame hbx_ ho
        replace h14 := h14.frame ho (by first | assumption | (apply Ne.symm; assumption) | (simp; done) | omega)
        replace h15 := h15.frame ho (by first | assumption | (apply Ne.symm; assumption) | (simp; done) | omega)
        replace g24 := g24.frame hbx_ ho
        replace g27 := g27.frame hbx_ ho
        replace g28 := g28.frame hbx_ ho
        replace h16 := h16.frame ho (by first | assumption | (apply Ne.symm; assumption) | (simp; done) | omega)
        replace h17 := h17.store sb_h17 (.slice o_h17 n_h17 c_h17)
        replace hb := (hb.setCell (p := ⟨p_h17, 0, none⟩) (show w.heap.size ≤ p_h17 by first | assumption | (simp; done) | omega) (.bool sb_h17)).setCell (p := ⟨p_h17, 1, none⟩) (show w.heap.size ≤ p_h17 by first | assumption | (simp; done) | omega) (.slice o_h17 n_h17 c_h17)
        refine hK _ _ rfl (And.intro (And.intro hp.facts.1 hp.facts.2.1) (And.intro (And.intro hq.facts.1 hq.facts.2.1) (And.intro (And.intro h7.facts.1 h7.facts.2.1) (And.intro (And.intro h10.facts.1 h10.facts.2.1) True.intro)))) ?_
        clear hK K hbx_ ho c9_
        apply wpTail_end
        replace ha := ha.drew
        replace hb' := hb'.drew
        replace g1 := g1.drew
        replace g8 := g8.drew
        replace g10 := g10.drew
        replace hp := hp.drew
        replace hq := hq.drew
        replace hz1 := hz1.drew
        replace hz2 := hz2.drew
        replace hz3 := hz3.drew
        replace h7 := h7.drew
        replace h8 := h8.drew
        replace h9 := h9.drew
        replace h10 := h10.drew
        replace h11 := h11.drew
        replace g21 := g21.drew
        replace g22 := g22.drew
        replace h14 := h14.drew
        replace h15 := h15.drew
        replace g24 := g24.drew
        replace g27 := g27.drew
        replace g28 := g28.drew
        replace h16 := h16.drew
        replace h17 := h17.drew
        replace hb := hb.drew
        have lt_hp := hp.lt
        have lt_hq := hq.lt
        have lt_hz1 := hz1.lt
        have lt_hz2 := hz2.lt
        have lt_hz3 := hz3.lt
        have lt_h7 := h7.lt
        have lt_h8 := h8.lt
        have lt_h9 := h9.lt
        have lt_h10 := h10.lt
        have lt_h11 := h11.lt
        have lt_h14 := h14.lt
        have lt_h15 := h15.lt
        have lt_h16 := h16.lt
        have lt_h17 := h17.lt
        have kb0 := hb.size
        go_wp2_with fail
        refine wp_region_fl [(0, false), (1, false), (2, false)] [3, 4, 5] [] (fun _ => obZ) [0, 1, 2, 99, 99, 99] [] (fun w' => w'.cell? ⟨w_1.heap.size, 0, none⟩ = some (.bool sb_h7) ∧ w'.cell? ⟨w_1.heap.size, 1, none⟩ = some (.slice o_h7 n_h7 c_h7) ∧ w'.cell? ⟨w_7.heap.size, 0, none⟩ = some (.bool sb_h10) ∧ w'.cell? ⟨w_7.heap.size, 1, none⟩ = some (.slice o_h10 n_h10 c_h10) ∧ w'.cell? ⟨p_h16, 0, none⟩ = some (.bool sb_h16) ∧ w'.cell? ⟨p_h16, 1, none⟩ = some (.slice o_h16 n_h16 c_h16)) [fun w' => w'.cell? ⟨w_1.heap.size, 0, none⟩ = some (.bool sb_h7) ∧ w'.cell? ⟨w_1.heap.size, 1, none⟩ = some (.slice o_h7 n_h7 c_h7), fun w' => w'.cell? ⟨w_7.heap.size, 0, none⟩ = some (.bool sb_h10) ∧ w'.cell? ⟨w_7.heap.size, 1, none⟩ = some (.slice o_h10 n_h10 c_h10), fun w' => w'.cell? ⟨p_h16, 0, none⟩ = some (.bool sb_h16) ∧ w'.cell? ⟨p_h16, 1, none⟩ = some (.slice o_h16 n_h16 c_h16)] (by kernel_rfl) (by kernel_rfl) (by kernel_rfl) (by kernel_rfl) (by kernel_rfl) (by kernel_rfl) (by kernel_rfl) (by kernel_rfl) (by decide) (by intro j hj; cases hj) (by intro w' o hC; obtain ⟨c0, c1, c2, c3, c4, c5⟩ := hC; exact ⟨cell_alloc c0 o, cell_alloc c1 o, cell_alloc c2 o, cell_alloc c3 o, cell_alloc c4 o, cell_alloc c5 o⟩) (by intro w' hC G hG; obtain ⟨c0, c1, c2, c3, c4, c5⟩ := hC; simp only [List.mem_cons, List.not_mem_nil, or_false] at hG; rcases hG with rfl | rfl | rfl <;> first | exact ⟨c0, c1⟩ | exact ⟨c2, c3⟩ | exact ⟨c4, c5⟩) ⟨h7.facts.1, h7.facts.2.1, h10.facts.1, h10.facts.2.1, h16.facts.1, h16.facts.2.1⟩ ?_
        apply wpFl_ld
        case hG => rfl
        case hi => rfl
        case h1 => intro w' hC K hK; obtain ⟨c0, c1⟩ := hC; (first | go_big_move | go_big_op); exact hK
        case hw => kernel_rfl
        case hv => kernel_rfl
        case hb => kernel_rfl
        case hp => kernel_rfl
        apply wpFl_ld
        case hG => rfl
        case hi => rfl
        case h1 => intro w' hC K hK; obtain ⟨c0, c1⟩ := hC; (first | go_big_move | go_big_op); exact hK
        case hw => kernel_rfl
        case hv => kernel_rfl
        case hb => kernel_rfl
        case hp => kernel_rfl
        apply wpFl_ld
        case hG => rfl
        case hi => rfl
        case h1 => intro w' hC K hK; obtain ⟨c0, c1⟩ := hC; (first | go_big_move | go_big_op); exact hK
        case hw => kernel_rfl
        case hv => kernel_rfl
        case hb => kernel_rfl
        case hp => kernel_rfl
        apply wpFl_end
        case ha => intro pt; simp only [putF]; rfl
        case h =>
        intro w_28 pt hn hC hF hD
        clear hC
        replace ha := ha.below hn (Nat.le_refl _)
        replace hb' := hb'.below hn (Nat.le_refl _)
        replace g1 := g1.below hn (Nat.le_refl _)
        replace g8 := g8.below hn (Nat.le_refl _)
        replace g10 := g10.below hn (Nat.le_refl _)
        replace hp := hp.below hn (Nat.le_refl _)
        replace hq := hq.below hn (Nat.le_refl _)
        replace hz1 := hz1.below hn (Nat.le_refl _)
        replace hz2 := hz2.below hn (Nat.le_refl _)
        replace hz3 := hz3.below hn (Nat.le_refl _)
        replace h7 := h7.below hn (Nat.le_refl _)
        replace h8 := h8.below hn (Nat.le_refl _)
        replace h9 := h9.below hn (Nat.le_refl _)
        replace h10 := h10.below hn (Nat.le_refl _)
        replace h11 := h11.below hn (Nat.le_refl _)
        replace g21 := g21.below hn (Nat.le_refl _)
        replace g22 := g22.below hn (Nat.le_refl _)
        replace h14 := h14.below hn (Nat.le_refl _)
        replace h15 := h15.below hn (Nat.le_refl _)
        replace g24 := g24.below hn (Nat.le_refl _)
        replace g27 := g27.below hn (Nat.le_refl _)
        replace g28 := g28.below hn (Nat.le_refl _)
        replace h16 := h16.below hn (Nat.le_refl _)
        replace h17 := h17.below hn (Nat.le_refl _)
        replace hb := hb.trans (hn.mono hb.size)
        clear hn
        clear hF hD
        clear lt_hp
        clear lt_hq
        clear lt_hz1
        clear lt_hz2
        clear lt_hz3
        clear lt_h7
        clear lt_h8
        clear lt_h9
        clear lt_h10
        clear lt_h11
        clear lt_h14
        clear lt_h15
        clear lt_h16
        clear lt_h17
        clear kb0
        apply wpTail_call
        case hi => rfl
        case hw => kernel_rfl
        case h =>
        intro K hK
        have c9_ := hz1.facts
        go_big_op
        have ho := Bk.only w_28 (w.heap.size + 1 + 1) sb_h7 (.slice o_h7 n_h7 c_h7)
        have hbx_ := hz1.bx
        replace ha := ha.frame hbx_ ho
        replace hb' := hb'.frame hbx_ ho
        replace g1 := g1.frame hbx_ ho
        replace g8 := g8.frame hbx_ ho
        replace g10 := g10.frame hbx_ ho
        replace hp := hp.frame ho (by first | assumption | (apply Ne.symm; assumption) | (simp; done) | omega)
        replace hq := hq.frame ho (by first | assumption | (apply Ne.symm; assumption) | (simp; done) | omega)
        replace hz2 := hz2.frame ho (by first | assumption | (apply Ne.symm; assumption) | (simp; done) | omega)
        replace hz3 := hz3.frame ho (by first | assumption | (apply Ne.symm; assumption) | (simp; done) | omega)
        replace h7 := h7.frame ho (by first | assumption | (apply Ne.symm; assumption) | (simp; done) | omega)
        replace h8 := h8.frame ho (by first | assumption | (apply Ne.symm; assumption) | (simp; done) | omega)
        replace h9 := h9.frame ho (by first | assumption | (apply Ne.symm; assumption) | (simp; done) | omega)
        replace h10 := h10.frame ho (by first | assumption | (apply Ne.symm; assumption) | (simp; done) | omega)
        replace h11 := h11.frame ho (by first | assumption | (apply Ne.symm; assumption) | (simp; done) | omega)
        replace g21 := g21.frame hbx_ ho
        replace g22 := g22.frame hbx_ ho
        replace h14 := h14.frame ho (by first | assumption | (apply Ne.symm; assumption) | (simp; done) | omega)
        replace h15 := h15.frame ho (by first | assumption | (apply Ne.symm; assumption) | (simp; done) | omega)
        replace g24 := g24.frame hbx_ ho
        replace g27 := g27.frame hbx_ ho
        replace g28 := g28.frame hbx_ ho
        replace h16 := h16.frame ho (by first | assumption | (apply Ne.symm; assumption) | (simp; done) | omega)
        replace h17 := h17.frame ho (by first | assumption | (apply Ne.symm; assumption) | (simp; done) | omega)
        replace hz1 := hz1.store sb_h7 (.slice o_h7 n_h7 c_h7)
        replace hb := (hb.setCell (p := ⟨w.heap.size + 1 + 1, 0, none⟩) (show w.heap.size ≤ w.heap.size + 1 + 1 by first | assumption | (simp; done) | omega) (.bool sb_h7)).setCell (p := ⟨w.heap.size + 1 + 1, 1, none⟩) (show w.heap.size ≤ w.heap.size + 1 + 1 by first | assumption | (simp; done) | omega) (.slice o_h7 n_h7 c_h7)
        refine hK _ _ rfl (And.intro (And.intro h7.facts.1 h7.facts.2.1) (And.intro (And.intro h10.facts.1 h10.facts.2.1) (And.intro (And.intro h16.facts.1 h16.facts.2.1) True.intro))) ?_
        clear hK K hbx_ ho c9_
        apply wpTail_call
        case hi => rfl
        case hw => kernel_rfl
        case h =>
        intro K hK
        have c9_ := hz2.facts
        go_big_op
        have ho := Bk.only ((w_28.setCell ⟨w.heap.size + 1 + 1, 0, none⟩ (.bool sb_h7)).setCell ⟨w.heap.size + 1 + 1, 1, none⟩ (.slice o_h7 n_h7 c_h7)) (w.heap.size + 1 + 1 + 1) sb_h10 (.slice o_h10 n_h10 c_h10)
        have hbx_ := hz2.bx
        replace ha := ha.frame hbx_ ho
        replace hb' := hb'.frame hbx_ ho
        replace g1 := g1.frame hbx_ ho
        replace g8 := g8.frame hbx_ ho
        replace g10 := g10.frame hbx_ ho
        replace hp := hp.frame ho (by first | assumption | (apply Ne.symm; assumption) | (simp; done) | omega)
        replace hq := hq.frame ho (by first | assumption | (apply Ne.symm; assumption) | (simp; done) | omega)
        replace hz1 := hz1.frame ho (by first | assumption | (apply Ne.symm; assumption) | (simp; done) | omega)
        replace hz3 := hz3.frame ho (by first | assumption | (apply Ne.symm; assumption) | (simp; done) | omega)
        replace h7 := h7.frame ho (by first | assumption | (apply Ne.symm; assumption) | (simp; done) | omega)
        replace h8 := h8.frame ho (by first | assumption | (apply Ne.symm; assumption) | (simp; done) | omega)
        replace h9 := h9.frame ho (by first | assumption | (apply Ne.symm; assumption) | (simp; done) | omega)
        replace h10 := h10.frame ho (by first | assumption | (apply Ne.symm; assumption) | (simp; done) | omega)
        replace h11 := h11.frame ho (by first | assumption | (apply Ne.symm; assumption) | (simp; done) | omega)
        replace g21 := g21.frame hbx_ ho
        replace g22 := g22.frame hbx_ ho
        replace h14 := h14.frame ho (by first | assumption | (apply Ne.symm; assumption) | (simp; done) | omega)
        replace h15 := h15.frame ho (by first | assumption | (apply Ne.symm; assumption) | (simp; done) | omega)
        replace g24 := g24.frame hbx_ ho
        replace g27 := g27.frame hbx_ ho
        replace g28 := g28.frame hbx_ ho
        replace h16 := h16.frame ho (by first | assumption | (apply Ne.symm; assumption) | (simp; done) | omega)
        replace h17 := h17.frame ho (by first | assumption | (apply Ne.symm; assumption) | (simp; done) | omega)
        replace hz2 := hz2.store sb_h10 (.slice o_h10 n_h10 c_h10)
        replace hb := (hb.setCell (p := ⟨w.heap.size + 1 + 1 + 1, 0, none⟩) (show w.heap.size ≤ w.heap.size + 1 + 1 + 1 by first | assumption | (simp; done) | omega) (.bool sb_h10)).setCell (p := ⟨w.heap.size + 1 + 1 + 1, 1, none⟩) (show w.heap.size ≤ w.heap.size + 1 + 1 + 1 by first | assumption | (simp; done) | omega) (.slice o_h10 n_h10 c_h10)
        refine hK _ _ rfl (And.intro (And.intro h7.facts.1 h7.facts.2.1) (And.intro (And.intro h10.facts.1 h10.facts.2.1) (And.intro (And.intro h16.facts.1 h16.facts.2.1) True.intro))) ?_
        clear hK K hbx_ ho c9_
        apply wpTail_call
        case hi => rfl
        case hw => kernel_rfl
        case h =>
        intro K hK
        have c9_ := hz3.facts
        go_big_op
        have ho := Bk.only ((((w_28.setCell ⟨w.heap.size + 1 + 1, 0, none⟩ (.bool sb_h7)).setCell ⟨w.heap.size + 1 + 1, 1, none⟩ (.slice o_h7 n_h7 c_h7)).setCell ⟨w.heap.size + 1 + 1 + 1, 0, none⟩ (.bool sb_h10)).setCell ⟨w.heap.size + 1 + 1 + 1, 1, none⟩ (.slice o_h10 n_h10 c_h10)) (w.heap.size + 1 + 1 + 1 + 1) sb_h16 (.slice o_h16 n_h16 c_h16)
        have hbx_ := hz3.bx
        replace ha := ha.frame hbx_ ho
        replace hb' := hb'.frame hbx_ ho
        replace g1 := g1.frame hbx_ ho
        replace g8 := g8.frame hbx_ ho
        replace g10 := g10.frame hbx_ ho
        replace hp := hp.frame ho (by first | assumption | (apply Ne.symm; assumption) | (simp; done) | omega)
        replace hq := hq.frame ho (by first | assumption | (apply Ne.symm; assumption) | (simp; done) | omega)
        replace hz1 := hz1.frame ho (by first | assumption | (apply Ne.symm; assumption) | (simp; done) | omega)
        replace hz2 := hz2.frame ho (by first | assumption | (apply Ne.symm; assumption) | (simp; done) | omega)
        replace h7 := h7.frame ho (by first | assumption | (apply Ne.symm; assumption) | (simp; done) | omega)
        replace h8 := h8.frame ho (by first | assumption | (apply Ne.symm; assumption) | (simp; done) | omega)
        replace h9 := h9.frame ho (by first | assumption | (apply Ne.symm; assumption) | (simp; done) | omega)
        replace h10 := h10.frame ho (by first | assumption | (apply Ne.symm; assumption) | (simp; done) | omega)
        replace h11 := h11.frame ho (by first | assumption | (apply Ne.symm; assumption) | (simp; done) | omega)
        replace g21 := g21.frame hbx_ ho
        replace g22 := g22.frame hbx_ ho
        replace h14 := h14.frame ho (by first | assumption | (apply Ne.symm; assumption) | (simp; done) | omega)
        replace h15 := h15.frame ho (by first | assumption | (apply Ne.symm; assumption) | (simp; done) | omega)
        replace g24 := g24.frame hbx_ ho
        replace g27 := g27.frame hbx_ ho
        replace g28 := g28.frame hbx_ ho
        replace h16 := h16.frame ho (by first | assumption | (apply Ne.symm; assumption) | (simp; done) | omega)
        replace h17 := h17.frame ho (by first | assumption | (apply Ne.symm; assumption) | (simp; done) | omega)
        replace hz3 := hz3.store sb_h16 (.slice o_h16 n_h16 c_h16)
        replace hb := (hb.setCell (p := ⟨w.heap.size + 1 + 1 + 1 + 1, 0, none⟩) (show w.heap.size ≤ w.heap.size + 1 + 1 + 1 + 1 by first | assumption | (simp; done) | omega) (.bool sb_h16)).setCell (p := ⟨w.heap.size + 1 + 1 + 1 + 1, 1, none⟩) (show w.heap.size ≤ w.heap.size + 1 + 1 + 1 + 1 by first | assumption | (simp; done) | omega) (.slice o_h16 n_h16 c_h16)
        refine hK _ _ rfl (And.intro (And.intro h7.facts.1 h7.facts.2.1) (And.intro (And.intro h10.facts.1 h10.facts.2.1) (And.intro (And.intro h16.facts.1 h16.facts.2.1) True.intro))) ?_
        clear hK K hbx_ ho c9_
        apply wpTail_end
        clear ha
        clear hb'
        clear g8
        clear g10
        clear hp
        clear hq
        clear h7
        clear h8
        clear h9
        clear h10
        clear h11
        clear g21
        clear g22
        clear h14
        clear h15
        clear g28
        clear h16
        clear h17
        try clear kb0
        try clear ne_h15_h17
        try clear ne_h14_h17
        try clear ne_h11_h17
        try clear ne_h10_h17
        try clear ne_h9_h17
        try clear ne_h8_h17
        try clear ne_h7_h17
        try clear ne_hz3_h17
        try clear ne_hz2_h17
        try clear ne_hz1_h17
        try clear ne_hq_h17
        try clear ne_hp_h17
        try clear kb_h17
        try clear ne_h15_h16
        try clear ne_h14_h16
        try clear ne_h11_h16
        try clear ne_h10_h16
        try clear ne_h9_h16
        try clear ne_h8_h16
        try clear ne_h7_h16
        try clear ne_hz3_h16
        try clear ne_hz2_h16
        try clear ne_hz1_h16
        try clear ne_hq_h16
        try clear ne_hp_h16
        try clear kb_h16
        try clear ne_h16_h17
        try clear kb_26
        try clear kb_24
        try clear kb_22
        try clear kk24
        try clear ne_h11_h15
        try clear ne_h10_h15
        try clear ne_h9_h15
        try clear ne_h8_h15
        try clear ne_h7_h15
        try clear ne_hz3_h15
        try clear ne_hz2_h15
        try clear ne_hz1_h15
        try clear ne_hq_h15
        try clear ne_hp_h15
        try clear kb_h15
        try clear ne_h11_h14
        try clear ne_h10_h14
        try clear ne_h9_h14
        try clear ne_h8_h14
        try clear ne_h7_h14
        try clear ne_hz3_h14
        try clear ne_hz2_h14
        try clear ne_hz1_h14
        try clear ne_hq_h14
        try clear ne_hp_h14
        try clear kb_h14
        try clear ne_h14_h15
        try clear kb_17
        try clear kb_15
        try clear ne_h10_h11
        try clear ne_h9_h11
        try clear ne_h8_h11
        try clear ne_h7_h11
        try clear ne_hz3_h11
        try clear ne_hz2_h11
        try clear ne_hz1_h11
        try clear ne_hq_h11
        try clear ne_hp_h11
        try clear kb_h11
        try clear ne_h9_h10
        try clear ne_h8_h10
        try clear ne_h7_h10
        try clear ne_hz3_h10
        try clear ne_hz2_h10
        try clear ne_hz1_h10
        try clear ne_hq_h10
        try clear ne_hp_h10
        try clear kb_h10
        try clear ne_h7_h9
        try clear ne_hz3_h9
        try clear ne_hz2_h9
        try clear ne_hz1_h9
        try clear ne_hq_h9
        try clear ne_hp_h9
        try clear kb_h9
        try clear ne_h7_h8
        try clear ne_hz3_h8
        try clear ne_hz2_h8
        try clear ne_hz1_h8
        try clear ne_hq_h8
        try clear ne_hp_h8
        try clear kb_h8
        try clear ne_h8_h9
        try clear ne_hz3_h7
        try clear ne_hz2_h7
        try clear ne_hz1_h7
        try clear ne_hq_h7
        try clear ne_hp_h7
        try clear kb_h7
        clear e1 e2 e3 e4 e5 e6 e7 e8 e9 e10 ehp1 ehp2 ehp3 ehp4 ehq1 ehq2 ehq3 ehq4 ehz11 ehz12 ehz13 ehz14 ehz21 ehz22 ehz23 ehz24 ehz31 ehz32 ehz33 ehz34 eh71 eh72 eh73 eh74 e71 e72 e73 e74 e75
        obtain ⟨w_29, hw_29⟩ : ∃ v, ((((((w_28.setCell ⟨w.heap.size + 1 + 1, 0, none⟩ (.bool sb_h7)).setCell ⟨w.heap.size + 1 + 1, 1, none⟩ (.slice o_h7 n_h7 c_h7)).setCell ⟨w.heap.size + 1 + 1 + 1, 0, none⟩ (.bool sb_h10)).setCell ⟨w.heap.size + 1 + 1 + 1, 1, none⟩ (.slice o_h10 n_h10 c_h10)).setCell ⟨w.heap.size + 1 + 1 + 1 + 1, 0, none⟩ (.bool sb_h16)).setCell ⟨w.heap.size + 1 + 1 + 1 + 1, 1, none⟩ (.slice o_h16 n_h16 c_h16)) = v := ⟨_, rfl⟩
        rw [hw_29] at g1 hz1 hz2 hz3 g24 g27 hb ⊢
        clear hw_29
        have f1 := hz1.facts
        have f2 := hz2.facts
        have f3 := hz3.facts
        clear hz1 hz2 hz3
        refine ‹∀ (a : Act) (w : World), Code.wp Tryd.prog Code.ret _ a w → _› _ _ ?_
        refine wp_ret ?_
        refine bodyPost_ret (v := .tuple #[.agg #[.bool sb_h7, .slice o_h7 n_h7 c_h7], .agg #[.bool sb_h10, .slice o_h10 n_h10 c_h10], .agg #[.bool sb_h16, .slice o_h16 n_h16 c_h16]]) (by simp [results, Tryd.results49, go_sem, f1.1, f1.2.1, f2.1, f2.2.1, f3.1, f3.2.1]) rfl ?_
        exact ⟨_, _, _, rfl, ⟨c, HXG.out, g1, g24, g27⟩, hb⟩
      · have HR := hide (show r.sign = -1 from Int.sign_eq_neg_one_of_neg hr)
        have LNX := hide (show (dig (-X).natAbs).length ≤ m by rw [Int.natAbs_neg]; exact LX.out)
        go_wp2_with fail
        refine (rzsign_any g8 (by omega)).mono ?_
        rintro e w_30 ⟨rfl, hb_30⟩
        replace ha := ha.below hb_30 (Nat.le_refl _)
        replace hb' := hb'.below hb_30 (Nat.le_refl _)
        replace g1 := g1.below hb_30 (Nat.le_refl _)
        replace g8 := g8.below hb_30 (Nat.le_refl _)
        replace g10 := g10.below hb_30 (Nat.le_refl _)
        replace hp := hp.below hb_30 (Nat.le_refl _)
        replace hq := hq.below hb_30 (Nat.le_refl _)
        replace hz1 := hz1.below hb_30 (Nat.le_refl _)
        replace hz2 := hz2.below hb_30 (Nat.le_refl _)
        replace hz3 := hz3.below hb_30 (Nat.le_refl _)
        replace h7 := h7.below hb_30 (Nat.le_refl _)
        replace h8 := h8.below hb_30 (Nat.le_refl _)
        replace h9 := h9.below hb_30 (Nat.le_refl _)
        replace h10 := h10.below hb_30 (Nat.le_refl _)
        replace h11 := h11.below hb_30 (Nat.le_refl _)
        replace hb := hb.trans (hb_30.mono hb.size)
        clear hb_30
        rw [HR.out]
        clear f_h8
        have f_h10 := h10.facts
        go_wp2_with fail
        refine (rneg_any (g10.zn LX.out) (by omega)).mono ?_
        rintro e w_31 ⟨v19, rfl, g19, hb_31⟩
        replace ha := ha.below hb_31 (Nat.le_refl _)
        replace hb' := hb'.below hb_31 (Nat.le_refl _)
        replace g1 := g1.below hb_31 (Nat.le_refl _)
        replace g8 := g8.below hb_31 (Nat.le_refl _)
        replace g10 := g10.below hb_31 (Nat.le_refl _)
        replace hp := hp.below hb_31 (Nat.le_refl _)
        replace hq := hq.below hb_31 (Nat.le_refl _)
        replace hz1 := hz1.below hb_31 (Nat.le_refl _)
        replace hz2 := hz2.below hb_31 (Nat.le_refl _)
        replace hz3 := hz3.below hb_31 (Nat.le_refl _)
        replace h7 := h7.below hb_31 (Nat.le_refl _)
        replace h8 := h8.below hb_31 (Nat.le_refl _)
        replace h9 := h9.below hb_31 (Nat.le_refl _)
        replace h10 := h10.below hb_31 (Nat.le_refl _)
        replace h11 := h11.below hb_31 (Nat.le_refl _)
        replace hb := hb.trans (hb_31.mono hb.size)
        clear hb_31
        replace g19 := g19.rd
        clear f_h10
        obtain ⟨sb_h10, o_h10, n_h10, c_h10, rfl⟩ := g19.open2
        have f_h10 := h10.facts
        have ho := Bk.only w_31 (w_7.heap.size) sb_h10 (.slice o_h10 n_h10 c_h10)
        have hbx_ := h10.bx
        replace ha := ha.frame hbx_ ho
        replace hb' := hb'.frame hbx_ ho
        replace g1 := g1.frame hbx_ ho
        replace g8 := g8.frame hbx_ ho
        replace g10 := g10.frame hbx_ ho
        replace hp := hp.frame ho (by first | assumption | (apply Ne.symm; assumption) | (simp; done) | omega)
        replace hq := hq.frame ho (by first | assumption | (apply Ne.symm; assumption) | (simp; done) | omega)
        replace hz1 := hz1.frame ho (by first | assumption | (apply Ne.symm; assumption) | (simp; done) | omega)
        replace hz2 := hz2.frame ho (by first | assumption | (apply Ne.symm; assumption) | (simp; done) | omega)
        replace hz3 := hz3.frame ho (by first | assumption | (apply Ne.symm; assumption) | (simp; done) | omega)
        replace h7 := h7.frame ho (by first | assumption | (apply Ne.symm; assumption) | (simp; done) | omega)
        replace h8 := h8.frame ho (by first | assumption | (apply Ne.symm; assumption) | (simp; done) | omega)
        replace h9 := h9.frame ho (by first | assumption | (apply Ne.symm; assumption) | (simp; done) | omega)
        replace h11 := h11.frame ho (by first | assumption | (apply Ne.symm; assumption) | (simp; done) | omega)
        replace g19 := g19.frame hbx_ ho
        replace h10 := h10.store sb_h10 (.slice o_h10 n_h10 c_h10)
        replace hb := (hb.setCell (p := ⟨w_7.heap.size, 0, none⟩) (show w.heap.size ≤ w_7.heap.size by first | assumption | (simp; done) | omega) (.bool sb_h10)).setCell (p := ⟨w_7.heap.size, 1, none⟩) (show w.heap.size ≤ w_7.heap.size by first | assumption | (simp; done) | omega) (.slice o_h10 n_h10 c_h10)
        clear ho hbx_
        obtain ⟨w_32, hw_32⟩ : ∃ v, ((w_31.setCell ⟨w_7.heap.size, 0, none⟩ (.bool sb_h10)).setCell ⟨w_7.heap.size, 1, none⟩ (.slice o_h10 n_h10 c_h10)) = v := ⟨_, rfl⟩
        rw [hw_32] at ha hb' g1 g8 g10 hp hq hz1 hz2 hz3 h7 h8 h9 h10 h11 g19 hb
        replace ha := ha.drew
        replace hb' := hb'.drew
        replace g1 := g1.drew
        replace g8 := g8.drew
        replace g10 := g10.drew
        replace hp := hp.drew
        replace hq := hq.drew
        replace hz1 := hz1.drew
        replace hz2 := hz2.drew
        replace hz3 := hz3.drew
        replace h7 := h7.drew
        replace h8 := h8.drew
        replace h9 := h9.drew
        replace h10 := h10.drew
        replace h11 := h11.drew
        replace g19 := g19.drew
        replace hb := hb.drew
        have lt_hp := hp.lt
        have lt_hq := hq.lt
        have lt_hz1 := hz1.lt
        have lt_hz2 := hz2.lt
        have lt_hz3 := hz3.lt
        have lt_h7 := h7.lt
        have lt_h8 := h8.lt
        have lt_h9 := h9.lt
        have lt_h10 := h10.lt
        have lt_h11 := h11.lt
        have kb0 := hb.size
        go_wp2_with fail
        refine wp_region_fl [(0, false), (2, false), (1, true), (3, true), (4, false), (5, false), (6, false)] [9, 10] [7, 8] (fun _ => obZ) [0, 99, 1, 99, 99, 99, 99, 99, 99, 99, 99] [] (fun w' => w'.cell? ⟨w.heap.size + 1, 0, none⟩ = some (.bool nb) ∧ w'.cell? ⟨w.heap.size + 1, 1, none⟩ = some (.slice ob ys.length cb) ∧ w'.cell? ⟨w_1.heap.size, 0, none⟩ = some (.bool sb_h7) ∧ w'.cell? ⟨w_1.heap.size, 1, none⟩ = some (.slice o_h7 n_h7 c_h7)) [fun w' => w'.cell? ⟨w.heap.size + 1, 0, none⟩ = some (.bool nb) ∧ w'.cell? ⟨w.heap.size + 1, 1, none⟩ = some (.slice ob ys.length cb), fun w' => w'.cell? ⟨w_1.heap.size, 0, none⟩ = some (.bool sb_h7) ∧ w'.cell? ⟨w_1.heap.size, 1, none⟩ = some (.slice o_h7 n_h7 c_h7)] (by kernel_rfl) (by kernel_rfl) (by kernel_rfl) (by kernel_rfl) (by kernel_rfl) (by kernel_rfl) (by kernel_rfl) (by kernel_rfl) (by decide) (by intro j hj; simp only [List.mem_cons, List.not_mem_nil, or_false] at hj; rcases hj with rfl | rfl; all_goals exact ⟨_, rfl, rfl, fun ρ w => run_alloc_z w⟩) (by intro w' o hC; obtain ⟨c0, c1, c2, c3⟩ := hC; exact ⟨cell_alloc c0 o, cell_alloc c1 o, cell_alloc c2 o, cell_alloc c3 o⟩) (by intro w' hC G hG; obtain ⟨c0, c1, c2, c3⟩ := hC; simp only [List.mem_cons, List.not_mem_nil, or_false] at hG; rcases hG with rfl | rfl <;> first | exact ⟨c0, c1⟩ | exact ⟨c2, c3⟩) ⟨hq.facts.1, hq.facts.2.1, h7.facts.1, h7.facts.2.1⟩ ?_
        clear f_h10
        apply wpFl_ld
        case hG => rfl
        case hi => rfl
        case h1 => intro w' hC K hK; obtain ⟨c0, c1⟩ := hC; (first | go_big_move | go_big_op); exact hK
        case hw => kernel_rfl
        case hv => kernel_rfl
        case hb => kernel_rfl
        case hp => kernel_rfl
        apply wpFl_ld
        case hG => rfl
        case hi => rfl
        case h1 => intro w' hC K hK; obtain ⟨c0, c1⟩ := hC; (first | go_big_move | go_big_op); exact hK
        case hw => kernel_rfl
        case hv => kernel_rfl
        case hb => kernel_rfl
        case hp => kernel_rfl
        apply wpFl_call
        case hi => rfl
        case hw => kernel_rfl
        case h =>
        intro w_33 hn hC
        clear hC
        replace ha := ha.below hn (Nat.le_refl _)
        replace hb' := hb'.below hn (Nat.le_refl _)
        replace g1 := g1.below hn (Nat.le_refl _)
        replace g8 := g8.below hn (Nat.le_refl _)
        replace g10 := g10.below hn (Nat.le_refl _)
        replace hp := hp.below hn (Nat.le_refl _)
        replace hq := hq.below hn (Nat.le_refl _)
        replace hz1 := hz1.below hn (Nat.le_refl _)
        replace hz2 := hz2.below hn (Nat.le_refl _)
        replace hz3 := hz3.below hn (Nat.le_refl _)
        replace h7 := h7.below hn (Nat.le_refl _)
        replace h8 := h8.below hn (Nat.le_refl _)
        replace h9 := h9.below hn (Nat.le_refl _)
        replace h10 := h10.below hn (Nat.le_refl _)
        replace h11 := h11.below hn (Nat.le_refl _)
        replace g19 := g19.below hn (Nat.le_refl _)
        replace hb := hb.trans (hn.mono hb.size)
        clear hn
        intro K hK
        have kb_34 := hb.size
        go_big_op
        go_fit (rabs_any hb' (by omega))
        rintro e w_34 ⟨v20, rfl, g20, hb_34⟩
        replace ha := ha.below hb_34 (Nat.le_refl _)
        replace hb' := hb'.below hb_34 (Nat.le_refl _)
        replace g1 := g1.below hb_34 (Nat.le_refl _)
        replace g8 := g8.below hb_34 (Nat.le_refl _)
        replace g10 := g10.below hb_34 (Nat.le_refl _)
        replace hp := hp.below hb_34 (Nat.le_refl _)
        replace hq := hq.below hb_34 (Nat.le_refl _)
        replace hz1 := hz1.below hb_34 (Nat.le_refl _)
        replace hz2 := hz2.below hb_34 (Nat.le_refl _)
        replace hz3 := hz3.below hb_34 (Nat.le_refl _)
        replace h7 := h7.below hb_34 (Nat.le_refl _)
        replace h8 := h8.below hb_34 (Nat.le_refl _)
        replace h9 := h9.below hb_34 (Nat.le_refl _)
        replace h10 := h10.below hb_34 (Nat.le_refl _)
        replace h11 := h11.below hb_34 (Nat.le_refl _)
        replace g19 := g19.below hb_34 (Nat.le_refl _)
        replace hb := hb.trans (hb_34.mono hb.size)
        refine hK _ _ rfl hb_34 ⟨hq.facts.1, hq.facts.2.1, h7.facts.1, h7.facts.2.1⟩ ?_
        clear hK K hb_34
        replace g20 := g20.rd
        apply wpFl_call
        case hi => rfl
        case hw => kernel_rfl
        case h =>
        intro w_35 hn hC
        clear hC
        replace ha := ha.below hn (Nat.le_refl _)
        replace hb' := hb'.below hn (Nat.le_refl _)
        replace g1 := g1.below hn (Nat.le_refl _)
        replace g8 := g8.below hn (Nat.le_refl _)
        replace g10 := g10.below hn (Nat.le_refl _)
        replace hp := hp.below hn (Nat.le_refl _)
        replace hq := hq.below hn (Nat.le_refl _)
        replace hz1 := hz1.below hn (Nat.le_refl _)
        replace hz2 := hz2.below hn (Nat.le_refl _)
        replace hz3 := hz3.below hn (Nat.le_refl _)
        replace h7 := h7.below hn (Nat.le_refl _)
        replace h8 := h8.below hn (Nat.le_refl _)
        replace h9 := h9.below hn (Nat.le_refl _)
        replace h10 := h10.below hn (Nat.le_refl _)
        replace h11 := h11.below hn (Nat.le_refl _)
        replace g19 := g19.below hn (Nat.le_refl _)
        replace g20 := g20.below hn (Nat.le_refl _)
        replace hb := hb.trans (hn.mono hb.size)
        clear hn
        intro K hK
        have kb_36 := hb.size
        go_big_op
        go_fit (rfloor_any (g20.zn LA.out) (g1.zn LG.out) (by omega) (by omega) HG0.out)
        rintro e w_36 ⟨v21, v22, rfl, g21, g22, hb_36⟩
        replace ha := ha.below hb_36 (Nat.le_refl _)
        replace hb' := hb'.below hb_36 (Nat.le_refl _)
        replace g1 := g1.below hb_36 (Nat.le_refl _)
        replace g8 := g8.below hb_36 (Nat.le_refl _)
        replace g10 := g10.below hb_36 (Nat.le_refl _)
        replace hp := hp.below hb_36 (Nat.le_refl _)
        replace hq := hq.below hb_36 (Nat.le_refl _)
        replace hz1 := hz1.below hb_36 (Nat.le_refl _)
        replace hz2 := hz2.below hb_36 (Nat.le_refl _)
        replace hz3 := hz3.below hb_36 (Nat.le_refl _)
        replace h7 := h7.below hb_36 (Nat.le_refl _)
        replace h8 := h8.below hb_36 (Nat.le_refl _)
        replace h9 := h9.below hb_36 (Nat.le_refl _)
        replace h10 := h10.below hb_36 (Nat.le_refl _)
        replace h11 := h11.below hb_36 (Nat.le_refl _)
        replace g19 := g19.below hb_36 (Nat.le_refl _)
        replace g20 := g20.below hb_36 (Nat.le_refl _)
        replace hb := hb.trans (hb_36.mono hb.size)
        refine hK _ _ rfl hb_36 ⟨hq.facts.1, hq.facts.2.1, h7.facts.1, h7.facts.2.1⟩ ?_
        clear hK K hb_36
        clear g20
        apply wpFl_ld
        case hG => rfl
        case hi => rfl
        case h1 => intro w' hC K hK; clear hC; (first | go_big_move | go_big_op); exact hK
        case hw => kernel_rfl
        case hv => kernel_rfl
        case hb => kernel_rfl
        case hp => kernel_rfl
        apply wpFl_ld
        case hG => rfl
        case hi => rfl
        case h1 => intro w' hC K hK; clear hC; (first | go_big_move | go_big_op); exact hK
        case hw => kernel_rfl
        case hv => kernel_rfl
        case hb => kernel_rfl
        case hp => kernel_rfl
        apply wpFl_ld
        case hG => rfl
        case hi => rfl
        case h1 => intro w' hC K hK; clear hC; (first | go_big_move | go_big_op); exact hK
        case hw => kernel_rfl
        case hv => kernel_rfl
        case hb => kernel_rfl
        case hp => kernel_rfl
        apply wpFl_end
        case ha => intro pt; simp only [putF, nthO, Act.put, ptr, List.setIfInBounds_toArray, List.set_cons_succ, List.set_cons_zero]; rfl
        case h =>
        intro w_37 pt hn hC hF hD
        clear hC
        replace ha := ha.below hn (Nat.le_refl _)
        replace hb' := hb'.below hn (Nat.le_refl _)
        replace g1 := g1.below hn (Nat.le_refl _)
        replace g8 := g8.below hn (Nat.le_refl _)
        replace g10 := g10.below hn (Nat.le_refl _)
        replace hp := hp.below hn (Nat.le_refl _)
        replace hq := hq.below hn (Nat.le_refl _)
        replace hz1 := hz1.below hn (Nat.le_refl _)
        replace hz2 := hz2.below hn (Nat.le_refl _)
        replace hz3 := hz3.below hn (Nat.le_refl _)
        replace h7 := h7.below hn (Nat.le_refl _)
        replace h8 := h8.below hn (Nat.le_refl _)
        replace h9 := h9.below hn (Nat.le_refl _)
        replace h10 := h10.below hn (Nat.le_refl _)
        replace h11 := h11.below hn (Nat.le_refl _)
        replace g19 := g19.below hn (Nat.le_refl _)
        replace g21 := g21.below hn (Nat.le_refl _)
        replace g22 := g22.below hn (Nat.le_refl _)
        replace hb := hb.trans (hn.mono hb.size)
        clear hn
        obtain ⟨kB_h14, h14⟩ := hF 7 (by decide)
        replace h14 := obZ_bk h14
        obtain ⟨kB_h15, h15⟩ := hF 8 (by decide)
        replace h15 := obZ_bk h15
        have ne_h14_h15 := hD 7 (by decide) 8 (by decide) (by decide)
        clear hF hD
        generalize pt 7 = p_h14 at *
        generalize pt 8 = p_h15 at *
        clear pt
        have kb_h14 := Nat.le_trans kb0 kB_h14
        have ne_hp_h14 : w.heap.size ≠ p_h14 := Nat.ne_of_lt (Nat.lt_of_lt_of_le lt_hp kB_h14)
        have ne_hq_h14 : w.heap.size + 1 ≠ p_h14 := Nat.ne_of_lt (Nat.lt_of_lt_of_le lt_hq kB_h14)
        have ne_hz1_h14 : w.heap.size + 1 + 1 ≠ p_h14 := Nat.ne_of_lt (Nat.lt_of_lt_of_le lt_hz1 kB_h14)
        have ne_hz2_h14 : w.heap.size + 1 + 1 + 1 ≠ p_h14 := Nat.ne_of_lt (Nat.lt_of_lt_of_le lt_hz2 kB_h14)
        have ne_hz3_h14 : w.heap.size + 1 + 1 + 1 + 1 ≠ p_h14 := Nat.ne_of_lt (Nat.lt_of_lt_of_le lt_hz3 kB_h14)
        have ne_h7_h14 : w_1.heap.size ≠ p_h14 := Nat.ne_of_lt (Nat.lt_of_lt_of_le lt_h7 kB_h14)
        have ne_h8_h14 : p_h8 ≠ p_h14 := Nat.ne_of_lt (Nat.lt_of_lt_of_le lt_h8 kB_h14)
        have ne_h9_h14 : p_h9 ≠ p_h14 := Nat.ne_of_lt (Nat.lt_of_lt_of_le lt_h9 kB_h14)
        have ne_h10_h14 : w_7.heap.size ≠ p_h14 := Nat.ne_of_lt (Nat.lt_of_lt_of_le lt_h10 kB_h14)
        have ne_h11_h14 : w_8.heap.size ≠ p_h14 := Nat.ne_of_lt (Nat.lt_of_lt_of_le lt_h11 kB_h14)
        clear kB_h14
        have kb_h15 := Nat.le_trans kb0 kB_h15
        have ne_hp_h15 : w.heap.size ≠ p_h15 := Nat.ne_of_lt (Nat.lt_of_lt_of_le lt_hp kB_h15)
        have ne_hq_h15 : w.heap.size + 1 ≠ p_h15 := Nat.ne_of_lt (Nat.lt_of_lt_of_le lt_hq kB_h15)
        have ne_hz1_h15 : w.heap.size + 1 + 1 ≠ p_h15 := Nat.ne_of_lt (Nat.lt_of_lt_of_le lt_hz1 kB_h15)
        have ne_hz2_h15 : w.heap.size + 1 + 1 + 1 ≠ p_h15 := Nat.ne_of_lt (Nat.lt_of_lt_of_le lt_hz2 kB_h15)
        have ne_hz3_h15 : w.heap.size + 1 + 1 + 1 + 1 ≠ p_h15 := Nat.ne_of_lt (Nat.lt_of_lt_of_le lt_hz3 kB_h15)
        have ne_h7_h15 : w_1.heap.size ≠ p_h15 := Nat.ne_of_lt (Nat.lt_of_lt_of_le lt_h7 kB_h15)
        have ne_h8_h15 : p_h8 ≠ p_h15 := Nat.ne_of_lt (Nat.lt_of_lt_of_le lt_h8 kB_h15)
        have ne_h9_h15 : p_h9 ≠ p_h15 := Nat.ne_of_lt (Nat.lt_of_lt_of_le lt_h9 kB_h15)
        have ne_h10_h15 : w_7.heap.size ≠ p_h15 := Nat.ne_of_lt (Nat.lt_of_lt_of_le lt_h10 kB_h15)
        have ne_h11_h15 : w_8.heap.size ≠ p_h15 := Nat.ne_of_lt (Nat.lt_of_lt_of_le lt_h11 kB_h15)
        clear kB_h15
        clear lt_hp
        clear lt_hq
        clear lt_hz1
        clear lt_hz2
        clear lt_hz3
        clear lt_h7
        clear lt_h8
        clear lt_h9
        clear lt_h10
        clear lt_h11
        clear kb0
        obtain ⟨sb_h14, o_h14, n_h14, c_h14, rfl⟩ := g21.open2
        apply wpTail_call
        case hi => rfl
        case hw => kernel_rfl
        case h =>
        intro K hK
        have c9_ := h14.facts
        go_big_op
        have ho := Bk.only w_37 (p_h14) sb_h14 (.slice o_h14 n_h14 c_h14)
        have hbx_ := h14.bx
        replace ha := ha.frame hbx_ ho
        replace hb' := hb'.frame hbx_ ho
        replace g1 := g1.frame hbx_ ho
        replace g8 := g8.frame hbx_ ho
        replace g10 := g10.frame hbx_ ho
        replace hp := hp.frame ho (by first | assumption | (apply Ne.symm; assumption) | (simp; done) | omega)
        replace hq := hq.frame ho (by first | assumption | (apply Ne.symm; assumption) | (simp; done) | omega)
        replace hz1 := hz1.frame ho (by first | assumption | (apply Ne.symm; assumption) | (simp; done) | omega)
        replace hz2 := hz2.frame ho (by first | assumption | (apply Ne.symm; assumption) | (simp; done) | omega)
        replace hz3 := hz3.frame ho (by first | assumption | (apply Ne.symm; assumption) | (simp; done) | omega)
        replace h7 := h7.frame ho (by first | assumption | (apply Ne.symm; assumption) | (simp; done) | omega)
        replace h8 := h8.frame ho (by first | assumption | (apply Ne.symm; assumption) | (simp; done) | omega)
        replace h9 := h9.frame ho (by first | assumption | (apply Ne.symm; assumption) | (simp; done) | omega)
        replace h10 := h10.frame ho (by first | assumption | (apply Ne.symm; assumption) | (simp; done) | omega)
        replace h11 := h11.frame ho (by first | assumption | (apply Ne.symm; assumption) | (simp; done) | omega)
        replace g19 := g19.frame hbx_ ho
        replace g21 := g21.frame hbx_ ho
        replace g22 := g22.frame hbx_ ho
        replace h15 := h15.frame ho (by first | assumption | (apply Ne.symm; assumption) | (simp; done) | omega)
        replace h14 := h14.store sb_h14 (.slice o_h14 n_h14 c_h14)
        replace hb := (hb.setCell (p := ⟨p_h14, 0, none⟩) (show w.heap.size ≤ p_h14 by first | assumption | (simp; done) | omega) (.bool sb_h14)).setCell (p := ⟨p_h14, 1, none⟩) (show w.heap.size ≤ p_h14 by first | assumption | (simp; done) | omega) (.slice o_h14 n_h14 c_h14)
        refine hK _ _ rfl (And.intro (And.intro hq.facts.1 hq.facts.2.1) (And.intro (And.intro h7.facts.1 h7.facts.2.1) True.intro)) ?_
        clear hK K hbx_ ho c9_
        obtain ⟨sb_h15, o_h15, n_h15, c_h15, rfl⟩ := g22.open2
        apply wpTail_call
        case hi => rfl
        case hw => kernel_rfl
        case h =>
        intro K hK
        have c9_ := h15.facts
        go_big_op
        have ho := Bk.only ((w_37.setCell ⟨p_h14, 0, none⟩ (.bool sb_h14)).setCell ⟨p_h14, 1, none⟩ (.slice o_h14 n_h14 c_h14)) (p_h15) sb_h15 (.slice o_h15 n_h15 c_h15)
        have hbx_ := h15.bx
        replace ha := ha.frame hbx_ ho
        replace hb' := hb'.frame hbx_ ho
        replace g1 := g1.frame hbx_ ho
        replace g8 := g8.frame hbx_ ho
        replace g10 := g10.frame hbx_ ho
        replace hp := hp.frame ho (by first | assumption | (apply Ne.symm; assumption) | (simp; done) | omega)
        replace hq := hq.frame ho (by first | assumption | (apply Ne.symm; assumption) | (simp; done) | omega)
        replace hz1 := hz1.frame ho (by first | assumption | (apply Ne.symm; assumption) | (simp; done) | omega)
        replace hz2 := hz2.frame ho (by first | assumption | (apply Ne.symm; assumption) | (simp; done) | omega)
        replace hz3 := hz3.frame ho (by first | assumption | (apply Ne.symm; assumption) | (simp; done) | omega)
        replace h7 := h7.frame ho (by first | assumption | (apply Ne.symm; assumption) | (simp; done) | omega)
        replace h8 := h8.frame ho (by first | assumption | (apply Ne.symm; assumption) | (simp; done) | omega)
        replace h9 := h9.frame ho (by first | assumption | (apply Ne.symm; assumption) | (simp; done) | omega)
        replace h10 := h10.frame ho (by first | assumption | (apply Ne.symm; assumption) | (simp; done) | omega)
        replace h11 := h11.frame ho (by first | assumption | (apply Ne.symm; assumption) | (simp; done) | omega)
        replace g19 := g19.frame hbx_ ho
        replace g21 := g21.frame hbx_ ho
        replace g22 := g22.frame hbx_ ho
        replace h14 := h14.frame ho (by first | assumption | (apply Ne.symm; assumption) | (simp; done) | omega)
        replace h15 := h15.store sb_h15 (.slice o_h15 n_h15 c_h15)
        replace hb := (hb.setCell (p := ⟨p_h15, 0, none⟩) (show w.heap.size ≤ p_h15 by first | assumption | (simp; done) | omega) (.bool sb_h15)).setCell (p := ⟨p_h15, 1, none⟩) (show w.heap.size ≤ p_h15 by first | assumption | (simp; done) | omega) (.slice o_h15 n_h15 c_h15)
        refine hK _ _ rfl (And.intro (And.intro hq.facts.1 hq.facts.2.1) (And.intro (And.intro h7.facts.1 h7.facts.2.1) True.intro)) ?_
        clear hK K hbx_ ho c9_
        apply wpTail_end
        have HXG := hide (XG.of H0.out hdv)
        obtain ⟨c, hc⟩ : ∃ c, (-X).fmod (((y.natAbs : Int)).fdiv (Int.gcd x y)) = c := ⟨_, rfl⟩
        rw [hc] at HXG
        have HC := hide hc
        clear hc
        have LC := hide (show (dig c.natAbs).length ≤ m from len_le (HXG.out.le H0.out) LY.out)
        have LMC := hide (zlen_mul Lx.out LC.out)
        have LD := hide (zlen_sub LG.out LMC.out)
        have f_h10 := h10.facts
        have f_h14 := h14.facts
        go_wp2_with fail
        refine (rfloor_any (g19.zn LNX.out) (g21.zn LP.out) (by omega) (by omega) HPP.out).mono ?_
        rintro e w_38 ⟨v23, v24, rfl, g23, g24, hb_38⟩
        replace ha := ha.below hb_38 (Nat.le_refl _)
        replace hb' := hb'.below hb_38 (Nat.le_refl _)
        replace g1 := g1.below hb_38 (Nat.le_refl _)
        replace g8 := g8.below hb_38 (Nat.le_refl _)
        replace g10 := g10.below hb_38 (Nat.le_refl _)
        replace hp := hp.below hb_38 (Nat.le_refl _)
        replace hq := hq.below hb_38 (Nat.le_refl _)
        replace hz1 := hz1.below hb_38 (Nat.le_refl _)
        replace hz2 := hz2.below hb_38 (Nat.le_refl _)
        replace hz3 := hz3.below hb_38 (Nat.le_refl _)
        replace h7 := h7.below hb_38 (Nat.le_refl _)
        replace h8 := h8.below hb_38 (Nat.le_refl _)
        replace h9 := h9.below hb_38 (Nat.le_refl _)
        replace h10 := h10.below hb_38 (Nat.le_refl _)
        replace h11 := h11.below hb_38 (Nat.le_refl _)
        replace g19 := g19.below hb_38 (Nat.le_refl _)
        replace g21 := g21.below hb_38 (Nat.le_refl _)
        replace g22 := g22.below hb_38 (Nat.le_refl _)
        replace h14 := h14.below hb_38 (Nat.le_refl _)
        replace h15 := h15.below hb_38 (Nat.le_refl _)
        have kk24 := hb.size
        replace hb := hb.trans (hb_38.mono hb.size)
        clear hb_38
        rw [HC.out] at g24
        clear f_h10 f_h14
        clear g23
        obtain ⟨sb_h10, o_h10, n_h10, c_h10, rfl⟩ := g24.open2
        have f_h10 := h10.facts
        have ho := Bk.only w_38 (w_7.heap.size) sb_h10 (.slice o_h10 n_h10 c_h10)
        have hbx_ := h10.bx
        replace ha := ha.frame hbx_ ho
        replace hb' := hb'.frame hbx_ ho
        replace g1 := g1.frame hbx_ ho
        replace g8 := g8.frame hbx_ ho
        replace g10 := g10.frame hbx_ ho
        replace hp := hp.frame ho (by first | assumption | (apply Ne.symm; assumption) | (simp; done) | omega)
        replace hq := hq.frame ho (by first | assumption | (apply Ne.symm; assumption) | (simp; done) | omega)
        replace hz1 := hz1.frame ho (by first | assumption | (apply Ne.symm; assumption) | (simp; done) | omega)
        replace hz2 := hz2.frame ho (by first | assumption | (apply Ne.symm; assumption) | (simp; done) | omega)
        replace hz3 := hz3.frame ho (by first | assumption | (apply Ne.symm; assumption) | (simp; done) | omega)
        replace h7 := h7.frame ho (by first | assumption | (apply Ne.symm; assumption) | (simp; done) | omega)
        replace h8 := h8.frame ho (by first | assumption | (apply Ne.symm; assumption) | (simp; done) | omega)
        replace h9 := h9.frame ho (by first | assumption | (apply Ne.symm; assumption) | (simp; done) | omega)
        replace h11 := h11.frame ho (by first | assumption | (apply Ne.symm; assumption) | (simp; done) | omega)
        replace g19 := g19.frame hbx_ ho
        replace g21 := g21.frame hbx_ ho
        replace g22 := g22.frame hbx_ ho
        replace h14 := h14.frame ho (by first | assumption | (apply Ne.symm; assumption) | (simp; done) | omega)
        replace h15 := h15.frame ho (by first | assumption | (apply Ne.symm; assumption) | (simp; done) | omega)
        replace g24 := g24.frame hbx_ ho
        replace h10 := h10.store sb_h10 (.slice o_h10 n_h10 c_h10)
        replace hb := (hb.setCell (p := ⟨w_7.heap.size, 0, none⟩) (show w.heap.size ≤ w_7.heap.size by first | assumption | (simp; done) | omega) (.bool sb_h10)).setCell (p := ⟨w_7.heap.size, 1, none⟩) (show w.heap.size ≤ w_7.heap.size by first | assumption | (simp; done) | omega) (.slice o_h10 n_h10 c_h10)
        clear ho hbx_
        obtain ⟨w_39, hw_39⟩ : ∃ v, ((w_38.setCell ⟨w_7.heap.size, 0, none⟩ (.bool sb_h10)).setCell ⟨w_7.heap.size, 1, none⟩ (.slice o_h10 n_h10 c_h10)) = v := ⟨_, rfl⟩
        rw [hw_39] at ha hb' g1 g8 g10 hp hq hz1 hz2 hz3 h7 h8 h9 h10 h11 g19 g21 g22 h14 h15 g24 hb
        replace ha := ha.drew
        replace hb' := hb'.drew
        replace g1 := g1.drew
        replace g8 := g8.drew
        replace g10 := g10.drew
        replace hp := hp.drew
        replace hq := hq.drew
        replace hz1 := hz1.drew
        replace hz2 := hz2.drew
        replace hz3 := hz3.drew
        replace h7 := h7.drew
        replace h8 := h8.drew
        replace h9 := h9.drew
        replace h10 := h10.drew
        replace h11 := h11.drew
        replace g19 := g19.drew
        replace g21 := g21.drew
        replace g22 := g22.drew
        replace h14 := h14.drew
        replace h15 := h15.drew
        replace g24 := g24.drew
        replace hb := hb.drew
        have lt_hp := hp.lt
        have lt_hq := hq.lt
        have lt_hz1 := hz1.lt
        have lt_hz2 := hz2.lt
        have lt_hz3 := hz3.lt
        have lt_h7 := h7.lt
        have lt_h8 := h8.lt
        have lt_h9 := h9.lt
        have lt_h10 := h10.lt
        have lt_h11 := h11.lt
        have lt_h14 := h14.lt
        have lt_h15 := h15.lt
        have kb0 := hb.size
        go_wp2_with fail
        refine wp_region_fl [(0, false), (1, false), (2, false), (5, false), (3, true), (4, true), (6, true), (7, false), (8, false), (9, false)] [12, 13] [10, 11] (fun _ => obZ) [2, 0, 3, 99, 99, 1, 99, 99, 99, 99, 99, 99, 99, 99] [] (fun w' => w'.cell? ⟨w.heap.size, 0, none⟩ = some (.bool na) ∧ w'.cell? ⟨w.heap.size, 1, none⟩ = some (.slice oa xs.length ca) ∧ w'.cell? ⟨w.heap.size + 1, 0, none⟩ = some (.bool nb) ∧ w'.cell? ⟨w.heap.size + 1, 1, none⟩ = some (.slice ob ys.length cb) ∧ w'.cell? ⟨w_1.heap.size, 0, none⟩ = some (.bool sb_h7) ∧ w'.cell? ⟨w_1.heap.size, 1, none⟩ = some (.slice o_h7 n_h7 c_h7) ∧ w'.cell? ⟨w_7.heap.size, 0, none⟩ = some (.bool sb_h10) ∧ w'.cell? ⟨w_7.heap.size, 1, none⟩ = some (.slice o_h10 n_h10 c_h10)) [fun w' => w'.cell? ⟨w.heap.size, 0, none⟩ = some (.bool na) ∧ w'.cell? ⟨w.heap.size, 1, none⟩ = some (.slice oa xs.length ca), fun w' => w'.cell? ⟨w.heap.size + 1, 0, none⟩ = some (.bool nb) ∧ w'.cell? ⟨w.heap.size + 1, 1, none⟩ = some (.slice ob ys.length cb), fun w' => w'.cell? ⟨w_1.heap.size, 0, none⟩ = some (.bool sb_h7) ∧ w'.cell? ⟨w_1.heap.size, 1, none⟩ = some (.slice o_h7 n_h7 c_h7), fun w' => w'.cell? ⟨w_7.heap.size, 0, none⟩ = some (.bool sb_h10) ∧ w'.cell? ⟨w_7.heap.size, 1, none⟩ = some (.slice o_h10 n_h10 c_h10)] (by kernel_rfl) (by kernel_rfl) (by kernel_rfl) (by kernel_rfl) (by kernel_rfl) (by kernel_rfl) (by kernel_rfl) (by kernel_rfl) (by decide) (by intro j hj; simp only [List.mem_cons, List.not_mem_nil, or_false] at hj; rcases hj with rfl | rfl; all_goals exact ⟨_, rfl, rfl, fun ρ w => run_alloc_z w⟩) (by intro w' o hC; obtain ⟨c0, c1, c2, c3, c4, c5, c6, c7⟩ := hC; exact ⟨cell_alloc c0 o, cell_alloc c1 o, cell_alloc c2 o, cell_alloc c3 o, cell_alloc c4 o, cell_alloc c5 o, cell_alloc c6 o, cell_alloc c7 o⟩) (by intro w' hC G hG; obtain ⟨c0, c1, c2, c3, c4, c5, c6, c7⟩ := hC; simp only [List.mem_cons, List.not_mem_nil, or_false] at hG; rcases hG with rfl | rfl | rfl | rfl <;> first | exact ⟨c0, c1⟩ | exact ⟨c2, c3⟩ | exact ⟨c4, c5⟩ | exact ⟨c6, c7⟩) ⟨hp.facts.1, hp.facts.2.1, hq.facts.1, hq.facts.2.1, h7.facts.1, h7.facts.2.1, h10.facts.1, h10.facts.2.1⟩ ?_
        clear f_h10
        apply wpFl_ld
        case hG => rfl
        case hi => rfl
        case h1 => intro w' hC K hK; obtain ⟨c0, c1⟩ := hC; (first | go_big_move | go_big_op); exact hK
        case hw => kernel_rfl
        case hv => kernel_rfl
        case hb => kernel_rfl
        case hp => kernel_rfl
        apply wpFl_ld
        case hG => rfl
        case hi => rfl
        case h1 => intro w' hC K hK; obtain ⟨c0, c1⟩ := hC; (first | go_big_move | go_big_op); exact hK
        case hw => kernel_rfl
        case hv => kernel_rfl
        case hb => kernel_rfl
        case hp => kernel_rfl
        apply wpFl_ld
        case hG => rfl
        case hi => rfl
        case h1 => intro w' hC K hK; obtain ⟨c0, c1⟩ := hC; (first | go_big_move | go_big_op); exact hK
        case hw => kernel_rfl
        case hv => kernel_rfl
        case hb => kernel_rfl
        case hp => kernel_rfl
        apply wpFl_ld
        case hG => rfl
        case hi => rfl
        case h1 => intro w' hC K hK; obtain ⟨c0, c1⟩ := hC; (first | go_big_move | go_big_op); exact hK
        case hw => kernel_rfl
        case hv => kernel_rfl
        case hb => kernel_rfl
        case hp => kernel_rfl
        apply wpFl_call
        case hi => rfl
        case hw => kernel_rfl
        case h =>
        intro w_40 hn hC
        clear hC
        replace ha := ha.below hn (Nat.le_refl _)
        replace hb' := hb'.below hn (Nat.le_refl _)
        replace g1 := g1.below hn (Nat.le_refl _)
        replace g8 := g8.below hn (Nat.le_refl _)
        replace g10 := g10.below hn (Nat.le_refl _)
        replace hp := hp.below hn (Nat.le_refl _)
        replace hq := hq.below hn (Nat.le_refl _)
        replace hz1 := hz1.below hn (Nat.le_refl _)
        replace hz2 := hz2.below hn (Nat.le_refl _)
        replace hz3 := hz3.below hn (Nat.le_refl _)
        replace h7 := h7.below hn (Nat.le_refl _)
        replace h8 := h8.below hn (Nat.le_refl _)
        replace h9 := h9.below hn (Nat.le_refl _)
        replace h10 := h10.below hn (Nat.le_refl _)
        replace h11 := h11.below hn (Nat.le_refl _)
        replace g19 := g19.below hn (Nat.le_refl _)
        replace g21 := g21.below hn (Nat.le_refl _)
        replace g22 := g22.below hn (Nat.le_refl _)
        replace h14 := h14.below hn (Nat.le_refl _)
        replace h15 := h15.below hn (Nat.le_refl _)
        replace g24 := g24.below hn (Nat.le_refl _)
        replace hb := hb.trans (hn.mono hb.size)
        clear hn
        intro K hK
        have kb_41 := hb.size
        go_big_op
        go_fit (rzmul_any ha (g24.zn LC.out) (by omega) (by omega))
        rintro e w_41 ⟨v25, rfl, g25, hb_41⟩
        replace ha := ha.below hb_41 (Nat.le_refl _)
        replace hb' := hb'.below hb_41 (Nat.le_refl _)
        replace g1 := g1.below hb_41 (Nat.le_refl _)
        replace g8 := g8.below hb_41 (Nat.le_refl _)
        replace g10 := g10.below hb_41 (Nat.le_refl _)
        replace hp := hp.below hb_41 (Nat.le_refl _)
        replace hq := hq.below hb_41 (Nat.le_refl _)
        replace hz1 := hz1.below hb_41 (Nat.le_refl _)
        replace hz2 := hz2.below hb_41 (Nat.le_refl _)
        replace hz3 := hz3.below hb_41 (Nat.le_refl _)
        replace h7 := h7.below hb_41 (Nat.le_refl _)
        replace h8 := h8.below hb_41 (Nat.le_refl _)
        replace h9 := h9.below hb_41 (Nat.le_refl _)
        replace h10 := h10.below hb_41 (Nat.le_refl _)
        replace h11 := h11.below hb_41 (Nat.le_refl _)
        replace g19 := g19.below hb_41 (Nat.le_refl _)
        replace g21 := g21.below hb_41 (Nat.le_refl _)
        replace g22 := g22.below hb_41 (Nat.le_refl _)
        replace h14 := h14.below hb_41 (Nat.le_refl _)
        replace h15 := h15.below hb_41 (Nat.le_refl _)
        replace g24 := g24.below hb_41 (Nat.le_refl _)
        replace hb := hb.trans (hb_41.mono hb.size)
        refine hK _ _ rfl hb_41 ⟨hp.facts.1, hp.facts.2.1, hq.facts.1, hq.facts.2.1, h7.facts.1, h7.facts.2.1, h10.facts.1, h10.facts.2.1⟩ ?_
        clear hK K hb_41
        replace g25 := g25.rd
        apply wpFl_call
        case hi => rfl
        case hw => kernel_rfl
        case h =>
        intro w_42 hn hC
        clear hC
        replace ha := ha.below hn (Nat.le_refl _)
        replace hb' := hb'.below hn (Nat.le_refl _)
        replace g1 := g1.below hn (Nat.le_refl _)
        replace g8 := g8.below hn (Nat.le_refl _)
        replace g10 := g10.below hn (Nat.le_refl _)
        replace hp := hp.below hn (Nat.le_refl _)
        replace hq := hq.below hn (Nat.le_refl _)
        replace hz1 := hz1.below hn (Nat.le_refl _)
        replace hz2 := hz2.below hn (Nat.le_refl _)
        replace hz3 := hz3.below hn (Nat.le_refl _)
        replace h7 := h7.below hn (Nat.le_refl _)
        replace h8 := h8.below hn (Nat.le_refl _)
        replace h9 := h9.below hn (Nat.le_refl _)
        replace h10 := h10.below hn (Nat.le_refl _)
        replace h11 := h11.below hn (Nat.le_refl _)
        replace g19 := g19.below hn (Nat.le_refl _)
        replace g21 := g21.below hn (Nat.le_refl _)
        replace g22 := g22.below hn (Nat.le_refl _)
        replace h14 := h14.below hn (Nat.le_refl _)
        replace h15 := h15.below hn (Nat.le_refl _)
        replace g24 := g24.below hn (Nat.le_refl _)
        replace g25 := g25.below hn (Nat.le_refl _)
        replace hb := hb.trans (hn.mono hb.size)
        clear hn
        intro K hK
        have kb_43 := hb.size
        go_big_op
        go_fit (rzsub_any (g1.zn LG.out) (g25.zn LMC.out) (by omega) (by omega))
        rintro e w_43 ⟨v26, rfl, g26, hb_43⟩
        replace ha := ha.below hb_43 (Nat.le_refl _)
        replace hb' := hb'.below hb_43 (Nat.le_refl _)
        replace g1 := g1.below hb_43 (Nat.le_refl _)
        replace g8 := g8.below hb_43 (Nat.le_refl _)
        replace g10 := g10.below hb_43 (Nat.le_refl _)
        replace hp := hp.below hb_43 (Nat.le_refl _)
        replace hq := hq.below hb_43 (Nat.le_refl _)
        replace hz1 := hz1.below hb_43 (Nat.le_refl _)
        replace hz2 := hz2.below hb_43 (Nat.le_refl _)
        replace hz3 := hz3.below hb_43 (Nat.le_refl _)
        replace h7 := h7.below hb_43 (Nat.le_refl _)
        replace h8 := h8.below hb_43 (Nat.le_refl _)
        replace h9 := h9.below hb_43 (Nat.le_refl _)
        replace h10 := h10.below hb_43 (Nat.le_refl _)
        replace h11 := h11.below hb_43 (Nat.le_refl _)
        replace g19 := g19.below hb_43 (Nat.le_refl _)
        replace g21 := g21.below hb_43 (Nat.le_refl _)
        replace g22 := g22.below hb_43 (Nat.le_refl _)
        replace h14 := h14.below hb_43 (Nat.le_refl _)
        replace h15 := h15.below hb_43 (Nat.le_refl _)
        replace g24 := g24.below hb_43 (Nat.le_refl _)
        replace g25 := g25.below hb_43 (Nat.le_refl _)
        replace hb := hb.trans (hb_43.mono hb.size)
        refine hK _ _ rfl hb_43 ⟨hp.facts.1, hp.facts.2.1, hq.facts.1, hq.facts.2.1, h7.facts.1, h7.facts.2.1, h10.facts.1, h10.facts.2.1⟩ ?_
        clear hK K hb_43
        replace g26 := g26.rd
        clear g25
        apply wpFl_call
        case hi => rfl
        case hw => kernel_rfl
        case h =>
        intro w_44 hn hC
        clear hC
        replace ha := ha.below hn (Nat.le_refl _)
        replace hb' := hb'.below hn (Nat.le_refl _)
        replace g1 := g1.below hn (Nat.le_refl _)
        replace g8 := g8.below hn (Nat.le_refl _)
        replace g10 := g10.below hn (Nat.le_refl _)
        replace hp := hp.below hn (Nat.le_refl _)
        replace hq := hq.below hn (Nat.le_refl _)
        replace hz1 := hz1.below hn (Nat.le_refl _)
        replace hz2 := hz2.below hn (Nat.le_refl _)
        replace hz3 := hz3.below hn (Nat.le_refl _)
        replace h7 := h7.below hn (Nat.le_refl _)
        replace h8 := h8.below hn (Nat.le_refl _)
        replace h9 := h9.below hn (Nat.le_refl _)
        replace h10 := h10.below hn (Nat.le_refl _)
        replace h11 := h11.below hn (Nat.le_refl _)
        replace g19 := g19.below hn (Nat.le_refl _)
        replace g21 := g21.below hn (Nat.le_refl _)
        replace g22 := g22.below hn (Nat.le_refl _)
        replace h14 := h14.below hn (Nat.le_refl _)
        replace h15 := h15.below hn (Nat.le_refl _)
        replace g24 := g24.below hn (Nat.le_refl _)
        replace g26 := g26.below hn (Nat.le_refl _)
        replace hb := hb.trans (hn.mono hb.size)
        clear hn
        intro K hK
        have kb_45 := hb.size
        go_big_op
        go_fit (rfloor_any (g26.zn LD.out) hb' (by omega) (by omega) H0.out)
        rintro e w_45 ⟨v27, v28, rfl, g27, g28, hb_45⟩
        replace ha := ha.below hb_45 (Nat.le_refl _)
        replace hb' := hb'.below hb_45 (Nat.le_refl _)
        replace g1 := g1.below hb_45 (Nat.le_refl _)
        replace g8 := g8.below hb_45 (Nat.le_refl _)
        replace g10 := g10.below hb_45 (Nat.le_refl _)
        replace hp := hp.below hb_45 (Nat.le_refl _)
        replace hq := hq.below hb_45 (Nat.le_refl _)
        replace hz1 := hz1.below hb_45 (Nat.le_refl _)
        replace hz2 := hz2.below hb_45 (Nat.le_refl _)
        replace hz3 := hz3.below hb_45 (Nat.le_refl _)
        replace h7 := h7.below hb_45 (Nat.le_refl _)
        replace h8 := h8.below hb_45 (Nat.le_refl _)
        replace h9 := h9.below hb_45 (Nat.le_refl _)
        replace h10 := h10.below hb_45 (Nat.le_refl _)
        replace h11 := h11.below hb_45 (Nat.le_refl _)
        replace g19 := g19.below hb_45 (Nat.le_refl _)
        replace g21 := g21.below hb_45 (Nat.le_refl _)
        replace g22 := g22.below hb_45 (Nat.le_refl _)
        replace h14 := h14.below hb_45 (Nat.le_refl _)
        replace h15 := h15.below hb_45 (Nat.le_refl _)
        replace g24 := g24.below hb_45 (Nat.le_refl _)
        replace g26 := g26.below hb_45 (Nat.le_refl _)
        replace hb := hb.trans (hb_45.mono hb.size)
        refine hK _ _ rfl hb_45 ⟨hp.facts.1, hp.facts.2.1, hq.facts.1, hq.facts.2.1, h7.facts.1, h7.facts.2.1, h10.facts.1, h10.facts.2.1⟩ ?_
        clear hK K hb_45
        clear g26
        apply wpFl_ld
        case hG => rfl
        case hi => rfl
        case h1 => intro w' hC K hK; clear hC; (first | go_big_move | go_big_op); exact hK
        case hw => kernel_rfl
        case hv => kernel_rfl
        case hb => kernel_rfl
        case hp => kernel_rfl
        apply wpFl_ld
        case hG => rfl
        case hi => rfl
        case h1 => intro w' hC K hK; clear hC; (first | go_big_move | go_big_op); exact hK
        case hw => kernel_rfl
        case hv => kernel_rfl
        case hb => kernel_rfl
        case hp => kernel_rfl
        apply wpFl_ld
        case hG => rfl
        case hi => rfl
        case h1 => intro w' hC K hK; clear hC; (first | go_big_move | go_big_op); exact hK
        case hw => kernel_rfl
        case hv => kernel_rfl
        case hb => kernel_rfl
        case hp => kernel_rfl
        apply wpFl_end
        case ha => intro pt; simp only [putF, nthO, Act.put, ptr, List.setIfInBounds_toArray, List.set_cons_succ, List.set_cons_zero]; rfl
        case h =>
        intro w_46 pt hn hC hF hD
        clear hC
        replace ha := ha.below hn (Nat.le_refl _)
        replace hb' := hb'.below hn (Nat.le_refl _)
        replace g1 := g1.below hn (Nat.le_refl _)
        replace g8 := g8.below hn (Nat.le_refl _)
        replace g10 := g10.below hn (Nat.le_refl _)
        replace hp := hp.below hn (Nat.le_refl _)
        replace hq := hq.below hn (Nat.le_refl _)
        replace hz1 := hz1.below hn (Nat.le_refl _)
        replace hz2 := hz2.below hn (Nat.le_refl _)
        replace hz3 := hz3.below hn (Nat.le_refl _)
        replace h7 := h7.below hn (Nat.le_refl _)
        replace h8 := h8.below hn (Nat.le_refl _)
        replace h9 := h9.below hn (Nat.le_refl _)
        replace h10 := h10.below hn (Nat.le_refl _)
        replace h11 := h11.below hn (Nat.le_refl _)
        replace g19 := g19.below hn (Nat.le_refl _)
        replace g21 := g21.below hn (Nat.le_refl _)
        replace g22 := g22.below hn (Nat.le_refl _)
        replace h14 := h14.below hn (Nat.le_refl _)
        replace h15 := h15.below hn (Nat.le_refl _)
        replace g24 := g24.below hn (Nat.le_refl _)
        replace g27 := g27.below hn (Nat.le_refl _)
        replace g28 := g28.below hn (Nat.le_refl _)
        replace hb := hb.trans (hn.mono hb.size)
        clear hn
        obtain ⟨kB_h16, h16⟩ := hF 10 (by decide)
        replace h16 := obZ_bk h16
        obtain ⟨kB_h17, h17⟩ := hF 11 (by decide)
        replace h17 := obZ_bk h17
        have ne_h16_h17 := hD 10 (by decide) 11 (by decide) (by decide)
        clear hF hD
        generalize pt 10 = p_h16 at *
        generalize pt 11 = p_h17 at *
        clear pt
        have kb_h16 := Nat.le_trans kb0 kB_h16
        have ne_hp_h16 : w.heap.size ≠ p_h16 := Nat.ne_of_lt (Nat.lt_of_lt_of_le lt_hp kB_h16)
        have ne_hq_h16 : w.heap.size + 1 ≠ p_h16 := Nat.ne_of_lt (Nat.lt_of_lt_of_le lt_hq kB_h16)
        have ne_hz1_h16 : w.heap.size + 1 + 1 ≠ p_h16 := Nat.ne_of_lt (Nat.lt_of_lt_of_le lt_hz1 kB_h16)
        have ne_hz2_h16 : w.heap.size + 1 + 1 + 1 ≠ p_h16 := Nat.ne_of_lt (Nat.lt_of_lt_of_le lt_hz2 kB_h16)
        have ne_hz3_h16 : w.heap.size + 1 + 1 + 1 + 1 ≠ p_h16 := Nat.ne_of_lt (Nat.lt_of_lt_of_le lt_hz3 kB_h16)
        have ne_h7_h16 : w_1.heap.size ≠ p_h16 := Nat.ne_of_lt (Nat.lt_of_lt_of_le lt_h7 kB_h16)
        have ne_h8_h16 : p_h8 ≠ p_h16 := Nat.ne_of_lt (Nat.lt_of_lt_of_le lt_h8 kB_h16)
        have ne_h9_h16 : p_h9 ≠ p_h16 := Nat.ne_of_lt (Nat.lt_of_lt_of_le lt_h9 kB_h16)
        have ne_h10_h16 : w_7.heap.size ≠ p_h16 := Nat.ne_of_lt (Nat.lt_of_lt_of_le lt_h10 kB_h16)
        have ne_h11_h16 : w_8.heap.size ≠ p_h16 := Nat.ne_of_lt (Nat.lt_of_lt_of_le lt_h11 kB_h16)
        have ne_h14_h16 : p_h14 ≠ p_h16 := Nat.ne_of_lt (Nat.lt_of_lt_of_le lt_h14 kB_h16)
        have ne_h15_h16 : p_h15 ≠ p_h16 := Nat.ne_of_lt (Nat.lt_of_lt_of_le lt_h15 kB_h16)
        clear kB_h16
        have kb_h17 := Nat.le_trans kb0 kB_h17
        have ne_hp_h17 : w.heap.size ≠ p_h17 := Nat.ne_of_lt (Nat.lt_of_lt_of_le lt_hp kB_h17)
        have ne_hq_h17 : w.heap.size + 1 ≠ p_h17 := Nat.ne_of_lt (Nat.lt_of_lt_of_le lt_hq kB_h17)
        have ne_hz1_h17 : w.heap.size + 1 + 1 ≠ p_h17 := Nat.ne_of_lt (Nat.lt_of_lt_of_le lt_hz1 kB_h17)
        have ne_hz2_h17 : w.heap.size + 1 + 1 + 1 ≠ p_h17 := Nat.ne_of_lt (Nat.lt_of_lt_of_le lt_hz2 kB_h17)
        have ne_hz3_h17 : w.heap.size + 1 + 1 + 1 + 1 ≠ p_h17 := Nat.ne_of_lt (Nat.lt_of_lt_of_le lt_hz3 kB_h17)
        have ne_h7_h17 : w_1.heap.size ≠ p_h17 := Nat.ne_of_lt (Nat.lt_of_lt_of_le lt_h7 kB_h17)
        have ne_h8_h17 : p_h8 ≠ p_h17 := Nat.ne_of_lt (Nat.lt_of_lt_of_le lt_h8 kB_h17)
        have ne_h9_h17 : p_h9 ≠ p_h17 := Nat.ne_of_lt (Nat.lt_of_lt_of_le lt_h9 kB_h17)
        have ne_h10_h17 : w_7.heap.size ≠ p_h17 := Nat.ne_of_lt (Nat.lt_of_lt_of_le lt_h10 kB_h17)
        have ne_h11_h17 : w_8.heap.size ≠ p_h17 := Nat.ne_of_lt (Nat.lt_of_lt_of_le lt_h11 kB_h17)
        have ne_h14_h17 : p_h14 ≠ p_h17 := Nat.ne_of_lt (Nat.lt_of_lt_of_le lt_h14 kB_h17)
        have ne_h15_h17 : p_h15 ≠ p_h17 := Nat.ne_of_lt (Nat.lt_of_lt_of_le lt_h15 kB_h17)
        clear kB_h17
        clear lt_hp
        clear lt_hq
        clear lt_hz1
        clear lt_hz2
        clear lt_hz3
        clear lt_h7
        clear lt_h8
        clear lt_h9
        clear lt_h10
        clear lt_h11
        clear lt_h14
        clear lt_h15
        clear kb0
        obtain ⟨sb_h16, o_h16, n_h16, c_h16, rfl⟩ := g27.open2
        apply wpTail_call
        case hi => rfl
        case hw => kernel_rfl
        case h =>
        intro K hK
        have c9_ := h16.facts
        go_big_op
        have ho := Bk.only w_46 (p_h16) sb_h16 (.slice o_h16 n_h16 c_h16)
        have hbx_ := h16.bx
        replace ha := ha.frame hbx_ ho
        replace hb' := hb'.frame hbx_ ho
        replace g1 := g1.frame hbx_ ho
        replace g8 := g8.frame hbx_ ho
        replace g10 := g10.frame hbx_ ho
        replace hp := hp.frame ho (by first | assumption | (apply Ne.symm; assumption) | (simp; done) | omega)
        replace hq := hq.frame ho (by first | assumption | (apply Ne.symm; assumption) | (simp; done) | omega)
        replace hz1 := hz1.frame ho (by first | assumption | (apply Ne.symm; assumption) | (simp; done) | omega)
        replace hz2 := hz2.frame ho (by first | assumption | (apply Ne.symm; assumption) | (simp; done) | omega)
        replace hz3 := hz3.frame ho (by first | assumption | (apply Ne.symm; assumption) | (simp; done) | omega)
        replace h7 := h7.frame ho (by first | assumption | (apply Ne.symm; assumption) | (simp; done) | omega)
        replace h8 := h8.frame ho (by first | assumption | (apply Ne.symm; assumption) | (simp; done) | omega)
        replace h9 := h9.frame ho (by first | assumption | (apply Ne.symm; assumption) | (simp; done) | omega)
        replace h10 := h10.frame ho (by first | assumption | (apply Ne.symm; assumption) | (simp; done) | omega)
        replace h11 := h11.frame ho (by first | assumption | (apply Ne.symm; assumption) | (simp; done) | omega)
        replace g19 := g19.frame hbx_ ho
        replace g21 := g21.frame hbx_ ho
        replace g22 := g22.frame hbx_ ho
        replace h14 := h14.frame ho (by first | assumption | (apply Ne.symm; assumption) | (simp; done) | omega)
        replace h15 := h15.frame ho (by first | assumption | (apply Ne.symm; assumption) | (simp; done) | omega)
        replace g24 := g24.frame hbx_ ho
        replace g27 := g27.frame hbx_ ho
        replace g28 := g28.frame hbx_ ho
        replace h17 := h17.frame ho (by first | assumption | (apply Ne.symm; assumption) | (simp; done) | omega)
        replace h16 := h16.store sb_h16 (.slice o_h16 n_h16 c_h16)
        replace hb := (hb.setCell (p := ⟨p_h16, 0, none⟩) (show w.heap.size ≤ p_h16 by first | assumption | (simp; done) | omega) (.bool sb_h16)).setCell (p := ⟨p_h16, 1, none⟩) (show w.heap.size ≤ p_h16 by first | assumption | (simp; done) | omega) (.slice o_h16 n_h16 c_h16)
        refine hK _ _ rfl (And.intro (And.intro hp.facts.1 hp.facts.2.1) (And.intro (And.intro hq.facts.1 hq.facts.2.1) (And.intro (And.intro h7.facts.1 h7.facts.2.1) (And.intro (And.intro h10.facts.1 h10.facts.2.1) True.intro)))) ?_
        clear hK K hbx_ ho c9_
        obtain ⟨sb_h17, o_h17, n_h17, c_h17, rfl⟩ := g28.open2
        apply wpTail_call
        case hi => rfl
        case hw => kernel_rfl
        case h =>
        intro K hK
        have c9_ := h17.facts
        go_big_op
        have ho := Bk.only ((w_46.setCell ⟨p_h16, 0, none⟩ (.bool sb_h16)).setCell ⟨p_h16, 1, none⟩ (.slice o_h16 n_h16 c_h16)) (p_h17) sb_h17 (.slice o_h17 n_h17 c_h17)
        have hbx_ := h17.bx
        replace ha := ha.frame hbx_ ho
        replace hb' := hb'.frame hbx_ ho
        replace g1 := g1.frame hbx_ ho
        replace g8 := g8.frame hbx_ ho
        replace g10 := g10.frame hbx_ ho
        replace hp := hp.frame ho (by first | assumption | (apply Ne.symm; assumption) | (simp; done) | omega)
        replace hq := hq.frame ho (by first | assumption | (apply Ne.symm; assumption) | (simp; done) | omega)
        replace hz1 := hz1.frame ho (by first | assumption | (apply Ne.symm; assumption) | (simp; done) | omega)
        replace hz2 := hz2.frame ho (by first | assumption | (apply Ne.symm; assumption) | (simp; done) | omega)
        replace hz3 := hz3.frame ho (by first | assumption | (apply Ne.symm; assumption) | (simp; done) | omega)
        replace h7 := h7.frame ho (by first | assumption | (apply Ne.symm; assumption) | (simp; done) | omega)
        replace h8 := h8.frame ho (by first | assumption | (apply Ne.symm; assumption) | (simp; done) | omega)
        replace h9 := h9.frame ho (by first | assumption | (apply Ne.symm; assumption) | (simp; done) | omega)
        replace h10 := h10.frame ho (by first | assumption | (apply Ne.symm; assumption) | (simp; done) | omega)
        replace h11 := h11.frame ho (by first | assumption | (apply Ne.symm; assumption) | (simp; done) | omega)
        replace g19 := g19.frame hbx_ ho
        replace g21 := g21.frame hbx_ ho
        replace g22 := g22.frame hbx_ ho
        replace h14 := h14.frame ho (by first | assumption | (apply Ne.symm; assumption) | (simp; done) | omega)
        replace h15 := h15.frame ho (by first | assumption | (apply Ne.symm; assumption) | (simp; done) | omega)
        replace g24 := g24.frame hbx_ ho
        replace g27 := g27.frame hbx_ ho
        replace g28 := g28.frame hbx_ ho
        replace h16 := h16.frame ho (by first | assumption | (apply Ne.symm; assumption) | (simp; done) | omega)
        replace h17 := h17.store sb_h17 (.slice o_h17 n_h17 c_h17)
        replace hb := (hb.setCell (p := ⟨p_h17, 0, none⟩) (show w.heap.size ≤ p_h17 by first | assumption | (simp; done) | omega) (.bool sb_h17)).setCell (p := ⟨p_h17, 1, none⟩) (show w.heap.size ≤ p_h17 by first | assumption | (simp; done) | omega) (.slice o_h17 n_h17 c_h17)
        refine hK _ _ rfl (And.intro (And.intro hp.facts.1 hp.facts.2.1) (And.intro (And.intro hq.facts.1 hq.facts.2.1) (And.intro (And.intro h7.facts.1 h7.facts.2.1) (And.intro (And.intro h10.facts.1 h10.facts.2.1) True.intro)))) ?_
        clear hK K hbx_ ho c9_
        apply wpTail_end
        replace ha := ha.drew
        replace hb' := hb'.drew
        replace g1 := g1.drew
        replace g8 := g8.drew
        replace g10 := g10.drew
        replace hp := hp.drew
        replace hq := hq.drew
        replace hz1 := hz1.drew
        replace hz2 := hz2.drew
        replace hz3 := hz3.drew
        replace h7 := h7.drew
        replace h8 := h8.drew
        replace h9 := h9.drew
        replace h10 := h10.drew
        replace h11 := h11.drew
        replace g19 := g19.drew
        replace g21 := g21.drew
        replace g22 := g22.drew
        replace h14 := h14.drew
        replace h15 := h15.drew
        replace g24 := g24.drew
        replace g27 := g27.drew
        replace g28 := g28.drew
        replace h16 := h16.drew
        replace h17 := h17.drew
        replace hb := hb.drew
        have lt_hp := hp.lt
        have lt_hq := hq.lt
        have lt_hz1 := hz1.lt
        have lt_hz2 := hz2.lt
        have lt_hz3 := hz3.lt
        have lt_h7 := h7.lt
        have lt_h8 := h8.lt
        have lt_h9 := h9.lt
        have lt_h10 := h10.lt
        have lt_h11 := h11.lt
        have lt_h14 := h14.lt
        have lt_h15 := h15.lt
        have lt_h16 := h16.lt
        have lt_h17 := h17.lt
        have kb0 := hb.size
        go_wp2_with fail
        refine wp_region_fl [(0, false), (1, false), (2, false)] [3, 4, 5] [] (fun _ => obZ) [0, 1, 2, 99, 99, 99] [] (fun w' => w'.cell? ⟨w_1.heap.size, 0, none⟩ = some (.bool sb_h7) ∧ w'.cell? ⟨w_1.heap.size, 1, none⟩ = some (.slice o_h7 n_h7 c_h7) ∧ w'.cell? ⟨w_7.heap.size, 0, none⟩ = some (.bool sb_h10) ∧ w'.cell? ⟨w_7.heap.size, 1, none⟩ = some (.slice o_h10 n_h10 c_h10) ∧ w'.cell? ⟨p_h16, 0, none⟩ = some (.bool sb_h16) ∧ w'.cell? ⟨p_h16, 1, none⟩ = some (.slice o_h16 n_h16 c_h16)) [fun w' => w'.cell? ⟨w_1.heap.size, 0, none⟩ = some (.bool sb_h7) ∧ w'.cell? ⟨w_1.heap.size, 1, none⟩ = some (.slice o_h7 n_h7 c_h7), fun w' => w'.cell? ⟨w_7.heap.size, 0, none⟩ = some (.bool sb_h10) ∧ w'.cell? ⟨w_7.heap.size, 1, none⟩ = some (.slice o_h10 n_h10 c_h10), fun w' => w'.cell? ⟨p_h16, 0, none⟩ = some (.bool sb_h16) ∧ w'.cell? ⟨p_h16, 1, none⟩ = some (.slice o_h16 n_h16 c_h16)] (by kernel_rfl) (by kernel_rfl) (by kernel_rfl) (by kernel_rfl) (by kernel_rfl) (by kernel_rfl) (by kernel_rfl) (by kernel_rfl) (by decide) (by intro j hj; cases hj) (by intro w' o hC; obtain ⟨c0, c1, c2, c3, c4, c5⟩ := hC; exact ⟨cell_alloc c0 o, cell_alloc c1 o, cell_alloc c2 o, cell_alloc c3 o, cell_alloc c4 o, cell_alloc c5 o⟩) (by intro w' hC G hG; obtain ⟨c0, c1, c2, c3, c4, c5⟩ := hC; simp only [List.mem_cons, List.not_mem_nil, or_false] at hG; rcases hG with rfl | rfl | rfl <;> first | exact ⟨c0, c1⟩ | exact ⟨c2, c3⟩ | exact ⟨c4, c5⟩) ⟨h7.facts.1, h7.facts.2.1, h10.facts.1, h10.facts.2.1, h16.facts.1, h16.facts.2.1⟩ ?_
        apply wpFl_ld
        case hG => rfl
        case hi => rfl
        case h1 => intro w' hC K hK; obtain ⟨c0, c1⟩ := hC; (first | go_big_move | go_big_op); exact hK
        case hw => kernel_rfl
        case hv => kernel_rfl
        case hb => kernel_rfl
        case hp => kernel_rfl
        apply wpFl_ld
        case hG => rfl
        case hi => rfl
        case h1 => intro w' hC K hK; obtain ⟨c0, c1⟩ := hC; (first | go_big_move | go_big_op); exact hK
        case hw => kernel_rfl
        case hv => kernel_rfl
        case hb => kernel_rfl
        case hp => kernel_rfl
        apply wpFl_ld
        case hG => rfl
        case hi => rfl
        case h1 => intro w' hC K hK; obtain ⟨c0, c1⟩ := hC; (first | go_big_move | go_big_op); exact hK
        case hw => kernel_rfl
        case hv => kernel_rfl
        case hb => kernel_rfl
        case hp => kernel_rfl
        apply wpFl_end
        case ha => intro pt; simp only [putF]; rfl
        case h =>
        intro w_47 pt hn hC hF hD
        clear hC
        replace ha := ha.below hn (Nat.le_refl _)
        replace hb' := hb'.below hn (Nat.le_refl _)
        replace g1 := g1.below hn (Nat.le_refl _)
        replace g8 := g8.below hn (Nat.le_refl _)
        replace g10 := g10.below hn (Nat.le_refl _)
        replace hp := hp.below hn (Nat.le_refl _)
        replace hq := hq.below hn (Nat.le_refl _)
        replace hz1 := hz1.below hn (Nat.le_refl _)
        replace hz2 := hz2.below hn (Nat.le_refl _)
        replace hz3 := hz3.below hn (Nat.le_refl _)
        replace h7 := h7.below hn (Nat.le_refl _)
        replace h8 := h8.below hn (Nat.le_refl _)
        replace h9 := h9.below hn (Nat.le_refl _)
        replace h10 := h10.below hn (Nat.le_refl _)
        replace h11 := h11.below hn (Nat.le_refl _)
        replace g19 := g19.below hn (Nat.le_refl _)
        replace g21 := g21.below hn (Nat.le_refl _)
        replace g22 := g22.below hn (Nat.le_refl _)
        replace h14 := h14.below hn (Nat.le_refl _)
        replace h15 := h15.below hn (Nat.le_refl _)
        replace g24 := g24.below hn (Nat.le_refl _)
        replace g27 := g27.below hn (Nat.le_refl _)
        replace g28 := g28.below hn (Nat.le_refl _)
        replace h16 := h16.below hn (Nat.le_refl _)
        replace h17 := h17.below hn (Nat.le_refl _)
        replace hb := hb.trans (hn.mono hb.size)
        clear hn
        clear hF hD
        clear lt_hp
        clear lt_hq
        clear lt_hz1
        clear lt_hz2
        clear lt_hz3
        clear lt_h7
        clear lt_h8
        clear lt_h9
        clear lt_h10
        clear lt_h11
        clear lt_h14
        clear lt_h15
        clear lt_h16
        clear lt_h17
        clear kb0
        apply wpTail_call
        case hi => rfl
        case hw => kernel_rfl
        case h =>
        intro K hK
        have c9_ := hz1.facts
        go_big_op
        have ho := Bk.only w_47 (w.heap.size + 1 + 1) sb_h7 (.slice o_h7 n_h7 c_h7)
        have hbx_ := hz1.bx
        replace ha := ha.frame hbx_ ho
        replace hb' := hb'.frame hbx_ ho
        replace g1 := g1.frame hbx_ ho
        replace g8 := g8.frame hbx_ ho
        replace g10 := g10.frame hbx_ ho
        replace hp := hp.frame ho (by first | assumption | (apply Ne.symm; assumption) | (simp; done) | omega)
        replace hq := hq.frame ho (by first | assumption | (apply Ne.symm; assumption) | (simp; done) | omega)
        replace hz2 := hz2.frame ho (by first | assumption | (apply Ne.symm; assumption) | (simp; done) | omega)
        replace hz3 := hz3.frame ho (by first | assumption | (apply Ne.symm; assumption) | (simp; done) | omega)
        replace h7 := h7.frame ho (by first | assumption | (apply Ne.symm; assumption) | (simp; done) | omega)
        replace h8 := h8.frame ho (by first | assumption | (apply Ne.symm; assumption) | (simp; done) | omega)
        replace h9 := h9.frame ho (by first | assumption | (apply Ne.symm; assumption) | (simp; done) | omega)
        replace h10 := h10.frame ho (by first | assumption | (apply Ne.symm; assumption) | (simp; done) | omega)
        replace h11 := h11.frame ho (by first | assumption | (apply Ne.symm; assumption) | (simp; done) | omega)
        replace g19 := g19.frame hbx_ ho
        replace g21 := g21.frame hbx_ ho
        replace g22 := g22.frame hbx_ ho
        replace h14 := h14.frame ho (by first | assumption | (apply Ne.symm; assumption) | (simp; done) | omega)
        replace h15 := h15.frame ho (by first | assumption | (apply Ne.symm; assumption) | (simp; done) | omega)
        replace g24 := g24.frame hbx_ ho
        replace g27 := g27.frame hbx_ ho
        replace g28 := g28.frame hbx_ ho
        replace h16 := h16.frame ho (by first | assumption | (apply Ne.symm; assumption) | (simp; done) | omega)
        replace h17 := h17.frame ho (by first | assumption | (apply Ne.symm; assumption) | (simp; done) | omega)
        replace hz1 := hz1.store sb_h7 (.slice o_h7 n_h7 c_h7)
        replace hb := (hb.setCell (p := ⟨w.heap.size + 1 + 1, 0, none⟩) (show w.heap.size ≤ w.heap.size + 1 + 1 by first | assumption | (simp; done) | omega) (.bool sb_h7)).setCell (p := ⟨w.heap.size + 1 + 1, 1, none⟩) (show w.heap.size ≤ w.heap.size + 1 + 1 by first | assumption | (simp; done) | omega) (.slice o_h7 n_h7 c_h7)
        refine hK _ _ rfl (And.intro (And.intro h7.facts.1 h7.facts.2.1) (And.intro (And.intro h10.facts.1 h10.facts.2.1) (And.intro (And.intro h16.facts.1 h16.facts.2.1) True.intro))) ?_
        clear hK K hbx_ ho c9_
        apply wpTail_call
        case hi => rfl
        case hw => kernel_rfl
        case h =>
        intro K hK
        have c9_ := hz2.facts
        go_big_op
        have ho := Bk.only ((w_47.setCell ⟨w.heap.size + 1 + 1, 0, none⟩ (.bool sb_h7)).setCell ⟨w.heap.size + 1 + 1, 1, none⟩ (.slice o_h7 n_h7 c_h7)) (w.heap.size + 1 + 1 + 1) sb_h10 (.slice o_h10 n_h10 c_h10)
        have hbx_ := hz2.bx
        replace ha := ha.frame hbx_ ho
        replace hb' := hb'.frame hbx_ ho
        replace g1 := g1.frame hbx_ ho
        replace g8 := g8.frame hbx_ ho
        replace g10 := g10.frame hbx_ ho
        replace hp := hp.frame ho (by first | assumption | (apply Ne.symm; assumption) | (simp; done) | omega)
        replace hq := hq.frame ho (by first | assumption | (apply Ne.symm; assumption) | (simp; done) | omega)
        replace hz1 := hz1.frame ho (by first | assumption | (apply Ne.symm; assumption) | (simp; done) | omega)
        replace hz3 := hz3.frame ho (by first | assumption | (apply Ne.symm; assumption) | (simp; done) | omega)
        replace h7 := h7.frame ho (by first | assumption | (apply Ne.symm; assumption) | (simp; done) | omega)
        replace h8 := h8.frame ho (by first | assumption | (apply Ne.symm; assumption) | (simp; done) | omega)
        replace h9 := h9.frame ho (by first | assumption | (apply Ne.symm; assumption) | (simp; done) | omega)
        replace h10 := h10.frame ho (by first | assumption | (apply Ne.symm; assumption) | (simp; done) | omega)
        replace h11 := h11.frame ho (by first | assumption | (apply Ne.symm; assumption) | (simp; done) | omega)
        replace g19 := g19.frame hbx_ ho
        replace g21 := g21.frame hbx_ ho
        replace g22 := g22.frame hbx_ ho
        replace h14 := h14.frame ho (by first | assumption | (apply Ne.symm; assumption) | (simp; done) | omega)
        replace h15 := h15.frame ho (by first | assumption | (apply Ne.symm; assumption) | (simp; done) | omega)
        replace g24 := g24.frame hbx_ ho
        replace g27 := g27.frame hbx_ ho
        replace g28 := g28.frame hbx_ ho
        replace h16 := h16.frame ho (by first | assumption | (apply Ne.symm; assumption) | (simp; done) | omega)
        replace h17 := h17.frame ho (by first | assumption | (apply Ne.symm; assumption) | (simp; done) | omega)
        replace hz2 := hz2.store sb_h10 (.slice o_h10 n_h10 c_h10)
        replace hb := (hb.setCell (p := ⟨w.heap.size + 1 + 1 + 1, 0, none⟩) (show w.heap.size ≤ w.heap.size + 1 + 1 + 1 by first | assumption | (simp; done) | omega) (.bool sb_h10)).setCell (p := ⟨w.heap.size + 1 + 1 + 1, 1, none⟩) (show w.heap.size ≤ w.heap.size + 1 + 1 + 1 by first | assumption | (simp; done) | omega) (.slice o_h10 n_h10 c_h10)
        refine hK _ _ rfl (And.intro (And.intro h7.facts.1 h7.facts.2.1) (And.intro (And.intro h10.facts.1 h10.facts.2.1) (And.intro (And.intro h16.facts.1 h16.facts.2.1) True.intro))) ?_
        clear hK K hbx_ ho c9_
        apply wpTail_call
        case hi => rfl
        case hw => kernel_rfl
        case h =>
        intro K hK
        have c9_ := hz3.facts
        go_big_op
        have ho := Bk.only ((((w_47.setCell ⟨w.heap.size + 1 + 1, 0, none⟩ (.bool sb_h7)).setCell ⟨w.heap.size + 1 + 1, 1, none⟩ (.slice o_h7 n_h7 c_h7)).setCell ⟨w.heap.size + 1 + 1 + 1, 0, none⟩ (.bool sb_h10)).setCell ⟨w.heap.size + 1 + 1 + 1, 1, none⟩ (.slice o_h10 n_h10 c_h10)) (w.heap.size + 1 + 1 + 1 + 1) sb_h16 (.slice o_h16 n_h16 c_h16)
        have hbx_ := hz3.bx
        replace ha := ha.frame hbx_ ho
        replace hb' := hb'.frame hbx_ ho
        replace g1 := g1.frame hbx_ ho
        replace g8 := g8.frame hbx_ ho
        replace g10 := g10.frame hbx_ ho
        replace hp := hp.frame ho (by first | assumption | (apply Ne.symm; assumption) | (simp; done) | omega)
        replace hq := hq.frame ho (by first | assumption | (apply Ne.symm; assumption) | (simp; done) | omega)
        replace hz1 := hz1.frame ho (by first | assumption | (apply Ne.symm; assumption) | (simp; done) | omega)
        replace hz2 := hz2.frame ho (by first | assumption | (apply Ne.symm; assumption) | (simp; done) | omega)
        replace h7 := h7.frame ho (by first | assumption | (apply Ne.symm; assumption) | (simp; done) | omega)
        replace h8 := h8.frame ho (by first | assumption | (apply Ne.symm; assumption) | (simp; done) | omega)
        replace h9 := h9.frame ho (by first | assumption | (apply Ne.symm; assumption) | (simp; done) | omega)
        replace h10 := h10.frame ho (by first | assumption | (apply Ne.symm; assumption) | (simp; done) | omega)
        replace h11 := h11.frame ho (by first | assumption | (apply Ne.symm; assumption) | (simp; done) | omega)
        replace g19 := g19.frame hbx_ ho
        replace g21 := g21.frame hbx_ ho
        replace g22 := g22.frame hbx_ ho
        replace h14 := h14.frame ho (by first | assumption | (apply Ne.symm; assumption) | (simp; done) | omega)
        replace h15 := h15.frame ho (by first | assumption | (apply Ne.symm; assumption) | (simp; done) | omega)
        replace g24 := g24.frame hbx_ ho
        replace g27 := g27.frame hbx_ ho
        replace g28 := g28.frame hbx_ ho
        replace h16 := h16.frame ho (by first | assumption | (apply Ne.symm; assumption) | (simp; done) | omega)
        replace h17 := h17.frame ho (by first | assumption | (apply Ne.symm; assumption) | (simp; done) | omega)
        replace hz3 := hz3.store sb_h16 (.slice o_h16 n_h16 c_h16)
        replace hb := (hb.setCell (p := ⟨w.heap.size + 1 + 1 + 1 + 1, 0, none⟩) (show w.heap.size ≤ w.heap.size + 1 + 1 + 1 + 1 by first | assumption | (simp; done) | omega) (.bool sb_h16)).setCell (p := ⟨w.heap.size + 1 + 1 + 1 + 1, 1, none⟩) (show w.heap.size ≤ w.heap.size + 1 + 1 + 1 + 1 by first | assumption | (simp; done) | omega) (.slice o_h16 n_h16 c_h16)
        refine hK _ _ rfl (And.intro (And.intro h7.facts.1 h7.facts.2.1) (And.intro (And.intro h10.facts.1 h10.facts.2.1) (And.intro (And.intro h16.facts.1 h16.facts.2.1) True.intro))) ?_
        clear hK K hbx_ ho c9_
        apply wpTail_end
        clear ha
        clear hb'
        clear g8
        clear g10
        clear hp
        clear hq
        clear h7
        clear h8
        clear h9
        clear h10
        clear h11
        clear g19
        clear g21
        clear g22
        clear h14
        clear h15
        clear g28
        clear h16
        clear h17
        try clear kb0
        try clear ne_h15_h17
        try clear ne_h14_h17
        try clear ne_h11_h17
        try clear ne_h10_h17
        try clear ne_h9_h17
        try clear ne_h8_h17
        try clear ne_h7_h17
        try clear ne_hz3_h17
        try clear ne_hz2_h17
        try clear ne_hz1_h17
        try clear ne_hq_h17
        try clear ne_hp_h17
        try clear kb_h17
        try clear ne_h15_h16
        try clear ne_h14_h16
        try clear ne_h11_h16
        try clear ne_h10_h16
        try clear ne_h9_h16
        try clear ne_h8_h16
        try clear ne_h7_h16
        try clear ne_hz3_h16
        try clear ne_hz2_h16
        try clear ne_hz1_h16
        try clear ne_hq_h16
        try clear ne_hp_h16
        try clear kb_h16
        try clear ne_h16_h17
        try clear kb_45
        try clear kb_43
        try clear kb_41
        try clear kk24
        try clear ne_h11_h15
        try clear ne_h10_h15
        try clear ne_h9_h15
        try clear ne_h8_h15
        try clear ne_h7_h15
        try clear ne_hz3_h15
        try clear ne_hz2_h15
        try clear ne_hz1_h15
        try clear ne_hq_h15
        try clear ne_hp_h15
        try clear kb_h15
        try clear ne_h11_h14
        try clear ne_h10_h14
        try clear ne_h9_h14
        try clear ne_h8_h14
        try clear ne_h7_h14
        try clear ne_hz3_h14
        try clear ne_hz2_h14
        try clear ne_hz1_h14
        try clear ne_hq_h14
        try clear ne_hp_h14
        try clear kb_h14
        try clear ne_h14_h15
        try clear kb_36
        try clear kb_34
        try clear kb_26
        try clear kb_24
        try clear kb_22
        try clear kb_17
        try clear kb_15
        try clear ne_h10_h11
        try clear ne_h9_h11
        try clear ne_h8_h11
        try clear ne_h7_h11
        try clear ne_hz3_h11
        try clear ne_hz2_h11
        try clear ne_hz1_h11
        try clear ne_hq_h11
        try clear ne_hp_h11
        try clear kb_h11
        try clear ne_h9_h10
        try clear ne_h8_h10
        try clear ne_h7_h10
        try clear ne_hz3_h10
        try clear ne_hz2_h10
        try clear ne_hz1_h10
        try clear ne_hq_h10
        try clear ne_hp_h10
        try clear kb_h10
        try clear ne_h7_h9
        try clear ne_hz3_h9
        try clear ne_hz2_h9
        try clear ne_hz1_h9
        try clear ne_hq_h9
        try clear ne_hp_h9
        try clear kb_h9
        try clear ne_h7_h8
        try clear ne_hz3_h8
        try clear ne_hz2_h8
        try clear ne_hz1_h8
        try clear ne_hq_h8
        try clear ne_hp_h8
        try clear kb_h8
        try clear ne_h8_h9
        try clear ne_hz3_h7
        try clear ne_hz2_h7
        try clear ne_hz1_h7
        try clear ne_hq_h7
        try clear ne_hp_h7
        try clear kb_h7
        clear e1 e2 e3 e4 e5 e6 e7 e8 e9 e10 ehp1 ehp2 ehp3 ehp4 ehq1 ehq2 ehq3 ehq4 ehz11 ehz12 ehz13 ehz14 ehz21 ehz22 ehz23 ehz24 ehz31 ehz32 ehz33 ehz34 eh71 eh72 eh73 eh74 e71 e72 e73 e74 e75
        obtain ⟨w_48, hw_48⟩ : ∃ v, ((((((w_47.setCell ⟨w.heap.size + 1 + 1, 0, none⟩ (.bool sb_h7)).setCell ⟨w.heap.size + 1 + 1, 1, none⟩ (.slice o_h7 n_h7 c_h7)).setCell ⟨w.heap.size + 1 + 1 + 1, 0, none⟩ (.bool sb_h10)).setCell ⟨w.heap.size + 1 + 1 + 1, 1, none⟩ (.slice o_h10 n_h10 c_h10)).setCell ⟨w.heap.size + 1 + 1 + 1 + 1, 0, none⟩ (.bool sb_h16)).setCell ⟨w.heap.size + 1 + 1 + 1 + 1, 1, none⟩ (.slice o_h16 n_h16 c_h16)) = v := ⟨_, rfl⟩
        rw [hw_48] at g1 hz1 hz2 hz3 g24 g27 hb ⊢
        clear hw_48
        have f1 := hz1.facts
        have f2 := hz2.facts
        have f3 := hz3.facts
        clear hz1 hz2 hz3
        refine ‹∀ (a : Act) (w : World), Code.wp Tryd.prog Code.ret _ a w → _› _ _ ?_
        refine wp_ret ?_
        refine bodyPost_ret (v := .tuple #[.agg #[.bool sb_h7, .slice o_h7 n_h7 c_h7], .agg #[.bool sb_h10, .slice o_h10 n_h10 c_h10], .agg #[.bool sb_h16, .slice o_h16 n_h16 c_h16]]) (by simp [results, Tryd.results49, go_sem, f1.1, f1.2.1, f2.1, f2.2.1, f3.1, f3.2.1]) rfl ?_
        exact ⟨_, _, _, rfl, ⟨c, HXG.out, g1, g24, g27⟩, hb⟩
    · have HK := hide (show s ≠ 0 by omega)
      obtain ⟨Q, hQ⟩ : ∃ Q, s.sign = Q := ⟨_, rfl⟩
      have hQ0 : (Q == 0) = false := by rw [beq_eq_false_iff_ne, ← hQ]; exact fun h => HK.out (Int.sign_eq_zero_iff_zero.1 h)
      have hQ1 : (Q != 0) = true := by rw [bne, hQ0]; rfl
      have HQ := hide hQ
      have Lr := hide (g8.len)
      have Ls := hide (g9.len)
      have LQ := hide (fdiv_len HK.out Lr.out)
      have LM := hide (zlen_mul LQ.out LU.out)
      have LR := hide (fmod_len (x := r) HK.out Ls.out)
      have HSK := hide (show (r.fmod s).natAbs < gk by
        obtain ⟨t1, t2⟩ := fmod_bd (x := r) HK.out
        rcases Int.lt_or_gt_of_ne HK.out with t3 | t3
        · have := t2 t3; omega
        · have := t1 t3; omega)
      clear hQ hsk hk
      obtain ⟨e1, e2, e3, e4, e5, e6⟩ := NE.out
      obtain ⟨e7, e8, e9, e10⟩ := NB.out
      obtain ⟨ehp1, ehp2, ehp3, ehp4⟩ := NEhp.out
      obtain ⟨ehq1, ehq2, ehq3, ehq4⟩ := NEhq.out
      obtain ⟨ehz11, ehz12, ehz13, ehz14⟩ := NEhz1.out
      obtain ⟨ehz21, ehz22, ehz23, ehz24⟩ := NEhz2.out
      obtain ⟨ehz31, ehz32, ehz33, ehz34⟩ := NEhz3.out
      obtain ⟨eh71, eh72, eh73, eh74⟩ := NEh7.out
      obtain ⟨e71, e72, e73, e74, e75⟩ := NE7.out
      have f_h9 := h9.facts
      go_wp2_with fail
      refine (rzsign_any g9 (by omega)).mono ?_
      rintro e w_49 ⟨rfl, hb_49⟩
      replace ha := ha.below hb_49 (Nat.le_refl _)
      replace hb' := hb'.below hb_49 (Nat.le_refl _)
      replace g1 := g1.below hb_49 (Nat.le_refl _)
      replace g8 := g8.below hb_49 (Nat.le_refl _)
      replace g9 := g9.below hb_49 (Nat.le_refl _)
      replace g10 := g10.below hb_49 (Nat.le_refl _)
      replace g11 := g11.below hb_49 (Nat.le_refl _)
      replace hp := hp.below hb_49 (Nat.le_refl _)
      replace hq := hq.below hb_49 (Nat.le_refl _)
      replace hz1 := hz1.below hb_49 (Nat.le_refl _)
      replace hz2 := hz2.below hb_49 (Nat.le_refl _)
      replace hz3 := hz3.below hb_49 (Nat.le_refl _)
      replace h7 := h7.below hb_49 (Nat.le_refl _)
      replace h8 := h8.below hb_49 (Nat.le_refl _)
      replace h9 := h9.below hb_49 (Nat.le_refl _)
      replace h10 := h10.below hb_49 (Nat.le_refl _)
      replace h11 := h11.below hb_49 (Nat.le_refl _)
      replace hb := hb.trans (hb_49.mono hb.size)
      clear hb_49
      rw [HQ.out]
      clear f_h9
      have f_h8 := h8.facts
      have f_h9 := h9.facts
      go_wp2_with fail
      refine (rfloor_any g8 g9 (by omega) (by omega) HK.out).mono ?_
      rintro e w_50 ⟨v12, v13, rfl, g12, g13, hb_50⟩
      replace ha := ha.below hb_50 (Nat.le_refl _)
      replace hb' := hb'.below hb_50 (Nat.le_refl _)
      replace g1 := g1.below hb_50 (Nat.le_refl _)
      replace g8 := g8.below hb_50 (Nat.le_refl _)
      replace g9 := g9.below hb_50 (Nat.le_refl _)
      replace g10 := g10.below hb_50 (Nat.le_refl _)
      replace g11 := g11.below hb_50 (Nat.le_refl _)
      replace hp := hp.below hb_50 (Nat.le_refl _)
      replace hq := hq.below hb_50 (Nat.le_refl _)
      replace hz1 := hz1.below hb_50 (Nat.le_refl _)
      replace hz2 := hz2.below hb_50 (Nat.le_refl _)
      replace hz3 := hz3.below hb_50 (Nat.le_refl _)
      replace h7 := h7.below hb_50 (Nat.le_refl _)
      replace h8 := h8.below hb_50 (Nat.le_refl _)
      replace h9 := h9.below hb_50 (Nat.le_refl _)
      replace h10 := h10.below hb_50 (Nat.le_refl _)
      replace h11 := h11.below hb_50 (Nat.le_refl _)
      replace hb := hb.trans (hb_50.mono hb.size)
      clear hb_50
      clear f_h8 f_h9
      have kb_h12 := hb.size
      have ne_hp_h12 : w.heap.size ≠ w_50.heap.size := by have := hp.lt; (try simp only [Bk.size_alloc] at this); omega
      have ne_hq_h12 : w.heap.size + 1 ≠ w_50.heap.size := by have := hq.lt; (try simp only [Bk.size_alloc] at this); omega
      have ne_hz1_h12 : w.heap.size + 1 + 1 ≠ w_50.heap.size := by have := hz1.lt; (try simp only [Bk.size_alloc] at this); omega
      have ne_hz2_h12 : w.heap.size + 1 + 1 + 1 ≠ w_50.heap.size := by have := hz2.lt; (try simp only [Bk.size_alloc] at this); omega
      have ne_hz3_h12 : w.heap.size + 1 + 1 + 1 + 1 ≠ w_50.heap.size := by have := hz3.lt; (try simp only [Bk.size_alloc] at this); omega
      have ne_h7_h12 : w_1.heap.size ≠ w_50.heap.size := by have := h7.lt; (try simp only [Bk.size_alloc] at this); omega
      have ne_h8_h12 : p_h8 ≠ w_50.heap.size := by have := h8.lt; (try simp only [Bk.size_alloc] at this); omega
      have ne_h9_h12 : p_h9 ≠ w_50.heap.size := by have := h9.lt; (try simp only [Bk.size_alloc] at this); omega
      have ne_h10_h12 : w_7.heap.size ≠ w_50.heap.size := by have := h10.lt; (try simp only [Bk.size_alloc] at this); omega
      have ne_h11_h12 : w_8.heap.size ≠ w_50.heap.size := by have := h11.lt; (try simp only [Bk.size_alloc] at this); omega
      have h12 := Bk.new w_50 false (.slice none 0 0)
      replace ha := ha.alloc (.cells #[.bool false, (.slice none 0 0)] 24)
      replace hb' := hb'.alloc (.cells #[.bool false, (.slice none 0 0)] 24)
      replace g1 := g1.alloc (.cells #[.bool false, (.slice none 0 0)] 24)
      replace g8 := g8.alloc (.cells #[.bool false, (.slice none 0 0)] 24)
      replace g9 := g9.alloc (.cells #[.bool false, (.slice none 0 0)] 24)
      replace g10 := g10.alloc (.cells #[.bool false, (.slice none 0 0)] 24)
      replace g11 := g11.alloc (.cells #[.bool false, (.slice none 0 0)] 24)
      replace hp := hp.alloc (.cells #[.bool false, (.slice none 0 0)] 24)
      replace hq := hq.alloc (.cells #[.bool false, (.slice none 0 0)] 24)
      replace hz1 := hz1.alloc (.cells #[.bool false, (.slice none 0 0)] 24)
      replace hz2 := hz2.alloc (.cells #[.bool false, (.slice none 0 0)] 24)
      replace hz3 := hz3.alloc (.cells #[.bool false, (.slice none 0 0)] 24)
      replace h7 := h7.alloc (.cells #[.bool false, (.slice none 0 0)] 24)
      replace h8 := h8.alloc (.cells #[.bool false, (.slice none 0 0)] 24)
      replace h9 := h9.alloc (.cells #[.bool false, (.slice none 0 0)] 24)
      replace h10 := h10.alloc (.cells #[.bool false, (.slice none 0 0)] 24)
      replace h11 := h11.alloc (.cells #[.bool false, (.slice none 0 0)] 24)
      replace g12 := g12.alloc (.cells #[.bool false, (.slice none 0 0)] 24)
      replace g13 := g13.alloc (.cells #[.bool false, (.slice none 0 0)] 24)
      replace hb := hb.alloc hb.size (.cells #[.bool false, (.slice none 0 0)] 24)
      obtain ⟨w_51, hw_51⟩ : ∃ v, (w_50.alloc (.cells #[.bool false, (.slice none 0 0)] 24)) = v := ⟨_, rfl⟩
      rw [hw_51] at ha hb' g1 g8 g9 g10 g11 hp hq hz1 hz2 hz3 h7 h8 h9 h10 h11 g12 g13 h12 hb
      have kb_h13 := hb.size
      have ne_hp_h13 : w.heap.size ≠ w_51.heap.size := by have := hp.lt; (try simp only [Bk.size_alloc] at this); omega
      have ne_hq_h13 : w.heap.size + 1 ≠ w_51.heap.size := by have := hq.lt; (try simp only [Bk.size_alloc] at this); omega
      have ne_hz1_h13 : w.heap.size + 1 + 1 ≠ w_51.heap.size := by have := hz1.lt; (try simp only [Bk.size_alloc] at this); omega
      have ne_hz2_h13 : w.heap.size + 1 + 1 + 1 ≠ w_51.heap.size := by have := hz2.lt; (try simp only [Bk.size_alloc] at this); omega
      have ne_hz3_h13 : w.heap.size + 1 + 1 + 1 + 1 ≠ w_51.heap.size := by have := hz3.lt; (try simp only [Bk.size_alloc] at this); omega
      have ne_h7_h13 : w_1.heap.size ≠ w_51.heap.size := by have := h7.lt; (try simp only [Bk.size_alloc] at this); omega
      have ne_h8_h13 : p_h8 ≠ w_51.heap.size := by have := h8.lt; (try simp only [Bk.size_alloc] at this); omega
      have ne_h9_h13 : p_h9 ≠ w_51.heap.size := by have := h9.lt; (try simp only [Bk.size_alloc] at this); omega
      have ne_h10_h13 : w_7.heap.size ≠ w_51.heap.size := by have := h10.lt; (try simp only [Bk.size_alloc] at this); omega
      have ne_h11_h13 : w_8.heap.size ≠ w_51.heap.size := by have := h11.lt; (try simp only [Bk.size_alloc] at this); omega
      have ne_h12_h13 : w_50.heap.size ≠ w_51.heap.size := by have := h12.lt; (try simp only [Bk.size_alloc] at this); omega
      have h13 := Bk.new w_51 false (.slice none 0 0)
      replace ha := ha.alloc (.cells #[.bool false, (.slice none 0 0)] 24)
      replace hb' := hb'.alloc (.cells #[.bool false, (.slice none 0 0)] 24)
      replace g1 := g1.alloc (.cells #[.bool false, (.slice none 0 0)] 24)
      replace g8 := g8.alloc (.cells #[.bool false, (.slice none 0 0)] 24)
      replace g9 := g9.alloc (.cells #[.bool false, (.slice none 0 0)] 24)
      replace g10 := g10.alloc (.cells #[.bool false, (.slice none 0 0)] 24)
      replace g11 := g11.alloc (.cells #[.bool false, (.slice none 0 0)] 24)
      replace hp := hp.alloc (.cells #[.bool false, (.slice none 0 0)] 24)
      replace hq := hq.alloc (.cells #[.bool false, (.slice none 0 0)] 24)
      replace hz1 := hz1.alloc (.cells #[.bool false, (.slice none 0 0)] 24)
      replace hz2 := hz2.alloc (.cells #[.bool false, (.slice none 0 0)] 24)
      replace hz3 := hz3.alloc (.cells #[.bool false, (.slice none 0 0)] 24)
      replace h7 := h7.alloc (.cells #[.bool false, (.slice none 0 0)] 24)
      replace h8 := h8.alloc (.cells #[.bool false, (.slice none 0 0)] 24)
      replace h9 := h9.alloc (.cells #[.bool false, (.slice none 0 0)] 24)
      replace h10 := h10.alloc (.cells #[.bool false, (.slice none 0 0)] 24)
      replace h11 := h11.alloc (.cells #[.bool false, (.slice none 0 0)] 24)
      replace g12 := g12.alloc (.cells #[.bool false, (.slice none 0 0)] 24)
      replace g13 := g13.alloc (.cells #[.bool false, (.slice none 0 0)] 24)
      replace h12 := h12.alloc (.cells #[.bool false, (.slice none 0 0)] 24)
      replace hb := hb.alloc hb.size (.cells #[.bool false, (.slice none 0 0)] 24)
      obtain ⟨w_52, hw_52⟩ : ∃ v, (w_51.alloc (.cells #[.bool false, (.slice none 0 0)] 24)) = v := ⟨_, rfl⟩
      rw [hw_52] at ha hb' g1 g8 g9 g10 g11 hp hq hz1 hz2 hz3 h7 h8 h9 h10 h11 g12 g13 h12 h13 hb
      obtain ⟨sb_h12, o_h12, n_h12, c_h12, rfl⟩ := g12.open2
      have f_h12 := h12.facts
      have ho := Bk.only w_52 (w_50.heap.size) sb_h12 (.slice o_h12 n_h12 c_h12)
      have hbx_ := h12.bx
      replace ha := ha.frame hbx_ ho
      replace hb' := hb'.frame hbx_ ho
      replace g1 := g1.frame hbx_ ho
      replace g8 := g8.frame hbx_ ho
      replace g9 := g9.frame hbx_ ho
      replace g10 := g10.frame hbx_ ho
      replace g11 := g11.frame hbx_ ho
      replace hp := hp.frame ho (by first | assumption | (apply Ne.symm; assumption) | (simp; done) | omega)
      replace hq := hq.frame ho (by first | assumption | (apply Ne.symm; assumption) | (simp; done) | omega)
      replace hz1 := hz1.frame ho (by first | assumption | (apply Ne.symm; assumption) | (simp; done) | omega)
      replace hz2 := hz2.frame ho (by first | assumption | (apply Ne.symm; assumption) | (simp; done) | omega)
      replace hz3 := hz3.frame ho (by first | assumption | (apply Ne.symm; assumption) | (simp; done) | omega)
      replace h7 := h7.frame ho (by first | assumption | (apply Ne.symm; assumption) | (simp; done) | omega)
      replace h8 := h8.frame ho (by first | assumption | (apply Ne.symm; assumption) | (simp; done) | omega)
      replace h9 := h9.frame ho (by first | assumption | (apply Ne.symm; assumption) | (simp; done) | omega)
      replace h10 := h10.frame ho (by first | assumption | (apply Ne.symm; assumption) | (simp; done) | omega)
      replace h11 := h11.frame ho (by first | assumption | (apply Ne.symm; assumption) | (simp; done) | omega)
      replace g12 := g12.frame hbx_ ho
      replace g13 := g13.frame hbx_ ho
      replace h13 := h13.frame ho (by first | assumption | (apply Ne.symm; assumption) | (simp; done) | omega)
      replace h12 := h12.store sb_h12 (.slice o_h12 n_h12 c_h12)
      replace hb := (hb.setCell (p := ⟨w_50.heap.size, 0, none⟩) (show w.heap.size ≤ w_50.heap.size by first | assumption | (simp; done) | omega) (.bool sb_h12)).setCell (p := ⟨w_50.heap.size, 1, none⟩) (show w.heap.size ≤ w_50.heap.size by first | assumption | (simp; done) | omega) (.slice o_h12 n_h12 c_h12)
      clear ho hbx_
      obtain ⟨w_53, hw_53⟩ : ∃ v, ((w_52.setCell ⟨w_50.heap.size, 0, none⟩ (.bool sb_h12)).setCell ⟨w_50.heap.size, 1, none⟩ (.slice o_h12 n_h12 c_h12)) = v := ⟨_, rfl⟩
      rw [hw_53] at ha hb' g1 g8 g9 g10 g11 hp hq hz1 hz2 hz3 h7 h8 h9 h10 h11 g12 g13 h12 h13 hb
      obtain ⟨sb_h13, o_h13, n_h13, c_h13, rfl⟩ := g13.open2
      have f_h13 := h13.facts
      have ho := Bk.only w_53 (w_51.heap.size) sb_h13 (.slice o_h13 n_h13 c_h13)
      have hbx_ := h13.bx
      replace ha := ha.frame hbx_ ho
      replace hb' := hb'.frame hbx_ ho
      replace g1 := g1.frame hbx_ ho
      replace g8 := g8.frame hbx_ ho
      replace g9 := g9.frame hbx_ ho
      replace g10 := g10.frame hbx_ ho
      replace g11 := g11.frame hbx_ ho
      replace hp := hp.frame ho (by first | assumption | (apply Ne.symm; assumption) | (simp; done) | omega)
      replace hq := hq.frame ho (by first | assumption | (apply Ne.symm; assumption) | (simp; done) | omega)
      replace hz1 := hz1.frame ho (by first | assumption | (apply Ne.symm; assumption) | (simp; done) | omega)
      replace hz2 := hz2.frame ho (by first | assumption | (apply Ne.symm; assumption) | (simp; done) | omega)
      replace hz3 := hz3.frame ho (by first | assumption | (apply Ne.symm; assumption) | (simp; done) | omega)
      replace h7 := h7.frame ho (by first | assumption | (apply Ne.symm; assumption) | (simp; done) | omega)
      replace h8 := h8.frame ho (by first | assumption | (apply Ne.symm; assumption) | (simp; done) | omega)
      replace h9 := h9.frame ho (by first | assumption | (apply Ne.symm; assumption) | (simp; done) | omega)
      replace h10 := h10.frame ho (by first | assumption | (apply Ne.symm; assumption) | (simp; done) | omega)
      replace h11 := h11.frame ho (by first | assumption | (apply Ne.symm; assumption) | (simp; done) | omega)
      replace g12 := g12.frame hbx_ ho
      replace g13 := g13.frame hbx_ ho
      replace h12 := h12.frame ho (by first | assumption | (apply Ne.symm; assumption) | (simp; done) | omega)
      replace h13 := h13.store sb_h13 (.slice o_h13 n_h13 c_h13)
      replace hb := (hb.setCell (p := ⟨w_51.heap.size, 0, none⟩) (show w.heap.size ≤ w_51.heap.size by first | assumption | (simp; done) | omega) (.bool sb_h13)).setCell (p := ⟨w_51.heap.size, 1, none⟩) (show w.heap.size ≤ w_51.heap.size by first | assumption | (simp; done) | omega) (.slice o_h13 n_h13 c_h13)
      clear ho hbx_
      obtain ⟨w_54, hw_54⟩ : ∃ v, ((w_53.setCell ⟨w_51.heap.size, 0, none⟩ (.bool sb_h13)).setCell ⟨w_51.heap.size, 1, none⟩ (.slice o_h13 n_h13 c_h13)) = v := ⟨_, rfl⟩
      rw [hw_54] at ha hb' g1 g8 g9 g10 g11 hp hq hz1 hz2 hz3 h7 h8 h9 h10 h11 g12 g13 h12 h13 hb
      replace ha := ha.drew
      replace hb' := hb'.drew
      replace g1 := g1.drew
      replace g8 := g8.drew
      replace g9 := g9.drew
      replace g10 := g10.drew
      replace g11 := g11.drew
      replace hp := hp.drew
      replace hq := hq.drew
      replace hz1 := hz1.drew
      replace hz2 := hz2.drew
      replace hz3 := hz3.drew
      replace h7 := h7.drew
      replace h8 := h8.drew
      replace h9 := h9.drew
      replace h10 := h10.drew
      replace h11 := h11.drew
      replace g12 := g12.drew
      replace g13 := g13.drew
      replace h12 := h12.drew
      replace h13 := h13.drew
      replace hb := hb.drew
      have lt_hp := hp.lt
      have lt_hq := hq.lt
      have lt_hz1 := hz1.lt
      have lt_hz2 := hz2.lt
      have lt_hz3 := hz3.lt
      have lt_h7 := h7.lt
      have lt_h8 := h8.lt
      have lt_h9 := h9.lt
      have lt_h10 := h10.lt
      have lt_h11 := h11.lt
      have lt_h12 := h12.lt
      have lt_h13 := h13.lt
      have kb0 := hb.size
      go_wp2_with fail
      refine wp_region_fl [(0, false), (1, false)] [2, 3] [] (fun _ => obZ) [0, 1, 99, 99] [(3, 0)] (fun w' => w'.cell? ⟨p_h9, 0, none⟩ = some (.bool s9) ∧ w'.cell? ⟨p_h9, 1, none⟩ = some (.slice o9 n9 c9) ∧ w'.cell? ⟨w_51.heap.size, 0, none⟩ = some (.bool sb_h13) ∧ w'.cell? ⟨w_51.heap.size, 1, none⟩ = some (.slice o_h13 n_h13 c_h13)) [fun w' => w'.cell? ⟨p_h9, 0, none⟩ = some (.bool s9) ∧ w'.cell? ⟨p_h9, 1, none⟩ = some (.slice o9 n9 c9), fun w' => w'.cell? ⟨w_51.heap.size, 0, none⟩ = some (.bool sb_h13) ∧ w'.cell? ⟨w_51.heap.size, 1, none⟩ = some (.slice o_h13 n_h13 c_h13)] (by kernel_rfl) (by kernel_rfl) (by kernel_rfl) (by kernel_rfl) (by kernel_rfl) (by kernel_rfl) (by kernel_rfl) (by kernel_rfl) (by decide) (by intro j hj; cases hj) (by intro w' o hC; obtain ⟨c0, c1, c2, c3⟩ := hC; exact ⟨cell_alloc c0 o, cell_alloc c1 o, cell_alloc c2 o, cell_alloc c3 o⟩) (by intro w' hC G hG; obtain ⟨c0, c1, c2, c3⟩ := hC; simp only [List.mem_cons, List.not_mem_nil, or_false] at hG; rcases hG with rfl | rfl <;> first | exact ⟨c0, c1⟩ | exact ⟨c2, c3⟩) ⟨h9.facts.1, h9.facts.2.1, h13.facts.1, h13.facts.2.1⟩ ?_
      clear f_h12 f_h13
      apply wpFl_ld
      case hG => rfl
      case hi => rfl
      case h1 => intro w' hC K hK; obtain ⟨c0, c1⟩ := hC; (first | go_big_move | go_big_op); exact hK
      case hw => kernel_rfl
      case hv => kernel_rfl
      case hb => kernel_rfl
      case hp => kernel_rfl
      apply wpFl_ld
      case hG => rfl
      case hi => rfl
      case h1 => intro w' hC K hK; obtain ⟨c0, c1⟩ := hC; (first | go_big_move | go_big_op); exact hK
      case hw => kernel_rfl
      case hv => kernel_rfl
      case hb => kernel_rfl
      case hp => kernel_rfl
      apply wpFl_end
      case ha => intro pt; simp only [putF]; rfl
      case h =>
      intro w_55 pt hn hC hF hD
      clear hC
      replace ha := ha.below hn (Nat.le_refl _)
      replace hb' := hb'.below hn (Nat.le_refl _)
      replace g1 := g1.below hn (Nat.le_refl _)
      replace g8 := g8.below hn (Nat.le_refl _)
      replace g9 := g9.below hn (Nat.le_refl _)
      replace g10 := g10.below hn (Nat.le_refl _)
      replace g11 := g11.below hn (Nat.le_refl _)
      replace hp := hp.below hn (Nat.le_refl _)
      replace hq := hq.below hn (Nat.le_refl _)
      replace hz1 := hz1.below hn (Nat.le_refl _)
      replace hz2 := hz2.below hn (Nat.le_refl _)
      replace hz3 := hz3.below hn (Nat.le_refl _)
      replace h7 := h7.below hn (Nat.le_refl _)
      replace h8 := h8.below hn (Nat.le_refl _)
      replace h9 := h9.below hn (Nat.le_refl _)
      replace h10 := h10.below hn (Nat.le_refl _)
      replace h11 := h11.below hn (Nat.le_refl _)
      replace g12 := g12.below hn (Nat.le_refl _)
      replace g13 := g13.below hn (Nat.le_refl _)
      replace h12 := h12.below hn (Nat.le_refl _)
      replace h13 := h13.below hn (Nat.le_refl _)
      replace hb := hb.trans (hn.mono hb.size)
      clear hn
      clear hF hD
      clear lt_hp
      clear lt_hq
      clear lt_hz1
      clear lt_hz2
      clear lt_hz3
      clear lt_h7
      clear lt_h8
      clear lt_h9
      clear lt_h10
      clear lt_h11
      clear lt_h12
      clear lt_h13
      clear kb0
      apply wpTail_call
      case hi => rfl
      case hw => kernel_rfl
      case h =>
      intro K hK
      have c9_ := h8.facts
      go_big_op
      have ho := Bk.only w_55 (p_h8) s9 (.slice o9 n9 c9)
      have hbx_ := h8.bx
      replace ha := ha.frame hbx_ ho
      replace hb' := hb'.frame hbx_ ho
      replace g1 := g1.frame hbx_ ho
      replace g8 := g8.frame hbx_ ho
      replace g9 := g9.frame hbx_ ho
      replace g10 := g10.frame hbx_ ho
      replace g11 := g11.frame hbx_ ho
      replace hp := hp.frame ho (by first | assumption | (apply Ne.symm; assumption) | (simp; done) | omega)
      replace hq := hq.frame ho (by first | assumption | (apply Ne.symm; assumption) | (simp; done) | omega)
      replace hz1 := hz1.frame ho (by first | assumption | (apply Ne.symm; assumption) | (simp; done) | omega)
      replace hz2 := hz2.frame ho (by first | assumption | (apply Ne.symm; assumption) | (simp; done) | omega)
      replace hz3 := hz3.frame ho (by first | assumption | (apply Ne.symm; assumption) | (simp; done) | omega)
      replace h7 := h7.frame ho (by first | assumption | (apply Ne.symm; assumption) | (simp; done) | omega)
      replace h9 := h9.frame ho (by first | assumption | (apply Ne.symm; assumption) | (simp; done) | omega)
      replace h10 := h10.frame ho (by first | assumption | (apply Ne.symm; assumption) | (simp; done) | omega)
      replace h11 := h11.frame ho (by first | assumption | (apply Ne.symm; assumption) | (simp; done) | omega)
      replace g12 := g12.frame hbx_ ho
      replace g13 := g13.frame hbx_ ho
      replace h12 := h12.frame ho (by first | assumption | (apply Ne.symm; assumption) | (simp; done) | omega)
      replace h13 := h13.frame ho (by first | assumption | (apply Ne.symm; assumption) | (simp; done) | omega)
      replace h8 := h8.store s9 (.slice o9 n9 c9)
      replace hb := (hb.setCell (p := ⟨p_h8, 0, none⟩) (show w.heap.size ≤ p_h8 by first | assumption | (simp; done) | omega) (.bool s9)).setCell (p := ⟨p_h8, 1, none⟩) (show w.heap.size ≤ p_h8 by first | assumption | (simp; done) | omega) (.slice o9 n9 c9)
      refine hK _ _ rfl (And.intro (And.intro h9.facts.1 h9.facts.2.1) (And.intro (And.intro h13.facts.1 h13.facts.2.1) True.intro)) ?_
      clear hK K hbx_ ho c9_
      apply wpTail_call
      case hi => rfl
      case hw => kernel_rfl
      case h =>
      intro K hK
      have c9_ := h9.facts
      go_big_op
      have ho := Bk.only ((w_55.setCell ⟨p_h8, 0, none⟩ (.bool s9)).setCell ⟨p_h8, 1, none⟩ (.slice o9 n9 c9)) (p_h9) sb_h13 (.slice o_h13 n_h13 c_h13)
      have hbx_ := h9.bx
      replace ha := ha.frame hbx_ ho
      replace hb' := hb'.frame hbx_ ho
      replace g1 := g1.frame hbx_ ho
      replace g8 := g8.frame hbx_ ho
      replace g9 := g9.frame hbx_ ho
      replace g10 := g10.frame hbx_ ho
      replace g11 := g11.frame hbx_ ho
      replace hp := hp.frame ho (by first | assumption | (apply Ne.symm; assumption) | (simp; done) | omega)
      replace hq := hq.frame ho (by first | assumption | (apply Ne.symm; assumption) | (simp; done) | omega)
      replace hz1 := hz1.frame ho (by first | assumption | (apply Ne.symm; assumption) | (simp; done) | omega)
      replace hz2 := hz2.frame ho (by first | assumption | (apply Ne.symm; assumption) | (simp; done) | omega)
      replace hz3 := hz3.frame ho (by first | assumption | (apply Ne.symm; assumption) | (simp; done) | omega)
      replace h7 := h7.frame ho (by first | assumption | (apply Ne.symm; assumption) | (simp; done) | omega)
      replace h8 := h8.frame ho (by first | assumption | (apply Ne.symm; assumption) | (simp; done) | omega)
      replace h10 := h10.frame ho (by first | assumption | (apply Ne.symm; assumption) | (simp; done) | omega)
      replace h11 := h11.frame ho (by first | assumption | (apply Ne.symm; assumption) | (simp; done) | omega)
      replace g12 := g12.frame hbx_ ho
      replace g13 := g13.frame hbx_ ho
      replace h12 := h12.frame ho (by first | assumption | (apply Ne.symm; assumption) | (simp; done) | omega)
      replace h13 := h13.frame ho (by first | assumption | (apply Ne.symm; assumption) | (simp; done) | omega)
      replace h9 := h9.store sb_h13 (.slice o_h13 n_h13 c_h13)
      replace hb := (hb.setCell (p := ⟨p_h9, 0, none⟩) (show w.heap.size ≤ p_h9 by first | assumption | (simp; done) | omega) (.bool sb_h13)).setCell (p := ⟨p_h9, 1, none⟩) (show w.heap.size ≤ p_h9 by first | assumption | (simp; done) | omega) (.slice o_h13 n_h13 c_h13)
      refine hK _ _ rfl (And.intro True.intro (And.intro (And.intro h13.facts.1 h13.facts.2.1) True.intro)) ?_
      clear hK K hbx_ ho c9_
      apply wpTail_end
      replace ha := ha.drew
      replace hb' := hb'.drew
      replace g1 := g1.drew
      replace g8 := g8.drew
      replace g9 := g9.drew
      replace g10 := g10.drew
      replace g11 := g11.drew
      replace hp := hp.drew
      replace hq := hq.drew
      replace hz1 := hz1.drew
      replace hz2 := hz2.drew
      replace hz3 := hz3.drew
      replace h7 := h7.drew
      replace h8 := h8.drew
      replace h9 := h9.drew
      replace h10 := h10.drew
      replace h11 := h11.drew
      replace g12 := g12.drew
      replace g13 := g13.drew
      replace h12 := h12.drew
      replace h13 := h13.drew
      replace hb := hb.drew
      have lt_hp := hp.lt
      have lt_hq := hq.lt
      have lt_hz1 := hz1.lt
      have lt_hz2 := hz2.lt
      have lt_hz3 := hz3.lt
      have lt_h7 := h7.lt
      have lt_h8 := h8.lt
      have lt_h9 := h9.lt
      have lt_h10 := h10.lt
      have lt_h11 := h11.lt
      have lt_h12 := h12.lt
      have lt_h13 := h13.lt
      have kb0 := hb.size
      go_wp2_with fail
      refine wp_region_fl [(0, false), (1, false), (2, false), (3, false), (4, true), (5, true)] [6, 7] [] (fun _ => obZ) [1, 0, 2, 1, 99, 99, 99, 99] [(6, 0), (7, 0), (7, 1)] (fun w' => w'.cell? ⟨w_7.heap.size, 0, none⟩ = some (.bool s10) ∧ w'.cell? ⟨w_7.heap.size, 1, none⟩ = some (.slice o10 n10 c10) ∧ w'.cell? ⟨w_8.heap.size, 0, none⟩ = some (.bool s11) ∧ w'.cell? ⟨w_8.heap.size, 1, none⟩ = some (.slice o11 n11 c11) ∧ w'.cell? ⟨w_50.heap.size, 0, none⟩ = some (.bool sb_h12) ∧ w'.cell? ⟨w_50.heap.size, 1, none⟩ = some (.slice o_h12 n_h12 c_h12)) [fun w' => w'.cell? ⟨w_7.heap.size, 0, none⟩ = some (.bool s10) ∧ w'.cell? ⟨w_7.heap.size, 1, none⟩ = some (.slice o10 n10 c10), fun w' => w'.cell? ⟨w_8.heap.size, 0, none⟩ = some (.bool s11) ∧ w'.cell? ⟨w_8.heap.size, 1, none⟩ = some (.slice o11 n11 c11), fun w' => w'.cell? ⟨w_50.heap.size, 0, none⟩ = some (.bool sb_h12) ∧ w'.cell? ⟨w_50.heap.size, 1, none⟩ = some (.slice o_h12 n_h12 c_h12)] (by kernel_rfl) (by kernel_rfl) (by kernel_rfl) (by kernel_rfl) (by kernel_rfl) (by kernel_rfl) (by kernel_rfl) (by kernel_rfl) (by decide) (by intro j hj; cases hj) (by intro w' o hC; obtain ⟨c0, c1, c2, c3, c4, c5⟩ := hC; exact ⟨cell_alloc c0 o, cell_alloc c1 o, cell_alloc c2 o, cell_alloc c3 o, cell_alloc c4 o, cell_alloc c5 o⟩) (by intro w' hC G hG; obtain ⟨c0, c1, c2, c3, c4, c5⟩ := hC; simp only [List.mem_cons, List.not_mem_nil, or_false] at hG; rcases hG with rfl | rfl | rfl <;> first | exact ⟨c0, c1⟩ | exact ⟨c2, c3⟩ | exact ⟨c4, c5⟩) ⟨h10.facts.1, h10.facts.2.1, h11.facts.1, h11.facts.2.1, h12.facts.1, h12.facts.2.1⟩ ?_
      apply wpFl_ld
      case hG => rfl
      case hi => rfl
      case h1 => intro w' hC K hK; obtain ⟨c0, c1⟩ := hC; (first | go_big_move | go_big_op); exact hK
      case hw => kernel_rfl
      case hv => kernel_rfl
      case hb => kernel_rfl
      case hp => kernel_rfl
      apply wpFl_ld
      case hG => rfl
      case hi => rfl
      case h1 => intro w' hC K hK; obtain ⟨c0, c1⟩ := hC; (first | go_big_move | go_big_op); exact hK
      case hw => kernel_rfl
      case hv => kernel_rfl
      case hb => kernel_rfl
      case hp => kernel_rfl
      apply wpFl_ld
      case hG => rfl
      case hi => rfl
      case h1 => intro w' hC K hK; obtain ⟨c0, c1⟩ := hC; (first | go_big_move | go_big_op); exact hK
      case hw => kernel_rfl
      case hv => kernel_rfl
      case hb => kernel_rfl
      case hp => kernel_rfl
      apply wpFl_ld
      case hG => rfl
      case hi => rfl
      case h1 => intro w' hC K hK; obtain ⟨c0, c1⟩ := hC; (first | go_big_move | go_big_op); exact hK
      case hw => kernel_rfl
      case hv => kernel_rfl
      case hb => kernel_rfl
      case hp => kernel_rfl
      apply wpFl_call
      case hi => rfl
      case hw => kernel_rfl
      case h =>
      intro w_56 hn hC
      clear hC
      replace ha := ha.below hn (Nat.le_refl _)
      replace hb' := hb'.below hn (Nat.le_refl _)
      replace g1 := g1.below hn (Nat.le_refl _)
      replace g8 := g8.below hn (Nat.le_refl _)
      replace g9 := g9.below hn (Nat.le_refl _)
      replace g10 := g10.below hn (Nat.le_refl _)
      replace g11 := g11.below hn (Nat.le_refl _)
      replace hp := hp.below hn (Nat.le_refl _)
      replace hq := hq.below hn (Nat.le_refl _)
      replace hz1 := hz1.below hn (Nat.le_refl _)
      replace hz2 := hz2.below hn (Nat.le_refl _)
      replace hz3 := hz3.below hn (Nat.le_refl _)
      replace h7 := h7.below hn (Nat.le_refl _)
      replace h8 := h8.below hn (Nat.le_refl _)
      replace h9 := h9.below hn (Nat.le_refl _)
      replace h10 := h10.below hn (Nat.le_refl _)
      replace h11 := h11.below hn (Nat.le_refl _)
      replace g12 := g12.below hn (Nat.le_refl _)
      replace g13 := g13.below hn (Nat.le_refl _)
      replace h12 := h12.below hn (Nat.le_refl _)
      replace h13 := h13.below hn (Nat.le_refl _)
      replace hb := hb.trans (hn.mono hb.size)
      clear hn
      intro K hK
      have kb_57 := hb.size
      go_big_op
      go_fit (rzmul_any (g12.zn LQ.out) (g11.zn LU.out) (by omega) (by omega))
      rintro e w_57 ⟨v14, rfl, g14, hb_57⟩
      replace ha := ha.below hb_57 (Nat.le_refl _)
      replace hb' := hb'.below hb_57 (Nat.le_refl _)
      replace g1 := g1.below hb_57 (Nat.le_refl _)
      replace g8 := g8.below hb_57 (Nat.le_refl _)
      replace g9 := g9.below hb_57 (Nat.le_refl _)
      replace g10 := g10.below hb_57 (Nat.le_refl _)
      replace g11 := g11.below hb_57 (Nat.le_refl _)
      replace hp := hp.below hb_57 (Nat.le_refl _)
      replace hq := hq.below hb_57 (Nat.le_refl _)
      replace hz1 := hz1.below hb_57 (Nat.le_refl _)
      replace hz2 := hz2.below hb_57 (Nat.le_refl _)
      replace hz3 := hz3.below hb_57 (Nat.le_refl _)
      replace h7 := h7.below hb_57 (Nat.le_refl _)
      replace h8 := h8.below hb_57 (Nat.le_refl _)
      replace h9 := h9.below hb_57 (Nat.le_refl _)
      replace h10 := h10.below hb_57 (Nat.le_refl _)
      replace h11 := h11.below hb_57 (Nat.le_refl _)
      replace g12 := g12.below hb_57 (Nat.le_refl _)
      replace g13 := g13.below hb_57 (Nat.le_refl _)
      replace h12 := h12.below hb_57 (Nat.le_refl _)
      replace h13 := h13.below hb_57 (Nat.le_refl _)
      replace hb := hb.trans (hb_57.mono hb.size)
      refine hK _ _ rfl hb_57 ⟨h10.facts.1, h10.facts.2.1, h11.facts.1, h11.facts.2.1, h12.facts.1, h12.facts.2.1⟩ ?_
      clear hK K hb_57
      replace g14 := g14.rd
      apply wpFl_call
      case hi => rfl
      case hw => kernel_rfl
      case h =>
      intro w_58 hn hC
      clear hC
      replace ha := ha.below hn (Nat.le_refl _)
      replace hb' := hb'.below hn (Nat.le_refl _)
      replace g1 := g1.below hn (Nat.le_refl _)
      replace g8 := g8.below hn (Nat.le_refl _)
      replace g9 := g9.below hn (Nat.le_refl _)
      replace g10 := g10.below hn (Nat.le_refl _)
      replace g11 := g11.below hn (Nat.le_refl _)
      replace hp := hp.below hn (Nat.le_refl _)
      replace hq := hq.below hn (Nat.le_refl _)
      replace hz1 := hz1.below hn (Nat.le_refl _)
      replace hz2 := hz2.below hn (Nat.le_refl _)
      replace hz3 := hz3.below hn (Nat.le_refl _)
      replace h7 := h7.below hn (Nat.le_refl _)
      replace h8 := h8.below hn (Nat.le_refl _)
      replace h9 := h9.below hn (Nat.le_refl _)
      replace h10 := h10.below hn (Nat.le_refl _)
      replace h11 := h11.below hn (Nat.le_refl _)
      replace g12 := g12.below hn (Nat.le_refl _)
      replace g13 := g13.below hn (Nat.le_refl _)
      replace h12 := h12.below hn (Nat.le_refl _)
      replace h13 := h13.below hn (Nat.le_refl _)
      replace g14 := g14.below hn (Nat.le_refl _)
      replace hb := hb.trans (hn.mono hb.size)
      clear hn
      intro K hK
      have kb_59 := hb.size
      go_big_op
      go_fit (rzsub_any (g10.zn LX.out) (g14.zn LM.out) (by omega) (by omega))
      rintro e w_59 ⟨v15, rfl, g15, hb_59⟩
      replace ha := ha.below hb_59 (Nat.le_refl _)
      replace hb' := hb'.below hb_59 (Nat.le_refl _)
      replace g1 := g1.below hb_59 (Nat.le_refl _)
      replace g8 := g8.below hb_59 (Nat.le_refl _)
      replace g9 := g9.below hb_59 (Nat.le_refl _)
      replace g10 := g10.below hb_59 (Nat.le_refl _)
      replace g11 := g11.below hb_59 (Nat.le_refl _)
      replace hp := hp.below hb_59 (Nat.le_refl _)
      replace hq := hq.below hb_59 (Nat.le_refl _)
      replace hz1 := hz1.below hb_59 (Nat.le_refl _)
      replace hz2 := hz2.below hb_59 (Nat.le_refl _)
      replace hz3 := hz3.below hb_59 (Nat.le_refl _)
      replace h7 := h7.below hb_59 (Nat.le_refl _)
      replace h8 := h8.below hb_59 (Nat.le_refl _)
      replace h9 := h9.below hb_59 (Nat.le_refl _)
      replace h10 := h10.below hb_59 (Nat.le_refl _)
      replace h11 := h11.below hb_59 (Nat.le_refl _)
      replace g12 := g12.below hb_59 (Nat.le_refl _)
      replace g13 := g13.below hb_59 (Nat.le_refl _)
      replace h12 := h12.below hb_59 (Nat.le_refl _)
      replace h13 := h13.below hb_59 (Nat.le_refl _)
      replace g14 := g14.below hb_59 (Nat.le_refl _)
      replace hb := hb.trans (hb_59.mono hb.size)
      refine hK _ _ rfl hb_59 ⟨h10.facts.1, h10.facts.2.1, h11.facts.1, h11.facts.2.1, h12.facts.1, h12.facts.2.1⟩ ?_
      clear hK K hb_59
      replace g15 := g15.rd
      clear g14
      apply wpFl_end
      case ha => intro pt; simp only [putF]; rfl
      case h =>
      intro w_60 pt hn hC hF hD
      clear hC
      replace ha := ha.below hn (Nat.le_refl _)
      replace hb' := hb'.below hn (Nat.le_refl _)
      replace g1 := g1.below hn (Nat.le_refl _)
      replace g8 := g8.below hn (Nat.le_refl _)
      replace g9 := g9.below hn (Nat.le_refl _)
      replace g10 := g10.below hn (Nat.le_refl _)
      replace g11 := g11.below hn (Nat.le_refl _)
      replace hp := hp.below hn (Nat.le_refl _)
      replace hq := hq.below hn (Nat.le_refl _)
      replace hz1 := hz1.below hn (Nat.le_refl _)
      replace hz2 := hz2.below hn (Nat.le_refl _)
      replace hz3 := hz3.below hn (Nat.le_refl _)
      replace h7 := h7.below hn (Nat.le_refl _)
      replace h8 := h8.below hn (Nat.le_refl _)
      replace h9 := h9.below hn (Nat.le_refl _)
      replace h10 := h10.below hn (Nat.le_refl _)
      replace h11 := h11.below hn (Nat.le_refl _)
      replace g12 := g12.below hn (Nat.le_refl _)
      replace g13 := g13.below hn (Nat.le_refl _)
      replace h12 := h12.below hn (Nat.le_refl _)
      replace h13 := h13.below hn (Nat.le_refl _)
      replace g15 := g15.below hn (Nat.le_refl _)
      replace hb := hb.trans (hn.mono hb.size)
      clear hn
      clear hF hD
      clear lt_hp
      clear lt_hq
      clear lt_hz1
      clear lt_hz2
      clear lt_hz3
      clear lt_h7
      clear lt_h8
      clear lt_h9
      clear lt_h10
      clear lt_h11
      clear lt_h12
      clear lt_h13
      clear kb0
      apply wpTail_call
      case hi => rfl
      case hw => kernel_rfl
      case h =>
      intro K hK
      have c9_ := h10.facts
      go_big_op
      have ho := Bk.only w_60 (w_7.heap.size) s11 (.slice o11 n11 c11)
      have hbx_ := h10.bx
      replace ha := ha.frame hbx_ ho
      replace hb' := hb'.frame hbx_ ho
      replace g1 := g1.frame hbx_ ho
      replace g8 := g8.frame hbx_ ho
      replace g9 := g9.frame hbx_ ho
      replace g10 := g10.frame hbx_ ho
      replace g11 := g11.frame hbx_ ho
      replace hp := hp.frame ho (by first | assumption | (apply Ne.symm; assumption) | (simp; done) | omega)
      replace hq := hq.frame ho (by first | assumption | (apply Ne.symm; assumption) | (simp; done) | omega)
      replace hz1 := hz1.frame ho (by first | assumption | (apply Ne.symm; assumption) | (simp; done) | omega)
      replace hz2 := hz2.frame ho (by first | assumption | (apply Ne.symm; assumption) | (simp; done) | omega)
      replace hz3 := hz3.frame ho (by first | assumption | (apply Ne.symm; assumption) | (simp; done) | omega)
      replace h7 := h7.frame ho (by first | assumption | (apply Ne.symm; assumption) | (simp; done) | omega)
      replace h8 := h8.frame ho (by first | assumption | (apply Ne.symm; assumption) | (simp; done) | omega)
      replace h9 := h9.frame ho (by first | assumption | (apply Ne.symm; assumption) | (simp; done) | omega)
      replace h11 := h11.frame ho (by first | assumption | (apply Ne.symm; assumption) | (simp; done) | omega)
      replace g12 := g12.frame hbx_ ho
      replace g13 := g13.frame hbx_ ho
      replace h12 := h12.frame ho (by first | assumption | (apply Ne.symm; assumption) | (simp; done) | omega)
      replace h13 := h13.frame ho (by first | assumption | (apply Ne.symm; assumption) | (simp; done) | omega)
      replace g15 := g15.frame hbx_ ho
      replace h10 := h10.store s11 (.slice o11 n11 c11)
      replace hb := (hb.setCell (p := ⟨w_7.heap.size, 0, none⟩) (show w.heap.size ≤ w_7.heap.size by first | assumption | (simp; done) | omega) (.bool s11)).setCell (p := ⟨w_7.heap.size, 1, none⟩) (show w.heap.size ≤ w_7.heap.size by first | assumption | (simp; done) | omega) (.slice o11 n11 c11)
      refine hK _ _ rfl (And.intro True.intro (And.intro (And.intro h11.facts.1 h11.facts.2.1) (And.intro (And.intro h12.facts.1 h12.facts.2.1) True.intro))) ?_
      clear hK K hbx_ ho c9_
      obtain ⟨sb_h11, o_h11, n_h11, c_h11, rfl⟩ := g15.open2
      apply wpTail_call
      case hi => rfl
      case hw => kernel_rfl
      case h =>
      intro K hK
      have c9_ := h11.facts
      go_big_op
      have ho := Bk.only ((w_60.setCell ⟨w_7.heap.size, 0, none⟩ (.bool s11)).setCell ⟨w_7.heap.size, 1, none⟩ (.slice o11 n11 c11)) (w_8.heap.size) sb_h11 (.slice o_h11 n_h11 c_h11)
      have hbx_ := h11.bx
      replace ha := ha.frame hbx_ ho
      replace hb' := hb'.frame hbx_ ho
      replace g1 := g1.frame hbx_ ho
      replace g8 := g8.frame hbx_ ho
      replace g9 := g9.frame hbx_ ho
      replace g10 := g10.frame hbx_ ho
      replace g11 := g11.frame hbx_ ho
      replace hp := hp.frame ho (by first | assumption | (apply Ne.symm; assumption) | (simp; done) | omega)
      replace hq := hq.frame ho (by first | assumption | (apply Ne.symm; assumption) | (simp; done) | omega)
      replace hz1 := hz1.frame ho (by first | assumption | (apply Ne.symm; assumption) | (simp; done) | omega)
      replace hz2 := hz2.frame ho (by first | assumption | (apply Ne.symm; assumption) | (simp; done) | omega)
      replace hz3 := hz3.frame ho (by first | assumption | (apply Ne.symm; assumption) | (simp; done) | omega)
      replace h7 := h7.frame ho (by first | assumption | (apply Ne.symm; assumption) | (simp; done) | omega)
      replace h8 := h8.frame ho (by first | assumption | (apply Ne.symm; assumption) | (simp; done) | omega)
      replace h9 := h9.frame ho (by first | assumption | (apply Ne.symm; assumption) | (simp; done) | omega)
      replace h10 := h10.frame ho (by first | assumption | (apply Ne.symm; assumption) | (simp; done) | omega)
      replace g12 := g12.frame hbx_ ho
      replace g13 := g13.frame hbx_ ho
      replace h12 := h12.frame ho (by first | assumption | (apply Ne.symm; assumption) | (simp; done) | omega)
      replace h13 := h13.frame ho (by first | assumption | (apply Ne.symm; assumption) | (simp; done) | omega)
      replace g15 := g15.frame hbx_ ho
      replace h11 := h11.store sb_h11 (.slice o_h11 n_h11 c_h11)
      replace hb := (hb.setCell (p := ⟨w_8.heap.size, 0, none⟩) (show w.heap.size ≤ w_8.heap.size by first | assumption | (simp; done) | omega) (.bool sb_h11)).setCell (p := ⟨w_8.heap.size, 1, none⟩) (show w.heap.size ≤ w_8.heap.size by first | assumption | (simp; done) | omega) (.slice o_h11 n_h11 c_h11)
      refine hK _ _ rfl (And.intro True.intro (And.intro True.intro (And.intro (And.intro h12.facts.1 h12.facts.2.1) True.intro))) ?_
      clear hK K hbx_ ho c9_
      apply wpTail_end
      go_wp2
      go_roundg (r.fmod s).natAbs
      case rel => exact ⟨_, _, _, _, _, _, _, _, _, _, _, _, _, _, _, _, _, _, _, _, HFR.out.step H0.out HK.out, rfl, hb, hp, hq, hz1, hz2, hz3, h7, ha, hb', g1, h8, h9, h10, h11, g9.mono (by omega), g13.zn LR.out, g11, g15⟩
      case measure => exact HSK.out
end Go.Proofs.YtabmffenbkdgkaaDoor
