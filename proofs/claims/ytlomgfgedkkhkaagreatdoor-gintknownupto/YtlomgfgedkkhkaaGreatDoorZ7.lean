/- zint.RoundDiv, Exact. -/
import Derived.Test.YtlomgfgedkkhkaaGreatDoorZ6
namespace Go.Proofs.YtlomgfgedkkhkaaGreatDoor
open Go.RowKit Dig

theorem ZC.mag {w : World} {neg : Bool} {s : Value} {z : Int} (h : ZC w (.agg #[.bool neg, s]) z) : Rd w s (dig z.natAbs) := by
  obtain ⟨s', hv, hr⟩ := h
  simp only [Value.agg.injEq, Array.mk.injEq, List.cons.injEq, and_true] at hv
  rw [hv.2]; exact hr
theorem ZO.mag {w : World} {B : Nat} {neg : Bool} {s : Value} {z : Int} (h : ZO w B (.agg #[.bool neg, s]) z) : Rd w s (dig z.natAbs) := h.rd.mag
/-- The nearest whole number, halves up. -/
def rnd (x y : Int) : Int := (2 * x + y).fdiv (2 * y)
theorem fmod_eq (x y : Int) : x = x.fdiv y * y + x.fmod y := by have := Int.mul_fdiv_add_fmod x y; rw [Int.mul_comm] at this; omega
theorem fmod_bd {x y : Int} (_h0 : y ≠ 0) : (0 < y → 0 ≤ x.fmod y ∧ x.fmod y < y) ∧ (y < 0 → y < x.fmod y ∧ x.fmod y ≤ 0) := by
  refine ⟨fun h => ⟨Int.fmod_nonneg_of_pos x h, Int.fmod_lt_of_pos x h⟩, fun h => ?_⟩
  have h1 := ((Int.fdiv_fmod_unique' (a := x) (q := x.fdiv y) (r := x.fmod y) h).1 ⟨rfl, rfl⟩)
  exact ⟨h1.2.1, h1.2.2⟩
theorem rnd_up {x y : Int} (h0 : y ≠ 0) (h : y.natAbs ≤ (x.fmod y).natAbs + (x.fmod y).natAbs) : rnd x y = x.fdiv y + 1 ∧ x - rnd x y * y = x.fmod y - y := by
  have he := fmod_eq x y
  obtain ⟨b1, b2⟩ := fmod_bd (x := x) h0
  have h1 : rnd x y = x.fdiv y + 1 := by
    refine (floor_is (q := x.fdiv y + 1) (r := 2 * x.fmod y - y) ?_ ?_ ?_ (by omega)).1
    · rw [Int.add_mul, Int.mul_left_comm]; omega
    · intro hy; have := b1 (by omega); omega
    · intro hy; have := b2 (by omega); omega
  refine ⟨h1, ?_⟩
  rw [h1, Int.add_mul]; omega
theorem rnd_down {x y : Int} (h0 : y ≠ 0) (h : (x.fmod y).natAbs + (x.fmod y).natAbs < y.natAbs) : rnd x y = x.fdiv y ∧ x - rnd x y * y = x.fmod y := by
  have he := fmod_eq x y
  obtain ⟨b1, b2⟩ := fmod_bd (x := x) h0
  have h1 : rnd x y = x.fdiv y := by
    refine (floor_is (q := x.fdiv y) (r := 2 * x.fmod y + y) ?_ ?_ ?_ (by omega)).1
    · rw [Int.mul_left_comm]; omega
    · intro hy; have := b1 (by omega); omega
    · intro hy; have := b2 (by omega); omega
  refine ⟨h1, ?_⟩
  rw [h1]; omega
theorem fmod_len {x y : Int} {m : Nat} (h0 : y ≠ 0) (h : (dig y.natAbs).length ≤ m) : (dig (x.fmod y).natAbs).length ≤ m := by
  obtain ⟨b1, b2⟩ := fmod_bd (x := x) h0
  refine dig_length_le (Nat.lt_of_lt_of_le (Nat.lt_trans (m := y.natAbs) ?_ (lt_pw_dig _)) (pw_mono h))
  rcases Int.lt_or_gt_of_ne h0 with hy | hy
  · have := b2 hy; omega
  · have := b1 hy; omega
theorem fdiv_le {x y : Int} (h0 : y ≠ 0) : (x.fdiv y).natAbs ≤ x.natAbs := by
  have he := fmod_eq x y
  obtain ⟨b1, b2⟩ := fmod_bd (x := x) h0
  obtain ⟨q, hq⟩ : ∃ q, x.fdiv y = q := ⟨_, rfl⟩
  obtain ⟨r, hr⟩ : ∃ r, x.fmod y = r := ⟨_, rfl⟩
  rw [hq, hr] at he
  rw [hr] at b1 b2
  rw [hq]
  have h1 : (q * y).natAbs = q.natAbs * y.natAbs := Int.natAbs_mul q y
  have h2 : r.natAbs < y.natAbs := by
    rcases Int.lt_or_gt_of_ne h0 with hy | hy
    · have := b2 hy; omega
    · have := b1 hy; omega
  have h3 : (q * y).natAbs ≤ x.natAbs + r.natAbs := by
    generalize q * y = t at *
    omega
  rcases Nat.lt_or_ge x.natAbs q.natAbs with h | h
  · exfalso
    have h4 := Nat.mul_le_mul_right y.natAbs (show x.natAbs + 1 ≤ q.natAbs from h)
    rw [Nat.add_mul, Nat.one_mul] at h4
    have h5 := Nat.le_mul_of_pos_right x.natAbs (show 0 < y.natAbs by omega)
    omega
  · exact h
theorem add_len (n : Nat) : (dig (val (dig n) + val (dig n))).length ≤ (dig n).length + 1 := by
  rw [val_dig]
  refine dig_length_le ?_
  have h := lt_pw_dig n
  generalize (dig n).length = k at *
  simp only [pw]
  omega
theorem fdiv_len {x y : Int} {l : Nat} (h0 : y ≠ 0) (h : (dig x.natAbs).length ≤ l) : (dig (x.fdiv y).natAbs).length ≤ l :=
  dig_length_le (Nat.lt_of_lt_of_le (Nat.lt_of_le_of_lt (fdiv_le h0) (lt_pw_dig _)) (pw_mono h))
set_option maxHeartbeats 4000000 in
set_option maxRecDepth 20000 in
/-- zint.RoundDiv, up. -/
theorem rdiv_up {w : World} {va vb : Value} {x y : Int} {l m : Nat} (ha : ZN w va x l) (hb' : ZN w vb y m) (hl : l ≤ 200000000) (hm : m ≤ 200000000) (h0 : y ≠ 0) (hh : y.natAbs ≤ (x.fmod y).natAbs + (x.fmod y).natAbs) :
    Calls Tryz.prog 69 #[va, vb] w fun e w' => ∃ v1 v2, e = .returned (.tuple #[v1, v2, .int .i64 0]) ∧
      ZO w' w.heap.size v1 (rnd x y) ∧ ZO w' w.heap.size v2 (x - rnd x y * y) ∧ Below w.heap.size w w' := by
  have hr := rnd_up h0 hh
  rw [hr.2, hr.1]
  have LQ := hide (fdiv_len h0 ha.len)
  have LR := hide (show (dig (x.fmod y).natAbs).length ≤ m from fmod_len h0 hb'.len)
  have L1 := hide (show (dig (1 : Int).natAbs).length ≤ 2 from zlen_i 1 (by decide) (by decide))
  have H0 := hide h0
  obtain ⟨na, oa, ca, xs, rfl, hca, _, _, hxl⟩ := ha.open_
  obtain ⟨nb, ob, cb, ys, rfl, hcb, hy, hzy, hyl⟩ := hb'.open_
  obtain ⟨C, hC⟩ : ∃ C, cmpI ((x.fmod y).natAbs + (x.fmod y).natAbs) (val ys) = C := ⟨_, rfl⟩
  have hC0 : 0 ≤ C := by
    rw [← hC]; unfold cmpI
    have : val ys = y.natAbs := by rw [← hzy, zv_abs]
    rw [this, if_neg (by omega)]; split <;> omega
  have HC := hide (show cmpI (val (dig (val (dig (x.fmod y).natAbs) + val (dig (x.fmod y).natAbs)))) (val ys) = C by rw [val_dig, val_dig]; exact hC)
  have hC1 : (C < 0) = False := eq_false (by omega)
  have e0 : ((0 : Int) == 0) = true := rfl
  clear hr h0 hh hC hzy
  go_enter Tryz.func69, Tryz.ntmps69
  have hb := Below.refl w.heap.size w
  have hp := Bk.new w na (.slice oa xs.length ca)
  replace ha := ha.alloc (.cells #[.bool na, (.slice oa xs.length ca)] 26)
  replace hb' := hb'.alloc (.cells #[.bool na, (.slice oa xs.length ca)] 26)
  replace hy := hy.alloc (.cells #[.bool na, (.slice oa xs.length ca)] 26)
  replace hb := hb.alloc hb.size (.cells #[.bool na, (.slice oa xs.length ca)] 26)
  have hq := Bk.new (w.alloc (.cells #[.bool na, (.slice oa xs.length ca)] 26)) nb (.slice ob ys.length cb)
  simp only [Bk.size_alloc] at hq
  replace ha := ha.alloc (.cells #[.bool nb, (.slice ob ys.length cb)] 26)
  replace hb' := hb'.alloc (.cells #[.bool nb, (.slice ob ys.length cb)] 26)
  replace hy := hy.alloc (.cells #[.bool nb, (.slice ob ys.length cb)] 26)
  replace hp := hp.alloc (.cells #[.bool nb, (.slice ob ys.length cb)] 26)
  replace hb := hb.alloc hb.size (.cells #[.bool nb, (.slice ob ys.length cb)] 26)
  have hz1 := Bk.new ((w.alloc (.cells #[.bool na, (.slice oa xs.length ca)] 26)).alloc (.cells #[.bool nb, (.slice ob ys.length cb)] 26)) false (.slice none 0 0)
  simp only [Bk.size_alloc] at hz1
  replace ha := ha.alloc (.cells #[.bool false, (.slice none 0 0)] 26)
  replace hb' := hb'.alloc (.cells #[.bool false, (.slice none 0 0)] 26)
  replace hy := hy.alloc (.cells #[.bool false, (.slice none 0 0)] 26)
  replace hp := hp.alloc (.cells #[.bool false, (.slice none 0 0)] 26)
  replace hq := hq.alloc (.cells #[.bool false, (.slice none 0 0)] 26)
  replace hb := hb.alloc hb.size (.cells #[.bool false, (.slice none 0 0)] 26)
  have hz2 := Bk.new (((w.alloc (.cells #[.bool na, (.slice oa xs.length ca)] 26)).alloc (.cells #[.bool nb, (.slice ob ys.length cb)] 26)).alloc (.cells #[.bool false, (.slice none 0 0)] 26)) false (.slice none 0 0)
  simp only [Bk.size_alloc] at hz2
  replace ha := ha.alloc (.cells #[.bool false, (.slice none 0 0)] 26)
  replace hb' := hb'.alloc (.cells #[.bool false, (.slice none 0 0)] 26)
  replace hy := hy.alloc (.cells #[.bool false, (.slice none 0 0)] 26)
  replace hp := hp.alloc (.cells #[.bool false, (.slice none 0 0)] 26)
  replace hq := hq.alloc (.cells #[.bool false, (.slice none 0 0)] 26)
  replace hz1 := hz1.alloc (.cells #[.bool false, (.slice none 0 0)] 26)
  replace hb := hb.alloc hb.size (.cells #[.bool false, (.slice none 0 0)] 26)
  have f_hp := hp.facts
  have f_hq := hq.facts
  go_wp2_with fail
  refine (fdiv_any ha hb' (by omega) (by omega) H0.out).mono ?_
  rintro e w_1 ⟨v1, v2, rfl, g1, g2, hb_1⟩
  replace ha := ha.below hb_1 (Nat.le_refl _)
  replace hb' := hb'.below hb_1 (Nat.le_refl _)
  replace hy := hy.below hb_1 (Nat.le_refl _)
  replace hp := hp.below hb_1 (Nat.le_refl _)
  replace hq := hq.below hb_1 (Nat.le_refl _)
  replace hz1 := hz1.below hb_1 (Nat.le_refl _)
  replace hz2 := hz2.below hb_1 (Nat.le_refl _)
  replace hb := hb.trans (hb_1.mono hb.size)
  clear hb_1
  clear f_hp f_hq
  obtain ⟨sb_hz1, o_hz1, n_hz1, c_hz1, rfl⟩ := g1.open2
  have f_hz1 := hz1.facts
  have ho := Bk.only w_1 (w.heap.size + 1 + 1) sb_hz1 (.slice o_hz1 n_hz1 c_hz1)
  have hbx_ := hz1.bx
  replace ha := ha.frame hbx_ ho
  replace hb' := hb'.frame hbx_ ho
  replace hy := hy.frame hbx_ ho
  replace hp := hp.frame ho (by first | assumption | (apply Ne.symm; assumption) | (simp; done) | omega)
  replace hq := hq.frame ho (by first | assumption | (apply Ne.symm; assumption) | (simp; done) | omega)
  replace hz2 := hz2.frame ho (by first | assumption | (apply Ne.symm; assumption) | (simp; done) | omega)
  replace g1 := g1.frame hbx_ ho
  replace g2 := g2.frame hbx_ ho
  replace hz1 := hz1.store sb_hz1 (.slice o_hz1 n_hz1 c_hz1)
  replace hb := (hb.setCell (p := ⟨w.heap.size + 1 + 1, 0, none⟩) (show w.heap.size ≤ w.heap.size + 1 + 1 by first | assumption | (simp; done) | omega) (.bool sb_hz1)).setCell (p := ⟨w.heap.size + 1 + 1, 1, none⟩) (show w.heap.size ≤ w.heap.size + 1 + 1 by first | assumption | (simp; done) | omega) (.slice o_hz1 n_hz1 c_hz1)
  clear ho hbx_
  obtain ⟨w_2, hw_2⟩ : ∃ v, ((w_1.setCell ⟨w.heap.size + 1 + 1, 0, none⟩ (.bool sb_hz1)).setCell ⟨w.heap.size + 1 + 1, 1, none⟩ (.slice o_hz1 n_hz1 c_hz1)) = v := ⟨_, rfl⟩
  rw [hw_2] at ha hb' hy hp hq hz1 hz2 g1 g2 hb
  obtain ⟨sb_hz2, o_hz2, n_hz2, c_hz2, rfl⟩ := g2.open2
  have f_hz2 := hz2.facts
  have ho := Bk.only w_2 (w.heap.size + 1 + 1 + 1) sb_hz2 (.slice o_hz2 n_hz2 c_hz2)
  have hbx_ := hz2.bx
  replace ha := ha.frame hbx_ ho
  replace hb' := hb'.frame hbx_ ho
  replace hy := hy.frame hbx_ ho
  replace hp := hp.frame ho (by first | assumption | (apply Ne.symm; assumption) | (simp; done) | omega)
  replace hq := hq.frame ho (by first | assumption | (apply Ne.symm; assumption) | (simp; done) | omega)
  replace hz1 := hz1.frame ho (by first | assumption | (apply Ne.symm; assumption) | (simp; done) | omega)
  replace g1 := g1.frame hbx_ ho
  replace g2 := g2.frame hbx_ ho
  replace hz2 := hz2.store sb_hz2 (.slice o_hz2 n_hz2 c_hz2)
  replace hb := (hb.setCell (p := ⟨w.heap.size + 1 + 1 + 1, 0, none⟩) (show w.heap.size ≤ w.heap.size + 1 + 1 + 1 by first | assumption | (simp; done) | omega) (.bool sb_hz2)).setCell (p := ⟨w.heap.size + 1 + 1 + 1, 1, none⟩) (show w.heap.size ≤ w.heap.size + 1 + 1 + 1 by first | assumption | (simp; done) | omega) (.slice o_hz2 n_hz2 c_hz2)
  clear ho hbx_
  obtain ⟨w_3, hw_3⟩ : ∃ v, ((w_2.setCell ⟨w.heap.size + 1 + 1 + 1, 0, none⟩ (.bool sb_hz2)).setCell ⟨w.heap.size + 1 + 1 + 1, 1, none⟩ (.slice o_hz2 n_hz2 c_hz2)) = v := ⟨_, rfl⟩
  rw [hw_3] at ha hb' hy hp hq hz1 hz2 g1 g2 hb
  replace ha := ha.drew
  replace hb' := hb'.drew
  replace hy := hy.drew
  replace hp := hp.drew
  replace hq := hq.drew
  replace hz1 := hz1.drew
  replace hz2 := hz2.drew
  replace g1 := g1.drew
  replace g2 := g2.drew
  replace hb := hb.drew
  have lt_hp := hp.lt
  have lt_hq := hq.lt
  have lt_hz1 := hz1.lt
  have lt_hz2 := hz2.lt
  have kb0 := hb.size
  go_wp2_with fail
  refine wp_region_fl [(0, false), (1, false), (2, false), (3, false), (5, false), (6, false), (4, true), (7, true), (8, false)] [] [] (fun _ => obZ) [99, 1, 99, 1, 99, 99, 0, 99, 99] [] (fun w' => w'.cell? ⟨w.heap.size + 1, 0, none⟩ = some (.bool nb) ∧ w'.cell? ⟨w.heap.size + 1, 1, none⟩ = some (.slice ob ys.length cb) ∧ w'.cell? ⟨w.heap.size + 1 + 1 + 1, 0, none⟩ = some (.bool sb_hz2) ∧ w'.cell? ⟨w.heap.size + 1 + 1 + 1, 1, none⟩ = some (.slice o_hz2 n_hz2 c_hz2)) [fun w' => w'.cell? ⟨w.heap.size + 1, 0, none⟩ = some (.bool nb) ∧ w'.cell? ⟨w.heap.size + 1, 1, none⟩ = some (.slice ob ys.length cb), fun w' => w'.cell? ⟨w.heap.size + 1 + 1 + 1, 0, none⟩ = some (.bool sb_hz2) ∧ w'.cell? ⟨w.heap.size + 1 + 1 + 1, 1, none⟩ = some (.slice o_hz2 n_hz2 c_hz2)] (by kernel_rfl) (by kernel_rfl) (by kernel_rfl) (by kernel_rfl) (by kernel_rfl) (by kernel_rfl) (by kernel_rfl) (by kernel_rfl) (by decide) (by intro j hj; cases hj) (by intro w' o hC; obtain ⟨c0, c1, c2, c3⟩ := hC; exact ⟨cell_alloc c0 o, cell_alloc c1 o, cell_alloc c2 o, cell_alloc c3 o⟩) (by intro w' hC G hG; obtain ⟨c0, c1, c2, c3⟩ := hC; simp only [List.mem_cons, List.not_mem_nil, or_false] at hG; rcases hG with rfl | rfl <;> first | exact ⟨c0, c1⟩ | exact ⟨c2, c3⟩) ⟨hq.facts.1, hq.facts.2.1, hz2.facts.1, hz2.facts.2.1⟩ ?_
  clear f_hz1 f_hz2
  apply wpFl_ld
  case hG => rfl
  case hi => rfl
  case h1 => intro w' hC K hK; clear hC; (first | go_big_move | go_big_op); exact hK
  case hw => kernel_rfl
  case hv => kernel_rfl
  case hb => kernel_rfl
  case hp => kernel_rfl
  apply wpFl_ld
  case hG => rfl
  case hi => rfl
  case h1 => intro w' hC K hK; obtain ⟨c0, c1⟩ := hC; (first | go_big_move | go_big_op); exact hK
  case hw => kernel_rfl
  case hv => kernel_rfl
  case hb => kernel_rfl
  case hp => kernel_rfl
  apply wpFl_ld
  case hG => rfl
  case hi => rfl
  case h1 => intro w' hC K hK; clear hC; (first | go_big_move | go_big_op); exact hK
  case hw => kernel_rfl
  case hv => kernel_rfl
  case hb => kernel_rfl
  case hp => kernel_rfl
  apply wpFl_ld
  case hG => rfl
  case hi => rfl
  case h1 => intro w' hC K hK; obtain ⟨c0, c1⟩ := hC; (first | go_big_move | go_big_op); exact hK
  case hw => kernel_rfl
  case hv => kernel_rfl
  case hb => kernel_rfl
  case hp => kernel_rfl
  apply wpFl_ld
  case hG => rfl
  case hi => rfl
  case h1 => intro w' hC K hK; clear hC; (first | go_big_move | go_big_op); exact hK
  case hw => kernel_rfl
  case hv => kernel_rfl
  case hb => kernel_rfl
  case hp => kernel_rfl
  apply wpFl_ld
  case hG => rfl
  case hi => rfl
  case h1 => intro w' hC K hK; obtain ⟨c0, c1⟩ := hC; (first | go_big_move | go_big_op); exact hK
  case hw => kernel_rfl
  case hv => kernel_rfl
  case hb => kernel_rfl
  case hp => kernel_rfl
  apply wpFl_call
  case hi => rfl
  case hw => kernel_rfl
  case h =>
  intro w_4 hn hC
  clear hC
  replace ha := ha.below hn (Nat.le_refl _)
  replace hb' := hb'.below hn (Nat.le_refl _)
  replace hy := hy.below hn (Nat.le_refl _)
  replace hp := hp.below hn (Nat.le_refl _)
  replace hq := hq.below hn (Nat.le_refl _)
  replace hz1 := hz1.below hn (Nat.le_refl _)
  replace hz2 := hz2.below hn (Nat.le_refl _)
  replace g1 := g1.below hn (Nat.le_refl _)
  replace g2 := g2.below hn (Nat.le_refl _)
  replace hb := hb.trans (hn.mono hb.size)
  clear hn
  intro K hK
  have kb_5 := hb.size
  go_big_op
  go_fit (add_rd g2.mag g2.mag (by have := LR.out; omega) (by have := LR.out; omega))
  rintro e w_5 ⟨s3, rfl, h3, hb_5⟩
  replace ha := ha.below hb_5 (Nat.le_refl _)
  replace hb' := hb'.below hb_5 (Nat.le_refl _)
  replace hy := hy.below hb_5 (Nat.le_refl _)
  replace hp := hp.below hb_5 (Nat.le_refl _)
  replace hq := hq.below hb_5 (Nat.le_refl _)
  replace hz1 := hz1.below hb_5 (Nat.le_refl _)
  replace hz2 := hz2.below hb_5 (Nat.le_refl _)
  replace g1 := g1.below hb_5 (Nat.le_refl _)
  replace g2 := g2.below hb_5 (Nat.le_refl _)
  replace hb := hb.trans (hb_5.mono hb.size)
  refine hK _ _ rfl hb_5 ⟨hq.facts.1, hq.facts.2.1, hz2.facts.1, hz2.facts.2.1⟩ ?_
  clear hK K hb_5
  replace h3 := h3.rd
  apply wpFl_call
  case hi => rfl
  case hw => kernel_rfl
  case h =>
  intro w_6 hn hC
  clear hC
  replace ha := ha.below hn (Nat.le_refl _)
  replace hb' := hb'.below hn (Nat.le_refl _)
  replace hy := hy.below hn (Nat.le_refl _)
  replace hp := hp.below hn (Nat.le_refl _)
  replace hq := hq.below hn (Nat.le_refl _)
  replace hz1 := hz1.below hn (Nat.le_refl _)
  replace hz2 := hz2.below hn (Nat.le_refl _)
  replace g1 := g1.below hn (Nat.le_refl _)
  replace g2 := g2.below hn (Nat.le_refl _)
  replace h3 := h3.below hn (Nat.le_refl _)
  replace hb := hb.trans (hn.mono hb.size)
  clear hn
  intro K hK
  have kb_7 := hb.size
  go_big_op
  go_fit (cmp_rd h3 hy (by have := LR.out; have := add_len (x.fmod y).natAbs; omega) (by omega))
  rintro e w_7 ⟨rfl, hb_7⟩
  replace ha := ha.below hb_7 (Nat.le_refl _)
  replace hb' := hb'.below hb_7 (Nat.le_refl _)
  replace hy := hy.below hb_7 (Nat.le_refl _)
  replace hp := hp.below hb_7 (Nat.le_refl _)
  replace hq := hq.below hb_7 (Nat.le_refl _)
  replace hz1 := hz1.below hb_7 (Nat.le_refl _)
  replace hz2 := hz2.below hb_7 (Nat.le_refl _)
  replace g1 := g1.below hb_7 (Nat.le_refl _)
  replace g2 := g2.below hb_7 (Nat.le_refl _)
  replace h3 := h3.below hb_7 (Nat.le_refl _)
  replace hb := hb.trans (hb_7.mono hb.size)
  refine hK _ _ rfl hb_7 ⟨hq.facts.1, hq.facts.2.1, hz2.facts.1, hz2.facts.2.1⟩ ?_
  clear hK K hb_7
  rw [HC.out]
  clear h3
  apply wpFl_ld
  case hG => rfl
  case hi => rfl
  case h1 => intro w' hC K hK; clear hC; (first | go_big_move | go_big_op); exact hK
  case hw => kernel_rfl
  case hv => kernel_rfl
  case hb => kernel_rfl
  case hp => kernel_rfl
  apply wpFl_end
  case ha => intro pt; simp only [putF]; rfl
  case h =>
  intro w_8 pt hn hC hF hD
  clear hC
  replace ha := ha.below hn (Nat.le_refl _)
  replace hb' := hb'.below hn (Nat.le_refl _)
  replace hy := hy.below hn (Nat.le_refl _)
  replace hp := hp.below hn (Nat.le_refl _)
  replace hq := hq.below hn (Nat.le_refl _)
  replace hz1 := hz1.below hn (Nat.le_refl _)
  replace hz2 := hz2.below hn (Nat.le_refl _)
  replace g1 := g1.below hn (Nat.le_refl _)
  replace g2 := g2.below hn (Nat.le_refl _)
  replace hb := hb.trans (hn.mono hb.size)
  clear hn
  clear hF hD
  clear lt_hp
  clear lt_hq
  clear lt_hz1
  clear lt_hz2
  clear kb0
  apply wpTail_end
  replace ha := ha.drew
  replace hb' := hb'.drew
  replace hy := hy.drew
  replace hp := hp.drew
  replace hq := hq.drew
  replace hz1 := hz1.drew
  replace hz2 := hz2.drew
  replace g1 := g1.drew
  replace g2 := g2.drew
  replace hb := hb.drew
  have lt_hp := hp.lt
  have lt_hq := hq.lt
  have lt_hz1 := hz1.lt
  have lt_hz2 := hz2.lt
  have kb0 := hb.size
  go_wp2_with fail
  refine wp_region_fl [(0, false), (3, false), (4, false), (1, true), (2, true), (5, true)] [6, 7] [] (fun _ => obZ) [1, 99, 99, 2, 0, 99, 99, 99] [(6, 1), (7, 1), (7, 2)] (fun w' => w'.cell? ⟨w.heap.size + 1, 0, none⟩ = some (.bool nb) ∧ w'.cell? ⟨w.heap.size + 1, 1, none⟩ = some (.slice ob ys.length cb) ∧ w'.cell? ⟨w.heap.size + 1 + 1, 0, none⟩ = some (.bool sb_hz1) ∧ w'.cell? ⟨w.heap.size + 1 + 1, 1, none⟩ = some (.slice o_hz1 n_hz1 c_hz1) ∧ w'.cell? ⟨w.heap.size + 1 + 1 + 1, 0, none⟩ = some (.bool sb_hz2) ∧ w'.cell? ⟨w.heap.size + 1 + 1 + 1, 1, none⟩ = some (.slice o_hz2 n_hz2 c_hz2)) [fun w' => w'.cell? ⟨w.heap.size + 1, 0, none⟩ = some (.bool nb) ∧ w'.cell? ⟨w.heap.size + 1, 1, none⟩ = some (.slice ob ys.length cb), fun w' => w'.cell? ⟨w.heap.size + 1 + 1, 0, none⟩ = some (.bool sb_hz1) ∧ w'.cell? ⟨w.heap.size + 1 + 1, 1, none⟩ = some (.slice o_hz1 n_hz1 c_hz1), fun w' => w'.cell? ⟨w.heap.size + 1 + 1 + 1, 0, none⟩ = some (.bool sb_hz2) ∧ w'.cell? ⟨w.heap.size + 1 + 1 + 1, 1, none⟩ = some (.slice o_hz2 n_hz2 c_hz2)] (by kernel_rfl) (by kernel_rfl) (by kernel_rfl) (by kernel_rfl) (by kernel_rfl) (by kernel_rfl) (by kernel_rfl) (by kernel_rfl) (by decide) (by intro j hj; cases hj) (by intro w' o hC; obtain ⟨c0, c1, c2, c3, c4, c5⟩ := hC; exact ⟨cell_alloc c0 o, cell_alloc c1 o, cell_alloc c2 o, cell_alloc c3 o, cell_alloc c4 o, cell_alloc c5 o⟩) (by intro w' hC G hG; obtain ⟨c0, c1, c2, c3, c4, c5⟩ := hC; simp only [List.mem_cons, List.not_mem_nil, or_false] at hG; rcases hG with rfl | rfl | rfl <;> first | exact ⟨c0, c1⟩ | exact ⟨c2, c3⟩ | exact ⟨c4, c5⟩) ⟨hq.facts.1, hq.facts.2.1, hz1.facts.1, hz1.facts.2.1, hz2.facts.1, hz2.facts.2.1⟩ ?_
  apply wpFl_ld
  case hG => rfl
  case hi => rfl
  case h1 => intro w' hC K hK; obtain ⟨c0, c1⟩ := hC; (first | go_big_move | go_big_op); exact hK
  case hw => kernel_rfl
  case hv => kernel_rfl
  case hb => kernel_rfl
  case hp => kernel_rfl
  apply wpFl_ld
  case hG => rfl
  case hi => rfl
  case h1 => intro w' hC K hK; obtain ⟨c0, c1⟩ := hC; (first | go_big_move | go_big_op); exact hK
  case hw => kernel_rfl
  case hv => kernel_rfl
  case hb => kernel_rfl
  case hp => kernel_rfl
  apply wpFl_ld
  case hG => rfl
  case hi => rfl
  case h1 => intro w' hC K hK; obtain ⟨c0, c1⟩ := hC; (first | go_big_move | go_big_op); exact hK
  case hw => kernel_rfl
  case hv => kernel_rfl
  case hb => kernel_rfl
  case hp => kernel_rfl
  apply wpFl_call
  case hi => rfl
  case hw => kernel_rfl
  case h =>
  intro w_9 hn hC
  clear hC
  replace ha := ha.below hn (Nat.le_refl _)
  replace hb' := hb'.below hn (Nat.le_refl _)
  replace hy := hy.below hn (Nat.le_refl _)
  replace hp := hp.below hn (Nat.le_refl _)
  replace hq := hq.below hn (Nat.le_refl _)
  replace hz1 := hz1.below hn (Nat.le_refl _)
  replace hz2 := hz2.below hn (Nat.le_refl _)
  replace g1 := g1.below hn (Nat.le_refl _)
  replace g2 := g2.below hn (Nat.le_refl _)
  replace hb := hb.trans (hn.mono hb.size)
  clear hn
  intro K hK
  have kb_10 := hb.size
  go_big_op
  go_fit (from_any (1 : Int) _ (by decide) (by decide))
  rintro e w_10 ⟨v4, rfl, g4, hb_10⟩
  replace ha := ha.below hb_10 (Nat.le_refl _)
  replace hb' := hb'.below hb_10 (Nat.le_refl _)
  replace hy := hy.below hb_10 (Nat.le_refl _)
  replace hp := hp.below hb_10 (Nat.le_refl _)
  replace hq := hq.below hb_10 (Nat.le_refl _)
  replace hz1 := hz1.below hb_10 (Nat.le_refl _)
  replace hz2 := hz2.below hb_10 (Nat.le_refl _)
  replace g1 := g1.below hb_10 (Nat.le_refl _)
  replace g2 := g2.below hb_10 (Nat.le_refl _)
  replace hb := hb.trans (hb_10.mono hb.size)
  refine hK _ _ rfl hb_10 ⟨hq.facts.1, hq.facts.2.1, hz1.facts.1, hz1.facts.2.1, hz2.facts.1, hz2.facts.2.1⟩ ?_
  clear hK K hb_10
  apply wpFl_call
  case hi => rfl
  case hw => kernel_rfl
  case h =>
  intro w_11 hn hC
  clear hC
  replace ha := ha.below hn (Nat.le_refl _)
  replace hb' := hb'.below hn (Nat.le_refl _)
  replace hy := hy.below hn (Nat.le_refl _)
  replace hp := hp.below hn (Nat.le_refl _)
  replace hq := hq.below hn (Nat.le_refl _)
  replace hz1 := hz1.below hn (Nat.le_refl _)
  replace hz2 := hz2.below hn (Nat.le_refl _)
  replace g1 := g1.below hn (Nat.le_refl _)
  replace g2 := g2.below hn (Nat.le_refl _)
  replace g4 := g4.below hn (Nat.le_refl _)
  replace hb := hb.trans (hn.mono hb.size)
  clear hn
  intro K hK
  have kb_12 := hb.size
  go_big_op
  go_fit (zadd_any (g1.zn LQ.out) (g4.zn L1.out) (by omega) (by omega))
  rintro e w_12 ⟨v5, rfl, g5, hb_12⟩
  replace ha := ha.below hb_12 (Nat.le_refl _)
  replace hb' := hb'.below hb_12 (Nat.le_refl _)
  replace hy := hy.below hb_12 (Nat.le_refl _)
  replace hp := hp.below hb_12 (Nat.le_refl _)
  replace hq := hq.below hb_12 (Nat.le_refl _)
  replace hz1 := hz1.below hb_12 (Nat.le_refl _)
  replace hz2 := hz2.below hb_12 (Nat.le_refl _)
  replace g1 := g1.below hb_12 (Nat.le_refl _)
  replace g2 := g2.below hb_12 (Nat.le_refl _)
  replace g4 := g4.below hb_12 (Nat.le_refl _)
  replace hb := hb.trans (hb_12.mono hb.size)
  refine hK _ _ rfl hb_12 ⟨hq.facts.1, hq.facts.2.1, hz1.facts.1, hz1.facts.2.1, hz2.facts.1, hz2.facts.2.1⟩ ?_
  clear hK K hb_12
  clear g4
  apply wpFl_call
  case hi => rfl
  case hw => kernel_rfl
  case h =>
  intro w_13 hn hC
  clear hC
  replace ha := ha.below hn (Nat.le_refl _)
  replace hb' := hb'.below hn (Nat.le_refl _)
  replace hy := hy.below hn (Nat.le_refl _)
  replace hp := hp.below hn (Nat.le_refl _)
  replace hq := hq.below hn (Nat.le_refl _)
  replace hz1 := hz1.below hn (Nat.le_refl _)
  replace hz2 := hz2.below hn (Nat.le_refl _)
  replace g1 := g1.below hn (Nat.le_refl _)
  replace g2 := g2.below hn (Nat.le_refl _)
  replace g5 := g5.below hn (Nat.le_refl _)
  replace hb := hb.trans (hn.mono hb.size)
  clear hn
  intro K hK
  have kb_14 := hb.size
  go_big_op
  go_fit (zsub_any (g2.zn LR.out) hb' (by omega) (by omega))
  rintro e w_14 ⟨v6, rfl, g6, hb_14⟩
  replace ha := ha.below hb_14 (Nat.le_refl _)
  replace hb' := hb'.below hb_14 (Nat.le_refl _)
  replace hy := hy.below hb_14 (Nat.le_refl _)
  replace hp := hp.below hb_14 (Nat.le_refl _)
  replace hq := hq.below hb_14 (Nat.le_refl _)
  replace hz1 := hz1.below hb_14 (Nat.le_refl _)
  replace hz2 := hz2.below hb_14 (Nat.le_refl _)
  replace g1 := g1.below hb_14 (Nat.le_refl _)
  replace g2 := g2.below hb_14 (Nat.le_refl _)
  replace g5 := g5.below hb_14 (Nat.le_refl _)
  replace hb := hb.trans (hb_14.mono hb.size)
  refine hK _ _ rfl hb_14 ⟨hq.facts.1, hq.facts.2.1, hz1.facts.1, hz1.facts.2.1, hz2.facts.1, hz2.facts.2.1⟩ ?_
  clear hK K hb_14
  apply wpFl_end
  case ha => intro pt; simp only [putF]; rfl
  case h =>
  intro w_15 pt hn hC hF hD
  clear hC
  replace ha := ha.below hn (Nat.le_refl _)
  replace hb' := hb'.below hn (Nat.le_refl _)
  replace hy := hy.below hn (Nat.le_refl _)
  replace hp := hp.below hn (Nat.le_refl _)
  replace hq := hq.below hn (Nat.le_refl _)
  replace hz1 := hz1.below hn (Nat.le_refl _)
  replace hz2 := hz2.below hn (Nat.le_refl _)
  replace g1 := g1.below hn (Nat.le_refl _)
  replace g2 := g2.below hn (Nat.le_refl _)
  replace g5 := g5.below hn (Nat.le_refl _)
  replace g6 := g6.below hn (Nat.le_refl _)
  replace hb := hb.trans (hn.mono hb.size)
  clear hn
  clear hF hD
  clear lt_hp
  clear lt_hq
  clear lt_hz1
  clear lt_hz2
  clear kb0
  obtain ⟨sb_hz1, o_hz1, n_hz1, c_hz1, rfl⟩ := g5.open2
  apply wpTail_call
  case hi => rfl
  case hw => kernel_rfl
  case h =>
  intro K hK
  have c9_ := hz1.facts
  go_big_op
  have ho := Bk.only w_15 (w.heap.size + 1 + 1) sb_hz1 (.slice o_hz1 n_hz1 c_hz1)
  have hbx_ := hz1.bx
  replace ha := ha.frame hbx_ ho
  replace hb' := hb'.frame hbx_ ho
  replace hy := hy.frame hbx_ ho
  replace hp := hp.frame ho (by first | assumption | (apply Ne.symm; assumption) | (simp; done) | omega)
  replace hq := hq.frame ho (by first | assumption | (apply Ne.symm; assumption) | (simp; done) | omega)
  replace hz2 := hz2.frame ho (by first | assumption | (apply Ne.symm; assumption) | (simp; done) | omega)
  replace g1 := g1.frame hbx_ ho
  replace g2 := g2.frame hbx_ ho
  replace g5 := g5.frame hbx_ ho
  replace g6 := g6.frame hbx_ ho
  replace hz1 := hz1.store sb_hz1 (.slice o_hz1 n_hz1 c_hz1)
  replace hb := (hb.setCell (p := ⟨w.heap.size + 1 + 1, 0, none⟩) (show w.heap.size ≤ w.heap.size + 1 + 1 by first | assumption | (simp; done) | omega) (.bool sb_hz1)).setCell (p := ⟨w.heap.size + 1 + 1, 1, none⟩) (show w.heap.size ≤ w.heap.size + 1 + 1 by first | assumption | (simp; done) | omega) (.slice o_hz1 n_hz1 c_hz1)
  refine hK _ _ rfl (And.intro (And.intro hq.facts.1 hq.facts.2.1) (And.intro True.intro (And.intro (And.intro hz2.facts.1 hz2.facts.2.1) True.intro))) ?_
  clear hK K hbx_ ho c9_
  obtain ⟨sb_hz2, o_hz2, n_hz2, c_hz2, rfl⟩ := g6.open2
  apply wpTail_call
  case hi => rfl
  case hw => kernel_rfl
  case h =>
  intro K hK
  have c9_ := hz2.facts
  go_big_op
  have ho := Bk.only ((w_15.setCell ⟨w.heap.size + 1 + 1, 0, none⟩ (.bool sb_hz1)).setCell ⟨w.heap.size + 1 + 1, 1, none⟩ (.slice o_hz1 n_hz1 c_hz1)) (w.heap.size + 1 + 1 + 1) sb_hz2 (.slice o_hz2 n_hz2 c_hz2)
  have hbx_ := hz2.bx
  replace ha := ha.frame hbx_ ho
  replace hb' := hb'.frame hbx_ ho
  replace hy := hy.frame hbx_ ho
  replace hp := hp.frame ho (by first | assumption | (apply Ne.symm; assumption) | (simp; done) | omega)
  replace hq := hq.frame ho (by first | assumption | (apply Ne.symm; assumption) | (simp; done) | omega)
  replace hz1 := hz1.frame ho (by first | assumption | (apply Ne.symm; assumption) | (simp; done) | omega)
  replace g1 := g1.frame hbx_ ho
  replace g2 := g2.frame hbx_ ho
  replace g5 := g5.frame hbx_ ho
  replace g6 := g6.frame hbx_ ho
  replace hz2 := hz2.store sb_hz2 (.slice o_hz2 n_hz2 c_hz2)
  replace hb := (hb.setCell (p := ⟨w.heap.size + 1 + 1 + 1, 0, none⟩) (show w.heap.size ≤ w.heap.size + 1 + 1 + 1 by first | assumption | (simp; done) | omega) (.bool sb_hz2)).setCell (p := ⟨w.heap.size + 1 + 1 + 1, 1, none⟩) (show w.heap.size ≤ w.heap.size + 1 + 1 + 1 by first | assumption | (simp; done) | omega) (.slice o_hz2 n_hz2 c_hz2)
  refine hK _ _ rfl (And.intro (And.intro hq.facts.1 hq.facts.2.1) (And.intro True.intro (And.intro True.intro True.intro))) ?_
  clear hK K hbx_ ho c9_
  apply wpTail_end
  replace ha := ha.drew
  replace hb' := hb'.drew
  replace hy := hy.drew
  replace hp := hp.drew
  replace hq := hq.drew
  replace hz1 := hz1.drew
  replace hz2 := hz2.drew
  replace g1 := g1.drew
  replace g2 := g2.drew
  replace g5 := g5.drew
  replace g6 := g6.drew
  replace hb := hb.drew
  have lt_hp := hp.lt
  have lt_hq := hq.lt
  have lt_hz1 := hz1.lt
  have lt_hz2 := hz2.lt
  have kb0 := hb.size
  go_wp2_with fail
  refine wp_region_fl [(0, false), (1, false)] [2, 3, 4] [] (fun _ => obZ) [0, 1, 99, 99, 99] [(2, 0), (3, 0), (3, 1)] (fun w' => w'.cell? ⟨w.heap.size + 1 + 1, 0, none⟩ = some (.bool sb_hz1) ∧ w'.cell? ⟨w.heap.size + 1 + 1, 1, none⟩ = some (.slice o_hz1 n_hz1 c_hz1) ∧ w'.cell? ⟨w.heap.size + 1 + 1 + 1, 0, none⟩ = some (.bool sb_hz2) ∧ w'.cell? ⟨w.heap.size + 1 + 1 + 1, 1, none⟩ = some (.slice o_hz2 n_hz2 c_hz2)) [fun w' => w'.cell? ⟨w.heap.size + 1 + 1, 0, none⟩ = some (.bool sb_hz1) ∧ w'.cell? ⟨w.heap.size + 1 + 1, 1, none⟩ = some (.slice o_hz1 n_hz1 c_hz1), fun w' => w'.cell? ⟨w.heap.size + 1 + 1 + 1, 0, none⟩ = some (.bool sb_hz2) ∧ w'.cell? ⟨w.heap.size + 1 + 1 + 1, 1, none⟩ = some (.slice o_hz2 n_hz2 c_hz2)] (by kernel_rfl) (by kernel_rfl) (by kernel_rfl) (by kernel_rfl) (by kernel_rfl) (by kernel_rfl) (by kernel_rfl) (by kernel_rfl) (by decide) (by intro j hj; cases hj) (by intro w' o hC; obtain ⟨c0, c1, c2, c3⟩ := hC; exact ⟨cell_alloc c0 o, cell_alloc c1 o, cell_alloc c2 o, cell_alloc c3 o⟩) (by intro w' hC G hG; obtain ⟨c0, c1, c2, c3⟩ := hC; simp only [List.mem_cons, List.not_mem_nil, or_false] at hG; rcases hG with rfl | rfl <;> first | exact ⟨c0, c1⟩ | exact ⟨c2, c3⟩) ⟨hz1.facts.1, hz1.facts.2.1, hz2.facts.1, hz2.facts.2.1⟩ ?_
  apply wpFl_ld
  case hG => rfl
  case hi => rfl
  case h1 => intro w' hC K hK; obtain ⟨c0, c1⟩ := hC; (first | go_big_move | go_big_op); exact hK
  case hw => kernel_rfl
  case hv => kernel_rfl
  case hb => kernel_rfl
  case hp => kernel_rfl
  apply wpFl_ld
  case hG => rfl
  case hi => rfl
  case h1 => intro w' hC K hK; obtain ⟨c0, c1⟩ := hC; (first | go_big_move | go_big_op); exact hK
  case hw => kernel_rfl
  case hv => kernel_rfl
  case hb => kernel_rfl
  case hp => kernel_rfl
  apply wpFl_end
  case ha => intro pt; simp only [putF]; rfl
  case h =>
  intro w_16 pt hn hC hF hD
  clear hC
  replace ha := ha.below hn (Nat.le_refl _)
  replace hb' := hb'.below hn (Nat.le_refl _)
  replace hy := hy.below hn (Nat.le_refl _)
  replace hp := hp.below hn (Nat.le_refl _)
  replace hq := hq.below hn (Nat.le_refl _)
  replace hz1 := hz1.below hn (Nat.le_refl _)
  replace hz2 := hz2.below hn (Nat.le_refl _)
  replace g1 := g1.below hn (Nat.le_refl _)
  replace g2 := g2.below hn (Nat.le_refl _)
  replace g5 := g5.below hn (Nat.le_refl _)
  replace g6 := g6.below hn (Nat.le_refl _)
  replace hb := hb.trans (hn.mono hb.size)
  clear hn
  clear hF hD
  clear lt_hp
  clear lt_hq
  clear lt_hz1
  clear lt_hz2
  clear kb0
  apply wpTail_call
  case hi => rfl
  case hw => kernel_rfl
  case h =>
  intro K hK
  have c9_ := hz1.facts
  go_big_op
  have ho := Bk.only w_16 (w.heap.size + 1 + 1) sb_hz1 (.slice o_hz1 n_hz1 c_hz1)
  have hbx_ := hz1.bx
  replace ha := ha.frame hbx_ ho
  replace hb' := hb'.frame hbx_ ho
  replace hy := hy.frame hbx_ ho
  replace hp := hp.frame ho (by first | assumption | (apply Ne.symm; assumption) | (simp; done) | omega)
  replace hq := hq.frame ho (by first | assumption | (apply Ne.symm; assumption) | (simp; done) | omega)
  replace hz2 := hz2.frame ho (by first | assumption | (apply Ne.symm; assumption) | (simp; done) | omega)
  replace g1 := g1.frame hbx_ ho
  replace g2 := g2.frame hbx_ ho
  replace g5 := g5.frame hbx_ ho
  replace g6 := g6.frame hbx_ ho
  replace hz1 := hz1.store sb_hz1 (.slice o_hz1 n_hz1 c_hz1)
  replace hb := (hb.setCell (p := ⟨w.heap.size + 1 + 1, 0, none⟩) (show w.heap.size ≤ w.heap.size + 1 + 1 by first | assumption | (simp; done) | omega) (.bool sb_hz1)).setCell (p := ⟨w.heap.size + 1 + 1, 1, none⟩) (show w.heap.size ≤ w.heap.size + 1 + 1 by first | assumption | (simp; done) | omega) (.slice o_hz1 n_hz1 c_hz1)
  refine hK _ _ rfl (And.intro True.intro (And.intro (And.intro hz2.facts.1 hz2.facts.2.1) True.intro)) ?_
  clear hK K hbx_ ho c9_
  apply wpTail_call
  case hi => rfl
  case hw => kernel_rfl
  case h =>
  intro K hK
  have c9_ := hz2.facts
  go_big_op
  have ho := Bk.only ((w_16.setCell ⟨w.heap.size + 1 + 1, 0, none⟩ (.bool sb_hz1)).setCell ⟨w.heap.size + 1 + 1, 1, none⟩ (.slice o_hz1 n_hz1 c_hz1)) (w.heap.size + 1 + 1 + 1) sb_hz2 (.slice o_hz2 n_hz2 c_hz2)
  have hbx_ := hz2.bx
  replace ha := ha.frame hbx_ ho
  replace hb' := hb'.frame hbx_ ho
  replace hy := hy.frame hbx_ ho
  replace hp := hp.frame ho (by first | assumption | (apply Ne.symm; assumption) | (simp; done) | omega)
  replace hq := hq.frame ho (by first | assumption | (apply Ne.symm; assumption) | (simp; done) | omega)
  replace hz1 := hz1.frame ho (by first | assumption | (apply Ne.symm; assumption) | (simp; done) | omega)
  replace g1 := g1.frame hbx_ ho
  replace g2 := g2.frame hbx_ ho
  replace g5 := g5.frame hbx_ ho
  replace g6 := g6.frame hbx_ ho
  replace hz2 := hz2.store sb_hz2 (.slice o_hz2 n_hz2 c_hz2)
  replace hb := (hb.setCell (p := ⟨w.heap.size + 1 + 1 + 1, 0, none⟩) (show w.heap.size ≤ w.heap.size + 1 + 1 + 1 by first | assumption | (simp; done) | omega) (.bool sb_hz2)).setCell (p := ⟨w.heap.size + 1 + 1 + 1, 1, none⟩) (show w.heap.size ≤ w.heap.size + 1 + 1 + 1 by first | assumption | (simp; done) | omega) (.slice o_hz2 n_hz2 c_hz2)
  refine hK _ _ rfl (And.intro True.intro (And.intro True.intro True.intro)) ?_
  clear hK K hbx_ ho c9_
  apply wpTail_move
  case hi => rfl
  case hw => kernel_rfl
  case h =>
  intro K hK
  go_big_move
  refine hK _ _ rfl rfl ?_
  clear hK K
  apply wpTail_end
  have f1 := hz1.facts
  have f2 := hz2.facts
  go_wp2
  refine bodyPost_ret (v := .tuple #[.agg #[.bool sb_hz1, .slice o_hz1 n_hz1 c_hz1], .agg #[.bool sb_hz2, .slice o_hz2 n_hz2 c_hz2], .int .i64 0]) (by simp [results, Tryz.results69, go_sem, f1.1, f1.2.1, f2.1, f2.2.1]) rfl ?_
  exact ⟨_, _, rfl, g5.mono (by omega), g6.mono (by omega), hb⟩
set_option maxHeartbeats 4000000 in
set_option maxRecDepth 20000 in
/-- zint.RoundDiv, down. -/
theorem rdiv_down {w : World} {va vb : Value} {x y : Int} {l m : Nat} (ha : ZN w va x l) (hb' : ZN w vb y m) (hl : l ≤ 200000000) (hm : m ≤ 200000000) (h0 : y ≠ 0) (hh : (x.fmod y).natAbs + (x.fmod y).natAbs < y.natAbs) :
    Calls Tryz.prog 69 #[va, vb] w fun e w' => ∃ v1 v2, e = .returned (.tuple #[v1, v2, .int .i64 0]) ∧
      ZO w' w.heap.size v1 (rnd x y) ∧ ZO w' w.heap.size v2 (x - rnd x y * y) ∧ Below w.heap.size w w' := by
  have hr := rnd_down h0 hh
  rw [hr.2, hr.1]
  have LQ := hide (fdiv_len h0 ha.len)
  have LR := hide (show (dig (x.fmod y).natAbs).length ≤ m from fmod_len h0 hb'.len)
  have H0 := hide h0
  obtain ⟨na, oa, ca, xs, rfl, hca, _, _, hxl⟩ := ha.open_
  obtain ⟨nb, ob, cb, ys, rfl, hcb, hy, hzy, hyl⟩ := hb'.open_
  obtain ⟨C, hC⟩ : ∃ C, cmpI ((x.fmod y).natAbs + (x.fmod y).natAbs) (val ys) = C := ⟨_, rfl⟩
  have hC0 : C = -1 := by
    rw [← hC]; unfold cmpI
    have : val ys = y.natAbs := by rw [← hzy, zv_abs]
    rw [this, if_pos (by omega)]
  have HC := hide (show cmpI (val (dig (val (dig (x.fmod y).natAbs) + val (dig (x.fmod y).natAbs)))) (val ys) = C by rw [val_dig, val_dig]; exact hC)
  subst hC0
  have e0 : ((0 : Int) == 0) = true := rfl
  clear hr h0 hh hC hzy
  go_enter Tryz.func69, Tryz.ntmps69
  have hb := Below.refl w.heap.size w
  have hp := Bk.new w na (.slice oa xs.length ca)
  replace ha := ha.alloc (.cells #[.bool na, (.slice oa xs.length ca)] 26)
  replace hb' := hb'.alloc (.cells #[.bool na, (.slice oa xs.length ca)] 26)
  replace hy := hy.alloc (.cells #[.bool na, (.slice oa xs.length ca)] 26)
  replace hb := hb.alloc hb.size (.cells #[.bool na, (.slice oa xs.length ca)] 26)
  have hq := Bk.new (w.alloc (.cells #[.bool na, (.slice oa xs.length ca)] 26)) nb (.slice ob ys.length cb)
  simp only [Bk.size_alloc] at hq
  replace ha := ha.alloc (.cells #[.bool nb, (.slice ob ys.length cb)] 26)
  replace hb' := hb'.alloc (.cells #[.bool nb, (.slice ob ys.length cb)] 26)
  replace hy := hy.alloc (.cells #[.bool nb, (.slice ob ys.length cb)] 26)
  replace hp := hp.alloc (.cells #[.bool nb, (.slice ob ys.length cb)] 26)
  replace hb := hb.alloc hb.size (.cells #[.bool nb, (.slice ob ys.length cb)] 26)
  have hz1 := Bk.new ((w.alloc (.cells #[.bool na, (.slice oa xs.length ca)] 26)).alloc (.cells #[.bool nb, (.slice ob ys.length cb)] 26)) false (.slice none 0 0)
  simp only [Bk.size_alloc] at hz1
  replace ha := ha.alloc (.cells #[.bool false, (.slice none 0 0)] 26)
  replace hb' := hb'.alloc (.cells #[.bool false, (.slice none 0 0)] 26)
  replace hy := hy.alloc (.cells #[.bool false, (.slice none 0 0)] 26)
  replace hp := hp.alloc (.cells #[.bool false, (.slice none 0 0)] 26)
  replace hq := hq.alloc (.cells #[.bool false, (.slice none 0 0)] 26)
  replace hb := hb.alloc hb.size (.cells #[.bool false, (.slice none 0 0)] 26)
  have hz2 := Bk.new (((w.alloc (.cells #[.bool na, (.slice oa xs.length ca)] 26)).alloc (.cells #[.bool nb, (.slice ob ys.length cb)] 26)).alloc (.cells #[.bool false, (.slice none 0 0)] 26)) false (.slice none 0 0)
  simp only [Bk.size_alloc] at hz2
  replace ha := ha.alloc (.cells #[.bool false, (.slice none 0 0)] 26)
  replace hb' := hb'.alloc (.cells #[.bool false, (.slice none 0 0)] 26)
  replace hy := hy.alloc (.cells #[.bool false, (.slice none 0 0)] 26)
  replace hp := hp.alloc (.cells #[.bool false, (.slice none 0 0)] 26)
  replace hq := hq.alloc (.cells #[.bool false, (.slice none 0 0)] 26)
  replace hz1 := hz1.alloc (.cells #[.bool false, (.slice none 0 0)] 26)
  replace hb := hb.alloc hb.size (.cells #[.bool false, (.slice none 0 0)] 26)
  have f_hp := hp.facts
  have f_hq := hq.facts
  go_wp2_with fail
  refine (fdiv_any ha hb' (by omega) (by omega) H0.out).mono ?_
  rintro e w_1 ⟨v1, v2, rfl, g1, g2, hb_1⟩
  replace ha := ha.below hb_1 (Nat.le_refl _)
  replace hb' := hb'.below hb_1 (Nat.le_refl _)
  replace hy := hy.below hb_1 (Nat.le_refl _)
  replace hp := hp.below hb_1 (Nat.le_refl _)
  replace hq := hq.below hb_1 (Nat.le_refl _)
  replace hz1 := hz1.below hb_1 (Nat.le_refl _)
  replace hz2 := hz2.below hb_1 (Nat.le_refl _)
  replace hb := hb.trans (hb_1.mono hb.size)
  clear hb_1
  clear f_hp f_hq
  obtain ⟨sb_hz1, o_hz1, n_hz1, c_hz1, rfl⟩ := g1.open2
  have f_hz1 := hz1.facts
  have ho := Bk.only w_1 (w.heap.size + 1 + 1) sb_hz1 (.slice o_hz1 n_hz1 c_hz1)
  have hbx_ := hz1.bx
  replace ha := ha.frame hbx_ ho
  replace hb' := hb'.frame hbx_ ho
  replace hy := hy.frame hbx_ ho
  replace hp := hp.frame ho (by first | assumption | (apply Ne.symm; assumption) | (simp; done) | omega)
  replace hq := hq.frame ho (by first | assumption | (apply Ne.symm; assumption) | (simp; done) | omega)
  replace hz2 := hz2.frame ho (by first | assumption | (apply Ne.symm; assumption) | (simp; done) | omega)
  replace g1 := g1.frame hbx_ ho
  replace g2 := g2.frame hbx_ ho
  replace hz1 := hz1.store sb_hz1 (.slice o_hz1 n_hz1 c_hz1)
  replace hb := (hb.setCell (p := ⟨w.heap.size + 1 + 1, 0, none⟩) (show w.heap.size ≤ w.heap.size + 1 + 1 by first | assumption | (simp; done) | omega) (.bool sb_hz1)).setCell (p := ⟨w.heap.size + 1 + 1, 1, none⟩) (show w.heap.size ≤ w.heap.size + 1 + 1 by first | assumption | (simp; done) | omega) (.slice o_hz1 n_hz1 c_hz1)
  clear ho hbx_
  obtain ⟨w_2, hw_2⟩ : ∃ v, ((w_1.setCell ⟨w.heap.size + 1 + 1, 0, none⟩ (.bool sb_hz1)).setCell ⟨w.heap.size + 1 + 1, 1, none⟩ (.slice o_hz1 n_hz1 c_hz1)) = v := ⟨_, rfl⟩
  rw [hw_2] at ha hb' hy hp hq hz1 hz2 g1 g2 hb
  obtain ⟨sb_hz2, o_hz2, n_hz2, c_hz2, rfl⟩ := g2.open2
  have f_hz2 := hz2.facts
  have ho := Bk.only w_2 (w.heap.size + 1 + 1 + 1) sb_hz2 (.slice o_hz2 n_hz2 c_hz2)
  have hbx_ := hz2.bx
  replace ha := ha.frame hbx_ ho
  replace hb' := hb'.frame hbx_ ho
  replace hy := hy.frame hbx_ ho
  replace hp := hp.frame ho (by first | assumption | (apply Ne.symm; assumption) | (simp; done) | omega)
  replace hq := hq.frame ho (by first | assumption | (apply Ne.symm; assumption) | (simp; done) | omega)
  replace hz1 := hz1.frame ho (by first | assumption | (apply Ne.symm; assumption) | (simp; done) | omega)
  replace g1 := g1.frame hbx_ ho
  replace g2 := g2.frame hbx_ ho
  replace hz2 := hz2.store sb_hz2 (.slice o_hz2 n_hz2 c_hz2)
  replace hb := (hb.setCell (p := ⟨w.heap.size + 1 + 1 + 1, 0, none⟩) (show w.heap.size ≤ w.heap.size + 1 + 1 + 1 by first | assumption | (simp; done) | omega) (.bool sb_hz2)).setCell (p := ⟨w.heap.size + 1 + 1 + 1, 1, none⟩) (show w.heap.size ≤ w.heap.size + 1 + 1 + 1 by first | assumption | (simp; done) | omega) (.slice o_hz2 n_hz2 c_hz2)
  clear ho hbx_
  obtain ⟨w_3, hw_3⟩ : ∃ v, ((w_2.setCell ⟨w.heap.size + 1 + 1 + 1, 0, none⟩ (.bool sb_hz2)).setCell ⟨w.heap.size + 1 + 1 + 1, 1, none⟩ (.slice o_hz2 n_hz2 c_hz2)) = v := ⟨_, rfl⟩
  rw [hw_3] at ha hb' hy hp hq hz1 hz2 g1 g2 hb
  replace ha := ha.drew
  replace hb' := hb'.drew
  replace hy := hy.drew
  replace hp := hp.drew
  replace hq := hq.drew
  replace hz1 := hz1.drew
  replace hz2 := hz2.drew
  replace g1 := g1.drew
  replace g2 := g2.drew
  replace hb := hb.drew
  have lt_hp := hp.lt
  have lt_hq := hq.lt
  have lt_hz1 := hz1.lt
  have lt_hz2 := hz2.lt
  have kb0 := hb.size
  go_wp2_with fail
  refine wp_region_fl [(0, false), (1, false), (2, false), (3, false), (5, false), (6, false), (4, true), (7, true), (8, false)] [] [] (fun _ => obZ) [99, 1, 99, 1, 99, 99, 0, 99, 99] [] (fun w' => w'.cell? ⟨w.heap.size + 1, 0, none⟩ = some (.bool nb) ∧ w'.cell? ⟨w.heap.size + 1, 1, none⟩ = some (.slice ob ys.length cb) ∧ w'.cell? ⟨w.heap.size + 1 + 1 + 1, 0, none⟩ = some (.bool sb_hz2) ∧ w'.cell? ⟨w.heap.size + 1 + 1 + 1, 1, none⟩ = some (.slice o_hz2 n_hz2 c_hz2)) [fun w' => w'.cell? ⟨w.heap.size + 1, 0, none⟩ = some (.bool nb) ∧ w'.cell? ⟨w.heap.size + 1, 1, none⟩ = some (.slice ob ys.length cb), fun w' => w'.cell? ⟨w.heap.size + 1 + 1 + 1, 0, none⟩ = some (.bool sb_hz2) ∧ w'.cell? ⟨w.heap.size + 1 + 1 + 1, 1, none⟩ = some (.slice o_hz2 n_hz2 c_hz2)] (by kernel_rfl) (by kernel_rfl) (by kernel_rfl) (by kernel_rfl) (by kernel_rfl) (by kernel_rfl) (by kernel_rfl) (by kernel_rfl) (by decide) (by intro j hj; cases hj) (by intro w' o hC; obtain ⟨c0, c1, c2, c3⟩ := hC; exact ⟨cell_alloc c0 o, cell_alloc c1 o, cell_alloc c2 o, cell_alloc c3 o⟩) (by intro w' hC G hG; obtain ⟨c0, c1, c2, c3⟩ := hC; simp only [List.mem_cons, List.not_mem_nil, or_false] at hG; rcases hG with rfl | rfl <;> first | exact ⟨c0, c1⟩ | exact ⟨c2, c3⟩) ⟨hq.facts.1, hq.facts.2.1, hz2.facts.1, hz2.facts.2.1⟩ ?_
  clear f_hz1 f_hz2
  apply wpFl_ld
  case hG => rfl
  case hi => rfl
  case h1 => intro w' hC K hK; clear hC; (first | go_big_move | go_big_op); exact hK
  case hw => kernel_rfl
  case hv => kernel_rfl
  case hb => kernel_rfl
  case hp => kernel_rfl
  apply wpFl_ld
  case hG => rfl
  case hi => rfl
  case h1 => intro w' hC K hK; obtain ⟨c0, c1⟩ := hC; (first | go_big_move | go_big_op); exact hK
  case hw => kernel_rfl
  case hv => kernel_rfl
  case hb => kernel_rfl
  case hp => kernel_rfl
  apply wpFl_ld
  case hG => rfl
  case hi => rfl
  case h1 => intro w' hC K hK; clear hC; (first | go_big_move | go_big_op); exact hK
  case hw => kernel_rfl
  case hv => kernel_rfl
  case hb => kernel_rfl
  case hp => kernel_rfl
  apply wpFl_ld
  case hG => rfl
  case hi => rfl
  case h1 => intro w' hC K hK; obtain ⟨c0, c1⟩ := hC; (first | go_big_move | go_big_op); exact hK
  case hw => kernel_rfl
  case hv => kernel_rfl
  case hb => kernel_rfl
  case hp => kernel_rfl
  apply wpFl_ld
  case hG => rfl
  case hi => rfl
  case h1 => intro w' hC K hK; clear hC; (first | go_big_move | go_big_op); exact hK
  case hw => kernel_rfl
  case hv => kernel_rfl
  case hb => kernel_rfl
  case hp => kernel_rfl
  apply wpFl_ld
  case hG => rfl
  case hi => rfl
  case h1 => intro w' hC K hK; obtain ⟨c0, c1⟩ := hC; (first | go_big_move | go_big_op); exact hK
  case hw => kernel_rfl
  case hv => kernel_rfl
  case hb => kernel_rfl
  case hp => kernel_rfl
  apply wpFl_call
  case hi => rfl
  case hw => kernel_rfl
  case h =>
  intro w_4 hn hC
  clear hC
  replace ha := ha.below hn (Nat.le_refl _)
  replace hb' := hb'.below hn (Nat.le_refl _)
  replace hy := hy.below hn (Nat.le_refl _)
  replace hp := hp.below hn (Nat.le_refl _)
  replace hq := hq.below hn (Nat.le_refl _)
  replace hz1 := hz1.below hn (Nat.le_refl _)
  replace hz2 := hz2.below hn (Nat.le_refl _)
  replace g1 := g1.below hn (Nat.le_refl _)
  replace g2 := g2.below hn (Nat.le_refl _)
  replace hb := hb.trans (hn.mono hb.size)
  clear hn
  intro K hK
  have kb_5 := hb.size
  go_big_op
  go_fit (add_rd g2.mag g2.mag (by have := LR.out; omega) (by have := LR.out; omega))
  rintro e w_5 ⟨s3, rfl, h3, hb_5⟩
  replace ha := ha.below hb_5 (Nat.le_refl _)
  replace hb' := hb'.below hb_5 (Nat.le_refl _)
  replace hy := hy.below hb_5 (Nat.le_refl _)
  replace hp := hp.below hb_5 (Nat.le_refl _)
  replace hq := hq.below hb_5 (Nat.le_refl _)
  replace hz1 := hz1.below hb_5 (Nat.le_refl _)
  replace hz2 := hz2.below hb_5 (Nat.le_refl _)
  replace g1 := g1.below hb_5 (Nat.le_refl _)
  replace g2 := g2.below hb_5 (Nat.le_refl _)
  replace hb := hb.trans (hb_5.mono hb.size)
  refine hK _ _ rfl hb_5 ⟨hq.facts.1, hq.facts.2.1, hz2.facts.1, hz2.facts.2.1⟩ ?_
  clear hK K hb_5
  replace h3 := h3.rd
  apply wpFl_call
  case hi => rfl
  case hw => kernel_rfl
  case h =>
  intro w_6 hn hC
  clear hC
  replace ha := ha.below hn (Nat.le_refl _)
  replace hb' := hb'.below hn (Nat.le_refl _)
  replace hy := hy.below hn (Nat.le_refl _)
  replace hp := hp.below hn (Nat.le_refl _)
  replace hq := hq.below hn (Nat.le_refl _)
  replace hz1 := hz1.below hn (Nat.le_refl _)
  replace hz2 := hz2.below hn (Nat.le_refl _)
  replace g1 := g1.below hn (Nat.le_refl _)
  replace g2 := g2.below hn (Nat.le_refl _)
  replace h3 := h3.below hn (Nat.le_refl _)
  replace hb := hb.trans (hn.mono hb.size)
  clear hn
  intro K hK
  have kb_7 := hb.size
  go_big_op
  go_fit (cmp_rd h3 hy (by have := LR.out; have := add_len (x.fmod y).natAbs; omega) (by omega))
  rintro e w_7 ⟨rfl, hb_7⟩
  replace ha := ha.below hb_7 (Nat.le_refl _)
  replace hb' := hb'.below hb_7 (Nat.le_refl _)
  replace hy := hy.below hb_7 (Nat.le_refl _)
  replace hp := hp.below hb_7 (Nat.le_refl _)
  replace hq := hq.below hb_7 (Nat.le_refl _)
  replace hz1 := hz1.below hb_7 (Nat.le_refl _)
  replace hz2 := hz2.below hb_7 (Nat.le_refl _)
  replace g1 := g1.below hb_7 (Nat.le_refl _)
  replace g2 := g2.below hb_7 (Nat.le_refl _)
  replace h3 := h3.below hb_7 (Nat.le_refl _)
  replace hb := hb.trans (hb_7.mono hb.size)
  refine hK _ _ rfl hb_7 ⟨hq.facts.1, hq.facts.2.1, hz2.facts.1, hz2.facts.2.1⟩ ?_
  clear hK K hb_7
  rw [HC.out]
  clear h3
  apply wpFl_ld
  case hG => rfl
  case hi => rfl
  case h1 => intro w' hC K hK; clear hC; (first | go_big_move | go_big_op); exact hK
  case hw => kernel_rfl
  case hv => kernel_rfl
  case hb => kernel_rfl
  case hp => kernel_rfl
  apply wpFl_end
  case ha => intro pt; simp only [putF]; rfl
  case h =>
  intro w_8 pt hn hC hF hD
  clear hC
  replace ha := ha.below hn (Nat.le_refl _)
  replace hb' := hb'.below hn (Nat.le_refl _)
  replace hy := hy.below hn (Nat.le_refl _)
  replace hp := hp.below hn (Nat.le_refl _)
  replace hq := hq.below hn (Nat.le_refl _)
  replace hz1 := hz1.below hn (Nat.le_refl _)
  replace hz2 := hz2.below hn (Nat.le_refl _)
  replace g1 := g1.below hn (Nat.le_refl _)
  replace g2 := g2.below hn (Nat.le_refl _)
  replace hb := hb.trans (hn.mono hb.size)
  clear hn
  clear hF hD
  clear lt_hp
  clear lt_hq
  clear lt_hz1
  clear lt_hz2
  clear kb0
  apply wpTail_end
  replace ha := ha.drew
  replace hb' := hb'.drew
  replace hy := hy.drew
  replace hp := hp.drew
  replace hq := hq.drew
  replace hz1 := hz1.drew
  replace hz2 := hz2.drew
  replace g1 := g1.drew
  replace g2 := g2.drew
  replace hb := hb.drew
  have lt_hp := hp.lt
  have lt_hq := hq.lt
  have lt_hz1 := hz1.lt
  have lt_hz2 := hz2.lt
  have kb0 := hb.size
  go_wp2_with fail
  refine wp_region_fl [(0, false), (1, false)] [2, 3, 4] [] (fun _ => obZ) [0, 1, 99, 99, 99] [(2, 0), (3, 0), (3, 1)] (fun w' => w'.cell? ⟨w.heap.size + 1 + 1, 0, none⟩ = some (.bool sb_hz1) ∧ w'.cell? ⟨w.heap.size + 1 + 1, 1, none⟩ = some (.slice o_hz1 n_hz1 c_hz1) ∧ w'.cell? ⟨w.heap.size + 1 + 1 + 1, 0, none⟩ = some (.bool sb_hz2) ∧ w'.cell? ⟨w.heap.size + 1 + 1 + 1, 1, none⟩ = some (.slice o_hz2 n_hz2 c_hz2)) [fun w' => w'.cell? ⟨w.heap.size + 1 + 1, 0, none⟩ = some (.bool sb_hz1) ∧ w'.cell? ⟨w.heap.size + 1 + 1, 1, none⟩ = some (.slice o_hz1 n_hz1 c_hz1), fun w' => w'.cell? ⟨w.heap.size + 1 + 1 + 1, 0, none⟩ = some (.bool sb_hz2) ∧ w'.cell? ⟨w.heap.size + 1 + 1 + 1, 1, none⟩ = some (.slice o_hz2 n_hz2 c_hz2)] (by kernel_rfl) (by kernel_rfl) (by kernel_rfl) (by kernel_rfl) (by kernel_rfl) (by kernel_rfl) (by kernel_rfl) (by kernel_rfl) (by decide) (by intro j hj; cases hj) (by intro w' o hC; obtain ⟨c0, c1, c2, c3⟩ := hC; exact ⟨cell_alloc c0 o, cell_alloc c1 o, cell_alloc c2 o, cell_alloc c3 o⟩) (by intro w' hC G hG; obtain ⟨c0, c1, c2, c3⟩ := hC; simp only [List.mem_cons, List.not_mem_nil, or_false] at hG; rcases hG with rfl | rfl <;> first | exact ⟨c0, c1⟩ | exact ⟨c2, c3⟩) ⟨hz1.facts.1, hz1.facts.2.1, hz2.facts.1, hz2.facts.2.1⟩ ?_
  apply wpFl_ld
  case hG => rfl
  case hi => rfl
  case h1 => intro w' hC K hK; obtain ⟨c0, c1⟩ := hC; (first | go_big_move | go_big_op); exact hK
  case hw => kernel_rfl
  case hv => kernel_rfl
  case hb => kernel_rfl
  case hp => kernel_rfl
  apply wpFl_ld
  case hG => rfl
  case hi => rfl
  case h1 => intro w' hC K hK; obtain ⟨c0, c1⟩ := hC; (first | go_big_move | go_big_op); exact hK
  case hw => kernel_rfl
  case hv => kernel_rfl
  case hb => kernel_rfl
  case hp => kernel_rfl
  apply wpFl_end
  case ha => intro pt; simp only [putF]; rfl
  case h =>
  intro w_9 pt hn hC hF hD
  clear hC
  replace ha := ha.below hn (Nat.le_refl _)
  replace hb' := hb'.below hn (Nat.le_refl _)
  replace hy := hy.below hn (Nat.le_refl _)
  replace hp := hp.below hn (Nat.le_refl _)
  replace hq := hq.below hn (Nat.le_refl _)
  replace hz1 := hz1.below hn (Nat.le_refl _)
  replace hz2 := hz2.below hn (Nat.le_refl _)
  replace g1 := g1.below hn (Nat.le_refl _)
  replace g2 := g2.below hn (Nat.le_refl _)
  replace hb := hb.trans (hn.mono hb.size)
  clear hn
  clear hF hD
  clear lt_hp
  clear lt_hq
  clear lt_hz1
  clear lt_hz2
  clear kb0
  apply wpTail_call
  case hi => rfl
  case hw => kernel_rfl
  case h =>
  intro K hK
  have c9_ := hz1.facts
  go_big_op
  have ho := Bk.only w_9 (w.heap.size + 1 + 1) sb_hz1 (.slice o_hz1 n_hz1 c_hz1)
  have hbx_ := hz1.bx
  replace ha := ha.frame hbx_ ho
  replace hb' := hb'.frame hbx_ ho
  replace hy := hy.frame hbx_ ho
  replace hp := hp.frame ho (by first | assumption | (apply Ne.symm; assumption) | (simp; done) | omega)
  replace hq := hq.frame ho (by first | assumption | (apply Ne.symm; assumption) | (simp; done) | omega)
  replace hz2 := hz2.frame ho (by first | assumption | (apply Ne.symm; assumption) | (simp; done) | omega)
  replace g1 := g1.frame hbx_ ho
  replace g2 := g2.frame hbx_ ho
  replace hz1 := hz1.store sb_hz1 (.slice o_hz1 n_hz1 c_hz1)
  replace hb := (hb.setCell (p := ⟨w.heap.size + 1 + 1, 0, none⟩) (show w.heap.size ≤ w.heap.size + 1 + 1 by first | assumption | (simp; done) | omega) (.bool sb_hz1)).setCell (p := ⟨w.heap.size + 1 + 1, 1, none⟩) (show w.heap.size ≤ w.heap.size + 1 + 1 by first | assumption | (simp; done) | omega) (.slice o_hz1 n_hz1 c_hz1)
  refine hK _ _ rfl (And.intro True.intro (And.intro (And.intro hz2.facts.1 hz2.facts.2.1) True.intro)) ?_
  clear hK K hbx_ ho c9_
  apply wpTail_call
  case hi => rfl
  case hw => kernel_rfl
  case h =>
  intro K hK
  have c9_ := hz2.facts
  go_big_op
  have ho := Bk.only ((w_9.setCell ⟨w.heap.size + 1 + 1, 0, none⟩ (.bool sb_hz1)).setCell ⟨w.heap.size + 1 + 1, 1, none⟩ (.slice o_hz1 n_hz1 c_hz1)) (w.heap.size + 1 + 1 + 1) sb_hz2 (.slice o_hz2 n_hz2 c_hz2)
  have hbx_ := hz2.bx
  replace ha := ha.frame hbx_ ho
  replace hb' := hb'.frame hbx_ ho
  replace hy := hy.frame hbx_ ho
  replace hp := hp.frame ho (by first | assumption | (apply Ne.symm; assumption) | (simp; done) | omega)
  replace hq := hq.frame ho (by first | assumption | (apply Ne.symm; assumption) | (simp; done) | omega)
  replace hz1 := hz1.frame ho (by first | assumption | (apply Ne.symm; assumption) | (simp; done) | omega)
  replace g1 := g1.frame hbx_ ho
  replace g2 := g2.frame hbx_ ho
  replace hz2 := hz2.store sb_hz2 (.slice o_hz2 n_hz2 c_hz2)
  replace hb := (hb.setCell (p := ⟨w.heap.size + 1 + 1 + 1, 0, none⟩) (show w.heap.size ≤ w.heap.size + 1 + 1 + 1 by first | assumption | (simp; done) | omega) (.bool sb_hz2)).setCell (p := ⟨w.heap.size + 1 + 1 + 1, 1, none⟩) (show w.heap.size ≤ w.heap.size + 1 + 1 + 1 by first | assumption | (simp; done) | omega) (.slice o_hz2 n_hz2 c_hz2)
  refine hK _ _ rfl (And.intro True.intro (And.intro True.intro True.intro)) ?_
  clear hK K hbx_ ho c9_
  apply wpTail_move
  case hi => rfl
  case hw => kernel_rfl
  case h =>
  intro K hK
  go_big_move
  refine hK _ _ rfl rfl ?_
  clear hK K
  apply wpTail_end
  have f1 := hz1.facts
  have f2 := hz2.facts
  go_wp2
  refine bodyPost_ret (v := .tuple #[.agg #[.bool sb_hz1, .slice o_hz1 n_hz1 c_hz1], .agg #[.bool sb_hz2, .slice o_hz2 n_hz2 c_hz2], .int .i64 0]) (by simp [results, Tryz.results69, go_sem, f1.1, f1.2.1, f2.1, f2.2.1]) rfl ?_
  exact ⟨_, _, rfl, g1.mono (by simp; omega), g2.mono (by simp; omega), hb⟩
/-- zint.RoundDiv by a number that is not 0. -/
theorem rdiv_any {w : World} {va vb : Value} {x y : Int} {l m : Nat} (ha : ZN w va x l) (hb' : ZN w vb y m) (hl : l ≤ 200000000) (hm : m ≤ 200000000) (h0 : y ≠ 0) :
    Calls Tryz.prog 69 #[va, vb] w fun e w' => ∃ v1 v2, e = .returned (.tuple #[v1, v2, .int .i64 0]) ∧
      ZO w' w.heap.size v1 (rnd x y) ∧ ZO w' w.heap.size v2 (x - rnd x y * y) ∧ Below w.heap.size w w' := by
  rcases Nat.lt_or_ge ((x.fmod y).natAbs + (x.fmod y).natAbs) y.natAbs with h | h
  · exact rdiv_down ha hb' hl hm h0 h
  · exact rdiv_up ha hb' hl hm h0 h
theorem fmod_zero {x y : Int} {na nb : Bool} {xs ys : List Nat} (hx : zv na xs = x) (hy : zv nb ys = y) (h0 : y ≠ 0) : x.fmod y = 0 ↔ val xs % val ys = 0 := by
  have hv : val ys ≠ 0 := fun h => h0 (by rw [← hy]; exact zv_zero.2 h)
  have hs := zv_split na nb xs ys
  rw [hx, hy] at hs
  constructor
  · intro h
    by_cases hr : val xs % val ys = 0
    · exact hr
    · cases hd : (na != nb) with
      | false =>
        have := (floor_plain (na := na) (nb := nb) (xs := xs) hv (.inr hd)).2
        rw [hx, hy, h] at this
        exact absurd ((fr_sign na).1 (by rw [← this]; rfl)) hr
      | true =>
        have h2 := (floor_turned (na := na) (nb := nb) hv hr hd).2
        rw [hx, hy, h] at h2
        have h3 : (fr na (val xs) (val ys)).natAbs = val xs % val ys := by
          unfold fr; split
          · rw [Int.natAbs_neg]; exact Int.natAbs_natCast _
          · exact Int.natAbs_natCast _
        have h4 : y.natAbs = val ys := by rw [← hy, zv_abs]
        have := Nat.mod_lt (val xs) (Nat.pos_of_ne_zero hv)
        omega
  · intro h
    have := (floor_plain (na := na) (nb := nb) hv (.inl h)).2
    rw [hx, hy] at this
    rw [this]
    unfold fr; rw [h]; cases na <;> rfl
set_option maxHeartbeats 4000000 in
set_option maxRecDepth 20000 in
/-- zint.Exact by 0. -/
theorem exact_zero {w : World} {va vb : Value} {x : Int} {l m : Nat} (ha : ZN w va x l) (hb' : ZN w vb 0 m) (hl : l ≤ 400000000) (hm : m ≤ 400000000) :
    Calls Tryz.prog 38 #[va, vb] w fun e w' => e = .returned (.tuple #[.agg #[.bool false, .slice none 0 0], .int .i64 5]) ∧ Below w.heap.size w w' := by
  obtain ⟨na, oa, ca, xs, rfl, hca, hx, hzx, hxl⟩ := ha.open_
  obtain ⟨nb, ob, cb, ys, rfl, hcb, hy, hzy, hyl⟩ := hb'.open_
  have hv : val ys = 0 := zv_zero.1 hzy
  have HI := hide (show divI (val ys) = 5 by rw [hv]; rfl)
  have e5 : ((5 : Int) == 0) = false := rfl
  clear ha hb' hzx hzy hv
  go_enter Tryz.func38, Tryz.ntmps38
  have hb := Below.refl w.heap.size w
  have hp := Bk.new w na (.slice oa xs.length ca)
  replace hx := hx.alloc (.cells #[.bool na, (.slice oa xs.length ca)] 26)
  replace hy := hy.alloc (.cells #[.bool na, (.slice oa xs.length ca)] 26)
  replace hb := hb.alloc hb.size (.cells #[.bool na, (.slice oa xs.length ca)] 26)
  have hq := Bk.new (w.alloc (.cells #[.bool na, (.slice oa xs.length ca)] 26)) nb (.slice ob ys.length cb)
  simp only [Bk.size_alloc] at hq
  replace hx := hx.alloc (.cells #[.bool nb, (.slice ob ys.length cb)] 26)
  replace hy := hy.alloc (.cells #[.bool nb, (.slice ob ys.length cb)] 26)
  replace hp := hp.alloc (.cells #[.bool nb, (.slice ob ys.length cb)] 26)
  replace hb := hb.alloc hb.size (.cells #[.bool nb, (.slice ob ys.length cb)] 26)
  have hz1 := Bk.new ((w.alloc (.cells #[.bool na, (.slice oa xs.length ca)] 26)).alloc (.cells #[.bool nb, (.slice ob ys.length cb)] 26)) false (.slice none 0 0)
  simp only [Bk.size_alloc] at hz1
  replace hx := hx.alloc (.cells #[.bool false, (.slice none 0 0)] 26)
  replace hy := hy.alloc (.cells #[.bool false, (.slice none 0 0)] 26)
  replace hp := hp.alloc (.cells #[.bool false, (.slice none 0 0)] 26)
  replace hq := hq.alloc (.cells #[.bool false, (.slice none 0 0)] 26)
  replace hb := hb.alloc hb.size (.cells #[.bool false, (.slice none 0 0)] 26)
  have f_hp := hp.facts
  have f_hq := hq.facts
  go_wp2_with fail
  refine (divMod_rd hx hy (by omega) (by omega)).mono ?_
  rintro e w_1 ⟨s1, s2, rfl, -, -, -, hb_1⟩
  replace hx := hx.below hb_1 (Nat.le_refl _)
  replace hy := hy.below hb_1 (Nat.le_refl _)
  replace hp := hp.below hb_1 (Nat.le_refl _)
  replace hq := hq.below hb_1 (Nat.le_refl _)
  replace hz1 := hz1.below hb_1 (Nat.le_refl _)
  replace hb := hb.trans (hb_1.mono hb.size)
  clear hb_1
  rw [HI.out]
  clear f_hp f_hq
  have f_hz1 := hz1.facts
  have ho := Bk.only w_1 (w.heap.size + 1 + 1) false (.slice none 0 0)
  have hbx_ := hz1.bx
  replace hx := hx.frame hbx_ ho
  replace hy := hy.frame hbx_ ho
  replace hp := hp.frame ho (by first | assumption | (apply Ne.symm; assumption) | (simp; done) | omega)
  replace hq := hq.frame ho (by first | assumption | (apply Ne.symm; assumption) | (simp; done) | omega)
  replace hz1 := hz1.store false (.slice none 0 0)
  replace hb := (hb.setCell (p := ⟨w.heap.size + 1 + 1, 0, none⟩) (show w.heap.size ≤ w.heap.size + 1 + 1 by first | assumption | (simp; done) | omega) (.bool false)).setCell (p := ⟨w.heap.size + 1 + 1, 1, none⟩) (show w.heap.size ≤ w.heap.size + 1 + 1 by first | assumption | (simp; done) | omega) (.slice none 0 0)
  clear ho hbx_
  obtain ⟨w_2, hw_2⟩ : ∃ v, ((w_1.setCell ⟨w.heap.size + 1 + 1, 0, none⟩ (.bool false)).setCell ⟨w.heap.size + 1 + 1, 1, none⟩ (.slice none 0 0)) = v := ⟨_, rfl⟩
  rw [hw_2] at hx hy hp hq hz1 hb
  have f1 := hz1.facts
  go_wp2
  refine bodyPost_ret (v := .tuple #[.agg #[.bool false, .slice none 0 0], .int .i64 5]) (by simp [results, Tryz.results38, go_sem, f1.1, f1.2.1]) rfl ?_
  exact ⟨rfl, hb⟩
set_option maxHeartbeats 4000000 in
set_option maxRecDepth 20000 in
/-- zint.Exact with a rest. -/
theorem exact_rest {w : World} {va vb : Value} {x y : Int} {l m : Nat} (ha : ZN w va x l) (hb' : ZN w vb y m) (hl : l ≤ 400000000) (hm : m ≤ 400000000) (h0 : y ≠ 0) (hr : x.fmod y ≠ 0) :
    Calls Tryz.prog 38 #[va, vb] w fun e w' => e = .returned (.tuple #[.agg #[.bool false, .slice none 0 0], .int .i64 11]) ∧ Below w.heap.size w w' := by
  obtain ⟨na, oa, ca, xs, rfl, hca, hx, hzx, hxl⟩ := ha.open_
  obtain ⟨nb, ob, cb, ys, rfl, hcb, hy, hzy, hyl⟩ := hb'.open_
  have hv : val ys ≠ 0 := fun h => h0 (by rw [← hzy]; exact zv_zero.2 h)
  have hm0 : val xs % val ys ≠ 0 := fun h => hr ((fmod_zero hzx hzy h0).2 h)
  obtain ⟨n, hn⟩ : ∃ n, (dig (val xs % val ys)).length = n := ⟨_, rfl⟩
  have hn0 : 0 < n := by rw [← hn, List.length_pos_iff]; exact fun h => hm0 (dig_eq_nil.1 h)
  have H0 := hide hv
  have e0 : ((0 : Int) == 0) = true := rfl
  clear ha hb' hzx hzy hv hr h0 hm0
  go_enter Tryz.func38, Tryz.ntmps38
  have hb := Below.refl w.heap.size w
  have hp := Bk.new w na (.slice oa xs.length ca)
  replace hx := hx.alloc (.cells #[.bool na, (.slice oa xs.length ca)] 26)
  replace hy := hy.alloc (.cells #[.bool na, (.slice oa xs.length ca)] 26)
  replace hb := hb.alloc hb.size (.cells #[.bool na, (.slice oa xs.length ca)] 26)
  have hq := Bk.new (w.alloc (.cells #[.bool na, (.slice oa xs.length ca)] 26)) nb (.slice ob ys.length cb)
  simp only [Bk.size_alloc] at hq
  replace hx := hx.alloc (.cells #[.bool nb, (.slice ob ys.length cb)] 26)
  replace hy := hy.alloc (.cells #[.bool nb, (.slice ob ys.length cb)] 26)
  replace hp := hp.alloc (.cells #[.bool nb, (.slice ob ys.length cb)] 26)
  replace hb := hb.alloc hb.size (.cells #[.bool nb, (.slice ob ys.length cb)] 26)
  have hz1 := Bk.new ((w.alloc (.cells #[.bool na, (.slice oa xs.length ca)] 26)).alloc (.cells #[.bool nb, (.slice ob ys.length cb)] 26)) false (.slice none 0 0)
  simp only [Bk.size_alloc] at hz1
  replace hx := hx.alloc (.cells #[.bool false, (.slice none 0 0)] 26)
  replace hy := hy.alloc (.cells #[.bool false, (.slice none 0 0)] 26)
  replace hp := hp.alloc (.cells #[.bool false, (.slice none 0 0)] 26)
  replace hq := hq.alloc (.cells #[.bool false, (.slice none 0 0)] 26)
  replace hb := hb.alloc hb.size (.cells #[.bool false, (.slice none 0 0)] 26)
  have f_hp := hp.facts
  have f_hq := hq.facts
  go_wp2_with fail
  refine (divMod_pos hx hy H0.out (by omega) (by omega)).mono ?_
  rintro e w_1 ⟨s1, s2, rfl, h1, h2, -, hb_1⟩
  replace hx := hx.below hb_1 (Nat.le_refl _)
  replace hy := hy.below hb_1 (Nat.le_refl _)
  replace hp := hp.below hb_1 (Nat.le_refl _)
  replace hq := hq.below hb_1 (Nat.le_refl _)
  replace hz1 := hz1.below hb_1 (Nat.le_refl _)
  replace hb := hb.trans (hb_1.mono hb.size)
  clear hb_1
  clear f_hp f_hq
  obtain ⟨o2, c2, rfl, hc2, _⟩ := h2
  rw [hn]
  have f_hz1 := hz1.facts
  have ho := Bk.only w_1 (w.heap.size + 1 + 1) false (.slice none 0 0)
  have hbx_ := hz1.bx
  replace hx := hx.frame hbx_ ho
  replace hy := hy.frame hbx_ ho
  replace hp := hp.frame ho (by first | assumption | (apply Ne.symm; assumption) | (simp; done) | omega)
  replace hq := hq.frame ho (by first | assumption | (apply Ne.symm; assumption) | (simp; done) | omega)
  replace hz1 := hz1.store false (.slice none 0 0)
  replace hb := (hb.setCell (p := ⟨w.heap.size + 1 + 1, 0, none⟩) (show w.heap.size ≤ w.heap.size + 1 + 1 by first | assumption | (simp; done) | omega) (.bool false)).setCell (p := ⟨w.heap.size + 1 + 1, 1, none⟩) (show w.heap.size ≤ w.heap.size + 1 + 1 by first | assumption | (simp; done) | omega) (.slice none 0 0)
  clear ho hbx_
  obtain ⟨w_2, hw_2⟩ : ∃ v, ((w_1.setCell ⟨w.heap.size + 1 + 1, 0, none⟩ (.bool false)).setCell ⟨w.heap.size + 1 + 1, 1, none⟩ (.slice none 0 0)) = v := ⟨_, rfl⟩
  rw [hw_2] at hx hy hp hq hz1 hb
  have f1 := hz1.facts
  go_wp2
  refine bodyPost_ret (v := .tuple #[.agg #[.bool false, .slice none 0 0], .int .i64 11]) (by simp [results, Tryz.results38, go_sem, f1.1, f1.2.1]) rfl ?_
  exact ⟨rfl, hb⟩
set_option maxHeartbeats 4000000 in
set_option maxRecDepth 20000 in
/-- zint.Exact without a rest. -/
theorem exact_any {w : World} {va vb : Value} {x y : Int} {l m : Nat} (ha : ZN w va x l) (hb' : ZN w vb y m) (hl : l ≤ 400000000) (hm : m ≤ 400000000) (h0 : y ≠ 0) (hr : x.fmod y = 0) :
    Calls Tryz.prog 38 #[va, vb] w fun e w' => ∃ v1, e = .returned (.tuple #[v1, .int .i64 0]) ∧ ZO w' w.heap.size v1 (x.fdiv y) ∧ Below w.heap.size w w' := by
  obtain ⟨na, oa, ca, xs, rfl, hca, hx, hzx, hxl⟩ := ha.open_
  obtain ⟨nb, ob, cb, ys, rfl, hcb, hy, hzy, hyl⟩ := hb'.open_
  have hv : val ys ≠ 0 := fun h => h0 (by rw [← hzy]; exact zv_zero.2 h)
  have hm0 : val xs % val ys = 0 := (fmod_zero hzx hzy h0).1 hr
  have HN := hide (show (dig (val xs % val ys)).length = 0 by rw [hm0]; exact List.length_eq_zero_iff.2 (dig_eq_nil.2 rfl))
  have H0 := hide hv
  have e0 : ((0 : Int) == 0) = true := rfl
  have hbn : (!(na == nb)) = (na != nb) := rfl
  have E1 := hide (show (if (na != nb) = true then -((val xs / val ys : Nat) : Int) else ((val xs / val ys : Nat) : Int)) = x.fdiv y by rw [← hzx, ← hzy, (floor_plain (na := na) (nb := nb) hv (.inl hm0)).1]; rfl)
  clear ha hb' hzx hzy hv hr h0 hm0
  go_enter Tryz.func38, Tryz.ntmps38
  have hb := Below.refl w.heap.size w
  have hp := Bk.new w na (.slice oa xs.length ca)
  replace hx := hx.alloc (.cells #[.bool na, (.slice oa xs.length ca)] 26)
  replace hy := hy.alloc (.cells #[.bool na, (.slice oa xs.length ca)] 26)
  replace hb := hb.alloc hb.size (.cells #[.bool na, (.slice oa xs.length ca)] 26)
  have hq := Bk.new (w.alloc (.cells #[.bool na, (.slice oa xs.length ca)] 26)) nb (.slice ob ys.length cb)
  simp only [Bk.size_alloc] at hq
  replace hx := hx.alloc (.cells #[.bool nb, (.slice ob ys.length cb)] 26)
  replace hy := hy.alloc (.cells #[.bool nb, (.slice ob ys.length cb)] 26)
  replace hp := hp.alloc (.cells #[.bool nb, (.slice ob ys.length cb)] 26)
  replace hb := hb.alloc hb.size (.cells #[.bool nb, (.slice ob ys.length cb)] 26)
  have hz1 := Bk.new ((w.alloc (.cells #[.bool na, (.slice oa xs.length ca)] 26)).alloc (.cells #[.bool nb, (.slice ob ys.length cb)] 26)) false (.slice none 0 0)
  simp only [Bk.size_alloc] at hz1
  replace hx := hx.alloc (.cells #[.bool false, (.slice none 0 0)] 26)
  replace hy := hy.alloc (.cells #[.bool false, (.slice none 0 0)] 26)
  replace hp := hp.alloc (.cells #[.bool false, (.slice none 0 0)] 26)
  replace hq := hq.alloc (.cells #[.bool false, (.slice none 0 0)] 26)
  replace hb := hb.alloc hb.size (.cells #[.bool false, (.slice none 0 0)] 26)
  have f_hp := hp.facts
  have f_hq := hq.facts
  go_wp2_with fail
  refine (divMod_pos hx hy H0.out (by omega) (by omega)).mono ?_
  rintro e w_1 ⟨s1, s2, rfl, h1, h2, -, hb_1⟩
  replace hx := hx.below hb_1 (Nat.le_refl _)
  replace hy := hy.below hb_1 (Nat.le_refl _)
  replace hp := hp.below hb_1 (Nat.le_refl _)
  replace hq := hq.below hb_1 (Nat.le_refl _)
  replace hz1 := hz1.below hb_1 (Nat.le_refl _)
  replace hb := hb.trans (hb_1.mono hb.size)
  clear hb_1
  clear f_hp f_hq
  obtain ⟨o2, c2, rfl, hc2, _⟩ := h2
  rw [HN.out]
  have f_hp := hp.facts
  have f_hq := hq.facts
  go_wp2_with fail
  refine (signed_z _ h1 E1.out).mono ?_
  rintro e w_2 ⟨v1, rfl, g1, hb_2⟩
  replace hx := hx.below hb_2 (Nat.le_refl _)
  replace hy := hy.below hb_2 (Nat.le_refl _)
  replace hp := hp.below hb_2 (Nat.le_refl _)
  replace hq := hq.below hb_2 (Nat.le_refl _)
  replace hz1 := hz1.below hb_2 (Nat.le_refl _)
  replace h1 := h1.below hb_2 (Nat.le_refl _)
  replace hb := hb.trans (hb_2.mono hb.size)
  clear hb_2
  clear h1
  clear f_hp f_hq
  obtain ⟨sb_hz1, o_hz1, n_hz1, c_hz1, rfl⟩ := g1.open2
  have f_hz1 := hz1.facts
  have ho := Bk.only w_2 (w.heap.size + 1 + 1) sb_hz1 (.slice o_hz1 n_hz1 c_hz1)
  have hbx_ := hz1.bx
  replace hx := hx.frame hbx_ ho
  replace hy := hy.frame hbx_ ho
  replace hp := hp.frame ho (by first | assumption | (apply Ne.symm; assumption) | (simp; done) | omega)
  replace hq := hq.frame ho (by first | assumption | (apply Ne.symm; assumption) | (simp; done) | omega)
  replace g1 := g1.frame hbx_ ho
  replace hz1 := hz1.store sb_hz1 (.slice o_hz1 n_hz1 c_hz1)
  replace hb := (hb.setCell (p := ⟨w.heap.size + 1 + 1, 0, none⟩) (show w.heap.size ≤ w.heap.size + 1 + 1 by first | assumption | (simp; done) | omega) (.bool sb_hz1)).setCell (p := ⟨w.heap.size + 1 + 1, 1, none⟩) (show w.heap.size ≤ w.heap.size + 1 + 1 by first | assumption | (simp; done) | omega) (.slice o_hz1 n_hz1 c_hz1)
  clear ho hbx_
  obtain ⟨w_3, hw_3⟩ : ∃ v, ((w_2.setCell ⟨w.heap.size + 1 + 1, 0, none⟩ (.bool sb_hz1)).setCell ⟨w.heap.size + 1 + 1, 1, none⟩ (.slice o_hz1 n_hz1 c_hz1)) = v := ⟨_, rfl⟩
  rw [hw_3] at hx hy hp hq hz1 g1 hb
  have f1 := hz1.facts
  go_wp2
  refine bodyPost_ret (v := .tuple #[.agg #[.bool sb_hz1, .slice o_hz1 n_hz1 c_hz1], .int .i64 0]) (by simp [results, Tryz.results38, go_sem, f1.1, f1.2.1]) rfl ?_
  exact ⟨_, rfl, g1.mono (by simp; omega), hb⟩
end Go.Proofs.YtlomgfgedkkhkaaGreatDoor

