/- zint.FloorDiv. -/
import Derived.Test.YtlomgfgedkkhkaaGreatDoorSxToD8
namespace Go.Proofs.YtlomgfgedkkhkaaGreatDoor
open Go.RowKit Dig

theorem floor_is {x y q r : Int} (h : x = q * y + r) (h1 : 0 < y → 0 ≤ r ∧ r < y) (h2 : y < 0 → y < r ∧ r ≤ 0) (h0 : y ≠ 0) : x.fdiv y = q ∧ x.fmod y = r := by
  rcases Int.lt_or_gt_of_ne h0 with hy | hy
  · exact (Int.fdiv_fmod_unique' hy).2 ⟨by rw [h, Int.mul_comm q y]; omega, (h2 hy).1, (h2 hy).2⟩
  · exact (Int.fdiv_fmod_unique hy).2 ⟨by rw [h, Int.mul_comm q y]; omega, (h1 hy).1, (h1 hy).2⟩
/-- The quotient of the amounts with its sign, and the rest with the first's. -/
def fq (na nb : Bool) (X Y : Nat) : Int := if (na != nb) = true then -((X / Y : Nat) : Int) else ((X / Y : Nat) : Int)
def fr (na : Bool) (X Y : Nat) : Int := if na = true then -((X % Y : Nat) : Int) else ((X % Y : Nat) : Int)
theorem zv_split (na nb : Bool) (xs ys : List Nat) : zv na xs = fq na nb (val xs) (val ys) * zv nb ys + fr na (val xs) (val ys) := by
  unfold fq fr zv
  have h : ((val xs : Nat) : Int) = ((val xs / val ys : Nat) : Int) * ((val ys : Nat) : Int) + ((val xs % val ys : Nat) : Int) := by
    have := Nat.div_add_mod (val xs) (val ys)
    rw [Nat.mul_comm] at this
    exact_mod_cast this.symm
  cases na <;> cases nb <;> simp only [bne_self_eq_false, Bool.false_eq_true, if_false, if_true, Bool.true_bne, Bool.false_bne, Bool.not_false, Int.neg_mul, Int.mul_neg, Int.neg_neg] <;> omega
theorem floor_plain {na nb : Bool} {xs ys : List Nat} (h0 : val ys ≠ 0) (h : val xs % val ys = 0 ∨ (na != nb) = false) :
    (zv na xs).fdiv (zv nb ys) = fq na nb (val xs) (val ys) ∧ (zv na xs).fmod (zv nb ys) = fr na (val xs) (val ys) := by
  have hlt := Nat.mod_lt (val xs) (Nat.pos_of_ne_zero h0)
  refine floor_is (zv_split na nb xs ys) ?_ ?_ ?_
  all_goals (try unfold fr); unfold zv; revert h; cases na <;> cases nb <;> simp <;> omega
theorem floor_turned {na nb : Bool} {xs ys : List Nat} (h0 : val ys ≠ 0) (hr : val xs % val ys ≠ 0) (hd : (na != nb) = true) :
    (zv na xs).fdiv (zv nb ys) = fq na nb (val xs) (val ys) - 1 ∧ (zv na xs).fmod (zv nb ys) = fr na (val xs) (val ys) + zv nb ys := by
  have hlt := Nat.mod_lt (val xs) (Nat.pos_of_ne_zero h0)
  refine floor_is (by rw [Int.sub_mul, Int.one_mul]; have := zv_split na nb xs ys; omega) ?_ ?_ ?_
  all_goals (try unfold fr); unfold zv; revert hd; cases na <;> cases nb <;> simp <;> omega
theorem fr_len (na : Bool) {X Y l : Nat} (hY : Y ≠ 0) (h : (dig Y).length ≤ l) : (dig (fr na X Y).natAbs).length ≤ l := by
  have h1 : (fr na X Y).natAbs = X % Y := by
    unfold fr; split
    · rw [Int.natAbs_neg]; exact Int.natAbs_natCast _
    · exact Int.natAbs_natCast _
  rw [h1]
  refine dig_length_le (Nat.lt_trans (Nat.mod_lt _ (Nat.pos_of_ne_zero hY)) (Nat.lt_of_lt_of_le (lt_pw_dig Y) (pw_mono h)))
theorem fq_len (na nb : Bool) {X Y l : Nat} (h : (dig X).length ≤ l) : (dig (fq na nb X Y).natAbs).length ≤ l := by
  have h1 : (fq na nb X Y).natAbs = X / Y := by
    unfold fq; split
    · rw [Int.natAbs_neg]; exact Int.natAbs_natCast _
    · exact Int.natAbs_natCast _
  rw [h1]
  refine dig_length_le (Nat.lt_of_le_of_lt (Nat.div_le_self _ _) (Nat.lt_of_lt_of_le (lt_pw_dig X) (pw_mono h)))
theorem fr_sign (na : Bool) {X Y : Nat} : (fr na X Y).sign = 0 ↔ X % Y = 0 := by
  rw [Int.sign_eq_zero_iff_zero]
  unfold fr; cases na <;> simp <;> omega
set_option maxHeartbeats 4000000 in
set_option maxRecDepth 20000 in
/-- zint.FloorDiv where nothing is to be turned. -/
theorem fdiv_plain {w : World} {oa ob : Option Addr} {ca cb : Nat} {xs ys : List Nat} {na nb : Bool} (hx : Rd w (.slice oa xs.length ca) xs) (hy : Rd w (.slice ob ys.length cb) ys)
    (hxl : xs.length ≤ 400000000) (hyl : ys.length ≤ 400000000) (h0 : val ys ≠ 0) (h : val xs % val ys = 0) :
    Calls Tryz.prog 93 #[.agg #[.bool na, .slice oa xs.length ca], .agg #[.bool nb, .slice ob ys.length cb]] w fun e w' => ∃ v1 v2, e = .returned (.tuple #[v1, v2, .int .i64 0]) ∧
      ZO w' w.heap.size v1 ((zv na xs).fdiv (zv nb ys)) ∧ ZO w' w.heap.size v2 ((zv na xs).fmod (zv nb ys)) ∧ Below w.heap.size w w' := by
  have hf := floor_plain (na := na) (nb := nb) h0 (.inl h)
  rw [hf.1, hf.2]
  have LR := hide (show (dig (fr na (val xs) (val ys)).natAbs).length ≤ 400000000 from fr_len na h0 (dig_length_le (Nat.lt_of_lt_of_le (val_lt hy.ok) (pw_mono hyl))))
  have HS := hide ((fr_sign na (X := val xs) (Y := val ys)).2 h)
  have H0 := hide h0
  have hbn : (!(na == nb)) = (na != nb) := rfl
  have e0 : ((0 : Int) == 0) = true := rfl
  have E1 := hide (show (if (na != nb) = true then -((val xs / val ys : Nat) : Int) else ((val xs / val ys : Nat) : Int)) = fq na nb (val xs) (val ys) from rfl)
  have E2 := hide (show (if na = true then -((val xs % val ys : Nat) : Int) else ((val xs % val ys : Nat) : Int)) = fr na (val xs) (val ys) from rfl)
  clear hf h h0
  go_enter Tryz.func93, Tryz.ntmps93
  have hb := Below.refl w.heap.size w
  have hp := Bk.new w na (.slice oa xs.length ca)
  replace hx := hx.alloc (.cells #[.bool na, (.slice oa xs.length ca)] 26)
  replace hy := hy.alloc (.cells #[.bool na, (.slice oa xs.length ca)] 26)
  replace hb := hb.alloc hb.size (.cells #[.bool na, (.slice oa xs.length ca)] 26)
  have hq := Bk.new (w.alloc (.cells #[.bool na, (.slice oa xs.length ca)] 26)) nb (.slice ob ys.length cb)
  simp only [Bk.size_alloc] at hq
  replace hx := hx.alloc (.cells #[.bool nb, (.slice ob ys.length cb)] 26)
  replace hy := hy.alloc (.cells #[.bool nb, (.slice ob ys.length cb)] 26)
  replace hp := hp.alloc (.cells #[.bool nb, (.slice ob ys.length cb)] 26)
  replace hb := hb.alloc hb.size (.cells #[.bool nb, (.slice ob ys.length cb)] 26)
  have hz1 := Bk.new ((w.alloc (.cells #[.bool na, (.slice oa xs.length ca)] 26)).alloc (.cells #[.bool nb, (.slice ob ys.length cb)] 26)) false (.slice none 0 0)
  simp only [Bk.size_alloc] at hz1
  replace hx := hx.alloc (.cells #[.bool false, (.slice none 0 0)] 26)
  replace hy := hy.alloc (.cells #[.bool false, (.slice none 0 0)] 26)
  replace hp := hp.alloc (.cells #[.bool false, (.slice none 0 0)] 26)
  replace hq := hq.alloc (.cells #[.bool false, (.slice none 0 0)] 26)
  replace hb := hb.alloc hb.size (.cells #[.bool false, (.slice none 0 0)] 26)
  have hz2 := Bk.new (((w.alloc (.cells #[.bool na, (.slice oa xs.length ca)] 26)).alloc (.cells #[.bool nb, (.slice ob ys.length cb)] 26)).alloc (.cells #[.bool false, (.slice none 0 0)] 26)) false (.slice none 0 0)
  simp only [Bk.size_alloc] at hz2
  replace hx := hx.alloc (.cells #[.bool false, (.slice none 0 0)] 26)
  replace hy := hy.alloc (.cells #[.bool false, (.slice none 0 0)] 26)
  replace hp := hp.alloc (.cells #[.bool false, (.slice none 0 0)] 26)
  replace hq := hq.alloc (.cells #[.bool false, (.slice none 0 0)] 26)
  replace hz1 := hz1.alloc (.cells #[.bool false, (.slice none 0 0)] 26)
  replace hb := hb.alloc hb.size (.cells #[.bool false, (.slice none 0 0)] 26)
  have f_hp := hp.facts
  have f_hq := hq.facts
  go_wp2_with fail
  refine (divMod_pos hx hy H0.out (by omega) (by omega)).mono ?_
  rintro e w_1 ⟨s1, s2, rfl, h1, h2, -, hb_1⟩
  replace hx := hx.below hb_1 (Nat.le_refl _)
  replace hy := hy.below hb_1 (Nat.le_refl _)
  replace hp := hp.below hb_1 (Nat.le_refl _)
  replace hq := hq.below hb_1 (Nat.le_refl _)
  replace hz1 := hz1.below hb_1 (Nat.le_refl _)
  replace hz2 := hz2.below hb_1 (Nat.le_refl _)
  replace hb := hb.trans (hb_1.mono hb.size)
  clear hb_1
  clear f_hp f_hq
  replace hx := hx.drew
  replace hy := hy.drew
  replace hp := hp.drew
  replace hq := hq.drew
  replace hz1 := hz1.drew
  replace hz2 := hz2.drew
  replace h1 := h1.drew
  replace h2 := h2.drew
  replace hb := hb.drew
  have lt_hp := hp.lt
  have lt_hq := hq.lt
  have lt_hz1 := hz1.lt
  have lt_hz2 := hz2.lt
  have kb0 := hb.size
  go_wp2_with fail
  refine wp_region_fl [(0, false), (1, false), (2, false), (3, false), (4, false), (5, false), (7, false), (8, false), (9, false), (6, true), (10, true)] [11, 12] [] (fun _ => obZ) [99, 0, 99, 1, 99, 99, 99, 99, 0, 99, 99, 99, 99] [] (fun w' => w'.cell? ⟨w.heap.size, 0, none⟩ = some (.bool na) ∧ w'.cell? ⟨w.heap.size, 1, none⟩ = some (.slice oa xs.length ca) ∧ w'.cell? ⟨w.heap.size + 1, 0, none⟩ = some (.bool nb) ∧ w'.cell? ⟨w.heap.size + 1, 1, none⟩ = some (.slice ob ys.length cb)) [fun w' => w'.cell? ⟨w.heap.size, 0, none⟩ = some (.bool na) ∧ w'.cell? ⟨w.heap.size, 1, none⟩ = some (.slice oa xs.length ca), fun w' => w'.cell? ⟨w.heap.size + 1, 0, none⟩ = some (.bool nb) ∧ w'.cell? ⟨w.heap.size + 1, 1, none⟩ = some (.slice ob ys.length cb)] (by kernel_rfl) (by kernel_rfl) (by kernel_rfl) (by kernel_rfl) (by kernel_rfl) (by kernel_rfl) (by kernel_rfl) (by kernel_rfl) (by decide) (by intro j hj; cases hj) (by intro w' o hC; obtain ⟨c0, c1, c2, c3⟩ := hC; exact ⟨cell_alloc c0 o, cell_alloc c1 o, cell_alloc c2 o, cell_alloc c3 o⟩) (by intro w' hC G hG; obtain ⟨c0, c1, c2, c3⟩ := hC; simp only [List.mem_cons, List.not_mem_nil, or_false] at hG; rcases hG with rfl | rfl <;> first | exact ⟨c0, c1⟩ | exact ⟨c2, c3⟩) ⟨hp.facts.1, hp.facts.2.1, hq.facts.1, hq.facts.2.1⟩ ?_
  apply wpFl_ld
  case hG => rfl
  case hi => rfl
  case h1 => intro w' hC K hK; clear hC; (first | go_big_move | go_big_op); exact hK
  case hw => kernel_rfl
  case hv => kernel_rfl
  case hb => kernel_rfl
  case hp => kernel_rfl
  apply wpFl_ld
  case hG => rfl
  case hi => rfl
  case h1 => intro w' hC K hK; obtain ⟨c0, c1⟩ := hC; (first | go_big_move | go_big_op); exact hK
  case hw => kernel_rfl
  case hv => kernel_rfl
  case hb => kernel_rfl
  case hp => kernel_rfl
  apply wpFl_ld
  case hG => rfl
  case hi => rfl
  case h1 => intro w' hC K hK; clear hC; (first | go_big_move | go_big_op); exact hK
  case hw => kernel_rfl
  case hv => kernel_rfl
  case hb => kernel_rfl
  case hp => kernel_rfl
  apply wpFl_ld
  case hG => rfl
  case hi => rfl
  case h1 => intro w' hC K hK; obtain ⟨c0, c1⟩ := hC; (first | go_big_move | go_big_op); exact hK
  case hw => kernel_rfl
  case hv => kernel_rfl
  case hb => kernel_rfl
  case hp => kernel_rfl
  apply wpFl_ld
  case hG => rfl
  case hi => rfl
  case h1 => intro w' hC K hK; clear hC; (first | go_big_move | go_big_op); exact hK
  case hw => kernel_rfl
  case hv => kernel_rfl
  case hb => kernel_rfl
  case hp => kernel_rfl
  apply wpFl_ld
  case hG => rfl
  case hi => rfl
  case h1 => intro w' hC K hK; clear hC; (first | go_big_move | go_big_op); exact hK
  case hw => kernel_rfl
  case hv => kernel_rfl
  case hb => kernel_rfl
  case hp => kernel_rfl
  apply wpFl_ld
  case hG => rfl
  case hi => rfl
  case h1 => intro w' hC K hK; clear hC; (first | go_big_move | go_big_op); exact hK
  case hw => kernel_rfl
  case hv => kernel_rfl
  case hb => kernel_rfl
  case hp => kernel_rfl
  apply wpFl_ld
  case hG => rfl
  case hi => rfl
  case h1 => intro w' hC K hK; obtain ⟨c0, c1⟩ := hC; (first | go_big_move | go_big_op); exact hK
  case hw => kernel_rfl
  case hv => kernel_rfl
  case hb => kernel_rfl
  case hp => kernel_rfl
  apply wpFl_ld
  case hG => rfl
  case hi => rfl
  case h1 => intro w' hC K hK; clear hC; (first | go_big_move | go_big_op); exact hK
  case hw => kernel_rfl
  case hv => kernel_rfl
  case hb => kernel_rfl
  case hp => kernel_rfl
  apply wpFl_call
  case hi => rfl
  case hw => kernel_rfl
  case h =>
  intro w_2 hn hC
  clear hC
  replace hx := hx.below hn (Nat.le_refl _)
  replace hy := hy.below hn (Nat.le_refl _)
  replace hp := hp.below hn (Nat.le_refl _)
  replace hq := hq.below hn (Nat.le_refl _)
  replace hz1 := hz1.below hn (Nat.le_refl _)
  replace hz2 := hz2.below hn (Nat.le_refl _)
  replace h1 := h1.below hn (Nat.le_refl _)
  replace h2 := h2.below hn (Nat.le_refl _)
  replace hb := hb.trans (hn.mono hb.size)
  clear hn
  intro K hK
  have kb_3 := hb.size
  go_big_op
  go_fit (signed_z _ h1 E1.out)
  rintro e w_3 ⟨v1, rfl, g1, hb_3⟩
  replace hx := hx.below hb_3 (Nat.le_refl _)
  replace hy := hy.below hb_3 (Nat.le_refl _)
  replace hp := hp.below hb_3 (Nat.le_refl _)
  replace hq := hq.below hb_3 (Nat.le_refl _)
  replace hz1 := hz1.below hb_3 (Nat.le_refl _)
  replace hz2 := hz2.below hb_3 (Nat.le_refl _)
  replace h1 := h1.below hb_3 (Nat.le_refl _)
  replace h2 := h2.below hb_3 (Nat.le_refl _)
  replace hb := hb.trans (hb_3.mono hb.size)
  refine hK _ _ rfl hb_3 ⟨hp.facts.1, hp.facts.2.1, hq.facts.1, hq.facts.2.1⟩ ?_
  clear hK K hb_3
  apply wpFl_call
  case hi => rfl
  case hw => kernel_rfl
  case h =>
  intro w_4 hn hC
  clear hC
  replace hx := hx.below hn (Nat.le_refl _)
  replace hy := hy.below hn (Nat.le_refl _)
  replace hp := hp.below hn (Nat.le_refl _)
  replace hq := hq.below hn (Nat.le_refl _)
  replace hz1 := hz1.below hn (Nat.le_refl _)
  replace hz2 := hz2.below hn (Nat.le_refl _)
  replace h1 := h1.below hn (Nat.le_refl _)
  replace h2 := h2.below hn (Nat.le_refl _)
  replace g1 := g1.below hn (Nat.le_refl _)
  replace hb := hb.trans (hn.mono hb.size)
  clear hn
  intro K hK
  have kb_5 := hb.size
  go_big_op
  go_fit (signed_z _ h2 E2.out)
  rintro e w_5 ⟨v2, rfl, g2, hb_5⟩
  replace hx := hx.below hb_5 (Nat.le_refl _)
  replace hy := hy.below hb_5 (Nat.le_refl _)
  replace hp := hp.below hb_5 (Nat.le_refl _)
  replace hq := hq.below hb_5 (Nat.le_refl _)
  replace hz1 := hz1.below hb_5 (Nat.le_refl _)
  replace hz2 := hz2.below hb_5 (Nat.le_refl _)
  replace h1 := h1.below hb_5 (Nat.le_refl _)
  replace h2 := h2.below hb_5 (Nat.le_refl _)
  replace g1 := g1.below hb_5 (Nat.le_refl _)
  replace hb := hb.trans (hb_5.mono hb.size)
  refine hK _ _ rfl hb_5 ⟨hp.facts.1, hp.facts.2.1, hq.facts.1, hq.facts.2.1⟩ ?_
  clear hK K hb_5
  clear h1
  clear h2
  apply wpFl_end
  case ha => intro pt; simp only [putF]; rfl
  case h =>
  intro w_6 pt hn hC hF hD
  clear hC
  replace hx := hx.below hn (Nat.le_refl _)
  replace hy := hy.below hn (Nat.le_refl _)
  replace hp := hp.below hn (Nat.le_refl _)
  replace hq := hq.below hn (Nat.le_refl _)
  replace hz1 := hz1.below hn (Nat.le_refl _)
  replace hz2 := hz2.below hn (Nat.le_refl _)
  replace g1 := g1.below hn (Nat.le_refl _)
  replace g2 := g2.below hn (Nat.le_refl _)
  replace hb := hb.trans (hn.mono hb.size)
  clear hn
  clear hF hD
  clear lt_hp
  clear lt_hq
  clear lt_hz1
  clear lt_hz2
  clear kb0
  obtain ⟨sb_hz1, o_hz1, n_hz1, c_hz1, rfl⟩ := g1.open2
  apply wpTail_call
  case hi => rfl
  case hw => kernel_rfl
  case h =>
  intro K hK
  have c9_ := hz1.facts
  go_big_op
  have ho := Bk.only w_6 (w.heap.size + 1 + 1) sb_hz1 (.slice o_hz1 n_hz1 c_hz1)
  have hbx_ := hz1.bx
  replace hx := hx.frame hbx_ ho
  replace hy := hy.frame hbx_ ho
  replace hp := hp.frame ho (by first | assumption | (apply Ne.symm; assumption) | (simp; done) | omega)
  replace hq := hq.frame ho (by first | assumption | (apply Ne.symm; assumption) | (simp; done) | omega)
  replace hz2 := hz2.frame ho (by first | assumption | (apply Ne.symm; assumption) | (simp; done) | omega)
  replace g1 := g1.frame hbx_ ho
  replace g2 := g2.frame hbx_ ho
  replace hz1 := hz1.store sb_hz1 (.slice o_hz1 n_hz1 c_hz1)
  replace hb := (hb.setCell (p := ⟨w.heap.size + 1 + 1, 0, none⟩) (show w.heap.size ≤ w.heap.size + 1 + 1 by first | assumption | (simp; done) | omega) (.bool sb_hz1)).setCell (p := ⟨w.heap.size + 1 + 1, 1, none⟩) (show w.heap.size ≤ w.heap.size + 1 + 1 by first | assumption | (simp; done) | omega) (.slice o_hz1 n_hz1 c_hz1)
  refine hK _ _ rfl (And.intro (And.intro hp.facts.1 hp.facts.2.1) (And.intro (And.intro hq.facts.1 hq.facts.2.1) True.intro)) ?_
  clear hK K hbx_ ho c9_
  obtain ⟨sb_hz2, o_hz2, n_hz2, c_hz2, rfl⟩ := g2.open2
  apply wpTail_call
  case hi => rfl
  case hw => kernel_rfl
  case h =>
  intro K hK
  have c9_ := hz2.facts
  go_big_op
  have ho := Bk.only ((w_6.setCell ⟨w.heap.size + 1 + 1, 0, none⟩ (.bool sb_hz1)).setCell ⟨w.heap.size + 1 + 1, 1, none⟩ (.slice o_hz1 n_hz1 c_hz1)) (w.heap.size + 1 + 1 + 1) sb_hz2 (.slice o_hz2 n_hz2 c_hz2)
  have hbx_ := hz2.bx
  replace hx := hx.frame hbx_ ho
  replace hy := hy.frame hbx_ ho
  replace hp := hp.frame ho (by first | assumption | (apply Ne.symm; assumption) | (simp; done) | omega)
  replace hq := hq.frame ho (by first | assumption | (apply Ne.symm; assumption) | (simp; done) | omega)
  replace hz1 := hz1.frame ho (by first | assumption | (apply Ne.symm; assumption) | (simp; done) | omega)
  replace g1 := g1.frame hbx_ ho
  replace g2 := g2.frame hbx_ ho
  replace hz2 := hz2.store sb_hz2 (.slice o_hz2 n_hz2 c_hz2)
  replace hb := (hb.setCell (p := ⟨w.heap.size + 1 + 1 + 1, 0, none⟩) (show w.heap.size ≤ w.heap.size + 1 + 1 + 1 by first | assumption | (simp; done) | omega) (.bool sb_hz2)).setCell (p := ⟨w.heap.size + 1 + 1 + 1, 1, none⟩) (show w.heap.size ≤ w.heap.size + 1 + 1 + 1 by first | assumption | (simp; done) | omega) (.slice o_hz2 n_hz2 c_hz2)
  refine hK _ _ rfl (And.intro (And.intro hp.facts.1 hp.facts.2.1) (And.intro (And.intro hq.facts.1 hq.facts.2.1) True.intro)) ?_
  clear hK K hbx_ ho c9_
  apply wpTail_end
  have f_hp := hp.facts
  have f_hq := hq.facts
  have f_hz1 := hz1.facts
  have f_hz2 := hz2.facts
  go_wp2_with fail
  refine (zsign_any (g2.zn LR.out) (by decide)).mono ?_
  rintro e w_7 ⟨rfl, hb_7⟩
  replace hx := hx.below hb_7 (Nat.le_refl _)
  replace hy := hy.below hb_7 (Nat.le_refl _)
  replace hp := hp.below hb_7 (Nat.le_refl _)
  replace hq := hq.below hb_7 (Nat.le_refl _)
  replace hz1 := hz1.below hb_7 (Nat.le_refl _)
  replace hz2 := hz2.below hb_7 (Nat.le_refl _)
  replace g1 := g1.below hb_7 (Nat.le_refl _)
  replace g2 := g2.below hb_7 (Nat.le_refl _)
  replace hb := hb.trans (hb_7.mono hb.size)
  clear hb_7
  rw [HS.out]
  clear f_hp f_hq f_hz1 f_hz2
  replace hx := hx.drew
  replace hy := hy.drew
  replace hp := hp.drew
  replace hq := hq.drew
  replace hz1 := hz1.drew
  replace hz2 := hz2.drew
  replace g1 := g1.drew
  replace g2 := g2.drew
  replace hb := hb.drew
  have lt_hp := hp.lt
  have lt_hq := hq.lt
  have lt_hz1 := hz1.lt
  have lt_hz2 := hz2.lt
  have kb0 := hb.size
  go_wp2_with fail
  refine wp_region_fl [(0, false), (1, false)] [2, 3, 4] [] (fun _ => obZ) [0, 1, 99, 99, 99] [(2, 0), (3, 0), (3, 1)] (fun w' => w'.cell? ⟨w.heap.size + 1 + 1, 0, none⟩ = some (.bool sb_hz1) ∧ w'.cell? ⟨w.heap.size + 1 + 1, 1, none⟩ = some (.slice o_hz1 n_hz1 c_hz1) ∧ w'.cell? ⟨w.heap.size + 1 + 1 + 1, 0, none⟩ = some (.bool sb_hz2) ∧ w'.cell? ⟨w.heap.size + 1 + 1 + 1, 1, none⟩ = some (.slice o_hz2 n_hz2 c_hz2)) [fun w' => w'.cell? ⟨w.heap.size + 1 + 1, 0, none⟩ = some (.bool sb_hz1) ∧ w'.cell? ⟨w.heap.size + 1 + 1, 1, none⟩ = some (.slice o_hz1 n_hz1 c_hz1), fun w' => w'.cell? ⟨w.heap.size + 1 + 1 + 1, 0, none⟩ = some (.bool sb_hz2) ∧ w'.cell? ⟨w.heap.size + 1 + 1 + 1, 1, none⟩ = some (.slice o_hz2 n_hz2 c_hz2)] (by kernel_rfl) (by kernel_rfl) (by kernel_rfl) (by kernel_rfl) (by kernel_rfl) (by kernel_rfl) (by kernel_rfl) (by kernel_rfl) (by decide) (by intro j hj; cases hj) (by intro w' o hC; obtain ⟨c0, c1, c2, c3⟩ := hC; exact ⟨cell_alloc c0 o, cell_alloc c1 o, cell_alloc c2 o, cell_alloc c3 o⟩) (by intro w' hC G hG; obtain ⟨c0, c1, c2, c3⟩ := hC; simp only [List.mem_cons, List.not_mem_nil, or_false] at hG; rcases hG with rfl | rfl <;> first | exact ⟨c0, c1⟩ | exact ⟨c2, c3⟩) ⟨hz1.facts.1, hz1.facts.2.1, hz2.facts.1, hz2.facts.2.1⟩ ?_
  apply wpFl_ld
  case hG => rfl
  case hi => rfl
  case h1 => intro w' hC K hK; obtain ⟨c0, c1⟩ := hC; (first | go_big_move | go_big_op); exact hK
  case hw => kernel_rfl
  case hv => kernel_rfl
  case hb => kernel_rfl
  case hp => kernel_rfl
  apply wpFl_ld
  case hG => rfl
  case hi => rfl
  case h1 => intro w' hC K hK; obtain ⟨c0, c1⟩ := hC; (first | go_big_move | go_big_op); exact hK
  case hw => kernel_rfl
  case hv => kernel_rfl
  case hb => kernel_rfl
  case hp => kernel_rfl
  apply wpFl_end
  case ha => intro pt; simp only [putF]; rfl
  case h =>
  intro w_8 pt hn hC hF hD
  clear hC
  replace hx := hx.below hn (Nat.le_refl _)
  replace hy := hy.below hn (Nat.le_refl _)
  replace hp := hp.below hn (Nat.le_refl _)
  replace hq := hq.below hn (Nat.le_refl _)
  replace hz1 := hz1.below hn (Nat.le_refl _)
  replace hz2 := hz2.below hn (Nat.le_refl _)
  replace g1 := g1.below hn (Nat.le_refl _)
  replace g2 := g2.below hn (Nat.le_refl _)
  replace hb := hb.trans (hn.mono hb.size)
  clear hn
  clear hF hD
  clear lt_hp
  clear lt_hq
  clear lt_hz1
  clear lt_hz2
  clear kb0
  apply wpTail_call
  case hi => rfl
  case hw => kernel_rfl
  case h =>
  intro K hK
  have c9_ := hz1.facts
  go_big_op
  have ho := Bk.only w_8 (w.heap.size + 1 + 1) sb_hz1 (.slice o_hz1 n_hz1 c_hz1)
  have hbx_ := hz1.bx
  replace hx := hx.frame hbx_ ho
  replace hy := hy.frame hbx_ ho
  replace hp := hp.frame ho (by first | assumption | (apply Ne.symm; assumption) | (simp; done) | omega)
  replace hq := hq.frame ho (by first | assumption | (apply Ne.symm; assumption) | (simp; done) | omega)
  replace hz2 := hz2.frame ho (by first | assumption | (apply Ne.symm; assumption) | (simp; done) | omega)
  replace g1 := g1.frame hbx_ ho
  replace g2 := g2.frame hbx_ ho
  replace hz1 := hz1.store sb_hz1 (.slice o_hz1 n_hz1 c_hz1)
  replace hb := (hb.setCell (p := ⟨w.heap.size + 1 + 1, 0, none⟩) (show w.heap.size ≤ w.heap.size + 1 + 1 by first | assumption | (simp; done) | omega) (.bool sb_hz1)).setCell (p := ⟨w.heap.size + 1 + 1, 1, none⟩) (show w.heap.size ≤ w.heap.size + 1 + 1 by first | assumption | (simp; done) | omega) (.slice o_hz1 n_hz1 c_hz1)
  refine hK _ _ rfl (And.intro True.intro (And.intro (And.intro hz2.facts.1 hz2.facts.2.1) True.intro)) ?_
  clear hK K hbx_ ho c9_
  apply wpTail_call
  case hi => rfl
  case hw => kernel_rfl
  case h =>
  intro K hK
  have c9_ := hz2.facts
  go_big_op
  have ho := Bk.only ((w_8.setCell ⟨w.heap.size + 1 + 1, 0, none⟩ (.bool sb_hz1)).setCell ⟨w.heap.size + 1 + 1, 1, none⟩ (.slice o_hz1 n_hz1 c_hz1)) (w.heap.size + 1 + 1 + 1) sb_hz2 (.slice o_hz2 n_hz2 c_hz2)
  have hbx_ := hz2.bx
  replace hx := hx.frame hbx_ ho
  replace hy := hy.frame hbx_ ho
  replace hp := hp.frame ho (by first | assumption | (apply Ne.symm; assumption) | (simp; done) | omega)
  replace hq := hq.frame ho (by first | assumption | (apply Ne.symm; assumption) | (simp; done) | omega)
  replace hz1 := hz1.frame ho (by first | assumption | (apply Ne.symm; assumption) | (simp; done) | omega)
  replace g1 := g1.frame hbx_ ho
  replace g2 := g2.frame hbx_ ho
  replace hz2 := hz2.store sb_hz2 (.slice o_hz2 n_hz2 c_hz2)
  replace hb := (hb.setCell (p := ⟨w.heap.size + 1 + 1 + 1, 0, none⟩) (show w.heap.size ≤ w.heap.size + 1 + 1 + 1 by first | assumption | (simp; done) | omega) (.bool sb_hz2)).setCell (p := ⟨w.heap.size + 1 + 1 + 1, 1, none⟩) (show w.heap.size ≤ w.heap.size + 1 + 1 + 1 by first | assumption | (simp; done) | omega) (.slice o_hz2 n_hz2 c_hz2)
  refine hK _ _ rfl (And.intro True.intro (And.intro True.intro True.intro)) ?_
  clear hK K hbx_ ho c9_
  apply wpTail_move
  case hi => rfl
  case hw => kernel_rfl
  case h =>
  intro K hK
  go_big_move
  refine hK _ _ rfl rfl ?_
  clear hK K
  apply wpTail_end
  have f1 := hz1.facts
  have f2 := hz2.facts
  go_wp2
  refine bodyPost_ret (v := .tuple #[.agg #[.bool sb_hz1, .slice o_hz1 n_hz1 c_hz1], .agg #[.bool sb_hz2, .slice o_hz2 n_hz2 c_hz2], .int .i64 0]) (by simp [results, Tryz.results93, go_sem, f1.1, f1.2.1, f2.1, f2.2.1]) rfl ?_
  exact ⟨_, _, rfl, g1.mono (by simp; omega), g2.mono (by simp; omega), hb⟩
set_option maxHeartbeats 4000000 in
set_option maxRecDepth 20000 in
/-- The same, of one sign. -/
theorem fdiv_plain2 {w : World} {oa ob : Option Addr} {ca cb : Nat} {xs ys : List Nat} {na nb : Bool} (hx : Rd w (.slice oa xs.length ca) xs) (hy : Rd w (.slice ob ys.length cb) ys)
    (hxl : xs.length ≤ 400000000) (hyl : ys.length ≤ 400000000) (h0 : val ys ≠ 0) (h : val xs % val ys ≠ 0) (hd : (na != nb) = false) :
    Calls Tryz.prog 93 #[.agg #[.bool na, .slice oa xs.length ca], .agg #[.bool nb, .slice ob ys.length cb]] w fun e w' => ∃ v1 v2, e = .returned (.tuple #[v1, v2, .int .i64 0]) ∧
      ZO w' w.heap.size v1 ((zv na xs).fdiv (zv nb ys)) ∧ ZO w' w.heap.size v2 ((zv na xs).fmod (zv nb ys)) ∧ Below w.heap.size w w' := by
  have hf := floor_plain (na := na) (nb := nb) (xs := xs) h0 (.inr hd)
  rw [hf.1, hf.2]
  have LR := hide (show (dig (fr na (val xs) (val ys)).natAbs).length ≤ 400000000 from fr_len na h0 (dig_length_le (Nat.lt_of_lt_of_le (val_lt hy.ok) (pw_mono hyl))))
  obtain ⟨S, hS⟩ : ∃ S, (fr na (val xs) (val ys)).sign = S := ⟨_, rfl⟩
  have HS := hide hS
  have hS0 : (S == 0) = false := by rw [beq_eq_false_iff_ne, ← hS]; exact fun h2 => h ((fr_sign na).1 h2)
  have hS1 : (S != 0) = true := by rw [bne, hS0]; rfl
  clear hS
  have H0 := hide h0
  have hbn : (!(na == nb)) = false := hd
  have e0 : ((0 : Int) == 0) = true := rfl
  have hbn2 : (na == nb) = true := by revert hd; cases na <;> cases nb <;> decide
  have E1 := hide (show (if false = true then -((val xs / val ys : Nat) : Int) else ((val xs / val ys : Nat) : Int)) = fq na nb (val xs) (val ys) by unfold fq; rw [hd])
  have E2 := hide (show (if na = true then -((val xs % val ys : Nat) : Int) else ((val xs % val ys : Nat) : Int)) = fr na (val xs) (val ys) from rfl)
  clear hf h h0 hd
  go_enter Tryz.func93, Tryz.ntmps93
  have hb := Below.refl w.heap.size w
  have hp := Bk.new w na (.slice oa xs.length ca)
  replace hx := hx.alloc (.cells #[.bool na, (.slice oa xs.length ca)] 26)
  replace hy := hy.alloc (.cells #[.bool na, (.slice oa xs.length ca)] 26)
  replace hb := hb.alloc hb.size (.cells #[.bool na, (.slice oa xs.length ca)] 26)
  have hq := Bk.new (w.alloc (.cells #[.bool na, (.slice oa xs.length ca)] 26)) nb (.slice ob ys.length cb)
  simp only [Bk.size_alloc] at hq
  replace hx := hx.alloc (.cells #[.bool nb, (.slice ob ys.length cb)] 26)
  replace hy := hy.alloc (.cells #[.bool nb, (.slice ob ys.length cb)] 26)
  replace hp := hp.alloc (.cells #[.bool nb, (.slice ob ys.length cb)] 26)
  replace hb := hb.alloc hb.size (.cells #[.bool nb, (.slice ob ys.length cb)] 26)
  have hz1 := Bk.new ((w.alloc (.cells #[.bool na, (.slice oa xs.length ca)] 26)).alloc (.cells #[.bool nb, (.slice ob ys.length cb)] 26)) false (.slice none 0 0)
  simp only [Bk.size_alloc] at hz1
  replace hx := hx.alloc (.cells #[.bool false, (.slice none 0 0)] 26)
  replace hy := hy.alloc (.cells #[.bool false, (.slice none 0 0)] 26)
  replace hp := hp.alloc (.cells #[.bool false, (.slice none 0 0)] 26)
  replace hq := hq.alloc (.cells #[.bool false, (.slice none 0 0)] 26)
  replace hb := hb.alloc hb.size (.cells #[.bool false, (.slice none 0 0)] 26)
  have hz2 := Bk.new (((w.alloc (.cells #[.bool na, (.slice oa xs.length ca)] 26)).alloc (.cells #[.bool nb, (.slice ob ys.length cb)] 26)).alloc (.cells #[.bool false, (.slice none 0 0)] 26)) false (.slice none 0 0)
  simp only [Bk.size_alloc] at hz2
  replace hx := hx.alloc (.cells #[.bool false, (.slice none 0 0)] 26)
  replace hy := hy.alloc (.cells #[.bool false, (.slice none 0 0)] 26)
  replace hp := hp.alloc (.cells #[.bool false, (.slice none 0 0)] 26)
  replace hq := hq.alloc (.cells #[.bool false, (.slice none 0 0)] 26)
  replace hz1 := hz1.alloc (.cells #[.bool false, (.slice none 0 0)] 26)
  replace hb := hb.alloc hb.size (.cells #[.bool false, (.slice none 0 0)] 26)
  have f_hp := hp.facts
  have f_hq := hq.facts
  go_wp2_with fail
  refine (divMod_pos hx hy H0.out (by omega) (by omega)).mono ?_
  rintro e w_1 ⟨s1, s2, rfl, h1, h2, -, hb_1⟩
  replace hx := hx.below hb_1 (Nat.le_refl _)
  replace hy := hy.below hb_1 (Nat.le_refl _)
  replace hp := hp.below hb_1 (Nat.le_refl _)
  replace hq := hq.below hb_1 (Nat.le_refl _)
  replace hz1 := hz1.below hb_1 (Nat.le_refl _)
  replace hz2 := hz2.below hb_1 (Nat.le_refl _)
  replace hb := hb.trans (hb_1.mono hb.size)
  clear hb_1
  clear f_hp f_hq
  replace hx := hx.drew
  replace hy := hy.drew
  replace hp := hp.drew
  replace hq := hq.drew
  replace hz1 := hz1.drew
  replace hz2 := hz2.drew
  replace h1 := h1.drew
  replace h2 := h2.drew
  replace hb := hb.drew
  have lt_hp := hp.lt
  have lt_hq := hq.lt
  have lt_hz1 := hz1.lt
  have lt_hz2 := hz2.lt
  have kb0 := hb.size
  go_wp2_with fail
  refine wp_region_fl [(0, false), (1, false), (2, false), (3, false), (4, false), (5, false), (7, false), (8, false), (9, false), (6, true), (10, true)] [11, 12] [] (fun _ => obZ) [99, 0, 99, 1, 99, 99, 99, 99, 0, 99, 99, 99, 99] [] (fun w' => w'.cell? ⟨w.heap.size, 0, none⟩ = some (.bool na) ∧ w'.cell? ⟨w.heap.size, 1, none⟩ = some (.slice oa xs.length ca) ∧ w'.cell? ⟨w.heap.size + 1, 0, none⟩ = some (.bool nb) ∧ w'.cell? ⟨w.heap.size + 1, 1, none⟩ = some (.slice ob ys.length cb)) [fun w' => w'.cell? ⟨w.heap.size, 0, none⟩ = some (.bool na) ∧ w'.cell? ⟨w.heap.size, 1, none⟩ = some (.slice oa xs.length ca), fun w' => w'.cell? ⟨w.heap.size + 1, 0, none⟩ = some (.bool nb) ∧ w'.cell? ⟨w.heap.size + 1, 1, none⟩ = some (.slice ob ys.length cb)] (by kernel_rfl) (by kernel_rfl) (by kernel_rfl) (by kernel_rfl) (by kernel_rfl) (by kernel_rfl) (by kernel_rfl) (by kernel_rfl) (by decide) (by intro j hj; cases hj) (by intro w' o hC; obtain ⟨c0, c1, c2, c3⟩ := hC; exact ⟨cell_alloc c0 o, cell_alloc c1 o, cell_alloc c2 o, cell_alloc c3 o⟩) (by intro w' hC G hG; obtain ⟨c0, c1, c2, c3⟩ := hC; simp only [List.mem_cons, List.not_mem_nil, or_false] at hG; rcases hG with rfl | rfl <;> first | exact ⟨c0, c1⟩ | exact ⟨c2, c3⟩) ⟨hp.facts.1, hp.facts.2.1, hq.facts.1, hq.facts.2.1⟩ ?_
  apply wpFl_ld
  case hG => rfl
  case hi => rfl
  case h1 => intro w' hC K hK; clear hC; (first | go_big_move | go_big_op); exact hK
  case hw => kernel_rfl
  case hv => kernel_rfl
  case hb => kernel_rfl
  case hp => kernel_rfl
  apply wpFl_ld
  case hG => rfl
  case hi => rfl
  case h1 => intro w' hC K hK; obtain ⟨c0, c1⟩ := hC; (first | go_big_move | go_big_op); exact hK
  case hw => kernel_rfl
  case hv => kernel_rfl
  case hb => kernel_rfl
  case hp => kernel_rfl
  apply wpFl_ld
  case hG => rfl
  case hi => rfl
  case h1 => intro w' hC K hK; clear hC; (first | go_big_move | go_big_op); exact hK
  case hw => kernel_rfl
  case hv => kernel_rfl
  case hb => kernel_rfl
  case hp => kernel_rfl
  apply wpFl_ld
  case hG => rfl
  case hi => rfl
  case h1 => intro w' hC K hK; obtain ⟨c0, c1⟩ := hC; (first | go_big_move | go_big_op); exact hK
  case hw => kernel_rfl
  case hv => kernel_rfl
  case hb => kernel_rfl
  case hp => kernel_rfl
  apply wpFl_ld
  case hG => rfl
  case hi => rfl
  case h1 => intro w' hC K hK; clear hC; (first | go_big_move | go_big_op); exact hK
  case hw => kernel_rfl
  case hv => kernel_rfl
  case hb => kernel_rfl
  case hp => kernel_rfl
  apply wpFl_ld
  case hG => rfl
  case hi => rfl
  case h1 => intro w' hC K hK; clear hC; (first | go_big_move | go_big_op); exact hK
  case hw => kernel_rfl
  case hv => kernel_rfl
  case hb => kernel_rfl
  case hp => kernel_rfl
  apply wpFl_ld
  case hG => rfl
  case hi => rfl
  case h1 => intro w' hC K hK; clear hC; (first | go_big_move | go_big_op); exact hK
  case hw => kernel_rfl
  case hv => kernel_rfl
  case hb => kernel_rfl
  case hp => kernel_rfl
  apply wpFl_ld
  case hG => rfl
  case hi => rfl
  case h1 => intro w' hC K hK; obtain ⟨c0, c1⟩ := hC; (first | go_big_move | go_big_op); exact hK
  case hw => kernel_rfl
  case hv => kernel_rfl
  case hb => kernel_rfl
  case hp => kernel_rfl
  apply wpFl_ld
  case hG => rfl
  case hi => rfl
  case h1 => intro w' hC K hK; clear hC; (first | go_big_move | go_big_op); exact hK
  case hw => kernel_rfl
  case hv => kernel_rfl
  case hb => kernel_rfl
  case hp => kernel_rfl
  apply wpFl_call
  case hi => rfl
  case hw => kernel_rfl
  case h =>
  intro w_2 hn hC
  clear hC
  replace hx := hx.below hn (Nat.le_refl _)
  replace hy := hy.below hn (Nat.le_refl _)
  replace hp := hp.below hn (Nat.le_refl _)
  replace hq := hq.below hn (Nat.le_refl _)
  replace hz1 := hz1.below hn (Nat.le_refl _)
  replace hz2 := hz2.below hn (Nat.le_refl _)
  replace h1 := h1.below hn (Nat.le_refl _)
  replace h2 := h2.below hn (Nat.le_refl _)
  replace hb := hb.trans (hn.mono hb.size)
  clear hn
  intro K hK
  have kb_3 := hb.size
  go_big_op
  go_fit (signed_z _ h1 E1.out)
  rintro e w_3 ⟨v1, rfl, g1, hb_3⟩
  replace hx := hx.below hb_3 (Nat.le_refl _)
  replace hy := hy.below hb_3 (Nat.le_refl _)
  replace hp := hp.below hb_3 (Nat.le_refl _)
  replace hq := hq.below hb_3 (Nat.le_refl _)
  replace hz1 := hz1.below hb_3 (Nat.le_refl _)
  replace hz2 := hz2.below hb_3 (Nat.le_refl _)
  replace h1 := h1.below hb_3 (Nat.le_refl _)
  replace h2 := h2.below hb_3 (Nat.le_refl _)
  replace hb := hb.trans (hb_3.mono hb.size)
  refine hK _ _ rfl hb_3 ⟨hp.facts.1, hp.facts.2.1, hq.facts.1, hq.facts.2.1⟩ ?_
  clear hK K hb_3
  apply wpFl_call
  case hi => rfl
  case hw => kernel_rfl
  case h =>
  intro w_4 hn hC
  clear hC
  replace hx := hx.below hn (Nat.le_refl _)
  replace hy := hy.below hn (Nat.le_refl _)
  replace hp := hp.below hn (Nat.le_refl _)
  replace hq := hq.below hn (Nat.le_refl _)
  replace hz1 := hz1.below hn (Nat.le_refl _)
  replace hz2 := hz2.below hn (Nat.le_refl _)
  replace h1 := h1.below hn (Nat.le_refl _)
  replace h2 := h2.below hn (Nat.le_refl _)
  replace g1 := g1.below hn (Nat.le_refl _)
  replace hb := hb.trans (hn.mono hb.size)
  clear hn
  intro K hK
  have kb_5 := hb.size
  go_big_op
  go_fit (signed_z _ h2 E2.out)
  rintro e w_5 ⟨v2, rfl, g2, hb_5⟩
  replace hx := hx.below hb_5 (Nat.le_refl _)
  replace hy := hy.below hb_5 (Nat.le_refl _)
  replace hp := hp.below hb_5 (Nat.le_refl _)
  replace hq := hq.below hb_5 (Nat.le_refl _)
  replace hz1 := hz1.below hb_5 (Nat.le_refl _)
  replace hz2 := hz2.below hb_5 (Nat.le_refl _)
  replace h1 := h1.below hb_5 (Nat.le_refl _)
  replace h2 := h2.below hb_5 (Nat.le_refl _)
  replace g1 := g1.below hb_5 (Nat.le_refl _)
  replace hb := hb.trans (hb_5.mono hb.size)
  refine hK _ _ rfl hb_5 ⟨hp.facts.1, hp.facts.2.1, hq.facts.1, hq.facts.2.1⟩ ?_
  clear hK K hb_5
  clear h1
  clear h2
  apply wpFl_end
  case ha => intro pt; simp only [putF]; rfl
  case h =>
  intro w_6 pt hn hC hF hD
  clear hC
  replace hx := hx.below hn (Nat.le_refl _)
  replace hy := hy.below hn (Nat.le_refl _)
  replace hp := hp.below hn (Nat.le_refl _)
  replace hq := hq.below hn (Nat.le_refl _)
  replace hz1 := hz1.below hn (Nat.le_refl _)
  replace hz2 := hz2.below hn (Nat.le_refl _)
  replace g1 := g1.below hn (Nat.le_refl _)
  replace g2 := g2.below hn (Nat.le_refl _)
  replace hb := hb.trans (hn.mono hb.size)
  clear hn
  clear hF hD
  clear lt_hp
  clear lt_hq
  clear lt_hz1
  clear lt_hz2
  clear kb0
  obtain ⟨sb_hz1, o_hz1, n_hz1, c_hz1, rfl⟩ := g1.open2
  apply wpTail_call
  case hi => rfl
  case hw => kernel_rfl
  case h =>
  intro K hK
  have c9_ := hz1.facts
  go_big_op
  have ho := Bk.only w_6 (w.heap.size + 1 + 1) sb_hz1 (.slice o_hz1 n_hz1 c_hz1)
  have hbx_ := hz1.bx
  replace hx := hx.frame hbx_ ho
  replace hy := hy.frame hbx_ ho
  replace hp := hp.frame ho (by first | assumption | (apply Ne.symm; assumption) | (simp; done) | omega)
  replace hq := hq.frame ho (by first | assumption | (apply Ne.symm; assumption) | (simp; done) | omega)
  replace hz2 := hz2.frame ho (by first | assumption | (apply Ne.symm; assumption) | (simp; done) | omega)
  replace g1 := g1.frame hbx_ ho
  replace g2 := g2.frame hbx_ ho
  replace hz1 := hz1.store sb_hz1 (.slice o_hz1 n_hz1 c_hz1)
  replace hb := (hb.setCell (p := ⟨w.heap.size + 1 + 1, 0, none⟩) (show w.heap.size ≤ w.heap.size + 1 + 1 by first | assumption | (simp; done) | omega) (.bool sb_hz1)).setCell (p := ⟨w.heap.size + 1 + 1, 1, none⟩) (show w.heap.size ≤ w.heap.size + 1 + 1 by first | assumption | (simp; done) | omega) (.slice o_hz1 n_hz1 c_hz1)
  refine hK _ _ rfl (And.intro (And.intro hp.facts.1 hp.facts.2.1) (And.intro (And.intro hq.facts.1 hq.facts.2.1) True.intro)) ?_
  clear hK K hbx_ ho c9_
  obtain ⟨sb_hz2, o_hz2, n_hz2, c_hz2, rfl⟩ := g2.open2
  apply wpTail_call
  case hi => rfl
  case hw => kernel_rfl
  case h =>
  intro K hK
  have c9_ := hz2.facts
  go_big_op
  have ho := Bk.only ((w_6.setCell ⟨w.heap.size + 1 + 1, 0, none⟩ (.bool sb_hz1)).setCell ⟨w.heap.size + 1 + 1, 1, none⟩ (.slice o_hz1 n_hz1 c_hz1)) (w.heap.size + 1 + 1 + 1) sb_hz2 (.slice o_hz2 n_hz2 c_hz2)
  have hbx_ := hz2.bx
  replace hx := hx.frame hbx_ ho
  replace hy := hy.frame hbx_ ho
  replace hp := hp.frame ho (by first | assumption | (apply Ne.symm; assumption) | (simp; done) | omega)
  replace hq := hq.frame ho (by first | assumption | (apply Ne.symm; assumption) | (simp; done) | omega)
  replace hz1 := hz1.frame ho (by first | assumption | (apply Ne.symm; assumption) | (simp; done) | omega)
  replace g1 := g1.frame hbx_ ho
  replace g2 := g2.frame hbx_ ho
  replace hz2 := hz2.store sb_hz2 (.slice o_hz2 n_hz2 c_hz2)
  replace hb := (hb.setCell (p := ⟨w.heap.size + 1 + 1 + 1, 0, none⟩) (show w.heap.size ≤ w.heap.size + 1 + 1 + 1 by first | assumption | (simp; done) | omega) (.bool sb_hz2)).setCell (p := ⟨w.heap.size + 1 + 1 + 1, 1, none⟩) (show w.heap.size ≤ w.heap.size + 1 + 1 + 1 by first | assumption | (simp; done) | omega) (.slice o_hz2 n_hz2 c_hz2)
  refine hK _ _ rfl (And.intro (And.intro hp.facts.1 hp.facts.2.1) (And.intro (And.intro hq.facts.1 hq.facts.2.1) True.intro)) ?_
  clear hK K hbx_ ho c9_
  apply wpTail_end
  have f_hp := hp.facts
  have f_hq := hq.facts
  have f_hz1 := hz1.facts
  have f_hz2 := hz2.facts
  go_wp2_with fail
  refine (zsign_any (g2.zn LR.out) (by decide)).mono ?_
  rintro e w_7 ⟨rfl, hb_7⟩
  replace hx := hx.below hb_7 (Nat.le_refl _)
  replace hy := hy.below hb_7 (Nat.le_refl _)
  replace hp := hp.below hb_7 (Nat.le_refl _)
  replace hq := hq.below hb_7 (Nat.le_refl _)
  replace hz1 := hz1.below hb_7 (Nat.le_refl _)
  replace hz2 := hz2.below hb_7 (Nat.le_refl _)
  replace g1 := g1.below hb_7 (Nat.le_refl _)
  replace g2 := g2.below hb_7 (Nat.le_refl _)
  replace hb := hb.trans (hb_7.mono hb.size)
  clear hb_7
  rw [HS.out]
  clear f_hp f_hq f_hz1 f_hz2
  have f_hp := hp.facts
  have f_hq := hq.facts
  replace hx := hx.drew
  replace hy := hy.drew
  replace hp := hp.drew
  replace hq := hq.drew
  replace hz1 := hz1.drew
  replace hz2 := hz2.drew
  replace g1 := g1.drew
  replace g2 := g2.drew
  replace hb := hb.drew
  have lt_hp := hp.lt
  have lt_hq := hq.lt
  have lt_hz1 := hz1.lt
  have lt_hz2 := hz2.lt
  have kb0 := hb.size
  go_wp2_with fail
  refine wp_region_fl [(0, false), (1, false)] [2, 3, 4] [] (fun _ => obZ) [0, 1, 99, 99, 99] [(2, 0), (3, 0), (3, 1)] (fun w' => w'.cell? ⟨w.heap.size + 1 + 1, 0, none⟩ = some (.bool sb_hz1) ∧ w'.cell? ⟨w.heap.size + 1 + 1, 1, none⟩ = some (.slice o_hz1 n_hz1 c_hz1) ∧ w'.cell? ⟨w.heap.size + 1 + 1 + 1, 0, none⟩ = some (.bool sb_hz2) ∧ w'.cell? ⟨w.heap.size + 1 + 1 + 1, 1, none⟩ = some (.slice o_hz2 n_hz2 c_hz2)) [fun w' => w'.cell? ⟨w.heap.size + 1 + 1, 0, none⟩ = some (.bool sb_hz1) ∧ w'.cell? ⟨w.heap.size + 1 + 1, 1, none⟩ = some (.slice o_hz1 n_hz1 c_hz1), fun w' => w'.cell? ⟨w.heap.size + 1 + 1 + 1, 0, none⟩ = some (.bool sb_hz2) ∧ w'.cell? ⟨w.heap.size + 1 + 1 + 1, 1, none⟩ = some (.slice o_hz2 n_hz2 c_hz2)] (by kernel_rfl) (by kernel_rfl) (by kernel_rfl) (by kernel_rfl) (by kernel_rfl) (by kernel_rfl) (by kernel_rfl) (by kernel_rfl) (by decide) (by intro j hj; cases hj) (by intro w' o hC; obtain ⟨c0, c1, c2, c3⟩ := hC; exact ⟨cell_alloc c0 o, cell_alloc c1 o, cell_alloc c2 o, cell_alloc c3 o⟩) (by intro w' hC G hG; obtain ⟨c0, c1, c2, c3⟩ := hC; simp only [List.mem_cons, List.not_mem_nil, or_false] at hG; rcases hG with rfl | rfl <;> first | exact ⟨c0, c1⟩ | exact ⟨c2, c3⟩) ⟨hz1.facts.1, hz1.facts.2.1, hz2.facts.1, hz2.facts.2.1⟩ ?_
  apply wpFl_ld
  case hG => rfl
  case hi => rfl
  case h1 => intro w' hC K hK; obtain ⟨c0, c1⟩ := hC; (first | go_big_move | go_big_op); exact hK
  case hw => kernel_rfl
  case hv => kernel_rfl
  case hb => kernel_rfl
  case hp => kernel_rfl
  apply wpFl_ld
  case hG => rfl
  case hi => rfl
  case h1 => intro w' hC K hK; obtain ⟨c0, c1⟩ := hC; (first | go_big_move | go_big_op); exact hK
  case hw => kernel_rfl
  case hv => kernel_rfl
  case hb => kernel_rfl
  case hp => kernel_rfl
  apply wpFl_end
  case ha => intro pt; simp only [putF]; rfl
  case h =>
  intro w_8 pt hn hC hF hD
  clear hC
  replace hx := hx.below hn (Nat.le_refl _)
  replace hy := hy.below hn (Nat.le_refl _)
  replace hp := hp.below hn (Nat.le_refl _)
  replace hq := hq.below hn (Nat.le_refl _)
  replace hz1 := hz1.below hn (Nat.le_refl _)
  replace hz2 := hz2.below hn (Nat.le_refl _)
  replace g1 := g1.below hn (Nat.le_refl _)
  replace g2 := g2.below hn (Nat.le_refl _)
  replace hb := hb.trans (hn.mono hb.size)
  clear hn
  clear hF hD
  clear lt_hp
  clear lt_hq
  clear lt_hz1
  clear lt_hz2
  clear kb0
  apply wpTail_call
  case hi => rfl
  case hw => kernel_rfl
  case h =>
  intro K hK
  have c9_ := hz1.facts
  go_big_op
  have ho := Bk.only w_8 (w.heap.size + 1 + 1) sb_hz1 (.slice o_hz1 n_hz1 c_hz1)
  have hbx_ := hz1.bx
  replace hx := hx.frame hbx_ ho
  replace hy := hy.frame hbx_ ho
  replace hp := hp.frame ho (by first | assumption | (apply Ne.symm; assumption) | (simp; done) | omega)
  replace hq := hq.frame ho (by first | assumption | (apply Ne.symm; assumption) | (simp; done) | omega)
  replace hz2 := hz2.frame ho (by first | assumption | (apply Ne.symm; assumption) | (simp; done) | omega)
  replace g1 := g1.frame hbx_ ho
  replace g2 := g2.frame hbx_ ho
  replace hz1 := hz1.store sb_hz1 (.slice o_hz1 n_hz1 c_hz1)
  replace hb := (hb.setCell (p := ⟨w.heap.size + 1 + 1, 0, none⟩) (show w.heap.size ≤ w.heap.size + 1 + 1 by first | assumption | (simp; done) | omega) (.bool sb_hz1)).setCell (p := ⟨w.heap.size + 1 + 1, 1, none⟩) (show w.heap.size ≤ w.heap.size + 1 + 1 by first | assumption | (simp; done) | omega) (.slice o_hz1 n_hz1 c_hz1)
  refine hK _ _ rfl (And.intro True.intro (And.intro (And.intro hz2.facts.1 hz2.facts.2.1) True.intro)) ?_
  clear hK K hbx_ ho c9_
  apply wpTail_call
  case hi => rfl
  case hw => kernel_rfl
  case h =>
  intro K hK
  have c9_ := hz2.facts
  go_big_op
  have ho := Bk.only ((w_8.setCell ⟨w.heap.size + 1 + 1, 0, none⟩ (.bool sb_hz1)).setCell ⟨w.heap.size + 1 + 1, 1, none⟩ (.slice o_hz1 n_hz1 c_hz1)) (w.heap.size + 1 + 1 + 1) sb_hz2 (.slice o_hz2 n_hz2 c_hz2)
  have hbx_ := hz2.bx
  replace hx := hx.frame hbx_ ho
  replace hy := hy.frame hbx_ ho
  replace hp := hp.frame ho (by first | assumption | (apply Ne.symm; assumption) | (simp; done) | omega)
  replace hq := hq.frame ho (by first | assumption | (apply Ne.symm; assumption) | (simp; done) | omega)
  replace hz1 := hz1.frame ho (by first | assumption | (apply Ne.symm; assumption) | (simp; done) | omega)
  replace g1 := g1.frame hbx_ ho
  replace g2 := g2.frame hbx_ ho
  replace hz2 := hz2.store sb_hz2 (.slice o_hz2 n_hz2 c_hz2)
  replace hb := (hb.setCell (p := ⟨w.heap.size + 1 + 1 + 1, 0, none⟩) (show w.heap.size ≤ w.heap.size + 1 + 1 + 1 by first | assumption | (simp; done) | omega) (.bool sb_hz2)).setCell (p := ⟨w.heap.size + 1 + 1 + 1, 1, none⟩) (show w.heap.size ≤ w.heap.size + 1 + 1 + 1 by first | assumption | (simp; done) | omega) (.slice o_hz2 n_hz2 c_hz2)
  refine hK _ _ rfl (And.intro True.intro (And.intro True.intro True.intro)) ?_
  clear hK K hbx_ ho c9_
  apply wpTail_move
  case hi => rfl
  case hw => kernel_rfl
  case h =>
  intro K hK
  go_big_move
  refine hK _ _ rfl rfl ?_
  clear hK K
  apply wpTail_end
  have f1 := hz1.facts
  have f2 := hz2.facts
  go_wp2
  refine bodyPost_ret (v := .tuple #[.agg #[.bool sb_hz1, .slice o_hz1 n_hz1 c_hz1], .agg #[.bool sb_hz2, .slice o_hz2 n_hz2 c_hz2], .int .i64 0]) (by simp [results, Tryz.results93, go_sem, f1.1, f1.2.1, f2.1, f2.2.1]) rfl ?_
  exact ⟨_, _, rfl, g1.mono (by simp; omega), g2.mono (by simp; omega), hb⟩
set_option maxHeartbeats 4000000 in
set_option maxRecDepth 20000 in
/-- zint.FloorDiv of two signs, with a rest. -/
theorem fdiv_turned {w : World} {oa ob : Option Addr} {ca cb : Nat} {xs ys : List Nat} {na nb : Bool} (hx : Rd w (.slice oa xs.length ca) xs) (hy : Rd w (.slice ob ys.length cb) ys)
    (hxl : xs.length ≤ 400000000) (hyl : ys.length ≤ 400000000) (h0 : val ys ≠ 0) (h : val xs % val ys ≠ 0) (hd : (na != nb) = true) :
    Calls Tryz.prog 93 #[.agg #[.bool na, .slice oa xs.length ca], .agg #[.bool nb, .slice ob ys.length cb]] w fun e w' => ∃ v1 v2, e = .returned (.tuple #[v1, v2, .int .i64 0]) ∧
      ZO w' w.heap.size v1 ((zv na xs).fdiv (zv nb ys)) ∧ ZO w' w.heap.size v2 ((zv na xs).fmod (zv nb ys)) ∧ Below w.heap.size w w' := by
  have hf := floor_turned (na := na) (nb := nb) h0 h hd
  rw [hf.1, hf.2]
  have LR := hide (show (dig (fr na (val xs) (val ys)).natAbs).length ≤ 400000000 from fr_len na h0 (dig_length_le (Nat.lt_of_lt_of_le (val_lt hy.ok) (pw_mono hyl))))
  obtain ⟨S, hS⟩ : ∃ S, (fr na (val xs) (val ys)).sign = S := ⟨_, rfl⟩
  have HS := hide hS
  have hS0 : (S == 0) = false := by rw [beq_eq_false_iff_ne, ← hS]; exact fun h2 => h ((fr_sign na).1 h2)
  have hS1 : (S != 0) = true := by rw [bne, hS0]; rfl
  clear hS
  have H0 := hide h0
  have LQ := hide (show (dig (fq na nb (val xs) (val ys)).natAbs).length ≤ 400000000 from fq_len na nb (dig_length_le (Nat.lt_of_lt_of_le (val_lt hx.ok) (pw_mono hxl))))
  have L1 := hide (show (dig (1 : Int).natAbs).length ≤ 2 from zlen_i 1 (by decide) (by decide))
  have hbn : (!(na == nb)) = true := hd
  have e0 : ((0 : Int) == 0) = true := rfl
  have hbn2 : (na == nb) = false := by revert hd; cases na <;> cases nb <;> decide
  have E1 := hide (show (if true = true then -((val xs / val ys : Nat) : Int) else ((val xs / val ys : Nat) : Int)) = fq na nb (val xs) (val ys) by unfold fq; rw [hd])
  have E2 := hide (show (if na = true then -((val xs % val ys : Nat) : Int) else ((val xs % val ys : Nat) : Int)) = fr na (val xs) (val ys) from rfl)
  clear hf h h0 hd
  go_enter Tryz.func93, Tryz.ntmps93
  have hb := Below.refl w.heap.size w
  have hp := Bk.new w na (.slice oa xs.length ca)
  replace hx := hx.alloc (.cells #[.bool na, (.slice oa xs.length ca)] 26)
  replace hy := hy.alloc (.cells #[.bool na, (.slice oa xs.length ca)] 26)
  replace hb := hb.alloc hb.size (.cells #[.bool na, (.slice oa xs.length ca)] 26)
  have hq := Bk.new (w.alloc (.cells #[.bool na, (.slice oa xs.length ca)] 26)) nb (.slice ob ys.length cb)
  simp only [Bk.size_alloc] at hq
  replace hx := hx.alloc (.cells #[.bool nb, (.slice ob ys.length cb)] 26)
  replace hy := hy.alloc (.cells #[.bool nb, (.slice ob ys.length cb)] 26)
  replace hp := hp.alloc (.cells #[.bool nb, (.slice ob ys.length cb)] 26)
  replace hb := hb.alloc hb.size (.cells #[.bool nb, (.slice ob ys.length cb)] 26)
  have hz1 := Bk.new ((w.alloc (.cells #[.bool na, (.slice oa xs.length ca)] 26)).alloc (.cells #[.bool nb, (.slice ob ys.length cb)] 26)) false (.slice none 0 0)
  simp only [Bk.size_alloc] at hz1
  replace hx := hx.alloc (.cells #[.bool false, (.slice none 0 0)] 26)
  replace hy := hy.alloc (.cells #[.bool false, (.slice none 0 0)] 26)
  replace hp := hp.alloc (.cells #[.bool false, (.slice none 0 0)] 26)
  replace hq := hq.alloc (.cells #[.bool false, (.slice none 0 0)] 26)
  replace hb := hb.alloc hb.size (.cells #[.bool false, (.slice none 0 0)] 26)
  have hz2 := Bk.new (((w.alloc (.cells #[.bool na, (.slice oa xs.length ca)] 26)).alloc (.cells #[.bool nb, (.slice ob ys.length cb)] 26)).alloc (.cells #[.bool false, (.slice none 0 0)] 26)) false (.slice none 0 0)
  simp only [Bk.size_alloc] at hz2
  replace hx := hx.alloc (.cells #[.bool false, (.slice none 0 0)] 26)
  replace hy := hy.alloc (.cells #[.bool false, (.slice none 0 0)] 26)
  replace hp := hp.alloc (.cells #[.bool false, (.slice none 0 0)] 26)
  replace hq := hq.alloc (.cells #[.bool false, (.slice none 0 0)] 26)
  replace hz1 := hz1.alloc (.cells #[.bool false, (.slice none 0 0)] 26)
  replace hb := hb.alloc hb.size (.cells #[.bool false, (.slice none 0 0)] 26)
  have f_hp := hp.facts
  have f_hq := hq.facts
  go_wp2_with fail
  refine (divMod_pos hx hy H0.out (by omega) (by omega)).mono ?_
  rintro e w_1 ⟨s1, s2, rfl, h1, h2, -, hb_1⟩
  replace hx := hx.below hb_1 (Nat.le_refl _)
  replace hy := hy.below hb_1 (Nat.le_refl _)
  replace hp := hp.below hb_1 (Nat.le_refl _)
  replace hq := hq.below hb_1 (Nat.le_refl _)
  replace hz1 := hz1.below hb_1 (Nat.le_refl _)
  replace hz2 := hz2.below hb_1 (Nat.le_refl _)
  replace hb := hb.trans (hb_1.mono hb.size)
  clear hb_1
  clear f_hp f_hq
  replace hx := hx.drew
  replace hy := hy.drew
  replace hp := hp.drew
  replace hq := hq.drew
  replace hz1 := hz1.drew
  replace hz2 := hz2.drew
  replace h1 := h1.drew
  replace h2 := h2.drew
  replace hb := hb.drew
  have lt_hp := hp.lt
  have lt_hq := hq.lt
  have lt_hz1 := hz1.lt
  have lt_hz2 := hz2.lt
  have kb0 := hb.size
  go_wp2_with fail
  refine wp_region_fl [(0, false), (1, false), (2, false), (3, false), (4, false), (5, false), (7, false), (8, false), (9, false), (6, true), (10, true)] [11, 12] [] (fun _ => obZ) [99, 0, 99, 1, 99, 99, 99, 99, 0, 99, 99, 99, 99] [] (fun w' => w'.cell? ⟨w.heap.size, 0, none⟩ = some (.bool na) ∧ w'.cell? ⟨w.heap.size, 1, none⟩ = some (.slice oa xs.length ca) ∧ w'.cell? ⟨w.heap.size + 1, 0, none⟩ = some (.bool nb) ∧ w'.cell? ⟨w.heap.size + 1, 1, none⟩ = some (.slice ob ys.length cb)) [fun w' => w'.cell? ⟨w.heap.size, 0, none⟩ = some (.bool na) ∧ w'.cell? ⟨w.heap.size, 1, none⟩ = some (.slice oa xs.length ca), fun w' => w'.cell? ⟨w.heap.size + 1, 0, none⟩ = some (.bool nb) ∧ w'.cell? ⟨w.heap.size + 1, 1, none⟩ = some (.slice ob ys.length cb)] (by kernel_rfl) (by kernel_rfl) (by kernel_rfl) (by kernel_rfl) (by kernel_rfl) (by kernel_rfl) (by kernel_rfl) (by kernel_rfl) (by decide) (by intro j hj; cases hj) (by intro w' o hC; obtain ⟨c0, c1, c2, c3⟩ := hC; exact ⟨cell_alloc c0 o, cell_alloc c1 o, cell_alloc c2 o, cell_alloc c3 o⟩) (by intro w' hC G hG; obtain ⟨c0, c1, c2, c3⟩ := hC; simp only [List.mem_cons, List.not_mem_nil, or_false] at hG; rcases hG with rfl | rfl <;> first | exact ⟨c0, c1⟩ | exact ⟨c2, c3⟩) ⟨hp.facts.1, hp.facts.2.1, hq.facts.1, hq.facts.2.1⟩ ?_
  apply wpFl_ld
  case hG => rfl
  case hi => rfl
  case h1 => intro w' hC K hK; clear hC; (first | go_big_move | go_big_op); exact hK
  case hw => kernel_rfl
  case hv => kernel_rfl
  case hb => kernel_rfl
  case hp => kernel_rfl
  apply wpFl_ld
  case hG => rfl
  case hi => rfl
  case h1 => intro w' hC K hK; obtain ⟨c0, c1⟩ := hC; (first | go_big_move | go_big_op); exact hK
  case hw => kernel_rfl
  case hv => kernel_rfl
  case hb => kernel_rfl
  case hp => kernel_rfl
  apply wpFl_ld
  case hG => rfl
  case hi => rfl
  case h1 => intro w' hC K hK; clear hC; (first | go_big_move | go_big_op); exact hK
  case hw => kernel_rfl
  case hv => kernel_rfl
  case hb => kernel_rfl
  case hp => kernel_rfl
  apply wpFl_ld
  case hG => rfl
  case hi => rfl
  case h1 => intro w' hC K hK; obtain ⟨c0, c1⟩ := hC; (first | go_big_move | go_big_op); exact hK
  case hw => kernel_rfl
  case hv => kernel_rfl
  case hb => kernel_rfl
  case hp => kernel_rfl
  apply wpFl_ld
  case hG => rfl
  case hi => rfl
  case h1 => intro w' hC K hK; clear hC; (first | go_big_move | go_big_op); exact hK
  case hw => kernel_rfl
  case hv => kernel_rfl
  case hb => kernel_rfl
  case hp => kernel_rfl
  apply wpFl_ld
  case hG => rfl
  case hi => rfl
  case h1 => intro w' hC K hK; clear hC; (first | go_big_move | go_big_op); exact hK
  case hw => kernel_rfl
  case hv => kernel_rfl
  case hb => kernel_rfl
  case hp => kernel_rfl
  apply wpFl_ld
  case hG => rfl
  case hi => rfl
  case h1 => intro w' hC K hK; clear hC; (first | go_big_move | go_big_op); exact hK
  case hw => kernel_rfl
  case hv => kernel_rfl
  case hb => kernel_rfl
  case hp => kernel_rfl
  apply wpFl_ld
  case hG => rfl
  case hi => rfl
  case h1 => intro w' hC K hK; obtain ⟨c0, c1⟩ := hC; (first | go_big_move | go_big_op); exact hK
  case hw => kernel_rfl
  case hv => kernel_rfl
  case hb => kernel_rfl
  case hp => kernel_rfl
  apply wpFl_ld
  case hG => rfl
  case hi => rfl
  case h1 => intro w' hC K hK; clear hC; (first | go_big_move | go_big_op); exact hK
  case hw => kernel_rfl
  case hv => kernel_rfl
  case hb => kernel_rfl
  case hp => kernel_rfl
  apply wpFl_call
  case hi => rfl
  case hw => kernel_rfl
  case h =>
  intro w_2 hn hC
  clear hC
  replace hx := hx.below hn (Nat.le_refl _)
  replace hy := hy.below hn (Nat.le_refl _)
  replace hp := hp.below hn (Nat.le_refl _)
  replace hq := hq.below hn (Nat.le_refl _)
  replace hz1 := hz1.below hn (Nat.le_refl _)
  replace hz2 := hz2.below hn (Nat.le_refl _)
  replace h1 := h1.below hn (Nat.le_refl _)
  replace h2 := h2.below hn (Nat.le_refl _)
  replace hb := hb.trans (hn.mono hb.size)
  clear hn
  intro K hK
  have kb_3 := hb.size
  go_big_op
  go_fit (signed_z _ h1 E1.out)
  rintro e w_3 ⟨v1, rfl, g1, hb_3⟩
  replace hx := hx.below hb_3 (Nat.le_refl _)
  replace hy := hy.below hb_3 (Nat.le_refl _)
  replace hp := hp.below hb_3 (Nat.le_refl _)
  replace hq := hq.below hb_3 (Nat.le_refl _)
  replace hz1 := hz1.below hb_3 (Nat.le_refl _)
  replace hz2 := hz2.below hb_3 (Nat.le_refl _)
  replace h1 := h1.below hb_3 (Nat.le_refl _)
  replace h2 := h2.below hb_3 (Nat.le_refl _)
  replace hb := hb.trans (hb_3.mono hb.size)
  refine hK _ _ rfl hb_3 ⟨hp.facts.1, hp.facts.2.1, hq.facts.1, hq.facts.2.1⟩ ?_
  clear hK K hb_3
  apply wpFl_call
  case hi => rfl
  case hw => kernel_rfl
  case h =>
  intro w_4 hn hC
  clear hC
  replace hx := hx.below hn (Nat.le_refl _)
  replace hy := hy.below hn (Nat.le_refl _)
  replace hp := hp.below hn (Nat.le_refl _)
  replace hq := hq.below hn (Nat.le_refl _)
  replace hz1 := hz1.below hn (Nat.le_refl _)
  replace hz2 := hz2.below hn (Nat.le_refl _)
  replace h1 := h1.below hn (Nat.le_refl _)
  replace h2 := h2.below hn (Nat.le_refl _)
  replace g1 := g1.below hn (Nat.le_refl _)
  replace hb := hb.trans (hn.mono hb.size)
  clear hn
  intro K hK
  have kb_5 := hb.size
  go_big_op
  go_fit (signed_z _ h2 E2.out)
  rintro e w_5 ⟨v2, rfl, g2, hb_5⟩
  replace hx := hx.below hb_5 (Nat.le_refl _)
  replace hy := hy.below hb_5 (Nat.le_refl _)
  replace hp := hp.below hb_5 (Nat.le_refl _)
  replace hq := hq.below hb_5 (Nat.le_refl _)
  replace hz1 := hz1.below hb_5 (Nat.le_refl _)
  replace hz2 := hz2.below hb_5 (Nat.le_refl _)
  replace h1 := h1.below hb_5 (Nat.le_refl _)
  replace h2 := h2.below hb_5 (Nat.le_refl _)
  replace g1 := g1.below hb_5 (Nat.le_refl _)
  replace hb := hb.trans (hb_5.mono hb.size)
  refine hK _ _ rfl hb_5 ⟨hp.facts.1, hp.facts.2.1, hq.facts.1, hq.facts.2.1⟩ ?_
  clear hK K hb_5
  clear h1
  clear h2
  apply wpFl_end
  case ha => intro pt; simp only [putF]; rfl
  case h =>
  intro w_6 pt hn hC hF hD
  clear hC
  replace hx := hx.below hn (Nat.le_refl _)
  replace hy := hy.below hn (Nat.le_refl _)
  replace hp := hp.below hn (Nat.le_refl _)
  replace hq := hq.below hn (Nat.le_refl _)
  replace hz1 := hz1.below hn (Nat.le_refl _)
  replace hz2 := hz2.below hn (Nat.le_refl _)
  replace g1 := g1.below hn (Nat.le_refl _)
  replace g2 := g2.below hn (Nat.le_refl _)
  replace hb := hb.trans (hn.mono hb.size)
  clear hn
  clear hF hD
  clear lt_hp
  clear lt_hq
  clear lt_hz1
  clear lt_hz2
  clear kb0
  obtain ⟨sb_hz1, o_hz1, n_hz1, c_hz1, rfl⟩ := g1.open2
  apply wpTail_call
  case hi => rfl
  case hw => kernel_rfl
  case h =>
  intro K hK
  have c9_ := hz1.facts
  go_big_op
  have ho := Bk.only w_6 (w.heap.size + 1 + 1) sb_hz1 (.slice o_hz1 n_hz1 c_hz1)
  have hbx_ := hz1.bx
  replace hx := hx.frame hbx_ ho
  replace hy := hy.frame hbx_ ho
  replace hp := hp.frame ho (by first | assumption | (apply Ne.symm; assumption) | (simp; done) | omega)
  replace hq := hq.frame ho (by first | assumption | (apply Ne.symm; assumption) | (simp; done) | omega)
  replace hz2 := hz2.frame ho (by first | assumption | (apply Ne.symm; assumption) | (simp; done) | omega)
  replace g1 := g1.frame hbx_ ho
  replace g2 := g2.frame hbx_ ho
  replace hz1 := hz1.store sb_hz1 (.slice o_hz1 n_hz1 c_hz1)
  replace hb := (hb.setCell (p := ⟨w.heap.size + 1 + 1, 0, none⟩) (show w.heap.size ≤ w.heap.size + 1 + 1 by first | assumption | (simp; done) | omega) (.bool sb_hz1)).setCell (p := ⟨w.heap.size + 1 + 1, 1, none⟩) (show w.heap.size ≤ w.heap.size + 1 + 1 by first | assumption | (simp; done) | omega) (.slice o_hz1 n_hz1 c_hz1)
  refine hK _ _ rfl (And.intro (And.intro hp.facts.1 hp.facts.2.1) (And.intro (And.intro hq.facts.1 hq.facts.2.1) True.intro)) ?_
  clear hK K hbx_ ho c9_
  obtain ⟨sb_hz2, o_hz2, n_hz2, c_hz2, rfl⟩ := g2.open2
  apply wpTail_call
  case hi => rfl
  case hw => kernel_rfl
  case h =>
  intro K hK
  have c9_ := hz2.facts
  go_big_op
  have ho := Bk.only ((w_6.setCell ⟨w.heap.size + 1 + 1, 0, none⟩ (.bool sb_hz1)).setCell ⟨w.heap.size + 1 + 1, 1, none⟩ (.slice o_hz1 n_hz1 c_hz1)) (w.heap.size + 1 + 1 + 1) sb_hz2 (.slice o_hz2 n_hz2 c_hz2)
  have hbx_ := hz2.bx
  replace hx := hx.frame hbx_ ho
  replace hy := hy.frame hbx_ ho
  replace hp := hp.frame ho (by first | assumption | (apply Ne.symm; assumption) | (simp; done) | omega)
  replace hq := hq.frame ho (by first | assumption | (apply Ne.symm; assumption) | (simp; done) | omega)
  replace hz1 := hz1.frame ho (by first | assumption | (apply Ne.symm; assumption) | (simp; done) | omega)
  replace g1 := g1.frame hbx_ ho
  replace g2 := g2.frame hbx_ ho
  replace hz2 := hz2.store sb_hz2 (.slice o_hz2 n_hz2 c_hz2)
  replace hb := (hb.setCell (p := ⟨w.heap.size + 1 + 1 + 1, 0, none⟩) (show w.heap.size ≤ w.heap.size + 1 + 1 + 1 by first | assumption | (simp; done) | omega) (.bool sb_hz2)).setCell (p := ⟨w.heap.size + 1 + 1 + 1, 1, none⟩) (show w.heap.size ≤ w.heap.size + 1 + 1 + 1 by first | assumption | (simp; done) | omega) (.slice o_hz2 n_hz2 c_hz2)
  refine hK _ _ rfl (And.intro (And.intro hp.facts.1 hp.facts.2.1) (And.intro (And.intro hq.facts.1 hq.facts.2.1) True.intro)) ?_
  clear hK K hbx_ ho c9_
  apply wpTail_end
  have f_hp := hp.facts
  have f_hq := hq.facts
  have f_hz1 := hz1.facts
  have f_hz2 := hz2.facts
  go_wp2_with fail
  refine (zsign_any (g2.zn LR.out) (by decide)).mono ?_
  rintro e w_7 ⟨rfl, hb_7⟩
  replace hx := hx.below hb_7 (Nat.le_refl _)
  replace hy := hy.below hb_7 (Nat.le_refl _)
  replace hp := hp.below hb_7 (Nat.le_refl _)
  replace hq := hq.below hb_7 (Nat.le_refl _)
  replace hz1 := hz1.below hb_7 (Nat.le_refl _)
  replace hz2 := hz2.below hb_7 (Nat.le_refl _)
  replace g1 := g1.below hb_7 (Nat.le_refl _)
  replace g2 := g2.below hb_7 (Nat.le_refl _)
  replace hb := hb.trans (hb_7.mono hb.size)
  clear hb_7
  rw [HS.out]
  clear f_hp f_hq f_hz1 f_hz2
  have f_hp := hp.facts
  have f_hq := hq.facts
  replace hx := hx.drew
  replace hy := hy.drew
  replace hp := hp.drew
  replace hq := hq.drew
  replace hz1 := hz1.drew
  replace hz2 := hz2.drew
  replace g1 := g1.drew
  replace g2 := g2.drew
  replace hb := hb.drew
  have lt_hp := hp.lt
  have lt_hq := hq.lt
  have lt_hz1 := hz1.lt
  have lt_hz2 := hz2.lt
  have kb0 := hb.size
  go_wp2_with fail
  refine wp_region_fl [(0, false), (3, false), (4, false), (1, true), (2, true), (5, true)] [6, 7] [] (fun _ => obZ) [1, 99, 99, 2, 0, 99, 99, 99] [(6, 1), (7, 1), (7, 2)] (fun w' => w'.cell? ⟨w.heap.size + 1, 0, none⟩ = some (.bool nb) ∧ w'.cell? ⟨w.heap.size + 1, 1, none⟩ = some (.slice ob ys.length cb) ∧ w'.cell? ⟨w.heap.size + 1 + 1, 0, none⟩ = some (.bool sb_hz1) ∧ w'.cell? ⟨w.heap.size + 1 + 1, 1, none⟩ = some (.slice o_hz1 n_hz1 c_hz1) ∧ w'.cell? ⟨w.heap.size + 1 + 1 + 1, 0, none⟩ = some (.bool sb_hz2) ∧ w'.cell? ⟨w.heap.size + 1 + 1 + 1, 1, none⟩ = some (.slice o_hz2 n_hz2 c_hz2)) [fun w' => w'.cell? ⟨w.heap.size + 1, 0, none⟩ = some (.bool nb) ∧ w'.cell? ⟨w.heap.size + 1, 1, none⟩ = some (.slice ob ys.length cb), fun w' => w'.cell? ⟨w.heap.size + 1 + 1, 0, none⟩ = some (.bool sb_hz1) ∧ w'.cell? ⟨w.heap.size + 1 + 1, 1, none⟩ = some (.slice o_hz1 n_hz1 c_hz1), fun w' => w'.cell? ⟨w.heap.size + 1 + 1 + 1, 0, none⟩ = some (.bool sb_hz2) ∧ w'.cell? ⟨w.heap.size + 1 + 1 + 1, 1, none⟩ = some (.slice o_hz2 n_hz2 c_hz2)] (by kernel_rfl) (by kernel_rfl) (by kernel_rfl) (by kernel_rfl) (by kernel_rfl) (by kernel_rfl) (by kernel_rfl) (by kernel_rfl) (by decide) (by intro j hj; cases hj) (by intro w' o hC; obtain ⟨c0, c1, c2, c3, c4, c5⟩ := hC; exact ⟨cell_alloc c0 o, cell_alloc c1 o, cell_alloc c2 o, cell_alloc c3 o, cell_alloc c4 o, cell_alloc c5 o⟩) (by intro w' hC G hG; obtain ⟨c0, c1, c2, c3, c4, c5⟩ := hC; simp only [List.mem_cons, List.not_mem_nil, or_false] at hG; rcases hG with rfl | rfl | rfl <;> first | exact ⟨c0, c1⟩ | exact ⟨c2, c3⟩ | exact ⟨c4, c5⟩) ⟨hq.facts.1, hq.facts.2.1, hz1.facts.1, hz1.facts.2.1, hz2.facts.1, hz2.facts.2.1⟩ ?_
  apply wpFl_ld
  case hG => rfl
  case hi => rfl
  case h1 => intro w' hC K hK; obtain ⟨c0, c1⟩ := hC; (first | go_big_move | go_big_op); exact hK
  case hw => kernel_rfl
  case hv => kernel_rfl
  case hb => kernel_rfl
  case hp => kernel_rfl
  apply wpFl_ld
  case hG => rfl
  case hi => rfl
  case h1 => intro w' hC K hK; obtain ⟨c0, c1⟩ := hC; (first | go_big_move | go_big_op); exact hK
  case hw => kernel_rfl
  case hv => kernel_rfl
  case hb => kernel_rfl
  case hp => kernel_rfl
  apply wpFl_ld
  case hG => rfl
  case hi => rfl
  case h1 => intro w' hC K hK; obtain ⟨c0, c1⟩ := hC; (first | go_big_move | go_big_op); exact hK
  case hw => kernel_rfl
  case hv => kernel_rfl
  case hb => kernel_rfl
  case hp => kernel_rfl
  apply wpFl_call
  case hi => rfl
  case hw => kernel_rfl
  case h =>
  intro w_8 hn hC
  clear hC
  replace hx := hx.below hn (Nat.le_refl _)
  replace hy := hy.below hn (Nat.le_refl _)
  replace hp := hp.below hn (Nat.le_refl _)
  replace hq := hq.below hn (Nat.le_refl _)
  replace hz1 := hz1.below hn (Nat.le_refl _)
  replace hz2 := hz2.below hn (Nat.le_refl _)
  replace g1 := g1.below hn (Nat.le_refl _)
  replace g2 := g2.below hn (Nat.le_refl _)
  replace hb := hb.trans (hn.mono hb.size)
  clear hn
  intro K hK
  have kb_9 := hb.size
  go_big_op
  go_fit (from_any (1 : Int) _ (by decide) (by decide))
  rintro e w_9 ⟨v3, rfl, g3, hb_9⟩
  replace hx := hx.below hb_9 (Nat.le_refl _)
  replace hy := hy.below hb_9 (Nat.le_refl _)
  replace hp := hp.below hb_9 (Nat.le_refl _)
  replace hq := hq.below hb_9 (Nat.le_refl _)
  replace hz1 := hz1.below hb_9 (Nat.le_refl _)
  replace hz2 := hz2.below hb_9 (Nat.le_refl _)
  replace g1 := g1.below hb_9 (Nat.le_refl _)
  replace g2 := g2.below hb_9 (Nat.le_refl _)
  replace hb := hb.trans (hb_9.mono hb.size)
  refine hK _ _ rfl hb_9 ⟨hq.facts.1, hq.facts.2.1, hz1.facts.1, hz1.facts.2.1, hz2.facts.1, hz2.facts.2.1⟩ ?_
  clear hK K hb_9
  apply wpFl_call
  case hi => rfl
  case hw => kernel_rfl
  case h =>
  intro w_10 hn hC
  clear hC
  replace hx := hx.below hn (Nat.le_refl _)
  replace hy := hy.below hn (Nat.le_refl _)
  replace hp := hp.below hn (Nat.le_refl _)
  replace hq := hq.below hn (Nat.le_refl _)
  replace hz1 := hz1.below hn (Nat.le_refl _)
  replace hz2 := hz2.below hn (Nat.le_refl _)
  replace g1 := g1.below hn (Nat.le_refl _)
  replace g2 := g2.below hn (Nat.le_refl _)
  replace g3 := g3.below hn (Nat.le_refl _)
  replace hb := hb.trans (hn.mono hb.size)
  clear hn
  intro K hK
  have kb_11 := hb.size
  go_big_op
  go_fit (zsub_any (g1.zn LQ.out) (g3.zn L1.out) (by decide) (by decide))
  rintro e w_11 ⟨v4, rfl, g4, hb_11⟩
  replace hx := hx.below hb_11 (Nat.le_refl _)
  replace hy := hy.below hb_11 (Nat.le_refl _)
  replace hp := hp.below hb_11 (Nat.le_refl _)
  replace hq := hq.below hb_11 (Nat.le_refl _)
  replace hz1 := hz1.below hb_11 (Nat.le_refl _)
  replace hz2 := hz2.below hb_11 (Nat.le_refl _)
  replace g1 := g1.below hb_11 (Nat.le_refl _)
  replace g2 := g2.below hb_11 (Nat.le_refl _)
  replace g3 := g3.below hb_11 (Nat.le_refl _)
  replace hb := hb.trans (hb_11.mono hb.size)
  refine hK _ _ rfl hb_11 ⟨hq.facts.1, hq.facts.2.1, hz1.facts.1, hz1.facts.2.1, hz2.facts.1, hz2.facts.2.1⟩ ?_
  clear hK K hb_11
  clear g1
  clear g3
  apply wpFl_call
  case hi => rfl
  case hw => kernel_rfl
  case h =>
  intro w_12 hn hC
  clear hC
  replace hx := hx.below hn (Nat.le_refl _)
  replace hy := hy.below hn (Nat.le_refl _)
  replace hp := hp.below hn (Nat.le_refl _)
  replace hq := hq.below hn (Nat.le_refl _)
  replace hz1 := hz1.below hn (Nat.le_refl _)
  replace hz2 := hz2.below hn (Nat.le_refl _)
  replace g2 := g2.below hn (Nat.le_refl _)
  replace g4 := g4.below hn (Nat.le_refl _)
  replace hb := hb.trans (hn.mono hb.size)
  clear hn
  intro K hK
  have kb_13 := hb.size
  go_big_op
  go_fit (zadd_any (g2.zn LR.out) ⟨nb, _, ys, rfl, hy, rfl, hyl⟩ (by decide) (by decide))
  rintro e w_13 ⟨v5, rfl, g5, hb_13⟩
  replace hx := hx.below hb_13 (Nat.le_refl _)
  replace hy := hy.below hb_13 (Nat.le_refl _)
  replace hp := hp.below hb_13 (Nat.le_refl _)
  replace hq := hq.below hb_13 (Nat.le_refl _)
  replace hz1 := hz1.below hb_13 (Nat.le_refl _)
  replace hz2 := hz2.below hb_13 (Nat.le_refl _)
  replace g2 := g2.below hb_13 (Nat.le_refl _)
  replace g4 := g4.below hb_13 (Nat.le_refl _)
  replace hb := hb.trans (hb_13.mono hb.size)
  refine hK _ _ rfl hb_13 ⟨hq.facts.1, hq.facts.2.1, hz1.facts.1, hz1.facts.2.1, hz2.facts.1, hz2.facts.2.1⟩ ?_
  clear hK K hb_13
  clear g2
  apply wpFl_end
  case ha => intro pt; simp only [putF]; rfl
  case h =>
  intro w_14 pt hn hC hF hD
  clear hC
  replace hx := hx.below hn (Nat.le_refl _)
  replace hy := hy.below hn (Nat.le_refl _)
  replace hp := hp.below hn (Nat.le_refl _)
  replace hq := hq.below hn (Nat.le_refl _)
  replace hz1 := hz1.below hn (Nat.le_refl _)
  replace hz2 := hz2.below hn (Nat.le_refl _)
  replace g4 := g4.below hn (Nat.le_refl _)
  replace g5 := g5.below hn (Nat.le_refl _)
  replace hb := hb.trans (hn.mono hb.size)
  clear hn
  clear hF hD
  clear lt_hp
  clear lt_hq
  clear lt_hz1
  clear lt_hz2
  clear kb0
  obtain ⟨sb_hz1, o_hz1, n_hz1, c_hz1, rfl⟩ := g4.open2
  apply wpTail_call
  case hi => rfl
  case hw => kernel_rfl
  case h =>
  intro K hK
  have c9_ := hz1.facts
  go_big_op
  have ho := Bk.only w_14 (w.heap.size + 1 + 1) sb_hz1 (.slice o_hz1 n_hz1 c_hz1)
  have hbx_ := hz1.bx
  replace hx := hx.frame hbx_ ho
  replace hy := hy.frame hbx_ ho
  replace hp := hp.frame ho (by first | assumption | (apply Ne.symm; assumption) | (simp; done) | omega)
  replace hq := hq.frame ho (by first | assumption | (apply Ne.symm; assumption) | (simp; done) | omega)
  replace hz2 := hz2.frame ho (by first | assumption | (apply Ne.symm; assumption) | (simp; done) | omega)
  replace g4 := g4.frame hbx_ ho
  replace g5 := g5.frame hbx_ ho
  replace hz1 := hz1.store sb_hz1 (.slice o_hz1 n_hz1 c_hz1)
  replace hb := (hb.setCell (p := ⟨w.heap.size + 1 + 1, 0, none⟩) (show w.heap.size ≤ w.heap.size + 1 + 1 by first | assumption | (simp; done) | omega) (.bool sb_hz1)).setCell (p := ⟨w.heap.size + 1 + 1, 1, none⟩) (show w.heap.size ≤ w.heap.size + 1 + 1 by first | assumption | (simp; done) | omega) (.slice o_hz1 n_hz1 c_hz1)
  refine hK _ _ rfl (And.intro (And.intro hq.facts.1 hq.facts.2.1) (And.intro True.intro (And.intro (And.intro hz2.facts.1 hz2.facts.2.1) True.intro))) ?_
  clear hK K hbx_ ho c9_
  obtain ⟨sb_hz2, o_hz2, n_hz2, c_hz2, rfl⟩ := g5.open2
  apply wpTail_call
  case hi => rfl
  case hw => kernel_rfl
  case h =>
  intro K hK
  have c9_ := hz2.facts
  go_big_op
  have ho := Bk.only ((w_14.setCell ⟨w.heap.size + 1 + 1, 0, none⟩ (.bool sb_hz1)).setCell ⟨w.heap.size + 1 + 1, 1, none⟩ (.slice o_hz1 n_hz1 c_hz1)) (w.heap.size + 1 + 1 + 1) sb_hz2 (.slice o_hz2 n_hz2 c_hz2)
  have hbx_ := hz2.bx
  replace hx := hx.frame hbx_ ho
  replace hy := hy.frame hbx_ ho
  replace hp := hp.frame ho (by first | assumption | (apply Ne.symm; assumption) | (simp; done) | omega)
  replace hq := hq.frame ho (by first | assumption | (apply Ne.symm; assumption) | (simp; done) | omega)
  replace hz1 := hz1.frame ho (by first | assumption | (apply Ne.symm; assumption) | (simp; done) | omega)
  replace g4 := g4.frame hbx_ ho
  replace g5 := g5.frame hbx_ ho
  replace hz2 := hz2.store sb_hz2 (.slice o_hz2 n_hz2 c_hz2)
  replace hb := (hb.setCell (p := ⟨w.heap.size + 1 + 1 + 1, 0, none⟩) (show w.heap.size ≤ w.heap.size + 1 + 1 + 1 by first | assumption | (simp; done) | omega) (.bool sb_hz2)).setCell (p := ⟨w.heap.size + 1 + 1 + 1, 1, none⟩) (show w.heap.size ≤ w.heap.size + 1 + 1 + 1 by first | assumption | (simp; done) | omega) (.slice o_hz2 n_hz2 c_hz2)
  refine hK _ _ rfl (And.intro (And.intro hq.facts.1 hq.facts.2.1) (And.intro True.intro (And.intro True.intro True.intro))) ?_
  clear hK K hbx_ ho c9_
  apply wpTail_end
  replace hx := hx.drew
  replace hy := hy.drew
  replace hp := hp.drew
  replace hq := hq.drew
  replace hz1 := hz1.drew
  replace hz2 := hz2.drew
  replace g4 := g4.drew
  replace g5 := g5.drew
  replace hb := hb.drew
  have lt_hp := hp.lt
  have lt_hq := hq.lt
  have lt_hz1 := hz1.lt
  have lt_hz2 := hz2.lt
  have kb0 := hb.size
  go_wp2_with fail
  refine wp_region_fl [(0, false), (1, false)] [2, 3, 4] [] (fun _ => obZ) [0, 1, 99, 99, 99] [(2, 0), (3, 0), (3, 1)] (fun w' => w'.cell? ⟨w.heap.size + 1 + 1, 0, none⟩ = some (.bool sb_hz1) ∧ w'.cell? ⟨w.heap.size + 1 + 1, 1, none⟩ = some (.slice o_hz1 n_hz1 c_hz1) ∧ w'.cell? ⟨w.heap.size + 1 + 1 + 1, 0, none⟩ = some (.bool sb_hz2) ∧ w'.cell? ⟨w.heap.size + 1 + 1 + 1, 1, none⟩ = some (.slice o_hz2 n_hz2 c_hz2)) [fun w' => w'.cell? ⟨w.heap.size + 1 + 1, 0, none⟩ = some (.bool sb_hz1) ∧ w'.cell? ⟨w.heap.size + 1 + 1, 1, none⟩ = some (.slice o_hz1 n_hz1 c_hz1), fun w' => w'.cell? ⟨w.heap.size + 1 + 1 + 1, 0, none⟩ = some (.bool sb_hz2) ∧ w'.cell? ⟨w.heap.size + 1 + 1 + 1, 1, none⟩ = some (.slice o_hz2 n_hz2 c_hz2)] (by kernel_rfl) (by kernel_rfl) (by kernel_rfl) (by kernel_rfl) (by kernel_rfl) (by kernel_rfl) (by kernel_rfl) (by kernel_rfl) (by decide) (by intro j hj; cases hj) (by intro w' o hC; obtain ⟨c0, c1, c2, c3⟩ := hC; exact ⟨cell_alloc c0 o, cell_alloc c1 o, cell_alloc c2 o, cell_alloc c3 o⟩) (by intro w' hC G hG; obtain ⟨c0, c1, c2, c3⟩ := hC; simp only [List.mem_cons, List.not_mem_nil, or_false] at hG; rcases hG with rfl | rfl <;> first | exact ⟨c0, c1⟩ | exact ⟨c2, c3⟩) ⟨hz1.facts.1, hz1.facts.2.1, hz2.facts.1, hz2.facts.2.1⟩ ?_
  apply wpFl_ld
  case hG => rfl
  case hi => rfl
  case h1 => intro w' hC K hK; obtain ⟨c0, c1⟩ := hC; (first | go_big_move | go_big_op); exact hK
  case hw => kernel_rfl
  case hv => kernel_rfl
  case hb => kernel_rfl
  case hp => kernel_rfl
  apply wpFl_ld
  case hG => rfl
  case hi => rfl
  case h1 => intro w' hC K hK; obtain ⟨c0, c1⟩ := hC; (first | go_big_move | go_big_op); exact hK
  case hw => kernel_rfl
  case hv => kernel_rfl
  case hb => kernel_rfl
  case hp => kernel_rfl
  apply wpFl_end
  case ha => intro pt; simp only [putF]; rfl
  case h =>
  intro w_15 pt hn hC hF hD
  clear hC
  replace hx := hx.below hn (Nat.le_refl _)
  replace hy := hy.below hn (Nat.le_refl _)
  replace hp := hp.below hn (Nat.le_refl _)
  replace hq := hq.below hn (Nat.le_refl _)
  replace hz1 := hz1.below hn (Nat.le_refl _)
  replace hz2 := hz2.below hn (Nat.le_refl _)
  replace g4 := g4.below hn (Nat.le_refl _)
  replace g5 := g5.below hn (Nat.le_refl _)
  replace hb := hb.trans (hn.mono hb.size)
  clear hn
  clear hF hD
  clear lt_hp
  clear lt_hq
  clear lt_hz1
  clear lt_hz2
  clear kb0
  apply wpTail_call
  case hi => rfl
  case hw => kernel_rfl
  case h =>
  intro K hK
  have c9_ := hz1.facts
  go_big_op
  have ho := Bk.only w_15 (w.heap.size + 1 + 1) sb_hz1 (.slice o_hz1 n_hz1 c_hz1)
  have hbx_ := hz1.bx
  replace hx := hx.frame hbx_ ho
  replace hy := hy.frame hbx_ ho
  replace hp := hp.frame ho (by first | assumption | (apply Ne.symm; assumption) | (simp; done) | omega)
  replace hq := hq.frame ho (by first | assumption | (apply Ne.symm; assumption) | (simp; done) | omega)
  replace hz2 := hz2.frame ho (by first | assumption | (apply Ne.symm; assumption) | (simp; done) | omega)
  replace g4 := g4.frame hbx_ ho
  replace g5 := g5.frame hbx_ ho
  replace hz1 := hz1.store sb_hz1 (.slice o_hz1 n_hz1 c_hz1)
  replace hb := (hb.setCell (p := ⟨w.heap.size + 1 + 1, 0, none⟩) (show w.heap.size ≤ w.heap.size + 1 + 1 by first | assumption | (simp; done) | omega) (.bool sb_hz1)).setCell (p := ⟨w.heap.size + 1 + 1, 1, none⟩) (show w.heap.size ≤ w.heap.size + 1 + 1 by first | assumption | (simp; done) | omega) (.slice o_hz1 n_hz1 c_hz1)
  refine hK _ _ rfl (And.intro True.intro (And.intro (And.intro hz2.facts.1 hz2.facts.2.1) True.intro)) ?_
  clear hK K hbx_ ho c9_
  apply wpTail_call
  case hi => rfl
  case hw => kernel_rfl
  case h =>
  intro K hK
  have c9_ := hz2.facts
  go_big_op
  have ho := Bk.only ((w_15.setCell ⟨w.heap.size + 1 + 1, 0, none⟩ (.bool sb_hz1)).setCell ⟨w.heap.size + 1 + 1, 1, none⟩ (.slice o_hz1 n_hz1 c_hz1)) (w.heap.size + 1 + 1 + 1) sb_hz2 (.slice o_hz2 n_hz2 c_hz2)
  have hbx_ := hz2.bx
  replace hx := hx.frame hbx_ ho
  replace hy := hy.frame hbx_ ho
  replace hp := hp.frame ho (by first | assumption | (apply Ne.symm; assumption) | (simp; done) | omega)
  replace hq := hq.frame ho (by first | assumption | (apply Ne.symm; assumption) | (simp; done) | omega)
  replace hz1 := hz1.frame ho (by first | assumption | (apply Ne.symm; assumption) | (simp; done) | omega)
  replace g4 := g4.frame hbx_ ho
  replace g5 := g5.frame hbx_ ho
  replace hz2 := hz2.store sb_hz2 (.slice o_hz2 n_hz2 c_hz2)
  replace hb := (hb.setCell (p := ⟨w.heap.size + 1 + 1 + 1, 0, none⟩) (show w.heap.size ≤ w.heap.size + 1 + 1 + 1 by first | assumption | (simp; done) | omega) (.bool sb_hz2)).setCell (p := ⟨w.heap.size + 1 + 1 + 1, 1, none⟩) (show w.heap.size ≤ w.heap.size + 1 + 1 + 1 by first | assumption | (simp; done) | omega) (.slice o_hz2 n_hz2 c_hz2)
  refine hK _ _ rfl (And.intro True.intro (And.intro True.intro True.intro)) ?_
  clear hK K hbx_ ho c9_
  apply wpTail_move
  case hi => rfl
  case hw => kernel_rfl
  case h =>
  intro K hK
  go_big_move
  refine hK _ _ rfl rfl ?_
  clear hK K
  apply wpTail_end
  have f1 := hz1.facts
  have f2 := hz2.facts
  go_wp2
  refine bodyPost_ret (v := .tuple #[.agg #[.bool sb_hz1, .slice o_hz1 n_hz1 c_hz1], .agg #[.bool sb_hz2, .slice o_hz2 n_hz2 c_hz2], .int .i64 0]) (by simp [results, Tryz.results93, go_sem, f1.1, f1.2.1, f2.1, f2.2.1]) rfl ?_
  exact ⟨_, _, rfl, g4.mono (by omega), g5.mono (by omega), hb⟩
/-- zint.FloorDiv by a number that is not 0. -/
theorem fdiv_any {w : World} {va vb : Value} {x y : Int} {l m : Nat} (ha : ZN w va x l) (hb' : ZN w vb y m) (hl : l ≤ 400000000) (hm : m ≤ 400000000) (h0 : y ≠ 0) :
    Calls Tryz.prog 93 #[va, vb] w fun e w' => ∃ v1 v2, e = .returned (.tuple #[v1, v2, .int .i64 0]) ∧
      ZO w' w.heap.size v1 (x.fdiv y) ∧ ZO w' w.heap.size v2 (x.fmod y) ∧ Below w.heap.size w w' := by
  obtain ⟨na, oa, ca, xs, rfl, hca, hx, rfl, hxl⟩ := ha.open_
  obtain ⟨nb, ob, cb, ys, rfl, hcb, hy, rfl, hyl⟩ := hb'.open_
  have hv : val ys ≠ 0 := fun h => h0 (zv_zero.2 h)
  by_cases hr : val xs % val ys = 0
  · exact fdiv_plain hx hy (by omega) (by omega) hv hr
  · cases hd : (na != nb) with
    | false => exact fdiv_plain2 hx hy (by omega) (by omega) hv hr hd
    | true => exact fdiv_turned hx hy (by omega) (by omega) hv hr hd
end Go.Proofs.YtlomgfgedkkhkaaGreatDoor

