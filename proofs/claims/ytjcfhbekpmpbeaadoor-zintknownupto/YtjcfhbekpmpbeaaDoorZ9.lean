/- zint.Gcd, factorOfFirst. -/
import Derived.Test.YtjcfhbekpmpbeaaDoorZ8
import Derived.Deep.LoopGhost
namespace Go.Proofs.YtjcfhbekpmpbeaaDoor
open Go.RowKit Dig

set_option maxHeartbeats 2000000 in
set_option maxRecDepth 20000 in
/-- zint.Gcd. -/
theorem zgcd_any {w : World} {va vb : Value} {x y : Int} {l m : Nat} (ha : ZN w va x l) (hb' : ZN w vb y m) (hl : l ≤ 400000000) (hm : m ≤ 400000000) :
    Calls Tryd.prog 28 #[va, vb] w fun e w' => ∃ v', e = .returned v' ∧ ZO w' w.heap.size v' (Int.gcd x y) ∧ Below w.heap.size w w' := by
  obtain ⟨na, oa, ca, xs, rfl, hca, hx, hzx, hxl⟩ := ha.open_
  obtain ⟨nb, ob, cb, ys, rfl, hcb, hy, hzy, hyl⟩ := hb'.open_
  have E1 := hide (show (if false = true then -((Nat.gcd (val xs) (val ys) : Nat) : Int) else ((Nat.gcd (val xs) (val ys) : Nat) : Int)) = Int.gcd x y by
    unfold Int.gcd; rw [← hzx, ← hzy, zv_abs, zv_abs]; rfl)
  clear ha hb' hzx hzy
  go_enter Tryd.func28, Tryd.ntmps28
  have hb := Below.refl w.heap.size w
  have hp := Bk.new w na (.slice oa xs.length ca)
  replace hx := hx.alloc (.cells #[.bool na, (.slice oa xs.length ca)] 36)
  replace hy := hy.alloc (.cells #[.bool na, (.slice oa xs.length ca)] 36)
  replace hb := hb.alloc hb.size (.cells #[.bool na, (.slice oa xs.length ca)] 36)
  have hq := Bk.new (w.alloc (.cells #[.bool na, (.slice oa xs.length ca)] 36)) nb (.slice ob ys.length cb)
  simp only [Bk.size_alloc] at hq
  replace hx := hx.alloc (.cells #[.bool nb, (.slice ob ys.length cb)] 36)
  replace hy := hy.alloc (.cells #[.bool nb, (.slice ob ys.length cb)] 36)
  replace hp := hp.alloc (.cells #[.bool nb, (.slice ob ys.length cb)] 36)
  replace hb := hb.alloc hb.size (.cells #[.bool nb, (.slice ob ys.length cb)] 36)
  have hz := Bk.new ((w.alloc (.cells #[.bool na, (.slice oa xs.length ca)] 36)).alloc (.cells #[.bool nb, (.slice ob ys.length cb)] 36)) false (.slice none 0 0)
  simp only [Bk.size_alloc] at hz
  replace hx := hx.alloc (.cells #[.bool false, (.slice none 0 0)] 36)
  replace hy := hy.alloc (.cells #[.bool false, (.slice none 0 0)] 36)
  replace hp := hp.alloc (.cells #[.bool false, (.slice none 0 0)] 36)
  replace hq := hq.alloc (.cells #[.bool false, (.slice none 0 0)] 36)
  replace hb := hb.alloc hb.size (.cells #[.bool false, (.slice none 0 0)] 36)
  have f_hp := hp.facts
  have f_hq := hq.facts
  go_wp2_with fail
  refine (gcd_rd hx hy (by omega) (by omega)).mono ?_
  rintro e w_1 ⟨s1, rfl, h1, hb_1⟩
  replace hx := hx.below hb_1 (Nat.le_refl _)
  replace hy := hy.below hb_1 (Nat.le_refl _)
  replace hp := hp.below hb_1 (Nat.le_refl _)
  replace hq := hq.below hb_1 (Nat.le_refl _)
  replace hz := hz.below hb_1 (Nat.le_refl _)
  replace hb := hb.trans (hb_1.mono hb.size)
  clear hb_1
  clear f_hp f_hq
  go_wp2_with fail
  refine (signed_z _ h1 E1.out).mono ?_
  rintro e w_2 ⟨v1, rfl, g1, hb_2⟩
  replace hx := hx.below hb_2 (Nat.le_refl _)
  replace hy := hy.below hb_2 (Nat.le_refl _)
  replace hp := hp.below hb_2 (Nat.le_refl _)
  replace hq := hq.below hb_2 (Nat.le_refl _)
  replace hz := hz.below hb_2 (Nat.le_refl _)
  replace h1 := h1.below hb_2 (Nat.le_refl _)
  replace hb := hb.trans (hb_2.mono hb.size)
  clear hb_2
  clear h1
  obtain ⟨sb_hz, o_hz, n_hz, c_hz, rfl⟩ := g1.open2
  have f_hz := hz.facts
  have ho := Bk.only w_2 (w.heap.size + 1 + 1) sb_hz (.slice o_hz n_hz c_hz)
  have hbx_ := hz.bx
  replace hx := hx.frame hbx_ ho
  replace hy := hy.frame hbx_ ho
  replace hp := hp.frame ho (by first | assumption | (apply Ne.symm; assumption) | (simp; done) | omega)
  replace hq := hq.frame ho (by first | assumption | (apply Ne.symm; assumption) | (simp; done) | omega)
  replace g1 := g1.frame hbx_ ho
  replace hz := hz.store sb_hz (.slice o_hz n_hz c_hz)
  replace hb := (hb.setCell (p := ⟨w.heap.size + 1 + 1, 0, none⟩) (show w.heap.size ≤ w.heap.size + 1 + 1 by first | assumption | (simp; done) | omega) (.bool sb_hz)).setCell (p := ⟨w.heap.size + 1 + 1, 1, none⟩) (show w.heap.size ≤ w.heap.size + 1 + 1 by first | assumption | (simp; done) | omega) (.slice o_hz n_hz c_hz)
  clear ho hbx_
  obtain ⟨w_3, hw_3⟩ : ∃ v, ((w_2.setCell ⟨w.heap.size + 1 + 1, 0, none⟩ (.bool sb_hz)).setCell ⟨w.heap.size + 1 + 1, 1, none⟩ (.slice o_hz n_hz c_hz)) = v := ⟨_, rfl⟩
  rw [hw_3] at hx hy hp hq hz g1 hb
  have f1 := hz.facts
  go_wp2
  refine bodyPost_ret (v := .agg #[.bool sb_hz, .slice o_hz n_hz c_hz]) (by simp [results, Tryd.results28, go_sem, f1.1, f1.2.1]) rfl ?_
  exact ⟨_, rfl, g1.mono (by simp; omega), hb⟩

/-- How far the search has come: G and k are left; X and Y tell how often a is in them, but for multiples of b. -/
structure FF (x y G k X Y : Int) : Prop where
  k0 : 0 ≤ k
  kG : k < G
  Gy : G ≤ y
  gcd : Int.gcd G k = Int.gcd x y
  d1 : y ∣ G - x * X
  d2 : y ∣ k - x * Y
  s : ∃ a b : Int, 0 ≤ a ∧ 0 ≤ b ∧ a ≤ y ∧ b ≤ y ∧ a * k + b * G = y ∧ ((X = -a ∧ Y = b) ∨ (X = a ∧ Y = -b))

theorem FF.start {x y : Int} (hy : 0 < y) : FF x y y (x.fmod y) 0 1 := by
  have hb := (fmod_bd (x := x) (y := y) (by omega)).1 hy
  have he := fmod_eq x y
  refine ⟨hb.1, hb.2, Int.le_refl _, ?_, ?_, ?_, 0, 1, by omega, by omega, by omega, by omega, by omega, .inl ⟨by omega, rfl⟩⟩
  · have h1 : x.fmod y = x - x.fdiv y * y := by omega
    rw [h1, Int.gcd_comm x y, Int.gcd_sub_mul_right_right]
  · rw [Int.mul_zero, Int.sub_zero]; exact Int.dvd_refl y
  · exact ⟨-x.fdiv y, by rw [Int.mul_neg, Int.mul_comm y, Int.mul_one]; omega⟩

theorem FF.step {x y G k X Y : Int} (h : FF x y G k X Y) (hk : 0 < k) : FF x y k (G.fmod k) Y (X - G.fdiv k * Y) := by
  obtain ⟨k0, kG, Gy, hg, d1, d2, a, b, ha, hb, hay, hby, hs, hXY⟩ := h
  have hr := (fmod_bd (x := G) (y := k) (by omega)).1 hk
  have he := fmod_eq G k
  obtain ⟨q, hq⟩ : ∃ q, G.fdiv k = q := ⟨_, rfl⟩
  obtain ⟨r, hr2⟩ : ∃ r, G.fmod k = r := ⟨_, rfl⟩
  rw [hq, hr2] at he
  rw [hr2] at hr
  rw [hq, hr2]
  have hq0 : 0 ≤ q := by
    rcases Int.lt_or_le q 0 with h1 | h1
    · have := Int.mul_le_mul_of_nonneg_right (show q ≤ -1 by omega) (show 0 ≤ k by omega)
      omega
    · exact h1
  have e1 : b * r + (a + q * b) * k = y := by
    rw [← hs, he, Int.add_mul, Int.mul_add, Int.mul_right_comm q b k, Int.mul_comm b (q * k)]; omega
  refine ⟨hr.1, hr.2, by omega, ?_, d2, ?_, b, a + q * b, hb, ?_, hby, ?_, e1, ?_⟩
  · have h1 : r = G - q * k := by omega
    rw [← hg, h1, Int.gcd_sub_mul_right_right, Int.gcd_comm]
  · have h1 : r - x * (X - q * Y) = (G - x * X) - q * (k - x * Y) := by
      rw [he, Int.mul_sub, Int.mul_sub, Int.mul_left_comm x q Y]; omega
    rw [h1]
    exact Int.dvd_sub d1 (Int.dvd_mul_of_dvd_right d2)
  · exact Int.add_nonneg ha (Int.mul_nonneg hq0 hb)
  · have h1 : 0 ≤ b * r := Int.mul_nonneg hb hr.1
    have h2 : (a + q * b) * 1 ≤ (a + q * b) * k := Int.mul_le_mul_of_nonneg_left (by omega) (Int.add_nonneg ha (Int.mul_nonneg hq0 hb))
    omega
  · rcases hXY with ⟨rfl, rfl⟩ | ⟨rfl, rfl⟩
    · right; exact ⟨rfl, by omega⟩
    · left; exact ⟨rfl, by rw [Int.mul_neg]; omega⟩

theorem FF.bd {x y G k X Y : Int} (h : FF x y G k X Y) : X.natAbs ≤ y.natAbs ∧ Y.natAbs ≤ y.natAbs ∧ G.natAbs ≤ y.natAbs ∧ k.natAbs ≤ y.natAbs := by
  obtain ⟨k0, kG, Gy, hg, d1, d2, a, b, ha, hb, hay, hby, hs, hXY⟩ := h
  rcases hXY with ⟨rfl, rfl⟩ | ⟨rfl, rfl⟩ <;> omega
theorem len_le {n m l : Nat} (h : n ≤ m) (hm : (dig m).length ≤ l) : (dig n).length ≤ l :=
  dig_length_le (Nat.lt_of_le_of_lt h (Nat.lt_of_lt_of_le (lt_pw_dig m) (pw_mono hm)))
theorem zo_zero (w : World) (B : Nat) : ZO w B (.agg #[.bool false, .slice none 0 0]) 0 := ⟨_, rfl, by rw [show dig (Int.natAbs 0) = [] from dig_eq_nil.2 rfl]; exact Own.nil w B none⟩

/-- What the loop of factorOfFirst keeps: the blocks of g, x, next, nextX and what they hold. -/
def FFrel (w : World) (A2 A3 A4 A5 A7 A9 : Nat) (va vb : Bool × Value) (x y : Int) (m : Nat) (k : Nat) (wr : World) : Prop :=
  ∃ (G X Y : Int) (s4 s5 s7 s9 : Bool) (o4 o5 o7 o9 : Option Addr) (n4 n5 n7 n9 c4 c5 c7 c9 : Nat), FF x y G k X Y ∧ Below w.heap.size w wr ∧
    Bk wr A2 va.1 va.2 ∧ Bk wr A3 vb.1 vb.2 ∧ ZN wr (.agg #[.bool vb.1, vb.2]) y m ∧
    Bk wr A4 s4 (.slice o4 n4 c4) ∧ Bk wr A5 s5 (.slice o5 n5 c5) ∧ Bk wr A7 s7 (.slice o7 n7 c7) ∧ Bk wr A9 s9 (.slice o9 n9 c9) ∧
    ZO wr w.heap.size (.agg #[.bool s4, .slice o4 n4 c4]) G ∧ ZO wr w.heap.size (.agg #[.bool s5, .slice o5 n5 c5]) X ∧ ZO wr w.heap.size (.agg #[.bool s7, .slice o7 n7 c7]) (k : Int) ∧ ZO wr w.heap.size (.agg #[.bool s9, .slice o9 n9 c9]) Y

set_option maxHeartbeats 4000000 in
set_option maxRecDepth 20000 in
/-- zint.factorOfFirst. -/
theorem ff_any {w : World} {va vb : Value} {x y : Int} {l m : Nat} (ha : ZN w va x l) (hb' : ZN w vb y m) (hl : l ≤ 100000000) (hm : m ≤ 100000000) (h0 : 0 < y) :
    Calls Tryd.prog 53 #[va, vb] w fun e w' => ∃ v1 v2, e = .returned (.tuple #[v1, v2]) ∧ (∃ X : Int, ZO w' w.heap.size v1 (Int.gcd x y) ∧ ZO w' w.heap.size v2 X ∧ y ∣ (Int.gcd x y : Int) - x * X ∧ X.natAbs ≤ y.natAbs) ∧ Below w.heap.size w w' := by
  have Ly := hb'.len
  have LY := hide Ly
  have HF := hide (FF.start (x := x) h0)
  have HY := hide h0
  have HN := hide (show y ≠ 0 by omega)
  have EA := hide (show ((y.natAbs : Nat) : Int) = y by omega)
  obtain ⟨N, hN⟩ : ∃ N : Nat, x.fmod y = (N : Int) := ⟨(x.fmod y).toNat, by have := HF.out.k0; omega⟩
  have HNN := hide hN
  clear h0 Ly hN
  obtain ⟨na, oa, ca, xs, rfl, hca, _, _, hxl⟩ := ha.open_
  obtain ⟨nb, ob, cb, ys, rfl, hcb, _, _, hyl⟩ := hb'.open_
  have z0 := zo_zero
  go_enter Tryd.func53, Tryd.ntmps53
  have hb := Below.refl w.heap.size w
  have hp := Bk.new w na (.slice oa xs.length ca)
  replace ha := ha.alloc (.cells #[.bool na, (.slice oa xs.length ca)] 36)
  replace hb' := hb'.alloc (.cells #[.bool na, (.slice oa xs.length ca)] 36)
  replace hb := hb.alloc hb.size (.cells #[.bool na, (.slice oa xs.length ca)] 36)
  have hq := Bk.new (w.alloc (.cells #[.bool na, (.slice oa xs.length ca)] 36)) nb (.slice ob ys.length cb)
  simp only [Bk.size_alloc] at hq
  replace ha := ha.alloc (.cells #[.bool nb, (.slice ob ys.length cb)] 36)
  replace hb' := hb'.alloc (.cells #[.bool nb, (.slice ob ys.length cb)] 36)
  replace hp := hp.alloc (.cells #[.bool nb, (.slice ob ys.length cb)] 36)
  replace hb := hb.alloc hb.size (.cells #[.bool nb, (.slice ob ys.length cb)] 36)
  have hz1 := Bk.new ((w.alloc (.cells #[.bool na, (.slice oa xs.length ca)] 36)).alloc (.cells #[.bool nb, (.slice ob ys.length cb)] 36)) false (.slice none 0 0)
  simp only [Bk.size_alloc] at hz1
  replace ha := ha.alloc (.cells #[.bool false, (.slice none 0 0)] 36)
  replace hb' := hb'.alloc (.cells #[.bool false, (.slice none 0 0)] 36)
  replace hp := hp.alloc (.cells #[.bool false, (.slice none 0 0)] 36)
  replace hq := hq.alloc (.cells #[.bool false, (.slice none 0 0)] 36)
  replace hb := hb.alloc hb.size (.cells #[.bool false, (.slice none 0 0)] 36)
  have hz2 := Bk.new (((w.alloc (.cells #[.bool na, (.slice oa xs.length ca)] 36)).alloc (.cells #[.bool nb, (.slice ob ys.length cb)] 36)).alloc (.cells #[.bool false, (.slice none 0 0)] 36)) false (.slice none 0 0)
  simp only [Bk.size_alloc] at hz2
  replace ha := ha.alloc (.cells #[.bool false, (.slice none 0 0)] 36)
  replace hb' := hb'.alloc (.cells #[.bool false, (.slice none 0 0)] 36)
  replace hp := hp.alloc (.cells #[.bool false, (.slice none 0 0)] 36)
  replace hq := hq.alloc (.cells #[.bool false, (.slice none 0 0)] 36)
  replace hz1 := hz1.alloc (.cells #[.bool false, (.slice none 0 0)] 36)
  replace hb := hb.alloc hb.size (.cells #[.bool false, (.slice none 0 0)] 36)
  clear z0
  have f_hp := hp.facts
  have f_hq := hq.facts
  go_wp2_with fail
  refine (fdiv_any ha hb' (by omega) (by omega) HN.out).mono ?_
  rintro e w_1 ⟨v1, v2, rfl, g1, g2, hb_1⟩
  replace ha := ha.below hb_1 (Nat.le_refl _)
  replace hb' := hb'.below hb_1 (Nat.le_refl _)
  replace hp := hp.below hb_1 (Nat.le_refl _)
  replace hq := hq.below hb_1 (Nat.le_refl _)
  replace hz1 := hz1.below hb_1 (Nat.le_refl _)
  replace hz2 := hz2.below hb_1 (Nat.le_refl _)
  replace hb := hb.trans (hb_1.mono hb.size)
  clear hb_1
  rw [HNN.out] at g2
  clear f_hp f_hq
  have kb_h6 := hb.size
  have ne_hp_h6 : w.heap.size ≠ w_1.heap.size := by have := hp.lt; (try simp only [Bk.size_alloc] at this); omega
  have ne_hq_h6 : w.heap.size + 1 ≠ w_1.heap.size := by have := hq.lt; (try simp only [Bk.size_alloc] at this); omega
  have ne_hz1_h6 : w.heap.size + 1 + 1 ≠ w_1.heap.size := by have := hz1.lt; (try simp only [Bk.size_alloc] at this); omega
  have ne_hz2_h6 : w.heap.size + 1 + 1 + 1 ≠ w_1.heap.size := by have := hz2.lt; (try simp only [Bk.size_alloc] at this); omega
  have h6 := Bk.new w_1 false (.slice none 0 0)
  replace ha := ha.alloc (.cells #[.bool false, (.slice none 0 0)] 36)
  replace hb' := hb'.alloc (.cells #[.bool false, (.slice none 0 0)] 36)
  replace hp := hp.alloc (.cells #[.bool false, (.slice none 0 0)] 36)
  replace hq := hq.alloc (.cells #[.bool false, (.slice none 0 0)] 36)
  replace hz1 := hz1.alloc (.cells #[.bool false, (.slice none 0 0)] 36)
  replace hz2 := hz2.alloc (.cells #[.bool false, (.slice none 0 0)] 36)
  replace g1 := g1.alloc (.cells #[.bool false, (.slice none 0 0)] 36)
  replace g2 := g2.alloc (.cells #[.bool false, (.slice none 0 0)] 36)
  replace hb := hb.alloc hb.size (.cells #[.bool false, (.slice none 0 0)] 36)
  obtain ⟨w_2, hw_2⟩ : ∃ v, (w_1.alloc (.cells #[.bool false, (.slice none 0 0)] 36)) = v := ⟨_, rfl⟩
  rw [hw_2] at ha hb' hp hq hz1 hz2 g1 g2 h6 hb
  have kb_h7 := hb.size
  have ne_hp_h7 : w.heap.size ≠ w_2.heap.size := by have := hp.lt; (try simp only [Bk.size_alloc] at this); omega
  have ne_hq_h7 : w.heap.size + 1 ≠ w_2.heap.size := by have := hq.lt; (try simp only [Bk.size_alloc] at this); omega
  have ne_hz1_h7 : w.heap.size + 1 + 1 ≠ w_2.heap.size := by have := hz1.lt; (try simp only [Bk.size_alloc] at this); omega
  have ne_hz2_h7 : w.heap.size + 1 + 1 + 1 ≠ w_2.heap.size := by have := hz2.lt; (try simp only [Bk.size_alloc] at this); omega
  have ne_h6_h7 : w_1.heap.size ≠ w_2.heap.size := by have := h6.lt; (try simp only [Bk.size_alloc] at this); omega
  have h7 := Bk.new w_2 false (.slice none 0 0)
  replace ha := ha.alloc (.cells #[.bool false, (.slice none 0 0)] 36)
  replace hb' := hb'.alloc (.cells #[.bool false, (.slice none 0 0)] 36)
  replace hp := hp.alloc (.cells #[.bool false, (.slice none 0 0)] 36)
  replace hq := hq.alloc (.cells #[.bool false, (.slice none 0 0)] 36)
  replace hz1 := hz1.alloc (.cells #[.bool false, (.slice none 0 0)] 36)
  replace hz2 := hz2.alloc (.cells #[.bool false, (.slice none 0 0)] 36)
  replace g1 := g1.alloc (.cells #[.bool false, (.slice none 0 0)] 36)
  replace g2 := g2.alloc (.cells #[.bool false, (.slice none 0 0)] 36)
  replace h6 := h6.alloc (.cells #[.bool false, (.slice none 0 0)] 36)
  replace hb := hb.alloc hb.size (.cells #[.bool false, (.slice none 0 0)] 36)
  obtain ⟨w_3, hw_3⟩ : ∃ v, (w_2.alloc (.cells #[.bool false, (.slice none 0 0)] 36)) = v := ⟨_, rfl⟩
  rw [hw_3] at ha hb' hp hq hz1 hz2 g1 g2 h6 h7 hb
  obtain ⟨sb_h6, o_h6, n_h6, c_h6, rfl⟩ := g1.open2
  have f_h6 := h6.facts
  have ho := Bk.only w_3 (w_1.heap.size) sb_h6 (.slice o_h6 n_h6 c_h6)
  have hbx_ := h6.bx
  replace ha := ha.frame hbx_ ho
  replace hb' := hb'.frame hbx_ ho
  replace hp := hp.frame ho (by first | assumption | (apply Ne.symm; assumption) | (simp; done) | omega)
  replace hq := hq.frame ho (by first | assumption | (apply Ne.symm; assumption) | (simp; done) | omega)
  replace hz1 := hz1.frame ho (by first | assumption | (apply Ne.symm; assumption) | (simp; done) | omega)
  replace hz2 := hz2.frame ho (by first | assumption | (apply Ne.symm; assumption) | (simp; done) | omega)
  replace g1 := g1.frame hbx_ ho
  replace g2 := g2.frame hbx_ ho
  replace h7 := h7.frame ho (by first | assumption | (apply Ne.symm; assumption) | (simp; done) | omega)
  replace h6 := h6.store sb_h6 (.slice o_h6 n_h6 c_h6)
  replace hb := (hb.setCell (p := ⟨w_1.heap.size, 0, none⟩) (show w.heap.size ≤ w_1.heap.size by first | assumption | (simp; done) | omega) (.bool sb_h6)).setCell (p := ⟨w_1.heap.size, 1, none⟩) (show w.heap.size ≤ w_1.heap.size by first | assumption | (simp; done) | omega) (.slice o_h6 n_h6 c_h6)
  clear ho hbx_
  obtain ⟨w_4, hw_4⟩ : ∃ v, ((w_3.setCell ⟨w_1.heap.size, 0, none⟩ (.bool sb_h6)).setCell ⟨w_1.heap.size, 1, none⟩ (.slice o_h6 n_h6 c_h6)) = v := ⟨_, rfl⟩
  rw [hw_4] at ha hb' hp hq hz1 hz2 g1 g2 h6 h7 hb
  obtain ⟨sb_h7, o_h7, n_h7, c_h7, rfl⟩ := g2.open2
  have f_h7 := h7.facts
  have ho := Bk.only w_4 (w_2.heap.size) sb_h7 (.slice o_h7 n_h7 c_h7)
  have hbx_ := h7.bx
  replace ha := ha.frame hbx_ ho
  replace hb' := hb'.frame hbx_ ho
  replace hp := hp.frame ho (by first | assumption | (apply Ne.symm; assumption) | (simp; done) | omega)
  replace hq := hq.frame ho (by first | assumption | (apply Ne.symm; assumption) | (simp; done) | omega)
  replace hz1 := hz1.frame ho (by first | assumption | (apply Ne.symm; assumption) | (simp; done) | omega)
  replace hz2 := hz2.frame ho (by first | assumption | (apply Ne.symm; assumption) | (simp; done) | omega)
  replace g1 := g1.frame hbx_ ho
  replace g2 := g2.frame hbx_ ho
  replace h6 := h6.frame ho (by first | assumption | (apply Ne.symm; assumption) | (simp; done) | omega)
  replace h7 := h7.store sb_h7 (.slice o_h7 n_h7 c_h7)
  replace hb := (hb.setCell (p := ⟨w_2.heap.size, 0, none⟩) (show w.heap.size ≤ w_2.heap.size by first | assumption | (simp; done) | omega) (.bool sb_h7)).setCell (p := ⟨w_2.heap.size, 1, none⟩) (show w.heap.size ≤ w_2.heap.size by first | assumption | (simp; done) | omega) (.slice o_h7 n_h7 c_h7)
  clear ho hbx_
  obtain ⟨w_5, hw_5⟩ : ∃ v, ((w_4.setCell ⟨w_2.heap.size, 0, none⟩ (.bool sb_h7)).setCell ⟨w_2.heap.size, 1, none⟩ (.slice o_h7 n_h7 c_h7)) = v := ⟨_, rfl⟩
  rw [hw_5] at ha hb' hp hq hz1 hz2 g1 g2 h6 h7 hb
  have f_hq := hq.facts
  go_wp2_with fail
  refine (zabs_any hb' (by omega)).mono ?_
  rintro e w_6 ⟨v3, rfl, g3, hb_6⟩
  replace ha := ha.below hb_6 (Nat.le_refl _)
  replace hb' := hb'.below hb_6 (Nat.le_refl _)
  replace hp := hp.below hb_6 (Nat.le_refl _)
  replace hq := hq.below hb_6 (Nat.le_refl _)
  replace hz1 := hz1.below hb_6 (Nat.le_refl _)
  replace hz2 := hz2.below hb_6 (Nat.le_refl _)
  replace g1 := g1.below hb_6 (Nat.le_refl _)
  replace g2 := g2.below hb_6 (Nat.le_refl _)
  replace h6 := h6.below hb_6 (Nat.le_refl _)
  replace h7 := h7.below hb_6 (Nat.le_refl _)
  have kk3 := hb.size
  replace hb := hb.trans (hb_6.mono hb.size)
  clear hb_6
  rw [EA.out] at g3
  clear g1
  clear f_hq f_h6 f_h7
  go_wp2_with fail
  refine (from_any (1 : Int) _ (by decide) (by decide)).mono ?_
  rintro e w_7 ⟨v4, rfl, g4, hb_7⟩
  replace ha := ha.below hb_7 (Nat.le_refl _)
  replace hb' := hb'.below hb_7 (Nat.le_refl _)
  replace hp := hp.below hb_7 (Nat.le_refl _)
  replace hq := hq.below hb_7 (Nat.le_refl _)
  replace hz1 := hz1.below hb_7 (Nat.le_refl _)
  replace hz2 := hz2.below hb_7 (Nat.le_refl _)
  replace g2 := g2.below hb_7 (Nat.le_refl _)
  replace h6 := h6.below hb_7 (Nat.le_refl _)
  replace h7 := h7.below hb_7 (Nat.le_refl _)
  replace g3 := g3.below hb_7 (Nat.le_refl _)
  have kk4 := hb.size
  replace hb := hb.trans (hb_7.mono hb.size)
  clear hb_7
  have kb_h9 := hb.size
  have ne_hp_h9 : w.heap.size ≠ w_7.heap.size := by have := hp.lt; (try simp only [Bk.size_alloc] at this); omega
  have ne_hq_h9 : w.heap.size + 1 ≠ w_7.heap.size := by have := hq.lt; (try simp only [Bk.size_alloc] at this); omega
  have ne_hz1_h9 : w.heap.size + 1 + 1 ≠ w_7.heap.size := by have := hz1.lt; (try simp only [Bk.size_alloc] at this); omega
  have ne_hz2_h9 : w.heap.size + 1 + 1 + 1 ≠ w_7.heap.size := by have := hz2.lt; (try simp only [Bk.size_alloc] at this); omega
  have ne_h6_h9 : w_1.heap.size ≠ w_7.heap.size := by have := h6.lt; (try simp only [Bk.size_alloc] at this); omega
  have ne_h7_h9 : w_2.heap.size ≠ w_7.heap.size := by have := h7.lt; (try simp only [Bk.size_alloc] at this); omega
  have h9 := Bk.new w_7 false (.slice none 0 0)
  replace ha := ha.alloc (.cells #[.bool false, (.slice none 0 0)] 36)
  replace hb' := hb'.alloc (.cells #[.bool false, (.slice none 0 0)] 36)
  replace hp := hp.alloc (.cells #[.bool false, (.slice none 0 0)] 36)
  replace hq := hq.alloc (.cells #[.bool false, (.slice none 0 0)] 36)
  replace hz1 := hz1.alloc (.cells #[.bool false, (.slice none 0 0)] 36)
  replace hz2 := hz2.alloc (.cells #[.bool false, (.slice none 0 0)] 36)
  replace g2 := g2.alloc (.cells #[.bool false, (.slice none 0 0)] 36)
  replace h6 := h6.alloc (.cells #[.bool false, (.slice none 0 0)] 36)
  replace h7 := h7.alloc (.cells #[.bool false, (.slice none 0 0)] 36)
  replace g3 := g3.alloc (.cells #[.bool false, (.slice none 0 0)] 36)
  replace g4 := g4.alloc (.cells #[.bool false, (.slice none 0 0)] 36)
  replace hb := hb.alloc hb.size (.cells #[.bool false, (.slice none 0 0)] 36)
  obtain ⟨w_8, hw_8⟩ : ∃ v, (w_7.alloc (.cells #[.bool false, (.slice none 0 0)] 36)) = v := ⟨_, rfl⟩
  rw [hw_8] at ha hb' hp hq hz1 hz2 g2 h6 h7 g3 g4 h9 hb
  obtain ⟨sb_hz1, o_hz1, n_hz1, c_hz1, rfl⟩ := g3.open2
  have f_hz1 := hz1.facts
  have ho := Bk.only w_8 (w.heap.size + 1 + 1) sb_hz1 (.slice o_hz1 n_hz1 c_hz1)
  have hbx_ := hz1.bx
  replace ha := ha.frame hbx_ ho
  replace hb' := hb'.frame hbx_ ho
  replace hp := hp.frame ho (by first | assumption | (apply Ne.symm; assumption) | (simp; done) | omega)
  replace hq := hq.frame ho (by first | assumption | (apply Ne.symm; assumption) | (simp; done) | omega)
  replace hz2 := hz2.frame ho (by first | assumption | (apply Ne.symm; assumption) | (simp; done) | omega)
  replace g2 := g2.frame hbx_ ho
  replace h6 := h6.frame ho (by first | assumption | (apply Ne.symm; assumption) | (simp; done) | omega)
  replace h7 := h7.frame ho (by first | assumption | (apply Ne.symm; assumption) | (simp; done) | omega)
  replace g3 := g3.frame hbx_ ho
  replace g4 := g4.frame hbx_ ho
  replace h9 := h9.frame ho (by first | assumption | (apply Ne.symm; assumption) | (simp; done) | omega)
  replace hz1 := hz1.store sb_hz1 (.slice o_hz1 n_hz1 c_hz1)
  replace hb := (hb.setCell (p := ⟨w.heap.size + 1 + 1, 0, none⟩) (show w.heap.size ≤ w.heap.size + 1 + 1 by first | assumption | (simp; done) | omega) (.bool sb_hz1)).setCell (p := ⟨w.heap.size + 1 + 1, 1, none⟩) (show w.heap.size ≤ w.heap.size + 1 + 1 by first | assumption | (simp; done) | omega) (.slice o_hz1 n_hz1 c_hz1)
  clear ho hbx_
  obtain ⟨w_9, hw_9⟩ : ∃ v, ((w_8.setCell ⟨w.heap.size + 1 + 1, 0, none⟩ (.bool sb_hz1)).setCell ⟨w.heap.size + 1 + 1, 1, none⟩ (.slice o_hz1 n_hz1 c_hz1)) = v := ⟨_, rfl⟩
  rw [hw_9] at ha hb' hp hq hz1 hz2 g2 h6 h7 g3 g4 h9 hb
  obtain ⟨sb_h9, o_h9, n_h9, c_h9, rfl⟩ := g4.open2
  have f_h9 := h9.facts
  have ho := Bk.only w_9 (w_7.heap.size) sb_h9 (.slice o_h9 n_h9 c_h9)
  have hbx_ := h9.bx
  replace ha := ha.frame hbx_ ho
  replace hb' := hb'.frame hbx_ ho
  replace hp := hp.frame ho (by first | assumption | (apply Ne.symm; assumption) | (simp; done) | omega)
  replace hq := hq.frame ho (by first | assumption | (apply Ne.symm; assumption) | (simp; done) | omega)
  replace hz1 := hz1.frame ho (by first | assumption | (apply Ne.symm; assumption) | (simp; done) | omega)
  replace hz2 := hz2.frame ho (by first | assumption | (apply Ne.symm; assumption) | (simp; done) | omega)
  replace g2 := g2.frame hbx_ ho
  replace h6 := h6.frame ho (by first | assumption | (apply Ne.symm; assumption) | (simp; done) | omega)
  replace h7 := h7.frame ho (by first | assumption | (apply Ne.symm; assumption) | (simp; done) | omega)
  replace g3 := g3.frame hbx_ ho
  replace g4 := g4.frame hbx_ ho
  replace h9 := h9.store sb_h9 (.slice o_h9 n_h9 c_h9)
  replace hb := (hb.setCell (p := ⟨w_7.heap.size, 0, none⟩) (show w.heap.size ≤ w_7.heap.size by first | assumption | (simp; done) | omega) (.bool sb_h9)).setCell (p := ⟨w_7.heap.size, 1, none⟩) (show w.heap.size ≤ w_7.heap.size by first | assumption | (simp; done) | omega) (.slice o_h9 n_h9 c_h9)
  clear ho hbx_
  obtain ⟨w_10, hw_10⟩ : ∃ v, ((w_9.setCell ⟨w_7.heap.size, 0, none⟩ (.bool sb_h9)).setCell ⟨w_7.heap.size, 1, none⟩ (.slice o_h9 n_h9 c_h9)) = v := ⟨_, rfl⟩
  rw [hw_10] at ha hb' hp hq hz1 hz2 g2 h6 h7 g3 g4 h9 hb
  go_wp2_with fail
  have hz2o := zo_zero w_10 w.heap.size
  have NE := hide (And.intro (show (w.heap.size + 1 + 1) ≠ (w_2.heap.size) by omega) (And.intro (show (w.heap.size + 1 + 1) ≠ (w_7.heap.size) by omega) (And.intro (show (w.heap.size + 1 + 1 + 1) ≠ (w_2.heap.size) by omega) (And.intro (show (w.heap.size + 1 + 1 + 1) ≠ (w_7.heap.size) by omega) (And.intro (show (w_2.heap.size) ≠ (w_7.heap.size) by omega) (And.intro (show w.heap.size ≤ (w_2.heap.size) by omega) (show w.heap.size ≤ (w_7.heap.size) by omega)))))))
  have NE2 := hide (And.intro (show (w.heap.size) ≠ (w_2.heap.size) by omega) (And.intro (show (w.heap.size) ≠ (w_7.heap.size) by omega) (And.intro (show (w.heap.size + 1) ≠ (w_2.heap.size) by omega) (show (w.heap.size + 1) ≠ (w_7.heap.size) by omega))))
  have hstart : FFrel w (w.heap.size) (w.heap.size + 1) (w.heap.size + 1 + 1) (w.heap.size + 1 + 1 + 1) (w_2.heap.size) (w_7.heap.size) (na, .slice oa xs.length ca) (nb, .slice ob ys.length cb) x y m N w_10 :=
    ⟨y, 0, 1, _, _, _, _, _, _, _, _, _, _, _, _, _, _, _, _, by rw [← HNN.out]; exact HF.out, hb, hp, hq, hb', hz1, hz2, h7, h9, g3.mono (by omega), hz2o, g2.mono (by simp; omega), g4.mono (by omega)⟩
  clear hz2o hb hp hq ha hb' hz1 hz2 h6 h7 h9 g2 g3 g4
  go_loopg [] N (fun k wr => FFrel w (w.heap.size) (w.heap.size + 1) (w.heap.size + 1 + 1) (w.heap.size + 1 + 1 + 1) (w_2.heap.size) (w_7.heap.size) (na, .slice oa xs.length ca) (nb, .slice ob ys.length cb) x y m k wr)
  case atStart => exact hstart
  case round =>
    obtain ⟨G, X, Y, s4, s5, s7, s9, o4, o5, o7, o9, n4, n5, n7, n9, c4, c5, c7, c9, hff, hb, hp, hq, hb', hz1, hz2, h7, h9, g4, g5, g7, g9⟩ := hrel
    obtain ⟨b1, b2, b3, b4⟩ := hff.bd
    have HFF := hide hff
    have LG := hide (len_le b3 LY.out)
    have LK := hide (len_le b4 LY.out)
    have LX := hide (len_le b1 LY.out)
    have LYY := hide (len_le b2 LY.out)
    obtain ⟨e1, e2, e3, e4, e5, e6, e7⟩ := NE.out
    obtain ⟨e8, e9, e10, e11⟩ := NE2.out
    clear b1 b2 b3 b4 hff
    by_cases hk : gk = 0
    · have HG := hide (show G = (Int.gcd x y : Int) by
        have h1 := HFF.out.gcd
        have h2 := HFF.out.kG
        rw [hk] at h1 h2
        rw [← h1]
        have : Int.gcd G ((0 : Nat) : Int) = G.natAbs := Int.gcd_zero_right G
        rw [this]
        omega)
      have HX := hide (And.intro (show y ∣ (Int.gcd x y : Int) - x * X by rw [← HG.out]; exact HFF.out.d1) HFF.out.bd.1)
      subst hk
      have q0 : ((0 : Int) != 0) = false := rfl
      rw [HG.out] at g4
      have f_h7 := h7.facts
      go_wp2_with fail
      refine (zsign_any (g7.zn LK.out) (by omega)).mono ?_
      rintro e w_11 ⟨rfl, hb_11⟩
      replace g4 := g4.below hb_11 (Nat.le_refl _)
      replace g5 := g5.below hb_11 (Nat.le_refl _)
      replace hp := hp.below hb_11 (Nat.le_refl _)
      replace hq := hq.below hb_11 (Nat.le_refl _)
      replace hz1 := hz1.below hb_11 (Nat.le_refl _)
      replace hz2 := hz2.below hb_11 (Nat.le_refl _)
      replace h7 := h7.below hb_11 (Nat.le_refl _)
      replace h9 := h9.below hb_11 (Nat.le_refl _)
      replace hb := hb.trans (hb_11.mono hb.size)
      clear hb_11
      clear f_h7
      replace g4 := g4.drew
      replace g5 := g5.drew
      replace hp := hp.drew
      replace hq := hq.drew
      replace hz1 := hz1.drew
      replace hz2 := hz2.drew
      replace h7 := h7.drew
      replace h9 := h9.drew
      replace hb := hb.drew
      have lt_hp := hp.lt
      have lt_hq := hq.lt
      have lt_hz1 := hz1.lt
      have lt_hz2 := hz2.lt
      have lt_h7 := h7.lt
      have lt_h9 := h9.lt
      have kb0 := hb.size
      go_wp2_with fail
      refine wp_region_fl [(0, false), (1, false)] [2, 3] [] (fun _ => obZ) [0, 1, 99, 99] [(2, 0), (3, 0), (3, 1)] (fun w' => w'.cell? ⟨w.heap.size + 1 + 1, 0, none⟩ = some (.bool s4) ∧ w'.cell? ⟨w.heap.size + 1 + 1, 1, none⟩ = some (.slice o4 n4 c4) ∧ w'.cell? ⟨w.heap.size + 1 + 1 + 1, 0, none⟩ = some (.bool s5) ∧ w'.cell? ⟨w.heap.size + 1 + 1 + 1, 1, none⟩ = some (.slice o5 n5 c5)) [fun w' => w'.cell? ⟨w.heap.size + 1 + 1, 0, none⟩ = some (.bool s4) ∧ w'.cell? ⟨w.heap.size + 1 + 1, 1, none⟩ = some (.slice o4 n4 c4), fun w' => w'.cell? ⟨w.heap.size + 1 + 1 + 1, 0, none⟩ = some (.bool s5) ∧ w'.cell? ⟨w.heap.size + 1 + 1 + 1, 1, none⟩ = some (.slice o5 n5 c5)] (by kernel_rfl) (by kernel_rfl) (by kernel_rfl) (by kernel_rfl) (by kernel_rfl) (by kernel_rfl) (by kernel_rfl) (by kernel_rfl) (by decide) (by intro j hj; cases hj) (by intro w' o hC; obtain ⟨c0, c1, c2, c3⟩ := hC; exact ⟨cell_alloc c0 o, cell_alloc c1 o, cell_alloc c2 o, cell_alloc c3 o⟩) (by intro w' hC G hG; obtain ⟨c0, c1, c2, c3⟩ := hC; simp only [List.mem_cons, List.not_mem_nil, or_false] at hG; rcases hG with rfl | rfl <;> first | exact ⟨c0, c1⟩ | exact ⟨c2, c3⟩) ⟨hz1.facts.1, hz1.facts.2.1, hz2.facts.1, hz2.facts.2.1⟩ ?_
      apply wpFl_ld
      case hG => rfl
      case hi => rfl
      case h1 => intro w' hC K hK; obtain ⟨c0, c1⟩ := hC; (first | go_big_move | go_big_op); exact hK
      case hw => kernel_rfl
      case hv => kernel_rfl
      case hb => kernel_rfl
      case hp => kernel_rfl
      apply wpFl_ld
      case hG => rfl
      case hi => rfl
      case h1 => intro w' hC K hK; obtain ⟨c0, c1⟩ := hC; (first | go_big_move | go_big_op); exact hK
      case hw => kernel_rfl
      case hv => kernel_rfl
      case hb => kernel_rfl
      case hp => kernel_rfl
      apply wpFl_end
      case ha => intro pt; simp only [putF]; rfl
      case h =>
      intro w_12 pt hn hC hF hD
      clear hC
      replace g4 := g4.below hn (Nat.le_refl _)
      replace g5 := g5.below hn (Nat.le_refl _)
      replace hp := hp.below hn (Nat.le_refl _)
      replace hq := hq.below hn (Nat.le_refl _)
      replace hz1 := hz1.below hn (Nat.le_refl _)
      replace hz2 := hz2.below hn (Nat.le_refl _)
      replace h7 := h7.below hn (Nat.le_refl _)
      replace h9 := h9.below hn (Nat.le_refl _)
      replace hb := hb.trans (hn.mono hb.size)
      clear hn
      clear hF hD
      clear lt_hp
      clear lt_hq
      clear lt_hz1
      clear lt_hz2
      clear lt_h7
      clear lt_h9
      clear kb0
      apply wpTail_call
      case hi => rfl
      case hw => kernel_rfl
      case h =>
      intro K hK
      have c9_ := hz1.facts
      go_big_op
      have ho := Bk.only w_12 (w.heap.size + 1 + 1) s4 (.slice o4 n4 c4)
      have hbx_ := hz1.bx
      replace g4 := g4.frame hbx_ ho
      replace g5 := g5.frame hbx_ ho
      replace hp := hp.frame ho (by first | assumption | (apply Ne.symm; assumption) | (simp; done) | omega)
      replace hq := hq.frame ho (by first | assumption | (apply Ne.symm; assumption) | (simp; done) | omega)
      replace hz2 := hz2.frame ho (by first | assumption | (apply Ne.symm; assumption) | (simp; done) | omega)
      replace h7 := h7.frame ho (by first | assumption | (apply Ne.symm; assumption) | (simp; done) | omega)
      replace h9 := h9.frame ho (by first | assumption | (apply Ne.symm; assumption) | (simp; done) | omega)
      replace hz1 := hz1.store s4 (.slice o4 n4 c4)
      replace hb := (hb.setCell (p := ⟨w.heap.size + 1 + 1, 0, none⟩) (show w.heap.size ≤ w.heap.size + 1 + 1 by first | assumption | (simp; done) | omega) (.bool s4)).setCell (p := ⟨w.heap.size + 1 + 1, 1, none⟩) (show w.heap.size ≤ w.heap.size + 1 + 1 by first | assumption | (simp; done) | omega) (.slice o4 n4 c4)
      refine hK _ _ rfl (And.intro True.intro (And.intro (And.intro hz2.facts.1 hz2.facts.2.1) True.intro)) ?_
      clear hK K hbx_ ho c9_
      apply wpTail_call
      case hi => rfl
      case hw => kernel_rfl
      case h =>
      intro K hK
      have c9_ := hz2.facts
      go_big_op
      have ho := Bk.only ((w_12.setCell ⟨w.heap.size + 1 + 1, 0, none⟩ (.bool s4)).setCell ⟨w.heap.size + 1 + 1, 1, none⟩ (.slice o4 n4 c4)) (w.heap.size + 1 + 1 + 1) s5 (.slice o5 n5 c5)
      have hbx_ := hz2.bx
      replace g4 := g4.frame hbx_ ho
      replace g5 := g5.frame hbx_ ho
      replace hp := hp.frame ho (by first | assumption | (apply Ne.symm; assumption) | (simp; done) | omega)
      replace hq := hq.frame ho (by first | assumption | (apply Ne.symm; assumption) | (simp; done) | omega)
      replace hz1 := hz1.frame ho (by first | assumption | (apply Ne.symm; assumption) | (simp; done) | omega)
      replace h7 := h7.frame ho (by first | assumption | (apply Ne.symm; assumption) | (simp; done) | omega)
      replace h9 := h9.frame ho (by first | assumption | (apply Ne.symm; assumption) | (simp; done) | omega)
      replace hz2 := hz2.store s5 (.slice o5 n5 c5)
      replace hb := (hb.setCell (p := ⟨w.heap.size + 1 + 1 + 1, 0, none⟩) (show w.heap.size ≤ w.heap.size + 1 + 1 + 1 by first | assumption | (simp; done) | omega) (.bool s5)).setCell (p := ⟨w.heap.size + 1 + 1 + 1, 1, none⟩) (show w.heap.size ≤ w.heap.size + 1 + 1 + 1 by first | assumption | (simp; done) | omega) (.slice o5 n5 c5)
      refine hK _ _ rfl (And.intro True.intro (And.intro True.intro True.intro)) ?_
      clear hK K hbx_ ho c9_
      apply wpTail_end
      have f1 := hz1.facts
      have f2 := hz2.facts
      go_wp2
      refine bodyPost_ret (v := .tuple #[.agg #[.bool s4, .slice o4 n4 c4], .agg #[.bool s5, .slice o5 n5 c5]]) (by simp [results, Tryd.results53, go_sem, f1.1, f1.2.1, f2.1, f2.2.1]) rfl ?_
      exact ⟨_, _, rfl, ⟨X, g4, g5, HX.out.1, HX.out.2⟩, hb⟩
    · have hk0 : 0 < gk := by omega
      have HK := hide (show ((gk : Nat) : Int) ≠ 0 by omega)
      have HS := hide (show ((gk : Nat) : Int).sign = 1 from Int.sign_eq_one_of_pos (by omega))
      have q1 : ((1 : Int) != 0) = true := rfl
      have LQ := hide (fdiv_len HK.out LG.out)
      have LM := hide (zlen_mul LQ.out LYY.out)
      obtain ⟨R, hR⟩ : ∃ R : Nat, G.fmod (gk : Int) = (R : Int) := ⟨(G.fmod (gk : Int)).toNat, by have := (fmod_bd (x := G) HK.out).1 (by omega); omega⟩
      have hRlt : R < gk := by have := (fmod_bd (x := G) HK.out).1 (by omega); omega
      have HR := hide hR
      have HRlt := hide hRlt
      clear hR hRlt
      have f_h7 := h7.facts
      go_wp2_with fail
      refine (zsign_any (g7.zn LK.out) (by omega)).mono ?_
      rintro e w_13 ⟨rfl, hb_13⟩
      replace hb' := hb'.below hb_13 (Nat.le_refl _)
      replace g4 := g4.below hb_13 (Nat.le_refl _)
      replace g5 := g5.below hb_13 (Nat.le_refl _)
      replace g7 := g7.below hb_13 (Nat.le_refl _)
      replace g9 := g9.below hb_13 (Nat.le_refl _)
      replace hp := hp.below hb_13 (Nat.le_refl _)
      replace hq := hq.below hb_13 (Nat.le_refl _)
      replace hz1 := hz1.below hb_13 (Nat.le_refl _)
      replace hz2 := hz2.below hb_13 (Nat.le_refl _)
      replace h7 := h7.below hb_13 (Nat.le_refl _)
      replace h9 := h9.below hb_13 (Nat.le_refl _)
      replace hb := hb.trans (hb_13.mono hb.size)
      clear hb_13
      rw [HS.out]
      clear f_h7
      have f_hz1 := hz1.facts
      have f_h7 := h7.facts
      go_wp2_with fail
      refine (fdiv_any (g4.zn LG.out) (g7.zn LK.out) (by omega) (by omega) HK.out).mono ?_
      rintro e w_14 ⟨v10, v11, rfl, g10, g11, hb_14⟩
      replace hb' := hb'.below hb_14 (Nat.le_refl _)
      replace g4 := g4.below hb_14 (Nat.le_refl _)
      replace g5 := g5.below hb_14 (Nat.le_refl _)
      replace g7 := g7.below hb_14 (Nat.le_refl _)
      replace g9 := g9.below hb_14 (Nat.le_refl _)
      replace hp := hp.below hb_14 (Nat.le_refl _)
      replace hq := hq.below hb_14 (Nat.le_refl _)
      replace hz1 := hz1.below hb_14 (Nat.le_refl _)
      replace hz2 := hz2.below hb_14 (Nat.le_refl _)
      replace h7 := h7.below hb_14 (Nat.le_refl _)
      replace h9 := h9.below hb_14 (Nat.le_refl _)
      have kk10 := hb.size
      replace hb := hb.trans (hb_14.mono hb.size)
      clear hb_14
      rw [HR.out] at g11
      clear f_hz1 f_h7
      have kb_h10 := hb.size
      have ne_hp_h10 : w.heap.size ≠ w_14.heap.size := by have := hp.lt; (try simp only [Bk.size_alloc] at this); omega
      have ne_hq_h10 : w.heap.size + 1 ≠ w_14.heap.size := by have := hq.lt; (try simp only [Bk.size_alloc] at this); omega
      have ne_hz1_h10 : w.heap.size + 1 + 1 ≠ w_14.heap.size := by have := hz1.lt; (try simp only [Bk.size_alloc] at this); omega
      have ne_hz2_h10 : w.heap.size + 1 + 1 + 1 ≠ w_14.heap.size := by have := hz2.lt; (try simp only [Bk.size_alloc] at this); omega
      have ne_h7_h10 : w_2.heap.size ≠ w_14.heap.size := by have := h7.lt; (try simp only [Bk.size_alloc] at this); omega
      have ne_h9_h10 : w_7.heap.size ≠ w_14.heap.size := by have := h9.lt; (try simp only [Bk.size_alloc] at this); omega
      have h10 := Bk.new w_14 false (.slice none 0 0)
      replace hb' := hb'.alloc (.cells #[.bool false, (.slice none 0 0)] 36)
      replace g4 := g4.alloc (.cells #[.bool false, (.slice none 0 0)] 36)
      replace g5 := g5.alloc (.cells #[.bool false, (.slice none 0 0)] 36)
      replace g7 := g7.alloc (.cells #[.bool false, (.slice none 0 0)] 36)
      replace g9 := g9.alloc (.cells #[.bool false, (.slice none 0 0)] 36)
      replace hp := hp.alloc (.cells #[.bool false, (.slice none 0 0)] 36)
      replace hq := hq.alloc (.cells #[.bool false, (.slice none 0 0)] 36)
      replace hz1 := hz1.alloc (.cells #[.bool false, (.slice none 0 0)] 36)
      replace hz2 := hz2.alloc (.cells #[.bool false, (.slice none 0 0)] 36)
      replace h7 := h7.alloc (.cells #[.bool false, (.slice none 0 0)] 36)
      replace h9 := h9.alloc (.cells #[.bool false, (.slice none 0 0)] 36)
      replace g10 := g10.alloc (.cells #[.bool false, (.slice none 0 0)] 36)
      replace g11 := g11.alloc (.cells #[.bool false, (.slice none 0 0)] 36)
      replace hb := hb.alloc hb.size (.cells #[.bool false, (.slice none 0 0)] 36)
      obtain ⟨w_15, hw_15⟩ : ∃ v, (w_14.alloc (.cells #[.bool false, (.slice none 0 0)] 36)) = v := ⟨_, rfl⟩
      rw [hw_15] at hb' g4 g5 g7 g9 hp hq hz1 hz2 h7 h9 g10 g11 h10 hb
      have kb_h11 := hb.size
      have ne_hp_h11 : w.heap.size ≠ w_15.heap.size := by have := hp.lt; (try simp only [Bk.size_alloc] at this); omega
      have ne_hq_h11 : w.heap.size + 1 ≠ w_15.heap.size := by have := hq.lt; (try simp only [Bk.size_alloc] at this); omega
      have ne_hz1_h11 : w.heap.size + 1 + 1 ≠ w_15.heap.size := by have := hz1.lt; (try simp only [Bk.size_alloc] at this); omega
      have ne_hz2_h11 : w.heap.size + 1 + 1 + 1 ≠ w_15.heap.size := by have := hz2.lt; (try simp only [Bk.size_alloc] at this); omega
      have ne_h7_h11 : w_2.heap.size ≠ w_15.heap.size := by have := h7.lt; (try simp only [Bk.size_alloc] at this); omega
      have ne_h9_h11 : w_7.heap.size ≠ w_15.heap.size := by have := h9.lt; (try simp only [Bk.size_alloc] at this); omega
      have ne_h10_h11 : w_14.heap.size ≠ w_15.heap.size := by have := h10.lt; (try simp only [Bk.size_alloc] at this); omega
      have h11 := Bk.new w_15 false (.slice none 0 0)
      replace hb' := hb'.alloc (.cells #[.bool false, (.slice none 0 0)] 36)
      replace g4 := g4.alloc (.cells #[.bool false, (.slice none 0 0)] 36)
      replace g5 := g5.alloc (.cells #[.bool false, (.slice none 0 0)] 36)
      replace g7 := g7.alloc (.cells #[.bool false, (.slice none 0 0)] 36)
      replace g9 := g9.alloc (.cells #[.bool false, (.slice none 0 0)] 36)
      replace hp := hp.alloc (.cells #[.bool false, (.slice none 0 0)] 36)
      replace hq := hq.alloc (.cells #[.bool false, (.slice none 0 0)] 36)
      replace hz1 := hz1.alloc (.cells #[.bool false, (.slice none 0 0)] 36)
      replace hz2 := hz2.alloc (.cells #[.bool false, (.slice none 0 0)] 36)
      replace h7 := h7.alloc (.cells #[.bool false, (.slice none 0 0)] 36)
      replace h9 := h9.alloc (.cells #[.bool false, (.slice none 0 0)] 36)
      replace g10 := g10.alloc (.cells #[.bool false, (.slice none 0 0)] 36)
      replace g11 := g11.alloc (.cells #[.bool false, (.slice none 0 0)] 36)
      replace h10 := h10.alloc (.cells #[.bool false, (.slice none 0 0)] 36)
      replace hb := hb.alloc hb.size (.cells #[.bool false, (.slice none 0 0)] 36)
      obtain ⟨w_16, hw_16⟩ : ∃ v, (w_15.alloc (.cells #[.bool false, (.slice none 0 0)] 36)) = v := ⟨_, rfl⟩
      rw [hw_16] at hb' g4 g5 g7 g9 hp hq hz1 hz2 h7 h9 g10 g11 h10 h11 hb
      obtain ⟨sb_h10, o_h10, n_h10, c_h10, rfl⟩ := g10.open2
      have f_h10 := h10.facts
      have ho := Bk.only w_16 (w_14.heap.size) sb_h10 (.slice o_h10 n_h10 c_h10)
      have hbx_ := h10.bx
      replace hb' := hb'.frame hbx_ ho
      replace g4 := g4.frame hbx_ ho
      replace g5 := g5.frame hbx_ ho
      replace g7 := g7.frame hbx_ ho
      replace g9 := g9.frame hbx_ ho
      replace hp := hp.frame ho (by first | assumption | (apply Ne.symm; assumption) | (simp; done) | omega)
      replace hq := hq.frame ho (by first | assumption | (apply Ne.symm; assumption) | (simp; done) | omega)
      replace hz1 := hz1.frame ho (by first | assumption | (apply Ne.symm; assumption) | (simp; done) | omega)
      replace hz2 := hz2.frame ho (by first | assumption | (apply Ne.symm; assumption) | (simp; done) | omega)
      replace h7 := h7.frame ho (by first | assumption | (apply Ne.symm; assumption) | (simp; done) | omega)
      replace h9 := h9.frame ho (by first | assumption | (apply Ne.symm; assumption) | (simp; done) | omega)
      replace g10 := g10.frame hbx_ ho
      replace g11 := g11.frame hbx_ ho
      replace h11 := h11.frame ho (by first | assumption | (apply Ne.symm; assumption) | (simp; done) | omega)
      replace h10 := h10.store sb_h10 (.slice o_h10 n_h10 c_h10)
      replace hb := (hb.setCell (p := ⟨w_14.heap.size, 0, none⟩) (show w.heap.size ≤ w_14.heap.size by first | assumption | (simp; done) | omega) (.bool sb_h10)).setCell (p := ⟨w_14.heap.size, 1, none⟩) (show w.heap.size ≤ w_14.heap.size by first | assumption | (simp; done) | omega) (.slice o_h10 n_h10 c_h10)
      clear ho hbx_
      obtain ⟨w_17, hw_17⟩ : ∃ v, ((w_16.setCell ⟨w_14.heap.size, 0, none⟩ (.bool sb_h10)).setCell ⟨w_14.heap.size, 1, none⟩ (.slice o_h10 n_h10 c_h10)) = v := ⟨_, rfl⟩
      rw [hw_17] at hb' g4 g5 g7 g9 hp hq hz1 hz2 h7 h9 g10 g11 h10 h11 hb
      obtain ⟨sb_h11, o_h11, n_h11, c_h11, rfl⟩ := g11.open2
      have f_h11 := h11.facts
      have ho := Bk.only w_17 (w_15.heap.size) sb_h11 (.slice o_h11 n_h11 c_h11)
      have hbx_ := h11.bx
      replace hb' := hb'.frame hbx_ ho
      replace g4 := g4.frame hbx_ ho
      replace g5 := g5.frame hbx_ ho
      replace g7 := g7.frame hbx_ ho
      replace g9 := g9.frame hbx_ ho
      replace hp := hp.frame ho (by first | assumption | (apply Ne.symm; assumption) | (simp; done) | omega)
      replace hq := hq.frame ho (by first | assumption | (apply Ne.symm; assumption) | (simp; done) | omega)
      replace hz1 := hz1.frame ho (by first | assumption | (apply Ne.symm; assumption) | (simp; done) | omega)
      replace hz2 := hz2.frame ho (by first | assumption | (apply Ne.symm; assumption) | (simp; done) | omega)
      replace h7 := h7.frame ho (by first | assumption | (apply Ne.symm; assumption) | (simp; done) | omega)
      replace h9 := h9.frame ho (by first | assumption | (apply Ne.symm; assumption) | (simp; done) | omega)
      replace g10 := g10.frame hbx_ ho
      replace g11 := g11.frame hbx_ ho
      replace h10 := h10.frame ho (by first | assumption | (apply Ne.symm; assumption) | (simp; done) | omega)
      replace h11 := h11.store sb_h11 (.slice o_h11 n_h11 c_h11)
      replace hb := (hb.setCell (p := ⟨w_15.heap.size, 0, none⟩) (show w.heap.size ≤ w_15.heap.size by first | assumption | (simp; done) | omega) (.bool sb_h11)).setCell (p := ⟨w_15.heap.size, 1, none⟩) (show w.heap.size ≤ w_15.heap.size by first | assumption | (simp; done) | omega) (.slice o_h11 n_h11 c_h11)
      clear ho hbx_
      obtain ⟨w_18, hw_18⟩ : ∃ v, ((w_17.setCell ⟨w_15.heap.size, 0, none⟩ (.bool sb_h11)).setCell ⟨w_15.heap.size, 1, none⟩ (.slice o_h11 n_h11 c_h11)) = v := ⟨_, rfl⟩
      rw [hw_18] at hb' g4 g5 g7 g9 hp hq hz1 hz2 h7 h9 g10 g11 h10 h11 hb
      replace hb' := hb'.drew
      replace g4 := g4.drew
      replace g5 := g5.drew
      replace g7 := g7.drew
      replace g9 := g9.drew
      replace hp := hp.drew
      replace hq := hq.drew
      replace hz1 := hz1.drew
      replace hz2 := hz2.drew
      replace h7 := h7.drew
      replace h9 := h9.drew
      replace g10 := g10.drew
      replace g11 := g11.drew
      replace h10 := h10.drew
      replace h11 := h11.drew
      replace hb := hb.drew
      have lt_hp := hp.lt
      have lt_hq := hq.lt
      have lt_hz1 := hz1.lt
      have lt_hz2 := hz2.lt
      have lt_h7 := h7.lt
      have lt_h9 := h9.lt
      have lt_h10 := h10.lt
      have lt_h11 := h11.lt
      have kb0 := hb.size
      go_wp2_with fail
      refine wp_region_fl [(0, false), (1, false)] [2, 3] [] (fun _ => obZ) [0, 1, 99, 99] [(3, 0)] (fun w' => w'.cell? ⟨w_2.heap.size, 0, none⟩ = some (.bool s7) ∧ w'.cell? ⟨w_2.heap.size, 1, none⟩ = some (.slice o7 n7 c7) ∧ w'.cell? ⟨w_15.heap.size, 0, none⟩ = some (.bool sb_h11) ∧ w'.cell? ⟨w_15.heap.size, 1, none⟩ = some (.slice o_h11 n_h11 c_h11)) [fun w' => w'.cell? ⟨w_2.heap.size, 0, none⟩ = some (.bool s7) ∧ w'.cell? ⟨w_2.heap.size, 1, none⟩ = some (.slice o7 n7 c7), fun w' => w'.cell? ⟨w_15.heap.size, 0, none⟩ = some (.bool sb_h11) ∧ w'.cell? ⟨w_15.heap.size, 1, none⟩ = some (.slice o_h11 n_h11 c_h11)] (by kernel_rfl) (by kernel_rfl) (by kernel_rfl) (by kernel_rfl) (by kernel_rfl) (by kernel_rfl) (by kernel_rfl) (by kernel_rfl) (by decide) (by intro j hj; cases hj) (by intro w' o hC; obtain ⟨c0, c1, c2, c3⟩ := hC; exact ⟨cell_alloc c0 o, cell_alloc c1 o, cell_alloc c2 o, cell_alloc c3 o⟩) (by intro w' hC G hG; obtain ⟨c0, c1, c2, c3⟩ := hC; simp only [List.mem_cons, List.not_mem_nil, or_false] at hG; rcases hG with rfl | rfl <;> first | exact ⟨c0, c1⟩ | exact ⟨c2, c3⟩) ⟨h7.facts.1, h7.facts.2.1, h11.facts.1, h11.facts.2.1⟩ ?_
      clear f_h10 f_h11
      apply wpFl_ld
      case hG => rfl
      case hi => rfl
      case h1 => intro w' hC K hK; obtain ⟨c0, c1⟩ := hC; (first | go_big_move | go_big_op); exact hK
      case hw => kernel_rfl
      case hv => kernel_rfl
      case hb => kernel_rfl
      case hp => kernel_rfl
      apply wpFl_ld
      case hG => rfl
      case hi => rfl
      case h1 => intro w' hC K hK; obtain ⟨c0, c1⟩ := hC; (first | go_big_move | go_big_op); exact hK
      case hw => kernel_rfl
      case hv => kernel_rfl
      case hb => kernel_rfl
      case hp => kernel_rfl
      apply wpFl_end
      case ha => intro pt; simp only [putF]; rfl
      case h =>
      intro w_19 pt hn hC hF hD
      clear hC
      replace hb' := hb'.below hn (Nat.le_refl _)
      replace g4 := g4.below hn (Nat.le_refl _)
      replace g5 := g5.below hn (Nat.le_refl _)
      replace g7 := g7.below hn (Nat.le_refl _)
      replace g9 := g9.below hn (Nat.le_refl _)
      replace hp := hp.below hn (Nat.le_refl _)
      replace hq := hq.below hn (Nat.le_refl _)
      replace hz1 := hz1.below hn (Nat.le_refl _)
      replace hz2 := hz2.below hn (Nat.le_refl _)
      replace h7 := h7.below hn (Nat.le_refl _)
      replace h9 := h9.below hn (Nat.le_refl _)
      replace g10 := g10.below hn (Nat.le_refl _)
      replace g11 := g11.below hn (Nat.le_refl _)
      replace h10 := h10.below hn (Nat.le_refl _)
      replace h11 := h11.below hn (Nat.le_refl _)
      replace hb := hb.trans (hn.mono hb.size)
      clear hn
      clear hF hD
      clear lt_hp
      clear lt_hq
      clear lt_hz1
      clear lt_hz2
      clear lt_h7
      clear lt_h9
      clear lt_h10
      clear lt_h11
      clear kb0
      apply wpTail_call
      case hi => rfl
      case hw => kernel_rfl
      case h =>
      intro K hK
      have c9_ := hz1.facts
      go_big_op
      have ho := Bk.only w_19 (w.heap.size + 1 + 1) s7 (.slice o7 n7 c7)
      have hbx_ := hz1.bx
      replace hb' := hb'.frame hbx_ ho
      replace g4 := g4.frame hbx_ ho
      replace g5 := g5.frame hbx_ ho
      replace g7 := g7.frame hbx_ ho
      replace g9 := g9.frame hbx_ ho
      replace hp := hp.frame ho (by first | assumption | (apply Ne.symm; assumption) | (simp; done) | omega)
      replace hq := hq.frame ho (by first | assumption | (apply Ne.symm; assumption) | (simp; done) | omega)
      replace hz2 := hz2.frame ho (by first | assumption | (apply Ne.symm; assumption) | (simp; done) | omega)
      replace h7 := h7.frame ho (by first | assumption | (apply Ne.symm; assumption) | (simp; done) | omega)
      replace h9 := h9.frame ho (by first | assumption | (apply Ne.symm; assumption) | (simp; done) | omega)
      replace g10 := g10.frame hbx_ ho
      replace g11 := g11.frame hbx_ ho
      replace h10 := h10.frame ho (by first | assumption | (apply Ne.symm; assumption) | (simp; done) | omega)
      replace h11 := h11.frame ho (by first | assumption | (apply Ne.symm; assumption) | (simp; done) | omega)
      replace hz1 := hz1.store s7 (.slice o7 n7 c7)
      replace hb := (hb.setCell (p := ⟨w.heap.size + 1 + 1, 0, none⟩) (show w.heap.size ≤ w.heap.size + 1 + 1 by first | assumption | (simp; done) | omega) (.bool s7)).setCell (p := ⟨w.heap.size + 1 + 1, 1, none⟩) (show w.heap.size ≤ w.heap.size + 1 + 1 by first | assumption | (simp; done) | omega) (.slice o7 n7 c7)
      refine hK _ _ rfl (And.intro (And.intro h7.facts.1 h7.facts.2.1) (And.intro (And.intro h11.facts.1 h11.facts.2.1) True.intro)) ?_
      clear hK K hbx_ ho c9_
      apply wpTail_call
      case hi => rfl
      case hw => kernel_rfl
      case h =>
      intro K hK
      have c9_ := h7.facts
      go_big_op
      have ho := Bk.only ((w_19.setCell ⟨w.heap.size + 1 + 1, 0, none⟩ (.bool s7)).setCell ⟨w.heap.size + 1 + 1, 1, none⟩ (.slice o7 n7 c7)) (w_2.heap.size) sb_h11 (.slice o_h11 n_h11 c_h11)
      have hbx_ := h7.bx
      replace hb' := hb'.frame hbx_ ho
      replace g4 := g4.frame hbx_ ho
      replace g5 := g5.frame hbx_ ho
      replace g7 := g7.frame hbx_ ho
      replace g9 := g9.frame hbx_ ho
      replace hp := hp.frame ho (by first | assumption | (apply Ne.symm; assumption) | (simp; done) | omega)
      replace hq := hq.frame ho (by first | assumption | (apply Ne.symm; assumption) | (simp; done) | omega)
      replace hz1 := hz1.frame ho (by first | assumption | (apply Ne.symm; assumption) | (simp; done) | omega)
      replace hz2 := hz2.frame ho (by first | assumption | (apply Ne.symm; assumption) | (simp; done) | omega)
      replace h9 := h9.frame ho (by first | assumption | (apply Ne.symm; assumption) | (simp; done) | omega)
      replace g10 := g10.frame hbx_ ho
      replace g11 := g11.frame hbx_ ho
      replace h10 := h10.frame ho (by first | assumption | (apply Ne.symm; assumption) | (simp; done) | omega)
      replace h11 := h11.frame ho (by first | assumption | (apply Ne.symm; assumption) | (simp; done) | omega)
      replace h7 := h7.store sb_h11 (.slice o_h11 n_h11 c_h11)
      replace hb := (hb.setCell (p := ⟨w_2.heap.size, 0, none⟩) (show w.heap.size ≤ w_2.heap.size by first | assumption | (simp; done) | omega) (.bool sb_h11)).setCell (p := ⟨w_2.heap.size, 1, none⟩) (show w.heap.size ≤ w_2.heap.size by first | assumption | (simp; done) | omega) (.slice o_h11 n_h11 c_h11)
      refine hK _ _ rfl (And.intro True.intro (And.intro (And.intro h11.facts.1 h11.facts.2.1) True.intro)) ?_
      clear hK K hbx_ ho c9_
      apply wpTail_end
      replace hb' := hb'.drew
      replace g4 := g4.drew
      replace g5 := g5.drew
      replace g7 := g7.drew
      replace g9 := g9.drew
      replace hp := hp.drew
      replace hq := hq.drew
      replace hz1 := hz1.drew
      replace hz2 := hz2.drew
      replace h7 := h7.drew
      replace h9 := h9.drew
      replace g10 := g10.drew
      replace g11 := g11.drew
      replace h10 := h10.drew
      replace h11 := h11.drew
      replace hb := hb.drew
      have lt_hp := hp.lt
      have lt_hq := hq.lt
      have lt_hz1 := hz1.lt
      have lt_hz2 := hz2.lt
      have lt_h7 := h7.lt
      have lt_h9 := h9.lt
      have lt_h10 := h10.lt
      have lt_h11 := h11.lt
      have kb0 := hb.size
      go_wp2_with fail
      refine wp_region_fl [(0, false), (1, false), (2, false), (3, false), (4, true), (5, true)] [6, 7] [] (fun _ => obZ) [1, 0, 2, 1, 99, 99, 99, 99] [(6, 0), (7, 0), (7, 1)] (fun w' => w'.cell? ⟨w.heap.size + 1 + 1 + 1, 0, none⟩ = some (.bool s5) ∧ w'.cell? ⟨w.heap.size + 1 + 1 + 1, 1, none⟩ = some (.slice o5 n5 c5) ∧ w'.cell? ⟨w_7.heap.size, 0, none⟩ = some (.bool s9) ∧ w'.cell? ⟨w_7.heap.size, 1, none⟩ = some (.slice o9 n9 c9) ∧ w'.cell? ⟨w_14.heap.size, 0, none⟩ = some (.bool sb_h10) ∧ w'.cell? ⟨w_14.heap.size, 1, none⟩ = some (.slice o_h10 n_h10 c_h10)) [fun w' => w'.cell? ⟨w.heap.size + 1 + 1 + 1, 0, none⟩ = some (.bool s5) ∧ w'.cell? ⟨w.heap.size + 1 + 1 + 1, 1, none⟩ = some (.slice o5 n5 c5), fun w' => w'.cell? ⟨w_7.heap.size, 0, none⟩ = some (.bool s9) ∧ w'.cell? ⟨w_7.heap.size, 1, none⟩ = some (.slice o9 n9 c9), fun w' => w'.cell? ⟨w_14.heap.size, 0, none⟩ = some (.bool sb_h10) ∧ w'.cell? ⟨w_14.heap.size, 1, none⟩ = some (.slice o_h10 n_h10 c_h10)] (by kernel_rfl) (by kernel_rfl) (by kernel_rfl) (by kernel_rfl) (by kernel_rfl) (by kernel_rfl) (by kernel_rfl) (by kernel_rfl) (by decide) (by intro j hj; cases hj) (by intro w' o hC; obtain ⟨c0, c1, c2, c3, c4, c5⟩ := hC; exact ⟨cell_alloc c0 o, cell_alloc c1 o, cell_alloc c2 o, cell_alloc c3 o, cell_alloc c4 o, cell_alloc c5 o⟩) (by intro w' hC G hG; obtain ⟨c0, c1, c2, c3, c4, c5⟩ := hC; simp only [List.mem_cons, List.not_mem_nil, or_false] at hG; rcases hG with rfl | rfl | rfl <;> first | exact ⟨c0, c1⟩ | exact ⟨c2, c3⟩ | exact ⟨c4, c5⟩) ⟨hz2.facts.1, hz2.facts.2.1, h9.facts.1, h9.facts.2.1, h10.facts.1, h10.facts.2.1⟩ ?_
      apply wpFl_ld
      case hG => rfl
      case hi => rfl
      case h1 => intro w' hC K hK; obtain ⟨c0, c1⟩ := hC; (first | go_big_move | go_big_op); exact hK
      case hw => kernel_rfl
      case hv => kernel_rfl
      case hb => kernel_rfl
      case hp => kernel_rfl
      apply wpFl_ld
      case hG => rfl
      case hi => rfl
      case h1 => intro w' hC K hK; obtain ⟨c0, c1⟩ := hC; (first | go_big_move | go_big_op); exact hK
      case hw => kernel_rfl
      case hv => kernel_rfl
      case hb => kernel_rfl
      case hp => kernel_rfl
      apply wpFl_ld
      case hG => rfl
      case hi => rfl
      case h1 => intro w' hC K hK; obtain ⟨c0, c1⟩ := hC; (first | go_big_move | go_big_op); exact hK
      case hw => kernel_rfl
      case hv => kernel_rfl
      case hb => kernel_rfl
      case hp => kernel_rfl
      apply wpFl_ld
      case hG => rfl
      case hi => rfl
      case h1 => intro w' hC K hK; obtain ⟨c0, c1⟩ := hC; (first | go_big_move | go_big_op); exact hK
      case hw => kernel_rfl
      case hv => kernel_rfl
      case hb => kernel_rfl
      case hp => kernel_rfl
      apply wpFl_call
      case hi => rfl
      case hw => kernel_rfl
      case h =>
      intro w_20 hn hC
      clear hC
      replace hb' := hb'.below hn (Nat.le_refl _)
      replace g4 := g4.below hn (Nat.le_refl _)
      replace g5 := g5.below hn (Nat.le_refl _)
      replace g7 := g7.below hn (Nat.le_refl _)
      replace g9 := g9.below hn (Nat.le_refl _)
      replace hp := hp.below hn (Nat.le_refl _)
      replace hq := hq.below hn (Nat.le_refl _)
      replace hz1 := hz1.below hn (Nat.le_refl _)
      replace hz2 := hz2.below hn (Nat.le_refl _)
      replace h7 := h7.below hn (Nat.le_refl _)
      replace h9 := h9.below hn (Nat.le_refl _)
      replace g10 := g10.below hn (Nat.le_refl _)
      replace g11 := g11.below hn (Nat.le_refl _)
      replace h10 := h10.below hn (Nat.le_refl _)
      replace h11 := h11.below hn (Nat.le_refl _)
      replace hb := hb.trans (hn.mono hb.size)
      clear hn
      intro K hK
      have kb_21 := hb.size
      go_big_op
      go_fit (zmul_any (g10.zn LQ.out) (g9.zn LYY.out) (by omega) (by omega))
      rintro e w_21 ⟨v12, rfl, g12, hb_21⟩
      replace hb' := hb'.below hb_21 (Nat.le_refl _)
      replace g4 := g4.below hb_21 (Nat.le_refl _)
      replace g5 := g5.below hb_21 (Nat.le_refl _)
      replace g7 := g7.below hb_21 (Nat.le_refl _)
      replace g9 := g9.below hb_21 (Nat.le_refl _)
      replace hp := hp.below hb_21 (Nat.le_refl _)
      replace hq := hq.below hb_21 (Nat.le_refl _)
      replace hz1 := hz1.below hb_21 (Nat.le_refl _)
      replace hz2 := hz2.below hb_21 (Nat.le_refl _)
      replace h7 := h7.below hb_21 (Nat.le_refl _)
      replace h9 := h9.below hb_21 (Nat.le_refl _)
      replace g10 := g10.below hb_21 (Nat.le_refl _)
      replace g11 := g11.below hb_21 (Nat.le_refl _)
      replace h10 := h10.below hb_21 (Nat.le_refl _)
      replace h11 := h11.below hb_21 (Nat.le_refl _)
      replace hb := hb.trans (hb_21.mono hb.size)
      refine hK _ _ rfl hb_21 ⟨hz2.facts.1, hz2.facts.2.1, h9.facts.1, h9.facts.2.1, h10.facts.1, h10.facts.2.1⟩ ?_
      clear hK K hb_21
      apply wpFl_call
      case hi => rfl
      case hw => kernel_rfl
      case h =>
      intro w_22 hn hC
      clear hC
      replace hb' := hb'.below hn (Nat.le_refl _)
      replace g4 := g4.below hn (Nat.le_refl _)
      replace g5 := g5.below hn (Nat.le_refl _)
      replace g7 := g7.below hn (Nat.le_refl _)
      replace g9 := g9.below hn (Nat.le_refl _)
      replace hp := hp.below hn (Nat.le_refl _)
      replace hq := hq.below hn (Nat.le_refl _)
      replace hz1 := hz1.below hn (Nat.le_refl _)
      replace hz2 := hz2.below hn (Nat.le_refl _)
      replace h7 := h7.below hn (Nat.le_refl _)
      replace h9 := h9.below hn (Nat.le_refl _)
      replace g10 := g10.below hn (Nat.le_refl _)
      replace g11 := g11.below hn (Nat.le_refl _)
      replace h10 := h10.below hn (Nat.le_refl _)
      replace h11 := h11.below hn (Nat.le_refl _)
      replace g12 := g12.below hn (Nat.le_refl _)
      replace hb := hb.trans (hn.mono hb.size)
      clear hn
      intro K hK
      have kb_23 := hb.size
      go_big_op
      go_fit (zsub_any (g5.zn LX.out) (g12.zn LM.out) (by omega) (by omega))
      rintro e w_23 ⟨v13, rfl, g13, hb_23⟩
      replace hb' := hb'.below hb_23 (Nat.le_refl _)
      replace g4 := g4.below hb_23 (Nat.le_refl _)
      replace g5 := g5.below hb_23 (Nat.le_refl _)
      replace g7 := g7.below hb_23 (Nat.le_refl _)
      replace g9 := g9.below hb_23 (Nat.le_refl _)
      replace hp := hp.below hb_23 (Nat.le_refl _)
      replace hq := hq.below hb_23 (Nat.le_refl _)
      replace hz1 := hz1.below hb_23 (Nat.le_refl _)
      replace hz2 := hz2.below hb_23 (Nat.le_refl _)
      replace h7 := h7.below hb_23 (Nat.le_refl _)
      replace h9 := h9.below hb_23 (Nat.le_refl _)
      replace g10 := g10.below hb_23 (Nat.le_refl _)
      replace g11 := g11.below hb_23 (Nat.le_refl _)
      replace h10 := h10.below hb_23 (Nat.le_refl _)
      replace h11 := h11.below hb_23 (Nat.le_refl _)
      replace g12 := g12.below hb_23 (Nat.le_refl _)
      replace hb := hb.trans (hb_23.mono hb.size)
      refine hK _ _ rfl hb_23 ⟨hz2.facts.1, hz2.facts.2.1, h9.facts.1, h9.facts.2.1, h10.facts.1, h10.facts.2.1⟩ ?_
      clear hK K hb_23
      clear g12
      apply wpFl_end
      case ha => intro pt; simp only [putF]; rfl
      case h =>
      intro w_24 pt hn hC hF hD
      clear hC
      replace hb' := hb'.below hn (Nat.le_refl _)
      replace g4 := g4.below hn (Nat.le_refl _)
      replace g5 := g5.below hn (Nat.le_refl _)
      replace g7 := g7.below hn (Nat.le_refl _)
      replace g9 := g9.below hn (Nat.le_refl _)
      replace hp := hp.below hn (Nat.le_refl _)
      replace hq := hq.below hn (Nat.le_refl _)
      replace hz1 := hz1.below hn (Nat.le_refl _)
      replace hz2 := hz2.below hn (Nat.le_refl _)
      replace h7 := h7.below hn (Nat.le_refl _)
      replace h9 := h9.below hn (Nat.le_refl _)
      replace g10 := g10.below hn (Nat.le_refl _)
      replace g11 := g11.below hn (Nat.le_refl _)
      replace h10 := h10.below hn (Nat.le_refl _)
      replace h11 := h11.below hn (Nat.le_refl _)
      replace g13 := g13.below hn (Nat.le_refl _)
      replace hb := hb.trans (hn.mono hb.size)
      clear hn
      clear hF hD
      clear lt_hp
      clear lt_hq
      clear lt_hz1
      clear lt_hz2
      clear lt_h7
      clear lt_h9
      clear lt_h10
      clear lt_h11
      clear kb0
      apply wpTail_call
      case hi => rfl
      case hw => kernel_rfl
      case h =>
      intro K hK
      have c9_ := hz2.facts
      go_big_op
      have ho := Bk.only w_24 (w.heap.size + 1 + 1 + 1) s9 (.slice o9 n9 c9)
      have hbx_ := hz2.bx
      replace hb' := hb'.frame hbx_ ho
      replace g4 := g4.frame hbx_ ho
      replace g5 := g5.frame hbx_ ho
      replace g7 := g7.frame hbx_ ho
      replace g9 := g9.frame hbx_ ho
      replace hp := hp.frame ho (by first | assumption | (apply Ne.symm; assumption) | (simp; done) | omega)
      replace hq := hq.frame ho (by first | assumption | (apply Ne.symm; assumption) | (simp; done) | omega)
      replace hz1 := hz1.frame ho (by first | assumption | (apply Ne.symm; assumption) | (simp; done) | omega)
      replace h7 := h7.frame ho (by first | assumption | (apply Ne.symm; assumption) | (simp; done) | omega)
      replace h9 := h9.frame ho (by first | assumption | (apply Ne.symm; assumption) | (simp; done) | omega)
      replace g10 := g10.frame hbx_ ho
      replace g11 := g11.frame hbx_ ho
      replace h10 := h10.frame ho (by first | assumption | (apply Ne.symm; assumption) | (simp; done) | omega)
      replace h11 := h11.frame ho (by first | assumption | (apply Ne.symm; assumption) | (simp; done) | omega)
      replace g13 := g13.frame hbx_ ho
      replace hz2 := hz2.store s9 (.slice o9 n9 c9)
      replace hb := (hb.setCell (p := ⟨w.heap.size + 1 + 1 + 1, 0, none⟩) (show w.heap.size ≤ w.heap.size + 1 + 1 + 1 by first | assumption | (simp; done) | omega) (.bool s9)).setCell (p := ⟨w.heap.size + 1 + 1 + 1, 1, none⟩) (show w.heap.size ≤ w.heap.size + 1 + 1 + 1 by first | assumption | (simp; done) | omega) (.slice o9 n9 c9)
      refine hK _ _ rfl (And.intro True.intro (And.intro (And.intro h9.facts.1 h9.facts.2.1) (And.intro (And.intro h10.facts.1 h10.facts.2.1) True.intro))) ?_
      clear hK K hbx_ ho c9_
      obtain ⟨sb_h9, o_h9, n_h9, c_h9, rfl⟩ := g13.open2
      apply wpTail_call
      case hi => rfl
      case hw => kernel_rfl
      case h =>
      intro K hK
      have c9_ := h9.facts
      go_big_op
      have ho := Bk.only ((w_24.setCell ⟨w.heap.size + 1 + 1 + 1, 0, none⟩ (.bool s9)).setCell ⟨w.heap.size + 1 + 1 + 1, 1, none⟩ (.slice o9 n9 c9)) (w_7.heap.size) sb_h9 (.slice o_h9 n_h9 c_h9)
      have hbx_ := h9.bx
      replace hb' := hb'.frame hbx_ ho
      replace g4 := g4.frame hbx_ ho
      replace g5 := g5.frame hbx_ ho
      replace g7 := g7.frame hbx_ ho
      replace g9 := g9.frame hbx_ ho
      replace hp := hp.frame ho (by first | assumption | (apply Ne.symm; assumption) | (simp; done) | omega)
      replace hq := hq.frame ho (by first | assumption | (apply Ne.symm; assumption) | (simp; done) | omega)
      replace hz1 := hz1.frame ho (by first | assumption | (apply Ne.symm; assumption) | (simp; done) | omega)
      replace hz2 := hz2.frame ho (by first | assumption | (apply Ne.symm; assumption) | (simp; done) | omega)
      replace h7 := h7.frame ho (by first | assumption | (apply Ne.symm; assumption) | (simp; done) | omega)
      replace g10 := g10.frame hbx_ ho
      replace g11 := g11.frame hbx_ ho
      replace h10 := h10.frame ho (by first | assumption | (apply Ne.symm; assumption) | (simp; done) | omega)
      replace h11 := h11.frame ho (by first | assumption | (apply Ne.symm; assumption) | (simp; done) | omega)
      replace g13 := g13.frame hbx_ ho
      replace h9 := h9.store sb_h9 (.slice o_h9 n_h9 c_h9)
      replace hb := (hb.setCell (p := ⟨w_7.heap.size, 0, none⟩) (show w.heap.size ≤ w_7.heap.size by first | assumption | (simp; done) | omega) (.bool sb_h9)).setCell (p := ⟨w_7.heap.size, 1, none⟩) (show w.heap.size ≤ w_7.heap.size by first | assumption | (simp; done) | omega) (.slice o_h9 n_h9 c_h9)
      refine hK _ _ rfl (And.intro True.intro (And.intro True.intro (And.intro (And.intro h10.facts.1 h10.facts.2.1) True.intro))) ?_
      clear hK K hbx_ ho c9_
      apply wpTail_end
      go_wp2
      go_roundg R
      case rel => exact ⟨_, _, _, _, _, _, _, _, _, _, _, _, _, _, _, _, _, _, _, by rw [← HR.out]; exact HFF.out.step (by omega), hb, hp, hq, hb', hz1, hz2, h7, h9, g7, g9, g11.mono (by omega), g13.mono (by omega)⟩
      case measure => exact HRlt.out
end Go.Proofs.YtjcfhbekpmpbeaaDoor
