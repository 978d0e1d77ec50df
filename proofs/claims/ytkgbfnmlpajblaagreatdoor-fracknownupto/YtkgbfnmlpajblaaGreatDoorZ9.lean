/- zint.Gcd, factorOfFirst. -/
import Derived.Test.YtkgbfnmlpajblaaGreatDoorZ8
import Derived.Deep.LoopGhost
namespace Go.Proofs.YtkgbfnmlpajblaaGreatDoor
open Go.RowKit Dig

set_option maxHeartbeats 2000000 in
set_option maxRecDepth 20000 in
/-- zint.Gcd. -/
theorem zgcd_any {w : World} {va vb : Value} {x y : Int} {l m : Nat} (ha : ZN w va x l) (hb' : ZN w vb y m) (hl : l ≤ 400000000) (hm : m ≤ 400000000) :
    Calls Tryz.prog 55 #[va, vb] w fun e w' => ∃ v', e = .returned v' ∧ ZO w' w.heap.size v' (Int.gcd x y) ∧ Below w.heap.size w w' := by
  obtain ⟨na, oa, ca, xs, rfl, hca, hx, hzx, hxl⟩ := ha.open_
  obtain ⟨nb, ob, cb, ys, rfl, hcb, hy, hzy, hyl⟩ := hb'.open_
  have E1 := hide (show (if false = true then -((Nat.gcd (val xs) (val ys) : Nat) : Int) else ((Nat.gcd (val xs) (val ys) : Nat) : Int)) = Int.gcd x y by
    unfold Int.gcd; rw [← hzx, ← hzy, zv_abs, zv_abs]; rfl)
  clear ha hb' hzx hzy
  go_enter Tryz.func55, Tryz.ntmps55
  have hb := Below.refl w.heap.size w
  have hp := Bk.new w na (.slice oa xs.length ca)
  replace hx := hx.alloc (.cells #[.bool na, (.slice oa xs.length ca)] 24)
  replace hy := hy.alloc (.cells #[.bool na, (.slice oa xs.length ca)] 24)
  replace hb := hb.alloc hb.size (.cells #[.bool na, (.slice oa xs.length ca)] 24)
  have hq := Bk.new (w.alloc (.cells #[.bool na, (.slice oa xs.length ca)] 24)) nb (.slice ob ys.length cb)
  simp only [Bk.size_alloc] at hq
  replace hx := hx.alloc (.cells #[.bool nb, (.slice ob ys.length cb)] 24)
  replace hy := hy.alloc (.cells #[.bool nb, (.slice ob ys.length cb)] 24)
  replace hp := hp.alloc (.cells #[.bool nb, (.slice ob ys.length cb)] 24)
  replace hb := hb.alloc hb.size (.cells #[.bool nb, (.slice ob ys.length cb)] 24)
  have hz := Bk.new ((w.alloc (.cells #[.bool na, (.slice oa xs.length ca)] 24)).alloc (.cells #[.bool nb, (.slice ob ys.length cb)] 24)) false (.slice none 0 0)
  simp only [Bk.size_alloc] at hz
  replace hx := hx.alloc (.cells #[.bool false, (.slice none 0 0)] 24)
  replace hy := hy.alloc (.cells #[.bool false, (.slice none 0 0)] 24)
  replace hp := hp.alloc (.cells #[.bool false, (.slice none 0 0)] 24)
  replace hq := hq.alloc (.cells #[.bool false, (.slice none 0 0)] 24)
  replace hb := hb.alloc hb.size (.cells #[.bool false, (.slice none 0 0)] 24)
  have f_hp := hp.facts
  have f_hq := hq.facts
  go_wp2_with fail
  refine (gcd_rd hx hy (by omega) (by omega)).mono ?_
  rintro e w_1 ⟨s1, rfl, h1, hb_1⟩
  replace hx := hx.below hb_1 (Nat.le_refl _)
  replace hy := hy.below hb_1 (Nat.le_refl _)
  replace hp := hp.below hb_1 (Nat.le_refl _)
  replace hq := hq.below hb_1 (Nat.le_refl _)
  replace hz := hz.below hb_1 (Nat.le_refl _)
  replace hb := hb.trans (hb_1.mono hb.size)
  clear hb_1
  clear f_hp f_hq
  go_wp2_with fail
  refine (signed_z _ h1 E1.out).mono ?_
  rintro e w_2 ⟨v1, rfl, g1, hb_2⟩
  replace hx := hx.below hb_2 (Nat.le_refl _)
  replace hy := hy.below hb_2 (Nat.le_refl _)
  replace hp := hp.below hb_2 (Nat.le_refl _)
  replace hq := hq.below hb_2 (Nat.le_refl _)
  replace hz := hz.below hb_2 (Nat.le_refl _)
  replace h1 := h1.below hb_2 (Nat.le_refl _)
  replace hb := hb.trans (hb_2.mono hb.size)
  clear hb_2
  clear h1
  obtain ⟨sb_hz, o_hz, n_hz, c_hz, rfl⟩ := g1.open2
  have f_hz := hz.facts
  have ho := Bk.only w_2 (w.heap.size + 1 + 1) sb_hz (.slice o_hz n_hz c_hz)
  have hbx_ := hz.bx
  replace hx := hx.frame hbx_ ho
  replace hy := hy.frame hbx_ ho
  replace hp := hp.frame ho (by first | assumption | (apply Ne.symm; assumption) | (simp; done) | omega)
  replace hq := hq.frame ho (by first | assumption | (apply Ne.symm; assumption) | (simp; done) | omega)
  replace g1 := g1.frame hbx_ ho
  replace hz := hz.store sb_hz (.slice o_hz n_hz c_hz)
  replace hb := (hb.setCell (p := ⟨w.heap.size + 1 + 1, 0, none⟩) (show w.heap.size ≤ w.heap.size + 1 + 1 by first | assumption | (simp; done) | omega) (.bool sb_hz)).setCell (p := ⟨w.heap.size + 1 + 1, 1, none⟩) (show w.heap.size ≤ w.heap.size + 1 + 1 by first | assumption | (simp; done) | omega) (.slice o_hz n_hz c_hz)
  clear ho hbx_
  obtain ⟨w_3, hw_3⟩ : ∃ v, ((w_2.setCell ⟨w.heap.size + 1 + 1, 0, none⟩ (.bool sb_hz)).setCell ⟨w.heap.size + 1 + 1, 1, none⟩ (.slice o_hz n_hz c_hz)) = v := ⟨_, rfl⟩
  rw [hw_3] at hx hy hp hq hz g1 hb
  have f1 := hz.facts
  go_wp2
  refine bodyPost_ret (v := .agg #[.bool sb_hz, .slice o_hz n_hz c_hz]) (by simp [results, Tryz.results55, go_sem, f1.1, f1.2.1]) rfl ?_
  exact ⟨_, rfl, g1.mono (by simp; omega), hb⟩

/-- How far the search has come: G and k are left; X and Y tell how often a is in them, but for multiples of b. -/
structure FF (x y G k X Y : Int) : Prop where
  k0 : 0 ≤ k
  kG : k < G
  Gy : G ≤ y
  gcd : Int.gcd G k = Int.gcd x y
  d1 : y ∣ G - x * X
  d2 : y ∣ k - x * Y
  s : ∃ a b : Int, 0 ≤ a ∧ 0 ≤ b ∧ a ≤ y ∧ b ≤ y ∧ a * k + b * G = y ∧ ((X = -a ∧ Y = b) ∨ (X = a ∧ Y = -b))

theorem FF.start {x y : Int} (hy : 0 < y) : FF x y y (x.fmod y) 0 1 := by
  have hb := (fmod_bd (x := x) (y := y) (by omega)).1 hy
  have he := fmod_eq x y
  refine ⟨hb.1, hb.2, Int.le_refl _, ?_, ?_, ?_, 0, 1, by omega, by omega, by omega, by omega, by omega, .inl ⟨by omega, rfl⟩⟩
  · have h1 : x.fmod y = x - x.fdiv y * y := by omega
    rw [h1, Int.gcd_comm x y, Int.gcd_sub_mul_right_right]
  · rw [Int.mul_zero, Int.sub_zero]; exact Int.dvd_refl y
  · exact ⟨-x.fdiv y, by rw [Int.mul_neg, Int.mul_comm y, Int.mul_one]; omega⟩

theorem FF.step {x y G k X Y : Int} (h : FF x y G k X Y) (hk : 0 < k) : FF x y k (G.fmod k) Y (X - G.fdiv k * Y) := by
  obtain ⟨k0, kG, Gy, hg, d1, d2, a, b, ha, hb, hay, hby, hs, hXY⟩ := h
  have hr := (fmod_bd (x := G) (y := k) (by omega)).1 hk
  have he := fmod_eq G k
  obtain ⟨q, hq⟩ : ∃ q, G.fdiv k = q := ⟨_, rfl⟩
  obtain ⟨r, hr2⟩ : ∃ r, G.fmod k = r := ⟨_, rfl⟩
  rw [hq, hr2] at he
  rw [hr2] at hr
  rw [hq, hr2]
  have hq0 : 0 ≤ q := by
    rcases Int.lt_or_le q 0 with h1 | h1
    · have := Int.mul_le_mul_of_nonneg_right (show q ≤ -1 by omega) (show 0 ≤ k by omega)
      omega
    · exact h1
  have e1 : b * r + (a + q * b) * k = y := by
    rw [← hs, he, Int.add_mul, Int.mul_add, Int.mul_right_comm q b k, Int.mul_comm b (q * k)]; omega
  refine ⟨hr.1, hr.2, by omega, ?_, d2, ?_, b, a + q * b, hb, ?_, hby, ?_, e1, ?_⟩
  · have h1 : r = G - q * k := by omega
    rw [← hg, h1, Int.gcd_sub_mul_right_right, Int.gcd_comm]
  · have h1 : r - x * (X - q * Y) = (G - x * X) - q * (k - x * Y) := by
      rw [he, Int.mul_sub, Int.mul_sub, Int.mul_left_comm x q Y]; omega
    rw [h1]
    exact Int.dvd_sub d1 (Int.dvd_mul_of_dvd_right d2)
  · exact Int.add_nonneg ha (Int.mul_nonneg hq0 hb)
  · have h1 : 0 ≤ b * r := Int.mul_nonneg hb hr.1
    have h2 : (a + q * b) * 1 ≤ (a + q * b) * k := Int.mul_le_mul_of_nonneg_left (by omega) (Int.add_nonneg ha (Int.mul_nonneg hq0 hb))
    omega
  · rcases hXY with ⟨rfl, rfl⟩ | ⟨rfl, rfl⟩
    · right; exact ⟨rfl, by omega⟩
    · left; exact ⟨rfl, by rw [Int.mul_neg]; omega⟩

theorem FF.bd {x y G k X Y : Int} (h : FF x y G k X Y) : X.natAbs ≤ y.natAbs ∧ Y.natAbs ≤ y.natAbs ∧ G.natAbs ≤ y.natAbs ∧ k.natAbs ≤ y.natAbs := by
  obtain ⟨k0, kG, Gy, hg, d1, d2, a, b, ha, hb, hay, hby, hs, hXY⟩ := h
  rcases hXY with ⟨rfl, rfl⟩ | ⟨rfl, rfl⟩ <;> omega
theorem len_le {n m l : Nat} (h : n ≤ m) (hm : (dig m).length ≤ l) : (dig n).length ≤ l :=
  dig_length_le (Nat.lt_of_le_of_lt h (Nat.lt_of_lt_of_le (lt_pw_dig m) (pw_mono hm)))
theorem zo_zero (w : World) (B : Nat) : ZO w B (.agg #[.bool false, .slice none 0 0]) 0 := ⟨_, rfl, by rw [show dig (Int.natAbs 0) = [] from dig_eq_nil.2 rfl]; exact Own.nil w B none⟩

/-- What the loop of factorOfFirst keeps: the blocks of g, x, next, nextX and what they hold. -/
def FFrel (w : World) (A2 A3 A4 A5 A7 A9 : Nat) (va vb : Bool × Value) (x y : Int) (m : Nat) (k : Nat) (wr : World) : Prop :=
  ∃ (G X Y : Int) (s4 s5 s7 s9 : Bool) (o4 o5 o7 o9 : Option Addr) (n4 n5 n7 n9 c4 c5 c7 c9 : Nat), FF x y G k X Y ∧ Below w.heap.size w wr ∧
    Bk wr A2 va.1 va.2 ∧ Bk wr A3 vb.1 vb.2 ∧ ZN wr (.agg #[.bool vb.1, vb.2]) y m ∧
    Bk wr A4 s4 (.slice o4 n4 c4) ∧ Bk wr A5 s5 (.slice o5 n5 c5) ∧ Bk wr A7 s7 (.slice o7 n7 c7) ∧ Bk wr A9 s9 (.slice o9 n9 c9) ∧
    ZO wr w.heap.size (.agg #[.bool s4, .slice o4 n4 c4]) G ∧ ZO wr w.heap.size (.agg #[.bool s5, .slice o5 n5 c5]) X ∧ ZO wr w.heap.size (.agg #[.bool s7, .slice o7 n7 c7]) (k : Int) ∧ ZO wr w.heap.size (.agg #[.bool s9, .slice o9 n9 c9]) Y

end Go.Proofs.YtkgbfnmlpajblaaGreatDoor
