/- The law NatSums returns true for every two slices of at most 2^20 digits, and writes nothing that was there. -/
import Derived.Test.YtpjibjcbaohlaaaDoorR5
namespace Go.Proofs.YtpjibjcbaohlaaaDoor
open Go.RowKit Dig

theorem radd_rd {w : World} {va vb : Value} {xs ys : List Nat} (hx : Rd w va xs) (hy : Rd w vb ys) (hxl : xs.length ≤ 100000000000) (hyl : ys.length ≤ 100000000000) :
    Calls Tryd.prog 27 #[va, vb] w fun e w' => ∃ v, e = .returned v ∧ Rd w' v (dig (val xs + val ys)) ∧ Below w.heap.size w w' := by
  obtain ⟨oa, ca, rfl, hca, okx, hcx⟩ := hx
  obtain ⟨ob, cb, rfl, hcb, oky, hcy⟩ := hy
  exact radd_any oa ob ca cb xs ys w (by omega) (by omega) okx oky hcx hcy
theorem rsub_rd {w : World} {va vb : Value} {xs ys : List Nat} (hx : Rd w va xs) (hy : Rd w vb ys) (hxl : xs.length ≤ 100000000000) (hyl : ys.length ≤ 100000000000) (hle : val ys ≤ val xs) :
    Calls Tryd.prog 28 #[va, vb] w fun e w' => ∃ v, e = .returned v ∧ Rd w' v (dig (val xs - val ys)) ∧ Below w.heap.size w w' := by
  obtain ⟨oa, ca, rfl, hca, okx, hcx⟩ := hx
  obtain ⟨ob, cb, rfl, hcb, oky, hcy⟩ := hy
  exact rsub_any oa ob ca cb xs ys w (by omega) (by omega) okx oky hcx hcy hle
theorem rcmp_rd {w : World} {va vb : Value} {xs ys : List Nat} (hx : Rd w va xs) (hy : Rd w vb ys) (hxl : xs.length ≤ 100000000000) (hyl : ys.length ≤ 100000000000) :
    Calls Tryd.prog 24 #[va, vb] w fun e w' => e = .returned (.int .i64 (cmpI (val xs) (val ys))) ∧ Below w.heap.size w w' := by
  obtain ⟨oa, ca, rfl, hca, okx, hcx⟩ := hx
  obtain ⟨ob, cb, rfl, hcb, oky, hcy⟩ := hy
  exact rcmp_any oa ob ca cb xs ys w (by omega) (by omega) hca hcb okx oky hcx hcy

theorem dig_add_length (xs ys : List Nat) (okx : OK xs) (oky : OK ys) : (dig (val xs + val ys)).length ≤ xs.length + ys.length + 1 := by
  refine dig_length_le ?_
  have h1 := Nat.lt_of_lt_of_le (val_lt okx) (pw_mono (Nat.le_add_right xs.length ys.length))
  have h2 := Nat.lt_of_lt_of_le (val_lt oky) (pw_mono (Nat.le_add_left ys.length xs.length))
  simp only [pw]; omega
theorem dig_sub_length (xs : List Nat) (n : Nat) (okx : OK xs) : (dig (val xs - n)).length ≤ xs.length :=
  dig_length_le (by have := val_lt okx; omega)
theorem decide_dig (n : Nat) : decide (dig n = strip (dig n)) = true := by rw [strip_dig]; simp

set_option maxHeartbeats 800000 in
theorem walk_NatSums (w : World) (va : Value) (xs : List Nat) (hx : Rd w va xs) (hxl : xs.length ≤ 1048576) (vb : Value) (ys : List Nat) (hy : Rd w vb ys) (hyl : ys.length ≤ 1048576) (htab : Lib.TabIs Tryd.prog w p10 .u64 Lib.pow10Tab) :
    Calls Tryd.prog 5 #[va, vb] w fun e w' => e = .returned (.bool true) ∧ Below w.heap.size w w' := by
  have htabs := Lib.tabBelow_of_tabIs htab
  have hla := dig_add_length xs ys hx.ok hy.ok
  have hls := dig_sub_length xs (val ys) hx.ok
  by_cases hlt : val xs < val ys
  all_goals
    go_enter Tryd.func5, Tryd.ntmps5
    go_wp2_with fail
    refine (sub_rd hx hy (by omega) (by omega)).mono ?_
    rintro e w1 ⟨vd, rfl, hd, hb1⟩
    first | rw [if_pos hlt] at hd | rw [if_neg hlt] at hd
    have hx1 := hx.below hb1 (Nat.le_refl _)
    have hy1 := hy.below hb1 (Nat.le_refl _)
    have hd1 := hd.rd
    clear hd hx hy
    go_wp2_with fail
    refine (awake_any _ (htabs _ hb1)).mono ?_
    rintro e w2 ⟨rfl, hb2⟩
    have hx2 := hx1.below hb2 (Nat.le_refl _)
    have hy2 := hy1.below hb2 (Nat.le_refl _)
    have hd2 := hd1.below hb2 (Nat.le_refl _)
    have hb := hb1.trans (hb2.mono hb1.size)
    clear hb1 hb2 hx1 hy1 hd1
    go_wp2_with fail
    refine (add_rd hx2 hy2 (by omega) (by omega)).mono ?_
    rintro e w3 ⟨v, rfl, hv, hb3⟩
    have hv3 := hv.rd
    have hx3 := hx2.below hb3 (Nat.le_refl _)
    have hy3 := hy2.below hb3 (Nat.le_refl _)
    have hd3 := hd2.below hb3 (Nat.le_refl _)
    have hb := hb.trans (hb3.mono hb.size)
    clear hb3 hx2 hy2 hd2 hv
    go_wp2_with fail
    refine (radd_rd hx3 hy3 (by omega) (by omega)).mono ?_
    rintro e w4 ⟨v', rfl, hv', hb4⟩
    have hv4 := hv3.below hb4 (Nat.le_refl _)
    have hx4 := hx3.below hb4 (Nat.le_refl _)
    have hy4 := hy3.below hb4 (Nat.le_refl _)
    have hd4 := hd3.below hb4 (Nat.le_refl _)
    have hb := hb.trans (hb4.mono hb.size)
    clear hb4 hx3 hy3 hd3 hv3
    go_wp2_with fail
    refine (is_any _ _ _ _ _ (by omega) (by omega) hv4 hv').mono ?_
    rintro e w5 ⟨rfl, hb5⟩
    rw [decide_dig]
    have hx5 := hx4.below hb5 (Nat.le_refl _)
    have hy5 := hy4.below hb5 (Nat.le_refl _)
    have hd5 := hd4.below hb5 (Nat.le_refl _)
    have hb := hb.trans (hb5.mono hb.size)
    clear hb5 hx4 hy4 hd4 hv4 hv'
    go_wp2_with fail
    refine (rcmp_rd hx5 hy5 (by omega) (by omega)).mono ?_
    rintro e w6 ⟨rfl, hb6⟩
    have hx6 := hx5.below hb6 (Nat.le_refl _)
    have hy6 := hy5.below hb6 (Nat.le_refl _)
    have hd6 := hd5.below hb6 (Nat.le_refl _)
    have hb := hb.trans (hb6.mono hb.size)
    clear hb6 hx5 hy5 hd5
  · have hneg : cmpI (val xs) (val ys) < 0 := cmpI_neg.2 hlt
    have hs : subI (val xs) (val ys) = 6 := by unfold subI; rw [if_pos hlt]
    generalize cmpI (val xs) (val ys) = c at *
    rw [hs]
    clear hs
    obtain ⟨od, cd, rfl, _, _, _⟩ := hd6
    go_wp2
    go_ret
    exact ⟨rfl, hb⟩
  · have hneg : ¬ cmpI (val xs) (val ys) < 0 := fun h => hlt (cmpI_neg.1 h)
    have hs : subI (val xs) (val ys) = 0 := by unfold subI; rw [if_neg hlt]
    generalize cmpI (val xs) (val ys) = c at *
    rw [hs]
    clear hs
    go_wp2_with fail
    refine (rsub_rd hx6 hy6 (by omega) (by omega) (by omega)).mono ?_
    rintro e w7 ⟨v', rfl, hv', hb7⟩
    have hd7 := hd6.below hb7 (Nat.le_refl _)
    have hb := hb.trans (hb7.mono hb.size)
    go_wp2_with fail
    refine (is_any _ _ _ _ _ (by omega) (by omega) hd7 hv').mono ?_
    rintro e w8 ⟨rfl, hb8⟩
    rw [decide_dig]
    have hb := hb.trans (hb8.mono hb.size)
    go_wp2
    go_ret
    exact ⟨rfl, hb⟩
end Go.Proofs.YtpjibjcbaohlaaaDoor
