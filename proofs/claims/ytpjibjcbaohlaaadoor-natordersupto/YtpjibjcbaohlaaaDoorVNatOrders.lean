/- The law NatOrders returns true for every two slices of at most 2^20 digits, and writes nothing that was there. -/
import Derived.Test.YtpjibjcbaohlaaaDoorR6
import Derived.Test.YtpjibjcbaohlaaaDoorVNatSums
namespace Go.Proofs.YtpjibjcbaohlaaaDoor
open Go.RowKit Dig

theorem bits_rd {w : World} {va : Value} {xs : List Nat} (hx : Rd w va xs) (hxl : xs.length ≤ 100000000000) :
    Calls Tryd.prog 14 #[va] w fun e w' => e = .returned (.int .i64 ((bitsN (val xs) : Nat) : Int)) ∧ Below w.heap.size w w' := by
  obtain ⟨oa, ca, rfl, hca, okx, hcx⟩ := hx
  exact bits_any oa ca xs w (by omega) hca okx hcx
theorem rbits_rd {w : World} {va : Value} {xs : List Nat} (hx : Rd w va xs) (hxl : xs.length ≤ 100000000000) :
    Calls Tryd.prog 25 #[va] w fun e w' => e = .returned (.int .i64 ((bitsN (val xs) : Nat) : Int)) ∧ Below w.heap.size w w' := by
  obtain ⟨oa, ca, rfl, hca, okx, hcx⟩ := hx
  exact rbits_any oa ca xs w (by omega) hca okx hcx

set_option maxHeartbeats 800000 in
theorem walk_NatOrders (w : World) (va : Value) (xs : List Nat) (hx : Rd w va xs) (hxl : xs.length ≤ 1048576) (vb : Value) (ys : List Nat) (hy : Rd w vb ys) (hyl : ys.length ≤ 1048576) (htab : Lib.TabIs Tryd.prog w p10 .u64 Lib.pow10Tab) :
    Calls Tryd.prog 4 #[va, vb] w fun e w' => e = .returned (.bool true) ∧ Below w.heap.size w w' := by
  have hsl := strip_length_le xs
  have hd := dig_val hx.ok
  go_enter Tryd.func4, Tryd.ntmps4
  go_wp2_with fail
  refine (awake_any _ htab).mono ?_
  rintro e w1 ⟨rfl, hb1⟩
  have hx1 := hx.below hb1 (Nat.le_refl _)
  have hy1 := hy.below hb1 (Nat.le_refl _)
  clear hx hy
  go_wp2_with fail
  refine (norm_rd hx1 (by omega)).mono ?_
  rintro e w2 ⟨v, rfl, hv, hb2⟩
  have hv2 := hv.rd
  have hx2 := hx1.below hb2 (Nat.le_refl _)
  have hy2 := hy1.below hb2 (Nat.le_refl _)
  have hb := hb1.trans (hb2.mono hb1.size)
  clear hb1 hb2 hx1 hy1 hv
  go_wp2_with fail
  refine (is_any _ _ _ _ _ (by rw [hd]; omega) (by omega) hv2 hx2).mono ?_
  rintro e w3 ⟨rfl, hb3⟩
  have he : decide (dig (val xs) = strip xs) = true := by rw [hd]; simp
  rw [he]
  have hx3 := hx2.below hb3 (Nat.le_refl _)
  have hy3 := hy2.below hb3 (Nat.le_refl _)
  have hb := hb.trans (hb3.mono hb.size)
  clear hb3 hx2 hy2 hv2
  clear hd he
  go_wp2_with fail
  refine (cmp_rd hx3 hy3 (by omega) (by omega)).mono ?_
  rintro e w4 ⟨rfl, hb4⟩
  have hx4 := hx3.below hb4 (Nat.le_refl _)
  have hy4 := hy3.below hb4 (Nat.le_refl _)
  have hb := hb.trans (hb4.mono hb.size)
  clear hb4 hx3 hy3
  go_wp2_with fail
  refine (rcmp_rd hx4 hy4 (by omega) (by omega)).mono ?_
  rintro e w5 ⟨rfl, hb5⟩
  have hx5 := hx4.below hb5 (Nat.le_refl _)
  have hb := hb.trans (hb5.mono hb.size)
  clear hb5 hx4 hy4
  have hc : (cmpI (val xs) (val ys) == cmpI (val xs) (val ys)) = true := by simp
  generalize cmpI (val xs) (val ys) = c at *
  go_wp2_with fail
  refine (bits_rd hx5 (by omega)).mono ?_
  rintro e w6 ⟨rfl, hb6⟩
  have hx6 := hx5.below hb6 (Nat.le_refl _)
  have hb := hb.trans (hb6.mono hb.size)
  clear hb6 hx5
  go_wp2_with fail
  refine (rbits_rd hx6 (by omega)).mono ?_
  rintro e w7 ⟨rfl, hb7⟩
  have hb := hb.trans (hb7.mono hb.size)
  generalize bitsN (val xs) = c2 at *
  go_wp2
  go_ret
  exact ⟨by simp, hb⟩
end Go.Proofs.YtpjibjcbaohlaaaDoor
