/- The law NatProducts returns true for every two slices of at most 2^20 digits, and writes nothing that was there. -/
import Derived.Test.YtpjibjcbaohlaaaDoorR3
namespace Go.Proofs.YtpjibjcbaohlaaaDoor
open Go.RowKit Dig

theorem rmul_rd {w : World} {va vb : Value} {xs ys : List Nat} (hx : Rd w va xs) (hy : Rd w vb ys) (hxl : xs.length ≤ 100000000000) (hyl : ys.length ≤ 100000000000) :
    Calls Tryd.prog 29 #[va, vb] w fun e w' => ∃ v, e = .returned v ∧ Rd w' v (dig (val xs * val ys)) ∧ Below w.heap.size w w' := by
  obtain ⟨oa, ca, rfl, hca, okx, hcx⟩ := hx
  obtain ⟨ob, cb, rfl, hcb, oky, hcy⟩ := hy
  exact rmul_any oa ob ca cb xs ys w (by omega) (by omega) okx oky hcx hcy

theorem dig_mul_length (xs ys : List Nat) (okx : OK xs) (oky : OK ys) : (dig (val xs * val ys)).length ≤ xs.length + ys.length := by
  refine dig_length_le ?_
  rw [pw_add]
  exact Nat.mul_lt_mul_of_lt_of_le (val_lt okx) (Nat.le_of_lt (val_lt oky)) (pw_pos _)

set_option maxHeartbeats 400000 in
theorem walk_NatProducts (w : World) (va : Value) (xs : List Nat) (hx : Rd w va xs) (hxl : xs.length ≤ 1048576) (vb : Value) (ys : List Nat) (hy : Rd w vb ys) (hyl : ys.length ≤ 1048576) (htab : Lib.TabIs Tryd.prog w p10 .u64 Lib.pow10Tab) :
    Calls Tryd.prog 6 #[va, vb] w fun e w' => e = .returned (.bool true) ∧ Below w.heap.size w w' := by
  have hlen := dig_mul_length xs ys hx.ok hy.ok
  go_enter Tryd.func6, Tryd.ntmps6
  go_wp2_with fail
  refine (awake_any _ htab).mono ?_
  rintro e w1 ⟨rfl, hb1⟩
  go_wp2_with fail
  have hx1 := hx.below hb1 (Nat.le_refl _)
  have hy1 := hy.below hb1 (Nat.le_refl _)
  refine (mul_rd hx1 hy1 (by omega) (by omega)).mono ?_
  rintro e w2 ⟨v, rfl, hv, hb2⟩
  have hx2 := hx1.below hb2 (Nat.le_refl _)
  have hy2 := hy1.below hb2 (Nat.le_refl _)
  go_wp2_with fail
  refine (rmul_rd hx2 hy2 (by omega) (by omega)).mono ?_
  rintro e w3 ⟨v', rfl, hv', hb3⟩
  have hv3 := hv.rd.below hb3 (Nat.le_refl _)
  go_wp2_with fail
  refine (is_any _ _ _ _ _ (by omega) (by omega) hv3 hv').mono ?_
  rintro e w4 ⟨rfl, hb4⟩
  have e1 : decide (dig (val xs * val ys) = strip (dig (val xs * val ys))) = true := by rw [strip_dig]; simp
  rw [e1]
  have hb12 := hb1.trans (hb2.mono hb1.size)
  have hb13 := hb12.trans (hb3.mono hb12.size)
  have hb14 := hb13.trans (hb4.mono hb13.size)
  go_wp2
  go_ret
  exact ⟨rfl, hb14⟩
end Go.Proofs.YtpjibjcbaohlaaaDoor
