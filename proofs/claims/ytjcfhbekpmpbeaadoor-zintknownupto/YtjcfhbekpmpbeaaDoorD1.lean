/- nat.digitOr0 and shiftedDigit: a digit, and a digit of a number shifted up. -/
import Derived.Test.YtjcfhbekpmpbeaaDoorW6
namespace Go.Proofs.YtjcfhbekpmpbeaaDoor
open Go.RowKit Dig

/-- Digit k of a list, 0 below it. -/
def dg (ds : List Nat) (k : Int) : Nat := if k < 0 then 0 else ds[k.toNat]?.getD 0
theorem dg_nat (ds : List Nat) (k : Nat) : dg ds (k : Int) = ds[k]?.getD 0 := by
  unfold dg; rw [if_neg (by omega), Int.toNat_natCast]
theorem dg_neg (ds : List Nat) (k : Int) (h : k < 0) : dg ds k = 0 := by unfold dg; rw [if_pos h]
theorem dg_lt {ds : List Nat} (ok : OK ds) (k : Int) : dg ds k < 4294967296 := by
  unfold dg; split
  · decide
  · exact ok.get _

theorem digitOr0_any (oa : Option Addr) (n ca : Nat) (ds : List Nat) (k : Int) (w : World) (e : ds.length = n) (hl : n ≤ 100000000000) (ok : OK ds) (hx : Cells w oa ds) (hk : k < n) :
    Calls Tryd.prog 82 #[.slice oa n ca, .int .i64 k] w fun e w' => e = .returned (.int .u64 (dg ds k : Nat)) ∧ w = w' := by
  subst e
  by_cases h0 : k < 0
  · rw [dg_neg ds k h0]
    go_enter Tryd.func82, Tryd.ntmps82
    go_wp2
    go_ret
    exact ⟨rfl, rfl⟩
  · obtain ⟨j, rfl⟩ : ∃ j : Nat, k = j := ⟨k.toNat, by omega⟩
    obtain ⟨b, off, x, ho, gu, Hx⟩ := hx.get (i := j) (by omega)
    subst ho
    have hxb : x < 4294967296 := by have := ok.get j; rw [Hx.out] at this; exact this
    rw [dg_nat, Hx.out]
    go_enter Tryd.func82, Tryd.ntmps82
    go_wp2
    go_ret
    exact ⟨rfl, rfl⟩

/-- Digit k of a number shifted up by s bits. -/
def sdg (ds : List Nat) (k : Int) (s : Nat) : Nat := (dg ds k * 4294967296 + dg ds (k - 1)) * 2 ^ s % 18446744073709551616 / 4294967296

theorem shiftedDigit_any (oa : Option Addr) (n ca : Nat) (ds : List Nat) (k : Int) (s : Nat) (w : World) (e : ds.length = n) (hl : n ≤ 100000000000) (ok : OK ds) (hx : Cells w oa ds) (hk : k < n) (hlo : -4 ≤ k) (hs : s < 32) :
    Calls Tryd.prog 72 #[.slice oa n ca, .int .i64 k, .int .i64 (s : Int)] w fun e w' => e = .returned (.int .u64 (sdg ds k s : Nat)) ∧ w = w' := by
  obtain ⟨x, Hx⟩ : ∃ x, Hid (dg ds k = x) := ⟨_, hide rfl⟩
  obtain ⟨y, Hy⟩ : ∃ y, Hid (dg ds (k - 1) = y) := ⟨_, hide rfl⟩
  obtain ⟨r, Hr⟩ : ∃ r, Hid (sdg ds k s = r) := ⟨_, hide rfl⟩
  have hx1 : x < 4294967296 := by rw [← Hx.out]; exact dg_lt ok k
  have hy1 : y < 4294967296 := by rw [← Hy.out]; exact dg_lt ok (k - 1)
  have hor := or_hi x y hx1 hy1
  rw [Hr.out]
  go_enter Tryd.func72, Tryd.ntmps72
  go_wp2_with fail
  refine (digitOr0_any oa n ca ds k w e hl ok hx hk).mono ?_
  rintro e1 w1 ⟨rfl, rfl⟩
  rw [Hx.out]
  go_wp2_with fail
  refine (digitOr0_any oa n ca ds (k - 1) w e hl ok hx (by omega)).mono ?_
  rintro e1 w1 ⟨rfl, rfl⟩
  rw [Hy.out]
  go_wp2_with fail
  have hfin : IntKind.u64.wrap (((x : Int) * 4294967296 + (y : Int)) * 2 ^ s) / 4294967296 = (r : Int) := by
    have e1 := Hr.out
    unfold sdg at e1
    rw [Hx.out, Hy.out] at e1
    rw [IntKind.wrap_u64, ← e1]
    have e2 : ((x : Int) * 4294967296 + (y : Int)) * 2 ^ s = (((x * 4294967296 + y) * 2 ^ s : Nat) : Int) := by simp
    rw [e2]
    generalize (x * 4294967296 + y) * 2 ^ s = z
    omega
  rw [hfin]
  go_ret
  exact ⟨rfl, rfl⟩
end Go.Proofs.YtjcfhbekpmpbeaaDoor
