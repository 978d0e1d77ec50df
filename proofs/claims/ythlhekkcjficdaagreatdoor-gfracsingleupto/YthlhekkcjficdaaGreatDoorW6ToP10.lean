/- nat.takeGroup divides a row of digits by 10^9 in place and answers the rest. -/
import Derived.Test.YthlhekkcjficdaaGreatDoorSlToW5
import Derived.Test.YthlhekkcjficdaaGreatDoorRows

namespace Go.Proofs.YthlhekkcjficdaaGreatDoor
open Go.RowKit Dig
theorem or_hi (r y : Nat) (hr : r < 4294967296) (hy : y < 4294967296) : bits .or .u64 ((r : Int) * 4294967296) (y : Int) = (r : Int) * 4294967296 + (y : Int) := by
 have h := u64_or_nat (r * 4294967296) y (by omega) (by omega)
 have e : r * 4294967296 ||| y = r * 4294967296 + y := by
   have := Nat.shiftLeft_add_eq_or_of_lt (b := y) (i := 32) (by omega) r
   rw [Nat.shiftLeft_eq] at this
   exact this.symm
 rw [e] at h
 simpa using h
theorem short_step {us ys : List Nat} {j n r g q r' y M : Nat} (hj : j < n) (hn : n ≤ us.length) (hl : ys.length = us.length) (hlow : ∀ i, i < j + 1 → ys[i]?.getD 0 = us[i]?.getD 0) (hy : ys[j]?.getD 0 = y)
   (heq : val (seg us (j + 1) (n - (j + 1))) = val (seg ys (j + 1) (n - (j + 1))) * M + r) (hq : r * 4294967296 + y = q * M + r') (hg : g = q) :
   val (seg us j (n - j)) = val (seg (ys.set j g) j (n - j)) * M + r' := by
 subst hg
 have cut : ∀ zs : List Nat, zs.length = us.length → val (seg zs j (n - j)) = zs[j]?.getD 0 + 4294967296 * val (seg zs (j + 1) (n - (j + 1))) := by
   intro zs hz
   have := seg_split (xs := zs) (off := j) (k := 1) (n := n - j) (by omega) (by omega)
   rw [this, seg_succ (xs := zs) (off := j) (i := 0) (by omega), seg_zero]
   have e : n - j - 1 = n - (j + 1) := by omega
   simp only [pw, e, Nat.add_zero]; omega
 rw [cut us rfl, cut (ys.set j g) (by simpa using hl), getD_set_same (by omega), ← hlow j (by omega), hy, heq]
 have e : seg (ys.set j g) (j + 1) (n - (j + 1)) = seg ys (j + 1) (n - (j + 1)) := seg_congr (by simp) (fun i h1 _ => getD_set_other (by omega))
 rw [e, Nat.add_mul, Nat.mul_assoc, Nat.mul_add]
 omega
set_option maxHeartbeats 800000 in
set_option maxRecDepth 20000 in
theorem takeGroup_any (b n cap : Nat) (us : List Nat) (w : World) (hn : n ≤ 1099511627776) (_hnc : n ≤ cap) (hrow : Row w b us) (hul : n ≤ us.length) (hus : us.length ≤ 4398046511104) :
   Calls Tryz.prog 203 #[.slice (some ⟨b, 0, none⟩) n cap] w fun e w' =>
     ∃ r us', e = .returned (.int .u64 ((r : Nat) : Int)) ∧ r < 1000000000 ∧ Row w' b us' ∧ Only b w w' ∧ us'.length = us.length ∧ val (seg us 0 n) = val (seg us' 0 n) * 1000000000 + r := by
 go_enter Tryz.func203, Tryz.ntmps203
 go_wp2_with fail
 go_loopw [3, 4] (fun c i wr => ∃ (k r : Nat) (ys : List Nat), k ≤ n ∧ c = .int .u64 (r : Int) ∧ i = .int .i64 ((k : Int) - 1) ∧ r < 1000000000 ∧ Row wr b ys ∧ Only b w wr ∧ ys.length = us.length ∧
     (∀ j, j < k → ys[j]?.getD 0 = us[j]?.getD 0) ∧ val (seg us k (n - k)) = val (seg ys k (n - k)) * 1000000000 + r) (fun _ i _ => (intOf i + 1).toNat)
 case atStart => exact ⟨n, 0, us, Nat.le_refl _, rfl, rfl, by decide, hrow, Only.refl _ _, rfl, fun _ _ => rfl, by simp [seg, val]⟩
 case round =>
   obtain ⟨k, r, ys, hk, rfl, rfl, hrb, hr, ho, hyl, hlow, heq⟩ := hrel
   have Heq := hide heq
   have Hlow := hide hlow
   have Hyl := hide hyl
   clear heq hlow
   by_cases hk0 : 0 < k
   · obtain ⟨j, rfl⟩ : ∃ j, k = j + 1 := ⟨k - 1, by omega⟩
     have gu := hr.cell (i := j) (by omega)
     have gf := hr.free j
     obtain ⟨y, Hy⟩ : ∃ y, Hid (ys[j]?.getD 0 = y) := ⟨_, rfl⟩
     rw [Hy.out] at gu
     have hyb : y < 4294967296 := by have := hr.2.get j; rw [Hy.out] at this; exact this
     have hjn : j < n := by omega
     rw [show ((j + 1 : Nat) : Int) - 1 = (j : Int) from by omega]
     have hor := or_hi r y (by omega) hyb
     have hs := short_step (M := 1000000000) (g := (r * 4294967296 + y) / 1000000000) (q := (r * 4294967296 + y) / 1000000000) (r' := (r * 4294967296 + y) % 1000000000) hjn hul hyl Hlow.out Hy.out Heq.out (by omega) rfl
     have HS := hide hs
     have hnn : 0 ≤ (r : Int) * 4294967296 + (y : Int) := by omega
     have hq : ((r : Int) * 4294967296 + (y : Int)) / 1000000000 = (((r * 4294967296 + y) / 1000000000 : Nat) : Int) := by simp
     have hm : ((r : Int) * 4294967296 + (y : Int)) % 1000000000 = (((r * 4294967296 + y) % 1000000000 : Nat) : Int) := by simp
     have HQ := hide hq
     have HM := hide hm
     clear hs hyl hq hm
     go_wp2_with fail
     rw [HQ.out, HM.out]
     go_roundw
     case rel =>
       exact ⟨j, _, ys.set j ((r * 4294967296 + y) / 1000000000), by omega, rfl, by go_num, by omega, hr.set _ (by omega), ho.setCell _ _, by simpa using Hyl.out,
         fun i hi => by rw [getD_set_other (by omega)]; exact Hlow.out i (by omega), HS.out⟩
     case measure => simp [intOf]
   · obtain rfl : k = 0 := by omega
     go_wp2_with fail
     go_ret
     exact ⟨r, ys, rfl, hrb, hr, ho, Hyl.out, by have := Heq.out; simpa using this⟩
end Go.Proofs.YthlhekkcjficdaaGreatDoor

/- The name of the library's table, taken off the given row. -/
namespace Go.Proofs.YthlhekkcjficdaaGreatDoor
def p10 : String := Rows.gfracKnownRow.named.headD ""
end Go.Proofs.YthlhekkcjficdaaGreatDoor
