/- nat.Shl and Shr, at every number of places: the canonical digits, or the error. -/
import Derived.Test.YtdjfgpfeepbnaaaDoorMx
import Derived.Test.YtdjfgpfeepbnaaaDoorSx
import Derived.Test.YtdjfgpfeepbnaaaDoorW9
namespace Go.Proofs.YtdjfgpfeepbnaaaDoor
open Go.RowKit Dig
set_option maxHeartbeats 800000 in
set_option maxRecDepth 20000 in
theorem shl_any (oa : Option Addr) (ca : Nat) (xs : List Nat) (n : Int) (w : World) (hl : xs.length ≤ 100000000000) (hc : xs.length ≤ ca) (ok : OK xs) (hx : Cells w oa xs) :
    Calls Tryd.prog 17 #[.slice oa xs.length ca, .int .i64 n] w fun e w' => ∃ v, e = .returned (.tuple #[v, .int .i64 (shlI n)]) ∧ Own w' w.heap.size v (shlD (val xs) n) ∧ Below w.heap.size w w' := by
  have hsl := strip_length_le xs
  by_cases h0 : n < 0
  · have e1 : shlI n = 9 := by unfold shlI; rw [if_pos h0]
    have e2 : shlD (val xs) n = [] := by unfold shlD; rw [if_pos (.inl h0)]
    rw [e1, e2]
    go_enter Tryd.func17, Tryd.ntmps17
    go_wp2
    go_ret2
    exact ⟨_, rfl, Own.nil _ _ _, Below.refl _ _⟩
  · by_cases h1 : 65536 < n
    · have e1 : shlI n = 12 := by unfold shlI; rw [if_neg h0, if_pos h1]
      have e2 : shlD (val xs) n = [] := by unfold shlD; rw [if_pos (.inr h1)]
      rw [e1, e2]
      go_enter Tryd.func17, Tryd.ntmps17
      go_wp2
      go_ret2
      exact ⟨_, rfl, Own.nil _ _ _, Below.refl _ _⟩
    · have e1 : shlI n = 0 := by unfold shlI; rw [if_neg h0, if_neg h1]
      have e2 : shlD (val xs) n = dig (val xs * 2 ^ n.toNat) := by unfold shlD; rw [if_neg (by omega)]
      rw [e1, e2]
      obtain ⟨k, rfl⟩ : ∃ k : Nat, n = k := ⟨n.toNat, by omega⟩
      rw [Int.toNat_natCast]
      have hv := val_strip xs
      go_enter Tryd.func17, Tryd.ntmps17
      go_wp2_with fail
      refine (trim_any oa ca xs _ (by omega) hc hx).mono ?_
      rintro e w' ⟨rfl, rfl⟩
      have hs := shiftUp_any oa ca k (strip xs) w (by omega) (by omega) (OK_strip ok) hx.strip
      rw [hv] at hs
      clear hv e1 e2
      go_wp2_with fail
      refine hs.mono ?_
      rintro e w1 ⟨v, rfl, hv, hb⟩
      go_wp2
      go_ret2
      exact ⟨_, rfl, hv, hb⟩

set_option maxHeartbeats 1000000 in
set_option maxRecDepth 20000 in
theorem shr_any (oa : Option Addr) (ca : Nat) (xs : List Nat) (n : Int) (w : World) (hl : xs.length ≤ 100000000000) (hc : xs.length ≤ ca) (ok : OK xs) (hx : Cells w oa xs) (hn : n ≤ 9223372036854775807) :
    Calls Tryd.prog 18 #[.slice oa xs.length ca, .int .i64 n] w fun e w' => ∃ v, e = .returned (.tuple #[v, .int .i64 (shrI n)]) ∧ Own w' w.heap.size v (shrD (val xs) n) ∧ Below w.heap.size w w' := by
  have hsl := strip_length_le xs
  by_cases h0 : n < 0
  · have e1 : shrI n = 9 := by unfold shrI; rw [if_pos h0]
    have e2 : shrD (val xs) n = [] := by unfold shrD; rw [if_pos h0]
    rw [e1, e2]
    go_enter Tryd.func18, Tryd.ntmps18
    go_wp2
    go_ret2
    exact ⟨_, rfl, Own.nil _ _ _, Below.refl _ _⟩
  · have e1 : shrI n = 0 := by unfold shrI; rw [if_neg h0]
    have e2 : shrD (val xs) n = dig (val xs / 2 ^ n.toNat) := by unfold shrD; rw [if_neg h0]
    rw [e1, e2]
    obtain ⟨N, rfl⟩ : ∃ N : Nat, n = N := ⟨n.toNat, by omega⟩
    rw [Int.toNat_natCast]
    obtain ⟨k, s, hks, hs⟩ : ∃ k s, N = 32 * k + s ∧ s < 32 := ⟨N / 32, N % 32, by omega, by omega⟩
    have hq : (N : Int) / 32 = (k : Int) := by omega
    have hm : (N : Int) % 32 = (s : Int) := by omega
    have hx' := hx.strip
    have okX := OK_strip ok
    have hss := strip_strip' xs
    have hvs := val_strip xs
    obtain ⟨r, Hr⟩ : ∃ r, Hid (dig (val xs / 2 ^ N) = r) := ⟨_, rfl⟩
    rw [Hr.out]
    have HV := hide hvs
    have HSS := hide hss
    have HK := hide hks
    have hkb : k ≤ 300000000000000000 := by omega
    clear e1 e2 hvs hss hks
    go_enter Tryd.func18, Tryd.ntmps18
    go_wp2_with fail
    refine (trim_any oa ca xs _ (by omega) hc hx).mono ?_
    rintro e w' ⟨rfl, rfl⟩
    generalize strip xs = X at *
    by_cases hk : k < X.length
    · obtain ⟨b, off, ho, _⟩ := hx'.resolve_left (fun e => by rw [e] at hk; simp at hk)
      subst ho
      go_wp2_with fail
      refine (norm_n _ _ _ (X.drop k) w (by rw [List.length_drop]) (by omega) (by omega) (okX.drop k) (hx'.drop k)).mono ?_
      rintro e w1 ⟨rfl, hrow, hb1⟩
      have hsd : strip (X.drop k) = X.drop k := strip_drop HSS.out k
      rw [hsd] at hrow ⊢
      have hvd : val X / 2 ^ N = val (X.drop k) / 2 ^ s := by
        have h1 := val_split X k (by omega)
        have h2 : val (X.take k) < pw k := by
          have := val_lt (okX.take k)
          rw [List.length_take, Nat.min_eq_left (by omega)] at this; exact this
        rw [HK.out, Nat.pow_add, ← pw_eq, ← Nat.div_div_eq_div_mul, h1, Nat.add_mul_div_left _ _ (pw_pos k), Nat.div_eq_of_lt h2, Nat.zero_add]
      have HVD := hide hvd
      have hZl : (X.drop k).length ≤ 100000000000 := by rw [List.length_drop]; omega
      generalize X.drop k = Z at *
      have HSD := hide hsd
      clear hvd hsd
      go_wp2_with fail
      go_loopw [9, 10] (fun c i wr => ∃ (j A : Nat) (ys : List Nat), j ≤ Z.length ∧ c = .int .u64 (A : Int) ∧ i = .int .i64 ((j : Int) - 1) ∧ A < 18446744073709551616 ∧ Row wr w.heap.size ys ∧ Below w.heap.size w wr ∧ ys.length = Z.length ∧
        (∀ t, t < j → ys[t]?.getD 0 = Z[t]?.getD 0) ∧ val (seg ys j (Z.length - j)) = val (seg Z j (Z.length - j)) / 2 ^ s ∧ A % 2 ^ s = val (seg Z j (Z.length - j)) % 2 ^ s) (fun _ i _ => (intOf i + 1).toNat)
      case atStart => exact ⟨Z.length, 0, Z, Nat.le_refl _, rfl, rfl, by decide, hrow, hb1, rfl, fun _ _ => rfl, by simp [seg, val], by simp [seg, val]⟩
      case round =>
        obtain ⟨j', A, ys, hj, rfl, rfl, hA, hr, hb, hyl, hlow, heq, hmod⟩ := hrel
        have Heq := hide heq
        have Hlow := hide hlow
        have Hyl := hide hyl
        have Hmod := hide hmod
        clear heq hlow hyl hmod
        by_cases hj0 : 0 < j'
        · obtain ⟨j, rfl⟩ : ∃ j, j' = j + 1 := ⟨j' - 1, by omega⟩
          have hjl : j < Z.length := by omega
          have gu := hr.cell (i := j) (by have := Hyl.out; omega)
          have gf := hr.free j
          obtain ⟨x, Hx⟩ : ∃ x, Hid (ys[j]?.getD 0 = x) := ⟨_, rfl⟩
          rw [Hx.out] at gu
          have hxb : x < 4294967296 := by have := hr.2.get j; rw [Hx.out] at this; exact this
          have hZx : Z[j]?.getD 0 = x := by rw [← Hlow.out j (by omega)]; exact Hx.out
          obtain ⟨t, ht⟩ : ∃ t, A % 4294967296 * 4294967296 + x = t := ⟨_, rfl⟩
          have hor := or_hi' A x t hA hxb ht
          have htb : t < 18446744073709551616 := by omega
          have hpp : 2 ^ s * 2 ^ (32 - s) = 4294967296 := by rw [← Nat.pow_add, show s + (32 - s) = 32 by omega]
          have hst := shr_step (V := val (seg Z (j + 1) (Z.length - (j + 1)))) (Nat.pow_pos (by decide)) hpp hxb Hmod.out ht
          have cut : ∀ zs : List Nat, zs.length = Z.length → val (seg zs j (Z.length - j)) = zs[j]?.getD 0 + 4294967296 * val (seg zs (j + 1) (Z.length - (j + 1))) := by
            intro zs hz
            have := seg_split (xs := zs) (off := j) (k := 1) (n := Z.length - j) (by omega) (by omega)
            rw [this, seg_succ (xs := zs) (off := j) (i := 0) (by omega), seg_zero]
            have e : Z.length - j - 1 = Z.length - (j + 1) := by omega
            simp only [pw, e, Nat.add_zero]; omega
          have hZc : val (seg Z j (Z.length - j)) = x + 4294967296 * val (seg Z (j + 1) (Z.length - (j + 1))) := by rw [cut Z rfl, hZx]
          rw [← hZc] at hst
          have hyc : val (seg (ys.set j (t / 2 ^ s % 4294967296)) j (Z.length - j)) = val (seg Z j (Z.length - j)) / 2 ^ s := by
            rw [cut _ (by simpa using Hyl.out), getD_set_same (by have := Hyl.out; omega), hst.1]
            have e : seg (ys.set j (t / 2 ^ s % 4294967296)) (j + 1) (Z.length - (j + 1)) = seg ys (j + 1) (Z.length - (j + 1)) := seg_congr (by simp) (fun i h1 _ => getD_set_other (by omega))
            rw [e, Heq.out]
          have HYC := hide hyc
          have HM := hide hst.2
          have e2 : (t : Int) / 2 ^ s % 4294967296 = ((t / 2 ^ s % 4294967296 : Nat) : Int) := by simp
          have E2 := hide e2
          rw [show ((j + 1 : Nat) : Int) - 1 = (j : Int) from by omega]
          clear cut hst hZc hyc hpp ht hZx e2
          go_wp2_with fail
          rw [E2.out]
          go_roundw
          case rel =>
            exact ⟨j, t, ys.set j (t / 2 ^ s % 4294967296), by omega, rfl, rfl, htb, hr.set _ (Nat.mod_lt _ (by decide)), hb.setCell (Nat.le_refl _) _, by simpa using Hyl.out,
              fun i hi => by rw [getD_set_other (by omega)]; exact Hlow.out i (by omega), HYC.out, HM.out⟩
          case measure => simp [intOf]
        · obtain rfl : j' = 0 := by omega
          have hfin : strip ys = r := by
            have h1 := Heq.out
            have h2 := Hyl.out
            rw [Nat.sub_zero, seg_all] at h1
            rw [← h2, seg_all] at h1
            rw [← dig_val hr.2, h1, ← Hr.out, ← HV.out, HVD.out]
          have hown := Own.strip' (Nat.le_refl w.heap.size) hr Hyl.out
          rw [hfin] at hown
          have HF := hide hfin
          clear hfin
          go_wp2_with fail
          refine (trim_n _ _ _ ys wr Hyl.out (by omega) (Nat.le_refl _) hr.cells).mono ?_
          rintro e w' ⟨rfl, rfl⟩
          rw [HF.out]
          go_wp2
          go_ret2
          exact ⟨_, rfl, hown, hb⟩
    · have hz : r = [] := by
        rw [← Hr.out, ← HV.out]
        have : val X / 2 ^ N = 0 := by
          refine Nat.div_eq_of_lt ?_
          have h1 := val_lt okX
          rw [pw_eq] at h1
          exact Nat.lt_of_lt_of_le h1 (Nat.pow_le_pow_right (by decide) (by have := HK.out; omega))
        rw [this]; rfl
      have HZ := hide hz
      clear hz
      go_wp2
      go_ret2
      exact ⟨_, rfl, by rw [HZ.out]; exact Own.nil _ _ _, Below.refl _ _⟩
end Go.Proofs.YtdjfgpfeepbnaaaDoor
