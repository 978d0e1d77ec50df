/- nat.shiftUp, Shl and Shr answer the canonical digits of a number shifted. -/
import Derived.Test.YtdjfgpfeepbnaaaDoorMx
import Derived.Test.YtdjfgpfeepbnaaaDoorW5
import Derived.Test.YtdjfgpfeepbnaaaDoorW6
namespace Go.Proofs.YtdjfgpfeepbnaaaDoor
open Go.RowKit Dig
set_option maxHeartbeats 800000 in
set_option maxRecDepth 20000 in
theorem shiftUp_any (oa : Option Addr) (ca n : Nat) (X : List Nat) (w : World) (hl : X.length ≤ 100000000000) (hn : n ≤ 8000000000000) (ok : OK X) (hx : Cells w oa X) :
    Calls Tryd.prog 42 #[.slice oa X.length ca, .int .i64 (n : Int)] w fun e w' => ∃ v, e = .returned v ∧ Own w' w.heap.size v (dig (val X * 2 ^ n)) ∧ Below w.heap.size w w' := by
  obtain ⟨k, s, hks, hs⟩ : ∃ k s, n = 32 * k + s ∧ s < 32 := ⟨n / 32, n % 32, by omega, by omega⟩
  have hq : (n : Int) / 32 = (k : Int) := by omega
  have hm : (n : Int) % 32 = (s : Int) := by omega
  have hmk := mk_run' ((k : Int) + (X.length : Int) + 1) (k + X.length + 1) (by omega) (by omega) w
  have hr0 := Row.new w (List.replicate (k + X.length + 1) 0) (OK.replicate _ (by decide))
  have hb0 : Below w.heap.size w (w.alloc (.cells (cs (List.replicate (k + X.length + 1) 0)) 26)) := (Below.refl _ _).alloc (Nat.le_refl _) _
  obtain ⟨w1, hcp, hrow, honly⟩ := cp_run (sCap := ca) (dLen := k + X.length + 1 - k) (dCap := k + X.length + 1 - k) (off := k) (ty := 3) hr0 ok (hx.below hb0 (Nat.le_refl _)) (by omega) (by simp; omega)
  have hb : Below w.heap.size w w1 := hb0.trans (honly.below (Nat.le_refl _))
  have hP : (List.replicate (k + X.length + 1) 0 : List Nat).take k ++ X ++ (List.replicate (k + X.length + 1) 0).drop (k + X.length) = List.replicate k 0 ++ (X ++ [0]) := by
    rw [List.take_replicate, List.drop_replicate, Nat.min_eq_left (by omega), show k + X.length + 1 - (k + X.length) = 1 by omega]
    simp
  rw [hP] at hrow
  obtain ⟨P, hPd⟩ : ∃ P, List.replicate k 0 ++ (X ++ [0]) = P := ⟨_, rfl⟩
  rw [hPd] at hrow
  have hPl : P.length = k + X.length + 1 := by rw [← hPd]; simp; omega
  have hseg : ∀ j, seg P k j = (X ++ [0]).take j := fun j => by rw [← hPd]; simp [seg]
  have hget : ∀ j, P[k + j]?.getD 0 = (X ++ [0])[j]?.getD 0 := fun j => by rw [← hPd, List.getElem?_append_right (by simp)]; simp
  have hlow : ∀ j, j < k → P[j]?.getD 0 = 0 := fun j hj => by rw [← hPd, List.getElem?_append_left (by simpa using hj)]; simp [hj]
  have okX0 : OK (X ++ [0]) := ok.append (OK.cons (by decide) OK.nil)
  have HPL := hide hPl
  have HSEG := hide hseg
  have HGET := hide hget
  have HLOW := hide hlow
  clear hP hPd hPl hseg hget hlow
  have HK := hide hks
  clear hks
  go_enter Tryd.func42, Tryd.ntmps42
  go_wp2_with fail
  go_loopw [8, 9] (fun c i wr => ∃ (j c0 : Nat) (ys : List Nat), j ≤ X.length + 1 ∧ c = .int .u64 (c0 : Int) ∧ i = .int .i64 ((k : Int) + (j : Int)) ∧ Row wr w.heap.size ys ∧ Below w.heap.size w wr ∧ ys.length = P.length ∧
    (∀ t, t < k ∨ k + j ≤ t → ys[t]?.getD 0 = P[t]?.getD 0) ∧ val (seg ys k j) + pw j * c0 = val (seg P k j) + (2 ^ s - 1) * val ((X ++ [0]).take j) ∧ c0 < 2 ^ s) (fun _ i _ => k + X.length + 1 - (intOf i).toNat)
  case atStart => exact ⟨0, 0, P, Nat.zero_le _, rfl, by go_num, hrow, hb, rfl, fun _ _ => rfl, by simp [seg_zero, val], Nat.pow_pos (by decide)⟩
  case round =>
    obtain ⟨j, c0, ys, hj, rfl, rfl, hr, hbw, hyl, hout, heq, hc0⟩ := hrel
    have Heq := hide heq
    have Hout := hide hout
    have Hyl := hide hyl
    have hyb : ys.length = k + X.length + 1 := hyl.trans HPL.out
    clear heq hout hyl
    by_cases hlt : j < X.length + 1
    · have gu := hr.cell (i := k + j) (by omega)
      have gf := hr.free (k + j)
      obtain ⟨x, Hx⟩ : ∃ x, Hid (ys[k + j]?.getD 0 = x) := ⟨_, rfl⟩
      rw [Hx.out] at gu
      have hxb : x < 4294967296 := by have := hr.2.get (k + j); rw [Hx.out] at this; exact this
      obtain ⟨t, ht⟩ : ∃ t, c0 + x * 2 ^ s = t := ⟨_, rfl⟩
      have hor := or_low c0 x s t hs hc0 hxb ht
      have htb := shl_t c0 x s hs hc0 hxb
      rw [ht] at htb
      have hpx : P[k + j]?.getD 0 = x := by rw [← Hout.out (k + j) (by omega)]; exact Hx.out
      have hst := carry_step (p := (2 ^ s - 1) * x) (t := t) (by omega) Hyl.out Heq.out (by
        rw [hpx, ← ht]
        have hp : 0 < 2 ^ s := Nat.pow_pos (by decide)
        have : 2 ^ s = 2 ^ s - 1 + 1 := by omega
        have e : x * 2 ^ s = (2 ^ s - 1) * x + x := by
          conv => lhs; rw [this, Nat.mul_add, Nat.mul_one, Nat.mul_comm]
        omega)
      have hdd : (2 ^ s - 1) * val ((X ++ [0]).take j) + pw j * ((2 ^ s - 1) * x) = (2 ^ s - 1) * val ((X ++ [0]).take (j + 1)) := by
        rw [val_take_succ (by simpa using hlt), ← HGET.out j, hpx, Nat.mul_add, Nat.mul_left_comm (pw j)]
      rw [hdd] at hst
      have HS := hide hst
      have e1 : (t : Int) / 4294967296 = ((t / 4294967296 : Nat) : Int) := by omega
      have e2 : (t : Int) % 4294967296 = ((t % 4294967296 : Nat) : Int) := by omega
      have E1 := hide e1
      have E2 := hide e2
      have hkj : k + j < k + X.length + 1 := by omega
      have HYB := hide hyb
      have htb1 := htb.1
      have HTB := hide htb.2
      clear hyb ht hst hdd e1 e2 hpx htb
      go_wp2_with fail
      rw [E1.out, E2.out]
      go_roundw
      case rel =>
        exact ⟨j + 1, t / 4294967296, ys.set (k + j) (t % 4294967296), by omega, rfl, by go_num, hr.set _ (by omega), hbw.setCell (Nat.le_refl _) _, by simpa using Hyl.out,
          fun t' ht' => by rw [getD_set_other (by omega)]; exact Hout.out t' (by omega), HS.out, HTB.out⟩
      case measure => simp [intOf]; omega
    · obtain rfl : j = X.length + 1 := by omega
      have hfin := shl_fin (c := c0) ok hr.2 hyb HK.out hs (fun t ht => by rw [Hout.out t (.inl ht)]; exact HLOW.out t ht) (by
        have h1 := Heq.out
        rw [HSEG.out, List.take_of_length_le (by simp)] at h1; exact h1)
      have hown := Own.strip' (Nat.le_refl w.heap.size) hr hyb
      rw [hfin] at hown
      have HF := hide hfin
      clear hfin
      go_wp2_with fail
      refine (trim_n _ _ _ ys wr hyb (by omega) (Nat.le_refl _) hr.cells).mono ?_
      rintro e w' ⟨rfl, rfl⟩
      rw [HF.out]
      go_wp2
      go_ret
      exact ⟨_, rfl, hown, hbw⟩
end Go.Proofs.YtdjfgpfeepbnaaaDoor
