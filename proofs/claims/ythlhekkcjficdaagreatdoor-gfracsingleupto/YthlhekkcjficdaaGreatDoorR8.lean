/- The reference's Shl answers the canonical digits of a number shifted up. -/
import Derived.Test.YthlhekkcjficdaaGreatDoorR7
namespace Go.Proofs.YthlhekkcjficdaaGreatDoor
open Go.RowKit Dig
theorem shl_mod (d s : Nat) (hs : s < 32) : d * 2 ^ s % 4294967296 = d % 2 ^ (32 - s) * 2 ^ s := by
 have e : 4294967296 = 2 ^ (32 - s) * 2 ^ s := by rw [← Nat.pow_add, show 32 - s + s = 32 by omega]
 rw [e, Nat.mul_mod_mul_right]
theorem or32 (c d s T : Nat) (hs : s < 32) (hc : c < 2 ^ s) (hT : d * 2 ^ s = T) : bits .or .u32 (c : Int) ((T : Int) % 4294967296) = ((c + T % 4294967296 : Nat) : Int) ∧ c + T % 4294967296 < 4294967296 := by
 have hm : T % 4294967296 = d % 2 ^ (32 - s) * 2 ^ s := by rw [← hT]; exact shl_mod d s hs
 have h31 : 2 ^ s ≤ 2 ^ 31 := Nat.pow_le_pow_right (by decide) (by omega)
 have h := u32_or_nat c (T % 4294967296) (by omega) (by omega)
 have e : c ||| T % 4294967296 = c + T % 4294967296 := by
   rw [hm]
   have := Nat.shiftLeft_add_eq_or_of_lt hc (d % 2 ^ (32 - s))
   rw [Nat.shiftLeft_eq] at this
   rw [Nat.or_comm, ← this, Nat.add_comm]
 refine ⟨?_, ?_⟩
 · rw [e] at h; rw [← h]; simp
 · have hlt : d % 2 ^ (32 - s) < 2 ^ (32 - s) := Nat.mod_lt _ (Nat.pow_pos (by decide))
   have e2 : 2 ^ (32 - s) * 2 ^ s = 4294967296 := by rw [← Nat.pow_add, show 32 - s + s = 32 by omega]
   have : (d % 2 ^ (32 - s) + 1) * 2 ^ s ≤ 2 ^ (32 - s) * 2 ^ s := Nat.mul_le_mul_right _ hlt
   rw [Nat.add_mul, Nat.one_mul, ← hm] at this
   omega
theorem rshl_step {X ys : List Nat} {k j s d c T : Nat} (hj : j < X.length) (hl : k + j + 1 < ys.length) (hd : X[j]?.getD 0 = d) (hc : ys[k + j]?.getD 0 = c) (hz : ys[k + j + 1]?.getD 0 = 0) (hT : d * 2 ^ s = T)
   (hv : val ys = pw k * (2 ^ s * val (X.take j))) : val ((ys.set (k + j) (c + T % 4294967296)).set (k + j + 1) (T / 4294967296)) = pw k * (2 ^ s * val (X.take (j + 1))) := by
 have h1 := @val_set ys (k + j) (c + T % 4294967296) (by omega)
 have h2 := @val_set (ys.set (k + j) (c + T % 4294967296)) (k + j + 1) (T / 4294967296) (by simpa using hl)
 rw [getD_set_other (by omega), hz] at h2
 rw [hc, Nat.mul_add] at h1
 rw [val_take_succ hj, hd]
 have e1 : pw (k + j + 1) * (T / 4294967296) + pw (k + j) * (T % 4294967296) = pw (k + j) * T := by
   conv => rhs; rw [← Nat.mod_add_div T 4294967296]
   simp only [pw]
   rw [Nat.mul_add, Nat.mul_comm 4294967296 (pw (k + j)), Nat.mul_assoc]; omega
 have e2 : pw (k + j) * T = pw k * (2 ^ s * (pw j * d)) := by
   rw [pw_add, ← hT, Nat.mul_assoc, Nat.mul_comm d, Nat.mul_left_comm (pw j)]
 have e3 : pw k * (2 ^ s * (val (X.take j) + pw j * d)) = pw k * (2 ^ s * val (X.take j)) + pw k * (2 ^ s * (pw j * d)) := by
   rw [Nat.mul_add, Nat.mul_add]
 omega
set_option maxHeartbeats 1000000 in
set_option maxRecDepth 20000 in
theorem rshl_any (oa : Option Addr) (ca N : Nat) (X : List Nat) (w : World) (hl : X.length ≤ 100000000000) (hlc : X.length ≤ ca) (ok : OK X) (hx : Cells w oa X) (hN : N ≤ 8000000000000) :
   Calls Tryz.prog 93 #[.slice oa X.length ca, .int .i64 (N : Int)] w fun e w' => ∃ v, e = .returned v ∧ Rd w' v (dig (val X * 2 ^ N)) ∧ Below w.heap.size w w' := by
 obtain ⟨k, s, hks, hs⟩ : ∃ k s, N = 32 * k + s ∧ s < 32 := ⟨N / 32, N % 32, by omega, by omega⟩
 have hq : (N : Int) / 32 = (k : Int) := by omega
 have hm : (N : Int) % 32 = (s : Int) := by omega
 obtain ⟨r, Hr⟩ : ∃ r, Hid (dig (val X * 2 ^ N) = r) := ⟨_, rfl⟩
 rw [Hr.out]
 have HK := hide hks
 have hkb : k ≤ 300000000000 := by omega
 have hsl := strip_length_le X
 clear hks
 by_cases h0 : (strip X).length = 0
 · have hz : r = [] := by
     rw [← Hr.out, strip_nil_val (List.length_eq_zero_iff.1 h0), Nat.zero_mul]; rfl
   have HZ := hide hz
   have H0 := hide h0
   clear hz h0
   go_enter Tryz.func93, Tryz.ntmps93
   go_wp2_with fail
   refine (rtrim_any oa ca X _ (by omega) hlc ok hx).mono ?_
   rintro e w1 ⟨v, rfl, ⟨oc, cc, rfl, _, _, _⟩, hb⟩
   rw [H0.out]
   go_wp2
   go_ret
   exact ⟨_, rfl, by rw [HZ.out]; exact ⟨none, 0, rfl, Nat.le_refl _, OK.nil, .inl rfl⟩, hb⟩
 · have hb0 : (((strip X).length : Int) == 0) = false := by rw [beq_eq_false_iff_ne]; omega
   have hXne : X.length ≠ 0 := by omega
   clear h0
   go_enter Tryz.func93, Tryz.ntmps93
   go_wp2_with fail
   refine (rtrim_any oa ca X _ (by omega) hlc ok hx).mono ?_
   rintro e w1 ⟨v, rfl, ⟨oc, cc, rfl, _, _, _⟩, hb1⟩
   have hmk := mk_run' ((k : Int) + (X.length : Int) + 1) (k + X.length + 1) (by omega) (by omega) w1
   have hr0 := Row.new w1 (List.replicate (k + X.length + 1) 0) (OK.replicate _ (by decide))
   have hb2 : Below w1.heap.size w1 (w1.alloc (.cells (cs (List.replicate (k + X.length + 1) 0)) 119)) := (Below.refl _ _).alloc (Nat.le_refl _) _
   have hx1 := hx.below hb1 (Nat.le_refl _)
   go_wp2_with fail
   go_loopw [6] (fun i wr => ∃ (j : Nat) (ys : List Nat), j ≤ X.length ∧ i = .int .i64 (j : Int) ∧ Row wr w1.heap.size ys ∧ Below w1.heap.size w1 wr ∧ ys.length = k + X.length + 1 ∧
     val ys = pw k * (2 ^ s * val (X.take j)) ∧ ys[k + j]?.getD 0 < 2 ^ s ∧ (∀ t, k + j < t → ys[t]?.getD 0 = 0)) (fun i _ => X.length - (intOf i).toNat)
   case atStart => exact ⟨0, _, Nat.zero_le _, rfl, hr0, hb2, by simp, by rw [val_replicate_zero]; simp [val], by rw [List.getElem?_replicate]; split <;> simp [Nat.pow_pos], fun t _ => by rw [List.getElem?_replicate]; split <;> rfl⟩
   case round =>
     obtain ⟨j, ys, hj, rfl, hr, hb, hyl, hv, htop, hzero⟩ := hrel
     have Hv := hide hv
     have Hzero := hide hzero
     have Hyl := hide hyl
     clear hv hzero
     by_cases hlt : j < X.length
     · obtain ⟨bx, ox, d, ho, gx, Hx⟩ := (hx1.below hb (Nat.le_refl _)).get hlt
       subst ho
       have hdb : d < 4294967296 := by have := ok.get j; rw [Hx.out] at this; exact this
       have gu := hr.cell (i := k + j) (by omega)
       have gf := hr.free (k + j)
       obtain ⟨c, Hc⟩ : ∃ c, Hid (ys[k + j]?.getD 0 = c) := ⟨_, rfl⟩
       rw [Hc.out] at gu htop
       have gu2 := hr.cell (i := k + j + 1) (by omega)
       rw [Hzero.out (k + j + 1) (by omega)] at gu2
       have gf2 := hr.free (k + j + 1)
       obtain ⟨T, hT⟩ : ∃ T, d * 2 ^ s = T := ⟨_, rfl⟩
       have hTb := shl_t 0 d s hs (Nat.pow_pos (by decide)) hdb
       rw [Nat.zero_add, hT] at hTb
       have hwr : IntKind.u64.wrap ((d : Int) * 2 ^ s) = (T : Int) := by
         have e2 : (d : Int) * 2 ^ s = ((d * 2 ^ s : Nat) : Int) := by simp
         rw [e2, hT, IntKind.wrap_u64]; omega
       have hor := or32 c d s T hs htop hT
       have hor1 := hor.1
       have hst := rshl_step hlt (by omega) Hx.out Hc.out (Hzero.out _ (by omega)) hT Hv.out
       have HS := hide hst
       have HO := hide hor.2
       have HTB := hide hTb.2
       have htb1 := hTb.1
       have e3 : (T : Int) / 4294967296 = ((T / 4294967296 : Nat) : Int) := by omega
       have E3 := hide e3
       have e4 : (c : Int) + (T : Int) % 4294967296 = ((c + T % 4294967296 : Nat) : Int) := by omega
       have E4 := hide e4
       have hkj : k + j < k + X.length + 1 := by omega
       have hkj2 : k + j + 1 < k + X.length + 1 := by omega
       clear hst hor hTb hT hyl e3 e4 htop
       go_wp2_with fail
       rw [E3.out, E4.out]
       go_roundw
       case rel =>
         exact ⟨j + 1, (ys.set (k + j) (c + T % 4294967296)).set (k + j + 1) (T / 4294967296), hlt, by go_num, (hr.set _ HO.out).set _ (by omega), (hb.setCell (Nat.le_refl _) _).setCell (Nat.le_refl _) _, by simpa using Hyl.out, HS.out,
           by rw [show k + (j + 1) = k + j + 1 by omega, getD_set_same (by have := Hyl.out; simp; omega)]; exact HTB.out,
           fun t ht => by rw [getD_set_other (by omega), getD_set_other (by omega)]; exact Hzero.out t (by omega)⟩
       case measure => simp [intOf]; omega
     · obtain rfl : j = X.length := by omega
       have hfin : strip ys = r := by
         rw [← dig_val hr.2, Hv.out, List.take_length, ← Hr.out, HK.out, Nat.pow_add, ← pw_eq, Nat.mul_comm (val X), Nat.mul_assoc]
       have HF := hide hfin
       clear hfin
       go_wp2_with fail
       refine (rtrim_n _ _ _ ys wr hyl (by omega) (Nat.le_refl _) hr.2 hr.cells).mono ?_
       rintro e w2 ⟨v, rfl, hrd, hb3⟩
       rw [HF.out] at hrd
       have hbb := hb1.trans ((tmm hb hb3).mono hb1.size)
       go_wp2
       go_ret
       exact ⟨v, rfl, hrd, hbb⟩
end Go.Proofs.YthlhekkcjficdaaGreatDoor
