/- nat.addTimes: d times one number onto a window of digits, in place, and the carry. -/
import Derived.Test.YtjcfhbekpmpbeaaDoorW1
namespace Go.Proofs.YtjcfhbekpmpbeaaDoor
open Go.RowKit Dig

theorem seg_split {xs : List Nat} {off k n : Nat} (h : k ≤ n) (hl : off + n ≤ xs.length) : val (seg xs off n) = val (seg xs off k) + pw k * val (seg xs (off + k) (n - k)) := by
  have e : seg xs off n = seg xs off k ++ seg xs (off + k) (n - k) := by
    simp only [seg]
    rw [← List.drop_drop]
    have := List.take_append_drop k ((xs.drop off).take n)
    rw [List.take_take, Nat.min_eq_left h, List.drop_take] at this
    exact this.symm
  rw [e, val_append, seg_length (by omega)]

/-- Where nothing above digit k has turned, the values part as they do below it. -/
theorem seg_ext {us ys : List Nat} {off k n : Nat} (h : k ≤ n) (hl : ys.length = us.length) (hn : off + n ≤ us.length) (hout : ∀ j, j < off ∨ off + k ≤ j → ys[j]?.getD 0 = us[j]?.getD 0) :
    val (seg ys off n) + val (seg us off k) = val (seg us off n) + val (seg ys off k) := by
  have e : seg ys (off + k) (n - k) = seg us (off + k) (n - k) := seg_congr hl (fun j h1 _ => hout j (.inr h1))
  rw [seg_split h (by omega : off + n ≤ ys.length), seg_split h hn, e]
  omega

/-- One digit with its carry laid at place k. -/
theorem carry_step {us ys : List Nat} {off k c0 p t D : Nat} (hy : off + k < ys.length) (hl : ys.length = us.length) (heq : val (seg ys off k) + pw k * c0 = val (seg us off k) + D) (ht : t = c0 + (p + us[off + k]?.getD 0)) :
    val (seg (ys.set (off + k) (t % 4294967296)) off (k + 1)) + pw (k + 1) * (t / 4294967296) = val (seg us off (k + 1)) + (D + pw k * p) := by
  rw [seg_succ (by simpa using hy), seg_set, getD_set_same hy, seg_succ (by omega)]
  simp only [pw]
  have e1 : pw k * t = pw k * (t % 4294967296) + 4294967296 * pw k * (t / 4294967296) := by
    conv => lhs; rw [← Nat.mod_add_div t 4294967296]
    rw [Nat.mul_add, Nat.mul_comm 4294967296 (pw k), Nat.mul_assoc]
  have e2 : pw k * t = pw k * c0 + (pw k * p + pw k * us[off + k]?.getD 0) := by rw [ht, Nat.mul_add, Nat.mul_add]
  omega

set_option maxHeartbeats 1600000 in
set_option maxRecDepth 20000 in
/-- addTimes: d times v onto the n digits of u, in place; the carry. -/
theorem addTimes_any (b off n cap : Nat) (us vs : List Nat) (ov : Option Addr) (cv d : Nat) (w : World) (hn : n ≤ 1099511627776) (hnc : n ≤ cap) (hrow : Row w b us) (hul : off + n ≤ us.length) (hus : us.length ≤ 4398046511104)
    (_hvc : vs.length ≤ cv) (hvl : vs.length ≤ n) (okv : OK vs) (hv : Cells w ov vs) (hoff : vs ≠ [] → Off b ov) (hd : d < 4294967296) :
    Calls Tryd.prog 41 #[.slice (some ⟨b, off, none⟩) n cap, .slice ov vs.length cv, .int .u32 (d : Int)] w fun e w' =>
      ∃ c us', e = .returned (.int .u64 ((c : Nat) : Int)) ∧ Row w' b us' ∧ Only b w w' ∧ us'.length = us.length ∧ (∀ j, j < off ∨ off + n ≤ j → us'[j]?.getD 0 = us[j]?.getD 0) ∧
        val (seg us' off n) + pw n * c = val (seg us off n) + d * val vs := by
  go_enter Tryd.func41, Tryd.ntmps41
  go_wp2_with fail
  go_loopw [7, 13] (fun c i wr => ∃ (k c0 : Nat) (ys : List Nat), k ≤ vs.length ∧ c = .int .u64 (c0 : Int) ∧ i = .int .i64 (k : Int) ∧ Row wr b ys ∧ Only b w wr ∧ ys.length = us.length ∧
      (∀ j, j < off ∨ off + k ≤ j → ys[j]?.getD 0 = us[j]?.getD 0) ∧ val (seg ys off k) + pw k * c0 = val (seg us off k) + d * val (vs.take k) ∧ c0 < 4294967296) (fun _ i _ => vs.length - (intOf i).toNat)
  case atStart => exact ⟨0, 0, us, Nat.zero_le _, rfl, rfl, hrow, Only.refl _ _, rfl, fun _ _ => rfl, by simp [seg_zero, val], by decide⟩
  case round =>
    obtain ⟨k, c0, ys, hk, rfl, rfl, hr, ho, hyl, hout, heq, hc0⟩ := hrel
    have Heq := hide heq
    have Hout := hide hout
    have Hyl := hide hyl
    clear heq hout
    by_cases hlt : k < vs.length
    · obtain ⟨bv, offv, x, hov, gx, Hx⟩ := (hv.only ho (hoff (fun e => by rw [e] at hlt; simp at hlt))).get hlt
      have gu := hr.cell (i := off + k) (by omega)
      have gf := hr.free (off + k)
      obtain ⟨y, Hy⟩ : ∃ y, Hid (ys[off + k]?.getD 0 = y) := ⟨_, rfl⟩
      rw [Hy.out] at gu
      have hyb : y < 4294967296 := by have := hr.2.get (off + k); rw [Hy.out] at this; exact this
      have hxb : x < 4294967296 := by have := okv.get k; rw [Hx.out] at this; exact this
      have hm : (x : Int) * (d : Int) ≤ 18446744065119617025 := by
        have : x * d ≤ 4294967295 * 4294967295 := Nat.mul_le_mul (by omega) (by omega)
        have h2 : ((x * d : Nat) : Int) ≤ 18446744065119617025 := by omega
        simpa using h2
      have hm0 : 0 ≤ (x : Int) * (d : Int) := by have := Int.natCast_nonneg (x * d); simpa using this
      have hkn : k < n := by omega
      subst hov
      clear hyl
      have hs := carry_step (p := x * d) (t := c0 + (x * d + y)) (by have := Hyl.out; omega) Hyl.out Heq.out (by have h1 := Hout.out (off + k) (by omega); have h2 := Hy.out; rw [← h1, h2])
      have ht : d * val (vs.take k) + pw k * (x * d) = d * val (vs.take (k + 1)) := by
        rw [val_take_succ hlt, Hx.out, Nat.mul_add, Nat.mul_left_comm d, Nat.mul_comm d x]
      rw [ht] at hs
      have e1 : ((c0 : Int) + ((x : Int) * (d : Int) + (y : Int))) / 4294967296 = ((((c0 + (x * d + y)) / 4294967296) : Nat) : Int) := by simp
      have e2 : ((c0 : Int) + ((x : Int) * (d : Int) + (y : Int))) % 4294967296 = ((((c0 + (x * d + y)) % 4294967296) : Nat) : Int) := by simp
      have hq : (c0 + (x * d + y)) / 4294967296 < 4294967296 := by
        have : x * d ≤ 4294967295 * 4294967295 := Nat.mul_le_mul (by omega) (by omega)
        omega
      have HS := hide hs
      have E1 := hide e1
      have E2 := hide e2
      clear hs ht e1 e2
      go_wp2
      rw [E1.out, E2.out]
      go_roundw
      case rel =>
        exact ⟨k + 1, _, ys.set (off + k) ((c0 + (x * d + y)) % 4294967296), hlt, rfl, by go_num, hr.set _ (by omega), ho.setCell _ _, by simpa using Hyl.out,
          fun j hj => by rw [getD_set_other (by omega)]; exact Hout.out j (by omega), HS.out, hq⟩
      case measure => simp [intOf]; omega
    · obtain rfl : k = vs.length := by omega
      go_wp2_with fail
      go_loopw [7, 10] (fun c i wr => ∃ (k c0 : Nat) (ys : List Nat), vs.length ≤ k ∧ k ≤ n ∧ c = .int .u64 (c0 : Int) ∧ i = .int .i64 (k : Int) ∧ Row wr b ys ∧ Only b w wr ∧ ys.length = us.length ∧
        (∀ j, j < off ∨ off + k ≤ j → ys[j]?.getD 0 = us[j]?.getD 0) ∧ val (seg ys off k) + pw k * c0 = val (seg us off k) + d * val vs ∧ c0 < 4294967296) (fun _ i _ => n - (intOf i).toNat)
      case atStart => exact ⟨vs.length, c0, ys, Nat.le_refl _, hvl, rfl, rfl, hr, ho, Hyl.out, Hout.out, by have := Heq.out; rwa [List.take_length] at this, hc0⟩
      case round =>
        clear hr ho Heq Hout Hyl hc0 hlt hk
        obtain ⟨k, c0, ys, hk1, hk, rfl, rfl, hr, ho, hyl, hout, heq, hc0⟩ := hrel
        have Heq := hide heq
        have Hout := hide hout
        have Hyl := hide hyl
        clear heq hout
        by_cases hc : c0 = 0
        · subst hc
          have hfin : val (seg ys off n) + pw n * 0 = val (seg us off n) + d * val vs := by
            have h1 := seg_ext hk hyl hul Hout.out
            have h2 := Heq.out
            omega
          go_wp2
          go_ret
          exact ⟨0, ys, rfl, hr, ho, hyl, fun j hj => Hout.out j (by omega), hfin⟩
        · have hcb : ((c0 : Int) == 0) = false := by rw [beq_eq_false_iff_ne]; omega
          by_cases hlt : k < n
          · have gu := hr.cell (i := off + k) (by omega)
            have gf := hr.free (off + k)
            obtain ⟨y, Hy⟩ : ∃ y, Hid (ys[off + k]?.getD 0 = y) := ⟨_, rfl⟩
            rw [Hy.out] at gu
            have hyb : y < 4294967296 := by have := hr.2.get (off + k); rw [Hy.out] at this; exact this
            have hs := carry_step (p := 0) (t := c0 + (0 + y)) (by omega) hyl Heq.out (by have h1 := Hout.out (off + k) (by omega); have h2 := Hy.out; rw [← h1, h2])
            simp only [Nat.zero_add, Nat.mul_zero, Nat.add_zero] at hs
            have e1 : ((c0 : Int) + (y : Int)) / 4294967296 = ((((c0 + y) / 4294967296) : Nat) : Int) := by simp
            have e2 : ((c0 : Int) + (y : Int)) % 4294967296 = ((((c0 + y) % 4294967296) : Nat) : Int) := by simp
            have HS := hide hs
            have E1 := hide e1
            have E2 := hide e2
            clear hs e1 e2 hyl
            go_wp2
            rw [E1.out, E2.out]
            go_roundw
            case rel =>
              exact ⟨k + 1, _, ys.set (off + k) ((c0 + y) % 4294967296), by omega, hlt, rfl, by go_num, hr.set _ (by omega), ho.setCell _ _, by simpa using Hyl.out,
                fun j hj => by rw [getD_set_other (by omega)]; exact Hout.out j (by omega), HS.out, by omega⟩
            case measure => simp [intOf]; omega
          · obtain rfl : k = n := by omega
            go_wp2
            go_ret
            exact ⟨c0, ys, rfl, hr, ho, hyl, Hout.out, Heq.out⟩
end Go.Proofs.YtjcfhbekpmpbeaaDoor
