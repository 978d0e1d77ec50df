/- nat.wrapped and nat.takeTimes: d times one number off a window of digits, in place, and what is owed. -/
import Derived.Test.YtjcfhbekpmpbeaaDoorW2
namespace Go.Proofs.YtjcfhbekpmpbeaaDoor
open Go.RowKit Dig

set_option maxHeartbeats 400000 in
set_option maxRecDepth 20000 in
theorem wrapped_any (L : Int) (w : World) :
    Calls Tryd.prog 64 #[.int .u64 L] w fun e w' => e = .returned (.int .u64 (L / 9223372036854775808)) ∧ w = w' := by
  go_enter Tryd.func64, Tryd.ntmps64
  go_wp2
  go_ret
  exact ⟨rfl, rfl⟩

/-- One digit with what is owed taken off at place k. -/
theorem borrow_step {us ys : List Nat} {off k c0 p D g q : Nat} (hy : off + k < ys.length) (hl : ys.length = us.length) (heq : val (seg ys off k) + D = val (seg us off k) + pw k * c0)
    (ht : g + (c0 + p) = us[off + k]?.getD 0 + 4294967296 * q) :
    val (seg (ys.set (off + k) g) off (k + 1)) + (D + pw k * p) = val (seg us off (k + 1)) + pw (k + 1) * q := by
  rw [seg_succ (by simpa using hy), seg_set, getD_set_same hy, seg_succ (by omega)]
  simp only [pw]
  have e1 : pw k * (g + (c0 + p)) = pw k * (us[off + k]?.getD 0 + 4294967296 * q) := by rw [ht]
  rw [Nat.mul_add, Nat.mul_add, Nat.mul_add, ← Nat.mul_assoc, Nat.mul_comm (pw k) 4294967296] at e1
  omega

set_option maxHeartbeats 1600000 in
set_option maxRecDepth 20000 in
/-- takeTimes: d times v off the n digits of u, in place; what is still owed. -/
theorem takeTimes_any (b off n cap : Nat) (us vs : List Nat) (ov : Option Addr) (cv d : Nat) (w : World) (hn : n ≤ 1099511627776) (hnc : n ≤ cap) (hrow : Row w b us) (hul : off + n ≤ us.length) (hus : us.length ≤ 4398046511104)
    (_hvc : vs.length ≤ cv) (hvl : vs.length ≤ n) (okv : OK vs) (hv : Cells w ov vs) (hoff : vs ≠ [] → Off b ov) (hd : d < 4294967296) :
    Calls Tryd.prog 45 #[.slice (some ⟨b, off, none⟩) n cap, .slice ov vs.length cv, .int .u32 (d : Int)] w fun e w' =>
      ∃ c us', e = .returned (.int .u64 ((c : Nat) : Int)) ∧ c ≤ 4294967296 ∧ Row w' b us' ∧ Only b w w' ∧ us'.length = us.length ∧ (∀ j, j < off ∨ off + n ≤ j → us'[j]?.getD 0 = us[j]?.getD 0) ∧
        val (seg us' off n) + d * val vs = val (seg us off n) + pw n * c := by
  go_enter Tryd.func45, Tryd.ntmps45
  go_wp2_with fail
  go_loopw [7, 15] (fun c i wr => ∃ (k c0 : Nat) (ys : List Nat), k ≤ vs.length ∧ c = .int .u64 (c0 : Int) ∧ i = .int .i64 (k : Int) ∧ Row wr b ys ∧ Only b w wr ∧ ys.length = us.length ∧
      (∀ j, j < off ∨ off + k ≤ j → ys[j]?.getD 0 = us[j]?.getD 0) ∧ val (seg ys off k) + d * val (vs.take k) = val (seg us off k) + pw k * c0 ∧ c0 ≤ 4294967296) (fun _ i _ => vs.length - (intOf i).toNat)
  case atStart => exact ⟨0, 0, us, Nat.zero_le _, rfl, rfl, hrow, Only.refl _ _, rfl, fun _ _ => rfl, by simp [seg_zero, val], by decide⟩
  case round =>
    obtain ⟨k, c0, ys, hk, rfl, rfl, hr, ho, hyl, hout, heq, hc0⟩ := hrel
    have Heq := hide heq
    have Hout := hide hout
    have Hyl := hide hyl
    clear heq hout
    by_cases hlt : k < vs.length
    · obtain ⟨bv, offv, x, hov, gx, Hx⟩ := (hv.only ho (hoff (fun e => by rw [e] at hlt; simp at hlt))).get hlt
      have gu := hr.cell (i := off + k) (by omega)
      have gf := hr.free (off + k)
      obtain ⟨y, Hy⟩ : ∃ y, Hid (ys[off + k]?.getD 0 = y) := ⟨_, rfl⟩
      rw [Hy.out] at gu
      have hyb : y < 4294967296 := by have := hr.2.get (off + k); rw [Hy.out] at this; exact this
      have hxb : x < 4294967296 := by have := okv.get k; rw [Hx.out] at this; exact this
      have hm : (x : Int) * (d : Int) ≤ 18446744065119617025 := by
        have : x * d ≤ 4294967295 * 4294967295 := Nat.mul_le_mul (by omega) (by omega)
        have h2 : ((x * d : Nat) : Int) ≤ 18446744065119617025 := by omega
        simpa using h2
      have hm0 : 0 ≤ (x : Int) * (d : Int) := by have := Int.natCast_nonneg (x * d); simpa using this
      have hkn : k < n := by omega
      subst hov
      clear hyl
      have hT : x * d ≤ 4294967295 * 4294967295 := Nat.mul_le_mul (by omega) (by omega)
      have eq1 : ((c0 : Int) + (x : Int) * (d : Int)) % 4294967296 = ((((c0 + x * d) % 4294967296) : Nat) : Int) := by simp
      have eq2 : ((c0 : Int) + (x : Int) * (d : Int)) / 4294967296 = ((((c0 + x * d) / 4294967296) : Nat) : Int) := by simp
      have EQ1 := hide eq1
      have EQ2 := hide eq2
      have htt : d * val (vs.take k) + pw k * (x * d) = d * val (vs.take (k + 1)) := by
        rw [val_take_succ hlt, Hx.out, Nat.mul_add, Nat.mul_left_comm d, Nat.mul_comm d x]
      have Htt := hide htt
      clear htt eq2
      by_cases hlo : y < (c0 + x * d) % 4294967296
      · have hlo' : (y : Int) - ((c0 : Int) + (x : Int) * (d : Int)) % 4294967296 < 0 := by omega
        have hs := borrow_step (p := x * d) (g := y + 4294967296 - (c0 + x * d) % 4294967296) (q := (c0 + x * d) / 4294967296 + 1) (by have := Hyl.out; omega) Hyl.out Heq.out (by have h1 := Hout.out (off + k) (by omega); have h2 := Hy.out; rw [← h1, h2]; omega)
        rw [Htt.out] at hs
        have HS := hide hs
        have hL : IntKind.u64.wrap ((y : Int) - ((c0 : Int) + (x : Int) * (d : Int)) % 4294967296) / 9223372036854775808 = 1 := by rw [IntKind.wrap_u64]; omega
        have hG : IntKind.u64.wrap ((y : Int) - ((c0 : Int) + (x : Int) * (d : Int)) % 4294967296) % 4294967296 = ((y + 4294967296 - (c0 + x * d) % 4294967296 : Nat) : Int) := by rw [IntKind.wrap_u64]; omega
        have HL := hide hL
        have HG := hide hG
        clear hL hG hs eq1
        go_wp2_with fail
        rw [HG.out]
        refine (wrapped_any _ _).mono ?_
        rintro e w' ⟨rfl, rfl⟩
        rw [HL.out]
        go_wp2
        rw [EQ2.out]
        go_roundw
        case rel =>
          exact ⟨k + 1, _, ys.set (off + k) (y + 4294967296 - (c0 + x * d) % 4294967296), hlt, by go_num, by go_num, hr.set _ (by omega), ho.setCell _ _, by simpa using Hyl.out,
            fun j hj => by rw [getD_set_other (by omega)]; exact Hout.out j (by omega), HS.out, by omega⟩
        case measure => simp [intOf]; omega
      · have hlo' : 0 ≤ (y : Int) - ((c0 : Int) + (x : Int) * (d : Int)) % 4294967296 := by omega
        have hs := borrow_step (p := x * d) (g := y - (c0 + x * d) % 4294967296) (q := (c0 + x * d) / 4294967296) (by have := Hyl.out; omega) Hyl.out Heq.out (by have h1 := Hout.out (off + k) (by omega); have h2 := Hy.out; rw [← h1, h2]; omega)
        rw [Htt.out] at hs
        have HS := hide hs
        have hL : ((y : Int) - ((c0 : Int) + (x : Int) * (d : Int)) % 4294967296) / 9223372036854775808 = 0 := by omega
        have hG : (y : Int) - ((c0 : Int) + (x : Int) * (d : Int)) % 4294967296 = ((y - (c0 + x * d) % 4294967296 : Nat) : Int) := by omega
        have HL := hide hL
        have HG := hide hG
        clear hL hG hs eq1
        go_wp2_with fail
        refine (wrapped_any _ _).mono ?_
        rintro e w' ⟨rfl, rfl⟩
        rw [HL.out, HG.out]
        go_wp2
        rw [EQ2.out]
        go_roundw
        case rel =>
          exact ⟨k + 1, _, ys.set (off + k) (y - (c0 + x * d) % 4294967296), hlt, by go_num, by go_num, hr.set _ (by omega), ho.setCell _ _, by simpa using Hyl.out,
            fun j hj => by rw [getD_set_other (by omega)]; exact Hout.out j (by omega), HS.out, by omega⟩
        case measure => simp [intOf]; omega
    · obtain rfl : k = vs.length := by omega
      go_wp2_with fail
      go_loopw [7, 11] (fun c i wr => ∃ (k c0 : Nat) (ys : List Nat), vs.length ≤ k ∧ k ≤ n ∧ c = .int .u64 (c0 : Int) ∧ i = .int .i64 (k : Int) ∧ Row wr b ys ∧ Only b w wr ∧ ys.length = us.length ∧
        (∀ j, j < off ∨ off + k ≤ j → ys[j]?.getD 0 = us[j]?.getD 0) ∧ val (seg ys off k) + d * val vs = val (seg us off k) + pw k * c0 ∧ c0 ≤ 4294967296) (fun _ i _ => n - (intOf i).toNat)
      case atStart => exact ⟨vs.length, c0, ys, Nat.le_refl _, hvl, rfl, rfl, hr, ho, Hyl.out, Hout.out, by have := Heq.out; rwa [List.take_length] at this, hc0⟩
      case round =>
        clear hr ho Heq Hout Hyl hc0 hlt hk
        obtain ⟨k, c0, ys, hk1, hk, rfl, rfl, hr, ho, hyl, hout, heq, hc0⟩ := hrel
        have Heq := hide heq
        have Hout := hide hout
        have Hyl := hide hyl
        clear heq hout
        by_cases hc : c0 = 0
        · subst hc
          have hfin : val (seg ys off n) + d * val vs = val (seg us off n) + pw n * 0 := by
            have h1 := seg_ext hk hyl hul Hout.out
            have h2 := Heq.out
            omega
          go_wp2
          go_ret
          exact ⟨0, ys, rfl, by decide, hr, ho, hyl, fun j hj => Hout.out j (by omega), hfin⟩
        · have hcb : ((c0 : Int) == 0) = false := by rw [beq_eq_false_iff_ne]; omega
          by_cases hlt : k < n
          · have gu := hr.cell (i := off + k) (by omega)
            have gf := hr.free (off + k)
            obtain ⟨y, Hy⟩ : ∃ y, Hid (ys[off + k]?.getD 0 = y) := ⟨_, rfl⟩
            rw [Hy.out] at gu
            have hyb : y < 4294967296 := by have := hr.2.get (off + k); rw [Hy.out] at this; exact this
            by_cases hlo : y < c0
            · have hlo' : (y : Int) - (c0 : Int) < 0 := by omega
              have hs := borrow_step (p := 0) (g := y + 4294967296 - c0) (q := 1) (by omega) hyl Heq.out (by have h1 := Hout.out (off + k) (by omega); have h2 := Hy.out; rw [← h1, h2]; omega)
              simp only [Nat.mul_zero, Nat.add_zero] at hs
              have HS := hide hs
              have hL : IntKind.u64.wrap ((y : Int) - (c0 : Int)) / 9223372036854775808 = 1 := by rw [IntKind.wrap_u64]; omega
              have hG : IntKind.u64.wrap ((y : Int) - (c0 : Int)) % 4294967296 = ((y + 4294967296 - c0 : Nat) : Int) := by rw [IntKind.wrap_u64]; omega
              have HL := hide hL
              have HG := hide hG
              clear hL hG hs hyl
              go_wp2_with fail
              rw [HG.out]
              refine (wrapped_any _ _).mono ?_
              rintro e w' ⟨rfl, rfl⟩
              rw [HL.out]
              go_wp2
              go_roundw
              case rel =>
                exact ⟨k + 1, 1, ys.set (off + k) (y + 4294967296 - c0), by omega, hlt, rfl, by go_num, hr.set _ (by omega), ho.setCell _ _, by simpa using Hyl.out,
                  fun j hj => by rw [getD_set_other (by omega)]; exact Hout.out j (by omega), HS.out, by omega⟩
              case measure => simp [intOf]; omega
            · have hlo' : 0 ≤ (y : Int) - (c0 : Int) := by omega
              have hs := borrow_step (p := 0) (g := y - c0) (q := 0) (by omega) hyl Heq.out (by have h1 := Hout.out (off + k) (by omega); have h2 := Hy.out; rw [← h1, h2]; omega)
              simp only [Nat.mul_zero, Nat.add_zero] at hs
              have HS := hide hs
              have hL : ((y : Int) - (c0 : Int)) / 9223372036854775808 = 0 := by omega
              have hG : (y : Int) - (c0 : Int) = ((y - c0 : Nat) : Int) := by omega
              have HL := hide hL
              have HG := hide hG
              clear hL hG hs hyl
              go_wp2_with fail
              refine (wrapped_any _ _).mono ?_
              rintro e w' ⟨rfl, rfl⟩
              rw [HL.out, HG.out]
              go_wp2
              go_roundw
              case rel =>
                exact ⟨k + 1, 0, ys.set (off + k) (y - c0), by omega, hlt, rfl, by go_num, hr.set _ (by omega), ho.setCell _ _, by simpa using Hyl.out,
                  fun j hj => by rw [getD_set_other (by omega)]; exact Hout.out j (by omega), HS.out, by omega⟩
              case measure => simp [intOf]; omega
          · obtain rfl : k = n := by omega
            go_wp2
            go_ret
            exact ⟨c0, ys, rfl, hc0, hr, ho, hyl, Hout.out, Heq.out⟩
end Go.Proofs.YtjcfhbekpmpbeaaDoor
