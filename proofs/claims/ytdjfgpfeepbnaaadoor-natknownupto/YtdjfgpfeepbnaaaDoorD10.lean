/- nat.Pow: by squares, from the exponent's top bit. -/
import Derived.Test.YtdjfgpfeepbnaaaDoorD9
import Derived.Test.YtdjfgpfeepbnaaaDoorShelf
import Derived.Lib.BitFns
import Derived.Lib.ItoaNum
namespace Go.Proofs.YtdjfgpfeepbnaaaDoor
open Go.RowKit Dig

def powI (A : Nat) (n : Int) : Int := if n < 0 then 9 else if 1 < bitsN A ∧ 65536 / (bitsN A : Int) < n then 12 else 0

theorem bitsN_bound2 {A l : Nat} (h : A < pw l) : bitsN A ≤ 32 * l := by
  rcases Nat.eq_zero_or_pos A with h0 | h0
  · rw [h0]; exact Nat.zero_le _
  · have h3 := bitsN_le (Nat.ne_of_gt h0)
    rw [pw_eq] at h
    have h4 := (Nat.pow_lt_pow_iff_right (by decide : 1 < 2)).1 (Nat.lt_of_le_of_lt h3 h)
    omega

theorem bitsN_le_one {A : Nat} : bitsN A ≤ 1 ↔ A ≤ 1 := by
  constructor
  · intro h
    have := bitsN_lt A
    have h2 : 2 ^ bitsN A ≤ 2 ^ 1 := Nat.pow_le_pow_right (by decide) h
    omega
  · intro h
    rcases (show A = 0 ∨ A = 1 by omega) with rfl | rfl <;> decide

theorem pow_small {A n : Nat} (h : A ≤ 1) : A ^ min n 1 = A ^ n := by
  rcases Nat.eq_zero_or_pos n with h0 | h0
  · rw [h0]; rfl
  · rw [Nat.min_eq_right h0, Nat.pow_one]
    rcases (show A = 0 ∨ A = 1 by omega) with rfl | rfl
    · rw [Nat.zero_pow h0]
    · rw [Nat.one_pow]

/-- One bit more of the exponent. -/
theorem pow_bit (A n i : Nat) : (A ^ (n / 2 ^ (i + 1)) * A ^ (n / 2 ^ (i + 1)) * if n / 2 ^ i % 2 = 1 then A else 1) = A ^ (n / 2 ^ i) := by
  have e : n / 2 ^ (i + 1) = n / 2 ^ i / 2 := by rw [Nat.pow_succ, Nat.div_div_eq_div_mul]
  rw [e, ← Nat.pow_add]
  generalize n / 2 ^ i = z
  by_cases h : z % 2 = 1
  · rw [if_pos h, ← Nat.pow_succ]; congr 1; omega
  · rw [if_neg h, Nat.mul_one]; congr 1; omega

theorem pow_le_of {A k n : Nat} (h : 0 < A) (hk : k ≤ n) : A ^ k ≤ A ^ n := Nat.pow_le_pow_right h hk

theorem mul_rd_len {w : World} {va vb : Value} {xs ys : List Nat} (hx : Rd w va xs) (hy : Rd w vb ys) (hxl : xs.length ≤ 100000000000) (hyl : ys.length ≤ 100000000000) :
    Calls Tryd.prog 16 #[va, vb] w fun e w' => ∃ v, e = .returned v ∧ Own w' w.heap.size v (dig (val xs * val ys)) ∧ Below w.heap.size w w' := mul_rd hx hy hxl hyl

theorem i64_and_one (n : Int) : bits .and .i64 n 1 = n % 2 := by
  have h1 : (BitVec.ofInt 64 1).toNat = 2 ^ 1 - 1 := by decide
  have key : (BitVec.ofInt 64 n &&& BitVec.ofInt 64 1).toNat = (n % ((2 ^ 64 : Nat) : Int)).toNat % 2 ^ 1 := by
    rw [BitVec.toNat_and, BitVec.toNat_ofInt, h1, Nat.and_two_pow_sub_one_eq_mod]
  show IntKind.i64.wrap ((BitVec.ofInt 64 n &&& BitVec.ofInt 64 1).toNat : Nat) = n % 2
  rw [key, IntKind.wrap_i64]
  omega

theorem lit1_own (w : World) (d : Nat) (h : d < 4294967296) : Own (w.alloc (.cells #[.int .u32 (d : Int)] 26)) w.heap.size (.slice (some ⟨w.heap.size, 0, none⟩) 1 1) [d] := by
  have hr : Row (w.alloc (.cells #[.int .u32 (d : Int)] 26)) w.heap.size [d] := Row.new w [d] (OK.cons h OK.nil)
  exact Own.row (off := 0) (n := 1) (cap := 1) (Nat.le_refl _) hr (Nat.le_refl _) (by simp)

theorem bitLen_div (N : Nat) (h : N < 18446744073709551616) : N / 2 ^ Lib.bitLen N = 0 ∧ Lib.bitLen N ≤ 64 := by
  by_cases h0 : N = 0
  · subst h0; decide
  · have hb := Lib.bitLenAux_bounds 64 N (by omega) h0
    have hL : Lib.bitLen N = Lib.bitLenAux 64 N := rfl
    rw [← hL] at hb
    refine ⟨Nat.div_eq_of_lt hb.2.2, ?_⟩
    have : 2 ^ (Lib.bitLen N - 1) < 2 ^ 64 := by omega
    have := (Nat.pow_lt_pow_iff_right (by decide : 1 < 2)).1 this
    omega

/-- The exponent that is taken, and the powers on the way. -/
theorem pow_walk {w : World} {va : Value} {xs : List Nat} (n : Nat) (hx : Rd w va xs) (hxl : xs.length ≤ 1048576) (hn : n ≤ 9223372036854775807) (hlen : ∀ k, k ≤ n → (dig (val xs ^ k)).length ≤ 1048576)
    (hok : bitsN (val xs) ≤ 1 ∨ (n : Int) ≤ 65536 / (bitsN (val xs) : Int)) :
    Calls Tryd.prog 19 #[va, .int .i64 (n : Int)] w fun e w' => ∃ v, e = .returned (.tuple #[v, .int .i64 0]) ∧ Own w' w.heap.size v (dig (val xs ^ n)) ∧ Below w.heap.size w w' := by
  have hbl := bitsN_bound2 (val_lt hx.ok)
  obtain ⟨A, hA⟩ : ∃ A, val xs = A := ⟨_, rfl⟩
  rw [hA] at hlen hok hbl
  have HA := hide hA
  have h1le := bitsN_le_one (A := A)
  obtain ⟨b, hb'⟩ : ∃ b, bitsN A = b := ⟨_, rfl⟩
  rw [hb'] at hok hbl h1le
  have HB := hide hb'
  clear hA hb'
  obtain ⟨N, hN, hNn, hpow⟩ : ∃ N : Nat, (if b ≤ 1 then min (n : Int) 1 else (n : Int)) = (N : Int) ∧ N ≤ n ∧ A ^ N = A ^ n := by
    by_cases hb1 : b ≤ 1
    · rw [if_pos hb1]
      exact ⟨min n 1, by omega, by omega, pow_small (h1le.1 hb1)⟩
    · rw [if_neg hb1]; exact ⟨n, rfl, Nat.le_refl _, rfl⟩
  rw [HA.out, ← hpow]
  have hlen2 : ∀ k, k ≤ N → (dig (A ^ k)).length ≤ 1048576 := fun k hk => hlen k (by omega)
  have HL := hide hlen2
  have hbd := bitLen_div N (by omega)
  have HBD := hide hbd.1
  have hbd64 := hbd.2
  clear hlen hlen2 hpow hbd
  by_cases hb1 : b ≤ 1
  all_goals
    first | rw [if_pos hb1] at hN | rw [if_neg hb1] at hN
  · clear hok h1le
    go_enter Tryd.func19, Tryd.ntmps19
    have hb := Below.refl w.heap.size w
    go_wp2_with fail
    refine (bits_rd' hx (by omega)).mono ?_
    rintro e w_1 ⟨rfl, hb_1⟩
    replace hx := hx.below hb_1 (Nat.le_refl _)
    replace hb := hb.trans (hb_1.mono hb.size)
    clear hb_1
    rw [HA.out, HB.out]
    go_wp2_with fail
    refine (Tryd.bits_Len (N : Int) _ (by omega) (by omega)).mono ?_
    rintro e w2 ⟨rfl, hw⟩
    rw [hw, Int.toNat_natCast]
    clear hw w2
    have ho := lit1_own w_1 1 (by decide)
    have hx2 := hx.alloc (.cells #[.int .u32 (1 : Nat)] 26)
    have hbW := hb.alloc hb.size (.cells #[.int .u32 (1 : Nat)] 26)
    replace ho := ho.mono hb.size
    clear hx hb
    have h0 := HBD.out
    generalize Lib.bitLen N = L at *
    go_wp2_with fail
    go_loopg [7, 8] L (fun kk s7 s8 wr => Own wr w.heap.size s7 (dig (A ^ (N / 2 ^ kk))) ∧ s8 = .int .i64 ((kk : Int) - 1) ∧ Rd wr va xs ∧ kk ≤ L ∧ Below w.heap.size w wr)
    case atStart => exact ⟨by rw [h0, Nat.pow_zero]; exact ho, rfl, hx2, Nat.le_refl _, hbW⟩
    case round =>
      clear ho hx2 hbW
      obtain ⟨ho, rfl, hx, hkk, hbW⟩ := hrel
      cases gk with
      | zero =>
        go_wp2_with fail
        go_ret2
        refine ⟨_, rfl, ?_, hbW⟩
        simpa using ho
      | succ k =>
        rw [show (((k + 1 : Nat) : Int) - 1) = (k : Int) from by omega]
        have hpb := pow_bit A N k
        have l1 := HL.out (N / 2 ^ (k + 1)) (Nat.div_le_self _ _)
        have l2 := HL.out (N / 2 ^ k) (Nat.div_le_self _ _)
        obtain ⟨p, hp⟩ : ∃ p, A ^ (N / 2 ^ (k + 1)) = p := ⟨_, rfl⟩
        obtain ⟨q, hq'⟩ : ∃ q, A ^ (N / 2 ^ k) = q := ⟨_, rfl⟩
        rw [hp] at ho hpb l1
        rw [hq'] at hpb l2
        have hl3 : (dig (p * p)).length ≤ 1048576 := by
          rcases Nat.eq_zero_or_pos A with hA0 | hA0
          · rw [hA0] at hpb
            have h3 : p * p ≤ 1 := by
              have h4 : p ≤ 1 := by
                rw [← hp, hA0]
                rcases Nat.eq_zero_or_pos (N / 2 ^ (k + 1)) with h5 | h5
                · rw [h5]; exact Nat.le_refl _
                · rw [Nat.zero_pow h5]; exact Nat.zero_le _
              exact Nat.le_trans (Nat.mul_le_mul h4 h4) (Nat.le_refl _)
            exact Nat.le_trans (dig_length_mono h3) (by decide)
          · refine Nat.le_trans (dig_length_mono ?_) l2
            rw [← hpb]
            refine Nat.le_mul_of_pos_right _ ?_
            split
            · exact hA0
            · exact Nat.one_pos
        have hsh : bits .and .i64 ((N : Int) / 2 ^ k) 1 = ((N / 2 ^ k % 2 : Nat) : Int) := by rw [i64_and_one]; simp
        have HSH := hide (And.intro hq' hpb)
        have hr := ho.rd
        have hbs := hbW.size
        have hk64 : k < 64 := by omega
        clear hpb hq' hp
        by_cases hbit : N / 2 ^ k % 2 = 1
        · have HBIT := hide hbit
          rw [hbit] at hsh
          clear hbit
          have hbq : ((1 : Int) == 1) = true := rfl
          have hb := Below.refl wr.heap.size wr
          go_wp2_with fail
          refine (mul_rd hr hr (by omega) (by omega)).mono ?_
          rintro e w_1 ⟨vp, rfl, h3, hb_1⟩
          replace hx := hx.below hb_1 (Nat.le_refl _)
          replace hr := hr.below hb_1 (Nat.le_refl _)
          replace hb := hb.trans (hb_1.mono hb.size)
          clear hb_1
          rw [val_dig] at h3
          replace h3 := h3.rd
          clear hr
          have hbs2 := Nat.le_trans hbs hb.size
          go_wp2_with fail
          refine (mul_rd h3 hx (by omega) (by omega)).mono ?_
          rintro e w_2 ⟨vp2, rfl, h4, hb_2⟩
          replace hx := hx.below hb_2 (Nat.le_refl _)
          replace h3 := h3.below hb_2 (Nat.le_refl _)
          replace hb := hb.trans (hb_2.mono hb.size)
          clear hb_2
          rw [val_dig, HA.out] at h4
          go_wp2_with fail
          go_roundg k
          case rel =>
            refine ⟨?_, rfl, hx, by omega, hbW.trans (hb.mono hbW.size)⟩
            have h5 := HSH.out.2
            rw [if_pos HBIT.out] at h5
            rw [HSH.out.1, ← h5]
            exact h4.mono hbs2
          case measure => omega
        · have hb0 : N / 2 ^ k % 2 = 0 := by omega
          have HBIT := hide hbit
          rw [hb0] at hsh
          clear hbit hb0
          have hb := Below.refl wr.heap.size wr
          go_wp2_with fail
          refine (mul_rd hr hr (by omega) (by omega)).mono ?_
          rintro e w_1 ⟨vp, rfl, h3, hb_1⟩
          replace hx := hx.below hb_1 (Nat.le_refl _)
          replace hr := hr.below hb_1 (Nat.le_refl _)
          replace hb := hb.trans (hb_1.mono hb.size)
          clear hb_1
          rw [val_dig] at h3
          go_wp2_with fail
          go_roundg k
          case rel =>
            refine ⟨?_, rfl, hx, by omega, hbW.trans (hb.mono hbW.size)⟩
            have h5 := HSH.out.2
            rw [if_neg HBIT.out, Nat.mul_one] at h5
            rw [HSH.out.1, ← h5]
            exact h3.mono hbs
          case measure => omega
  · have hq : (n : Int) ≤ 65536 / (b : Int) := by rcases hok with h | h; (· omega); (· exact h)
    clear hok h1le
    go_enter Tryd.func19, Tryd.ntmps19
    have hb := Below.refl w.heap.size w
    go_wp2_with fail
    refine (bits_rd' hx (by omega)).mono ?_
    rintro e w_1 ⟨rfl, hb_1⟩
    replace hx := hx.below hb_1 (Nat.le_refl _)
    replace hb := hb.trans (hb_1.mono hb.size)
    clear hb_1
    rw [HA.out, HB.out]
    go_wp2_with fail
    refine (Tryd.bits_Len (N : Int) _ (by omega) (by omega)).mono ?_
    rintro e w2 ⟨rfl, hw⟩
    rw [hw, Int.toNat_natCast]
    clear hw w2
    have ho := lit1_own w_1 1 (by decide)
    have hx2 := hx.alloc (.cells #[.int .u32 (1 : Nat)] 26)
    have hbW := hb.alloc hb.size (.cells #[.int .u32 (1 : Nat)] 26)
    replace ho := ho.mono hb.size
    clear hx hb
    have h0 := HBD.out
    generalize Lib.bitLen N = L at *
    go_wp2_with fail
    go_loopg [7, 8] L (fun kk s7 s8 wr => Own wr w.heap.size s7 (dig (A ^ (N / 2 ^ kk))) ∧ s8 = .int .i64 ((kk : Int) - 1) ∧ Rd wr va xs ∧ kk ≤ L ∧ Below w.heap.size w wr)
    case atStart => exact ⟨by rw [h0, Nat.pow_zero]; exact ho, rfl, hx2, Nat.le_refl _, hbW⟩
    case round =>
      clear ho hx2 hbW
      obtain ⟨ho, rfl, hx, hkk, hbW⟩ := hrel
      cases gk with
      | zero =>
        go_wp2_with fail
        go_ret2
        refine ⟨_, rfl, ?_, hbW⟩
        simpa using ho
      | succ k =>
        rw [show (((k + 1 : Nat) : Int) - 1) = (k : Int) from by omega]
        have hpb := pow_bit A N k
        have l1 := HL.out (N / 2 ^ (k + 1)) (Nat.div_le_self _ _)
        have l2 := HL.out (N / 2 ^ k) (Nat.div_le_self _ _)
        obtain ⟨p, hp⟩ : ∃ p, A ^ (N / 2 ^ (k + 1)) = p := ⟨_, rfl⟩
        obtain ⟨q, hq'⟩ : ∃ q, A ^ (N / 2 ^ k) = q := ⟨_, rfl⟩
        rw [hp] at ho hpb l1
        rw [hq'] at hpb l2
        have hl3 : (dig (p * p)).length ≤ 1048576 := by
          rcases Nat.eq_zero_or_pos A with hA0 | hA0
          · rw [hA0] at hpb
            have h3 : p * p ≤ 1 := by
              have h4 : p ≤ 1 := by
                rw [← hp, hA0]
                rcases Nat.eq_zero_or_pos (N / 2 ^ (k + 1)) with h5 | h5
                · rw [h5]; exact Nat.le_refl _
                · rw [Nat.zero_pow h5]; exact Nat.zero_le _
              exact Nat.le_trans (Nat.mul_le_mul h4 h4) (Nat.le_refl _)
            exact Nat.le_trans (dig_length_mono h3) (by decide)
          · refine Nat.le_trans (dig_length_mono ?_) l2
            rw [← hpb]
            refine Nat.le_mul_of_pos_right _ ?_
            split
            · exact hA0
            · exact Nat.one_pos
        have hsh : bits .and .i64 ((N : Int) / 2 ^ k) 1 = ((N / 2 ^ k % 2 : Nat) : Int) := by rw [i64_and_one]; simp
        have HSH := hide (And.intro hq' hpb)
        have hr := ho.rd
        have hbs := hbW.size
        have hk64 : k < 64 := by omega
        clear hpb hq' hp
        by_cases hbit : N / 2 ^ k % 2 = 1
        · have HBIT := hide hbit
          rw [hbit] at hsh
          clear hbit
          have hbq : ((1 : Int) == 1) = true := rfl
          have hb := Below.refl wr.heap.size wr
          go_wp2_with fail
          refine (mul_rd hr hr (by omega) (by omega)).mono ?_
          rintro e w_1 ⟨vp, rfl, h3, hb_1⟩
          replace hx := hx.below hb_1 (Nat.le_refl _)
          replace hr := hr.below hb_1 (Nat.le_refl _)
          replace hb := hb.trans (hb_1.mono hb.size)
          clear hb_1
          rw [val_dig] at h3
          replace h3 := h3.rd
          clear hr
          have hbs2 := Nat.le_trans hbs hb.size
          go_wp2_with fail
          refine (mul_rd h3 hx (by omega) (by omega)).mono ?_
          rintro e w_2 ⟨vp2, rfl, h4, hb_2⟩
          replace hx := hx.below hb_2 (Nat.le_refl _)
          replace h3 := h3.below hb_2 (Nat.le_refl _)
          replace hb := hb.trans (hb_2.mono hb.size)
          clear hb_2
          rw [val_dig, HA.out] at h4
          go_wp2_with fail
          go_roundg k
          case rel =>
            refine ⟨?_, rfl, hx, by omega, hbW.trans (hb.mono hbW.size)⟩
            have h5 := HSH.out.2
            rw [if_pos HBIT.out] at h5
            rw [HSH.out.1, ← h5]
            exact h4.mono hbs2
          case measure => omega
        · have hb0 : N / 2 ^ k % 2 = 0 := by omega
          have HBIT := hide hbit
          rw [hb0] at hsh
          clear hbit hb0
          have hb := Below.refl wr.heap.size wr
          go_wp2_with fail
          refine (mul_rd hr hr (by omega) (by omega)).mono ?_
          rintro e w_1 ⟨vp, rfl, h3, hb_1⟩
          replace hx := hx.below hb_1 (Nat.le_refl _)
          replace hr := hr.below hb_1 (Nat.le_refl _)
          replace hb := hb.trans (hb_1.mono hb.size)
          clear hb_1
          rw [val_dig] at h3
          go_wp2_with fail
          go_roundg k
          case rel =>
            refine ⟨?_, rfl, hx, by omega, hbW.trans (hb.mono hbW.size)⟩
            have h5 := HSH.out.2
            rw [if_neg HBIT.out, Nat.mul_one] at h5
            rw [HSH.out.1, ← h5]
            exact h3.mono hbs
          case measure => omega
end Go.Proofs.YtdjfgpfeepbnaaaDoor
