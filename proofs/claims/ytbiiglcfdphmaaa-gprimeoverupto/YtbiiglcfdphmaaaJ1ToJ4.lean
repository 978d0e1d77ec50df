/- Least divisors of whole numbers, and which squares of them are sums of two squares. -/
import Derived.Test.YtbiiglcfdphmaaaT1ToG7
import Derived.Test.YtbiiglcfdphmaaaWkToG2
import Derived.Test.YtbiiglcfdphmaaaY5ToD1
import Derived.Test.YtbiiglcfdphmaaaG3ToR10
import Derived.Test.YtbiiglcfdphmaaaR2aToR6

namespace Go.Proofs.Ytbiiglcfdphmaaa
open Go Go.RowKit Dig
def IsLf (n r : Nat) : Prop := r ∣ n ∧ 2 ≤ r ∧ ∀ d, 2 ≤ d → d ∣ n → r ≤ d
theorem IsLf.uniq {n r s : Nat} (h : IsLf n r) (k : IsLf n s) : r = s := Nat.le_antisymm (h.2.2 s k.2.1 k.1) (k.2.2 r h.2.1 h.1)
theorem lf_div {n d : Nat} (h : 2 ≤ d) (hd : d ∣ n) (hl : ∀ e, 2 ≤ e → e < d → ¬ e ∣ n) : IsLf n d :=
  ⟨hd, h, fun e h2 he => Nat.le_of_not_lt fun hc => hl e h2 hc he⟩
theorem lf_none {n d : Nat} (h2 : 2 ≤ n) (hn : n < d * d) (hl : ∀ e, 2 ≤ e → e < d → ¬ e ∣ n) : IsLf n n := by
  refine ⟨Nat.dvd_refl n, h2, fun e he hd => Nat.le_of_not_lt fun hc => ?_⟩
  obtain ⟨f, hf⟩ := hd
  have hde : d ≤ e := Nat.le_of_not_lt fun hc => hl e he hc ⟨f, hf⟩
  have hf2 : 2 ≤ f := by
    rcases Nat.lt_or_ge f 2 with h | h
    · have : f = 0 ∨ f = 1 := by omega
      rcases this with rfl | rfl <;> simp at hf <;> omega
    · exact h
  have hdf : d ≤ f := Nat.le_of_not_lt fun hc => hl f hf2 hc ⟨e, by rw [hf, Nat.mul_comm]⟩
  have := Nat.mul_le_mul hde hdf
  omega
theorem IsLf.euclid {p a b : Nat} (h : IsLf p p) (hd : p ∣ a * b) : p ∣ a ∨ p ∣ b := by
  by_cases h1 : Nat.gcd p a = 1
  · exact .inr (Nat.Coprime.dvd_of_dvd_mul_left h1 hd)
  · have h0 : Nat.gcd p a ≠ 0 := fun hc => by have := Nat.eq_zero_of_gcd_eq_zero_left hc; have := h.2.1; omega
    have := h.2.2 _ (by omega) (Nat.gcd_dvd_left p a)
    have h2 := Nat.le_of_dvd (by have := h.2.1; omega) (Nat.gcd_dvd_left p a)
    have : Nat.gcd p a = p := by omega
    exact .inl (this ▸ Nat.gcd_dvd_right p a)
theorem sq_mod4 (x : Nat) : x * x % 4 = 0 ∧ x % 2 = 0 ∨ x * x % 4 = 1 ∧ x % 2 = 1 := by
  have : x % 4 = 0 ∨ x % 4 = 1 ∨ x % 4 = 2 ∨ x % 4 = 3 := by omega
  rw [Nat.mul_mod]
  rcases this with h | h | h | h <;> rw [h] <;> simp <;> omega
end Go.Proofs.Ytbiiglcfdphmaaa


/- gprime.leastDivisor and the reference's Least. -/
namespace Go.Proofs.Ytbiiglcfdphmaaa
open Go Go.RowKit Dig
set_option linter.unusedVariables false

theorem lf_bd {n k : Nat} (h : k * k ≤ n) (hn : n < 4294967296) : k ≤ 65535 := by
  rcases Nat.lt_or_ge k 65536 with h1 | h1
  · omega
  · have := Nat.mul_le_mul h1 h1
    omega
set_option maxHeartbeats 1000000 in
set_option maxRecDepth 20000 in
theorem least_u64 (n : Nat) (w : World) (h2 : 2 ≤ n) (hn : n < 4294967296) :
    Calls Try.prog 68 #[.int .u64 (n : Int)] w fun e w' => ∃ r : Nat, e = .returned (.int .u64 (r : Int)) ∧ IsLf n r ∧ w = w' := by
  go_enter Try.func68, Try.ntmps68
  go_wp2
  go_loopw [3] (fun d wr => ∃ k : Nat, d = .int .u64 (k : Int) ∧ 2 ≤ k ∧ k ≤ 65536 ∧ Hid (∀ e, 2 ≤ e → e < k → ¬ e ∣ n) ∧ w = wr) (fun d _ => 65537 - (intOf d).toNat)
  case atStart => exact ⟨2, rfl, by omega, by omega, hide (fun e h1 h2 => by omega), rfl⟩
  case round =>
    obtain ⟨k, rfl, hk2, hkb, hI, rfl⟩ := hrel
    have hp : (k : Int) * (k : Int) = ((k * k : Nat) : Int) := by simp
    have hpb : k * k < 18446744073709 := Nat.lt_of_le_of_lt (Nat.mul_le_mul hkb hkb) (by decide)
    by_cases hkk : k * k ≤ n
    · have hkl := lf_bd hkk hn
      by_cases hd : n % k = 0
      · have hL := hide (lf_div hk2 (Nat.dvd_of_mod_eq_zero hd) hI.out)
        have hm : Int.tmod (n : Int) (k : Int) = 0 := by rw [← Int.ofNat_tmod, hd]; rfl
        have hk0 : ((k : Int) == 0) = false := by simp; omega
        clear hd hI
        generalize k * k = q at *
        have h5 : ((q : Int) ≤ (n : Int)) = True := by simp; omega
        clear hkk
        go_wp2
        go_ret
        exact ⟨k, rfl, hL.out, rfl⟩
      · have hm : Int.tmod (n : Int) (k : Int) = ((n % k : Nat) : Int) := by rw [Int.ofNat_tmod]
        have hk0 : ((k : Int) == 0) = false := by simp; omega
        have hI' : Hid (∀ e, 2 ≤ e → e < k + 1 → ¬ e ∣ n) := hide (fun e h1 h2 hc => by
          rcases Nat.lt_or_ge e k with h | h
          · exact hI.out e h1 h hc
          · obtain rfl : e = k := by omega
            exact hd (Nat.mod_eq_zero_of_dvd hc))
        clear hI
        generalize n % k = r at *
        have hr0 : ((r : Int) == 0) = false := by simp; omega
        generalize k * k = q at *
        have h5 : ((q : Int) ≤ (n : Int)) = True := by simp; omega
        clear hkk hd
        go_wp2
        go_roundw
        case rel => exact ⟨k + 1, by go_num, by omega, by omega, hI', trivial⟩
        case measure => simp [intOf]; omega
    · have hL := hide (lf_none h2 (Nat.lt_of_not_le hkk) hI.out)
      clear hI
      generalize k * k = q at *
      have h5 : ((q : Int) ≤ (n : Int)) = False := by simp; omega
      clear hkk
      go_wp2
      go_ret
      exact ⟨n, rfl, hL.out, rfl⟩
set_option maxHeartbeats 1000000 in
set_option maxRecDepth 20000 in
theorem least_i64 (n : Nat) (w : World) (h2 : 2 ≤ n) (hn : n < 4294967296) :
    Calls Try.prog 22 #[.int .i64 (n : Int)] w fun e w' => ∃ r : Nat, e = .returned (.int .i64 (r : Int)) ∧ IsLf n r ∧ w = w' := by
  go_enter Try.func22, Try.ntmps22
  go_wp2
  go_loopw [3] (fun d wr => ∃ k : Nat, d = .int .i64 (k : Int) ∧ 2 ≤ k ∧ k ≤ 65536 ∧ Hid (∀ e, 2 ≤ e → e < k → ¬ e ∣ n) ∧ w = wr) (fun d _ => 65537 - (intOf d).toNat)
  case atStart => exact ⟨2, rfl, by omega, by omega, hide (fun e h1 h2 => by omega), rfl⟩
  case round =>
    obtain ⟨k, rfl, hk2, hkb, hI, rfl⟩ := hrel
    have hp : (k : Int) * (k : Int) = ((k * k : Nat) : Int) := by simp
    have hpb : k * k < 18446744073709 := Nat.lt_of_le_of_lt (Nat.mul_le_mul hkb hkb) (by decide)
    by_cases hkk : k * k ≤ n
    · have hkl := lf_bd hkk hn
      by_cases hd : n % k = 0
      · have hL := hide (lf_div hk2 (Nat.dvd_of_mod_eq_zero hd) hI.out)
        have hm : Int.tmod (n : Int) (k : Int) = 0 := by rw [← Int.ofNat_tmod, hd]; rfl
        have hk0 : ((k : Int) == 0) = false := by simp; omega
        clear hd hI
        generalize k * k = q at *
        have h5 : ((q : Int) ≤ (n : Int)) = True := by simp; omega
        clear hkk
        go_wp2
        go_ret
        exact ⟨k, rfl, hL.out, rfl⟩
      · have hm : Int.tmod (n : Int) (k : Int) = ((n % k : Nat) : Int) := by rw [Int.ofNat_tmod]
        have hk0 : ((k : Int) == 0) = false := by simp; omega
        have hI' : Hid (∀ e, 2 ≤ e → e < k + 1 → ¬ e ∣ n) := hide (fun e h1 h2 hc => by
          rcases Nat.lt_or_ge e k with h | h
          · exact hI.out e h1 h hc
          · obtain rfl : e = k := by omega
            exact hd (Nat.mod_eq_zero_of_dvd hc))
        clear hI
        generalize n % k = r at *
        have hr0 : ((r : Int) == 0) = false := by simp; omega
        generalize k * k = q at *
        have h5 : ((q : Int) ≤ (n : Int)) = True := by simp; omega
        clear hkk hd
        go_wp2
        go_roundw
        case rel => exact ⟨k + 1, by go_num, by omega, by omega, hI', trivial⟩
        case measure => simp [intOf]; omega
    · have hL := hide (lf_none h2 (Nat.lt_of_not_le hkk) hI.out)
      clear hI
      generalize k * k = q at *
      have h5 : ((q : Int) ≤ (n : Int)) = False := by simp; omega
      clear hkk
      go_wp2
      go_ret
      exact ⟨n, rfl, hL.out, rfl⟩
end Go.Proofs.Ytbiiglcfdphmaaa


/- The law's awake. -/
namespace Go.Proofs.Ytbiiglcfdphmaaa
open Go Go.RowKit Dig
set_option linter.unusedVariables false
end Go.Proofs.Ytbiiglcfdphmaaa


/- The reference's Small of a whole number; gprime.small. -/
namespace Go.Proofs.Ytbiiglcfdphmaaa
open Go Go.RowKit Dig
set_option linter.unusedVariables false

theorem or_hi64 (r y : Nat) (hr : r < 1073741824) (hy : y < 4294967296) : bits .or .i64 ((r : Int) * 4294967296) (y : Int) = ((r * 4294967296 + y : Nat) : Int) := by
  have e : r * 4294967296 ||| y = r * 4294967296 + y := by
    have := Nat.shiftLeft_add_eq_or_of_lt (b := y) (i := 32) (by omega) r
    rw [Nat.shiftLeft_eq] at this
    exact this.symm
  have h1 : ((r : Int) * 4294967296 % ((2 ^ 64 : Nat) : Int)).toNat = r * 4294967296 := by omega
  have h2 : ((y : Int) % ((2 ^ 64 : Nat) : Int)).toNat = y := by omega
  show IntKind.i64.wrap ((BitVec.ofInt 64 ((r : Int) * 4294967296) ||| BitVec.ofInt 64 (y : Int)).toNat : Nat) = _
  rw [BitVec.toNat_or, BitVec.toNat_ofInt, BitVec.toNat_ofInt, h1, h2, e, IntKind.wrap_i64]
  omega
/-- What a number is without its k lowest digits. -/
def dtop (z : Int) (k : Nat) : Nat := z.natAbs / 2 ^ (32 * k)
/-- A canonical number's digits, from above. -/
theorem ZC.digit {w : World} {n : Bool} {o : Option Addr} {k c : Nat} {z : Int} (h : ZC w (.agg #[.bool n, .slice o k c]) z) :
    n = decide (z < 0) ∧ Rd w (.slice o k c) (dig z.natAbs) ∧ (dig z.natAbs).length = k ∧ ∀ i, i < k → ∃ b off d, o = some ⟨b, off, none⟩ ∧ w.cell? ⟨b, off + i, none⟩ = some (.int .u32 ((d : Nat) : Int)) ∧ d < 4294967296 ∧ dtop z (i + 1) * 4294967296 + d = dtop z i := by
  obtain ⟨s, hv, hr⟩ := h
  simp only [Value.agg.injEq, Array.mk.injEq, List.cons.injEq, Value.bool.injEq, and_true] at hv
  obtain ⟨rfl, rfl⟩ := hv
  refine ⟨rfl, hr, ?_, fun i hi => ?_⟩
  · obtain ⟨oa, cap, hs, _⟩ := hr
    simp only [Value.slice.injEq] at hs
    exact hs.2.1.symm
  · obtain ⟨oa, cap, hs, hc, ok, hx⟩ := hr
    simp only [Value.slice.injEq] at hs
    obtain ⟨rfl, rfl, rfl⟩ := hs
    obtain ⟨b, off, rfl, hcell⟩ := hx.resolve_left (by intro h; rw [h] at hi; simp at hi)
    refine ⟨b, off, _, rfl, hcell _ hi, ok.get _, ?_⟩
    have h1 := digit_div ok i
    rw [val_dig, pw_eq] at h1
    unfold dtop
    rw [h1, show 32 * (i + 1) = 32 * i + 32 by omega, Nat.pow_add, ← Nat.div_div_eq_div_mul]
    omega
theorem small_top {z : Int} {k : Nat} (h : z.natAbs < 4611686018427387904) (hk : (dig z.natAbs).length = k) : dtop z k = 0 ∧ k ≤ 2 := by
  unfold dtop
  generalize z.natAbs = A at *
  have h1 := lt_pw_dig A
  rw [hk, pw_eq] at h1
  refine ⟨Nat.div_eq_of_lt h1, ?_⟩
  rw [← hk]
  exact dig_length_le (Nat.lt_trans h (by decide))
theorem small_mid {z : Int} {i : Nat} (h : z.natAbs < 4611686018427387904) : dtop z (i + 1) < 1073741824 := by
  unfold dtop
  generalize z.natAbs = A at *
  have h1 : A / 2 ^ 32 < 1073741824 := by omega
  rw [show 32 * (i + 1) = 32 + 32 * i by omega, Nat.pow_add, ← Nat.div_div_eq_div_mul]
  exact Nat.lt_of_le_of_lt (Nat.div_le_self _ _) h1
theorem bits_62 {A : Nat} : bitsN A ≤ 62 ↔ A < 4611686018427387904 := by
  constructor
  · intro h
    exact Nat.lt_of_lt_of_le (bitsN_lt A) (Nat.pow_le_pow_right (by decide) h)
  · intro h
    rcases Nat.eq_zero_or_pos A with h0 | h0
    · subst h0; decide
    · have h1 := bitsN_le (Nat.ne_of_gt h0)
      rcases Nat.lt_or_ge 62 (bitsN A) with h2 | h2
      · have := Nat.pow_le_pow_right (n := 2) (by decide) (show 62 ≤ bitsN A - 1 by omega)
        omega
      · exact h2
theorem rbits_rd6 {w : World} {va : Value} {xs : List Nat} (hx : Rd w va xs) (hxl : xs.length ≤ 100000000000) :
    Calls Try.prog 54 #[va] w fun e w' => e = .returned (.int .i64 ((bitsN (val xs) : Nat) : Int)) ∧ Below w.heap.size w w' := by
  obtain ⟨oa, ca, rfl, hca, okx, hcx⟩ := hx
  exact rbits_any oa ca xs w (by omega) hca okx hcx
section
variable {w : World} {va : Value} {z : Int} {l : Nat}
set_option maxHeartbeats 4000000 in
set_option maxRecDepth 20000 in
theorem rsmall_big (ha : ZN w va z l) (hl : l ≤ 100000000) (hz : 4611686018427387904 ≤ z.natAbs) :
    Calls Try.prog 21 #[va] w fun e w' => e = .returned (.tuple #[.int .i64 0, .bool false]) ∧ Below w.heap.size w w' := by
  have HB := hide (show (62 < ((bitsN z.natAbs : Nat) : Int)) by have := mt bits_62.1 (Nat.not_lt.2 hz); omega)
  have LZ := hide ha.len
  clear hz
  obtain ⟨n_0, o_0, k_0, c_0, rfl⟩ := ha.open2
  go_enter Try.func21, Try.ntmps21
  have hs := St.nil w
  refine wp_seq_k ?_
  intro K1 hK1
  refine rg [0, 1, 2] ?_
  refine sq ?_
  refine .al hs ?_; clear hs; intro p_b1 w_1 hs n1 kb_b1
  refine sq ?_
  refine .mv ?_
  refine sq ?_
  refine .mv ?_
  apply wpSq_end
  refine hK1 _ _ ?_
  refine wp_seq_k ?_
  intro K2 hK2
  refine rg [0, 1, 2, 3] ?_
  refine sq ?_
  refine .r2 hs.g0.f2 ?_
  refine sq ?_
  intro K hK
  have k0_1 := kb n1
  replace ha := ha.k k0_1
  go_big_op
  go_fit (rnorm_any ha (by omega) )
  rintro e w_2 ⟨v_e, rfl, e, hb_2⟩
  replace hs := hs.bl hb_2
  replace e := e.rd
  obtain ⟨n_e, o_e, k_e, c_e, rfl⟩ := e.open2
  have Le := hide (e.lenOf ((ha.len)))
  refine hK _ _ rfl trivial ?_
  clear hK K
  refine sq ?_
  refine .al hs ?_; clear hs; intro p_b2 w_3 hs n3 kb_b2
  refine sq ?_
  refine .s2 hs.g0 (fun _ => hs.u0 kb_b2) ?_; clear hs; intro w_4 hs hd4 ho4
  apply wpSq_end
  refine hK2 _ _ ?_
  refine wp_seq_k ?_
  intro K3 hK3
  refine wp_seq_k ?_
  intro K4 hK4
  refine rg [0, 1, 2, 3] ?_
  refine sq ?_
  refine .r0 ?_
  refine sq ?_
  refine .r2 hs.g0.f2 ?_
  refine sq ?_
  intro K hK
  have k2_4 := (kb n3).o hd4 ho4
  replace e := e.k k2_4
  go_big_op
  go_fit (rbits_rd6 e.digit.2.1 (by have := LZ.out; omega))
  rintro e w_5 ⟨rfl, hb_5⟩
  replace hs := hs.bl hb_5
  rw [val_dig]
  refine hK _ _ rfl trivial ?_
  clear hK K
  refine sq ?_
  refine .r0 ?_
  apply wpSq_end
  refine hK4 _ _ ?_
  refine wp_cond_true (congrArg Value.bool (show _ = true from (by exact decide_eq_true HB.out))) ?_
  refine wp_seq_k ?_
  intro K5 hK5
  refine rg [0, 1] ?_
  refine sq ?_
  refine .mv ?_
  refine sq ?_
  refine .mv ?_
  apply wpSq_end
  refine hK5 _ _ ?_
  refine wp_ret ?_
  try dsimp only [Exit.then, Exit.inBlock]
  refine bodyPost_ret (v := (.tuple #[(.int .i64 0), (.bool false)])) (by simp [results, Try.results21, go_sem]) rfl ?_
  exact ⟨rfl, hs.b⟩
set_option maxHeartbeats 4000000 in
set_option maxRecDepth 20000 in
theorem rsmall_any (ha : ZN w va z l) (hl : l ≤ 100000000) (hz : z.natAbs < 4611686018427387904) :
    Calls Try.prog 21 #[va] w fun e w' => e = .returned (.tuple #[.int .i64 z, .bool true]) ∧ Below w.heap.size w w' := by
  have HB := hide (show ¬ (62 < ((bitsN z.natAbs : Nat) : Int)) by have := bits_62.2 hz; omega)
  have HZ := hide hz
  have LZ := hide ha.len
  clear hz
  obtain ⟨n_0, o_0, k_0, c_0, rfl⟩ := ha.open2
  go_enter Try.func21, Try.ntmps21
  have hs := St.nil w
  refine wp_seq_k ?_
  intro K1 hK1
  refine rg [0, 1, 2] ?_
  refine sq ?_
  refine .al hs ?_; clear hs; intro p_b1 w_1 hs n1 kb_b1
  refine sq ?_
  refine .mv ?_
  refine sq ?_
  refine .mv ?_
  apply wpSq_end
  refine hK1 _ _ ?_
  refine wp_seq_k ?_
  intro K2 hK2
  refine rg [0, 1, 2, 3] ?_
  refine sq ?_
  refine .r2 hs.g0.f2 ?_
  refine sq ?_
  intro K hK
  have k0_1 := kb n1
  replace ha := ha.k k0_1
  go_big_op
  go_fit (rnorm_any ha (by omega) )
  rintro e w_2 ⟨v_e, rfl, e, hb_2⟩
  replace hs := hs.bl hb_2
  replace e := e.rd
  obtain ⟨n_e, o_e, k_e, c_e, rfl⟩ := e.open2
  have Le := hide (e.lenOf ((ha.len)))
  refine hK _ _ rfl trivial ?_
  clear hK K
  refine sq ?_
  refine .al hs ?_; clear hs; intro p_b2 w_3 hs n3 kb_b2
  refine sq ?_
  refine .s2 hs.g0 (fun _ => hs.u0 kb_b2) ?_; clear hs; intro w_4 hs hd4 ho4
  apply wpSq_end
  refine hK2 _ _ ?_
  refine wp_seq_k ?_
  intro K3 hK3
  refine wp_seq_k ?_
  intro K4 hK4
  refine rg [0, 1, 2, 3] ?_
  refine sq ?_
  refine .r0 ?_
  refine sq ?_
  refine .r2 hs.g0.f2 ?_
  refine sq ?_
  intro K hK
  have k2_4 := (kb n3).o hd4 ho4
  replace e := e.k k2_4
  go_big_op
  go_fit (rbits_rd6 e.digit.2.1 (by have := LZ.out; omega))
  rintro e w_5 ⟨rfl, hb_5⟩
  replace hs := hs.bl hb_5
  rw [val_dig]
  refine hK _ _ rfl trivial ?_
  clear hK K
  refine sq ?_
  refine .r0 ?_
  apply wpSq_end
  refine hK4 _ _ ?_
  have k4_5 := kb hb_5
  replace e := e.k k4_5
  have HK := hide (small_top HZ.out e.digit.2.2.1)
  have hke := HK.out.2
  refine wp_cond_false (congrArg Value.bool (show _ = false from (by exact decide_eq_false HB.out))) ?_
  refine wp_skip ?_
  refine hK3 _ _ ?_
  refine wp_seq_k ?_
  intro K5 hK5
  refine rg [0] ?_
  refine sq ?_
  refine .mv ?_
  apply wpSq_end
  refine hK5 _ _ ?_
  refine wp_seq_k ?_
  intro K6 hK6
  refine wp_seq_k ?_
  intro K7 hK7
  refine rg [0, 1, 2, 3, 4] ?_
  refine sq ?_
  refine .r0 ?_
  refine sq ?_
  refine .r2 hs.g0.f2 ?_
  refine sq ?_
  refine .r0 ?_
  refine sq ?_
  refine .r0 ?_
  refine sq ?_
  refine .mv ?_
  apply wpSq_end
  refine hK7 _ _ ?_
  refine wp_block ?_
  have x_b2 := hs.g0
  have hb := hs.b
  have hd6 := hs.2.1
  go_loopg [5, 6] k_e (fun k s5 s6 wr => s5 = .int .i64 ((dtop z k : Nat) : Int) ∧ s6 = .int .i64 ((k : Int) - 1) ∧ k ≤ k_e ∧ Bs wr p_b2 #[.bool n_e, .slice o_e k_e c_e] 27 ∧ ZC wr (.agg #[.bool n_e, .slice o_e k_e c_e]) z ∧ Below w.heap.size w wr)
  case atStart => exact ⟨by rw [HK.out.1]; rfl, rfl, Nat.le_refl _, x_b2, e, hb⟩
  case round =>
  clear e ha x_b2 hb hs
  obtain ⟨rfl, rfl, hk, x_b2, e, hb⟩ := hrel
  cases gk with
  | zero =>
    have e0 : dtop z 0 = z.natAbs := by unfold dtop; rw [Nat.mul_zero, Nat.pow_zero, Nat.div_one]
    rw [e0]
    have hsg := hide e.digit.1
    clear e0
    by_cases h0 : z < 0
    · have hA : ((z.natAbs : Nat) : Int) = -z := by omega
      have HZ' := HZ.out
      have HS := hide (hsg.out.trans (decide_eq_true h0))
      rw [hA]
      have hs := St.re (.c x_b2 .n) hd6 (.cons_cons _ (.cons _ .slnil)) hb
      refine wp_seq_k ?_
      intro K8 hK8
      refine wp_seq_k ?_
      intro K9 hK9
      refine rg [0, 1] ?_
      refine sq ?_
      refine .mv ?_
      refine sq ?_
      refine .r0 ?_
      apply wpSq_end
      refine hK9 _ _ ?_
      refine cf ?_
      refine wp_exit ?_
      refine hK6 _ _ ?_
      refine wp_seq_k ?_
      intro K10 hK10
      refine wp_seq_k ?_
      intro K11 hK11
      refine rg [0, 1] ?_
      refine sq ?_
      refine .r0 ?_
      refine sq ?_
      refine .r2 hs.g0.f2 ?_
      apply wpSq_end
      refine hK11 _ _ ?_
      refine wp_cond_true (congrArg Value.bool (show _ = true from (by exact HS.out))) ?_
      refine wp_seq_k ?_
      intro K12 hK12
      refine rg [0, 1, 2, 3] ?_
      refine sq ?_
      refine .mv ?_
      refine sq ?_
      refine .r0 ?_
      refine sq ?_
      refine .mv ?_
      refine sq ?_
      refine .mv ?_
      apply wpSq_end
      refine hK12 _ _ ?_
      refine wp_ret ?_
      try dsimp only [Exit.then, Exit.inBlock]
      refine bodyPost_ret (v := (.tuple #[(.int .i64 z), (.bool true)])) (by simp [results, Try.results21, go_sem]) rfl ?_
      exact ⟨rfl, hs.b⟩
    · have hA : ((z.natAbs : Nat) : Int) = z := by omega
      have HS := hide (hsg.out.trans (decide_eq_false h0))
      rw [hA]
      have hs := St.re (.c x_b2 .n) hd6 (.cons_cons _ (.cons _ .slnil)) hb
      refine wp_seq_k ?_
      intro K8 hK8
      refine wp_seq_k ?_
      intro K9 hK9
      refine rg [0, 1] ?_
      refine sq ?_
      refine .mv ?_
      refine sq ?_
      refine .r0 ?_
      apply wpSq_end
      refine hK9 _ _ ?_
      refine cf ?_
      refine wp_exit ?_
      refine hK6 _ _ ?_
      refine wp_seq_k ?_
      intro K10 hK10
      refine wp_seq_k ?_
      intro K11 hK11
      refine rg [0, 1] ?_
      refine sq ?_
      refine .r0 ?_
      refine sq ?_
      refine .r2 hs.g0.f2 ?_
      apply wpSq_end
      refine hK11 _ _ ?_
      refine wp_cond_false (congrArg Value.bool (show _ = false from (by exact HS.out))) ?_
      refine wp_skip ?_
      refine hK10 _ _ ?_
      refine wp_seq_k ?_
      intro K12 hK12
      refine rg [0, 1, 2] ?_
      refine sq ?_
      refine .mv ?_
      refine sq ?_
      refine .mv ?_
      refine sq ?_
      refine .mv ?_
      apply wpSq_end
      refine hK12 _ _ ?_
      refine wp_ret ?_
      try dsimp only [Exit.then, Exit.inBlock]
      refine bodyPost_ret (v := (.tuple #[(.int .i64 z), (.bool true)])) (by simp [results, Try.results21, go_sem]) rfl ?_
      exact ⟨rfl, hs.b⟩
  | succ i =>
    have e1 : ((i + 1 : Nat) : Int) - 1 = (i : Int) := by omega
    rw [e1]
    have HM := hide (small_mid (i := i) HZ.out)
    have hs := St.re (.c x_b2 .n) hd6 (.cons_cons _ (.cons _ .slnil)) hb
    refine wp_seq_k ?_
    intro K8 hK8
    refine wp_seq_k ?_
    intro K9 hK9
    refine rg [0, 1] ?_
    refine sq ?_
    refine .mv ?_
    refine sq ?_
    refine .r0 ?_
    apply wpSq_end
    refine hK9 _ _ ?_
    refine ct ?_
    refine wp_skip ?_
    refine hK8 _ _ ?_
    refine wp_seq_k ?_
    intro K10 hK10
    refine wp_block ?_
    refine rg [0, 1, 2, 3, 4, 5, 6, 7, 8, 9] ?_
    obtain ⟨bb, boff, dd, hd1, hd2, hd3, hd4⟩ := e.digit.2.2.2 i (by omega)
    have hsh := or_hi64 _ dd HM.out hd3
    rw [hd4] at hsh; clear hd4
    have hm := HM.out
    refine sq ?_
    refine .mv ?_
    refine sq ?_
    refine .r0 ?_
    refine sq ?_
    refine .r0 ?_
    refine sq ?_
    refine .r2 hs.g0.f2 ?_
    refine sq ?_
    refine .mv ?_
    refine sq ?_
    refine .r0 ?_
    refine sq ?_
    refine .r0 ?_
    refine sq ?_
    refine .r0 ?_
    refine sq ?_
    refine .r0 ?_
    refine sq ?_
    refine .mv ?_
    apply wpSq_end
    refine hK10 _ _ ?_
    refine rg [0, 1, 2] ?_
    refine sq ?_
    refine .mv ?_
    refine sq ?_
    refine .r0 ?_
    refine sq ?_
    refine .mv ?_
    apply wpSq_end
    refine ‹∀ (a' : Act) (w' : World), Handed _ _ a' w' → _› _ _ ?_
    go_roundg i
    case rel => exact ⟨by rfl, by rfl, by omega, x_b2, e, hb⟩
    case measure => omega
end
end Go.Proofs.Ytbiiglcfdphmaaa


/- gint: Canon; the reference's. -/
namespace Go.Proofs.Ytbiiglcfdphmaaa
open Go Go.RowKit Dig
set_option linter.unusedVariables false

section
variable {w : World} {va vb : Value} {x y u v : Int} {l m k n : Nat}
end
end Go.Proofs.Ytbiiglcfdphmaaa


/- gprime.normOf, isNormOfPrime, IsPrime. -/
namespace Go.Proofs.Ytbiiglcfdphmaaa
open Go Go.RowKit Dig
set_option linter.unusedVariables false

theorem sq_abs (x : Int) : x * x = ((x.natAbs * x.natAbs : Nat) : Int) := by
  rw [Int.natAbs_mul_self]
theorem gN_nat (x y : Int) : gN x y = ((x.natAbs * x.natAbs + y.natAbs * y.natAbs : Nat) : Int) := by
  unfold gN; rw [sq_abs x, sq_abs y, Int.natCast_add]
theorem bits_16 {A : Nat} : bitsN A ≤ 16 ↔ A < 65536 := by
  constructor
  · intro h
    exact Nat.lt_of_lt_of_le (bitsN_lt A) (Nat.pow_le_pow_right (by decide) h)
  · intro h
    rcases Nat.eq_zero_or_pos A with h0 | h0
    · subst h0; decide
    · have h1 := bitsN_le (Nat.ne_of_gt h0)
      rcases Nat.lt_or_ge 16 (bitsN A) with h2 | h2
      · have := Nat.pow_le_pow_right (n := 2) (by decide) (show 16 ≤ bitsN A - 1 by omega)
        omega
      · exact h2
theorem bits_32 {A : Nat} : bitsN A ≤ 32 ↔ A < 4294967296 := by
  constructor
  · intro h
    exact Nat.lt_of_lt_of_le (bitsN_lt A) (Nat.pow_le_pow_right (by decide) h)
  · intro h
    rcases Nat.eq_zero_or_pos A with h0 | h0
    · subst h0; decide
    · have h1 := bitsN_le (Nat.ne_of_gt h0)
      rcases Nat.lt_or_ge 32 (bitsN A) with h2 | h2
      · have := Nat.pow_le_pow_right (n := 2) (by decide) (show 32 ≤ bitsN A - 1 by omega)
        omega
      · exact h2
theorem norm_small {x y : Int} (h : gN x y < 4294967296) : bitsN x.natAbs ≤ 16 ∧ bitsN y.natAbs ≤ 16 := by
  rw [gN_nat] at h
  have key : ∀ a b : Nat, a * a + b * b < 4294967296 → a < 65536 := fun a b h => by
    rcases Nat.lt_or_ge a 65536 with h1 | h1
    · exact h1
    · have := Nat.mul_le_mul h1 h1; omega
  exact ⟨bits_16.2 (key _ y.natAbs (by omega)), bits_16.2 (key _ x.natAbs (by omega))⟩
section
variable {w : World} {va : Value} {x y z : Int} {l m : Nat}
set_option maxHeartbeats 4000000 in
set_option maxRecDepth 20000 in
theorem psmall_any (N : Nat) (ha : ZN w va (N : Int) l) (hl : l ≤ 100000000) (hN : N < 8589934592) :
    Calls Try.prog 46 #[va] w fun e w' => e = .returned (.int .u64 (N : Int)) ∧ Below w.heap.size w w' := by
  obtain ⟨n_0, o_0, k_0, c_0, rfl⟩ := ha.open2
  go_enter Try.func46, Try.ntmps46
  have hs := St.nil w
  refine wp_seq_k ?_
  intro K1 hK1
  refine rg [0, 1] ?_
  refine sq ?_
  refine .al hs ?_; clear hs; intro p_b1 w_1 hs n1 kb_b1
  refine sq ?_
  refine .mv ?_
  apply wpSq_end
  refine hK1 _ _ ?_
  refine wp_seq_k ?_
  intro K2 hK2
  refine rg [0, 1, 2, 3, 4, 5, 6] ?_
  refine sq ?_
  refine .r2 hs.g0.f2 ?_
  refine sq ?_
  intro K hK
  have k0_1 := kb n1
  replace ha := ha.k k0_1
  go_big_op
  go_fit (int_any ha (by omega) (by omega) (by omega))
  rintro e w_2 ⟨rfl, hb_2⟩
  replace hs := hs.bl hb_2
  refine hK _ _ rfl trivial ?_
  clear hK K
  refine sq ?_
  refine .mv ?_
  refine sq ?_
  refine .r0 ?_
  refine sq ?_
  refine .r0 ?_
  refine sq ?_
  refine .mv ?_
  refine sq ?_
  refine .mv ?_
  apply wpSq_end
  refine hK2 _ _ ?_
  refine wp_seq_k ?_
  intro K3 hK3
  refine rg [0, 1, 2] ?_
  refine sq ?_
  refine .mv ?_
  refine sq ?_
  refine .r0 ?_
  refine sq ?_
  refine .mv ?_
  apply wpSq_end
  refine hK3 _ _ ?_
  refine wp_ret ?_
  try dsimp only [Exit.then, Exit.inBlock]
  refine bodyPost_ret (v := (.int .u64 (N : Int))) (by simp [results, Try.results46, go_sem]) rfl ?_
  exact ⟨rfl, hs.b⟩
set_option maxHeartbeats 4000000 in
set_option maxRecDepth 20000 in
theorem normOf_any (N : Nat) (ha : PN w va x l y m) (hl : l ≤ 20000000) (hm : m ≤ 20000000) (hn : gN x y = (N : Int)) (hN : N < 4294967296) :
    Calls Try.prog 35 #[va] w fun e w' => e = .returned (.tuple #[.int .u64 (N : Int), .int .i64 0]) ∧ Below w.heap.size w w' := by
  have HN := hide hn
  have LN := hide (show (dig ((N : Int)).natAbs).length ≤ 2 by rw [Int.natAbs_natCast]; exact dig_length_le (Nat.lt_trans hN (by decide)))
  have hb1 := (norm_small (x := x) (y := y) (by omega)).1
  have hb2 := (norm_small (x := x) (y := y) (by omega)).2
  have hbN := bits_32.2 hN
  clear hn
  obtain ⟨n_0a, o_0a, k_0a, c_0a, n_0b, o_0b, k_0b, c_0b, rfl, ha1, ha2⟩ := ha
  go_enter Try.func35, Try.ntmps35
  have hs := St.nil w
  refine wp_seq_k ?_
  intro K1 hK1
  refine rg [0, 1, 2] ?_
  refine sq ?_
  refine .al hs ?_; clear hs; intro p_b1 w_1 hs n1 kb_b1
  refine sq ?_
  refine .mv ?_
  refine sq ?_
  refine .mv ?_
  apply wpSq_end
  refine hK1 _ _ ?_
  refine wp_seq_k ?_
  intro K2 hK2
  refine wp_seq_k ?_
  intro K3 hK3
  refine wp_region_f4 [(0, false), (1, false), (3, false), (4, false), (2, true), (5, true), (6, true), (7, false)] [] [] (fun _ => default) [99, 0, 99, 99, 0, 99, 99, 99] [] (.c hs.g0 .n) fn fun w_2 n2 => ?_
  replace hs := hs.bl n2
  refine f0 ?_
  refine f4 ?_
  refine f0 ?_
  refine f4 ?_
  refine fl fun w_3 n3 => ?_
  replace hs := hs.bl n3
  intro K hK
  have k0_3 := ((kb n1).b n2).b n3
  replace ha1 := ha1.k k0_3
  go_big_op
  go_fit (zbits_any ha1 (by omega) )
  rintro e w_4 ⟨rfl, hb_4⟩
  replace hs := hs.bl hb_4
  refine hK _ _ rfl ⟨hb_4, (And.intro hs.g0 trivial)⟩ ?_
  clear hK K
  refine fl fun w_5 n5 => ?_
  replace hs := hs.bl n5
  intro K hK
  have k0_5 := (k0_3.b hb_4).b n5
  replace ha2 := ha2.k k0_5
  go_big_op
  go_fit (zbits_any ha2 (by omega) )
  rintro e w_6 ⟨rfl, hb_6⟩
  replace hs := hs.bl hb_6
  refine hK _ _ rfl ⟨hb_6, (And.intro hs.g0 trivial)⟩ ?_
  clear hK K
  refine fl fun w_7 n7 => ?_
  replace hs := hs.bl n7
  refine .r0 ?_ (e := ⟨Below.refl _ _, (And.intro hs.g0 trivial)⟩)
  refine f0 ?_
  refine e0 hs ?_; clear hs; intro w_8 hs n8
  apply wpTail_end
  refine hK3 _ _ ?_
  refine cf ?_
  refine wp_skip ?_
  refine hK2 _ _ ?_
  refine wp_seq_k ?_
  intro K4 hK4
  refine rg [0, 1, 2, 3] ?_
  refine sq ?_
  refine .r4 hs.g0.f4 ?_
  refine sq ?_
  intro K hK
  have k3_8 := ((((kb hb_4).b n5).b hb_6).b n7).b n8
  replace ha1 := ha1.k k3_8
  have k5_8 := ((kb hb_6).b n7).b n8
  replace ha2 := ha2.k k5_8
  go_big_op
  go_fit (gNorm_any (PN.mk' ha1 ha2) (by omega) (by omega) )
  rintro e w_9 ⟨v_g, rfl, g, hb_9⟩
  replace hs := hs.bl hb_9
  obtain ⟨n_g, o_g, k_g, c_g, rfl⟩ := g.open2
  have Lg := hide (g.lenOf (zlen_add (zlen_mul (ha1.len) (ha1.len)) (zlen_mul (ha2.len) (ha2.len))))
  refine hK _ _ rfl trivial ?_
  clear hK K
  refine sq ?_
  refine .al hs ?_; clear hs; intro p_b2 w_10 hs n10 kb_b2
  refine sq ?_
  refine .s2 hs.g0 (fun _ => hs.u0 kb_b2) ?_; clear hs; intro w_11 hs hd11 ho11
  apply wpSq_end
  refine hK4 _ _ ?_
  refine wp_seq_k ?_
  intro K5 hK5
  refine wp_seq_k ?_
  intro K6 hK6
  refine rg [0, 1, 2] ?_
  refine sq ?_
  refine .r2 hs.g0.f2 ?_
  have k9_11 := (kb n10).o hd11 ho11
  replace g := g.k k9_11
  rw [HN.out] at g
  have Lg := hide (g.lenOf (LN.out))
  refine sq ?_
  intro K hK
  go_big_op
  go_fit (zbits_any (g.zn Lg.out) (by omega) )
  rintro e w_12 ⟨rfl, hb_12⟩
  replace hs := hs.bl hb_12
  rw [Int.natAbs_natCast]
  refine hK _ _ rfl trivial ?_
  clear hK K
  refine sq ?_
  refine .r0 ?_
  apply wpSq_end
  refine hK6 _ _ ?_
  refine cf ?_
  refine wp_skip ?_
  refine hK5 _ _ ?_
  refine wp_seq_k ?_
  intro K7 hK7
  refine rg [0, 1, 2, 3] ?_
  refine sq ?_
  refine .r2 hs.g0.f2 ?_
  refine sq ?_
  intro K hK
  have k11_12 := kb hb_12
  replace g := g.k k11_12
  go_big_op
  go_fit (psmall_any N (g.zn Lg.out) (by omega) (by omega))
  rintro e w_13 ⟨rfl, hb_13⟩
  replace hs := hs.bl hb_13
  refine hK _ _ rfl trivial ?_
  clear hK K
  refine sq ?_
  refine .mv ?_
  refine sq ?_
  refine .mv ?_
  apply wpSq_end
  refine hK7 _ _ ?_
  refine wp_ret ?_
  try dsimp only [Exit.then, Exit.inBlock]
  refine bodyPost_ret (v := (.tuple #[(.int .u64 (N : Int)), (.int .i64 0)])) (by simp [results, Try.results35, go_sem]) rfl ?_
  exact ⟨rfl, hs.b⟩
theorem prime_bits {n p : Nat} (h2 : 2 ≤ n) (hp : IsLf n p) (h : p ≠ n) : p * p ≤ n := by
  obtain ⟨q, hq⟩ := hp.1
  have h2 : 2 ≤ q := by
    rcases Nat.lt_or_ge q 2 with h1 | h1
    · have : q = 0 ∨ q = 1 := by omega
      rcases this with rfl | rfl
      · rw [Nat.mul_zero] at hq; omega
      · omega
    · exact h1
  have h3 := hp.2.2 q h2 ⟨p, by rw [hq, Nat.mul_comm]⟩
  rw [hq]; exact Nat.mul_le_mul_left p h3
theorem lf_ex' (n : Nat) : ∀ m k, k + m = n → 2 ≤ k → (∀ e, 2 ≤ e → e < k → ¬ e ∣ n) → ∃ p, IsLf n p := by
  intro m
  induction m with
  | zero => intro k hk h2 hl; exact ⟨k, lf_div h2 (by rw [← hk]; exact Nat.dvd_refl k) hl⟩
  | succ m ih =>
    intro k hk h2 hl
    by_cases hd : k ∣ n
    · exact ⟨k, lf_div h2 hd hl⟩
    · refine ih (k + 1) (by omega) (by omega) fun e h3 h4 h5 => ?_
      rcases Nat.lt_or_ge e k with h | h
      · exact hl e h3 h h5
      · obtain rfl : e = k := by omega
        exact hd h5
theorem lf_ex {n : Nat} (h : 2 ≤ n) : ∃ p, IsLf n p := lf_ex' n (n - 2) 2 (by omega) (by omega) (by intro e h1 h2; omega)
theorem IsLf.le {n p : Nat} (h2 : 2 ≤ n) (h : IsLf n p) : p ≤ n := Nat.le_of_dvd (by omega) h.1
theorem leastP {n p : Nat} (hp : IsLf n p) (h2 : 2 ≤ n) (hn : n < 4294967296) : Calls Try.prog 68 #[.int .u64 (n : Int)] w fun e w' => e = .returned (.int .u64 (p : Int)) ∧ w = w' :=
  (least_u64 n w h2 hn).mono fun e w' ⟨r, h1, h3, h4⟩ => ⟨by rw [h1, h3.uniq hp], h4⟩
theorem rleastP {n p : Nat} (hp : IsLf n p) (h2 : 2 ≤ n) (hn : n < 4294967296) : Calls Try.prog 22 #[.int .i64 (n : Int)] w fun e w' => e = .returned (.int .i64 (p : Int)) ∧ w = w' :=
  (least_i64 n w h2 hn).mono fun e w' ⟨r, h1, h3, h4⟩ => ⟨by rw [h1, h3.uniq hp], h4⟩
set_option maxHeartbeats 4000000 in
set_option maxRecDepth 20000 in
theorem inop_low (n : Nat) (h : n < 2) :
    Calls Try.prog 36 #[.int .u64 (n : Int)] w fun e w' => e = .returned (.bool false) ∧ Below w.heap.size w w' := by
  go_enter Try.func36, Try.ntmps36
  have hs := St.nil w
  refine wp_seq_k ?_
  intro K1 hK1
  refine rg [0] ?_
  refine sq ?_
  refine .mv ?_
  apply wpSq_end
  refine hK1 _ _ ?_
  refine wp_seq_k ?_
  intro K2 hK2
  refine wp_seq_k ?_
  intro K3 hK3
  refine rg [0, 1] ?_
  refine sq ?_
  refine .mv ?_
  refine sq ?_
  refine .r0 ?_
  apply wpSq_end
  refine hK3 _ _ ?_
  refine ct ?_
  refine wp_seq_k ?_
  intro K4 hK4
  refine rg [0] ?_
  refine sq ?_
  refine .mv ?_
  apply wpSq_end
  refine hK4 _ _ ?_
  refine wp_ret ?_
  try dsimp only [Exit.then, Exit.inBlock]
  refine bodyPost_ret (v := (.bool false)) (by simp [results, Try.results36, go_sem]) rfl ?_
  exact ⟨rfl, hs.b⟩
set_option maxHeartbeats 4000000 in
set_option maxRecDepth 20000 in
theorem int_beq (q n : Nat) : ((q : Int) == (n : Int)) = decide (q = n) := by rw [Bool.eq_iff_iff]; simp only [beq_iff_eq, decide_eq_true_eq]; omega
set_option maxHeartbeats 4000000 in
set_option maxRecDepth 20000 in
theorem inop_any {n p : Nat} (hp : IsLf n p) (h2 : 2 ≤ n) (hn : n < 4294967296) :
    Calls Try.prog 36 #[.int .u64 (n : Int)] w fun e w' => e = .returned (.bool (decide (p = n ∨ (p % 4 = 3 ∧ p * p = n)))) ∧ Below w.heap.size w w' := by
  have HP := hide hp
  have hpn := hp.le h2
  by_cases h : p = n
  · have HL := hide (leastP hp h2 hn (w := w))
    rw [decide_eq_true (.inl h)]
    clear hp
    have hb : ((p : Int) == (n : Int)) = true := by simp; omega
    go_enter Try.func36, Try.ntmps36
    have hs := St.nil w
    refine wp_seq_k ?_
    intro K1 hK1
    refine rg [0] ?_
    refine sq ?_
    refine .mv ?_
    apply wpSq_end
    refine hK1 _ _ ?_
    refine wp_seq_k ?_
    intro K2 hK2
    refine wp_seq_k ?_
    intro K3 hK3
    refine rg [0, 1] ?_
    refine sq ?_
    refine .mv ?_
    refine sq ?_
    refine .r0 ?_
    apply wpSq_end
    refine hK3 _ _ ?_
    refine cf ?_
    refine wp_skip ?_
    refine hK2 _ _ ?_
    refine wp_seq_k ?_
    intro K4 hK4
    refine rg [0, 1, 2] ?_
    refine sq ?_
    refine .mv ?_
    refine sq ?_
    intro K hK
    go_big_op
    go_fit (HL.out)
    rintro e w_1 ⟨rfl, e_1⟩
    (first | rw [e_1] | rw [← e_1]); clear e_1 w_1
    refine hK _ _ rfl trivial ?_
    clear hK K
    refine sq ?_
    refine .mv ?_
    apply wpSq_end
    refine hK4 _ _ ?_
    refine wp_seq_k ?_
    intro K5 hK5
    refine rg [0, 1, 2, 3, 4, 5, 6, 7, 8, 9, 10, 11, 12, 13, 14, 15] ?_
    refine sq ?_
    refine .mv ?_
    refine sq ?_
    refine .mv ?_
    refine sq ?_
    refine .r0 ?_
    refine sq ?_
    refine .mv ?_
    refine sk ?_
    refine sk ?_
    refine sk ?_
    refine sk ?_
    refine sk ?_
    refine sk ?_
    refine sk ?_
    refine sk ?_
    refine sk ?_
    refine sk ?_
    refine sq ?_
    refine .r0 ?_
    refine sq ?_
    refine .mv ?_
    apply wpSq_end
    refine hK5 _ _ ?_
    refine wp_ret ?_
    try dsimp only [Exit.then, Exit.inBlock]
    refine bodyPost_ret (v := (.bool true)) (by simp [results, Try.results36, go_sem]) rfl ?_
    exact ⟨rfl, hs.b⟩
  · have HQ := hide (prime_bits h2 hp h)
    have HL := hide (leastP hp h2 hn (w := w))
    have hb : ((p : Int) == (n : Int)) = false := by simp; omega
    have hm : Int.tmod (p : Int) 4 = ((p % 4 : Nat) : Int) := by rw [show ((4 : Int)) = ((4 : Nat) : Int) from rfl, Int.ofNat_tmod]
    clear hp
    by_cases h4 : p % 4 = 3
    · have hq : (p : Int) * (p : Int) = ((p * p : Nat) : Int) := by simp
      have HH := hide (show (p = n ∨ (p % 4 = 3 ∧ p * p = n)) ↔ p * p = n from ⟨fun hc => hc.elim (fun e => absurd e h) (fun e => e.2), fun e => .inr ⟨h4, e⟩⟩)
      rw [show decide (p = n ∨ (p % 4 = 3 ∧ p * p = n)) = decide (p * p = n) from decide_eq_decide.2 HH.out]
      clear h HH
      have hqn := HQ.out
      generalize p * p = q at *
      generalize p % 4 = r at *
      subst h4
      have heq := int_beq q n
      go_enter Try.func36, Try.ntmps36
      have hs := St.nil w
      refine wp_seq_k ?_
      intro K1 hK1
      refine rg [0] ?_
      refine sq ?_
      refine .mv ?_
      apply wpSq_end
      refine hK1 _ _ ?_
      refine wp_seq_k ?_
      intro K2 hK2
      refine wp_seq_k ?_
      intro K3 hK3
      refine rg [0, 1] ?_
      refine sq ?_
      refine .mv ?_
      refine sq ?_
      refine .r0 ?_
      apply wpSq_end
      refine hK3 _ _ ?_
      refine cf ?_
      refine wp_skip ?_
      refine hK2 _ _ ?_
      refine wp_seq_k ?_
      intro K4 hK4
      refine rg [0, 1, 2] ?_
      refine sq ?_
      refine .mv ?_
      refine sq ?_
      intro K hK
      go_big_op
      go_fit (HL.out)
      rintro e w_1 ⟨rfl, e_1⟩
      (first | rw [e_1] | rw [← e_1]); clear e_1 w_1
      refine hK _ _ rfl trivial ?_
      clear hK K
      refine sq ?_
      refine .mv ?_
      apply wpSq_end
      refine hK4 _ _ ?_
      refine wp_seq_k ?_
      intro K5 hK5
      refine rg [0, 1, 2, 3, 4, 5, 6, 7, 8, 9, 10, 11, 12, 13, 14, 15] ?_
      refine sq ?_
      refine .mv ?_
      refine sq ?_
      refine .mv ?_
      refine sq ?_
      refine .r0 ?_
      refine sq ?_
      refine .mv ?_
      refine sq ?_
      refine .mv ?_
      refine sq ?_
      refine .r0 ?_
      refine sq ?_
      refine .r0 ?_
      refine sq ?_
      refine .mv ?_
      refine sq ?_
      refine .mv ?_
      refine sq ?_
      refine .mv ?_
      refine sq ?_
      refine .r0 ?_
      refine sq ?_
      refine .mv ?_
      refine sq ?_
      refine .r0 ?_
      refine sq ?_
      refine .r0 ?_
      refine sq ?_
      refine .r0 ?_
      refine sq ?_
      refine .mv ?_
      apply wpSq_end
      refine hK5 _ _ ?_
      refine wp_ret ?_
      try dsimp only [Exit.then, Exit.inBlock]
      refine bodyPost_ret (v := (.bool (decide (q = n)))) (by simp [results, Try.results36, go_sem]) rfl ?_
      exact ⟨rfl, hs.b⟩
    · rw [decide_eq_false (fun hc => hc.elim h (fun e => h4 e.1))]
      clear h
      have h4b : (((p % 4 : Nat) : Int) == 3) = false := by simp; omega
      generalize p % 4 = r at *
      go_enter Try.func36, Try.ntmps36
      have hs := St.nil w
      refine wp_seq_k ?_
      intro K1 hK1
      refine rg [0] ?_
      refine sq ?_
      refine .mv ?_
      apply wpSq_end
      refine hK1 _ _ ?_
      refine wp_seq_k ?_
      intro K2 hK2
      refine wp_seq_k ?_
      intro K3 hK3
      refine rg [0, 1] ?_
      refine sq ?_
      refine .mv ?_
      refine sq ?_
      refine .r0 ?_
      apply wpSq_end
      refine hK3 _ _ ?_
      refine cf ?_
      refine wp_skip ?_
      refine hK2 _ _ ?_
      refine wp_seq_k ?_
      intro K4 hK4
      refine rg [0, 1, 2] ?_
      refine sq ?_
      refine .mv ?_
      refine sq ?_
      intro K hK
      go_big_op
      go_fit (HL.out)
      rintro e w_1 ⟨rfl, e_1⟩
      (first | rw [e_1] | rw [← e_1]); clear e_1 w_1
      refine hK _ _ rfl trivial ?_
      clear hK K
      refine sq ?_
      refine .mv ?_
      apply wpSq_end
      refine hK4 _ _ ?_
      refine wp_seq_k ?_
      intro K5 hK5
      refine rg [0, 1, 2, 3, 4, 5, 6, 7, 8, 9, 10, 11, 12, 13, 14, 15] ?_
      refine sq ?_
      refine .mv ?_
      refine sq ?_
      refine .mv ?_
      refine sq ?_
      refine .r0 ?_
      refine sq ?_
      refine .mv ?_
      refine sq ?_
      refine .mv ?_
      refine sq ?_
      refine .r0 ?_
      refine sq ?_
      refine .r0 ?_
      refine sq ?_
      refine .mv ?_
      refine sk ?_
      refine sk ?_
      refine sk ?_
      refine sk ?_
      refine sk ?_
      refine sq ?_
      refine .r0 ?_
      refine sq ?_
      refine .r0 ?_
      refine sq ?_
      refine .mv ?_
      apply wpSq_end
      refine hK5 _ _ ?_
      refine wp_ret ?_
      try dsimp only [Exit.then, Exit.inBlock]
      refine bodyPost_ret (v := (.bool false)) (by simp [results, Try.results36, go_sem]) rfl ?_
      exact ⟨rfl, hs.b⟩
end
end Go.Proofs.Ytbiiglcfdphmaaa

