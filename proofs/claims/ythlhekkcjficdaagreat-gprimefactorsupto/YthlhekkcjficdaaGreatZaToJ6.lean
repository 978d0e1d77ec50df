/- The law's awake. -/
import Derived.Test.YthlhekkcjficdaaGreatWkToG2
import Derived.Test.YthlhekkcjficdaaGreatY5ToD1
import Derived.Test.YthlhekkcjficdaaGreatDrToJ2
import Derived.Test.YthlhekkcjficdaaGreatG3ToR10
import Derived.Test.YthlhekkcjficdaaGreatR2aToR6
import Derived.Test.YthlhekkcjficdaaGreatT1ToG7

namespace Go.Proofs.YthlhekkcjficdaaGreat
open Go Go.RowKit Dig
set_option linter.unusedVariables false
end Go.Proofs.YthlhekkcjficdaaGreat


/- The reference's Small of a whole number; gprime.small. -/
namespace Go.Proofs.YthlhekkcjficdaaGreat
open Go Go.RowKit Dig
set_option linter.unusedVariables false

theorem or_hi64 (r y : Nat) (hr : r < 1073741824) (hy : y < 4294967296) : bits .or .i64 ((r : Int) * 4294967296) (y : Int) = ((r * 4294967296 + y : Nat) : Int) := by
  have e : r * 4294967296 ||| y = r * 4294967296 + y := by
    have := Nat.shiftLeft_add_eq_or_of_lt (b := y) (i := 32) (by omega) r
    rw [Nat.shiftLeft_eq] at this
    exact this.symm
  have h1 : ((r : Int) * 4294967296 % ((2 ^ 64 : Nat) : Int)).toNat = r * 4294967296 := by omega
  have h2 : ((y : Int) % ((2 ^ 64 : Nat) : Int)).toNat = y := by omega
  show IntKind.i64.wrap ((BitVec.ofInt 64 ((r : Int) * 4294967296) ||| BitVec.ofInt 64 (y : Int)).toNat : Nat) = _
  rw [BitVec.toNat_or, BitVec.toNat_ofInt, BitVec.toNat_ofInt, h1, h2, e, IntKind.wrap_i64]
  omega
/-- What a number is without its k lowest digits. -/
def dtop (z : Int) (k : Nat) : Nat := z.natAbs / 2 ^ (32 * k)
/-- A canonical number's digits, from above. -/
theorem ZC.digit {w : World} {n : Bool} {o : Option Addr} {k c : Nat} {z : Int} (h : ZC w (.agg #[.bool n, .slice o k c]) z) :
    n = decide (z < 0) ∧ Rd w (.slice o k c) (dig z.natAbs) ∧ (dig z.natAbs).length = k ∧ ∀ i, i < k → ∃ b off d, o = some ⟨b, off, none⟩ ∧ w.cell? ⟨b, off + i, none⟩ = some (.int .u32 ((d : Nat) : Int)) ∧ d < 4294967296 ∧ dtop z (i + 1) * 4294967296 + d = dtop z i := by
  obtain ⟨s, hv, hr⟩ := h
  simp only [Value.agg.injEq, Array.mk.injEq, List.cons.injEq, Value.bool.injEq, and_true] at hv
  obtain ⟨rfl, rfl⟩ := hv
  refine ⟨rfl, hr, ?_, fun i hi => ?_⟩
  · obtain ⟨oa, cap, hs, _⟩ := hr
    simp only [Value.slice.injEq] at hs
    exact hs.2.1.symm
  · obtain ⟨oa, cap, hs, hc, ok, hx⟩ := hr
    simp only [Value.slice.injEq] at hs
    obtain ⟨rfl, rfl, rfl⟩ := hs
    obtain ⟨b, off, rfl, hcell⟩ := hx.resolve_left (by intro h; rw [h] at hi; simp at hi)
    refine ⟨b, off, _, rfl, hcell _ hi, ok.get _, ?_⟩
    have h1 := digit_div ok i
    rw [val_dig, pw_eq] at h1
    unfold dtop
    rw [h1, show 32 * (i + 1) = 32 * i + 32 by omega, Nat.pow_add, ← Nat.div_div_eq_div_mul]
    omega
theorem small_top {z : Int} {k : Nat} (h : z.natAbs < 4611686018427387904) (hk : (dig z.natAbs).length = k) : dtop z k = 0 ∧ k ≤ 2 := by
  unfold dtop
  generalize z.natAbs = A at *
  have h1 := lt_pw_dig A
  rw [hk, pw_eq] at h1
  refine ⟨Nat.div_eq_of_lt h1, ?_⟩
  rw [← hk]
  exact dig_length_le (Nat.lt_trans h (by decide))
theorem small_mid {z : Int} {i : Nat} (h : z.natAbs < 4611686018427387904) : dtop z (i + 1) < 1073741824 := by
  unfold dtop
  generalize z.natAbs = A at *
  have h1 : A / 2 ^ 32 < 1073741824 := by omega
  rw [show 32 * (i + 1) = 32 + 32 * i by omega, Nat.pow_add, ← Nat.div_div_eq_div_mul]
  exact Nat.lt_of_le_of_lt (Nat.div_le_self _ _) h1
theorem bits_62 {A : Nat} : bitsN A ≤ 62 ↔ A < 4611686018427387904 := by
  constructor
  · intro h
    exact Nat.lt_of_lt_of_le (bitsN_lt A) (Nat.pow_le_pow_right (by decide) h)
  · intro h
    rcases Nat.eq_zero_or_pos A with h0 | h0
    · subst h0; decide
    · have h1 := bitsN_le (Nat.ne_of_gt h0)
      rcases Nat.lt_or_ge 62 (bitsN A) with h2 | h2
      · have := Nat.pow_le_pow_right (n := 2) (by decide) (show 62 ≤ bitsN A - 1 by omega)
        omega
      · exact h2
theorem rbits_rd6 {w : World} {va : Value} {xs : List Nat} (hx : Rd w va xs) (hxl : xs.length ≤ 100000000000) :
    Calls Tryz.prog 50 #[va] w fun e w' => e = .returned (.int .i64 ((bitsN (val xs) : Nat) : Int)) ∧ Below w.heap.size w w' := by
  obtain ⟨oa, ca, rfl, hca, okx, hcx⟩ := hx
  exact rbits_any oa ca xs w (by omega) hca okx hcx
section
variable {w : World} {va : Value} {z : Int} {l : Nat}
set_option maxHeartbeats 4000000 in
set_option maxRecDepth 20000 in
theorem rsmall_big (ha : ZN w va z l) (hl : l ≤ 100000000) (hz : 4611686018427387904 ≤ z.natAbs) :
    Calls Tryz.prog 22 #[va] w fun e w' => e = .returned (.tuple #[.int .i64 0, .bool false]) ∧ Below w.heap.size w w' := by
  have HB := hide (show (62 < ((bitsN z.natAbs : Nat) : Int)) by have := mt bits_62.1 (Nat.not_lt.2 hz); omega)
  have LZ := hide ha.len
  clear hz
  obtain ⟨n_0, o_0, k_0, c_0, rfl⟩ := ha.open2
  go_enter Tryz.func22, Tryz.ntmps22
  have hs := St.nil w
  refine wp_seq_k ?_
  intro K1 hK1
  refine rg [0, 1, 2] ?_
  refine sq ?_
  refine .al hs ?_; clear hs; intro p_b1 w_1 hs n1 kb_b1
  refine sq ?_
  refine .mv ?_
  refine sq ?_
  refine .mv ?_
  apply wpSq_end
  refine hK1 _ _ ?_
  refine wp_seq_k ?_
  intro K2 hK2
  refine rg [0, 1, 2, 3] ?_
  refine sq ?_
  refine .r2 hs.g0.f2 ?_
  refine sq ?_
  intro K hK
  have k0_1 := kb n1
  replace ha := ha.k k0_1
  go_big_op
  go_fit (rnorm_any ha (by omega) )
  rintro e w_2 ⟨v_e, rfl, e, hb_2⟩
  replace hs := hs.bl hb_2
  replace e := e.rd
  obtain ⟨n_e, o_e, k_e, c_e, rfl⟩ := e.open2
  have Le := hide (e.lenOf ((ha.len)))
  refine hK _ _ rfl trivial ?_
  clear hK K
  refine sq ?_
  refine .al hs ?_; clear hs; intro p_b2 w_3 hs n3 kb_b2
  refine sq ?_
  refine .s2 hs.g0 (fun _ => hs.u0 kb_b2) ?_; clear hs; intro w_4 hs hd4 ho4
  apply wpSq_end
  refine hK2 _ _ ?_
  refine wp_seq_k ?_
  intro K3 hK3
  refine wp_seq_k ?_
  intro K4 hK4
  refine rg [0, 1, 2, 3] ?_
  refine sq ?_
  refine .r0 ?_
  refine sq ?_
  refine .r2 hs.g0.f2 ?_
  refine sq ?_
  intro K hK
  have k2_4 := (kb n3).o hd4 ho4
  replace e := e.k k2_4
  go_big_op
  go_fit (rbits_rd6 e.digit.2.1 (by have := LZ.out; omega))
  rintro e w_5 ⟨rfl, hb_5⟩
  replace hs := hs.bl hb_5
  rw [val_dig]
  refine hK _ _ rfl trivial ?_
  clear hK K
  refine sq ?_
  refine .r0 ?_
  apply wpSq_end
  refine hK4 _ _ ?_
  refine wp_cond_true (congrArg Value.bool (show _ = true from (by exact decide_eq_true HB.out))) ?_
  refine wp_seq_k ?_
  intro K5 hK5
  refine rg [0, 1] ?_
  refine sq ?_
  refine .mv ?_
  refine sq ?_
  refine .mv ?_
  apply wpSq_end
  refine hK5 _ _ ?_
  refine wp_ret ?_
  try dsimp only [Exit.then, Exit.inBlock]
  refine bodyPost_ret (v := (.tuple #[(.int .i64 0), (.bool false)])) (by simp [results, Tryz.results22, go_sem]) rfl ?_
  exact ⟨rfl, hs.b⟩
set_option maxHeartbeats 4000000 in
set_option maxRecDepth 20000 in
theorem rsmall_any (ha : ZN w va z l) (hl : l ≤ 100000000) (hz : z.natAbs < 4611686018427387904) :
    Calls Tryz.prog 22 #[va] w fun e w' => e = .returned (.tuple #[.int .i64 z, .bool true]) ∧ Below w.heap.size w w' := by
  have HB := hide (show ¬ (62 < ((bitsN z.natAbs : Nat) : Int)) by have := bits_62.2 hz; omega)
  have HZ := hide hz
  have LZ := hide ha.len
  clear hz
  obtain ⟨n_0, o_0, k_0, c_0, rfl⟩ := ha.open2
  go_enter Tryz.func22, Tryz.ntmps22
  have hs := St.nil w
  refine wp_seq_k ?_
  intro K1 hK1
  refine rg [0, 1, 2] ?_
  refine sq ?_
  refine .al hs ?_; clear hs; intro p_b1 w_1 hs n1 kb_b1
  refine sq ?_
  refine .mv ?_
  refine sq ?_
  refine .mv ?_
  apply wpSq_end
  refine hK1 _ _ ?_
  refine wp_seq_k ?_
  intro K2 hK2
  refine rg [0, 1, 2, 3] ?_
  refine sq ?_
  refine .r2 hs.g0.f2 ?_
  refine sq ?_
  intro K hK
  have k0_1 := kb n1
  replace ha := ha.k k0_1
  go_big_op
  go_fit (rnorm_any ha (by omega) )
  rintro e w_2 ⟨v_e, rfl, e, hb_2⟩
  replace hs := hs.bl hb_2
  replace e := e.rd
  obtain ⟨n_e, o_e, k_e, c_e, rfl⟩ := e.open2
  have Le := hide (e.lenOf ((ha.len)))
  refine hK _ _ rfl trivial ?_
  clear hK K
  refine sq ?_
  refine .al hs ?_; clear hs; intro p_b2 w_3 hs n3 kb_b2
  refine sq ?_
  refine .s2 hs.g0 (fun _ => hs.u0 kb_b2) ?_; clear hs; intro w_4 hs hd4 ho4
  apply wpSq_end
  refine hK2 _ _ ?_
  refine wp_seq_k ?_
  intro K3 hK3
  refine wp_seq_k ?_
  intro K4 hK4
  refine rg [0, 1, 2, 3] ?_
  refine sq ?_
  refine .r0 ?_
  refine sq ?_
  refine .r2 hs.g0.f2 ?_
  refine sq ?_
  intro K hK
  have k2_4 := (kb n3).o hd4 ho4
  replace e := e.k k2_4
  go_big_op
  go_fit (rbits_rd6 e.digit.2.1 (by have := LZ.out; omega))
  rintro e w_5 ⟨rfl, hb_5⟩
  replace hs := hs.bl hb_5
  rw [val_dig]
  refine hK _ _ rfl trivial ?_
  clear hK K
  refine sq ?_
  refine .r0 ?_
  apply wpSq_end
  refine hK4 _ _ ?_
  have k4_5 := kb hb_5
  replace e := e.k k4_5
  have HK := hide (small_top HZ.out e.digit.2.2.1)
  have hke := HK.out.2
  refine wp_cond_false (congrArg Value.bool (show _ = false from (by exact decide_eq_false HB.out))) ?_
  refine wp_skip ?_
  refine hK3 _ _ ?_
  refine wp_seq_k ?_
  intro K5 hK5
  refine rg [0] ?_
  refine sq ?_
  refine .mv ?_
  apply wpSq_end
  refine hK5 _ _ ?_
  refine wp_seq_k ?_
  intro K6 hK6
  refine wp_seq_k ?_
  intro K7 hK7
  refine rg [0, 1, 2, 3, 4] ?_
  refine sq ?_
  refine .r0 ?_
  refine sq ?_
  refine .r2 hs.g0.f2 ?_
  refine sq ?_
  refine .r0 ?_
  refine sq ?_
  refine .r0 ?_
  refine sq ?_
  refine .mv ?_
  apply wpSq_end
  refine hK7 _ _ ?_
  refine wp_block ?_
  have x_b2 := hs.g0
  have hb := hs.b
  have hd6 := hs.2.1
  go_loopg [5, 6] k_e (fun k s5 s6 wr => s5 = .int .i64 ((dtop z k : Nat) : Int) ∧ s6 = .int .i64 ((k : Int) - 1) ∧ k ≤ k_e ∧ Bs wr p_b2 #[.bool n_e, .slice o_e k_e c_e] 24 ∧ ZC wr (.agg #[.bool n_e, .slice o_e k_e c_e]) z ∧ Below w.heap.size w wr)
  case atStart => exact ⟨by rw [HK.out.1]; rfl, rfl, Nat.le_refl _, x_b2, e, hb⟩
  case round =>
  clear e ha x_b2 hb hs
  obtain ⟨rfl, rfl, hk, x_b2, e, hb⟩ := hrel
  cases gk with
  | zero =>
    have e0 : dtop z 0 = z.natAbs := by unfold dtop; rw [Nat.mul_zero, Nat.pow_zero, Nat.div_one]
    rw [e0]
    have hsg := hide e.digit.1
    clear e0
    by_cases h0 : z < 0
    · have hA : ((z.natAbs : Nat) : Int) = -z := by omega
      have HZ' := HZ.out
      have HS := hide (hsg.out.trans (decide_eq_true h0))
      rw [hA]
      have hs := St.re (.c x_b2 .n) hd6 (.cons_cons _ (.cons _ .slnil)) hb
      refine wp_seq_k ?_
      intro K8 hK8
      refine wp_seq_k ?_
      intro K9 hK9
      refine rg [0, 1] ?_
      refine sq ?_
      refine .mv ?_
      refine sq ?_
      refine .r0 ?_
      apply wpSq_end
      refine hK9 _ _ ?_
      refine cf ?_
      refine wp_exit ?_
      refine hK6 _ _ ?_
      refine wp_seq_k ?_
      intro K10 hK10
      refine wp_seq_k ?_
      intro K11 hK11
      refine rg [0, 1] ?_
      refine sq ?_
      refine .r0 ?_
      refine sq ?_
      refine .r2 hs.g0.f2 ?_
      apply wpSq_end
      refine hK11 _ _ ?_
      refine wp_cond_true (congrArg Value.bool (show _ = true from (by exact HS.out))) ?_
      refine wp_seq_k ?_
      intro K12 hK12
      refine rg [0, 1, 2, 3] ?_
      refine sq ?_
      refine .mv ?_
      refine sq ?_
      refine .r0 ?_
      refine sq ?_
      refine .mv ?_
      refine sq ?_
      refine .mv ?_
      apply wpSq_end
      refine hK12 _ _ ?_
      refine wp_ret ?_
      try dsimp only [Exit.then, Exit.inBlock]
      refine bodyPost_ret (v := (.tuple #[(.int .i64 z), (.bool true)])) (by simp [results, Tryz.results22, go_sem]) rfl ?_
      exact ⟨rfl, hs.b⟩
    · have hA : ((z.natAbs : Nat) : Int) = z := by omega
      have HS := hide (hsg.out.trans (decide_eq_false h0))
      rw [hA]
      have hs := St.re (.c x_b2 .n) hd6 (.cons_cons _ (.cons _ .slnil)) hb
      refine wp_seq_k ?_
      intro K8 hK8
      refine wp_seq_k ?_
      intro K9 hK9
      refine rg [0, 1] ?_
      refine sq ?_
      refine .mv ?_
      refine sq ?_
      refine .r0 ?_
      apply wpSq_end
      refine hK9 _ _ ?_
      refine cf ?_
      refine wp_exit ?_
      refine hK6 _ _ ?_
      refine wp_seq_k ?_
      intro K10 hK10
      refine wp_seq_k ?_
      intro K11 hK11
      refine rg [0, 1] ?_
      refine sq ?_
      refine .r0 ?_
      refine sq ?_
      refine .r2 hs.g0.f2 ?_
      apply wpSq_end
      refine hK11 _ _ ?_
      refine wp_cond_false (congrArg Value.bool (show _ = false from (by exact HS.out))) ?_
      refine wp_skip ?_
      refine hK10 _ _ ?_
      refine wp_seq_k ?_
      intro K12 hK12
      refine rg [0, 1, 2] ?_
      refine sq ?_
      refine .mv ?_
      refine sq ?_
      refine .mv ?_
      refine sq ?_
      refine .mv ?_
      apply wpSq_end
      refine hK12 _ _ ?_
      refine wp_ret ?_
      try dsimp only [Exit.then, Exit.inBlock]
      refine bodyPost_ret (v := (.tuple #[(.int .i64 z), (.bool true)])) (by simp [results, Tryz.results22, go_sem]) rfl ?_
      exact ⟨rfl, hs.b⟩
  | succ i =>
    have e1 : ((i + 1 : Nat) : Int) - 1 = (i : Int) := by omega
    rw [e1]
    have HM := hide (small_mid (i := i) HZ.out)
    have hs := St.re (.c x_b2 .n) hd6 (.cons_cons _ (.cons _ .slnil)) hb
    refine wp_seq_k ?_
    intro K8 hK8
    refine wp_seq_k ?_
    intro K9 hK9
    refine rg [0, 1] ?_
    refine sq ?_
    refine .mv ?_
    refine sq ?_
    refine .r0 ?_
    apply wpSq_end
    refine hK9 _ _ ?_
    refine ct ?_
    refine wp_skip ?_
    refine hK8 _ _ ?_
    refine wp_seq_k ?_
    intro K10 hK10
    refine wp_block ?_
    refine rg [0, 1, 2, 3, 4, 5, 6, 7, 8, 9] ?_
    obtain ⟨bb, boff, dd, hd1, hd2, hd3, hd4⟩ := e.digit.2.2.2 i (by omega)
    have hsh := or_hi64 _ dd HM.out hd3
    rw [hd4] at hsh; clear hd4
    have hm := HM.out
    refine sq ?_
    refine .mv ?_
    refine sq ?_
    refine .r0 ?_
    refine sq ?_
    refine .r0 ?_
    refine sq ?_
    refine .r2 hs.g0.f2 ?_
    refine sq ?_
    refine .mv ?_
    refine sq ?_
    refine .r0 ?_
    refine sq ?_
    refine .r0 ?_
    refine sq ?_
    refine .r0 ?_
    refine sq ?_
    refine .r0 ?_
    refine sq ?_
    refine .mv ?_
    apply wpSq_end
    refine hK10 _ _ ?_
    refine rg [0, 1, 2] ?_
    refine sq ?_
    refine .mv ?_
    refine sq ?_
    refine .r0 ?_
    refine sq ?_
    refine .mv ?_
    apply wpSq_end
    refine ‹∀ (a' : Act) (w' : World), Handed _ _ a' w' → _› _ _ ?_
    go_roundg i
    case rel => exact ⟨by rfl, by rfl, by omega, x_b2, e, hb⟩
    case measure => omega
end
end Go.Proofs.YthlhekkcjficdaaGreat


/- gint: Canon; the reference's. -/
namespace Go.Proofs.YthlhekkcjficdaaGreat
open Go Go.RowKit Dig
set_option linter.unusedVariables false

section
variable {w : World} {va vb : Value} {x y u v : Int} {l m k n : Nat}
set_option maxHeartbeats 4000000 in
set_option maxRecDepth 20000 in
theorem quarters_mm (w : World) :
    Calls Tryz.prog 45 #[.int .i64 (-1), .int .i64 (-1)] w fun e w' => e = .returned (.int .i64 2) ∧ Below w.heap.size w w' := by
  go_enter Tryz.func45, Tryz.ntmps45
  have hs := St.nil w
  refine wp_seq_k ?_
  intro K1 hK1
  refine rg [0] ?_
  refine sq ?_
  refine .mv ?_
  apply wpSq_end
  refine hK1 _ _ ?_
  refine wp_seq_k ?_
  intro K2 hK2
  refine wp_block ?_
  refine wp_seq_k ?_
  intro K3 hK3
  refine rg [0, 1, 2, 3, 4, 5, 6] ?_
  refine sq ?_
  refine .mv ?_
  refine sq ?_
  refine .r0 ?_
  refine sq ?_
  refine .mv ?_
  refine sq ?_
  refine .mv ?_
  refine sq ?_
  refine .r0 ?_
  refine sq ?_
  refine .r0 ?_
  refine sq ?_
  refine .mv ?_
  apply wpSq_end
  refine hK3 _ _ ?_
  refine cf ?_
  refine wp_seq_k ?_
  intro K4 hK4
  refine rg [0, 1, 2, 3, 4, 5, 6] ?_
  refine sq ?_
  refine .mv ?_
  refine sq ?_
  refine .r0 ?_
  refine sq ?_
  refine .mv ?_
  refine sq ?_
  refine .mv ?_
  refine sq ?_
  refine .r0 ?_
  refine sq ?_
  refine .r0 ?_
  refine sq ?_
  refine .mv ?_
  apply wpSq_end
  refine hK4 _ _ ?_
  refine ct ?_
  refine wp_seq_k ?_
  intro K5 hK5
  refine rg [0] ?_
  refine sq ?_
  refine .mv ?_
  apply wpSq_end
  refine hK5 _ _ ?_
  refine wp_ret ?_
  try dsimp only [Exit.then, Exit.inBlock]
  refine bodyPost_ret (v := (.int .i64 2)) (by simp [results, Tryz.results45, go_sem]) rfl ?_
  have hb := hs.b
  exact ⟨rfl, hb⟩
set_option maxHeartbeats 4000000 in
set_option maxRecDepth 20000 in
theorem quarters_mz (w : World) :
    Calls Tryz.prog 45 #[.int .i64 (-1), .int .i64 0] w fun e w' => e = .returned (.int .i64 2) ∧ Below w.heap.size w w' := by
  go_enter Tryz.func45, Tryz.ntmps45
  have hs := St.nil w
  refine wp_seq_k ?_
  intro K1 hK1
  refine rg [0] ?_
  refine sq ?_
  refine .mv ?_
  apply wpSq_end
  refine hK1 _ _ ?_
  refine wp_seq_k ?_
  intro K2 hK2
  refine wp_block ?_
  refine wp_seq_k ?_
  intro K3 hK3
  refine rg [0, 1, 2, 3, 4, 5, 6] ?_
  refine sq ?_
  refine .mv ?_
  refine sq ?_
  refine .r0 ?_
  refine sq ?_
  refine .mv ?_
  refine sk ?_
  refine sk ?_
  refine sq ?_
  refine .r0 ?_
  refine sq ?_
  refine .mv ?_
  apply wpSq_end
  refine hK3 _ _ ?_
  refine cf ?_
  refine wp_seq_k ?_
  intro K4 hK4
  refine rg [0, 1, 2, 3, 4, 5, 6] ?_
  refine sq ?_
  refine .mv ?_
  refine sq ?_
  refine .r0 ?_
  refine sq ?_
  refine .mv ?_
  refine sq ?_
  refine .mv ?_
  refine sq ?_
  refine .r0 ?_
  refine sq ?_
  refine .r0 ?_
  refine sq ?_
  refine .mv ?_
  apply wpSq_end
  refine hK4 _ _ ?_
  refine ct ?_
  refine wp_seq_k ?_
  intro K5 hK5
  refine rg [0] ?_
  refine sq ?_
  refine .mv ?_
  apply wpSq_end
  refine hK5 _ _ ?_
  refine wp_ret ?_
  try dsimp only [Exit.then, Exit.inBlock]
  refine bodyPost_ret (v := (.int .i64 2)) (by simp [results, Tryz.results45, go_sem]) rfl ?_
  have hb := hs.b
  exact ⟨rfl, hb⟩
set_option maxHeartbeats 4000000 in
set_option maxRecDepth 20000 in
theorem quarters_mp (w : World) :
    Calls Tryz.prog 45 #[.int .i64 (-1), .int .i64 1] w fun e w' => e = .returned (.int .i64 3) ∧ Below w.heap.size w w' := by
  go_enter Tryz.func45, Tryz.ntmps45
  have hs := St.nil w
  refine wp_seq_k ?_
  intro K1 hK1
  refine rg [0] ?_
  refine sq ?_
  refine .mv ?_
  apply wpSq_end
  refine hK1 _ _ ?_
  refine wp_seq_k ?_
  intro K2 hK2
  refine wp_block ?_
  refine wp_seq_k ?_
  intro K3 hK3
  refine rg [0, 1, 2, 3, 4, 5, 6] ?_
  refine sq ?_
  refine .mv ?_
  refine sq ?_
  refine .r0 ?_
  refine sq ?_
  refine .mv ?_
  refine sk ?_
  refine sk ?_
  refine sq ?_
  refine .r0 ?_
  refine sq ?_
  refine .mv ?_
  apply wpSq_end
  refine hK3 _ _ ?_
  refine cf ?_
  refine wp_seq_k ?_
  intro K4 hK4
  refine rg [0, 1, 2, 3, 4, 5, 6] ?_
  refine sq ?_
  refine .mv ?_
  refine sq ?_
  refine .r0 ?_
  refine sq ?_
  refine .mv ?_
  refine sq ?_
  refine .mv ?_
  refine sq ?_
  refine .r0 ?_
  refine sq ?_
  refine .r0 ?_
  refine sq ?_
  refine .mv ?_
  apply wpSq_end
  refine hK4 _ _ ?_
  refine cf ?_
  refine wp_seq_k ?_
  intro K5 hK5
  refine rg [0, 1, 2, 3, 4, 5, 6] ?_
  refine sq ?_
  refine .mv ?_
  refine sq ?_
  refine .r0 ?_
  refine sq ?_
  refine .mv ?_
  refine sq ?_
  refine .mv ?_
  refine sq ?_
  refine .r0 ?_
  refine sq ?_
  refine .r0 ?_
  refine sq ?_
  refine .mv ?_
  apply wpSq_end
  refine hK5 _ _ ?_
  refine ct ?_
  refine wp_seq_k ?_
  intro K6 hK6
  refine rg [0] ?_
  refine sq ?_
  refine .mv ?_
  apply wpSq_end
  refine hK6 _ _ ?_
  refine wp_ret ?_
  try dsimp only [Exit.then, Exit.inBlock]
  refine bodyPost_ret (v := (.int .i64 3)) (by simp [results, Tryz.results45, go_sem]) rfl ?_
  have hb := hs.b
  exact ⟨rfl, hb⟩
set_option maxHeartbeats 4000000 in
set_option maxRecDepth 20000 in
theorem quarters_zm (w : World) :
    Calls Tryz.prog 45 #[.int .i64 0, .int .i64 (-1)] w fun e w' => e = .returned (.int .i64 1) ∧ Below w.heap.size w w' := by
  go_enter Tryz.func45, Tryz.ntmps45
  have hs := St.nil w
  refine wp_seq_k ?_
  intro K1 hK1
  refine rg [0] ?_
  refine sq ?_
  refine .mv ?_
  apply wpSq_end
  refine hK1 _ _ ?_
  refine wp_seq_k ?_
  intro K2 hK2
  refine wp_block ?_
  refine wp_seq_k ?_
  intro K3 hK3
  refine rg [0, 1, 2, 3, 4, 5, 6] ?_
  refine sq ?_
  refine .mv ?_
  refine sq ?_
  refine .r0 ?_
  refine sq ?_
  refine .mv ?_
  refine sq ?_
  refine .mv ?_
  refine sq ?_
  refine .r0 ?_
  refine sq ?_
  refine .r0 ?_
  refine sq ?_
  refine .mv ?_
  apply wpSq_end
  refine hK3 _ _ ?_
  refine ct ?_
  refine wp_seq_k ?_
  intro K4 hK4
  refine rg [0] ?_
  refine sq ?_
  refine .mv ?_
  apply wpSq_end
  refine hK4 _ _ ?_
  refine wp_ret ?_
  try dsimp only [Exit.then, Exit.inBlock]
  refine bodyPost_ret (v := (.int .i64 1)) (by simp [results, Tryz.results45, go_sem]) rfl ?_
  have hb := hs.b
  exact ⟨rfl, hb⟩
set_option maxHeartbeats 4000000 in
set_option maxRecDepth 20000 in
theorem quarters_zz (w : World) :
    Calls Tryz.prog 45 #[.int .i64 0, .int .i64 0] w fun e w' => e = .returned (.int .i64 0) ∧ Below w.heap.size w w' := by
  go_enter Tryz.func45, Tryz.ntmps45
  have hs := St.nil w
  refine wp_seq_k ?_
  intro K1 hK1
  refine rg [0] ?_
  refine sq ?_
  refine .mv ?_
  apply wpSq_end
  refine hK1 _ _ ?_
  refine wp_seq_k ?_
  intro K2 hK2
  refine wp_block ?_
  refine wp_seq_k ?_
  intro K3 hK3
  refine rg [0, 1, 2, 3, 4, 5, 6] ?_
  refine sq ?_
  refine .mv ?_
  refine sq ?_
  refine .r0 ?_
  refine sq ?_
  refine .mv ?_
  refine sk ?_
  refine sk ?_
  refine sq ?_
  refine .r0 ?_
  refine sq ?_
  refine .mv ?_
  apply wpSq_end
  refine hK3 _ _ ?_
  refine cf ?_
  refine wp_seq_k ?_
  intro K4 hK4
  refine rg [0, 1, 2, 3, 4, 5, 6] ?_
  refine sq ?_
  refine .mv ?_
  refine sq ?_
  refine .r0 ?_
  refine sq ?_
  refine .mv ?_
  refine sk ?_
  refine sk ?_
  refine sq ?_
  refine .r0 ?_
  refine sq ?_
  refine .mv ?_
  apply wpSq_end
  refine hK4 _ _ ?_
  refine cf ?_
  refine wp_seq_k ?_
  intro K5 hK5
  refine rg [0, 1, 2, 3, 4, 5, 6] ?_
  refine sq ?_
  refine .mv ?_
  refine sq ?_
  refine .r0 ?_
  refine sq ?_
  refine .mv ?_
  refine sk ?_
  refine sk ?_
  refine sq ?_
  refine .r0 ?_
  refine sq ?_
  refine .mv ?_
  apply wpSq_end
  refine hK5 _ _ ?_
  refine cf ?_
  refine wp_skip ?_
  refine hK2 _ _ ?_
  refine wp_seq_k ?_
  intro K6 hK6
  refine rg [0] ?_
  refine sq ?_
  refine .mv ?_
  apply wpSq_end
  refine hK6 _ _ ?_
  refine wp_ret ?_
  try dsimp only [Exit.then, Exit.inBlock]
  refine bodyPost_ret (v := (.int .i64 0)) (by simp [results, Tryz.results45, go_sem]) rfl ?_
  have hb := hs.b
  exact ⟨rfl, hb⟩
set_option maxHeartbeats 4000000 in
set_option maxRecDepth 20000 in
theorem quarters_zp (w : World) :
    Calls Tryz.prog 45 #[.int .i64 0, .int .i64 1] w fun e w' => e = .returned (.int .i64 3) ∧ Below w.heap.size w w' := by
  go_enter Tryz.func45, Tryz.ntmps45
  have hs := St.nil w
  refine wp_seq_k ?_
  intro K1 hK1
  refine rg [0] ?_
  refine sq ?_
  refine .mv ?_
  apply wpSq_end
  refine hK1 _ _ ?_
  refine wp_seq_k ?_
  intro K2 hK2
  refine wp_block ?_
  refine wp_seq_k ?_
  intro K3 hK3
  refine rg [0, 1, 2, 3, 4, 5, 6] ?_
  refine sq ?_
  refine .mv ?_
  refine sq ?_
  refine .r0 ?_
  refine sq ?_
  refine .mv ?_
  refine sk ?_
  refine sk ?_
  refine sq ?_
  refine .r0 ?_
  refine sq ?_
  refine .mv ?_
  apply wpSq_end
  refine hK3 _ _ ?_
  refine cf ?_
  refine wp_seq_k ?_
  intro K4 hK4
  refine rg [0, 1, 2, 3, 4, 5, 6] ?_
  refine sq ?_
  refine .mv ?_
  refine sq ?_
  refine .r0 ?_
  refine sq ?_
  refine .mv ?_
  refine sk ?_
  refine sk ?_
  refine sq ?_
  refine .r0 ?_
  refine sq ?_
  refine .mv ?_
  apply wpSq_end
  refine hK4 _ _ ?_
  refine cf ?_
  refine wp_seq_k ?_
  intro K5 hK5
  refine rg [0, 1, 2, 3, 4, 5, 6] ?_
  refine sq ?_
  refine .mv ?_
  refine sq ?_
  refine .r0 ?_
  refine sq ?_
  refine .mv ?_
  refine sq ?_
  refine .mv ?_
  refine sq ?_
  refine .r0 ?_
  refine sq ?_
  refine .r0 ?_
  refine sq ?_
  refine .mv ?_
  apply wpSq_end
  refine hK5 _ _ ?_
  refine ct ?_
  refine wp_seq_k ?_
  intro K6 hK6
  refine rg [0] ?_
  refine sq ?_
  refine .mv ?_
  apply wpSq_end
  refine hK6 _ _ ?_
  refine wp_ret ?_
  try dsimp only [Exit.then, Exit.inBlock]
  refine bodyPost_ret (v := (.int .i64 3)) (by simp [results, Tryz.results45, go_sem]) rfl ?_
  have hb := hs.b
  exact ⟨rfl, hb⟩
set_option maxHeartbeats 4000000 in
set_option maxRecDepth 20000 in
theorem quarters_pm (w : World) :
    Calls Tryz.prog 45 #[.int .i64 1, .int .i64 (-1)] w fun e w' => e = .returned (.int .i64 1) ∧ Below w.heap.size w w' := by
  go_enter Tryz.func45, Tryz.ntmps45
  have hs := St.nil w
  refine wp_seq_k ?_
  intro K1 hK1
  refine rg [0] ?_
  refine sq ?_
  refine .mv ?_
  apply wpSq_end
  refine hK1 _ _ ?_
  refine wp_seq_k ?_
  intro K2 hK2
  refine wp_block ?_
  refine wp_seq_k ?_
  intro K3 hK3
  refine rg [0, 1, 2, 3, 4, 5, 6] ?_
  refine sq ?_
  refine .mv ?_
  refine sq ?_
  refine .r0 ?_
  refine sq ?_
  refine .mv ?_
  refine sq ?_
  refine .mv ?_
  refine sq ?_
  refine .r0 ?_
  refine sq ?_
  refine .r0 ?_
  refine sq ?_
  refine .mv ?_
  apply wpSq_end
  refine hK3 _ _ ?_
  refine ct ?_
  refine wp_seq_k ?_
  intro K4 hK4
  refine rg [0] ?_
  refine sq ?_
  refine .mv ?_
  apply wpSq_end
  refine hK4 _ _ ?_
  refine wp_ret ?_
  try dsimp only [Exit.then, Exit.inBlock]
  refine bodyPost_ret (v := (.int .i64 1)) (by simp [results, Tryz.results45, go_sem]) rfl ?_
  have hb := hs.b
  exact ⟨rfl, hb⟩
set_option maxHeartbeats 4000000 in
set_option maxRecDepth 20000 in
theorem quarters_pz (w : World) :
    Calls Tryz.prog 45 #[.int .i64 1, .int .i64 0] w fun e w' => e = .returned (.int .i64 0) ∧ Below w.heap.size w w' := by
  go_enter Tryz.func45, Tryz.ntmps45
  have hs := St.nil w
  refine wp_seq_k ?_
  intro K1 hK1
  refine rg [0] ?_
  refine sq ?_
  refine .mv ?_
  apply wpSq_end
  refine hK1 _ _ ?_
  refine wp_seq_k ?_
  intro K2 hK2
  refine wp_block ?_
  refine wp_seq_k ?_
  intro K3 hK3
  refine rg [0, 1, 2, 3, 4, 5, 6] ?_
  refine sq ?_
  refine .mv ?_
  refine sq ?_
  refine .r0 ?_
  refine sq ?_
  refine .mv ?_
  refine sk ?_
  refine sk ?_
  refine sq ?_
  refine .r0 ?_
  refine sq ?_
  refine .mv ?_
  apply wpSq_end
  refine hK3 _ _ ?_
  refine cf ?_
  refine wp_seq_k ?_
  intro K4 hK4
  refine rg [0, 1, 2, 3, 4, 5, 6] ?_
  refine sq ?_
  refine .mv ?_
  refine sq ?_
  refine .r0 ?_
  refine sq ?_
  refine .mv ?_
  refine sk ?_
  refine sk ?_
  refine sq ?_
  refine .r0 ?_
  refine sq ?_
  refine .mv ?_
  apply wpSq_end
  refine hK4 _ _ ?_
  refine cf ?_
  refine wp_seq_k ?_
  intro K5 hK5
  refine rg [0, 1, 2, 3, 4, 5, 6] ?_
  refine sq ?_
  refine .mv ?_
  refine sq ?_
  refine .r0 ?_
  refine sq ?_
  refine .mv ?_
  refine sk ?_
  refine sk ?_
  refine sq ?_
  refine .r0 ?_
  refine sq ?_
  refine .mv ?_
  apply wpSq_end
  refine hK5 _ _ ?_
  refine cf ?_
  refine wp_skip ?_
  refine hK2 _ _ ?_
  refine wp_seq_k ?_
  intro K6 hK6
  refine rg [0] ?_
  refine sq ?_
  refine .mv ?_
  apply wpSq_end
  refine hK6 _ _ ?_
  refine wp_ret ?_
  try dsimp only [Exit.then, Exit.inBlock]
  refine bodyPost_ret (v := (.int .i64 0)) (by simp [results, Tryz.results45, go_sem]) rfl ?_
  have hb := hs.b
  exact ⟨rfl, hb⟩
set_option maxHeartbeats 4000000 in
set_option maxRecDepth 20000 in
theorem quarters_pp (w : World) :
    Calls Tryz.prog 45 #[.int .i64 1, .int .i64 1] w fun e w' => e = .returned (.int .i64 0) ∧ Below w.heap.size w w' := by
  go_enter Tryz.func45, Tryz.ntmps45
  have hs := St.nil w
  refine wp_seq_k ?_
  intro K1 hK1
  refine rg [0] ?_
  refine sq ?_
  refine .mv ?_
  apply wpSq_end
  refine hK1 _ _ ?_
  refine wp_seq_k ?_
  intro K2 hK2
  refine wp_block ?_
  refine wp_seq_k ?_
  intro K3 hK3
  refine rg [0, 1, 2, 3, 4, 5, 6] ?_
  refine sq ?_
  refine .mv ?_
  refine sq ?_
  refine .r0 ?_
  refine sq ?_
  refine .mv ?_
  refine sk ?_
  refine sk ?_
  refine sq ?_
  refine .r0 ?_
  refine sq ?_
  refine .mv ?_
  apply wpSq_end
  refine hK3 _ _ ?_
  refine cf ?_
  refine wp_seq_k ?_
  intro K4 hK4
  refine rg [0, 1, 2, 3, 4, 5, 6] ?_
  refine sq ?_
  refine .mv ?_
  refine sq ?_
  refine .r0 ?_
  refine sq ?_
  refine .mv ?_
  refine sk ?_
  refine sk ?_
  refine sq ?_
  refine .r0 ?_
  refine sq ?_
  refine .mv ?_
  apply wpSq_end
  refine hK4 _ _ ?_
  refine cf ?_
  refine wp_seq_k ?_
  intro K5 hK5
  refine rg [0, 1, 2, 3, 4, 5, 6] ?_
  refine sq ?_
  refine .mv ?_
  refine sq ?_
  refine .r0 ?_
  refine sq ?_
  refine .mv ?_
  refine sq ?_
  refine .mv ?_
  refine sq ?_
  refine .r0 ?_
  refine sq ?_
  refine .r0 ?_
  refine sq ?_
  refine .mv ?_
  apply wpSq_end
  refine hK5 _ _ ?_
  refine cf ?_
  refine wp_skip ?_
  refine hK2 _ _ ?_
  refine wp_seq_k ?_
  intro K6 hK6
  refine rg [0] ?_
  refine sq ?_
  refine .mv ?_
  apply wpSq_end
  refine hK6 _ _ ?_
  refine wp_ret ?_
  try dsimp only [Exit.then, Exit.inBlock]
  refine bodyPost_ret (v := (.int .i64 0)) (by simp [results, Tryz.results45, go_sem]) rfl ?_
  have hb := hs.b
  exact ⟨rfl, hb⟩
theorem sign3' (x : Int) : x.sign = -1 ∨ x.sign = 0 ∨ x.sign = 1 := by have := sign_bd x; omega
theorem quarters_any (x y : Int) (w : World) :
    Calls Tryz.prog 45 #[.int .i64 x.sign, .int .i64 y.sign] w fun e w' => e = .returned (.int .i64 ((kq x y : Nat) : Int)) ∧ Below w.heap.size w w' := by
  rw [← kq_sign]
  rcases sign3' x with h | h | h <;> rcases sign3' y with h2 | h2 | h2 <;> rw [h, h2]
  · exact quarters_mm w
  · exact quarters_mz w
  · exact quarters_mp w
  · exact quarters_zm w
  · exact quarters_zz w
  · exact quarters_zp w
  · exact quarters_pm w
  · exact quarters_pz w
  · exact quarters_pp w
set_option maxHeartbeats 4000000 in
set_option maxRecDepth 20000 in
theorem gCanon_any (ha : PN w va x l y m) (hl : l ≤ 40000000) (hm : m ≤ 40000000) :
    Calls Tryz.prog 18 #[va] w fun e w' => ∃ r, e = .returned (.tuple #[r, .int .i64 ((kq x y : Nat) : Int)]) ∧ PC w' r (turn (kq x y) (x, y)).1 (turn (kq x y) (x, y)).2 ∧ Below w.heap.size w w' := by
  have HM := hide (kq_mod x y)
  obtain ⟨S, hS⟩ : ∃ S, x.sign = S := ⟨_, rfl⟩
  obtain ⟨T, hT⟩ : ∃ T, y.sign = T := ⟨_, rfl⟩
  have HS := hide hS
  have HT := hide hT
  have HQ := hide (fun w => quarters_any x y w)
  rw [hS, hT] at HQ
  obtain ⟨J, hK⟩ : ∃ J, kq x y = J := ⟨_, rfl⟩
  rw [hK] at HM HQ ⊢
  clear hS hT hK
  obtain ⟨n_0a, o_0a, k_0a, c_0a, n_0b, o_0b, k_0b, c_0b, rfl, ha1, ha2⟩ := ha
  go_enter Tryz.func18, Tryz.ntmps18
  have hs := St.nil w
  refine wp_seq_k ?_
  intro K1 hK1
  refine rg [0, 1, 2] ?_
  refine sq ?_
  refine .al hs ?_; clear hs; intro p_b1 w_1 hs n1 kb_b1
  refine sq ?_
  refine .al hs ?_; clear hs; intro p_b2 w_2 hs n2 kb_b2
  refine sq ?_
  refine .mv ?_
  apply wpSq_end
  refine hK1 _ _ ?_
  refine wp_seq_k ?_
  intro K2 hK2
  refine wp_region_f4 [(0, false), (1, false), (3, false), (4, false), (2, true), (5, true), (6, true), (7, false)] [] [] (fun _ => default) [99, 0, 99, 99, 0, 99, 99, 99] [] (.c hs.g1 .n) fn fun w_3 n3 => ?_
  replace hs := hs.bl n3
  refine f0 ?_
  refine f4 ?_
  refine f0 ?_
  refine f4 ?_
  refine fl fun w_4 n4 => ?_
  replace hs := hs.bl n4
  intro K hK
  have k0_4 := (((kb n1).b n2).b n3).b n4
  replace ha1 := ha1.k k0_4
  go_big_op
  go_fit (zsign_any ha1 (by omega))
  rintro e w_5 ⟨rfl, hb_5⟩
  replace hs := hs.bl hb_5
  rw [HS.out]
  refine hK _ _ rfl ⟨hb_5, (And.intro hs.g1 trivial)⟩ ?_
  clear hK K
  refine fl fun w_6 n6 => ?_
  replace hs := hs.bl n6
  intro K hK
  have k0_6 := (k0_4.b hb_5).b n6
  replace ha2 := ha2.k k0_6
  go_big_op
  go_fit (zsign_any ha2 (by omega))
  rintro e w_7 ⟨rfl, hb_7⟩
  replace hs := hs.bl hb_7
  rw [HT.out]
  refine hK _ _ rfl ⟨hb_7, (And.intro hs.g1 trivial)⟩ ?_
  clear hK K
  refine fl fun w_8 n8 => ?_
  replace hs := hs.bl n8
  intro K hK
  go_big_op
  go_fit (HQ.out _)
  rintro e w_9 ⟨rfl, hb_9⟩
  replace hs := hs.bl hb_9
  refine hK _ _ rfl ⟨hb_9, (And.intro hs.g1 trivial)⟩ ?_
  clear hK K
  refine fmv ?_
  refine e0 hs ?_; clear hs; intro w_10 hs n10
  apply wpTail_end
  refine hK2 _ _ ?_
  refine wp_seq_k ?_
  intro K3 hK3
  refine rg [0, 1, 2, 3, 4, 5] ?_
  refine sq ?_
  refine .r4 hs.g1.f4 ?_
  refine sq ?_
  refine .mv ?_
  refine sq ?_
  intro K hK
  have k4_10 := (((((kb hb_5).b n6).b hb_7).b n8).b hb_9).b n10
  replace ha1 := ha1.k k4_10
  have k6_10 := (((kb hb_7).b n8).b hb_9).b n10
  replace ha2 := ha2.k k6_10
  go_big_op
  go_fit (gTurn_any (J : Int) (PN.mk' ha1 ha2) (by omega) (by omega))
  rintro e w_11 ⟨_, rfl, ⟨n_ga, o_ga, k_ga, c_ga, n_gb, o_gb, k_gb, c_gb, rfl, g1, g2⟩, hb_11⟩
  replace hs := hs.bl hb_11
  rw [HM.out] at g1 g2
  refine hK _ _ rfl trivial ?_
  clear hK K
  refine sq ?_
  refine .mv ?_
  refine sq ?_
  refine .s4 hs.g0 (fun _ => hs.u0 kb_b2) ?_; clear hs; intro w_12 hs hd12 ho12
  refine sq ?_
  refine .mv ?_
  apply wpSq_end
  refine hK3 _ _ ?_
  refine wp_ret ?_
  try dsimp only [Exit.then, Exit.inBlock]
  obtain ⟨r0_0, r0_1, r0_2, r0_3⟩ := hs.g0.f4
  refine bodyPost_ret (v := (.tuple #[(.agg #[.bool n_ga, .slice o_ga k_ga c_ga, .bool n_gb, .slice o_gb k_gb c_gb]), (.int .i64 (J : Int))])) (by simp [results, Tryz.results18, go_sem, r0_0, r0_1, r0_2, r0_3]) rfl ?_
  have k11_12 := ko hd12 ho12
  replace g1 := g1.k k11_12
  replace g2 := g2.k k11_12
  exact ⟨_, rfl, .mk' g1 g2, hs.b⟩
set_option maxHeartbeats 4000000 in
set_option maxRecDepth 20000 in
theorem rgFirst_yes (ha : PN w va x l y m) (hl : l ≤ 40000000) (hm : m ≤ 40000000) (h1 : 0 < x) (h2 : 0 ≤ y) :
    Calls Tryz.prog 56 #[va] w fun e w' => e = .returned (.bool true) ∧ Below w.heap.size w w' := by
  have hs := sign3' x
  have ht := sign3' y
  have hs1 : (0 < x.sign) = True := eq_true (Int.sign_pos_iff.2 h1)
  have ht1 : (0 ≤ y.sign) = True := eq_true (Int.sign_nonneg_iff.2 h2)
  obtain ⟨S, hS⟩ : ∃ S, x.sign = S := ⟨_, rfl⟩
  obtain ⟨T, hT⟩ : ∃ T, y.sign = T := ⟨_, rfl⟩
  rw [hS] at hs1
  rw [hT] at ht1
  have HS := hide hS
  have HT := hide hT
  clear hS hT hs ht h1 h2
  obtain ⟨n_0a, o_0a, k_0a, c_0a, n_0b, o_0b, k_0b, c_0b, rfl, ha1, ha2⟩ := ha
  go_enter Tryz.func56, Tryz.ntmps56
  have hs := St.nil w
  refine wp_seq_k ?_
  intro K1 hK1
  refine rg [0, 1] ?_
  refine sq ?_
  refine .al hs ?_; clear hs; intro p_b1 w_1 hs n1 kb_b1
  refine sq ?_
  refine .mv ?_
  apply wpSq_end
  refine hK1 _ _ ?_
  refine wp_seq_k ?_
  intro K2 hK2
  refine rg [0, 1, 2, 3, 4, 5, 6, 7, 8, 9, 10] ?_
  refine sq ?_
  refine .r0 ?_
  refine sq ?_
  refine .r4 hs.g0.f4 ?_
  refine sq ?_
  intro K hK
  have k0_1 := kb n1
  replace ha1 := ha1.k k0_1
  go_big_op
  go_fit (rzsign_any ha1 (by omega) )
  rintro e w_2 ⟨rfl, hb_2⟩
  replace hs := hs.bl hb_2
  rw [HS.out]
  refine hK _ _ rfl trivial ?_
  clear hK K
  refine sq ?_
  refine .r0 ?_
  refine sq ?_
  refine .mv ?_
  refine sq ?_
  refine .r0 ?_
  refine sq ?_
  refine .r4 hs.g0.f4 ?_
  refine sq ?_
  intro K hK
  have k0_2 := k0_1.b hb_2
  replace ha2 := ha2.k k0_2
  go_big_op
  go_fit (rzsign_any ha2 (by omega) )
  rintro e w_3 ⟨rfl, hb_3⟩
  replace hs := hs.bl hb_3
  rw [HT.out]
  refine hK _ _ rfl trivial ?_
  clear hK K
  refine sq ?_
  refine .r0 ?_
  refine sq ?_
  refine .r0 ?_
  refine sq ?_
  refine .mv ?_
  apply wpSq_end
  refine hK2 _ _ ?_
  refine wp_ret ?_
  try dsimp only [Exit.then, Exit.inBlock]
  refine bodyPost_ret (v := (.bool true)) (by simp [results, Tryz.results56, go_sem]) rfl ?_
  have hb := hs.b
  exact ⟨rfl, hb⟩
set_option maxHeartbeats 4000000 in
set_option maxRecDepth 20000 in
theorem rgFirst_no1 (ha : PN w va x l y m) (hl : l ≤ 40000000) (hm : m ≤ 40000000) (h1 : ¬ 0 < x) :
    Calls Tryz.prog 56 #[va] w fun e w' => e = .returned (.bool false) ∧ Below w.heap.size w w' := by
  have hs := sign3' x
  have ht := sign3' y
  have hs1 : (0 < x.sign) = False := eq_false (by rw [Int.sign_pos_iff]; exact h1)
  obtain ⟨S, hS⟩ : ∃ S, x.sign = S := ⟨_, rfl⟩
  obtain ⟨T, hT⟩ : ∃ T, y.sign = T := ⟨_, rfl⟩
  rw [hS] at hs1
  have HS := hide hS
  have HT := hide hT
  clear hS hT hs ht h1
  obtain ⟨n_0a, o_0a, k_0a, c_0a, n_0b, o_0b, k_0b, c_0b, rfl, ha1, ha2⟩ := ha
  go_enter Tryz.func56, Tryz.ntmps56
  have hs := St.nil w
  refine wp_seq_k ?_
  intro K1 hK1
  refine rg [0, 1] ?_
  refine sq ?_
  refine .al hs ?_; clear hs; intro p_b1 w_1 hs n1 kb_b1
  refine sq ?_
  refine .mv ?_
  apply wpSq_end
  refine hK1 _ _ ?_
  refine wp_seq_k ?_
  intro K2 hK2
  refine rg [0, 1, 2, 3, 4, 5, 6, 7, 8, 9, 10] ?_
  refine sq ?_
  refine .r0 ?_
  refine sq ?_
  refine .r4 hs.g0.f4 ?_
  refine sq ?_
  intro K hK
  have k0_1 := kb n1
  replace ha1 := ha1.k k0_1
  go_big_op
  go_fit (rzsign_any ha1 (by omega) )
  rintro e w_2 ⟨rfl, hb_2⟩
  replace hs := hs.bl hb_2
  rw [HS.out]
  refine hK _ _ rfl trivial ?_
  clear hK K
  refine sq ?_
  refine .r0 ?_
  refine sq ?_
  refine .mv ?_
  refine sk ?_
  refine sk ?_
  refine sk ?_
  refine sk ?_
  refine sq ?_
  refine .r0 ?_
  refine sq ?_
  refine .mv ?_
  apply wpSq_end
  refine hK2 _ _ ?_
  refine wp_ret ?_
  try dsimp only [Exit.then, Exit.inBlock]
  refine bodyPost_ret (v := (.bool false)) (by simp [results, Tryz.results56, go_sem]) rfl ?_
  have hb := hs.b
  exact ⟨rfl, hb⟩
set_option maxHeartbeats 4000000 in
set_option maxRecDepth 20000 in
theorem rgFirst_no2 (ha : PN w va x l y m) (hl : l ≤ 40000000) (hm : m ≤ 40000000) (h1 : 0 < x) (h2 : ¬ 0 ≤ y) :
    Calls Tryz.prog 56 #[va] w fun e w' => e = .returned (.bool false) ∧ Below w.heap.size w w' := by
  have hs := sign3' x
  have ht := sign3' y
  have hs1 : (0 < x.sign) = True := eq_true (Int.sign_pos_iff.2 h1)
  have ht1 : (0 ≤ y.sign) = False := eq_false (by rw [Int.sign_nonneg_iff]; exact h2)
  obtain ⟨S, hS⟩ : ∃ S, x.sign = S := ⟨_, rfl⟩
  obtain ⟨T, hT⟩ : ∃ T, y.sign = T := ⟨_, rfl⟩
  rw [hS] at hs1
  rw [hT] at ht1
  have HS := hide hS
  have HT := hide hT
  clear hS hT hs ht h1 h2
  obtain ⟨n_0a, o_0a, k_0a, c_0a, n_0b, o_0b, k_0b, c_0b, rfl, ha1, ha2⟩ := ha
  go_enter Tryz.func56, Tryz.ntmps56
  have hs := St.nil w
  refine wp_seq_k ?_
  intro K1 hK1
  refine rg [0, 1] ?_
  refine sq ?_
  refine .al hs ?_; clear hs; intro p_b1 w_1 hs n1 kb_b1
  refine sq ?_
  refine .mv ?_
  apply wpSq_end
  refine hK1 _ _ ?_
  refine wp_seq_k ?_
  intro K2 hK2
  refine rg [0, 1, 2, 3, 4, 5, 6, 7, 8, 9, 10] ?_
  refine sq ?_
  refine .r0 ?_
  refine sq ?_
  refine .r4 hs.g0.f4 ?_
  refine sq ?_
  intro K hK
  have k0_1 := kb n1
  replace ha1 := ha1.k k0_1
  go_big_op
  go_fit (rzsign_any ha1 (by omega) )
  rintro e w_2 ⟨rfl, hb_2⟩
  replace hs := hs.bl hb_2
  rw [HS.out]
  refine hK _ _ rfl trivial ?_
  clear hK K
  refine sq ?_
  refine .r0 ?_
  refine sq ?_
  refine .mv ?_
  refine sq ?_
  refine .r0 ?_
  refine sq ?_
  refine .r4 hs.g0.f4 ?_
  refine sq ?_
  intro K hK
  have k0_2 := k0_1.b hb_2
  replace ha2 := ha2.k k0_2
  go_big_op
  go_fit (rzsign_any ha2 (by omega) )
  rintro e w_3 ⟨rfl, hb_3⟩
  replace hs := hs.bl hb_3
  rw [HT.out]
  refine hK _ _ rfl trivial ?_
  clear hK K
  refine sq ?_
  refine .r0 ?_
  refine sq ?_
  refine .r0 ?_
  refine sq ?_
  refine .mv ?_
  apply wpSq_end
  refine hK2 _ _ ?_
  refine wp_ret ?_
  try dsimp only [Exit.then, Exit.inBlock]
  refine bodyPost_ret (v := (.bool false)) (by simp [results, Tryz.results56, go_sem]) rfl ?_
  have hb := hs.b
  exact ⟨rfl, hb⟩
theorem rgFirst_any (ha : PN w va x l y m) (hl : l ≤ 40000000) (hm : m ≤ 40000000) :
    Calls Tryz.prog 56 #[va] w fun e w' => e = .returned (.bool (decide (0 < x ∧ 0 ≤ y))) ∧ Below w.heap.size w w' := by
  by_cases h1 : 0 < x
  · by_cases h2 : 0 ≤ y
    · rw [decide_eq_true (And.intro h1 h2)]; exact rgFirst_yes ha hl hm h1 h2
    · rw [decide_eq_false (fun c => h2 c.2)]; exact rgFirst_no2 ha hl hm h1 h2
  · rw [decide_eq_false (fun c => h1 c.1)]; exact rgFirst_no1 ha hl hm h1
set_option maxHeartbeats 4000000 in
set_option maxRecDepth 20000 in
theorem rgCanon_0 (ha : PN w va x l y m) (hl : l ≤ 20000000) (hm : m ≤ 20000000) (hx : 0 < x ∧ 0 ≤ y) :
    Calls Tryz.prog 27 #[va] w fun e w' => ∃ r, e = .returned (.tuple #[r, .int .i64 0]) ∧ PC w' r (turn 0 (x, y)).1 (turn 0 (x, y)).2 ∧ Below w.heap.size w w' := by
  have L0 := hide (zlen_turn ha.len1 ha.len2 0)
  have F0 := hide (decide_eq_true (p := 0 < (turn 0 (x, y)).1 ∧ 0 ≤ (turn 0 (x, y)).2) (by simp only [turn_0]; omega))
  clear hx
  obtain ⟨n_0a, o_0a, k_0a, c_0a, n_0b, o_0b, k_0b, c_0b, rfl, ha1, ha2⟩ := ha
  go_enter Tryz.func27, Tryz.ntmps27
  have hs := St.nil w
  refine wp_seq_k ?_
  intro K1 hK1
  refine rg [0, 1, 2] ?_
  refine sq ?_
  refine .al hs ?_; clear hs; intro p_b1 w_1 hs n1 kb_b1
  refine sq ?_
  refine .al hs ?_; clear hs; intro p_b2 w_2 hs n2 kb_b2
  refine sq ?_
  refine .mv ?_
  apply wpSq_end
  refine hK1 _ _ ?_
  refine wp_seq_k ?_
  intro K2 hK2
  refine wp_seq_k ?_
  intro K3 hK3
  refine rg [0] ?_
  refine sq ?_
  refine .mv ?_
  apply wpSq_end
  refine hK3 _ _ ?_
  refine wp_block ?_
  refine wp_loop_rounds 5 ?_
  show Code.wp _ _ _ _ _
  refine wp_seq_k ?_
  intro K4 hK4
  refine wp_seq_k ?_
  intro K5 hK5
  refine rg [0, 1] ?_
  refine sq ?_
  refine .mv ?_
  refine sq ?_
  refine .r0 ?_
  apply wpSq_end
  refine hK5 _ _ ?_
  refine ct ?_
  refine wp_skip ?_
  refine hK4 _ _ ?_
  refine wp_seq_k ?_
  intro K6 hK6
  refine wp_block ?_
  refine wp_seq_k ?_
  intro K7 hK7
  refine rg [0, 1, 2, 3, 4] ?_
  refine sq ?_
  refine .r4 hs.g1.f4 ?_
  refine sq ?_
  refine .mv ?_
  refine sq ?_
  intro K hK
  have k0_2 := (kb n1).b n2
  replace ha1 := ha1.k k0_2
  replace ha2 := ha2.k k0_2
  go_big_op
  go_fit (rgTurn_p0 0 (by decide) (PN.mk' ha1 ha2) (by omega) (by omega))
  rintro e w_3 ⟨_, rfl, ⟨n_g0a, o_g0a, k_g0a, c_g0a, n_g0b, o_g0b, k_g0b, c_g0b, rfl, g01, g02⟩, hb_3⟩
  replace hs := hs.bl hb_3
  have Lg01 := hide (g01.lenOf (L0.out.1))
  have Lg02 := hide (g02.lenOf (L0.out.2))
  refine hK _ _ rfl trivial ?_
  clear hK K
  refine sq ?_
  refine .al hs ?_; clear hs; intro p_b3 w_4 hs n4 kb_b3
  refine sq ?_
  refine .s4 hs.g0 (fun _ => hs.u0 kb_b3) ?_; clear hs; intro w_5 hs hd5 ho5
  apply wpSq_end
  refine hK7 _ _ ?_
  refine wp_seq_k ?_
  intro K8 hK8
  refine rg [0, 1] ?_
  refine sq ?_
  refine .r4 hs.g0.f4 ?_
  refine sq ?_
  intro K hK
  have k3_5 := (kb n4).o hd5 ho5
  replace g01 := g01.k k3_5
  replace g02 := g02.k k3_5
  go_big_op
  go_fit (rgFirst_any (.mk' (g01.zn L0.out.1) (g02.zn L0.out.2)) (by omega) (by omega))
  rintro e w_6 ⟨rfl, hb_6⟩
  replace hs := hs.bl hb_6
  rw [F0.out]
  refine hK _ _ rfl trivial ?_
  clear hK K
  apply wpSq_end
  refine hK8 _ _ ?_
  refine ct ?_
  refine wp_seq_k ?_
  intro K9 hK9
  refine rg [0, 1, 2, 3] ?_
  refine sq ?_
  refine .r4 hs.g0.f4 ?_
  refine sq ?_
  refine .mv ?_
  refine sq ?_
  refine .s4 hs.g1 (fun _ => hs.u1 kb_b2) ?_; clear hs; intro w_7 hs hd7 ho7
  refine sq ?_
  refine .mv ?_
  apply wpSq_end
  refine hK9 _ _ ?_
  refine wp_ret ?_
  try dsimp only [Exit.then, Exit.inBlock]
  obtain ⟨r0_0, r0_1, r0_2, r0_3⟩ := hs.g1.f4
  refine bodyPost_ret (v := (.tuple #[(.agg #[.bool n_g0a, .slice o_g0a k_g0a c_g0a, .bool n_g0b, .slice o_g0b k_g0b c_g0b]), (.int .i64 0)])) (by simp [results, Tryz.results27, go_sem, r0_0, r0_1, r0_2, r0_3]) rfl ?_
  have k5_7 := (kb hb_6).o hd7 ho7
  replace g01 := g01.k k5_7
  replace g02 := g02.k k5_7
  exact ⟨_, rfl, .mk' g01 g02, hs.b⟩
set_option maxHeartbeats 4000000 in
set_option maxRecDepth 20000 in
theorem rgCanon_1 (ha : PN w va x l y m) (hl : l ≤ 20000000) (hm : m ≤ 20000000) (hx : y < 0 ∧ 0 ≤ x) :
    Calls Tryz.prog 27 #[va] w fun e w' => ∃ r, e = .returned (.tuple #[r, .int .i64 1]) ∧ PC w' r (turn 1 (x, y)).1 (turn 1 (x, y)).2 ∧ Below w.heap.size w w' := by
  have L0 := hide (zlen_turn ha.len1 ha.len2 0)
  have F0 := hide (decide_eq_false (p := 0 < (turn 0 (x, y)).1 ∧ 0 ≤ (turn 0 (x, y)).2) (by simp only [turn_0]; omega))
  have L1 := hide (zlen_turn ha.len1 ha.len2 1)
  have F1 := hide (decide_eq_true (p := 0 < (turn 1 (x, y)).1 ∧ 0 ≤ (turn 1 (x, y)).2) (by simp only [turn_1]; omega))
  clear hx
  obtain ⟨n_0a, o_0a, k_0a, c_0a, n_0b, o_0b, k_0b, c_0b, rfl, ha1, ha2⟩ := ha
  go_enter Tryz.func27, Tryz.ntmps27
  have hs := St.nil w
  refine wp_seq_k ?_
  intro K1 hK1
  refine rg [0, 1, 2] ?_
  refine sq ?_
  refine .al hs ?_; clear hs; intro p_b1 w_1 hs n1 kb_b1
  refine sq ?_
  refine .al hs ?_; clear hs; intro p_b2 w_2 hs n2 kb_b2
  refine sq ?_
  refine .mv ?_
  apply wpSq_end
  refine hK1 _ _ ?_
  refine wp_seq_k ?_
  intro K2 hK2
  refine wp_seq_k ?_
  intro K3 hK3
  refine rg [0] ?_
  refine sq ?_
  refine .mv ?_
  apply wpSq_end
  refine hK3 _ _ ?_
  refine wp_block ?_
  refine wp_loop_rounds 5 ?_
  show Code.wp _ _ _ _ _
  refine wp_seq_k ?_
  intro K4 hK4
  refine wp_seq_k ?_
  intro K5 hK5
  refine rg [0, 1] ?_
  refine sq ?_
  refine .mv ?_
  refine sq ?_
  refine .r0 ?_
  apply wpSq_end
  refine hK5 _ _ ?_
  refine ct ?_
  refine wp_skip ?_
  refine hK4 _ _ ?_
  refine wp_seq_k ?_
  intro K6 hK6
  refine wp_block ?_
  refine wp_seq_k ?_
  intro K7 hK7
  refine rg [0, 1, 2, 3, 4] ?_
  refine sq ?_
  refine .r4 hs.g1.f4 ?_
  refine sq ?_
  refine .mv ?_
  refine sq ?_
  intro K hK
  have k0_2 := (kb n1).b n2
  replace ha1 := ha1.k k0_2
  replace ha2 := ha2.k k0_2
  go_big_op
  go_fit (rgTurn_p0 0 (by decide) (PN.mk' ha1 ha2) (by omega) (by omega))
  rintro e w_3 ⟨_, rfl, ⟨n_g0a, o_g0a, k_g0a, c_g0a, n_g0b, o_g0b, k_g0b, c_g0b, rfl, g01, g02⟩, hb_3⟩
  replace hs := hs.bl hb_3
  have Lg01 := hide (g01.lenOf (L0.out.1))
  have Lg02 := hide (g02.lenOf (L0.out.2))
  refine hK _ _ rfl trivial ?_
  clear hK K
  refine sq ?_
  refine .al hs ?_; clear hs; intro p_b3 w_4 hs n4 kb_b3
  refine sq ?_
  refine .s4 hs.g0 (fun _ => hs.u0 kb_b3) ?_; clear hs; intro w_5 hs hd5 ho5
  apply wpSq_end
  refine hK7 _ _ ?_
  refine wp_seq_k ?_
  intro K8 hK8
  refine rg [0, 1] ?_
  refine sq ?_
  refine .r4 hs.g0.f4 ?_
  refine sq ?_
  intro K hK
  have k3_5 := (kb n4).o hd5 ho5
  replace g01 := g01.k k3_5
  replace g02 := g02.k k3_5
  go_big_op
  go_fit (rgFirst_any (.mk' (g01.zn L0.out.1) (g02.zn L0.out.2)) (by omega) (by omega))
  rintro e w_6 ⟨rfl, hb_6⟩
  replace hs := hs.bl hb_6
  rw [F0.out]
  refine hK _ _ rfl trivial ?_
  clear hK K
  apply wpSq_end
  refine hK8 _ _ ?_
  refine cf ?_
  refine wp_skip ?_
  refine hK6 _ _ ?_
  refine rg [0, 1, 2] ?_
  refine sq ?_
  refine .mv ?_
  refine sq ?_
  refine .r0 ?_
  refine sq ?_
  refine .mv ?_
  apply wpSq_end
  show Code.wp _ _ _ _ _
  refine wp_seq_k ?_
  intro K9 hK9
  refine wp_seq_k ?_
  intro K10 hK10
  refine rg [0, 1] ?_
  refine sq ?_
  refine .mv ?_
  refine sq ?_
  refine .r0 ?_
  apply wpSq_end
  refine hK10 _ _ ?_
  refine ct ?_
  refine wp_skip ?_
  refine hK9 _ _ ?_
  refine wp_seq_k ?_
  intro K11 hK11
  refine wp_block ?_
  refine wp_seq_k ?_
  intro K12 hK12
  refine rg [0, 1, 2, 3, 4] ?_
  refine sq ?_
  refine .r4 hs.g2.f4 ?_
  refine sq ?_
  refine .mv ?_
  refine sq ?_
  intro K hK
  have k2_6 := (((kb hb_3).b n4).o hd5 ho5).b hb_6
  replace ha1 := ha1.k k2_6
  replace ha2 := ha2.k k2_6
  go_big_op
  go_fit (rgTurn_p1 1 (by decide) (PN.mk' ha1 ha2) (by omega) (by omega))
  rintro e w_7 ⟨_, rfl, ⟨n_g1a, o_g1a, k_g1a, c_g1a, n_g1b, o_g1b, k_g1b, c_g1b, rfl, g11, g12⟩, hb_7⟩
  replace hs := hs.bl hb_7
  have Lg11 := hide (g11.lenOf (L1.out.1))
  have Lg12 := hide (g12.lenOf (L1.out.2))
  refine hK _ _ rfl trivial ?_
  clear hK K
  refine sq ?_
  refine .al hs ?_; clear hs; intro p_b4 w_8 hs n8 kb_b4
  refine sq ?_
  refine .s4 hs.g0 (fun _ => hs.u0 kb_b4) ?_; clear hs; intro w_9 hs hd9 ho9
  apply wpSq_end
  refine hK12 _ _ ?_
  refine wp_seq_k ?_
  intro K13 hK13
  refine rg [0, 1] ?_
  refine sq ?_
  refine .r4 hs.g0.f4 ?_
  refine sq ?_
  intro K hK
  have k7_9 := (kb n8).o hd9 ho9
  replace g11 := g11.k k7_9
  replace g12 := g12.k k7_9
  go_big_op
  go_fit (rgFirst_any (.mk' (g11.zn L1.out.1) (g12.zn L1.out.2)) (by omega) (by omega))
  rintro e w_10 ⟨rfl, hb_10⟩
  replace hs := hs.bl hb_10
  rw [F1.out]
  refine hK _ _ rfl trivial ?_
  clear hK K
  apply wpSq_end
  refine hK13 _ _ ?_
  refine ct ?_
  refine wp_seq_k ?_
  intro K14 hK14
  refine rg [0, 1, 2, 3] ?_
  refine sq ?_
  refine .r4 hs.g0.f4 ?_
  refine sq ?_
  refine .mv ?_
  refine sq ?_
  refine .s4 hs.g2 (fun _ => hs.u2 kb_b2) ?_; clear hs; intro w_11 hs hd11 ho11
  refine sq ?_
  refine .mv ?_
  apply wpSq_end
  refine hK14 _ _ ?_
  refine wp_ret ?_
  try dsimp only [Exit.then, Exit.inBlock]
  obtain ⟨r0_0, r0_1, r0_2, r0_3⟩ := hs.g2.f4
  refine bodyPost_ret (v := (.tuple #[(.agg #[.bool n_g1a, .slice o_g1a k_g1a c_g1a, .bool n_g1b, .slice o_g1b k_g1b c_g1b]), (.int .i64 1)])) (by simp [results, Tryz.results27, go_sem, r0_0, r0_1, r0_2, r0_3]) rfl ?_
  have k9_11 := (kb hb_10).o hd11 ho11
  replace g11 := g11.k k9_11
  replace g12 := g12.k k9_11
  exact ⟨_, rfl, .mk' g11 g12, hs.b⟩
set_option maxHeartbeats 4000000 in
set_option maxRecDepth 20000 in
theorem rgCanon_2 (ha : PN w va x l y m) (hl : l ≤ 20000000) (hm : m ≤ 20000000) (hx : x < 0 ∧ y ≤ 0) :
    Calls Tryz.prog 27 #[va] w fun e w' => ∃ r, e = .returned (.tuple #[r, .int .i64 2]) ∧ PC w' r (turn 2 (x, y)).1 (turn 2 (x, y)).2 ∧ Below w.heap.size w w' := by
  have L0 := hide (zlen_turn ha.len1 ha.len2 0)
  have F0 := hide (decide_eq_false (p := 0 < (turn 0 (x, y)).1 ∧ 0 ≤ (turn 0 (x, y)).2) (by simp only [turn_0]; omega))
  have L1 := hide (zlen_turn ha.len1 ha.len2 1)
  have F1 := hide (decide_eq_false (p := 0 < (turn 1 (x, y)).1 ∧ 0 ≤ (turn 1 (x, y)).2) (by simp only [turn_1]; omega))
  have L2 := hide (zlen_turn ha.len1 ha.len2 2)
  have F2 := hide (decide_eq_true (p := 0 < (turn 2 (x, y)).1 ∧ 0 ≤ (turn 2 (x, y)).2) (by simp only [turn_2]; omega))
  clear hx
  obtain ⟨n_0a, o_0a, k_0a, c_0a, n_0b, o_0b, k_0b, c_0b, rfl, ha1, ha2⟩ := ha
  go_enter Tryz.func27, Tryz.ntmps27
  have hs := St.nil w
  refine wp_seq_k ?_
  intro K1 hK1
  refine rg [0, 1, 2] ?_
  refine sq ?_
  refine .al hs ?_; clear hs; intro p_b1 w_1 hs n1 kb_b1
  refine sq ?_
  refine .al hs ?_; clear hs; intro p_b2 w_2 hs n2 kb_b2
  refine sq ?_
  refine .mv ?_
  apply wpSq_end
  refine hK1 _ _ ?_
  refine wp_seq_k ?_
  intro K2 hK2
  refine wp_seq_k ?_
  intro K3 hK3
  refine rg [0] ?_
  refine sq ?_
  refine .mv ?_
  apply wpSq_end
  refine hK3 _ _ ?_
  refine wp_block ?_
  refine wp_loop_rounds 5 ?_
  show Code.wp _ _ _ _ _
  refine wp_seq_k ?_
  intro K4 hK4
  refine wp_seq_k ?_
  intro K5 hK5
  refine rg [0, 1] ?_
  refine sq ?_
  refine .mv ?_
  refine sq ?_
  refine .r0 ?_
  apply wpSq_end
  refine hK5 _ _ ?_
  refine ct ?_
  refine wp_skip ?_
  refine hK4 _ _ ?_
  refine wp_seq_k ?_
  intro K6 hK6
  refine wp_block ?_
  refine wp_seq_k ?_
  intro K7 hK7
  refine rg [0, 1, 2, 3, 4] ?_
  refine sq ?_
  refine .r4 hs.g1.f4 ?_
  refine sq ?_
  refine .mv ?_
  refine sq ?_
  intro K hK
  have k0_2 := (kb n1).b n2
  replace ha1 := ha1.k k0_2
  replace ha2 := ha2.k k0_2
  go_big_op
  go_fit (rgTurn_p0 0 (by decide) (PN.mk' ha1 ha2) (by omega) (by omega))
  rintro e w_3 ⟨_, rfl, ⟨n_g0a, o_g0a, k_g0a, c_g0a, n_g0b, o_g0b, k_g0b, c_g0b, rfl, g01, g02⟩, hb_3⟩
  replace hs := hs.bl hb_3
  have Lg01 := hide (g01.lenOf (L0.out.1))
  have Lg02 := hide (g02.lenOf (L0.out.2))
  refine hK _ _ rfl trivial ?_
  clear hK K
  refine sq ?_
  refine .al hs ?_; clear hs; intro p_b3 w_4 hs n4 kb_b3
  refine sq ?_
  refine .s4 hs.g0 (fun _ => hs.u0 kb_b3) ?_; clear hs; intro w_5 hs hd5 ho5
  apply wpSq_end
  refine hK7 _ _ ?_
  refine wp_seq_k ?_
  intro K8 hK8
  refine rg [0, 1] ?_
  refine sq ?_
  refine .r4 hs.g0.f4 ?_
  refine sq ?_
  intro K hK
  have k3_5 := (kb n4).o hd5 ho5
  replace g01 := g01.k k3_5
  replace g02 := g02.k k3_5
  go_big_op
  go_fit (rgFirst_any (.mk' (g01.zn L0.out.1) (g02.zn L0.out.2)) (by omega) (by omega))
  rintro e w_6 ⟨rfl, hb_6⟩
  replace hs := hs.bl hb_6
  rw [F0.out]
  refine hK _ _ rfl trivial ?_
  clear hK K
  apply wpSq_end
  refine hK8 _ _ ?_
  refine cf ?_
  refine wp_skip ?_
  refine hK6 _ _ ?_
  refine rg [0, 1, 2] ?_
  refine sq ?_
  refine .mv ?_
  refine sq ?_
  refine .r0 ?_
  refine sq ?_
  refine .mv ?_
  apply wpSq_end
  show Code.wp _ _ _ _ _
  refine wp_seq_k ?_
  intro K9 hK9
  refine wp_seq_k ?_
  intro K10 hK10
  refine rg [0, 1] ?_
  refine sq ?_
  refine .mv ?_
  refine sq ?_
  refine .r0 ?_
  apply wpSq_end
  refine hK10 _ _ ?_
  refine ct ?_
  refine wp_skip ?_
  refine hK9 _ _ ?_
  refine wp_seq_k ?_
  intro K11 hK11
  refine wp_block ?_
  refine wp_seq_k ?_
  intro K12 hK12
  refine rg [0, 1, 2, 3, 4] ?_
  refine sq ?_
  refine .r4 hs.g2.f4 ?_
  refine sq ?_
  refine .mv ?_
  refine sq ?_
  intro K hK
  have k2_6 := (((kb hb_3).b n4).o hd5 ho5).b hb_6
  replace ha1 := ha1.k k2_6
  replace ha2 := ha2.k k2_6
  go_big_op
  go_fit (rgTurn_p1 1 (by decide) (PN.mk' ha1 ha2) (by omega) (by omega))
  rintro e w_7 ⟨_, rfl, ⟨n_g1a, o_g1a, k_g1a, c_g1a, n_g1b, o_g1b, k_g1b, c_g1b, rfl, g11, g12⟩, hb_7⟩
  replace hs := hs.bl hb_7
  have Lg11 := hide (g11.lenOf (L1.out.1))
  have Lg12 := hide (g12.lenOf (L1.out.2))
  refine hK _ _ rfl trivial ?_
  clear hK K
  refine sq ?_
  refine .al hs ?_; clear hs; intro p_b4 w_8 hs n8 kb_b4
  refine sq ?_
  refine .s4 hs.g0 (fun _ => hs.u0 kb_b4) ?_; clear hs; intro w_9 hs hd9 ho9
  apply wpSq_end
  refine hK12 _ _ ?_
  refine wp_seq_k ?_
  intro K13 hK13
  refine rg [0, 1] ?_
  refine sq ?_
  refine .r4 hs.g0.f4 ?_
  refine sq ?_
  intro K hK
  have k7_9 := (kb n8).o hd9 ho9
  replace g11 := g11.k k7_9
  replace g12 := g12.k k7_9
  go_big_op
  go_fit (rgFirst_any (.mk' (g11.zn L1.out.1) (g12.zn L1.out.2)) (by omega) (by omega))
  rintro e w_10 ⟨rfl, hb_10⟩
  replace hs := hs.bl hb_10
  rw [F1.out]
  refine hK _ _ rfl trivial ?_
  clear hK K
  apply wpSq_end
  refine hK13 _ _ ?_
  refine cf ?_
  refine wp_skip ?_
  refine hK11 _ _ ?_
  refine rg [0, 1, 2] ?_
  refine sq ?_
  refine .mv ?_
  refine sq ?_
  refine .r0 ?_
  refine sq ?_
  refine .mv ?_
  apply wpSq_end
  show Code.wp _ _ _ _ _
  refine wp_seq_k ?_
  intro K14 hK14
  refine wp_seq_k ?_
  intro K15 hK15
  refine rg [0, 1] ?_
  refine sq ?_
  refine .mv ?_
  refine sq ?_
  refine .r0 ?_
  apply wpSq_end
  refine hK15 _ _ ?_
  refine ct ?_
  refine wp_skip ?_
  refine hK14 _ _ ?_
  refine wp_seq_k ?_
  intro K16 hK16
  refine wp_block ?_
  refine wp_seq_k ?_
  intro K17 hK17
  refine rg [0, 1, 2, 3, 4] ?_
  refine sq ?_
  refine .r4 hs.g3.f4 ?_
  refine sq ?_
  refine .mv ?_
  refine sq ?_
  intro K hK
  have k6_10 := (((kb hb_7).b n8).o hd9 ho9).b hb_10
  replace ha1 := ha1.k k6_10
  replace ha2 := ha2.k k6_10
  go_big_op
  go_fit (rgTurn_p2 2 (by decide) (PN.mk' ha1 ha2) (by omega) (by omega))
  rintro e w_11 ⟨_, rfl, ⟨n_g2a, o_g2a, k_g2a, c_g2a, n_g2b, o_g2b, k_g2b, c_g2b, rfl, g21, g22⟩, hb_11⟩
  replace hs := hs.bl hb_11
  have Lg21 := hide (g21.lenOf (L2.out.1))
  have Lg22 := hide (g22.lenOf (L2.out.2))
  refine hK _ _ rfl trivial ?_
  clear hK K
  refine sq ?_
  refine .al hs ?_; clear hs; intro p_b5 w_12 hs n12 kb_b5
  refine sq ?_
  refine .s4 hs.g0 (fun _ => hs.u0 kb_b5) ?_; clear hs; intro w_13 hs hd13 ho13
  apply wpSq_end
  refine hK17 _ _ ?_
  refine wp_seq_k ?_
  intro K18 hK18
  refine rg [0, 1] ?_
  refine sq ?_
  refine .r4 hs.g0.f4 ?_
  refine sq ?_
  intro K hK
  have k11_13 := (kb n12).o hd13 ho13
  replace g21 := g21.k k11_13
  replace g22 := g22.k k11_13
  go_big_op
  go_fit (rgFirst_any (.mk' (g21.zn L2.out.1) (g22.zn L2.out.2)) (by omega) (by omega))
  rintro e w_14 ⟨rfl, hb_14⟩
  replace hs := hs.bl hb_14
  rw [F2.out]
  refine hK _ _ rfl trivial ?_
  clear hK K
  apply wpSq_end
  refine hK18 _ _ ?_
  refine ct ?_
  refine wp_seq_k ?_
  intro K19 hK19
  refine rg [0, 1, 2, 3] ?_
  refine sq ?_
  refine .r4 hs.g0.f4 ?_
  refine sq ?_
  refine .mv ?_
  refine sq ?_
  refine .s4 hs.g3 (fun _ => hs.u3 kb_b2) ?_; clear hs; intro w_15 hs hd15 ho15
  refine sq ?_
  refine .mv ?_
  apply wpSq_end
  refine hK19 _ _ ?_
  refine wp_ret ?_
  try dsimp only [Exit.then, Exit.inBlock]
  obtain ⟨r0_0, r0_1, r0_2, r0_3⟩ := hs.g3.f4
  refine bodyPost_ret (v := (.tuple #[(.agg #[.bool n_g2a, .slice o_g2a k_g2a c_g2a, .bool n_g2b, .slice o_g2b k_g2b c_g2b]), (.int .i64 2)])) (by simp [results, Tryz.results27, go_sem, r0_0, r0_1, r0_2, r0_3]) rfl ?_
  have k13_15 := (kb hb_14).o hd15 ho15
  replace g21 := g21.k k13_15
  replace g22 := g22.k k13_15
  exact ⟨_, rfl, .mk' g21 g22, hs.b⟩
set_option maxHeartbeats 4000000 in
set_option maxRecDepth 20000 in
theorem rgCanon_3 (ha : PN w va x l y m) (hl : l ≤ 20000000) (hm : m ≤ 20000000) (hx : 0 < y ∧ x ≤ 0) :
    Calls Tryz.prog 27 #[va] w fun e w' => ∃ r, e = .returned (.tuple #[r, .int .i64 3]) ∧ PC w' r (turn 3 (x, y)).1 (turn 3 (x, y)).2 ∧ Below w.heap.size w w' := by
  have L0 := hide (zlen_turn ha.len1 ha.len2 0)
  have F0 := hide (decide_eq_false (p := 0 < (turn 0 (x, y)).1 ∧ 0 ≤ (turn 0 (x, y)).2) (by simp only [turn_0]; omega))
  have L1 := hide (zlen_turn ha.len1 ha.len2 1)
  have F1 := hide (decide_eq_false (p := 0 < (turn 1 (x, y)).1 ∧ 0 ≤ (turn 1 (x, y)).2) (by simp only [turn_1]; omega))
  have L2 := hide (zlen_turn ha.len1 ha.len2 2)
  have F2 := hide (decide_eq_false (p := 0 < (turn 2 (x, y)).1 ∧ 0 ≤ (turn 2 (x, y)).2) (by simp only [turn_2]; omega))
  have L3 := hide (zlen_turn ha.len1 ha.len2 3)
  have F3 := hide (decide_eq_true (p := 0 < (turn 3 (x, y)).1 ∧ 0 ≤ (turn 3 (x, y)).2) (by simp only [turn_3]; omega))
  clear hx
  obtain ⟨n_0a, o_0a, k_0a, c_0a, n_0b, o_0b, k_0b, c_0b, rfl, ha1, ha2⟩ := ha
  go_enter Tryz.func27, Tryz.ntmps27
  have hs := St.nil w
  refine wp_seq_k ?_
  intro K1 hK1
  refine rg [0, 1, 2] ?_
  refine sq ?_
  refine .al hs ?_; clear hs; intro p_b1 w_1 hs n1 kb_b1
  refine sq ?_
  refine .al hs ?_; clear hs; intro p_b2 w_2 hs n2 kb_b2
  refine sq ?_
  refine .mv ?_
  apply wpSq_end
  refine hK1 _ _ ?_
  refine wp_seq_k ?_
  intro K2 hK2
  refine wp_seq_k ?_
  intro K3 hK3
  refine rg [0] ?_
  refine sq ?_
  refine .mv ?_
  apply wpSq_end
  refine hK3 _ _ ?_
  refine wp_block ?_
  refine wp_loop_rounds 5 ?_
  show Code.wp _ _ _ _ _
  refine wp_seq_k ?_
  intro K4 hK4
  refine wp_seq_k ?_
  intro K5 hK5
  refine rg [0, 1] ?_
  refine sq ?_
  refine .mv ?_
  refine sq ?_
  refine .r0 ?_
  apply wpSq_end
  refine hK5 _ _ ?_
  refine ct ?_
  refine wp_skip ?_
  refine hK4 _ _ ?_
  refine wp_seq_k ?_
  intro K6 hK6
  refine wp_block ?_
  refine wp_seq_k ?_
  intro K7 hK7
  refine rg [0, 1, 2, 3, 4] ?_
  refine sq ?_
  refine .r4 hs.g1.f4 ?_
  refine sq ?_
  refine .mv ?_
  refine sq ?_
  intro K hK
  have k0_2 := (kb n1).b n2
  replace ha1 := ha1.k k0_2
  replace ha2 := ha2.k k0_2
  go_big_op
  go_fit (rgTurn_p0 0 (by decide) (PN.mk' ha1 ha2) (by omega) (by omega))
  rintro e w_3 ⟨_, rfl, ⟨n_g0a, o_g0a, k_g0a, c_g0a, n_g0b, o_g0b, k_g0b, c_g0b, rfl, g01, g02⟩, hb_3⟩
  replace hs := hs.bl hb_3
  have Lg01 := hide (g01.lenOf (L0.out.1))
  have Lg02 := hide (g02.lenOf (L0.out.2))
  refine hK _ _ rfl trivial ?_
  clear hK K
  refine sq ?_
  refine .al hs ?_; clear hs; intro p_b3 w_4 hs n4 kb_b3
  refine sq ?_
  refine .s4 hs.g0 (fun _ => hs.u0 kb_b3) ?_; clear hs; intro w_5 hs hd5 ho5
  apply wpSq_end
  refine hK7 _ _ ?_
  refine wp_seq_k ?_
  intro K8 hK8
  refine rg [0, 1] ?_
  refine sq ?_
  refine .r4 hs.g0.f4 ?_
  refine sq ?_
  intro K hK
  have k3_5 := (kb n4).o hd5 ho5
  replace g01 := g01.k k3_5
  replace g02 := g02.k k3_5
  go_big_op
  go_fit (rgFirst_any (.mk' (g01.zn L0.out.1) (g02.zn L0.out.2)) (by omega) (by omega))
  rintro e w_6 ⟨rfl, hb_6⟩
  replace hs := hs.bl hb_6
  rw [F0.out]
  refine hK _ _ rfl trivial ?_
  clear hK K
  apply wpSq_end
  refine hK8 _ _ ?_
  refine cf ?_
  refine wp_skip ?_
  refine hK6 _ _ ?_
  refine rg [0, 1, 2] ?_
  refine sq ?_
  refine .mv ?_
  refine sq ?_
  refine .r0 ?_
  refine sq ?_
  refine .mv ?_
  apply wpSq_end
  show Code.wp _ _ _ _ _
  refine wp_seq_k ?_
  intro K9 hK9
  refine wp_seq_k ?_
  intro K10 hK10
  refine rg [0, 1] ?_
  refine sq ?_
  refine .mv ?_
  refine sq ?_
  refine .r0 ?_
  apply wpSq_end
  refine hK10 _ _ ?_
  refine ct ?_
  refine wp_skip ?_
  refine hK9 _ _ ?_
  refine wp_seq_k ?_
  intro K11 hK11
  refine wp_block ?_
  refine wp_seq_k ?_
  intro K12 hK12
  refine rg [0, 1, 2, 3, 4] ?_
  refine sq ?_
  refine .r4 hs.g2.f4 ?_
  refine sq ?_
  refine .mv ?_
  refine sq ?_
  intro K hK
  have k2_6 := (((kb hb_3).b n4).o hd5 ho5).b hb_6
  replace ha1 := ha1.k k2_6
  replace ha2 := ha2.k k2_6
  go_big_op
  go_fit (rgTurn_p1 1 (by decide) (PN.mk' ha1 ha2) (by omega) (by omega))
  rintro e w_7 ⟨_, rfl, ⟨n_g1a, o_g1a, k_g1a, c_g1a, n_g1b, o_g1b, k_g1b, c_g1b, rfl, g11, g12⟩, hb_7⟩
  replace hs := hs.bl hb_7
  have Lg11 := hide (g11.lenOf (L1.out.1))
  have Lg12 := hide (g12.lenOf (L1.out.2))
  refine hK _ _ rfl trivial ?_
  clear hK K
  refine sq ?_
  refine .al hs ?_; clear hs; intro p_b4 w_8 hs n8 kb_b4
  refine sq ?_
  refine .s4 hs.g0 (fun _ => hs.u0 kb_b4) ?_; clear hs; intro w_9 hs hd9 ho9
  apply wpSq_end
  refine hK12 _ _ ?_
  refine wp_seq_k ?_
  intro K13 hK13
  refine rg [0, 1] ?_
  refine sq ?_
  refine .r4 hs.g0.f4 ?_
  refine sq ?_
  intro K hK
  have k7_9 := (kb n8).o hd9 ho9
  replace g11 := g11.k k7_9
  replace g12 := g12.k k7_9
  go_big_op
  go_fit (rgFirst_any (.mk' (g11.zn L1.out.1) (g12.zn L1.out.2)) (by omega) (by omega))
  rintro e w_10 ⟨rfl, hb_10⟩
  replace hs := hs.bl hb_10
  rw [F1.out]
  refine hK _ _ rfl trivial ?_
  clear hK K
  apply wpSq_end
  refine hK13 _ _ ?_
  refine cf ?_
  refine wp_skip ?_
  refine hK11 _ _ ?_
  refine rg [0, 1, 2] ?_
  refine sq ?_
  refine .mv ?_
  refine sq ?_
  refine .r0 ?_
  refine sq ?_
  refine .mv ?_
  apply wpSq_end
  show Code.wp _ _ _ _ _
  refine wp_seq_k ?_
  intro K14 hK14
  refine wp_seq_k ?_
  intro K15 hK15
  refine rg [0, 1] ?_
  refine sq ?_
  refine .mv ?_
  refine sq ?_
  refine .r0 ?_
  apply wpSq_end
  refine hK15 _ _ ?_
  refine ct ?_
  refine wp_skip ?_
  refine hK14 _ _ ?_
  refine wp_seq_k ?_
  intro K16 hK16
  refine wp_block ?_
  refine wp_seq_k ?_
  intro K17 hK17
  refine rg [0, 1, 2, 3, 4] ?_
  refine sq ?_
  refine .r4 hs.g3.f4 ?_
  refine sq ?_
  refine .mv ?_
  refine sq ?_
  intro K hK
  have k6_10 := (((kb hb_7).b n8).o hd9 ho9).b hb_10
  replace ha1 := ha1.k k6_10
  replace ha2 := ha2.k k6_10
  go_big_op
  go_fit (rgTurn_p2 2 (by decide) (PN.mk' ha1 ha2) (by omega) (by omega))
  rintro e w_11 ⟨_, rfl, ⟨n_g2a, o_g2a, k_g2a, c_g2a, n_g2b, o_g2b, k_g2b, c_g2b, rfl, g21, g22⟩, hb_11⟩
  replace hs := hs.bl hb_11
  have Lg21 := hide (g21.lenOf (L2.out.1))
  have Lg22 := hide (g22.lenOf (L2.out.2))
  refine hK _ _ rfl trivial ?_
  clear hK K
  refine sq ?_
  refine .al hs ?_; clear hs; intro p_b5 w_12 hs n12 kb_b5
  refine sq ?_
  refine .s4 hs.g0 (fun _ => hs.u0 kb_b5) ?_; clear hs; intro w_13 hs hd13 ho13
  apply wpSq_end
  refine hK17 _ _ ?_
  refine wp_seq_k ?_
  intro K18 hK18
  refine rg [0, 1] ?_
  refine sq ?_
  refine .r4 hs.g0.f4 ?_
  refine sq ?_
  intro K hK
  have k11_13 := (kb n12).o hd13 ho13
  replace g21 := g21.k k11_13
  replace g22 := g22.k k11_13
  go_big_op
  go_fit (rgFirst_any (.mk' (g21.zn L2.out.1) (g22.zn L2.out.2)) (by omega) (by omega))
  rintro e w_14 ⟨rfl, hb_14⟩
  replace hs := hs.bl hb_14
  rw [F2.out]
  refine hK _ _ rfl trivial ?_
  clear hK K
  apply wpSq_end
  refine hK18 _ _ ?_
  refine cf ?_
  refine wp_skip ?_
  refine hK16 _ _ ?_
  refine rg [0, 1, 2] ?_
  refine sq ?_
  refine .mv ?_
  refine sq ?_
  refine .r0 ?_
  refine sq ?_
  refine .mv ?_
  apply wpSq_end
  show Code.wp _ _ _ _ _
  refine wp_seq_k ?_
  intro K19 hK19
  refine wp_seq_k ?_
  intro K20 hK20
  refine rg [0, 1] ?_
  refine sq ?_
  refine .mv ?_
  refine sq ?_
  refine .r0 ?_
  apply wpSq_end
  refine hK20 _ _ ?_
  refine ct ?_
  refine wp_skip ?_
  refine hK19 _ _ ?_
  refine wp_seq_k ?_
  intro K21 hK21
  refine wp_block ?_
  refine wp_seq_k ?_
  intro K22 hK22
  refine rg [0, 1, 2, 3, 4] ?_
  refine sq ?_
  refine .r4 hs.g4.f4 ?_
  refine sq ?_
  refine .mv ?_
  refine sq ?_
  intro K hK
  have k10_14 := (((kb hb_11).b n12).o hd13 ho13).b hb_14
  replace ha1 := ha1.k k10_14
  replace ha2 := ha2.k k10_14
  go_big_op
  go_fit (rgTurn_p3 3 (by decide) (PN.mk' ha1 ha2) (by omega) (by omega))
  rintro e w_15 ⟨_, rfl, ⟨n_g3a, o_g3a, k_g3a, c_g3a, n_g3b, o_g3b, k_g3b, c_g3b, rfl, g31, g32⟩, hb_15⟩
  replace hs := hs.bl hb_15
  have Lg31 := hide (g31.lenOf (L3.out.1))
  have Lg32 := hide (g32.lenOf (L3.out.2))
  refine hK _ _ rfl trivial ?_
  clear hK K
  refine sq ?_
  refine .al hs ?_; clear hs; intro p_b6 w_16 hs n16 kb_b6
  refine sq ?_
  refine .s4 hs.g0 (fun _ => hs.u0 kb_b6) ?_; clear hs; intro w_17 hs hd17 ho17
  apply wpSq_end
  refine hK22 _ _ ?_
  refine wp_seq_k ?_
  intro K23 hK23
  refine rg [0, 1] ?_
  refine sq ?_
  refine .r4 hs.g0.f4 ?_
  refine sq ?_
  intro K hK
  have k15_17 := (kb n16).o hd17 ho17
  replace g31 := g31.k k15_17
  replace g32 := g32.k k15_17
  go_big_op
  go_fit (rgFirst_any (.mk' (g31.zn L3.out.1) (g32.zn L3.out.2)) (by omega) (by omega))
  rintro e w_18 ⟨rfl, hb_18⟩
  clear g01 g02 g11 g12 g21 g22
  replace hs := hs.bl hb_18
  rw [F3.out]
  refine hK _ _ rfl trivial ?_
  clear hK K
  apply wpSq_end
  refine hK23 _ _ ?_
  refine ct ?_
  refine wp_seq_k ?_
  intro K24 hK24
  refine rg [0, 1, 2, 3] ?_
  refine sq ?_
  refine .r4 hs.g0.f4 ?_
  refine sq ?_
  refine .mv ?_
  refine sq ?_
  refine .s4 hs.g4 (fun _ => hs.u4 kb_b2) ?_; clear hs; intro w_19 hs hd19 ho19
  refine sq ?_
  refine .mv ?_
  apply wpSq_end
  refine hK24 _ _ ?_
  refine wp_ret ?_
  try dsimp only [Exit.then, Exit.inBlock]
  obtain ⟨r0_0, r0_1, r0_2, r0_3⟩ := hs.g4.f4
  refine bodyPost_ret (v := (.tuple #[(.agg #[.bool n_g3a, .slice o_g3a k_g3a c_g3a, .bool n_g3b, .slice o_g3b k_g3b c_g3b]), (.int .i64 3)])) (by simp [results, Tryz.results27, go_sem, r0_0, r0_1, r0_2, r0_3]) rfl ?_
  have k17_19 := (kb hb_18).o hd19 ho19
  replace g31 := g31.k k17_19
  replace g32 := g32.k k17_19
  exact ⟨_, rfl, .mk' g31 g32, hs.b⟩
set_option maxHeartbeats 4000000 in
set_option maxRecDepth 20000 in
theorem rgCanon_4 (ha : PN w va x l y m) (hl : l ≤ 20000000) (hm : m ≤ 20000000) (hx : x = 0 ∧ y = 0) :
    Calls Tryz.prog 27 #[va] w fun e w' => ∃ r, e = .returned (.tuple #[r, .int .i64 0]) ∧ PC w' r 0 0 ∧ Below w.heap.size w w' := by
  have L0 := hide (zlen_turn ha.len1 ha.len2 0)
  have F0 := hide (decide_eq_false (p := 0 < (turn 0 (x, y)).1 ∧ 0 ≤ (turn 0 (x, y)).2) (by simp only [turn_0]; omega))
  have L1 := hide (zlen_turn ha.len1 ha.len2 1)
  have F1 := hide (decide_eq_false (p := 0 < (turn 1 (x, y)).1 ∧ 0 ≤ (turn 1 (x, y)).2) (by simp only [turn_1]; omega))
  have L2 := hide (zlen_turn ha.len1 ha.len2 2)
  have F2 := hide (decide_eq_false (p := 0 < (turn 2 (x, y)).1 ∧ 0 ≤ (turn 2 (x, y)).2) (by simp only [turn_2]; omega))
  have L3 := hide (zlen_turn ha.len1 ha.len2 3)
  have F3 := hide (decide_eq_false (p := 0 < (turn 3 (x, y)).1 ∧ 0 ≤ (turn 3 (x, y)).2) (by simp only [turn_3]; omega))
  clear hx
  obtain ⟨n_0a, o_0a, k_0a, c_0a, n_0b, o_0b, k_0b, c_0b, rfl, ha1, ha2⟩ := ha
  go_enter Tryz.func27, Tryz.ntmps27
  have hs := St.nil w
  refine wp_seq_k ?_
  intro K1 hK1
  refine rg [0, 1, 2] ?_
  refine sq ?_
  refine .al hs ?_; clear hs; intro p_b1 w_1 hs n1 kb_b1
  refine sq ?_
  refine .al hs ?_; clear hs; intro p_b2 w_2 hs n2 kb_b2
  refine sq ?_
  refine .mv ?_
  apply wpSq_end
  refine hK1 _ _ ?_
  refine wp_seq_k ?_
  intro K2 hK2
  refine wp_seq_k ?_
  intro K3 hK3
  refine rg [0] ?_
  refine sq ?_
  refine .mv ?_
  apply wpSq_end
  refine hK3 _ _ ?_
  refine wp_block ?_
  refine wp_loop_rounds 5 ?_
  show Code.wp _ _ _ _ _
  refine wp_seq_k ?_
  intro K4 hK4
  refine wp_seq_k ?_
  intro K5 hK5
  refine rg [0, 1] ?_
  refine sq ?_
  refine .mv ?_
  refine sq ?_
  refine .r0 ?_
  apply wpSq_end
  refine hK5 _ _ ?_
  refine ct ?_
  refine wp_skip ?_
  refine hK4 _ _ ?_
  refine wp_seq_k ?_
  intro K6 hK6
  refine wp_block ?_
  refine wp_seq_k ?_
  intro K7 hK7
  refine rg [0, 1, 2, 3, 4] ?_
  refine sq ?_
  refine .r4 hs.g1.f4 ?_
  refine sq ?_
  refine .mv ?_
  refine sq ?_
  intro K hK
  have k0_2 := (kb n1).b n2
  replace ha1 := ha1.k k0_2
  replace ha2 := ha2.k k0_2
  go_big_op
  go_fit (rgTurn_p0 0 (by decide) (PN.mk' ha1 ha2) (by omega) (by omega))
  rintro e w_3 ⟨_, rfl, ⟨n_g0a, o_g0a, k_g0a, c_g0a, n_g0b, o_g0b, k_g0b, c_g0b, rfl, g01, g02⟩, hb_3⟩
  replace hs := hs.bl hb_3
  have Lg01 := hide (g01.lenOf (L0.out.1))
  have Lg02 := hide (g02.lenOf (L0.out.2))
  refine hK _ _ rfl trivial ?_
  clear hK K
  refine sq ?_
  refine .al hs ?_; clear hs; intro p_b3 w_4 hs n4 kb_b3
  refine sq ?_
  refine .s4 hs.g0 (fun _ => hs.u0 kb_b3) ?_; clear hs; intro w_5 hs hd5 ho5
  apply wpSq_end
  refine hK7 _ _ ?_
  refine wp_seq_k ?_
  intro K8 hK8
  refine rg [0, 1] ?_
  refine sq ?_
  refine .r4 hs.g0.f4 ?_
  refine sq ?_
  intro K hK
  have k3_5 := (kb n4).o hd5 ho5
  replace g01 := g01.k k3_5
  replace g02 := g02.k k3_5
  go_big_op
  go_fit (rgFirst_any (.mk' (g01.zn L0.out.1) (g02.zn L0.out.2)) (by omega) (by omega))
  rintro e w_6 ⟨rfl, hb_6⟩
  replace hs := hs.bl hb_6
  rw [F0.out]
  refine hK _ _ rfl trivial ?_
  clear hK K
  apply wpSq_end
  refine hK8 _ _ ?_
  refine cf ?_
  refine wp_skip ?_
  refine hK6 _ _ ?_
  refine rg [0, 1, 2] ?_
  refine sq ?_
  refine .mv ?_
  refine sq ?_
  refine .r0 ?_
  refine sq ?_
  refine .mv ?_
  apply wpSq_end
  show Code.wp _ _ _ _ _
  refine wp_seq_k ?_
  intro K9 hK9
  refine wp_seq_k ?_
  intro K10 hK10
  refine rg [0, 1] ?_
  refine sq ?_
  refine .mv ?_
  refine sq ?_
  refine .r0 ?_
  apply wpSq_end
  refine hK10 _ _ ?_
  refine ct ?_
  refine wp_skip ?_
  refine hK9 _ _ ?_
  refine wp_seq_k ?_
  intro K11 hK11
  refine wp_block ?_
  refine wp_seq_k ?_
  intro K12 hK12
  refine rg [0, 1, 2, 3, 4] ?_
  refine sq ?_
  refine .r4 hs.g2.f4 ?_
  refine sq ?_
  refine .mv ?_
  refine sq ?_
  intro K hK
  have k2_6 := (((kb hb_3).b n4).o hd5 ho5).b hb_6
  replace ha1 := ha1.k k2_6
  replace ha2 := ha2.k k2_6
  go_big_op
  go_fit (rgTurn_p1 1 (by decide) (PN.mk' ha1 ha2) (by omega) (by omega))
  rintro e w_7 ⟨_, rfl, ⟨n_g1a, o_g1a, k_g1a, c_g1a, n_g1b, o_g1b, k_g1b, c_g1b, rfl, g11, g12⟩, hb_7⟩
  replace hs := hs.bl hb_7
  have Lg11 := hide (g11.lenOf (L1.out.1))
  have Lg12 := hide (g12.lenOf (L1.out.2))
  refine hK _ _ rfl trivial ?_
  clear hK K
  refine sq ?_
  refine .al hs ?_; clear hs; intro p_b4 w_8 hs n8 kb_b4
  refine sq ?_
  refine .s4 hs.g0 (fun _ => hs.u0 kb_b4) ?_; clear hs; intro w_9 hs hd9 ho9
  apply wpSq_end
  refine hK12 _ _ ?_
  refine wp_seq_k ?_
  intro K13 hK13
  refine rg [0, 1] ?_
  refine sq ?_
  refine .r4 hs.g0.f4 ?_
  refine sq ?_
  intro K hK
  have k7_9 := (kb n8).o hd9 ho9
  replace g11 := g11.k k7_9
  replace g12 := g12.k k7_9
  go_big_op
  go_fit (rgFirst_any (.mk' (g11.zn L1.out.1) (g12.zn L1.out.2)) (by omega) (by omega))
  rintro e w_10 ⟨rfl, hb_10⟩
  replace hs := hs.bl hb_10
  rw [F1.out]
  refine hK _ _ rfl trivial ?_
  clear hK K
  apply wpSq_end
  refine hK13 _ _ ?_
  refine cf ?_
  refine wp_skip ?_
  refine hK11 _ _ ?_
  refine rg [0, 1, 2] ?_
  refine sq ?_
  refine .mv ?_
  refine sq ?_
  refine .r0 ?_
  refine sq ?_
  refine .mv ?_
  apply wpSq_end
  show Code.wp _ _ _ _ _
  refine wp_seq_k ?_
  intro K14 hK14
  refine wp_seq_k ?_
  intro K15 hK15
  refine rg [0, 1] ?_
  refine sq ?_
  refine .mv ?_
  refine sq ?_
  refine .r0 ?_
  apply wpSq_end
  refine hK15 _ _ ?_
  refine ct ?_
  refine wp_skip ?_
  refine hK14 _ _ ?_
  refine wp_seq_k ?_
  intro K16 hK16
  refine wp_block ?_
  refine wp_seq_k ?_
  intro K17 hK17
  refine rg [0, 1, 2, 3, 4] ?_
  refine sq ?_
  refine .r4 hs.g3.f4 ?_
  refine sq ?_
  refine .mv ?_
  refine sq ?_
  intro K hK
  have k6_10 := (((kb hb_7).b n8).o hd9 ho9).b hb_10
  replace ha1 := ha1.k k6_10
  replace ha2 := ha2.k k6_10
  go_big_op
  go_fit (rgTurn_p2 2 (by decide) (PN.mk' ha1 ha2) (by omega) (by omega))
  rintro e w_11 ⟨_, rfl, ⟨n_g2a, o_g2a, k_g2a, c_g2a, n_g2b, o_g2b, k_g2b, c_g2b, rfl, g21, g22⟩, hb_11⟩
  replace hs := hs.bl hb_11
  have Lg21 := hide (g21.lenOf (L2.out.1))
  have Lg22 := hide (g22.lenOf (L2.out.2))
  refine hK _ _ rfl trivial ?_
  clear hK K
  refine sq ?_
  refine .al hs ?_; clear hs; intro p_b5 w_12 hs n12 kb_b5
  refine sq ?_
  refine .s4 hs.g0 (fun _ => hs.u0 kb_b5) ?_; clear hs; intro w_13 hs hd13 ho13
  apply wpSq_end
  refine hK17 _ _ ?_
  refine wp_seq_k ?_
  intro K18 hK18
  refine rg [0, 1] ?_
  refine sq ?_
  refine .r4 hs.g0.f4 ?_
  refine sq ?_
  intro K hK
  have k11_13 := (kb n12).o hd13 ho13
  replace g21 := g21.k k11_13
  replace g22 := g22.k k11_13
  go_big_op
  go_fit (rgFirst_any (.mk' (g21.zn L2.out.1) (g22.zn L2.out.2)) (by omega) (by omega))
  rintro e w_14 ⟨rfl, hb_14⟩
  replace hs := hs.bl hb_14
  rw [F2.out]
  refine hK _ _ rfl trivial ?_
  clear hK K
  apply wpSq_end
  refine hK18 _ _ ?_
  refine cf ?_
  refine wp_skip ?_
  refine hK16 _ _ ?_
  refine rg [0, 1, 2] ?_
  refine sq ?_
  refine .mv ?_
  refine sq ?_
  refine .r0 ?_
  refine sq ?_
  refine .mv ?_
  apply wpSq_end
  show Code.wp _ _ _ _ _
  refine wp_seq_k ?_
  intro K19 hK19
  refine wp_seq_k ?_
  intro K20 hK20
  refine rg [0, 1] ?_
  refine sq ?_
  refine .mv ?_
  refine sq ?_
  refine .r0 ?_
  apply wpSq_end
  refine hK20 _ _ ?_
  refine ct ?_
  refine wp_skip ?_
  refine hK19 _ _ ?_
  refine wp_seq_k ?_
  intro K21 hK21
  refine wp_block ?_
  refine wp_seq_k ?_
  intro K22 hK22
  refine rg [0, 1, 2, 3, 4] ?_
  refine sq ?_
  refine .r4 hs.g4.f4 ?_
  refine sq ?_
  refine .mv ?_
  refine sq ?_
  intro K hK
  have k10_14 := (((kb hb_11).b n12).o hd13 ho13).b hb_14
  replace ha1 := ha1.k k10_14
  replace ha2 := ha2.k k10_14
  go_big_op
  go_fit (rgTurn_p3 3 (by decide) (PN.mk' ha1 ha2) (by omega) (by omega))
  rintro e w_15 ⟨_, rfl, ⟨n_g3a, o_g3a, k_g3a, c_g3a, n_g3b, o_g3b, k_g3b, c_g3b, rfl, g31, g32⟩, hb_15⟩
  replace hs := hs.bl hb_15
  have Lg31 := hide (g31.lenOf (L3.out.1))
  have Lg32 := hide (g32.lenOf (L3.out.2))
  refine hK _ _ rfl trivial ?_
  clear hK K
  refine sq ?_
  refine .al hs ?_; clear hs; intro p_b6 w_16 hs n16 kb_b6
  refine sq ?_
  refine .s4 hs.g0 (fun _ => hs.u0 kb_b6) ?_; clear hs; intro w_17 hs hd17 ho17
  apply wpSq_end
  refine hK22 _ _ ?_
  refine wp_seq_k ?_
  intro K23 hK23
  refine rg [0, 1] ?_
  refine sq ?_
  refine .r4 hs.g0.f4 ?_
  refine sq ?_
  intro K hK
  have k15_17 := (kb n16).o hd17 ho17
  replace g31 := g31.k k15_17
  replace g32 := g32.k k15_17
  go_big_op
  go_fit (rgFirst_any (.mk' (g31.zn L3.out.1) (g32.zn L3.out.2)) (by omega) (by omega))
  rintro e w_18 ⟨rfl, hb_18⟩
  clear g01 g02 g11 g12 g21 g22
  replace hs := hs.bl hb_18
  rw [F3.out]
  refine hK _ _ rfl trivial ?_
  clear hK K
  apply wpSq_end
  refine hK23 _ _ ?_
  refine cf ?_
  refine wp_skip ?_
  refine hK21 _ _ ?_
  refine rg [0, 1, 2] ?_
  refine sq ?_
  refine .mv ?_
  refine sq ?_
  refine .r0 ?_
  refine sq ?_
  refine .mv ?_
  apply wpSq_end
  show Code.wp _ _ _ _ _
  refine wp_seq_k ?_
  intro K24 hK24
  refine wp_seq_k ?_
  intro K25 hK25
  refine rg [0, 1] ?_
  refine sq ?_
  refine .mv ?_
  refine sq ?_
  refine .r0 ?_
  apply wpSq_end
  refine hK25 _ _ ?_
  refine cf ?_
  refine wp_exit ?_
  refine hK2 _ _ ?_
  refine wp_seq_k ?_
  intro K26 hK26
  refine rg [0, 1, 2] ?_
  refine sq ?_
  intro K hK
  go_big_op
  go_fit (rgI_any 0 0 _ (by decide) (by decide) (by decide) (by decide))
  rintro e w_19 ⟨_, rfl, ⟨n_ha, o_ha, k_ha, c_ha, n_hb, o_hb, k_hb, c_hb, rfl, h1, h2⟩, hb_19⟩
  replace hs := hs.bl hb_19
  refine hK _ _ rfl trivial ?_
  clear hK K
  refine sq ?_
  refine .s4 hs.g4 (fun _ => hs.u4 kb_b2) ?_; clear hs; intro w_20 hs hd20 ho20
  refine sq ?_
  refine .mv ?_
  apply wpSq_end
  refine hK26 _ _ ?_
  refine wp_ret ?_
  try dsimp only [Exit.then, Exit.inBlock]
  obtain ⟨r0_0, r0_1, r0_2, r0_3⟩ := hs.g4.f4
  refine bodyPost_ret (v := (.tuple #[(.agg #[.bool n_ha, .slice o_ha k_ha c_ha, .bool n_hb, .slice o_hb k_hb c_hb]), (.int .i64 0)])) (by simp [results, Tryz.results27, go_sem, r0_0, r0_1, r0_2, r0_3]) rfl ?_
  have k19_20 := ko hd20 ho20
  replace h1 := h1.k k19_20
  replace h2 := h2.k k19_20
  exact ⟨_, rfl, .mk' h1 h2, hs.b⟩
theorem rgCanon_any (ha : PN w va x l y m) (hl : l ≤ 20000000) (hm : m ≤ 20000000) :
    Calls Tryz.prog 27 #[va] w fun e w' => ∃ r, e = .returned (.tuple #[r, .int .i64 ((kq x y : Nat) : Int)]) ∧ PC w' r (turn (kq x y) (x, y)).1 (turn (kq x y) (x, y)).2 ∧ Below w.heap.size w w' := by
  rcases kq_cases x y with ⟨e, h⟩ | ⟨e, h⟩ | ⟨e, h⟩ | ⟨e, h | h⟩ <;> rw [e]
  · exact rgCanon_1 ha hl hm h
  · exact rgCanon_2 ha hl hm h
  · exact rgCanon_3 ha hl hm h
  · exact rgCanon_0 ha hl hm h
  · obtain ⟨rfl, rfl⟩ := h; exact rgCanon_4 ha hl hm ⟨rfl, rfl⟩
end
end Go.Proofs.YthlhekkcjficdaaGreat


/- gprime.normOf, isNormOfPrime, IsPrime. -/
namespace Go.Proofs.YthlhekkcjficdaaGreat
open Go Go.RowKit Dig
set_option linter.unusedVariables false

theorem sq_abs (x : Int) : x * x = ((x.natAbs * x.natAbs : Nat) : Int) := by
  rw [Int.natAbs_mul_self]
theorem gN_nat (x y : Int) : gN x y = ((x.natAbs * x.natAbs + y.natAbs * y.natAbs : Nat) : Int) := by
  unfold gN; rw [sq_abs x, sq_abs y, Int.natCast_add]
theorem bits_16 {A : Nat} : bitsN A ≤ 16 ↔ A < 65536 := by
  constructor
  · intro h
    exact Nat.lt_of_lt_of_le (bitsN_lt A) (Nat.pow_le_pow_right (by decide) h)
  · intro h
    rcases Nat.eq_zero_or_pos A with h0 | h0
    · subst h0; decide
    · have h1 := bitsN_le (Nat.ne_of_gt h0)
      rcases Nat.lt_or_ge 16 (bitsN A) with h2 | h2
      · have := Nat.pow_le_pow_right (n := 2) (by decide) (show 16 ≤ bitsN A - 1 by omega)
        omega
      · exact h2
theorem bits_32 {A : Nat} : bitsN A ≤ 32 ↔ A < 4294967296 := by
  constructor
  · intro h
    exact Nat.lt_of_lt_of_le (bitsN_lt A) (Nat.pow_le_pow_right (by decide) h)
  · intro h
    rcases Nat.eq_zero_or_pos A with h0 | h0
    · subst h0; decide
    · have h1 := bitsN_le (Nat.ne_of_gt h0)
      rcases Nat.lt_or_ge 32 (bitsN A) with h2 | h2
      · have := Nat.pow_le_pow_right (n := 2) (by decide) (show 32 ≤ bitsN A - 1 by omega)
        omega
      · exact h2
theorem norm_small {x y : Int} (h : gN x y < 4294967296) : bitsN x.natAbs ≤ 16 ∧ bitsN y.natAbs ≤ 16 := by
  rw [gN_nat] at h
  have key : ∀ a b : Nat, a * a + b * b < 4294967296 → a < 65536 := fun a b h => by
    rcases Nat.lt_or_ge a 65536 with h1 | h1
    · exact h1
    · have := Nat.mul_le_mul h1 h1; omega
  exact ⟨bits_16.2 (key _ y.natAbs (by omega)), bits_16.2 (key _ x.natAbs (by omega))⟩
section
variable {w : World} {va : Value} {x y z : Int} {l m : Nat}
set_option maxHeartbeats 4000000 in
set_option maxRecDepth 20000 in
theorem psmall_any (N : Nat) (ha : ZN w va (N : Int) l) (hl : l ≤ 100000000) (hN : N < 8589934592) :
    Calls Tryz.prog 33 #[va] w fun e w' => e = .returned (.int .u64 (N : Int)) ∧ Below w.heap.size w w' := by
  obtain ⟨n_0, o_0, k_0, c_0, rfl⟩ := ha.open2
  go_enter Tryz.func33, Tryz.ntmps33
  have hs := St.nil w
  refine wp_seq_k ?_
  intro K1 hK1
  refine rg [0, 1] ?_
  refine sq ?_
  refine .al hs ?_; clear hs; intro p_b1 w_1 hs n1 kb_b1
  refine sq ?_
  refine .mv ?_
  apply wpSq_end
  refine hK1 _ _ ?_
  refine wp_seq_k ?_
  intro K2 hK2
  refine rg [0, 1, 2, 3, 4, 5, 6] ?_
  refine sq ?_
  refine .r2 hs.g0.f2 ?_
  refine sq ?_
  intro K hK
  have k0_1 := kb n1
  replace ha := ha.k k0_1
  go_big_op
  go_fit (int_any ha (by omega) (by omega) (by omega))
  rintro e w_2 ⟨rfl, hb_2⟩
  replace hs := hs.bl hb_2
  refine hK _ _ rfl trivial ?_
  clear hK K
  refine sq ?_
  refine .mv ?_
  refine sq ?_
  refine .r0 ?_
  refine sq ?_
  refine .r0 ?_
  refine sq ?_
  refine .mv ?_
  refine sq ?_
  refine .mv ?_
  apply wpSq_end
  refine hK2 _ _ ?_
  refine wp_seq_k ?_
  intro K3 hK3
  refine rg [0, 1, 2] ?_
  refine sq ?_
  refine .mv ?_
  refine sq ?_
  refine .r0 ?_
  refine sq ?_
  refine .mv ?_
  apply wpSq_end
  refine hK3 _ _ ?_
  refine wp_ret ?_
  try dsimp only [Exit.then, Exit.inBlock]
  refine bodyPost_ret (v := (.int .u64 (N : Int))) (by simp [results, Tryz.results33, go_sem]) rfl ?_
  exact ⟨rfl, hs.b⟩
set_option maxHeartbeats 4000000 in
set_option maxRecDepth 20000 in
theorem normOf_any (N : Nat) (ha : PN w va x l y m) (hl : l ≤ 20000000) (hm : m ≤ 20000000) (hn : gN x y = (N : Int)) (hN : N < 4294967296) :
    Calls Tryz.prog 11 #[va] w fun e w' => e = .returned (.tuple #[.int .u64 (N : Int), .int .i64 0]) ∧ Below w.heap.size w w' := by
  have HN := hide hn
  have LN := hide (show (dig ((N : Int)).natAbs).length ≤ 2 by rw [Int.natAbs_natCast]; exact dig_length_le (Nat.lt_trans hN (by decide)))
  have hb1 := (norm_small (x := x) (y := y) (by omega)).1
  have hb2 := (norm_small (x := x) (y := y) (by omega)).2
  have hbN := bits_32.2 hN
  clear hn
  obtain ⟨n_0a, o_0a, k_0a, c_0a, n_0b, o_0b, k_0b, c_0b, rfl, ha1, ha2⟩ := ha
  go_enter Tryz.func11, Tryz.ntmps11
  have hs := St.nil w
  refine wp_seq_k ?_
  intro K1 hK1
  refine rg [0, 1, 2] ?_
  refine sq ?_
  refine .al hs ?_; clear hs; intro p_b1 w_1 hs n1 kb_b1
  refine sq ?_
  refine .mv ?_
  refine sq ?_
  refine .mv ?_
  apply wpSq_end
  refine hK1 _ _ ?_
  refine wp_seq_k ?_
  intro K2 hK2
  refine wp_seq_k ?_
  intro K3 hK3
  refine wp_region_f4 [(0, false), (1, false), (3, false), (4, false), (2, true), (5, true), (6, true), (7, false)] [] [] (fun _ => default) [99, 0, 99, 99, 0, 99, 99, 99] [] (.c hs.g0 .n) fn fun w_2 n2 => ?_
  replace hs := hs.bl n2
  refine f0 ?_
  refine f4 ?_
  refine f0 ?_
  refine f4 ?_
  refine fl fun w_3 n3 => ?_
  replace hs := hs.bl n3
  intro K hK
  have k0_3 := ((kb n1).b n2).b n3
  replace ha1 := ha1.k k0_3
  go_big_op
  go_fit (zbits_any ha1 (by omega) )
  rintro e w_4 ⟨rfl, hb_4⟩
  replace hs := hs.bl hb_4
  refine hK _ _ rfl ⟨hb_4, (And.intro hs.g0 trivial)⟩ ?_
  clear hK K
  refine fl fun w_5 n5 => ?_
  replace hs := hs.bl n5
  intro K hK
  have k0_5 := (k0_3.b hb_4).b n5
  replace ha2 := ha2.k k0_5
  go_big_op
  go_fit (zbits_any ha2 (by omega) )
  rintro e w_6 ⟨rfl, hb_6⟩
  replace hs := hs.bl hb_6
  refine hK _ _ rfl ⟨hb_6, (And.intro hs.g0 trivial)⟩ ?_
  clear hK K
  refine fl fun w_7 n7 => ?_
  replace hs := hs.bl n7
  refine .r0 ?_ (e := ⟨Below.refl _ _, (And.intro hs.g0 trivial)⟩)
  refine f0 ?_
  refine e0 hs ?_; clear hs; intro w_8 hs n8
  apply wpTail_end
  refine hK3 _ _ ?_
  refine cf ?_
  refine wp_skip ?_
  refine hK2 _ _ ?_
  refine wp_seq_k ?_
  intro K4 hK4
  refine rg [0, 1, 2, 3] ?_
  refine sq ?_
  refine .r4 hs.g0.f4 ?_
  refine sq ?_
  intro K hK
  have k3_8 := ((((kb hb_4).b n5).b hb_6).b n7).b n8
  replace ha1 := ha1.k k3_8
  have k5_8 := ((kb hb_6).b n7).b n8
  replace ha2 := ha2.k k5_8
  go_big_op
  go_fit (gNorm_any (PN.mk' ha1 ha2) (by omega) (by omega) )
  rintro e w_9 ⟨v_g, rfl, g, hb_9⟩
  replace hs := hs.bl hb_9
  obtain ⟨n_g, o_g, k_g, c_g, rfl⟩ := g.open2
  have Lg := hide (g.lenOf (zlen_add (zlen_mul (ha1.len) (ha1.len)) (zlen_mul (ha2.len) (ha2.len))))
  refine hK _ _ rfl trivial ?_
  clear hK K
  refine sq ?_
  refine .al hs ?_; clear hs; intro p_b2 w_10 hs n10 kb_b2
  refine sq ?_
  refine .s2 hs.g0 (fun _ => hs.u0 kb_b2) ?_; clear hs; intro w_11 hs hd11 ho11
  apply wpSq_end
  refine hK4 _ _ ?_
  refine wp_seq_k ?_
  intro K5 hK5
  refine wp_seq_k ?_
  intro K6 hK6
  refine rg [0, 1, 2] ?_
  refine sq ?_
  refine .r2 hs.g0.f2 ?_
  have k9_11 := (kb n10).o hd11 ho11
  replace g := g.k k9_11
  rw [HN.out] at g
  have Lg := hide (g.lenOf (LN.out))
  refine sq ?_
  intro K hK
  go_big_op
  go_fit (zbits_any (g.zn Lg.out) (by omega) )
  rintro e w_12 ⟨rfl, hb_12⟩
  replace hs := hs.bl hb_12
  rw [Int.natAbs_natCast]
  refine hK _ _ rfl trivial ?_
  clear hK K
  refine sq ?_
  refine .r0 ?_
  apply wpSq_end
  refine hK6 _ _ ?_
  refine cf ?_
  refine wp_skip ?_
  refine hK5 _ _ ?_
  refine wp_seq_k ?_
  intro K7 hK7
  refine rg [0, 1, 2, 3] ?_
  refine sq ?_
  refine .r2 hs.g0.f2 ?_
  refine sq ?_
  intro K hK
  have k11_12 := kb hb_12
  replace g := g.k k11_12
  go_big_op
  go_fit (psmall_any N (g.zn Lg.out) (by omega) (by omega))
  rintro e w_13 ⟨rfl, hb_13⟩
  replace hs := hs.bl hb_13
  refine hK _ _ rfl trivial ?_
  clear hK K
  refine sq ?_
  refine .mv ?_
  refine sq ?_
  refine .mv ?_
  apply wpSq_end
  refine hK7 _ _ ?_
  refine wp_ret ?_
  try dsimp only [Exit.then, Exit.inBlock]
  refine bodyPost_ret (v := (.tuple #[(.int .u64 (N : Int)), (.int .i64 0)])) (by simp [results, Tryz.results11, go_sem]) rfl ?_
  exact ⟨rfl, hs.b⟩
set_option maxHeartbeats 4000000 in
set_option maxRecDepth 20000 in
theorem normOf_big (ha : PN w va x l y m) (hl : l ≤ 20000000) (hm : m ≤ 20000000) (hn : 4294967296 ≤ gN x y) :
    Calls Tryz.prog 11 #[va] w fun e w' => e = .returned (.tuple #[.int .u64 0, .int .i64 12]) ∧ Below w.heap.size w w' := by
  have HN := hide (show ¬ bitsN (gN x y).natAbs ≤ 32 from fun hc => by have := bits_32.1 hc; omega)
  clear hn
  by_cases hb : bitsN x.natAbs ≤ 16 ∧ bitsN y.natAbs ≤ 16
  · obtain ⟨hb1, hb2⟩ := hb
    obtain ⟨n_0a, o_0a, k_0a, c_0a, n_0b, o_0b, k_0b, c_0b, rfl, ha1, ha2⟩ := ha
    go_enter Tryz.func11, Tryz.ntmps11
    have hs := St.nil w
    refine wp_seq_k ?_
    intro K1 hK1
    refine rg [0, 1, 2] ?_
    refine sq ?_
    refine .al hs ?_; clear hs; intro p_b1 w_1 hs n1 kb_b1
    refine sq ?_
    refine .mv ?_
    refine sq ?_
    refine .mv ?_
    apply wpSq_end
    refine hK1 _ _ ?_
    refine wp_seq_k ?_
    intro K2 hK2
    refine wp_seq_k ?_
    intro K3 hK3
    refine wp_region_f4 [(0, false), (1, false), (3, false), (4, false), (2, true), (5, true), (6, true), (7, false)] [] [] (fun _ => default) [99, 0, 99, 99, 0, 99, 99, 99] [] (.c hs.g0 .n) fn fun w_2 n2 => ?_
    replace hs := hs.bl n2
    refine f0 ?_
    refine f4 ?_
    refine f0 ?_
    refine f4 ?_
    refine fl fun w_3 n3 => ?_
    replace hs := hs.bl n3
    intro K hK
    have k0_3 := ((kb n1).b n2).b n3
    replace ha1 := ha1.k k0_3
    go_big_op
    go_fit (zbits_any ha1 (by omega) )
    rintro e w_4 ⟨rfl, hb_4⟩
    replace hs := hs.bl hb_4
    refine hK _ _ rfl ⟨hb_4, (And.intro hs.g0 trivial)⟩ ?_
    clear hK K
    refine fl fun w_5 n5 => ?_
    replace hs := hs.bl n5
    intro K hK
    have k0_5 := (k0_3.b hb_4).b n5
    replace ha2 := ha2.k k0_5
    go_big_op
    go_fit (zbits_any ha2 (by omega) )
    rintro e w_6 ⟨rfl, hb_6⟩
    replace hs := hs.bl hb_6
    refine hK _ _ rfl ⟨hb_6, (And.intro hs.g0 trivial)⟩ ?_
    clear hK K
    refine fl fun w_7 n7 => ?_
    replace hs := hs.bl n7
    refine .r0 ?_ (e := ⟨Below.refl _ _, (And.intro hs.g0 trivial)⟩)
    refine f0 ?_
    refine e0 hs ?_; clear hs; intro w_8 hs n8
    apply wpTail_end
    refine hK3 _ _ ?_
    refine cf ?_
    refine wp_skip ?_
    refine hK2 _ _ ?_
    refine wp_seq_k ?_
    intro K4 hK4
    refine rg [0, 1, 2, 3] ?_
    refine sq ?_
    refine .r4 hs.g0.f4 ?_
    refine sq ?_
    intro K hK
    have k3_8 := ((((kb hb_4).b n5).b hb_6).b n7).b n8
    replace ha1 := ha1.k k3_8
    have k5_8 := ((kb hb_6).b n7).b n8
    replace ha2 := ha2.k k5_8
    go_big_op
    go_fit (gNorm_any (PN.mk' ha1 ha2) (by omega) (by omega) )
    rintro e w_9 ⟨v_g, rfl, g, hb_9⟩
    replace hs := hs.bl hb_9
    obtain ⟨n_g, o_g, k_g, c_g, rfl⟩ := g.open2
    have Lg := hide (g.lenOf (zlen_add (zlen_mul (ha1.len) (ha1.len)) (zlen_mul (ha2.len) (ha2.len))))
    refine hK _ _ rfl trivial ?_
    clear hK K
    refine sq ?_
    refine .al hs ?_; clear hs; intro p_b2 w_10 hs n10 kb_b2
    refine sq ?_
    refine .s2 hs.g0 (fun _ => hs.u0 kb_b2) ?_; clear hs; intro w_11 hs hd11 ho11
    apply wpSq_end
    refine hK4 _ _ ?_
    refine wp_seq_k ?_
    intro K5 hK5
    refine wp_seq_k ?_
    intro K6 hK6
    refine rg [0, 1, 2] ?_
    refine sq ?_
    refine .r2 hs.g0.f2 ?_
    have HN' := HN.out
    refine sq ?_
    intro K hK
    have k9_11 := (kb n10).o hd11 ho11
    replace g := g.k k9_11
    go_big_op
    go_fit (zbits_any (g.zn Lg.out) (by omega) )
    rintro e w_12 ⟨rfl, hb_12⟩
    replace hs := hs.bl hb_12
    refine hK _ _ rfl trivial ?_
    clear hK K
    refine sq ?_
    refine .r0 ?_
    apply wpSq_end
    refine hK6 _ _ ?_
    refine ct ?_
    refine wp_seq_k ?_
    intro K7 hK7
    refine rg [0, 1] ?_
    refine sq ?_
    refine .mv ?_
    refine sq ?_
    refine .mv ?_
    apply wpSq_end
    refine hK7 _ _ ?_
    refine wp_ret ?_
    try dsimp only [Exit.then, Exit.inBlock]
    refine bodyPost_ret (v := (.tuple #[(.int .u64 0), (.int .i64 12)])) (by simp [results, Tryz.results11, go_sem]) rfl ?_
    exact ⟨rfl, hs.b⟩
  · obtain ⟨n_0a, o_0a, k_0a, c_0a, n_0b, o_0b, k_0b, c_0b, rfl, ha1, ha2⟩ := ha
    go_enter Tryz.func11, Tryz.ntmps11
    have hs := St.nil w
    refine wp_seq_k ?_
    intro K1 hK1
    refine rg [0, 1, 2] ?_
    refine sq ?_
    refine .al hs ?_; clear hs; intro p_b1 w_1 hs n1 kb_b1
    refine sq ?_
    refine .mv ?_
    refine sq ?_
    refine .mv ?_
    apply wpSq_end
    refine hK1 _ _ ?_
    refine wp_seq_k ?_
    intro K2 hK2
    refine wp_seq_k ?_
    intro K3 hK3
    refine wp_region_f4 [(0, false), (1, false), (3, false), (4, false), (2, true), (5, true), (6, true), (7, false)] [] [] (fun _ => default) [99, 0, 99, 99, 0, 99, 99, 99] [] (.c hs.g0 .n) fn fun w_2 n2 => ?_
    replace hs := hs.bl n2
    refine f0 ?_
    refine f4 ?_
    refine f0 ?_
    refine f4 ?_
    refine fl fun w_3 n3 => ?_
    replace hs := hs.bl n3
    intro K hK
    have k0_3 := ((kb n1).b n2).b n3
    replace ha1 := ha1.k k0_3
    go_big_op
    go_fit (zbits_any ha1 (by omega) )
    rintro e w_4 ⟨rfl, hb_4⟩
    replace hs := hs.bl hb_4
    refine hK _ _ rfl ⟨hb_4, (And.intro hs.g0 trivial)⟩ ?_
    clear hK K
    refine fl fun w_5 n5 => ?_
    replace hs := hs.bl n5
    intro K hK
    have k0_5 := (k0_3.b hb_4).b n5
    replace ha2 := ha2.k k0_5
    go_big_op
    go_fit (zbits_any ha2 (by omega) )
    rintro e w_6 ⟨rfl, hb_6⟩
    replace hs := hs.bl hb_6
    refine hK _ _ rfl ⟨hb_6, (And.intro hs.g0 trivial)⟩ ?_
    clear hK K
    refine fl fun w_7 n7 => ?_
    replace hs := hs.bl n7
    refine .r0 ?_ (e := ⟨Below.refl _ _, (And.intro hs.g0 trivial)⟩)
    refine f0 ?_
    refine e0 hs ?_; clear hs; intro w_8 hs n8
    apply wpTail_end
    refine hK3 _ _ ?_
    refine ct ?_
    refine wp_seq_k ?_
    intro K4 hK4
    refine rg [0, 1] ?_
    refine sq ?_
    refine .mv ?_
    refine sq ?_
    refine .mv ?_
    apply wpSq_end
    refine hK4 _ _ ?_
    refine wp_ret ?_
    try dsimp only [Exit.then, Exit.inBlock]
    refine bodyPost_ret (v := (.tuple #[(.int .u64 0), (.int .i64 12)])) (by simp [results, Tryz.results11, go_sem]) rfl ?_
    exact ⟨rfl, hs.b⟩
theorem prime_bits {n p : Nat} (h2 : 2 ≤ n) (hp : IsLf n p) (h : p ≠ n) : p * p ≤ n := by
  obtain ⟨q, hq⟩ := hp.1
  have h2 : 2 ≤ q := by
    rcases Nat.lt_or_ge q 2 with h1 | h1
    · have : q = 0 ∨ q = 1 := by omega
      rcases this with rfl | rfl
      · rw [Nat.mul_zero] at hq; omega
      · omega
    · exact h1
  have h3 := hp.2.2 q h2 ⟨p, by rw [hq, Nat.mul_comm]⟩
  rw [hq]; exact Nat.mul_le_mul_left p h3
theorem lf_ex' (n : Nat) : ∀ m k, k + m = n → 2 ≤ k → (∀ e, 2 ≤ e → e < k → ¬ e ∣ n) → ∃ p, IsLf n p := by
  intro m
  induction m with
  | zero => intro k hk h2 hl; exact ⟨k, lf_div h2 (by rw [← hk]; exact Nat.dvd_refl k) hl⟩
  | succ m ih =>
    intro k hk h2 hl
    by_cases hd : k ∣ n
    · exact ⟨k, lf_div h2 hd hl⟩
    · refine ih (k + 1) (by omega) (by omega) fun e h3 h4 h5 => ?_
      rcases Nat.lt_or_ge e k with h | h
      · exact hl e h3 h h5
      · obtain rfl : e = k := by omega
        exact hd h5
theorem lf_ex {n : Nat} (h : 2 ≤ n) : ∃ p, IsLf n p := lf_ex' n (n - 2) 2 (by omega) (by omega) (by intro e h1 h2; omega)
theorem IsLf.le {n p : Nat} (h2 : 2 ≤ n) (h : IsLf n p) : p ≤ n := Nat.le_of_dvd (by omega) h.1
theorem leastP {n p : Nat} (hp : IsLf n p) (h2 : 2 ≤ n) (hn : n < 4294967296) : Calls Tryz.prog 34 #[.int .u64 (n : Int)] w fun e w' => e = .returned (.int .u64 (p : Int)) ∧ w = w' :=
  (least_u64 n w h2 hn).mono fun e w' ⟨r, h1, h3, h4⟩ => ⟨by rw [h1, h3.uniq hp], h4⟩
theorem rleastP {n p : Nat} (hp : IsLf n p) (h2 : 2 ≤ n) (hn : n < 4294967296) : Calls Tryz.prog 24 #[.int .i64 (n : Int)] w fun e w' => e = .returned (.int .i64 (p : Int)) ∧ w = w' :=
  (least_i64 n w h2 hn).mono fun e w' ⟨r, h1, h3, h4⟩ => ⟨by rw [h1, h3.uniq hp], h4⟩
set_option maxHeartbeats 4000000 in
set_option maxRecDepth 20000 in
theorem inop_low (n : Nat) (h : n < 2) :
    Calls Tryz.prog 47 #[.int .u64 (n : Int)] w fun e w' => e = .returned (.bool false) ∧ Below w.heap.size w w' := by
  go_enter Tryz.func47, Tryz.ntmps47
  have hs := St.nil w
  refine wp_seq_k ?_
  intro K1 hK1
  refine rg [0] ?_
  refine sq ?_
  refine .mv ?_
  apply wpSq_end
  refine hK1 _ _ ?_
  refine wp_seq_k ?_
  intro K2 hK2
  refine wp_seq_k ?_
  intro K3 hK3
  refine rg [0, 1] ?_
  refine sq ?_
  refine .mv ?_
  refine sq ?_
  refine .r0 ?_
  apply wpSq_end
  refine hK3 _ _ ?_
  refine ct ?_
  refine wp_seq_k ?_
  intro K4 hK4
  refine rg [0] ?_
  refine sq ?_
  refine .mv ?_
  apply wpSq_end
  refine hK4 _ _ ?_
  refine wp_ret ?_
  try dsimp only [Exit.then, Exit.inBlock]
  refine bodyPost_ret (v := (.bool false)) (by simp [results, Tryz.results47, go_sem]) rfl ?_
  exact ⟨rfl, hs.b⟩
set_option maxHeartbeats 4000000 in
set_option maxRecDepth 20000 in
theorem int_beq (q n : Nat) : ((q : Int) == (n : Int)) = decide (q = n) := by rw [Bool.eq_iff_iff]; simp only [beq_iff_eq, decide_eq_true_eq]; omega
set_option maxHeartbeats 4000000 in
set_option maxRecDepth 20000 in
theorem inop_any {n p : Nat} (hp : IsLf n p) (h2 : 2 ≤ n) (hn : n < 4294967296) :
    Calls Tryz.prog 47 #[.int .u64 (n : Int)] w fun e w' => e = .returned (.bool (decide (p = n ∨ (p % 4 = 3 ∧ p * p = n)))) ∧ Below w.heap.size w w' := by
  have HP := hide hp
  have hpn := hp.le h2
  by_cases h : p = n
  · have HL := hide (leastP hp h2 hn (w := w))
    rw [decide_eq_true (.inl h)]
    clear hp
    have hb : ((p : Int) == (n : Int)) = true := by simp; omega
    go_enter Tryz.func47, Tryz.ntmps47
    have hs := St.nil w
    refine wp_seq_k ?_
    intro K1 hK1
    refine rg [0] ?_
    refine sq ?_
    refine .mv ?_
    apply wpSq_end
    refine hK1 _ _ ?_
    refine wp_seq_k ?_
    intro K2 hK2
    refine wp_seq_k ?_
    intro K3 hK3
    refine rg [0, 1] ?_
    refine sq ?_
    refine .mv ?_
    refine sq ?_
    refine .r0 ?_
    apply wpSq_end
    refine hK3 _ _ ?_
    refine cf ?_
    refine wp_skip ?_
    refine hK2 _ _ ?_
    refine wp_seq_k ?_
    intro K4 hK4
    refine rg [0, 1, 2] ?_
    refine sq ?_
    refine .mv ?_
    refine sq ?_
    intro K hK
    go_big_op
    go_fit (HL.out)
    rintro e w_1 ⟨rfl, e_1⟩
    (first | rw [e_1] | rw [← e_1]); clear e_1 w_1
    refine hK _ _ rfl trivial ?_
    clear hK K
    refine sq ?_
    refine .mv ?_
    apply wpSq_end
    refine hK4 _ _ ?_
    refine wp_seq_k ?_
    intro K5 hK5
    refine rg [0, 1, 2, 3, 4, 5, 6, 7, 8, 9, 10, 11, 12, 13, 14, 15] ?_
    refine sq ?_
    refine .mv ?_
    refine sq ?_
    refine .mv ?_
    refine sq ?_
    refine .r0 ?_
    refine sq ?_
    refine .mv ?_
    refine sk ?_
    refine sk ?_
    refine sk ?_
    refine sk ?_
    refine sk ?_
    refine sk ?_
    refine sk ?_
    refine sk ?_
    refine sk ?_
    refine sk ?_
    refine sq ?_
    refine .r0 ?_
    refine sq ?_
    refine .mv ?_
    apply wpSq_end
    refine hK5 _ _ ?_
    refine wp_ret ?_
    try dsimp only [Exit.then, Exit.inBlock]
    refine bodyPost_ret (v := (.bool true)) (by simp [results, Tryz.results47, go_sem]) rfl ?_
    exact ⟨rfl, hs.b⟩
  · have HQ := hide (prime_bits h2 hp h)
    have HL := hide (leastP hp h2 hn (w := w))
    have hb : ((p : Int) == (n : Int)) = false := by simp; omega
    have hm : Int.tmod (p : Int) 4 = ((p % 4 : Nat) : Int) := by rw [show ((4 : Int)) = ((4 : Nat) : Int) from rfl, Int.ofNat_tmod]
    clear hp
    by_cases h4 : p % 4 = 3
    · have hq : (p : Int) * (p : Int) = ((p * p : Nat) : Int) := by simp
      have HH := hide (show (p = n ∨ (p % 4 = 3 ∧ p * p = n)) ↔ p * p = n from ⟨fun hc => hc.elim (fun e => absurd e h) (fun e => e.2), fun e => .inr ⟨h4, e⟩⟩)
      rw [show decide (p = n ∨ (p % 4 = 3 ∧ p * p = n)) = decide (p * p = n) from decide_eq_decide.2 HH.out]
      clear h HH
      have hqn := HQ.out
      generalize p * p = q at *
      generalize p % 4 = r at *
      subst h4
      have heq := int_beq q n
      go_enter Tryz.func47, Tryz.ntmps47
      have hs := St.nil w
      refine wp_seq_k ?_
      intro K1 hK1
      refine rg [0] ?_
      refine sq ?_
      refine .mv ?_
      apply wpSq_end
      refine hK1 _ _ ?_
      refine wp_seq_k ?_
      intro K2 hK2
      refine wp_seq_k ?_
      intro K3 hK3
      refine rg [0, 1] ?_
      refine sq ?_
      refine .mv ?_
      refine sq ?_
      refine .r0 ?_
      apply wpSq_end
      refine hK3 _ _ ?_
      refine cf ?_
      refine wp_skip ?_
      refine hK2 _ _ ?_
      refine wp_seq_k ?_
      intro K4 hK4
      refine rg [0, 1, 2] ?_
      refine sq ?_
      refine .mv ?_
      refine sq ?_
      intro K hK
      go_big_op
      go_fit (HL.out)
      rintro e w_1 ⟨rfl, e_1⟩
      (first | rw [e_1] | rw [← e_1]); clear e_1 w_1
      refine hK _ _ rfl trivial ?_
      clear hK K
      refine sq ?_
      refine .mv ?_
      apply wpSq_end
      refine hK4 _ _ ?_
      refine wp_seq_k ?_
      intro K5 hK5
      refine rg [0, 1, 2, 3, 4, 5, 6, 7, 8, 9, 10, 11, 12, 13, 14, 15] ?_
      refine sq ?_
      refine .mv ?_
      refine sq ?_
      refine .mv ?_
      refine sq ?_
      refine .r0 ?_
      refine sq ?_
      refine .mv ?_
      refine sq ?_
      refine .mv ?_
      refine sq ?_
      refine .r0 ?_
      refine sq ?_
      refine .r0 ?_
      refine sq ?_
      refine .mv ?_
      refine sq ?_
      refine .mv ?_
      refine sq ?_
      refine .mv ?_
      refine sq ?_
      refine .r0 ?_
      refine sq ?_
      refine .mv ?_
      refine sq ?_
      refine .r0 ?_
      refine sq ?_
      refine .r0 ?_
      refine sq ?_
      refine .r0 ?_
      refine sq ?_
      refine .mv ?_
      apply wpSq_end
      refine hK5 _ _ ?_
      refine wp_ret ?_
      try dsimp only [Exit.then, Exit.inBlock]
      refine bodyPost_ret (v := (.bool (decide (q = n)))) (by simp [results, Tryz.results47, go_sem]) rfl ?_
      exact ⟨rfl, hs.b⟩
    · rw [decide_eq_false (fun hc => hc.elim h (fun e => h4 e.1))]
      clear h
      have h4b : (((p % 4 : Nat) : Int) == 3) = false := by simp; omega
      generalize p % 4 = r at *
      go_enter Tryz.func47, Tryz.ntmps47
      have hs := St.nil w
      refine wp_seq_k ?_
      intro K1 hK1
      refine rg [0] ?_
      refine sq ?_
      refine .mv ?_
      apply wpSq_end
      refine hK1 _ _ ?_
      refine wp_seq_k ?_
      intro K2 hK2
      refine wp_seq_k ?_
      intro K3 hK3
      refine rg [0, 1] ?_
      refine sq ?_
      refine .mv ?_
      refine sq ?_
      refine .r0 ?_
      apply wpSq_end
      refine hK3 _ _ ?_
      refine cf ?_
      refine wp_skip ?_
      refine hK2 _ _ ?_
      refine wp_seq_k ?_
      intro K4 hK4
      refine rg [0, 1, 2] ?_
      refine sq ?_
      refine .mv ?_
      refine sq ?_
      intro K hK
      go_big_op
      go_fit (HL.out)
      rintro e w_1 ⟨rfl, e_1⟩
      (first | rw [e_1] | rw [← e_1]); clear e_1 w_1
      refine hK _ _ rfl trivial ?_
      clear hK K
      refine sq ?_
      refine .mv ?_
      apply wpSq_end
      refine hK4 _ _ ?_
      refine wp_seq_k ?_
      intro K5 hK5
      refine rg [0, 1, 2, 3, 4, 5, 6, 7, 8, 9, 10, 11, 12, 13, 14, 15] ?_
      refine sq ?_
      refine .mv ?_
      refine sq ?_
      refine .mv ?_
      refine sq ?_
      refine .r0 ?_
      refine sq ?_
      refine .mv ?_
      refine sq ?_
      refine .mv ?_
      refine sq ?_
      refine .r0 ?_
      refine sq ?_
      refine .r0 ?_
      refine sq ?_
      refine .mv ?_
      refine sk ?_
      refine sk ?_
      refine sk ?_
      refine sk ?_
      refine sk ?_
      refine sq ?_
      refine .r0 ?_
      refine sq ?_
      refine .r0 ?_
      refine sq ?_
      refine .mv ?_
      apply wpSq_end
      refine hK5 _ _ ?_
      refine wp_ret ?_
      try dsimp only [Exit.then, Exit.inBlock]
      refine bodyPost_ret (v := (.bool false)) (by simp [results, Tryz.results47, go_sem]) rfl ?_
      exact ⟨rfl, hs.b⟩
end
end Go.Proofs.YthlhekkcjficdaaGreat


/- gprime.IsPrime; the reference's IsPrime. -/
namespace Go.Proofs.YthlhekkcjficdaaGreat
open Go Go.RowKit Dig
set_option linter.unusedVariables false

/-- Numbers of this norm are primes. -/
def PrimeN (n : Nat) : Prop := 2 ≤ n ∧ ∀ p, IsLf n p → p = n ∨ (p % 4 = 3 ∧ p * p = n)
open Classical in
noncomputable def primeB (n : Nat) : Bool := decide (PrimeN n)
open Classical in
theorem primeB_low {n : Nat} (h : n < 2) : primeB n = false := decide_eq_false fun hc => by have := hc.1; omega
open Classical in
theorem primeB_eq {n p : Nat} (hp : IsLf n p) (h2 : 2 ≤ n) : primeB n = decide (p = n ∨ (p % 4 = 3 ∧ p * p = n)) := by
  unfold primeB
  rw [decide_eq_decide]
  exact ⟨fun h => h.2 p hp, fun h => ⟨h2, fun q hq => by rw [hq.uniq hp]; exact h⟩⟩
section
variable {w : World} {va : Value} {x y z : Int} {l m : Nat}
theorem inop (n : Nat) (hn : n < 4294967296) :
    Calls Tryz.prog 47 #[.int .u64 (n : Int)] w fun e w' => e = .returned (.bool (primeB n)) ∧ Below w.heap.size w w' := by
  rcases Nat.lt_or_ge n 2 with h | h
  · rw [primeB_low h]; exact inop_low n h
  · obtain ⟨p, hp⟩ := lf_ex h
    rw [primeB_eq hp h]
    exact inop_any hp h hn
set_option maxHeartbeats 4000000 in
set_option maxRecDepth 20000 in
theorem gprime_any (N : Nat) (ha : PN w va x l y m) (hl : l ≤ 20000000) (hm : m ≤ 20000000) (hn : gN x y = (N : Int)) (hN : N < 4294967296) :
    Calls Tryz.prog 19 #[va] w fun e w' => e = .returned (.tuple #[.bool (primeB N), .int .i64 0]) ∧ Below w.heap.size w w' := by
  have HN := hide hn
  have HP := hide (fun w => inop (w := w) N hN)
  clear hn
  obtain ⟨n_0a, o_0a, k_0a, c_0a, n_0b, o_0b, k_0b, c_0b, rfl, ha1, ha2⟩ := ha
  go_enter Tryz.func19, Tryz.ntmps19
  have hs := St.nil w
  refine wp_seq_k ?_
  intro K1 hK1
  refine rg [0, 1, 2] ?_
  refine sq ?_
  refine .al hs ?_; clear hs; intro p_b1 w_1 hs n1 kb_b1
  refine sq ?_
  refine .mv ?_
  refine sq ?_
  refine .mv ?_
  apply wpSq_end
  refine hK1 _ _ ?_
  refine wp_seq_k ?_
  intro K2 hK2
  refine rg [0, 1, 2, 3, 4, 5, 6] ?_
  refine sq ?_
  refine .r4 hs.g0.f4 ?_
  refine sq ?_
  intro K hK
  have k0_1 := kb n1
  replace ha1 := ha1.k k0_1
  replace ha2 := ha2.k k0_1
  go_big_op
  go_fit (normOf_any N (PN.mk' ha1 ha2) (by omega) (by omega) HN.out hN)
  rintro e w_2 ⟨rfl, hb_2⟩
  replace hs := hs.bl hb_2
  refine hK _ _ rfl trivial ?_
  clear hK K
  refine sq ?_
  refine .mv ?_
  refine sq ?_
  refine .r0 ?_
  refine sq ?_
  refine .r0 ?_
  refine sq ?_
  refine .mv ?_
  refine sq ?_
  refine .mv ?_
  apply wpSq_end
  refine hK2 _ _ ?_
  refine wp_seq_k ?_
  intro K3 hK3
  refine wp_seq_k ?_
  intro K4 hK4
  refine rg [0, 1] ?_
  refine sq ?_
  refine .mv ?_
  refine sq ?_
  refine .r0 ?_
  apply wpSq_end
  refine hK4 _ _ ?_
  refine cf ?_
  refine wp_skip ?_
  refine hK3 _ _ ?_
  refine wp_seq_k ?_
  intro K5 hK5
  refine rg [0, 1, 2, 3] ?_
  refine sq ?_
  refine .mv ?_
  refine sq ?_
  intro K hK
  go_big_op
  go_fit (HP.out _)
  rintro e w_3 ⟨rfl, hb_3⟩
  replace hs := hs.bl hb_3
  refine hK _ _ rfl trivial ?_
  clear hK K
  refine sq ?_
  refine .mv ?_
  refine sq ?_
  refine .mv ?_
  apply wpSq_end
  refine hK5 _ _ ?_
  refine wp_ret ?_
  try dsimp only [Exit.then, Exit.inBlock]
  refine bodyPost_ret (v := (.tuple #[(.bool (primeB N)), (.int .i64 0)])) (by simp [results, Tryz.results19, go_sem]) rfl ?_
  exact ⟨rfl, hs.b⟩
set_option maxHeartbeats 4000000 in
set_option maxRecDepth 20000 in
theorem rsmallg_any (N : Nat) (ha : PN w va x l y m) (hl : l ≤ 20000000) (hm : m ≤ 20000000) (hn : gN x y = (N : Int)) (hN : N < 4294967296) :
    Calls Tryz.prog 7 #[va] w fun e w' => e = .returned (.tuple #[.int .i64 (N : Int), .bool true]) ∧ Below w.heap.size w w' := by
  have HN := hide hn
  have LN := hide (show (dig ((N : Int)).natAbs).length ≤ 2 by rw [Int.natAbs_natCast]; exact dig_length_le (Nat.lt_trans hN (by decide)))
  clear hn
  have hNi : (N : Int) < 4294967296 := by omega
  obtain ⟨n_0a, o_0a, k_0a, c_0a, n_0b, o_0b, k_0b, c_0b, rfl, ha1, ha2⟩ := ha
  go_enter Tryz.func7, Tryz.ntmps7
  have hs := St.nil w
  refine wp_seq_k ?_
  intro K1 hK1
  refine rg [0, 1, 2] ?_
  refine sq ?_
  refine .al hs ?_; clear hs; intro p_b1 w_1 hs n1 kb_b1
  refine sq ?_
  refine .mv ?_
  refine sq ?_
  refine .mv ?_
  apply wpSq_end
  refine hK1 _ _ ?_
  refine wp_seq_k ?_
  intro K2 hK2
  refine rg [0, 1, 2, 3, 4, 5, 6, 7] ?_
  refine sq ?_
  refine .r4 hs.g0.f4 ?_
  refine sq ?_
  intro K hK
  have k0_1 := kb n1
  replace ha1 := ha1.k k0_1
  replace ha2 := ha2.k k0_1
  go_big_op
  go_fit (rgNorm_any (PN.mk' ha1 ha2) (by omega) (by omega) )
  rintro e w_2 ⟨v_g, rfl, g, hb_2⟩
  replace hs := hs.bl hb_2
  obtain ⟨n_g, o_g, k_g, c_g, rfl⟩ := g.open2
  have Lg := hide (g.lenOf (zlen_add (zlen_mul (ha1.len) (ha1.len)) (zlen_mul (ha2.len) (ha2.len))))
  refine hK _ _ rfl trivial ?_
  clear hK K
  rw [HN.out] at g
  have Lg := hide (g.lenOf (LN.out))
  refine sq ?_
  intro K hK
  go_big_op
  go_fit (rsmall_any (g.zn Lg.out) (by omega) (by omega))
  rintro e w_3 ⟨rfl, hb_3⟩
  replace hs := hs.bl hb_3
  refine hK _ _ rfl trivial ?_
  clear hK K
  refine sq ?_
  refine .mv ?_
  refine sq ?_
  refine .r0 ?_
  refine sq ?_
  refine .r0 ?_
  refine sq ?_
  refine .mv ?_
  refine sq ?_
  refine .mv ?_
  apply wpSq_end
  refine hK2 _ _ ?_
  refine wp_seq_k ?_
  intro K3 hK3
  refine rg [0, 1, 2, 3, 4, 5, 6, 7] ?_
  refine sq ?_
  refine .mv ?_
  refine sq ?_
  refine .mv ?_
  refine sq ?_
  refine .mv ?_
  refine sq ?_
  refine .mv ?_
  refine sq ?_
  refine .r0 ?_
  refine sq ?_
  refine .r0 ?_
  refine sq ?_
  refine .mv ?_
  refine sq ?_
  refine .mv ?_
  apply wpSq_end
  refine hK3 _ _ ?_
  refine wp_ret ?_
  try dsimp only [Exit.then, Exit.inBlock]
  refine bodyPost_ret (v := (.tuple #[(.int .i64 (N : Int)), (.bool true)])) (by simp [results, Tryz.results7, go_sem]) rfl ?_
  exact ⟨rfl, hs.b⟩
set_option maxHeartbeats 4000000 in
set_option maxRecDepth 20000 in
theorem rsmallg_big (ha : PN w va x l y m) (hl : l ≤ 20000000) (hm : m ≤ 20000000) (hn : 4294967296 ≤ gN x y) :
    Calls Tryz.prog 7 #[va] w fun e w' => ∃ v, e = .returned (.tuple #[v, .bool false]) ∧ Below w.heap.size w w' := by
  have HN := hide hn
  obtain ⟨G, hG⟩ : ∃ G, gN x y = G := ⟨_, rfl⟩
  have HG := hide hG
  rw [hG] at hn
  clear hG
  have hGi : (G < 4294967296) = False := eq_false (by omega)
  by_cases h62 : G.natAbs < 4611686018427387904
  · obtain ⟨n_0a, o_0a, k_0a, c_0a, n_0b, o_0b, k_0b, c_0b, rfl, ha1, ha2⟩ := ha
    go_enter Tryz.func7, Tryz.ntmps7
    have hs := St.nil w
    refine wp_seq_k ?_
    intro K1 hK1
    refine rg [0, 1, 2] ?_
    refine sq ?_
    refine .al hs ?_; clear hs; intro p_b1 w_1 hs n1 kb_b1
    refine sq ?_
    refine .mv ?_
    refine sq ?_
    refine .mv ?_
    apply wpSq_end
    refine hK1 _ _ ?_
    refine wp_seq_k ?_
    intro K2 hK2
    refine rg [0, 1, 2, 3, 4, 5, 6, 7] ?_
    refine sq ?_
    refine .r4 hs.g0.f4 ?_
    refine sq ?_
    intro K hK
    have k0_1 := kb n1
    replace ha1 := ha1.k k0_1
    replace ha2 := ha2.k k0_1
    go_big_op
    go_fit (rgNorm_any (PN.mk' ha1 ha2) (by omega) (by omega) )
    rintro e w_2 ⟨v_g, rfl, g, hb_2⟩
    replace hs := hs.bl hb_2
    obtain ⟨n_g, o_g, k_g, c_g, rfl⟩ := g.open2
    have Lg := hide (g.lenOf (zlen_add (zlen_mul (ha1.len) (ha1.len)) (zlen_mul (ha2.len) (ha2.len))))
    refine hK _ _ rfl trivial ?_
    clear hK K
    rw [HG.out] at g
    have Lg := hide (g.lenOf ((by have := Lg.out; rw [HG.out] at this; exact this)))
    refine sq ?_
    intro K hK
    go_big_op
    go_fit (rsmall_any (g.zn Lg.out) (by omega) h62)
    rintro e w_3 ⟨rfl, hb_3⟩
    replace hs := hs.bl hb_3
    refine hK _ _ rfl trivial ?_
    clear hK K
    refine sq ?_
    refine .mv ?_
    refine sq ?_
    refine .r0 ?_
    refine sq ?_
    refine .r0 ?_
    refine sq ?_
    refine .mv ?_
    refine sq ?_
    refine .mv ?_
    apply wpSq_end
    refine hK2 _ _ ?_
    refine wp_seq_k ?_
    intro K3 hK3
    refine rg [0, 1, 2, 3, 4, 5, 6, 7] ?_
    refine sq ?_
    refine .mv ?_
    refine sq ?_
    refine .mv ?_
    refine sq ?_
    refine .mv ?_
    refine sq ?_
    refine .mv ?_
    refine sq ?_
    refine .r0 ?_
    refine sq ?_
    refine .r0 ?_
    refine sq ?_
    refine .mv ?_
    refine sq ?_
    refine .mv ?_
    apply wpSq_end
    refine hK3 _ _ ?_
    refine wp_ret ?_
    try dsimp only [Exit.then, Exit.inBlock]
    refine bodyPost_ret (v := (.tuple #[(.int .i64 G), (.bool false)])) (by simp [results, Tryz.results7, go_sem]) rfl ?_
    have hb := hs.b
    exact ⟨_, rfl, hb⟩
  · obtain ⟨n_0a, o_0a, k_0a, c_0a, n_0b, o_0b, k_0b, c_0b, rfl, ha1, ha2⟩ := ha
    go_enter Tryz.func7, Tryz.ntmps7
    have hs := St.nil w
    refine wp_seq_k ?_
    intro K1 hK1
    refine rg [0, 1, 2] ?_
    refine sq ?_
    refine .al hs ?_; clear hs; intro p_b1 w_1 hs n1 kb_b1
    refine sq ?_
    refine .mv ?_
    refine sq ?_
    refine .mv ?_
    apply wpSq_end
    refine hK1 _ _ ?_
    refine wp_seq_k ?_
    intro K2 hK2
    refine rg [0, 1, 2, 3, 4, 5, 6, 7] ?_
    refine sq ?_
    refine .r4 hs.g0.f4 ?_
    refine sq ?_
    intro K hK
    have k0_1 := kb n1
    replace ha1 := ha1.k k0_1
    replace ha2 := ha2.k k0_1
    go_big_op
    go_fit (rgNorm_any (PN.mk' ha1 ha2) (by omega) (by omega) )
    rintro e w_2 ⟨v_g, rfl, g, hb_2⟩
    replace hs := hs.bl hb_2
    obtain ⟨n_g, o_g, k_g, c_g, rfl⟩ := g.open2
    have Lg := hide (g.lenOf (zlen_add (zlen_mul (ha1.len) (ha1.len)) (zlen_mul (ha2.len) (ha2.len))))
    refine hK _ _ rfl trivial ?_
    clear hK K
    rw [HG.out] at g
    have Lg := hide (g.lenOf ((by have := Lg.out; rw [HG.out] at this; exact this)))
    refine sq ?_
    intro K hK
    go_big_op
    go_fit (rsmall_big (g.zn Lg.out) (by omega) (by omega))
    rintro e w_3 ⟨rfl, hb_3⟩
    replace hs := hs.bl hb_3
    refine hK _ _ rfl trivial ?_
    clear hK K
    refine sq ?_
    refine .mv ?_
    refine sq ?_
    refine .r0 ?_
    refine sq ?_
    refine .r0 ?_
    refine sq ?_
    refine .mv ?_
    refine sq ?_
    refine .mv ?_
    apply wpSq_end
    refine hK2 _ _ ?_
    refine wp_seq_k ?_
    intro K3 hK3
    refine rg [0, 1, 2, 3, 4, 5, 6, 7] ?_
    refine sq ?_
    refine .mv ?_
    refine sq ?_
    refine .mv ?_
    refine sq ?_
    refine .mv ?_
    refine sk ?_
    refine sk ?_
    refine sq ?_
    refine .r0 ?_
    refine sq ?_
    refine .mv ?_
    refine sq ?_
    refine .mv ?_
    apply wpSq_end
    refine hK3 _ _ ?_
    refine wp_ret ?_
    try dsimp only [Exit.then, Exit.inBlock]
    refine bodyPost_ret (v := (.tuple #[(.int .i64 0), (.bool false)])) (by simp [results, Tryz.results7, go_sem]) rfl ?_
    have hb := hs.b
    exact ⟨_, rfl, hb⟩
end
end Go.Proofs.YthlhekkcjficdaaGreat


/- The law's g, is, awake (gprime). -/
namespace Go.Proofs.YthlhekkcjficdaaGreat
open Go Go.RowKit Dig
set_option linter.unusedVariables false

theorem lf9 : IsLf 9 3 := lf_div (by decide) (by decide) (fun e h1 h2 hc => by obtain rfl : e = 2 := (by omega); revert hc; decide)
theorem lf25 : IsLf 25 5 := lf_div (by decide) (by decide) (fun e h1 h2 hc => by
  have : e = 2 ∨ e = 3 ∨ e = 4 := by omega
  rcases this with rfl | rfl | rfl <;> revert hc <;> decide)
theorem prime9 : primeB 9 = true := by rw [primeB_eq lf9 (by decide)]; decide
theorem prime25 : primeB 25 = false := by rw [primeB_eq lf25 (by decide)]; decide
theorem zlen_small6 {z : Int} (h : z.natAbs < 4294967296) : (dig z.natAbs).length ≤ 1 := dig_length_le (by rw [show pw 1 = 4294967296 from rfl]; exact h)
set_option maxHeartbeats 4000000 in
set_option maxRecDepth 20000 in
theorem g6_any (a b : Int) (w : World) (h1 : -9223372036854775808 ≤ a) (h2 : a ≤ 9223372036854775807) (h3 : -9223372036854775808 ≤ b) (h4 : b ≤ 9223372036854775807) :
    Calls Tryz.prog 20 #[.int .i64 a, .int .i64 b] w fun e w' => ∃ r, e = .returned r ∧ PC w' r a b ∧ Below w.heap.size w w' := by
  go_enter Tryz.func20, Tryz.ntmps20
  have hs := St.nil w
  refine wp_seq_k ?_
  intro K1 hK1
  refine rg [0] ?_
  refine sq ?_
  refine .al hs ?_; clear hs; intro p_b1 w_1 hs n1 kb_b1
  apply wpSq_end
  refine hK1 _ _ ?_
  refine wp_seq_k ?_
  intro K2 hK2
  refine rg [0, 1, 2, 3] ?_
  refine sq ?_
  refine .mv ?_
  refine sq ?_
  refine .mv ?_
  refine sq ?_
  intro K hK
  go_big_op
  go_fit (rgI_any a b _ h1 h2 h3 h4)
  rintro e w_2 ⟨_, rfl, ⟨n_ra, o_ra, k_ra, c_ra, n_rb, o_rb, k_rb, c_rb, rfl, r1, r2⟩, hb_2⟩
  replace hs := hs.bl hb_2
  refine hK _ _ rfl trivial ?_
  clear hK K
  refine sq ?_
  refine .s4 hs.g0 (fun _ => hs.u0 kb_b1) ?_; clear hs; intro w_3 hs hd3 ho3
  apply wpSq_end
  refine hK2 _ _ ?_
  refine wp_ret ?_
  try dsimp only [Exit.then, Exit.inBlock]
  obtain ⟨r0_0, r0_1, r0_2, r0_3⟩ := hs.g0.f4
  refine bodyPost_ret (v := (.agg #[.bool n_ra, .slice o_ra k_ra c_ra, .bool n_rb, .slice o_rb k_rb c_rb])) (by simp [results, Tryz.results20, go_sem, r0_0, r0_1, r0_2, r0_3]) rfl ?_
  have k2_3 := ko hd3 ho3
  replace r1 := r1.k k2_3
  replace r2 := r2.k k2_3
  exact ⟨_, rfl, .mk' r1 r2, hs.b⟩
set_option maxHeartbeats 4000000 in
set_option maxRecDepth 20000 in
theorem awake6_any (w : World) :
    Calls Tryz.prog 5 #[] w fun e w' => e = .returned (.bool true) ∧ Below w.heap.size w w' := by
  have E1 := hide prime9
  have E2 := hide prime25
  go_enter Tryz.func5, Tryz.ntmps5
  have hs := St.nil w
  refine wp_seq_k ?_
  intro K1 hK1
  refine rg [0] ?_
  refine sq ?_
  refine .mv ?_
  apply wpSq_end
  refine hK1 _ _ ?_
  refine wp_seq_k ?_
  intro K2 hK2
  refine rg [0, 1, 2, 3, 4, 5, 6] ?_
  refine sq ?_
  intro K hK
  go_big_op
  go_fit (g6_any 3 0 _ (by decide) (by decide) (by decide) (by decide))
  rintro e w_1 ⟨_, rfl, ⟨n_aa, o_aa, k_aa, c_aa, n_ab, o_ab, k_ab, c_ab, rfl, a1, a2⟩, hb_1⟩
  replace hs := hs.bl hb_1
  have La1 := hide (a1.lenOf (zlen_small6 (z := 3) (by decide)))
  have La2 := hide (a2.lenOf (zlen_small6 (z := 0) (by decide)))
  refine hK _ _ rfl trivial ?_
  clear hK K
  refine sq ?_
  intro K hK
  go_big_op
  go_fit (gprime_any 9 (.mk' (a1.zn La1.out) (a2.zn La2.out)) (by omega) (by omega) (by decide) (by decide))
  rintro e w_2 ⟨rfl, hb_2⟩
  replace hs := hs.bl hb_2
  rw [E1.out]
  refine hK _ _ rfl trivial ?_
  clear hK K
  refine sq ?_
  refine .mv ?_
  refine sq ?_
  refine .r0 ?_
  refine sq ?_
  refine .r0 ?_
  refine sq ?_
  refine .mv ?_
  refine sq ?_
  refine .mv ?_
  apply wpSq_end
  refine hK2 _ _ ?_
  refine wp_seq_k ?_
  intro K3 hK3
  refine rg [0, 1, 2, 3, 4, 5, 6] ?_
  refine sq ?_
  intro K hK
  go_big_op
  go_fit (g6_any 5 0 _ (by decide) (by decide) (by decide) (by decide))
  rintro e w_3 ⟨_, rfl, ⟨n_ba, o_ba, k_ba, c_ba, n_bb, o_bb, k_bb, c_bb, rfl, b1, b2⟩, hb_3⟩
  replace hs := hs.bl hb_3
  have Lb1 := hide (b1.lenOf (zlen_small6 (z := 5) (by decide)))
  have Lb2 := hide (b2.lenOf (zlen_small6 (z := 0) (by decide)))
  refine hK _ _ rfl trivial ?_
  clear hK K
  refine sq ?_
  intro K hK
  go_big_op
  go_fit (gprime_any 25 (.mk' (b1.zn Lb1.out) (b2.zn Lb2.out)) (by omega) (by omega) (by decide) (by decide))
  rintro e w_4 ⟨rfl, hb_4⟩
  replace hs := hs.bl hb_4
  rw [E2.out]
  refine hK _ _ rfl trivial ?_
  clear hK K
  refine sq ?_
  refine .mv ?_
  refine sq ?_
  refine .r0 ?_
  refine sq ?_
  refine .r0 ?_
  refine sq ?_
  refine .mv ?_
  refine sq ?_
  refine .mv ?_
  apply wpSq_end
  refine hK3 _ _ ?_
  refine wp_seq_k ?_
  intro K4 hK4
  refine rg [0, 1, 2, 3, 4, 5, 6, 7, 8, 9, 10, 11, 12, 13] ?_
  refine sq ?_
  refine .mv ?_
  refine sq ?_
  refine .mv ?_
  refine sq ?_
  refine .mv ?_
  refine sq ?_
  refine .r0 ?_
  refine sq ?_
  refine .r0 ?_
  refine sq ?_
  refine .mv ?_
  refine sq ?_
  refine .mv ?_
  refine sq ?_
  refine .r0 ?_
  refine sq ?_
  refine .r0 ?_
  refine sq ?_
  refine .mv ?_
  refine sq ?_
  refine .mv ?_
  refine sq ?_
  refine .r0 ?_
  refine sq ?_
  refine .r0 ?_
  refine sq ?_
  refine .mv ?_
  apply wpSq_end
  refine hK4 _ _ ?_
  refine wp_ret ?_
  try dsimp only [Exit.then, Exit.inBlock]
  refine bodyPost_ret (v := (.bool true)) (by simp [results, Tryz.results5, go_sem]) rfl ?_
  exact ⟨rfl, hs.b⟩
end Go.Proofs.YthlhekkcjficdaaGreat

