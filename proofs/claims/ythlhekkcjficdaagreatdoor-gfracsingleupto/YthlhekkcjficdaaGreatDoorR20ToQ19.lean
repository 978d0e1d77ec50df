/- The reference's Bits, Shl and Pow, where the seat has no Root. -/
import Derived.Test.YthlhekkcjficdaaGreatDoorZ1
import Derived.Test.YthlhekkcjficdaaGreatDoorR8
import Derived.Test.YthlhekkcjficdaaGreatDoorR17
import Derived.Deep.LoopGhost
import Derived.Test.YthlhekkcjficdaaGreatDoorX11ToQ15

namespace Go.Proofs.YthlhekkcjficdaaGreatDoor
open Go.RowKit Dig
theorem Rd.bl {w w' : World} {v : Value} {ds : List Nat} (h : Rd w v ds) (hb : Below w.heap.size w w') : Rd w' v ds := h.below hb (Nat.le_refl _)
theorem rshl_rd' {w : World} {va : Value} {xs : List Nat} (n : Nat) (hx : Rd w va xs) (hxl : xs.length ≤ 100000000000) (hn : n ≤ 8000000000000) :
   Calls Tryz.prog 93 #[va, .int .i64 (n : Int)] w fun e w' => ∃ v, e = .returned v ∧ Rd w' v (dig (val xs * 2 ^ n)) ∧ Below w.heap.size w w' := by
 obtain ⟨oa, ca, rfl, hca, okx, hcx⟩ := hx
 exact rshl_any oa ca n xs w (by omega) hca okx hcx hn
end Go.Proofs.YthlhekkcjficdaaGreatDoor

/- Floats taken apart: frac.Of and the reference's. -/
namespace Go.Proofs.YthlhekkcjficdaaGreatDoor
open Go Go.RowKit Dig
set_option maxHeartbeats 4000000
set_option maxRecDepth 20000
set_option linter.unusedVariables false
theorem ext_bits (b : Nat) (w : World) : Sem.run Tryz.prog (callFunc 91 #[.float .f64 b]) w = Result.ok (Next.value (.int .u64 b)) w := by kernel_rfl
theorem ext_from (b : Nat) (w : World) : Sem.run Tryz.prog (callFunc 34 #[.int .u64 (b : Int)]) w = Result.ok (Next.value (.float .f64 b)) w := by kernel_rfl
theorem u64_mask (n : Nat) (k : Nat) (hk : k ≤ 64) (hn : n < 18446744073709551616) : bits .and .u64 (n : Int) ((2 ^ k - 1 : Nat) : Int) = ((n % 2 ^ k : Nat) : Int) := by
 have hp : 2 ^ k ≤ 2 ^ 64 := Nat.pow_le_pow_right (by decide) hk
 have h0 : 0 < 2 ^ k := Nat.two_pow_pos k
 have h1 : (BitVec.ofInt 64 ((2 ^ k - 1 : Nat) : Int)).toNat = 2 ^ k - 1 := by
   rw [BitVec.toNat_ofInt]; omega
 have h2 : (BitVec.ofInt 64 (n : Int)).toNat = n := by
   rw [BitVec.toNat_ofInt]; omega
 have key : (BitVec.ofInt 64 (n : Int) &&& BitVec.ofInt 64 ((2 ^ k - 1 : Nat) : Int)).toNat = n % 2 ^ k := by
   rw [BitVec.toNat_and, h1, h2, Nat.and_two_pow_sub_one_eq_mod]
 show IntKind.u64.wrap ((BitVec.ofInt 64 (n : Int) &&& BitVec.ofInt 64 ((2 ^ k - 1 : Nat) : Int)).toNat : Nat) = _
 rw [key]
 have : n % 2 ^ k < 2 ^ k := Nat.mod_lt _ h0
 rw [IntKind.wrap_u64]; omega
theorem or_top (n : Nat) (hn : n < 4503599627370496) : bits .or .u64 (n : Int) 4503599627370496 = ((n + 4503599627370496 : Nat) : Int) ∧ bits .or .i64 (n : Int) 4503599627370496 = ((n + 4503599627370496 : Nat) : Int) := by
 have h1 : (BitVec.ofInt 64 4503599627370496).toNat = 2 ^ 52 * 1 := by decide
 have h2 : (BitVec.ofInt 64 (n : Int)).toNat = n := by
   rw [BitVec.toNat_ofInt]; omega
 have key : (BitVec.ofInt 64 (n : Int) ||| BitVec.ofInt 64 4503599627370496).toNat = n + 4503599627370496 := by
   rw [BitVec.toNat_or, h1, h2, Nat.or_comm, ← Nat.two_pow_add_eq_or_of_lt (by omega)]; omega
 constructor
 · show IntKind.u64.wrap ((BitVec.ofInt 64 (n : Int) ||| BitVec.ofInt 64 4503599627370496).toNat : Nat) = _
   rw [key, IntKind.wrap_u64]; omega
 · show IntKind.i64.wrap ((BitVec.ofInt 64 (n : Int) ||| BitVec.ofInt 64 4503599627370496).toNat : Nat) = _
   rw [key, IntKind.wrap_i64]; omega
structure FB (b e f s : Nat) : Prop where
 b0 : b < 18446744073709551616
 e0 : e < 2048
 f0 : f < 4503599627370496
 s0 : s = 0 ∨ s = 1
 he : bits .and .u64 ((b : Int) / 4503599627370496) 2047 = (e : Int)
 hf : bits .and .u64 (b : Int) 4503599627370495 = (f : Int)
 hsz : (b : Int) / 9223372036854775808 = (s : Int)
theorem fb_of (b : Nat) (hb : b < 18446744073709551616) : ∃ e f s, FB b e f s := by
 refine ⟨b / 4503599627370496 % 2048, b % 4503599627370496, b / 9223372036854775808, hb, Nat.mod_lt _ (by decide), Nat.mod_lt _ (by decide), by omega, ?_, ?_, by omega⟩
 · have := u64_mask (b / 4503599627370496) 11 (by decide) (by omega)
   exact this
 · have := u64_mask b 52 (by decide) hb
   exact this
def fM (e f : Nat) : Nat := if e = 0 then f else f + 4503599627370496
def fZ (e f s : Nat) : Int := if s = 1 then -(fM e f : Int) else (fM e f : Int)
theorem two_len (P : Nat) (h : P ≤ 1100) : ∀ m, m ≤ P → (dig ((2 : Int) ^ m).natAbs).length ≤ 40 := by
 intro m hm
 rw [Int.natAbs_pow]
 refine dig_length_le ?_
 show 2 ^ m < pw 40
 exact Nat.lt_of_lt_of_le (Nat.pow_lt_pow_right (by decide) (Nat.lt_succ_self m)) (two_le_pw' (by omega))
theorem fZ_len (e f s : Nat) (hf : f < 4503599627370496) : (dig (fZ e f s).natAbs).length ≤ 2 ∧ -9223372036854775808 ≤ fZ e f s ∧ fZ e f s ≤ 9223372036854775807 := by
 have hb : -9223372036854775808 ≤ fZ e f s ∧ fZ e f s ≤ 9223372036854775807 := by
   unfold fZ fM; (repeat' split) <;> omega
 exact ⟨zlen_i _ hb.1 hb.2, hb⟩
section
variable {w : World} {va vb : Value} {x y u v : Int} {l m k n : Nat}
theorem scaled_neg (P : Nat) (n : Int) (hn : n = -(P : Int)) (hP0 : 0 < P) (hP : P ≤ 1100) (ha : ZN w va x l) (hl : l ≤ 1000000) :
   Calls Tryz.prog 128 #[va, .int .i64 n] w fun e w' => ∃ r, e = .returned (.tuple #[r, .int .i64 0]) ∧ PC w' r (qN x (2 ^ P)) (qD x (2 ^ P)) ∧ Below w.heap.size w w' := by
 have HT := hide (two_len P hP)
 have H0 := hide (show (2 : Int) ^ P ≠ 0 from Int.pow_ne_zero (by decide))
 have hn0 : (n < 0) = True := eq_true (by omega)
 have e1 : wrap64 (-n) = (P : Int) := by unfold wrap64; omega
 have e2 : IntKind.i64.wrap (-n) = (P : Int) := by rw [IntKind.wrap_i64]; omega
 clear hn
 obtain ⟨n_0, o_0, k_0, c_0, rfl⟩ := ha.open2
 go_enter Tryz.func128, Tryz.ntmps128
 have hs := St.nil w
 refine wp_seq_k fun K1 hK1 => rg [0, 1, 2] ?_
 refine sq ?_
 refine .al hs ?_; clear hs; intro p_b1 w_1 hs n1 kb_b1
 refine sq ?_
 refine .al hs ?_; clear hs; intro p_b2 w_2 hs n2 kb_b2
 refine sm ?_
 apply wpSq_end
 refine hK1 _ _ ?_
 refine wp_seq_k fun K2 hK2 => rg [0, 1, 2] ?_
 refine sq ?_
 intro K hK
 go_big_op
 go_fit (from_any (2 : Int) _ (by decide) (by decide))
 rintro e w_3 ⟨v_g1, rfl, g1, hb_3⟩
 replace hs := hs.bl hb_3
 replace g1 := g1.rd
 obtain ⟨n_g1, o_g1, k_g1, c_g1, rfl⟩ := g1.open2
 have Lg1 := hide (g1.lenOf (zlen_i (2 : Int) (by decide) (by decide)))
 refine hK _ _ rfl trivial ?_
 clear hK K
 refine sq ?_
 refine .al hs ?_; clear hs; intro p_b3 w_4 hs n4 kb_b3
 refine sq ?_
 refine .s2 hs.g0 (fun _ => hs.u0 kb_b3) ?_; clear hs; intro w_5 hs hd5 ho5
 apply wpSq_end
 refine hK2 _ _ ?_
 refine wp_seq_k ?_
 intro K3 hK3
 refine wp_seq_k fun K4 hK4 => rg [0, 1] ?_
 refine sm ?_
 refine sr ?_
 apply wpSq_end
 refine hK4 _ _ ?_
 refine ct ?_
 refine wp_seq_k ?_
 intro K5 hK5
 refine wp_region_f4 [(0, false), (1, false), (2, false), (3, false), (4, true), (5, true), (6, false), (7, false)] [8, 9] [] (fun _ => default) [0, 1, 99, 99, 99, 99, 99, 99, 99, 99] [] (.c hs.g2 (.c hs.g0 .n)) fn fun w_6 n6 => ?_
 replace hs := hs.bl n6
 refine f2 ?_
 refine f2 ?_
 refine fmv ?_
 refine f0 ?_
 refine fl fun w_7 n7 => ?_
 replace hs := hs.bl n7
 intro K hK
 have k3_7 := (((kb n4).o hd5 ho5).b n6).b n7
 replace g1 := g1.k k3_7
 go_big_op
 go_fit (qpow_any P (g1.zn Lg1.out) (by omega) (by omega) (by decide) HT.out)
 rintro e w_8 ⟨v_g2, rfl, g2, hb_8⟩
 replace hs := hs.bl hb_8
 obtain ⟨n_g2, o_g2, k_g2, c_g2, rfl⟩ := g2.open2
 have Lg2 := hide (g2.lenOf (HT.out _ (Nat.le_refl _)))
 refine hK _ _ rfl ⟨hb_8, (And.intro hs.g2 (And.intro hs.g0 trivial))⟩ ?_
 clear hK K
 refine fl fun w_9 n9 => ?_
 replace hs := hs.bl n9
 intro K hK
 have k0_9 := ((((((((kb n1).b n2).b hb_3).b n4).o hd5 ho5).b n6).b n7).b hb_8).b n9
 replace ha := ha.k k0_9
 have k8_9 := kb n9
 replace g2 := g2.k k8_9
 go_big_op
 go_fit (fmake_any ha (g2.zn Lg2.out) (by omega) (by omega) H0.out)
 rintro e w_10 ⟨_, rfl, ⟨n_g3a, o_g3a, k_g3a, c_g3a, n_g3b, o_g3b, k_g3b, c_g3b, rfl, g31, g32⟩, hb_10⟩
 replace hs := hs.bl hb_10
 refine hK _ _ rfl ⟨hb_10, (And.intro hs.g2 (And.intro hs.g0 trivial))⟩ ?_
 clear hK K
 refine f0 ?_
 refine f0 ?_
 refine e0 hs ?_; clear hs; intro w_11 hs n11
 refine tl ?_
 refine .s4 hs.g1 (fun _ => hs.u1 kb_b2) ?_ (e := fun _ hs => (And.intro hs.g2 (And.intro hs.g0 True.intro))); clear hs; intro w_12 hs hd12 ho12
 refine tl ?_
 refine .mv ?_ (e := (And.intro hs.g2 (And.intro hs.g0 True.intro)))
 apply wpTail_end
 refine hK5 _ _ ?_
 refine wp_ret ?_
 try dsimp only [Exit.then, Exit.inBlock]
 obtain ⟨r0_0, r0_1, r0_2, r0_3⟩ := hs.g1.f4
 refine bodyPost_ret (v := (.tuple #[(.agg #[.bool n_g3a, .slice o_g3a k_g3a c_g3a, .bool n_g3b, .slice o_g3b k_g3b c_g3b]), (.int .i64 0)])) (by simp [results, Tryz.results128, go_sem, r0_0, r0_1, r0_2, r0_3]) rfl ?_
 have k10_12 := (kb n11).o hd12 ho12
 replace g31 := g31.k k10_12
 replace g32 := g32.k k10_12
 exact ⟨_, rfl, .mk' g31 g32, hs.b⟩
theorem scaled_pos (P : Nat) (hP : P ≤ 1100) (ha : ZN w va x l) (hl : l ≤ 1000000) :
   Calls Tryz.prog 128 #[va, .int .i64 (P : Int)] w fun e w' => ∃ r, e = .returned (.tuple #[r, .int .i64 0]) ∧ PC w' r (x * 2 ^ P) 1 ∧ Below w.heap.size w w' := by
 have HT := hide (two_len P hP)
 have hlow : low (x * 2 ^ P) 1 := ⟨by decide, Int.gcd_one_right _⟩
 have EL := hide (And.intro (qN_low hlow) (qD_low hlow))
 have hn0 : ((P : Int) < 0) = False := eq_false (by omega)
 clear hlow
 obtain ⟨n_0, o_0, k_0, c_0, rfl⟩ := ha.open2
 go_enter Tryz.func128, Tryz.ntmps128
 have hs := St.nil w
 refine wp_seq_k fun K1 hK1 => rg [0, 1, 2] ?_
 refine sq ?_
 refine .al hs ?_; clear hs; intro p_b1 w_1 hs n1 kb_b1
 refine sq ?_
 refine .al hs ?_; clear hs; intro p_b2 w_2 hs n2 kb_b2
 refine sm ?_
 apply wpSq_end
 refine hK1 _ _ ?_
 refine wp_seq_k fun K2 hK2 => rg [0, 1, 2] ?_
 refine sq ?_
 intro K hK
 go_big_op
 go_fit (from_any (2 : Int) _ (by decide) (by decide))
 rintro e w_3 ⟨v_g1, rfl, g1, hb_3⟩
 replace hs := hs.bl hb_3
 replace g1 := g1.rd
 obtain ⟨n_g1, o_g1, k_g1, c_g1, rfl⟩ := g1.open2
 have Lg1 := hide (g1.lenOf (zlen_i (2 : Int) (by decide) (by decide)))
 refine hK _ _ rfl trivial ?_
 clear hK K
 refine sq ?_
 refine .al hs ?_; clear hs; intro p_b3 w_4 hs n4 kb_b3
 refine sq ?_
 refine .s2 hs.g0 (fun _ => hs.u0 kb_b3) ?_; clear hs; intro w_5 hs hd5 ho5
 apply wpSq_end
 refine hK2 _ _ ?_
 refine wp_seq_k ?_
 intro K3 hK3
 refine wp_seq_k fun K4 hK4 => rg [0, 1] ?_
 refine sm ?_
 refine sr ?_
 apply wpSq_end
 refine hK4 _ _ ?_
 refine cf ?_
 refine wp_skip ?_
 refine hK3 _ _ ?_
 refine wp_seq_k ?_
 intro K5 hK5
 refine wp_region_f4 [(0, false), (1, false), (2, false), (3, true), (4, true), (5, true), (6, true), (7, false), (8, false)] [9, 10] [] (fun _ => default) [0, 1, 99, 99, 99, 99, 99, 99, 99, 99, 99] [] (.c hs.g2 (.c hs.g0 .n)) fn fun w_6 n6 => ?_
 replace hs := hs.bl n6
 refine f2 ?_
 refine f2 ?_
 refine fmv ?_
 refine fl fun w_7 n7 => ?_
 replace hs := hs.bl n7
 intro K hK
 have k3_7 := (((kb n4).o hd5 ho5).b n6).b n7
 replace g1 := g1.k k3_7
 go_big_op
 go_fit (qpow_any P (g1.zn Lg1.out) (by omega) (by omega) (by decide) HT.out)
 rintro e w_8 ⟨v_g2, rfl, g2, hb_8⟩
 replace hs := hs.bl hb_8
 obtain ⟨n_g2, o_g2, k_g2, c_g2, rfl⟩ := g2.open2
 have Lg2 := hide (g2.lenOf (HT.out _ (Nat.le_refl _)))
 refine hK _ _ rfl ⟨hb_8, (And.intro hs.g2 (And.intro hs.g0 trivial))⟩ ?_
 clear hK K
 refine fl fun w_9 n9 => ?_
 replace hs := hs.bl n9
 intro K hK
 have k0_9 := ((((((((kb n1).b n2).b hb_3).b n4).o hd5 ho5).b n6).b n7).b hb_8).b n9
 replace ha := ha.k k0_9
 have k8_9 := kb n9
 replace g2 := g2.k k8_9
 go_big_op
 go_fit (zmul_any ha (g2.zn Lg2.out) (by omega) (by omega) )
 rintro e w_10 ⟨v_g4, rfl, g4, hb_10⟩
 replace hs := hs.bl hb_10
 replace g4 := g4.rd
 obtain ⟨n_g4, o_g4, k_g4, c_g4, rfl⟩ := g4.open2
 have Lg4 := hide (g4.lenOf (zlen_mul (ha.len) (Lg2.out)))
 refine hK _ _ rfl ⟨hb_10, (And.intro hs.g2 (And.intro hs.g0 trivial))⟩ ?_
 clear hK K
 refine fl fun w_11 n11 => ?_
 replace hs := hs.bl n11
 intro K hK
 go_big_op
 go_fit (from_any (1 : Int) _ (by decide) (by decide))
 rintro e w_12 ⟨v_g5, rfl, g5, hb_12⟩
 replace hs := hs.bl hb_12
 replace g5 := g5.rd
 obtain ⟨n_g5, o_g5, k_g5, c_g5, rfl⟩ := g5.open2
 have Lg5 := hide (g5.lenOf (zlen_i (1 : Int) (by decide) (by decide)))
 refine hK _ _ rfl ⟨hb_12, (And.intro hs.g2 (And.intro hs.g0 trivial))⟩ ?_
 clear hK K
 refine fl fun w_13 n13 => ?_
 replace hs := hs.bl n13
 intro K hK
 have k10_13 := ((kb n11).b hb_12).b n13
 replace g4 := g4.k k10_13
 have k12_13 := kb n13
 replace g5 := g5.k k12_13
 go_big_op
 go_fit (fmake_any (g4.zn Lg4.out) (g5.zn Lg5.out) (by omega) (by omega) (show (1 : Int) ≠ 0 by decide))
 rintro e w_14 ⟨_, rfl, ⟨n_g3a, o_g3a, k_g3a, c_g3a, n_g3b, o_g3b, k_g3b, c_g3b, rfl, g31, g32⟩, hb_14⟩
 replace hs := hs.bl hb_14
 rw [EL.out.1] at g31
 rw [EL.out.2] at g32
 refine hK _ _ rfl ⟨hb_14, (And.intro hs.g2 (And.intro hs.g0 trivial))⟩ ?_
 clear hK K
 refine f0 ?_
 refine f0 ?_
 refine e0 hs ?_; clear hs; intro w_15 hs n15
 refine tl ?_
 refine .s4 hs.g1 (fun _ => hs.u1 kb_b2) ?_ (e := fun _ hs => (And.intro hs.g2 (And.intro hs.g0 True.intro))); clear hs; intro w_16 hs hd16 ho16
 refine tl ?_
 refine .mv ?_ (e := (And.intro hs.g2 (And.intro hs.g0 True.intro)))
 apply wpTail_end
 refine hK5 _ _ ?_
 refine wp_ret ?_
 try dsimp only [Exit.then, Exit.inBlock]
 obtain ⟨r0_0, r0_1, r0_2, r0_3⟩ := hs.g1.f4
 refine bodyPost_ret (v := (.tuple #[(.agg #[.bool n_g3a, .slice o_g3a k_g3a c_g3a, .bool n_g3b, .slice o_g3b k_g3b c_g3b]), (.int .i64 0)])) (by simp [results, Tryz.results128, go_sem, r0_0, r0_1, r0_2, r0_3]) rfl ?_
 have k14_16 := (kb n15).o hd16 ho16
 replace g31 := g31.k k14_16
 replace g32 := g32.k k14_16
 exact ⟨_, rfl, .mk' g31 g32, hs.b⟩
theorem fOf_z0 {b e f : Nat} (h : FB b 0 f 0) {R : Value → World → Prop}
   (hsc : ∀ v w, ZC w v (fZ 0 f 0) → Calls Tryz.prog 128 #[v, .int .i64 (-1074)] w fun e w' => ∃ r, e = .returned (.tuple #[r, .int .i64 0]) ∧ PC w' r x y ∧ Below w.heap.size w w') :
   Calls Tryz.prog 70 #[.float .f64 b] w fun e w' => ∃ r, e = .returned (.tuple #[r, .int .i64 0]) ∧ PC w' r x y ∧ Below w.heap.size w w' := by
 have he := h.he
 have hf := h.hf
 have hsz := h.hsz
 have hb0 := h.b0
 have hf0 := h.f0
 have ho := (or_top f hf0).2
 have hw : IntKind.i64.wrap (f : Int) = (f : Int) := by rw [IntKind.wrap_i64]; omega
 have hw64 : wrap64 (f : Int) = (f : Int) := by unfold wrap64; omega
 have hz : fZ 0 f 0 = (f : Int) := by unfold fZ fM; rw [if_neg (by decide)]; rw [if_pos rfl]
 have HB := hide (show -9223372036854775808 ≤ (f : Int) ∧ (f : Int) ≤ 9223372036854775807 by omega)
 rw [hz] at hsc
 have HS := hide hsc
 clear h hz hsc
 go_enter Tryz.func70, Tryz.ntmps70
 have hs := St.nil w
 refine wp_seq_k fun K1 hK1 => rg [0, 1] ?_
 refine sq ?_
 refine .al hs ?_; clear hs; intro p_b1 w_1 hs n1 kb_b1
 refine sm ?_
 apply wpSq_end
 refine hK1 _ _ ?_
 refine wp_seq_k fun K2 hK2 => rg [0, 1, 2] ?_
 refine sm ?_
 refine sq ?_
 intro K hK
 go_big_op; rw [ext_bits]; simp only [Oper.upon, Act.put, List.setIfInBounds_toArray, List.set_cons_succ, List.set_cons_zero]; refine hK _ _ rfl trivial ?_; clear hK K
 refine sm ?_
 apply wpSq_end
 refine hK2 _ _ ?_
 refine wp_seq_k fun K3 hK3 => rg [0, 1, 2, 3, 4] ?_
 refine sm ?_
 refine sr ?_
 refine sr ?_
 refine sr ?_
 refine sm ?_
 apply wpSq_end
 refine hK3 _ _ ?_
 refine wp_seq_k ?_
 intro K4 hK4
 refine wp_seq_k fun K5 hK5 => rg [0, 1] ?_
 refine sm ?_
 refine sr ?_
 apply wpSq_end
 refine hK5 _ _ ?_
 refine cf ?_
 refine wp_skip ?_
 refine hK4 _ _ ?_
 refine wp_seq_k fun K6 hK6 => rg [0, 1, 2, 3] ?_
 refine sm ?_
 refine sr ?_
 refine sr ?_
 refine sm ?_
 apply wpSq_end
 refine hK6 _ _ ?_
 refine wp_seq_k ?_
 intro K7 hK7
 refine wp_seq_k fun K8 hK8 => rg [0, 1] ?_
 refine sm ?_
 refine sr ?_
 apply wpSq_end
 refine hK8 _ _ ?_
 refine cf ?_
 refine wp_skip ?_
 refine hK7 _ _ ?_
 refine wp_seq_k ?_
 intro K9 hK9
 refine wp_seq_k fun K10 hK10 => rg [0, 1, 2] ?_
 refine sm ?_
 refine sr ?_
 refine sr ?_
 apply wpSq_end
 refine hK10 _ _ ?_
 refine cf ?_
 refine wp_skip ?_
 refine hK9 _ _ ?_
 refine wp_seq_k fun K11 hK11 => rg [0, 1, 2, 3, 4, 5, 6, 7, 8] ?_
 refine sm ?_
 refine sq ?_
 intro K hK
 go_big_op
 go_fit (from_any ((f : Int)) _ HB.out.1 HB.out.2)
 rintro e w_2 ⟨v_g1, rfl, g1, hb_2⟩
 replace hs := hs.bl hb_2
 replace g1 := g1.rd
 obtain ⟨n_g1, o_g1, k_g1, c_g1, rfl⟩ := g1.open2
 refine hK _ _ rfl trivial ?_
 clear hK K
 refine sm ?_
 refine sr ?_
 refine sq ?_
 intro K hK
 go_big_op
 go_fit (HS.out _ _ g1)
 rintro e w_3 ⟨_, rfl, ⟨n_g2a, o_g2a, k_g2a, c_g2a, n_g2b, o_g2b, k_g2b, c_g2b, rfl, g21, g22⟩, hb_3⟩
 replace hs := hs.bl hb_3
 refine hK _ _ rfl trivial ?_
 clear hK K
 refine sr ?_
 refine sr ?_
 refine sq ?_
 refine .s4 hs.g0 (fun _ => hs.u0 kb_b1) ?_; clear hs; intro w_4 hs hd4 ho4
 refine sm ?_
 apply wpSq_end
 refine hK11 _ _ ?_
 refine wp_ret ?_
 try dsimp only [Exit.then, Exit.inBlock]
 obtain ⟨r0_0, r0_1, r0_2, r0_3⟩ := hs.g0.f4
 refine bodyPost_ret (v := (.tuple #[(.agg #[.bool n_g2a, .slice o_g2a k_g2a c_g2a, .bool n_g2b, .slice o_g2b k_g2b c_g2b]), (.int .i64 0)])) (by simp [results, Tryz.results70, go_sem, r0_0, r0_1, r0_2, r0_3]) rfl ?_
 have k3_4 := ko hd4 ho4
 replace g21 := g21.k k3_4
 replace g22 := g22.k k3_4
 exact ⟨_, rfl, .mk' g21 g22, hs.b⟩
theorem fOf_n0 {b e f : Nat} (h : FB b e f 0) (he0 : 0 < e) (he7 : e < 2047) {R : Value → World → Prop}
   (hsc : ∀ v w, ZC w v (fZ e f 0) → Calls Tryz.prog 128 #[v, .int .i64 (-1074 + ((e : Int) - 1))] w fun e w' => ∃ r, e = .returned (.tuple #[r, .int .i64 0]) ∧ PC w' r x y ∧ Below w.heap.size w w') :
   Calls Tryz.prog 70 #[.float .f64 b] w fun e w' => ∃ r, e = .returned (.tuple #[r, .int .i64 0]) ∧ PC w' r x y ∧ Below w.heap.size w w' := by
 have he := h.he
 have hf := h.hf
 have hsz := h.hsz
 have hb0 := h.b0
 have hf0 := h.f0
 have ho := (or_top f hf0).2
 have hw : IntKind.i64.wrap (f : Int) = (f : Int) := by rw [IntKind.wrap_i64]; omega
 have hw64 : wrap64 (f : Int) = (f : Int) := by unfold wrap64; omega
 have hg : (e = 2047) = False := eq_false (by omega)
 have hg1 : ((e : Int) = 2047) = False := eq_false (by omega)
 have hg2 : (0 < (e : Int)) = True := eq_true (by omega)
 have hg3 : (0 < e) = True := eq_true he0
 have hz : fZ e f 0 = ((f + 4503599627370496 : Nat) : Int) := by unfold fZ fM; rw [if_neg (by decide)]; rw [if_neg (by omega)]
 have HB := hide (show -9223372036854775808 ≤ ((f + 4503599627370496 : Nat) : Int) ∧ ((f + 4503599627370496 : Nat) : Int) ≤ 9223372036854775807 by omega)
 rw [hz] at hsc
 have HS := hide hsc
 clear h hz hsc
 go_enter Tryz.func70, Tryz.ntmps70
 have hs := St.nil w
 refine wp_seq_k fun K1 hK1 => rg [0, 1] ?_
 refine sq ?_
 refine .al hs ?_; clear hs; intro p_b1 w_1 hs n1 kb_b1
 refine sm ?_
 apply wpSq_end
 refine hK1 _ _ ?_
 refine wp_seq_k fun K2 hK2 => rg [0, 1, 2] ?_
 refine sm ?_
 refine sq ?_
 intro K hK
 go_big_op; rw [ext_bits]; simp only [Oper.upon, Act.put, List.setIfInBounds_toArray, List.set_cons_succ, List.set_cons_zero]; refine hK _ _ rfl trivial ?_; clear hK K
 refine sm ?_
 apply wpSq_end
 refine hK2 _ _ ?_
 refine wp_seq_k fun K3 hK3 => rg [0, 1, 2, 3, 4] ?_
 refine sm ?_
 refine sr ?_
 refine sr ?_
 refine sr ?_
 refine sm ?_
 apply wpSq_end
 refine hK3 _ _ ?_
 refine wp_seq_k ?_
 intro K4 hK4
 refine wp_seq_k fun K5 hK5 => rg [0, 1] ?_
 refine sm ?_
 refine sr ?_
 apply wpSq_end
 refine hK5 _ _ ?_
 refine cf ?_
 refine wp_skip ?_
 refine hK4 _ _ ?_
 refine wp_seq_k fun K6 hK6 => rg [0, 1, 2, 3] ?_
 refine sm ?_
 refine sr ?_
 refine sr ?_
 refine sm ?_
 apply wpSq_end
 refine hK6 _ _ ?_
 refine wp_seq_k ?_
 intro K7 hK7
 refine wp_seq_k fun K8 hK8 => rg [0, 1] ?_
 refine sm ?_
 refine sr ?_
 apply wpSq_end
 refine hK8 _ _ ?_
 refine ct ?_
 refine wp_seq_k fun K9 hK9 => rg [0, 1, 2] ?_
 refine sm ?_
 refine sr ?_
 refine sm ?_
 apply wpSq_end
 refine hK9 _ _ ?_
 refine rg [0, 1, 2] ?_
 refine sm ?_
 refine sr ?_
 refine sm ?_
 apply wpSq_end
 refine hK7 _ _ ?_
 refine wp_seq_k ?_
 intro K10 hK10
 refine wp_seq_k fun K11 hK11 => rg [0, 1, 2] ?_
 refine sm ?_
 refine sr ?_
 refine sr ?_
 apply wpSq_end
 refine hK11 _ _ ?_
 refine cf ?_
 refine wp_skip ?_
 refine hK10 _ _ ?_
 refine wp_seq_k fun K12 hK12 => rg [0, 1, 2, 3, 4, 5, 6, 7, 8] ?_
 refine sm ?_
 refine sq ?_
 intro K hK
 go_big_op
 go_fit (from_any (((f + 4503599627370496 : Nat) : Int)) _ HB.out.1 HB.out.2)
 rintro e w_2 ⟨v_g1, rfl, g1, hb_2⟩
 replace hs := hs.bl hb_2
 replace g1 := g1.rd
 obtain ⟨n_g1, o_g1, k_g1, c_g1, rfl⟩ := g1.open2
 refine hK _ _ rfl trivial ?_
 clear hK K
 refine sm ?_
 refine sr ?_
 refine sq ?_
 intro K hK
 go_big_op
 go_fit (HS.out _ _ g1)
 rintro e w_3 ⟨_, rfl, ⟨n_g2a, o_g2a, k_g2a, c_g2a, n_g2b, o_g2b, k_g2b, c_g2b, rfl, g21, g22⟩, hb_3⟩
 replace hs := hs.bl hb_3
 refine hK _ _ rfl trivial ?_
 clear hK K
 refine sr ?_
 refine sr ?_
 refine sq ?_
 refine .s4 hs.g0 (fun _ => hs.u0 kb_b1) ?_; clear hs; intro w_4 hs hd4 ho4
 refine sm ?_
 apply wpSq_end
 refine hK12 _ _ ?_
 refine wp_ret ?_
 try dsimp only [Exit.then, Exit.inBlock]
 obtain ⟨r0_0, r0_1, r0_2, r0_3⟩ := hs.g0.f4
 refine bodyPost_ret (v := (.tuple #[(.agg #[.bool n_g2a, .slice o_g2a k_g2a c_g2a, .bool n_g2b, .slice o_g2b k_g2b c_g2b]), (.int .i64 0)])) (by simp [results, Tryz.results70, go_sem, r0_0, r0_1, r0_2, r0_3]) rfl ?_
 have k3_4 := ko hd4 ho4
 replace g21 := g21.k k3_4
 replace g22 := g22.k k3_4
 exact ⟨_, rfl, .mk' g21 g22, hs.b⟩
theorem fOf_z1 {b e f : Nat} (h : FB b 0 f 1) {R : Value → World → Prop}
   (hsc : ∀ v w, ZC w v (fZ 0 f 1) → Calls Tryz.prog 128 #[v, .int .i64 (-1074)] w fun e w' => ∃ r, e = .returned (.tuple #[r, .int .i64 0]) ∧ PC w' r x y ∧ Below w.heap.size w w') :
   Calls Tryz.prog 70 #[.float .f64 b] w fun e w' => ∃ r, e = .returned (.tuple #[r, .int .i64 0]) ∧ PC w' r x y ∧ Below w.heap.size w w' := by
 have he := h.he
 have hf := h.hf
 have hsz := h.hsz
 have hb0 := h.b0
 have hf0 := h.f0
 have ho := (or_top f hf0).2
 have hw : IntKind.i64.wrap (f : Int) = (f : Int) := by rw [IntKind.wrap_i64]; omega
 have hw64 : wrap64 (f : Int) = (f : Int) := by unfold wrap64; omega
 have hz : fZ 0 f 1 = -(f : Int) := by unfold fZ fM; rw [if_pos rfl]; rw [if_pos rfl]
 have HB := hide (show -9223372036854775808 ≤ -(f : Int) ∧ -(f : Int) ≤ 9223372036854775807 by omega)
 rw [hz] at hsc
 have HS := hide hsc
 clear h hz hsc
 go_enter Tryz.func70, Tryz.ntmps70
 have hs := St.nil w
 refine wp_seq_k fun K1 hK1 => rg [0, 1] ?_
 refine sq ?_
 refine .al hs ?_; clear hs; intro p_b1 w_1 hs n1 kb_b1
 refine sm ?_
 apply wpSq_end
 refine hK1 _ _ ?_
 refine wp_seq_k fun K2 hK2 => rg [0, 1, 2] ?_
 refine sm ?_
 refine sq ?_
 intro K hK
 go_big_op; rw [ext_bits]; simp only [Oper.upon, Act.put, List.setIfInBounds_toArray, List.set_cons_succ, List.set_cons_zero]; refine hK _ _ rfl trivial ?_; clear hK K
 refine sm ?_
 apply wpSq_end
 refine hK2 _ _ ?_
 refine wp_seq_k fun K3 hK3 => rg [0, 1, 2, 3, 4] ?_
 refine sm ?_
 refine sr ?_
 refine sr ?_
 refine sr ?_
 refine sm ?_
 apply wpSq_end
 refine hK3 _ _ ?_
 refine wp_seq_k ?_
 intro K4 hK4
 refine wp_seq_k fun K5 hK5 => rg [0, 1] ?_
 refine sm ?_
 refine sr ?_
 apply wpSq_end
 refine hK5 _ _ ?_
 refine cf ?_
 refine wp_skip ?_
 refine hK4 _ _ ?_
 refine wp_seq_k fun K6 hK6 => rg [0, 1, 2, 3] ?_
 refine sm ?_
 refine sr ?_
 refine sr ?_
 refine sm ?_
 apply wpSq_end
 refine hK6 _ _ ?_
 refine wp_seq_k ?_
 intro K7 hK7
 refine wp_seq_k fun K8 hK8 => rg [0, 1] ?_
 refine sm ?_
 refine sr ?_
 apply wpSq_end
 refine hK8 _ _ ?_
 refine cf ?_
 refine wp_skip ?_
 refine hK7 _ _ ?_
 refine wp_seq_k ?_
 intro K9 hK9
 refine wp_seq_k fun K10 hK10 => rg [0, 1, 2] ?_
 refine sm ?_
 refine sr ?_
 refine sr ?_
 apply wpSq_end
 refine hK10 _ _ ?_
 refine ct ?_
 refine rg [0, 1, 2] ?_
 refine sm ?_
 refine sr ?_
 refine sm ?_
 apply wpSq_end
 refine hK9 _ _ ?_
 refine wp_seq_k fun K11 hK11 => rg [0, 1, 2, 3, 4, 5, 6, 7, 8] ?_
 refine sm ?_
 refine sq ?_
 intro K hK
 go_big_op
 go_fit (from_any (-(f : Int)) _ HB.out.1 HB.out.2)
 rintro e w_2 ⟨v_g1, rfl, g1, hb_2⟩
 replace hs := hs.bl hb_2
 replace g1 := g1.rd
 obtain ⟨n_g1, o_g1, k_g1, c_g1, rfl⟩ := g1.open2
 refine hK _ _ rfl trivial ?_
 clear hK K
 refine sm ?_
 refine sr ?_
 refine sq ?_
 intro K hK
 go_big_op
 go_fit (HS.out _ _ g1)
 rintro e w_3 ⟨_, rfl, ⟨n_g2a, o_g2a, k_g2a, c_g2a, n_g2b, o_g2b, k_g2b, c_g2b, rfl, g21, g22⟩, hb_3⟩
 replace hs := hs.bl hb_3
 refine hK _ _ rfl trivial ?_
 clear hK K
 refine sr ?_
 refine sr ?_
 refine sq ?_
 refine .s4 hs.g0 (fun _ => hs.u0 kb_b1) ?_; clear hs; intro w_4 hs hd4 ho4
 refine sm ?_
 apply wpSq_end
 refine hK11 _ _ ?_
 refine wp_ret ?_
 try dsimp only [Exit.then, Exit.inBlock]
 obtain ⟨r0_0, r0_1, r0_2, r0_3⟩ := hs.g0.f4
 refine bodyPost_ret (v := (.tuple #[(.agg #[.bool n_g2a, .slice o_g2a k_g2a c_g2a, .bool n_g2b, .slice o_g2b k_g2b c_g2b]), (.int .i64 0)])) (by simp [results, Tryz.results70, go_sem, r0_0, r0_1, r0_2, r0_3]) rfl ?_
 have k3_4 := ko hd4 ho4
 replace g21 := g21.k k3_4
 replace g22 := g22.k k3_4
 exact ⟨_, rfl, .mk' g21 g22, hs.b⟩
theorem fOf_n1 {b e f : Nat} (h : FB b e f 1) (he0 : 0 < e) (he7 : e < 2047) {R : Value → World → Prop}
   (hsc : ∀ v w, ZC w v (fZ e f 1) → Calls Tryz.prog 128 #[v, .int .i64 (-1074 + ((e : Int) - 1))] w fun e w' => ∃ r, e = .returned (.tuple #[r, .int .i64 0]) ∧ PC w' r x y ∧ Below w.heap.size w w') :
   Calls Tryz.prog 70 #[.float .f64 b] w fun e w' => ∃ r, e = .returned (.tuple #[r, .int .i64 0]) ∧ PC w' r x y ∧ Below w.heap.size w w' := by
 have he := h.he
 have hf := h.hf
 have hsz := h.hsz
 have hb0 := h.b0
 have hf0 := h.f0
 have ho := (or_top f hf0).2
 have hw : IntKind.i64.wrap (f : Int) = (f : Int) := by rw [IntKind.wrap_i64]; omega
 have hw64 : wrap64 (f : Int) = (f : Int) := by unfold wrap64; omega
 have hg : (e = 2047) = False := eq_false (by omega)
 have hg1 : ((e : Int) = 2047) = False := eq_false (by omega)
 have hg2 : (0 < (e : Int)) = True := eq_true (by omega)
 have hg3 : (0 < e) = True := eq_true he0
 have hz : fZ e f 1 = -((f + 4503599627370496 : Nat) : Int) := by unfold fZ fM; rw [if_pos rfl]; rw [if_neg (by omega)]
 have HB := hide (show -9223372036854775808 ≤ -((f + 4503599627370496 : Nat) : Int) ∧ -((f + 4503599627370496 : Nat) : Int) ≤ 9223372036854775807 by omega)
 rw [hz] at hsc
 have HS := hide hsc
 clear h hz hsc
 go_enter Tryz.func70, Tryz.ntmps70
 have hs := St.nil w
 refine wp_seq_k fun K1 hK1 => rg [0, 1] ?_
 refine sq ?_
 refine .al hs ?_; clear hs; intro p_b1 w_1 hs n1 kb_b1
 refine sm ?_
 apply wpSq_end
 refine hK1 _ _ ?_
 refine wp_seq_k fun K2 hK2 => rg [0, 1, 2] ?_
 refine sm ?_
 refine sq ?_
 intro K hK
 go_big_op; rw [ext_bits]; simp only [Oper.upon, Act.put, List.setIfInBounds_toArray, List.set_cons_succ, List.set_cons_zero]; refine hK _ _ rfl trivial ?_; clear hK K
 refine sm ?_
 apply wpSq_end
 refine hK2 _ _ ?_
 refine wp_seq_k fun K3 hK3 => rg [0, 1, 2, 3, 4] ?_
 refine sm ?_
 refine sr ?_
 refine sr ?_
 refine sr ?_
 refine sm ?_
 apply wpSq_end
 refine hK3 _ _ ?_
 refine wp_seq_k ?_
 intro K4 hK4
 refine wp_seq_k fun K5 hK5 => rg [0, 1] ?_
 refine sm ?_
 refine sr ?_
 apply wpSq_end
 refine hK5 _ _ ?_
 refine cf ?_
 refine wp_skip ?_
 refine hK4 _ _ ?_
 refine wp_seq_k fun K6 hK6 => rg [0, 1, 2, 3] ?_
 refine sm ?_
 refine sr ?_
 refine sr ?_
 refine sm ?_
 apply wpSq_end
 refine hK6 _ _ ?_
 refine wp_seq_k ?_
 intro K7 hK7
 refine wp_seq_k fun K8 hK8 => rg [0, 1] ?_
 refine sm ?_
 refine sr ?_
 apply wpSq_end
 refine hK8 _ _ ?_
 refine ct ?_
 refine wp_seq_k fun K9 hK9 => rg [0, 1, 2] ?_
 refine sm ?_
 refine sr ?_
 refine sm ?_
 apply wpSq_end
 refine hK9 _ _ ?_
 refine rg [0, 1, 2] ?_
 refine sm ?_
 refine sr ?_
 refine sm ?_
 apply wpSq_end
 refine hK7 _ _ ?_
 refine wp_seq_k ?_
 intro K10 hK10
 refine wp_seq_k fun K11 hK11 => rg [0, 1, 2] ?_
 refine sm ?_
 refine sr ?_
 refine sr ?_
 apply wpSq_end
 refine hK11 _ _ ?_
 refine ct ?_
 refine rg [0, 1, 2] ?_
 refine sm ?_
 refine sr ?_
 refine sm ?_
 apply wpSq_end
 refine hK10 _ _ ?_
 refine wp_seq_k fun K12 hK12 => rg [0, 1, 2, 3, 4, 5, 6, 7, 8] ?_
 refine sm ?_
 refine sq ?_
 intro K hK
 go_big_op
 go_fit (from_any (-((f + 4503599627370496 : Nat) : Int)) _ HB.out.1 HB.out.2)
 rintro e w_2 ⟨v_g1, rfl, g1, hb_2⟩
 replace hs := hs.bl hb_2
 replace g1 := g1.rd
 obtain ⟨n_g1, o_g1, k_g1, c_g1, rfl⟩ := g1.open2
 refine hK _ _ rfl trivial ?_
 clear hK K
 refine sm ?_
 refine sr ?_
 refine sq ?_
 intro K hK
 go_big_op
 go_fit (HS.out _ _ g1)
 rintro e w_3 ⟨_, rfl, ⟨n_g2a, o_g2a, k_g2a, c_g2a, n_g2b, o_g2b, k_g2b, c_g2b, rfl, g21, g22⟩, hb_3⟩
 replace hs := hs.bl hb_3
 refine hK _ _ rfl trivial ?_
 clear hK K
 refine sr ?_
 refine sr ?_
 refine sq ?_
 refine .s4 hs.g0 (fun _ => hs.u0 kb_b1) ?_; clear hs; intro w_4 hs hd4 ho4
 refine sm ?_
 apply wpSq_end
 refine hK12 _ _ ?_
 refine wp_ret ?_
 try dsimp only [Exit.then, Exit.inBlock]
 obtain ⟨r0_0, r0_1, r0_2, r0_3⟩ := hs.g0.f4
 refine bodyPost_ret (v := (.tuple #[(.agg #[.bool n_g2a, .slice o_g2a k_g2a c_g2a, .bool n_g2b, .slice o_g2b k_g2b c_g2b]), (.int .i64 0)])) (by simp [results, Tryz.results70, go_sem, r0_0, r0_1, r0_2, r0_3]) rfl ?_
 have k3_4 := ko hd4 ho4
 replace g21 := g21.k k3_4
 replace g22 := g22.k k3_4
 exact ⟨_, rfl, .mk' g21 g22, hs.b⟩
end
end Go.Proofs.YthlhekkcjficdaaGreatDoor

/- frac.Pow and the reference's. -/
namespace Go.Proofs.YthlhekkcjficdaaGreatDoor
open Go Go.RowKit Dig
set_option linter.unusedVariables false
section
variable {w : World} {va vb : Value} {x y u v : Int} {l m k n : Nat}
end
end Go.Proofs.YthlhekkcjficdaaGreatDoor

/- The reference's Pow. -/
namespace Go.Proofs.YthlhekkcjficdaaGreatDoor
open Go Go.RowKit Dig
set_option linter.unusedVariables false
theorem ZC.neg {w : World} {n : Bool} {s : Value} {z : Int} (h : ZC w (.agg #[.bool n, s]) z) : n = decide (z < 0) := by
 obtain ⟨t, hv, _⟩ := h
 simp at hv
 exact hv.1
end Go.Proofs.YthlhekkcjficdaaGreatDoor

/- The reference's Of; both alike. -/
namespace Go.Proofs.YthlhekkcjficdaaGreatDoor
open Go Go.RowKit Dig
set_option maxHeartbeats 4000000
set_option maxRecDepth 20000
set_option linter.unusedVariables false
theorem Bs.rd2 {w : World} {p a b : Nat} {ty : TypeId} (h : Bs w p #[.int .u32 (a : Int), .int .u32 (b : Int)] ty) (ha : a < 4294967296) (hb : b < 4294967296) : Rd w (.slice (some ⟨p, 0, none⟩) 2 2) [a, b] := by
 refine ⟨some ⟨p, 0, none⟩, 2, rfl, Nat.le_refl _, OK.cons ha (OK.cons hb OK.nil), .inr ⟨p, 0, rfl, ?_⟩⟩
 intro i hi
 have h2 := h.f2
 rcases (show i = 0 ∨ i = 1 by simp at hi; omega) with rfl | rfl
 · exact h2.1
 · exact h2.2
theorem Bs.rd1 {w : World} {p a : Nat} {ty : TypeId} (h : Bs w p #[.int .u32 (a : Int)] ty) (ha : a < 4294967296) : Rd w (.slice (some ⟨p, 0, none⟩) 1 1) [a] := by
 refine ⟨some ⟨p, 0, none⟩, 1, rfl, Nat.le_refl _, OK.cons ha OK.nil, .inr ⟨p, 0, rfl, ?_⟩⟩
 intro i hi
 obtain rfl : i = 0 := by simp at hi; omega
 exact h.f1
theorem shl_sign (z : Int) (P : Nat) : (if decide (z < 0) = true then -((val (dig (z.natAbs * 2 ^ P)) : Nat) : Int) else ((val (dig (z.natAbs * 2 ^ P)) : Nat) : Int)) = z * 2 ^ P := by
 rw [val_dig]
 have e : ((z.natAbs * 2 ^ P : Nat) : Int) = (z.natAbs : Int) * 2 ^ P := by rw [Int.natCast_mul, Int.natCast_pow]; rfl
 rw [e]
 by_cases h : z < 0
 · rw [if_pos (decide_eq_true h), show (z.natAbs : Int) = -z by omega, Int.neg_mul, Int.neg_neg]
 · rw [if_neg (by simpa using h), show (z.natAbs : Int) = z by omega]
theorem one_shl (P : Nat) : (if false = true then -((val (dig (val [1] * 2 ^ P)) : Nat) : Int) else ((val (dig (val [1] * 2 ^ P)) : Nat) : Int)) = 2 ^ P := by
 rw [if_neg Bool.false_ne_true, val_dig, show val [1] = 1 by simp [val], Nat.one_mul, Int.natCast_pow]; rfl
theorem dig_two (P : Nat) (h : P ≤ 1100) : (dig (2 ^ P)).length ≤ 40 := by
 have := two_len P h P (Nat.le_refl _)
 rwa [Int.natAbs_pow] at this
theorem shl_len (z : Int) (P : Nat) (h : P ≤ 1100) (hz : (dig z.natAbs).length ≤ 2) : (dig (z.natAbs * 2 ^ P)).length ≤ 42 := by
 have := zlen_mul (x := z) (y := (2 : Int) ^ P) hz (two_len P h P (Nat.le_refl _))
 rw [Int.natAbs_mul, Int.natAbs_pow] at this
 exact this
section
variable {w : World} {va vb : Value} {x y u v : Int} {l m k n : Nat}
theorem rOf_z0 {b e f P : Nat} (hP : P = 1074) (h : FB b 0 f 0) :
   Calls Tryz.prog 39 #[.float .f64 b] w fun e' w' => ∃ r, e' = .returned r ∧ PC w' r (qN (fZ 0 f 0) (2 ^ P)) (qD (fZ 0 f 0) (2 ^ P)) ∧ Below w.heap.size w w' := by
 have he := h.he
 have hf := h.hf
 have hsz := h.hsz
 have hb0 := h.b0
 have hf0 := h.f0
 have ho := (or_top f hf0).1
 have hPI : (1074 : Int) = (P : Int) := by omega
 have hPle : P ≤ 1100 := by omega
 clear hP
 have LZ := hide (fZ_len 0 f 0 hf0).1
 obtain ⟨lo, hlo⟩ : ∃ lo : Nat, (f : Int) % 4294967296 = (lo : Int) := ⟨f % 4294967296, by omega⟩
 obtain ⟨hi, hhi⟩ : ∃ hi : Nat, (f : Int) / 4294967296 = (hi : Int) := ⟨f / 4294967296, by omega⟩
 have hl32 : lo < 4294967296 := by omega
 have hh32 : hi < 4294967296 := by omega
 have hz : (if false = true then -((val [lo, hi] : Nat) : Int) else ((val [lo, hi] : Nat) : Int)) = fZ 0 f 0 := by
   have hv : val [lo, hi] = f := by simp only [val]; omega
   rw [hv]; unfold fZ fM; rw [if_neg Bool.false_ne_true, if_neg (by decide)]; rw [if_pos rfl]
 have HZ := hide hz
 obtain ⟨z, hzz⟩ : ∃ z, fZ 0 f 0 = z := ⟨_, rfl⟩
 rw [hzz] at HZ LZ ⊢
 clear h hz hzz
 go_enter Tryz.func39, Tryz.ntmps39
 have hs := St.nil w
 refine wp_seq_k fun K1 hK1 => rg [0] ?_
 refine sq ?_
 refine .al hs ?_; clear hs; intro p_b1 w_1 hs n1 kb_b1
 apply wpSq_end
 refine hK1 _ _ ?_
 refine wp_seq_k fun K2 hK2 => rg [0, 1, 2] ?_
 refine sm ?_
 refine sq ?_
 intro K hK
 go_big_op; rw [ext_bits]; simp only [Oper.upon, Act.put, List.setIfInBounds_toArray, List.set_cons_succ, List.set_cons_zero]; refine hK _ _ rfl trivial ?_; clear hK K
 refine sm ?_
 apply wpSq_end
 refine hK2 _ _ ?_
 refine wp_seq_k fun K3 hK3 => rg [0, 1, 2, 3, 4] ?_
 refine sm ?_
 refine sr ?_
 refine sr ?_
 refine sr ?_
 refine sm ?_
 apply wpSq_end
 refine hK3 _ _ ?_
 refine wp_seq_k fun K4 hK4 => rg [0, 1, 2] ?_
 refine sm ?_
 refine sr ?_
 refine sm ?_
 apply wpSq_end
 refine hK4 _ _ ?_
 refine wp_seq_k ?_
 intro K5 hK5
 refine wp_seq_k fun K6 hK6 => rg [0, 1] ?_
 refine sm ?_
 refine sr ?_
 apply wpSq_end
 refine hK6 _ _ ?_
 refine cf ?_
 refine rg [0] ?_
 refine sm ?_
 apply wpSq_end
 refine hK5 _ _ ?_
 refine wp_seq_k fun K7 hK7 => rg [0, 1, 2, 3, 4, 5, 6, 7, 8, 9, 10, 11] ?_
 refine sm ?_
 refine sr ?_
 refine sr ?_
 refine sm ?_
 refine sr ?_
 refine sm ?_
 refine sr ?_
 refine sr ?_
 refine sq ?_
 refine .al hs ?_; clear hs; intro p_b2 w_2 hs n2 kb_b2
 refine sq ?_
 intro K hK
 have x_b2 := hs.g0
 go_big_op
 go_fit (make_any false z (x_b2.rd2 hl32 hh32) (show 2 ≤ 1000000000 by decide) HZ.out)
 rintro e w_3 ⟨v_g, rfl, g, hb_3⟩
 clear x_b2
 replace hs := hs.bl hb_3
 replace g := g.rd
 obtain ⟨n_g, o_g, k_g, c_g, rfl⟩ := g.open2
 have Lg := hide (g.lenOf (LZ.out))
 refine hK _ _ rfl trivial ?_
 clear hK K
 refine sq ?_
 refine .al hs ?_; clear hs; intro p_b3 w_4 hs n4 kb_b3
 refine sq ?_
 refine .s2 hs.g0 (fun _ => hs.u0 kb_b3) ?_; clear hs; intro w_5 hs hd5 ho5
 apply wpSq_end
 refine hK7 _ _ ?_
 refine wp_seq_k ?_
 intro K8 hK8
 refine wp_seq_k fun K9 hK9 => rg [0, 1] ?_
 refine sm ?_
 refine sr ?_
 apply wpSq_end
 refine hK9 _ _ ?_
 refine cf ?_
 refine wp_skip ?_
 refine hK8 _ _ ?_
 refine wp_seq_k ?_
 intro K10 hK10
 refine wp_region_f4 [(0, false), (2, false), (3, false), (1, true), (4, true), (5, true), (6, true)] [7] [] (fun _ => default) [0, 99, 99, 99, 99, 99, 99, 99] [] (.c hs.g0 .n) fn fun w_6 n6 => ?_
 replace hs := hs.bl n6
 refine f2 ?_
 refine fmv ?_
 refine f0 ?_
 refine fl fun w_7 n7 => ?_
 replace hs := hs.bl n7
 refine .al hs ?_ (e := fun _ _ hs n => ⟨n, (And.intro hs.g1 trivial)⟩); clear hs; intro p_b4 w_8 hs n8 kb_b4
 refine fl fun w_9 n9 => ?_
 replace hs := hs.bl n9
 intro K hK
 have x_b4 := hs.g0
 go_big_op
 go_fit (rshl_rd' P (x_b4.rd1 (by decide)) (by decide) (by omega))
 rintro e w_10 ⟨r1, rfl, hr1, hb_10⟩
 clear x_b4
 replace hs := hs.bl hb_10
 refine hK _ _ rfl ⟨hb_10, (And.intro hs.g1 trivial)⟩ ?_
 clear hK K
 refine fl fun w_11 n11 => ?_
 replace hr1 := hr1.bl n11; replace hs := hs.bl n11
 intro K hK
 go_big_op
 go_fit (make_any false (2 ^ P) hr1 (by rw [show val [1] = 1 by simp [val], Nat.one_mul]; exact Nat.le_trans (dig_two _ hPle) (by decide)) (one_shl _))
 rintro e w_12 ⟨v_k, rfl, k, hb_12⟩
 replace hr1 := hr1.bl hb_12; replace hs := hs.bl hb_12
 replace k := k.rd
 obtain ⟨n_k, o_k, k_k, c_k, rfl⟩ := k.open2
 have Lk := hide (k.lenOf (two_len P hPle _ (Nat.le_refl _)))
 refine hK _ _ rfl ⟨hb_12, (And.intro hs.g1 trivial)⟩ ?_
 clear hK K
 refine fl fun w_13 n13 => ?_
 replace hs := hs.bl n13
 intro K hK
 have k3_13 := (((((((((kb n4).o hd5 ho5).b n6).b n7).b n8).b n9).b hb_10).b n11).b hb_12).b n13
 replace g := g.k k3_13
 have k12_13 := kb n13
 replace k := k.k k12_13
 go_big_op
 go_fit (rfmake_any (g.zn Lg.out) (k.zn Lk.out) (by omega) (by omega) (Int.pow_ne_zero (by decide)))
 rintro e w_14 ⟨_, rfl, ⟨n_ra, o_ra, k_ra, c_ra, n_rb, o_rb, k_rb, c_rb, rfl, r1, r2⟩, hb_14⟩
 replace hs := hs.bl hb_14
 refine hK _ _ rfl ⟨hb_14, (And.intro hs.g1 trivial)⟩ ?_
 clear hK K
 refine e0 hs ?_; clear hs; intro w_15 hs n15
 refine tl ?_
 refine .s4 hs.g3 (fun _ => hs.u3 kb_b1) ?_ (e := fun _ hs => (And.intro hs.g1 True.intro)); clear hs; intro w_16 hs hd16 ho16
 apply wpTail_end
 refine hK10 _ _ ?_
 refine wp_ret ?_
 try dsimp only [Exit.then, Exit.inBlock]
 obtain ⟨r0_0, r0_1, r0_2, r0_3⟩ := hs.g3.f4
 refine bodyPost_ret (v := (.agg #[.bool n_ra, .slice o_ra k_ra c_ra, .bool n_rb, .slice o_rb k_rb c_rb])) (by simp [results, Tryz.results39, go_sem, r0_0, r0_1, r0_2, r0_3]) rfl ?_
 have k14_16 := (kb n15).o hd16 ho16
 replace r1 := r1.k k14_16
 replace r2 := r2.k k14_16
 exact ⟨_, rfl, .mk' r1 r2, hs.b⟩
theorem rOf_n0 {b e f : Nat} (h : FB b e f 0) (he0 : 0 < e) (he7 : e < 1075) :
   Calls Tryz.prog 39 #[.float .f64 b] w fun e' w' => ∃ r, e' = .returned r ∧ PC w' r (qN (fZ e f 0) (2 ^ (1075 - e))) (qD (fZ e f 0) (2 ^ (1075 - e))) ∧ Below w.heap.size w w' := by
 have he := h.he
 have hf := h.hf
 have hsz := h.hsz
 have hb0 := h.b0
 have hf0 := h.f0
 have ho := (or_top f hf0).1
 have hg2 : (0 < (e : Int)) = True := eq_true (by omega)
 have hg3 : (0 < e) = True := eq_true (by omega)
 have hg4 : (1075 ≤ (e : Int)) = False := eq_false (by omega)
 have hg5 : (1075 ≤ e) = False := eq_false (by omega)
 have hsub : 1075 - (e : Int) = ((1075 - e : Nat) : Int) := by omega
 have hPle : (1075 - e) ≤ 1100 := by omega
 have LZ := hide (fZ_len e f 0 hf0).1
 obtain ⟨lo, hlo⟩ : ∃ lo : Nat, ((f : Int) + 4503599627370496) % 4294967296 = (lo : Int) := ⟨(f + 4503599627370496) % 4294967296, by omega⟩
 obtain ⟨hi, hhi⟩ : ∃ hi : Nat, ((f : Int) + 4503599627370496) / 4294967296 = (hi : Int) := ⟨(f + 4503599627370496) / 4294967296, by omega⟩
 have hl32 : lo < 4294967296 := by omega
 have hh32 : hi < 4294967296 := by omega
 have hz : (if false = true then -((val [lo, hi] : Nat) : Int) else ((val [lo, hi] : Nat) : Int)) = fZ e f 0 := by
   have hv : val [lo, hi] = (f + 4503599627370496) := by simp only [val]; omega
   rw [hv]; unfold fZ fM; rw [if_neg Bool.false_ne_true, if_neg (by decide)]; rw [if_neg (by omega)]
 have HZ := hide hz
 obtain ⟨z, hzz⟩ : ∃ z, fZ e f 0 = z := ⟨_, rfl⟩
 rw [hzz] at HZ LZ ⊢
 clear h hz hzz
 go_enter Tryz.func39, Tryz.ntmps39
 have hs := St.nil w
 refine wp_seq_k fun K1 hK1 => rg [0] ?_
 refine sq ?_
 refine .al hs ?_; clear hs; intro p_b1 w_1 hs n1 kb_b1
 apply wpSq_end
 refine hK1 _ _ ?_
 refine wp_seq_k fun K2 hK2 => rg [0, 1, 2] ?_
 refine sm ?_
 refine sq ?_
 intro K hK
 go_big_op; rw [ext_bits]; simp only [Oper.upon, Act.put, List.setIfInBounds_toArray, List.set_cons_succ, List.set_cons_zero]; refine hK _ _ rfl trivial ?_; clear hK K
 refine sm ?_
 apply wpSq_end
 refine hK2 _ _ ?_
 refine wp_seq_k fun K3 hK3 => rg [0, 1, 2, 3, 4] ?_
 refine sm ?_
 refine sr ?_
 refine sr ?_
 refine sr ?_
 refine sm ?_
 apply wpSq_end
 refine hK3 _ _ ?_
 refine wp_seq_k fun K4 hK4 => rg [0, 1, 2] ?_
 refine sm ?_
 refine sr ?_
 refine sm ?_
 apply wpSq_end
 refine hK4 _ _ ?_
 refine wp_seq_k ?_
 intro K5 hK5
 refine wp_seq_k fun K6 hK6 => rg [0, 1] ?_
 refine sm ?_
 refine sr ?_
 apply wpSq_end
 refine hK6 _ _ ?_
 refine ct ?_
 refine rg [0, 1, 2] ?_
 refine sm ?_
 refine sr ?_
 refine sm ?_
 apply wpSq_end
 refine hK5 _ _ ?_
 refine wp_seq_k fun K7 hK7 => rg [0, 1, 2, 3, 4, 5, 6, 7, 8, 9, 10, 11] ?_
 refine sm ?_
 refine sr ?_
 refine sr ?_
 refine sm ?_
 refine sr ?_
 refine sm ?_
 refine sr ?_
 refine sr ?_
 refine sq ?_
 refine .al hs ?_; clear hs; intro p_b2 w_2 hs n2 kb_b2
 refine sq ?_
 intro K hK
 have x_b2 := hs.g0
 go_big_op
 go_fit (make_any false z (x_b2.rd2 hl32 hh32) (show 2 ≤ 1000000000 by decide) HZ.out)
 rintro e w_3 ⟨v_g, rfl, g, hb_3⟩
 clear x_b2
 replace hs := hs.bl hb_3
 replace g := g.rd
 obtain ⟨n_g, o_g, k_g, c_g, rfl⟩ := g.open2
 have Lg := hide (g.lenOf (LZ.out))
 refine hK _ _ rfl trivial ?_
 clear hK K
 refine sq ?_
 refine .al hs ?_; clear hs; intro p_b3 w_4 hs n4 kb_b3
 refine sq ?_
 refine .s2 hs.g0 (fun _ => hs.u0 kb_b3) ?_; clear hs; intro w_5 hs hd5 ho5
 apply wpSq_end
 refine hK7 _ _ ?_
 refine wp_seq_k ?_
 intro K8 hK8
 refine wp_seq_k fun K9 hK9 => rg [0, 1] ?_
 refine sm ?_
 refine sr ?_
 apply wpSq_end
 refine hK9 _ _ ?_
 refine cf ?_
 refine wp_skip ?_
 refine hK8 _ _ ?_
 refine wp_seq_k ?_
 intro K10 hK10
 refine wp_region_f4 [(0, false), (2, false), (3, false), (1, true), (4, true), (5, true), (6, true)] [7] [] (fun _ => default) [0, 99, 99, 99, 99, 99, 99, 99] [] (.c hs.g0 .n) fn fun w_6 n6 => ?_
 replace hs := hs.bl n6
 refine f2 ?_
 refine fmv ?_
 refine f0 ?_
 refine fl fun w_7 n7 => ?_
 replace hs := hs.bl n7
 refine .al hs ?_ (e := fun _ _ hs n => ⟨n, (And.intro hs.g1 trivial)⟩); clear hs; intro p_b4 w_8 hs n8 kb_b4
 refine fl fun w_9 n9 => ?_
 replace hs := hs.bl n9
 intro K hK
 have x_b4 := hs.g0
 go_big_op
 go_fit (rshl_rd' (1075 - e) (x_b4.rd1 (by decide)) (by decide) (by omega))
 rintro e w_10 ⟨r1, rfl, hr1, hb_10⟩
 clear x_b4
 replace hs := hs.bl hb_10
 refine hK _ _ rfl ⟨hb_10, (And.intro hs.g1 trivial)⟩ ?_
 clear hK K
 refine fl fun w_11 n11 => ?_
 replace hr1 := hr1.bl n11; replace hs := hs.bl n11
 intro K hK
 go_big_op
 go_fit (make_any false (2 ^ (1075 - e)) hr1 (by rw [show val [1] = 1 by simp [val], Nat.one_mul]; exact Nat.le_trans (dig_two _ (by omega)) (by decide)) (one_shl _))
 rintro e w_12 ⟨v_k, rfl, k, hb_12⟩
 replace hr1 := hr1.bl hb_12; replace hs := hs.bl hb_12
 replace k := k.rd
 obtain ⟨n_k, o_k, k_k, c_k, rfl⟩ := k.open2
 have Lk := hide (k.lenOf (two_len (1075 - e) (by omega) _ (Nat.le_refl _)))
 refine hK _ _ rfl ⟨hb_12, (And.intro hs.g1 trivial)⟩ ?_
 clear hK K
 refine fl fun w_13 n13 => ?_
 replace hs := hs.bl n13
 intro K hK
 have k3_13 := (((((((((kb n4).o hd5 ho5).b n6).b n7).b n8).b n9).b hb_10).b n11).b hb_12).b n13
 replace g := g.k k3_13
 have k12_13 := kb n13
 replace k := k.k k12_13
 go_big_op
 go_fit (rfmake_any (g.zn Lg.out) (k.zn Lk.out) (by omega) (by omega) (Int.pow_ne_zero (by decide)))
 rintro e w_14 ⟨_, rfl, ⟨n_ra, o_ra, k_ra, c_ra, n_rb, o_rb, k_rb, c_rb, rfl, r1, r2⟩, hb_14⟩
 replace hs := hs.bl hb_14
 refine hK _ _ rfl ⟨hb_14, (And.intro hs.g1 trivial)⟩ ?_
 clear hK K
 refine e0 hs ?_; clear hs; intro w_15 hs n15
 refine tl ?_
 refine .s4 hs.g3 (fun _ => hs.u3 kb_b1) ?_ (e := fun _ hs => (And.intro hs.g1 True.intro)); clear hs; intro w_16 hs hd16 ho16
 apply wpTail_end
 refine hK10 _ _ ?_
 refine wp_ret ?_
 try dsimp only [Exit.then, Exit.inBlock]
 obtain ⟨r0_0, r0_1, r0_2, r0_3⟩ := hs.g3.f4
 refine bodyPost_ret (v := (.agg #[.bool n_ra, .slice o_ra k_ra c_ra, .bool n_rb, .slice o_rb k_rb c_rb])) (by simp [results, Tryz.results39, go_sem, r0_0, r0_1, r0_2, r0_3]) rfl ?_
 have k14_16 := (kb n15).o hd16 ho16
 replace r1 := r1.k k14_16
 replace r2 := r2.k k14_16
 exact ⟨_, rfl, .mk' r1 r2, hs.b⟩
theorem rOf_g0 {b e f : Nat} (h : FB b e f 0) (he7 : 1075 ≤ e) (he8 : e < 2047) :
   Calls Tryz.prog 39 #[.float .f64 b] w fun e' w' => ∃ r, e' = .returned r ∧ PC w' r (fZ e f 0 * 2 ^ (e - 1075)) 1 ∧ Below w.heap.size w w' := by
 have he := h.he
 have hf := h.hf
 have hsz := h.hsz
 have hb0 := h.b0
 have hf0 := h.f0
 have ho := (or_top f hf0).1
 have hg2 : (0 < (e : Int)) = True := eq_true (by omega)
 have hg3 : (0 < e) = True := eq_true (by omega)
 have hg4 : (1075 ≤ (e : Int)) = True := eq_true (by omega)
 have hg5 : (1075 ≤ e) = True := eq_true (by omega)
 have hsub : (e : Int) - 1075 = ((e - 1075 : Nat) : Int) := by omega
 have hPle : (e - 1075) ≤ 1100 := by omega
 have LZ := hide (fZ_len e f 0 hf0).1
 obtain ⟨lo, hlo⟩ : ∃ lo : Nat, ((f : Int) + 4503599627370496) % 4294967296 = (lo : Int) := ⟨(f + 4503599627370496) % 4294967296, by omega⟩
 obtain ⟨hi, hhi⟩ : ∃ hi : Nat, ((f : Int) + 4503599627370496) / 4294967296 = (hi : Int) := ⟨(f + 4503599627370496) / 4294967296, by omega⟩
 have hl32 : lo < 4294967296 := by omega
 have hh32 : hi < 4294967296 := by omega
 have hz : (if false = true then -((val [lo, hi] : Nat) : Int) else ((val [lo, hi] : Nat) : Int)) = fZ e f 0 := by
   have hv : val [lo, hi] = (f + 4503599627370496) := by simp only [val]; omega
   rw [hv]; unfold fZ fM; rw [if_neg Bool.false_ne_true, if_neg (by decide)]; rw [if_neg (by omega)]
 have HZ := hide hz
 obtain ⟨z, hzz⟩ : ∃ z, fZ e f 0 = z := ⟨_, rfl⟩
 rw [hzz] at HZ LZ ⊢
 clear h hz hzz
 go_enter Tryz.func39, Tryz.ntmps39
 have hs := St.nil w
 refine wp_seq_k fun K1 hK1 => rg [0] ?_
 refine sq ?_
 refine .al hs ?_; clear hs; intro p_b1 w_1 hs n1 kb_b1
 apply wpSq_end
 refine hK1 _ _ ?_
 refine wp_seq_k fun K2 hK2 => rg [0, 1, 2] ?_
 refine sm ?_
 refine sq ?_
 intro K hK
 go_big_op; rw [ext_bits]; simp only [Oper.upon, Act.put, List.setIfInBounds_toArray, List.set_cons_succ, List.set_cons_zero]; refine hK _ _ rfl trivial ?_; clear hK K
 refine sm ?_
 apply wpSq_end
 refine hK2 _ _ ?_
 refine wp_seq_k fun K3 hK3 => rg [0, 1, 2, 3, 4] ?_
 refine sm ?_
 refine sr ?_
 refine sr ?_
 refine sr ?_
 refine sm ?_
 apply wpSq_end
 refine hK3 _ _ ?_
 refine wp_seq_k fun K4 hK4 => rg [0, 1, 2] ?_
 refine sm ?_
 refine sr ?_
 refine sm ?_
 apply wpSq_end
 refine hK4 _ _ ?_
 refine wp_seq_k ?_
 intro K5 hK5
 refine wp_seq_k fun K6 hK6 => rg [0, 1] ?_
 refine sm ?_
 refine sr ?_
 apply wpSq_end
 refine hK6 _ _ ?_
 refine ct ?_
 refine rg [0, 1, 2] ?_
 refine sm ?_
 refine sr ?_
 refine sm ?_
 apply wpSq_end
 refine hK5 _ _ ?_
 refine wp_seq_k fun K7 hK7 => rg [0, 1, 2, 3, 4, 5, 6, 7, 8, 9, 10, 11] ?_
 refine sm ?_
 refine sr ?_
 refine sr ?_
 refine sm ?_
 refine sr ?_
 refine sm ?_
 refine sr ?_
 refine sr ?_
 refine sq ?_
 refine .al hs ?_; clear hs; intro p_b2 w_2 hs n2 kb_b2
 refine sq ?_
 intro K hK
 have x_b2 := hs.g0
 go_big_op
 go_fit (make_any false z (x_b2.rd2 hl32 hh32) (show 2 ≤ 1000000000 by decide) HZ.out)
 rintro e w_3 ⟨v_g, rfl, g, hb_3⟩
 clear x_b2
 replace hs := hs.bl hb_3
 replace g := g.rd
 obtain ⟨n_g, o_g, k_g, c_g, rfl⟩ := g.open2
 have Lg := hide (g.lenOf (LZ.out))
 refine hK _ _ rfl trivial ?_
 clear hK K
 refine sq ?_
 refine .al hs ?_; clear hs; intro p_b3 w_4 hs n4 kb_b3
 refine sq ?_
 refine .s2 hs.g0 (fun _ => hs.u0 kb_b3) ?_; clear hs; intro w_5 hs hd5 ho5
 apply wpSq_end
 refine hK7 _ _ ?_
 refine wp_seq_k ?_
 intro K8 hK8
 refine wp_seq_k fun K9 hK9 => rg [0, 1] ?_
 refine sm ?_
 refine sr ?_
 apply wpSq_end
 refine hK9 _ _ ?_
 refine ct ?_
 refine wp_seq_k ?_
 intro K10 hK10
 refine wp_region_f4 [(0, false), (1, false), (2, false), (3, false), (4, false), (5, false), (6, true), (7, true), (8, true)] [9] [] (fun _ => default) [99, 0, 99, 0, 99, 99, 99, 99, 99, 99] [] (.c hs.g0 .n) fn fun w_6 n6 => ?_
 replace hs := hs.bl n6
 refine f0 ?_
 refine f2 ?_
 refine f0 ?_
 refine f2 ?_
 refine fmv ?_
 refine f0 ?_
 refine fl fun w_7 n7 => ?_
 replace hs := hs.bl n7
 intro K hK
 have k3_7 := (((kb n4).o hd5 ho5).b n6).b n7
 replace g := g.k k3_7
 go_big_op
 go_fit (rshl_rd' (e - 1075) g.mag (Nat.le_trans Lg.out (by decide)) (by omega))
 rintro e w_8 ⟨r1, rfl, hr1, hb_8⟩
 replace hs := hs.bl hb_8
 rw [val_dig] at hr1
 refine hK _ _ rfl ⟨hb_8, (And.intro hs.g0 trivial)⟩ ?_
 clear hK K
 refine fl fun w_9 n9 => ?_
 replace hr1 := hr1.bl n9; replace hs := hs.bl n9
 intro K hK
 have k7_9 := (kb hb_8).b n9
 replace g := g.k k7_9
 go_big_op
 go_fit (make_any n_g (z * 2 ^ (e - 1075)) hr1 (Nat.le_trans (shl_len z _ hPle Lg.out) (by decide)) (by rw [g.neg]; exact shl_sign z _))
 rintro e w_10 ⟨v_k, rfl, k, hb_10⟩
 replace hr1 := hr1.bl hb_10; replace hs := hs.bl hb_10
 replace k := k.rd
 obtain ⟨n_k, o_k, k_k, c_k, rfl⟩ := k.open2
 have Lk := hide (k.lenOf (zlen_mul Lg.out (two_len _ hPle _ (Nat.le_refl _))))
 refine hK _ _ rfl ⟨hb_10, (And.intro hs.g0 trivial)⟩ ?_
 clear hK K
 refine fl fun w_11 n11 => ?_
 replace hs := hs.bl n11
 intro K hK
 have k10_11 := kb n11
 replace k := k.k k10_11
 go_big_op
 go_fit (rZ_any (k.zn Lk.out) (by decide))
 rintro e w_12 ⟨_, rfl, ⟨n_ra, o_ra, k_ra, c_ra, n_rb, o_rb, k_rb, c_rb, rfl, r1, r2⟩, hb_12⟩
 replace hs := hs.bl hb_12
 refine hK _ _ rfl ⟨hb_12, (And.intro hs.g0 trivial)⟩ ?_
 clear hK K
 refine e0 hs ?_; clear hs; intro w_13 hs n13
 refine tl ?_
 refine .s4 hs.g2 (fun _ => hs.u2 kb_b1) ?_ (e := fun _ hs => (And.intro hs.g0 True.intro)); clear hs; intro w_14 hs hd14 ho14
 apply wpTail_end
 refine hK10 _ _ ?_
 refine wp_ret ?_
 try dsimp only [Exit.then, Exit.inBlock]
 obtain ⟨r0_0, r0_1, r0_2, r0_3⟩ := hs.g2.f4
 refine bodyPost_ret (v := (.agg #[.bool n_ra, .slice o_ra k_ra c_ra, .bool n_rb, .slice o_rb k_rb c_rb])) (by simp [results, Tryz.results39, go_sem, r0_0, r0_1, r0_2, r0_3]) rfl ?_
 have k12_14 := (kb n13).o hd14 ho14
 replace r1 := r1.k k12_14
 replace r2 := r2.k k12_14
 exact ⟨_, rfl, .mk' r1 r2, hs.b⟩
theorem rOf_z1 {b e f P : Nat} (hP : P = 1074) (h : FB b 0 f 1) :
   Calls Tryz.prog 39 #[.float .f64 b] w fun e' w' => ∃ r, e' = .returned r ∧ PC w' r (qN (fZ 0 f 1) (2 ^ P)) (qD (fZ 0 f 1) (2 ^ P)) ∧ Below w.heap.size w w' := by
 have he := h.he
 have hf := h.hf
 have hsz := h.hsz
 have hb0 := h.b0
 have hf0 := h.f0
 have ho := (or_top f hf0).1
 have hPI : (1074 : Int) = (P : Int) := by omega
 have hPle : P ≤ 1100 := by omega
 clear hP
 have LZ := hide (fZ_len 0 f 1 hf0).1
 obtain ⟨lo, hlo⟩ : ∃ lo : Nat, (f : Int) % 4294967296 = (lo : Int) := ⟨f % 4294967296, by omega⟩
 obtain ⟨hi, hhi⟩ : ∃ hi : Nat, (f : Int) / 4294967296 = (hi : Int) := ⟨f / 4294967296, by omega⟩
 have hl32 : lo < 4294967296 := by omega
 have hh32 : hi < 4294967296 := by omega
 have hz : (if true = true then -((val [lo, hi] : Nat) : Int) else ((val [lo, hi] : Nat) : Int)) = fZ 0 f 1 := by
   have hv : val [lo, hi] = f := by simp only [val]; omega
   rw [hv]; unfold fZ fM; rw [if_pos rfl, if_pos rfl]; rw [if_pos rfl]
 have HZ := hide hz
 obtain ⟨z, hzz⟩ : ∃ z, fZ 0 f 1 = z := ⟨_, rfl⟩
 rw [hzz] at HZ LZ ⊢
 clear h hz hzz
 go_enter Tryz.func39, Tryz.ntmps39
 have hs := St.nil w
 refine wp_seq_k fun K1 hK1 => rg [0] ?_
 refine sq ?_
 refine .al hs ?_; clear hs; intro p_b1 w_1 hs n1 kb_b1
 apply wpSq_end
 refine hK1 _ _ ?_
 refine wp_seq_k fun K2 hK2 => rg [0, 1, 2] ?_
 refine sm ?_
 refine sq ?_
 intro K hK
 go_big_op; rw [ext_bits]; simp only [Oper.upon, Act.put, List.setIfInBounds_toArray, List.set_cons_succ, List.set_cons_zero]; refine hK _ _ rfl trivial ?_; clear hK K
 refine sm ?_
 apply wpSq_end
 refine hK2 _ _ ?_
 refine wp_seq_k fun K3 hK3 => rg [0, 1, 2, 3, 4] ?_
 refine sm ?_
 refine sr ?_
 refine sr ?_
 refine sr ?_
 refine sm ?_
 apply wpSq_end
 refine hK3 _ _ ?_
 refine wp_seq_k fun K4 hK4 => rg [0, 1, 2] ?_
 refine sm ?_
 refine sr ?_
 refine sm ?_
 apply wpSq_end
 refine hK4 _ _ ?_
 refine wp_seq_k ?_
 intro K5 hK5
 refine wp_seq_k fun K6 hK6 => rg [0, 1] ?_
 refine sm ?_
 refine sr ?_
 apply wpSq_end
 refine hK6 _ _ ?_
 refine cf ?_
 refine rg [0] ?_
 refine sm ?_
 apply wpSq_end
 refine hK5 _ _ ?_
 refine wp_seq_k fun K7 hK7 => rg [0, 1, 2, 3, 4, 5, 6, 7, 8, 9, 10, 11] ?_
 refine sm ?_
 refine sr ?_
 refine sr ?_
 refine sm ?_
 refine sr ?_
 refine sm ?_
 refine sr ?_
 refine sr ?_
 refine sq ?_
 refine .al hs ?_; clear hs; intro p_b2 w_2 hs n2 kb_b2
 refine sq ?_
 intro K hK
 have x_b2 := hs.g0
 go_big_op
 go_fit (make_any true z (x_b2.rd2 hl32 hh32) (show 2 ≤ 1000000000 by decide) HZ.out)
 rintro e w_3 ⟨v_g, rfl, g, hb_3⟩
 clear x_b2
 replace hs := hs.bl hb_3
 replace g := g.rd
 obtain ⟨n_g, o_g, k_g, c_g, rfl⟩ := g.open2
 have Lg := hide (g.lenOf (LZ.out))
 refine hK _ _ rfl trivial ?_
 clear hK K
 refine sq ?_
 refine .al hs ?_; clear hs; intro p_b3 w_4 hs n4 kb_b3
 refine sq ?_
 refine .s2 hs.g0 (fun _ => hs.u0 kb_b3) ?_; clear hs; intro w_5 hs hd5 ho5
 apply wpSq_end
 refine hK7 _ _ ?_
 refine wp_seq_k ?_
 intro K8 hK8
 refine wp_seq_k fun K9 hK9 => rg [0, 1] ?_
 refine sm ?_
 refine sr ?_
 apply wpSq_end
 refine hK9 _ _ ?_
 refine cf ?_
 refine wp_skip ?_
 refine hK8 _ _ ?_
 refine wp_seq_k ?_
 intro K10 hK10
 refine wp_region_f4 [(0, false), (2, false), (3, false), (1, true), (4, true), (5, true), (6, true)] [7] [] (fun _ => default) [0, 99, 99, 99, 99, 99, 99, 99] [] (.c hs.g0 .n) fn fun w_6 n6 => ?_
 replace hs := hs.bl n6
 refine f2 ?_
 refine fmv ?_
 refine f0 ?_
 refine fl fun w_7 n7 => ?_
 replace hs := hs.bl n7
 refine .al hs ?_ (e := fun _ _ hs n => ⟨n, (And.intro hs.g1 trivial)⟩); clear hs; intro p_b4 w_8 hs n8 kb_b4
 refine fl fun w_9 n9 => ?_
 replace hs := hs.bl n9
 intro K hK
 have x_b4 := hs.g0
 go_big_op
 go_fit (rshl_rd' P (x_b4.rd1 (by decide)) (by decide) (by omega))
 rintro e w_10 ⟨r1, rfl, hr1, hb_10⟩
 clear x_b4
 replace hs := hs.bl hb_10
 refine hK _ _ rfl ⟨hb_10, (And.intro hs.g1 trivial)⟩ ?_
 clear hK K
 refine fl fun w_11 n11 => ?_
 replace hr1 := hr1.bl n11; replace hs := hs.bl n11
 intro K hK
 go_big_op
 go_fit (make_any false (2 ^ P) hr1 (by rw [show val [1] = 1 by simp [val], Nat.one_mul]; exact Nat.le_trans (dig_two _ hPle) (by decide)) (one_shl _))
 rintro e w_12 ⟨v_k, rfl, k, hb_12⟩
 replace hr1 := hr1.bl hb_12; replace hs := hs.bl hb_12
 replace k := k.rd
 obtain ⟨n_k, o_k, k_k, c_k, rfl⟩ := k.open2
 have Lk := hide (k.lenOf (two_len P hPle _ (Nat.le_refl _)))
 refine hK _ _ rfl ⟨hb_12, (And.intro hs.g1 trivial)⟩ ?_
 clear hK K
 refine fl fun w_13 n13 => ?_
 replace hs := hs.bl n13
 intro K hK
 have k3_13 := (((((((((kb n4).o hd5 ho5).b n6).b n7).b n8).b n9).b hb_10).b n11).b hb_12).b n13
 replace g := g.k k3_13
 have k12_13 := kb n13
 replace k := k.k k12_13
 go_big_op
 go_fit (rfmake_any (g.zn Lg.out) (k.zn Lk.out) (by omega) (by omega) (Int.pow_ne_zero (by decide)))
 rintro e w_14 ⟨_, rfl, ⟨n_ra, o_ra, k_ra, c_ra, n_rb, o_rb, k_rb, c_rb, rfl, r1, r2⟩, hb_14⟩
 replace hs := hs.bl hb_14
 refine hK _ _ rfl ⟨hb_14, (And.intro hs.g1 trivial)⟩ ?_
 clear hK K
 refine e0 hs ?_; clear hs; intro w_15 hs n15
 refine tl ?_
 refine .s4 hs.g3 (fun _ => hs.u3 kb_b1) ?_ (e := fun _ hs => (And.intro hs.g1 True.intro)); clear hs; intro w_16 hs hd16 ho16
 apply wpTail_end
 refine hK10 _ _ ?_
 refine wp_ret ?_
 try dsimp only [Exit.then, Exit.inBlock]
 obtain ⟨r0_0, r0_1, r0_2, r0_3⟩ := hs.g3.f4
 refine bodyPost_ret (v := (.agg #[.bool n_ra, .slice o_ra k_ra c_ra, .bool n_rb, .slice o_rb k_rb c_rb])) (by simp [results, Tryz.results39, go_sem, r0_0, r0_1, r0_2, r0_3]) rfl ?_
 have k14_16 := (kb n15).o hd16 ho16
 replace r1 := r1.k k14_16
 replace r2 := r2.k k14_16
 exact ⟨_, rfl, .mk' r1 r2, hs.b⟩
theorem rOf_n1 {b e f : Nat} (h : FB b e f 1) (he0 : 0 < e) (he7 : e < 1075) :
   Calls Tryz.prog 39 #[.float .f64 b] w fun e' w' => ∃ r, e' = .returned r ∧ PC w' r (qN (fZ e f 1) (2 ^ (1075 - e))) (qD (fZ e f 1) (2 ^ (1075 - e))) ∧ Below w.heap.size w w' := by
 have he := h.he
 have hf := h.hf
 have hsz := h.hsz
 have hb0 := h.b0
 have hf0 := h.f0
 have ho := (or_top f hf0).1
 have hg2 : (0 < (e : Int)) = True := eq_true (by omega)
 have hg3 : (0 < e) = True := eq_true (by omega)
 have hg4 : (1075 ≤ (e : Int)) = False := eq_false (by omega)
 have hg5 : (1075 ≤ e) = False := eq_false (by omega)
 have hsub : 1075 - (e : Int) = ((1075 - e : Nat) : Int) := by omega
 have hPle : (1075 - e) ≤ 1100 := by omega
 have LZ := hide (fZ_len e f 1 hf0).1
 obtain ⟨lo, hlo⟩ : ∃ lo : Nat, ((f : Int) + 4503599627370496) % 4294967296 = (lo : Int) := ⟨(f + 4503599627370496) % 4294967296, by omega⟩
 obtain ⟨hi, hhi⟩ : ∃ hi : Nat, ((f : Int) + 4503599627370496) / 4294967296 = (hi : Int) := ⟨(f + 4503599627370496) / 4294967296, by omega⟩
 have hl32 : lo < 4294967296 := by omega
 have hh32 : hi < 4294967296 := by omega
 have hz : (if true = true then -((val [lo, hi] : Nat) : Int) else ((val [lo, hi] : Nat) : Int)) = fZ e f 1 := by
   have hv : val [lo, hi] = (f + 4503599627370496) := by simp only [val]; omega
   rw [hv]; unfold fZ fM; rw [if_pos rfl, if_pos rfl]; rw [if_neg (by omega)]
 have HZ := hide hz
 obtain ⟨z, hzz⟩ : ∃ z, fZ e f 1 = z := ⟨_, rfl⟩
 rw [hzz] at HZ LZ ⊢
 clear h hz hzz
 go_enter Tryz.func39, Tryz.ntmps39
 have hs := St.nil w
 refine wp_seq_k fun K1 hK1 => rg [0] ?_
 refine sq ?_
 refine .al hs ?_; clear hs; intro p_b1 w_1 hs n1 kb_b1
 apply wpSq_end
 refine hK1 _ _ ?_
 refine wp_seq_k fun K2 hK2 => rg [0, 1, 2] ?_
 refine sm ?_
 refine sq ?_
 intro K hK
 go_big_op; rw [ext_bits]; simp only [Oper.upon, Act.put, List.setIfInBounds_toArray, List.set_cons_succ, List.set_cons_zero]; refine hK _ _ rfl trivial ?_; clear hK K
 refine sm ?_
 apply wpSq_end
 refine hK2 _ _ ?_
 refine wp_seq_k fun K3 hK3 => rg [0, 1, 2, 3, 4] ?_
 refine sm ?_
 refine sr ?_
 refine sr ?_
 refine sr ?_
 refine sm ?_
 apply wpSq_end
 refine hK3 _ _ ?_
 refine wp_seq_k fun K4 hK4 => rg [0, 1, 2] ?_
 refine sm ?_
 refine sr ?_
 refine sm ?_
 apply wpSq_end
 refine hK4 _ _ ?_
 refine wp_seq_k ?_
 intro K5 hK5
 refine wp_seq_k fun K6 hK6 => rg [0, 1] ?_
 refine sm ?_
 refine sr ?_
 apply wpSq_end
 refine hK6 _ _ ?_
 refine ct ?_
 refine rg [0, 1, 2] ?_
 refine sm ?_
 refine sr ?_
 refine sm ?_
 apply wpSq_end
 refine hK5 _ _ ?_
 refine wp_seq_k fun K7 hK7 => rg [0, 1, 2, 3, 4, 5, 6, 7, 8, 9, 10, 11] ?_
 refine sm ?_
 refine sr ?_
 refine sr ?_
 refine sm ?_
 refine sr ?_
 refine sm ?_
 refine sr ?_
 refine sr ?_
 refine sq ?_
 refine .al hs ?_; clear hs; intro p_b2 w_2 hs n2 kb_b2
 refine sq ?_
 intro K hK
 have x_b2 := hs.g0
 go_big_op
 go_fit (make_any true z (x_b2.rd2 hl32 hh32) (show 2 ≤ 1000000000 by decide) HZ.out)
 rintro e w_3 ⟨v_g, rfl, g, hb_3⟩
 clear x_b2
 replace hs := hs.bl hb_3
 replace g := g.rd
 obtain ⟨n_g, o_g, k_g, c_g, rfl⟩ := g.open2
 have Lg := hide (g.lenOf (LZ.out))
 refine hK _ _ rfl trivial ?_
 clear hK K
 refine sq ?_
 refine .al hs ?_; clear hs; intro p_b3 w_4 hs n4 kb_b3
 refine sq ?_
 refine .s2 hs.g0 (fun _ => hs.u0 kb_b3) ?_; clear hs; intro w_5 hs hd5 ho5
 apply wpSq_end
 refine hK7 _ _ ?_
 refine wp_seq_k ?_
 intro K8 hK8
 refine wp_seq_k fun K9 hK9 => rg [0, 1] ?_
 refine sm ?_
 refine sr ?_
 apply wpSq_end
 refine hK9 _ _ ?_
 refine cf ?_
 refine wp_skip ?_
 refine hK8 _ _ ?_
 refine wp_seq_k ?_
 intro K10 hK10
 refine wp_region_f4 [(0, false), (2, false), (3, false), (1, true), (4, true), (5, true), (6, true)] [7] [] (fun _ => default) [0, 99, 99, 99, 99, 99, 99, 99] [] (.c hs.g0 .n) fn fun w_6 n6 => ?_
 replace hs := hs.bl n6
 refine f2 ?_
 refine fmv ?_
 refine f0 ?_
 refine fl fun w_7 n7 => ?_
 replace hs := hs.bl n7
 refine .al hs ?_ (e := fun _ _ hs n => ⟨n, (And.intro hs.g1 trivial)⟩); clear hs; intro p_b4 w_8 hs n8 kb_b4
 refine fl fun w_9 n9 => ?_
 replace hs := hs.bl n9
 intro K hK
 have x_b4 := hs.g0
 go_big_op
 go_fit (rshl_rd' (1075 - e) (x_b4.rd1 (by decide)) (by decide) (by omega))
 rintro e w_10 ⟨r1, rfl, hr1, hb_10⟩
 clear x_b4
 replace hs := hs.bl hb_10
 refine hK _ _ rfl ⟨hb_10, (And.intro hs.g1 trivial)⟩ ?_
 clear hK K
 refine fl fun w_11 n11 => ?_
 replace hr1 := hr1.bl n11; replace hs := hs.bl n11
 intro K hK
 go_big_op
 go_fit (make_any false (2 ^ (1075 - e)) hr1 (by rw [show val [1] = 1 by simp [val], Nat.one_mul]; exact Nat.le_trans (dig_two _ (by omega)) (by decide)) (one_shl _))
 rintro e w_12 ⟨v_k, rfl, k, hb_12⟩
 replace hr1 := hr1.bl hb_12; replace hs := hs.bl hb_12
 replace k := k.rd
 obtain ⟨n_k, o_k, k_k, c_k, rfl⟩ := k.open2
 have Lk := hide (k.lenOf (two_len (1075 - e) (by omega) _ (Nat.le_refl _)))
 refine hK _ _ rfl ⟨hb_12, (And.intro hs.g1 trivial)⟩ ?_
 clear hK K
 refine fl fun w_13 n13 => ?_
 replace hs := hs.bl n13
 intro K hK
 have k3_13 := (((((((((kb n4).o hd5 ho5).b n6).b n7).b n8).b n9).b hb_10).b n11).b hb_12).b n13
 replace g := g.k k3_13
 have k12_13 := kb n13
 replace k := k.k k12_13
 go_big_op
 go_fit (rfmake_any (g.zn Lg.out) (k.zn Lk.out) (by omega) (by omega) (Int.pow_ne_zero (by decide)))
 rintro e w_14 ⟨_, rfl, ⟨n_ra, o_ra, k_ra, c_ra, n_rb, o_rb, k_rb, c_rb, rfl, r1, r2⟩, hb_14⟩
 replace hs := hs.bl hb_14
 refine hK _ _ rfl ⟨hb_14, (And.intro hs.g1 trivial)⟩ ?_
 clear hK K
 refine e0 hs ?_; clear hs; intro w_15 hs n15
 refine tl ?_
 refine .s4 hs.g3 (fun _ => hs.u3 kb_b1) ?_ (e := fun _ hs => (And.intro hs.g1 True.intro)); clear hs; intro w_16 hs hd16 ho16
 apply wpTail_end
 refine hK10 _ _ ?_
 refine wp_ret ?_
 try dsimp only [Exit.then, Exit.inBlock]
 obtain ⟨r0_0, r0_1, r0_2, r0_3⟩ := hs.g3.f4
 refine bodyPost_ret (v := (.agg #[.bool n_ra, .slice o_ra k_ra c_ra, .bool n_rb, .slice o_rb k_rb c_rb])) (by simp [results, Tryz.results39, go_sem, r0_0, r0_1, r0_2, r0_3]) rfl ?_
 have k14_16 := (kb n15).o hd16 ho16
 replace r1 := r1.k k14_16
 replace r2 := r2.k k14_16
 exact ⟨_, rfl, .mk' r1 r2, hs.b⟩
theorem rOf_g1 {b e f : Nat} (h : FB b e f 1) (he7 : 1075 ≤ e) (he8 : e < 2047) :
   Calls Tryz.prog 39 #[.float .f64 b] w fun e' w' => ∃ r, e' = .returned r ∧ PC w' r (fZ e f 1 * 2 ^ (e - 1075)) 1 ∧ Below w.heap.size w w' := by
 have he := h.he
 have hf := h.hf
 have hsz := h.hsz
 have hb0 := h.b0
 have hf0 := h.f0
 have ho := (or_top f hf0).1
 have hg2 : (0 < (e : Int)) = True := eq_true (by omega)
 have hg3 : (0 < e) = True := eq_true (by omega)
 have hg4 : (1075 ≤ (e : Int)) = True := eq_true (by omega)
 have hg5 : (1075 ≤ e) = True := eq_true (by omega)
 have hsub : (e : Int) - 1075 = ((e - 1075 : Nat) : Int) := by omega
 have hPle : (e - 1075) ≤ 1100 := by omega
 have LZ := hide (fZ_len e f 1 hf0).1
 obtain ⟨lo, hlo⟩ : ∃ lo : Nat, ((f : Int) + 4503599627370496) % 4294967296 = (lo : Int) := ⟨(f + 4503599627370496) % 4294967296, by omega⟩
 obtain ⟨hi, hhi⟩ : ∃ hi : Nat, ((f : Int) + 4503599627370496) / 4294967296 = (hi : Int) := ⟨(f + 4503599627370496) / 4294967296, by omega⟩
 have hl32 : lo < 4294967296 := by omega
 have hh32 : hi < 4294967296 := by omega
 have hz : (if true = true then -((val [lo, hi] : Nat) : Int) else ((val [lo, hi] : Nat) : Int)) = fZ e f 1 := by
   have hv : val [lo, hi] = (f + 4503599627370496) := by simp only [val]; omega
   rw [hv]; unfold fZ fM; rw [if_pos rfl, if_pos rfl]; rw [if_neg (by omega)]
 have HZ := hide hz
 obtain ⟨z, hzz⟩ : ∃ z, fZ e f 1 = z := ⟨_, rfl⟩
 rw [hzz] at HZ LZ ⊢
 clear h hz hzz
 go_enter Tryz.func39, Tryz.ntmps39
 have hs := St.nil w
 refine wp_seq_k fun K1 hK1 => rg [0] ?_
 refine sq ?_
 refine .al hs ?_; clear hs; intro p_b1 w_1 hs n1 kb_b1
 apply wpSq_end
 refine hK1 _ _ ?_
 refine wp_seq_k fun K2 hK2 => rg [0, 1, 2] ?_
 refine sm ?_
 refine sq ?_
 intro K hK
 go_big_op; rw [ext_bits]; simp only [Oper.upon, Act.put, List.setIfInBounds_toArray, List.set_cons_succ, List.set_cons_zero]; refine hK _ _ rfl trivial ?_; clear hK K
 refine sm ?_
 apply wpSq_end
 refine hK2 _ _ ?_
 refine wp_seq_k fun K3 hK3 => rg [0, 1, 2, 3, 4] ?_
 refine sm ?_
 refine sr ?_
 refine sr ?_
 refine sr ?_
 refine sm ?_
 apply wpSq_end
 refine hK3 _ _ ?_
 refine wp_seq_k fun K4 hK4 => rg [0, 1, 2] ?_
 refine sm ?_
 refine sr ?_
 refine sm ?_
 apply wpSq_end
 refine hK4 _ _ ?_
 refine wp_seq_k ?_
 intro K5 hK5
 refine wp_seq_k fun K6 hK6 => rg [0, 1] ?_
 refine sm ?_
 refine sr ?_
 apply wpSq_end
 refine hK6 _ _ ?_
 refine ct ?_
 refine rg [0, 1, 2] ?_
 refine sm ?_
 refine sr ?_
 refine sm ?_
 apply wpSq_end
 refine hK5 _ _ ?_
 refine wp_seq_k fun K7 hK7 => rg [0, 1, 2, 3, 4, 5, 6, 7, 8, 9, 10, 11] ?_
 refine sm ?_
 refine sr ?_
 refine sr ?_
 refine sm ?_
 refine sr ?_
 refine sm ?_
 refine sr ?_
 refine sr ?_
 refine sq ?_
 refine .al hs ?_; clear hs; intro p_b2 w_2 hs n2 kb_b2
 refine sq ?_
 intro K hK
 have x_b2 := hs.g0
 go_big_op
 go_fit (make_any true z (x_b2.rd2 hl32 hh32) (show 2 ≤ 1000000000 by decide) HZ.out)
 rintro e w_3 ⟨v_g, rfl, g, hb_3⟩
 clear x_b2
 replace hs := hs.bl hb_3
 replace g := g.rd
 obtain ⟨n_g, o_g, k_g, c_g, rfl⟩ := g.open2
 have Lg := hide (g.lenOf (LZ.out))
 refine hK _ _ rfl trivial ?_
 clear hK K
 refine sq ?_
 refine .al hs ?_; clear hs; intro p_b3 w_4 hs n4 kb_b3
 refine sq ?_
 refine .s2 hs.g0 (fun _ => hs.u0 kb_b3) ?_; clear hs; intro w_5 hs hd5 ho5
 apply wpSq_end
 refine hK7 _ _ ?_
 refine wp_seq_k ?_
 intro K8 hK8
 refine wp_seq_k fun K9 hK9 => rg [0, 1] ?_
 refine sm ?_
 refine sr ?_
 apply wpSq_end
 refine hK9 _ _ ?_
 refine ct ?_
 refine wp_seq_k ?_
 intro K10 hK10
 refine wp_region_f4 [(0, false), (1, false), (2, false), (3, false), (4, false), (5, false), (6, true), (7, true), (8, true)] [9] [] (fun _ => default) [99, 0, 99, 0, 99, 99, 99, 99, 99, 99] [] (.c hs.g0 .n) fn fun w_6 n6 => ?_
 replace hs := hs.bl n6
 refine f0 ?_
 refine f2 ?_
 refine f0 ?_
 refine f2 ?_
 refine fmv ?_
 refine f0 ?_
 refine fl fun w_7 n7 => ?_
 replace hs := hs.bl n7
 intro K hK
 have k3_7 := (((kb n4).o hd5 ho5).b n6).b n7
 replace g := g.k k3_7
 go_big_op
 go_fit (rshl_rd' (e - 1075) g.mag (Nat.le_trans Lg.out (by decide)) (by omega))
 rintro e w_8 ⟨r1, rfl, hr1, hb_8⟩
 replace hs := hs.bl hb_8
 rw [val_dig] at hr1
 refine hK _ _ rfl ⟨hb_8, (And.intro hs.g0 trivial)⟩ ?_
 clear hK K
 refine fl fun w_9 n9 => ?_
 replace hr1 := hr1.bl n9; replace hs := hs.bl n9
 intro K hK
 have k7_9 := (kb hb_8).b n9
 replace g := g.k k7_9
 go_big_op
 go_fit (make_any n_g (z * 2 ^ (e - 1075)) hr1 (Nat.le_trans (shl_len z _ hPle Lg.out) (by decide)) (by rw [g.neg]; exact shl_sign z _))
 rintro e w_10 ⟨v_k, rfl, k, hb_10⟩
 replace hr1 := hr1.bl hb_10; replace hs := hs.bl hb_10
 replace k := k.rd
 obtain ⟨n_k, o_k, k_k, c_k, rfl⟩ := k.open2
 have Lk := hide (k.lenOf (zlen_mul Lg.out (two_len _ hPle _ (Nat.le_refl _))))
 refine hK _ _ rfl ⟨hb_10, (And.intro hs.g0 trivial)⟩ ?_
 clear hK K
 refine fl fun w_11 n11 => ?_
 replace hs := hs.bl n11
 intro K hK
 have k10_11 := kb n11
 replace k := k.k k10_11
 go_big_op
 go_fit (rZ_any (k.zn Lk.out) (by decide))
 rintro e w_12 ⟨_, rfl, ⟨n_ra, o_ra, k_ra, c_ra, n_rb, o_rb, k_rb, c_rb, rfl, r1, r2⟩, hb_12⟩
 replace hs := hs.bl hb_12
 refine hK _ _ rfl ⟨hb_12, (And.intro hs.g0 trivial)⟩ ?_
 clear hK K
 refine e0 hs ?_; clear hs; intro w_13 hs n13
 refine tl ?_
 refine .s4 hs.g2 (fun _ => hs.u2 kb_b1) ?_ (e := fun _ hs => (And.intro hs.g0 True.intro)); clear hs; intro w_14 hs hd14 ho14
 apply wpTail_end
 refine hK10 _ _ ?_
 refine wp_ret ?_
 try dsimp only [Exit.then, Exit.inBlock]
 obtain ⟨r0_0, r0_1, r0_2, r0_3⟩ := hs.g2.f4
 refine bodyPost_ret (v := (.agg #[.bool n_ra, .slice o_ra k_ra c_ra, .bool n_rb, .slice o_rb k_rb c_rb])) (by simp [results, Tryz.results39, go_sem, r0_0, r0_1, r0_2, r0_3]) rfl ?_
 have k12_14 := (kb n13).o hd14 ho14
 replace r1 := r1.k k12_14
 replace r2 := r2.k k12_14
 exact ⟨_, rfl, .mk' r1 r2, hs.b⟩
end
end Go.Proofs.YthlhekkcjficdaaGreatDoor

/- Floats: both readings are one. -/
namespace Go.Proofs.YthlhekkcjficdaaGreatDoor
open Go Go.RowKit Dig
set_option maxHeartbeats 4000000
set_option maxRecDepth 20000
set_option linter.unusedVariables false
theorem finite_no {w : World} {b f s : Nat} (h : FB b 2047 f s) :
   Calls Tryz.prog 38 #[.float .f64 b] w fun e w' => e = .returned (.bool false) ∧ Below w.heap.size w w' := by
 have he := h.he
 have hb0 := h.b0
 clear h
 go_enter Tryz.func38, Tryz.ntmps38
 have hs := St.nil w
 refine wp_seq_k fun K1 hK1 => rg [0] ?_
 refine sm ?_
 apply wpSq_end
 refine hK1 _ _ ?_
 refine wp_seq_k fun K2 hK2 => rg [0, 1, 2, 3, 4, 5] ?_
 refine sm ?_
 refine sq ?_
 intro K hK
 go_big_op; rw [ext_bits]; simp only [Oper.upon, Act.put, List.setIfInBounds_toArray, List.set_cons_succ, List.set_cons_zero]; refine hK _ _ rfl trivial ?_; clear hK K
 refine sr ?_
 refine sr ?_
 refine sr ?_
 refine sm ?_
 apply wpSq_end
 refine hK2 _ _ ?_
 refine wp_ret ?_
 try dsimp only [Exit.then, Exit.inBlock]
 refine bodyPost_ret (v := (.bool false)) (by simp [results, Tryz.results38, go_sem]) rfl ?_
 have hb := hs.b
 exact ⟨rfl, hb⟩
theorem finite_yes {w : World} {b e f s : Nat} (h : FB b e f s) (h7 : e < 2047) :
   Calls Tryz.prog 38 #[.float .f64 b] w fun e w' => e = .returned (.bool true) ∧ Below w.heap.size w w' := by
 have he := h.he
 have hb0 := h.b0
 have hg : (e = 2047) = False := eq_false (by omega)
 have hg1 : ((e : Int) = 2047) = False := eq_false (by omega)
 have hg2 : ((e : Int) != 2047) = true := by rw [bne_iff_ne]; omega
 clear h
 go_enter Tryz.func38, Tryz.ntmps38
 have hs := St.nil w
 refine wp_seq_k fun K1 hK1 => rg [0] ?_
 refine sm ?_
 apply wpSq_end
 refine hK1 _ _ ?_
 refine wp_seq_k fun K2 hK2 => rg [0, 1, 2, 3, 4, 5] ?_
 refine sm ?_
 refine sq ?_
 intro K hK
 go_big_op; rw [ext_bits]; simp only [Oper.upon, Act.put, List.setIfInBounds_toArray, List.set_cons_succ, List.set_cons_zero]; refine hK _ _ rfl trivial ?_; clear hK K
 refine sr ?_
 refine sr ?_
 refine sr ?_
 refine sm ?_
 apply wpSq_end
 refine hK2 _ _ ?_
 refine wp_ret ?_
 try dsimp only [Exit.then, Exit.inBlock]
 refine bodyPost_ret (v := (.bool true)) (by simp [results, Tryz.results38, go_sem]) rfl ?_
 have hb := hs.b
 exact ⟨rfl, hb⟩
end Go.Proofs.YthlhekkcjficdaaGreatDoor
