/- The reference's Gaussian integers; the law's is and g. -/
import Derived.Test.YthlhekkcjficdaaWkToG2
import Derived.Test.YthlhekkcjficdaaY8
import Derived.Test.YthlhekkcjficdaaZ8
import Derived.Test.YthlhekkcjficdaaR7
import Derived.Test.YthlhekkcjficdaaMx
import Derived.Test.YthlhekkcjficdaaR2aToR6
import Derived.Test.YthlhekkcjficdaaW8
import Derived.Test.YthlhekkcjficdaaR1
import Derived.Lib.Strings

namespace Go.Proofs.Ythlhekkcjficdaa
open Go Go.RowKit Dig
set_option linter.unusedVariables false

section
variable {w : World} {va vb : Value} {x y u v : Int} {l m k n : Nat}
set_option maxHeartbeats 4000000 in
set_option maxRecDepth 20000 in
theorem rgSame_any (ha : PC w va x y) (hq : PN w vb x l y m) (hl : l ≤ 100000000) (hm : m ≤ 100000000) :
    Calls Try.prog 32 #[va, vb] w fun e w' => e = .returned (.bool true) ∧ Below w.heap.size w w' := by
  obtain ⟨n_0a, o_0a, k_0a, c_0a, n_0b, o_0b, k_0b, c_0b, rfl, ha1, ha2⟩ := ha
  obtain ⟨n_1a, o_1a, k_1a, c_1a, n_1b, o_1b, k_1b, c_1b, rfl, hq1, hq2⟩ := hq
  go_enter Try.func32, Try.ntmps32
  have hs := St.nil w
  refine wp_seq_k ?_
  intro K1 hK1
  refine rg [0, 1, 2] ?_
  refine sq ?_
  refine .al hs ?_; clear hs; intro p_b1 w_1 hs n1 kb_b1
  refine sq ?_
  refine .al hs ?_; clear hs; intro p_b2 w_2 hs n2 kb_b2
  refine sq ?_
  refine .mv ?_
  apply wpSq_end
  refine hK1 _ _ ?_
  refine wp_seq_k ?_
  intro K2 hK2
  refine rg [0, 1, 2, 3, 4, 5, 6, 7, 8, 9, 10, 11, 12] ?_
  refine sq ?_
  refine .r0 ?_
  refine sq ?_
  refine .r4 hs.g1.f4 ?_
  refine sq ?_
  refine .r0 ?_
  refine sq ?_
  refine .r4 hs.g0.f4 ?_
  refine sq ?_
  intro K hK
  have k0_2 := (kb n1).b n2
  replace ha1 := ha1.k k0_2
  replace hq1 := hq1.k k0_2
  go_big_op
  go_fit (rsame_zz ha1 hq1 (by omega) )
  rintro e w_3 ⟨rfl, hb_3⟩
  replace hs := hs.bl hb_3
  refine hK _ _ rfl trivial ?_
  clear hK K
  refine sq ?_
  refine .mv ?_
  refine sq ?_
  refine .r0 ?_
  refine sq ?_
  refine .r4 hs.g1.f4 ?_
  refine sq ?_
  refine .r0 ?_
  refine sq ?_
  refine .r4 hs.g0.f4 ?_
  refine sq ?_
  intro K hK
  have k0_3 := k0_2.b hb_3
  replace ha2 := ha2.k k0_3
  replace hq2 := hq2.k k0_3
  go_big_op
  go_fit (rsame_zz ha2 hq2 (by omega) )
  rintro e w_4 ⟨rfl, hb_4⟩
  replace hs := hs.bl hb_4
  refine hK _ _ rfl trivial ?_
  clear hK K
  refine sq ?_
  refine .r0 ?_
  refine sq ?_
  refine .mv ?_
  apply wpSq_end
  refine hK2 _ _ ?_
  refine wp_ret ?_
  try dsimp only [Exit.then, Exit.inBlock]
  refine bodyPost_ret (v := (.bool true)) (by simp [results, Try.results32, go_sem]) rfl ?_
  have hb := hs.b
  exact ⟨rfl, hb⟩
set_option maxHeartbeats 4000000 in
set_option maxRecDepth 20000 in
theorem rgI_any (a b : Int) (w : World) (h1 : -9223372036854775808 ≤ a) (h2 : a ≤ 9223372036854775807) (h3 : -9223372036854775808 ≤ b) (h4 : b ≤ 9223372036854775807) :
    Calls Try.prog 26 #[.int .i64 a, .int .i64 b] w fun e w' => ∃ r, e = .returned r ∧ PC w' r a b ∧ Below w.heap.size w w' := by
  go_enter Try.func26, Try.ntmps26
  have hs := St.nil w
  refine wp_seq_k ?_
  intro K1 hK1
  refine rg [0] ?_
  refine sq ?_
  refine .al hs ?_; clear hs; intro p_b1 w_1 hs n1 kb_b1
  apply wpSq_end
  refine hK1 _ _ ?_
  refine wp_seq_k ?_
  intro K2 hK2
  refine rg [0, 1, 2, 3, 4, 5] ?_
  refine sq ?_
  refine .mv ?_
  refine sq ?_
  intro K hK
  go_big_op
  go_fit (ri_any a _ h1 h2)
  rintro e w_2 ⟨v_g1, rfl, g1, hb_2⟩
  replace hs := hs.bl hb_2
  replace g1 := g1.rd
  obtain ⟨n_g1, o_g1, k_g1, c_g1, rfl⟩ := g1.open2
  refine hK _ _ rfl trivial ?_
  clear hK K
  refine sq ?_
  refine .mv ?_
  refine sq ?_
  intro K hK
  go_big_op
  go_fit (ri_any b _ h3 h4)
  rintro e w_3 ⟨v_g2, rfl, g2, hb_3⟩
  replace hs := hs.bl hb_3
  replace g2 := g2.rd
  obtain ⟨n_g2, o_g2, k_g2, c_g2, rfl⟩ := g2.open2
  refine hK _ _ rfl trivial ?_
  clear hK K
  refine sq ?_
  refine .r0 ?_
  refine sq ?_
  refine .s4 hs.g0 (fun _ => hs.u0 kb_b1) ?_; clear hs; intro w_4 hs hd4 ho4
  apply wpSq_end
  refine hK2 _ _ ?_
  refine wp_ret ?_
  try dsimp only [Exit.then, Exit.inBlock]
  obtain ⟨r0_0, r0_1, r0_2, r0_3⟩ := hs.g0.f4
  refine bodyPost_ret (v := (.agg #[.bool n_g1, .slice o_g1 k_g1 c_g1, .bool n_g2, .slice o_g2 k_g2 c_g2])) (by simp [results, Try.results26, go_sem, r0_0, r0_1, r0_2, r0_3]) rfl ?_
  have k2_4 := (kb hb_3).o hd4 ho4
  replace g1 := g1.k k2_4
  have k3_4 := ko hd4 ho4
  replace g2 := g2.k k3_4
  exact ⟨_, rfl, .mk' g1 g2, hs.b⟩
set_option maxHeartbeats 4000000 in
set_option maxRecDepth 20000 in
theorem gFrom_any (a b : Int) (w : World) (h1 : -9223372036854775808 ≤ a) (h2 : a ≤ 9223372036854775807) (h3 : -9223372036854775808 ≤ b) (h4 : b ≤ 9223372036854775807) :
    Calls Try.prog 16 #[.int .i64 a, .int .i64 b] w fun e w' => ∃ r, e = .returned r ∧ PC w' r a b ∧ Below w.heap.size w w' := by
  go_enter Try.func16, Try.ntmps16
  have hs := St.nil w
  refine wp_seq_k ?_
  intro K1 hK1
  refine rg [0] ?_
  refine sq ?_
  refine .al hs ?_; clear hs; intro p_b1 w_1 hs n1 kb_b1
  apply wpSq_end
  refine hK1 _ _ ?_
  refine wp_seq_k ?_
  intro K2 hK2
  refine rg [0, 1, 2, 3, 4, 5] ?_
  refine sq ?_
  refine .mv ?_
  refine sq ?_
  intro K hK
  go_big_op
  go_fit (from_any a _ h1 h2)
  rintro e w_2 ⟨v_g1, rfl, g1, hb_2⟩
  replace hs := hs.bl hb_2
  replace g1 := g1.rd
  obtain ⟨n_g1, o_g1, k_g1, c_g1, rfl⟩ := g1.open2
  refine hK _ _ rfl trivial ?_
  clear hK K
  refine sq ?_
  refine .mv ?_
  refine sq ?_
  intro K hK
  go_big_op
  go_fit (from_any b _ h3 h4)
  rintro e w_3 ⟨v_g2, rfl, g2, hb_3⟩
  replace hs := hs.bl hb_3
  replace g2 := g2.rd
  obtain ⟨n_g2, o_g2, k_g2, c_g2, rfl⟩ := g2.open2
  refine hK _ _ rfl trivial ?_
  clear hK K
  refine sq ?_
  refine .r0 ?_
  refine sq ?_
  refine .s4 hs.g0 (fun _ => hs.u0 kb_b1) ?_; clear hs; intro w_4 hs hd4 ho4
  apply wpSq_end
  refine hK2 _ _ ?_
  refine wp_ret ?_
  try dsimp only [Exit.then, Exit.inBlock]
  obtain ⟨r0_0, r0_1, r0_2, r0_3⟩ := hs.g0.f4
  refine bodyPost_ret (v := (.agg #[.bool n_g1, .slice o_g1 k_g1 c_g1, .bool n_g2, .slice o_g2 k_g2 c_g2])) (by simp [results, Try.results16, go_sem, r0_0, r0_1, r0_2, r0_3]) rfl ?_
  have k2_4 := (kb hb_3).o hd4 ho4
  replace g1 := g1.k k2_4
  have k3_4 := ko hd4 ho4
  replace g2 := g2.k k3_4
  exact ⟨_, rfl, .mk' g1 g2, hs.b⟩
end
end Go.Proofs.Ythlhekkcjficdaa


/- gint: Turn, timesI, Canon; the reference's. -/
namespace Go.Proofs.Ythlhekkcjficdaa
open Go Go.RowKit Dig
set_option linter.unusedVariables false

/-- Times i, n times. -/
def turn : Nat → Int × Int → Int × Int
  | 0, p => p
  | n + 1, p => (-(turn n p).2, (turn n p).1)
theorem i64_and_three (n : Int) : bits .and .i64 n 3 = n % 4 := by
  have h1 : (BitVec.ofInt 64 3).toNat = 2 ^ 2 - 1 := by decide
  have key : (BitVec.ofInt 64 n &&& BitVec.ofInt 64 3).toNat = (n % ((2 ^ 64 : Nat) : Int)).toNat % 2 ^ 2 := by
    rw [BitVec.toNat_and, BitVec.toNat_ofInt, h1, Nat.and_two_pow_sub_one_eq_mod]
  show IntKind.i64.wrap ((BitVec.ofInt 64 n &&& BitVec.ofInt 64 3).toNat : Nat) = n % 4
  rw [key, IntKind.wrap_i64]
  omega
section
variable {w : World} {va vb : Value} {x y u v : Int} {l m k n : Nat}
set_option maxHeartbeats 4000000 in
set_option maxRecDepth 20000 in
theorem timesI_any (ha : PC w va x y) (hl : (dig x.natAbs).length ≤ 100000000) (hm : (dig y.natAbs).length ≤ 100000000) :
    Calls Try.prog 40 #[va] w fun e w' => ∃ r, e = .returned r ∧ PC w' r (-y) x ∧ Below w.heap.size w w' := by
  obtain ⟨n_0a, o_0a, k_0a, c_0a, n_0b, o_0b, k_0b, c_0b, rfl, ha1, ha2⟩ := ha
  go_enter Try.func40, Try.ntmps40
  have hs := St.nil w
  refine wp_seq_k ?_
  intro K1 hK1
  refine rg [0, 1] ?_
  refine sq ?_
  refine .al hs ?_; clear hs; intro p_b1 w_1 hs n1 kb_b1
  refine sq ?_
  refine .al hs ?_; clear hs; intro p_b2 w_2 hs n2 kb_b2
  apply wpSq_end
  refine hK1 _ _ ?_
  refine wp_seq_k ?_
  intro K2 hK2
  refine wp_region_f4 [(0, false), (1, false), (3, false), (4, false), (2, true), (5, false)] [6] [] (fun _ => default) [99, 0, 99, 99, 0, 99, 99] [] (.c hs.g1 .n) fn fun w_3 n3 => ?_
  replace hs := hs.bl n3
  refine f0 ?_
  refine f4 ?_
  refine f0 ?_
  refine f4 ?_
  refine fl fun w_4 n4 => ?_
  replace hs := hs.bl n4
  intro K hK
  have k0_4 := (((kb n1).b n2).b n3).b n4
  replace ha2 := ha2.k k0_4
  go_big_op
  go_fit (zneg_any (ha2.zn hm) (by decide))
  rintro e w_5 ⟨v_g1, rfl, g1, hb_5⟩
  replace hs := hs.bl hb_5
  replace g1 := g1.rd
  obtain ⟨n_g1, o_g1, k_g1, c_g1, rfl⟩ := g1.open2
  have Lg1 := hide (g1.lenOf (zlen_neg hm))
  refine hK _ _ rfl ⟨hb_5, (And.intro hs.g1 trivial)⟩ ?_
  clear hK K
  refine f0 ?_
  refine e0 hs ?_; clear hs; intro w_6 hs n6
  refine tl ?_
  refine .s4 hs.g0 (fun _ => hs.u0 kb_b2) ?_ (e := fun _ hs => (And.intro hs.g1 True.intro)); clear hs; intro w_7 hs hd7 ho7
  apply wpTail_end
  refine hK2 _ _ ?_
  refine wp_ret ?_
  try dsimp only [Exit.then, Exit.inBlock]
  obtain ⟨r0_0, r0_1, r0_2, r0_3⟩ := hs.g0.f4
  refine bodyPost_ret (v := (.agg #[.bool n_g1, .slice o_g1 k_g1 c_g1, .bool n_0a, .slice o_0a k_0a c_0a])) (by simp [results, Try.results40, go_sem, r0_0, r0_1, r0_2, r0_3]) rfl ?_
  have k5_7 := (kb n6).o hd7 ho7
  replace g1 := g1.k k5_7
  have k0_7 := ((k0_4.b hb_5).b n6).o hd7 ho7
  replace ha1 := ha1.k k0_7
  exact ⟨_, rfl, .mk' g1 ha1, hs.b⟩
set_option maxHeartbeats 4000000 in
set_option maxRecDepth 20000 in
theorem gTurn0 (K : Int) (hK : K % 4 = 0) (ha : PN w va x l y m) (hl : l ≤ 40000000) (hm : m ≤ 40000000) :
    Calls Try.prog 15 #[va, .int .i64 K] w fun e w' => ∃ v, e = .returned v ∧ PC w' v (turn 0 (x, y)).1 (turn 0 (x, y)).2 ∧ Below w.heap.size w w' := by
  have hand : bits .and .i64 K 3 = 0 := by rw [i64_and_three]; exact hK
  have E := hide (And.intro (Int.add_zero x) (Int.add_zero y))
  clear hK
  obtain ⟨n_0a, o_0a, k_0a, c_0a, n_0b, o_0b, k_0b, c_0b, rfl, ha1, ha2⟩ := ha
  go_enter Try.func15, Try.ntmps15
  have hs := St.nil w
  refine wp_seq_k ?_
  intro K1 hK1
  refine rg [0, 1] ?_
  refine sq ?_
  refine .al hs ?_; clear hs; intro p_b1 w_1 hs n1 kb_b1
  refine sq ?_
  refine .al hs ?_; clear hs; intro p_b2 w_2 hs n2 kb_b2
  apply wpSq_end
  refine hK1 _ _ ?_
  refine wp_seq_k ?_
  intro K2 hK2
  refine wp_region_f4 [(0, false), (1, false), (2, false), (4, false), (5, false), (6, false), (3, true), (7, true), (8, false)] [10] [9] (fun j => (.cells #[.bool false, .slice none 0 0, .bool false, .slice none 0 0] 29)) [99, 0, 99, 99, 99, 0, 99, 99, 99, 99, 99] [] (.c hs.g1 .n) (fm fn) fun w_3 n3 => ?_
  replace hs := hs.bl n3
  have hlB := hs.lt; have hkB := hs.k
  refine f0 ?_
  refine f4 ?_
  refine f0 ?_
  refine f0 ?_
  refine f4 ?_
  refine f0 ?_
  refine fl fun w_4 n4 => ?_
  replace hs := hs.bl n4
  intro K hK
  have k0_4 := (((kb n1).b n2).b n3).b n4
  replace ha1 := ha1.k k0_4
  go_big_op
  go_fit (zadd_any ha1 ((zc_zero w_4).zn zlen_0) (by omega) (by omega) )
  rintro e w_5 ⟨v_g1, rfl, g1, hb_5⟩
  replace hs := hs.bl hb_5
  replace g1 := g1.rd
  obtain ⟨n_g1, o_g1, k_g1, c_g1, rfl⟩ := g1.open2
  have Lg1 := hide (g1.lenOf (zlen_add (ha1.len) (zlen_0)))
  rw [E.out.1] at g1
  refine hK _ _ rfl ⟨hb_5, (And.intro hs.g1 trivial)⟩ ?_
  clear hK K
  have Lg1 := hide (g1.lenOf (ha1.len))
  refine fl fun w_6 n6 => ?_
  replace hs := hs.bl n6
  intro K hK
  have k0_6 := (k0_4.b hb_5).b n6
  replace ha2 := ha2.k k0_6
  go_big_op
  go_fit (zadd_any ha2 ((zc_zero w_6).zn zlen_0) (by omega) (by omega) )
  rintro e w_7 ⟨v_g2, rfl, g2, hb_7⟩
  replace hs := hs.bl hb_7
  replace g2 := g2.rd
  obtain ⟨n_g2, o_g2, k_g2, c_g2, rfl⟩ := g2.open2
  have Lg2 := hide (g2.lenOf (zlen_add (ha2.len) (zlen_0)))
  rw [E.out.2] at g2
  refine hK _ _ rfl ⟨hb_7, (And.intro hs.g1 trivial)⟩ ?_
  clear hK K
  refine f0 ?_
  refine e1 hs hlB hkB ?_; clear hs hlB hkB; intro w_8 p_b3 hs n8 kb_b3
  refine tl ?_
  refine .s4 hs.g0 (fun _ => hs.u0 kb_b3) ?_ (e := fun _ hs => (And.intro hs.g2 True.intro)); clear hs; intro w_9 hs hd9 ho9
  apply wpTail_end
  refine hK2 _ _ ?_
  refine wp_seq_k ?_
  intro K3 hK3
  refine wp_seq_k ?_
  intro K4 hK4
  refine rg [0, 1] ?_
  refine sq ?_
  refine .mv ?_
  refine sq ?_
  refine .r0 ?_
  apply wpSq_end
  refine hK4 _ _ ?_
  refine wp_block ?_
  refine wp_seq_k ?_
  intro K5 hK5
  refine wp_block ?_
  refine wp_seq_k ?_
  intro K6 hK6
  refine wp_block ?_
  refine wp_seq_k ?_
  intro K7 hK7
  refine wp_block ?_
  refine wp_seq_k ?_
  intro K8 hK8
  refine wp_seq_k ?_
  intro K9 hK9
  refine wp_seq_k ?_
  intro K10 hK10
  refine rg [0, 1] ?_
  refine sq ?_
  refine .r0 ?_
  refine sq ?_
  refine .mv ?_
  apply wpSq_end
  refine hK10 _ _ ?_
  have Lg2 := hide (g2.lenOf (ha2.len))
  refine cf ?_
  refine wp_skip ?_
  refine hK9 _ _ ?_
  refine wp_seq_k ?_
  intro K11 hK11
  refine wp_seq_k ?_
  intro K12 hK12
  refine rg [0, 1] ?_
  refine sq ?_
  refine .r0 ?_
  refine sq ?_
  refine .mv ?_
  apply wpSq_end
  refine hK12 _ _ ?_
  refine cf ?_
  refine wp_skip ?_
  refine hK11 _ _ ?_
  refine wp_seq_k ?_
  intro K13 hK13
  refine rg [0, 1] ?_
  refine sq ?_
  refine .r0 ?_
  refine sq ?_
  refine .mv ?_
  apply wpSq_end
  refine hK13 _ _ ?_
  refine cf ?_
  refine wp_skip ?_
  refine hK8 _ _ ?_
  refine wp_exit ?_
  refine hK3 _ _ ?_
  refine wp_seq_k ?_
  intro K14 hK14
  refine rg [0, 1] ?_
  refine sq ?_
  refine .r4 hs.g0.f4 ?_
  refine sq ?_
  refine .s4 hs.g1 (fun _ => hs.u1 kb_b2) ?_; clear hs; intro w_10 hs hd10 ho10
  apply wpSq_end
  refine hK14 _ _ ?_
  refine wp_ret ?_
  try dsimp only [Exit.then, Exit.inBlock]
  obtain ⟨r0_0, r0_1, r0_2, r0_3⟩ := hs.g1.f4
  refine bodyPost_ret (v := (.agg #[.bool n_g1, .slice o_g1 k_g1 c_g1, .bool n_g2, .slice o_g2 k_g2 c_g2])) (by simp [results, Try.results15, go_sem, r0_0, r0_1, r0_2, r0_3]) rfl ?_
  have k5_10 := ((((kb n6).b hb_7).b n8).o hd9 ho9).o hd10 ho10
  replace g1 := g1.k k5_10
  have k7_10 := ((kb n8).o hd9 ho9).o hd10 ho10
  replace g2 := g2.k k7_10
  exact ⟨_, rfl, .mk' g1 g2, hs.b⟩
set_option maxHeartbeats 4000000 in
set_option maxRecDepth 20000 in
theorem gTurn1 (K : Int) (hK : K % 4 = 1) (ha : PN w va x l y m) (hl : l ≤ 40000000) (hm : m ≤ 40000000) :
    Calls Try.prog 15 #[va, .int .i64 K] w fun e w' => ∃ v, e = .returned v ∧ PC w' v (turn 1 (x, y)).1 (turn 1 (x, y)).2 ∧ Below w.heap.size w w' := by
  have hand : bits .and .i64 K 3 = 1 := by rw [i64_and_three]; exact hK
  have E := hide (And.intro (Int.add_zero x) (Int.add_zero y))
  clear hK
  obtain ⟨n_0a, o_0a, k_0a, c_0a, n_0b, o_0b, k_0b, c_0b, rfl, ha1, ha2⟩ := ha
  go_enter Try.func15, Try.ntmps15
  have hs := St.nil w
  refine wp_seq_k ?_
  intro K1 hK1
  refine rg [0, 1] ?_
  refine sq ?_
  refine .al hs ?_; clear hs; intro p_b1 w_1 hs n1 kb_b1
  refine sq ?_
  refine .al hs ?_; clear hs; intro p_b2 w_2 hs n2 kb_b2
  apply wpSq_end
  refine hK1 _ _ ?_
  refine wp_seq_k ?_
  intro K2 hK2
  refine wp_region_f4 [(0, false), (1, false), (2, false), (4, false), (5, false), (6, false), (3, true), (7, true), (8, false)] [10] [9] (fun j => (.cells #[.bool false, .slice none 0 0, .bool false, .slice none 0 0] 29)) [99, 0, 99, 99, 99, 0, 99, 99, 99, 99, 99] [] (.c hs.g1 .n) (fm fn) fun w_3 n3 => ?_
  replace hs := hs.bl n3
  have hlB := hs.lt; have hkB := hs.k
  refine f0 ?_
  refine f4 ?_
  refine f0 ?_
  refine f0 ?_
  refine f4 ?_
  refine f0 ?_
  refine fl fun w_4 n4 => ?_
  replace hs := hs.bl n4
  intro K hK
  have k0_4 := (((kb n1).b n2).b n3).b n4
  replace ha1 := ha1.k k0_4
  go_big_op
  go_fit (zadd_any ha1 ((zc_zero w_4).zn zlen_0) (by omega) (by omega) )
  rintro e w_5 ⟨v_g1, rfl, g1, hb_5⟩
  replace hs := hs.bl hb_5
  replace g1 := g1.rd
  obtain ⟨n_g1, o_g1, k_g1, c_g1, rfl⟩ := g1.open2
  have Lg1 := hide (g1.lenOf (zlen_add (ha1.len) (zlen_0)))
  rw [E.out.1] at g1
  refine hK _ _ rfl ⟨hb_5, (And.intro hs.g1 trivial)⟩ ?_
  clear hK K
  have Lg1 := hide (g1.lenOf (ha1.len))
  refine fl fun w_6 n6 => ?_
  replace hs := hs.bl n6
  intro K hK
  have k0_6 := (k0_4.b hb_5).b n6
  replace ha2 := ha2.k k0_6
  go_big_op
  go_fit (zadd_any ha2 ((zc_zero w_6).zn zlen_0) (by omega) (by omega) )
  rintro e w_7 ⟨v_g2, rfl, g2, hb_7⟩
  replace hs := hs.bl hb_7
  replace g2 := g2.rd
  obtain ⟨n_g2, o_g2, k_g2, c_g2, rfl⟩ := g2.open2
  have Lg2 := hide (g2.lenOf (zlen_add (ha2.len) (zlen_0)))
  rw [E.out.2] at g2
  refine hK _ _ rfl ⟨hb_7, (And.intro hs.g1 trivial)⟩ ?_
  clear hK K
  refine f0 ?_
  refine e1 hs hlB hkB ?_; clear hs hlB hkB; intro w_8 p_b3 hs n8 kb_b3
  refine tl ?_
  refine .s4 hs.g0 (fun _ => hs.u0 kb_b3) ?_ (e := fun _ hs => (And.intro hs.g2 True.intro)); clear hs; intro w_9 hs hd9 ho9
  apply wpTail_end
  refine hK2 _ _ ?_
  refine wp_seq_k ?_
  intro K3 hK3
  refine wp_seq_k ?_
  intro K4 hK4
  refine rg [0, 1] ?_
  refine sq ?_
  refine .mv ?_
  refine sq ?_
  refine .r0 ?_
  apply wpSq_end
  refine hK4 _ _ ?_
  refine wp_block ?_
  refine wp_seq_k ?_
  intro K5 hK5
  refine wp_block ?_
  refine wp_seq_k ?_
  intro K6 hK6
  refine wp_block ?_
  refine wp_seq_k ?_
  intro K7 hK7
  refine wp_block ?_
  refine wp_seq_k ?_
  intro K8 hK8
  refine wp_seq_k ?_
  intro K9 hK9
  refine wp_seq_k ?_
  intro K10 hK10
  refine rg [0, 1] ?_
  refine sq ?_
  refine .r0 ?_
  refine sq ?_
  refine .mv ?_
  apply wpSq_end
  refine hK10 _ _ ?_
  have Lg2 := hide (g2.lenOf (ha2.len))
  refine cf ?_
  refine wp_skip ?_
  refine hK9 _ _ ?_
  refine wp_seq_k ?_
  intro K11 hK11
  refine wp_seq_k ?_
  intro K12 hK12
  refine rg [0, 1] ?_
  refine sq ?_
  refine .r0 ?_
  refine sq ?_
  refine .mv ?_
  apply wpSq_end
  refine hK12 _ _ ?_
  refine cf ?_
  refine wp_skip ?_
  refine hK11 _ _ ?_
  refine wp_seq_k ?_
  intro K13 hK13
  refine rg [0, 1] ?_
  refine sq ?_
  refine .r0 ?_
  refine sq ?_
  refine .mv ?_
  apply wpSq_end
  refine hK13 _ _ ?_
  refine ct ?_
  refine wp_exit ?_
  refine hK5 _ _ ?_
  refine wp_seq_k ?_
  intro K14 hK14
  refine rg [0, 1, 2] ?_
  refine sq ?_
  refine .r4 hs.g0.f4 ?_
  refine sq ?_
  intro K hK
  have k5_9 := (((kb n6).b hb_7).b n8).o hd9 ho9
  replace g1 := g1.k k5_9
  have k7_9 := (kb n8).o hd9 ho9
  replace g2 := g2.k k7_9
  go_big_op
  go_fit (timesI_any (.mk' g1 g2) (Nat.le_trans Lg1.out (by omega)) (Nat.le_trans Lg2.out (by omega)))
  rintro e w_10 ⟨_, rfl, ⟨n_t1a, o_t1a, k_t1a, c_t1a, n_t1b, o_t1b, k_t1b, c_t1b, rfl, t11, t12⟩, hb_10⟩
  replace hs := hs.bl hb_10
  have Lt11 := hide (t11.lenOf (zlen_neg Lg2.out))
  have Lt12 := hide (t12.lenOf (Lg1.out))
  refine hK _ _ rfl trivial ?_
  clear hK K
  refine sq ?_
  refine .s4 hs.g0 (fun _ => hs.u0 kb_b3) ?_; clear hs; intro w_11 hs hd11 ho11
  apply wpSq_end
  refine hK14 _ _ ?_
  refine wp_exit ?_
  refine hK3 _ _ ?_
  refine wp_seq_k ?_
  intro K15 hK15
  refine rg [0, 1] ?_
  refine sq ?_
  refine .r4 hs.g0.f4 ?_
  refine sq ?_
  refine .s4 hs.g1 (fun _ => hs.u1 kb_b2) ?_; clear hs; intro w_12 hs hd12 ho12
  apply wpSq_end
  refine hK15 _ _ ?_
  refine wp_ret ?_
  try dsimp only [Exit.then, Exit.inBlock]
  obtain ⟨r0_0, r0_1, r0_2, r0_3⟩ := hs.g1.f4
  refine bodyPost_ret (v := (.agg #[.bool n_t1a, .slice o_t1a k_t1a c_t1a, .bool n_t1b, .slice o_t1b k_t1b c_t1b])) (by simp [results, Try.results15, go_sem, r0_0, r0_1, r0_2, r0_3]) rfl ?_
  have k10_12 := (ko hd11 ho11).o hd12 ho12
  replace t11 := t11.k k10_12
  replace t12 := t12.k k10_12
  exact ⟨_, rfl, .mk' t11 t12, hs.b⟩
set_option maxHeartbeats 4000000 in
set_option maxRecDepth 20000 in
theorem gTurn2 (K : Int) (hK : K % 4 = 2) (ha : PN w va x l y m) (hl : l ≤ 40000000) (hm : m ≤ 40000000) :
    Calls Try.prog 15 #[va, .int .i64 K] w fun e w' => ∃ v, e = .returned v ∧ PC w' v (turn 2 (x, y)).1 (turn 2 (x, y)).2 ∧ Below w.heap.size w w' := by
  have hand : bits .and .i64 K 3 = 2 := by rw [i64_and_three]; exact hK
  have E := hide (And.intro (Int.add_zero x) (Int.add_zero y))
  clear hK
  obtain ⟨n_0a, o_0a, k_0a, c_0a, n_0b, o_0b, k_0b, c_0b, rfl, ha1, ha2⟩ := ha
  go_enter Try.func15, Try.ntmps15
  have hs := St.nil w
  refine wp_seq_k ?_
  intro K1 hK1
  refine rg [0, 1] ?_
  refine sq ?_
  refine .al hs ?_; clear hs; intro p_b1 w_1 hs n1 kb_b1
  refine sq ?_
  refine .al hs ?_; clear hs; intro p_b2 w_2 hs n2 kb_b2
  apply wpSq_end
  refine hK1 _ _ ?_
  refine wp_seq_k ?_
  intro K2 hK2
  refine wp_region_f4 [(0, false), (1, false), (2, false), (4, false), (5, false), (6, false), (3, true), (7, true), (8, false)] [10] [9] (fun j => (.cells #[.bool false, .slice none 0 0, .bool false, .slice none 0 0] 29)) [99, 0, 99, 99, 99, 0, 99, 99, 99, 99, 99] [] (.c hs.g1 .n) (fm fn) fun w_3 n3 => ?_
  replace hs := hs.bl n3
  have hlB := hs.lt; have hkB := hs.k
  refine f0 ?_
  refine f4 ?_
  refine f0 ?_
  refine f0 ?_
  refine f4 ?_
  refine f0 ?_
  refine fl fun w_4 n4 => ?_
  replace hs := hs.bl n4
  intro K hK
  have k0_4 := (((kb n1).b n2).b n3).b n4
  replace ha1 := ha1.k k0_4
  go_big_op
  go_fit (zadd_any ha1 ((zc_zero w_4).zn zlen_0) (by omega) (by omega) )
  rintro e w_5 ⟨v_g1, rfl, g1, hb_5⟩
  replace hs := hs.bl hb_5
  replace g1 := g1.rd
  obtain ⟨n_g1, o_g1, k_g1, c_g1, rfl⟩ := g1.open2
  have Lg1 := hide (g1.lenOf (zlen_add (ha1.len) (zlen_0)))
  rw [E.out.1] at g1
  refine hK _ _ rfl ⟨hb_5, (And.intro hs.g1 trivial)⟩ ?_
  clear hK K
  have Lg1 := hide (g1.lenOf (ha1.len))
  refine fl fun w_6 n6 => ?_
  replace hs := hs.bl n6
  intro K hK
  have k0_6 := (k0_4.b hb_5).b n6
  replace ha2 := ha2.k k0_6
  go_big_op
  go_fit (zadd_any ha2 ((zc_zero w_6).zn zlen_0) (by omega) (by omega) )
  rintro e w_7 ⟨v_g2, rfl, g2, hb_7⟩
  replace hs := hs.bl hb_7
  replace g2 := g2.rd
  obtain ⟨n_g2, o_g2, k_g2, c_g2, rfl⟩ := g2.open2
  have Lg2 := hide (g2.lenOf (zlen_add (ha2.len) (zlen_0)))
  rw [E.out.2] at g2
  refine hK _ _ rfl ⟨hb_7, (And.intro hs.g1 trivial)⟩ ?_
  clear hK K
  refine f0 ?_
  refine e1 hs hlB hkB ?_; clear hs hlB hkB; intro w_8 p_b3 hs n8 kb_b3
  refine tl ?_
  refine .s4 hs.g0 (fun _ => hs.u0 kb_b3) ?_ (e := fun _ hs => (And.intro hs.g2 True.intro)); clear hs; intro w_9 hs hd9 ho9
  apply wpTail_end
  refine hK2 _ _ ?_
  refine wp_seq_k ?_
  intro K3 hK3
  refine wp_seq_k ?_
  intro K4 hK4
  refine rg [0, 1] ?_
  refine sq ?_
  refine .mv ?_
  refine sq ?_
  refine .r0 ?_
  apply wpSq_end
  refine hK4 _ _ ?_
  refine wp_block ?_
  refine wp_seq_k ?_
  intro K5 hK5
  refine wp_block ?_
  refine wp_seq_k ?_
  intro K6 hK6
  refine wp_block ?_
  refine wp_seq_k ?_
  intro K7 hK7
  refine wp_block ?_
  refine wp_seq_k ?_
  intro K8 hK8
  refine wp_seq_k ?_
  intro K9 hK9
  refine wp_seq_k ?_
  intro K10 hK10
  refine rg [0, 1] ?_
  refine sq ?_
  refine .r0 ?_
  refine sq ?_
  refine .mv ?_
  apply wpSq_end
  refine hK10 _ _ ?_
  have Lg2 := hide (g2.lenOf (ha2.len))
  refine cf ?_
  refine wp_skip ?_
  refine hK9 _ _ ?_
  refine wp_seq_k ?_
  intro K11 hK11
  refine wp_seq_k ?_
  intro K12 hK12
  refine rg [0, 1] ?_
  refine sq ?_
  refine .r0 ?_
  refine sq ?_
  refine .mv ?_
  apply wpSq_end
  refine hK12 _ _ ?_
  refine ct ?_
  refine wp_exit ?_
  refine hK6 _ _ ?_
  refine rg [0, 1, 2] ?_
  refine sq ?_
  refine .r4 hs.g0.f4 ?_
  refine sq ?_
  intro K hK
  have k5_9 := (((kb n6).b hb_7).b n8).o hd9 ho9
  replace g1 := g1.k k5_9
  have k7_9 := (kb n8).o hd9 ho9
  replace g2 := g2.k k7_9
  go_big_op
  go_fit (timesI_any (.mk' g1 g2) (Nat.le_trans Lg1.out (by omega)) (Nat.le_trans Lg2.out (by omega)))
  rintro e w_10 ⟨_, rfl, ⟨n_t1a, o_t1a, k_t1a, c_t1a, n_t1b, o_t1b, k_t1b, c_t1b, rfl, t11, t12⟩, hb_10⟩
  replace hs := hs.bl hb_10
  have Lt11 := hide (t11.lenOf (zlen_neg Lg2.out))
  have Lt12 := hide (t12.lenOf (Lg1.out))
  refine hK _ _ rfl trivial ?_
  clear hK K
  refine sq ?_
  refine .s4 hs.g0 (fun _ => hs.u0 kb_b3) ?_; clear hs; intro w_11 hs hd11 ho11
  apply wpSq_end
  refine hK5 _ _ ?_
  refine wp_seq_k ?_
  intro K13 hK13
  refine rg [0, 1, 2] ?_
  refine sq ?_
  refine .r4 hs.g0.f4 ?_
  refine sq ?_
  intro K hK
  have k10_11 := ko hd11 ho11
  replace t11 := t11.k k10_11
  replace t12 := t12.k k10_11
  go_big_op
  go_fit (timesI_any (.mk' t11 t12) (Nat.le_trans Lt11.out (by omega)) (Nat.le_trans Lt12.out (by omega)))
  rintro e w_12 ⟨_, rfl, ⟨n_t2a, o_t2a, k_t2a, c_t2a, n_t2b, o_t2b, k_t2b, c_t2b, rfl, t21, t22⟩, hb_12⟩
  replace hs := hs.bl hb_12
  have Lt21 := hide (t21.lenOf (zlen_neg Lt12.out))
  have Lt22 := hide (t22.lenOf (Lt11.out))
  refine hK _ _ rfl trivial ?_
  clear hK K
  refine sq ?_
  refine .s4 hs.g0 (fun _ => hs.u0 kb_b3) ?_; clear hs; intro w_13 hs hd13 ho13
  clear ha1 ha2 g1 g2 t11 t12
  apply wpSq_end
  refine hK13 _ _ ?_
  refine wp_exit ?_
  refine hK3 _ _ ?_
  refine wp_seq_k ?_
  intro K14 hK14
  refine rg [0, 1] ?_
  refine sq ?_
  refine .r4 hs.g0.f4 ?_
  refine sq ?_
  refine .s4 hs.g1 (fun _ => hs.u1 kb_b2) ?_; clear hs; intro w_14 hs hd14 ho14
  apply wpSq_end
  refine hK14 _ _ ?_
  refine wp_ret ?_
  try dsimp only [Exit.then, Exit.inBlock]
  obtain ⟨r0_0, r0_1, r0_2, r0_3⟩ := hs.g1.f4
  refine bodyPost_ret (v := (.agg #[.bool n_t2a, .slice o_t2a k_t2a c_t2a, .bool n_t2b, .slice o_t2b k_t2b c_t2b])) (by simp [results, Try.results15, go_sem, r0_0, r0_1, r0_2, r0_3]) rfl ?_
  have k12_14 := (ko hd13 ho13).o hd14 ho14
  replace t21 := t21.k k12_14
  replace t22 := t22.k k12_14
  exact ⟨_, rfl, .mk' t21 t22, hs.b⟩
set_option maxHeartbeats 4000000 in
set_option maxRecDepth 20000 in
theorem gTurn3 (K : Int) (hK : K % 4 = 3) (ha : PN w va x l y m) (hl : l ≤ 40000000) (hm : m ≤ 40000000) :
    Calls Try.prog 15 #[va, .int .i64 K] w fun e w' => ∃ v, e = .returned v ∧ PC w' v (turn 3 (x, y)).1 (turn 3 (x, y)).2 ∧ Below w.heap.size w w' := by
  have hand : bits .and .i64 K 3 = 3 := by rw [i64_and_three]; exact hK
  have E := hide (And.intro (Int.add_zero x) (Int.add_zero y))
  clear hK
  obtain ⟨n_0a, o_0a, k_0a, c_0a, n_0b, o_0b, k_0b, c_0b, rfl, ha1, ha2⟩ := ha
  go_enter Try.func15, Try.ntmps15
  have hs := St.nil w
  refine wp_seq_k ?_
  intro K1 hK1
  refine rg [0, 1] ?_
  refine sq ?_
  refine .al hs ?_; clear hs; intro p_b1 w_1 hs n1 kb_b1
  refine sq ?_
  refine .al hs ?_; clear hs; intro p_b2 w_2 hs n2 kb_b2
  apply wpSq_end
  refine hK1 _ _ ?_
  refine wp_seq_k ?_
  intro K2 hK2
  refine wp_region_f4 [(0, false), (1, false), (2, false), (4, false), (5, false), (6, false), (3, true), (7, true), (8, false)] [10] [9] (fun j => (.cells #[.bool false, .slice none 0 0, .bool false, .slice none 0 0] 29)) [99, 0, 99, 99, 99, 0, 99, 99, 99, 99, 99] [] (.c hs.g1 .n) (fm fn) fun w_3 n3 => ?_
  replace hs := hs.bl n3
  have hlB := hs.lt; have hkB := hs.k
  refine f0 ?_
  refine f4 ?_
  refine f0 ?_
  refine f0 ?_
  refine f4 ?_
  refine f0 ?_
  refine fl fun w_4 n4 => ?_
  replace hs := hs.bl n4
  intro K hK
  have k0_4 := (((kb n1).b n2).b n3).b n4
  replace ha1 := ha1.k k0_4
  go_big_op
  go_fit (zadd_any ha1 ((zc_zero w_4).zn zlen_0) (by omega) (by omega) )
  rintro e w_5 ⟨v_g1, rfl, g1, hb_5⟩
  replace hs := hs.bl hb_5
  replace g1 := g1.rd
  obtain ⟨n_g1, o_g1, k_g1, c_g1, rfl⟩ := g1.open2
  have Lg1 := hide (g1.lenOf (zlen_add (ha1.len) (zlen_0)))
  rw [E.out.1] at g1
  refine hK _ _ rfl ⟨hb_5, (And.intro hs.g1 trivial)⟩ ?_
  clear hK K
  have Lg1 := hide (g1.lenOf (ha1.len))
  refine fl fun w_6 n6 => ?_
  replace hs := hs.bl n6
  intro K hK
  have k0_6 := (k0_4.b hb_5).b n6
  replace ha2 := ha2.k k0_6
  go_big_op
  go_fit (zadd_any ha2 ((zc_zero w_6).zn zlen_0) (by omega) (by omega) )
  rintro e w_7 ⟨v_g2, rfl, g2, hb_7⟩
  replace hs := hs.bl hb_7
  replace g2 := g2.rd
  obtain ⟨n_g2, o_g2, k_g2, c_g2, rfl⟩ := g2.open2
  have Lg2 := hide (g2.lenOf (zlen_add (ha2.len) (zlen_0)))
  rw [E.out.2] at g2
  refine hK _ _ rfl ⟨hb_7, (And.intro hs.g1 trivial)⟩ ?_
  clear hK K
  refine f0 ?_
  refine e1 hs hlB hkB ?_; clear hs hlB hkB; intro w_8 p_b3 hs n8 kb_b3
  refine tl ?_
  refine .s4 hs.g0 (fun _ => hs.u0 kb_b3) ?_ (e := fun _ hs => (And.intro hs.g2 True.intro)); clear hs; intro w_9 hs hd9 ho9
  apply wpTail_end
  refine hK2 _ _ ?_
  refine wp_seq_k ?_
  intro K3 hK3
  refine wp_seq_k ?_
  intro K4 hK4
  refine rg [0, 1] ?_
  refine sq ?_
  refine .mv ?_
  refine sq ?_
  refine .r0 ?_
  apply wpSq_end
  refine hK4 _ _ ?_
  refine wp_block ?_
  refine wp_seq_k ?_
  intro K5 hK5
  refine wp_block ?_
  refine wp_seq_k ?_
  intro K6 hK6
  refine wp_block ?_
  refine wp_seq_k ?_
  intro K7 hK7
  refine wp_block ?_
  refine wp_seq_k ?_
  intro K8 hK8
  refine wp_seq_k ?_
  intro K9 hK9
  refine wp_seq_k ?_
  intro K10 hK10
  refine rg [0, 1] ?_
  refine sq ?_
  refine .r0 ?_
  refine sq ?_
  refine .mv ?_
  apply wpSq_end
  refine hK10 _ _ ?_
  have Lg2 := hide (g2.lenOf (ha2.len))
  refine ct ?_
  refine wp_exit ?_
  refine hK7 _ _ ?_
  refine rg [0, 1, 2] ?_
  refine sq ?_
  refine .r4 hs.g0.f4 ?_
  refine sq ?_
  intro K hK
  have k5_9 := (((kb n6).b hb_7).b n8).o hd9 ho9
  replace g1 := g1.k k5_9
  have k7_9 := (kb n8).o hd9 ho9
  replace g2 := g2.k k7_9
  go_big_op
  go_fit (timesI_any (.mk' g1 g2) (Nat.le_trans Lg1.out (by omega)) (Nat.le_trans Lg2.out (by omega)))
  rintro e w_10 ⟨_, rfl, ⟨n_t1a, o_t1a, k_t1a, c_t1a, n_t1b, o_t1b, k_t1b, c_t1b, rfl, t11, t12⟩, hb_10⟩
  replace hs := hs.bl hb_10
  have Lt11 := hide (t11.lenOf (zlen_neg Lg2.out))
  have Lt12 := hide (t12.lenOf (Lg1.out))
  refine hK _ _ rfl trivial ?_
  clear hK K
  refine sq ?_
  refine .s4 hs.g0 (fun _ => hs.u0 kb_b3) ?_; clear hs; intro w_11 hs hd11 ho11
  apply wpSq_end
  refine hK6 _ _ ?_
  refine rg [0, 1, 2] ?_
  refine sq ?_
  refine .r4 hs.g0.f4 ?_
  refine sq ?_
  intro K hK
  have k10_11 := ko hd11 ho11
  replace t11 := t11.k k10_11
  replace t12 := t12.k k10_11
  go_big_op
  go_fit (timesI_any (.mk' t11 t12) (Nat.le_trans Lt11.out (by omega)) (Nat.le_trans Lt12.out (by omega)))
  rintro e w_12 ⟨_, rfl, ⟨n_t2a, o_t2a, k_t2a, c_t2a, n_t2b, o_t2b, k_t2b, c_t2b, rfl, t21, t22⟩, hb_12⟩
  replace hs := hs.bl hb_12
  have Lt21 := hide (t21.lenOf (zlen_neg Lt12.out))
  have Lt22 := hide (t22.lenOf (Lt11.out))
  refine hK _ _ rfl trivial ?_
  clear hK K
  refine sq ?_
  refine .s4 hs.g0 (fun _ => hs.u0 kb_b3) ?_; clear hs; intro w_13 hs hd13 ho13
  clear ha1 ha2 g1 g2 t11 t12
  apply wpSq_end
  refine hK5 _ _ ?_
  refine wp_seq_k ?_
  intro K11 hK11
  refine rg [0, 1, 2] ?_
  refine sq ?_
  refine .r4 hs.g0.f4 ?_
  refine sq ?_
  intro K hK
  have k12_13 := ko hd13 ho13
  replace t21 := t21.k k12_13
  replace t22 := t22.k k12_13
  go_big_op
  go_fit (timesI_any (.mk' t21 t22) (Nat.le_trans Lt21.out (by omega)) (Nat.le_trans Lt22.out (by omega)))
  rintro e w_14 ⟨_, rfl, ⟨n_t3a, o_t3a, k_t3a, c_t3a, n_t3b, o_t3b, k_t3b, c_t3b, rfl, t31, t32⟩, hb_14⟩
  replace hs := hs.bl hb_14
  have Lt31 := hide (t31.lenOf (zlen_neg Lt22.out))
  have Lt32 := hide (t32.lenOf (Lt21.out))
  refine hK _ _ rfl trivial ?_
  clear hK K
  refine sq ?_
  refine .s4 hs.g0 (fun _ => hs.u0 kb_b3) ?_; clear hs; intro w_15 hs hd15 ho15
  apply wpSq_end
  refine hK11 _ _ ?_
  refine wp_exit ?_
  refine hK3 _ _ ?_
  refine wp_seq_k ?_
  intro K12 hK12
  refine rg [0, 1] ?_
  refine sq ?_
  refine .r4 hs.g0.f4 ?_
  refine sq ?_
  refine .s4 hs.g1 (fun _ => hs.u1 kb_b2) ?_; clear hs; intro w_16 hs hd16 ho16
  apply wpSq_end
  refine hK12 _ _ ?_
  refine wp_ret ?_
  try dsimp only [Exit.then, Exit.inBlock]
  obtain ⟨r0_0, r0_1, r0_2, r0_3⟩ := hs.g1.f4
  refine bodyPost_ret (v := (.agg #[.bool n_t3a, .slice o_t3a k_t3a c_t3a, .bool n_t3b, .slice o_t3b k_t3b c_t3b])) (by simp [results, Try.results15, go_sem, r0_0, r0_1, r0_2, r0_3]) rfl ?_
  have k14_16 := (ko hd15 ho15).o hd16 ho16
  replace t31 := t31.k k14_16
  replace t32 := t32.k k14_16
  exact ⟨_, rfl, .mk' t31 t32, hs.b⟩
theorem gTurn_any (K : Int) (ha : PN w va x l y m) (hl : l ≤ 40000000) (hm : m ≤ 40000000) :
    Calls Try.prog 15 #[va, .int .i64 K] w fun e w' => ∃ v, e = .returned v ∧ PC w' v (turn (K % 4).toNat (x, y)).1 (turn (K % 4).toNat (x, y)).2 ∧ Below w.heap.size w w' := by
  have h : K % 4 = 0 ∨ K % 4 = 1 ∨ K % 4 = 2 ∨ K % 4 = 3 := by omega
  rcases h with h | h | h | h
  · rw [h]; exact gTurn0 K h ha hl hm
  · rw [h]; exact gTurn1 K h ha hl hm
  · rw [h]; exact gTurn2 K h ha hl hm
  · rw [h]; exact gTurn3 K h ha hl hm
end
end Go.Proofs.Ythlhekkcjficdaa


/- zint.Int. -/
namespace Go.Proofs.Ythlhekkcjficdaa
open Go.RowKit Dig

theorem take1 {ds : List Nat} (h : 0 < ds.length) : ds.take 1 = [ds[0]?.getD 0] := by
  match ds, h with
  | d :: _, _ => rfl
theorem take2 {ds : List Nat} (h : 1 < ds.length) : ds.take 2 = [ds[0]?.getD 0, ds[1]?.getD 0] := by
  match ds, h with
  | _ :: _ :: _, _ => rfl
set_option maxHeartbeats 4000000 in
set_option maxRecDepth 20000 in
/-- zint.Int of a number within. -/
theorem int_any {w : World} {va : Value} {x : Int} {l : Nat} (ha : ZN w va x l) (hl : l ≤ 100000000) (hlo : -9223372036854775808 ≤ x) (hhi : x ≤ 9223372036854775807) :
    Calls Try.prog 56 #[va] w fun e w' => e = .returned (.tuple #[.int .i64 x, .bool true]) ∧ Below w.heap.size w w' := by
  obtain ⟨D, hD⟩ : ∃ D, zcmp x (-9223372036854775808) = D := ⟨_, rfl⟩
  have hD0 : 0 ≤ D := by rw [← hD]; exact zcmp_ge hlo
  have hD1 : (D < 0) = False := eq_false (by omega)
  obtain ⟨F, hF⟩ : ∃ F, zcmp x 9223372036854775807 = F := ⟨_, rfl⟩
  have hF0 : F ≤ 0 := by
    rw [← hF]; unfold zcmp
    split
    · omega
    · rw [if_pos (by omega)]; omega
  have hF1 : (0 < F) = False := eq_false (by omega)
  have E1 := hide hD
  have E2 := hide hF
  have LM := hide (zlen_i (-9223372036854775808) (by decide) (by decide))
  have LX := hide (zlen_i (9223372036854775807) (by decide) (by decide))
  clear hD hF
  obtain ⟨na, oa, ca, xs, rfl, hca, hxr, hzx, hxl⟩ := ha.open_
  have hv : val xs = x.natAbs := by rw [← hzx, zv_abs]
  have hdl : (dig (val xs)).length ≤ 2 := dig_length_le (show val xs < pw 2 from Nat.lt_of_lt_of_le (show val xs < 18446744073709551616 by omega) (by decide))
  go_enter Try.func56, Try.ntmps56
  have hb := Below.refl w.heap.size w
  have hp := Bk.new w na (.slice oa xs.length ca)
  replace ha := ha.alloc (.cells #[.bool na, (.slice oa xs.length ca)] 27)
  replace hxr := hxr.alloc (.cells #[.bool na, (.slice oa xs.length ca)] 27)
  replace hb := hb.alloc hb.size (.cells #[.bool na, (.slice oa xs.length ca)] 27)
  replace ha := ha.drew
  replace hxr := hxr.drew
  replace hp := hp.drew
  replace hb := hb.drew
  go_wp2_with fail
  refine wp_region_pl [(0, false), (1, true), (2, true), (3, false), (4, false), (5, false), (6, true), (7, true), (8, false), (9, false)] (fun w' => w'.cell? ⟨w.heap.size, 0, none⟩ = some (.bool na) ∧ w'.cell? ⟨w.heap.size, 1, none⟩ = some (.slice oa xs.length ca)) (by kernel_rfl) (by kernel_rfl) (by kernel_rfl) (by kernel_rfl) ⟨hp.facts.1, hp.facts.2.1⟩ ?_
  apply wpPl_ld
  case hi => rfl
  case h1 => intro w' hC K hK; obtain ⟨c0, c1⟩ := hC; (first | go_big_move | go_big_op); exact hK
  case hw => kernel_rfl
  case hv => kernel_rfl
  case hb => kernel_rfl
  case hp => kernel_rfl
  apply wpPl_call
  case hi => rfl
  case hw => kernel_rfl
  case h =>
  intro K hK
  have kb_1 := hb.size
  go_big_op
  go_fit (from_any (-9223372036854775808) _ (by decide) (by decide))
  rintro e w_1 ⟨v1, rfl, g1, hb_1⟩
  replace ha := ha.below hb_1 (Nat.le_refl _)
  replace hxr := hxr.below hb_1 (Nat.le_refl _)
  replace hp := hp.below hb_1 (Nat.le_refl _)
  replace hb := hb.trans (hb_1.mono hb.size)
  refine hK _ _ rfl ⟨hp.facts.1, hp.facts.2.1⟩ ?_
  clear hK K hb_1
  replace g1 := g1.rd
  apply wpPl_call
  case hi => rfl
  case hw => kernel_rfl
  case h =>
  intro K hK
  have kb_2 := hb.size
  go_big_op
  go_fit (zcmp_any ha (g1.zn LM.out) (by omega) (by decide))
  rintro e w_2 ⟨rfl, hb_2⟩
  replace ha := ha.below hb_2 (Nat.le_refl _)
  replace hxr := hxr.below hb_2 (Nat.le_refl _)
  replace hp := hp.below hb_2 (Nat.le_refl _)
  replace g1 := g1.below hb_2 (Nat.le_refl _)
  replace hb := hb.trans (hb_2.mono hb.size)
  refine hK _ _ rfl ⟨hp.facts.1, hp.facts.2.1⟩ ?_
  clear hK K hb_2
  rw [E1.out]
  clear g1
  apply wpPl_ld
  case hi => rfl
  case h1 => intro w' hC K hK; obtain ⟨c0, c1⟩ := hC; (first | go_big_move | go_big_op); exact hK
  case hw => kernel_rfl
  case hv => kernel_rfl
  case hb => kernel_rfl
  case hp => kernel_rfl
  apply wpPl_ld
  case hi => rfl
  case h1 => intro w' hC K hK; obtain ⟨c0, c1⟩ := hC; (first | go_big_move | go_big_op); exact hK
  case hw => kernel_rfl
  case hv => kernel_rfl
  case hb => kernel_rfl
  case hp => kernel_rfl
  apply wpPl_ld
  case hi => rfl
  case h1 => intro w' hC K hK; obtain ⟨c0, c1⟩ := hC; (first | go_big_move | go_big_op); exact hK
  case hw => kernel_rfl
  case hv => kernel_rfl
  case hb => kernel_rfl
  case hp => kernel_rfl
  apply wpPl_call
  case hi => rfl
  case hw => kernel_rfl
  case h =>
  intro K hK
  have kb_3 := hb.size
  go_big_op
  go_fit (from_any 9223372036854775807 _ (by decide) (by decide))
  rintro e w_3 ⟨v2, rfl, g2, hb_3⟩
  replace ha := ha.below hb_3 (Nat.le_refl _)
  replace hxr := hxr.below hb_3 (Nat.le_refl _)
  replace hp := hp.below hb_3 (Nat.le_refl _)
  replace hb := hb.trans (hb_3.mono hb.size)
  refine hK _ _ rfl ⟨hp.facts.1, hp.facts.2.1⟩ ?_
  clear hK K hb_3
  replace g2 := g2.rd
  apply wpPl_call
  case hi => rfl
  case hw => kernel_rfl
  case h =>
  intro K hK
  have kb_4 := hb.size
  go_big_op
  go_fit (zcmp_any ha (g2.zn LX.out) (by omega) (by decide))
  rintro e w_4 ⟨rfl, hb_4⟩
  replace ha := ha.below hb_4 (Nat.le_refl _)
  replace hxr := hxr.below hb_4 (Nat.le_refl _)
  replace hp := hp.below hb_4 (Nat.le_refl _)
  replace g2 := g2.below hb_4 (Nat.le_refl _)
  replace hb := hb.trans (hb_4.mono hb.size)
  refine hK _ _ rfl ⟨hp.facts.1, hp.facts.2.1⟩ ?_
  clear hK K hb_4
  rw [E2.out]
  clear g2
  apply wpPl_ld
  case hi => rfl
  case h1 => intro w' hC K hK; obtain ⟨c0, c1⟩ := hC; (first | go_big_move | go_big_op); exact hK
  case hw => kernel_rfl
  case hv => kernel_rfl
  case hb => kernel_rfl
  case hp => kernel_rfl
  apply wpPl_ld
  case hi => rfl
  case h1 => intro w' hC K hK; obtain ⟨c0, c1⟩ := hC; (first | go_big_move | go_big_op); exact hK
  case hw => kernel_rfl
  case hv => kernel_rfl
  case hb => kernel_rfl
  case hp => kernel_rfl
  apply wpPl_end
  have f_hp := hp.facts
  go_wp2_with fail
  refine (norm_rd hxr (by omega)).mono ?_
  rintro e w_5 ⟨s, rfl, hs, hb_5⟩
  replace ha := ha.below hb_5 (Nat.le_refl _)
  replace hxr := hxr.below hb_5 (Nat.le_refl _)
  replace hp := hp.below hb_5 (Nat.le_refl _)
  replace hb := hb.trans (hb_5.mono hb.size)
  clear hb_5
  replace hs := hs.rd
  clear f_hp
  obtain ⟨os, cs', rfl, hcs, oks, hcell⟩ := hs
  have hvd : val (dig (val xs)) = val xs := val_dig _
  generalize dig (val xs) = ds at *
  have HV := hide (And.intro hvd hv)
  have HDL := hide hdl
  clear hvd hv hdl
  go_wp2_with fail
  go_loop [4, 21] (fun u i => ∃ k : Nat, k ≤ ds.length ∧ i = .int .i64 (k : Int) ∧ u = .int .u64 ((val (ds.take k) : Nat) : Int)) (fun _ i => ds.length - (intOf i).toNat)
  case atStart => exact ⟨0, by omega, rfl, by simp [val]⟩
  case round =>
    obtain ⟨k, hk, rfl, rfl⟩ := hrel
    by_cases hlt : k < ds.length
    · obtain ⟨b, off, d, ho, gd, Hd⟩ := hcell.get hlt
      subst ho
      have hdb : d < 4294967296 := by rw [← Hd.out]; exact oks.get k
      have hk1 : k = 0 ∨ k = 1 := by have := HDL.out; omega
      rcases hk1 with rfl | rfl
      · rw [Nat.add_zero] at gd
        have hor : bits .or .u64 (0 : Int) (d : Int) = (d : Int) := by
          have h := or_low 0 d 0 d (by decide) (by decide) hdb (by omega)
          have e : IntKind.u64.wrap ((d : Int) * 2 ^ 0) = (d : Int) := by rw [IntKind.wrap_u64]; omega
          rw [e] at h
          exact h
        have hd1 : val (ds.take 1) = d := by rw [take1 hlt, Hd.out]; simp [val]
        have hv0 : val (ds.take 0) = 0 := rfl
        rw [hv0]
        have HD1 := hide hd1
        clear hd1 hv0
        go_wp2
        go_round
        case rel => exact ⟨1, by omega, rfl, by rw [HD1.out]⟩
        case measure => simp [intOf]; omega
      · obtain ⟨t, ht⟩ : ∃ t, val (ds.take 1) = t := ⟨_, rfl⟩
        have htb : t < 4294967296 := by rw [← ht, take1 (by omega)]; have := oks.get 0; simp only [val]; omega
        have hor := or_mid t d _ htb hdb rfl
        have HT := hide (show val (ds.take 2) = d * 4294967296 + t by rw [take2 hlt, ← ht, take1 (by omega), Hd.out]; simp [val]; omega)
        rw [ht]
        clear ht
        go_wp2
        go_round
        case rel => exact ⟨2, by omega, rfl, by rw [HT.out]; simp⟩
        case measure => simp [intOf]; omega
    · have hkn : k = ds.length := by omega
      have hV := HV.out
      have hV2 : val (ds.take k) = x.natAbs := by rw [hkn, List.take_length, hV.1, hV.2]
      rw [hV2]
      subst hkn
      obtain ⟨u, hu⟩ : ∃ u : Nat, x.natAbs = u := ⟨_, rfl⟩
      rw [hu]
      have hz := hzx
      unfold zv at hz
      rw [hV.1.symm.trans (hV.1.trans rfl)] at hz
      cases na
      · have hxu : (u : Int) = x := by rw [if_neg (by simp)] at hz; omega
        have hw1 : IntKind.i64.wrap (u : Int) = x := by rw [IntKind.wrap_i64]; omega
        clear hV hV2 hu hz hxu
        have f_hp := hp.facts
        go_wp2
        go_ret2
        exact ⟨rfl, hb⟩
      · have hxu : -(u : Int) = x := by rw [if_pos rfl] at hz; omega
        have hw1 : IntKind.i64.wrap (IntKind.u64.wrap (-(u : Int))) = x := by rw [IntKind.wrap_i64, IntKind.wrap_u64]; omega
        clear hV hV2 hu hz hxu
        have f_hp := hp.facts
        go_wp2
        go_ret2
        exact ⟨rfl, hb⟩
end Go.Proofs.Ythlhekkcjficdaa


/- nat.isDigits, groupValue and putGroup: what a text's digits are worth. -/
namespace Go.Proofs.Ythlhekkcjficdaa
open Go.RowKit Dig

end Go.Proofs.Ythlhekkcjficdaa


/- nat.Parse: the number of a text of digits, or the error. -/
namespace Go.Proofs.Ythlhekkcjficdaa
open Go.RowKit Dig

end Go.Proofs.Ythlhekkcjficdaa


/- The reference's Digits and Parse: what a text's digits are worth. -/
namespace Go.Proofs.Ythlhekkcjficdaa
open Go.RowKit Dig
end Go.Proofs.Ythlhekkcjficdaa

