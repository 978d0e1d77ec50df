/- gint: Turn, timesI, Canon; the reference's. -/
import Derived.Test.YtlomgfgedkkhkaaGreatDoorR16ToG27
namespace Go.Proofs.YtlomgfgedkkhkaaGreatDoor
open Go Go.RowKit Dig
set_option linter.unusedVariables false
/-- Times i, n times. -/
def turn : Nat → Int × Int → Int × Int
  | 0, p => p
  | n + 1, p => (-(turn n p).2, (turn n p).1)
theorem i64_and_three (n : Int) : bits .and .i64 n 3 = n % 4 := by
  have h1 : (BitVec.ofInt 64 3).toNat = 2 ^ 2 - 1 := by decide
  have key : (BitVec.ofInt 64 n &&& BitVec.ofInt 64 3).toNat = (n % ((2 ^ 64 : Nat) : Int)).toNat % 2 ^ 2 := by
    rw [BitVec.toNat_and, BitVec.toNat_ofInt, h1, Nat.and_two_pow_sub_one_eq_mod]
  show IntKind.i64.wrap ((BitVec.ofInt 64 n &&& BitVec.ofInt 64 3).toNat : Nat) = n % 4
  rw [key, IntKind.wrap_i64]
  omega
section
variable {w : World} {va vb : Value} {x y u v : Int} {l m k n : Nat}
set_option maxHeartbeats 4000000 in
set_option maxRecDepth 20000 in
theorem timesI_any (ha : PC w va x y) (hl : (dig x.natAbs).length ≤ 100000000) (hm : (dig y.natAbs).length ≤ 100000000) :
    Calls Tryz.prog 33 #[va] w fun e w' => ∃ r, e = .returned r ∧ PC w' r (-y) x ∧ Below w.heap.size w w' := by
  obtain ⟨n_0a, o_0a, k_0a, c_0a, n_0b, o_0b, k_0b, c_0b, rfl, ha1, ha2⟩ := ha
  go_enter Tryz.func33, Tryz.ntmps33
  have hs := St.nil w
  refine wp_seq_k ?_
  intro K1 hK1
  refine rg [0, 1] ?_
  refine sq ?_
  refine .al hs ?_; clear hs; intro p_b1 w_1 hs n1 kb_b1
  refine sq ?_
  refine .al hs ?_; clear hs; intro p_b2 w_2 hs n2 kb_b2
  apply wpSq_end
  refine hK1 _ _ ?_
  refine wp_seq_k ?_
  intro K2 hK2
  refine wp_region_f4 [(0, false), (1, false), (3, false), (4, false), (2, true), (5, false)] [6] [] (fun _ => default) [99, 0, 99, 99, 0, 99, 99] [] (.c hs.g1 .n) fn fun w_3 n3 => ?_
  replace hs := hs.bl n3
  refine f0 ?_
  refine f4 ?_
  refine f0 ?_
  refine f4 ?_
  refine fl fun w_4 n4 => ?_
  replace hs := hs.bl n4
  intro K hK
  have k0_4 := (((kb n1).b n2).b n3).b n4
  replace ha2 := ha2.k k0_4
  go_big_op
  go_fit (zneg_any (ha2.zn hm) (by decide))
  rintro e w_5 ⟨v_g1, rfl, g1, hb_5⟩
  replace hs := hs.bl hb_5
  replace g1 := g1.rd
  obtain ⟨n_g1, o_g1, k_g1, c_g1, rfl⟩ := g1.open2
  have Lg1 := hide (g1.lenOf (zlen_neg hm))
  refine hK _ _ rfl ⟨hb_5, (And.intro hs.g1 trivial)⟩ ?_
  clear hK K
  refine f0 ?_
  refine e0 hs ?_; clear hs; intro w_6 hs n6
  refine tl ?_
  refine .s4 hs.g0 (fun _ => hs.u0 kb_b2) ?_ (e := fun _ hs => (And.intro hs.g1 True.intro)); clear hs; intro w_7 hs hd7 ho7
  apply wpTail_end
  refine hK2 _ _ ?_
  refine wp_ret ?_
  try dsimp only [Exit.then, Exit.inBlock]
  obtain ⟨r0_0, r0_1, r0_2, r0_3⟩ := hs.g0.f4
  refine bodyPost_ret (v := (.agg #[.bool n_g1, .slice o_g1 k_g1 c_g1, .bool n_0a, .slice o_0a k_0a c_0a])) (by simp [results, Tryz.results33, go_sem, r0_0, r0_1, r0_2, r0_3]) rfl ?_
  have k5_7 := (kb n6).o hd7 ho7
  replace g1 := g1.k k5_7
  have k0_7 := ((k0_4.b hb_5).b n6).o hd7 ho7
  replace ha1 := ha1.k k0_7
  exact ⟨_, rfl, .mk' g1 ha1, hs.b⟩
set_option maxHeartbeats 4000000 in
set_option maxRecDepth 20000 in
theorem gTurn0 (K : Int) (hK : K % 4 = 0) (ha : PN w va x l y m) (hl : l ≤ 40000000) (hm : m ≤ 40000000) :
    Calls Tryz.prog 11 #[va, .int .i64 K] w fun e w' => ∃ v, e = .returned v ∧ PC w' v (turn 0 (x, y)).1 (turn 0 (x, y)).2 ∧ Below w.heap.size w w' := by
  have hand : bits .and .i64 K 3 = 0 := by rw [i64_and_three]; exact hK
  have E := hide (And.intro (Int.add_zero x) (Int.add_zero y))
  clear hK
  obtain ⟨n_0a, o_0a, k_0a, c_0a, n_0b, o_0b, k_0b, c_0b, rfl, ha1, ha2⟩ := ha
  go_enter Tryz.func11, Tryz.ntmps11
  have hs := St.nil w
  refine wp_seq_k ?_
  intro K1 hK1
  refine rg [0, 1] ?_
  refine sq ?_
  refine .al hs ?_; clear hs; intro p_b1 w_1 hs n1 kb_b1
  refine sq ?_
  refine .al hs ?_; clear hs; intro p_b2 w_2 hs n2 kb_b2
  apply wpSq_end
  refine hK1 _ _ ?_
  refine wp_seq_k ?_
  intro K2 hK2
  refine wp_region_f4 [(0, false), (1, false), (2, false), (4, false), (5, false), (6, false), (3, true), (7, true), (8, false)] [10] [9] (fun j => (.cells #[.bool false, .slice none 0 0, .bool false, .slice none 0 0] 29)) [99, 0, 99, 99, 99, 0, 99, 99, 99, 99, 99] [] (.c hs.g1 .n) (fm fn) fun w_3 n3 => ?_
  replace hs := hs.bl n3
  have hlB := hs.lt; have hkB := hs.k
  refine f0 ?_
  refine f4 ?_
  refine f0 ?_
  refine f0 ?_
  refine f4 ?_
  refine f0 ?_
  refine fl fun w_4 n4 => ?_
  replace hs := hs.bl n4
  intro K hK
  have k0_4 := (((kb n1).b n2).b n3).b n4
  replace ha1 := ha1.k k0_4
  go_big_op
  go_fit (zadd_any ha1 ((zc_zero w_4).zn zlen_0) (by omega) (by omega) )
  rintro e w_5 ⟨v_g1, rfl, g1, hb_5⟩
  replace hs := hs.bl hb_5
  replace g1 := g1.rd
  obtain ⟨n_g1, o_g1, k_g1, c_g1, rfl⟩ := g1.open2
  have Lg1 := hide (g1.lenOf (zlen_add (ha1.len) (zlen_0)))
  rw [E.out.1] at g1
  refine hK _ _ rfl ⟨hb_5, (And.intro hs.g1 trivial)⟩ ?_
  clear hK K
  have Lg1 := hide (g1.lenOf (ha1.len))
  refine fl fun w_6 n6 => ?_
  replace hs := hs.bl n6
  intro K hK
  have k0_6 := (k0_4.b hb_5).b n6
  replace ha2 := ha2.k k0_6
  go_big_op
  go_fit (zadd_any ha2 ((zc_zero w_6).zn zlen_0) (by omega) (by omega) )
  rintro e w_7 ⟨v_g2, rfl, g2, hb_7⟩
  replace hs := hs.bl hb_7
  replace g2 := g2.rd
  obtain ⟨n_g2, o_g2, k_g2, c_g2, rfl⟩ := g2.open2
  have Lg2 := hide (g2.lenOf (zlen_add (ha2.len) (zlen_0)))
  rw [E.out.2] at g2
  refine hK _ _ rfl ⟨hb_7, (And.intro hs.g1 trivial)⟩ ?_
  clear hK K
  refine f0 ?_
  refine e1 hs hlB hkB ?_; clear hs hlB hkB; intro w_8 p_b3 hs n8 kb_b3
  refine tl ?_
  refine .s4 hs.g0 (fun _ => hs.u0 kb_b3) ?_ (e := fun _ hs => (And.intro hs.g2 True.intro)); clear hs; intro w_9 hs hd9 ho9
  apply wpTail_end
  refine hK2 _ _ ?_
  refine wp_seq_k ?_
  intro K3 hK3
  refine wp_seq_k ?_
  intro K4 hK4
  refine rg [0, 1] ?_
  refine sq ?_
  refine .mv ?_
  refine sq ?_
  refine .r0 ?_
  apply wpSq_end
  refine hK4 _ _ ?_
  refine wp_block ?_
  refine wp_seq_k ?_
  intro K5 hK5
  refine wp_block ?_
  refine wp_seq_k ?_
  intro K6 hK6
  refine wp_block ?_
  refine wp_seq_k ?_
  intro K7 hK7
  refine wp_block ?_
  refine wp_seq_k ?_
  intro K8 hK8
  refine wp_seq_k ?_
  intro K9 hK9
  refine wp_seq_k ?_
  intro K10 hK10
  refine rg [0, 1] ?_
  refine sq ?_
  refine .r0 ?_
  refine sq ?_
  refine .mv ?_
  apply wpSq_end
  refine hK10 _ _ ?_
  have Lg2 := hide (g2.lenOf (ha2.len))
  refine cf ?_
  refine wp_skip ?_
  refine hK9 _ _ ?_
  refine wp_seq_k ?_
  intro K11 hK11
  refine wp_seq_k ?_
  intro K12 hK12
  refine rg [0, 1] ?_
  refine sq ?_
  refine .r0 ?_
  refine sq ?_
  refine .mv ?_
  apply wpSq_end
  refine hK12 _ _ ?_
  refine cf ?_
  refine wp_skip ?_
  refine hK11 _ _ ?_
  refine wp_seq_k ?_
  intro K13 hK13
  refine rg [0, 1] ?_
  refine sq ?_
  refine .r0 ?_
  refine sq ?_
  refine .mv ?_
  apply wpSq_end
  refine hK13 _ _ ?_
  refine cf ?_
  refine wp_skip ?_
  refine hK8 _ _ ?_
  refine wp_exit ?_
  refine hK3 _ _ ?_
  refine wp_seq_k ?_
  intro K14 hK14
  refine rg [0, 1] ?_
  refine sq ?_
  refine .r4 hs.g0.f4 ?_
  refine sq ?_
  refine .s4 hs.g1 (fun _ => hs.u1 kb_b2) ?_; clear hs; intro w_10 hs hd10 ho10
  apply wpSq_end
  refine hK14 _ _ ?_
  refine wp_ret ?_
  try dsimp only [Exit.then, Exit.inBlock]
  obtain ⟨r0_0, r0_1, r0_2, r0_3⟩ := hs.g1.f4
  refine bodyPost_ret (v := (.agg #[.bool n_g1, .slice o_g1 k_g1 c_g1, .bool n_g2, .slice o_g2 k_g2 c_g2])) (by simp [results, Tryz.results11, go_sem, r0_0, r0_1, r0_2, r0_3]) rfl ?_
  have k5_10 := ((((kb n6).b hb_7).b n8).o hd9 ho9).o hd10 ho10
  replace g1 := g1.k k5_10
  have k7_10 := ((kb n8).o hd9 ho9).o hd10 ho10
  replace g2 := g2.k k7_10
  exact ⟨_, rfl, .mk' g1 g2, hs.b⟩
set_option maxHeartbeats 4000000 in
set_option maxRecDepth 20000 in
theorem gTurn1 (K : Int) (hK : K % 4 = 1) (ha : PN w va x l y m) (hl : l ≤ 40000000) (hm : m ≤ 40000000) :
    Calls Tryz.prog 11 #[va, .int .i64 K] w fun e w' => ∃ v, e = .returned v ∧ PC w' v (turn 1 (x, y)).1 (turn 1 (x, y)).2 ∧ Below w.heap.size w w' := by
  have hand : bits .and .i64 K 3 = 1 := by rw [i64_and_three]; exact hK
  have E := hide (And.intro (Int.add_zero x) (Int.add_zero y))
  clear hK
  obtain ⟨n_0a, o_0a, k_0a, c_0a, n_0b, o_0b, k_0b, c_0b, rfl, ha1, ha2⟩ := ha
  go_enter Tryz.func11, Tryz.ntmps11
  have hs := St.nil w
  refine wp_seq_k ?_
  intro K1 hK1
  refine rg [0, 1] ?_
  refine sq ?_
  refine .al hs ?_; clear hs; intro p_b1 w_1 hs n1 kb_b1
  refine sq ?_
  refine .al hs ?_; clear hs; intro p_b2 w_2 hs n2 kb_b2
  apply wpSq_end
  refine hK1 _ _ ?_
  refine wp_seq_k ?_
  intro K2 hK2
  refine wp_region_f4 [(0, false), (1, false), (2, false), (4, false), (5, false), (6, false), (3, true), (7, true), (8, false)] [10] [9] (fun j => (.cells #[.bool false, .slice none 0 0, .bool false, .slice none 0 0] 29)) [99, 0, 99, 99, 99, 0, 99, 99, 99, 99, 99] [] (.c hs.g1 .n) (fm fn) fun w_3 n3 => ?_
  replace hs := hs.bl n3
  have hlB := hs.lt; have hkB := hs.k
  refine f0 ?_
  refine f4 ?_
  refine f0 ?_
  refine f0 ?_
  refine f4 ?_
  refine f0 ?_
  refine fl fun w_4 n4 => ?_
  replace hs := hs.bl n4
  intro K hK
  have k0_4 := (((kb n1).b n2).b n3).b n4
  replace ha1 := ha1.k k0_4
  go_big_op
  go_fit (zadd_any ha1 ((zc_zero w_4).zn zlen_0) (by omega) (by omega) )
  rintro e w_5 ⟨v_g1, rfl, g1, hb_5⟩
  replace hs := hs.bl hb_5
  replace g1 := g1.rd
  obtain ⟨n_g1, o_g1, k_g1, c_g1, rfl⟩ := g1.open2
  have Lg1 := hide (g1.lenOf (zlen_add (ha1.len) (zlen_0)))
  rw [E.out.1] at g1
  refine hK _ _ rfl ⟨hb_5, (And.intro hs.g1 trivial)⟩ ?_
  clear hK K
  have Lg1 := hide (g1.lenOf (ha1.len))
  refine fl fun w_6 n6 => ?_
  replace hs := hs.bl n6
  intro K hK
  have k0_6 := (k0_4.b hb_5).b n6
  replace ha2 := ha2.k k0_6
  go_big_op
  go_fit (zadd_any ha2 ((zc_zero w_6).zn zlen_0) (by omega) (by omega) )
  rintro e w_7 ⟨v_g2, rfl, g2, hb_7⟩
  replace hs := hs.bl hb_7
  replace g2 := g2.rd
  obtain ⟨n_g2, o_g2, k_g2, c_g2, rfl⟩ := g2.open2
  have Lg2 := hide (g2.lenOf (zlen_add (ha2.len) (zlen_0)))
  rw [E.out.2] at g2
  refine hK _ _ rfl ⟨hb_7, (And.intro hs.g1 trivial)⟩ ?_
  clear hK K
  refine f0 ?_
  refine e1 hs hlB hkB ?_; clear hs hlB hkB; intro w_8 p_b3 hs n8 kb_b3
  refine tl ?_
  refine .s4 hs.g0 (fun _ => hs.u0 kb_b3) ?_ (e := fun _ hs => (And.intro hs.g2 True.intro)); clear hs; intro w_9 hs hd9 ho9
  apply wpTail_end
  refine hK2 _ _ ?_
  refine wp_seq_k ?_
  intro K3 hK3
  refine wp_seq_k ?_
  intro K4 hK4
  refine rg [0, 1] ?_
  refine sq ?_
  refine .mv ?_
  refine sq ?_
  refine .r0 ?_
  apply wpSq_end
  refine hK4 _ _ ?_
  refine wp_block ?_
  refine wp_seq_k ?_
  intro K5 hK5
  refine wp_block ?_
  refine wp_seq_k ?_
  intro K6 hK6
  refine wp_block ?_
  refine wp_seq_k ?_
  intro K7 hK7
  refine wp_block ?_
  refine wp_seq_k ?_
  intro K8 hK8
  refine wp_seq_k ?_
  intro K9 hK9
  refine wp_seq_k ?_
  intro K10 hK10
  refine rg [0, 1] ?_
  refine sq ?_
  refine .r0 ?_
  refine sq ?_
  refine .mv ?_
  apply wpSq_end
  refine hK10 _ _ ?_
  have Lg2 := hide (g2.lenOf (ha2.len))
  refine cf ?_
  refine wp_skip ?_
  refine hK9 _ _ ?_
  refine wp_seq_k ?_
  intro K11 hK11
  refine wp_seq_k ?_
  intro K12 hK12
  refine rg [0, 1] ?_
  refine sq ?_
  refine .r0 ?_
  refine sq ?_
  refine .mv ?_
  apply wpSq_end
  refine hK12 _ _ ?_
  refine cf ?_
  refine wp_skip ?_
  refine hK11 _ _ ?_
  refine wp_seq_k ?_
  intro K13 hK13
  refine rg [0, 1] ?_
  refine sq ?_
  refine .r0 ?_
  refine sq ?_
  refine .mv ?_
  apply wpSq_end
  refine hK13 _ _ ?_
  refine ct ?_
  refine wp_exit ?_
  refine hK5 _ _ ?_
  refine wp_seq_k ?_
  intro K14 hK14
  refine rg [0, 1, 2] ?_
  refine sq ?_
  refine .r4 hs.g0.f4 ?_
  refine sq ?_
  intro K hK
  have k5_9 := (((kb n6).b hb_7).b n8).o hd9 ho9
  replace g1 := g1.k k5_9
  have k7_9 := (kb n8).o hd9 ho9
  replace g2 := g2.k k7_9
  go_big_op
  go_fit (timesI_any (.mk' g1 g2) (Nat.le_trans Lg1.out (by omega)) (Nat.le_trans Lg2.out (by omega)))
  rintro e w_10 ⟨_, rfl, ⟨n_t1a, o_t1a, k_t1a, c_t1a, n_t1b, o_t1b, k_t1b, c_t1b, rfl, t11, t12⟩, hb_10⟩
  replace hs := hs.bl hb_10
  have Lt11 := hide (t11.lenOf (zlen_neg Lg2.out))
  have Lt12 := hide (t12.lenOf (Lg1.out))
  refine hK _ _ rfl trivial ?_
  clear hK K
  refine sq ?_
  refine .s4 hs.g0 (fun _ => hs.u0 kb_b3) ?_; clear hs; intro w_11 hs hd11 ho11
  apply wpSq_end
  refine hK14 _ _ ?_
  refine wp_exit ?_
  refine hK3 _ _ ?_
  refine wp_seq_k ?_
  intro K15 hK15
  refine rg [0, 1] ?_
  refine sq ?_
  refine .r4 hs.g0.f4 ?_
  refine sq ?_
  refine .s4 hs.g1 (fun _ => hs.u1 kb_b2) ?_; clear hs; intro w_12 hs hd12 ho12
  apply wpSq_end
  refine hK15 _ _ ?_
  refine wp_ret ?_
  try dsimp only [Exit.then, Exit.inBlock]
  obtain ⟨r0_0, r0_1, r0_2, r0_3⟩ := hs.g1.f4
  refine bodyPost_ret (v := (.agg #[.bool n_t1a, .slice o_t1a k_t1a c_t1a, .bool n_t1b, .slice o_t1b k_t1b c_t1b])) (by simp [results, Tryz.results11, go_sem, r0_0, r0_1, r0_2, r0_3]) rfl ?_
  have k10_12 := (ko hd11 ho11).o hd12 ho12
  replace t11 := t11.k k10_12
  replace t12 := t12.k k10_12
  exact ⟨_, rfl, .mk' t11 t12, hs.b⟩
set_option maxHeartbeats 4000000 in
set_option maxRecDepth 20000 in
theorem gTurn2 (K : Int) (hK : K % 4 = 2) (ha : PN w va x l y m) (hl : l ≤ 40000000) (hm : m ≤ 40000000) :
    Calls Tryz.prog 11 #[va, .int .i64 K] w fun e w' => ∃ v, e = .returned v ∧ PC w' v (turn 2 (x, y)).1 (turn 2 (x, y)).2 ∧ Below w.heap.size w w' := by
  have hand : bits .and .i64 K 3 = 2 := by rw [i64_and_three]; exact hK
  have E := hide (And.intro (Int.add_zero x) (Int.add_zero y))
  clear hK
  obtain ⟨n_0a, o_0a, k_0a, c_0a, n_0b, o_0b, k_0b, c_0b, rfl, ha1, ha2⟩ := ha
  go_enter Tryz.func11, Tryz.ntmps11
  have hs := St.nil w
  refine wp_seq_k ?_
  intro K1 hK1
  refine rg [0, 1] ?_
  refine sq ?_
  refine .al hs ?_; clear hs; intro p_b1 w_1 hs n1 kb_b1
  refine sq ?_
  refine .al hs ?_; clear hs; intro p_b2 w_2 hs n2 kb_b2
  apply wpSq_end
  refine hK1 _ _ ?_
  refine wp_seq_k ?_
  intro K2 hK2
  refine wp_region_f4 [(0, false), (1, false), (2, false), (4, false), (5, false), (6, false), (3, true), (7, true), (8, false)] [10] [9] (fun j => (.cells #[.bool false, .slice none 0 0, .bool false, .slice none 0 0] 29)) [99, 0, 99, 99, 99, 0, 99, 99, 99, 99, 99] [] (.c hs.g1 .n) (fm fn) fun w_3 n3 => ?_
  replace hs := hs.bl n3
  have hlB := hs.lt; have hkB := hs.k
  refine f0 ?_
  refine f4 ?_
  refine f0 ?_
  refine f0 ?_
  refine f4 ?_
  refine f0 ?_
  refine fl fun w_4 n4 => ?_
  replace hs := hs.bl n4
  intro K hK
  have k0_4 := (((kb n1).b n2).b n3).b n4
  replace ha1 := ha1.k k0_4
  go_big_op
  go_fit (zadd_any ha1 ((zc_zero w_4).zn zlen_0) (by omega) (by omega) )
  rintro e w_5 ⟨v_g1, rfl, g1, hb_5⟩
  replace hs := hs.bl hb_5
  replace g1 := g1.rd
  obtain ⟨n_g1, o_g1, k_g1, c_g1, rfl⟩ := g1.open2
  have Lg1 := hide (g1.lenOf (zlen_add (ha1.len) (zlen_0)))
  rw [E.out.1] at g1
  refine hK _ _ rfl ⟨hb_5, (And.intro hs.g1 trivial)⟩ ?_
  clear hK K
  have Lg1 := hide (g1.lenOf (ha1.len))
  refine fl fun w_6 n6 => ?_
  replace hs := hs.bl n6
  intro K hK
  have k0_6 := (k0_4.b hb_5).b n6
  replace ha2 := ha2.k k0_6
  go_big_op
  go_fit (zadd_any ha2 ((zc_zero w_6).zn zlen_0) (by omega) (by omega) )
  rintro e w_7 ⟨v_g2, rfl, g2, hb_7⟩
  replace hs := hs.bl hb_7
  replace g2 := g2.rd
  obtain ⟨n_g2, o_g2, k_g2, c_g2, rfl⟩ := g2.open2
  have Lg2 := hide (g2.lenOf (zlen_add (ha2.len) (zlen_0)))
  rw [E.out.2] at g2
  refine hK _ _ rfl ⟨hb_7, (And.intro hs.g1 trivial)⟩ ?_
  clear hK K
  refine f0 ?_
  refine e1 hs hlB hkB ?_; clear hs hlB hkB; intro w_8 p_b3 hs n8 kb_b3
  refine tl ?_
  refine .s4 hs.g0 (fun _ => hs.u0 kb_b3) ?_ (e := fun _ hs => (And.intro hs.g2 True.intro)); clear hs; intro w_9 hs hd9 ho9
  apply wpTail_end
  refine hK2 _ _ ?_
  refine wp_seq_k ?_
  intro K3 hK3
  refine wp_seq_k ?_
  intro K4 hK4
  refine rg [0, 1] ?_
  refine sq ?_
  refine .mv ?_
  refine sq ?_
  refine .r0 ?_
  apply wpSq_end
  refine hK4 _ _ ?_
  refine wp_block ?_
  refine wp_seq_k ?_
  intro K5 hK5
  refine wp_block ?_
  refine wp_seq_k ?_
  intro K6 hK6
  refine wp_block ?_
  refine wp_seq_k ?_
  intro K7 hK7
  refine wp_block ?_
  refine wp_seq_k ?_
  intro K8 hK8
  refine wp_seq_k ?_
  intro K9 hK9
  refine wp_seq_k ?_
  intro K10 hK10
  refine rg [0, 1] ?_
  refine sq ?_
  refine .r0 ?_
  refine sq ?_
  refine .mv ?_
  apply wpSq_end
  refine hK10 _ _ ?_
  have Lg2 := hide (g2.lenOf (ha2.len))
  refine cf ?_
  refine wp_skip ?_
  refine hK9 _ _ ?_
  refine wp_seq_k ?_
  intro K11 hK11
  refine wp_seq_k ?_
  intro K12 hK12
  refine rg [0, 1] ?_
  refine sq ?_
  refine .r0 ?_
  refine sq ?_
  refine .mv ?_
  apply wpSq_end
  refine hK12 _ _ ?_
  refine ct ?_
  refine wp_exit ?_
  refine hK6 _ _ ?_
  refine rg [0, 1, 2] ?_
  refine sq ?_
  refine .r4 hs.g0.f4 ?_
  refine sq ?_
  intro K hK
  have k5_9 := (((kb n6).b hb_7).b n8).o hd9 ho9
  replace g1 := g1.k k5_9
  have k7_9 := (kb n8).o hd9 ho9
  replace g2 := g2.k k7_9
  go_big_op
  go_fit (timesI_any (.mk' g1 g2) (Nat.le_trans Lg1.out (by omega)) (Nat.le_trans Lg2.out (by omega)))
  rintro e w_10 ⟨_, rfl, ⟨n_t1a, o_t1a, k_t1a, c_t1a, n_t1b, o_t1b, k_t1b, c_t1b, rfl, t11, t12⟩, hb_10⟩
  replace hs := hs.bl hb_10
  have Lt11 := hide (t11.lenOf (zlen_neg Lg2.out))
  have Lt12 := hide (t12.lenOf (Lg1.out))
  refine hK _ _ rfl trivial ?_
  clear hK K
  refine sq ?_
  refine .s4 hs.g0 (fun _ => hs.u0 kb_b3) ?_; clear hs; intro w_11 hs hd11 ho11
  apply wpSq_end
  refine hK5 _ _ ?_
  refine wp_seq_k ?_
  intro K13 hK13
  refine rg [0, 1, 2] ?_
  refine sq ?_
  refine .r4 hs.g0.f4 ?_
  refine sq ?_
  intro K hK
  have k10_11 := ko hd11 ho11
  replace t11 := t11.k k10_11
  replace t12 := t12.k k10_11
  go_big_op
  go_fit (timesI_any (.mk' t11 t12) (Nat.le_trans Lt11.out (by omega)) (Nat.le_trans Lt12.out (by omega)))
  rintro e w_12 ⟨_, rfl, ⟨n_t2a, o_t2a, k_t2a, c_t2a, n_t2b, o_t2b, k_t2b, c_t2b, rfl, t21, t22⟩, hb_12⟩
  replace hs := hs.bl hb_12
  have Lt21 := hide (t21.lenOf (zlen_neg Lt12.out))
  have Lt22 := hide (t22.lenOf (Lt11.out))
  refine hK _ _ rfl trivial ?_
  clear hK K
  refine sq ?_
  refine .s4 hs.g0 (fun _ => hs.u0 kb_b3) ?_; clear hs; intro w_13 hs hd13 ho13
  clear ha1 ha2 g1 g2 t11 t12
  apply wpSq_end
  refine hK13 _ _ ?_
  refine wp_exit ?_
  refine hK3 _ _ ?_
  refine wp_seq_k ?_
  intro K14 hK14
  refine rg [0, 1] ?_
  refine sq ?_
  refine .r4 hs.g0.f4 ?_
  refine sq ?_
  refine .s4 hs.g1 (fun _ => hs.u1 kb_b2) ?_; clear hs; intro w_14 hs hd14 ho14
  apply wpSq_end
  refine hK14 _ _ ?_
  refine wp_ret ?_
  try dsimp only [Exit.then, Exit.inBlock]
  obtain ⟨r0_0, r0_1, r0_2, r0_3⟩ := hs.g1.f4
  refine bodyPost_ret (v := (.agg #[.bool n_t2a, .slice o_t2a k_t2a c_t2a, .bool n_t2b, .slice o_t2b k_t2b c_t2b])) (by simp [results, Tryz.results11, go_sem, r0_0, r0_1, r0_2, r0_3]) rfl ?_
  have k12_14 := (ko hd13 ho13).o hd14 ho14
  replace t21 := t21.k k12_14
  replace t22 := t22.k k12_14
  exact ⟨_, rfl, .mk' t21 t22, hs.b⟩
set_option maxHeartbeats 4000000 in
set_option maxRecDepth 20000 in
theorem gTurn3 (K : Int) (hK : K % 4 = 3) (ha : PN w va x l y m) (hl : l ≤ 40000000) (hm : m ≤ 40000000) :
    Calls Tryz.prog 11 #[va, .int .i64 K] w fun e w' => ∃ v, e = .returned v ∧ PC w' v (turn 3 (x, y)).1 (turn 3 (x, y)).2 ∧ Below w.heap.size w w' := by
  have hand : bits .and .i64 K 3 = 3 := by rw [i64_and_three]; exact hK
  have E := hide (And.intro (Int.add_zero x) (Int.add_zero y))
  clear hK
  obtain ⟨n_0a, o_0a, k_0a, c_0a, n_0b, o_0b, k_0b, c_0b, rfl, ha1, ha2⟩ := ha
  go_enter Tryz.func11, Tryz.ntmps11
  have hs := St.nil w
  refine wp_seq_k ?_
  intro K1 hK1
  refine rg [0, 1] ?_
  refine sq ?_
  refine .al hs ?_; clear hs; intro p_b1 w_1 hs n1 kb_b1
  refine sq ?_
  refine .al hs ?_; clear hs; intro p_b2 w_2 hs n2 kb_b2
  apply wpSq_end
  refine hK1 _ _ ?_
  refine wp_seq_k ?_
  intro K2 hK2
  refine wp_region_f4 [(0, false), (1, false), (2, false), (4, false), (5, false), (6, false), (3, true), (7, true), (8, false)] [10] [9] (fun j => (.cells #[.bool false, .slice none 0 0, .bool false, .slice none 0 0] 29)) [99, 0, 99, 99, 99, 0, 99, 99, 99, 99, 99] [] (.c hs.g1 .n) (fm fn) fun w_3 n3 => ?_
  replace hs := hs.bl n3
  have hlB := hs.lt; have hkB := hs.k
  refine f0 ?_
  refine f4 ?_
  refine f0 ?_
  refine f0 ?_
  refine f4 ?_
  refine f0 ?_
  refine fl fun w_4 n4 => ?_
  replace hs := hs.bl n4
  intro K hK
  have k0_4 := (((kb n1).b n2).b n3).b n4
  replace ha1 := ha1.k k0_4
  go_big_op
  go_fit (zadd_any ha1 ((zc_zero w_4).zn zlen_0) (by omega) (by omega) )
  rintro e w_5 ⟨v_g1, rfl, g1, hb_5⟩
  replace hs := hs.bl hb_5
  replace g1 := g1.rd
  obtain ⟨n_g1, o_g1, k_g1, c_g1, rfl⟩ := g1.open2
  have Lg1 := hide (g1.lenOf (zlen_add (ha1.len) (zlen_0)))
  rw [E.out.1] at g1
  refine hK _ _ rfl ⟨hb_5, (And.intro hs.g1 trivial)⟩ ?_
  clear hK K
  have Lg1 := hide (g1.lenOf (ha1.len))
  refine fl fun w_6 n6 => ?_
  replace hs := hs.bl n6
  intro K hK
  have k0_6 := (k0_4.b hb_5).b n6
  replace ha2 := ha2.k k0_6
  go_big_op
  go_fit (zadd_any ha2 ((zc_zero w_6).zn zlen_0) (by omega) (by omega) )
  rintro e w_7 ⟨v_g2, rfl, g2, hb_7⟩
  replace hs := hs.bl hb_7
  replace g2 := g2.rd
  obtain ⟨n_g2, o_g2, k_g2, c_g2, rfl⟩ := g2.open2
  have Lg2 := hide (g2.lenOf (zlen_add (ha2.len) (zlen_0)))
  rw [E.out.2] at g2
  refine hK _ _ rfl ⟨hb_7, (And.intro hs.g1 trivial)⟩ ?_
  clear hK K
  refine f0 ?_
  refine e1 hs hlB hkB ?_; clear hs hlB hkB; intro w_8 p_b3 hs n8 kb_b3
  refine tl ?_
  refine .s4 hs.g0 (fun _ => hs.u0 kb_b3) ?_ (e := fun _ hs => (And.intro hs.g2 True.intro)); clear hs; intro w_9 hs hd9 ho9
  apply wpTail_end
  refine hK2 _ _ ?_
  refine wp_seq_k ?_
  intro K3 hK3
  refine wp_seq_k ?_
  intro K4 hK4
  refine rg [0, 1] ?_
  refine sq ?_
  refine .mv ?_
  refine sq ?_
  refine .r0 ?_
  apply wpSq_end
  refine hK4 _ _ ?_
  refine wp_block ?_
  refine wp_seq_k ?_
  intro K5 hK5
  refine wp_block ?_
  refine wp_seq_k ?_
  intro K6 hK6
  refine wp_block ?_
  refine wp_seq_k ?_
  intro K7 hK7
  refine wp_block ?_
  refine wp_seq_k ?_
  intro K8 hK8
  refine wp_seq_k ?_
  intro K9 hK9
  refine wp_seq_k ?_
  intro K10 hK10
  refine rg [0, 1] ?_
  refine sq ?_
  refine .r0 ?_
  refine sq ?_
  refine .mv ?_
  apply wpSq_end
  refine hK10 _ _ ?_
  have Lg2 := hide (g2.lenOf (ha2.len))
  refine ct ?_
  refine wp_exit ?_
  refine hK7 _ _ ?_
  refine rg [0, 1, 2] ?_
  refine sq ?_
  refine .r4 hs.g0.f4 ?_
  refine sq ?_
  intro K hK
  have k5_9 := (((kb n6).b hb_7).b n8).o hd9 ho9
  replace g1 := g1.k k5_9
  have k7_9 := (kb n8).o hd9 ho9
  replace g2 := g2.k k7_9
  go_big_op
  go_fit (timesI_any (.mk' g1 g2) (Nat.le_trans Lg1.out (by omega)) (Nat.le_trans Lg2.out (by omega)))
  rintro e w_10 ⟨_, rfl, ⟨n_t1a, o_t1a, k_t1a, c_t1a, n_t1b, o_t1b, k_t1b, c_t1b, rfl, t11, t12⟩, hb_10⟩
  replace hs := hs.bl hb_10
  have Lt11 := hide (t11.lenOf (zlen_neg Lg2.out))
  have Lt12 := hide (t12.lenOf (Lg1.out))
  refine hK _ _ rfl trivial ?_
  clear hK K
  refine sq ?_
  refine .s4 hs.g0 (fun _ => hs.u0 kb_b3) ?_; clear hs; intro w_11 hs hd11 ho11
  apply wpSq_end
  refine hK6 _ _ ?_
  refine rg [0, 1, 2] ?_
  refine sq ?_
  refine .r4 hs.g0.f4 ?_
  refine sq ?_
  intro K hK
  have k10_11 := ko hd11 ho11
  replace t11 := t11.k k10_11
  replace t12 := t12.k k10_11
  go_big_op
  go_fit (timesI_any (.mk' t11 t12) (Nat.le_trans Lt11.out (by omega)) (Nat.le_trans Lt12.out (by omega)))
  rintro e w_12 ⟨_, rfl, ⟨n_t2a, o_t2a, k_t2a, c_t2a, n_t2b, o_t2b, k_t2b, c_t2b, rfl, t21, t22⟩, hb_12⟩
  replace hs := hs.bl hb_12
  have Lt21 := hide (t21.lenOf (zlen_neg Lt12.out))
  have Lt22 := hide (t22.lenOf (Lt11.out))
  refine hK _ _ rfl trivial ?_
  clear hK K
  refine sq ?_
  refine .s4 hs.g0 (fun _ => hs.u0 kb_b3) ?_; clear hs; intro w_13 hs hd13 ho13
  clear ha1 ha2 g1 g2 t11 t12
  apply wpSq_end
  refine hK5 _ _ ?_
  refine wp_seq_k ?_
  intro K11 hK11
  refine rg [0, 1, 2] ?_
  refine sq ?_
  refine .r4 hs.g0.f4 ?_
  refine sq ?_
  intro K hK
  have k12_13 := ko hd13 ho13
  replace t21 := t21.k k12_13
  replace t22 := t22.k k12_13
  go_big_op
  go_fit (timesI_any (.mk' t21 t22) (Nat.le_trans Lt21.out (by omega)) (Nat.le_trans Lt22.out (by omega)))
  rintro e w_14 ⟨_, rfl, ⟨n_t3a, o_t3a, k_t3a, c_t3a, n_t3b, o_t3b, k_t3b, c_t3b, rfl, t31, t32⟩, hb_14⟩
  replace hs := hs.bl hb_14
  have Lt31 := hide (t31.lenOf (zlen_neg Lt22.out))
  have Lt32 := hide (t32.lenOf (Lt21.out))
  refine hK _ _ rfl trivial ?_
  clear hK K
  refine sq ?_
  refine .s4 hs.g0 (fun _ => hs.u0 kb_b3) ?_; clear hs; intro w_15 hs hd15 ho15
  apply wpSq_end
  refine hK11 _ _ ?_
  refine wp_exit ?_
  refine hK3 _ _ ?_
  refine wp_seq_k ?_
  intro K12 hK12
  refine rg [0, 1] ?_
  refine sq ?_
  refine .r4 hs.g0.f4 ?_
  refine sq ?_
  refine .s4 hs.g1 (fun _ => hs.u1 kb_b2) ?_; clear hs; intro w_16 hs hd16 ho16
  apply wpSq_end
  refine hK12 _ _ ?_
  refine wp_ret ?_
  try dsimp only [Exit.then, Exit.inBlock]
  obtain ⟨r0_0, r0_1, r0_2, r0_3⟩ := hs.g1.f4
  refine bodyPost_ret (v := (.agg #[.bool n_t3a, .slice o_t3a k_t3a c_t3a, .bool n_t3b, .slice o_t3b k_t3b c_t3b])) (by simp [results, Tryz.results11, go_sem, r0_0, r0_1, r0_2, r0_3]) rfl ?_
  have k14_16 := (ko hd15 ho15).o hd16 ho16
  replace t31 := t31.k k14_16
  replace t32 := t32.k k14_16
  exact ⟨_, rfl, .mk' t31 t32, hs.b⟩
theorem gTurn_any (K : Int) (ha : PN w va x l y m) (hl : l ≤ 40000000) (hm : m ≤ 40000000) :
    Calls Tryz.prog 11 #[va, .int .i64 K] w fun e w' => ∃ v, e = .returned v ∧ PC w' v (turn (K % 4).toNat (x, y)).1 (turn (K % 4).toNat (x, y)).2 ∧ Below w.heap.size w w' := by
  have h : K % 4 = 0 ∨ K % 4 = 1 ∨ K % 4 = 2 ∨ K % 4 = 3 := by omega
  rcases h with h | h | h | h
  · rw [h]; exact gTurn0 K h ha hl hm
  · rw [h]; exact gTurn1 K h ha hl hm
  · rw [h]; exact gTurn2 K h ha hl hm
  · rw [h]; exact gTurn3 K h ha hl hm
end
theorem sq_le {a n : Int} (h1 : -n ≤ a) (h2 : a ≤ n) : a * a ≤ n * n := by
  have h := Int.mul_nonneg (show 0 ≤ n - a by omega) (show 0 ≤ n + a by omega)
  have e : (n - a) * (n + a) = n * n - a * a := by grind
  omega
/-- What is left of the quotient, times conj(b). -/
theorem gR_conj (x y u v : Int) : gR1 x y u v * u - gR2 x y u v * -v = gT1 x y u v - gQ1 x y u v * gN u v ∧ gR1 x y u v * -v + gR2 x y u v * u = gT2 x y u v - gQ2 x y u v * gN u v := by
  unfold gR1 gR2 gT1 gT2 gN
  generalize gQ1 x y u v = a
  generalize gQ2 x y u v = b
  constructor <;> grind
theorem gR_back (x y u v : Int) : gQ1 x y u v * u - gQ2 x y u v * v + gR1 x y u v = x ∧ gQ1 x y u v * v + gQ2 x y u v * u + gR2 x y u v = y := by
  unfold gR1 gR2; omega
theorem gN_mul (a b c d : Int) : gN (a * c - b * d) (a * d + b * c) = gN a b * gN c d := by unfold gN; grind
theorem gN_conj (a b : Int) : gN a (-b) = gN a b := by unfold gN; grind
theorem gN_pos {u v : Int} (h : gN u v ≠ 0) : 0 < gN u v := by have := gN_nonneg u v; omega
/-- Twice the rest's norm is at most the divisor's. -/
theorem gR_half {x y u v : Int} (h0 : gN u v ≠ 0) : gN (gR1 x y u v) (gR2 x y u v) + gN (gR1 x y u v) (gR2 x y u v) ≤ gN u v := by
  have hp := gN_pos h0
  have b1 := (rnd_bd (x := gT1 x y u v) h0).1 hp
  have b2 := (rnd_bd (x := gT2 x y u v) h0).1 hp
  obtain ⟨e1, e2⟩ := gR_conj x y u v
  have hm := gN_mul (gR1 x y u v) (gR2 x y u v) u (-v)
  rw [gN_conj] at hm
  rw [show gR1 x y u v * u - gR2 x y u v * -v = gT1 x y u v - rnd (gT1 x y u v) (gN u v) * gN u v from e1, show gR1 x y u v * -v + gR2 x y u v * u = gT2 x y u v - rnd (gT2 x y u v) (gN u v) * gN u v from e2] at hm
  generalize gT1 x y u v - rnd (gT1 x y u v) (gN u v) * gN u v = a at *
  generalize gT2 x y u v - rnd (gT2 x y u v) (gN u v) * gN u v = b at *
  generalize gN (gR1 x y u v) (gR2 x y u v) = r at *
  generalize gN u v = n at *
  have s1 := sq_le (a := 2 * a) (n := n) (by omega) (by omega)
  have s2 := sq_le (a := 2 * b) (n := n) (by omega) (by omega)
  have hab : gN a b = a * a + b * b := rfl
  rw [hab] at hm
  have f1 : 2 * a * (2 * a) = 4 * (a * a) := by grind
  have f2 : 2 * b * (2 * b) = 4 * (b * b) := by grind
  have h3 : (r + r) * n ≤ n * n := by
    have : (r + r) * n = 2 * (r * n) := by grind
    omega
  exact Int.le_of_mul_le_mul_right h3 hp
/-- The nearest is known by what is left. -/
theorem rnd_of {t n q : Int} (hn : 0 < n) (h1 : -n ≤ 2 * (t - q * n)) (h2 : 2 * (t - q * n) < n) : rnd t n = q := by
  unfold rnd
  rw [Int.fdiv_eq_ediv_of_nonneg _ (by omega)]
  have e : 2 * t + n = (2 * (t - q * n) + n) + q * (2 * n) := by grind
  rw [e, Int.add_mul_ediv_right _ _ (by omega), Int.ediv_eq_zero_of_lt (by omega) (by omega)]
  omega
theorem abs_mul_le {a b A B : Int} (ha : -A ≤ a ∧ a ≤ A) (hb : -B ≤ b ∧ b ≤ B) : -(A * B) ≤ a * b ∧ a * b ≤ A * B := by
  have hA : 0 ≤ A := by omega
  have hB : 0 ≤ B := by omega
  have h1 := Int.mul_nonneg (show 0 ≤ A - a by omega) (show 0 ≤ B + b by omega)
  have h2 := Int.mul_nonneg (show 0 ≤ A + a by omega) (show 0 ≤ B - b by omega)
  have h3 := Int.mul_nonneg (show 0 ≤ A - a by omega) (show 0 ≤ B - b by omega)
  have h4 := Int.mul_nonneg (show 0 ≤ A + a by omega) (show 0 ≤ B + b by omega)
  have e1 : (A - a) * (B + b) = A * B + A * b - a * B - a * b := by grind
  have e2 : (A + a) * (B - b) = A * B - A * b + a * B - a * b := by grind
  have e3 : (A - a) * (B - b) = A * B - A * b - a * B + a * b := by grind
  have e4 : (A + a) * (B + b) = A * B + A * b + a * B + a * b := by grind
  constructor <;> omega
/-- From a square's bound to the number's. -/
theorem sq_lt {a A : Int} (hA : 0 ≤ A) (h : a * a ≤ A * A) : -A ≤ a ∧ a ≤ A := by
  have key : ∀ c : Int, 0 ≤ c → c * c ≤ A * A → c ≤ A := by
    intro c hc hcc
    rcases Int.lt_or_le A c with h1 | h1
    · have := Int.mul_self_lt_mul_self hA h1; omega
    · exact h1
  rcases Int.le_total 0 a with h0 | h0
  · have := key a h0 h; omega
  · have := key (-a) (by omega) (by rw [Int.neg_mul_neg]; exact h); omega
theorem msq (x : Int) : 0 ≤ x * x := by
  rcases Int.le_total 0 x with h | h
  · exact Int.mul_nonneg h h
  · exact Int.mul_nonneg_of_nonpos_of_nonpos h h
/-- What two parts are at most, their sum of squares being at most a square. -/
theorem norm_le {a b A : Int} (hA : 0 ≤ A) (h : gN a b ≤ A * A) : (-A ≤ a ∧ a ≤ A) ∧ (-A ≤ b ∧ b ≤ A) := by
  unfold gN at h
  have h1 := msq a
  have h2 := msq b
  exact ⟨sq_lt hA (by omega), sq_lt hA (by omega)⟩
theorem norm_ge {a b A : Int} (ha : -A ≤ a ∧ a ≤ A) (hb : -A ≤ b ∧ b ≤ A) : gN a b ≤ 2 * (A * A) := by
  have h1 := (abs_mul_le ha ha).2
  have h2 := (abs_mul_le hb hb).2
  unfold gN; omega
/-- A quotient of the tops is the quotient, where it lies far inside. -/
theorem guess {B a1 a2 b1 b2 c1 c2 d1 d2 m : Int} (hB : 0 < B) (hc1 : -B ≤ c1 ∧ c1 ≤ B) (hc2 : -B ≤ c2 ∧ c2 ≤ B) (hd1 : -B ≤ d1 ∧ d1 ≤ B) (hd2 : -B ≤ d2 ∧ d2 ≤ B) (hs1 : 0 ≤ b1 * d1) (hs2 : 0 ≤ b2 * d2)
    (hm : 340282366920938463463374607431768211456 ≤ m) (hb1 : -m ≤ b1 ∧ b1 ≤ m) (hb2 : -m ≤ b2 ∧ b2 ≤ m) (hmm : m * m ≤ gN b1 b2) (ha1 : -(18446744073709551616 * m) ≤ a1 ∧ a1 ≤ 18446744073709551616 * m) (ha2 : -(18446744073709551616 * m) ≤ a2 ∧ a2 ≤ 18446744073709551616 * m)
    {q1 q2 r1 r2 : Int} (hr1 : a1 = q1 * b1 - q2 * b2 + r1) (hr2 : a2 = q1 * b2 + q2 * b1 + r2) (hrr : gN r1 r2 + gN r1 r2 ≤ gN b1 b2)
    (hp1 : 2 * (r1 * b1 + r2 * b2) < gN b1 b2 - gN b1 b2 / 4294967296 ∧ -(gN b1 b2 - gN b1 b2 / 4294967296) < 2 * (r1 * b1 + r2 * b2))
    (hp2 : 2 * (r2 * b1 - r1 * b2) < gN b1 b2 - gN b1 b2 / 4294967296 ∧ -(gN b1 b2 - gN b1 b2 / 4294967296) < 2 * (r2 * b1 - r1 * b2)) :
    gQ1 (a1 * B + c1) (a2 * B + c2) (b1 * B + d1) (b2 * B + d2) = q1 ∧ gQ2 (a1 * B + c1) (a2 * B + c2) (b1 * B + d1) (b2 * B + d2) = q2 := by
  have hm0 : 0 ≤ m := by omega
  have hN2 : gN b1 b2 ≤ 2 * (m * m) := norm_ge hb1 hb2
  obtain ⟨R1, R2⟩ := norm_le (a := r1) (b := r2) hm0 (by omega)
  -- the quotient's parts
  have hq : gN q1 q2 ≤ 5444517870735015415413993718908291383296 := by
    have e1 : q1 * b1 - q2 * b2 = a1 - r1 := by omega
    have e2 : q1 * b2 + q2 * b1 = a2 - r2 := by omega
    have h1 := gN_mul q1 q2 b1 b2
    rw [e1, e2] at h1
    have h2 : gN (a1 - r1) (a2 - r2) ≤ 2 * ((36893488147419103232 * m) * (36893488147419103232 * m)) := norm_ge (by omega) (by omega)
    have h3 : (36893488147419103232 * m) * (36893488147419103232 * m) = 1361129467683753853853498429727072845824 * (m * m) := by grind
    rw [h3] at h2
    have h4 : 0 ≤ gN q1 q2 := by unfold gN; have := msq q1; have := msq q2; omega
    have h5 : gN q1 q2 * (m * m) ≤ gN q1 q2 * gN b1 b2 := Int.mul_le_mul_of_nonneg_left hmm h4
    have h6 : 0 < m * m := Int.mul_pos (by omega) (by omega)
    have h7 : gN q1 q2 * (m * m) ≤ 2722258935367507707706996859454145691648 * (m * m) := by omega
    have := Int.le_of_mul_le_mul_right h7 h6
    omega
  obtain ⟨Q1, Q2⟩ := norm_le (a := q1) (b := q2) (A := 73786976294838206464) (by decide) (by omega)
  -- what is left
  obtain ⟨e1, he1⟩ : ∃ e, e = c1 - (q1 * d1 - q2 * d2) := ⟨_, rfl⟩
  obtain ⟨e2, he2⟩ : ∃ e, e = c2 - (q1 * d2 + q2 * d1) := ⟨_, rfl⟩
  have k1 := abs_mul_le Q1 hd1
  have k2 := abs_mul_le Q2 hd2
  have k3 := abs_mul_le Q1 hd2
  have k4 := abs_mul_le Q2 hd1
  have E1 : -(295147905179352825856 * B) ≤ e1 ∧ e1 ≤ 295147905179352825856 * B := by omega
  have E2 : -(295147905179352825856 * B) ≤ e2 ∧ e2 ≤ 295147905179352825856 * B := by omega
  have hmB : B ≤ m * B := by
    have := Int.mul_le_mul_of_nonneg_right (show (1 : Int) ≤ m by omega) (Int.le_of_lt hB); omega
  have j1 := abs_mul_le hb1 (show -B ≤ B ∧ B ≤ B by omega)
  have j2 := abs_mul_le hb2 (show -B ≤ B ∧ B ≤ B by omega)
  have U : -(2 * (m * B)) ≤ b1 * B + d1 ∧ b1 * B + d1 ≤ 2 * (m * B) := by omega
  have V : -(2 * (m * B)) ≤ b2 * B + d2 ∧ b2 * B + d2 ≤ 2 * (m * B) := by omega
  have w1 := abs_mul_le E1 U
  have w2 := abs_mul_le E2 V
  have w3 := abs_mul_le E2 U
  have w4 := abs_mul_le E1 V
  have z1 := abs_mul_le R1 hd1
  have z2 := abs_mul_le R2 hd2
  have z3 := abs_mul_le R2 hd1
  have z4 := abs_mul_le R1 hd2
  have g0 : (295147905179352825856 * B) * (2 * (m * B)) = 590295810358705651712 * (m * (B * B)) := by grind
  rw [g0] at w1 w2 w3 w4
  -- r d, times B
  have y1 := abs_mul_le (a := r1 * d1 + r2 * d2) (b := B) (A := 2 * (m * B)) (B := B) (by omega) (by omega)
  have y2 := abs_mul_le (a := r2 * d1 - r1 * d2) (b := B) (A := 2 * (m * B)) (B := B) (by omega) (by omega)
  have g1 : 2 * (m * B) * B = 2 * (m * (B * B)) := by grind
  rw [g1] at y1 y2
  obtain ⟨S, hS⟩ : ∃ S, S = B * B := ⟨_, rfl⟩
  have hS0 : 0 < S := by rw [hS]; exact Int.mul_pos hB hB
  -- the norm below
  have hn : gN (b1 * B + d1) (b2 * B + d2) = gN b1 b2 * S + 2 * ((b1 * d1) * B) + 2 * ((b2 * d2) * B) + (d1 * d1 + d2 * d2) := by rw [hS]; unfold gN; grind
  have n1 := Int.mul_nonneg hs1 (Int.le_of_lt hB)
  have n2 := Int.mul_nonneg hs2 (Int.le_of_lt hB)
  have n3 := msq d1
  have n4 := msq d2
  have D1 : gT1 (a1 * B + c1) (a2 * B + c2) (b1 * B + d1) (b2 * B + d2) - q1 * gN (b1 * B + d1) (b2 * B + d2) = (r1 * b1 + r2 * b2) * S + (r1 * d1 + r2 * d2) * B + e1 * (b1 * B + d1) + e2 * (b2 * B + d2) := by
    rw [he1, he2, hS, hr1, hr2]; unfold gT1 gN; grind
  have D2 : gT2 (a1 * B + c1) (a2 * B + c2) (b1 * B + d1) (b2 * B + d2) - q2 * gN (b1 * B + d1) (b2 * B + d2) = (r2 * b1 - r1 * b2) * S + (r2 * d1 - r1 * d2) * B + e2 * (b1 * B + d1) - e1 * (b2 * B + d2) := by
    rw [he1, he2, hS, hr1, hr2]; unfold gT2 gN; grind
  rw [← hS] at w1 w2 w3 w4 y1 y2
  -- the far inside
  have hmS : 340282366920938463463374607431768211456 * (m * S) ≤ gN b1 b2 * S := by
    have h1 : 340282366920938463463374607431768211456 * m ≤ m * m := Int.mul_le_mul_of_nonneg_right hm hm0
    have h2 := Int.mul_le_mul_of_nonneg_right (Int.le_trans h1 hmm) (Int.le_of_lt hS0)
    have h3 : 340282366920938463463374607431768211456 * m * S = 340282366920938463463374607431768211456 * (m * S) := by grind
    omega
  have hmS0 : 0 < m * S := Int.mul_pos (by omega) hS0
  have far : ∀ p : Int, 2 * p < gN b1 b2 - gN b1 b2 / 4294967296 → -(gN b1 b2 - gN b1 b2 / 4294967296) < 2 * p → 4294967296 * (2 * (p * S)) ≤ 4294967295 * (gN b1 b2 * S) ∧ -(4294967295 * (gN b1 b2 * S)) ≤ 4294967296 * (2 * (p * S)) := by
    intro p h1 h2
    have h3 : 4294967296 * (2 * p) ≤ 4294967295 * gN b1 b2 := by omega
    have h4 : -(4294967295 * gN b1 b2) ≤ 4294967296 * (2 * p) := by omega
    have h5 := Int.mul_le_mul_of_nonneg_right h3 (Int.le_of_lt hS0)
    have h6 := Int.mul_le_mul_of_nonneg_right h4 (Int.le_of_lt hS0)
    have f1 : 4294967296 * (2 * p) * S = 4294967296 * (2 * (p * S)) := by grind
    have f2 : 4294967295 * gN b1 b2 * S = 4294967295 * (gN b1 b2 * S) := by grind
    have f3 : -(4294967295 * gN b1 b2) * S = -(4294967295 * (gN b1 b2 * S)) := by grind
    omega
  have F1 := far _ hp1.1 hp1.2
  have F2 := far _ hp2.1 hp2.2
  clear hp1 hp2 far
  generalize (r1 * b1 + r2 * b2) * S = p1 at *
  generalize (r2 * b1 - r1 * b2) * S = p2 at *
  generalize gN b1 b2 * S = NS at *
  generalize m * S = mS at *
  generalize (r1 * d1 + r2 * d2) * B = t1 at *
  generalize (r2 * d1 - r1 * d2) * B = t2 at *
  generalize e1 * (b1 * B + d1) = o1 at *
  generalize e2 * (b2 * B + d2) = o2 at *
  generalize e2 * (b1 * B + d1) = o3 at *
  generalize e1 * (b2 * B + d2) = o4 at *
  have hpos : 0 < gN (b1 * B + d1) (b2 * B + d2) := by omega
  refine ⟨rnd_of hpos ?_ ?_, rnd_of hpos ?_ ?_⟩
  · rw [D1]; omega
  · rw [D1]; omega
  · rw [D2]; omega
  · rw [D2]; omega
/-- A number without its k lowest digits. -/
def tp (x : Int) (k : Nat) : Int := if x < 0 then -((x.natAbs / pw k : Nat) : Int) else ((x.natAbs / pw k : Nat) : Int)
theorem tp_split (x : Int) (k : Nat) : ∃ c : Int, x = tp x k * (pw k : Int) + c ∧ (-(pw k : Int) ≤ c ∧ c ≤ (pw k : Int)) ∧ 0 ≤ tp x k * c := by
  have hp := pw_pos k
  have h1 := Nat.div_add_mod x.natAbs (pw k)
  have h2 := Nat.mod_lt x.natAbs hp
  obtain ⟨q, hq⟩ : ∃ q, x.natAbs / pw k = q := ⟨_, rfl⟩
  obtain ⟨r, hr⟩ : ∃ r, x.natAbs % pw k = r := ⟨_, rfl⟩
  rw [hq, hr] at h1
  rw [hr] at h2
  have h3 : (x.natAbs : Int) = (q : Int) * (pw k : Int) + (r : Int) := by rw [← h1]; push_cast; rw [Int.mul_comm]
  unfold tp
  rw [hq]
  have hqr : (0 : Int) ≤ (q : Int) * (r : Int) := Int.mul_nonneg (by omega) (by omega)
  by_cases hx : x < 0
  · rw [if_pos hx]
    refine ⟨-(r : Int), ?_, by omega, by rw [Int.neg_mul_neg]; exact hqr⟩
    rw [Int.neg_mul]; omega
  · rw [if_neg hx]
    exact ⟨(r : Int), by omega, by omega, hqr⟩
theorem Rd.cut {w : World} {oa : Option Addr} {k cap : Nat} {xs : List Nat} (h : Rd w (.slice oa k cap) xs) (j : Nat) (hj : j ≤ k) :
    Rd w (.slice (if cap = j then oa else Option.map (fun x => x.add j) oa) (k - j) (cap - j)) (xs.drop j) := by
  obtain ⟨oa', cap', e, hc, ok, hx⟩ := h
  simp only [Value.slice.injEq] at e
  obtain ⟨rfl, rfl, rfl⟩ := e
  refine ⟨_, cap - j, by rw [List.length_drop], by rw [List.length_drop]; omega, ok.drop j, ?_⟩
  by_cases hn : xs.drop j = []
  · exact .inl hn
  · have hlt : j < xs.length := by
      rcases Nat.lt_or_ge j xs.length with h | h
      · exact h
      · exact absurd (List.drop_eq_nil_of_le h) hn
    obtain ⟨b, off, rfl, hcell⟩ := hx.resolve_left (fun h => by rw [h] at hlt; exact absurd hlt (Nat.not_lt_zero _))
    rw [if_neg (by omega)]
    refine .inr ⟨b, off + j, by simp [Addr.add], fun i hi => ?_⟩
    rw [List.length_drop] at hi
    have := hcell (j + i) (by omega)
    rw [List.getElem?_drop, Nat.add_assoc]
    exact this
theorem val_drop' (xs : List Nat) (ok : OK xs) (j : Nat) (hj : j ≤ xs.length) : val (xs.drop j) = val xs / pw j := by
  have h1 := val_split xs j hj
  have h2 := val_lt (ds := xs.take j) (ok.take j)
  rw [List.length_take, Nat.min_eq_left hj] at h2
  rw [h1, Nat.add_comm, Nat.mul_add_div (pw_pos j), Nat.div_eq_of_lt h2, Nat.add_zero]
theorem zv_tp {neg : Bool} {xs : List Nat} {x : Int} (hx : zv neg xs = x) (ok : OK xs) (cut j : Nat) (hj : j = min cut xs.length) : zv neg (xs.drop j) = tp x cut := by
  have hd : val (xs.drop j) = x.natAbs / pw cut := by
    have ha : x.natAbs = val xs := by rw [← hx, zv_abs]
    rw [ha]
    rcases Nat.le_total cut xs.length with h | h
    · rw [hj, Nat.min_eq_left h]; exact val_drop' xs ok cut h
    · rw [hj, Nat.min_eq_right h, List.drop_of_length_le (Nat.le_refl _)]
      rw [Nat.div_eq_of_lt (Nat.lt_of_lt_of_le (val_lt ok) (pw_mono h))]; rfl
  unfold tp zv
  rw [hd]
  have hs : x = if neg = true then -(val xs : Int) else (val xs : Int) := hx.symm
  have ha : x.natAbs = val xs := by rw [← hx, zv_abs]
  cases neg
  · rw [if_neg Bool.false_ne_true] at hs ⊢
    rw [if_neg (by omega)]
  · rw [if_pos rfl] at hs ⊢
    by_cases h0 : x < 0
    · rw [if_pos h0]
    · rw [if_neg h0, show x.natAbs = 0 by omega, Nat.zero_div]; rfl
section
variable {w : World} {va vb : Value} {x y u v : Int} {l m k n : Nat}
set_option maxHeartbeats 4000000 in
set_option maxRecDepth 20000 in
theorem topOf_le (cut : Nat) {neg : Bool} {oa : Option Addr} {k cap : Nat} (hc : cut ≤ k) (hkc : k ≤ cap) (hk : k ≤ 1000000000) (hcut : cut ≤ 1000000000) :
    Calls Tryz.prog 95 #[.agg #[.bool neg, .slice oa k cap], .int .i64 (cut : Int)] w fun e w' => e = .returned (.agg #[.bool neg, .slice (if cap = cut then oa else Option.map (fun x => x.add cut) oa) (k - cut) (cap - cut)]) ∧ Below w.heap.size w w' := by
  have hmin : min (cut : Int) (k : Int) = (cut : Int) := by omega
  have hmin2 : min (k : Int) (cut : Int) = (cut : Int) := by omega
  go_enter Tryz.func95, Tryz.ntmps95
  have hs := St.nil w
  refine wp_seq_k ?_
  intro K1 hK1
  refine rg [0, 1] ?_
  refine sq ?_
  refine .al hs ?_; clear hs; intro p_b1 w_1 hs n1 kb_b1
  refine sq ?_
  refine .al hs ?_; clear hs; intro p_b2 w_2 hs n2 kb_b2
  apply wpSq_end
  refine hK1 _ _ ?_
  refine wp_seq_k ?_
  intro K2 hK2
  refine wp_region_f4 [(0, false), (1, false), (2, false), (3, false), (4, false), (5, false), (6, false), (7, false), (8, true), (9, false), (10, false)] [11] [] (fun _ => default) [99, 0, 99, 0, 99, 99, 0, 99, 99, 99, 99, 99] [] (.c hs.g1 .n) fn fun w_3 n3 => ?_
  replace hs := hs.bl n3
  refine f0 ?_
  refine f2 ?_
  refine f0 ?_
  refine f2 ?_
  refine fmv ?_
  refine f0 ?_
  refine f2 ?_
  refine fb ?_
  refine fl fun w_4 n4 => ?_
  replace hs := hs.bl n4
  refine .r0 ?_ (e := ⟨Below.refl _ _, (And.intro hs.g1 trivial)⟩)
  refine f0 ?_
  refine f0 ?_
  refine e0 hs ?_; clear hs; intro w_5 hs n5
  refine tl ?_
  refine .s2 hs.g0 (fun _ => hs.u0 kb_b2) ?_ (e := fun _ hs => (And.intro hs.g1 True.intro)); clear hs; intro w_6 hs hd6 ho6
  apply wpTail_end
  refine hK2 _ _ ?_
  refine wp_ret ?_
  try dsimp only [Exit.then, Exit.inBlock]
  obtain ⟨r0_0, r0_1⟩ := hs.g0.f2
  refine bodyPost_ret (v := (.agg #[.bool neg, .slice (if cap = cut then oa else Option.map (fun x => x.add cut) oa) (k - cut) (cap - cut)])) (by simp [results, Tryz.results95, go_sem, r0_0, r0_1]) rfl ?_
  have hb := hs.b
  exact ⟨rfl, hb⟩
set_option maxHeartbeats 4000000 in
set_option maxRecDepth 20000 in
theorem topOf_gt (cut : Nat) {neg : Bool} {oa : Option Addr} {k cap : Nat} (hc : k < cut) (hkc : k ≤ cap) (hk : k ≤ 1000000000) (hcut : cut ≤ 1000000000) :
    Calls Tryz.prog 95 #[.agg #[.bool neg, .slice oa k cap], .int .i64 (cut : Int)] w fun e w' => e = .returned (.agg #[.bool neg, .slice (if cap = k then oa else Option.map (fun x => x.add k) oa) 0 (cap - k)]) ∧ Below w.heap.size w w' := by
  have hmin : min (cut : Int) (k : Int) = (k : Int) := by omega
  have hmin2 : min (k : Int) (cut : Int) = (k : Int) := by omega
  go_enter Tryz.func95, Tryz.ntmps95
  have hs := St.nil w
  refine wp_seq_k ?_
  intro K1 hK1
  refine rg [0, 1] ?_
  refine sq ?_
  refine .al hs ?_; clear hs; intro p_b1 w_1 hs n1 kb_b1
  refine sq ?_
  refine .al hs ?_; clear hs; intro p_b2 w_2 hs n2 kb_b2
  apply wpSq_end
  refine hK1 _ _ ?_
  refine wp_seq_k ?_
  intro K2 hK2
  refine wp_region_f4 [(0, false), (1, false), (2, false), (3, false), (4, false), (5, false), (6, false), (7, false), (8, true), (9, false), (10, false)] [11] [] (fun _ => default) [99, 0, 99, 0, 99, 99, 0, 99, 99, 99, 99, 99] [] (.c hs.g1 .n) fn fun w_3 n3 => ?_
  replace hs := hs.bl n3
  refine f0 ?_
  refine f2 ?_
  refine f0 ?_
  refine f2 ?_
  refine fmv ?_
  refine f0 ?_
  refine f2 ?_
  refine fb ?_
  refine fl fun w_4 n4 => ?_
  replace hs := hs.bl n4
  refine .r0 ?_ (e := ⟨Below.refl _ _, (And.intro hs.g1 trivial)⟩)
  refine f0 ?_
  refine f0 ?_
  refine e0 hs ?_; clear hs; intro w_5 hs n5
  refine tl ?_
  refine .s2 hs.g0 (fun _ => hs.u0 kb_b2) ?_ (e := fun _ hs => (And.intro hs.g1 True.intro)); clear hs; intro w_6 hs hd6 ho6
  apply wpTail_end
  refine hK2 _ _ ?_
  refine wp_ret ?_
  try dsimp only [Exit.then, Exit.inBlock]
  obtain ⟨r0_0, r0_1⟩ := hs.g0.f2
  refine bodyPost_ret (v := (.agg #[.bool neg, .slice (if cap = k then oa else Option.map (fun x => x.add k) oa) 0 (cap - k)])) (by simp [results, Tryz.results95, go_sem, r0_0, r0_1]) rfl ?_
  have hb := hs.b
  exact ⟨rfl, hb⟩
theorem topOf_any (cut : Nat) (ha : ZN w va x l) (hl : l ≤ 1000000000) (hcut : cut ≤ 1000000000) :
    Calls Tryz.prog 95 #[va, .int .i64 (cut : Int)] w fun e w' => ∃ r, e = .returned r ∧ ZN w' r (tp x cut) l ∧ Below w.heap.size w w' := by
  obtain ⟨neg, s, xs, rfl, hr, hx, hxl⟩ := ha
  obtain ⟨oa, cap, rfl, hc, ok, hcell⟩ := hr
  have hr : Rd w (.slice oa xs.length cap) xs := ⟨oa, cap, rfl, hc, ok, hcell⟩
  rcases Nat.lt_or_ge xs.length cut with h | h
  · refine (topOf_gt cut h hc (by omega) hcut).mono ?_
    rintro e w' ⟨rfl, hb⟩
    exact ⟨_, rfl, ⟨neg, _, _, rfl, (by have := hr.cut xs.length (Nat.le_refl _); rw [Nat.sub_self] at this; exact this : Rd w _ _).below hb (Nat.le_refl _), zv_tp hx ok cut _ (by omega), by rw [List.length_drop]; omega⟩, hb⟩
  · refine (topOf_le cut h hc (by omega) hcut).mono ?_
    rintro e w' ⟨rfl, hb⟩
    exact ⟨_, rfl, ⟨neg, _, _, rfl, (hr.cut cut h).below hb (Nat.le_refl _), zv_tp hx ok cut _ (by omega), by rw [List.length_drop]; omega⟩, hb⟩
set_option maxHeartbeats 4000000 in
set_option maxRecDepth 20000 in
theorem gtop_any (cut : Nat) (ha : PN w va x l y m) (hl : l ≤ 1000000000) (hm : m ≤ 1000000000) (hcut : cut ≤ 1000000000) :
    Calls Tryz.prog 73 #[va, .int .i64 (cut : Int)] w fun e w' => ∃ r, e = .returned r ∧ PN w' r (tp x cut) l (tp y cut) m ∧ Below w.heap.size w w' := by
  obtain ⟨n_0a, o_0a, k_0a, c_0a, n_0b, o_0b, k_0b, c_0b, rfl, ha1, ha2⟩ := ha
  go_enter Tryz.func73, Tryz.ntmps73
  have hs := St.nil w
  refine wp_seq_k ?_
  intro K1 hK1
  refine rg [0, 1] ?_
  refine sq ?_
  refine .al hs ?_; clear hs; intro p_b1 w_1 hs n1 kb_b1
  refine sq ?_
  refine .al hs ?_; clear hs; intro p_b2 w_2 hs n2 kb_b2
  apply wpSq_end
  refine hK1 _ _ ?_
  refine wp_seq_k ?_
  intro K2 hK2
  refine wp_region_f4 [(0, false), (1, false), (2, false), (4, false), (5, false), (6, false), (3, true), (7, true), (8, false)] [9] [] (fun _ => default) [99, 0, 99, 99, 99, 0, 99, 99, 99, 99] [] (.c hs.g1 .n) fn fun w_3 n3 => ?_
  replace hs := hs.bl n3
  refine f0 ?_
  refine f4 ?_
  refine fmv ?_
  refine f0 ?_
  refine f4 ?_
  refine fmv ?_
  refine fl fun w_4 n4 => ?_
  replace hs := hs.bl n4
  intro K hK
  have k0_4 := (((kb n1).b n2).b n3).b n4
  replace ha1 := ha1.k k0_4
  go_big_op
  go_fit (topOf_any cut ha1 hl hcut)
  rintro e w_5 ⟨v_g1, rfl, g1, hb_5⟩
  replace hs := hs.bl hb_5
  obtain ⟨n_g1, o_g1, k_g1, c_g1, rfl⟩ := g1.open2
  refine hK _ _ rfl ⟨hb_5, (And.intro hs.g1 trivial)⟩ ?_
  clear hK K
  refine fl fun w_6 n6 => ?_
  replace hs := hs.bl n6
  intro K hK
  have k0_6 := (k0_4.b hb_5).b n6
  replace ha2 := ha2.k k0_6
  go_big_op
  go_fit (topOf_any cut ha2 hm hcut)
  rintro e w_7 ⟨v_g2, rfl, g2, hb_7⟩
  replace hs := hs.bl hb_7
  obtain ⟨n_g2, o_g2, k_g2, c_g2, rfl⟩ := g2.open2
  refine hK _ _ rfl ⟨hb_7, (And.intro hs.g1 trivial)⟩ ?_
  clear hK K
  refine f0 ?_
  refine e0 hs ?_; clear hs; intro w_8 hs n8
  refine tl ?_
  refine .s4 hs.g0 (fun _ => hs.u0 kb_b2) ?_ (e := fun _ hs => (And.intro hs.g1 True.intro)); clear hs; intro w_9 hs hd9 ho9
  apply wpTail_end
  refine hK2 _ _ ?_
  refine wp_ret ?_
  try dsimp only [Exit.then, Exit.inBlock]
  obtain ⟨r0_0, r0_1, r0_2, r0_3⟩ := hs.g0.f4
  refine bodyPost_ret (v := (.agg #[.bool n_g1, .slice o_g1 k_g1 c_g1, .bool n_g2, .slice o_g2 k_g2 c_g2])) (by simp [results, Tryz.results73, go_sem, r0_0, r0_1, r0_2, r0_3]) rfl ?_
  have k5_9 := (((kb n6).b hb_7).b n8).o hd9 ho9
  replace g1 := g1.k k5_9
  have k7_9 := (kb n8).o hd9 ho9
  replace g2 := g2.k k7_9
  exact ⟨_, rfl, .mk' g1 g2, hs.b⟩
end
def or3 (a b c : Int) : Int := if a ≠ 0 then a else if b ≠ 0 then b else c
/-- How two numbers compare. -/
def gcmp (x y u v : Int) : Int := or3 (zcmp (gN x y) (gN u v)) (zcmp x u) (zcmp y v)
/-- How often a number is turned, by the signs of its parts. -/
def kq (x y : Int) : Nat := if y < 0 ∧ 0 ≤ x then 1 else if x < 0 ∧ y ≤ 0 then 2 else if 0 < y ∧ x ≤ 0 then 3 else 0
theorem kq_sign (x y : Int) : kq x.sign y.sign = kq x y := by
  have hx : (x.sign = -1 ∧ x < 0) ∨ (x.sign = 0 ∧ x = 0) ∨ (x.sign = 1 ∧ 0 < x) := by
    rcases Int.lt_trichotomy x 0 with h | h | h
    · exact .inl ⟨Int.sign_eq_neg_one_of_neg h, h⟩
    · exact .inr (.inl ⟨by rw [h]; rfl, h⟩)
    · exact .inr (.inr ⟨Int.sign_eq_one_of_pos h, h⟩)
  have hy : (y.sign = -1 ∧ y < 0) ∨ (y.sign = 0 ∧ y = 0) ∨ (y.sign = 1 ∧ 0 < y) := by
    rcases Int.lt_trichotomy y 0 with h | h | h
    · exact .inl ⟨Int.sign_eq_neg_one_of_neg h, h⟩
    · exact .inr (.inl ⟨by rw [h]; rfl, h⟩)
    · exact .inr (.inr ⟨Int.sign_eq_one_of_pos h, h⟩)
  unfold kq
  generalize x.sign = s at *
  generalize y.sign = t at *
  (repeat' split) <;> omega
theorem kq_lt (x y : Int) : kq x y < 4 := by unfold kq; (repeat' split) <;> omega
theorem kq_mod (x y : Int) : (((kq x y : Nat) : Int) % 4).toNat = kq x y := by have := kq_lt x y; omega
section
variable {w : World} {va vb : Value} {x y u v : Int} {l m k n : Nat}
set_option maxHeartbeats 4000000 in
set_option maxRecDepth 20000 in
theorem cmpOr_a {p : Nat} {a b c : Int} (hx : Bs w p #[.int .i64 a, .int .i64 b, .int .i64 c] 3) (h1 : a ≠ 0) :
    Calls Tryz.prog 43 #[.slice (some ⟨p, 0, none⟩) 3 3] w fun e w' => e = .returned (.int .i64 a) ∧ Below w.heap.size w w' := by
  go_enter Tryz.func43, Tryz.ntmps43
  have hs := St.nil w
  have lt_xx := hx.lt
  have hxz := hx
  refine wp_seq_k ?_
  intro K1 hK1
  refine rg [0] ?_
  refine sq ?_
  refine .mv ?_
  apply wpSq_end
  refine hK1 _ _ ?_
  refine wp_seq_k ?_
  intro K2 hK2
  refine rg [0] ?_
  refine sq ?_
  refine .mv ?_
  apply wpSq_end
  refine hK2 _ _ ?_
  refine wp_seq_k ?_
  intro K3 hK3
  refine wp_seq_k ?_
  intro K4 hK4
  refine rg [0, 1, 2] ?_
  refine sq ?_
  refine .mv ?_
  refine sq ?_
  refine .r0 ?_
  refine sq ?_
  refine .mv ?_
  apply wpSq_end
  refine hK4 _ _ ?_
  refine wp_block ?_
  refine wp_loop_rounds 4 ?_
  show Code.wp _ _ _ _ _
  refine wp_seq_k ?_
  intro K5 hK5
  refine rg [0] ?_
  refine sq ?_
  refine .r0 ?_
  apply wpSq_end
  refine hK5 _ _ ?_
  refine wp_seq_k ?_
  intro K6 hK6
  refine ct ?_
  refine wp_skip ?_
  refine hK6 _ _ ?_
  refine wp_seq_k ?_
  intro K7 hK7
  refine wp_block ?_
  refine wp_seq_k ?_
  intro K8 hK8
  refine rg [0, 1, 2] ?_
  refine sq ?_
  refine .r0 ?_
  refine sq ?_
  refine .r1 (hx.cell 0 rfl) ?_
  refine sq ?_
  refine .mv ?_
  apply wpSq_end
  refine hK8 _ _ ?_
  refine wp_seq_k ?_
  intro K9 hK9
  refine rg [0, 1, 2] ?_
  refine sq ?_
  refine .mv ?_
  refine sq ?_
  refine .mv ?_
  refine sq ?_
  refine .r0 ?_
  apply wpSq_end
  refine hK9 _ _ ?_
  refine wp_cond_true (congrArg Value.bool (show _ = true from (by simpa using h1))) ?_
  refine wp_seq_k ?_
  intro K10 hK10
  refine rg [0, 1] ?_
  refine sq ?_
  refine .mv ?_
  refine sq ?_
  refine .mv ?_
  apply wpSq_end
  refine hK10 _ _ ?_
  refine wp_ret ?_
  try dsimp only [Exit.then, Exit.inBlock]
  refine bodyPost_ret (v := (.int .i64 a)) (by simp [results, Tryz.results43, go_sem]) rfl ?_
  have hb := hs.b
  exact ⟨rfl, hb⟩
set_option maxHeartbeats 4000000 in
set_option maxRecDepth 20000 in
theorem cmpOr_b {p : Nat} {b c : Int} (hx : Bs w p #[.int .i64 0, .int .i64 b, .int .i64 c] 3) (h2 : b ≠ 0) :
    Calls Tryz.prog 43 #[.slice (some ⟨p, 0, none⟩) 3 3] w fun e w' => e = .returned (.int .i64 b) ∧ Below w.heap.size w w' := by
  go_enter Tryz.func43, Tryz.ntmps43
  have hs := St.nil w
  have lt_xx := hx.lt
  have hxz := hx
  refine wp_seq_k ?_
  intro K1 hK1
  refine rg [0] ?_
  refine sq ?_
  refine .mv ?_
  apply wpSq_end
  refine hK1 _ _ ?_
  refine wp_seq_k ?_
  intro K2 hK2
  refine rg [0] ?_
  refine sq ?_
  refine .mv ?_
  apply wpSq_end
  refine hK2 _ _ ?_
  refine wp_seq_k ?_
  intro K3 hK3
  refine wp_seq_k ?_
  intro K4 hK4
  refine rg [0, 1, 2] ?_
  refine sq ?_
  refine .mv ?_
  refine sq ?_
  refine .r0 ?_
  refine sq ?_
  refine .mv ?_
  apply wpSq_end
  refine hK4 _ _ ?_
  refine wp_block ?_
  refine wp_loop_rounds 4 ?_
  show Code.wp _ _ _ _ _
  refine wp_seq_k ?_
  intro K5 hK5
  refine rg [0] ?_
  refine sq ?_
  refine .r0 ?_
  apply wpSq_end
  refine hK5 _ _ ?_
  refine wp_seq_k ?_
  intro K6 hK6
  refine ct ?_
  refine wp_skip ?_
  refine hK6 _ _ ?_
  refine wp_seq_k ?_
  intro K7 hK7
  refine wp_block ?_
  refine wp_seq_k ?_
  intro K8 hK8
  refine rg [0, 1, 2] ?_
  refine sq ?_
  refine .r0 ?_
  refine sq ?_
  refine .r1 (hx.cell 0 rfl) ?_
  refine sq ?_
  refine .mv ?_
  apply wpSq_end
  refine hK8 _ _ ?_
  refine wp_seq_k ?_
  intro K9 hK9
  refine rg [0, 1, 2] ?_
  refine sq ?_
  refine .mv ?_
  refine sq ?_
  refine .mv ?_
  refine sq ?_
  refine .r0 ?_
  apply wpSq_end
  refine hK9 _ _ ?_
  refine cf ?_
  refine wp_skip ?_
  refine hK7 _ _ ?_
  refine rg [0, 1] ?_
  refine sq ?_
  refine .r0 ?_
  refine sq ?_
  refine .mv ?_
  apply wpSq_end
  show Code.wp _ _ _ _ _
  refine wp_seq_k ?_
  intro K10 hK10
  refine rg [0] ?_
  refine sq ?_
  refine .r0 ?_
  apply wpSq_end
  refine hK10 _ _ ?_
  refine wp_seq_k ?_
  intro K11 hK11
  refine ct ?_
  refine wp_skip ?_
  refine hK11 _ _ ?_
  refine wp_seq_k ?_
  intro K12 hK12
  refine wp_block ?_
  refine wp_seq_k ?_
  intro K13 hK13
  refine rg [0, 1, 2] ?_
  refine sq ?_
  refine .r0 ?_
  refine sq ?_
  refine .r1 (hx.cell 1 rfl) ?_
  refine sq ?_
  refine .mv ?_
  apply wpSq_end
  refine hK13 _ _ ?_
  refine wp_seq_k ?_
  intro K14 hK14
  refine rg [0, 1, 2] ?_
  refine sq ?_
  refine .mv ?_
  refine sq ?_
  refine .mv ?_
  refine sq ?_
  refine .r0 ?_
  apply wpSq_end
  refine hK14 _ _ ?_
  refine wp_cond_true (congrArg Value.bool (show _ = true from (by simpa using h2))) ?_
  refine wp_seq_k ?_
  intro K15 hK15
  refine rg [0, 1] ?_
  refine sq ?_
  refine .mv ?_
  refine sq ?_
  refine .mv ?_
  apply wpSq_end
  refine hK15 _ _ ?_
  refine wp_ret ?_
  try dsimp only [Exit.then, Exit.inBlock]
  refine bodyPost_ret (v := (.int .i64 b)) (by simp [results, Tryz.results43, go_sem]) rfl ?_
  have hb := hs.b
  exact ⟨rfl, hb⟩
set_option maxHeartbeats 4000000 in
set_option maxRecDepth 20000 in
theorem cmpOr_cz {p : Nat} {c : Int} (hx : Bs w p #[.int .i64 0, .int .i64 0, .int .i64 0] 3) :
    Calls Tryz.prog 43 #[.slice (some ⟨p, 0, none⟩) 3 3] w fun e w' => e = .returned (.int .i64 0) ∧ Below w.heap.size w w' := by
  go_enter Tryz.func43, Tryz.ntmps43
  have hs := St.nil w
  have lt_xx := hx.lt
  have hxz := hx
  refine wp_seq_k ?_
  intro K1 hK1
  refine rg [0] ?_
  refine sq ?_
  refine .mv ?_
  apply wpSq_end
  refine hK1 _ _ ?_
  refine wp_seq_k ?_
  intro K2 hK2
  refine rg [0] ?_
  refine sq ?_
  refine .mv ?_
  apply wpSq_end
  refine hK2 _ _ ?_
  refine wp_seq_k ?_
  intro K3 hK3
  refine wp_seq_k ?_
  intro K4 hK4
  refine rg [0, 1, 2] ?_
  refine sq ?_
  refine .mv ?_
  refine sq ?_
  refine .r0 ?_
  refine sq ?_
  refine .mv ?_
  apply wpSq_end
  refine hK4 _ _ ?_
  refine wp_block ?_
  refine wp_loop_rounds 4 ?_
  show Code.wp _ _ _ _ _
  refine wp_seq_k ?_
  intro K5 hK5
  refine rg [0] ?_
  refine sq ?_
  refine .r0 ?_
  apply wpSq_end
  refine hK5 _ _ ?_
  refine wp_seq_k ?_
  intro K6 hK6
  refine ct ?_
  refine wp_skip ?_
  refine hK6 _ _ ?_
  refine wp_seq_k ?_
  intro K7 hK7
  refine wp_block ?_
  refine wp_seq_k ?_
  intro K8 hK8
  refine rg [0, 1, 2] ?_
  refine sq ?_
  refine .r0 ?_
  refine sq ?_
  refine .r1 (hx.cell 0 rfl) ?_
  refine sq ?_
  refine .mv ?_
  apply wpSq_end
  refine hK8 _ _ ?_
  refine wp_seq_k ?_
  intro K9 hK9
  refine rg [0, 1, 2] ?_
  refine sq ?_
  refine .mv ?_
  refine sq ?_
  refine .mv ?_
  refine sq ?_
  refine .r0 ?_
  apply wpSq_end
  refine hK9 _ _ ?_
  refine cf ?_
  refine wp_skip ?_
  refine hK7 _ _ ?_
  refine rg [0, 1] ?_
  refine sq ?_
  refine .r0 ?_
  refine sq ?_
  refine .mv ?_
  apply wpSq_end
  show Code.wp _ _ _ _ _
  refine wp_seq_k ?_
  intro K10 hK10
  refine rg [0] ?_
  refine sq ?_
  refine .r0 ?_
  apply wpSq_end
  refine hK10 _ _ ?_
  refine wp_seq_k ?_
  intro K11 hK11
  refine ct ?_
  refine wp_skip ?_
  refine hK11 _ _ ?_
  refine wp_seq_k ?_
  intro K12 hK12
  refine wp_block ?_
  refine wp_seq_k ?_
  intro K13 hK13
  refine rg [0, 1, 2] ?_
  refine sq ?_
  refine .r0 ?_
  refine sq ?_
  refine .r1 (hx.cell 1 rfl) ?_
  refine sq ?_
  refine .mv ?_
  apply wpSq_end
  refine hK13 _ _ ?_
  refine wp_seq_k ?_
  intro K14 hK14
  refine rg [0, 1, 2] ?_
  refine sq ?_
  refine .mv ?_
  refine sq ?_
  refine .mv ?_
  refine sq ?_
  refine .r0 ?_
  apply wpSq_end
  refine hK14 _ _ ?_
  refine cf ?_
  refine wp_skip ?_
  refine hK12 _ _ ?_
  refine rg [0, 1] ?_
  refine sq ?_
  refine .r0 ?_
  refine sq ?_
  refine .mv ?_
  apply wpSq_end
  show Code.wp _ _ _ _ _
  refine wp_seq_k ?_
  intro K15 hK15
  refine rg [0] ?_
  refine sq ?_
  refine .r0 ?_
  apply wpSq_end
  refine hK15 _ _ ?_
  refine wp_seq_k ?_
  intro K16 hK16
  refine ct ?_
  refine wp_skip ?_
  refine hK16 _ _ ?_
  refine wp_seq_k ?_
  intro K17 hK17
  refine wp_block ?_
  refine wp_seq_k ?_
  intro K18 hK18
  refine rg [0, 1, 2] ?_
  refine sq ?_
  refine .r0 ?_
  refine sq ?_
  refine .r1 (hx.cell 2 rfl) ?_
  refine sq ?_
  refine .mv ?_
  apply wpSq_end
  refine hK18 _ _ ?_
  refine wp_seq_k ?_
  intro K19 hK19
  refine rg [0, 1, 2] ?_
  refine sq ?_
  refine .mv ?_
  refine sq ?_
  refine .mv ?_
  refine sq ?_
  refine .r0 ?_
  apply wpSq_end
  refine hK19 _ _ ?_
  refine cf ?_
  refine wp_skip ?_
  refine hK17 _ _ ?_
  refine rg [0, 1] ?_
  refine sq ?_
  refine .r0 ?_
  refine sq ?_
  refine .mv ?_
  apply wpSq_end
  show Code.wp _ _ _ _ _
  refine wp_seq_k ?_
  intro K20 hK20
  refine rg [0] ?_
  refine sq ?_
  refine .r0 ?_
  apply wpSq_end
  refine hK20 _ _ ?_
  refine wp_seq_k ?_
  intro K21 hK21
  refine cf ?_
  refine wp_exit ?_
  refine hK3 _ _ ?_
  refine wp_seq_k ?_
  intro K22 hK22
  refine rg [0, 1] ?_
  refine sq ?_
  refine .mv ?_
  refine sq ?_
  refine .mv ?_
  apply wpSq_end
  refine hK22 _ _ ?_
  refine wp_ret ?_
  try dsimp only [Exit.then, Exit.inBlock]
  refine bodyPost_ret (v := (.int .i64 0)) (by simp [results, Tryz.results43, go_sem]) rfl ?_
  have hb := hs.b
  exact ⟨rfl, hb⟩
set_option maxHeartbeats 4000000 in
set_option maxRecDepth 20000 in
theorem cmpOr_cn {p : Nat} {c : Int} (hx : Bs w p #[.int .i64 0, .int .i64 0, .int .i64 c] 3) (h3 : c ≠ 0) :
    Calls Tryz.prog 43 #[.slice (some ⟨p, 0, none⟩) 3 3] w fun e w' => e = .returned (.int .i64 c) ∧ Below w.heap.size w w' := by
  go_enter Tryz.func43, Tryz.ntmps43
  have hs := St.nil w
  have lt_xx := hx.lt
  have hxz := hx
  refine wp_seq_k ?_
  intro K1 hK1
  refine rg [0] ?_
  refine sq ?_
  refine .mv ?_
  apply wpSq_end
  refine hK1 _ _ ?_
  refine wp_seq_k ?_
  intro K2 hK2
  refine rg [0] ?_
  refine sq ?_
  refine .mv ?_
  apply wpSq_end
  refine hK2 _ _ ?_
  refine wp_seq_k ?_
  intro K3 hK3
  refine wp_seq_k ?_
  intro K4 hK4
  refine rg [0, 1, 2] ?_
  refine sq ?_
  refine .mv ?_
  refine sq ?_
  refine .r0 ?_
  refine sq ?_
  refine .mv ?_
  apply wpSq_end
  refine hK4 _ _ ?_
  refine wp_block ?_
  refine wp_loop_rounds 4 ?_
  show Code.wp _ _ _ _ _
  refine wp_seq_k ?_
  intro K5 hK5
  refine rg [0] ?_
  refine sq ?_
  refine .r0 ?_
  apply wpSq_end
  refine hK5 _ _ ?_
  refine wp_seq_k ?_
  intro K6 hK6
  refine ct ?_
  refine wp_skip ?_
  refine hK6 _ _ ?_
  refine wp_seq_k ?_
  intro K7 hK7
  refine wp_block ?_
  refine wp_seq_k ?_
  intro K8 hK8
  refine rg [0, 1, 2] ?_
  refine sq ?_
  refine .r0 ?_
  refine sq ?_
  refine .r1 (hx.cell 0 rfl) ?_
  refine sq ?_
  refine .mv ?_
  apply wpSq_end
  refine hK8 _ _ ?_
  refine wp_seq_k ?_
  intro K9 hK9
  refine rg [0, 1, 2] ?_
  refine sq ?_
  refine .mv ?_
  refine sq ?_
  refine .mv ?_
  refine sq ?_
  refine .r0 ?_
  apply wpSq_end
  refine hK9 _ _ ?_
  refine cf ?_
  refine wp_skip ?_
  refine hK7 _ _ ?_
  refine rg [0, 1] ?_
  refine sq ?_
  refine .r0 ?_
  refine sq ?_
  refine .mv ?_
  apply wpSq_end
  show Code.wp _ _ _ _ _
  refine wp_seq_k ?_
  intro K10 hK10
  refine rg [0] ?_
  refine sq ?_
  refine .r0 ?_
  apply wpSq_end
  refine hK10 _ _ ?_
  refine wp_seq_k ?_
  intro K11 hK11
  refine ct ?_
  refine wp_skip ?_
  refine hK11 _ _ ?_
  refine wp_seq_k ?_
  intro K12 hK12
  refine wp_block ?_
  refine wp_seq_k ?_
  intro K13 hK13
  refine rg [0, 1, 2] ?_
  refine sq ?_
  refine .r0 ?_
  refine sq ?_
  refine .r1 (hx.cell 1 rfl) ?_
  refine sq ?_
  refine .mv ?_
  apply wpSq_end
  refine hK13 _ _ ?_
  refine wp_seq_k ?_
  intro K14 hK14
  refine rg [0, 1, 2] ?_
  refine sq ?_
  refine .mv ?_
  refine sq ?_
  refine .mv ?_
  refine sq ?_
  refine .r0 ?_
  apply wpSq_end
  refine hK14 _ _ ?_
  refine cf ?_
  refine wp_skip ?_
  refine hK12 _ _ ?_
  refine rg [0, 1] ?_
  refine sq ?_
  refine .r0 ?_
  refine sq ?_
  refine .mv ?_
  apply wpSq_end
  show Code.wp _ _ _ _ _
  refine wp_seq_k ?_
  intro K15 hK15
  refine rg [0] ?_
  refine sq ?_
  refine .r0 ?_
  apply wpSq_end
  refine hK15 _ _ ?_
  refine wp_seq_k ?_
  intro K16 hK16
  refine ct ?_
  refine wp_skip ?_
  refine hK16 _ _ ?_
  refine wp_seq_k ?_
  intro K17 hK17
  refine wp_block ?_
  refine wp_seq_k ?_
  intro K18 hK18
  refine rg [0, 1, 2] ?_
  refine sq ?_
  refine .r0 ?_
  refine sq ?_
  refine .r1 (hx.cell 2 rfl) ?_
  refine sq ?_
  refine .mv ?_
  apply wpSq_end
  refine hK18 _ _ ?_
  refine wp_seq_k ?_
  intro K19 hK19
  refine rg [0, 1, 2] ?_
  refine sq ?_
  refine .mv ?_
  refine sq ?_
  refine .mv ?_
  refine sq ?_
  refine .r0 ?_
  apply wpSq_end
  refine hK19 _ _ ?_
  refine wp_cond_true (congrArg Value.bool (show _ = true from (by simpa using h3))) ?_
  refine wp_seq_k ?_
  intro K20 hK20
  refine rg [0, 1] ?_
  refine sq ?_
  refine .mv ?_
  refine sq ?_
  refine .mv ?_
  apply wpSq_end
  refine hK20 _ _ ?_
  refine wp_ret ?_
  try dsimp only [Exit.then, Exit.inBlock]
  refine bodyPost_ret (v := (.int .i64 c)) (by simp [results, Tryz.results43, go_sem]) rfl ?_
  have hb := hs.b
  exact ⟨rfl, hb⟩
theorem cmpOr_any {p : Nat} {a b c : Int} (hx : Bs w p #[.int .i64 a, .int .i64 b, .int .i64 c] 3) :
    Calls Tryz.prog 43 #[.slice (some ⟨p, 0, none⟩) 3 3] w fun e w' => e = .returned (.int .i64 (or3 a b c)) ∧ Below w.heap.size w w' := by
  unfold or3
  by_cases h1 : a = 0
  · subst h1
    rw [if_neg (by simp)]
    by_cases h2 : b = 0
    · subst h2
      rw [if_neg (by simp)]
      by_cases h3 : c = 0
      · subst h3; exact cmpOr_cz (c := 0) hx
      · exact cmpOr_cn hx h3
    · rw [if_pos h2]; exact cmpOr_b hx h2
  · rw [if_pos h1]; exact cmpOr_a hx h1
set_option maxHeartbeats 4000000 in
set_option maxRecDepth 20000 in
theorem gCmp_any (ha : PN w va x l y m) (hq : PN w vb u k v n) (hl : l ≤ 40000000) (hm : m ≤ 40000000) (hk : k ≤ 40000000) (hn : n ≤ 40000000) :
    Calls Tryz.prog 17 #[va, vb] w fun e w' => e = .returned (.int .i64 (gcmp x y u v)) ∧ Below w.heap.size w w' := by
  obtain ⟨A, hA⟩ : ∃ A, zcmp (gN x y) (gN u v) = A := ⟨_, rfl⟩
  obtain ⟨B, hB⟩ : ∃ B, zcmp x u = B := ⟨_, rfl⟩
  obtain ⟨C, hC⟩ : ∃ C, zcmp y v = C := ⟨_, rfl⟩
  have HA := hide hA
  have HB := hide hB
  have HC := hide hC
  obtain ⟨R, hR⟩ : ∃ R, or3 A B C = R := ⟨_, rfl⟩
  have HR := hide hR
  have E : gcmp x y u v = R := by unfold gcmp; rw [hA, hB, hC, hR]
  rw [E]
  clear hA hB hC hR E
  obtain ⟨n_0a, o_0a, k_0a, c_0a, n_0b, o_0b, k_0b, c_0b, rfl, ha1, ha2⟩ := ha
  obtain ⟨n_1a, o_1a, k_1a, c_1a, n_1b, o_1b, k_1b, c_1b, rfl, hq1, hq2⟩ := hq
  go_enter Tryz.func17, Tryz.ntmps17
  have hs := St.nil w
  refine wp_seq_k ?_
  intro K1 hK1
  refine rg [0, 1, 2] ?_
  refine sq ?_
  refine .al hs ?_; clear hs; intro p_b1 w_1 hs n1 kb_b1
  refine sq ?_
  refine .al hs ?_; clear hs; intro p_b2 w_2 hs n2 kb_b2
  refine sq ?_
  refine .mv ?_
  apply wpSq_end
  refine hK1 _ _ ?_
  refine wp_seq_k ?_
  intro K2 hK2
  refine wp_region_f4 [(0, false), (2, false), (5, false), (6, false), (7, false), (8, false), (10, false), (11, false), (12, false), (13, false), (1, true), (3, true), (4, true), (9, true), (14, true), (15, true), (16, true), (17, false)] [] [] (fun _ => default) [0, 99, 1, 99, 99, 99, 0, 99, 1, 99, 99, 0, 99, 1, 99, 99, 99, 99] [] (.c hs.g1 (.c hs.g0 .n)) fn fun w_3 n3 => ?_
  replace hs := hs.bl n3
  refine f4 ?_
  refine f4 ?_
  refine f0 ?_
  refine f4 ?_
  refine f0 ?_
  refine f4 ?_
  refine f0 ?_
  refine f4 ?_
  refine f0 ?_
  refine f4 ?_
  refine fl fun w_4 n4 => ?_
  replace hs := hs.bl n4
  intro K hK
  have k0_4 := (((kb n1).b n2).b n3).b n4
  replace ha1 := ha1.k k0_4
  replace ha2 := ha2.k k0_4
  go_big_op
  go_fit (gNorm_any (PN.mk' ha1 ha2) (by omega) (by omega) )
  rintro e w_5 ⟨v_g, rfl, g, hb_5⟩
  replace hs := hs.bl hb_5
  obtain ⟨n_g, o_g, k_g, c_g, rfl⟩ := g.open2
  have Lg := hide (g.lenOf (zlen_add (zlen_mul (ha1.len) (ha1.len)) (zlen_mul (ha2.len) (ha2.len))))
  refine hK _ _ rfl ⟨hb_5, (And.intro hs.g1 (And.intro hs.g0 trivial))⟩ ?_
  clear hK K
  refine fl fun w_6 n6 => ?_
  replace hs := hs.bl n6
  intro K hK
  have k0_6 := (k0_4.b hb_5).b n6
  replace hq1 := hq1.k k0_6
  replace hq2 := hq2.k k0_6
  go_big_op
  go_fit (gNorm_any (PN.mk' hq1 hq2) (by omega) (by omega) )
  rintro e w_7 ⟨v_h, rfl, h, hb_7⟩
  replace hs := hs.bl hb_7
  obtain ⟨n_h, o_h, k_h, c_h, rfl⟩ := h.open2
  have Lh := hide (h.lenOf (zlen_add (zlen_mul (hq1.len) (hq1.len)) (zlen_mul (hq2.len) (hq2.len))))
  refine hK _ _ rfl ⟨hb_7, (And.intro hs.g1 (And.intro hs.g0 trivial))⟩ ?_
  clear hK K
  refine fl fun w_8 n8 => ?_
  replace hs := hs.bl n8
  intro K hK
  have k5_8 := ((kb n6).b hb_7).b n8
  replace g := g.k k5_8
  have k7_8 := kb n8
  replace h := h.k k7_8
  go_big_op
  go_fit (zcmp_any (g.zn Lg.out) (h.zn Lh.out) (by omega) (by omega))
  rintro e w_9 ⟨rfl, hb_9⟩
  replace hs := hs.bl hb_9
  rw [HA.out]
  refine hK _ _ rfl ⟨hb_9, (And.intro hs.g1 (And.intro hs.g0 trivial))⟩ ?_
  clear hK K
  refine fl fun w_10 n10 => ?_
  replace hs := hs.bl n10
  intro K hK
  have k4_10 := (((((kb hb_5).b n6).b hb_7).b n8).b hb_9).b n10
  replace ha1 := ha1.k k4_10
  have k6_10 := (((kb hb_7).b n8).b hb_9).b n10
  replace hq1 := hq1.k k6_10
  go_big_op
  go_fit (zcmp_any ha1 hq1 (by omega) (by omega))
  rintro e w_11 ⟨rfl, hb_11⟩
  replace hs := hs.bl hb_11
  rw [HB.out]
  refine hK _ _ rfl ⟨hb_11, (And.intro hs.g1 (And.intro hs.g0 trivial))⟩ ?_
  clear hK K
  refine fl fun w_12 n12 => ?_
  replace hs := hs.bl n12
  intro K hK
  have k4_12 := (k4_10.b hb_11).b n12
  replace ha2 := ha2.k k4_12
  have k6_12 := (k6_10.b hb_11).b n12
  replace hq2 := hq2.k k6_12
  go_big_op
  go_fit (zcmp_any ha2 hq2 (by omega) (by omega))
  rintro e w_13 ⟨rfl, hb_13⟩
  replace hs := hs.bl hb_13
  rw [HC.out]
  refine hK _ _ rfl ⟨hb_13, (And.intro hs.g1 (And.intro hs.g0 trivial))⟩ ?_
  clear hK K
  refine fl fun w_14 n14 => ?_
  replace hs := hs.bl n14
  refine .al hs ?_ (e := fun _ _ hs n => ⟨n, (And.intro hs.g2 (And.intro hs.g1 trivial))⟩); clear hs; intro p_b3 w_15 hs n15 kb_b3
  refine fl fun w_16 n16 => ?_
  replace hs := hs.bl n16
  intro K hK
  have x_b3 := hs.g0
  go_big_op
  go_fit (cmpOr_any x_b3)
  rintro e w_17 ⟨rfl, hb_17⟩
  clear x_b3
  replace hs := hs.bl hb_17
  rw [HR.out]
  refine hK _ _ rfl ⟨hb_17, (And.intro hs.g2 (And.intro hs.g1 trivial))⟩ ?_
  clear hK K
  refine fmv ?_
  refine e0 hs ?_; clear hs; intro w_18 hs n18
  apply wpTail_end
  refine hK2 _ _ ?_
  refine wp_ret ?_
  try dsimp only [Exit.then, Exit.inBlock]
  refine bodyPost_ret (v := (.int .i64 R)) (by simp [results, Tryz.results17, go_sem]) rfl ?_
  have hb := hs.b
  exact ⟨rfl, hb⟩
theorem bits_zero {n : Nat} : bitsN n = 0 ↔ n = 0 := bitsN_zero
theorem bits_bd {A l : Nat} (h : A < pw l) : bitsN A ≤ 32 * l := by
  rcases Nat.eq_zero_or_pos A with h0 | h0
  · rw [h0]; exact Nat.zero_le _
  · have h3 := bitsN_le (Nat.ne_of_gt h0)
    rw [pw_eq] at h
    have h4 := (Nat.pow_lt_pow_iff_right (by decide : 1 < 2)).1 (Nat.lt_of_le_of_lt h3 h)
    omega
end
/-- How many digits the longer part has. -/
def gdig (x y : Int) : Nat := (max (bitsN x.natAbs) (bitsN y.natAbs) + 31) / 32
/-- Does a rest lie far inside the square? -/
def far (x y u v : Int) : Prop := ((gT1 x y u v + gT1 x y u v).natAbs : Int) < gN u v - tp (gN u v) 1 ∧ ((gT2 x y u v + gT2 x y u v).natAbs : Int) < gN u v - tp (gN u v) 1
theorem pow_pw (k : Nat) : 2 ^ (32 * k) = pw k := (pw_eq k).symm
theorem gdig_top {x y : Int} : x.natAbs < pw (gdig x y) ∧ y.natAbs < pw (gdig x y) := by
  have h1 := bitsN_lt x.natAbs
  have h2 := bitsN_lt y.natAbs
  have h3 : bitsN x.natAbs ≤ 32 * gdig x y := by unfold gdig; omega
  have h4 : bitsN y.natAbs ≤ 32 * gdig x y := by unfold gdig; omega
  rw [← pow_pw]
  exact ⟨Nat.lt_of_lt_of_le h1 (Nat.pow_le_pow_right (by decide) h3), Nat.lt_of_lt_of_le h2 (Nat.pow_le_pow_right (by decide) h4)⟩
theorem gdig_low {x y : Int} (h : 0 < gdig x y) : pw (gdig x y - 1) ≤ x.natAbs ∨ pw (gdig x y - 1) ≤ y.natAbs := by
  have key : ∀ n : Nat, 32 * (gdig x y - 1) < bitsN n → pw (gdig x y - 1) ≤ n := by
    intro n hn
    have h0 : n ≠ 0 := fun c => by rw [c, bits_zero.2 rfl] at hn; omega
    rw [← pow_pw]
    exact Nat.le_trans (Nat.pow_le_pow_right (by decide) (by omega)) (bitsN_le h0)
  have : 32 * (gdig x y - 1) < max (bitsN x.natAbs) (bitsN y.natAbs) := by unfold gdig at h ⊢; omega
  rcases Nat.le_total (bitsN x.natAbs) (bitsN y.natAbs) with hc | hc
  · rw [Nat.max_eq_right hc] at this; exact .inr (key _ this)
  · rw [Nat.max_eq_left hc] at this; exact .inl (key _ this)
theorem tp_abs (x : Int) (k : Nat) : (tp x k).natAbs = x.natAbs / pw k := by
  unfold tp
  generalize x.natAbs / pw k = q
  split <;> omega
section
variable {w : World} {va vb : Value} {x y u v : Int} {l m k n : Nat}
set_option maxHeartbeats 4000000 in
set_option maxRecDepth 20000 in
theorem gdigits_any (ha : PN w va x l y m) (hl : l ≤ 100000000) (hm : m ≤ 100000000) :
    Calls Tryz.prog 72 #[va] w fun e w' => e = .returned (.int .i64 ((gdig x y : Nat) : Int)) ∧ Below w.heap.size w w' := by
  have h1 := bits_bd (Nat.lt_of_lt_of_le (lt_pw_dig x.natAbs) (pw_mono ha.len1))
  have h2 := bits_bd (Nat.lt_of_lt_of_le (lt_pw_dig y.natAbs) (pw_mono ha.len2))
  obtain ⟨A, hA⟩ : ∃ A, bitsN x.natAbs = A := ⟨_, rfl⟩
  obtain ⟨B, hB⟩ : ∃ B, bitsN y.natAbs = B := ⟨_, rfl⟩
  have e : gdig x y = (max A B + 31) / 32 := by unfold gdig; rw [hA, hB]
  rw [hA] at h1
  rw [hB] at h2
  have HA := hide hA
  have HB := hide hB
  obtain ⟨M, hM⟩ : ∃ M, max A B = M := ⟨_, rfl⟩
  have hmx : max (A : Int) (B : Int) = (M : Int) := by omega
  have hM2 : M ≤ 32000000000 := by omega
  obtain ⟨D, hD⟩ : ∃ D, (M + 31) / 32 = D := ⟨_, rfl⟩
  have hd : ((M : Int) + 31) / 32 = (D : Int) := by omega
  have hd2 : Int.tdiv ((M : Int) + 31) 32 = (D : Int) := by rw [Int.tdiv_eq_ediv_of_nonneg (by omega)]; exact hd
  have hD2 : D ≤ 32000000000 := by omega
  have e2 : gdig x y = D := by rw [e, hM, hD]
  rw [e2]
  clear hA hB e e2 h1 h2 hM hD
  obtain ⟨n_0a, o_0a, k_0a, c_0a, n_0b, o_0b, k_0b, c_0b, rfl, ha1, ha2⟩ := ha
  go_enter Tryz.func72, Tryz.ntmps72
  have hs := St.nil w
  refine wp_seq_k ?_
  intro K1 hK1
  refine rg [0, 1] ?_
  refine sq ?_
  refine .al hs ?_; clear hs; intro p_b1 w_1 hs n1 kb_b1
  refine sq ?_
  refine .mv ?_
  apply wpSq_end
  refine hK1 _ _ ?_
  refine wp_seq_k ?_
  intro K2 hK2
  refine wp_region_f4 [(0, false), (1, false), (3, false), (4, false), (2, true), (5, true), (6, true), (7, false), (8, false), (9, false)] [] [] (fun _ => default) [99, 0, 99, 99, 0, 99, 99, 99, 99, 99] [] (.c hs.g0 .n) fn fun w_2 n2 => ?_
  replace hs := hs.bl n2
  refine f0 ?_
  refine f4 ?_
  refine f0 ?_
  refine f4 ?_
  refine fl fun w_3 n3 => ?_
  replace hs := hs.bl n3
  intro K hK
  have k0_3 := ((kb n1).b n2).b n3
  replace ha1 := ha1.k k0_3
  go_big_op
  go_fit (zbits_any ha1 (by omega) )
  rintro e w_4 ⟨rfl, hb_4⟩
  replace hs := hs.bl hb_4
  rw [HA.out]
  refine hK _ _ rfl ⟨hb_4, (And.intro hs.g0 trivial)⟩ ?_
  clear hK K
  refine fl fun w_5 n5 => ?_
  replace hs := hs.bl n5
  intro K hK
  have k0_5 := (k0_3.b hb_4).b n5
  replace ha2 := ha2.k k0_5
  go_big_op
  go_fit (zbits_any ha2 (by omega) )
  rintro e w_6 ⟨rfl, hb_6⟩
  replace hs := hs.bl hb_6
  rw [HB.out]
  refine hK _ _ rfl ⟨hb_6, (And.intro hs.g0 trivial)⟩ ?_
  clear hK K
  refine fl fun w_7 n7 => ?_
  replace hs := hs.bl n7
  refine .r0 ?_ (e := ⟨Below.refl _ _, (And.intro hs.g0 trivial)⟩)
  refine f0 ?_
  refine f0 ?_
  refine fmv ?_
  refine e0 hs ?_; clear hs; intro w_8 hs n8
  apply wpTail_end
  refine hK2 _ _ ?_
  refine wp_ret ?_
  try dsimp only [Exit.then, Exit.inBlock]
  refine bodyPost_ret (v := (.int .i64 (D : Int))) (by simp [results, Tryz.results72, go_sem]) rfl ?_
  have hb := hs.b
  exact ⟨rfl, hb⟩
set_option maxHeartbeats 4000000 in
set_option maxRecDepth 20000 in
theorem far_yes (ha : PN w va x l y m) (hq : PN w vb u k v n) (hl : l ≤ 20000000) (hm : m ≤ 20000000) (hk : k ≤ 20000000) (hn : n ≤ 20000000) (h1 : ((gT1 x y u v + gT1 x y u v).natAbs : Int) < gN u v - tp (gN u v) 1) (h2 : ((gT2 x y u v + gT2 x y u v).natAbs : Int) < gN u v - tp (gN u v) 1) :
    Calls Tryz.prog 74 #[va, vb] w fun e w' => e = .returned (.bool true) ∧ Below w.heap.size w w' := by
  have HC1 := hide (zcmp_lt h1)
  have HC2 := hide (zcmp_lt h2)
  clear h1 h2
  obtain ⟨n_0a, o_0a, k_0a, c_0a, n_0b, o_0b, k_0b, c_0b, rfl, ha1, ha2⟩ := ha
  obtain ⟨n_1a, o_1a, k_1a, c_1a, n_1b, o_1b, k_1b, c_1b, rfl, hq1, hq2⟩ := hq
  go_enter Tryz.func74, Tryz.ntmps74
  have hs := St.nil w
  refine wp_seq_k ?_
  intro K1 hK1
  refine rg [0, 1, 2] ?_
  refine sq ?_
  refine .al hs ?_; clear hs; intro p_b1 w_1 hs n1 kb_b1
  refine sq ?_
  refine .al hs ?_; clear hs; intro p_b2 w_2 hs n2 kb_b2
  refine sq ?_
  refine .mv ?_
  apply wpSq_end
  refine hK1 _ _ ?_
  refine wp_seq_k ?_
  intro K2 hK2
  refine rg [0, 1, 2, 3, 4, 5, 6, 7, 8, 9] ?_
  refine sq ?_
  refine .r4 hs.g1.f4 ?_
  refine sq ?_
  refine .r4 hs.g0.f4 ?_
  refine sq ?_
  intro K hK
  have k0_2 := (kb n1).b n2
  replace ha1 := ha1.k k0_2
  replace ha2 := ha2.k k0_2
  replace hq1 := hq1.k k0_2
  replace hq2 := hq2.k k0_2
  go_big_op
  go_fit (overNorm_any (PN.mk' ha1 ha2) (PN.mk' hq1 hq2) (by omega) (by omega) (by omega) (by omega) )
  rintro e w_3 ⟨_, v_g2, rfl, ⟨n_g1a, o_g1a, k_g1a, c_g1a, n_g1b, o_g1b, k_g1b, c_g1b, rfl, g11, g12⟩, g2, hb_3⟩
  replace hs := hs.bl hb_3
  obtain ⟨n_g2, o_g2, k_g2, c_g2, rfl⟩ := g2.open2
  have Lg11 := hide (g11.lenOf (zlen_gT1 (ha1.len) (ha2.len) (hq1.len) (hq2.len)))
  have Lg12 := hide (g12.lenOf (zlen_gT2 (ha1.len) (ha2.len) (hq1.len) (hq2.len)))
  have Lg2 := hide (g2.lenOf (zlen_gN (hq1.len) (hq2.len)))
  refine hK _ _ rfl trivial ?_
  clear hK K
  refine sq ?_
  refine .mv ?_
  refine sq ?_
  refine .r0 ?_
  refine sq ?_
  refine .r0 ?_
  refine sq ?_
  refine .al hs ?_; clear hs; intro p_b3 w_4 hs n4 kb_b3
  refine sq ?_
  refine .al hs ?_; clear hs; intro p_b4 w_5 hs n5 kb_b4
  refine sq ?_
  refine .s4 hs.g1 (fun _ => hs.u1 kb_b3) ?_; clear hs; intro w_6 hs hd6 ho6
  refine sq ?_
  refine .s2 hs.g0 (fun _ => hs.u0 kb_b4) ?_; clear hs; intro w_7 hs hd7 ho7
  apply wpSq_end
  refine hK2 _ _ ?_
  refine wp_seq_k ?_
  intro K3 hK3
  refine wp_region_f4 [(0, false), (1, false), (2, true), (3, true)] [4] [] (fun _ => default) [0, 0, 99, 99, 99] [(4, 0)] (.c hs.g0 .n) fn fun w_8 n8 => ?_
  replace hs := hs.bl n8
  refine f2 ?_
  refine f2 ?_
  refine fl fun w_9 n9 => ?_
  replace hs := hs.bl n9
  intro K hK
  have k3_9 := (((((kb n4).b n5).o hd6 ho6).o hd7 ho7).b n8).b n9
  replace g2 := g2.k k3_9
  go_big_op
  go_fit (topOf_any 1 (g2.zn Lg2.out) (by omega) (by decide))
  rintro e w_10 ⟨v_g3, rfl, g3, hb_10⟩
  replace hs := hs.bl hb_10
  obtain ⟨n_g3, o_g3, k_g3, c_g3, rfl⟩ := g3.open2
  refine hK _ _ rfl ⟨hb_10, (And.intro hs.g0 trivial)⟩ ?_
  clear hK K
  refine fl fun w_11 n11 => ?_
  replace hs := hs.bl n11
  intro K hK
  have k9_11 := (kb hb_10).b n11
  replace g2 := g2.k k9_11
  have k10_11 := kb n11
  replace g3 := g3.k k10_11
  go_big_op
  go_fit (zsub_any (g2.zn Lg2.out) g3 (by omega) (by omega) )
  rintro e w_12 ⟨v_g4, rfl, g4, hb_12⟩
  replace hs := hs.bl hb_12
  replace g4 := g4.rd
  obtain ⟨n_g4, o_g4, k_g4, c_g4, rfl⟩ := g4.open2
  have Lg4 := hide (g4.lenOf (zlen_sub (Lg2.out) (g3.len)))
  refine hK _ _ rfl ⟨hb_12, (And.intro hs.g0 trivial)⟩ ?_
  clear hK K
  refine e0 hs ?_; clear hs; intro w_13 hs n13
  refine tl ?_
  refine .s2 hs.g0 (fun _ => hs.u0 kb_b4) ?_ (e := fun _ hs => (And.intro True.intro True.intro)); clear hs; intro w_14 hs hd14 ho14
  clear ha1 ha2 hq1 hq2 g3 g2
  apply wpTail_end
  refine hK3 _ _ ?_
  refine wp_seq_k ?_
  intro K4 hK4
  refine wp_seq_k ?_
  intro K5 hK5
  refine rg [0, 1, 2, 3, 4, 5, 6] ?_
  refine sq ?_
  refine .r0 ?_
  refine sq ?_
  refine .r4 hs.g1.f4 ?_
  refine sq ?_
  refine .r0 ?_
  refine sq ?_
  refine .r4 hs.g1.f4 ?_
  refine sq ?_
  refine .al hs ?_; clear hs; intro p_b5 w_15 hs n15 kb_b5
  refine sq ?_
  refine .r0 ?_
  refine sq ?_
  refine .mv ?_
  apply wpSq_end
  refine hK5 _ _ ?_
  refine wp_block ?_
  refine wp_loop_rounds 3 ?_
  show Code.wp _ _ _ _ _
  refine wp_seq_k ?_
  intro K6 hK6
  refine rg [0] ?_
  refine sq ?_
  refine .r0 ?_
  apply wpSq_end
  refine hK6 _ _ ?_
  refine wp_seq_k ?_
  intro K7 hK7
  refine ct ?_
  refine wp_skip ?_
  refine hK7 _ _ ?_
  refine wp_seq_k ?_
  intro K8 hK8
  refine wp_block ?_
  refine wp_seq_k ?_
  intro K9 hK9
  refine rg [0, 1, 2, 3] ?_
  refine sq ?_
  refine .r0 ?_
  refine sq ?_
  refine .r4 hs.g0.f4 ?_
  refine sq ?_
  refine .al hs ?_; clear hs; intro p_b6 w_16 hs n16 kb_b6
  refine sq ?_
  refine .s2 hs.g0 (fun _ => hs.u0 kb_b6) ?_; clear hs; intro w_17 hs hd17 ho17
  apply wpSq_end
  refine hK9 _ _ ?_
  refine wp_seq_k ?_
  intro K10 hK10
  refine wp_region_f4 [(0, false), (1, false), (4, false), (2, true), (3, true), (5, true), (6, false)] [] [] (fun _ => default) [0, 0, 99, 99, 1, 99, 99] [] (.c hs.g0 (.c hs.g2 .n)) fn fun w_18 n18 => ?_
  replace hs := hs.bl n18
  refine f2 ?_
  refine f2 ?_
  refine f2 ?_
  refine fl fun w_19 n19 => ?_
  replace hs := hs.bl n19
  intro K hK
  have k3_19 := (((((((((k3_9.b hb_10).b n11).b hb_12).b n13).o hd14 ho14).b n15).b n16).o hd17 ho17).b n18).b n19
  replace g11 := g11.k k3_19
  go_big_op
  go_fit (zadd_any (g11.zn Lg11.out) (g11.zn Lg11.out) (by omega) (by omega) )
  rintro e w_20 ⟨v_g5, rfl, g5, hb_20⟩
  replace hs := hs.bl hb_20
  replace g5 := g5.rd
  obtain ⟨n_g5, o_g5, k_g5, c_g5, rfl⟩ := g5.open2
  have Lg5 := hide (g5.lenOf (zlen_add (Lg11.out) (Lg11.out)))
  refine hK _ _ rfl ⟨hb_20, (And.intro hs.g0 (And.intro hs.g2 trivial))⟩ ?_
  clear hK K
  refine fl fun w_21 n21 => ?_
  replace hs := hs.bl n21
  intro K hK
  have k20_21 := kb n21
  replace g5 := g5.k k20_21
  go_big_op
  go_fit (zabs_any (g5.zn Lg5.out) (by omega) )
  rintro e w_22 ⟨v_g6, rfl, g6, hb_22⟩
  replace hs := hs.bl hb_22
  replace g6 := g6.rd
  obtain ⟨n_g6, o_g6, k_g6, c_g6, rfl⟩ := g6.open2
  have Lg6 := hide (g6.lenOf (zlen_abs (Lg5.out)))
  refine hK _ _ rfl ⟨hb_22, (And.intro hs.g0 (And.intro hs.g2 trivial))⟩ ?_
  clear hK K
  refine fl fun w_23 n23 => ?_
  replace hs := hs.bl n23
  intro K hK
  have k22_23 := kb n23
  replace g6 := g6.k k22_23
  have k12_23 := ((((((((((kb n13).o hd14 ho14).b n15).b n16).o hd17 ho17).b n18).b n19).b hb_20).b n21).b hb_22).b n23
  replace g4 := g4.k k12_23
  go_big_op
  go_fit (zcmp_any (g6.zn Lg6.out) (g4.zn Lg4.out) (by omega) (by omega) )
  rintro e w_24 ⟨rfl, hb_24⟩
  replace hs := hs.bl hb_24
  rw [HC1.out]
  refine hK _ _ rfl ⟨hb_24, (And.intro hs.g0 (And.intro hs.g2 trivial))⟩ ?_
  clear hK K
  refine f0 ?_
  refine e0 hs ?_; clear hs; intro w_25 hs n25
  apply wpTail_end
  refine hK10 _ _ ?_
  refine cf ?_
  refine wp_skip ?_
  refine hK8 _ _ ?_
  refine rg [0, 1] ?_
  refine sq ?_
  refine .r0 ?_
  refine sq ?_
  refine .mv ?_
  apply wpSq_end
  show Code.wp _ _ _ _ _
  refine wp_seq_k ?_
  intro K11 hK11
  refine rg [0] ?_
  refine sq ?_
  refine .r0 ?_
  apply wpSq_end
  refine hK11 _ _ ?_
  refine wp_seq_k ?_
  intro K12 hK12
  refine ct ?_
  refine wp_skip ?_
  refine hK12 _ _ ?_
  refine wp_seq_k ?_
  intro K13 hK13
  refine wp_block ?_
  refine wp_seq_k ?_
  intro K14 hK14
  refine rg [0, 1, 2, 3] ?_
  refine sq ?_
  refine .r0 ?_
  refine sq ?_
  refine .r4 hs.g1.f4 ?_
  refine sq ?_
  refine .al hs ?_; clear hs; intro p_b7 w_26 hs n26 kb_b7
  refine sq ?_
  refine .s2 hs.g0 (fun _ => hs.u0 kb_b7) ?_; clear hs; intro w_27 hs hd27 ho27
  apply wpSq_end
  refine hK14 _ _ ?_
  refine wp_seq_k ?_
  intro K15 hK15
  refine wp_region_f4 [(0, false), (1, false), (4, false), (2, true), (3, true), (5, true), (6, false)] [] [] (fun _ => default) [0, 0, 99, 99, 1, 99, 99] [] (.c hs.g0 (.c hs.g3 .n)) fn fun w_28 n28 => ?_
  replace hs := hs.bl n28
  refine f2 ?_
  refine f2 ?_
  refine f2 ?_
  refine fl fun w_29 n29 => ?_
  replace hs := hs.bl n29
  intro K hK
  have k3_29 := (((((((((k3_19.b hb_20).b n21).b hb_22).b n23).b hb_24).b n25).b n26).o hd27 ho27).b n28).b n29
  replace g12 := g12.k k3_29
  go_big_op
  go_fit (zadd_any (g12.zn Lg12.out) (g12.zn Lg12.out) (by omega) (by omega) )
  rintro e w_30 ⟨v_g7, rfl, g7, hb_30⟩
  replace hs := hs.bl hb_30
  replace g7 := g7.rd
  obtain ⟨n_g7, o_g7, k_g7, c_g7, rfl⟩ := g7.open2
  have Lg7 := hide (g7.lenOf (zlen_add (Lg12.out) (Lg12.out)))
  refine hK _ _ rfl ⟨hb_30, (And.intro hs.g0 (And.intro hs.g3 trivial))⟩ ?_
  clear hK K
  refine fl fun w_31 n31 => ?_
  replace hs := hs.bl n31
  intro K hK
  have k30_31 := kb n31
  replace g7 := g7.k k30_31
  go_big_op
  go_fit (zabs_any (g7.zn Lg7.out) (by omega) )
  rintro e w_32 ⟨v_g8, rfl, g8, hb_32⟩
  replace hs := hs.bl hb_32
  replace g8 := g8.rd
  obtain ⟨n_g8, o_g8, k_g8, c_g8, rfl⟩ := g8.open2
  have Lg8 := hide (g8.lenOf (zlen_abs (Lg7.out)))
  refine hK _ _ rfl ⟨hb_32, (And.intro hs.g0 (And.intro hs.g3 trivial))⟩ ?_
  clear hK K
  refine fl fun w_33 n33 => ?_
  replace hs := hs.bl n33
  intro K hK
  have k32_33 := kb n33
  replace g8 := g8.k k32_33
  have k23_33 := (((((((((kb hb_24).b n25).b n26).o hd27 ho27).b n28).b n29).b hb_30).b n31).b hb_32).b n33
  replace g4 := g4.k k23_33
  go_big_op
  go_fit (zcmp_any (g8.zn Lg8.out) (g4.zn Lg4.out) (by omega) (by omega) )
  rintro e w_34 ⟨rfl, hb_34⟩
  replace hs := hs.bl hb_34
  rw [HC2.out]
  refine hK _ _ rfl ⟨hb_34, (And.intro hs.g0 (And.intro hs.g3 trivial))⟩ ?_
  clear hK K
  refine f0 ?_
  refine e0 hs ?_; clear hs; intro w_35 hs n35
  apply wpTail_end
  refine hK15 _ _ ?_
  refine cf ?_
  refine wp_skip ?_
  refine hK13 _ _ ?_
  refine rg [0, 1] ?_
  refine sq ?_
  refine .r0 ?_
  refine sq ?_
  refine .mv ?_
  apply wpSq_end
  show Code.wp _ _ _ _ _
  refine wp_seq_k ?_
  intro K16 hK16
  refine rg [0] ?_
  refine sq ?_
  refine .r0 ?_
  apply wpSq_end
  refine hK16 _ _ ?_
  refine wp_seq_k ?_
  intro K17 hK17
  refine cf ?_
  refine wp_exit ?_
  refine hK4 _ _ ?_
  refine wp_seq_k ?_
  intro K18 hK18
  refine rg [0] ?_
  refine sq ?_
  refine .mv ?_
  apply wpSq_end
  refine hK18 _ _ ?_
  refine wp_ret ?_
  try dsimp only [Exit.then, Exit.inBlock]
  refine bodyPost_ret (v := (.bool true)) (by simp [results, Tryz.results74, go_sem]) rfl ?_
  have hb := hs.b
  exact ⟨rfl, hb⟩
set_option maxHeartbeats 4000000 in
set_option maxRecDepth 20000 in
theorem far_no1 (ha : PN w va x l y m) (hq : PN w vb u k v n) (hl : l ≤ 20000000) (hm : m ≤ 20000000) (hk : k ≤ 20000000) (hn : n ≤ 20000000) (h1 : ¬ ((gT1 x y u v + gT1 x y u v).natAbs : Int) < gN u v - tp (gN u v) 1) :
    Calls Tryz.prog 74 #[va, vb] w fun e w' => e = .returned (.bool false) ∧ Below w.heap.size w w' := by
  have hg1 := zcmp_ge (Int.not_lt.1 h1)
  obtain ⟨C1, hC1⟩ : ∃ C, zcmp ((gT1 x y u v + gT1 x y u v).natAbs : Int) (gN u v - tp (gN u v) 1) = C := ⟨_, rfl⟩
  rw [hC1] at hg1
  have HC1 := hide hC1
  have hgt1 : (0 ≤ C1) = True := eq_true hg1
  clear hC1
  clear h1
  obtain ⟨n_0a, o_0a, k_0a, c_0a, n_0b, o_0b, k_0b, c_0b, rfl, ha1, ha2⟩ := ha
  obtain ⟨n_1a, o_1a, k_1a, c_1a, n_1b, o_1b, k_1b, c_1b, rfl, hq1, hq2⟩ := hq
  go_enter Tryz.func74, Tryz.ntmps74
  have hs := St.nil w
  refine wp_seq_k ?_
  intro K1 hK1
  refine rg [0, 1, 2] ?_
  refine sq ?_
  refine .al hs ?_; clear hs; intro p_b1 w_1 hs n1 kb_b1
  refine sq ?_
  refine .al hs ?_; clear hs; intro p_b2 w_2 hs n2 kb_b2
  refine sq ?_
  refine .mv ?_
  apply wpSq_end
  refine hK1 _ _ ?_
  refine wp_seq_k ?_
  intro K2 hK2
  refine rg [0, 1, 2, 3, 4, 5, 6, 7, 8, 9] ?_
  refine sq ?_
  refine .r4 hs.g1.f4 ?_
  refine sq ?_
  refine .r4 hs.g0.f4 ?_
  refine sq ?_
  intro K hK
  have k0_2 := (kb n1).b n2
  replace ha1 := ha1.k k0_2
  replace ha2 := ha2.k k0_2
  replace hq1 := hq1.k k0_2
  replace hq2 := hq2.k k0_2
  go_big_op
  go_fit (overNorm_any (PN.mk' ha1 ha2) (PN.mk' hq1 hq2) (by omega) (by omega) (by omega) (by omega) )
  rintro e w_3 ⟨_, v_g2, rfl, ⟨n_g1a, o_g1a, k_g1a, c_g1a, n_g1b, o_g1b, k_g1b, c_g1b, rfl, g11, g12⟩, g2, hb_3⟩
  replace hs := hs.bl hb_3
  obtain ⟨n_g2, o_g2, k_g2, c_g2, rfl⟩ := g2.open2
  have Lg11 := hide (g11.lenOf (zlen_gT1 (ha1.len) (ha2.len) (hq1.len) (hq2.len)))
  have Lg12 := hide (g12.lenOf (zlen_gT2 (ha1.len) (ha2.len) (hq1.len) (hq2.len)))
  have Lg2 := hide (g2.lenOf (zlen_gN (hq1.len) (hq2.len)))
  refine hK _ _ rfl trivial ?_
  clear hK K
  refine sq ?_
  refine .mv ?_
  refine sq ?_
  refine .r0 ?_
  refine sq ?_
  refine .r0 ?_
  refine sq ?_
  refine .al hs ?_; clear hs; intro p_b3 w_4 hs n4 kb_b3
  refine sq ?_
  refine .al hs ?_; clear hs; intro p_b4 w_5 hs n5 kb_b4
  refine sq ?_
  refine .s4 hs.g1 (fun _ => hs.u1 kb_b3) ?_; clear hs; intro w_6 hs hd6 ho6
  refine sq ?_
  refine .s2 hs.g0 (fun _ => hs.u0 kb_b4) ?_; clear hs; intro w_7 hs hd7 ho7
  apply wpSq_end
  refine hK2 _ _ ?_
  refine wp_seq_k ?_
  intro K3 hK3
  refine wp_region_f4 [(0, false), (1, false), (2, true), (3, true)] [4] [] (fun _ => default) [0, 0, 99, 99, 99] [(4, 0)] (.c hs.g0 .n) fn fun w_8 n8 => ?_
  replace hs := hs.bl n8
  refine f2 ?_
  refine f2 ?_
  refine fl fun w_9 n9 => ?_
  replace hs := hs.bl n9
  intro K hK
  have k3_9 := (((((kb n4).b n5).o hd6 ho6).o hd7 ho7).b n8).b n9
  replace g2 := g2.k k3_9
  go_big_op
  go_fit (topOf_any 1 (g2.zn Lg2.out) (by omega) (by decide))
  rintro e w_10 ⟨v_g3, rfl, g3, hb_10⟩
  replace hs := hs.bl hb_10
  obtain ⟨n_g3, o_g3, k_g3, c_g3, rfl⟩ := g3.open2
  refine hK _ _ rfl ⟨hb_10, (And.intro hs.g0 trivial)⟩ ?_
  clear hK K
  refine fl fun w_11 n11 => ?_
  replace hs := hs.bl n11
  intro K hK
  have k9_11 := (kb hb_10).b n11
  replace g2 := g2.k k9_11
  have k10_11 := kb n11
  replace g3 := g3.k k10_11
  go_big_op
  go_fit (zsub_any (g2.zn Lg2.out) g3 (by omega) (by omega) )
  rintro e w_12 ⟨v_g4, rfl, g4, hb_12⟩
  replace hs := hs.bl hb_12
  replace g4 := g4.rd
  obtain ⟨n_g4, o_g4, k_g4, c_g4, rfl⟩ := g4.open2
  have Lg4 := hide (g4.lenOf (zlen_sub (Lg2.out) (g3.len)))
  refine hK _ _ rfl ⟨hb_12, (And.intro hs.g0 trivial)⟩ ?_
  clear hK K
  refine e0 hs ?_; clear hs; intro w_13 hs n13
  refine tl ?_
  refine .s2 hs.g0 (fun _ => hs.u0 kb_b4) ?_ (e := fun _ hs => (And.intro True.intro True.intro)); clear hs; intro w_14 hs hd14 ho14
  clear ha1 ha2 hq1 hq2 g3 g2
  apply wpTail_end
  refine hK3 _ _ ?_
  refine wp_seq_k ?_
  intro K4 hK4
  refine wp_seq_k ?_
  intro K5 hK5
  refine rg [0, 1, 2, 3, 4, 5, 6] ?_
  refine sq ?_
  refine .r0 ?_
  refine sq ?_
  refine .r4 hs.g1.f4 ?_
  refine sq ?_
  refine .r0 ?_
  refine sq ?_
  refine .r4 hs.g1.f4 ?_
  refine sq ?_
  refine .al hs ?_; clear hs; intro p_b5 w_15 hs n15 kb_b5
  refine sq ?_
  refine .r0 ?_
  refine sq ?_
  refine .mv ?_
  apply wpSq_end
  refine hK5 _ _ ?_
  refine wp_block ?_
  refine wp_loop_rounds 3 ?_
  show Code.wp _ _ _ _ _
  refine wp_seq_k ?_
  intro K6 hK6
  refine rg [0] ?_
  refine sq ?_
  refine .r0 ?_
  apply wpSq_end
  refine hK6 _ _ ?_
  refine wp_seq_k ?_
  intro K7 hK7
  refine ct ?_
  refine wp_skip ?_
  refine hK7 _ _ ?_
  refine wp_seq_k ?_
  intro K8 hK8
  refine wp_block ?_
  refine wp_seq_k ?_
  intro K9 hK9
  refine rg [0, 1, 2, 3] ?_
  refine sq ?_
  refine .r0 ?_
  refine sq ?_
  refine .r4 hs.g0.f4 ?_
  refine sq ?_
  refine .al hs ?_; clear hs; intro p_b6 w_16 hs n16 kb_b6
  refine sq ?_
  refine .s2 hs.g0 (fun _ => hs.u0 kb_b6) ?_; clear hs; intro w_17 hs hd17 ho17
  apply wpSq_end
  refine hK9 _ _ ?_
  refine wp_seq_k ?_
  intro K10 hK10
  refine wp_region_f4 [(0, false), (1, false), (4, false), (2, true), (3, true), (5, true), (6, false)] [] [] (fun _ => default) [0, 0, 99, 99, 1, 99, 99] [] (.c hs.g0 (.c hs.g2 .n)) fn fun w_18 n18 => ?_
  replace hs := hs.bl n18
  refine f2 ?_
  refine f2 ?_
  refine f2 ?_
  refine fl fun w_19 n19 => ?_
  replace hs := hs.bl n19
  intro K hK
  have k3_19 := (((((((((k3_9.b hb_10).b n11).b hb_12).b n13).o hd14 ho14).b n15).b n16).o hd17 ho17).b n18).b n19
  replace g11 := g11.k k3_19
  go_big_op
  go_fit (zadd_any (g11.zn Lg11.out) (g11.zn Lg11.out) (by omega) (by omega) )
  rintro e w_20 ⟨v_g5, rfl, g5, hb_20⟩
  replace hs := hs.bl hb_20
  replace g5 := g5.rd
  obtain ⟨n_g5, o_g5, k_g5, c_g5, rfl⟩ := g5.open2
  have Lg5 := hide (g5.lenOf (zlen_add (Lg11.out) (Lg11.out)))
  refine hK _ _ rfl ⟨hb_20, (And.intro hs.g0 (And.intro hs.g2 trivial))⟩ ?_
  clear hK K
  refine fl fun w_21 n21 => ?_
  replace hs := hs.bl n21
  intro K hK
  have k20_21 := kb n21
  replace g5 := g5.k k20_21
  go_big_op
  go_fit (zabs_any (g5.zn Lg5.out) (by omega) )
  rintro e w_22 ⟨v_g6, rfl, g6, hb_22⟩
  replace hs := hs.bl hb_22
  replace g6 := g6.rd
  obtain ⟨n_g6, o_g6, k_g6, c_g6, rfl⟩ := g6.open2
  have Lg6 := hide (g6.lenOf (zlen_abs (Lg5.out)))
  refine hK _ _ rfl ⟨hb_22, (And.intro hs.g0 (And.intro hs.g2 trivial))⟩ ?_
  clear hK K
  refine fl fun w_23 n23 => ?_
  replace hs := hs.bl n23
  intro K hK
  have k22_23 := kb n23
  replace g6 := g6.k k22_23
  have k12_23 := ((((((((((kb n13).o hd14 ho14).b n15).b n16).o hd17 ho17).b n18).b n19).b hb_20).b n21).b hb_22).b n23
  replace g4 := g4.k k12_23
  go_big_op
  go_fit (zcmp_any (g6.zn Lg6.out) (g4.zn Lg4.out) (by omega) (by omega) )
  rintro e w_24 ⟨rfl, hb_24⟩
  replace hs := hs.bl hb_24
  rw [HC1.out]
  refine hK _ _ rfl ⟨hb_24, (And.intro hs.g0 (And.intro hs.g2 trivial))⟩ ?_
  clear hK K
  refine f0 ?_
  refine e0 hs ?_; clear hs; intro w_25 hs n25
  apply wpTail_end
  refine hK10 _ _ ?_
  refine ct ?_
  refine wp_seq_k ?_
  intro K11 hK11
  refine rg [0] ?_
  refine sq ?_
  refine .mv ?_
  apply wpSq_end
  refine hK11 _ _ ?_
  refine wp_ret ?_
  try dsimp only [Exit.then, Exit.inBlock]
  refine bodyPost_ret (v := (.bool false)) (by simp [results, Tryz.results74, go_sem]) rfl ?_
  have hb := hs.b
  exact ⟨rfl, hb⟩
set_option maxHeartbeats 4000000 in
set_option maxRecDepth 20000 in
theorem far_no2 (ha : PN w va x l y m) (hq : PN w vb u k v n) (hl : l ≤ 20000000) (hm : m ≤ 20000000) (hk : k ≤ 20000000) (hn : n ≤ 20000000) (h1 : ((gT1 x y u v + gT1 x y u v).natAbs : Int) < gN u v - tp (gN u v) 1) (h2 : ¬ ((gT2 x y u v + gT2 x y u v).natAbs : Int) < gN u v - tp (gN u v) 1) :
    Calls Tryz.prog 74 #[va, vb] w fun e w' => e = .returned (.bool false) ∧ Below w.heap.size w w' := by
  have HC1 := hide (zcmp_lt h1)
  have hg2 := zcmp_ge (Int.not_lt.1 h2)
  obtain ⟨C2, hC2⟩ : ∃ C, zcmp ((gT2 x y u v + gT2 x y u v).natAbs : Int) (gN u v - tp (gN u v) 1) = C := ⟨_, rfl⟩
  rw [hC2] at hg2
  have HC2 := hide hC2
  have hgt2 : (0 ≤ C2) = True := eq_true hg2
  clear hC2
  clear h1 h2
  obtain ⟨n_0a, o_0a, k_0a, c_0a, n_0b, o_0b, k_0b, c_0b, rfl, ha1, ha2⟩ := ha
  obtain ⟨n_1a, o_1a, k_1a, c_1a, n_1b, o_1b, k_1b, c_1b, rfl, hq1, hq2⟩ := hq
  go_enter Tryz.func74, Tryz.ntmps74
  have hs := St.nil w
  refine wp_seq_k ?_
  intro K1 hK1
  refine rg [0, 1, 2] ?_
  refine sq ?_
  refine .al hs ?_; clear hs; intro p_b1 w_1 hs n1 kb_b1
  refine sq ?_
  refine .al hs ?_; clear hs; intro p_b2 w_2 hs n2 kb_b2
  refine sq ?_
  refine .mv ?_
  apply wpSq_end
  refine hK1 _ _ ?_
  refine wp_seq_k ?_
  intro K2 hK2
  refine rg [0, 1, 2, 3, 4, 5, 6, 7, 8, 9] ?_
  refine sq ?_
  refine .r4 hs.g1.f4 ?_
  refine sq ?_
  refine .r4 hs.g0.f4 ?_
  refine sq ?_
  intro K hK
  have k0_2 := (kb n1).b n2
  replace ha1 := ha1.k k0_2
  replace ha2 := ha2.k k0_2
  replace hq1 := hq1.k k0_2
  replace hq2 := hq2.k k0_2
  go_big_op
  go_fit (overNorm_any (PN.mk' ha1 ha2) (PN.mk' hq1 hq2) (by omega) (by omega) (by omega) (by omega) )
  rintro e w_3 ⟨_, v_g2, rfl, ⟨n_g1a, o_g1a, k_g1a, c_g1a, n_g1b, o_g1b, k_g1b, c_g1b, rfl, g11, g12⟩, g2, hb_3⟩
  replace hs := hs.bl hb_3
  obtain ⟨n_g2, o_g2, k_g2, c_g2, rfl⟩ := g2.open2
  have Lg11 := hide (g11.lenOf (zlen_gT1 (ha1.len) (ha2.len) (hq1.len) (hq2.len)))
  have Lg12 := hide (g12.lenOf (zlen_gT2 (ha1.len) (ha2.len) (hq1.len) (hq2.len)))
  have Lg2 := hide (g2.lenOf (zlen_gN (hq1.len) (hq2.len)))
  refine hK _ _ rfl trivial ?_
  clear hK K
  refine sq ?_
  refine .mv ?_
  refine sq ?_
  refine .r0 ?_
  refine sq ?_
  refine .r0 ?_
  refine sq ?_
  refine .al hs ?_; clear hs; intro p_b3 w_4 hs n4 kb_b3
  refine sq ?_
  refine .al hs ?_; clear hs; intro p_b4 w_5 hs n5 kb_b4
  refine sq ?_
  refine .s4 hs.g1 (fun _ => hs.u1 kb_b3) ?_; clear hs; intro w_6 hs hd6 ho6
  refine sq ?_
  refine .s2 hs.g0 (fun _ => hs.u0 kb_b4) ?_; clear hs; intro w_7 hs hd7 ho7
  apply wpSq_end
  refine hK2 _ _ ?_
  refine wp_seq_k ?_
  intro K3 hK3
  refine wp_region_f4 [(0, false), (1, false), (2, true), (3, true)] [4] [] (fun _ => default) [0, 0, 99, 99, 99] [(4, 0)] (.c hs.g0 .n) fn fun w_8 n8 => ?_
  replace hs := hs.bl n8
  refine f2 ?_
  refine f2 ?_
  refine fl fun w_9 n9 => ?_
  replace hs := hs.bl n9
  intro K hK
  have k3_9 := (((((kb n4).b n5).o hd6 ho6).o hd7 ho7).b n8).b n9
  replace g2 := g2.k k3_9
  go_big_op
  go_fit (topOf_any 1 (g2.zn Lg2.out) (by omega) (by decide))
  rintro e w_10 ⟨v_g3, rfl, g3, hb_10⟩
  replace hs := hs.bl hb_10
  obtain ⟨n_g3, o_g3, k_g3, c_g3, rfl⟩ := g3.open2
  refine hK _ _ rfl ⟨hb_10, (And.intro hs.g0 trivial)⟩ ?_
  clear hK K
  refine fl fun w_11 n11 => ?_
  replace hs := hs.bl n11
  intro K hK
  have k9_11 := (kb hb_10).b n11
  replace g2 := g2.k k9_11
  have k10_11 := kb n11
  replace g3 := g3.k k10_11
  go_big_op
  go_fit (zsub_any (g2.zn Lg2.out) g3 (by omega) (by omega) )
  rintro e w_12 ⟨v_g4, rfl, g4, hb_12⟩
  replace hs := hs.bl hb_12
  replace g4 := g4.rd
  obtain ⟨n_g4, o_g4, k_g4, c_g4, rfl⟩ := g4.open2
  have Lg4 := hide (g4.lenOf (zlen_sub (Lg2.out) (g3.len)))
  refine hK _ _ rfl ⟨hb_12, (And.intro hs.g0 trivial)⟩ ?_
  clear hK K
  refine e0 hs ?_; clear hs; intro w_13 hs n13
  refine tl ?_
  refine .s2 hs.g0 (fun _ => hs.u0 kb_b4) ?_ (e := fun _ hs => (And.intro True.intro True.intro)); clear hs; intro w_14 hs hd14 ho14
  clear ha1 ha2 hq1 hq2 g3 g2
  apply wpTail_end
  refine hK3 _ _ ?_
  refine wp_seq_k ?_
  intro K4 hK4
  refine wp_seq_k ?_
  intro K5 hK5
  refine rg [0, 1, 2, 3, 4, 5, 6] ?_
  refine sq ?_
  refine .r0 ?_
  refine sq ?_
  refine .r4 hs.g1.f4 ?_
  refine sq ?_
  refine .r0 ?_
  refine sq ?_
  refine .r4 hs.g1.f4 ?_
  refine sq ?_
  refine .al hs ?_; clear hs; intro p_b5 w_15 hs n15 kb_b5
  refine sq ?_
  refine .r0 ?_
  refine sq ?_
  refine .mv ?_
  apply wpSq_end
  refine hK5 _ _ ?_
  refine wp_block ?_
  refine wp_loop_rounds 3 ?_
  show Code.wp _ _ _ _ _
  refine wp_seq_k ?_
  intro K6 hK6
  refine rg [0] ?_
  refine sq ?_
  refine .r0 ?_
  apply wpSq_end
  refine hK6 _ _ ?_
  refine wp_seq_k ?_
  intro K7 hK7
  refine ct ?_
  refine wp_skip ?_
  refine hK7 _ _ ?_
  refine wp_seq_k ?_
  intro K8 hK8
  refine wp_block ?_
  refine wp_seq_k ?_
  intro K9 hK9
  refine rg [0, 1, 2, 3] ?_
  refine sq ?_
  refine .r0 ?_
  refine sq ?_
  refine .r4 hs.g0.f4 ?_
  refine sq ?_
  refine .al hs ?_; clear hs; intro p_b6 w_16 hs n16 kb_b6
  refine sq ?_
  refine .s2 hs.g0 (fun _ => hs.u0 kb_b6) ?_; clear hs; intro w_17 hs hd17 ho17
  apply wpSq_end
  refine hK9 _ _ ?_
  refine wp_seq_k ?_
  intro K10 hK10
  refine wp_region_f4 [(0, false), (1, false), (4, false), (2, true), (3, true), (5, true), (6, false)] [] [] (fun _ => default) [0, 0, 99, 99, 1, 99, 99] [] (.c hs.g0 (.c hs.g2 .n)) fn fun w_18 n18 => ?_
  replace hs := hs.bl n18
  refine f2 ?_
  refine f2 ?_
  refine f2 ?_
  refine fl fun w_19 n19 => ?_
  replace hs := hs.bl n19
  intro K hK
  have k3_19 := (((((((((k3_9.b hb_10).b n11).b hb_12).b n13).o hd14 ho14).b n15).b n16).o hd17 ho17).b n18).b n19
  replace g11 := g11.k k3_19
  go_big_op
  go_fit (zadd_any (g11.zn Lg11.out) (g11.zn Lg11.out) (by omega) (by omega) )
  rintro e w_20 ⟨v_g5, rfl, g5, hb_20⟩
  replace hs := hs.bl hb_20
  replace g5 := g5.rd
  obtain ⟨n_g5, o_g5, k_g5, c_g5, rfl⟩ := g5.open2
  have Lg5 := hide (g5.lenOf (zlen_add (Lg11.out) (Lg11.out)))
  refine hK _ _ rfl ⟨hb_20, (And.intro hs.g0 (And.intro hs.g2 trivial))⟩ ?_
  clear hK K
  refine fl fun w_21 n21 => ?_
  replace hs := hs.bl n21
  intro K hK
  have k20_21 := kb n21
  replace g5 := g5.k k20_21
  go_big_op
  go_fit (zabs_any (g5.zn Lg5.out) (by omega) )
  rintro e w_22 ⟨v_g6, rfl, g6, hb_22⟩
  replace hs := hs.bl hb_22
  replace g6 := g6.rd
  obtain ⟨n_g6, o_g6, k_g6, c_g6, rfl⟩ := g6.open2
  have Lg6 := hide (g6.lenOf (zlen_abs (Lg5.out)))
  refine hK _ _ rfl ⟨hb_22, (And.intro hs.g0 (And.intro hs.g2 trivial))⟩ ?_
  clear hK K
  refine fl fun w_23 n23 => ?_
  replace hs := hs.bl n23
  intro K hK
  have k22_23 := kb n23
  replace g6 := g6.k k22_23
  have k12_23 := ((((((((((kb n13).o hd14 ho14).b n15).b n16).o hd17 ho17).b n18).b n19).b hb_20).b n21).b hb_22).b n23
  replace g4 := g4.k k12_23
  go_big_op
  go_fit (zcmp_any (g6.zn Lg6.out) (g4.zn Lg4.out) (by omega) (by omega) )
  rintro e w_24 ⟨rfl, hb_24⟩
  replace hs := hs.bl hb_24
  rw [HC1.out]
  refine hK _ _ rfl ⟨hb_24, (And.intro hs.g0 (And.intro hs.g2 trivial))⟩ ?_
  clear hK K
  refine f0 ?_
  refine e0 hs ?_; clear hs; intro w_25 hs n25
  apply wpTail_end
  refine hK10 _ _ ?_
  refine cf ?_
  refine wp_skip ?_
  refine hK8 _ _ ?_
  refine rg [0, 1] ?_
  refine sq ?_
  refine .r0 ?_
  refine sq ?_
  refine .mv ?_
  apply wpSq_end
  show Code.wp _ _ _ _ _
  refine wp_seq_k ?_
  intro K11 hK11
  refine rg [0] ?_
  refine sq ?_
  refine .r0 ?_
  apply wpSq_end
  refine hK11 _ _ ?_
  refine wp_seq_k ?_
  intro K12 hK12
  refine ct ?_
  refine wp_skip ?_
  refine hK12 _ _ ?_
  refine wp_seq_k ?_
  intro K13 hK13
  refine wp_block ?_
  refine wp_seq_k ?_
  intro K14 hK14
  refine rg [0, 1, 2, 3] ?_
  refine sq ?_
  refine .r0 ?_
  refine sq ?_
  refine .r4 hs.g1.f4 ?_
  refine sq ?_
  refine .al hs ?_; clear hs; intro p_b7 w_26 hs n26 kb_b7
  refine sq ?_
  refine .s2 hs.g0 (fun _ => hs.u0 kb_b7) ?_; clear hs; intro w_27 hs hd27 ho27
  apply wpSq_end
  refine hK14 _ _ ?_
  refine wp_seq_k ?_
  intro K15 hK15
  refine wp_region_f4 [(0, false), (1, false), (4, false), (2, true), (3, true), (5, true), (6, false)] [] [] (fun _ => default) [0, 0, 99, 99, 1, 99, 99] [] (.c hs.g0 (.c hs.g3 .n)) fn fun w_28 n28 => ?_
  replace hs := hs.bl n28
  refine f2 ?_
  refine f2 ?_
  refine f2 ?_
  refine fl fun w_29 n29 => ?_
  replace hs := hs.bl n29
  intro K hK
  have k3_29 := (((((((((k3_19.b hb_20).b n21).b hb_22).b n23).b hb_24).b n25).b n26).o hd27 ho27).b n28).b n29
  replace g12 := g12.k k3_29
  go_big_op
  go_fit (zadd_any (g12.zn Lg12.out) (g12.zn Lg12.out) (by omega) (by omega) )
  rintro e w_30 ⟨v_g7, rfl, g7, hb_30⟩
  replace hs := hs.bl hb_30
  replace g7 := g7.rd
  obtain ⟨n_g7, o_g7, k_g7, c_g7, rfl⟩ := g7.open2
  have Lg7 := hide (g7.lenOf (zlen_add (Lg12.out) (Lg12.out)))
  refine hK _ _ rfl ⟨hb_30, (And.intro hs.g0 (And.intro hs.g3 trivial))⟩ ?_
  clear hK K
  refine fl fun w_31 n31 => ?_
  replace hs := hs.bl n31
  intro K hK
  have k30_31 := kb n31
  replace g7 := g7.k k30_31
  go_big_op
  go_fit (zabs_any (g7.zn Lg7.out) (by omega) )
  rintro e w_32 ⟨v_g8, rfl, g8, hb_32⟩
  replace hs := hs.bl hb_32
  replace g8 := g8.rd
  obtain ⟨n_g8, o_g8, k_g8, c_g8, rfl⟩ := g8.open2
  have Lg8 := hide (g8.lenOf (zlen_abs (Lg7.out)))
  refine hK _ _ rfl ⟨hb_32, (And.intro hs.g0 (And.intro hs.g3 trivial))⟩ ?_
  clear hK K
  refine fl fun w_33 n33 => ?_
  replace hs := hs.bl n33
  intro K hK
  have k32_33 := kb n33
  replace g8 := g8.k k32_33
  have k23_33 := (((((((((kb hb_24).b n25).b n26).o hd27 ho27).b n28).b n29).b hb_30).b n31).b hb_32).b n33
  replace g4 := g4.k k23_33
  go_big_op
  go_fit (zcmp_any (g8.zn Lg8.out) (g4.zn Lg4.out) (by omega) (by omega) )
  rintro e w_34 ⟨rfl, hb_34⟩
  replace hs := hs.bl hb_34
  rw [HC2.out]
  refine hK _ _ rfl ⟨hb_34, (And.intro hs.g0 (And.intro hs.g3 trivial))⟩ ?_
  clear hK K
  refine f0 ?_
  refine e0 hs ?_; clear hs; intro w_35 hs n35
  apply wpTail_end
  refine hK15 _ _ ?_
  refine ct ?_
  refine wp_seq_k ?_
  intro K16 hK16
  refine rg [0] ?_
  refine sq ?_
  refine .mv ?_
  apply wpSq_end
  refine hK16 _ _ ?_
  refine wp_ret ?_
  try dsimp only [Exit.then, Exit.inBlock]
  refine bodyPost_ret (v := (.bool false)) (by simp [results, Tryz.results74, go_sem]) rfl ?_
  have hb := hs.b
  exact ⟨rfl, hb⟩
end
theorem pw4 : pw 4 = 340282366920938463463374607431768211456 := by decide
theorem pw6 : pw 6 = 18446744073709551616 * 340282366920938463463374607431768211456 := by decide
theorem tp_one (n : Int) (h : 0 ≤ n) : tp n 1 = n / 4294967296 := by
  unfold tp
  rw [if_neg (by omega), show pw 1 = 4294967296 by decide]
  omega
/-- What is far inside leads to the nearest quotient. -/
theorem quot_top {x y u v : Int} {cut : Nat} (hc : gdig u v = cut + 5) (hd : gdig x y ≤ gdig u v + 1) (hf : far (gR1 (tp x cut) (tp y cut) (tp u cut) (tp v cut)) (gR2 (tp x cut) (tp y cut) (tp u cut) (tp v cut)) (tp u cut) (tp v cut)) :
    gN (tp u cut) (tp v cut) ≠ 0 ∧ gQ1 (tp x cut) (tp y cut) (tp u cut) (tp v cut) = gQ1 x y u v ∧ gQ2 (tp x cut) (tp y cut) (tp u cut) (tp v cut) = gQ2 x y u v := by
  obtain ⟨c1, ex, bx, _⟩ := tp_split x cut
  obtain ⟨c2, ey, byy, _⟩ := tp_split y cut
  obtain ⟨d1, eu, bu, su⟩ := tp_split u cut
  obtain ⟨d2, ev, bv, sv⟩ := tp_split v cut
  obtain ⟨tx, ty⟩ := gdig_top (x := x) (y := y)
  obtain ⟨tu, tv⟩ := gdig_top (x := u) (y := v)
  have hlow := gdig_low (x := u) (y := v) (by omega)
  have ax := tp_abs x cut
  have ay := tp_abs y cut
  have au := tp_abs u cut
  have av := tp_abs v cut
  have hp := pw_pos cut
  -- the longer part of the divisor's top
  have low : ∀ z : Nat, pw (gdig u v - 1) ≤ z → pw 4 ≤ z / pw cut := by
    intro z hz
    rw [show gdig u v - 1 = 4 + cut by omega, pw_add] at hz
    exact (Nat.le_div_iff_mul_le hp).2 hz
  have high : ∀ z : Nat, z < pw (gdig x y) → z / pw cut < pw 6 := by
    intro z hz
    refine (Nat.div_lt_iff_lt_mul hp).2 (Nat.lt_of_lt_of_le hz ?_)
    rw [← pw_add]; exact pw_mono (by omega)
  have hx6 := high _ tx
  have hy6 := high _ ty
  have hm4 : pw 4 ≤ max (tp u cut).natAbs (tp v cut).natAbs := by
    rw [au, av]
    rcases hlow with h | h
    · exact Nat.le_trans (low _ h) (Nat.le_max_left _ _)
    · exact Nat.le_trans (low _ h) (Nat.le_max_right _ _)
  rw [← ax] at hx6
  rw [← ay] at hy6
  clear ax ay au av low high hlow tx ty tu tv
  generalize tp x cut = X at *
  generalize tp y cut = Y at *
  generalize tp u cut = U at *
  generalize tp v cut = V at *
  obtain ⟨M, hM⟩ : ∃ M : Nat, max U.natAbs V.natAbs = M := ⟨_, rfl⟩
  rw [hM] at hm4
  rw [pw4] at hm4
  rw [pw6] at hx6 hy6
  have hUM : -(M : Int) ≤ U ∧ U ≤ (M : Int) := by omega
  have hVM : -(M : Int) ≤ V ∧ V ≤ (M : Int) := by omega
  have hmm : (M : Int) * M ≤ gN U V := by
    have h1 := msq U
    have h2 := msq V
    have h3 : ∀ z : Int, z.natAbs = M → z * z = (M : Int) * M := by
      intro z hz
      rw [← Int.natAbs_mul_self, hz]; rfl
    unfold gN
    rcases (show U.natAbs = M ∨ V.natAbs = M by omega) with h | h
    · rw [h3 U h]; omega
    · rw [h3 V h]; omega
  have hM0 : 0 < (M : Int) := by omega
  have hn0 : gN U V ≠ 0 := by have := Int.mul_pos hM0 hM0; omega
  have hn := gN_nonneg U V
  obtain ⟨f1, f2⟩ := hf
  rw [tp_one _ hn] at f1 f2
  have hb1 := (gR_back X Y U V).1
  have hb2 := (gR_back X Y U V).2
  have hh := gR_half (x := X) (y := Y) hn0
  have g1 : gT1 (gR1 X Y U V) (gR2 X Y U V) U V = gR1 X Y U V * U + gR2 X Y U V * V := by unfold gT1; rw [Int.mul_neg]; omega
  have g2 : gT2 (gR1 X Y U V) (gR2 X Y U V) U V = gR2 X Y U V * U - gR1 X Y U V * V := by unfold gT2; rw [Int.mul_neg]; omega
  rw [g1] at f1
  rw [g2] at f2
  have key := guess (B := (pw cut : Int)) (a1 := X) (a2 := Y) (b1 := U) (b2 := V) (c1 := c1) (c2 := c2) (d1 := d1) (d2 := d2) (m := (M : Int)) (q1 := gQ1 X Y U V) (q2 := gQ2 X Y U V) (r1 := gR1 X Y U V) (r2 := gR2 X Y U V)
    (by omega) bx byy bu bv su sv (by omega) hUM hVM hmm (by omega) (by omega) (by omega) (by omega) hh (by omega) (by omega)
  rw [← ex, ← ey, ← eu, ← ev] at key
  exact ⟨hn0, key.1.symm, key.2.symm⟩
theorem gdig_le {x y : Int} {l m : Nat} (h1 : (dig x.natAbs).length ≤ l) (h2 : (dig y.natAbs).length ≤ m) (hl : l ≤ 8000000) (hm : m ≤ 8000000) : gdig x y ≤ 16000000 := by
  have b1 := bits_bd (Nat.lt_of_lt_of_le (lt_pw_dig x.natAbs) (pw_mono h1))
  have b2 := bits_bd (Nat.lt_of_lt_of_le (lt_pw_dig y.natAbs) (pw_mono h2))
  unfold gdig; omega
theorem tp_len {x : Int} {l k : Nat} (h : (dig x.natAbs).length ≤ l) : (dig (tp x k).natAbs).length ≤ l := by
  rw [tp_abs]; exact len_le (Nat.div_le_self _ _) h
/-- A rest is no longer than the divisor. -/
theorem gR_len {x y u v : Int} {k n : Nat} (h0 : gN u v ≠ 0) (h1 : (dig u.natAbs).length ≤ k) (h2 : (dig v.natAbs).length ≤ n) : (dig (gR1 x y u v).natAbs).length ≤ k + n + 1 ∧ (dig (gR2 x y u v).natAbs).length ≤ k + n + 1 := by
  have hh := gR_half (x := x) (y := y) h0
  have hr := gN_nonneg (gR1 x y u v) (gR2 x y u v)
  obtain ⟨A, hA⟩ : ∃ A : Nat, A = u.natAbs + v.natAbs := ⟨_, rfl⟩
  have hb : gN u v ≤ (A : Int) * A := by
    have e1 : u * u = ((u.natAbs : Nat) : Int) * (u.natAbs : Nat) := (Int.natAbs_mul_self' u).symm
    have e2 : v * v = ((v.natAbs : Nat) : Int) * (v.natAbs : Nat) := (Int.natAbs_mul_self' v).symm
    have h3 : (0 : Int) ≤ ((u.natAbs : Nat) : Int) * (v.natAbs : Nat) := Int.mul_nonneg (by omega) (by omega)
    unfold gN
    rw [e1, e2, hA]
    push_cast
    grind
  obtain ⟨n1, n2⟩ := norm_le (a := gR1 x y u v) (b := gR2 x y u v) (A := (A : Int)) (by omega) (by omega)
  have hl : (dig A).length ≤ k + n + 1 := by
    have := zlen_add (x := (u.natAbs : Int)) (y := (v.natAbs : Int)) (by rw [Int.natAbs_natCast]; exact h1) (by rw [Int.natAbs_natCast]; exact h2)
    rw [← Int.natCast_add, Int.natAbs_natCast, ← hA] at this
    exact this
  exact ⟨len_le (by omega) hl, len_le (by omega) hl⟩
theorem tp_ne {u v : Int} {cut : Nat} (hc : gdig u v = cut + 5) (h : 0 < gdig u v) : gN (tp u cut) (tp v cut) ≠ 0 := by
  intro h0
  obtain ⟨h1, h2⟩ := gN_zero.1 h0
  have au := tp_abs u cut
  have av := tp_abs v cut
  rw [h1] at au
  rw [h2] at av
  have low : ∀ z : Nat, pw (gdig u v - 1) ≤ z → z / pw cut ≠ 0 := by
    intro z hz hz0
    rw [show gdig u v - 1 = 4 + cut by omega, pw_add] at hz
    have := (Nat.le_div_iff_mul_le (pw_pos cut)).2 hz
    rw [pw4] at this
    omega
  rcases gdig_low h with h3 | h3
  · exact low _ h3 au.symm
  · exact low _ h3 av.symm
section
variable {w : World} {va vb : Value} {x y u v : Int} {l m k n : Nat}
theorem far_no (ha : PN w va x l y m) (hq : PN w vb u k v n) (hl : l ≤ 20000000) (hm : m ≤ 20000000) (hk : k ≤ 20000000) (hn : n ≤ 20000000) (hf : ¬ far x y u v) :
    Calls Tryz.prog 74 #[va, vb] w fun e w' => e = .returned (.bool false) ∧ Below w.heap.size w w' := by
  by_cases h1 : ((gT1 x y u v + gT1 x y u v).natAbs : Int) < gN u v - tp (gN u v) 1
  · exact far_no2 ha hq hl hm hk hn h1 (fun h2 => hf ⟨h1, h2⟩)
  · exact far_no1 ha hq hl hm hk hn h1
set_option maxHeartbeats 4000000 in
set_option maxRecDepth 20000 in
theorem quot_small (ha : PN w va x l y m) (hq : PN w vb u k v n) (hl : l ≤ 8000000) (hm : m ≤ 8000000) (hk : k ≤ 8000000) (hn : n ≤ 8000000) (h0 : gN u v ≠ 0) (h1 : gdig u v ≤ 5) :
    Calls Tryz.prog 41 #[va, vb] w fun e w' => ∃ r, e = .returned r ∧ PC w' r (gQ1 x y u v) (gQ2 x y u v) ∧ Below w.heap.size w w' := by
  have H0 := hide h0
  obtain ⟨S, hS⟩ : ∃ S, gdig u v = S := ⟨_, rfl⟩
  rw [hS] at h1
  have HS := hide hS
  have hg : (0 < (S : Int) - 5) = False := eq_false (by omega)
  have hgA : (5 < (S : Int)) = False := eq_false (by omega)
  have hgB : (5 < S) = False := eq_false (by omega)
  clear h0 hS
  obtain ⟨n_0a, o_0a, k_0a, c_0a, n_0b, o_0b, k_0b, c_0b, rfl, ha1, ha2⟩ := ha
  obtain ⟨n_1a, o_1a, k_1a, c_1a, n_1b, o_1b, k_1b, c_1b, rfl, hq1, hq2⟩ := hq
  go_enter Tryz.func41, Tryz.ntmps41
  have hs := St.nil w
  refine wp_seq_k ?_
  intro K1 hK1
  refine rg [0, 1, 2] ?_
  refine sq ?_
  refine .al hs ?_; clear hs; intro p_b1 w_1 hs n1 kb_b1
  refine sq ?_
  refine .al hs ?_; clear hs; intro p_b2 w_2 hs n2 kb_b2
  refine sq ?_
  refine .al hs ?_; clear hs; intro p_b3 w_3 hs n3 kb_b3
  apply wpSq_end
  refine hK1 _ _ ?_
  refine wp_seq_k ?_
  intro K2 hK2
  refine rg [0, 1, 2] ?_
  refine sq ?_
  refine .r4 hs.g1.f4 ?_
  refine sq ?_
  intro K hK
  have k0_3 := ((kb n1).b n2).b n3
  replace hq1 := hq1.k k0_3
  replace hq2 := hq2.k k0_3
  go_big_op
  go_fit (gdigits_any (PN.mk' hq1 hq2) (by omega) (by omega))
  rintro e w_4 ⟨rfl, hb_4⟩
  replace hs := hs.bl hb_4
  rw [HS.out]
  refine hK _ _ rfl trivial ?_
  clear hK K
  refine sq ?_
  refine .mv ?_
  apply wpSq_end
  refine hK2 _ _ ?_
  refine wp_seq_k ?_
  intro K3 hK3
  refine wp_seq_k ?_
  intro K4 hK4
  refine rg [0, 1, 2] ?_
  refine sq ?_
  refine .mv ?_
  refine sq ?_
  refine .r0 ?_
  refine sq ?_
  refine .mv ?_
  apply wpSq_end
  refine hK4 _ _ ?_
  refine wp_seq_k ?_
  intro K5 hK5
  refine rg [0, 1, 2, 3, 4, 5, 6, 7, 8] ?_
  refine sq ?_
  refine .mv ?_
  refine sq ?_
  refine .r0 ?_
  refine sq ?_
  refine .mv ?_
  refine sk ?_
  refine sk ?_
  refine sk ?_
  refine sk ?_
  refine sk ?_
  refine sq ?_
  refine .r0 ?_
  apply wpSq_end
  refine hK5 _ _ ?_
  refine cf ?_
  refine wp_skip ?_
  refine hK3 _ _ ?_
  refine wp_seq_k ?_
  intro K6 hK6
  refine rg [0, 1, 2, 3, 4, 5, 6, 7, 8, 9, 10, 11] ?_
  refine sq ?_
  refine .r4 hs.g2.f4 ?_
  refine sq ?_
  refine .r4 hs.g1.f4 ?_
  refine sq ?_
  intro K hK
  have k0_4 := k0_3.b hb_4
  replace ha1 := ha1.k k0_4
  replace ha2 := ha2.k k0_4
  have k3_4 := kb hb_4
  replace hq1 := hq1.k k3_4
  replace hq2 := hq2.k k3_4
  go_big_op
  go_fit (gRound_any (PN.mk' ha1 ha2) (PN.mk' hq1 hq2) (by omega) (by omega) (by omega) (by omega) H0.out)
  rintro e w_5 ⟨_, _, rfl, ⟨n_ga, o_ga, k_ga, c_ga, n_gb, o_gb, k_gb, c_gb, rfl, g1, g2⟩, ⟨n_ra, o_ra, k_ra, c_ra, n_rb, o_rb, k_rb, c_rb, rfl, r1, r2⟩, hb_5⟩
  replace hs := hs.bl hb_5
  have Lg1 := hide (g1.lenOf (rnd_len (H0.out) (zlen_gT1 (ha1.len) (ha2.len) (hq1.len) (hq2.len))))
  have Lg2 := hide (g2.lenOf (rnd_len (H0.out) (zlen_gT2 (ha1.len) (ha2.len) (hq1.len) (hq2.len))))
  have Lr1 := hide (r1.lenOf (zlen_gR1 (ha1.len) (ha2.len) (hq1.len) (hq2.len) (H0.out)))
  have Lr2 := hide (r2.lenOf (zlen_gR2 (ha1.len) (ha2.len) (hq1.len) (hq2.len) (H0.out)))
  refine hK _ _ rfl trivial ?_
  clear hK K
  refine sq ?_
  refine .mv ?_
  refine sq ?_
  refine .r0 ?_
  refine sq ?_
  refine .r0 ?_
  refine sq ?_
  refine .r0 ?_
  refine sq ?_
  refine .al hs ?_; clear hs; intro p_b4 w_6 hs n6 kb_b4
  refine sq ?_
  refine .al hs ?_; clear hs; intro p_b5 w_7 hs n7 kb_b5
  refine sq ?_
  refine .s4 hs.g1 (fun _ => hs.u1 kb_b4) ?_; clear hs; intro w_8 hs hd8 ho8
  refine sq ?_
  refine .s4 hs.g0 (fun _ => hs.u0 kb_b5) ?_; clear hs; intro w_9 hs hd9 ho9
  refine sq ?_
  refine .mv ?_
  apply wpSq_end
  refine hK6 _ _ ?_
  refine wp_seq_k ?_
  intro K7 hK7
  refine rg [0, 1] ?_
  refine sq ?_
  refine .r4 hs.g1.f4 ?_
  refine sq ?_
  refine .s4 hs.g2 (fun _ => hs.u2 kb_b3) ?_; clear hs; intro w_10 hs hd10 ho10
  clear ha1 ha2 hq1 hq2 r1 r2
  apply wpSq_end
  refine hK7 _ _ ?_
  refine wp_ret ?_
  try dsimp only [Exit.then, Exit.inBlock]
  obtain ⟨r0_0, r0_1, r0_2, r0_3⟩ := hs.g2.f4
  refine bodyPost_ret (v := (.agg #[.bool n_ga, .slice o_ga k_ga c_ga, .bool n_gb, .slice o_gb k_gb c_gb])) (by simp [results, Tryz.results41, go_sem, r0_0, r0_1, r0_2, r0_3]) rfl ?_
  have k5_10 := ((((kb n6).b n7).o hd8 ho8).o hd9 ho9).o hd10 ho10
  replace g1 := g1.k k5_10
  replace g2 := g2.k k5_10
  exact ⟨_, rfl, .mk' g1 g2, hs.b⟩
set_option maxHeartbeats 4000000 in
set_option maxRecDepth 20000 in
theorem quot_long (ha : PN w va x l y m) (hq : PN w vb u k v n) (hl : l ≤ 8000000) (hm : m ≤ 8000000) (hk : k ≤ 8000000) (hn : n ≤ 8000000) (h0 : gN u v ≠ 0) (h1 : 5 < gdig u v) (h2 : gdig u v + 1 < gdig x y) :
    Calls Tryz.prog 41 #[va, vb] w fun e w' => ∃ r, e = .returned r ∧ PC w' r (gQ1 x y u v) (gQ2 x y u v) ∧ Below w.heap.size w w' := by
  have H0 := hide h0
  obtain ⟨S, hS⟩ : ∃ S, gdig u v = S := ⟨_, rfl⟩
  obtain ⟨D, hD⟩ : ∃ D, gdig x y = D := ⟨_, rfl⟩
  have hSb : S ≤ 16000000 := by rw [← hS]; exact gdig_le hq.len1 hq.len2 hk hn
  have hDb : D ≤ 16000000 := by rw [← hD]; exact gdig_le ha.len1 ha.len2 hl hm
  rw [hS] at h1 h2
  rw [hD] at h2
  have HS := hide hS
  have HD := hide hD
  have hg : (0 < (S : Int) - 5) = True := eq_true (by omega)
  have hgA : (5 < (S : Int)) = True := eq_true (by omega)
  have hgB : (5 < S) = True := eq_true (by omega)
  have hg2 : ((D : Int) ≤ (S : Int) + 1) = False := eq_false (by omega)
  have hg3 : (D ≤ S + 1) = False := eq_false (by omega)
  clear h0 hS hD
  obtain ⟨n_0a, o_0a, k_0a, c_0a, n_0b, o_0b, k_0b, c_0b, rfl, ha1, ha2⟩ := ha
  obtain ⟨n_1a, o_1a, k_1a, c_1a, n_1b, o_1b, k_1b, c_1b, rfl, hq1, hq2⟩ := hq
  go_enter Tryz.func41, Tryz.ntmps41
  have hs := St.nil w
  refine wp_seq_k ?_
  intro K1 hK1
  refine rg [0, 1, 2] ?_
  refine sq ?_
  refine .al hs ?_; clear hs; intro p_b1 w_1 hs n1 kb_b1
  refine sq ?_
  refine .al hs ?_; clear hs; intro p_b2 w_2 hs n2 kb_b2
  refine sq ?_
  refine .al hs ?_; clear hs; intro p_b3 w_3 hs n3 kb_b3
  apply wpSq_end
  refine hK1 _ _ ?_
  refine wp_seq_k ?_
  intro K2 hK2
  refine rg [0, 1, 2] ?_
  refine sq ?_
  refine .r4 hs.g1.f4 ?_
  refine sq ?_
  intro K hK
  have k0_3 := ((kb n1).b n2).b n3
  replace hq1 := hq1.k k0_3
  replace hq2 := hq2.k k0_3
  go_big_op
  go_fit (gdigits_any (PN.mk' hq1 hq2) (by omega) (by omega))
  rintro e w_4 ⟨rfl, hb_4⟩
  replace hs := hs.bl hb_4
  rw [HS.out]
  refine hK _ _ rfl trivial ?_
  clear hK K
  refine sq ?_
  refine .mv ?_
  apply wpSq_end
  refine hK2 _ _ ?_
  refine wp_seq_k ?_
  intro K3 hK3
  refine wp_seq_k ?_
  intro K4 hK4
  refine rg [0, 1, 2] ?_
  refine sq ?_
  refine .mv ?_
  refine sq ?_
  refine .r0 ?_
  refine sq ?_
  refine .mv ?_
  apply wpSq_end
  refine hK4 _ _ ?_
  refine wp_seq_k ?_
  intro K5 hK5
  refine rg [0, 1, 2, 3, 4, 5, 6, 7, 8] ?_
  refine sq ?_
  refine .mv ?_
  refine sq ?_
  refine .r0 ?_
  refine sq ?_
  refine .mv ?_
  refine sq ?_
  refine .r4 hs.g2.f4 ?_
  refine sq ?_
  intro K hK
  have k0_4 := k0_3.b hb_4
  replace ha1 := ha1.k k0_4
  replace ha2 := ha2.k k0_4
  go_big_op
  go_fit (gdigits_any (PN.mk' ha1 ha2) (by omega) (by omega))
  rintro e w_5 ⟨rfl, hb_5⟩
  replace hs := hs.bl hb_5
  rw [HD.out]
  refine hK _ _ rfl trivial ?_
  clear hK K
  refine sq ?_
  refine .mv ?_
  refine sq ?_
  refine .r0 ?_
  refine sq ?_
  refine .r0 ?_
  refine sq ?_
  refine .r0 ?_
  apply wpSq_end
  refine hK5 _ _ ?_
  refine cf ?_
  refine wp_skip ?_
  refine hK3 _ _ ?_
  refine wp_seq_k ?_
  intro K6 hK6
  refine rg [0, 1, 2, 3, 4, 5, 6, 7, 8, 9, 10, 11] ?_
  refine sq ?_
  refine .r4 hs.g2.f4 ?_
  refine sq ?_
  refine .r4 hs.g1.f4 ?_
  refine sq ?_
  intro K hK
  have k4_5 := kb hb_5
  replace ha1 := ha1.k k4_5
  replace ha2 := ha2.k k4_5
  have k3_5 := (kb hb_4).b hb_5
  replace hq1 := hq1.k k3_5
  replace hq2 := hq2.k k3_5
  go_big_op
  go_fit (gRound_any (PN.mk' ha1 ha2) (PN.mk' hq1 hq2) (by omega) (by omega) (by omega) (by omega) H0.out)
  rintro e w_6 ⟨_, _, rfl, ⟨n_ga, o_ga, k_ga, c_ga, n_gb, o_gb, k_gb, c_gb, rfl, g1, g2⟩, ⟨n_ra, o_ra, k_ra, c_ra, n_rb, o_rb, k_rb, c_rb, rfl, r1, r2⟩, hb_6⟩
  replace hs := hs.bl hb_6
  have Lg1 := hide (g1.lenOf (rnd_len (H0.out) (zlen_gT1 (ha1.len) (ha2.len) (hq1.len) (hq2.len))))
  have Lg2 := hide (g2.lenOf (rnd_len (H0.out) (zlen_gT2 (ha1.len) (ha2.len) (hq1.len) (hq2.len))))
  have Lr1 := hide (r1.lenOf (zlen_gR1 (ha1.len) (ha2.len) (hq1.len) (hq2.len) (H0.out)))
  have Lr2 := hide (r2.lenOf (zlen_gR2 (ha1.len) (ha2.len) (hq1.len) (hq2.len) (H0.out)))
  refine hK _ _ rfl trivial ?_
  clear hK K
  refine sq ?_
  refine .mv ?_
  refine sq ?_
  refine .r0 ?_
  refine sq ?_
  refine .r0 ?_
  refine sq ?_
  refine .r0 ?_
  refine sq ?_
  refine .al hs ?_; clear hs; intro p_b4 w_7 hs n7 kb_b4
  refine sq ?_
  refine .al hs ?_; clear hs; intro p_b5 w_8 hs n8 kb_b5
  refine sq ?_
  refine .s4 hs.g1 (fun _ => hs.u1 kb_b4) ?_; clear hs; intro w_9 hs hd9 ho9
  refine sq ?_
  refine .s4 hs.g0 (fun _ => hs.u0 kb_b5) ?_; clear hs; intro w_10 hs hd10 ho10
  refine sq ?_
  refine .mv ?_
  apply wpSq_end
  refine hK6 _ _ ?_
  refine wp_seq_k ?_
  intro K7 hK7
  refine rg [0, 1] ?_
  refine sq ?_
  refine .r4 hs.g1.f4 ?_
  refine sq ?_
  refine .s4 hs.g2 (fun _ => hs.u2 kb_b3) ?_; clear hs; intro w_11 hs hd11 ho11
  clear ha1 ha2 hq1 hq2 r1 r2
  apply wpSq_end
  refine hK7 _ _ ?_
  refine wp_ret ?_
  try dsimp only [Exit.then, Exit.inBlock]
  obtain ⟨r0_0, r0_1, r0_2, r0_3⟩ := hs.g2.f4
  refine bodyPost_ret (v := (.agg #[.bool n_ga, .slice o_ga k_ga c_ga, .bool n_gb, .slice o_gb k_gb c_gb])) (by simp [results, Tryz.results41, go_sem, r0_0, r0_1, r0_2, r0_3]) rfl ?_
  have k6_11 := ((((kb n7).b n8).o hd9 ho9).o hd10 ho10).o hd11 ho11
  replace g1 := g1.k k6_11
  replace g2 := g2.k k6_11
  exact ⟨_, rfl, .mk' g1 g2, hs.b⟩
set_option maxHeartbeats 4000000 in
set_option maxRecDepth 20000 in
theorem quot_far {cut : Nat} (ha : PN w va x l y m) (hq : PN w vb u k v n) (hl : l ≤ 8000000) (hm : m ≤ 8000000) (hk : k ≤ 8000000) (hn : n ≤ 8000000) (h0 : gN u v ≠ 0) (hc : gdig u v = cut + 5) (hc0 : 0 < cut) (h2 : gdig x y ≤ gdig u v + 1) (hf : far (gR1 (tp x cut) (tp y cut) (tp u cut) (tp v cut)) (gR2 (tp x cut) (tp y cut) (tp u cut) (tp v cut)) (tp u cut) (tp v cut)) :
    Calls Tryz.prog 41 #[va, vb] w fun e w' => ∃ r, e = .returned r ∧ PC w' r (gQ1 x y u v) (gQ2 x y u v) ∧ Below w.heap.size w w' := by
  obtain ⟨hn0, hq1', hq2'⟩ := quot_top hc h2 hf
  have EQ := hide (And.intro hq1' hq2')
  have H0 := hide h0
  obtain ⟨S, hS⟩ : ∃ S, gdig u v = S := ⟨_, rfl⟩
  obtain ⟨D, hD⟩ : ∃ D, gdig x y = D := ⟨_, rfl⟩
  have hSb : S ≤ 16000000 := by rw [← hS]; exact gdig_le hq.len1 hq.len2 hk hn
  have hDb : D ≤ 16000000 := by rw [← hD]; exact gdig_le ha.len1 ha.len2 hl hm
  rw [hS] at hc h2
  rw [hD] at h2
  have HS := hide hS
  have HD := hide hD
  have hsub : (S : Int) - 5 = (cut : Int) := by omega
  have hg : (0 < (cut : Int)) = True := eq_true (by omega)
  have hg1 : (0 < cut) = True := eq_true hc0
  have hg2 : ((D : Int) ≤ (S : Int) + 1) = True := eq_true (by omega)
  have hg3 : (D ≤ S + 1) = True := eq_true h2
  have HN := hide hn0
  have HF := hide hf
  have LA := hide (And.intro (tp_len (k := cut) ha.len1) (tp_len (k := cut) ha.len2))
  clear h0 hS hD hf hn0 hq1' hq2'
  obtain ⟨n_0a, o_0a, k_0a, c_0a, n_0b, o_0b, k_0b, c_0b, rfl, ha1, ha2⟩ := ha
  obtain ⟨n_1a, o_1a, k_1a, c_1a, n_1b, o_1b, k_1b, c_1b, rfl, hq1, hq2⟩ := hq
  go_enter Tryz.func41, Tryz.ntmps41
  have hs := St.nil w
  refine wp_seq_k ?_
  intro K1 hK1
  refine rg [0, 1, 2] ?_
  refine sq ?_
  refine .al hs ?_; clear hs; intro p_b1 w_1 hs n1 kb_b1
  refine sq ?_
  refine .al hs ?_; clear hs; intro p_b2 w_2 hs n2 kb_b2
  refine sq ?_
  refine .al hs ?_; clear hs; intro p_b3 w_3 hs n3 kb_b3
  apply wpSq_end
  refine hK1 _ _ ?_
  refine wp_seq_k ?_
  intro K2 hK2
  refine rg [0, 1, 2] ?_
  refine sq ?_
  refine .r4 hs.g1.f4 ?_
  refine sq ?_
  intro K hK
  have k0_3 := ((kb n1).b n2).b n3
  replace hq1 := hq1.k k0_3
  replace hq2 := hq2.k k0_3
  go_big_op
  go_fit (gdigits_any (PN.mk' hq1 hq2) (by omega) (by omega))
  rintro e w_4 ⟨rfl, hb_4⟩
  replace hs := hs.bl hb_4
  rw [HS.out]
  refine hK _ _ rfl trivial ?_
  clear hK K
  refine sq ?_
  refine .mv ?_
  apply wpSq_end
  refine hK2 _ _ ?_
  refine wp_seq_k ?_
  intro K3 hK3
  refine wp_seq_k ?_
  intro K4 hK4
  refine rg [0, 1, 2] ?_
  refine sq ?_
  refine .mv ?_
  refine sq ?_
  refine .r0 ?_
  refine sq ?_
  refine .mv ?_
  apply wpSq_end
  refine hK4 _ _ ?_
  refine wp_seq_k ?_
  intro K5 hK5
  refine rg [0, 1, 2, 3, 4, 5, 6, 7, 8] ?_
  refine sq ?_
  refine .mv ?_
  refine sq ?_
  refine .r0 ?_
  refine sq ?_
  refine .mv ?_
  refine sq ?_
  refine .r4 hs.g2.f4 ?_
  refine sq ?_
  intro K hK
  have k0_4 := k0_3.b hb_4
  replace ha1 := ha1.k k0_4
  replace ha2 := ha2.k k0_4
  go_big_op
  go_fit (gdigits_any (PN.mk' ha1 ha2) (by omega) (by omega))
  rintro e w_5 ⟨rfl, hb_5⟩
  replace hs := hs.bl hb_5
  rw [HD.out]
  refine hK _ _ rfl trivial ?_
  clear hK K
  refine sq ?_
  refine .mv ?_
  refine sq ?_
  refine .r0 ?_
  refine sq ?_
  refine .r0 ?_
  refine sq ?_
  refine .r0 ?_
  apply wpSq_end
  refine hK5 _ _ ?_
  refine ct ?_
  refine wp_seq_k ?_
  intro K6 hK6
  refine rg [0, 1, 2, 3, 4] ?_
  refine sq ?_
  refine .r4 hs.g1.f4 ?_
  refine sq ?_
  refine .mv ?_
  refine sq ?_
  intro K hK
  have k3_5 := (kb hb_4).b hb_5
  replace hq1 := hq1.k k3_5
  replace hq2 := hq2.k k3_5
  go_big_op
  go_fit (gtop_any cut (PN.mk' hq1 hq2) (by omega) (by omega) (by omega))
  rintro e w_6 ⟨_, rfl, ⟨n_ta, o_ta, k_ta, c_ta, n_tb, o_tb, k_tb, c_tb, rfl, t1, t2⟩, hb_6⟩
  replace hs := hs.bl hb_6
  refine hK _ _ rfl trivial ?_
  clear hK K
  refine sq ?_
  refine .al hs ?_; clear hs; intro p_b4 w_7 hs n7 kb_b4
  refine sq ?_
  refine .s4 hs.g0 (fun _ => hs.u0 kb_b4) ?_; clear hs; intro w_8 hs hd8 ho8
  apply wpSq_end
  refine hK6 _ _ ?_
  refine wp_seq_k ?_
  intro K7 hK7
  refine wp_region_f4 [(0, false), (1, false), (3, false), (2, true), (4, true), (5, false), (6, false), (7, false), (8, false)] [11, 12, 13] [9, 10] (fun j => if j = 9 then (.cells #[.bool false, .slice none 0 0, .bool false, .slice none 0 0] 29) else (.cells #[.bool false, .slice none 0 0, .bool false, .slice none 0 0] 29)) [0, 99, 99, 1, 99, 99, 99, 99, 99, 99, 99, 99, 99, 99] [] (.c hs.g3 (.c hs.g0 .n)) (fm (fm fn)) fun w_9 n9 => ?_
  replace hs := hs.bl n9
  have hlB := hs.lt; have hkB := hs.k
  refine f4 ?_
  refine fmv ?_
  refine f4 ?_
  refine fl fun w_10 n10 => ?_
  replace hs := hs.bl n10
  intro K hK
  have k4_10 := (((((kb hb_5).b hb_6).b n7).o hd8 ho8).b n9).b n10
  replace ha1 := ha1.k k4_10
  replace ha2 := ha2.k k4_10
  go_big_op
  go_fit (gtop_any cut (PN.mk' ha1 ha2) (by omega) (by omega) (by omega))
  rintro e w_11 ⟨_, rfl, ⟨n_sa, o_sa, k_sa, c_sa, n_sb, o_sb, k_sb, c_sb, rfl, s1, s2⟩, hb_11⟩
  replace hs := hs.bl hb_11
  refine hK _ _ rfl ⟨hb_11, (And.intro hs.g3 (And.intro hs.g0 trivial))⟩ ?_
  clear hK K
  refine fl fun w_12 n12 => ?_
  replace hs := hs.bl n12
  intro K hK
  have k11_12 := kb n12
  replace s1 := s1.k k11_12
  replace s2 := s2.k k11_12
  have k6_12 := (((((kb n7).o hd8 ho8).b n9).b n10).b hb_11).b n12
  replace t1 := t1.k k6_12
  replace t2 := t2.k k6_12
  go_big_op
  go_fit (gRound_any (PN.mk' s1 s2) (PN.mk' t1 t2) (by omega) (by omega) (by omega) (by omega) HN.out)
  rintro e w_13 ⟨_, _, rfl, ⟨n_ga, o_ga, k_ga, c_ga, n_gb, o_gb, k_gb, c_gb, rfl, g1, g2⟩, ⟨n_ra, o_ra, k_ra, c_ra, n_rb, o_rb, k_rb, c_rb, rfl, r1, r2⟩, hb_13⟩
  replace hs := hs.bl hb_13
  have Lg1 := hide (g1.lenOf (rnd_len (HN.out) (zlen_gT1 (s1.len) (s2.len) (t1.len) (t2.len))))
  have Lg2 := hide (g2.lenOf (rnd_len (HN.out) (zlen_gT2 (s1.len) (s2.len) (t1.len) (t2.len))))
  have Lr1 := hide (r1.lenOf (zlen_gR1 (s1.len) (s2.len) (t1.len) (t2.len) (HN.out)))
  have Lr2 := hide (r2.lenOf (zlen_gR2 (s1.len) (s2.len) (t1.len) (t2.len) (HN.out)))
  refine hK _ _ rfl ⟨hb_13, (And.intro hs.g3 (And.intro hs.g0 trivial))⟩ ?_
  clear hK K
  refine fmv ?_
  refine f0 ?_
  refine f0 ?_
  refine f0 ?_
  refine e2 hs hlB hkB ?_; clear hs hlB hkB; intro w_14 p_b5 p_b6 hs n14 kb_b5 kb_b6
  refine tl ?_
  refine .s4 hs.g0 (fun _ => hs.u0 kb_b5) ?_ (e := fun _ hs => (And.intro hs.g5 (And.intro hs.g2 True.intro))); clear hs; intro w_15 hs hd15 ho15
  refine tl ?_
  refine .s4 hs.g1 (fun _ => hs.u1 kb_b6) ?_ (e := fun _ hs => (And.intro hs.g5 (And.intro hs.g2 True.intro))); clear hs; intro w_16 hs hd16 ho16
  refine tl ?_
  refine .mv ?_ (e := (And.intro hs.g5 (And.intro hs.g2 True.intro)))
  apply wpTail_end
  refine hK7 _ _ ?_
  refine wp_seq_k ?_
  intro K8 hK8
  refine rg [0, 1, 2] ?_
  refine sq ?_
  refine .r4 hs.g1.f4 ?_
  refine sq ?_
  refine .r4 hs.g2.f4 ?_
  refine sq ?_
  intro K hK
  have k13_16 := ((kb n14).o hd15 ho15).o hd16 ho16
  replace r1 := r1.k k13_16
  have k12_16 := (((kb hb_13).b n14).o hd15 ho15).o hd16 ho16
  replace t1 := t1.k k12_16
  replace t2 := t2.k k12_16
  replace r2 := r2.k k13_16
  go_big_op
  go_fit (far_yes (.mk' (r1.zn (gR_len HN.out t1.len t2.len).1) (r2.zn (gR_len HN.out t1.len t2.len).2)) (PN.mk' t1 t2) (by omega) (by omega) (by omega) (by omega) HF.out.1 HF.out.2)
  rintro e w_17 ⟨rfl, hb_17⟩
  replace hs := hs.bl hb_17
  refine hK _ _ rfl trivial ?_
  clear hK K
  apply wpSq_end
  refine hK8 _ _ ?_
  refine ct ?_
  refine wp_seq_k ?_
  intro K9 hK9
  refine rg [0, 1] ?_
  refine sq ?_
  refine .r4 hs.g0.f4 ?_
  refine sq ?_
  refine .s4 hs.g3 (fun _ => hs.u3 kb_b3) ?_; clear hs; intro w_18 hs hd18 ho18
  clear s1 s2 t1 t2 r1 r2
  apply wpSq_end
  refine hK9 _ _ ?_
  refine wp_ret ?_
  have k13_18 := (k13_16.b hb_17).o hd18 ho18
  replace g1 := g1.k k13_18
  rw [EQ.out.1] at g1
  replace g2 := g2.k k13_18
  rw [EQ.out.2] at g2
  try dsimp only [Exit.then, Exit.inBlock]
  obtain ⟨r0_0, r0_1, r0_2, r0_3⟩ := hs.g3.f4
  refine bodyPost_ret (v := (.agg #[.bool n_ga, .slice o_ga k_ga c_ga, .bool n_gb, .slice o_gb k_gb c_gb])) (by simp [results, Tryz.results41, go_sem, r0_0, r0_1, r0_2, r0_3]) rfl ?_
  exact ⟨_, rfl, .mk' g1 g2, hs.b⟩
set_option maxHeartbeats 4000000 in
set_option maxRecDepth 20000 in
theorem quot_near {cut : Nat} (ha : PN w va x l y m) (hq : PN w vb u k v n) (hl : l ≤ 8000000) (hm : m ≤ 8000000) (hk : k ≤ 8000000) (hn : n ≤ 8000000) (h0 : gN u v ≠ 0) (hc : gdig u v = cut + 5) (hc0 : 0 < cut) (h2 : gdig x y ≤ gdig u v + 1) (hn0 : gN (tp u cut) (tp v cut) ≠ 0) (hf : ¬ far (gR1 (tp x cut) (tp y cut) (tp u cut) (tp v cut)) (gR2 (tp x cut) (tp y cut) (tp u cut) (tp v cut)) (tp u cut) (tp v cut)) :
    Calls Tryz.prog 41 #[va, vb] w fun e w' => ∃ r, e = .returned r ∧ PC w' r (gQ1 x y u v) (gQ2 x y u v) ∧ Below w.heap.size w w' := by
  have H0 := hide h0
  obtain ⟨S, hS⟩ : ∃ S, gdig u v = S := ⟨_, rfl⟩
  obtain ⟨D, hD⟩ : ∃ D, gdig x y = D := ⟨_, rfl⟩
  have hSb : S ≤ 16000000 := by rw [← hS]; exact gdig_le hq.len1 hq.len2 hk hn
  have hDb : D ≤ 16000000 := by rw [← hD]; exact gdig_le ha.len1 ha.len2 hl hm
  rw [hS] at hc h2
  rw [hD] at h2
  have HS := hide hS
  have HD := hide hD
  have hsub : (S : Int) - 5 = (cut : Int) := by omega
  have hg : (0 < (cut : Int)) = True := eq_true (by omega)
  have hg1 : (0 < cut) = True := eq_true hc0
  have hg2 : ((D : Int) ≤ (S : Int) + 1) = True := eq_true (by omega)
  have hg3 : (D ≤ S + 1) = True := eq_true h2
  have HN := hide hn0
  have HF := hide hf
  have LA := hide (And.intro (tp_len (k := cut) ha.len1) (tp_len (k := cut) ha.len2))
  clear h0 hS hD hf hn0
  obtain ⟨n_0a, o_0a, k_0a, c_0a, n_0b, o_0b, k_0b, c_0b, rfl, ha1, ha2⟩ := ha
  obtain ⟨n_1a, o_1a, k_1a, c_1a, n_1b, o_1b, k_1b, c_1b, rfl, hq1, hq2⟩ := hq
  go_enter Tryz.func41, Tryz.ntmps41
  have hs := St.nil w
  refine wp_seq_k ?_
  intro K1 hK1
  refine rg [0, 1, 2] ?_
  refine sq ?_
  refine .al hs ?_; clear hs; intro p_b1 w_1 hs n1 kb_b1
  refine sq ?_
  refine .al hs ?_; clear hs; intro p_b2 w_2 hs n2 kb_b2
  refine sq ?_
  refine .al hs ?_; clear hs; intro p_b3 w_3 hs n3 kb_b3
  apply wpSq_end
  refine hK1 _ _ ?_
  refine wp_seq_k ?_
  intro K2 hK2
  refine rg [0, 1, 2] ?_
  refine sq ?_
  refine .r4 hs.g1.f4 ?_
  refine sq ?_
  intro K hK
  have k0_3 := ((kb n1).b n2).b n3
  replace hq1 := hq1.k k0_3
  replace hq2 := hq2.k k0_3
  go_big_op
  go_fit (gdigits_any (PN.mk' hq1 hq2) (by omega) (by omega))
  rintro e w_4 ⟨rfl, hb_4⟩
  replace hs := hs.bl hb_4
  rw [HS.out]
  refine hK _ _ rfl trivial ?_
  clear hK K
  refine sq ?_
  refine .mv ?_
  apply wpSq_end
  refine hK2 _ _ ?_
  refine wp_seq_k ?_
  intro K3 hK3
  refine wp_seq_k ?_
  intro K4 hK4
  refine rg [0, 1, 2] ?_
  refine sq ?_
  refine .mv ?_
  refine sq ?_
  refine .r0 ?_
  refine sq ?_
  refine .mv ?_
  apply wpSq_end
  refine hK4 _ _ ?_
  refine wp_seq_k ?_
  intro K5 hK5
  refine rg [0, 1, 2, 3, 4, 5, 6, 7, 8] ?_
  refine sq ?_
  refine .mv ?_
  refine sq ?_
  refine .r0 ?_
  refine sq ?_
  refine .mv ?_
  refine sq ?_
  refine .r4 hs.g2.f4 ?_
  refine sq ?_
  intro K hK
  have k0_4 := k0_3.b hb_4
  replace ha1 := ha1.k k0_4
  replace ha2 := ha2.k k0_4
  go_big_op
  go_fit (gdigits_any (PN.mk' ha1 ha2) (by omega) (by omega))
  rintro e w_5 ⟨rfl, hb_5⟩
  replace hs := hs.bl hb_5
  rw [HD.out]
  refine hK _ _ rfl trivial ?_
  clear hK K
  refine sq ?_
  refine .mv ?_
  refine sq ?_
  refine .r0 ?_
  refine sq ?_
  refine .r0 ?_
  refine sq ?_
  refine .r0 ?_
  apply wpSq_end
  refine hK5 _ _ ?_
  refine ct ?_
  refine wp_seq_k ?_
  intro K6 hK6
  refine rg [0, 1, 2, 3, 4] ?_
  refine sq ?_
  refine .r4 hs.g1.f4 ?_
  refine sq ?_
  refine .mv ?_
  refine sq ?_
  intro K hK
  have k3_5 := (kb hb_4).b hb_5
  replace hq1 := hq1.k k3_5
  replace hq2 := hq2.k k3_5
  go_big_op
  go_fit (gtop_any cut (PN.mk' hq1 hq2) (by omega) (by omega) (by omega))
  rintro e w_6 ⟨_, rfl, ⟨n_ta, o_ta, k_ta, c_ta, n_tb, o_tb, k_tb, c_tb, rfl, t1, t2⟩, hb_6⟩
  replace hs := hs.bl hb_6
  refine hK _ _ rfl trivial ?_
  clear hK K
  refine sq ?_
  refine .al hs ?_; clear hs; intro p_b4 w_7 hs n7 kb_b4
  refine sq ?_
  refine .s4 hs.g0 (fun _ => hs.u0 kb_b4) ?_; clear hs; intro w_8 hs hd8 ho8
  apply wpSq_end
  refine hK6 _ _ ?_
  refine wp_seq_k ?_
  intro K7 hK7
  refine wp_region_f4 [(0, false), (1, false), (3, false), (2, true), (4, true), (5, false), (6, false), (7, false), (8, false)] [11, 12, 13] [9, 10] (fun j => if j = 9 then (.cells #[.bool false, .slice none 0 0, .bool false, .slice none 0 0] 29) else (.cells #[.bool false, .slice none 0 0, .bool false, .slice none 0 0] 29)) [0, 99, 99, 1, 99, 99, 99, 99, 99, 99, 99, 99, 99, 99] [] (.c hs.g3 (.c hs.g0 .n)) (fm (fm fn)) fun w_9 n9 => ?_
  replace hs := hs.bl n9
  have hlB := hs.lt; have hkB := hs.k
  refine f4 ?_
  refine fmv ?_
  refine f4 ?_
  refine fl fun w_10 n10 => ?_
  replace hs := hs.bl n10
  intro K hK
  have k4_10 := (((((kb hb_5).b hb_6).b n7).o hd8 ho8).b n9).b n10
  replace ha1 := ha1.k k4_10
  replace ha2 := ha2.k k4_10
  go_big_op
  go_fit (gtop_any cut (PN.mk' ha1 ha2) (by omega) (by omega) (by omega))
  rintro e w_11 ⟨_, rfl, ⟨n_sa, o_sa, k_sa, c_sa, n_sb, o_sb, k_sb, c_sb, rfl, s1, s2⟩, hb_11⟩
  replace hs := hs.bl hb_11
  refine hK _ _ rfl ⟨hb_11, (And.intro hs.g3 (And.intro hs.g0 trivial))⟩ ?_
  clear hK K
  refine fl fun w_12 n12 => ?_
  replace hs := hs.bl n12
  intro K hK
  have k11_12 := kb n12
  replace s1 := s1.k k11_12
  replace s2 := s2.k k11_12
  have k6_12 := (((((kb n7).o hd8 ho8).b n9).b n10).b hb_11).b n12
  replace t1 := t1.k k6_12
  replace t2 := t2.k k6_12
  go_big_op
  go_fit (gRound_any (PN.mk' s1 s2) (PN.mk' t1 t2) (by omega) (by omega) (by omega) (by omega) HN.out)
  rintro e w_13 ⟨_, _, rfl, ⟨n_ga, o_ga, k_ga, c_ga, n_gb, o_gb, k_gb, c_gb, rfl, g1, g2⟩, ⟨n_ra, o_ra, k_ra, c_ra, n_rb, o_rb, k_rb, c_rb, rfl, r1, r2⟩, hb_13⟩
  replace hs := hs.bl hb_13
  have Lg1 := hide (g1.lenOf (rnd_len (HN.out) (zlen_gT1 (s1.len) (s2.len) (t1.len) (t2.len))))
  have Lg2 := hide (g2.lenOf (rnd_len (HN.out) (zlen_gT2 (s1.len) (s2.len) (t1.len) (t2.len))))
  have Lr1 := hide (r1.lenOf (zlen_gR1 (s1.len) (s2.len) (t1.len) (t2.len) (HN.out)))
  have Lr2 := hide (r2.lenOf (zlen_gR2 (s1.len) (s2.len) (t1.len) (t2.len) (HN.out)))
  refine hK _ _ rfl ⟨hb_13, (And.intro hs.g3 (And.intro hs.g0 trivial))⟩ ?_
  clear hK K
  refine fmv ?_
  refine f0 ?_
  refine f0 ?_
  refine f0 ?_
  refine e2 hs hlB hkB ?_; clear hs hlB hkB; intro w_14 p_b5 p_b6 hs n14 kb_b5 kb_b6
  refine tl ?_
  refine .s4 hs.g0 (fun _ => hs.u0 kb_b5) ?_ (e := fun _ hs => (And.intro hs.g5 (And.intro hs.g2 True.intro))); clear hs; intro w_15 hs hd15 ho15
  refine tl ?_
  refine .s4 hs.g1 (fun _ => hs.u1 kb_b6) ?_ (e := fun _ hs => (And.intro hs.g5 (And.intro hs.g2 True.intro))); clear hs; intro w_16 hs hd16 ho16
  refine tl ?_
  refine .mv ?_ (e := (And.intro hs.g5 (And.intro hs.g2 True.intro)))
  apply wpTail_end
  refine hK7 _ _ ?_
  refine wp_seq_k ?_
  intro K8 hK8
  refine rg [0, 1, 2] ?_
  refine sq ?_
  refine .r4 hs.g1.f4 ?_
  refine sq ?_
  refine .r4 hs.g2.f4 ?_
  refine sq ?_
  intro K hK
  have k13_16 := ((kb n14).o hd15 ho15).o hd16 ho16
  replace r1 := r1.k k13_16
  have k12_16 := (((kb hb_13).b n14).o hd15 ho15).o hd16 ho16
  replace t1 := t1.k k12_16
  replace t2 := t2.k k12_16
  replace r2 := r2.k k13_16
  go_big_op
  go_fit (far_no (.mk' (r1.zn (gR_len HN.out t1.len t2.len).1) (r2.zn (gR_len HN.out t1.len t2.len).2)) (PN.mk' t1 t2) (by omega) (by omega) (by omega) (by omega) HF.out)
  rintro e w_17 ⟨rfl, hb_17⟩
  replace hs := hs.bl hb_17
  refine hK _ _ rfl trivial ?_
  clear hK K
  apply wpSq_end
  refine hK8 _ _ ?_
  refine cf ?_
  refine wp_skip ?_
  refine hK3 _ _ ?_
  refine wp_seq_k ?_
  intro K9 hK9
  refine rg [0, 1, 2, 3, 4, 5, 6, 7, 8, 9, 10, 11] ?_
  refine sq ?_
  refine .r4 hs.g5.f4 ?_
  refine sq ?_
  refine .r4 hs.g4.f4 ?_
  refine sq ?_
  intro K hK
  have k10_17 := ((((((kb hb_11).b n12).b hb_13).b n14).o hd15 ho15).o hd16 ho16).b hb_17
  replace ha1 := ha1.k k10_17
  replace ha2 := ha2.k k10_17
  have k5_17 := (((((((((((kb hb_6).b n7).o hd8 ho8).b n9).b n10).b hb_11).b n12).b hb_13).b n14).o hd15 ho15).o hd16 ho16).b hb_17
  replace hq1 := hq1.k k5_17
  replace hq2 := hq2.k k5_17
  go_big_op
  go_fit (gRound_any (PN.mk' ha1 ha2) (PN.mk' hq1 hq2) (by omega) (by omega) (by omega) (by omega) H0.out)
  rintro e w_18 ⟨_, _, rfl, ⟨n_oa, o_oa, k_oa, c_oa, n_ob, o_ob, k_ob, c_ob, rfl, o1, o2⟩, ⟨n_qa, o_qa, k_qa, c_qa, n_qb, o_qb, k_qb, c_qb, rfl, q1, q2⟩, hb_18⟩
  clear s1 s2 t1 t2 g1 g2 r1 r2
  replace hs := hs.bl hb_18
  have Lo1 := hide (o1.lenOf (rnd_len (H0.out) (zlen_gT1 (ha1.len) (ha2.len) (hq1.len) (hq2.len))))
  have Lo2 := hide (o2.lenOf (rnd_len (H0.out) (zlen_gT2 (ha1.len) (ha2.len) (hq1.len) (hq2.len))))
  have Lq1 := hide (q1.lenOf (zlen_gR1 (ha1.len) (ha2.len) (hq1.len) (hq2.len) (H0.out)))
  have Lq2 := hide (q2.lenOf (zlen_gR2 (ha1.len) (ha2.len) (hq1.len) (hq2.len) (H0.out)))
  refine hK _ _ rfl trivial ?_
  clear hK K
  refine sq ?_
  refine .mv ?_
  refine sq ?_
  refine .r0 ?_
  refine sq ?_
  refine .r0 ?_
  refine sq ?_
  refine .r0 ?_
  refine sq ?_
  refine .al hs ?_; clear hs; intro p_b7 w_19 hs n19 kb_b7
  refine sq ?_
  refine .al hs ?_; clear hs; intro p_b8 w_20 hs n20 kb_b8
  refine sq ?_
  refine .s4 hs.g1 (fun _ => hs.u1 kb_b7) ?_; clear hs; intro w_21 hs hd21 ho21
  refine sq ?_
  refine .s4 hs.g0 (fun _ => hs.u0 kb_b8) ?_; clear hs; intro w_22 hs hd22 ho22
  refine sq ?_
  refine .mv ?_
  apply wpSq_end
  refine hK9 _ _ ?_
  refine wp_seq_k ?_
  intro K10 hK10
  refine rg [0, 1] ?_
  refine sq ?_
  refine .r4 hs.g1.f4 ?_
  refine sq ?_
  refine .s4 hs.g5 (fun _ => hs.u5 kb_b3) ?_; clear hs; intro w_23 hs hd23 ho23
  clear ha1 ha2 hq1 hq2 q1 q2
  apply wpSq_end
  refine hK10 _ _ ?_
  refine wp_ret ?_
  try dsimp only [Exit.then, Exit.inBlock]
  obtain ⟨r0_0, r0_1, r0_2, r0_3⟩ := hs.g5.f4
  refine bodyPost_ret (v := (.agg #[.bool n_oa, .slice o_oa k_oa c_oa, .bool n_ob, .slice o_ob k_ob c_ob])) (by simp [results, Tryz.results41, go_sem, r0_0, r0_1, r0_2, r0_3]) rfl ?_
  have k18_23 := ((((kb n19).b n20).o hd21 ho21).o hd22 ho22).o hd23 ho23
  replace o1 := o1.k k18_23
  replace o2 := o2.k k18_23
  exact ⟨_, rfl, .mk' o1 o2, hs.b⟩
theorem quot_any (ha : PN w va x l y m) (hq : PN w vb u k v n) (hl : l ≤ 2400000) (hm : m ≤ 2400000) (hk : k ≤ 2400000) (hn : n ≤ 2400000) (h0 : gN u v ≠ 0) :
    Calls Tryz.prog 41 #[va, vb] w fun e w' => ∃ r, e = .returned r ∧ PC w' r (gQ1 x y u v) (gQ2 x y u v) ∧ Below w.heap.size w w' := by
  by_cases h1 : gdig u v ≤ 5
  · exact quot_small ha hq (by omega) (by omega) (by omega) (by omega) h0 h1
  by_cases h2 : gdig u v + 1 < gdig x y
  · exact quot_long ha hq (by omega) (by omega) (by omega) (by omega) h0 (by omega) h2
  obtain ⟨cut, hc⟩ : ∃ cut, gdig u v = cut + 5 := ⟨gdig u v - 5, by omega⟩
  by_cases hf : far (gR1 (tp x cut) (tp y cut) (tp u cut) (tp v cut)) (gR2 (tp x cut) (tp y cut) (tp u cut) (tp v cut)) (tp u cut) (tp v cut)
  · exact quot_far ha hq (by omega) (by omega) (by omega) (by omega) h0 hc (by omega) (by omega) hf
  · exact quot_near ha hq (by omega) (by omega) (by omega) (by omega) h0 hc (by omega) (by omega) (tp_ne hc (by omega)) hf
end
structure GS where
  r1 : Int
  r2 : Int
  x1 : Int
  x2 : Int
  y1 : Int
  y2 : Int
  s1 : Int
  s2 : Int
  u1 : Int
  u2 : Int
  v1 : Int
  v2 : Int
/-- One division further. -/
def GS.step (t : GS) : GS :=
  let q1 := gQ1 t.r1 t.r2 t.s1 t.s2
  let q2 := gQ2 t.r1 t.r2 t.s1 t.s2
  { r1 := t.s1, r2 := t.s2, x1 := t.u1, x2 := t.u2, y1 := t.v1, y2 := t.v2
    s1 := t.r1 - (q1 * t.s1 - q2 * t.s2), s2 := t.r2 - (q1 * t.s2 + q2 * t.s1)
    u1 := t.x1 - (q1 * t.u1 - q2 * t.u2), u2 := t.x2 - (q1 * t.u2 + q2 * t.u1)
    v1 := t.y1 - (q1 * t.v1 - q2 * t.v2), v2 := t.y2 - (q1 * t.v2 + q2 * t.v1) }
def gfin : Nat → GS → GS
  | 0, t => t
  | n + 1, t => if gN t.s1 t.s2 = 0 then t else gfin n t.step
theorem gfin_done {n : Nat} {t : GS} (h : gN t.s1 t.s2 = 0) : gfin n t = t := by
  cases n with
  | zero => rfl
  | succ n => unfold gfin; rw [if_pos h]
theorem step_less {t : GS} (h : gN t.s1 t.s2 ≠ 0) : gN t.step.s1 t.step.s2 + gN t.step.s1 t.step.s2 ≤ gN t.s1 t.s2 := gR_half h
theorem gfin_fuel : ∀ (n m : Nat) (t : GS), (gN t.s1 t.s2).toNat ≤ n → (gN t.s1 t.s2).toNat ≤ m → gfin n t = gfin m t := by
  intro n
  induction n with
  | zero =>
    intro m t h1 h2
    have := gN_nonneg t.s1 t.s2
    rw [gfin_done (by omega), gfin_done (by omega)]
  | succ n ih =>
    intro m t h1 h2
    by_cases h0 : gN t.s1 t.s2 = 0
    · rw [gfin_done h0, gfin_done h0]
    · have hn := gN_nonneg t.s1 t.s2
      have hl := step_less h0
      have hs := gN_nonneg t.step.s1 t.step.s2
      cases m with
      | zero => omega
      | succ m =>
        show (if _ then _ else _) = (if _ then _ else _)
        rw [if_neg h0, if_neg h0]
        exact ih m _ (by omega) (by omega)
/-- Where the divisions end. -/
def GS.fin (t : GS) : GS := gfin (gN t.s1 t.s2).toNat t
theorem fin_done {t : GS} (h : gN t.s1 t.s2 = 0) : t.fin = t := gfin_done h
theorem fin_step {t : GS} (h : gN t.s1 t.s2 ≠ 0) : t.step.fin = t.fin := by
  have hn := gN_nonneg t.s1 t.s2
  have hl := step_less h
  have hs := gN_nonneg t.step.s1 t.step.s2
  unfold GS.fin
  obtain ⟨n, hk⟩ : ∃ n, (gN t.s1 t.s2).toNat = n + 1 := ⟨(gN t.s1 t.s2).toNat - 1, by omega⟩
  rw [hk]
  show _ = (if _ then _ else _)
  rw [if_neg h]
  exact gfin_fuel _ _ _ (Nat.le_refl _) (by omega)
def GS.start (a1 a2 b1 b2 : Int) : GS := { r1 := a1, r2 := a2, x1 := 1, x2 := 0, y1 := 0, y2 := 0, s1 := b1, s2 := b2, u1 := 0, u2 := 0, v1 := 1, v2 := 0 }
/-- What each division keeps. -/
structure GI (a1 a2 b1 b2 : Int) (t : GS) : Prop where
  r : t.r1 = a1 * t.x1 - a2 * t.x2 + (b1 * t.y1 - b2 * t.y2) ∧ t.r2 = a1 * t.x2 + a2 * t.x1 + (b1 * t.y2 + b2 * t.y1)
  s : t.s1 = a1 * t.u1 - a2 * t.u2 + (b1 * t.v1 - b2 * t.v2) ∧ t.s2 = a1 * t.u2 + a2 * t.u1 + (b1 * t.v2 + b2 * t.v1)
  c : ∃ e : Int, (e = 1 ∨ e = -1) ∧ (t.r1 * t.u1 - t.r2 * t.u2 - (t.s1 * t.x1 - t.s2 * t.x2) = e * b1 ∧ t.r1 * t.u2 + t.r2 * t.u1 - (t.s1 * t.x2 + t.s2 * t.x1) = e * b2) ∧
    (t.r1 * t.v1 - t.r2 * t.v2 - (t.s1 * t.y1 - t.s2 * t.y2) = -e * a1 ∧ t.r1 * t.v2 + t.r2 * t.v1 - (t.s1 * t.y2 + t.s2 * t.y1) = -e * a2)
  nr : gN t.r1 t.r2 ≤ gN a1 a2 + gN b1 b2
  ns : gN t.s1 t.s2 ≤ gN a1 a2 + gN b1 b2
  nx : gN t.x1 t.x2 ≤ 4 * (gN a1 a2 + gN b1 b2) + 1
  ny : gN t.y1 t.y2 ≤ 4 * (gN a1 a2 + gN b1 b2) + 1
  nu : gN t.u1 t.u2 ≤ 4 * (gN a1 a2 + gN b1 b2) + 1
  nv : gN t.v1 t.v2 ≤ 4 * (gN a1 a2 + gN b1 b2) + 1
  su : gN t.s1 t.s2 * gN t.u1 t.u2 ≤ 2 * (gN a1 a2 + gN b1 b2)
  sv : gN t.s1 t.s2 * gN t.v1 t.v2 ≤ 2 * (gN a1 a2 + gN b1 b2)
  da : ∃ c1 c2 d1 d2 : Int, a1 = t.r1 * c1 - t.r2 * c2 + (t.s1 * d1 - t.s2 * d2) ∧ a2 = t.r1 * c2 + t.r2 * c1 + (t.s1 * d2 + t.s2 * d1)
  db : ∃ c1 c2 d1 d2 : Int, b1 = t.r1 * c1 - t.r2 * c2 + (t.s1 * d1 - t.s2 * d2) ∧ b2 = t.r1 * c2 + t.r2 * c1 + (t.s1 * d2 + t.s2 * d1)
theorem GI.start (a1 a2 b1 b2 : Int) : GI a1 a2 b1 b2 (GS.start a1 a2 b1 b2) := by
  have h1 := gN_nonneg a1 a2
  have h2 := gN_nonneg b1 b2
  have h3 : gN 0 0 = 0 := rfl
  have h4 : gN 1 0 = 1 := rfl
  exact {
    r := by constructor <;> (simp only [GS.start]; grind)
    s := by constructor <;> (simp only [GS.start]; grind)
    c := ⟨-1, .inr rfl, by constructor <;> (simp only [GS.start]; grind), by constructor <;> (simp only [GS.start]; grind)⟩
    nr := by simp only [GS.start]; omega
    ns := by simp only [GS.start]; omega
    nx := by simp only [GS.start]; omega
    ny := by simp only [GS.start]; omega
    nu := by simp only [GS.start]; omega
    nv := by simp only [GS.start]; omega
    su := by simp only [GS.start]; rw [h3]; omega
    sv := by simp only [GS.start]; rw [h4]; omega
    da := ⟨1, 0, 0, 0, by constructor <;> (simp only [GS.start]; grind)⟩
    db := ⟨0, 0, 1, 0, by constructor <;> (simp only [GS.start]; grind)⟩ }
theorem gN_add (a b c d : Int) : gN (a + c) (b + d) ≤ 2 * gN a b + 2 * gN c d := by
  have h1 := msq (a - c)
  have h2 := msq (b - d)
  have e : 2 * gN a b + 2 * gN c d - gN (a + c) (b + d) = (a - c) * (a - c) + (b - d) * (b - d) := by unfold gN; grind
  omega
theorem gN_sgn (e b1 b2 : Int) (he : e = 1 ∨ e = -1) : gN (e * b1) (e * b2) = gN b1 b2 := by
  rcases he with rfl | rfl <;> unfold gN <;> grind
/-- The factors stay short. -/
theorem fac_step {s1 s2 u1 u2 u1' u2' t1 t2 b1 b2 e M : Int} (he : e = 1 ∨ e = -1) (h0 : gN s1 s2 ≠ 0) (hb : gN b1 b2 ≤ M)
    (e1 : s1 * u1' - s2 * u2' = e * b1 + (t1 * u1 - t2 * u2)) (e2 : s1 * u2' + s2 * u1' = e * b2 + (t1 * u2 + t2 * u1))
    (ht : gN t1 t2 + gN t1 t2 ≤ gN s1 s2) (hu : gN s1 s2 * gN u1 u2 ≤ 2 * M) : gN u1' u2' ≤ 4 * M ∧ gN t1 t2 * gN u1' u2' ≤ 2 * M := by
  have h1 := gN_mul s1 s2 u1' u2'
  rw [e1, e2] at h1
  have h2 := gN_add (e * b1) (e * b2) (t1 * u1 - t2 * u2) (t1 * u2 + t2 * u1)
  rw [gN_sgn e b1 b2 he, gN_mul] at h2
  have hn := gN_nonneg u1 u2
  have hn' := gN_nonneg u1' u2'
  have h3 := Int.mul_le_mul_of_nonneg_right ht hn
  have f1 : (gN t1 t2 + gN t1 t2) * gN u1 u2 = 2 * (gN t1 t2 * gN u1 u2) := by grind
  have h4 : gN s1 s2 * gN u1' u2' ≤ 4 * M := by omega
  have h5 := Int.mul_le_mul_of_nonneg_right ht hn'
  have f2 : (gN t1 t2 + gN t1 t2) * gN u1' u2' = 2 * (gN t1 t2 * gN u1' u2') := by grind
  have hp := gN_pos h0
  have h6 := Int.mul_le_mul_of_nonneg_right (show (1 : Int) ≤ gN s1 s2 by omega) hn'
  constructor <;> omega
theorem lin1 {r1 s1 s2 a1 a2 b1 b2 x1 x2 y1 y2 u1 u2 v1 v2 : Int} (q1 q2 : Int) (hr : r1 = a1 * x1 - a2 * x2 + (b1 * y1 - b2 * y2)) (h1 : s1 = a1 * u1 - a2 * u2 + (b1 * v1 - b2 * v2)) (h2 : s2 = a1 * u2 + a2 * u1 + (b1 * v2 + b2 * v1)) :
    r1 - (q1 * s1 - q2 * s2) = a1 * (x1 - (q1 * u1 - q2 * u2)) - a2 * (x2 - (q1 * u2 + q2 * u1)) + (b1 * (y1 - (q1 * v1 - q2 * v2)) - b2 * (y2 - (q1 * v2 + q2 * v1))) := by
  rw [hr, h1, h2]; clear hr h1 h2; grind
theorem lin2 {r2 s1 s2 a1 a2 b1 b2 x1 x2 y1 y2 u1 u2 v1 v2 : Int} (q1 q2 : Int) (hr : r2 = a1 * x2 + a2 * x1 + (b1 * y2 + b2 * y1)) (h1 : s1 = a1 * u1 - a2 * u2 + (b1 * v1 - b2 * v2)) (h2 : s2 = a1 * u2 + a2 * u1 + (b1 * v2 + b2 * v1)) :
    r2 - (q1 * s2 + q2 * s1) = a1 * (x2 - (q1 * u2 + q2 * u1)) + a2 * (x1 - (q1 * u1 - q2 * u2)) + (b1 * (y2 - (q1 * v2 + q2 * v1)) + b2 * (y1 - (q1 * v1 - q2 * v2))) := by
  rw [hr, h1, h2]; clear hr h1 h2; grind
theorem crs1 (r1 r2 s1 s2 x1 x2 u1 u2 q1 q2 : Int) : s1 * (x1 - (q1 * u1 - q2 * u2)) - s2 * (x2 - (q1 * u2 + q2 * u1)) - ((r1 - (q1 * s1 - q2 * s2)) * u1 - (r2 - (q1 * s2 + q2 * s1)) * u2) = -(r1 * u1 - r2 * u2 - (s1 * x1 - s2 * x2)) := by grind
theorem crs2 (r1 r2 s1 s2 x1 x2 u1 u2 q1 q2 : Int) : s1 * (x2 - (q1 * u2 + q2 * u1)) + s2 * (x1 - (q1 * u1 - q2 * u2)) - ((r1 - (q1 * s1 - q2 * s2)) * u2 + (r2 - (q1 * s2 + q2 * s1)) * u1) = -(r1 * u2 + r2 * u1 - (s1 * x2 + s2 * x1)) := by grind
theorem dvs1 (r1 r2 s1 s2 p1 p2 p3 p4 q1 q2 : Int) : s1 * (q1 * p1 - q2 * p2 + p3) - s2 * (q1 * p2 + q2 * p1 + p4) + ((r1 - (q1 * s1 - q2 * s2)) * p1 - (r2 - (q1 * s2 + q2 * s1)) * p2) = r1 * p1 - r2 * p2 + (s1 * p3 - s2 * p4) := by grind
theorem dvs2 (r1 r2 s1 s2 p1 p2 p3 p4 q1 q2 : Int) : s1 * (q1 * p2 + q2 * p1 + p4) + s2 * (q1 * p1 - q2 * p2 + p3) + ((r1 - (q1 * s1 - q2 * s2)) * p2 + (r2 - (q1 * s2 + q2 * s1)) * p1) = r1 * p2 + r2 * p1 + (s1 * p4 + s2 * p3) := by grind
theorem GI.step {a1 a2 b1 b2 : Int} {t : GS} (h : GI a1 a2 b1 b2 t) (h0 : gN t.s1 t.s2 ≠ 0) : GI a1 a2 b1 b2 t.step := by
  have hl := step_less h0
  have hpos := gN_nonneg t.step.s1 t.step.s2
  have hA := gN_nonneg a1 a2
  have hB := gN_nonneg b1 b2
  have hns := h.ns
  obtain ⟨e, he, ⟨c1, c2⟩, c3, c4⟩ := h.c
  obtain ⟨hr1, hr2⟩ := h.r
  obtain ⟨hs1, hs2⟩ := h.s
  obtain ⟨p1, p2, p3, p4, hp1, hp2⟩ := h.da
  obtain ⟨o1, o2, o3, o4, ho1, ho2⟩ := h.db
  have hnu := h.nu
  have hnv := h.nv
  have hsu := h.su
  have hsv := h.sv
  clear h
  obtain ⟨r1, r2, x1, x2, y1, y2, s1, s2, u1, u2, v1, v2⟩ := t
  simp only [GS.step] at *
  generalize gQ1 r1 r2 s1 s2 = q1 at *
  generalize gQ2 r1 r2 s1 s2 = q2 at *
  have he' : -e = 1 ∨ -e = -1 := by omega
  have F := fac_step (s1 := s1) (s2 := s2) (u1 := u1) (u2 := u2) (u1' := x1 - (q1 * u1 - q2 * u2)) (u2' := x2 - (q1 * u2 + q2 * u1)) (t1 := r1 - (q1 * s1 - q2 * s2)) (t2 := r2 - (q1 * s2 + q2 * s1)) (b1 := b1) (b2 := b2) (e := -e) (M := gN a1 a2 + gN b1 b2) he' h0 (by omega) (by have := crs1 r1 r2 s1 s2 x1 x2 u1 u2 q1 q2; rw [c1] at this; rw [Int.neg_mul]; omega) (by have := crs2 r1 r2 s1 s2 x1 x2 u1 u2 q1 q2; rw [c2] at this; rw [Int.neg_mul]; omega) hl hsu
  have H := fac_step (s1 := s1) (s2 := s2) (u1 := v1) (u2 := v2) (u1' := y1 - (q1 * v1 - q2 * v2)) (u2' := y2 - (q1 * v2 + q2 * v1)) (t1 := r1 - (q1 * s1 - q2 * s2)) (t2 := r2 - (q1 * s2 + q2 * s1)) (b1 := a1) (b2 := a2) (e := e) (M := gN a1 a2 + gN b1 b2) he h0 (by omega) (by have := crs1 r1 r2 s1 s2 y1 y2 v1 v2 q1 q2; rw [c3, Int.neg_mul] at this; omega) (by have := crs2 r1 r2 s1 s2 y1 y2 v1 v2 q1 q2; rw [c4, Int.neg_mul] at this; omega) hl hsv
  exact {
    r := ⟨hs1, hs2⟩
    s := ⟨lin1 q1 q2 hr1 hs1 hs2, lin2 q1 q2 hr2 hs1 hs2⟩
    c := ⟨-e, he', ⟨by rw [crs1, c1, Int.neg_mul], by rw [crs2, c2, Int.neg_mul]⟩, ⟨by rw [crs1, c3, Int.neg_mul (-e)], by rw [crs2, c4, Int.neg_mul (-e)]⟩⟩
    nr := hns
    ns := by
      have h9 : gN (r1 - (q1 * s1 - q2 * s2)) (r2 - (q1 * s2 + q2 * s1)) ≤ gN a1 a2 + gN b1 b2 := by omega
      exact h9
    nx := hnu
    ny := hnv
    nu := Int.le_trans F.1 (by omega)
    nv := Int.le_trans H.1 (by omega)
    su := F.2
    sv := H.2
    da := ⟨q1 * p1 - q2 * p2 + p3, q1 * p2 + q2 * p1 + p4, p1, p2, by rw [dvs1]; exact hp1, by rw [dvs2]; exact hp2⟩
    db := ⟨q1 * o1 - q2 * o2 + o3, q1 * o2 + q2 * o1 + o4, o1, o2, by rw [dvs1]; exact ho1, by rw [dvs2]; exact ho2⟩ }
/-- What stands in the divisions is hardly longer than the two numbers. -/
theorem len_norm {x y a1 a2 b1 b2 : Int} {l : Nat} (h : gN x y ≤ 4 * (gN a1 a2 + gN b1 b2) + 1) (h1 : (dig a1.natAbs).length ≤ l) (h2 : (dig a2.natAbs).length ≤ l) (h3 : (dig b1.natAbs).length ≤ l) (h4 : (dig b2.natAbs).length ≤ l) :
    (dig x.natAbs).length ≤ l + 1 ∧ (dig y.natAbs).length ≤ l + 1 := by
  have bd : ∀ z : Int, (dig z.natAbs).length ≤ l → -(pw l : Int) ≤ z ∧ z ≤ (pw l : Int) := by
    intro z hz
    have := Nat.lt_of_lt_of_le (lt_pw_dig z.natAbs) (pw_mono hz)
    omega
  have n1 := norm_ge (bd _ h1) (bd _ h2)
  have n2 := norm_ge (bd _ h3) (bd _ h4)
  have hp := pw_pos l
  have hpp : (1 : Int) ≤ (pw l : Int) * (pw l : Int) := by have := Int.mul_le_mul (show (1 : Int) ≤ (pw l : Int) by omega) (show (1 : Int) ≤ (pw l : Int) by omega) (by decide) (by omega); omega
  have e5 : (5 * (pw l : Int)) * (5 * (pw l : Int)) = 25 * ((pw l : Int) * (pw l : Int)) := by grind
  obtain ⟨r1, r2⟩ := norm_le (a := x) (b := y) (A := 5 * (pw l : Int)) (by omega) (by omega)
  have hpw : pw (l + 1) = pw l * 4294967296 := by rw [pw_add]; rfl
  exact ⟨dig_length_le (by omega), dig_length_le (by omega)⟩
section
variable {w : World} {va vb : Value} {x y u v : Int} {l m k n : Nat}
set_option maxHeartbeats 4000000 in
set_option maxRecDepth 20000 in
theorem quarters_mm (w : World) :
    Calls Tryz.prog 34 #[.int .i64 (-1), .int .i64 (-1)] w fun e w' => e = .returned (.int .i64 2) ∧ Below w.heap.size w w' := by
  go_enter Tryz.func34, Tryz.ntmps34
  have hs := St.nil w
  refine wp_seq_k ?_
  intro K1 hK1
  refine rg [0] ?_
  refine sq ?_
  refine .mv ?_
  apply wpSq_end
  refine hK1 _ _ ?_
  refine wp_seq_k ?_
  intro K2 hK2
  refine wp_block ?_
  refine wp_seq_k ?_
  intro K3 hK3
  refine rg [0, 1, 2, 3, 4, 5, 6] ?_
  refine sq ?_
  refine .mv ?_
  refine sq ?_
  refine .r0 ?_
  refine sq ?_
  refine .mv ?_
  refine sq ?_
  refine .mv ?_
  refine sq ?_
  refine .r0 ?_
  refine sq ?_
  refine .r0 ?_
  refine sq ?_
  refine .mv ?_
  apply wpSq_end
  refine hK3 _ _ ?_
  refine cf ?_
  refine wp_seq_k ?_
  intro K4 hK4
  refine rg [0, 1, 2, 3, 4, 5, 6] ?_
  refine sq ?_
  refine .mv ?_
  refine sq ?_
  refine .r0 ?_
  refine sq ?_
  refine .mv ?_
  refine sq ?_
  refine .mv ?_
  refine sq ?_
  refine .r0 ?_
  refine sq ?_
  refine .r0 ?_
  refine sq ?_
  refine .mv ?_
  apply wpSq_end
  refine hK4 _ _ ?_
  refine ct ?_
  refine wp_seq_k ?_
  intro K5 hK5
  refine rg [0] ?_
  refine sq ?_
  refine .mv ?_
  apply wpSq_end
  refine hK5 _ _ ?_
  refine wp_ret ?_
  try dsimp only [Exit.then, Exit.inBlock]
  refine bodyPost_ret (v := (.int .i64 2)) (by simp [results, Tryz.results34, go_sem]) rfl ?_
  have hb := hs.b
  exact ⟨rfl, hb⟩
set_option maxHeartbeats 4000000 in
set_option maxRecDepth 20000 in
theorem quarters_mz (w : World) :
    Calls Tryz.prog 34 #[.int .i64 (-1), .int .i64 0] w fun e w' => e = .returned (.int .i64 2) ∧ Below w.heap.size w w' := by
  go_enter Tryz.func34, Tryz.ntmps34
  have hs := St.nil w
  refine wp_seq_k ?_
  intro K1 hK1
  refine rg [0] ?_
  refine sq ?_
  refine .mv ?_
  apply wpSq_end
  refine hK1 _ _ ?_
  refine wp_seq_k ?_
  intro K2 hK2
  refine wp_block ?_
  refine wp_seq_k ?_
  intro K3 hK3
  refine rg [0, 1, 2, 3, 4, 5, 6] ?_
  refine sq ?_
  refine .mv ?_
  refine sq ?_
  refine .r0 ?_
  refine sq ?_
  refine .mv ?_
  refine sk ?_
  refine sk ?_
  refine sq ?_
  refine .r0 ?_
  refine sq ?_
  refine .mv ?_
  apply wpSq_end
  refine hK3 _ _ ?_
  refine cf ?_
  refine wp_seq_k ?_
  intro K4 hK4
  refine rg [0, 1, 2, 3, 4, 5, 6] ?_
  refine sq ?_
  refine .mv ?_
  refine sq ?_
  refine .r0 ?_
  refine sq ?_
  refine .mv ?_
  refine sq ?_
  refine .mv ?_
  refine sq ?_
  refine .r0 ?_
  refine sq ?_
  refine .r0 ?_
  refine sq ?_
  refine .mv ?_
  apply wpSq_end
  refine hK4 _ _ ?_
  refine ct ?_
  refine wp_seq_k ?_
  intro K5 hK5
  refine rg [0] ?_
  refine sq ?_
  refine .mv ?_
  apply wpSq_end
  refine hK5 _ _ ?_
  refine wp_ret ?_
  try dsimp only [Exit.then, Exit.inBlock]
  refine bodyPost_ret (v := (.int .i64 2)) (by simp [results, Tryz.results34, go_sem]) rfl ?_
  have hb := hs.b
  exact ⟨rfl, hb⟩
set_option maxHeartbeats 4000000 in
set_option maxRecDepth 20000 in
theorem quarters_mp (w : World) :
    Calls Tryz.prog 34 #[.int .i64 (-1), .int .i64 1] w fun e w' => e = .returned (.int .i64 3) ∧ Below w.heap.size w w' := by
  go_enter Tryz.func34, Tryz.ntmps34
  have hs := St.nil w
  refine wp_seq_k ?_
  intro K1 hK1
  refine rg [0] ?_
  refine sq ?_
  refine .mv ?_
  apply wpSq_end
  refine hK1 _ _ ?_
  refine wp_seq_k ?_
  intro K2 hK2
  refine wp_block ?_
  refine wp_seq_k ?_
  intro K3 hK3
  refine rg [0, 1, 2, 3, 4, 5, 6] ?_
  refine sq ?_
  refine .mv ?_
  refine sq ?_
  refine .r0 ?_
  refine sq ?_
  refine .mv ?_
  refine sk ?_
  refine sk ?_
  refine sq ?_
  refine .r0 ?_
  refine sq ?_
  refine .mv ?_
  apply wpSq_end
  refine hK3 _ _ ?_
  refine cf ?_
  refine wp_seq_k ?_
  intro K4 hK4
  refine rg [0, 1, 2, 3, 4, 5, 6] ?_
  refine sq ?_
  refine .mv ?_
  refine sq ?_
  refine .r0 ?_
  refine sq ?_
  refine .mv ?_
  refine sq ?_
  refine .mv ?_
  refine sq ?_
  refine .r0 ?_
  refine sq ?_
  refine .r0 ?_
  refine sq ?_
  refine .mv ?_
  apply wpSq_end
  refine hK4 _ _ ?_
  refine cf ?_
  refine wp_seq_k ?_
  intro K5 hK5
  refine rg [0, 1, 2, 3, 4, 5, 6] ?_
  refine sq ?_
  refine .mv ?_
  refine sq ?_
  refine .r0 ?_
  refine sq ?_
  refine .mv ?_
  refine sq ?_
  refine .mv ?_
  refine sq ?_
  refine .r0 ?_
  refine sq ?_
  refine .r0 ?_
  refine sq ?_
  refine .mv ?_
  apply wpSq_end
  refine hK5 _ _ ?_
  refine ct ?_
  refine wp_seq_k ?_
  intro K6 hK6
  refine rg [0] ?_
  refine sq ?_
  refine .mv ?_
  apply wpSq_end
  refine hK6 _ _ ?_
  refine wp_ret ?_
  try dsimp only [Exit.then, Exit.inBlock]
  refine bodyPost_ret (v := (.int .i64 3)) (by simp [results, Tryz.results34, go_sem]) rfl ?_
  have hb := hs.b
  exact ⟨rfl, hb⟩
set_option maxHeartbeats 4000000 in
set_option maxRecDepth 20000 in
theorem quarters_zm (w : World) :
    Calls Tryz.prog 34 #[.int .i64 0, .int .i64 (-1)] w fun e w' => e = .returned (.int .i64 1) ∧ Below w.heap.size w w' := by
  go_enter Tryz.func34, Tryz.ntmps34
  have hs := St.nil w
  refine wp_seq_k ?_
  intro K1 hK1
  refine rg [0] ?_
  refine sq ?_
  refine .mv ?_
  apply wpSq_end
  refine hK1 _ _ ?_
  refine wp_seq_k ?_
  intro K2 hK2
  refine wp_block ?_
  refine wp_seq_k ?_
  intro K3 hK3
  refine rg [0, 1, 2, 3, 4, 5, 6] ?_
  refine sq ?_
  refine .mv ?_
  refine sq ?_
  refine .r0 ?_
  refine sq ?_
  refine .mv ?_
  refine sq ?_
  refine .mv ?_
  refine sq ?_
  refine .r0 ?_
  refine sq ?_
  refine .r0 ?_
  refine sq ?_
  refine .mv ?_
  apply wpSq_end
  refine hK3 _ _ ?_
  refine ct ?_
  refine wp_seq_k ?_
  intro K4 hK4
  refine rg [0] ?_
  refine sq ?_
  refine .mv ?_
  apply wpSq_end
  refine hK4 _ _ ?_
  refine wp_ret ?_
  try dsimp only [Exit.then, Exit.inBlock]
  refine bodyPost_ret (v := (.int .i64 1)) (by simp [results, Tryz.results34, go_sem]) rfl ?_
  have hb := hs.b
  exact ⟨rfl, hb⟩
set_option maxHeartbeats 4000000 in
set_option maxRecDepth 20000 in
theorem quarters_zz (w : World) :
    Calls Tryz.prog 34 #[.int .i64 0, .int .i64 0] w fun e w' => e = .returned (.int .i64 0) ∧ Below w.heap.size w w' := by
  go_enter Tryz.func34, Tryz.ntmps34
  have hs := St.nil w
  refine wp_seq_k ?_
  intro K1 hK1
  refine rg [0] ?_
  refine sq ?_
  refine .mv ?_
  apply wpSq_end
  refine hK1 _ _ ?_
  refine wp_seq_k ?_
  intro K2 hK2
  refine wp_block ?_
  refine wp_seq_k ?_
  intro K3 hK3
  refine rg [0, 1, 2, 3, 4, 5, 6] ?_
  refine sq ?_
  refine .mv ?_
  refine sq ?_
  refine .r0 ?_
  refine sq ?_
  refine .mv ?_
  refine sk ?_
  refine sk ?_
  refine sq ?_
  refine .r0 ?_
  refine sq ?_
  refine .mv ?_
  apply wpSq_end
  refine hK3 _ _ ?_
  refine cf ?_
  refine wp_seq_k ?_
  intro K4 hK4
  refine rg [0, 1, 2, 3, 4, 5, 6] ?_
  refine sq ?_
  refine .mv ?_
  refine sq ?_
  refine .r0 ?_
  refine sq ?_
  refine .mv ?_
  refine sk ?_
  refine sk ?_
  refine sq ?_
  refine .r0 ?_
  refine sq ?_
  refine .mv ?_
  apply wpSq_end
  refine hK4 _ _ ?_
  refine cf ?_
  refine wp_seq_k ?_
  intro K5 hK5
  refine rg [0, 1, 2, 3, 4, 5, 6] ?_
  refine sq ?_
  refine .mv ?_
  refine sq ?_
  refine .r0 ?_
  refine sq ?_
  refine .mv ?_
  refine sk ?_
  refine sk ?_
  refine sq ?_
  refine .r0 ?_
  refine sq ?_
  refine .mv ?_
  apply wpSq_end
  refine hK5 _ _ ?_
  refine cf ?_
  refine wp_skip ?_
  refine hK2 _ _ ?_
  refine wp_seq_k ?_
  intro K6 hK6
  refine rg [0] ?_
  refine sq ?_
  refine .mv ?_
  apply wpSq_end
  refine hK6 _ _ ?_
  refine wp_ret ?_
  try dsimp only [Exit.then, Exit.inBlock]
  refine bodyPost_ret (v := (.int .i64 0)) (by simp [results, Tryz.results34, go_sem]) rfl ?_
  have hb := hs.b
  exact ⟨rfl, hb⟩
set_option maxHeartbeats 4000000 in
set_option maxRecDepth 20000 in
theorem quarters_zp (w : World) :
    Calls Tryz.prog 34 #[.int .i64 0, .int .i64 1] w fun e w' => e = .returned (.int .i64 3) ∧ Below w.heap.size w w' := by
  go_enter Tryz.func34, Tryz.ntmps34
  have hs := St.nil w
  refine wp_seq_k ?_
  intro K1 hK1
  refine rg [0] ?_
  refine sq ?_
  refine .mv ?_
  apply wpSq_end
  refine hK1 _ _ ?_
  refine wp_seq_k ?_
  intro K2 hK2
  refine wp_block ?_
  refine wp_seq_k ?_
  intro K3 hK3
  refine rg [0, 1, 2, 3, 4, 5, 6] ?_
  refine sq ?_
  refine .mv ?_
  refine sq ?_
  refine .r0 ?_
  refine sq ?_
  refine .mv ?_
  refine sk ?_
  refine sk ?_
  refine sq ?_
  refine .r0 ?_
  refine sq ?_
  refine .mv ?_
  apply wpSq_end
  refine hK3 _ _ ?_
  refine cf ?_
  refine wp_seq_k ?_
  intro K4 hK4
  refine rg [0, 1, 2, 3, 4, 5, 6] ?_
  refine sq ?_
  refine .mv ?_
  refine sq ?_
  refine .r0 ?_
  refine sq ?_
  refine .mv ?_
  refine sk ?_
  refine sk ?_
  refine sq ?_
  refine .r0 ?_
  refine sq ?_
  refine .mv ?_
  apply wpSq_end
  refine hK4 _ _ ?_
  refine cf ?_
  refine wp_seq_k ?_
  intro K5 hK5
  refine rg [0, 1, 2, 3, 4, 5, 6] ?_
  refine sq ?_
  refine .mv ?_
  refine sq ?_
  refine .r0 ?_
  refine sq ?_
  refine .mv ?_
  refine sq ?_
  refine .mv ?_
  refine sq ?_
  refine .r0 ?_
  refine sq ?_
  refine .r0 ?_
  refine sq ?_
  refine .mv ?_
  apply wpSq_end
  refine hK5 _ _ ?_
  refine ct ?_
  refine wp_seq_k ?_
  intro K6 hK6
  refine rg [0] ?_
  refine sq ?_
  refine .mv ?_
  apply wpSq_end
  refine hK6 _ _ ?_
  refine wp_ret ?_
  try dsimp only [Exit.then, Exit.inBlock]
  refine bodyPost_ret (v := (.int .i64 3)) (by simp [results, Tryz.results34, go_sem]) rfl ?_
  have hb := hs.b
  exact ⟨rfl, hb⟩
set_option maxHeartbeats 4000000 in
set_option maxRecDepth 20000 in
theorem quarters_pm (w : World) :
    Calls Tryz.prog 34 #[.int .i64 1, .int .i64 (-1)] w fun e w' => e = .returned (.int .i64 1) ∧ Below w.heap.size w w' := by
  go_enter Tryz.func34, Tryz.ntmps34
  have hs := St.nil w
  refine wp_seq_k ?_
  intro K1 hK1
  refine rg [0] ?_
  refine sq ?_
  refine .mv ?_
  apply wpSq_end
  refine hK1 _ _ ?_
  refine wp_seq_k ?_
  intro K2 hK2
  refine wp_block ?_
  refine wp_seq_k ?_
  intro K3 hK3
  refine rg [0, 1, 2, 3, 4, 5, 6] ?_
  refine sq ?_
  refine .mv ?_
  refine sq ?_
  refine .r0 ?_
  refine sq ?_
  refine .mv ?_
  refine sq ?_
  refine .mv ?_
  refine sq ?_
  refine .r0 ?_
  refine sq ?_
  refine .r0 ?_
  refine sq ?_
  refine .mv ?_
  apply wpSq_end
  refine hK3 _ _ ?_
  refine ct ?_
  refine wp_seq_k ?_
  intro K4 hK4
  refine rg [0] ?_
  refine sq ?_
  refine .mv ?_
  apply wpSq_end
  refine hK4 _ _ ?_
  refine wp_ret ?_
  try dsimp only [Exit.then, Exit.inBlock]
  refine bodyPost_ret (v := (.int .i64 1)) (by simp [results, Tryz.results34, go_sem]) rfl ?_
  have hb := hs.b
  exact ⟨rfl, hb⟩
set_option maxHeartbeats 4000000 in
set_option maxRecDepth 20000 in
theorem quarters_pz (w : World) :
    Calls Tryz.prog 34 #[.int .i64 1, .int .i64 0] w fun e w' => e = .returned (.int .i64 0) ∧ Below w.heap.size w w' := by
  go_enter Tryz.func34, Tryz.ntmps34
  have hs := St.nil w
  refine wp_seq_k ?_
  intro K1 hK1
  refine rg [0] ?_
  refine sq ?_
  refine .mv ?_
  apply wpSq_end
  refine hK1 _ _ ?_
  refine wp_seq_k ?_
  intro K2 hK2
  refine wp_block ?_
  refine wp_seq_k ?_
  intro K3 hK3
  refine rg [0, 1, 2, 3, 4, 5, 6] ?_
  refine sq ?_
  refine .mv ?_
  refine sq ?_
  refine .r0 ?_
  refine sq ?_
  refine .mv ?_
  refine sk ?_
  refine sk ?_
  refine sq ?_
  refine .r0 ?_
  refine sq ?_
  refine .mv ?_
  apply wpSq_end
  refine hK3 _ _ ?_
  refine cf ?_
  refine wp_seq_k ?_
  intro K4 hK4
  refine rg [0, 1, 2, 3, 4, 5, 6] ?_
  refine sq ?_
  refine .mv ?_
  refine sq ?_
  refine .r0 ?_
  refine sq ?_
  refine .mv ?_
  refine sk ?_
  refine sk ?_
  refine sq ?_
  refine .r0 ?_
  refine sq ?_
  refine .mv ?_
  apply wpSq_end
  refine hK4 _ _ ?_
  refine cf ?_
  refine wp_seq_k ?_
  intro K5 hK5
  refine rg [0, 1, 2, 3, 4, 5, 6] ?_
  refine sq ?_
  refine .mv ?_
  refine sq ?_
  refine .r0 ?_
  refine sq ?_
  refine .mv ?_
  refine sk ?_
  refine sk ?_
  refine sq ?_
  refine .r0 ?_
  refine sq ?_
  refine .mv ?_
  apply wpSq_end
  refine hK5 _ _ ?_
  refine cf ?_
  refine wp_skip ?_
  refine hK2 _ _ ?_
  refine wp_seq_k ?_
  intro K6 hK6
  refine rg [0] ?_
  refine sq ?_
  refine .mv ?_
  apply wpSq_end
  refine hK6 _ _ ?_
  refine wp_ret ?_
  try dsimp only [Exit.then, Exit.inBlock]
  refine bodyPost_ret (v := (.int .i64 0)) (by simp [results, Tryz.results34, go_sem]) rfl ?_
  have hb := hs.b
  exact ⟨rfl, hb⟩
set_option maxHeartbeats 4000000 in
set_option maxRecDepth 20000 in
theorem quarters_pp (w : World) :
    Calls Tryz.prog 34 #[.int .i64 1, .int .i64 1] w fun e w' => e = .returned (.int .i64 0) ∧ Below w.heap.size w w' := by
  go_enter Tryz.func34, Tryz.ntmps34
  have hs := St.nil w
  refine wp_seq_k ?_
  intro K1 hK1
  refine rg [0] ?_
  refine sq ?_
  refine .mv ?_
  apply wpSq_end
  refine hK1 _ _ ?_
  refine wp_seq_k ?_
  intro K2 hK2
  refine wp_block ?_
  refine wp_seq_k ?_
  intro K3 hK3
  refine rg [0, 1, 2, 3, 4, 5, 6] ?_
  refine sq ?_
  refine .mv ?_
  refine sq ?_
  refine .r0 ?_
  refine sq ?_
  refine .mv ?_
  refine sk ?_
  refine sk ?_
  refine sq ?_
  refine .r0 ?_
  refine sq ?_
  refine .mv ?_
  apply wpSq_end
  refine hK3 _ _ ?_
  refine cf ?_
  refine wp_seq_k ?_
  intro K4 hK4
  refine rg [0, 1, 2, 3, 4, 5, 6] ?_
  refine sq ?_
  refine .mv ?_
  refine sq ?_
  refine .r0 ?_
  refine sq ?_
  refine .mv ?_
  refine sk ?_
  refine sk ?_
  refine sq ?_
  refine .r0 ?_
  refine sq ?_
  refine .mv ?_
  apply wpSq_end
  refine hK4 _ _ ?_
  refine cf ?_
  refine wp_seq_k ?_
  intro K5 hK5
  refine rg [0, 1, 2, 3, 4, 5, 6] ?_
  refine sq ?_
  refine .mv ?_
  refine sq ?_
  refine .r0 ?_
  refine sq ?_
  refine .mv ?_
  refine sq ?_
  refine .mv ?_
  refine sq ?_
  refine .r0 ?_
  refine sq ?_
  refine .r0 ?_
  refine sq ?_
  refine .mv ?_
  apply wpSq_end
  refine hK5 _ _ ?_
  refine cf ?_
  refine wp_skip ?_
  refine hK2 _ _ ?_
  refine wp_seq_k ?_
  intro K6 hK6
  refine rg [0] ?_
  refine sq ?_
  refine .mv ?_
  apply wpSq_end
  refine hK6 _ _ ?_
  refine wp_ret ?_
  try dsimp only [Exit.then, Exit.inBlock]
  refine bodyPost_ret (v := (.int .i64 0)) (by simp [results, Tryz.results34, go_sem]) rfl ?_
  have hb := hs.b
  exact ⟨rfl, hb⟩
theorem sign3' (x : Int) : x.sign = -1 ∨ x.sign = 0 ∨ x.sign = 1 := by have := sign_bd x; omega
theorem quarters_any (x y : Int) (w : World) :
    Calls Tryz.prog 34 #[.int .i64 x.sign, .int .i64 y.sign] w fun e w' => e = .returned (.int .i64 ((kq x y : Nat) : Int)) ∧ Below w.heap.size w w' := by
  rw [← kq_sign]
  rcases sign3' x with h | h | h <;> rcases sign3' y with h2 | h2 | h2 <;> rw [h, h2]
  · exact quarters_mm w
  · exact quarters_mz w
  · exact quarters_mp w
  · exact quarters_zm w
  · exact quarters_zz w
  · exact quarters_zp w
  · exact quarters_pm w
  · exact quarters_pz w
  · exact quarters_pp w
set_option maxHeartbeats 4000000 in
set_option maxRecDepth 20000 in
theorem gCanon_any (ha : PN w va x l y m) (hl : l ≤ 40000000) (hm : m ≤ 40000000) :
    Calls Tryz.prog 12 #[va] w fun e w' => ∃ r, e = .returned (.tuple #[r, .int .i64 ((kq x y : Nat) : Int)]) ∧ PC w' r (turn (kq x y) (x, y)).1 (turn (kq x y) (x, y)).2 ∧ Below w.heap.size w w' := by
  have HM := hide (kq_mod x y)
  obtain ⟨S, hS⟩ : ∃ S, x.sign = S := ⟨_, rfl⟩
  obtain ⟨T, hT⟩ : ∃ T, y.sign = T := ⟨_, rfl⟩
  have HS := hide hS
  have HT := hide hT
  have HQ := hide (fun w => quarters_any x y w)
  rw [hS, hT] at HQ
  obtain ⟨J, hK⟩ : ∃ J, kq x y = J := ⟨_, rfl⟩
  rw [hK] at HM HQ ⊢
  clear hS hT hK
  obtain ⟨n_0a, o_0a, k_0a, c_0a, n_0b, o_0b, k_0b, c_0b, rfl, ha1, ha2⟩ := ha
  go_enter Tryz.func12, Tryz.ntmps12
  have hs := St.nil w
  refine wp_seq_k ?_
  intro K1 hK1
  refine rg [0, 1, 2] ?_
  refine sq ?_
  refine .al hs ?_; clear hs; intro p_b1 w_1 hs n1 kb_b1
  refine sq ?_
  refine .al hs ?_; clear hs; intro p_b2 w_2 hs n2 kb_b2
  refine sq ?_
  refine .mv ?_
  apply wpSq_end
  refine hK1 _ _ ?_
  refine wp_seq_k ?_
  intro K2 hK2
  refine wp_region_f4 [(0, false), (1, false), (3, false), (4, false), (2, true), (5, true), (6, true), (7, false)] [] [] (fun _ => default) [99, 0, 99, 99, 0, 99, 99, 99] [] (.c hs.g1 .n) fn fun w_3 n3 => ?_
  replace hs := hs.bl n3
  refine f0 ?_
  refine f4 ?_
  refine f0 ?_
  refine f4 ?_
  refine fl fun w_4 n4 => ?_
  replace hs := hs.bl n4
  intro K hK
  have k0_4 := (((kb n1).b n2).b n3).b n4
  replace ha1 := ha1.k k0_4
  go_big_op
  go_fit (zsign_any ha1 (by omega))
  rintro e w_5 ⟨rfl, hb_5⟩
  replace hs := hs.bl hb_5
  rw [HS.out]
  refine hK _ _ rfl ⟨hb_5, (And.intro hs.g1 trivial)⟩ ?_
  clear hK K
  refine fl fun w_6 n6 => ?_
  replace hs := hs.bl n6
  intro K hK
  have k0_6 := (k0_4.b hb_5).b n6
  replace ha2 := ha2.k k0_6
  go_big_op
  go_fit (zsign_any ha2 (by omega))
  rintro e w_7 ⟨rfl, hb_7⟩
  replace hs := hs.bl hb_7
  rw [HT.out]
  refine hK _ _ rfl ⟨hb_7, (And.intro hs.g1 trivial)⟩ ?_
  clear hK K
  refine fl fun w_8 n8 => ?_
  replace hs := hs.bl n8
  intro K hK
  go_big_op
  go_fit (HQ.out _)
  rintro e w_9 ⟨rfl, hb_9⟩
  replace hs := hs.bl hb_9
  refine hK _ _ rfl ⟨hb_9, (And.intro hs.g1 trivial)⟩ ?_
  clear hK K
  refine fmv ?_
  refine e0 hs ?_; clear hs; intro w_10 hs n10
  apply wpTail_end
  refine hK2 _ _ ?_
  refine wp_seq_k ?_
  intro K3 hK3
  refine rg [0, 1, 2, 3, 4, 5] ?_
  refine sq ?_
  refine .r4 hs.g1.f4 ?_
  refine sq ?_
  refine .mv ?_
  refine sq ?_
  intro K hK
  have k4_10 := (((((kb hb_5).b n6).b hb_7).b n8).b hb_9).b n10
  replace ha1 := ha1.k k4_10
  have k6_10 := (((kb hb_7).b n8).b hb_9).b n10
  replace ha2 := ha2.k k6_10
  go_big_op
  go_fit (gTurn_any (J : Int) (PN.mk' ha1 ha2) (by omega) (by omega))
  rintro e w_11 ⟨_, rfl, ⟨n_ga, o_ga, k_ga, c_ga, n_gb, o_gb, k_gb, c_gb, rfl, g1, g2⟩, hb_11⟩
  replace hs := hs.bl hb_11
  rw [HM.out] at g1 g2
  refine hK _ _ rfl trivial ?_
  clear hK K
  refine sq ?_
  refine .mv ?_
  refine sq ?_
  refine .s4 hs.g0 (fun _ => hs.u0 kb_b2) ?_; clear hs; intro w_12 hs hd12 ho12
  refine sq ?_
  refine .mv ?_
  apply wpSq_end
  refine hK3 _ _ ?_
  refine wp_ret ?_
  try dsimp only [Exit.then, Exit.inBlock]
  obtain ⟨r0_0, r0_1, r0_2, r0_3⟩ := hs.g0.f4
  refine bodyPost_ret (v := (.tuple #[(.agg #[.bool n_ga, .slice o_ga k_ga c_ga, .bool n_gb, .slice o_gb k_gb c_gb]), (.int .i64 (J : Int))])) (by simp [results, Tryz.results12, go_sem, r0_0, r0_1, r0_2, r0_3]) rfl ?_
  have k11_12 := ko hd12 ho12
  replace g1 := g1.k k11_12
  replace g2 := g2.k k11_12
  exact ⟨_, rfl, .mk' g1 g2, hs.b⟩
end
/-- Six whole numbers in one struct. -/
def SC (w : World) (v : Value) (z1 z2 z3 z4 z5 z6 : Int) : Prop :=
  ∃ n1 o1 k1 c1 n2 o2 k2 c2 n3 o3 k3 c3 n4 o4 k4 c4 n5 o5 k5 c5 n6 o6 k6 c6, v = .agg #[.bool n1, .slice o1 k1 c1, .bool n2, .slice o2 k2 c2, .bool n3, .slice o3 k3 c3, .bool n4, .slice o4 k4 c4, .bool n5, .slice o5 k5 c5, .bool n6, .slice o6 k6 c6] ∧ ZC w (.agg #[.bool n1, .slice o1 k1 c1]) z1 ∧ ZC w (.agg #[.bool n2, .slice o2 k2 c2]) z2 ∧ ZC w (.agg #[.bool n3, .slice o3 k3 c3]) z3 ∧ ZC w (.agg #[.bool n4, .slice o4 k4 c4]) z4 ∧ ZC w (.agg #[.bool n5, .slice o5 k5 c5]) z5 ∧ ZC w (.agg #[.bool n6, .slice o6 k6 c6]) z6
theorem SC.mk' {w : World} {n1 n2 n3 n4 n5 n6 : Bool} {o1 o2 o3 o4 o5 o6 : Option Addr} {k1 c1 k2 c2 k3 c3 k4 c4 k5 c5 k6 c6 : Nat} {z1 z2 z3 z4 z5 z6 : Int} (h1 : ZC w (.agg #[.bool n1, .slice o1 k1 c1]) z1) (h2 : ZC w (.agg #[.bool n2, .slice o2 k2 c2]) z2) (h3 : ZC w (.agg #[.bool n3, .slice o3 k3 c3]) z3) (h4 : ZC w (.agg #[.bool n4, .slice o4 k4 c4]) z4) (h5 : ZC w (.agg #[.bool n5, .slice o5 k5 c5]) z5) (h6 : ZC w (.agg #[.bool n6, .slice o6 k6 c6]) z6) : SC w (.agg #[.bool n1, .slice o1 k1 c1, .bool n2, .slice o2 k2 c2, .bool n3, .slice o3 k3 c3, .bool n4, .slice o4 k4 c4, .bool n5, .slice o5 k5 c5, .bool n6, .slice o6 k6 c6]) z1 z2 z3 z4 z5 z6 :=
  ⟨_, _, _, _, _, _, _, _, _, _, _, _, _, _, _, _, _, _, _, _, _, _, _, _, rfl, h1, h2, h3, h4, h5, h6⟩
section
variable {w : World} {va vb : Value} {x y u v : Int} {l m k n : Nat}
set_option maxHeartbeats 8000000 in
set_option maxRecDepth 20000 in
theorem isZero_yes (ha : PN w va 0 l 0 m) (hl : l ≤ 100000000) (hm : m ≤ 100000000) :
    Calls Tryz.prog 39 #[va] w fun e w' => e = .returned (.bool true) ∧ Below w.heap.size w w' := by
  obtain ⟨n_0a, o_0a, k_0a, c_0a, n_0b, o_0b, k_0b, c_0b, rfl, ha1, ha2⟩ := ha
  go_enter Tryz.func39, Tryz.ntmps39
  have hs := St.nil w
  refine wp_seq_k ?_
  intro K1 hK1
  refine rg [0, 1] ?_
  refine sq ?_
  refine .al hs ?_; clear hs; intro p_b1 w_1 hs n1 kb_b1
  refine sq ?_
  refine .mv ?_
  apply wpSq_end
  refine hK1 _ _ ?_
  refine wp_seq_k ?_
  intro K2 hK2
  refine rg [0, 1, 2, 3, 4, 5, 6, 7, 8, 9, 10] ?_
  refine sq ?_
  refine .r0 ?_
  refine sq ?_
  refine .r4 hs.g0.f4 ?_
  refine sq ?_
  intro K hK
  have k0_1 := kb n1
  replace ha1 := ha1.k k0_1
  go_big_op
  go_fit (zsign_any ha1 (by omega) )
  rintro e w_2 ⟨rfl, hb_2⟩
  replace hs := hs.bl hb_2
  refine hK _ _ rfl trivial ?_
  clear hK K
  refine sq ?_
  refine .r0 ?_
  refine sq ?_
  refine .mv ?_
  refine sq ?_
  refine .r0 ?_
  refine sq ?_
  refine .r4 hs.g0.f4 ?_
  refine sq ?_
  intro K hK
  have k0_2 := k0_1.b hb_2
  replace ha2 := ha2.k k0_2
  go_big_op
  go_fit (zsign_any ha2 (by omega) )
  rintro e w_3 ⟨rfl, hb_3⟩
  replace hs := hs.bl hb_3
  refine hK _ _ rfl trivial ?_
  clear hK K
  refine sq ?_
  refine .r0 ?_
  refine sq ?_
  refine .r0 ?_
  refine sq ?_
  refine .mv ?_
  apply wpSq_end
  refine hK2 _ _ ?_
  refine wp_ret ?_
  try dsimp only [Exit.then, Exit.inBlock]
  refine bodyPost_ret (v := (.bool true)) (by simp [results, Tryz.results39, go_sem]) rfl ?_
  have hb := hs.b
  exact ⟨rfl, hb⟩
set_option maxHeartbeats 8000000 in
set_option maxRecDepth 20000 in
theorem isZero_no1 (ha : PN w va x l y m) (hl : l ≤ 100000000) (hm : m ≤ 100000000) (h : x ≠ 0) :
    Calls Tryz.prog 39 #[va] w fun e w' => e = .returned (.bool false) ∧ Below w.heap.size w w' := by
  have H0 : (x.sign == 0) = false := by simpa using h
  obtain ⟨S, hS⟩ : ∃ S, x.sign = S := ⟨_, rfl⟩
  rw [hS] at H0
  have HS := hide hS
  clear h hS
  obtain ⟨n_0a, o_0a, k_0a, c_0a, n_0b, o_0b, k_0b, c_0b, rfl, ha1, ha2⟩ := ha
  go_enter Tryz.func39, Tryz.ntmps39
  have hs := St.nil w
  refine wp_seq_k ?_
  intro K1 hK1
  refine rg [0, 1] ?_
  refine sq ?_
  refine .al hs ?_; clear hs; intro p_b1 w_1 hs n1 kb_b1
  refine sq ?_
  refine .mv ?_
  apply wpSq_end
  refine hK1 _ _ ?_
  refine wp_seq_k ?_
  intro K2 hK2
  refine rg [0, 1, 2, 3, 4, 5, 6, 7, 8, 9, 10] ?_
  refine sq ?_
  refine .r0 ?_
  refine sq ?_
  refine .r4 hs.g0.f4 ?_
  refine sq ?_
  intro K hK
  have k0_1 := kb n1
  replace ha1 := ha1.k k0_1
  go_big_op
  go_fit (zsign_any ha1 (by omega) )
  rintro e w_2 ⟨rfl, hb_2⟩
  replace hs := hs.bl hb_2
  rw [HS.out]
  refine hK _ _ rfl trivial ?_
  clear hK K
  refine sq ?_
  refine .r0 ?_
  refine sq ?_
  refine .mv ?_
  refine sk ?_
  refine sk ?_
  refine sk ?_
  refine sk ?_
  refine sq ?_
  refine .r0 ?_
  refine sq ?_
  refine .mv ?_
  apply wpSq_end
  refine hK2 _ _ ?_
  refine wp_ret ?_
  try dsimp only [Exit.then, Exit.inBlock]
  refine bodyPost_ret (v := (.bool false)) (by simp [results, Tryz.results39, go_sem]) rfl ?_
  have hb := hs.b
  exact ⟨rfl, hb⟩
set_option maxHeartbeats 8000000 in
set_option maxRecDepth 20000 in
theorem isZero_no2 (ha : PN w va 0 l y m) (hl : l ≤ 100000000) (hm : m ≤ 100000000) (h : y ≠ 0) :
    Calls Tryz.prog 39 #[va] w fun e w' => e = .returned (.bool false) ∧ Below w.heap.size w w' := by
  have H0 : (y.sign == 0) = false := by simpa using h
  obtain ⟨S, hS⟩ : ∃ S, y.sign = S := ⟨_, rfl⟩
  rw [hS] at H0
  have HS := hide hS
  clear h hS
  obtain ⟨n_0a, o_0a, k_0a, c_0a, n_0b, o_0b, k_0b, c_0b, rfl, ha1, ha2⟩ := ha
  go_enter Tryz.func39, Tryz.ntmps39
  have hs := St.nil w
  refine wp_seq_k ?_
  intro K1 hK1
  refine rg [0, 1] ?_
  refine sq ?_
  refine .al hs ?_; clear hs; intro p_b1 w_1 hs n1 kb_b1
  refine sq ?_
  refine .mv ?_
  apply wpSq_end
  refine hK1 _ _ ?_
  refine wp_seq_k ?_
  intro K2 hK2
  refine rg [0, 1, 2, 3, 4, 5, 6, 7, 8, 9, 10] ?_
  refine sq ?_
  refine .r0 ?_
  refine sq ?_
  refine .r4 hs.g0.f4 ?_
  refine sq ?_
  intro K hK
  have k0_1 := kb n1
  replace ha1 := ha1.k k0_1
  go_big_op
  go_fit (zsign_any ha1 (by omega) )
  rintro e w_2 ⟨rfl, hb_2⟩
  replace hs := hs.bl hb_2
  refine hK _ _ rfl trivial ?_
  clear hK K
  refine sq ?_
  refine .r0 ?_
  refine sq ?_
  refine .mv ?_
  refine sq ?_
  refine .r0 ?_
  refine sq ?_
  refine .r4 hs.g0.f4 ?_
  refine sq ?_
  intro K hK
  have k0_2 := k0_1.b hb_2
  replace ha2 := ha2.k k0_2
  go_big_op
  go_fit (zsign_any ha2 (by omega) )
  rintro e w_3 ⟨rfl, hb_3⟩
  replace hs := hs.bl hb_3
  rw [HS.out]
  refine hK _ _ rfl trivial ?_
  clear hK K
  refine sq ?_
  refine .r0 ?_
  refine sq ?_
  refine .r0 ?_
  refine sq ?_
  refine .mv ?_
  apply wpSq_end
  refine hK2 _ _ ?_
  refine wp_ret ?_
  try dsimp only [Exit.then, Exit.inBlock]
  refine bodyPost_ret (v := (.bool false)) (by simp [results, Tryz.results39, go_sem]) rfl ?_
  have hb := hs.b
  exact ⟨rfl, hb⟩
theorem isZero_no (ha : PN w va x l y m) (hl : l ≤ 100000000) (hm : m ≤ 100000000) (h : gN x y ≠ 0) :
    Calls Tryz.prog 39 #[va] w fun e w' => e = .returned (.bool false) ∧ Below w.heap.size w w' := by
  by_cases hx : x = 0
  · subst hx
    exact isZero_no2 ha hl hm (fun c => h (gN_zero.2 ⟨rfl, c⟩))
  · exact isZero_no1 ha hl hm hx
end
section
variable {w : World} {va vb : Value} {x y u v : Int} {l m k n : Nat}
set_option maxHeartbeats 8000000 in
set_option maxRecDepth 20000 in
theorem less_any {q1 q2 : Int} {an1 bn1 an2 bn2 an3 bn3 an4 bn4 an5 bn5 an6 bn6 : Bool} {ao1 bo1 ao2 bo2 ao3 bo3 ao4 bo4 ao5 bo5 ao6 bo6 : Option Addr} {ak1 ac1 bk1 bc1 ak2 ac2 bk2 bc2 ak3 ac3 bk3 bc3 ak4 ac4 bk4 bc4 ak5 ac5 bk5 bc5 ak6 ac6 bk6 bc6 : Nat} {a1 a2 a3 a4 a5 a6 b1 b2 b3 b4 b5 b6 : Int} {L : Nat} (hL : L ≤ 9000000)
    (ha1 : ZN w (.agg #[.bool an1, .slice ao1 ak1 ac1]) a1 L) (ha2 : ZN w (.agg #[.bool an2, .slice ao2 ak2 ac2]) a2 L) (ha3 : ZN w (.agg #[.bool an3, .slice ao3 ak3 ac3]) a3 L) (ha4 : ZN w (.agg #[.bool an4, .slice ao4 ak4 ac4]) a4 L) (ha5 : ZN w (.agg #[.bool an5, .slice ao5 ak5 ac5]) a5 L) (ha6 : ZN w (.agg #[.bool an6, .slice ao6 ak6 ac6]) a6 L) (hc1 : ZN w (.agg #[.bool bn1, .slice bo1 bk1 bc1]) b1 L) (hc2 : ZN w (.agg #[.bool bn2, .slice bo2 bk2 bc2]) b2 L) (hc3 : ZN w (.agg #[.bool bn3, .slice bo3 bk3 bc3]) b3 L) (hc4 : ZN w (.agg #[.bool bn4, .slice bo4 bk4 bc4]) b4 L) (hc5 : ZN w (.agg #[.bool bn5, .slice bo5 bk5 bc5]) b5 L) (hc6 : ZN w (.agg #[.bool bn6, .slice bo6 bk6 bc6]) b6 L) (hq : PN w vb q1 l q2 m) (hl : l ≤ 9000000) (hm : m ≤ 9000000) :
    Calls Tryz.prog 42 #[.agg #[.bool an1, .slice ao1 ak1 ac1, .bool an2, .slice ao2 ak2 ac2, .bool an3, .slice ao3 ak3 ac3, .bool an4, .slice ao4 ak4 ac4, .bool an5, .slice ao5 ak5 ac5, .bool an6, .slice ao6 ak6 ac6], vb, .agg #[.bool bn1, .slice bo1 bk1 bc1, .bool bn2, .slice bo2 bk2 bc2, .bool bn3, .slice bo3 bk3 bc3, .bool bn4, .slice bo4 bk4 bc4, .bool bn5, .slice bo5 bk5 bc5, .bool bn6, .slice bo6 bk6 bc6]] w fun e w' => ∃ r, e = .returned r ∧ SC w' r (a1 - (q1 * b1 - q2 * b2)) (a2 - (q1 * b2 + q2 * b1)) (a3 - (q1 * b3 - q2 * b4)) (a4 - (q1 * b4 + q2 * b3)) (a5 - (q1 * b5 - q2 * b6)) (a6 - (q1 * b6 + q2 * b5)) ∧ Below w.heap.size w w' := by
  obtain ⟨n_1a, o_1a, k_1a, c_1a, n_1b, o_1b, k_1b, c_1b, rfl, hq1, hq2⟩ := hq
  go_enter Tryz.func42, Tryz.ntmps42
  have hs := St.nil w
  refine wp_seq_k ?_
  intro K1 hK1
  refine rg [0, 1, 2, 3] ?_
  refine sq ?_
  refine .al hs ?_; clear hs; intro p_b1 w_1 hs n1 kb_b1
  refine sq ?_
  refine .al hs ?_; clear hs; intro p_b2 w_2 hs n2 kb_b2
  refine sq ?_
  refine .al hs ?_; clear hs; intro p_b3 w_3 hs n3 kb_b3
  refine sq ?_
  refine .al hs ?_; clear hs; intro p_b4 w_4 hs n4 kb_b4
  apply wpSq_end
  refine hK1 _ _ ?_
  refine wp_seq_k ?_
  intro K2 hK2
  refine wp_region_f4 [(0, false), (1, false), (2, false), (3, false), (4, false), (7, false), (8, false), (9, false), (10, false), (11, false), (14, false), (15, false), (16, false), (17, false), (18, false), (5, true), (6, true), (12, true), (13, true), (19, true), (20, true), (21, false)] [22] [] (fun _ => default) [99, 0, 1, 99, 2, 99, 99, 99, 0, 1, 99, 2, 99, 99, 99, 0, 1, 99, 2, 99, 99, 99, 99] [] (.c hs.g3 (.c hs.g2 (.c hs.g1 .n))) fn fun w_5 n5 => ?_
  replace hs := hs.bl n5
  refine f0 ?_
  apply wpFl_ld rfl rfl; (case h1 => intro w' hC K hK; have c0 := Bs.cell hC 0 rfl; have c1 := Bs.cell hC 1 rfl; have c2 := Bs.cell hC 2 rfl; have c3 := Bs.cell hC 3 rfl; go_big_op; exact hK); iterate 4 kernel_rfl
  refine f4 ?_
  refine f0 ?_
  apply wpFl_ld rfl rfl; (case h1 => intro w' hC K hK; have c0 := Bs.cell hC 0 rfl; have c1 := Bs.cell hC 1 rfl; have c2 := Bs.cell hC 2 rfl; have c3 := Bs.cell hC 3 rfl; go_big_op; exact hK); iterate 4 kernel_rfl
  refine f0 ?_
  apply wpFl_ld rfl rfl; (case h1 => intro w' hC K hK; have c4 := Bs.cell hC 4 rfl; have c5 := Bs.cell hC 5 rfl; have c6 := Bs.cell hC 6 rfl; have c7 := Bs.cell hC 7 rfl; go_big_op; exact hK); iterate 4 kernel_rfl
  refine f4 ?_
  refine f0 ?_
  apply wpFl_ld rfl rfl; (case h1 => intro w' hC K hK; have c4 := Bs.cell hC 4 rfl; have c5 := Bs.cell hC 5 rfl; have c6 := Bs.cell hC 6 rfl; have c7 := Bs.cell hC 7 rfl; go_big_op; exact hK); iterate 4 kernel_rfl
  refine f0 ?_
  apply wpFl_ld rfl rfl; (case h1 => intro w' hC K hK; have c8 := Bs.cell hC 8 rfl; have c9 := Bs.cell hC 9 rfl; have c10 := Bs.cell hC 10 rfl; have c11 := Bs.cell hC 11 rfl; go_big_op; exact hK); iterate 4 kernel_rfl
  refine f4 ?_
  refine f0 ?_
  apply wpFl_ld rfl rfl; (case h1 => intro w' hC K hK; have c8 := Bs.cell hC 8 rfl; have c9 := Bs.cell hC 9 rfl; have c10 := Bs.cell hC 10 rfl; have c11 := Bs.cell hC 11 rfl; go_big_op; exact hK); iterate 4 kernel_rfl
  refine fl fun w_6 n6 => ?_
  replace hs := hs.bl n6
  intro K hK
  have k0_6 := (((((kb n1).b n2).b n3).b n4).b n5).b n6
  replace hq1 := hq1.k k0_6
  replace hq2 := hq2.k k0_6
  replace hc1 := hc1.k k0_6
  replace hc2 := hc2.k k0_6
  go_big_op
  go_fit (gMul_any (PN.mk' hq1 hq2) (PN.mk' hc1 hc2) (by omega) (by omega) (by omega) (by omega) )
  rintro e w_7 ⟨_, rfl, ⟨n_ga, o_ga, k_ga, c_ga, n_gb, o_gb, k_gb, c_gb, rfl, g1, g2⟩, hb_7⟩
  replace hs := hs.bl hb_7
  have Lg1 := hide (g1.lenOf (zlen_sub (zlen_mul (hq1.len) (hc1.len)) (zlen_mul (hq2.len) (hc2.len))))
  have Lg2 := hide (g2.lenOf (zlen_add (zlen_mul (hq1.len) (hc2.len)) (zlen_mul (hq2.len) (hc1.len))))
  refine hK _ _ rfl ⟨hb_7, (And.intro hs.g3 (And.intro hs.g2 (And.intro hs.g1 trivial)))⟩ ?_
  clear hK K
  refine fl fun w_8 n8 => ?_
  replace hs := hs.bl n8
  intro K hK
  have k0_8 := (k0_6.b hb_7).b n8
  replace ha1 := ha1.k k0_8
  replace ha2 := ha2.k k0_8
  have k7_8 := kb n8
  replace g1 := g1.k k7_8
  replace g2 := g2.k k7_8
  go_big_op
  go_fit (gSub_any (PN.mk' ha1 ha2) (PN.mk' (g1.zn Lg1.out) (g2.zn Lg2.out)) (by omega) (by omega) (by omega) (by omega) )
  rintro e w_9 ⟨_, rfl, ⟨n_ha, o_ha, k_ha, c_ha, n_hb, o_hb, k_hb, c_hb, rfl, h1, h2⟩, hb_9⟩
  replace hs := hs.bl hb_9
  have Lh1 := hide (h1.lenOf (zlen_sub (ha1.len) (Lg1.out)))
  have Lh2 := hide (h2.lenOf (zlen_sub (ha2.len) (Lg2.out)))
  refine hK _ _ rfl ⟨hb_9, (And.intro hs.g3 (And.intro hs.g2 (And.intro hs.g1 trivial)))⟩ ?_
  clear hK K
  refine fl fun w_10 n10 => ?_
  replace hs := hs.bl n10
  intro K hK
  have k6_10 := (((kb hb_7).b n8).b hb_9).b n10
  replace hq1 := hq1.k k6_10
  replace hq2 := hq2.k k6_10
  have k0_10 := (k0_8.b hb_9).b n10
  replace hc3 := hc3.k k0_10
  replace hc4 := hc4.k k0_10
  go_big_op
  go_fit (gMul_any (PN.mk' hq1 hq2) (PN.mk' hc3 hc4) (by omega) (by omega) (by omega) (by omega) )
  rintro e w_11 ⟨_, rfl, ⟨n_ia, o_ia, k_ia, c_ia, n_ib, o_ib, k_ib, c_ib, rfl, i1, i2⟩, hb_11⟩
  replace hs := hs.bl hb_11
  have Li1 := hide (i1.lenOf (zlen_sub (zlen_mul (hq1.len) (hc3.len)) (zlen_mul (hq2.len) (hc4.len))))
  have Li2 := hide (i2.lenOf (zlen_add (zlen_mul (hq1.len) (hc4.len)) (zlen_mul (hq2.len) (hc3.len))))
  refine hK _ _ rfl ⟨hb_11, (And.intro hs.g3 (And.intro hs.g2 (And.intro hs.g1 trivial)))⟩ ?_
  clear hK K
  refine fl fun w_12 n12 => ?_
  replace hs := hs.bl n12
  intro K hK
  have k0_12 := (k0_10.b hb_11).b n12
  replace ha3 := ha3.k k0_12
  replace ha4 := ha4.k k0_12
  have k11_12 := kb n12
  replace i1 := i1.k k11_12
  replace i2 := i2.k k11_12
  go_big_op
  go_fit (gSub_any (PN.mk' ha3 ha4) (PN.mk' (i1.zn Li1.out) (i2.zn Li2.out)) (by omega) (by omega) (by omega) (by omega) )
  rintro e w_13 ⟨_, rfl, ⟨n_ja, o_ja, k_ja, c_ja, n_jb, o_jb, k_jb, c_jb, rfl, j1, j2⟩, hb_13⟩
  replace hs := hs.bl hb_13
  have Lj1 := hide (j1.lenOf (zlen_sub (ha3.len) (Li1.out)))
  have Lj2 := hide (j2.lenOf (zlen_sub (ha4.len) (Li2.out)))
  refine hK _ _ rfl ⟨hb_13, (And.intro hs.g3 (And.intro hs.g2 (And.intro hs.g1 trivial)))⟩ ?_
  clear hK K
  refine fl fun w_14 n14 => ?_
  replace hs := hs.bl n14
  intro K hK
  have k10_14 := (((kb hb_11).b n12).b hb_13).b n14
  replace hq1 := hq1.k k10_14
  replace hq2 := hq2.k k10_14
  have k0_14 := (k0_12.b hb_13).b n14
  replace hc5 := hc5.k k0_14
  replace hc6 := hc6.k k0_14
  go_big_op
  go_fit (gMul_any (PN.mk' hq1 hq2) (PN.mk' hc5 hc6) (by omega) (by omega) (by omega) (by omega) )
  rintro e w_15 ⟨_, rfl, ⟨n_oa, o_oa, k_oa, c_oa, n_ob, o_ob, k_ob, c_ob, rfl, o1, o2⟩, hb_15⟩
  replace hs := hs.bl hb_15
  have Lo1 := hide (o1.lenOf (zlen_sub (zlen_mul (hq1.len) (hc5.len)) (zlen_mul (hq2.len) (hc6.len))))
  have Lo2 := hide (o2.lenOf (zlen_add (zlen_mul (hq1.len) (hc6.len)) (zlen_mul (hq2.len) (hc5.len))))
  refine hK _ _ rfl ⟨hb_15, (And.intro hs.g3 (And.intro hs.g2 (And.intro hs.g1 trivial)))⟩ ?_
  clear hK K
  refine fl fun w_16 n16 => ?_
  replace hs := hs.bl n16
  intro K hK
  have k0_16 := (k0_14.b hb_15).b n16
  replace ha5 := ha5.k k0_16
  replace ha6 := ha6.k k0_16
  have k15_16 := kb n16
  replace o1 := o1.k k15_16
  replace o2 := o2.k k15_16
  go_big_op
  go_fit (gSub_any (PN.mk' ha5 ha6) (PN.mk' (o1.zn Lo1.out) (o2.zn Lo2.out)) (by omega) (by omega) (by omega) (by omega) )
  rintro e w_17 ⟨_, rfl, ⟨n_pa, o_pa, k_pa, c_pa, n_pb, o_pb, k_pb, c_pb, rfl, p1, p2⟩, hb_17⟩
  replace hs := hs.bl hb_17
  have Lp1 := hide (p1.lenOf (zlen_sub (ha5.len) (Lo1.out)))
  have Lp2 := hide (p2.lenOf (zlen_sub (ha6.len) (Lo2.out)))
  refine hK _ _ rfl ⟨hb_17, (And.intro hs.g3 (And.intro hs.g2 (And.intro hs.g1 trivial)))⟩ ?_
  clear hK K
  refine f0 ?_
  refine e0 hs ?_; clear hs; intro w_18 hs n18
  clear g1 g2 i1 i2 o1 o2
  refine tl ?_
  intro K hK
  have xs := hs.g0
  have d0 : w_18.cell? ⟨p_b4, 0, none⟩ = some (.bool false) := hs.g0.cell 0 rfl
  have d1 : w_18.cell? ⟨p_b4, 1, none⟩ = some (.slice none 0 0) := hs.g0.cell 1 rfl
  have d2 : w_18.cell? ⟨p_b4, 2, none⟩ = some (.bool false) := hs.g0.cell 2 rfl
  have d3 : w_18.cell? ⟨p_b4, 3, none⟩ = some (.slice none 0 0) := hs.g0.cell 3 rfl
  have d4 : w_18.cell? ⟨p_b4, 4, none⟩ = some (.bool false) := hs.g0.cell 4 rfl
  have d5 : w_18.cell? ⟨p_b4, 5, none⟩ = some (.slice none 0 0) := hs.g0.cell 5 rfl
  have d6 : w_18.cell? ⟨p_b4, 6, none⟩ = some (.bool false) := hs.g0.cell 6 rfl
  have d7 : w_18.cell? ⟨p_b4, 7, none⟩ = some (.slice none 0 0) := hs.g0.cell 7 rfl
  have d8 : w_18.cell? ⟨p_b4, 8, none⟩ = some (.bool false) := hs.g0.cell 8 rfl
  have d9 : w_18.cell? ⟨p_b4, 9, none⟩ = some (.slice none 0 0) := hs.g0.cell 9 rfl
  have d10 : w_18.cell? ⟨p_b4, 10, none⟩ = some (.bool false) := hs.g0.cell 10 rfl
  have d11 : w_18.cell? ⟨p_b4, 11, none⟩ = some (.slice none 0 0) := hs.g0.cell 11 rfl
  have f0 := xs.free 0; have f1 := xs.free 1; have f2 := xs.free 2; have f3 := xs.free 3; have f4 := xs.free 4; have f5 := xs.free 5; have f6 := xs.free 6; have f7 := xs.free 7; have f8 := xs.free 8; have f9 := xs.free 9; have f10 := xs.free 10; have f11 := xs.free 11
  go_big_op
  have hd19 := xs.nod rfl rfl
  obtain ⟨w_19_0, eW, xs_0, ho_0⟩ : ∃ w', ((((w_18.setCell ⟨p_b4, 0, none⟩ (.bool n_ha)).setCell ⟨p_b4, 1, none⟩ (.slice o_ha k_ha c_ha)).setCell ⟨p_b4, 2, none⟩ (.bool n_hb)).setCell ⟨p_b4, 3, none⟩ (.slice o_hb k_hb c_hb)) = w' ∧ Bs w' p_b4 #[.bool n_ha, .slice o_ha k_ha c_ha, .bool n_hb, .slice o_hb k_hb c_hb, .bool false, .slice none 0 0, .bool false, .slice none 0 0, .bool false, .slice none 0 0, .bool false, .slice none 0 0] 68 ∧ Only p_b4 w_18 w' := xs.setN [(0, .bool n_ha), (1, .slice o_ha k_ha c_ha), (2, .bool n_hb), (3, .slice o_hb k_hb c_hb)]
  rw [eW]; clear eW
  obtain ⟨w_19_4, eW, xs_4, ho_4⟩ : ∃ w', ((((w_19_0.setCell ⟨p_b4, 4, none⟩ (.bool n_ja)).setCell ⟨p_b4, 5, none⟩ (.slice o_ja k_ja c_ja)).setCell ⟨p_b4, 6, none⟩ (.bool n_jb)).setCell ⟨p_b4, 7, none⟩ (.slice o_jb k_jb c_jb)) = w' ∧ Bs w' p_b4 #[.bool n_ha, .slice o_ha k_ha c_ha, .bool n_hb, .slice o_hb k_hb c_hb, .bool n_ja, .slice o_ja k_ja c_ja, .bool n_jb, .slice o_jb k_jb c_jb, .bool false, .slice none 0 0, .bool false, .slice none 0 0] 68 ∧ Only p_b4 w_19_0 w' := xs_0.setN [(4, .bool n_ja), (5, .slice o_ja k_ja c_ja), (6, .bool n_jb), (7, .slice o_jb k_jb c_jb)]
  rw [eW]; clear eW xs_0
  obtain ⟨w_19, eW, xs', ho_8⟩ : ∃ w', ((((w_19_4.setCell ⟨p_b4, 8, none⟩ (.bool n_pa)).setCell ⟨p_b4, 9, none⟩ (.slice o_pa k_pa c_pa)).setCell ⟨p_b4, 10, none⟩ (.bool n_pb)).setCell ⟨p_b4, 11, none⟩ (.slice o_pb k_pb c_pb)) = w' ∧ Bs w' p_b4 #[.bool n_ha, .slice o_ha k_ha c_ha, .bool n_hb, .slice o_hb k_hb c_hb, .bool n_ja, .slice o_ja k_ja c_ja, .bool n_jb, .slice o_jb k_jb c_jb, .bool n_pa, .slice o_pa k_pa c_pa, .bool n_pb, .slice o_pb k_pb c_pb] 68 ∧ Only p_b4 w_19_4 w' := xs_4.setN [(8, .bool n_pa), (9, .slice o_pa k_pa c_pa), (10, .bool n_pb), (11, .slice o_pb k_pb c_pb)]
  rw [eW]; clear eW xs_4
  have ho19 := ((ho_0.trans ho_4).trans ho_8)
  clear ho_0 ho_4 ho_8 d0 d1 d2 d3 d4 d5 d6 d7 d8 d9 d10 d11 f0 f1 f2 f3 f4 f5 f6 f7 f8 f9 f10 f11 xs
  replace hs := hs.u0 kb_b4 xs' ho19; clear xs'
  refine hK _ _ rfl (And.intro hs.g3 (And.intro hs.g2 (And.intro hs.g1 True.intro))) ?_; clear hK K
  apply wpTail_end
  refine hK2 _ _ ?_
  refine wp_ret ?_
  try dsimp only [Exit.then, Exit.inBlock]
  have r0_0 : w_19.cell? ⟨p_b4, 0, none⟩ = some (.bool n_ha) := hs.g0.cell 0 rfl
  have r0_1 : w_19.cell? ⟨p_b4, 1, none⟩ = some (.slice o_ha k_ha c_ha) := hs.g0.cell 1 rfl
  have r0_2 : w_19.cell? ⟨p_b4, 2, none⟩ = some (.bool n_hb) := hs.g0.cell 2 rfl
  have r0_3 : w_19.cell? ⟨p_b4, 3, none⟩ = some (.slice o_hb k_hb c_hb) := hs.g0.cell 3 rfl
  have r0_4 : w_19.cell? ⟨p_b4, 4, none⟩ = some (.bool n_ja) := hs.g0.cell 4 rfl
  have r0_5 : w_19.cell? ⟨p_b4, 5, none⟩ = some (.slice o_ja k_ja c_ja) := hs.g0.cell 5 rfl
  have r0_6 : w_19.cell? ⟨p_b4, 6, none⟩ = some (.bool n_jb) := hs.g0.cell 6 rfl
  have r0_7 : w_19.cell? ⟨p_b4, 7, none⟩ = some (.slice o_jb k_jb c_jb) := hs.g0.cell 7 rfl
  have r0_8 : w_19.cell? ⟨p_b4, 8, none⟩ = some (.bool n_pa) := hs.g0.cell 8 rfl
  have r0_9 : w_19.cell? ⟨p_b4, 9, none⟩ = some (.slice o_pa k_pa c_pa) := hs.g0.cell 9 rfl
  have r0_10 : w_19.cell? ⟨p_b4, 10, none⟩ = some (.bool n_pb) := hs.g0.cell 10 rfl
  have r0_11 : w_19.cell? ⟨p_b4, 11, none⟩ = some (.slice o_pb k_pb c_pb) := hs.g0.cell 11 rfl
  refine bodyPost_ret (v := (.agg #[.bool n_ha, .slice o_ha k_ha c_ha, .bool n_hb, .slice o_hb k_hb c_hb, .bool n_ja, .slice o_ja k_ja c_ja, .bool n_jb, .slice o_jb k_jb c_jb, .bool n_pa, .slice o_pa k_pa c_pa, .bool n_pb, .slice o_pb k_pb c_pb])) (by simp [results, Tryz.results42, go_sem, r0_0, r0_1, r0_2, r0_3, r0_4, r0_5, r0_6, r0_7, r0_8, r0_9, r0_10, r0_11]) rfl ?_
  have k9_19 := (((((((((kb n10).b hb_11).b n12).b hb_13).b n14).b hb_15).b n16).b hb_17).b n18).o hd19 ho19
  replace h1 := h1.k k9_19
  replace h2 := h2.k k9_19
  have k13_19 := (((((kb n14).b hb_15).b n16).b hb_17).b n18).o hd19 ho19
  replace j1 := j1.k k13_19
  replace j2 := j2.k k13_19
  have k17_19 := (kb n18).o hd19 ho19
  replace p1 := p1.k k17_19
  replace p2 := p2.k k17_19
  exact ⟨_, rfl, .mk' h1 h2 j1 j2 p1 p2, hs.b⟩
end
end Go.Proofs.YtlomgfgedkkhkaaGreatDoor
