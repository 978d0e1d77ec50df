/- gint: Turn, timesI, Canon; the reference's. -/
import Derived.Test.YtnkimagnmnocdaaG3ToI2
import Derived.Test.YtnkimagnmnocdaaWpToM4

namespace Go.Proofs.Ytnkimagnmnocdaa
open Go Go.RowKit Dig
set_option linter.unusedVariables false

/-- Times i, n times. -/
def turn : Nat → Int × Int → Int × Int
  | 0, p => p
  | n + 1, p => (-(turn n p).2, (turn n p).1)
theorem i64_and_three (n : Int) : bits .and .i64 n 3 = n % 4 := by
  have h1 : (BitVec.ofInt 64 3).toNat = 2 ^ 2 - 1 := by decide
  have key : (BitVec.ofInt 64 n &&& BitVec.ofInt 64 3).toNat = (n % ((2 ^ 64 : Nat) : Int)).toNat % 2 ^ 2 := by
    rw [BitVec.toNat_and, BitVec.toNat_ofInt, h1, Nat.and_two_pow_sub_one_eq_mod]
  show IntKind.i64.wrap ((BitVec.ofInt 64 n &&& BitVec.ofInt 64 3).toNat : Nat) = n % 4
  rw [key, IntKind.wrap_i64]
  omega
theorem zlen_turn {x y : Int} {l m : Nat} (h1 : (dig x.natAbs).length ≤ l) (h2 : (dig y.natAbs).length ≤ m) : ∀ n, (dig (turn n (x, y)).1.natAbs).length ≤ l + m ∧ (dig (turn n (x, y)).2.natAbs).length ≤ l + m := by
  intro n
  induction n with
  | zero => exact ⟨Nat.le_trans h1 (Nat.le_add_right _ _), Nat.le_trans h2 (Nat.le_add_left _ _)⟩
  | succ n ih => exact ⟨zlen_neg ih.2, ih.1⟩
section
variable {w : World} {va vb : Value} {x y u v : Int} {l m k n : Nat}
set_option maxHeartbeats 4000000 in
set_option maxRecDepth 20000 in
theorem timesI_any (ha : PC w va x y) (hl : (dig x.natAbs).length ≤ 100000000) (hm : (dig y.natAbs).length ≤ 100000000) :
    Calls Try.prog 103 #[va] w fun e w' => ∃ r, e = .returned r ∧ PC w' r (-y) x ∧ Below w.heap.size w w' := by
  obtain ⟨n_0a, o_0a, k_0a, c_0a, n_0b, o_0b, k_0b, c_0b, rfl, ha1, ha2⟩ := ha
  go_enter Try.func103, Try.ntmps103
  have hs := St.nil w
  refine wp_seq_k ?_
  intro K1 hK1
  refine rg [0, 1] ?_
  refine sq ?_
  refine .al hs ?_; clear hs; intro p_b1 w_1 hs n1 kb_b1
  refine sq ?_
  refine .al hs ?_; clear hs; intro p_b2 w_2 hs n2 kb_b2
  apply wpSq_end
  refine hK1 _ _ ?_
  refine wp_seq_k ?_
  intro K2 hK2
  refine wp_region_f4 [(0, false), (1, false), (3, false), (4, false), (2, true), (5, false)] [6] [] (fun _ => default) [99, 0, 99, 99, 0, 99, 99] [] (.c hs.g1 .n) fn fun w_3 n3 => ?_
  replace hs := hs.bl n3
  refine f0 ?_
  refine f4 ?_
  refine f0 ?_
  refine f4 ?_
  refine fl fun w_4 n4 => ?_
  replace hs := hs.bl n4
  intro K hK
  have k0_4 := (((kb n1).b n2).b n3).b n4
  replace ha2 := ha2.k k0_4
  go_big_op
  go_fit (zneg_any (ha2.zn hm) (by decide))
  rintro e w_5 ⟨v_g1, rfl, g1, hb_5⟩
  replace hs := hs.bl hb_5
  replace g1 := g1.rd
  obtain ⟨n_g1, o_g1, k_g1, c_g1, rfl⟩ := g1.open2
  have Lg1 := hide (g1.lenOf (zlen_neg hm))
  refine hK _ _ rfl ⟨hb_5, (And.intro hs.g1 trivial)⟩ ?_
  clear hK K
  refine f0 ?_
  refine e0 hs ?_; clear hs; intro w_6 hs n6
  refine tl ?_
  refine .s4 hs.g0 (fun _ => hs.u0 kb_b2) ?_ (e := fun _ hs => (And.intro hs.g1 True.intro)); clear hs; intro w_7 hs hd7 ho7
  apply wpTail_end
  refine hK2 _ _ ?_
  refine wp_ret ?_
  try dsimp only [Exit.then, Exit.inBlock]
  obtain ⟨r0_0, r0_1, r0_2, r0_3⟩ := hs.g0.f4
  refine bodyPost_ret (v := (.agg #[.bool n_g1, .slice o_g1 k_g1 c_g1, .bool n_0a, .slice o_0a k_0a c_0a])) (by simp [results, Try.results103, go_sem, r0_0, r0_1, r0_2, r0_3]) rfl ?_
  have k5_7 := (kb n6).o hd7 ho7
  replace g1 := g1.k k5_7
  have k0_7 := ((k0_4.b hb_5).b n6).o hd7 ho7
  replace ha1 := ha1.k k0_7
  exact ⟨_, rfl, .mk' g1 ha1, hs.b⟩
set_option maxHeartbeats 4000000 in
set_option maxRecDepth 20000 in
theorem gTurn0 (K : Int) (hK : K % 4 = 0) (ha : PN w va x l y m) (hl : l ≤ 40000000) (hm : m ≤ 40000000) :
    Calls Try.prog 60 #[va, .int .i64 K] w fun e w' => ∃ v, e = .returned v ∧ PC w' v (turn 0 (x, y)).1 (turn 0 (x, y)).2 ∧ Below w.heap.size w w' := by
  have hand : bits .and .i64 K 3 = 0 := by rw [i64_and_three]; exact hK
  have E := hide (And.intro (Int.add_zero x) (Int.add_zero y))
  clear hK
  obtain ⟨n_0a, o_0a, k_0a, c_0a, n_0b, o_0b, k_0b, c_0b, rfl, ha1, ha2⟩ := ha
  go_enter Try.func60, Try.ntmps60
  have hs := St.nil w
  refine wp_seq_k ?_
  intro K1 hK1
  refine rg [0, 1] ?_
  refine sq ?_
  refine .al hs ?_; clear hs; intro p_b1 w_1 hs n1 kb_b1
  refine sq ?_
  refine .al hs ?_; clear hs; intro p_b2 w_2 hs n2 kb_b2
  apply wpSq_end
  refine hK1 _ _ ?_
  refine wp_seq_k ?_
  intro K2 hK2
  refine wp_region_f4 [(0, false), (1, false), (2, false), (4, false), (5, false), (6, false), (3, true), (7, true), (8, false)] [10] [9] (fun j => (.cells #[.bool false, .slice none 0 0, .bool false, .slice none 0 0] 41)) [99, 0, 99, 99, 99, 0, 99, 99, 99, 99, 99] [] (.c hs.g1 .n) (fm fn) fun w_3 n3 => ?_
  replace hs := hs.bl n3
  have hlB := hs.lt; have hkB := hs.k
  refine f0 ?_
  refine f4 ?_
  refine f0 ?_
  refine f0 ?_
  refine f4 ?_
  refine f0 ?_
  refine fl fun w_4 n4 => ?_
  replace hs := hs.bl n4
  intro K hK
  have k0_4 := (((kb n1).b n2).b n3).b n4
  replace ha1 := ha1.k k0_4
  go_big_op
  go_fit (zadd_any ha1 ((zc_zero w_4).zn zlen_0) (by omega) (by omega) )
  rintro e w_5 ⟨v_g1, rfl, g1, hb_5⟩
  replace hs := hs.bl hb_5
  replace g1 := g1.rd
  obtain ⟨n_g1, o_g1, k_g1, c_g1, rfl⟩ := g1.open2
  have Lg1 := hide (g1.lenOf (zlen_add (ha1.len) (zlen_0)))
  rw [E.out.1] at g1
  refine hK _ _ rfl ⟨hb_5, (And.intro hs.g1 trivial)⟩ ?_
  clear hK K
  have Lg1 := hide (g1.lenOf (ha1.len))
  refine fl fun w_6 n6 => ?_
  replace hs := hs.bl n6
  intro K hK
  have k0_6 := (k0_4.b hb_5).b n6
  replace ha2 := ha2.k k0_6
  go_big_op
  go_fit (zadd_any ha2 ((zc_zero w_6).zn zlen_0) (by omega) (by omega) )
  rintro e w_7 ⟨v_g2, rfl, g2, hb_7⟩
  replace hs := hs.bl hb_7
  replace g2 := g2.rd
  obtain ⟨n_g2, o_g2, k_g2, c_g2, rfl⟩ := g2.open2
  have Lg2 := hide (g2.lenOf (zlen_add (ha2.len) (zlen_0)))
  rw [E.out.2] at g2
  refine hK _ _ rfl ⟨hb_7, (And.intro hs.g1 trivial)⟩ ?_
  clear hK K
  refine f0 ?_
  refine e1 hs hlB hkB ?_; clear hs hlB hkB; intro w_8 p_b3 hs n8 kb_b3
  refine tl ?_
  refine .s4 hs.g0 (fun _ => hs.u0 kb_b3) ?_ (e := fun _ hs => (And.intro hs.g2 True.intro)); clear hs; intro w_9 hs hd9 ho9
  apply wpTail_end
  refine hK2 _ _ ?_
  refine wp_seq_k ?_
  intro K3 hK3
  refine wp_seq_k ?_
  intro K4 hK4
  refine rg [0, 1] ?_
  refine sq ?_
  refine .mv ?_
  refine sq ?_
  refine .r0 ?_
  apply wpSq_end
  refine hK4 _ _ ?_
  refine wp_block ?_
  refine wp_seq_k ?_
  intro K5 hK5
  refine wp_block ?_
  refine wp_seq_k ?_
  intro K6 hK6
  refine wp_block ?_
  refine wp_seq_k ?_
  intro K7 hK7
  refine wp_block ?_
  refine wp_seq_k ?_
  intro K8 hK8
  refine wp_seq_k ?_
  intro K9 hK9
  refine wp_seq_k ?_
  intro K10 hK10
  refine rg [0, 1] ?_
  refine sq ?_
  refine .r0 ?_
  refine sq ?_
  refine .mv ?_
  apply wpSq_end
  refine hK10 _ _ ?_
  have Lg2 := hide (g2.lenOf (ha2.len))
  refine cf ?_
  refine wp_skip ?_
  refine hK9 _ _ ?_
  refine wp_seq_k ?_
  intro K11 hK11
  refine wp_seq_k ?_
  intro K12 hK12
  refine rg [0, 1] ?_
  refine sq ?_
  refine .r0 ?_
  refine sq ?_
  refine .mv ?_
  apply wpSq_end
  refine hK12 _ _ ?_
  refine cf ?_
  refine wp_skip ?_
  refine hK11 _ _ ?_
  refine wp_seq_k ?_
  intro K13 hK13
  refine rg [0, 1] ?_
  refine sq ?_
  refine .r0 ?_
  refine sq ?_
  refine .mv ?_
  apply wpSq_end
  refine hK13 _ _ ?_
  refine cf ?_
  refine wp_skip ?_
  refine hK8 _ _ ?_
  refine wp_exit ?_
  refine hK3 _ _ ?_
  refine wp_seq_k ?_
  intro K14 hK14
  refine rg [0, 1] ?_
  refine sq ?_
  refine .r4 hs.g0.f4 ?_
  refine sq ?_
  refine .s4 hs.g1 (fun _ => hs.u1 kb_b2) ?_; clear hs; intro w_10 hs hd10 ho10
  apply wpSq_end
  refine hK14 _ _ ?_
  refine wp_ret ?_
  try dsimp only [Exit.then, Exit.inBlock]
  obtain ⟨r0_0, r0_1, r0_2, r0_3⟩ := hs.g1.f4
  refine bodyPost_ret (v := (.agg #[.bool n_g1, .slice o_g1 k_g1 c_g1, .bool n_g2, .slice o_g2 k_g2 c_g2])) (by simp [results, Try.results60, go_sem, r0_0, r0_1, r0_2, r0_3]) rfl ?_
  have k5_10 := ((((kb n6).b hb_7).b n8).o hd9 ho9).o hd10 ho10
  replace g1 := g1.k k5_10
  have k7_10 := ((kb n8).o hd9 ho9).o hd10 ho10
  replace g2 := g2.k k7_10
  exact ⟨_, rfl, .mk' g1 g2, hs.b⟩
set_option maxHeartbeats 4000000 in
set_option maxRecDepth 20000 in
theorem gTurn1 (K : Int) (hK : K % 4 = 1) (ha : PN w va x l y m) (hl : l ≤ 40000000) (hm : m ≤ 40000000) :
    Calls Try.prog 60 #[va, .int .i64 K] w fun e w' => ∃ v, e = .returned v ∧ PC w' v (turn 1 (x, y)).1 (turn 1 (x, y)).2 ∧ Below w.heap.size w w' := by
  have hand : bits .and .i64 K 3 = 1 := by rw [i64_and_three]; exact hK
  have E := hide (And.intro (Int.add_zero x) (Int.add_zero y))
  clear hK
  obtain ⟨n_0a, o_0a, k_0a, c_0a, n_0b, o_0b, k_0b, c_0b, rfl, ha1, ha2⟩ := ha
  go_enter Try.func60, Try.ntmps60
  have hs := St.nil w
  refine wp_seq_k ?_
  intro K1 hK1
  refine rg [0, 1] ?_
  refine sq ?_
  refine .al hs ?_; clear hs; intro p_b1 w_1 hs n1 kb_b1
  refine sq ?_
  refine .al hs ?_; clear hs; intro p_b2 w_2 hs n2 kb_b2
  apply wpSq_end
  refine hK1 _ _ ?_
  refine wp_seq_k ?_
  intro K2 hK2
  refine wp_region_f4 [(0, false), (1, false), (2, false), (4, false), (5, false), (6, false), (3, true), (7, true), (8, false)] [10] [9] (fun j => (.cells #[.bool false, .slice none 0 0, .bool false, .slice none 0 0] 41)) [99, 0, 99, 99, 99, 0, 99, 99, 99, 99, 99] [] (.c hs.g1 .n) (fm fn) fun w_3 n3 => ?_
  replace hs := hs.bl n3
  have hlB := hs.lt; have hkB := hs.k
  refine f0 ?_
  refine f4 ?_
  refine f0 ?_
  refine f0 ?_
  refine f4 ?_
  refine f0 ?_
  refine fl fun w_4 n4 => ?_
  replace hs := hs.bl n4
  intro K hK
  have k0_4 := (((kb n1).b n2).b n3).b n4
  replace ha1 := ha1.k k0_4
  go_big_op
  go_fit (zadd_any ha1 ((zc_zero w_4).zn zlen_0) (by omega) (by omega) )
  rintro e w_5 ⟨v_g1, rfl, g1, hb_5⟩
  replace hs := hs.bl hb_5
  replace g1 := g1.rd
  obtain ⟨n_g1, o_g1, k_g1, c_g1, rfl⟩ := g1.open2
  have Lg1 := hide (g1.lenOf (zlen_add (ha1.len) (zlen_0)))
  rw [E.out.1] at g1
  refine hK _ _ rfl ⟨hb_5, (And.intro hs.g1 trivial)⟩ ?_
  clear hK K
  have Lg1 := hide (g1.lenOf (ha1.len))
  refine fl fun w_6 n6 => ?_
  replace hs := hs.bl n6
  intro K hK
  have k0_6 := (k0_4.b hb_5).b n6
  replace ha2 := ha2.k k0_6
  go_big_op
  go_fit (zadd_any ha2 ((zc_zero w_6).zn zlen_0) (by omega) (by omega) )
  rintro e w_7 ⟨v_g2, rfl, g2, hb_7⟩
  replace hs := hs.bl hb_7
  replace g2 := g2.rd
  obtain ⟨n_g2, o_g2, k_g2, c_g2, rfl⟩ := g2.open2
  have Lg2 := hide (g2.lenOf (zlen_add (ha2.len) (zlen_0)))
  rw [E.out.2] at g2
  refine hK _ _ rfl ⟨hb_7, (And.intro hs.g1 trivial)⟩ ?_
  clear hK K
  refine f0 ?_
  refine e1 hs hlB hkB ?_; clear hs hlB hkB; intro w_8 p_b3 hs n8 kb_b3
  refine tl ?_
  refine .s4 hs.g0 (fun _ => hs.u0 kb_b3) ?_ (e := fun _ hs => (And.intro hs.g2 True.intro)); clear hs; intro w_9 hs hd9 ho9
  apply wpTail_end
  refine hK2 _ _ ?_
  refine wp_seq_k ?_
  intro K3 hK3
  refine wp_seq_k ?_
  intro K4 hK4
  refine rg [0, 1] ?_
  refine sq ?_
  refine .mv ?_
  refine sq ?_
  refine .r0 ?_
  apply wpSq_end
  refine hK4 _ _ ?_
  refine wp_block ?_
  refine wp_seq_k ?_
  intro K5 hK5
  refine wp_block ?_
  refine wp_seq_k ?_
  intro K6 hK6
  refine wp_block ?_
  refine wp_seq_k ?_
  intro K7 hK7
  refine wp_block ?_
  refine wp_seq_k ?_
  intro K8 hK8
  refine wp_seq_k ?_
  intro K9 hK9
  refine wp_seq_k ?_
  intro K10 hK10
  refine rg [0, 1] ?_
  refine sq ?_
  refine .r0 ?_
  refine sq ?_
  refine .mv ?_
  apply wpSq_end
  refine hK10 _ _ ?_
  have Lg2 := hide (g2.lenOf (ha2.len))
  refine cf ?_
  refine wp_skip ?_
  refine hK9 _ _ ?_
  refine wp_seq_k ?_
  intro K11 hK11
  refine wp_seq_k ?_
  intro K12 hK12
  refine rg [0, 1] ?_
  refine sq ?_
  refine .r0 ?_
  refine sq ?_
  refine .mv ?_
  apply wpSq_end
  refine hK12 _ _ ?_
  refine cf ?_
  refine wp_skip ?_
  refine hK11 _ _ ?_
  refine wp_seq_k ?_
  intro K13 hK13
  refine rg [0, 1] ?_
  refine sq ?_
  refine .r0 ?_
  refine sq ?_
  refine .mv ?_
  apply wpSq_end
  refine hK13 _ _ ?_
  refine ct ?_
  refine wp_exit ?_
  refine hK5 _ _ ?_
  refine wp_seq_k ?_
  intro K14 hK14
  refine rg [0, 1, 2] ?_
  refine sq ?_
  refine .r4 hs.g0.f4 ?_
  refine sq ?_
  intro K hK
  have k5_9 := (((kb n6).b hb_7).b n8).o hd9 ho9
  replace g1 := g1.k k5_9
  have k7_9 := (kb n8).o hd9 ho9
  replace g2 := g2.k k7_9
  go_big_op
  go_fit (timesI_any (.mk' g1 g2) (Nat.le_trans Lg1.out (by omega)) (Nat.le_trans Lg2.out (by omega)))
  rintro e w_10 ⟨_, rfl, ⟨n_t1a, o_t1a, k_t1a, c_t1a, n_t1b, o_t1b, k_t1b, c_t1b, rfl, t11, t12⟩, hb_10⟩
  replace hs := hs.bl hb_10
  have Lt11 := hide (t11.lenOf (zlen_neg Lg2.out))
  have Lt12 := hide (t12.lenOf (Lg1.out))
  refine hK _ _ rfl trivial ?_
  clear hK K
  refine sq ?_
  refine .s4 hs.g0 (fun _ => hs.u0 kb_b3) ?_; clear hs; intro w_11 hs hd11 ho11
  apply wpSq_end
  refine hK14 _ _ ?_
  refine wp_exit ?_
  refine hK3 _ _ ?_
  refine wp_seq_k ?_
  intro K15 hK15
  refine rg [0, 1] ?_
  refine sq ?_
  refine .r4 hs.g0.f4 ?_
  refine sq ?_
  refine .s4 hs.g1 (fun _ => hs.u1 kb_b2) ?_; clear hs; intro w_12 hs hd12 ho12
  apply wpSq_end
  refine hK15 _ _ ?_
  refine wp_ret ?_
  try dsimp only [Exit.then, Exit.inBlock]
  obtain ⟨r0_0, r0_1, r0_2, r0_3⟩ := hs.g1.f4
  refine bodyPost_ret (v := (.agg #[.bool n_t1a, .slice o_t1a k_t1a c_t1a, .bool n_t1b, .slice o_t1b k_t1b c_t1b])) (by simp [results, Try.results60, go_sem, r0_0, r0_1, r0_2, r0_3]) rfl ?_
  have k10_12 := (ko hd11 ho11).o hd12 ho12
  replace t11 := t11.k k10_12
  replace t12 := t12.k k10_12
  exact ⟨_, rfl, .mk' t11 t12, hs.b⟩
set_option maxHeartbeats 4000000 in
set_option maxRecDepth 20000 in
theorem gTurn2 (K : Int) (hK : K % 4 = 2) (ha : PN w va x l y m) (hl : l ≤ 40000000) (hm : m ≤ 40000000) :
    Calls Try.prog 60 #[va, .int .i64 K] w fun e w' => ∃ v, e = .returned v ∧ PC w' v (turn 2 (x, y)).1 (turn 2 (x, y)).2 ∧ Below w.heap.size w w' := by
  have hand : bits .and .i64 K 3 = 2 := by rw [i64_and_three]; exact hK
  have E := hide (And.intro (Int.add_zero x) (Int.add_zero y))
  clear hK
  obtain ⟨n_0a, o_0a, k_0a, c_0a, n_0b, o_0b, k_0b, c_0b, rfl, ha1, ha2⟩ := ha
  go_enter Try.func60, Try.ntmps60
  have hs := St.nil w
  refine wp_seq_k ?_
  intro K1 hK1
  refine rg [0, 1] ?_
  refine sq ?_
  refine .al hs ?_; clear hs; intro p_b1 w_1 hs n1 kb_b1
  refine sq ?_
  refine .al hs ?_; clear hs; intro p_b2 w_2 hs n2 kb_b2
  apply wpSq_end
  refine hK1 _ _ ?_
  refine wp_seq_k ?_
  intro K2 hK2
  refine wp_region_f4 [(0, false), (1, false), (2, false), (4, false), (5, false), (6, false), (3, true), (7, true), (8, false)] [10] [9] (fun j => (.cells #[.bool false, .slice none 0 0, .bool false, .slice none 0 0] 41)) [99, 0, 99, 99, 99, 0, 99, 99, 99, 99, 99] [] (.c hs.g1 .n) (fm fn) fun w_3 n3 => ?_
  replace hs := hs.bl n3
  have hlB := hs.lt; have hkB := hs.k
  refine f0 ?_
  refine f4 ?_
  refine f0 ?_
  refine f0 ?_
  refine f4 ?_
  refine f0 ?_
  refine fl fun w_4 n4 => ?_
  replace hs := hs.bl n4
  intro K hK
  have k0_4 := (((kb n1).b n2).b n3).b n4
  replace ha1 := ha1.k k0_4
  go_big_op
  go_fit (zadd_any ha1 ((zc_zero w_4).zn zlen_0) (by omega) (by omega) )
  rintro e w_5 ⟨v_g1, rfl, g1, hb_5⟩
  replace hs := hs.bl hb_5
  replace g1 := g1.rd
  obtain ⟨n_g1, o_g1, k_g1, c_g1, rfl⟩ := g1.open2
  have Lg1 := hide (g1.lenOf (zlen_add (ha1.len) (zlen_0)))
  rw [E.out.1] at g1
  refine hK _ _ rfl ⟨hb_5, (And.intro hs.g1 trivial)⟩ ?_
  clear hK K
  have Lg1 := hide (g1.lenOf (ha1.len))
  refine fl fun w_6 n6 => ?_
  replace hs := hs.bl n6
  intro K hK
  have k0_6 := (k0_4.b hb_5).b n6
  replace ha2 := ha2.k k0_6
  go_big_op
  go_fit (zadd_any ha2 ((zc_zero w_6).zn zlen_0) (by omega) (by omega) )
  rintro e w_7 ⟨v_g2, rfl, g2, hb_7⟩
  replace hs := hs.bl hb_7
  replace g2 := g2.rd
  obtain ⟨n_g2, o_g2, k_g2, c_g2, rfl⟩ := g2.open2
  have Lg2 := hide (g2.lenOf (zlen_add (ha2.len) (zlen_0)))
  rw [E.out.2] at g2
  refine hK _ _ rfl ⟨hb_7, (And.intro hs.g1 trivial)⟩ ?_
  clear hK K
  refine f0 ?_
  refine e1 hs hlB hkB ?_; clear hs hlB hkB; intro w_8 p_b3 hs n8 kb_b3
  refine tl ?_
  refine .s4 hs.g0 (fun _ => hs.u0 kb_b3) ?_ (e := fun _ hs => (And.intro hs.g2 True.intro)); clear hs; intro w_9 hs hd9 ho9
  apply wpTail_end
  refine hK2 _ _ ?_
  refine wp_seq_k ?_
  intro K3 hK3
  refine wp_seq_k ?_
  intro K4 hK4
  refine rg [0, 1] ?_
  refine sq ?_
  refine .mv ?_
  refine sq ?_
  refine .r0 ?_
  apply wpSq_end
  refine hK4 _ _ ?_
  refine wp_block ?_
  refine wp_seq_k ?_
  intro K5 hK5
  refine wp_block ?_
  refine wp_seq_k ?_
  intro K6 hK6
  refine wp_block ?_
  refine wp_seq_k ?_
  intro K7 hK7
  refine wp_block ?_
  refine wp_seq_k ?_
  intro K8 hK8
  refine wp_seq_k ?_
  intro K9 hK9
  refine wp_seq_k ?_
  intro K10 hK10
  refine rg [0, 1] ?_
  refine sq ?_
  refine .r0 ?_
  refine sq ?_
  refine .mv ?_
  apply wpSq_end
  refine hK10 _ _ ?_
  have Lg2 := hide (g2.lenOf (ha2.len))
  refine cf ?_
  refine wp_skip ?_
  refine hK9 _ _ ?_
  refine wp_seq_k ?_
  intro K11 hK11
  refine wp_seq_k ?_
  intro K12 hK12
  refine rg [0, 1] ?_
  refine sq ?_
  refine .r0 ?_
  refine sq ?_
  refine .mv ?_
  apply wpSq_end
  refine hK12 _ _ ?_
  refine ct ?_
  refine wp_exit ?_
  refine hK6 _ _ ?_
  refine rg [0, 1, 2] ?_
  refine sq ?_
  refine .r4 hs.g0.f4 ?_
  refine sq ?_
  intro K hK
  have k5_9 := (((kb n6).b hb_7).b n8).o hd9 ho9
  replace g1 := g1.k k5_9
  have k7_9 := (kb n8).o hd9 ho9
  replace g2 := g2.k k7_9
  go_big_op
  go_fit (timesI_any (.mk' g1 g2) (Nat.le_trans Lg1.out (by omega)) (Nat.le_trans Lg2.out (by omega)))
  rintro e w_10 ⟨_, rfl, ⟨n_t1a, o_t1a, k_t1a, c_t1a, n_t1b, o_t1b, k_t1b, c_t1b, rfl, t11, t12⟩, hb_10⟩
  replace hs := hs.bl hb_10
  have Lt11 := hide (t11.lenOf (zlen_neg Lg2.out))
  have Lt12 := hide (t12.lenOf (Lg1.out))
  refine hK _ _ rfl trivial ?_
  clear hK K
  refine sq ?_
  refine .s4 hs.g0 (fun _ => hs.u0 kb_b3) ?_; clear hs; intro w_11 hs hd11 ho11
  apply wpSq_end
  refine hK5 _ _ ?_
  refine wp_seq_k ?_
  intro K13 hK13
  refine rg [0, 1, 2] ?_
  refine sq ?_
  refine .r4 hs.g0.f4 ?_
  refine sq ?_
  intro K hK
  have k10_11 := ko hd11 ho11
  replace t11 := t11.k k10_11
  replace t12 := t12.k k10_11
  go_big_op
  go_fit (timesI_any (.mk' t11 t12) (Nat.le_trans Lt11.out (by omega)) (Nat.le_trans Lt12.out (by omega)))
  rintro e w_12 ⟨_, rfl, ⟨n_t2a, o_t2a, k_t2a, c_t2a, n_t2b, o_t2b, k_t2b, c_t2b, rfl, t21, t22⟩, hb_12⟩
  replace hs := hs.bl hb_12
  have Lt21 := hide (t21.lenOf (zlen_neg Lt12.out))
  have Lt22 := hide (t22.lenOf (Lt11.out))
  refine hK _ _ rfl trivial ?_
  clear hK K
  refine sq ?_
  refine .s4 hs.g0 (fun _ => hs.u0 kb_b3) ?_; clear hs; intro w_13 hs hd13 ho13
  clear ha1 ha2 g1 g2 t11 t12
  apply wpSq_end
  refine hK13 _ _ ?_
  refine wp_exit ?_
  refine hK3 _ _ ?_
  refine wp_seq_k ?_
  intro K14 hK14
  refine rg [0, 1] ?_
  refine sq ?_
  refine .r4 hs.g0.f4 ?_
  refine sq ?_
  refine .s4 hs.g1 (fun _ => hs.u1 kb_b2) ?_; clear hs; intro w_14 hs hd14 ho14
  apply wpSq_end
  refine hK14 _ _ ?_
  refine wp_ret ?_
  try dsimp only [Exit.then, Exit.inBlock]
  obtain ⟨r0_0, r0_1, r0_2, r0_3⟩ := hs.g1.f4
  refine bodyPost_ret (v := (.agg #[.bool n_t2a, .slice o_t2a k_t2a c_t2a, .bool n_t2b, .slice o_t2b k_t2b c_t2b])) (by simp [results, Try.results60, go_sem, r0_0, r0_1, r0_2, r0_3]) rfl ?_
  have k12_14 := (ko hd13 ho13).o hd14 ho14
  replace t21 := t21.k k12_14
  replace t22 := t22.k k12_14
  exact ⟨_, rfl, .mk' t21 t22, hs.b⟩
set_option maxHeartbeats 4000000 in
set_option maxRecDepth 20000 in
theorem gTurn3 (K : Int) (hK : K % 4 = 3) (ha : PN w va x l y m) (hl : l ≤ 40000000) (hm : m ≤ 40000000) :
    Calls Try.prog 60 #[va, .int .i64 K] w fun e w' => ∃ v, e = .returned v ∧ PC w' v (turn 3 (x, y)).1 (turn 3 (x, y)).2 ∧ Below w.heap.size w w' := by
  have hand : bits .and .i64 K 3 = 3 := by rw [i64_and_three]; exact hK
  have E := hide (And.intro (Int.add_zero x) (Int.add_zero y))
  clear hK
  obtain ⟨n_0a, o_0a, k_0a, c_0a, n_0b, o_0b, k_0b, c_0b, rfl, ha1, ha2⟩ := ha
  go_enter Try.func60, Try.ntmps60
  have hs := St.nil w
  refine wp_seq_k ?_
  intro K1 hK1
  refine rg [0, 1] ?_
  refine sq ?_
  refine .al hs ?_; clear hs; intro p_b1 w_1 hs n1 kb_b1
  refine sq ?_
  refine .al hs ?_; clear hs; intro p_b2 w_2 hs n2 kb_b2
  apply wpSq_end
  refine hK1 _ _ ?_
  refine wp_seq_k ?_
  intro K2 hK2
  refine wp_region_f4 [(0, false), (1, false), (2, false), (4, false), (5, false), (6, false), (3, true), (7, true), (8, false)] [10] [9] (fun j => (.cells #[.bool false, .slice none 0 0, .bool false, .slice none 0 0] 41)) [99, 0, 99, 99, 99, 0, 99, 99, 99, 99, 99] [] (.c hs.g1 .n) (fm fn) fun w_3 n3 => ?_
  replace hs := hs.bl n3
  have hlB := hs.lt; have hkB := hs.k
  refine f0 ?_
  refine f4 ?_
  refine f0 ?_
  refine f0 ?_
  refine f4 ?_
  refine f0 ?_
  refine fl fun w_4 n4 => ?_
  replace hs := hs.bl n4
  intro K hK
  have k0_4 := (((kb n1).b n2).b n3).b n4
  replace ha1 := ha1.k k0_4
  go_big_op
  go_fit (zadd_any ha1 ((zc_zero w_4).zn zlen_0) (by omega) (by omega) )
  rintro e w_5 ⟨v_g1, rfl, g1, hb_5⟩
  replace hs := hs.bl hb_5
  replace g1 := g1.rd
  obtain ⟨n_g1, o_g1, k_g1, c_g1, rfl⟩ := g1.open2
  have Lg1 := hide (g1.lenOf (zlen_add (ha1.len) (zlen_0)))
  rw [E.out.1] at g1
  refine hK _ _ rfl ⟨hb_5, (And.intro hs.g1 trivial)⟩ ?_
  clear hK K
  have Lg1 := hide (g1.lenOf (ha1.len))
  refine fl fun w_6 n6 => ?_
  replace hs := hs.bl n6
  intro K hK
  have k0_6 := (k0_4.b hb_5).b n6
  replace ha2 := ha2.k k0_6
  go_big_op
  go_fit (zadd_any ha2 ((zc_zero w_6).zn zlen_0) (by omega) (by omega) )
  rintro e w_7 ⟨v_g2, rfl, g2, hb_7⟩
  replace hs := hs.bl hb_7
  replace g2 := g2.rd
  obtain ⟨n_g2, o_g2, k_g2, c_g2, rfl⟩ := g2.open2
  have Lg2 := hide (g2.lenOf (zlen_add (ha2.len) (zlen_0)))
  rw [E.out.2] at g2
  refine hK _ _ rfl ⟨hb_7, (And.intro hs.g1 trivial)⟩ ?_
  clear hK K
  refine f0 ?_
  refine e1 hs hlB hkB ?_; clear hs hlB hkB; intro w_8 p_b3 hs n8 kb_b3
  refine tl ?_
  refine .s4 hs.g0 (fun _ => hs.u0 kb_b3) ?_ (e := fun _ hs => (And.intro hs.g2 True.intro)); clear hs; intro w_9 hs hd9 ho9
  apply wpTail_end
  refine hK2 _ _ ?_
  refine wp_seq_k ?_
  intro K3 hK3
  refine wp_seq_k ?_
  intro K4 hK4
  refine rg [0, 1] ?_
  refine sq ?_
  refine .mv ?_
  refine sq ?_
  refine .r0 ?_
  apply wpSq_end
  refine hK4 _ _ ?_
  refine wp_block ?_
  refine wp_seq_k ?_
  intro K5 hK5
  refine wp_block ?_
  refine wp_seq_k ?_
  intro K6 hK6
  refine wp_block ?_
  refine wp_seq_k ?_
  intro K7 hK7
  refine wp_block ?_
  refine wp_seq_k ?_
  intro K8 hK8
  refine wp_seq_k ?_
  intro K9 hK9
  refine wp_seq_k ?_
  intro K10 hK10
  refine rg [0, 1] ?_
  refine sq ?_
  refine .r0 ?_
  refine sq ?_
  refine .mv ?_
  apply wpSq_end
  refine hK10 _ _ ?_
  have Lg2 := hide (g2.lenOf (ha2.len))
  refine ct ?_
  refine wp_exit ?_
  refine hK7 _ _ ?_
  refine rg [0, 1, 2] ?_
  refine sq ?_
  refine .r4 hs.g0.f4 ?_
  refine sq ?_
  intro K hK
  have k5_9 := (((kb n6).b hb_7).b n8).o hd9 ho9
  replace g1 := g1.k k5_9
  have k7_9 := (kb n8).o hd9 ho9
  replace g2 := g2.k k7_9
  go_big_op
  go_fit (timesI_any (.mk' g1 g2) (Nat.le_trans Lg1.out (by omega)) (Nat.le_trans Lg2.out (by omega)))
  rintro e w_10 ⟨_, rfl, ⟨n_t1a, o_t1a, k_t1a, c_t1a, n_t1b, o_t1b, k_t1b, c_t1b, rfl, t11, t12⟩, hb_10⟩
  replace hs := hs.bl hb_10
  have Lt11 := hide (t11.lenOf (zlen_neg Lg2.out))
  have Lt12 := hide (t12.lenOf (Lg1.out))
  refine hK _ _ rfl trivial ?_
  clear hK K
  refine sq ?_
  refine .s4 hs.g0 (fun _ => hs.u0 kb_b3) ?_; clear hs; intro w_11 hs hd11 ho11
  apply wpSq_end
  refine hK6 _ _ ?_
  refine rg [0, 1, 2] ?_
  refine sq ?_
  refine .r4 hs.g0.f4 ?_
  refine sq ?_
  intro K hK
  have k10_11 := ko hd11 ho11
  replace t11 := t11.k k10_11
  replace t12 := t12.k k10_11
  go_big_op
  go_fit (timesI_any (.mk' t11 t12) (Nat.le_trans Lt11.out (by omega)) (Nat.le_trans Lt12.out (by omega)))
  rintro e w_12 ⟨_, rfl, ⟨n_t2a, o_t2a, k_t2a, c_t2a, n_t2b, o_t2b, k_t2b, c_t2b, rfl, t21, t22⟩, hb_12⟩
  replace hs := hs.bl hb_12
  have Lt21 := hide (t21.lenOf (zlen_neg Lt12.out))
  have Lt22 := hide (t22.lenOf (Lt11.out))
  refine hK _ _ rfl trivial ?_
  clear hK K
  refine sq ?_
  refine .s4 hs.g0 (fun _ => hs.u0 kb_b3) ?_; clear hs; intro w_13 hs hd13 ho13
  clear ha1 ha2 g1 g2 t11 t12
  apply wpSq_end
  refine hK5 _ _ ?_
  refine wp_seq_k ?_
  intro K11 hK11
  refine rg [0, 1, 2] ?_
  refine sq ?_
  refine .r4 hs.g0.f4 ?_
  refine sq ?_
  intro K hK
  have k12_13 := ko hd13 ho13
  replace t21 := t21.k k12_13
  replace t22 := t22.k k12_13
  go_big_op
  go_fit (timesI_any (.mk' t21 t22) (Nat.le_trans Lt21.out (by omega)) (Nat.le_trans Lt22.out (by omega)))
  rintro e w_14 ⟨_, rfl, ⟨n_t3a, o_t3a, k_t3a, c_t3a, n_t3b, o_t3b, k_t3b, c_t3b, rfl, t31, t32⟩, hb_14⟩
  replace hs := hs.bl hb_14
  have Lt31 := hide (t31.lenOf (zlen_neg Lt22.out))
  have Lt32 := hide (t32.lenOf (Lt21.out))
  refine hK _ _ rfl trivial ?_
  clear hK K
  refine sq ?_
  refine .s4 hs.g0 (fun _ => hs.u0 kb_b3) ?_; clear hs; intro w_15 hs hd15 ho15
  apply wpSq_end
  refine hK11 _ _ ?_
  refine wp_exit ?_
  refine hK3 _ _ ?_
  refine wp_seq_k ?_
  intro K12 hK12
  refine rg [0, 1] ?_
  refine sq ?_
  refine .r4 hs.g0.f4 ?_
  refine sq ?_
  refine .s4 hs.g1 (fun _ => hs.u1 kb_b2) ?_; clear hs; intro w_16 hs hd16 ho16
  apply wpSq_end
  refine hK12 _ _ ?_
  refine wp_ret ?_
  try dsimp only [Exit.then, Exit.inBlock]
  obtain ⟨r0_0, r0_1, r0_2, r0_3⟩ := hs.g1.f4
  refine bodyPost_ret (v := (.agg #[.bool n_t3a, .slice o_t3a k_t3a c_t3a, .bool n_t3b, .slice o_t3b k_t3b c_t3b])) (by simp [results, Try.results60, go_sem, r0_0, r0_1, r0_2, r0_3]) rfl ?_
  have k14_16 := (ko hd15 ho15).o hd16 ho16
  replace t31 := t31.k k14_16
  replace t32 := t32.k k14_16
  exact ⟨_, rfl, .mk' t31 t32, hs.b⟩
theorem gTurn_any (K : Int) (ha : PN w va x l y m) (hl : l ≤ 40000000) (hm : m ≤ 40000000) :
    Calls Try.prog 60 #[va, .int .i64 K] w fun e w' => ∃ v, e = .returned v ∧ PC w' v (turn (K % 4).toNat (x, y)).1 (turn (K % 4).toNat (x, y)).2 ∧ Below w.heap.size w w' := by
  have h : K % 4 = 0 ∨ K % 4 = 1 ∨ K % 4 = 2 ∨ K % 4 = 3 := by omega
  rcases h with h | h | h | h
  · rw [h]; exact gTurn0 K h ha hl hm
  · rw [h]; exact gTurn1 K h ha hl hm
  · rw [h]; exact gTurn2 K h ha hl hm
  · rw [h]; exact gTurn3 K h ha hl hm
set_option maxHeartbeats 4000000 in
set_option maxRecDepth 20000 in
theorem rgTurn_p0 (K : Int) (htm : Int.tmod K 4 = 0) (ha : PN w va x l y m) (hl : l ≤ 40000000) (hm : m ≤ 40000000) :
    Calls Try.prog 24 #[va, .int .i64 K] w fun e w' => ∃ v, e = .returned v ∧ PC w' v (turn 0 (x, y)).1 (turn 0 (x, y)).2 ∧ Below w.heap.size w w' := by
  obtain ⟨n_0a, o_0a, k_0a, c_0a, n_0b, o_0b, k_0b, c_0b, rfl, ha1, ha2⟩ := ha
  go_enter Try.func24, Try.ntmps24
  have hs := St.nil w
  refine wp_seq_k ?_
  intro K1 hK1
  refine rg [0, 1] ?_
  refine sq ?_
  refine .al hs ?_; clear hs; intro p_b1 w_1 hs n1 kb_b1
  refine sq ?_
  refine .al hs ?_; clear hs; intro p_b2 w_2 hs n2 kb_b2
  apply wpSq_end
  refine hK1 _ _ ?_
  refine wp_seq_k ?_
  intro K2 hK2
  refine rg [0, 1, 2, 3] ?_
  refine sq ?_
  refine .r4 hs.g1.f4 ?_
  refine sq ?_
  intro K hK
  have k0_2 := (kb n1).b n2
  replace ha1 := ha1.k k0_2
  replace ha2 := ha2.k k0_2
  go_big_op
  go_fit (rgCanonical_any (PN.mk' ha1 ha2) (by omega) (by omega) )
  rintro e w_3 ⟨_, rfl, ⟨n_ga, o_ga, k_ga, c_ga, n_gb, o_gb, k_gb, c_gb, rfl, g1, g2⟩, hb_3⟩
  replace hs := hs.bl hb_3
  have Lg1 := hide (g1.lenOf ((ha1.len)))
  have Lg2 := hide (g2.lenOf ((ha2.len)))
  refine hK _ _ rfl trivial ?_
  clear hK K
  refine sq ?_
  refine .al hs ?_; clear hs; intro p_b3 w_4 hs n4 kb_b3
  refine sq ?_
  refine .s4 hs.g0 (fun _ => hs.u0 kb_b3) ?_; clear hs; intro w_5 hs hd5 ho5
  apply wpSq_end
  refine hK2 _ _ ?_
  refine wp_seq_k ?_
  intro K3 hK3
  refine rg [0, 1, 2] ?_
  refine sq ?_
  refine .mv ?_
  refine sq ?_
  refine .r0 ?_
  refine sq ?_
  refine .mv ?_
  apply wpSq_end
  refine hK3 _ _ ?_
  refine wp_seq_k ?_
  intro K4 hK4
  refine wp_seq_k ?_
  intro K5 hK5
  refine rg [0, 1] ?_
  refine sq ?_
  refine .mv ?_
  refine sq ?_
  refine .r0 ?_
  apply wpSq_end
  refine hK5 _ _ ?_
  refine cf ?_
  refine wp_skip ?_
  refine hK4 _ _ ?_
  refine wp_seq_k ?_
  intro K6 hK6
  refine wp_seq_k ?_
  intro K7 hK7
  refine rg [0] ?_
  refine sq ?_
  refine .mv ?_
  apply wpSq_end
  refine hK7 _ _ ?_
  refine wp_block ?_
  refine wp_loop_rounds 1 ?_
  show Code.wp _ _ _ _ _
  refine wp_seq_k ?_
  intro K8 hK8
  refine wp_seq_k ?_
  intro K9 hK9
  refine rg [0, 1, 2] ?_
  refine sq ?_
  refine .mv ?_
  refine sq ?_
  refine .mv ?_
  refine sq ?_
  refine .r0 ?_
  apply wpSq_end
  refine hK9 _ _ ?_
  refine cf ?_
  refine wp_exit ?_
  refine hK6 _ _ ?_
  refine wp_seq_k ?_
  intro K10 hK10
  refine rg [0, 1] ?_
  refine sq ?_
  refine .r4 hs.g0.f4 ?_
  refine sq ?_
  refine .s4 hs.g1 (fun _ => hs.u1 kb_b2) ?_; clear hs; intro w_6 hs hd6 ho6
  apply wpSq_end
  refine hK10 _ _ ?_
  refine wp_ret ?_
  try dsimp only [Exit.then, Exit.inBlock]
  obtain ⟨r0_0, r0_1, r0_2, r0_3⟩ := hs.g1.f4
  refine bodyPost_ret (v := (.agg #[.bool n_ga, .slice o_ga k_ga c_ga, .bool n_gb, .slice o_gb k_gb c_gb])) (by simp [results, Try.results24, go_sem, r0_0, r0_1, r0_2, r0_3]) rfl ?_
  have k3_6 := ((kb n4).o hd5 ho5).o hd6 ho6
  replace g1 := g1.k k3_6
  replace g2 := g2.k k3_6
  exact ⟨_, rfl, .mk' g1 g2, hs.b⟩
set_option maxHeartbeats 4000000 in
set_option maxRecDepth 20000 in
theorem rgTurn_p1 (K : Int) (htm : Int.tmod K 4 = 1) (ha : PN w va x l y m) (hl : l ≤ 40000000) (hm : m ≤ 40000000) :
    Calls Try.prog 24 #[va, .int .i64 K] w fun e w' => ∃ v, e = .returned v ∧ PC w' v (turn 1 (x, y)).1 (turn 1 (x, y)).2 ∧ Below w.heap.size w w' := by
  obtain ⟨n_0a, o_0a, k_0a, c_0a, n_0b, o_0b, k_0b, c_0b, rfl, ha1, ha2⟩ := ha
  go_enter Try.func24, Try.ntmps24
  have hs := St.nil w
  refine wp_seq_k ?_
  intro K1 hK1
  refine rg [0, 1] ?_
  refine sq ?_
  refine .al hs ?_; clear hs; intro p_b1 w_1 hs n1 kb_b1
  refine sq ?_
  refine .al hs ?_; clear hs; intro p_b2 w_2 hs n2 kb_b2
  apply wpSq_end
  refine hK1 _ _ ?_
  refine wp_seq_k ?_
  intro K2 hK2
  refine rg [0, 1, 2, 3] ?_
  refine sq ?_
  refine .r4 hs.g1.f4 ?_
  refine sq ?_
  intro K hK
  have k0_2 := (kb n1).b n2
  replace ha1 := ha1.k k0_2
  replace ha2 := ha2.k k0_2
  go_big_op
  go_fit (rgCanonical_any (PN.mk' ha1 ha2) (by omega) (by omega) )
  rintro e w_3 ⟨_, rfl, ⟨n_ga, o_ga, k_ga, c_ga, n_gb, o_gb, k_gb, c_gb, rfl, g1, g2⟩, hb_3⟩
  replace hs := hs.bl hb_3
  have Lg1 := hide (g1.lenOf ((ha1.len)))
  have Lg2 := hide (g2.lenOf ((ha2.len)))
  refine hK _ _ rfl trivial ?_
  clear hK K
  refine sq ?_
  refine .al hs ?_; clear hs; intro p_b3 w_4 hs n4 kb_b3
  refine sq ?_
  refine .s4 hs.g0 (fun _ => hs.u0 kb_b3) ?_; clear hs; intro w_5 hs hd5 ho5
  apply wpSq_end
  refine hK2 _ _ ?_
  refine wp_seq_k ?_
  intro K3 hK3
  refine rg [0, 1, 2] ?_
  refine sq ?_
  refine .mv ?_
  refine sq ?_
  refine .r0 ?_
  refine sq ?_
  refine .mv ?_
  apply wpSq_end
  refine hK3 _ _ ?_
  refine wp_seq_k ?_
  intro K4 hK4
  refine wp_seq_k ?_
  intro K5 hK5
  refine rg [0, 1] ?_
  refine sq ?_
  refine .mv ?_
  refine sq ?_
  refine .r0 ?_
  apply wpSq_end
  refine hK5 _ _ ?_
  refine cf ?_
  refine wp_skip ?_
  refine hK4 _ _ ?_
  refine wp_seq_k ?_
  intro K6 hK6
  refine wp_seq_k ?_
  intro K7 hK7
  refine rg [0] ?_
  refine sq ?_
  refine .mv ?_
  apply wpSq_end
  refine hK7 _ _ ?_
  refine wp_block ?_
  refine wp_loop_rounds 2 ?_
  show Code.wp _ _ _ _ _
  refine wp_seq_k ?_
  intro K8 hK8
  refine wp_seq_k ?_
  intro K9 hK9
  refine rg [0, 1, 2] ?_
  refine sq ?_
  refine .mv ?_
  refine sq ?_
  refine .mv ?_
  refine sq ?_
  refine .r0 ?_
  apply wpSq_end
  refine hK9 _ _ ?_
  refine ct ?_
  refine wp_skip ?_
  refine hK8 _ _ ?_
  refine wp_seq_k ?_
  intro K10 hK10
  refine wp_block ?_
  refine wp_region_f4 [(0, false), (1, false), (3, false), (4, false), (2, true), (5, false)] [6] [] (fun _ => default) [99, 0, 99, 99, 0, 99, 99] [(6, 0)] (.c hs.g0 .n) fn fun w_6 n6 => ?_
  replace hs := hs.bl n6
  refine f0 ?_
  refine f4 ?_
  refine f0 ?_
  refine f4 ?_
  refine fl fun w_7 n7 => ?_
  replace hs := hs.bl n7
  intro K hK
  have k3_7 := (((kb n4).o hd5 ho5).b n6).b n7
  replace g2 := g2.k k3_7
  go_big_op
  go_fit (rneg_any (g2.zn Lg2.out) (by omega) )
  rintro e w_8 ⟨v_t1, rfl, t1, hb_8⟩
  replace hs := hs.bl hb_8
  replace t1 := t1.rd
  obtain ⟨n_t1, o_t1, k_t1, c_t1, rfl⟩ := t1.open2
  have Lt1 := hide (t1.lenOf (zlen_neg (Lg2.out)))
  refine hK _ _ rfl ⟨hb_8, (And.intro hs.g0 trivial)⟩ ?_
  clear hK K
  refine f0 ?_
  refine e0 hs ?_; clear hs; intro w_9 hs n9
  refine tl ?_
  refine .s4 hs.g0 (fun _ => hs.u0 kb_b3) ?_ (e := fun _ hs => (And.intro True.intro True.intro)); clear hs; intro w_10 hs hd10 ho10
  apply wpTail_end
  refine hK10 _ _ ?_
  refine rg [0, 1, 2] ?_
  refine sq ?_
  refine .mv ?_
  refine sq ?_
  refine .r0 ?_
  refine sq ?_
  refine .mv ?_
  apply wpSq_end
  show Code.wp _ _ _ _ _
  refine wp_seq_k ?_
  intro K11 hK11
  refine wp_seq_k ?_
  intro K12 hK12
  refine rg [0, 1, 2] ?_
  refine sq ?_
  refine .mv ?_
  refine sq ?_
  refine .mv ?_
  refine sq ?_
  refine .r0 ?_
  apply wpSq_end
  refine hK12 _ _ ?_
  refine cf ?_
  refine wp_exit ?_
  refine hK6 _ _ ?_
  refine wp_seq_k ?_
  intro K13 hK13
  refine rg [0, 1] ?_
  refine sq ?_
  refine .r4 hs.g0.f4 ?_
  refine sq ?_
  refine .s4 hs.g1 (fun _ => hs.u1 kb_b2) ?_; clear hs; intro w_11 hs hd11 ho11
  apply wpSq_end
  refine hK13 _ _ ?_
  refine wp_ret ?_
  try dsimp only [Exit.then, Exit.inBlock]
  obtain ⟨r0_0, r0_1, r0_2, r0_3⟩ := hs.g1.f4
  refine bodyPost_ret (v := (.agg #[.bool n_t1, .slice o_t1 k_t1 c_t1, .bool n_ga, .slice o_ga k_ga c_ga])) (by simp [results, Try.results24, go_sem, r0_0, r0_1, r0_2, r0_3]) rfl ?_
  have k8_11 := ((kb n9).o hd10 ho10).o hd11 ho11
  replace t1 := t1.k k8_11
  have k3_11 := (((k3_7.b hb_8).b n9).o hd10 ho10).o hd11 ho11
  replace g1 := g1.k k3_11
  exact ⟨_, rfl, .mk' t1 g1, hs.b⟩
set_option maxHeartbeats 4000000 in
set_option maxRecDepth 20000 in
theorem rgTurn_p2 (K : Int) (htm : Int.tmod K 4 = 2) (ha : PN w va x l y m) (hl : l ≤ 40000000) (hm : m ≤ 40000000) :
    Calls Try.prog 24 #[va, .int .i64 K] w fun e w' => ∃ v, e = .returned v ∧ PC w' v (turn 2 (x, y)).1 (turn 2 (x, y)).2 ∧ Below w.heap.size w w' := by
  obtain ⟨n_0a, o_0a, k_0a, c_0a, n_0b, o_0b, k_0b, c_0b, rfl, ha1, ha2⟩ := ha
  go_enter Try.func24, Try.ntmps24
  have hs := St.nil w
  refine wp_seq_k ?_
  intro K1 hK1
  refine rg [0, 1] ?_
  refine sq ?_
  refine .al hs ?_; clear hs; intro p_b1 w_1 hs n1 kb_b1
  refine sq ?_
  refine .al hs ?_; clear hs; intro p_b2 w_2 hs n2 kb_b2
  apply wpSq_end
  refine hK1 _ _ ?_
  refine wp_seq_k ?_
  intro K2 hK2
  refine rg [0, 1, 2, 3] ?_
  refine sq ?_
  refine .r4 hs.g1.f4 ?_
  refine sq ?_
  intro K hK
  have k0_2 := (kb n1).b n2
  replace ha1 := ha1.k k0_2
  replace ha2 := ha2.k k0_2
  go_big_op
  go_fit (rgCanonical_any (PN.mk' ha1 ha2) (by omega) (by omega) )
  rintro e w_3 ⟨_, rfl, ⟨n_ga, o_ga, k_ga, c_ga, n_gb, o_gb, k_gb, c_gb, rfl, g1, g2⟩, hb_3⟩
  replace hs := hs.bl hb_3
  have Lg1 := hide (g1.lenOf ((ha1.len)))
  have Lg2 := hide (g2.lenOf ((ha2.len)))
  refine hK _ _ rfl trivial ?_
  clear hK K
  refine sq ?_
  refine .al hs ?_; clear hs; intro p_b3 w_4 hs n4 kb_b3
  refine sq ?_
  refine .s4 hs.g0 (fun _ => hs.u0 kb_b3) ?_; clear hs; intro w_5 hs hd5 ho5
  apply wpSq_end
  refine hK2 _ _ ?_
  refine wp_seq_k ?_
  intro K3 hK3
  refine rg [0, 1, 2] ?_
  refine sq ?_
  refine .mv ?_
  refine sq ?_
  refine .r0 ?_
  refine sq ?_
  refine .mv ?_
  apply wpSq_end
  refine hK3 _ _ ?_
  refine wp_seq_k ?_
  intro K4 hK4
  refine wp_seq_k ?_
  intro K5 hK5
  refine rg [0, 1] ?_
  refine sq ?_
  refine .mv ?_
  refine sq ?_
  refine .r0 ?_
  apply wpSq_end
  refine hK5 _ _ ?_
  refine cf ?_
  refine wp_skip ?_
  refine hK4 _ _ ?_
  refine wp_seq_k ?_
  intro K6 hK6
  refine wp_seq_k ?_
  intro K7 hK7
  refine rg [0] ?_
  refine sq ?_
  refine .mv ?_
  apply wpSq_end
  refine hK7 _ _ ?_
  refine wp_block ?_
  refine wp_loop_rounds 3 ?_
  show Code.wp _ _ _ _ _
  refine wp_seq_k ?_
  intro K8 hK8
  refine wp_seq_k ?_
  intro K9 hK9
  refine rg [0, 1, 2] ?_
  refine sq ?_
  refine .mv ?_
  refine sq ?_
  refine .mv ?_
  refine sq ?_
  refine .r0 ?_
  apply wpSq_end
  refine hK9 _ _ ?_
  refine ct ?_
  refine wp_skip ?_
  refine hK8 _ _ ?_
  refine wp_seq_k ?_
  intro K10 hK10
  refine wp_block ?_
  refine wp_region_f4 [(0, false), (1, false), (3, false), (4, false), (2, true), (5, false)] [6] [] (fun _ => default) [99, 0, 99, 99, 0, 99, 99] [(6, 0)] (.c hs.g0 .n) fn fun w_6 n6 => ?_
  replace hs := hs.bl n6
  refine f0 ?_
  refine f4 ?_
  refine f0 ?_
  refine f4 ?_
  refine fl fun w_7 n7 => ?_
  replace hs := hs.bl n7
  intro K hK
  have k3_7 := (((kb n4).o hd5 ho5).b n6).b n7
  replace g2 := g2.k k3_7
  go_big_op
  go_fit (rneg_any (g2.zn Lg2.out) (by omega) )
  rintro e w_8 ⟨v_t1, rfl, t1, hb_8⟩
  replace hs := hs.bl hb_8
  replace t1 := t1.rd
  obtain ⟨n_t1, o_t1, k_t1, c_t1, rfl⟩ := t1.open2
  have Lt1 := hide (t1.lenOf (zlen_neg (Lg2.out)))
  refine hK _ _ rfl ⟨hb_8, (And.intro hs.g0 trivial)⟩ ?_
  clear hK K
  refine f0 ?_
  refine e0 hs ?_; clear hs; intro w_9 hs n9
  refine tl ?_
  refine .s4 hs.g0 (fun _ => hs.u0 kb_b3) ?_ (e := fun _ hs => (And.intro True.intro True.intro)); clear hs; intro w_10 hs hd10 ho10
  apply wpTail_end
  refine hK10 _ _ ?_
  refine rg [0, 1, 2] ?_
  refine sq ?_
  refine .mv ?_
  refine sq ?_
  refine .r0 ?_
  refine sq ?_
  refine .mv ?_
  apply wpSq_end
  show Code.wp _ _ _ _ _
  refine wp_seq_k ?_
  intro K11 hK11
  refine wp_seq_k ?_
  intro K12 hK12
  refine rg [0, 1, 2] ?_
  refine sq ?_
  refine .mv ?_
  refine sq ?_
  refine .mv ?_
  refine sq ?_
  refine .r0 ?_
  apply wpSq_end
  refine hK12 _ _ ?_
  refine ct ?_
  refine wp_skip ?_
  refine hK11 _ _ ?_
  refine wp_seq_k ?_
  intro K13 hK13
  refine wp_block ?_
  refine wp_region_f4 [(0, false), (1, false), (3, false), (4, false), (2, true), (5, false)] [6] [] (fun _ => default) [99, 0, 99, 99, 0, 99, 99] [(6, 0)] (.c hs.g0 .n) fn fun w_11 n11 => ?_
  replace hs := hs.bl n11
  refine f0 ?_
  refine f4 ?_
  refine f0 ?_
  refine f4 ?_
  refine fl fun w_12 n12 => ?_
  replace hs := hs.bl n12
  intro K hK
  have k3_12 := ((((k3_7.b hb_8).b n9).o hd10 ho10).b n11).b n12
  replace g1 := g1.k k3_12
  go_big_op
  go_fit (rneg_any (g1.zn Lg1.out) (by omega) )
  rintro e w_13 ⟨v_t2, rfl, t2, hb_13⟩
  replace hs := hs.bl hb_13
  replace t2 := t2.rd
  obtain ⟨n_t2, o_t2, k_t2, c_t2, rfl⟩ := t2.open2
  have Lt2 := hide (t2.lenOf (zlen_neg (Lg1.out)))
  refine hK _ _ rfl ⟨hb_13, (And.intro hs.g0 trivial)⟩ ?_
  clear hK K
  refine f0 ?_
  refine e0 hs ?_; clear hs; intro w_14 hs n14
  refine tl ?_
  refine .s4 hs.g0 (fun _ => hs.u0 kb_b3) ?_ (e := fun _ hs => (And.intro True.intro True.intro)); clear hs; intro w_15 hs hd15 ho15
  apply wpTail_end
  refine hK13 _ _ ?_
  refine rg [0, 1, 2] ?_
  refine sq ?_
  refine .mv ?_
  refine sq ?_
  refine .r0 ?_
  refine sq ?_
  refine .mv ?_
  apply wpSq_end
  show Code.wp _ _ _ _ _
  refine wp_seq_k ?_
  intro K14 hK14
  refine wp_seq_k ?_
  intro K15 hK15
  refine rg [0, 1, 2] ?_
  refine sq ?_
  refine .mv ?_
  refine sq ?_
  refine .mv ?_
  refine sq ?_
  refine .r0 ?_
  apply wpSq_end
  refine hK15 _ _ ?_
  refine cf ?_
  refine wp_exit ?_
  refine hK6 _ _ ?_
  refine wp_seq_k ?_
  intro K16 hK16
  refine rg [0, 1] ?_
  refine sq ?_
  refine .r4 hs.g0.f4 ?_
  refine sq ?_
  refine .s4 hs.g1 (fun _ => hs.u1 kb_b2) ?_; clear hs; intro w_16 hs hd16 ho16
  apply wpSq_end
  refine hK16 _ _ ?_
  refine wp_ret ?_
  try dsimp only [Exit.then, Exit.inBlock]
  obtain ⟨r0_0, r0_1, r0_2, r0_3⟩ := hs.g1.f4
  refine bodyPost_ret (v := (.agg #[.bool n_t2, .slice o_t2 k_t2 c_t2, .bool n_t1, .slice o_t1 k_t1 c_t1])) (by simp [results, Try.results24, go_sem, r0_0, r0_1, r0_2, r0_3]) rfl ?_
  have k13_16 := ((kb n14).o hd15 ho15).o hd16 ho16
  replace t2 := t2.k k13_16
  have k8_16 := (((((((kb n9).o hd10 ho10).b n11).b n12).b hb_13).b n14).o hd15 ho15).o hd16 ho16
  replace t1 := t1.k k8_16
  exact ⟨_, rfl, .mk' t2 t1, hs.b⟩
set_option maxHeartbeats 4000000 in
set_option maxRecDepth 20000 in
theorem rgTurn_p3 (K : Int) (htm : Int.tmod K 4 = 3) (ha : PN w va x l y m) (hl : l ≤ 40000000) (hm : m ≤ 40000000) :
    Calls Try.prog 24 #[va, .int .i64 K] w fun e w' => ∃ v, e = .returned v ∧ PC w' v (turn 3 (x, y)).1 (turn 3 (x, y)).2 ∧ Below w.heap.size w w' := by
  obtain ⟨n_0a, o_0a, k_0a, c_0a, n_0b, o_0b, k_0b, c_0b, rfl, ha1, ha2⟩ := ha
  go_enter Try.func24, Try.ntmps24
  have hs := St.nil w
  refine wp_seq_k ?_
  intro K1 hK1
  refine rg [0, 1] ?_
  refine sq ?_
  refine .al hs ?_; clear hs; intro p_b1 w_1 hs n1 kb_b1
  refine sq ?_
  refine .al hs ?_; clear hs; intro p_b2 w_2 hs n2 kb_b2
  apply wpSq_end
  refine hK1 _ _ ?_
  refine wp_seq_k ?_
  intro K2 hK2
  refine rg [0, 1, 2, 3] ?_
  refine sq ?_
  refine .r4 hs.g1.f4 ?_
  refine sq ?_
  intro K hK
  have k0_2 := (kb n1).b n2
  replace ha1 := ha1.k k0_2
  replace ha2 := ha2.k k0_2
  go_big_op
  go_fit (rgCanonical_any (PN.mk' ha1 ha2) (by omega) (by omega) )
  rintro e w_3 ⟨_, rfl, ⟨n_ga, o_ga, k_ga, c_ga, n_gb, o_gb, k_gb, c_gb, rfl, g1, g2⟩, hb_3⟩
  replace hs := hs.bl hb_3
  have Lg1 := hide (g1.lenOf ((ha1.len)))
  have Lg2 := hide (g2.lenOf ((ha2.len)))
  refine hK _ _ rfl trivial ?_
  clear hK K
  refine sq ?_
  refine .al hs ?_; clear hs; intro p_b3 w_4 hs n4 kb_b3
  refine sq ?_
  refine .s4 hs.g0 (fun _ => hs.u0 kb_b3) ?_; clear hs; intro w_5 hs hd5 ho5
  apply wpSq_end
  refine hK2 _ _ ?_
  refine wp_seq_k ?_
  intro K3 hK3
  refine rg [0, 1, 2] ?_
  refine sq ?_
  refine .mv ?_
  refine sq ?_
  refine .r0 ?_
  refine sq ?_
  refine .mv ?_
  apply wpSq_end
  refine hK3 _ _ ?_
  refine wp_seq_k ?_
  intro K4 hK4
  refine wp_seq_k ?_
  intro K5 hK5
  refine rg [0, 1] ?_
  refine sq ?_
  refine .mv ?_
  refine sq ?_
  refine .r0 ?_
  apply wpSq_end
  refine hK5 _ _ ?_
  refine cf ?_
  refine wp_skip ?_
  refine hK4 _ _ ?_
  refine wp_seq_k ?_
  intro K6 hK6
  refine wp_seq_k ?_
  intro K7 hK7
  refine rg [0] ?_
  refine sq ?_
  refine .mv ?_
  apply wpSq_end
  refine hK7 _ _ ?_
  refine wp_block ?_
  refine wp_loop_rounds 4 ?_
  show Code.wp _ _ _ _ _
  refine wp_seq_k ?_
  intro K8 hK8
  refine wp_seq_k ?_
  intro K9 hK9
  refine rg [0, 1, 2] ?_
  refine sq ?_
  refine .mv ?_
  refine sq ?_
  refine .mv ?_
  refine sq ?_
  refine .r0 ?_
  apply wpSq_end
  refine hK9 _ _ ?_
  refine ct ?_
  refine wp_skip ?_
  refine hK8 _ _ ?_
  refine wp_seq_k ?_
  intro K10 hK10
  refine wp_block ?_
  refine wp_region_f4 [(0, false), (1, false), (3, false), (4, false), (2, true), (5, false)] [6] [] (fun _ => default) [99, 0, 99, 99, 0, 99, 99] [(6, 0)] (.c hs.g0 .n) fn fun w_6 n6 => ?_
  replace hs := hs.bl n6
  refine f0 ?_
  refine f4 ?_
  refine f0 ?_
  refine f4 ?_
  refine fl fun w_7 n7 => ?_
  replace hs := hs.bl n7
  intro K hK
  have k3_7 := (((kb n4).o hd5 ho5).b n6).b n7
  replace g2 := g2.k k3_7
  go_big_op
  go_fit (rneg_any (g2.zn Lg2.out) (by omega) )
  rintro e w_8 ⟨v_t1, rfl, t1, hb_8⟩
  replace hs := hs.bl hb_8
  replace t1 := t1.rd
  obtain ⟨n_t1, o_t1, k_t1, c_t1, rfl⟩ := t1.open2
  have Lt1 := hide (t1.lenOf (zlen_neg (Lg2.out)))
  refine hK _ _ rfl ⟨hb_8, (And.intro hs.g0 trivial)⟩ ?_
  clear hK K
  refine f0 ?_
  refine e0 hs ?_; clear hs; intro w_9 hs n9
  refine tl ?_
  refine .s4 hs.g0 (fun _ => hs.u0 kb_b3) ?_ (e := fun _ hs => (And.intro True.intro True.intro)); clear hs; intro w_10 hs hd10 ho10
  apply wpTail_end
  refine hK10 _ _ ?_
  refine rg [0, 1, 2] ?_
  refine sq ?_
  refine .mv ?_
  refine sq ?_
  refine .r0 ?_
  refine sq ?_
  refine .mv ?_
  apply wpSq_end
  show Code.wp _ _ _ _ _
  refine wp_seq_k ?_
  intro K11 hK11
  refine wp_seq_k ?_
  intro K12 hK12
  refine rg [0, 1, 2] ?_
  refine sq ?_
  refine .mv ?_
  refine sq ?_
  refine .mv ?_
  refine sq ?_
  refine .r0 ?_
  apply wpSq_end
  refine hK12 _ _ ?_
  refine ct ?_
  refine wp_skip ?_
  refine hK11 _ _ ?_
  refine wp_seq_k ?_
  intro K13 hK13
  refine wp_block ?_
  refine wp_region_f4 [(0, false), (1, false), (3, false), (4, false), (2, true), (5, false)] [6] [] (fun _ => default) [99, 0, 99, 99, 0, 99, 99] [(6, 0)] (.c hs.g0 .n) fn fun w_11 n11 => ?_
  replace hs := hs.bl n11
  refine f0 ?_
  refine f4 ?_
  refine f0 ?_
  refine f4 ?_
  refine fl fun w_12 n12 => ?_
  replace hs := hs.bl n12
  intro K hK
  have k3_12 := ((((k3_7.b hb_8).b n9).o hd10 ho10).b n11).b n12
  replace g1 := g1.k k3_12
  go_big_op
  go_fit (rneg_any (g1.zn Lg1.out) (by omega) )
  rintro e w_13 ⟨v_t2, rfl, t2, hb_13⟩
  replace hs := hs.bl hb_13
  replace t2 := t2.rd
  obtain ⟨n_t2, o_t2, k_t2, c_t2, rfl⟩ := t2.open2
  have Lt2 := hide (t2.lenOf (zlen_neg (Lg1.out)))
  refine hK _ _ rfl ⟨hb_13, (And.intro hs.g0 trivial)⟩ ?_
  clear hK K
  refine f0 ?_
  refine e0 hs ?_; clear hs; intro w_14 hs n14
  refine tl ?_
  refine .s4 hs.g0 (fun _ => hs.u0 kb_b3) ?_ (e := fun _ hs => (And.intro True.intro True.intro)); clear hs; intro w_15 hs hd15 ho15
  apply wpTail_end
  refine hK13 _ _ ?_
  refine rg [0, 1, 2] ?_
  refine sq ?_
  refine .mv ?_
  refine sq ?_
  refine .r0 ?_
  refine sq ?_
  refine .mv ?_
  apply wpSq_end
  show Code.wp _ _ _ _ _
  refine wp_seq_k ?_
  intro K14 hK14
  refine wp_seq_k ?_
  intro K15 hK15
  refine rg [0, 1, 2] ?_
  refine sq ?_
  refine .mv ?_
  refine sq ?_
  refine .mv ?_
  refine sq ?_
  refine .r0 ?_
  apply wpSq_end
  refine hK15 _ _ ?_
  refine ct ?_
  refine wp_skip ?_
  refine hK14 _ _ ?_
  refine wp_seq_k ?_
  intro K16 hK16
  refine wp_block ?_
  refine wp_region_f4 [(0, false), (1, false), (3, false), (4, false), (2, true), (5, false)] [6] [] (fun _ => default) [99, 0, 99, 99, 0, 99, 99] [(6, 0)] (.c hs.g0 .n) fn fun w_16 n16 => ?_
  replace hs := hs.bl n16
  refine f0 ?_
  refine f4 ?_
  refine f0 ?_
  refine f4 ?_
  refine fl fun w_17 n17 => ?_
  replace hs := hs.bl n17
  intro K hK
  have k8_17 := ((((((((kb n9).o hd10 ho10).b n11).b n12).b hb_13).b n14).o hd15 ho15).b n16).b n17
  replace t1 := t1.k k8_17
  go_big_op
  go_fit (rneg_any (t1.zn Lt1.out) (by omega) )
  rintro e w_18 ⟨v_t3, rfl, t3, hb_18⟩
  replace hs := hs.bl hb_18
  replace t3 := t3.rd
  obtain ⟨n_t3, o_t3, k_t3, c_t3, rfl⟩ := t3.open2
  have Lt3 := hide (t3.lenOf (zlen_neg (Lt1.out)))
  refine hK _ _ rfl ⟨hb_18, (And.intro hs.g0 trivial)⟩ ?_
  clear hK K
  refine f0 ?_
  refine e0 hs ?_; clear hs; intro w_19 hs n19
  refine tl ?_
  refine .s4 hs.g0 (fun _ => hs.u0 kb_b3) ?_ (e := fun _ hs => (And.intro True.intro True.intro)); clear hs; intro w_20 hs hd20 ho20
  apply wpTail_end
  refine hK16 _ _ ?_
  refine rg [0, 1, 2] ?_
  refine sq ?_
  refine .mv ?_
  refine sq ?_
  refine .r0 ?_
  refine sq ?_
  refine .mv ?_
  apply wpSq_end
  show Code.wp _ _ _ _ _
  refine wp_seq_k ?_
  intro K17 hK17
  refine wp_seq_k ?_
  intro K18 hK18
  refine rg [0, 1, 2] ?_
  refine sq ?_
  refine .mv ?_
  refine sq ?_
  refine .mv ?_
  refine sq ?_
  refine .r0 ?_
  apply wpSq_end
  refine hK18 _ _ ?_
  refine cf ?_
  refine wp_exit ?_
  refine hK6 _ _ ?_
  refine wp_seq_k ?_
  intro K19 hK19
  refine rg [0, 1] ?_
  refine sq ?_
  refine .r4 hs.g0.f4 ?_
  refine sq ?_
  refine .s4 hs.g1 (fun _ => hs.u1 kb_b2) ?_; clear hs; intro w_21 hs hd21 ho21
  apply wpSq_end
  refine hK19 _ _ ?_
  refine wp_ret ?_
  try dsimp only [Exit.then, Exit.inBlock]
  obtain ⟨r0_0, r0_1, r0_2, r0_3⟩ := hs.g1.f4
  refine bodyPost_ret (v := (.agg #[.bool n_t3, .slice o_t3 k_t3 c_t3, .bool n_t2, .slice o_t2 k_t2 c_t2])) (by simp [results, Try.results24, go_sem, r0_0, r0_1, r0_2, r0_3]) rfl ?_
  have k18_21 := ((kb n19).o hd20 ho20).o hd21 ho21
  replace t3 := t3.k k18_21
  have k13_21 := (((((((kb n14).o hd15 ho15).b n16).b n17).b hb_18).b n19).o hd20 ho20).o hd21 ho21
  replace t2 := t2.k k13_21
  exact ⟨_, rfl, .mk' t3 t2, hs.b⟩
set_option maxHeartbeats 4000000 in
set_option maxRecDepth 20000 in
theorem rgTurn_m1 (K : Int) (htm : Int.tmod K 4 = -1) (ha : PN w va x l y m) (hl : l ≤ 40000000) (hm : m ≤ 40000000) :
    Calls Try.prog 24 #[va, .int .i64 K] w fun e w' => ∃ v, e = .returned v ∧ PC w' v (turn 3 (x, y)).1 (turn 3 (x, y)).2 ∧ Below w.heap.size w w' := by
  obtain ⟨n_0a, o_0a, k_0a, c_0a, n_0b, o_0b, k_0b, c_0b, rfl, ha1, ha2⟩ := ha
  go_enter Try.func24, Try.ntmps24
  have hs := St.nil w
  refine wp_seq_k ?_
  intro K1 hK1
  refine rg [0, 1] ?_
  refine sq ?_
  refine .al hs ?_; clear hs; intro p_b1 w_1 hs n1 kb_b1
  refine sq ?_
  refine .al hs ?_; clear hs; intro p_b2 w_2 hs n2 kb_b2
  apply wpSq_end
  refine hK1 _ _ ?_
  refine wp_seq_k ?_
  intro K2 hK2
  refine rg [0, 1, 2, 3] ?_
  refine sq ?_
  refine .r4 hs.g1.f4 ?_
  refine sq ?_
  intro K hK
  have k0_2 := (kb n1).b n2
  replace ha1 := ha1.k k0_2
  replace ha2 := ha2.k k0_2
  go_big_op
  go_fit (rgCanonical_any (PN.mk' ha1 ha2) (by omega) (by omega) )
  rintro e w_3 ⟨_, rfl, ⟨n_ga, o_ga, k_ga, c_ga, n_gb, o_gb, k_gb, c_gb, rfl, g1, g2⟩, hb_3⟩
  replace hs := hs.bl hb_3
  have Lg1 := hide (g1.lenOf ((ha1.len)))
  have Lg2 := hide (g2.lenOf ((ha2.len)))
  refine hK _ _ rfl trivial ?_
  clear hK K
  refine sq ?_
  refine .al hs ?_; clear hs; intro p_b3 w_4 hs n4 kb_b3
  refine sq ?_
  refine .s4 hs.g0 (fun _ => hs.u0 kb_b3) ?_; clear hs; intro w_5 hs hd5 ho5
  apply wpSq_end
  refine hK2 _ _ ?_
  refine wp_seq_k ?_
  intro K3 hK3
  refine rg [0, 1, 2] ?_
  refine sq ?_
  refine .mv ?_
  refine sq ?_
  refine .r0 ?_
  refine sq ?_
  refine .mv ?_
  apply wpSq_end
  refine hK3 _ _ ?_
  refine wp_seq_k ?_
  intro K4 hK4
  refine wp_seq_k ?_
  intro K5 hK5
  refine rg [0, 1] ?_
  refine sq ?_
  refine .mv ?_
  refine sq ?_
  refine .r0 ?_
  apply wpSq_end
  refine hK5 _ _ ?_
  refine ct ?_
  refine rg [0, 1, 2] ?_
  refine sq ?_
  refine .mv ?_
  refine sq ?_
  refine .r0 ?_
  refine sq ?_
  refine .mv ?_
  apply wpSq_end
  refine hK4 _ _ ?_
  refine wp_seq_k ?_
  intro K6 hK6
  refine wp_seq_k ?_
  intro K7 hK7
  refine rg [0] ?_
  refine sq ?_
  refine .mv ?_
  apply wpSq_end
  refine hK7 _ _ ?_
  refine wp_block ?_
  refine wp_loop_rounds 4 ?_
  show Code.wp _ _ _ _ _
  refine wp_seq_k ?_
  intro K8 hK8
  refine wp_seq_k ?_
  intro K9 hK9
  refine rg [0, 1, 2] ?_
  refine sq ?_
  refine .mv ?_
  refine sq ?_
  refine .mv ?_
  refine sq ?_
  refine .r0 ?_
  apply wpSq_end
  refine hK9 _ _ ?_
  refine ct ?_
  refine wp_skip ?_
  refine hK8 _ _ ?_
  refine wp_seq_k ?_
  intro K10 hK10
  refine wp_block ?_
  refine wp_region_f4 [(0, false), (1, false), (3, false), (4, false), (2, true), (5, false)] [6] [] (fun _ => default) [99, 0, 99, 99, 0, 99, 99] [(6, 0)] (.c hs.g0 .n) fn fun w_6 n6 => ?_
  replace hs := hs.bl n6
  refine f0 ?_
  refine f4 ?_
  refine f0 ?_
  refine f4 ?_
  refine fl fun w_7 n7 => ?_
  replace hs := hs.bl n7
  intro K hK
  have k3_7 := (((kb n4).o hd5 ho5).b n6).b n7
  replace g2 := g2.k k3_7
  go_big_op
  go_fit (rneg_any (g2.zn Lg2.out) (by omega) )
  rintro e w_8 ⟨v_t1, rfl, t1, hb_8⟩
  replace hs := hs.bl hb_8
  replace t1 := t1.rd
  obtain ⟨n_t1, o_t1, k_t1, c_t1, rfl⟩ := t1.open2
  have Lt1 := hide (t1.lenOf (zlen_neg (Lg2.out)))
  refine hK _ _ rfl ⟨hb_8, (And.intro hs.g0 trivial)⟩ ?_
  clear hK K
  refine f0 ?_
  refine e0 hs ?_; clear hs; intro w_9 hs n9
  refine tl ?_
  refine .s4 hs.g0 (fun _ => hs.u0 kb_b3) ?_ (e := fun _ hs => (And.intro True.intro True.intro)); clear hs; intro w_10 hs hd10 ho10
  apply wpTail_end
  refine hK10 _ _ ?_
  refine rg [0, 1, 2] ?_
  refine sq ?_
  refine .mv ?_
  refine sq ?_
  refine .r0 ?_
  refine sq ?_
  refine .mv ?_
  apply wpSq_end
  show Code.wp _ _ _ _ _
  refine wp_seq_k ?_
  intro K11 hK11
  refine wp_seq_k ?_
  intro K12 hK12
  refine rg [0, 1, 2] ?_
  refine sq ?_
  refine .mv ?_
  refine sq ?_
  refine .mv ?_
  refine sq ?_
  refine .r0 ?_
  apply wpSq_end
  refine hK12 _ _ ?_
  refine ct ?_
  refine wp_skip ?_
  refine hK11 _ _ ?_
  refine wp_seq_k ?_
  intro K13 hK13
  refine wp_block ?_
  refine wp_region_f4 [(0, false), (1, false), (3, false), (4, false), (2, true), (5, false)] [6] [] (fun _ => default) [99, 0, 99, 99, 0, 99, 99] [(6, 0)] (.c hs.g0 .n) fn fun w_11 n11 => ?_
  replace hs := hs.bl n11
  refine f0 ?_
  refine f4 ?_
  refine f0 ?_
  refine f4 ?_
  refine fl fun w_12 n12 => ?_
  replace hs := hs.bl n12
  intro K hK
  have k3_12 := ((((k3_7.b hb_8).b n9).o hd10 ho10).b n11).b n12
  replace g1 := g1.k k3_12
  go_big_op
  go_fit (rneg_any (g1.zn Lg1.out) (by omega) )
  rintro e w_13 ⟨v_t2, rfl, t2, hb_13⟩
  replace hs := hs.bl hb_13
  replace t2 := t2.rd
  obtain ⟨n_t2, o_t2, k_t2, c_t2, rfl⟩ := t2.open2
  have Lt2 := hide (t2.lenOf (zlen_neg (Lg1.out)))
  refine hK _ _ rfl ⟨hb_13, (And.intro hs.g0 trivial)⟩ ?_
  clear hK K
  refine f0 ?_
  refine e0 hs ?_; clear hs; intro w_14 hs n14
  refine tl ?_
  refine .s4 hs.g0 (fun _ => hs.u0 kb_b3) ?_ (e := fun _ hs => (And.intro True.intro True.intro)); clear hs; intro w_15 hs hd15 ho15
  apply wpTail_end
  refine hK13 _ _ ?_
  refine rg [0, 1, 2] ?_
  refine sq ?_
  refine .mv ?_
  refine sq ?_
  refine .r0 ?_
  refine sq ?_
  refine .mv ?_
  apply wpSq_end
  show Code.wp _ _ _ _ _
  refine wp_seq_k ?_
  intro K14 hK14
  refine wp_seq_k ?_
  intro K15 hK15
  refine rg [0, 1, 2] ?_
  refine sq ?_
  refine .mv ?_
  refine sq ?_
  refine .mv ?_
  refine sq ?_
  refine .r0 ?_
  apply wpSq_end
  refine hK15 _ _ ?_
  refine ct ?_
  refine wp_skip ?_
  refine hK14 _ _ ?_
  refine wp_seq_k ?_
  intro K16 hK16
  refine wp_block ?_
  refine wp_region_f4 [(0, false), (1, false), (3, false), (4, false), (2, true), (5, false)] [6] [] (fun _ => default) [99, 0, 99, 99, 0, 99, 99] [(6, 0)] (.c hs.g0 .n) fn fun w_16 n16 => ?_
  replace hs := hs.bl n16
  refine f0 ?_
  refine f4 ?_
  refine f0 ?_
  refine f4 ?_
  refine fl fun w_17 n17 => ?_
  replace hs := hs.bl n17
  intro K hK
  have k8_17 := ((((((((kb n9).o hd10 ho10).b n11).b n12).b hb_13).b n14).o hd15 ho15).b n16).b n17
  replace t1 := t1.k k8_17
  go_big_op
  go_fit (rneg_any (t1.zn Lt1.out) (by omega) )
  rintro e w_18 ⟨v_t3, rfl, t3, hb_18⟩
  replace hs := hs.bl hb_18
  replace t3 := t3.rd
  obtain ⟨n_t3, o_t3, k_t3, c_t3, rfl⟩ := t3.open2
  have Lt3 := hide (t3.lenOf (zlen_neg (Lt1.out)))
  refine hK _ _ rfl ⟨hb_18, (And.intro hs.g0 trivial)⟩ ?_
  clear hK K
  refine f0 ?_
  refine e0 hs ?_; clear hs; intro w_19 hs n19
  refine tl ?_
  refine .s4 hs.g0 (fun _ => hs.u0 kb_b3) ?_ (e := fun _ hs => (And.intro True.intro True.intro)); clear hs; intro w_20 hs hd20 ho20
  apply wpTail_end
  refine hK16 _ _ ?_
  refine rg [0, 1, 2] ?_
  refine sq ?_
  refine .mv ?_
  refine sq ?_
  refine .r0 ?_
  refine sq ?_
  refine .mv ?_
  apply wpSq_end
  show Code.wp _ _ _ _ _
  refine wp_seq_k ?_
  intro K17 hK17
  refine wp_seq_k ?_
  intro K18 hK18
  refine rg [0, 1, 2] ?_
  refine sq ?_
  refine .mv ?_
  refine sq ?_
  refine .mv ?_
  refine sq ?_
  refine .r0 ?_
  apply wpSq_end
  refine hK18 _ _ ?_
  refine cf ?_
  refine wp_exit ?_
  refine hK6 _ _ ?_
  refine wp_seq_k ?_
  intro K19 hK19
  refine rg [0, 1] ?_
  refine sq ?_
  refine .r4 hs.g0.f4 ?_
  refine sq ?_
  refine .s4 hs.g1 (fun _ => hs.u1 kb_b2) ?_; clear hs; intro w_21 hs hd21 ho21
  apply wpSq_end
  refine hK19 _ _ ?_
  refine wp_ret ?_
  try dsimp only [Exit.then, Exit.inBlock]
  obtain ⟨r0_0, r0_1, r0_2, r0_3⟩ := hs.g1.f4
  refine bodyPost_ret (v := (.agg #[.bool n_t3, .slice o_t3 k_t3 c_t3, .bool n_t2, .slice o_t2 k_t2 c_t2])) (by simp [results, Try.results24, go_sem, r0_0, r0_1, r0_2, r0_3]) rfl ?_
  have k18_21 := ((kb n19).o hd20 ho20).o hd21 ho21
  replace t3 := t3.k k18_21
  have k13_21 := (((((((kb n14).o hd15 ho15).b n16).b n17).b hb_18).b n19).o hd20 ho20).o hd21 ho21
  replace t2 := t2.k k13_21
  exact ⟨_, rfl, .mk' t3 t2, hs.b⟩
set_option maxHeartbeats 4000000 in
set_option maxRecDepth 20000 in
theorem rgTurn_m2 (K : Int) (htm : Int.tmod K 4 = -2) (ha : PN w va x l y m) (hl : l ≤ 40000000) (hm : m ≤ 40000000) :
    Calls Try.prog 24 #[va, .int .i64 K] w fun e w' => ∃ v, e = .returned v ∧ PC w' v (turn 2 (x, y)).1 (turn 2 (x, y)).2 ∧ Below w.heap.size w w' := by
  obtain ⟨n_0a, o_0a, k_0a, c_0a, n_0b, o_0b, k_0b, c_0b, rfl, ha1, ha2⟩ := ha
  go_enter Try.func24, Try.ntmps24
  have hs := St.nil w
  refine wp_seq_k ?_
  intro K1 hK1
  refine rg [0, 1] ?_
  refine sq ?_
  refine .al hs ?_; clear hs; intro p_b1 w_1 hs n1 kb_b1
  refine sq ?_
  refine .al hs ?_; clear hs; intro p_b2 w_2 hs n2 kb_b2
  apply wpSq_end
  refine hK1 _ _ ?_
  refine wp_seq_k ?_
  intro K2 hK2
  refine rg [0, 1, 2, 3] ?_
  refine sq ?_
  refine .r4 hs.g1.f4 ?_
  refine sq ?_
  intro K hK
  have k0_2 := (kb n1).b n2
  replace ha1 := ha1.k k0_2
  replace ha2 := ha2.k k0_2
  go_big_op
  go_fit (rgCanonical_any (PN.mk' ha1 ha2) (by omega) (by omega) )
  rintro e w_3 ⟨_, rfl, ⟨n_ga, o_ga, k_ga, c_ga, n_gb, o_gb, k_gb, c_gb, rfl, g1, g2⟩, hb_3⟩
  replace hs := hs.bl hb_3
  have Lg1 := hide (g1.lenOf ((ha1.len)))
  have Lg2 := hide (g2.lenOf ((ha2.len)))
  refine hK _ _ rfl trivial ?_
  clear hK K
  refine sq ?_
  refine .al hs ?_; clear hs; intro p_b3 w_4 hs n4 kb_b3
  refine sq ?_
  refine .s4 hs.g0 (fun _ => hs.u0 kb_b3) ?_; clear hs; intro w_5 hs hd5 ho5
  apply wpSq_end
  refine hK2 _ _ ?_
  refine wp_seq_k ?_
  intro K3 hK3
  refine rg [0, 1, 2] ?_
  refine sq ?_
  refine .mv ?_
  refine sq ?_
  refine .r0 ?_
  refine sq ?_
  refine .mv ?_
  apply wpSq_end
  refine hK3 _ _ ?_
  refine wp_seq_k ?_
  intro K4 hK4
  refine wp_seq_k ?_
  intro K5 hK5
  refine rg [0, 1] ?_
  refine sq ?_
  refine .mv ?_
  refine sq ?_
  refine .r0 ?_
  apply wpSq_end
  refine hK5 _ _ ?_
  refine ct ?_
  refine rg [0, 1, 2] ?_
  refine sq ?_
  refine .mv ?_
  refine sq ?_
  refine .r0 ?_
  refine sq ?_
  refine .mv ?_
  apply wpSq_end
  refine hK4 _ _ ?_
  refine wp_seq_k ?_
  intro K6 hK6
  refine wp_seq_k ?_
  intro K7 hK7
  refine rg [0] ?_
  refine sq ?_
  refine .mv ?_
  apply wpSq_end
  refine hK7 _ _ ?_
  refine wp_block ?_
  refine wp_loop_rounds 3 ?_
  show Code.wp _ _ _ _ _
  refine wp_seq_k ?_
  intro K8 hK8
  refine wp_seq_k ?_
  intro K9 hK9
  refine rg [0, 1, 2] ?_
  refine sq ?_
  refine .mv ?_
  refine sq ?_
  refine .mv ?_
  refine sq ?_
  refine .r0 ?_
  apply wpSq_end
  refine hK9 _ _ ?_
  refine ct ?_
  refine wp_skip ?_
  refine hK8 _ _ ?_
  refine wp_seq_k ?_
  intro K10 hK10
  refine wp_block ?_
  refine wp_region_f4 [(0, false), (1, false), (3, false), (4, false), (2, true), (5, false)] [6] [] (fun _ => default) [99, 0, 99, 99, 0, 99, 99] [(6, 0)] (.c hs.g0 .n) fn fun w_6 n6 => ?_
  replace hs := hs.bl n6
  refine f0 ?_
  refine f4 ?_
  refine f0 ?_
  refine f4 ?_
  refine fl fun w_7 n7 => ?_
  replace hs := hs.bl n7
  intro K hK
  have k3_7 := (((kb n4).o hd5 ho5).b n6).b n7
  replace g2 := g2.k k3_7
  go_big_op
  go_fit (rneg_any (g2.zn Lg2.out) (by omega) )
  rintro e w_8 ⟨v_t1, rfl, t1, hb_8⟩
  replace hs := hs.bl hb_8
  replace t1 := t1.rd
  obtain ⟨n_t1, o_t1, k_t1, c_t1, rfl⟩ := t1.open2
  have Lt1 := hide (t1.lenOf (zlen_neg (Lg2.out)))
  refine hK _ _ rfl ⟨hb_8, (And.intro hs.g0 trivial)⟩ ?_
  clear hK K
  refine f0 ?_
  refine e0 hs ?_; clear hs; intro w_9 hs n9
  refine tl ?_
  refine .s4 hs.g0 (fun _ => hs.u0 kb_b3) ?_ (e := fun _ hs => (And.intro True.intro True.intro)); clear hs; intro w_10 hs hd10 ho10
  apply wpTail_end
  refine hK10 _ _ ?_
  refine rg [0, 1, 2] ?_
  refine sq ?_
  refine .mv ?_
  refine sq ?_
  refine .r0 ?_
  refine sq ?_
  refine .mv ?_
  apply wpSq_end
  show Code.wp _ _ _ _ _
  refine wp_seq_k ?_
  intro K11 hK11
  refine wp_seq_k ?_
  intro K12 hK12
  refine rg [0, 1, 2] ?_
  refine sq ?_
  refine .mv ?_
  refine sq ?_
  refine .mv ?_
  refine sq ?_
  refine .r0 ?_
  apply wpSq_end
  refine hK12 _ _ ?_
  refine ct ?_
  refine wp_skip ?_
  refine hK11 _ _ ?_
  refine wp_seq_k ?_
  intro K13 hK13
  refine wp_block ?_
  refine wp_region_f4 [(0, false), (1, false), (3, false), (4, false), (2, true), (5, false)] [6] [] (fun _ => default) [99, 0, 99, 99, 0, 99, 99] [(6, 0)] (.c hs.g0 .n) fn fun w_11 n11 => ?_
  replace hs := hs.bl n11
  refine f0 ?_
  refine f4 ?_
  refine f0 ?_
  refine f4 ?_
  refine fl fun w_12 n12 => ?_
  replace hs := hs.bl n12
  intro K hK
  have k3_12 := ((((k3_7.b hb_8).b n9).o hd10 ho10).b n11).b n12
  replace g1 := g1.k k3_12
  go_big_op
  go_fit (rneg_any (g1.zn Lg1.out) (by omega) )
  rintro e w_13 ⟨v_t2, rfl, t2, hb_13⟩
  replace hs := hs.bl hb_13
  replace t2 := t2.rd
  obtain ⟨n_t2, o_t2, k_t2, c_t2, rfl⟩ := t2.open2
  have Lt2 := hide (t2.lenOf (zlen_neg (Lg1.out)))
  refine hK _ _ rfl ⟨hb_13, (And.intro hs.g0 trivial)⟩ ?_
  clear hK K
  refine f0 ?_
  refine e0 hs ?_; clear hs; intro w_14 hs n14
  refine tl ?_
  refine .s4 hs.g0 (fun _ => hs.u0 kb_b3) ?_ (e := fun _ hs => (And.intro True.intro True.intro)); clear hs; intro w_15 hs hd15 ho15
  apply wpTail_end
  refine hK13 _ _ ?_
  refine rg [0, 1, 2] ?_
  refine sq ?_
  refine .mv ?_
  refine sq ?_
  refine .r0 ?_
  refine sq ?_
  refine .mv ?_
  apply wpSq_end
  show Code.wp _ _ _ _ _
  refine wp_seq_k ?_
  intro K14 hK14
  refine wp_seq_k ?_
  intro K15 hK15
  refine rg [0, 1, 2] ?_
  refine sq ?_
  refine .mv ?_
  refine sq ?_
  refine .mv ?_
  refine sq ?_
  refine .r0 ?_
  apply wpSq_end
  refine hK15 _ _ ?_
  refine cf ?_
  refine wp_exit ?_
  refine hK6 _ _ ?_
  refine wp_seq_k ?_
  intro K16 hK16
  refine rg [0, 1] ?_
  refine sq ?_
  refine .r4 hs.g0.f4 ?_
  refine sq ?_
  refine .s4 hs.g1 (fun _ => hs.u1 kb_b2) ?_; clear hs; intro w_16 hs hd16 ho16
  apply wpSq_end
  refine hK16 _ _ ?_
  refine wp_ret ?_
  try dsimp only [Exit.then, Exit.inBlock]
  obtain ⟨r0_0, r0_1, r0_2, r0_3⟩ := hs.g1.f4
  refine bodyPost_ret (v := (.agg #[.bool n_t2, .slice o_t2 k_t2 c_t2, .bool n_t1, .slice o_t1 k_t1 c_t1])) (by simp [results, Try.results24, go_sem, r0_0, r0_1, r0_2, r0_3]) rfl ?_
  have k13_16 := ((kb n14).o hd15 ho15).o hd16 ho16
  replace t2 := t2.k k13_16
  have k8_16 := (((((((kb n9).o hd10 ho10).b n11).b n12).b hb_13).b n14).o hd15 ho15).o hd16 ho16
  replace t1 := t1.k k8_16
  exact ⟨_, rfl, .mk' t2 t1, hs.b⟩
set_option maxHeartbeats 4000000 in
set_option maxRecDepth 20000 in
theorem rgTurn_m3 (K : Int) (htm : Int.tmod K 4 = -3) (ha : PN w va x l y m) (hl : l ≤ 40000000) (hm : m ≤ 40000000) :
    Calls Try.prog 24 #[va, .int .i64 K] w fun e w' => ∃ v, e = .returned v ∧ PC w' v (turn 1 (x, y)).1 (turn 1 (x, y)).2 ∧ Below w.heap.size w w' := by
  obtain ⟨n_0a, o_0a, k_0a, c_0a, n_0b, o_0b, k_0b, c_0b, rfl, ha1, ha2⟩ := ha
  go_enter Try.func24, Try.ntmps24
  have hs := St.nil w
  refine wp_seq_k ?_
  intro K1 hK1
  refine rg [0, 1] ?_
  refine sq ?_
  refine .al hs ?_; clear hs; intro p_b1 w_1 hs n1 kb_b1
  refine sq ?_
  refine .al hs ?_; clear hs; intro p_b2 w_2 hs n2 kb_b2
  apply wpSq_end
  refine hK1 _ _ ?_
  refine wp_seq_k ?_
  intro K2 hK2
  refine rg [0, 1, 2, 3] ?_
  refine sq ?_
  refine .r4 hs.g1.f4 ?_
  refine sq ?_
  intro K hK
  have k0_2 := (kb n1).b n2
  replace ha1 := ha1.k k0_2
  replace ha2 := ha2.k k0_2
  go_big_op
  go_fit (rgCanonical_any (PN.mk' ha1 ha2) (by omega) (by omega) )
  rintro e w_3 ⟨_, rfl, ⟨n_ga, o_ga, k_ga, c_ga, n_gb, o_gb, k_gb, c_gb, rfl, g1, g2⟩, hb_3⟩
  replace hs := hs.bl hb_3
  have Lg1 := hide (g1.lenOf ((ha1.len)))
  have Lg2 := hide (g2.lenOf ((ha2.len)))
  refine hK _ _ rfl trivial ?_
  clear hK K
  refine sq ?_
  refine .al hs ?_; clear hs; intro p_b3 w_4 hs n4 kb_b3
  refine sq ?_
  refine .s4 hs.g0 (fun _ => hs.u0 kb_b3) ?_; clear hs; intro w_5 hs hd5 ho5
  apply wpSq_end
  refine hK2 _ _ ?_
  refine wp_seq_k ?_
  intro K3 hK3
  refine rg [0, 1, 2] ?_
  refine sq ?_
  refine .mv ?_
  refine sq ?_
  refine .r0 ?_
  refine sq ?_
  refine .mv ?_
  apply wpSq_end
  refine hK3 _ _ ?_
  refine wp_seq_k ?_
  intro K4 hK4
  refine wp_seq_k ?_
  intro K5 hK5
  refine rg [0, 1] ?_
  refine sq ?_
  refine .mv ?_
  refine sq ?_
  refine .r0 ?_
  apply wpSq_end
  refine hK5 _ _ ?_
  refine ct ?_
  refine rg [0, 1, 2] ?_
  refine sq ?_
  refine .mv ?_
  refine sq ?_
  refine .r0 ?_
  refine sq ?_
  refine .mv ?_
  apply wpSq_end
  refine hK4 _ _ ?_
  refine wp_seq_k ?_
  intro K6 hK6
  refine wp_seq_k ?_
  intro K7 hK7
  refine rg [0] ?_
  refine sq ?_
  refine .mv ?_
  apply wpSq_end
  refine hK7 _ _ ?_
  refine wp_block ?_
  refine wp_loop_rounds 2 ?_
  show Code.wp _ _ _ _ _
  refine wp_seq_k ?_
  intro K8 hK8
  refine wp_seq_k ?_
  intro K9 hK9
  refine rg [0, 1, 2] ?_
  refine sq ?_
  refine .mv ?_
  refine sq ?_
  refine .mv ?_
  refine sq ?_
  refine .r0 ?_
  apply wpSq_end
  refine hK9 _ _ ?_
  refine ct ?_
  refine wp_skip ?_
  refine hK8 _ _ ?_
  refine wp_seq_k ?_
  intro K10 hK10
  refine wp_block ?_
  refine wp_region_f4 [(0, false), (1, false), (3, false), (4, false), (2, true), (5, false)] [6] [] (fun _ => default) [99, 0, 99, 99, 0, 99, 99] [(6, 0)] (.c hs.g0 .n) fn fun w_6 n6 => ?_
  replace hs := hs.bl n6
  refine f0 ?_
  refine f4 ?_
  refine f0 ?_
  refine f4 ?_
  refine fl fun w_7 n7 => ?_
  replace hs := hs.bl n7
  intro K hK
  have k3_7 := (((kb n4).o hd5 ho5).b n6).b n7
  replace g2 := g2.k k3_7
  go_big_op
  go_fit (rneg_any (g2.zn Lg2.out) (by omega) )
  rintro e w_8 ⟨v_t1, rfl, t1, hb_8⟩
  replace hs := hs.bl hb_8
  replace t1 := t1.rd
  obtain ⟨n_t1, o_t1, k_t1, c_t1, rfl⟩ := t1.open2
  have Lt1 := hide (t1.lenOf (zlen_neg (Lg2.out)))
  refine hK _ _ rfl ⟨hb_8, (And.intro hs.g0 trivial)⟩ ?_
  clear hK K
  refine f0 ?_
  refine e0 hs ?_; clear hs; intro w_9 hs n9
  refine tl ?_
  refine .s4 hs.g0 (fun _ => hs.u0 kb_b3) ?_ (e := fun _ hs => (And.intro True.intro True.intro)); clear hs; intro w_10 hs hd10 ho10
  apply wpTail_end
  refine hK10 _ _ ?_
  refine rg [0, 1, 2] ?_
  refine sq ?_
  refine .mv ?_
  refine sq ?_
  refine .r0 ?_
  refine sq ?_
  refine .mv ?_
  apply wpSq_end
  show Code.wp _ _ _ _ _
  refine wp_seq_k ?_
  intro K11 hK11
  refine wp_seq_k ?_
  intro K12 hK12
  refine rg [0, 1, 2] ?_
  refine sq ?_
  refine .mv ?_
  refine sq ?_
  refine .mv ?_
  refine sq ?_
  refine .r0 ?_
  apply wpSq_end
  refine hK12 _ _ ?_
  refine cf ?_
  refine wp_exit ?_
  refine hK6 _ _ ?_
  refine wp_seq_k ?_
  intro K13 hK13
  refine rg [0, 1] ?_
  refine sq ?_
  refine .r4 hs.g0.f4 ?_
  refine sq ?_
  refine .s4 hs.g1 (fun _ => hs.u1 kb_b2) ?_; clear hs; intro w_11 hs hd11 ho11
  apply wpSq_end
  refine hK13 _ _ ?_
  refine wp_ret ?_
  try dsimp only [Exit.then, Exit.inBlock]
  obtain ⟨r0_0, r0_1, r0_2, r0_3⟩ := hs.g1.f4
  refine bodyPost_ret (v := (.agg #[.bool n_t1, .slice o_t1 k_t1 c_t1, .bool n_ga, .slice o_ga k_ga c_ga])) (by simp [results, Try.results24, go_sem, r0_0, r0_1, r0_2, r0_3]) rfl ?_
  have k8_11 := ((kb n9).o hd10 ho10).o hd11 ho11
  replace t1 := t1.k k8_11
  have k3_11 := (((k3_7.b hb_8).b n9).o hd10 ho10).o hd11 ho11
  replace g1 := g1.k k3_11
  exact ⟨_, rfl, .mk' t1 g1, hs.b⟩
theorem tmod4 (K : Int) : (Int.tmod K 4 = 0 ∧ K % 4 = 0) ∨ (Int.tmod K 4 = 1 ∧ K % 4 = 1) ∨ (Int.tmod K 4 = 2 ∧ K % 4 = 2) ∨ (Int.tmod K 4 = 3 ∧ K % 4 = 3) ∨ (Int.tmod K 4 = -1 ∧ K % 4 = 3) ∨ (Int.tmod K 4 = -2 ∧ K % 4 = 2) ∨ (Int.tmod K 4 = -3 ∧ K % 4 = 1) := by
  rcases Int.le_total 0 K with h | h
  · rw [Int.tmod_eq_emod_of_nonneg h]; omega
  · obtain ⟨a, rfl⟩ : ∃ a, K = -a := ⟨-K, by omega⟩
    rw [Int.neg_tmod, Int.tmod_eq_emod_of_nonneg (by omega)]; omega
theorem rgTurn_any (K : Int) (ha : PN w va x l y m) (hl : l ≤ 40000000) (hm : m ≤ 40000000) :
    Calls Try.prog 24 #[va, .int .i64 K] w fun e w' => ∃ v, e = .returned v ∧ PC w' v (turn (K % 4).toNat (x, y)).1 (turn (K % 4).toNat (x, y)).2 ∧ Below w.heap.size w w' := by
  rcases tmod4 K with ⟨h, h2⟩ | ⟨h, h2⟩ | ⟨h, h2⟩ | ⟨h, h2⟩ | ⟨h, h2⟩ | ⟨h, h2⟩ | ⟨h, h2⟩ <;> rw [h2]
  · exact rgTurn_p0 K h ha hl hm
  · exact rgTurn_p1 K h ha hl hm
  · exact rgTurn_p2 K h ha hl hm
  · exact rgTurn_p3 K h ha hl hm
  · exact rgTurn_m1 K h ha hl hm
  · exact rgTurn_m2 K h ha hl hm
  · exact rgTurn_m3 K h ha hl hm
end
end Go.Proofs.Ytnkimagnmnocdaa


/- gmat: Add, Sub, Scale, Trans, Adj, Ident, Size; copied. -/
namespace Go.Proofs.Ytnkimagnmnocdaa
open Go Go.RowKit Dig
set_option linter.unusedVariables false

section
variable {w : World} {l la lb i j n na nb cm ca cb pa pb pm pf pg k : Nat} {om oa ob : Option Addr} {Ms A B : List (List (Int × Int))} {va : Value} {x y u v : Int}
set_option maxHeartbeats 4000000 in
set_option maxRecDepth 20000 in
theorem gfresh_any (ha : PN w va x l y l) (hl : l ≤ 100000000) :
    Calls Try.prog 76 #[va] w fun e w' => ∃ r, e = .returned r ∧ PC w' r x y ∧ Below w.heap.size w w' := by
  obtain ⟨n_0a, o_0a, k_0a, c_0a, n_0b, o_0b, k_0b, c_0b, rfl, ha1, ha2⟩ := ha
  go_enter Try.func76, Try.ntmps76
  have hs := St.nil w
  refine wp_seq_k ?_
  intro K1 hK1
  refine rg [0, 1] ?_
  refine sq ?_
  refine .al hs ?_; clear hs; intro p_b1 w_1 hs n1 kb_b1
  refine sq ?_
  refine .al hs ?_; clear hs; intro p_b2 w_2 hs n2 kb_b2
  apply wpSq_end
  refine hK1 _ _ ?_
  refine wp_seq_k ?_
  intro K2 hK2
  refine rg [0, 1, 2, 3] ?_
  refine sq ?_
  refine .r4 hs.g1.f4 ?_
  refine sq ?_
  refine .r0 ?_
  refine sq ?_
  intro K hK
  have k0_2 := (kb n1).b n2
  replace ha1 := ha1.k k0_2
  replace ha2 := ha2.k k0_2
  go_big_op
  go_fit (gAdd_any (PN.mk' ha1 ha2) (PN.mk' ((zc_zero w_2).zn zlen_0) ((zc_zero w_2).zn zlen_0)) (by omega) (by omega) (by omega) (by omega) )
  rintro e w_3 ⟨_, rfl, ⟨n_ga, o_ga, k_ga, c_ga, n_gb, o_gb, k_gb, c_gb, rfl, g1, g2⟩, hb_3⟩
  replace hs := hs.bl hb_3
  have Lg1 := hide (g1.lenOf (zlen_add (ha1.len) (zlen_0)))
  have Lg2 := hide (g2.lenOf (zlen_add (ha2.len) (zlen_0)))
  rw [Int.add_zero] at g1 g2
  refine hK _ _ rfl trivial ?_
  clear hK K
  refine sq ?_
  refine .s4 hs.g0 (fun _ => hs.u0 kb_b2) ?_; clear hs; intro w_4 hs hd4 ho4
  apply wpSq_end
  refine hK2 _ _ ?_
  refine wp_ret ?_
  try dsimp only [Exit.then, Exit.inBlock]
  obtain ⟨r0_0, r0_1, r0_2, r0_3⟩ := hs.g0.f4
  refine bodyPost_ret (v := (.agg #[.bool n_ga, .slice o_ga k_ga c_ga, .bool n_gb, .slice o_gb k_gb c_gb])) (by simp [results, Try.results76, go_sem, r0_0, r0_1, r0_2, r0_3]) rfl ?_
  have k3_4 := ko hd4 ho4
  replace g1 := g1.k k3_4
  replace g2 := g2.k k3_4
  exact ⟨_, rfl, .mk' g1 g2, hs.b⟩
end
end Go.Proofs.Ytnkimagnmnocdaa


/- gmat.product: the product of two vectors. -/
namespace Go.Proofs.Ytnkimagnmnocdaa
open Go Go.RowKit Dig
set_option linter.unusedVariables false

theorem zlen_addM {x y : Int} {l : Nat} (hx : (dig x.natAbs).length ≤ l) (hy : (dig y.natAbs).length ≤ l) : (dig (x + y).natAbs).length ≤ l + 1 := by
  refine dig_length_le ?_
  have h1 := Nat.lt_of_lt_of_le (lt_pw_dig x.natAbs) (pw_mono hx)
  have h2 := Nat.lt_of_lt_of_le (lt_pw_dig y.natAbs) (pw_mono hy)
  have h3 : (x + y).natAbs ≤ x.natAbs + y.natAbs := Int.natAbs_add_le x y
  simp only [pw]; omega
theorem zlen_subM {x y : Int} {l : Nat} (hx : (dig x.natAbs).length ≤ l) (hy : (dig y.natAbs).length ≤ l) : (dig (x - y).natAbs).length ≤ l + 1 := by
  rw [Int.sub_eq_add_neg]
  exact zlen_addM hx (by rw [Int.natAbs_neg]; exact hy)
def sumP : Nat → (Nat → Int × Int) → Int × Int
  | 0, _ => (0, 0)
  | k + 1, f => aP (sumP k f) (f k)
def zl (l : Nat) (p : Int × Int) : Prop := (dig p.1.natAbs).length ≤ l ∧ (dig p.2.natAbs).length ≤ l
theorem zl_mP {p q : Int × Int} {l m : Nat} (hp : zl l p) (hq : zl m q) : zl (l + m + 1) (mP p q) :=
  ⟨zlen_subM (zlen_mul hp.1 hq.1) (zlen_mul hp.2 hq.2), zlen_addM (zlen_mul hp.1 hq.2) (zlen_mul hp.2 hq.1)⟩
theorem zl_up {p : Int × Int} {l m : Nat} (hp : zl l p) (h : l ≤ m) : zl m p := ⟨Nat.le_trans hp.1 h, Nat.le_trans hp.2 h⟩
theorem zl_aP {p q : Int × Int} {l : Nat} (hp : zl l p) (hq : zl l q) : zl (l + 1) (aP p q) := ⟨zlen_addM hp.1 hq.1, zlen_addM hp.2 hq.2⟩
theorem zl_0 (l : Nat) : zl l (0, 0) := by
  have : (dig (Int.natAbs 0)).length ≤ l := by rw [show dig (Int.natAbs 0) = [] from dig_eq_nil.2 rfl]; exact Nat.zero_le _
  exact ⟨this, this⟩
theorem zl_sum {f : Nat → Int × Int} {l : Nat} : ∀ {k : Nat}, (∀ i, i < k → zl l (f i)) → zl (l + k) (sumP k f)
  | 0, _ => zl_0 _
  | k + 1, h => zl_aP (l := l + k) (zl_sum fun i hi => h i (by omega)) (zl_up (h k (by omega)) (Nat.le_add_right l k))
theorem Bd.at1 {l i : Nat} {ps : List (Int × Int)} (h : Bd l ps) : zl l (at1 ps i) := by
  rcases Nat.lt_or_ge i ps.length with hi | hi
  · rw [at1_eq hi]; exact h _ (List.getElem_mem hi)
  · rw [Go.Proofs.Ytnkimagnmnocdaa.at1, List.getD, List.getElem?_eq_none hi]; exact zl_0 _
section
variable {w : World} {lu lv n cu cv : Nat} {ou ov : Option Addr} {U V : List (Int × Int)}
end
end Go.Proofs.Ytnkimagnmnocdaa


/- gmat: Add, Sub, Scale, Trans, Adj, Ident, Size. -/
namespace Go.Proofs.Ytnkimagnmnocdaa
open Go Go.RowKit Dig
set_option linter.unusedVariables false

theorem gd_row {A : List (List (Int × Int))} {i : Nat} (h : gd A) (hi : i < A.length) : (rw_ A i).length = wd A := by rw [rw_eq hi]; exact h.2.2 _ (List.getElem_mem hi)
section
variable {w : World} {l la lb n na nb cm ca cb : Nat} {om oa ob : Option Addr} {Ms A B : List (List (Int × Int))} {vg : Value} {u v : Int}
end
end Go.Proofs.Ytnkimagnmnocdaa


/- gmat.combined: the sum of a matrix's rows. -/
namespace Go.Proofs.Ytnkimagnmnocdaa
open Go Go.RowKit Dig
set_option linter.unusedVariables false
theorem BdM.at2 {l i j : Nat} {Ms : List (List (Int × Int))} (h : BdM l Ms) : zl l (at2 Ms i j) := by
  rcases Nat.lt_or_ge i Ms.length with hi | hi
  · rw [Go.Proofs.Ytnkimagnmnocdaa.at2, rw_eq hi]; exact Bd.at1 (h _ (List.getElem_mem hi))
  · rw [Go.Proofs.Ytnkimagnmnocdaa.at2, rw_, List.getD, List.getElem?_eq_none hi]; exact Bd.at1 (ps := []) fun p hp => by cases hp
section
variable {w : World} {lu lv n cu cv pv pm j : Nat} {ou ov : Option Addr} {V : List (Int × Int)} {M : List (List (Int × Int))}
set_option maxHeartbeats 4000000 in
set_option maxRecDepth 20000 in
theorem combined1 (xv : Bs w pv #[.slice ou n cu] 39) (xm : Bs w pm #[.slice ov n cv] 23) (hu : SN lu w ou V) (hv : MN lv w ov M) (hn : V.length = n) (hm : M.length = n) (hj : ∀ i, i < n → j < (rw_ M i).length) (hl : n ≤ 2000000) (h1 : lu ≤ 10000000) (h2 : lv ≤ 10000000) (hj2 : j ≤ 1000000) :
    Calls Try.prog 127 (#[.int .i64 (j : Int)] ++ #[.pointer (some ⟨pv, 0, none⟩), .pointer (some ⟨pm, 0, none⟩)]) w fun e w' => ∃ r, e = .returned r ∧ PC w' r (sumP n fun i => mP (at1 V i) (at2 M i j)).1 (sumP n fun i => mP (at1 V i) (at2 M i j)).2 ∧ Below w.heap.size w w' := by
  show Calls _ _ #[.int .i64 (j : Int), .pointer (some ⟨pv, 0, none⟩), .pointer (some ⟨pm, 0, none⟩)] w _
  obtain ⟨g1, off1, cur1, t1, z1, B1, D1⟩ := hu.blk
  obtain ⟨g2, off2, cur2, t2, z2, B2, D2⟩ := hv.blk
  rw [hn] at B1
  rw [hm] at B2
  have HB := hide (And.intro B1 B2)
  have I1 := D1.isG
  have I2 := D2.isS
  rw [hn] at I1
  rw [hm] at I2
  have HI := hide (And.intro I1 I2)
  have HD := hide (And.intro D1 D2)
  have HU := hide (And.intro hu.bd hv.bd)
  have HJ := hide hj
  obtain ⟨f, hf⟩ : ∃ f : Nat → Int × Int, f = fun i => mP (at1 V i) (at2 M i j) := ⟨_, rfl⟩
  rw [← hf]
  have HF := hide hf
  clear B1 B2 I1 I2 D1 D2 hu hv hf hj
  refine calls_of_marks Try.func127 rfl ?_
  simp only [Try.ntmps127, List.size_toArray, List.length_cons, List.length_nil, Nat.reduceAdd, Nat.reduceSub, Array.replicate_succ, Array.replicate_zero, List.push_toArray, List.append_toArray, List.nil_append, List.cons_append]
  have hs := St.nil w
  have lt_bv := xv.lt
  have xvz := xv
  have lt_bm := xm.lt
  have xmz := xm
  refine wp_seq_k ?_
  intro K1 hK1
  refine rg [0, 1] ?_
  refine sq ?_
  refine .al hs ?_; clear hs; intro p_b1 w_1 hs n1 kb_b1
  replace xv := xv.bl n1; replace xm := xm.bl n1
  refine sq ?_
  refine .al hs ?_; clear hs; intro p_b2 w_2 hs n2 kb_b2
  replace xv := xv.bl n2; replace xm := xm.bl n2
  apply wpSq_end
  refine hK1 _ _ ?_
  refine wp_seq_k ?_
  intro K2 hK2
  refine rg [0, 1, 2] ?_
  refine sq ?_
  refine .r0 ?_
  refine sq ?_
  refine .al hs ?_; clear hs; intro p_b3 w_3 hs n3 kb_b3
  replace xv := xv.bl n3; replace xm := xm.bl n3
  refine sq ?_
  refine .s4 hs.g0 (fun _ => hs.u0 kb_b3) ?_; clear hs; intro w_4 hs hd4 ho4
  replace xv := xv.frame ho4 (Nat.ne_of_lt (Nat.lt_of_lt_of_le lt_bv kb_b3)); replace xm := xm.frame ho4 (Nat.ne_of_lt (Nat.lt_of_lt_of_le lt_bm kb_b3))
  apply wpSq_end
  refine hK2 _ _ ?_
  refine wp_seq_k ?_
  intro K3 hK3
  refine wp_seq_k ?_
  intro K4 hK4
  refine rg [0, 1, 2] ?_
  refine sq ?_
  refine .r1 xv.f1 ?_
  refine sq ?_
  refine .r1 xm.f1 ?_
  refine sq ?_
  intro K hK
  go_big_op
  go_fit (mkBesideGS)
  rintro e w_5 ⟨p_ita, p_itb, rfl, kb_ita, kb_itb, hs_it, hb_5⟩
  have kz_it := hs.k; replace hs := hs.app2 hs_it kb_ita kb_itb; replace kb_ita := Nat.le_trans kz_it kb_ita; replace kb_itb := Nat.le_trans kz_it kb_itb
  refine hK _ _ rfl trivial ?_
  clear hK K
  apply wpSq_end
  refine hK4 _ _ ?_
  refine wp_block ?_
  refine wp_rangeN (X := Nat × Value × Value × Value × Value) (fun k x => x.1 = k) (fun _ _ _ => False) (fun x => [bx p_ita #[.slice ou n cu] 39, bx p_itb #[.slice ov n cv] 22, bx p_b3 #[x.2.1, x.2.2.1, x.2.2.2.1, x.2.2.2.2] 41, bx p_b2 #[.bool false, .slice none 0 0, .bool false, .slice none 0 0] 41, bx p_b1 #[.int .i64 (j : Int)] 3])
    (fun x W => PC W (.agg #[x.2.1, x.2.2.1, x.2.2.2.1, x.2.2.2.2]) (sumP x.1 f).1 (sumP x.1 f).2) (itGS (c1 := cu) (c2 := cv) (t1 := t1) (t2 := t2) (fz1 := z1) (fz2 := z2) (by omega) HI.out.1 HI.out.2 (fun h => (HB.out.1 h).1) (fun h => (HB.out.2 h).1)) (0, .bool false, .slice none 0 0, .bool false, .slice none 0 0) rfl hs (.mk' (zc_zero _) (zc_zero _)) ?hR ?hF ?round ?done ?stop
  case hR => exact fun x W hst _ => ⟨hst.g0, hst.g1, fun h => ⟨(HB.out.1 h).2.bl hst.b, (HB.out.2 h).2.bl hst.b⟩⟩
  case hF => exact fun x A B h c => h.k c.kp
  case stop => exact fun l D r c k x W hk hD hI => hI.elim
  case round =>
    intro l D r d k x W hk hI hs hf
    obtain ⟨k', c0, c1, c2, c3⟩ := x
    obtain rfl : k' = k := hI
    obtain ⟨n1, o1, k1, q1, n2, o2, k2, q2, hcs, s1, s2⟩ := hf
    simp only [Value.agg.injEq, Array.mk.injEq, List.cons.injEq, and_true] at hcs
    obtain ⟨rfl, rfl, rfl, rfl⟩ := hcs
    obtain ⟨a1, a2, a3, a4, a5, a6, a7, a8, e1, e2, e3, e4, x1, x2⟩ := HD.out.1 k' (by omega)
    obtain ⟨o3, c3, e5, hrow⟩ := HD.out.2 k' (by omega)
    rw [← rw_eq (Ms := M) (by omega)] at e5 hrow
    obtain ⟨g3, off3, cur3, ty3, fz3, d1, d2, d3, d4, d5, d6, d7, d8, rfl, x3, e6, e7, e8, e9, y1, y2⟩ := hrow.op (HJ.out k' hk)
    have hj' := HJ.out k' hk
    obtain ⟨m, hm'⟩ : ∃ m, (rw_ M k').length = m := ⟨_, rfl⟩
    rw [hm'] at e5 hj'
    rw [← at1_eq (ps := V) (by omega)] at x1 x2
    simp only [enG, cg_eq e1, cg_eq e2, cg_eq e3, cg_eq e4, cg_eq e5, List.zip_toArray, List.zip_cons_cons, List.zip_nil_right, List.foldl_toArray', List.foldl_cons, List.foldl_nil, List.setIfInBounds_toArray, List.set_cons_succ, List.set_cons_zero]
    replace x1 : ZN W (.agg #[.bool a1, .slice a2 a3 a4]) (at1 V k').1 lu := x1.bl hs.b
    replace x2 : ZN W (.agg #[.bool a5, .slice a6 a7 a8]) (at1 V k').2 lu := x2.bl hs.b
    replace y1 : ZN W (.agg #[.bool d1, .slice d2 d3 d4]) (at2 M k' j).1 lv := y1.bl hs.b
    replace y2 : ZN W (.agg #[.bool d5, .slice d6 d7 d8]) (at2 M k' j).2 lv := y2.bl hs.b
    have lt_kRM := x3.lt
    replace x3 := x3.bl hs.b
    have hz : zl (lu + lv + 1 + k') (sumP k' f) := zl_sum fun i hi => by rw [HF.out]; exact zl_mP HU.out.1.at1 HU.out.2.at2
    have Ls1 := hide hz.1
    have Ls2 := hide hz.2
    have HE := hide (show sumP (k' + 1) f = aP (sumP k' f) (mP (at1 V k') (at2 M k' j)) from by rw [show f = fun i => mP (at1 V i) (at2 M i j) from HF.out]; rfl)
    generalize at1 V k' = u at *
    generalize at2 M k' j = v at *
    clear hz hrow hm'
    generalize sumP k' f = S at *
    refine wpIn_seq_k ?_
    intro K5 hK5
    refine rgR [0, 1] ?_
    refine sq ?_
    refine .al hs ?_; clear hs; intro p_b4 w_6 hs n6 kb_b4
    replace x3 := x3.bl n6
    refine sq ?_
    refine .s4 hs.g0 (fun _ => hs.u0 kb_b4) ?_; clear hs; intro w_7 hs hd7 ho7
    replace x3 := x3.frame ho7 (Nat.ne_of_lt (Nat.lt_of_lt_of_le lt_kRM kb_b4))
    apply wpSq_end
    refine hK5 _ _ ?_
    refine rgR [0] ?_
    refine sq ?_
    refine .mv ?_
    apply wpSq_end
    try dsimp only [Exit.then, Exit.inBlock]
    refine ⟨_, 1, hs, rfl, ?_⟩; clear hs; intro r_8 w_8 hs cm_8; simp only [List.set_cons_succ, List.set_cons_zero] at hs
    replace x3 := x3.cm cm_8
    refine wpIn_block ?_
    refine wp_region_f4R [(0, false), (1, false), (2, false), (3, false), (4, false), (5, false), (6, true), (7, true)] [8] [] (fun _ => default) [0, 1, 99, 2, 99, 3, 99, 99, 99] [(8, 0)] (.c hs.g5 (.c hs.g0 (.c hs.g7 (.c x3 .n)))) fn fun w_9 n9 => ?_
    replace x3 := x3.bl n9; replace hs := hs.bl n9
    refine f4 ?_
    refine f4 ?_
    refine fmv ?_
    refine f1 ?_
    refine f0 ?_
    apply wpFl_ld rfl rfl; (case h1 => intro w' hC K hK; have c0 := Bs.cell hC ((off3 + j * 4)) e6; have c1 := Bs.cell hC ((off3 + j * 4) + 1) e7; have c2 := Bs.cell hC ((off3 + j * 4) + 2) e8; have c3 := Bs.cell hC ((off3 + j * 4) + 3) e9; go_big_op; exact hK); iterate 4 kernel_rfl
    refine fl fun w_10 n10 => ?_
    replace x3 := x3.bl n10; replace hs := hs.bl n10
    intro K hK
    have k0_5 := ((((kb n6).o hd7 ho7).t cm_8.kp).b n9).b n10
    replace x1 := x1.k k0_5
    replace x2 := x2.k k0_5
    replace y1 := y1.k k0_5
    replace y2 := y2.k k0_5
    go_big_op
    go_fit (gMul_any (PN.mk' x1 x2) (PN.mk' y1 y2) (by omega) (by omega) (by omega) (by omega) )
    rintro e w_11 ⟨_, rfl, ⟨n_ba, o_ba, k_ba, c_ba, n_bb, o_bb, k_bb, c_bb, rfl, b1, b2⟩, hb_11⟩
    replace x3 := x3.bl hb_11; replace hs := hs.bl hb_11
    have Lb1 := hide (b1.lenOf (zlen_sub (zlen_mul (x1.len) (y1.len)) (zlen_mul (x2.len) (y2.len))))
    have Lb2 := hide (b2.lenOf (zlen_add (zlen_mul (x1.len) (y2.len)) (zlen_mul (x2.len) (y1.len))))
    refine hK _ _ rfl ⟨hb_11, (And.intro hs.g5 (And.intro hs.g0 (And.intro hs.g7 (And.intro x3 trivial))))⟩ ?_
    clear hK K
    refine fl fun w_12 n12 => ?_
    replace x3 := x3.bl n12; replace hs := hs.bl n12
    intro K hK
    have k0_7 := (k0_5.b hb_11).b n12
    replace s1 := s1.k k0_7
    replace s2 := s2.k k0_7
    have k6_7 := kb n12
    replace b1 := b1.k k6_7
    replace b2 := b2.k k6_7
    go_big_op
    go_fit (gAdd_any (PN.mk' (s1.zn Ls1.out) (s2.zn Ls2.out)) (PN.mk' (b1.zn Lb1.out) (b2.zn Lb2.out)) (by omega) (by omega) (by omega) (by omega) )
    rintro e w_13 ⟨_, rfl, ⟨n_ca, o_ca, k_ca, c_ca, n_cb, o_cb, k_cb, c_cb, rfl, c1, c2⟩, hb_13⟩
    replace x3 := x3.bl hb_13; replace hs := hs.bl hb_13
    have Lc1 := hide (c1.lenOf (zlen_add (Ls1.out) (Lb1.out)))
    have Lc2 := hide (c2.lenOf (zlen_add (Ls2.out) (Lb2.out)))
    refine hK _ _ rfl ⟨hb_13, (And.intro hs.g5 (And.intro hs.g0 (And.intro hs.g7 (And.intro x3 trivial))))⟩ ?_
    clear hK K
    refine e0 hs ?_; clear hs; intro w_14 hs n14
    replace x3 := x3.bl n14
    refine tl ?_
    refine .s4o hs.g5 (fun _ => hs.u5 kb_b3) ?_ (e := fun _ hs hO => (And.intro True.intro (And.intro hs.g0 (And.intro hs.g7 (And.intro (x3.frame hO (Nat.ne_of_lt (Nat.lt_of_lt_of_le lt_kRM kb_b3))) True.intro))))); clear hs; intro w_15 hs hd15 ho15
    replace x3 := x3.frame ho15 (Nat.ne_of_lt (Nat.lt_of_lt_of_le lt_kRM kb_b3))
    apply wpTail_end
    try dsimp only [Exit.then, Exit.inBlock]
    have k8_10 := (kb n14).o hd15 ho15
    replace c1 := c1.k k8_10
    replace c2 := c2.k k8_10
    exact ⟨(k' + 1, _, _, _, _), rfl, hs.sub (.cons _ (List.Sublist.refl _)), by show PC _ _ (sumP (k' + 1) f).1 (sumP (k' + 1) f).2; rw [HE.out]; exact .mk' c1 c2⟩
  case done =>
    intro l D r x W hD hI hs hf
    obtain ⟨k', c0, c1, c2, c3⟩ := x
    obtain rfl : k' = n := hI
    obtain ⟨n1, o1, k1, q1, n2, o2, k2, q2, hcs, s1, s2⟩ := hf
    simp only [Value.agg.injEq, Array.mk.injEq, List.cons.injEq, and_true] at hcs
    obtain ⟨rfl, rfl, rfl, rfl⟩ := hcs
    try dsimp only [Exit.then, Exit.inBlock]
    refine hK3 _ _ ?_
    refine wp_seq_k ?_
    intro K5 hK5
    refine rg [0, 1] ?_
    refine sq ?_
    refine .r4 hs.g4.f4 ?_
    refine sq ?_
    refine .s4 hs.g5 (fun _ => hs.u5 kb_b2) ?_; clear hs; intro w_6 hs hd6 ho6
    apply wpSq_end
    refine hK5 _ _ ?_
    refine wp_ret ?_
    try dsimp only [Exit.then, Exit.inBlock]
    refine ret_mark (hs.obj 1) fun w_7 e_7 => ?_
    have cm_7 := Cm.po (.deferred none) (hs.obj 1) rfl
    replace hs := hs.po 1 (.deferred none) hD; rw [e_7] at hs cm_7; clear e_7; simp only [List.set_cons_succ, List.set_cons_zero] at hs
    obtain ⟨r0_0, r0_1, r0_2, r0_3⟩ := hs.g5.f4
    refine ⟨(.agg #[.bool n1, .slice o1 k1 q1, .bool n2, .slice o2 k2 q2]), by simp [results, Try.results127, go_sem, r0_0, r0_1, r0_2, r0_3], ?_⟩
    have k0_2 := (ko hd6 ho6).t cm_7.kp
    replace s1 := s1.k k0_2
    replace s2 := s2.k k0_2
    exact ⟨_, rfl, .mk' s1 s2, hs.b⟩
end
end Go.Proofs.Ytnkimagnmnocdaa


/- gmat: Scale, Trans, Adj, Ident, Size. -/
namespace Go.Proofs.Ytnkimagnmnocdaa
open Go Go.RowKit Dig
set_option linter.unusedVariables false

section
variable {w : World} {l la lb n na nb cm ca cb i j : Nat} {om oa ob : Option Addr} {Ms A B : List (List (Int × Int))} {vg : Value} {u v : Int}
end
end Go.Proofs.Ytnkimagnmnocdaa

