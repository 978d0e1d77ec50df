/- gprime.IsPrime; the reference's IsPrime. -/
import Derived.Test.YtbiiglcfdphmaaaJ1ToJ4
import Derived.Test.YtbiiglcfdphmaaaG3ToR10

namespace Go.Proofs.Ytbiiglcfdphmaaa
open Go Go.RowKit Dig
set_option linter.unusedVariables false

/-- Numbers of this norm are primes. -/
def PrimeN (n : Nat) : Prop := 2 ≤ n ∧ ∀ p, IsLf n p → p = n ∨ (p % 4 = 3 ∧ p * p = n)
open Classical in
noncomputable def primeB (n : Nat) : Bool := decide (PrimeN n)
open Classical in
theorem primeB_low {n : Nat} (h : n < 2) : primeB n = false := decide_eq_false fun hc => by have := hc.1; omega
open Classical in
theorem primeB_eq {n p : Nat} (hp : IsLf n p) (h2 : 2 ≤ n) : primeB n = decide (p = n ∨ (p % 4 = 3 ∧ p * p = n)) := by
  unfold primeB
  rw [decide_eq_decide]
  exact ⟨fun h => h.2 p hp, fun h => ⟨h2, fun q hq => by rw [hq.uniq hp]; exact h⟩⟩
section
variable {w : World} {va : Value} {x y z : Int} {l m : Nat}
theorem inop (n : Nat) (hn : n < 4294967296) :
    Calls Try.prog 36 #[.int .u64 (n : Int)] w fun e w' => e = .returned (.bool (primeB n)) ∧ Below w.heap.size w w' := by
  rcases Nat.lt_or_ge n 2 with h | h
  · rw [primeB_low h]; exact inop_low n h
  · obtain ⟨p, hp⟩ := lf_ex h
    rw [primeB_eq hp h]
    exact inop_any hp h hn
set_option maxHeartbeats 4000000 in
set_option maxRecDepth 20000 in
theorem gprime_any (N : Nat) (ha : PN w va x l y m) (hl : l ≤ 20000000) (hm : m ≤ 20000000) (hn : gN x y = (N : Int)) (hN : N < 4294967296) :
    Calls Try.prog 9 #[va] w fun e w' => e = .returned (.tuple #[.bool (primeB N), .int .i64 0]) ∧ Below w.heap.size w w' := by
  have HN := hide hn
  have HP := hide (fun w => inop (w := w) N hN)
  clear hn
  obtain ⟨n_0a, o_0a, k_0a, c_0a, n_0b, o_0b, k_0b, c_0b, rfl, ha1, ha2⟩ := ha
  go_enter Try.func9, Try.ntmps9
  have hs := St.nil w
  refine wp_seq_k ?_
  intro K1 hK1
  refine rg [0, 1, 2] ?_
  refine sq ?_
  refine .al hs ?_; clear hs; intro p_b1 w_1 hs n1 kb_b1
  refine sq ?_
  refine .mv ?_
  refine sq ?_
  refine .mv ?_
  apply wpSq_end
  refine hK1 _ _ ?_
  refine wp_seq_k ?_
  intro K2 hK2
  refine rg [0, 1, 2, 3, 4, 5, 6] ?_
  refine sq ?_
  refine .r4 hs.g0.f4 ?_
  refine sq ?_
  intro K hK
  have k0_1 := kb n1
  replace ha1 := ha1.k k0_1
  replace ha2 := ha2.k k0_1
  go_big_op
  go_fit (normOf_any N (PN.mk' ha1 ha2) (by omega) (by omega) HN.out hN)
  rintro e w_2 ⟨rfl, hb_2⟩
  replace hs := hs.bl hb_2
  refine hK _ _ rfl trivial ?_
  clear hK K
  refine sq ?_
  refine .mv ?_
  refine sq ?_
  refine .r0 ?_
  refine sq ?_
  refine .r0 ?_
  refine sq ?_
  refine .mv ?_
  refine sq ?_
  refine .mv ?_
  apply wpSq_end
  refine hK2 _ _ ?_
  refine wp_seq_k ?_
  intro K3 hK3
  refine wp_seq_k ?_
  intro K4 hK4
  refine rg [0, 1] ?_
  refine sq ?_
  refine .mv ?_
  refine sq ?_
  refine .r0 ?_
  apply wpSq_end
  refine hK4 _ _ ?_
  refine cf ?_
  refine wp_skip ?_
  refine hK3 _ _ ?_
  refine wp_seq_k ?_
  intro K5 hK5
  refine rg [0, 1, 2, 3] ?_
  refine sq ?_
  refine .mv ?_
  refine sq ?_
  intro K hK
  go_big_op
  go_fit (HP.out _)
  rintro e w_3 ⟨rfl, hb_3⟩
  replace hs := hs.bl hb_3
  refine hK _ _ rfl trivial ?_
  clear hK K
  refine sq ?_
  refine .mv ?_
  refine sq ?_
  refine .mv ?_
  apply wpSq_end
  refine hK5 _ _ ?_
  refine wp_ret ?_
  try dsimp only [Exit.then, Exit.inBlock]
  refine bodyPost_ret (v := (.tuple #[(.bool (primeB N)), (.int .i64 0)])) (by simp [results, Try.results9, go_sem]) rfl ?_
  exact ⟨rfl, hs.b⟩
set_option maxHeartbeats 4000000 in
set_option maxRecDepth 20000 in
theorem gprime_big (ha : PN w va x l y m) (hl : l ≤ 20000000) (hm : m ≤ 20000000) (hn : 4294967296 ≤ gN x y) :
    Calls Try.prog 9 #[va] w fun e w' => e = .returned (.tuple #[.bool false, .int .i64 12]) ∧ Below w.heap.size w w' := by
  obtain ⟨n_0a, o_0a, k_0a, c_0a, n_0b, o_0b, k_0b, c_0b, rfl, ha1, ha2⟩ := ha
  go_enter Try.func9, Try.ntmps9
  have hs := St.nil w
  refine wp_seq_k ?_
  intro K1 hK1
  refine rg [0, 1, 2] ?_
  refine sq ?_
  refine .al hs ?_; clear hs; intro p_b1 w_1 hs n1 kb_b1
  refine sq ?_
  refine .mv ?_
  refine sq ?_
  refine .mv ?_
  apply wpSq_end
  refine hK1 _ _ ?_
  refine wp_seq_k ?_
  intro K2 hK2
  refine rg [0, 1, 2, 3, 4, 5, 6] ?_
  refine sq ?_
  refine .r4 hs.g0.f4 ?_
  refine sq ?_
  intro K hK
  have k0_1 := kb n1
  replace ha1 := ha1.k k0_1
  replace ha2 := ha2.k k0_1
  go_big_op
  go_fit (normOf_big (PN.mk' ha1 ha2) (by omega) (by omega) hn)
  rintro e w_2 ⟨rfl, hb_2⟩
  replace hs := hs.bl hb_2
  refine hK _ _ rfl trivial ?_
  clear hK K
  refine sq ?_
  refine .mv ?_
  refine sq ?_
  refine .r0 ?_
  refine sq ?_
  refine .r0 ?_
  refine sq ?_
  refine .mv ?_
  refine sq ?_
  refine .mv ?_
  apply wpSq_end
  refine hK2 _ _ ?_
  refine wp_seq_k ?_
  intro K3 hK3
  refine wp_seq_k ?_
  intro K4 hK4
  refine rg [0, 1] ?_
  refine sq ?_
  refine .mv ?_
  refine sq ?_
  refine .r0 ?_
  apply wpSq_end
  refine hK4 _ _ ?_
  refine ct ?_
  refine wp_seq_k ?_
  intro K5 hK5
  refine rg [0, 1, 2] ?_
  refine sq ?_
  refine .mv ?_
  refine sq ?_
  refine .mv ?_
  refine sq ?_
  refine .mv ?_
  apply wpSq_end
  refine hK5 _ _ ?_
  refine wp_ret ?_
  try dsimp only [Exit.then, Exit.inBlock]
  refine bodyPost_ret (v := (.tuple #[(.bool false), (.int .i64 12)])) (by simp [results, Try.results9, go_sem]) rfl ?_
  exact ⟨rfl, hs.b⟩
set_option maxHeartbeats 4000000 in
set_option maxRecDepth 20000 in
theorem rsmallg_any (N : Nat) (ha : PN w va x l y m) (hl : l ≤ 20000000) (hm : m ≤ 20000000) (hn : gN x y = (N : Int)) (hN : N < 4294967296) :
    Calls Try.prog 18 #[va] w fun e w' => e = .returned (.tuple #[.int .i64 (N : Int), .bool true]) ∧ Below w.heap.size w w' := by
  have HN := hide hn
  have LN := hide (show (dig ((N : Int)).natAbs).length ≤ 2 by rw [Int.natAbs_natCast]; exact dig_length_le (Nat.lt_trans hN (by decide)))
  clear hn
  have hNi : (N : Int) < 4294967296 := by omega
  obtain ⟨n_0a, o_0a, k_0a, c_0a, n_0b, o_0b, k_0b, c_0b, rfl, ha1, ha2⟩ := ha
  go_enter Try.func18, Try.ntmps18
  have hs := St.nil w
  refine wp_seq_k ?_
  intro K1 hK1
  refine rg [0, 1, 2] ?_
  refine sq ?_
  refine .al hs ?_; clear hs; intro p_b1 w_1 hs n1 kb_b1
  refine sq ?_
  refine .mv ?_
  refine sq ?_
  refine .mv ?_
  apply wpSq_end
  refine hK1 _ _ ?_
  refine wp_seq_k ?_
  intro K2 hK2
  refine rg [0, 1, 2, 3, 4, 5, 6, 7] ?_
  refine sq ?_
  refine .r4 hs.g0.f4 ?_
  refine sq ?_
  intro K hK
  have k0_1 := kb n1
  replace ha1 := ha1.k k0_1
  replace ha2 := ha2.k k0_1
  go_big_op
  go_fit (rgNorm_any (PN.mk' ha1 ha2) (by omega) (by omega) )
  rintro e w_2 ⟨v_g, rfl, g, hb_2⟩
  replace hs := hs.bl hb_2
  obtain ⟨n_g, o_g, k_g, c_g, rfl⟩ := g.open2
  have Lg := hide (g.lenOf (zlen_add (zlen_mul (ha1.len) (ha1.len)) (zlen_mul (ha2.len) (ha2.len))))
  refine hK _ _ rfl trivial ?_
  clear hK K
  rw [HN.out] at g
  have Lg := hide (g.lenOf (LN.out))
  refine sq ?_
  intro K hK
  go_big_op
  go_fit (rsmall_any (g.zn Lg.out) (by omega) (by omega))
  rintro e w_3 ⟨rfl, hb_3⟩
  replace hs := hs.bl hb_3
  refine hK _ _ rfl trivial ?_
  clear hK K
  refine sq ?_
  refine .mv ?_
  refine sq ?_
  refine .r0 ?_
  refine sq ?_
  refine .r0 ?_
  refine sq ?_
  refine .mv ?_
  refine sq ?_
  refine .mv ?_
  apply wpSq_end
  refine hK2 _ _ ?_
  refine wp_seq_k ?_
  intro K3 hK3
  refine rg [0, 1, 2, 3, 4, 5, 6, 7] ?_
  refine sq ?_
  refine .mv ?_
  refine sq ?_
  refine .mv ?_
  refine sq ?_
  refine .mv ?_
  refine sq ?_
  refine .mv ?_
  refine sq ?_
  refine .r0 ?_
  refine sq ?_
  refine .r0 ?_
  refine sq ?_
  refine .mv ?_
  refine sq ?_
  refine .mv ?_
  apply wpSq_end
  refine hK3 _ _ ?_
  refine wp_ret ?_
  try dsimp only [Exit.then, Exit.inBlock]
  refine bodyPost_ret (v := (.tuple #[(.int .i64 (N : Int)), (.bool true)])) (by simp [results, Try.results18, go_sem]) rfl ?_
  exact ⟨rfl, hs.b⟩
set_option maxHeartbeats 4000000 in
set_option maxRecDepth 20000 in
theorem rsmallg_big (ha : PN w va x l y m) (hl : l ≤ 20000000) (hm : m ≤ 20000000) (hn : 4294967296 ≤ gN x y) :
    Calls Try.prog 18 #[va] w fun e w' => ∃ v, e = .returned (.tuple #[v, .bool false]) ∧ Below w.heap.size w w' := by
  have HN := hide hn
  obtain ⟨G, hG⟩ : ∃ G, gN x y = G := ⟨_, rfl⟩
  have HG := hide hG
  rw [hG] at hn
  clear hG
  have hGi : (G < 4294967296) = False := eq_false (by omega)
  by_cases h62 : G.natAbs < 4611686018427387904
  · obtain ⟨n_0a, o_0a, k_0a, c_0a, n_0b, o_0b, k_0b, c_0b, rfl, ha1, ha2⟩ := ha
    go_enter Try.func18, Try.ntmps18
    have hs := St.nil w
    refine wp_seq_k ?_
    intro K1 hK1
    refine rg [0, 1, 2] ?_
    refine sq ?_
    refine .al hs ?_; clear hs; intro p_b1 w_1 hs n1 kb_b1
    refine sq ?_
    refine .mv ?_
    refine sq ?_
    refine .mv ?_
    apply wpSq_end
    refine hK1 _ _ ?_
    refine wp_seq_k ?_
    intro K2 hK2
    refine rg [0, 1, 2, 3, 4, 5, 6, 7] ?_
    refine sq ?_
    refine .r4 hs.g0.f4 ?_
    refine sq ?_
    intro K hK
    have k0_1 := kb n1
    replace ha1 := ha1.k k0_1
    replace ha2 := ha2.k k0_1
    go_big_op
    go_fit (rgNorm_any (PN.mk' ha1 ha2) (by omega) (by omega) )
    rintro e w_2 ⟨v_g, rfl, g, hb_2⟩
    replace hs := hs.bl hb_2
    obtain ⟨n_g, o_g, k_g, c_g, rfl⟩ := g.open2
    have Lg := hide (g.lenOf (zlen_add (zlen_mul (ha1.len) (ha1.len)) (zlen_mul (ha2.len) (ha2.len))))
    refine hK _ _ rfl trivial ?_
    clear hK K
    rw [HG.out] at g
    have Lg := hide (g.lenOf ((by have := Lg.out; rw [HG.out] at this; exact this)))
    refine sq ?_
    intro K hK
    go_big_op
    go_fit (rsmall_any (g.zn Lg.out) (by omega) h62)
    rintro e w_3 ⟨rfl, hb_3⟩
    replace hs := hs.bl hb_3
    refine hK _ _ rfl trivial ?_
    clear hK K
    refine sq ?_
    refine .mv ?_
    refine sq ?_
    refine .r0 ?_
    refine sq ?_
    refine .r0 ?_
    refine sq ?_
    refine .mv ?_
    refine sq ?_
    refine .mv ?_
    apply wpSq_end
    refine hK2 _ _ ?_
    refine wp_seq_k ?_
    intro K3 hK3
    refine rg [0, 1, 2, 3, 4, 5, 6, 7] ?_
    refine sq ?_
    refine .mv ?_
    refine sq ?_
    refine .mv ?_
    refine sq ?_
    refine .mv ?_
    refine sq ?_
    refine .mv ?_
    refine sq ?_
    refine .r0 ?_
    refine sq ?_
    refine .r0 ?_
    refine sq ?_
    refine .mv ?_
    refine sq ?_
    refine .mv ?_
    apply wpSq_end
    refine hK3 _ _ ?_
    refine wp_ret ?_
    try dsimp only [Exit.then, Exit.inBlock]
    refine bodyPost_ret (v := (.tuple #[(.int .i64 G), (.bool false)])) (by simp [results, Try.results18, go_sem]) rfl ?_
    have hb := hs.b
    exact ⟨_, rfl, hb⟩
  · obtain ⟨n_0a, o_0a, k_0a, c_0a, n_0b, o_0b, k_0b, c_0b, rfl, ha1, ha2⟩ := ha
    go_enter Try.func18, Try.ntmps18
    have hs := St.nil w
    refine wp_seq_k ?_
    intro K1 hK1
    refine rg [0, 1, 2] ?_
    refine sq ?_
    refine .al hs ?_; clear hs; intro p_b1 w_1 hs n1 kb_b1
    refine sq ?_
    refine .mv ?_
    refine sq ?_
    refine .mv ?_
    apply wpSq_end
    refine hK1 _ _ ?_
    refine wp_seq_k ?_
    intro K2 hK2
    refine rg [0, 1, 2, 3, 4, 5, 6, 7] ?_
    refine sq ?_
    refine .r4 hs.g0.f4 ?_
    refine sq ?_
    intro K hK
    have k0_1 := kb n1
    replace ha1 := ha1.k k0_1
    replace ha2 := ha2.k k0_1
    go_big_op
    go_fit (rgNorm_any (PN.mk' ha1 ha2) (by omega) (by omega) )
    rintro e w_2 ⟨v_g, rfl, g, hb_2⟩
    replace hs := hs.bl hb_2
    obtain ⟨n_g, o_g, k_g, c_g, rfl⟩ := g.open2
    have Lg := hide (g.lenOf (zlen_add (zlen_mul (ha1.len) (ha1.len)) (zlen_mul (ha2.len) (ha2.len))))
    refine hK _ _ rfl trivial ?_
    clear hK K
    rw [HG.out] at g
    have Lg := hide (g.lenOf ((by have := Lg.out; rw [HG.out] at this; exact this)))
    refine sq ?_
    intro K hK
    go_big_op
    go_fit (rsmall_big (g.zn Lg.out) (by omega) (by omega))
    rintro e w_3 ⟨rfl, hb_3⟩
    replace hs := hs.bl hb_3
    refine hK _ _ rfl trivial ?_
    clear hK K
    refine sq ?_
    refine .mv ?_
    refine sq ?_
    refine .r0 ?_
    refine sq ?_
    refine .r0 ?_
    refine sq ?_
    refine .mv ?_
    refine sq ?_
    refine .mv ?_
    apply wpSq_end
    refine hK2 _ _ ?_
    refine wp_seq_k ?_
    intro K3 hK3
    refine rg [0, 1, 2, 3, 4, 5, 6, 7] ?_
    refine sq ?_
    refine .mv ?_
    refine sq ?_
    refine .mv ?_
    refine sq ?_
    refine .mv ?_
    refine sk ?_
    refine sk ?_
    refine sq ?_
    refine .r0 ?_
    refine sq ?_
    refine .mv ?_
    refine sq ?_
    refine .mv ?_
    apply wpSq_end
    refine hK3 _ _ ?_
    refine wp_ret ?_
    try dsimp only [Exit.then, Exit.inBlock]
    refine bodyPost_ret (v := (.tuple #[(.int .i64 0), (.bool false)])) (by simp [results, Try.results18, go_sem]) rfl ?_
    have hb := hs.b
    exact ⟨_, rfl, hb⟩
set_option maxHeartbeats 4000000 in
set_option maxRecDepth 20000 in
theorem rprime_any (N : Nat) (ha : PN w va x l y m) (hl : l ≤ 10000000) (hm : m ≤ 10000000) (hn : gN x y = (N : Int)) (hN : N < 4294967296) :
    Calls Try.prog 19 #[va, .int .i64 (N : Int)] w fun e w' => e = .returned (.bool (primeB N)) ∧ Below w.heap.size w w' := by
  have LL := hide (And.intro ha.len1 ha.len2)
  rcases Nat.lt_or_ge N 2 with h2 | h2
  · rw [primeB_low h2]
    clear hn
    obtain ⟨n_0a, o_0a, k_0a, c_0a, n_0b, o_0b, k_0b, c_0b, rfl, ha1, ha2⟩ := ha
    go_enter Try.func19, Try.ntmps19
    have hs := St.nil w
    refine wp_seq_k ?_
    intro K1 hK1
    refine rg [0, 1] ?_
    refine sq ?_
    refine .al hs ?_; clear hs; intro p_b1 w_1 hs n1 kb_b1
    refine sq ?_
    refine .mv ?_
    apply wpSq_end
    refine hK1 _ _ ?_
    refine wp_seq_k ?_
    intro K2 hK2
    refine wp_seq_k ?_
    intro K3 hK3
    refine rg [0, 1] ?_
    refine sq ?_
    refine .mv ?_
    refine sq ?_
    refine .r0 ?_
    apply wpSq_end
    refine hK3 _ _ ?_
    refine ct ?_
    refine wp_seq_k ?_
    intro K4 hK4
    refine rg [0] ?_
    refine sq ?_
    refine .mv ?_
    apply wpSq_end
    refine hK4 _ _ ?_
    refine wp_ret ?_
    try dsimp only [Exit.then, Exit.inBlock]
    refine bodyPost_ret (v := (.bool false)) (by simp [results, Try.results19, go_sem]) rfl ?_
    exact ⟨rfl, hs.b⟩
  obtain ⟨p, hp⟩ := lf_ex h2
  rw [primeB_eq hp h2]
  have HL := hide (fun w => rleastP (w := w) hp h2 hN)
  by_cases hpn : p = N
  · rw [decide_eq_true (.inl hpn)]
    have hb : ((p : Int) == (N : Int)) = true := by simp; omega
    clear hn hp
    obtain ⟨n_0a, o_0a, k_0a, c_0a, n_0b, o_0b, k_0b, c_0b, rfl, ha1, ha2⟩ := ha
    go_enter Try.func19, Try.ntmps19
    have hs := St.nil w
    refine wp_seq_k ?_
    intro K1 hK1
    refine rg [0, 1] ?_
    refine sq ?_
    refine .al hs ?_; clear hs; intro p_b1 w_1 hs n1 kb_b1
    refine sq ?_
    refine .mv ?_
    apply wpSq_end
    refine hK1 _ _ ?_
    refine wp_seq_k ?_
    intro K2 hK2
    refine wp_seq_k ?_
    intro K3 hK3
    refine rg [0, 1] ?_
    refine sq ?_
    refine .mv ?_
    refine sq ?_
    refine .r0 ?_
    apply wpSq_end
    refine hK3 _ _ ?_
    refine cf ?_
    refine wp_skip ?_
    refine hK2 _ _ ?_
    refine wp_seq_k ?_
    intro K4 hK4
    refine wp_seq_k ?_
    intro K5 hK5
    refine rg [0, 1, 2, 3] ?_
    refine sq ?_
    refine .mv ?_
    refine sq ?_
    intro K hK
    go_big_op
    go_fit (HL.out _)
    rintro e w_2 ⟨rfl, e_2⟩
    (first | rw [e_2] | rw [← e_2]); clear e_2 w_2
    refine hK _ _ rfl trivial ?_
    clear hK K
    refine sq ?_
    refine .mv ?_
    refine sq ?_
    refine .r0 ?_
    apply wpSq_end
    refine hK5 _ _ ?_
    refine ct ?_
    refine wp_seq_k ?_
    intro K6 hK6
    refine rg [0] ?_
    refine sq ?_
    refine .mv ?_
    apply wpSq_end
    refine hK6 _ _ ?_
    refine wp_ret ?_
    try dsimp only [Exit.then, Exit.inBlock]
    refine bodyPost_ret (v := (.bool true)) (by simp [results, Try.results19, go_sem]) rfl ?_
    exact ⟨rfl, hs.b⟩
  have hb : ((p : Int) == (N : Int)) = false := by simp; omega
  have HS := hide (prime_same hn h2 hp)
  obtain ⟨c0, d0, hcn⟩ := turn_first (x := x) (y := y) (by omega)
  have HL2 := hide (zlen_turn LL.out.1 LL.out.2 (kq x y))
  generalize ec : (turn (kq x y) (x, y)).1 = c at *
  generalize ed : (turn (kq x y) (x, y)).2 = d at *
  have EC := hide ec
  have ED := hide ed
  clear ec ed
  obtain ⟨q, rfl⟩ : ∃ q : Nat, c = (q : Int) := ⟨c.toNat, by omega⟩
  have hq1 : q < 65536 := by
    have h1 := norm_small (x := (q : Int)) (y := d) (by omega)
    have h2 := bits_16.1 h1.1
    omega
  have HD := hide (show (p = N ∨ (p % 4 = 3 ∧ p * p = N)) ↔ (d = 0 ∧ q % 4 = 3 ∧ IsLf q q) from by
    have h := HS.out
    simp only [Int.toNat_natCast] at h
    exact ⟨fun hc => h.1 (hc.resolve_left hpn), fun hc => .inr (h.2 hc)⟩)
  clear hcn hn hp HS hpn
  by_cases hd : d = 0
  · have HSG := hide (show d.sign = 0 by rw [hd]; rfl)
    have hm : Int.tmod (q : Int) 4 = ((q % 4 : Nat) : Int) := by rw [show ((4 : Int)) = ((4 : Nat) : Int) from rfl, Int.ofNat_tmod]
    by_cases h4 : q % 4 = 3
    · obtain ⟨r, hr⟩ := lf_ex (n := q) (by omega)
      have hrq := hr.le (by omega)
      have HR := hide (fun w => rleastP (w := w) hr (by omega) (by omega))
      have heq := int_beq r q
      rw [show decide (p = N ∨ (p % 4 = 3 ∧ p * p = N)) = decide (r = q) from decide_eq_decide.2 (HD.out.trans ⟨fun h => hr.uniq h.2.2, fun h => ⟨hd, h4, by have := hr; rw [h] at this; exact this⟩⟩)]
      clear hr HD
      generalize q % 4 = q4 at *
      subst h4
      clear hd
      obtain ⟨n_0a, o_0a, k_0a, c_0a, n_0b, o_0b, k_0b, c_0b, rfl, ha1, ha2⟩ := ha
      go_enter Try.func19, Try.ntmps19
      have hs := St.nil w
      refine wp_seq_k ?_
      intro K1 hK1
      refine rg [0, 1] ?_
      refine sq ?_
      refine .al hs ?_; clear hs; intro p_b1 w_1 hs n1 kb_b1
      refine sq ?_
      refine .mv ?_
      apply wpSq_end
      refine hK1 _ _ ?_
      refine wp_seq_k ?_
      intro K2 hK2
      refine wp_seq_k ?_
      intro K3 hK3
      refine rg [0, 1] ?_
      refine sq ?_
      refine .mv ?_
      refine sq ?_
      refine .r0 ?_
      apply wpSq_end
      refine hK3 _ _ ?_
      refine cf ?_
      refine wp_skip ?_
      refine hK2 _ _ ?_
      refine wp_seq_k ?_
      intro K4 hK4
      refine wp_seq_k ?_
      intro K5 hK5
      refine rg [0, 1, 2, 3] ?_
      refine sq ?_
      refine .mv ?_
      refine sq ?_
      intro K hK
      go_big_op
      go_fit (HL.out _)
      rintro e w_2 ⟨rfl, e_2⟩
      (first | rw [e_2] | rw [← e_2]); clear e_2 w_2
      refine hK _ _ rfl trivial ?_
      clear hK K
      refine sq ?_
      refine .mv ?_
      refine sq ?_
      refine .r0 ?_
      apply wpSq_end
      refine hK5 _ _ ?_
      refine cf ?_
      refine wp_skip ?_
      refine hK4 _ _ ?_
      refine wp_seq_k ?_
      intro K6 hK6
      refine rg [0, 1, 2, 3, 4, 5, 6, 7] ?_
      refine sq ?_
      refine .r4 hs.g0.f4 ?_
      refine sq ?_
      intro K hK
      have k0_1 := kb n1
      replace ha1 := ha1.k k0_1
      replace ha2 := ha2.k k0_1
      go_big_op
      go_fit (rgCanon_any (PN.mk' ha1 ha2) (by omega) (by omega))
      rintro e w_3 ⟨_, rfl, ⟨n_ca, o_ca, k_ca, c_ca, n_cb, o_cb, k_cb, c_cb, rfl, c1, c2⟩, hb_3⟩
      replace hs := hs.bl hb_3
      rw [EC.out] at c1
      rw [ED.out] at c2
      refine hK _ _ rfl trivial ?_
      clear hK K
      refine sq ?_
      refine .mv ?_
      refine sq ?_
      refine .r0 ?_
      refine sq ?_
      refine .r0 ?_
      refine sq ?_
      refine .al hs ?_; clear hs; intro p_b2 w_4 hs n4 kb_b2
      refine sq ?_
      refine .s4 hs.g0 (fun _ => hs.u0 kb_b2) ?_; clear hs; intro w_5 hs hd5 ho5
      refine sq ?_
      refine .mv ?_
      apply wpSq_end
      refine hK6 _ _ ?_
      refine wp_seq_k ?_
      intro K7 hK7
      refine wp_seq_k ?_
      intro K8 hK8
      refine rg [0, 1, 2, 3] ?_
      refine sq ?_
      refine .r0 ?_
      refine sq ?_
      refine .r4 hs.g0.f4 ?_
      have Lc1 := hide (c1.lenOf (HL2.out.1))
      have Lc2 := hide (c2.lenOf (HL2.out.2))
      refine sq ?_
      intro K hK
      have k2_4 := (kb n4).o hd5 ho5
      replace c2 := c2.k k2_4
      go_big_op
      go_fit (rzsign_any (c2.zn Lc2.out) (by omega) )
      rintro e w_6 ⟨rfl, hb_6⟩
      replace hs := hs.bl hb_6
      rw [HSG.out]
      refine hK _ _ rfl trivial ?_
      clear hK K
      refine sq ?_
      refine .r0 ?_
      apply wpSq_end
      refine hK8 _ _ ?_
      refine cf ?_
      refine wp_skip ?_
      refine hK7 _ _ ?_
      refine wp_seq_k ?_
      intro K9 hK9
      refine rg [0, 1, 2, 3, 4, 5, 6, 7] ?_
      refine sq ?_
      refine .r0 ?_
      refine sq ?_
      refine .r4 hs.g0.f4 ?_
      refine sq ?_
      intro K hK
      have k2_5 := k2_4.b hb_6
      replace c1 := c1.k k2_5
      go_big_op
      go_fit (rsmall_any (c1.zn Lc1.out) (by omega) (by omega))
      rintro e w_7 ⟨rfl, hb_7⟩
      replace hs := hs.bl hb_7
      refine hK _ _ rfl trivial ?_
      clear hK K
      refine sq ?_
      refine .mv ?_
      refine sq ?_
      refine .r0 ?_
      refine sq ?_
      refine .r0 ?_
      refine sq ?_
      refine .mv ?_
      refine sq ?_
      refine .mv ?_
      apply wpSq_end
      refine hK9 _ _ ?_
      refine wp_seq_k ?_
      intro K10 hK10
      refine rg [0, 1, 2, 3, 4, 5, 6, 7, 8, 9] ?_
      refine sq ?_
      refine .mv ?_
      refine sq ?_
      refine .r0 ?_
      refine sq ?_
      refine .r0 ?_
      refine sq ?_
      refine .mv ?_
      refine sq ?_
      refine .mv ?_
      refine sq ?_
      intro K hK
      go_big_op
      go_fit (HR.out _)
      rintro e w_8 ⟨rfl, e_8⟩
      (first | rw [e_8] | rw [← e_8]); clear e_8 w_8
      refine hK _ _ rfl trivial ?_
      clear hK K
      refine sq ?_
      refine .mv ?_
      refine sq ?_
      refine .r0 ?_
      refine sq ?_
      refine .r0 ?_
      refine sq ?_
      refine .mv ?_
      apply wpSq_end
      refine hK10 _ _ ?_
      refine wp_ret ?_
      try dsimp only [Exit.then, Exit.inBlock]
      refine bodyPost_ret (v := (.bool (decide (r = q)))) (by simp [results, Try.results19, go_sem]) rfl ?_
      exact ⟨rfl, hs.b⟩
    · rw [decide_eq_false (fun hc => h4 (HD.out.1 hc).2.1)]
      clear HD
      have h4b : (((q % 4 : Nat) : Int) == 3) = false := by simp; omega
      generalize q % 4 = q4 at *
      clear hd h4
      obtain ⟨n_0a, o_0a, k_0a, c_0a, n_0b, o_0b, k_0b, c_0b, rfl, ha1, ha2⟩ := ha
      go_enter Try.func19, Try.ntmps19
      have hs := St.nil w
      refine wp_seq_k ?_
      intro K1 hK1
      refine rg [0, 1] ?_
      refine sq ?_
      refine .al hs ?_; clear hs; intro p_b1 w_1 hs n1 kb_b1
      refine sq ?_
      refine .mv ?_
      apply wpSq_end
      refine hK1 _ _ ?_
      refine wp_seq_k ?_
      intro K2 hK2
      refine wp_seq_k ?_
      intro K3 hK3
      refine rg [0, 1] ?_
      refine sq ?_
      refine .mv ?_
      refine sq ?_
      refine .r0 ?_
      apply wpSq_end
      refine hK3 _ _ ?_
      refine cf ?_
      refine wp_skip ?_
      refine hK2 _ _ ?_
      refine wp_seq_k ?_
      intro K4 hK4
      refine wp_seq_k ?_
      intro K5 hK5
      refine rg [0, 1, 2, 3] ?_
      refine sq ?_
      refine .mv ?_
      refine sq ?_
      intro K hK
      go_big_op
      go_fit (HL.out _)
      rintro e w_2 ⟨rfl, e_2⟩
      (first | rw [e_2] | rw [← e_2]); clear e_2 w_2
      refine hK _ _ rfl trivial ?_
      clear hK K
      refine sq ?_
      refine .mv ?_
      refine sq ?_
      refine .r0 ?_
      apply wpSq_end
      refine hK5 _ _ ?_
      refine cf ?_
      refine wp_skip ?_
      refine hK4 _ _ ?_
      refine wp_seq_k ?_
      intro K6 hK6
      refine rg [0, 1, 2, 3, 4, 5, 6, 7] ?_
      refine sq ?_
      refine .r4 hs.g0.f4 ?_
      refine sq ?_
      intro K hK
      have k0_1 := kb n1
      replace ha1 := ha1.k k0_1
      replace ha2 := ha2.k k0_1
      go_big_op
      go_fit (rgCanon_any (PN.mk' ha1 ha2) (by omega) (by omega))
      rintro e w_3 ⟨_, rfl, ⟨n_ca, o_ca, k_ca, c_ca, n_cb, o_cb, k_cb, c_cb, rfl, c1, c2⟩, hb_3⟩
      replace hs := hs.bl hb_3
      rw [EC.out] at c1
      rw [ED.out] at c2
      refine hK _ _ rfl trivial ?_
      clear hK K
      refine sq ?_
      refine .mv ?_
      refine sq ?_
      refine .r0 ?_
      refine sq ?_
      refine .r0 ?_
      refine sq ?_
      refine .al hs ?_; clear hs; intro p_b2 w_4 hs n4 kb_b2
      refine sq ?_
      refine .s4 hs.g0 (fun _ => hs.u0 kb_b2) ?_; clear hs; intro w_5 hs hd5 ho5
      refine sq ?_
      refine .mv ?_
      apply wpSq_end
      refine hK6 _ _ ?_
      refine wp_seq_k ?_
      intro K7 hK7
      refine wp_seq_k ?_
      intro K8 hK8
      refine rg [0, 1, 2, 3] ?_
      refine sq ?_
      refine .r0 ?_
      refine sq ?_
      refine .r4 hs.g0.f4 ?_
      have Lc1 := hide (c1.lenOf (HL2.out.1))
      have Lc2 := hide (c2.lenOf (HL2.out.2))
      refine sq ?_
      intro K hK
      have k2_4 := (kb n4).o hd5 ho5
      replace c2 := c2.k k2_4
      go_big_op
      go_fit (rzsign_any (c2.zn Lc2.out) (by omega) )
      rintro e w_6 ⟨rfl, hb_6⟩
      replace hs := hs.bl hb_6
      rw [HSG.out]
      refine hK _ _ rfl trivial ?_
      clear hK K
      refine sq ?_
      refine .r0 ?_
      apply wpSq_end
      refine hK8 _ _ ?_
      refine cf ?_
      refine wp_skip ?_
      refine hK7 _ _ ?_
      refine wp_seq_k ?_
      intro K9 hK9
      refine rg [0, 1, 2, 3, 4, 5, 6, 7] ?_
      refine sq ?_
      refine .r0 ?_
      refine sq ?_
      refine .r4 hs.g0.f4 ?_
      refine sq ?_
      intro K hK
      have k2_5 := k2_4.b hb_6
      replace c1 := c1.k k2_5
      go_big_op
      go_fit (rsmall_any (c1.zn Lc1.out) (by omega) (by omega))
      rintro e w_7 ⟨rfl, hb_7⟩
      replace hs := hs.bl hb_7
      refine hK _ _ rfl trivial ?_
      clear hK K
      refine sq ?_
      refine .mv ?_
      refine sq ?_
      refine .r0 ?_
      refine sq ?_
      refine .r0 ?_
      refine sq ?_
      refine .mv ?_
      refine sq ?_
      refine .mv ?_
      apply wpSq_end
      refine hK9 _ _ ?_
      refine wp_seq_k ?_
      intro K10 hK10
      refine rg [0, 1, 2, 3, 4, 5, 6, 7, 8, 9] ?_
      refine sq ?_
      refine .mv ?_
      refine sq ?_
      refine .r0 ?_
      refine sq ?_
      refine .r0 ?_
      refine sq ?_
      refine .mv ?_
      refine sk ?_
      refine sk ?_
      refine sk ?_
      refine sk ?_
      refine sq ?_
      refine .r0 ?_
      refine sq ?_
      refine .mv ?_
      apply wpSq_end
      refine hK10 _ _ ?_
      refine wp_ret ?_
      try dsimp only [Exit.then, Exit.inBlock]
      refine bodyPost_ret (v := (.bool false)) (by simp [results, Try.results19, go_sem]) rfl ?_
      exact ⟨rfl, hs.b⟩
  · rw [decide_eq_false (fun hc => hd (HD.out.1 hc).1)]
    have HSG := hide (show d.sign = 1 from Int.sign_eq_one_of_pos (by omega))
    clear HD hd
    obtain ⟨n_0a, o_0a, k_0a, c_0a, n_0b, o_0b, k_0b, c_0b, rfl, ha1, ha2⟩ := ha
    go_enter Try.func19, Try.ntmps19
    have hs := St.nil w
    refine wp_seq_k ?_
    intro K1 hK1
    refine rg [0, 1] ?_
    refine sq ?_
    refine .al hs ?_; clear hs; intro p_b1 w_1 hs n1 kb_b1
    refine sq ?_
    refine .mv ?_
    apply wpSq_end
    refine hK1 _ _ ?_
    refine wp_seq_k ?_
    intro K2 hK2
    refine wp_seq_k ?_
    intro K3 hK3
    refine rg [0, 1] ?_
    refine sq ?_
    refine .mv ?_
    refine sq ?_
    refine .r0 ?_
    apply wpSq_end
    refine hK3 _ _ ?_
    refine cf ?_
    refine wp_skip ?_
    refine hK2 _ _ ?_
    refine wp_seq_k ?_
    intro K4 hK4
    refine wp_seq_k ?_
    intro K5 hK5
    refine rg [0, 1, 2, 3] ?_
    refine sq ?_
    refine .mv ?_
    refine sq ?_
    intro K hK
    go_big_op
    go_fit (HL.out _)
    rintro e w_2 ⟨rfl, e_2⟩
    (first | rw [e_2] | rw [← e_2]); clear e_2 w_2
    refine hK _ _ rfl trivial ?_
    clear hK K
    refine sq ?_
    refine .mv ?_
    refine sq ?_
    refine .r0 ?_
    apply wpSq_end
    refine hK5 _ _ ?_
    refine cf ?_
    refine wp_skip ?_
    refine hK4 _ _ ?_
    refine wp_seq_k ?_
    intro K6 hK6
    refine rg [0, 1, 2, 3, 4, 5, 6, 7] ?_
    refine sq ?_
    refine .r4 hs.g0.f4 ?_
    refine sq ?_
    intro K hK
    have k0_1 := kb n1
    replace ha1 := ha1.k k0_1
    replace ha2 := ha2.k k0_1
    go_big_op
    go_fit (rgCanon_any (PN.mk' ha1 ha2) (by omega) (by omega))
    rintro e w_3 ⟨_, rfl, ⟨n_ca, o_ca, k_ca, c_ca, n_cb, o_cb, k_cb, c_cb, rfl, c1, c2⟩, hb_3⟩
    replace hs := hs.bl hb_3
    rw [EC.out] at c1
    rw [ED.out] at c2
    refine hK _ _ rfl trivial ?_
    clear hK K
    refine sq ?_
    refine .mv ?_
    refine sq ?_
    refine .r0 ?_
    refine sq ?_
    refine .r0 ?_
    refine sq ?_
    refine .al hs ?_; clear hs; intro p_b2 w_4 hs n4 kb_b2
    refine sq ?_
    refine .s4 hs.g0 (fun _ => hs.u0 kb_b2) ?_; clear hs; intro w_5 hs hd5 ho5
    refine sq ?_
    refine .mv ?_
    apply wpSq_end
    refine hK6 _ _ ?_
    refine wp_seq_k ?_
    intro K7 hK7
    refine wp_seq_k ?_
    intro K8 hK8
    refine rg [0, 1, 2, 3] ?_
    refine sq ?_
    refine .r0 ?_
    refine sq ?_
    refine .r4 hs.g0.f4 ?_
    have Lc1 := hide (c1.lenOf (HL2.out.1))
    have Lc2 := hide (c2.lenOf (HL2.out.2))
    refine sq ?_
    intro K hK
    have k2_4 := (kb n4).o hd5 ho5
    replace c2 := c2.k k2_4
    go_big_op
    go_fit (rzsign_any (c2.zn Lc2.out) (by omega) )
    rintro e w_6 ⟨rfl, hb_6⟩
    replace hs := hs.bl hb_6
    rw [HSG.out]
    refine hK _ _ rfl trivial ?_
    clear hK K
    refine sq ?_
    refine .r0 ?_
    apply wpSq_end
    refine hK8 _ _ ?_
    refine ct ?_
    refine wp_seq_k ?_
    intro K9 hK9
    refine rg [0] ?_
    refine sq ?_
    refine .mv ?_
    apply wpSq_end
    refine hK9 _ _ ?_
    refine wp_ret ?_
    try dsimp only [Exit.then, Exit.inBlock]
    refine bodyPost_ret (v := (.bool false)) (by simp [results, Try.results19, go_sem]) rfl ?_
    exact ⟨rfl, hs.b⟩
end
end Go.Proofs.Ytbiiglcfdphmaaa


/- The law's g, is, awake (gprime). -/
namespace Go.Proofs.Ytbiiglcfdphmaaa
open Go Go.RowKit Dig
set_option linter.unusedVariables false

theorem lf9 : IsLf 9 3 := lf_div (by decide) (by decide) (fun e h1 h2 hc => by obtain rfl : e = 2 := (by omega); revert hc; decide)
theorem lf25 : IsLf 25 5 := lf_div (by decide) (by decide) (fun e h1 h2 hc => by
  have : e = 2 ∨ e = 3 ∨ e = 4 := by omega
  rcases this with rfl | rfl | rfl <;> revert hc <;> decide)
theorem prime9 : primeB 9 = true := by rw [primeB_eq lf9 (by decide)]; decide
theorem prime25 : primeB 25 = false := by rw [primeB_eq lf25 (by decide)]; decide
theorem zlen_small6 {z : Int} (h : z.natAbs < 4294967296) : (dig z.natAbs).length ≤ 1 := dig_length_le (by rw [show pw 1 = 4294967296 from rfl]; exact h)
set_option maxHeartbeats 4000000 in
set_option maxRecDepth 20000 in
theorem g6_any (a b : Int) (w : World) (h1 : -9223372036854775808 ≤ a) (h2 : a ≤ 9223372036854775807) (h3 : -9223372036854775808 ≤ b) (h4 : b ≤ 9223372036854775807) :
    Calls Try.prog 10 #[.int .i64 a, .int .i64 b] w fun e w' => ∃ r, e = .returned r ∧ PC w' r a b ∧ Below w.heap.size w w' := by
  go_enter Try.func10, Try.ntmps10
  have hs := St.nil w
  refine wp_seq_k ?_
  intro K1 hK1
  refine rg [0] ?_
  refine sq ?_
  refine .al hs ?_; clear hs; intro p_b1 w_1 hs n1 kb_b1
  apply wpSq_end
  refine hK1 _ _ ?_
  refine wp_seq_k ?_
  intro K2 hK2
  refine rg [0, 1, 2, 3] ?_
  refine sq ?_
  refine .mv ?_
  refine sq ?_
  refine .mv ?_
  refine sq ?_
  intro K hK
  go_big_op
  go_fit (rgI_any a b _ h1 h2 h3 h4)
  rintro e w_2 ⟨_, rfl, ⟨n_ra, o_ra, k_ra, c_ra, n_rb, o_rb, k_rb, c_rb, rfl, r1, r2⟩, hb_2⟩
  replace hs := hs.bl hb_2
  refine hK _ _ rfl trivial ?_
  clear hK K
  refine sq ?_
  refine .s4 hs.g0 (fun _ => hs.u0 kb_b1) ?_; clear hs; intro w_3 hs hd3 ho3
  apply wpSq_end
  refine hK2 _ _ ?_
  refine wp_ret ?_
  try dsimp only [Exit.then, Exit.inBlock]
  obtain ⟨r0_0, r0_1, r0_2, r0_3⟩ := hs.g0.f4
  refine bodyPost_ret (v := (.agg #[.bool n_ra, .slice o_ra k_ra c_ra, .bool n_rb, .slice o_rb k_rb c_rb])) (by simp [results, Try.results10, go_sem, r0_0, r0_1, r0_2, r0_3]) rfl ?_
  have k2_3 := ko hd3 ho3
  replace r1 := r1.k k2_3
  replace r2 := r2.k k2_3
  exact ⟨_, rfl, .mk' r1 r2, hs.b⟩
set_option maxHeartbeats 4000000 in
set_option maxRecDepth 20000 in
theorem awake6_any (w : World) :
    Calls Try.prog 11 #[] w fun e w' => e = .returned (.bool true) ∧ Below w.heap.size w w' := by
  have E1 := hide prime9
  have E2 := hide prime25
  go_enter Try.func11, Try.ntmps11
  have hs := St.nil w
  refine wp_seq_k ?_
  intro K1 hK1
  refine rg [0] ?_
  refine sq ?_
  refine .mv ?_
  apply wpSq_end
  refine hK1 _ _ ?_
  refine wp_seq_k ?_
  intro K2 hK2
  refine rg [0, 1, 2, 3, 4, 5, 6] ?_
  refine sq ?_
  intro K hK
  go_big_op
  go_fit (g6_any 3 0 _ (by decide) (by decide) (by decide) (by decide))
  rintro e w_1 ⟨_, rfl, ⟨n_aa, o_aa, k_aa, c_aa, n_ab, o_ab, k_ab, c_ab, rfl, a1, a2⟩, hb_1⟩
  replace hs := hs.bl hb_1
  have La1 := hide (a1.lenOf (zlen_small6 (z := 3) (by decide)))
  have La2 := hide (a2.lenOf (zlen_small6 (z := 0) (by decide)))
  refine hK _ _ rfl trivial ?_
  clear hK K
  refine sq ?_
  intro K hK
  go_big_op
  go_fit (gprime_any 9 (.mk' (a1.zn La1.out) (a2.zn La2.out)) (by omega) (by omega) (by decide) (by decide))
  rintro e w_2 ⟨rfl, hb_2⟩
  replace hs := hs.bl hb_2
  rw [E1.out]
  refine hK _ _ rfl trivial ?_
  clear hK K
  refine sq ?_
  refine .mv ?_
  refine sq ?_
  refine .r0 ?_
  refine sq ?_
  refine .r0 ?_
  refine sq ?_
  refine .mv ?_
  refine sq ?_
  refine .mv ?_
  apply wpSq_end
  refine hK2 _ _ ?_
  refine wp_seq_k ?_
  intro K3 hK3
  refine rg [0, 1, 2, 3, 4, 5, 6] ?_
  refine sq ?_
  intro K hK
  go_big_op
  go_fit (g6_any 5 0 _ (by decide) (by decide) (by decide) (by decide))
  rintro e w_3 ⟨_, rfl, ⟨n_ba, o_ba, k_ba, c_ba, n_bb, o_bb, k_bb, c_bb, rfl, b1, b2⟩, hb_3⟩
  replace hs := hs.bl hb_3
  have Lb1 := hide (b1.lenOf (zlen_small6 (z := 5) (by decide)))
  have Lb2 := hide (b2.lenOf (zlen_small6 (z := 0) (by decide)))
  refine hK _ _ rfl trivial ?_
  clear hK K
  refine sq ?_
  intro K hK
  go_big_op
  go_fit (gprime_any 25 (.mk' (b1.zn Lb1.out) (b2.zn Lb2.out)) (by omega) (by omega) (by decide) (by decide))
  rintro e w_4 ⟨rfl, hb_4⟩
  replace hs := hs.bl hb_4
  rw [E2.out]
  refine hK _ _ rfl trivial ?_
  clear hK K
  refine sq ?_
  refine .mv ?_
  refine sq ?_
  refine .r0 ?_
  refine sq ?_
  refine .r0 ?_
  refine sq ?_
  refine .mv ?_
  refine sq ?_
  refine .mv ?_
  apply wpSq_end
  refine hK3 _ _ ?_
  refine wp_seq_k ?_
  intro K4 hK4
  refine rg [0, 1, 2, 3, 4, 5, 6, 7, 8, 9, 10, 11, 12, 13] ?_
  refine sq ?_
  refine .mv ?_
  refine sq ?_
  refine .mv ?_
  refine sq ?_
  refine .mv ?_
  refine sq ?_
  refine .r0 ?_
  refine sq ?_
  refine .r0 ?_
  refine sq ?_
  refine .mv ?_
  refine sq ?_
  refine .mv ?_
  refine sq ?_
  refine .r0 ?_
  refine sq ?_
  refine .r0 ?_
  refine sq ?_
  refine .mv ?_
  refine sq ?_
  refine .mv ?_
  refine sq ?_
  refine .r0 ?_
  refine sq ?_
  refine .r0 ?_
  refine sq ?_
  refine .mv ?_
  apply wpSq_end
  refine hK4 _ _ ?_
  refine wp_ret ?_
  try dsimp only [Exit.then, Exit.inBlock]
  refine bodyPost_ret (v := (.bool true)) (by simp [results, Try.results11, go_sem]) rfl ?_
  exact ⟨rfl, hs.b⟩
end Go.Proofs.Ytbiiglcfdphmaaa

