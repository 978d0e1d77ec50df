/- Texts with a sign: CutPrefix, the references Is and Parse. -/
import Derived.Test.YtbiiglcfdphmaaaG3ToR10
import Derived.Test.YtbiiglcfdphmaaaR11
import Derived.Test.YtbiiglcfdphmaaaR12

namespace Go.Proofs.Ytbiiglcfdphmaaa
open Go.RowKit Dig

end Go.Proofs.Ytbiiglcfdphmaaa


/- zint.Parse, Text; the reference's Text. -/
namespace Go.Proofs.Ytbiiglcfdphmaaa
open Go.RowKit Dig

end Go.Proofs.Ytbiiglcfdphmaaa


/- Texts with a sign, in one piece: what is a number, and which. -/
namespace Go.Proofs.Ytbiiglcfdphmaaa
open Go Go.RowKit Dig
set_option linter.unusedVariables false

end Go.Proofs.Ytbiiglcfdphmaaa


/- gint: Text; the law's awake. -/
namespace Go.Proofs.Ytbiiglcfdphmaaa
open Go Go.RowKit Dig
set_option linter.unusedVariables false

section
variable {w : World} {va vb : Value} {x y u v : Int} {l m k n : Nat}
end
end Go.Proofs.Ytbiiglcfdphmaaa


/- The reference's Round, Zero; what quotients and rests are. -/
namespace Go.Proofs.Ytbiiglcfdphmaaa
open Go Go.RowKit Dig
set_option linter.unusedVariables false

section
variable {w : World} {va vb : Value} {x y u v : Int} {l m k n : Nat}
end
end Go.Proofs.Ytbiiglcfdphmaaa


/- gint: Cmp, IsUnit, Canon; the reference's. -/
namespace Go.Proofs.Ytbiiglcfdphmaaa
open Go Go.RowKit Dig
set_option linter.unusedVariables false

def or3 (a b c : Int) : Int := if a ≠ 0 then a else if b ≠ 0 then b else c
/-- How two numbers compare. -/
def gcmp (x y u v : Int) : Int := or3 (zcmp (gN x y) (gN u v)) (zcmp x u) (zcmp y v)
section
variable {w : World} {va vb : Value} {x y u v : Int} {l m k n : Nat}
set_option maxHeartbeats 4000000 in
set_option maxRecDepth 20000 in
theorem rgCmp_a {A B C : Int} (ha : PN w va x l y m) (hq : PN w vb u k v n) (hl : l ≤ 40000000) (hm : m ≤ 40000000) (hk : k ≤ 40000000) (hn : n ≤ 40000000) (hA : zcmp (gN x y) (gN u v) = A) (hB : zcmp x u = B) (hC : zcmp y v = C) (h1 : A ≠ 0) :
    Calls Try.prog 81 #[va, vb] w fun e w' => e = .returned (.int .i64 A) ∧ Below w.heap.size w w' := by
  have HA := hide hA
  have HB := hide hB
  have HC := hide hC
  clear hA hB hC
  obtain ⟨n_0a, o_0a, k_0a, c_0a, n_0b, o_0b, k_0b, c_0b, rfl, ha1, ha2⟩ := ha
  obtain ⟨n_1a, o_1a, k_1a, c_1a, n_1b, o_1b, k_1b, c_1b, rfl, hq1, hq2⟩ := hq
  go_enter Try.func81, Try.ntmps81
  have hs := St.nil w
  refine wp_seq_k ?_
  intro K1 hK1
  refine rg [0, 1, 2] ?_
  refine sq ?_
  refine .al hs ?_; clear hs; intro p_b1 w_1 hs n1 kb_b1
  refine sq ?_
  refine .al hs ?_; clear hs; intro p_b2 w_2 hs n2 kb_b2
  refine sq ?_
  refine .mv ?_
  apply wpSq_end
  refine hK1 _ _ ?_
  refine wp_seq_k ?_
  intro K2 hK2
  refine wp_region_f4 [(0, false), (2, false), (1, true), (3, true), (4, true), (5, false)] [] [] (fun _ => default) [0, 99, 1, 99, 99, 99] [] (.c hs.g1 (.c hs.g0 .n)) fn fun w_3 n3 => ?_
  replace hs := hs.bl n3
  refine f4 ?_
  refine f4 ?_
  refine fl fun w_4 n4 => ?_
  replace hs := hs.bl n4
  intro K hK
  have k0_4 := (((kb n1).b n2).b n3).b n4
  replace ha1 := ha1.k k0_4
  replace ha2 := ha2.k k0_4
  go_big_op
  go_fit (rgNorm_any (PN.mk' ha1 ha2) (by omega) (by omega) )
  rintro e w_5 ⟨v_g, rfl, g, hb_5⟩
  replace hs := hs.bl hb_5
  obtain ⟨n_g, o_g, k_g, c_g, rfl⟩ := g.open2
  have Lg := hide (g.lenOf (zlen_add (zlen_mul (ha1.len) (ha1.len)) (zlen_mul (ha2.len) (ha2.len))))
  refine hK _ _ rfl ⟨hb_5, (And.intro hs.g1 (And.intro hs.g0 trivial))⟩ ?_
  clear hK K
  refine fl fun w_6 n6 => ?_
  replace hs := hs.bl n6
  intro K hK
  have k0_6 := (k0_4.b hb_5).b n6
  replace hq1 := hq1.k k0_6
  replace hq2 := hq2.k k0_6
  go_big_op
  go_fit (rgNorm_any (PN.mk' hq1 hq2) (by omega) (by omega) )
  rintro e w_7 ⟨v_h, rfl, h, hb_7⟩
  replace hs := hs.bl hb_7
  obtain ⟨n_h, o_h, k_h, c_h, rfl⟩ := h.open2
  have Lh := hide (h.lenOf (zlen_add (zlen_mul (hq1.len) (hq1.len)) (zlen_mul (hq2.len) (hq2.len))))
  refine hK _ _ rfl ⟨hb_7, (And.intro hs.g1 (And.intro hs.g0 trivial))⟩ ?_
  clear hK K
  refine fl fun w_8 n8 => ?_
  replace hs := hs.bl n8
  intro K hK
  have k5_8 := ((kb n6).b hb_7).b n8
  replace g := g.k k5_8
  have k7_8 := kb n8
  replace h := h.k k7_8
  go_big_op
  go_fit (rzcmp_any (g.zn Lg.out) (h.zn Lh.out) (by omega) (by omega))
  rintro e w_9 ⟨rfl, hb_9⟩
  replace hs := hs.bl hb_9
  rw [HA.out]
  refine hK _ _ rfl ⟨hb_9, (And.intro hs.g1 (And.intro hs.g0 trivial))⟩ ?_
  clear hK K
  refine fmv ?_
  refine e0 hs ?_; clear hs; intro w_10 hs n10
  apply wpTail_end
  refine hK2 _ _ ?_
  refine wp_seq_k ?_
  intro K3 hK3
  refine wp_seq_k ?_
  intro K4 hK4
  refine rg [0, 1] ?_
  refine sq ?_
  refine .mv ?_
  refine sq ?_
  refine .r0 ?_
  apply wpSq_end
  refine hK4 _ _ ?_
  refine wp_cond_false (congrArg Value.bool (show _ = false from (by simpa using h1))) ?_
  refine wp_skip ?_
  refine hK3 _ _ ?_
  refine wp_seq_k ?_
  intro K5 hK5
  refine wp_seq_k ?_
  intro K6 hK6
  refine rg [0, 1] ?_
  refine sq ?_
  refine .mv ?_
  refine sq ?_
  refine .r0 ?_
  apply wpSq_end
  refine hK6 _ _ ?_
  refine wp_cond_false (congrArg Value.bool (show _ = false from (by simpa using h1))) ?_
  refine wp_skip ?_
  refine hK5 _ _ ?_
  refine wp_seq_k ?_
  intro K7 hK7
  refine rg [0, 1] ?_
  refine sq ?_
  refine .mv ?_
  refine sq ?_
  refine .mv ?_
  apply wpSq_end
  refine hK7 _ _ ?_
  refine wp_ret ?_
  try dsimp only [Exit.then, Exit.inBlock]
  refine bodyPost_ret (v := (.int .i64 A)) (by simp [results, Try.results81, go_sem]) rfl ?_
  have hb := hs.b
  exact ⟨rfl, hb⟩
set_option maxHeartbeats 4000000 in
set_option maxRecDepth 20000 in
theorem rgCmp_b {A B C : Int} (ha : PN w va x l y m) (hq : PN w vb u k v n) (hl : l ≤ 40000000) (hm : m ≤ 40000000) (hk : k ≤ 40000000) (hn : n ≤ 40000000) (hA : zcmp (gN x y) (gN u v) = A) (hB : zcmp x u = B) (hC : zcmp y v = C) (h1 : A = 0) (h2 : B ≠ 0) :
    Calls Try.prog 81 #[va, vb] w fun e w' => e = .returned (.int .i64 B) ∧ Below w.heap.size w w' := by
  have HA := hide hA
  have HB := hide hB
  have HC := hide hC
  clear hA hB hC
  subst h1
  obtain ⟨n_0a, o_0a, k_0a, c_0a, n_0b, o_0b, k_0b, c_0b, rfl, ha1, ha2⟩ := ha
  obtain ⟨n_1a, o_1a, k_1a, c_1a, n_1b, o_1b, k_1b, c_1b, rfl, hq1, hq2⟩ := hq
  go_enter Try.func81, Try.ntmps81
  have hs := St.nil w
  refine wp_seq_k ?_
  intro K1 hK1
  refine rg [0, 1, 2] ?_
  refine sq ?_
  refine .al hs ?_; clear hs; intro p_b1 w_1 hs n1 kb_b1
  refine sq ?_
  refine .al hs ?_; clear hs; intro p_b2 w_2 hs n2 kb_b2
  refine sq ?_
  refine .mv ?_
  apply wpSq_end
  refine hK1 _ _ ?_
  refine wp_seq_k ?_
  intro K2 hK2
  refine wp_region_f4 [(0, false), (2, false), (1, true), (3, true), (4, true), (5, false)] [] [] (fun _ => default) [0, 99, 1, 99, 99, 99] [] (.c hs.g1 (.c hs.g0 .n)) fn fun w_3 n3 => ?_
  replace hs := hs.bl n3
  refine f4 ?_
  refine f4 ?_
  refine fl fun w_4 n4 => ?_
  replace hs := hs.bl n4
  intro K hK
  have k0_4 := (((kb n1).b n2).b n3).b n4
  replace ha1 := ha1.k k0_4
  replace ha2 := ha2.k k0_4
  go_big_op
  go_fit (rgNorm_any (PN.mk' ha1 ha2) (by omega) (by omega) )
  rintro e w_5 ⟨v_g, rfl, g, hb_5⟩
  replace hs := hs.bl hb_5
  obtain ⟨n_g, o_g, k_g, c_g, rfl⟩ := g.open2
  have Lg := hide (g.lenOf (zlen_add (zlen_mul (ha1.len) (ha1.len)) (zlen_mul (ha2.len) (ha2.len))))
  refine hK _ _ rfl ⟨hb_5, (And.intro hs.g1 (And.intro hs.g0 trivial))⟩ ?_
  clear hK K
  refine fl fun w_6 n6 => ?_
  replace hs := hs.bl n6
  intro K hK
  have k0_6 := (k0_4.b hb_5).b n6
  replace hq1 := hq1.k k0_6
  replace hq2 := hq2.k k0_6
  go_big_op
  go_fit (rgNorm_any (PN.mk' hq1 hq2) (by omega) (by omega) )
  rintro e w_7 ⟨v_h, rfl, h, hb_7⟩
  replace hs := hs.bl hb_7
  obtain ⟨n_h, o_h, k_h, c_h, rfl⟩ := h.open2
  have Lh := hide (h.lenOf (zlen_add (zlen_mul (hq1.len) (hq1.len)) (zlen_mul (hq2.len) (hq2.len))))
  refine hK _ _ rfl ⟨hb_7, (And.intro hs.g1 (And.intro hs.g0 trivial))⟩ ?_
  clear hK K
  refine fl fun w_8 n8 => ?_
  replace hs := hs.bl n8
  intro K hK
  have k5_8 := ((kb n6).b hb_7).b n8
  replace g := g.k k5_8
  have k7_8 := kb n8
  replace h := h.k k7_8
  go_big_op
  go_fit (rzcmp_any (g.zn Lg.out) (h.zn Lh.out) (by omega) (by omega))
  rintro e w_9 ⟨rfl, hb_9⟩
  replace hs := hs.bl hb_9
  rw [HA.out]
  refine hK _ _ rfl ⟨hb_9, (And.intro hs.g1 (And.intro hs.g0 trivial))⟩ ?_
  clear hK K
  refine fmv ?_
  refine e0 hs ?_; clear hs; intro w_10 hs n10
  apply wpTail_end
  refine hK2 _ _ ?_
  refine wp_seq_k ?_
  intro K3 hK3
  refine wp_seq_k ?_
  intro K4 hK4
  refine rg [0, 1] ?_
  refine sq ?_
  refine .mv ?_
  refine sq ?_
  refine .r0 ?_
  apply wpSq_end
  refine hK4 _ _ ?_
  refine ct ?_
  refine rg [0, 1, 2, 3, 4, 5] ?_
  refine sq ?_
  refine .r0 ?_
  refine sq ?_
  refine .r4 hs.g1.f4 ?_
  refine sq ?_
  refine .r0 ?_
  refine sq ?_
  refine .r4 hs.g0.f4 ?_
  refine sq ?_
  intro K hK
  have k4_10 := (((((kb hb_5).b n6).b hb_7).b n8).b hb_9).b n10
  replace ha1 := ha1.k k4_10
  have k6_10 := (((kb hb_7).b n8).b hb_9).b n10
  replace hq1 := hq1.k k6_10
  go_big_op
  go_fit (rzcmp_any ha1 hq1 (by omega) (by omega))
  rintro e w_11 ⟨rfl, hb_11⟩
  replace hs := hs.bl hb_11
  rw [HB.out]
  refine hK _ _ rfl trivial ?_
  clear hK K
  refine sq ?_
  refine .mv ?_
  apply wpSq_end
  refine hK3 _ _ ?_
  refine wp_seq_k ?_
  intro K5 hK5
  refine wp_seq_k ?_
  intro K6 hK6
  refine rg [0, 1] ?_
  refine sq ?_
  refine .mv ?_
  refine sq ?_
  refine .r0 ?_
  apply wpSq_end
  refine hK6 _ _ ?_
  refine wp_cond_false (congrArg Value.bool (show _ = false from (by simpa using h2))) ?_
  refine wp_skip ?_
  refine hK5 _ _ ?_
  refine wp_seq_k ?_
  intro K7 hK7
  refine rg [0, 1] ?_
  refine sq ?_
  refine .mv ?_
  refine sq ?_
  refine .mv ?_
  apply wpSq_end
  refine hK7 _ _ ?_
  refine wp_ret ?_
  try dsimp only [Exit.then, Exit.inBlock]
  refine bodyPost_ret (v := (.int .i64 B)) (by simp [results, Try.results81, go_sem]) rfl ?_
  have hb := hs.b
  exact ⟨rfl, hb⟩
set_option maxHeartbeats 4000000 in
set_option maxRecDepth 20000 in
theorem rgCmp_c {A B C : Int} (ha : PN w va x l y m) (hq : PN w vb u k v n) (hl : l ≤ 40000000) (hm : m ≤ 40000000) (hk : k ≤ 40000000) (hn : n ≤ 40000000) (hA : zcmp (gN x y) (gN u v) = A) (hB : zcmp x u = B) (hC : zcmp y v = C) (h1 : A = 0) (h2 : B = 0) :
    Calls Try.prog 81 #[va, vb] w fun e w' => e = .returned (.int .i64 C) ∧ Below w.heap.size w w' := by
  have HA := hide hA
  have HB := hide hB
  have HC := hide hC
  clear hA hB hC
  subst h1
  subst h2
  obtain ⟨n_0a, o_0a, k_0a, c_0a, n_0b, o_0b, k_0b, c_0b, rfl, ha1, ha2⟩ := ha
  obtain ⟨n_1a, o_1a, k_1a, c_1a, n_1b, o_1b, k_1b, c_1b, rfl, hq1, hq2⟩ := hq
  go_enter Try.func81, Try.ntmps81
  have hs := St.nil w
  refine wp_seq_k ?_
  intro K1 hK1
  refine rg [0, 1, 2] ?_
  refine sq ?_
  refine .al hs ?_; clear hs; intro p_b1 w_1 hs n1 kb_b1
  refine sq ?_
  refine .al hs ?_; clear hs; intro p_b2 w_2 hs n2 kb_b2
  refine sq ?_
  refine .mv ?_
  apply wpSq_end
  refine hK1 _ _ ?_
  refine wp_seq_k ?_
  intro K2 hK2
  refine wp_region_f4 [(0, false), (2, false), (1, true), (3, true), (4, true), (5, false)] [] [] (fun _ => default) [0, 99, 1, 99, 99, 99] [] (.c hs.g1 (.c hs.g0 .n)) fn fun w_3 n3 => ?_
  replace hs := hs.bl n3
  refine f4 ?_
  refine f4 ?_
  refine fl fun w_4 n4 => ?_
  replace hs := hs.bl n4
  intro K hK
  have k0_4 := (((kb n1).b n2).b n3).b n4
  replace ha1 := ha1.k k0_4
  replace ha2 := ha2.k k0_4
  go_big_op
  go_fit (rgNorm_any (PN.mk' ha1 ha2) (by omega) (by omega) )
  rintro e w_5 ⟨v_g, rfl, g, hb_5⟩
  replace hs := hs.bl hb_5
  obtain ⟨n_g, o_g, k_g, c_g, rfl⟩ := g.open2
  have Lg := hide (g.lenOf (zlen_add (zlen_mul (ha1.len) (ha1.len)) (zlen_mul (ha2.len) (ha2.len))))
  refine hK _ _ rfl ⟨hb_5, (And.intro hs.g1 (And.intro hs.g0 trivial))⟩ ?_
  clear hK K
  refine fl fun w_6 n6 => ?_
  replace hs := hs.bl n6
  intro K hK
  have k0_6 := (k0_4.b hb_5).b n6
  replace hq1 := hq1.k k0_6
  replace hq2 := hq2.k k0_6
  go_big_op
  go_fit (rgNorm_any (PN.mk' hq1 hq2) (by omega) (by omega) )
  rintro e w_7 ⟨v_h, rfl, h, hb_7⟩
  replace hs := hs.bl hb_7
  obtain ⟨n_h, o_h, k_h, c_h, rfl⟩ := h.open2
  have Lh := hide (h.lenOf (zlen_add (zlen_mul (hq1.len) (hq1.len)) (zlen_mul (hq2.len) (hq2.len))))
  refine hK _ _ rfl ⟨hb_7, (And.intro hs.g1 (And.intro hs.g0 trivial))⟩ ?_
  clear hK K
  refine fl fun w_8 n8 => ?_
  replace hs := hs.bl n8
  intro K hK
  have k5_8 := ((kb n6).b hb_7).b n8
  replace g := g.k k5_8
  have k7_8 := kb n8
  replace h := h.k k7_8
  go_big_op
  go_fit (rzcmp_any (g.zn Lg.out) (h.zn Lh.out) (by omega) (by omega))
  rintro e w_9 ⟨rfl, hb_9⟩
  replace hs := hs.bl hb_9
  rw [HA.out]
  refine hK _ _ rfl ⟨hb_9, (And.intro hs.g1 (And.intro hs.g0 trivial))⟩ ?_
  clear hK K
  refine fmv ?_
  refine e0 hs ?_; clear hs; intro w_10 hs n10
  apply wpTail_end
  refine hK2 _ _ ?_
  refine wp_seq_k ?_
  intro K3 hK3
  refine wp_seq_k ?_
  intro K4 hK4
  refine rg [0, 1] ?_
  refine sq ?_
  refine .mv ?_
  refine sq ?_
  refine .r0 ?_
  apply wpSq_end
  refine hK4 _ _ ?_
  refine ct ?_
  refine rg [0, 1, 2, 3, 4, 5] ?_
  refine sq ?_
  refine .r0 ?_
  refine sq ?_
  refine .r4 hs.g1.f4 ?_
  refine sq ?_
  refine .r0 ?_
  refine sq ?_
  refine .r4 hs.g0.f4 ?_
  refine sq ?_
  intro K hK
  have k4_10 := (((((kb hb_5).b n6).b hb_7).b n8).b hb_9).b n10
  replace ha1 := ha1.k k4_10
  have k6_10 := (((kb hb_7).b n8).b hb_9).b n10
  replace hq1 := hq1.k k6_10
  go_big_op
  go_fit (rzcmp_any ha1 hq1 (by omega) (by omega))
  rintro e w_11 ⟨rfl, hb_11⟩
  replace hs := hs.bl hb_11
  rw [HB.out]
  refine hK _ _ rfl trivial ?_
  clear hK K
  refine sq ?_
  refine .mv ?_
  apply wpSq_end
  refine hK3 _ _ ?_
  refine wp_seq_k ?_
  intro K5 hK5
  refine wp_seq_k ?_
  intro K6 hK6
  refine rg [0, 1] ?_
  refine sq ?_
  refine .mv ?_
  refine sq ?_
  refine .r0 ?_
  apply wpSq_end
  refine hK6 _ _ ?_
  refine ct ?_
  refine rg [0, 1, 2, 3, 4, 5] ?_
  refine sq ?_
  refine .r0 ?_
  refine sq ?_
  refine .r4 hs.g1.f4 ?_
  refine sq ?_
  refine .r0 ?_
  refine sq ?_
  refine .r4 hs.g0.f4 ?_
  refine sq ?_
  intro K hK
  have k4_11 := k4_10.b hb_11
  replace ha2 := ha2.k k4_11
  have k6_11 := k6_10.b hb_11
  replace hq2 := hq2.k k6_11
  go_big_op
  go_fit (rzcmp_any ha2 hq2 (by omega) (by omega))
  rintro e w_12 ⟨rfl, hb_12⟩
  replace hs := hs.bl hb_12
  rw [HC.out]
  refine hK _ _ rfl trivial ?_
  clear hK K
  refine sq ?_
  refine .mv ?_
  apply wpSq_end
  refine hK5 _ _ ?_
  refine wp_seq_k ?_
  intro K7 hK7
  refine rg [0, 1] ?_
  refine sq ?_
  refine .mv ?_
  refine sq ?_
  refine .mv ?_
  apply wpSq_end
  refine hK7 _ _ ?_
  refine wp_ret ?_
  try dsimp only [Exit.then, Exit.inBlock]
  refine bodyPost_ret (v := (.int .i64 C)) (by simp [results, Try.results81, go_sem]) rfl ?_
  have hb := hs.b
  exact ⟨rfl, hb⟩
theorem rgCmp_any (ha : PN w va x l y m) (hq : PN w vb u k v n) (hl : l ≤ 40000000) (hm : m ≤ 40000000) (hk : k ≤ 40000000) (hn : n ≤ 40000000) :
    Calls Try.prog 81 #[va, vb] w fun e w' => e = .returned (.int .i64 (gcmp x y u v)) ∧ Below w.heap.size w w' := by
  unfold gcmp or3
  by_cases h1 : zcmp (gN x y) (gN u v) = 0
  · rw [if_neg (by simpa using h1)]
    by_cases h2 : zcmp x u = 0
    · rw [if_neg (by simpa using h2)]; exact rgCmp_c ha hq hl hm hk hn rfl rfl rfl h1 h2
    · rw [if_pos h2]; exact rgCmp_b ha hq hl hm hk hn rfl rfl rfl h1 h2
  · rw [if_pos h1]; exact rgCmp_a ha hq hl hm hk hn rfl rfl rfl h1
end
end Go.Proofs.Ytbiiglcfdphmaaa

