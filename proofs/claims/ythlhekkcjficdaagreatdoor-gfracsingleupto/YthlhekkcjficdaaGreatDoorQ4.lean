/- frac: Add, Sub, Mul, Quo, Cmp, Floor, Round. -/
import Derived.Test.YthlhekkcjficdaaGreatDoorQ3
namespace Go.Proofs.YthlhekkcjficdaaGreatDoor
open Go Go.RowKit Dig
set_option maxHeartbeats 4000000
set_option maxRecDepth 20000
set_option linter.unusedVariables false
theorem zlen_opAdd {x y : Int} {l m : Nat} (hx : (dig x.natAbs).length ≤ l) (hy : (dig y.natAbs).length ≤ m) : (dig (opAdd x y).natAbs).length ≤ l + m + 1 := zlen_add hx hy
section
variable {w : World} {va vb : Value} {x y u v : Int} {l m k n : Nat}
theorem fRound_any (ha : PN w va x l y m) (hl : l ≤ 10000000) (hm : m ≤ 10000000) (hy : y ≠ 0) :
   Calls Tryz.prog 68 #[va] w fun e w' => ∃ r, e = .returned (.tuple #[r, .int .i64 0]) ∧ ZC w' r (rnd x y) ∧ Below w.heap.size w w' := by
 have HY := hide hy
 clear hy
 obtain ⟨n_0a, o_0a, k_0a, c_0a, n_0b, o_0b, k_0b, c_0b, rfl, ha1, ha2⟩ := ha
 go_enter Tryz.func68, Tryz.ntmps68
 have hs := St.nil w
 refine wp_seq_k fun K1 hK1 => rg [0, 1, 2] ?_
 refine sq ?_
 refine .al hs ?_; clear hs; intro p_b1 w_1 hs n1 kb_b1
 refine sq ?_
 refine .al hs ?_; clear hs; intro p_b2 w_2 hs n2 kb_b2
 refine sm ?_
 apply wpSq_end
 refine hK1 _ _ ?_
 refine wp_seq_k fun K2 hK2 => rg [0, 1, 2, 3, 4, 5, 6, 7, 8, 9, 10, 11, 12, 13] ?_
 refine sr ?_
 refine sq ?_
 refine .r4 hs.g1.f4 ?_
 refine sr ?_
 refine sq ?_
 refine .r4 hs.g1.f4 ?_
 refine sq ?_
 intro K hK
 have k0_2 := (kb n1).b n2
 replace ha1 := ha1.k k0_2
 replace ha2 := ha2.k k0_2
 go_big_op
 go_fit (rdiv_any ha1 ha2 (by omega) (by omega) HY.out)
 rintro e w_3 ⟨v_g1, v_g2, rfl, g1, g2, hb_3⟩
 replace hs := hs.bl hb_3
 replace g1 := g1.rd
 obtain ⟨n_g1, o_g1, k_g1, c_g1, rfl⟩ := g1.open2
 replace g2 := g2.rd
 obtain ⟨n_g2, o_g2, k_g2, c_g2, rfl⟩ := g2.open2
 refine hK _ _ rfl trivial ?_
 clear hK K
 refine sm ?_
 refine sr ?_
 refine sr ?_
 refine sr ?_
 refine sq ?_
 refine .al hs ?_; clear hs; intro p_b3 w_4 hs n4 kb_b3
 refine sq ?_
 refine .al hs ?_; clear hs; intro p_b4 w_5 hs n5 kb_b4
 refine sq ?_
 refine .s2 hs.g1 (fun _ => hs.u1 kb_b3) ?_; clear hs; intro w_6 hs hd6 ho6
 refine sq ?_
 refine .s2 hs.g0 (fun _ => hs.u0 kb_b4) ?_; clear hs; intro w_7 hs hd7 ho7
 refine sm ?_
 apply wpSq_end
 refine hK2 _ _ ?_
 refine wp_seq_k fun K3 hK3 => rg [0, 1, 2, 3] ?_
 refine sq ?_
 refine .r2 hs.g1.f2 ?_
 refine sm ?_
 refine sq ?_
 refine .s2 hs.g2 (fun _ => hs.u2 kb_b2) ?_; clear hs; intro w_8 hs hd8 ho8
 refine sm ?_
 apply wpSq_end
 refine hK3 _ _ ?_
 refine wp_ret ?_
 try dsimp only [Exit.then, Exit.inBlock]
 obtain ⟨r0_0, r0_1⟩ := hs.g2.f2
 refine bodyPost_ret (v := (.tuple #[(.agg #[.bool n_g1, .slice o_g1 k_g1 c_g1]), (.int .i64 0)])) (by simp [results, Tryz.results68, go_sem, r0_0, r0_1]) rfl ?_
 have k3_8 := ((((kb n4).b n5).o hd6 ho6).o hd7 ho7).o hd8 ho8
 replace g1 := g1.k k3_8
 exact ⟨_, rfl, g1, hs.b⟩
theorem fRound_zero (ha : PN w va x l 0 m) (hl : l ≤ 10000000) (hm : m ≤ 10000000) :
   Calls Tryz.prog 68 #[va] w fun e w' => e = .returned (.tuple #[.agg #[.bool false, .slice none 0 0], .int .i64 5]) ∧ Below w.heap.size w w' := by
 obtain ⟨n_0a, o_0a, k_0a, c_0a, n_0b, o_0b, k_0b, c_0b, rfl, ha1, ha2⟩ := ha
 go_enter Tryz.func68, Tryz.ntmps68
 have hs := St.nil w
 refine wp_seq_k fun K1 hK1 => rg [0, 1, 2] ?_
 refine sq ?_
 refine .al hs ?_; clear hs; intro p_b1 w_1 hs n1 kb_b1
 refine sq ?_
 refine .al hs ?_; clear hs; intro p_b2 w_2 hs n2 kb_b2
 refine sm ?_
 apply wpSq_end
 refine hK1 _ _ ?_
 refine wp_seq_k fun K2 hK2 => rg [0, 1, 2, 3, 4, 5, 6, 7, 8, 9, 10, 11, 12, 13] ?_
 refine sr ?_
 refine sq ?_
 refine .r4 hs.g1.f4 ?_
 refine sr ?_
 refine sq ?_
 refine .r4 hs.g1.f4 ?_
 refine sq ?_
 intro K hK
 have k0_2 := (kb n1).b n2
 replace ha1 := ha1.k k0_2
 replace ha2 := ha2.k k0_2
 go_big_op
 go_fit (rdiv_zero ha1 ha2 (by omega) (by omega) )
 rintro e w_3 ⟨rfl, hb_3⟩
 replace hs := hs.bl hb_3
 refine hK _ _ rfl trivial ?_
 clear hK K
 refine sm ?_
 refine sr ?_
 refine sr ?_
 refine sr ?_
 refine sq ?_
 refine .al hs ?_; clear hs; intro p_b3 w_4 hs n4 kb_b3
 refine sq ?_
 refine .al hs ?_; clear hs; intro p_b4 w_5 hs n5 kb_b4
 refine sq ?_
 refine .s2 hs.g1 (fun _ => hs.u1 kb_b3) ?_; clear hs; intro w_6 hs hd6 ho6
 refine sq ?_
 refine .s2 hs.g0 (fun _ => hs.u0 kb_b4) ?_; clear hs; intro w_7 hs hd7 ho7
 refine sm ?_
 apply wpSq_end
 refine hK2 _ _ ?_
 refine wp_seq_k fun K3 hK3 => rg [0, 1, 2, 3] ?_
 refine sq ?_
 refine .r2 hs.g1.f2 ?_
 refine sm ?_
 refine sq ?_
 refine .s2 hs.g2 (fun _ => hs.u2 kb_b2) ?_; clear hs; intro w_8 hs hd8 ho8
 refine sm ?_
 apply wpSq_end
 refine hK3 _ _ ?_
 refine wp_ret ?_
 try dsimp only [Exit.then, Exit.inBlock]
 obtain ⟨r0_0, r0_1⟩ := hs.g2.f2
 refine bodyPost_ret (v := (.tuple #[(.agg #[.bool false, .slice none 0 0]), (.int .i64 5)])) (by simp [results, Tryz.results68, go_sem, r0_0, r0_1]) rfl ?_
 have hb := hs.b
 exact ⟨rfl, hb⟩
end
end Go.Proofs.YthlhekkcjficdaaGreatDoor
