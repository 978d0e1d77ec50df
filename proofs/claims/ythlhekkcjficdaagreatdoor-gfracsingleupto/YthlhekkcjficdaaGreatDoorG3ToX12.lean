/- The reference's Gaussian integers; the law's is and g. -/
import Derived.Test.YthlhekkcjficdaaGreatDoorX2ToG2
import Derived.Test.YthlhekkcjficdaaGreatDoorY8
import Derived.Test.YthlhekkcjficdaaGreatDoorX11ToQ15
import Derived.Test.YthlhekkcjficdaaGreatDoorR20ToQ19

namespace Go.Proofs.YthlhekkcjficdaaGreatDoor
open Go Go.RowKit Dig
set_option linter.unusedVariables false
section
variable {w : World} {va vb : Value} {x y u v : Int} {l m k n : Nat}
set_option maxHeartbeats 4000000 in
set_option maxRecDepth 20000 in
theorem rgSame_any (ha : PC w va x y) (hq : PN w vb x l y m) (hl : l ≤ 100000000) (hm : m ≤ 100000000) :
   Calls Tryz.prog 20 #[va, vb] w fun e w' => e = .returned (.bool true) ∧ Below w.heap.size w w' := by
 obtain ⟨n_0a, o_0a, k_0a, c_0a, n_0b, o_0b, k_0b, c_0b, rfl, ha1, ha2⟩ := ha
 obtain ⟨n_1a, o_1a, k_1a, c_1a, n_1b, o_1b, k_1b, c_1b, rfl, hq1, hq2⟩ := hq
 go_enter Tryz.func20, Tryz.ntmps20
 have hs := St.nil w
 refine wp_seq_k fun K1 hK1 => rg [0, 1, 2] ?_
 refine sq ?_
 refine .al hs ?_; clear hs; intro p_b1 w_1 hs n1 kb_b1
 refine sq ?_
 refine .al hs ?_; clear hs; intro p_b2 w_2 hs n2 kb_b2
 refine sm ?_
 apply wpSq_end
 refine hK1 _ _ ?_
 refine wp_seq_k fun K2 hK2 => rg [0, 1, 2, 3, 4, 5, 6, 7, 8, 9, 10, 11, 12] ?_
 refine sr ?_
 refine sq ?_
 refine .r4 hs.g1.f4 ?_
 refine sr ?_
 refine sq ?_
 refine .r4 hs.g0.f4 ?_
 refine sq ?_
 intro K hK
 have k0_2 := (kb n1).b n2
 replace ha1 := ha1.k k0_2
 replace hq1 := hq1.k k0_2
 go_big_op
 go_fit (rsame_zz ha1 hq1 (by omega) )
 rintro e w_3 ⟨rfl, hb_3⟩
 replace hs := hs.bl hb_3
 refine hK _ _ rfl trivial ?_
 clear hK K
 refine sm ?_
 refine sr ?_
 refine sq ?_
 refine .r4 hs.g1.f4 ?_
 refine sr ?_
 refine sq ?_
 refine .r4 hs.g0.f4 ?_
 refine sq ?_
 intro K hK
 have k0_3 := k0_2.b hb_3
 replace ha2 := ha2.k k0_3
 replace hq2 := hq2.k k0_3
 go_big_op
 go_fit (rsame_zz ha2 hq2 (by omega) )
 rintro e w_4 ⟨rfl, hb_4⟩
 replace hs := hs.bl hb_4
 refine hK _ _ rfl trivial ?_
 clear hK K
 refine sr ?_
 refine sm ?_
 apply wpSq_end
 refine hK2 _ _ ?_
 refine wp_ret ?_
 try dsimp only [Exit.then, Exit.inBlock]
 refine bodyPost_ret (v := (.bool true)) (by simp [results, Tryz.results20, go_sem]) rfl ?_
 have hb := hs.b
 exact ⟨rfl, hb⟩
end
end Go.Proofs.YthlhekkcjficdaaGreatDoor

/- gfrac: Round, Of, OfFloat; Conj, Norm of what is none; their references. -/
namespace Go.Proofs.YthlhekkcjficdaaGreatDoor
open Go Go.RowKit Dig
set_option maxHeartbeats 4000000
set_option maxRecDepth 20000
set_option linter.unusedVariables false
def TellsZ (w : World) (f : Nat) (caps : Array Value) (s : Nat) (a : Int) : Prop :=
 ∀ w1, Below w.heap.size w w1 → Calls Tryz.prog f (#[.func (.func s) #[] #[]] ++ caps) w1 fun e w2 => ∃ r, e = .returned (.tuple #[r, .int .i64 0]) ∧ ZC w2 r a ∧ Below w1.heap.size w1 w2
section
variable {w : World} {f : Nat} {caps : Array Value} {a b : Int}
theorem bothZ_ok (hf : Enters f caps) (hc1 : TellsZ w f caps 125 a) (hc2 : TellsZ w f caps 126 b) :
   Calls Tryz.prog 66 #[.func (.func f) #[] caps] w fun e w' => ∃ r s, e = .returned (.tuple #[r, s, .int .i64 0]) ∧ ZC w' r a ∧ ZC w' s b ∧ Below w.heap.size w w' := by
 unfold Enters at hf
 go_enter Tryz.func66, Tryz.ntmps66
 have hs := St.nil w
 refine wp_seq_k fun K1 hK1 => rg [0, 1, 2] ?_
 refine sq ?_
 refine .al hs ?_; clear hs; intro p_b1 w_1 hs n1 kb_b1
 refine sq ?_
 refine .al hs ?_; clear hs; intro p_b2 w_2 hs n2 kb_b2
 refine sm ?_
 apply wpSq_end
 refine hK1 _ _ ?_
 refine wp_seq_k fun K2 hK2 => rg [0] ?_
 refine sq ?_
 refine .al hs ?_; clear hs; intro p_b3 w_3 hs n3 kb_b3
 apply wpSq_end
 refine hK2 _ _ ?_
 refine wp_seq_k fun K3 hK3 => rg [0, 1, 2, 3, 4, 5, 6] ?_
 refine sm ?_
 refine sq ?_
 intro K hK
 have hb := hs.b
 go_big_op
 go_fit (hc1 _ hb)
 rintro e w_4 ⟨v_ga, rfl, ga, hb_4⟩
 clear hb
 replace hs := hs.bl hb_4
 obtain ⟨n_ga, o_ga, k_ga, c_ga, rfl⟩ := ga.open2
 refine hK _ _ rfl trivial ?_
 clear hK K
 refine sm ?_
 refine sr ?_
 refine sr ?_
 refine sq ?_
 refine .s2 hs.g2 (fun _ => hs.u2 kb_b1) ?_; clear hs; intro w_5 hs hd5 ho5
 refine sm ?_
 apply wpSq_end
 refine hK3 _ _ ?_
 refine wp_seq_k ?_
 intro K4 hK4
 refine wp_seq_k fun K5 hK5 => rg [0, 1] ?_
 refine sm ?_
 refine sr ?_
 apply wpSq_end
 refine hK5 _ _ ?_
 refine cf ?_
 refine wp_skip ?_
 refine hK4 _ _ ?_
 refine wp_seq_k fun K6 hK6 => rg [0, 1, 2, 3, 4, 5, 6] ?_
 refine sm ?_
 refine sq ?_
 intro K hK
 have hb := hs.b
 go_big_op
 go_fit (hc2 _ hb)
 rintro e w_6 ⟨v_gb, rfl, gb, hb_6⟩
 clear hb
 replace hs := hs.bl hb_6
 obtain ⟨n_gb, o_gb, k_gb, c_gb, rfl⟩ := gb.open2
 refine hK _ _ rfl trivial ?_
 clear hK K
 refine sm ?_
 refine sr ?_
 refine sr ?_
 refine sq ?_
 refine .s2 hs.g1 (fun _ => hs.u1 kb_b2) ?_; clear hs; intro w_7 hs hd7 ho7
 refine sm ?_
 apply wpSq_end
 refine hK6 _ _ ?_
 refine wp_seq_k ?_
 intro K7 hK7
 refine wp_seq_k fun K8 hK8 => rg [0, 1] ?_
 refine sm ?_
 refine sr ?_
 apply wpSq_end
 refine hK8 _ _ ?_
 refine cf ?_
 refine wp_skip ?_
 refine hK7 _ _ ?_
 refine wp_seq_k ?_
 intro K9 hK9
 refine wp_region_f4 [(0, false), (1, false)] [2, 3, 4] [] (fun _ => default) [0, 1, 99, 99, 99] [(2, 0), (3, 0), (3, 1)] (.c hs.g2 (.c hs.g1 .n)) fn fun w_8 n8 => ?_
 replace hs := hs.bl n8
 refine f2 ?_
 refine f2 ?_
 refine e0 hs ?_; clear hs; intro w_9 hs n9
 refine tl ?_
 refine .s2 hs.g2 (fun _ => hs.u2 kb_b1) ?_ (e := fun _ hs => (And.intro True.intro (And.intro hs.g1 True.intro))); clear hs; intro w_10 hs hd10 ho10
 refine tl ?_
 refine .s2 hs.g1 (fun _ => hs.u1 kb_b2) ?_ (e := fun _ hs => (And.intro True.intro (And.intro True.intro True.intro))); clear hs; intro w_11 hs hd11 ho11
 refine tl ?_
 refine .mv ?_ (e := (And.intro hs.g2 (And.intro hs.g1 True.intro)))
 apply wpTail_end
 refine hK9 _ _ ?_
 refine wp_ret ?_
 try dsimp only [Exit.then, Exit.inBlock]
 obtain ⟨r0_0, r0_1⟩ := hs.g2.f2
 obtain ⟨r2_0, r2_1⟩ := hs.g1.f2
 refine bodyPost_ret (v := (.tuple #[(.agg #[.bool n_ga, .slice o_ga k_ga c_ga]), (.agg #[.bool n_gb, .slice o_gb k_gb c_gb]), (.int .i64 0)])) (by simp [results, Tryz.results66, go_sem, r0_0, r0_1, r2_0, r2_1]) rfl ?_
 have k4_11 := ((((((ko hd5 ho5).b hb_6).o hd7 ho7).b n8).b n9).o hd10 ho10).o hd11 ho11
 replace ga := ga.k k4_11
 have k6_11 := ((((ko hd7 ho7).b n8).b n9).o hd10 ho10).o hd11 ho11
 replace gb := gb.k k6_11
 exact ⟨_, _, rfl, ga, gb, hs.b⟩
theorem bothZ_bad1 (hf : Enters f caps) (hc1 : RefusesV w f caps 125 (.agg #[.bool false, .slice none 0 0])) :
   Calls Tryz.prog 66 #[.func (.func f) #[] caps] w fun e w' => e = .returned (.tuple #[.agg #[.bool false, .slice none 0 0], .agg #[.bool false, .slice none 0 0], .int .i64 5]) ∧ Below w.heap.size w w' := by
 unfold Enters at hf
 go_enter Tryz.func66, Tryz.ntmps66
 have hs := St.nil w
 refine wp_seq_k fun K1 hK1 => rg [0, 1, 2] ?_
 refine sq ?_
 refine .al hs ?_; clear hs; intro p_b1 w_1 hs n1 kb_b1
 refine sq ?_
 refine .al hs ?_; clear hs; intro p_b2 w_2 hs n2 kb_b2
 refine sm ?_
 apply wpSq_end
 refine hK1 _ _ ?_
 refine wp_seq_k fun K2 hK2 => rg [0] ?_
 refine sq ?_
 refine .al hs ?_; clear hs; intro p_b3 w_3 hs n3 kb_b3
 apply wpSq_end
 refine hK2 _ _ ?_
 refine wp_seq_k fun K3 hK3 => rg [0, 1, 2, 3, 4, 5, 6] ?_
 refine sm ?_
 refine sq ?_
 intro K hK
 have hb := hs.b
 go_big_op
 go_fit (hc1 _ hb)
 rintro e w_4 ⟨rfl, hb_4⟩
 clear hb
 replace hs := hs.bl hb_4
 refine hK _ _ rfl trivial ?_
 clear hK K
 refine sm ?_
 refine sr ?_
 refine sr ?_
 refine sq ?_
 refine .s2 hs.g2 (fun _ => hs.u2 kb_b1) ?_; clear hs; intro w_5 hs hd5 ho5
 refine sm ?_
 apply wpSq_end
 refine hK3 _ _ ?_
 refine wp_seq_k ?_
 intro K4 hK4
 refine wp_seq_k fun K5 hK5 => rg [0, 1] ?_
 refine sm ?_
 refine sr ?_
 apply wpSq_end
 refine hK5 _ _ ?_
 refine ct ?_
 refine wp_seq_k ?_
 intro K6 hK6
 refine wp_region_f4 [(0, false), (1, false), (2, false)] [3, 4, 5] [] (fun _ => default) [0, 0, 99, 99, 99, 99] [] (.c hs.g0 .n) fn fun w_6 n6 => ?_
 replace hs := hs.bl n6
 refine f2 ?_
 refine f2 ?_
 refine fmv ?_
 refine e0 hs ?_; clear hs; intro w_7 hs n7
 refine tl ?_
 refine .s2 hs.g2 (fun _ => hs.u2 kb_b1) ?_ (e := fun _ hs => (And.intro hs.g0 True.intro)); clear hs; intro w_8 hs hd8 ho8
 refine tl ?_
 refine .s2 hs.g1 (fun _ => hs.u1 kb_b2) ?_ (e := fun _ hs => (And.intro hs.g0 True.intro)); clear hs; intro w_9 hs hd9 ho9
 refine tl ?_
 refine .mv ?_ (e := (And.intro hs.g0 True.intro))
 apply wpTail_end
 refine hK6 _ _ ?_
 refine wp_ret ?_
 try dsimp only [Exit.then, Exit.inBlock]
 obtain ⟨r0_0, r0_1⟩ := hs.g2.f2
 obtain ⟨r2_0, r2_1⟩ := hs.g1.f2
 refine bodyPost_ret (v := (.tuple #[(.agg #[.bool false, .slice none 0 0]), (.agg #[.bool false, .slice none 0 0]), (.int .i64 5)])) (by simp [results, Tryz.results66, go_sem, r0_0, r0_1, r2_0, r2_1]) rfl ?_
 have hb := hs.b
 exact ⟨rfl, hb⟩
theorem bothZ_bad2 (hf : Enters f caps) (hc1 : TellsZ w f caps 125 a) (hc2 : RefusesV w f caps 126 (.agg #[.bool false, .slice none 0 0])) :
   Calls Tryz.prog 66 #[.func (.func f) #[] caps] w fun e w' => e = .returned (.tuple #[.agg #[.bool false, .slice none 0 0], .agg #[.bool false, .slice none 0 0], .int .i64 5]) ∧ Below w.heap.size w w' := by
 unfold Enters at hf
 go_enter Tryz.func66, Tryz.ntmps66
 have hs := St.nil w
 refine wp_seq_k fun K1 hK1 => rg [0, 1, 2] ?_
 refine sq ?_
 refine .al hs ?_; clear hs; intro p_b1 w_1 hs n1 kb_b1
 refine sq ?_
 refine .al hs ?_; clear hs; intro p_b2 w_2 hs n2 kb_b2
 refine sm ?_
 apply wpSq_end
 refine hK1 _ _ ?_
 refine wp_seq_k fun K2 hK2 => rg [0] ?_
 refine sq ?_
 refine .al hs ?_; clear hs; intro p_b3 w_3 hs n3 kb_b3
 apply wpSq_end
 refine hK2 _ _ ?_
 refine wp_seq_k fun K3 hK3 => rg [0, 1, 2, 3, 4, 5, 6] ?_
 refine sm ?_
 refine sq ?_
 intro K hK
 have hb := hs.b
 go_big_op
 go_fit (hc1 _ hb)
 rintro e w_4 ⟨v_ga, rfl, ga, hb_4⟩
 clear hb
 replace hs := hs.bl hb_4
 obtain ⟨n_ga, o_ga, k_ga, c_ga, rfl⟩ := ga.open2
 refine hK _ _ rfl trivial ?_
 clear hK K
 refine sm ?_
 refine sr ?_
 refine sr ?_
 refine sq ?_
 refine .s2 hs.g2 (fun _ => hs.u2 kb_b1) ?_; clear hs; intro w_5 hs hd5 ho5
 refine sm ?_
 apply wpSq_end
 refine hK3 _ _ ?_
 refine wp_seq_k ?_
 intro K4 hK4
 refine wp_seq_k fun K5 hK5 => rg [0, 1] ?_
 refine sm ?_
 refine sr ?_
 apply wpSq_end
 refine hK5 _ _ ?_
 refine cf ?_
 refine wp_skip ?_
 refine hK4 _ _ ?_
 refine wp_seq_k fun K6 hK6 => rg [0, 1, 2, 3, 4, 5, 6] ?_
 refine sm ?_
 refine sq ?_
 intro K hK
 have hb := hs.b
 go_big_op
 go_fit (hc2 _ hb)
 rintro e w_6 ⟨rfl, hb_6⟩
 clear hb
 replace hs := hs.bl hb_6
 refine hK _ _ rfl trivial ?_
 clear hK K
 refine sm ?_
 refine sr ?_
 refine sr ?_
 refine sq ?_
 refine .s2 hs.g1 (fun _ => hs.u1 kb_b2) ?_; clear hs; intro w_7 hs hd7 ho7
 refine sm ?_
 apply wpSq_end
 refine hK6 _ _ ?_
 refine wp_seq_k ?_
 intro K7 hK7
 refine wp_seq_k fun K8 hK8 => rg [0, 1] ?_
 refine sm ?_
 refine sr ?_
 apply wpSq_end
 refine hK8 _ _ ?_
 refine ct ?_
 refine wp_seq_k ?_
 intro K9 hK9
 refine wp_region_f4 [(0, false), (1, false), (2, false)] [3, 4, 5] [] (fun _ => default) [0, 0, 99, 99, 99, 99] [] (.c hs.g0 .n) fn fun w_8 n8 => ?_
 replace hs := hs.bl n8
 refine f2 ?_
 refine f2 ?_
 refine fmv ?_
 refine e0 hs ?_; clear hs; intro w_9 hs n9
 refine tl ?_
 refine .s2 hs.g2 (fun _ => hs.u2 kb_b1) ?_ (e := fun _ hs => (And.intro hs.g0 True.intro)); clear hs; intro w_10 hs hd10 ho10
 refine tl ?_
 refine .s2 hs.g1 (fun _ => hs.u1 kb_b2) ?_ (e := fun _ hs => (And.intro hs.g0 True.intro)); clear hs; intro w_11 hs hd11 ho11
 refine tl ?_
 refine .mv ?_ (e := (And.intro hs.g0 True.intro))
 apply wpTail_end
 refine hK9 _ _ ?_
 refine wp_ret ?_
 try dsimp only [Exit.then, Exit.inBlock]
 obtain ⟨r0_0, r0_1⟩ := hs.g2.f2
 obtain ⟨r2_0, r2_1⟩ := hs.g1.f2
 refine bodyPost_ret (v := (.tuple #[(.agg #[.bool false, .slice none 0 0]), (.agg #[.bool false, .slice none 0 0]), (.int .i64 5)])) (by simp [results, Tryz.results66, go_sem, r0_0, r0_1, r2_0, r2_1]) rfl ?_
 have hb := hs.b
 exact ⟨rfl, hb⟩
end
section
variable {w : World} {va vb : Value} {x y u v p q s t : Int} {l m k n l2 m2 k2 n2 : Nat}
theorem selZ1 (ha : CN w va x l y m u k v n) :
   Calls Tryz.prog 125 #[va] w fun e w' => ∃ r, e = .returned r ∧ PN w' r x l y m ∧ Below w.heap.size w w' := by
 obtain ⟨n_0a, o_0a, k_0a, c_0a, n_0b, o_0b, k_0b, c_0b, n_0c, o_0c, k_0c, c_0c, n_0d, o_0d, k_0d, c_0d, rfl, ha1, ha2, ha3, ha4⟩ := ha
 go_enter Tryz.func125, Tryz.ntmps125
 have hs := St.nil w
 refine wp_seq_k fun K1 hK1 => rg [0, 1] ?_
 refine sq ?_
 refine .al hs ?_; clear hs; intro p_b1 w_1 hs n1 kb_b1
 refine sq ?_
 refine .al hs ?_; clear hs; intro p_b2 w_2 hs n2 kb_b2
 apply wpSq_end
 refine hK1 _ _ ?_
 refine wp_seq_k fun K2 hK2 => rg [0, 1, 2] ?_
 refine sr ?_
 refine sq ?_
 refine .r4 ⟨hs.g1.cell 0 rfl, hs.g1.cell 1 rfl, hs.g1.cell 2 rfl, hs.g1.cell 3 rfl⟩ ?_
 refine sq ?_
 refine .s4 hs.g0 (fun _ => hs.u0 kb_b2) ?_; clear hs; intro w_3 hs hd3 ho3
 apply wpSq_end
 refine hK2 _ _ ?_
 refine wp_ret ?_
 try dsimp only [Exit.then, Exit.inBlock]
 obtain ⟨r0_0, r0_1, r0_2, r0_3⟩ := hs.g0.f4
 refine bodyPost_ret (v := (.agg #[.bool n_0a, .slice o_0a k_0a c_0a, .bool n_0b, .slice o_0b k_0b c_0b])) (by simp [results, Tryz.results125, go_sem, r0_0, r0_1, r0_2, r0_3]) rfl ?_
 have k0_3 := ((kb n1).b n2).o hd3 ho3
 replace ha1 := ha1.k k0_3
 replace ha2 := ha2.k k0_3
 exact ⟨_, rfl, .mk' ha1 ha2, hs.b⟩
theorem cround1_ok {pa : Nat} (hp : BC w pa x l y m u k v n) (hl : l ≤ 9000000) (hm : m ≤ 4500000) (hk : k ≤ 9000000) (hn : n ≤ 4500000) (h0 : y ≠ 0) :
   Calls Tryz.prog 67 (#[.func (.func 125) #[] #[]] ++ #[.pointer (some ⟨pa, 0, none⟩)]) w fun e w' => ∃ r, e = .returned (.tuple #[r, .int .i64 0]) ∧ ZC w' r (rnd x y) ∧ Below w.heap.size w w' := by
 have H0 := hide h0
 clear h0
 obtain ⟨n_p1, o_p1, k_p1, c_p1, n_p2, o_p2, k_p2, c_p2, n_p3, o_p3, k_p3, c_p3, n_p4, o_p4, k_p4, c_p4, xa, h1, h2, h3, h4⟩ := hp
 show Calls Tryz.prog 67 #[.func (.func 125) #[] #[], .pointer (some ⟨pa, 0, none⟩)] w _
 go_enter Tryz.func67, Tryz.ntmps67
 have hs := St.nil w
 have lt_xa := xa.lt
 have xaz := xa
 refine wp_seq_k fun K1 hK1 => rg [0, 1] ?_
 refine sq ?_
 refine .al hs ?_; clear hs; intro p_b1 w_1 hs n1 kb_b1
 replace xa := xa.bl n1
 refine sm ?_
 apply wpSq_end
 refine hK1 _ _ ?_
 refine wp_seq_k fun K2 hK2 => rg [0, 1, 2, 3, 4, 5, 6, 7] ?_
 refine sm ?_
 refine sq ?_
 intro K hK
 have d0 : w_1.cell? ⟨pa, 0, none⟩ = some (.bool n_p1) := xa.cell 0 rfl
 have d1 : w_1.cell? ⟨pa, 1, none⟩ = some (.slice o_p1 k_p1 c_p1) := xa.cell 1 rfl
 have d2 : w_1.cell? ⟨pa, 2, none⟩ = some (.bool n_p2) := xa.cell 2 rfl
 have d3 : w_1.cell? ⟨pa, 3, none⟩ = some (.slice o_p2 k_p2 c_p2) := xa.cell 3 rfl
 have d4 : w_1.cell? ⟨pa, 4, none⟩ = some (.bool n_p3) := xa.cell 4 rfl
 have d5 : w_1.cell? ⟨pa, 5, none⟩ = some (.slice o_p3 k_p3 c_p3) := xa.cell 5 rfl
 have d6 : w_1.cell? ⟨pa, 6, none⟩ = some (.bool n_p4) := xa.cell 6 rfl
 have d7 : w_1.cell? ⟨pa, 7, none⟩ = some (.slice o_p4 k_p4 c_p4) := xa.cell 7 rfl
 go_big_op; refine hK _ _ rfl trivial ?_; clear hK K d0 d1 d2 d3 d4 d5 d6 d7
 refine sq ?_
 intro K hK
 have k0_1 := kb n1
 replace h1 := h1.k k0_1
 replace h2 := h2.k k0_1
 replace h3 := h3.k k0_1
 replace h4 := h4.k k0_1
 go_big_op
 go_fit (selZ1 (.mk' h1 h2 h3 h4))
 rintro e w_2 ⟨_, rfl, ⟨n_gaa, o_gaa, k_gaa, c_gaa, n_gab, o_gab, k_gab, c_gab, rfl, ga1, ga2⟩, hb_2⟩
 replace hs := hs.bl hb_2
 refine hK _ _ rfl trivial ?_
 clear hK K
 refine sq ?_
 intro K hK
 go_big_op
 go_fit (fRound_any (PN.mk' ga1 ga2) (by omega) (by omega) H0.out)
 rintro e w_3 ⟨v_r, rfl, r, hb_3⟩
 replace hs := hs.bl hb_3
 obtain ⟨n_r, o_r, k_r, c_r, rfl⟩ := r.open2
 refine hK _ _ rfl trivial ?_
 clear hK K
 refine sr ?_
 refine sr ?_
 refine sq ?_
 refine .s2 hs.g0 (fun _ => hs.u0 kb_b1) ?_; clear hs; intro w_4 hs hd4 ho4
 clear xa h1 h2 h3 h4 ga1 ga2
 refine sm ?_
 apply wpSq_end
 refine hK2 _ _ ?_
 refine wp_ret ?_
 try dsimp only [Exit.then, Exit.inBlock]
 obtain ⟨r0_0, r0_1⟩ := hs.g0.f2
 refine bodyPost_ret (v := (.tuple #[(.agg #[.bool n_r, .slice o_r k_r c_r]), (.int .i64 0)])) (by simp [results, Tryz.results67, go_sem, r0_0, r0_1]) rfl ?_
 have k3_4 := ko hd4 ho4
 replace r := r.k k3_4
 exact ⟨_, rfl, r, hs.b⟩
theorem cround1_bad {pa : Nat} (hp : BC w pa x l y m u k v n) (hl : l ≤ 9000000) (hm : m ≤ 4500000) (hk : k ≤ 9000000) (hn : n ≤ 4500000) (h0 : y = 0) :
   Calls Tryz.prog 67 (#[.func (.func 125) #[] #[]] ++ #[.pointer (some ⟨pa, 0, none⟩)]) w fun e w' => e = .returned (.tuple #[.agg #[.bool false, .slice none 0 0], .int .i64 5]) ∧ Below w.heap.size w w' := by
 subst h0
 obtain ⟨n_p1, o_p1, k_p1, c_p1, n_p2, o_p2, k_p2, c_p2, n_p3, o_p3, k_p3, c_p3, n_p4, o_p4, k_p4, c_p4, xa, h1, h2, h3, h4⟩ := hp
 show Calls Tryz.prog 67 #[.func (.func 125) #[] #[], .pointer (some ⟨pa, 0, none⟩)] w _
 go_enter Tryz.func67, Tryz.ntmps67
 have hs := St.nil w
 have lt_xa := xa.lt
 have xaz := xa
 refine wp_seq_k fun K1 hK1 => rg [0, 1] ?_
 refine sq ?_
 refine .al hs ?_; clear hs; intro p_b1 w_1 hs n1 kb_b1
 replace xa := xa.bl n1
 refine sm ?_
 apply wpSq_end
 refine hK1 _ _ ?_
 refine wp_seq_k fun K2 hK2 => rg [0, 1, 2, 3, 4, 5, 6, 7] ?_
 refine sm ?_
 refine sq ?_
 intro K hK
 have d0 : w_1.cell? ⟨pa, 0, none⟩ = some (.bool n_p1) := xa.cell 0 rfl
 have d1 : w_1.cell? ⟨pa, 1, none⟩ = some (.slice o_p1 k_p1 c_p1) := xa.cell 1 rfl
 have d2 : w_1.cell? ⟨pa, 2, none⟩ = some (.bool n_p2) := xa.cell 2 rfl
 have d3 : w_1.cell? ⟨pa, 3, none⟩ = some (.slice o_p2 k_p2 c_p2) := xa.cell 3 rfl
 have d4 : w_1.cell? ⟨pa, 4, none⟩ = some (.bool n_p3) := xa.cell 4 rfl
 have d5 : w_1.cell? ⟨pa, 5, none⟩ = some (.slice o_p3 k_p3 c_p3) := xa.cell 5 rfl
 have d6 : w_1.cell? ⟨pa, 6, none⟩ = some (.bool n_p4) := xa.cell 6 rfl
 have d7 : w_1.cell? ⟨pa, 7, none⟩ = some (.slice o_p4 k_p4 c_p4) := xa.cell 7 rfl
 go_big_op; refine hK _ _ rfl trivial ?_; clear hK K d0 d1 d2 d3 d4 d5 d6 d7
 refine sq ?_
 intro K hK
 have k0_1 := kb n1
 replace h1 := h1.k k0_1
 replace h2 := h2.k k0_1
 replace h3 := h3.k k0_1
 replace h4 := h4.k k0_1
 go_big_op
 go_fit (selZ1 (.mk' h1 h2 h3 h4))
 rintro e w_2 ⟨_, rfl, ⟨n_gaa, o_gaa, k_gaa, c_gaa, n_gab, o_gab, k_gab, c_gab, rfl, ga1, ga2⟩, hb_2⟩
 replace hs := hs.bl hb_2
 refine hK _ _ rfl trivial ?_
 clear hK K
 refine sq ?_
 intro K hK
 go_big_op
 go_fit (fRound_zero (PN.mk' ga1 ga2) (by omega) (by omega) )
 rintro e w_3 ⟨rfl, hb_3⟩
 replace hs := hs.bl hb_3
 refine hK _ _ rfl trivial ?_
 clear hK K
 refine sr ?_
 refine sr ?_
 refine sq ?_
 refine .s2 hs.g0 (fun _ => hs.u0 kb_b1) ?_; clear hs; intro w_4 hs hd4 ho4
 clear xa h1 h2 h3 h4 ga1 ga2
 refine sm ?_
 apply wpSq_end
 refine hK2 _ _ ?_
 refine wp_ret ?_
 try dsimp only [Exit.then, Exit.inBlock]
 obtain ⟨r0_0, r0_1⟩ := hs.g0.f2
 refine bodyPost_ret (v := (.tuple #[(.agg #[.bool false, .slice none 0 0]), (.int .i64 5)])) (by simp [results, Tryz.results67, go_sem, r0_0, r0_1]) rfl ?_
 have hb := hs.b
 exact ⟨rfl, hb⟩
theorem selZ2 (ha : CN w va x l y m u k v n) :
   Calls Tryz.prog 126 #[va] w fun e w' => ∃ r, e = .returned r ∧ PN w' r u k v n ∧ Below w.heap.size w w' := by
 obtain ⟨n_0a, o_0a, k_0a, c_0a, n_0b, o_0b, k_0b, c_0b, n_0c, o_0c, k_0c, c_0c, n_0d, o_0d, k_0d, c_0d, rfl, ha1, ha2, ha3, ha4⟩ := ha
 go_enter Tryz.func126, Tryz.ntmps126
 have hs := St.nil w
 refine wp_seq_k fun K1 hK1 => rg [0, 1] ?_
 refine sq ?_
 refine .al hs ?_; clear hs; intro p_b1 w_1 hs n1 kb_b1
 refine sq ?_
 refine .al hs ?_; clear hs; intro p_b2 w_2 hs n2 kb_b2
 apply wpSq_end
 refine hK1 _ _ ?_
 refine wp_seq_k fun K2 hK2 => rg [0, 1, 2] ?_
 refine sr ?_
 refine sq ?_
 refine .r4 ⟨hs.g1.cell 4 rfl, hs.g1.cell 5 rfl, hs.g1.cell 6 rfl, hs.g1.cell 7 rfl⟩ ?_
 refine sq ?_
 refine .s4 hs.g0 (fun _ => hs.u0 kb_b2) ?_; clear hs; intro w_3 hs hd3 ho3
 apply wpSq_end
 refine hK2 _ _ ?_
 refine wp_ret ?_
 try dsimp only [Exit.then, Exit.inBlock]
 obtain ⟨r0_0, r0_1, r0_2, r0_3⟩ := hs.g0.f4
 refine bodyPost_ret (v := (.agg #[.bool n_0c, .slice o_0c k_0c c_0c, .bool n_0d, .slice o_0d k_0d c_0d])) (by simp [results, Tryz.results126, go_sem, r0_0, r0_1, r0_2, r0_3]) rfl ?_
 have k0_3 := ((kb n1).b n2).o hd3 ho3
 replace ha3 := ha3.k k0_3
 replace ha4 := ha4.k k0_3
 exact ⟨_, rfl, .mk' ha3 ha4, hs.b⟩
theorem cround2_ok {pa : Nat} (hp : BC w pa x l y m u k v n) (hl : l ≤ 9000000) (hm : m ≤ 4500000) (hk : k ≤ 9000000) (hn : n ≤ 4500000) (h0 : v ≠ 0) :
   Calls Tryz.prog 67 (#[.func (.func 126) #[] #[]] ++ #[.pointer (some ⟨pa, 0, none⟩)]) w fun e w' => ∃ r, e = .returned (.tuple #[r, .int .i64 0]) ∧ ZC w' r (rnd u v) ∧ Below w.heap.size w w' := by
 have H0 := hide h0
 clear h0
 obtain ⟨n_p1, o_p1, k_p1, c_p1, n_p2, o_p2, k_p2, c_p2, n_p3, o_p3, k_p3, c_p3, n_p4, o_p4, k_p4, c_p4, xa, h1, h2, h3, h4⟩ := hp
 show Calls Tryz.prog 67 #[.func (.func 126) #[] #[], .pointer (some ⟨pa, 0, none⟩)] w _
 go_enter Tryz.func67, Tryz.ntmps67
 have hs := St.nil w
 have lt_xa := xa.lt
 have xaz := xa
 refine wp_seq_k fun K1 hK1 => rg [0, 1] ?_
 refine sq ?_
 refine .al hs ?_; clear hs; intro p_b1 w_1 hs n1 kb_b1
 replace xa := xa.bl n1
 refine sm ?_
 apply wpSq_end
 refine hK1 _ _ ?_
 refine wp_seq_k fun K2 hK2 => rg [0, 1, 2, 3, 4, 5, 6, 7] ?_
 refine sm ?_
 refine sq ?_
 intro K hK
 have d0 : w_1.cell? ⟨pa, 0, none⟩ = some (.bool n_p1) := xa.cell 0 rfl
 have d1 : w_1.cell? ⟨pa, 1, none⟩ = some (.slice o_p1 k_p1 c_p1) := xa.cell 1 rfl
 have d2 : w_1.cell? ⟨pa, 2, none⟩ = some (.bool n_p2) := xa.cell 2 rfl
 have d3 : w_1.cell? ⟨pa, 3, none⟩ = some (.slice o_p2 k_p2 c_p2) := xa.cell 3 rfl
 have d4 : w_1.cell? ⟨pa, 4, none⟩ = some (.bool n_p3) := xa.cell 4 rfl
 have d5 : w_1.cell? ⟨pa, 5, none⟩ = some (.slice o_p3 k_p3 c_p3) := xa.cell 5 rfl
 have d6 : w_1.cell? ⟨pa, 6, none⟩ = some (.bool n_p4) := xa.cell 6 rfl
 have d7 : w_1.cell? ⟨pa, 7, none⟩ = some (.slice o_p4 k_p4 c_p4) := xa.cell 7 rfl
 go_big_op; refine hK _ _ rfl trivial ?_; clear hK K d0 d1 d2 d3 d4 d5 d6 d7
 refine sq ?_
 intro K hK
 have k0_1 := kb n1
 replace h1 := h1.k k0_1
 replace h2 := h2.k k0_1
 replace h3 := h3.k k0_1
 replace h4 := h4.k k0_1
 go_big_op
 go_fit (selZ2 (.mk' h1 h2 h3 h4))
 rintro e w_2 ⟨_, rfl, ⟨n_gaa, o_gaa, k_gaa, c_gaa, n_gab, o_gab, k_gab, c_gab, rfl, ga1, ga2⟩, hb_2⟩
 replace hs := hs.bl hb_2
 refine hK _ _ rfl trivial ?_
 clear hK K
 refine sq ?_
 intro K hK
 go_big_op
 go_fit (fRound_any (PN.mk' ga1 ga2) (by omega) (by omega) H0.out)
 rintro e w_3 ⟨v_r, rfl, r, hb_3⟩
 replace hs := hs.bl hb_3
 obtain ⟨n_r, o_r, k_r, c_r, rfl⟩ := r.open2
 refine hK _ _ rfl trivial ?_
 clear hK K
 refine sr ?_
 refine sr ?_
 refine sq ?_
 refine .s2 hs.g0 (fun _ => hs.u0 kb_b1) ?_; clear hs; intro w_4 hs hd4 ho4
 clear xa h1 h2 h3 h4 ga1 ga2
 refine sm ?_
 apply wpSq_end
 refine hK2 _ _ ?_
 refine wp_ret ?_
 try dsimp only [Exit.then, Exit.inBlock]
 obtain ⟨r0_0, r0_1⟩ := hs.g0.f2
 refine bodyPost_ret (v := (.tuple #[(.agg #[.bool n_r, .slice o_r k_r c_r]), (.int .i64 0)])) (by simp [results, Tryz.results67, go_sem, r0_0, r0_1]) rfl ?_
 have k3_4 := ko hd4 ho4
 replace r := r.k k3_4
 exact ⟨_, rfl, r, hs.b⟩
theorem cround2_bad {pa : Nat} (hp : BC w pa x l y m u k v n) (hl : l ≤ 9000000) (hm : m ≤ 4500000) (hk : k ≤ 9000000) (hn : n ≤ 4500000) (h0 : v = 0) :
   Calls Tryz.prog 67 (#[.func (.func 126) #[] #[]] ++ #[.pointer (some ⟨pa, 0, none⟩)]) w fun e w' => e = .returned (.tuple #[.agg #[.bool false, .slice none 0 0], .int .i64 5]) ∧ Below w.heap.size w w' := by
 subst h0
 obtain ⟨n_p1, o_p1, k_p1, c_p1, n_p2, o_p2, k_p2, c_p2, n_p3, o_p3, k_p3, c_p3, n_p4, o_p4, k_p4, c_p4, xa, h1, h2, h3, h4⟩ := hp
 show Calls Tryz.prog 67 #[.func (.func 126) #[] #[], .pointer (some ⟨pa, 0, none⟩)] w _
 go_enter Tryz.func67, Tryz.ntmps67
 have hs := St.nil w
 have lt_xa := xa.lt
 have xaz := xa
 refine wp_seq_k fun K1 hK1 => rg [0, 1] ?_
 refine sq ?_
 refine .al hs ?_; clear hs; intro p_b1 w_1 hs n1 kb_b1
 replace xa := xa.bl n1
 refine sm ?_
 apply wpSq_end
 refine hK1 _ _ ?_
 refine wp_seq_k fun K2 hK2 => rg [0, 1, 2, 3, 4, 5, 6, 7] ?_
 refine sm ?_
 refine sq ?_
 intro K hK
 have d0 : w_1.cell? ⟨pa, 0, none⟩ = some (.bool n_p1) := xa.cell 0 rfl
 have d1 : w_1.cell? ⟨pa, 1, none⟩ = some (.slice o_p1 k_p1 c_p1) := xa.cell 1 rfl
 have d2 : w_1.cell? ⟨pa, 2, none⟩ = some (.bool n_p2) := xa.cell 2 rfl
 have d3 : w_1.cell? ⟨pa, 3, none⟩ = some (.slice o_p2 k_p2 c_p2) := xa.cell 3 rfl
 have d4 : w_1.cell? ⟨pa, 4, none⟩ = some (.bool n_p3) := xa.cell 4 rfl
 have d5 : w_1.cell? ⟨pa, 5, none⟩ = some (.slice o_p3 k_p3 c_p3) := xa.cell 5 rfl
 have d6 : w_1.cell? ⟨pa, 6, none⟩ = some (.bool n_p4) := xa.cell 6 rfl
 have d7 : w_1.cell? ⟨pa, 7, none⟩ = some (.slice o_p4 k_p4 c_p4) := xa.cell 7 rfl
 go_big_op; refine hK _ _ rfl trivial ?_; clear hK K d0 d1 d2 d3 d4 d5 d6 d7
 refine sq ?_
 intro K hK
 have k0_1 := kb n1
 replace h1 := h1.k k0_1
 replace h2 := h2.k k0_1
 replace h3 := h3.k k0_1
 replace h4 := h4.k k0_1
 go_big_op
 go_fit (selZ2 (.mk' h1 h2 h3 h4))
 rintro e w_2 ⟨_, rfl, ⟨n_gaa, o_gaa, k_gaa, c_gaa, n_gab, o_gab, k_gab, c_gab, rfl, ga1, ga2⟩, hb_2⟩
 replace hs := hs.bl hb_2
 refine hK _ _ rfl trivial ?_
 clear hK K
 refine sq ?_
 intro K hK
 go_big_op
 go_fit (fRound_zero (PN.mk' ga1 ga2) (by omega) (by omega) )
 rintro e w_3 ⟨rfl, hb_3⟩
 replace hs := hs.bl hb_3
 refine hK _ _ rfl trivial ?_
 clear hK K
 refine sr ?_
 refine sr ?_
 refine sq ?_
 refine .s2 hs.g0 (fun _ => hs.u0 kb_b1) ?_; clear hs; intro w_4 hs hd4 ho4
 clear xa h1 h2 h3 h4 ga1 ga2
 refine sm ?_
 apply wpSq_end
 refine hK2 _ _ ?_
 refine wp_ret ?_
 try dsimp only [Exit.then, Exit.inBlock]
 obtain ⟨r0_0, r0_1⟩ := hs.g0.f2
 refine bodyPost_ret (v := (.tuple #[(.agg #[.bool false, .slice none 0 0]), (.int .i64 5)])) (by simp [results, Tryz.results67, go_sem, r0_0, r0_1]) rfl ?_
 have hb := hs.b
 exact ⟨rfl, hb⟩
theorem gfRound_ok (ha : CN w va x l y m u k v n) (hl : l ≤ 9000000) (hm : m ≤ 4500000) (hk : k ≤ 9000000) (hn : n ≤ 4500000) (hy : y ≠ 0) (hv : v ≠ 0) :
   Calls Tryz.prog 17 #[va] w fun e w' => ∃ r, e = .returned (.tuple #[r, .int .i64 0]) ∧ PC w' r (rnd x y) (rnd u v) ∧ Below w.heap.size w w' := by
 have HY := hide (And.intro hy hv)
 clear hy hv
 obtain ⟨n_0a, o_0a, k_0a, c_0a, n_0b, o_0b, k_0b, c_0b, n_0c, o_0c, k_0c, c_0c, n_0d, o_0d, k_0d, c_0d, rfl, ha1, ha2, ha3, ha4⟩ := ha
 go_enter Tryz.func17, Tryz.ntmps17
 have hs := St.nil w
 refine wp_seq_k fun K1 hK1 => rg [0, 1, 2] ?_
 refine sq ?_
 refine .al hs ?_; clear hs; intro p_b1 w_1 hs n1 kb_b1
 refine sq ?_
 refine .al hs ?_; clear hs; intro p_b2 w_2 hs n2 kb_b2
 refine sm ?_
 apply wpSq_end
 refine hK1 _ _ ?_
 refine wp_seq_k fun K2 hK2 => rg [0, 1, 2, 3, 4, 5, 6, 7, 8, 9, 10] ?_
 refine sr ?_
 refine sq ?_
 intro K hK
 have x_b1 := hs.g1
 have k0_2 := (kb n1).b n2
 replace ha1 := ha1.k k0_2
 replace ha2 := ha2.k k0_2
 replace ha3 := ha3.k k0_2
 replace ha4 := ha4.k k0_2
 go_big_op
 go_fit (bothZ_ok (fun _ _ ↦ by kernel_rfl) (fun w1 h ↦ cround1_ok (.mk' (x_b1.bl h) (ha1.bl h) (ha2.bl h) (ha3.bl h) (ha4.bl h)) hl hm hk hn HY.out.1) (fun w1 h ↦ cround2_ok (.mk' (x_b1.bl h) (ha1.bl h) (ha2.bl h) (ha3.bl h) (ha4.bl h)) hl hm hk hn HY.out.2))
 rintro e w_3 ⟨v_ga, v_gb, rfl, ga, gb, hb_3⟩
 clear x_b1
 replace hs := hs.bl hb_3
 obtain ⟨n_ga, o_ga, k_ga, c_ga, rfl⟩ := ga.open2
 obtain ⟨n_gb, o_gb, k_gb, c_gb, rfl⟩ := gb.open2
 refine hK _ _ rfl trivial ?_
 clear hK K
 refine sm ?_
 refine sr ?_
 refine sr ?_
 refine sr ?_
 refine sq ?_
 refine .al hs ?_; clear hs; intro p_b3 w_4 hs n4 kb_b3
 refine sq ?_
 refine .al hs ?_; clear hs; intro p_b4 w_5 hs n5 kb_b4
 refine sq ?_
 refine .s2 hs.g1 (fun _ => hs.u1 kb_b3) ?_; clear hs; intro w_6 hs hd6 ho6
 refine sq ?_
 refine .s2 hs.g0 (fun _ => hs.u0 kb_b4) ?_; clear hs; intro w_7 hs hd7 ho7
 refine sm ?_
 apply wpSq_end
 refine hK2 _ _ ?_
 refine wp_seq_k fun K3 hK3 => rg [0, 1, 2, 3, 4, 5] ?_
 refine sq ?_
 refine .r2 hs.g1.f2 ?_
 refine sq ?_
 refine .r2 hs.g0.f2 ?_
 refine sr ?_
 refine sm ?_
 refine sq ?_
 refine .s4 hs.g2 (fun _ => hs.u2 kb_b2) ?_; clear hs; intro w_8 hs hd8 ho8
 refine sm ?_
 apply wpSq_end
 refine hK3 _ _ ?_
 refine wp_ret ?_
 try dsimp only [Exit.then, Exit.inBlock]
 obtain ⟨r0_0, r0_1, r0_2, r0_3⟩ := hs.g2.f4
 refine bodyPost_ret (v := (.tuple #[(.agg #[.bool n_ga, .slice o_ga k_ga c_ga, .bool n_gb, .slice o_gb k_gb c_gb]), (.int .i64 0)])) (by simp [results, Tryz.results17, go_sem, r0_0, r0_1, r0_2, r0_3]) rfl ?_
 have k3_8 := ((((kb n4).b n5).o hd6 ho6).o hd7 ho7).o hd8 ho8
 replace ga := ga.k k3_8
 replace gb := gb.k k3_8
 exact ⟨_, rfl, .mk' ga gb, hs.b⟩
theorem gfRound_bad1 (ha : CN w va x l y m u k v n) (hl : l ≤ 9000000) (hm : m ≤ 4500000) (hk : k ≤ 9000000) (hn : n ≤ 4500000) (hy : y = 0) :
   Calls Tryz.prog 17 #[va] w fun e w' => e = .returned (.tuple #[.agg #[.bool false, .slice none 0 0, .bool false, .slice none 0 0], .int .i64 5]) ∧ Below w.heap.size w w' := by
 have HY := hide hy
 clear hy
 obtain ⟨n_0a, o_0a, k_0a, c_0a, n_0b, o_0b, k_0b, c_0b, n_0c, o_0c, k_0c, c_0c, n_0d, o_0d, k_0d, c_0d, rfl, ha1, ha2, ha3, ha4⟩ := ha
 go_enter Tryz.func17, Tryz.ntmps17
 have hs := St.nil w
 refine wp_seq_k fun K1 hK1 => rg [0, 1, 2] ?_
 refine sq ?_
 refine .al hs ?_; clear hs; intro p_b1 w_1 hs n1 kb_b1
 refine sq ?_
 refine .al hs ?_; clear hs; intro p_b2 w_2 hs n2 kb_b2
 refine sm ?_
 apply wpSq_end
 refine hK1 _ _ ?_
 refine wp_seq_k fun K2 hK2 => rg [0, 1, 2, 3, 4, 5, 6, 7, 8, 9, 10] ?_
 refine sr ?_
 refine sq ?_
 intro K hK
 have x_b1 := hs.g1
 have k0_2 := (kb n1).b n2
 replace ha1 := ha1.k k0_2
 replace ha2 := ha2.k k0_2
 replace ha3 := ha3.k k0_2
 replace ha4 := ha4.k k0_2
 go_big_op
 go_fit (bothZ_bad1 (fun _ _ ↦ by kernel_rfl) (fun w1 h ↦ cround1_bad (.mk' (x_b1.bl h) (ha1.bl h) (ha2.bl h) (ha3.bl h) (ha4.bl h)) hl hm hk hn HY.out))
 rintro e w_3 ⟨rfl, hb_3⟩
 clear x_b1
 replace hs := hs.bl hb_3
 refine hK _ _ rfl trivial ?_
 clear hK K
 refine sm ?_
 refine sr ?_
 refine sr ?_
 refine sr ?_
 refine sq ?_
 refine .al hs ?_; clear hs; intro p_b3 w_4 hs n4 kb_b3
 refine sq ?_
 refine .al hs ?_; clear hs; intro p_b4 w_5 hs n5 kb_b4
 refine sq ?_
 refine .s2 hs.g1 (fun _ => hs.u1 kb_b3) ?_; clear hs; intro w_6 hs hd6 ho6
 refine sq ?_
 refine .s2 hs.g0 (fun _ => hs.u0 kb_b4) ?_; clear hs; intro w_7 hs hd7 ho7
 refine sm ?_
 apply wpSq_end
 refine hK2 _ _ ?_
 refine wp_seq_k fun K3 hK3 => rg [0, 1, 2, 3, 4, 5] ?_
 refine sq ?_
 refine .r2 hs.g1.f2 ?_
 refine sq ?_
 refine .r2 hs.g0.f2 ?_
 refine sr ?_
 refine sm ?_
 refine sq ?_
 refine .s4 hs.g2 (fun _ => hs.u2 kb_b2) ?_; clear hs; intro w_8 hs hd8 ho8
 refine sm ?_
 apply wpSq_end
 refine hK3 _ _ ?_
 refine wp_ret ?_
 try dsimp only [Exit.then, Exit.inBlock]
 obtain ⟨r0_0, r0_1, r0_2, r0_3⟩ := hs.g2.f4
 refine bodyPost_ret (v := (.tuple #[(.agg #[.bool false, .slice none 0 0, .bool false, .slice none 0 0]), (.int .i64 5)])) (by simp [results, Tryz.results17, go_sem, r0_0, r0_1, r0_2, r0_3]) rfl ?_
 have hb := hs.b
 exact ⟨rfl, hb⟩
theorem gfRound_bad2 (ha : CN w va x l y m u k v n) (hl : l ≤ 9000000) (hm : m ≤ 4500000) (hk : k ≤ 9000000) (hn : n ≤ 4500000) (hy : y ≠ 0) (hv : v = 0) :
   Calls Tryz.prog 17 #[va] w fun e w' => e = .returned (.tuple #[.agg #[.bool false, .slice none 0 0, .bool false, .slice none 0 0], .int .i64 5]) ∧ Below w.heap.size w w' := by
 have HY := hide (And.intro hy hv)
 clear hy hv
 obtain ⟨n_0a, o_0a, k_0a, c_0a, n_0b, o_0b, k_0b, c_0b, n_0c, o_0c, k_0c, c_0c, n_0d, o_0d, k_0d, c_0d, rfl, ha1, ha2, ha3, ha4⟩ := ha
 go_enter Tryz.func17, Tryz.ntmps17
 have hs := St.nil w
 refine wp_seq_k fun K1 hK1 => rg [0, 1, 2] ?_
 refine sq ?_
 refine .al hs ?_; clear hs; intro p_b1 w_1 hs n1 kb_b1
 refine sq ?_
 refine .al hs ?_; clear hs; intro p_b2 w_2 hs n2 kb_b2
 refine sm ?_
 apply wpSq_end
 refine hK1 _ _ ?_
 refine wp_seq_k fun K2 hK2 => rg [0, 1, 2, 3, 4, 5, 6, 7, 8, 9, 10] ?_
 refine sr ?_
 refine sq ?_
 intro K hK
 have x_b1 := hs.g1
 have k0_2 := (kb n1).b n2
 replace ha1 := ha1.k k0_2
 replace ha2 := ha2.k k0_2
 replace ha3 := ha3.k k0_2
 replace ha4 := ha4.k k0_2
 go_big_op
 go_fit (bothZ_bad2 (fun _ _ ↦ by kernel_rfl) (fun w1 h ↦ cround1_ok (.mk' (x_b1.bl h) (ha1.bl h) (ha2.bl h) (ha3.bl h) (ha4.bl h)) hl hm hk hn HY.out.1) (fun w1 h ↦ cround2_bad (.mk' (x_b1.bl h) (ha1.bl h) (ha2.bl h) (ha3.bl h) (ha4.bl h)) hl hm hk hn HY.out.2))
 rintro e w_3 ⟨rfl, hb_3⟩
 clear x_b1
 replace hs := hs.bl hb_3
 refine hK _ _ rfl trivial ?_
 clear hK K
 refine sm ?_
 refine sr ?_
 refine sr ?_
 refine sr ?_
 refine sq ?_
 refine .al hs ?_; clear hs; intro p_b3 w_4 hs n4 kb_b3
 refine sq ?_
 refine .al hs ?_; clear hs; intro p_b4 w_5 hs n5 kb_b4
 refine sq ?_
 refine .s2 hs.g1 (fun _ => hs.u1 kb_b3) ?_; clear hs; intro w_6 hs hd6 ho6
 refine sq ?_
 refine .s2 hs.g0 (fun _ => hs.u0 kb_b4) ?_; clear hs; intro w_7 hs hd7 ho7
 refine sm ?_
 apply wpSq_end
 refine hK2 _ _ ?_
 refine wp_seq_k fun K3 hK3 => rg [0, 1, 2, 3, 4, 5] ?_
 refine sq ?_
 refine .r2 hs.g1.f2 ?_
 refine sq ?_
 refine .r2 hs.g0.f2 ?_
 refine sr ?_
 refine sm ?_
 refine sq ?_
 refine .s4 hs.g2 (fun _ => hs.u2 kb_b2) ?_; clear hs; intro w_8 hs hd8 ho8
 refine sm ?_
 apply wpSq_end
 refine hK3 _ _ ?_
 refine wp_ret ?_
 try dsimp only [Exit.then, Exit.inBlock]
 obtain ⟨r0_0, r0_1, r0_2, r0_3⟩ := hs.g2.f4
 refine bodyPost_ret (v := (.tuple #[(.agg #[.bool false, .slice none 0 0, .bool false, .slice none 0 0]), (.int .i64 5)])) (by simp [results, Tryz.results17, go_sem, r0_0, r0_1, r0_2, r0_3]) rfl ?_
 have hb := hs.b
 exact ⟨rfl, hb⟩
theorem gfRound_bad (ha : CN w va x l y m u k v n) (hl : l ≤ 9000000) (hm : m ≤ 4500000) (hk : k ≤ 9000000) (hn : n ≤ 4500000) (h : y = 0 ∨ v = 0) :
   Calls Tryz.prog 17 #[va] w fun e w' => e = .returned (.tuple #[.agg #[.bool false, .slice none 0 0, .bool false, .slice none 0 0], .int .i64 5]) ∧ Below w.heap.size w w' := by
 by_cases hy : y = 0
 · exact gfRound_bad1 ha hl hm hk hn hy
 · exact gfRound_bad2 ha hl hm hk hn hy (h.resolve_left hy)
theorem gfNorm_bad (ha : CN w va x l y m u k v n) (hl : l ≤ 9000000) (hm : m ≤ 4500000) (hk : k ≤ 9000000) (hn : n ≤ 4500000) (h : y = 0 ∨ v = 0) :
   Calls Tryz.prog 11 #[va] w fun e w' => e = .returned (.tuple #[.agg #[.bool false, .slice none 0 0, .bool false, .slice none 0 0], .int .i64 5]) ∧ Below w.heap.size w w' := by
 have HD := hide (show (y * odF y v) * (y * odF y v) = 0 from by rw [od_zero h]; rfl)
 clear h
 obtain ⟨n_0a, o_0a, k_0a, c_0a, n_0b, o_0b, k_0b, c_0b, n_0c, o_0c, k_0c, c_0c, n_0d, o_0d, k_0d, c_0d, rfl, ha1, ha2, ha3, ha4⟩ := ha
 go_enter Tryz.func11, Tryz.ntmps11
 have hs := St.nil w
 refine wp_seq_k fun K1 hK1 => rg [0, 1, 2] ?_
 refine sq ?_
 refine .al hs ?_; clear hs; intro p_b1 w_1 hs n1 kb_b1
 refine sq ?_
 refine .al hs ?_; clear hs; intro p_b2 w_2 hs n2 kb_b2
 refine sm ?_
 apply wpSq_end
 refine hK1 _ _ ?_
 refine wp_seq_k fun K2 hK2 => rg [0, 1, 2, 3, 4, 5, 6, 7, 8] ?_
 refine sq ?_
 intro K hK
 have d0 : w_2.cell? ⟨p_b1, 0, none⟩ = some (.bool n_0a) := hs.g1.cell 0 rfl
 have d1 : w_2.cell? ⟨p_b1, 1, none⟩ = some (.slice o_0a k_0a c_0a) := hs.g1.cell 1 rfl
 have d2 : w_2.cell? ⟨p_b1, 2, none⟩ = some (.bool n_0b) := hs.g1.cell 2 rfl
 have d3 : w_2.cell? ⟨p_b1, 3, none⟩ = some (.slice o_0b k_0b c_0b) := hs.g1.cell 3 rfl
 have d4 : w_2.cell? ⟨p_b1, 4, none⟩ = some (.bool n_0c) := hs.g1.cell 4 rfl
 have d5 : w_2.cell? ⟨p_b1, 5, none⟩ = some (.slice o_0c k_0c c_0c) := hs.g1.cell 5 rfl
 have d6 : w_2.cell? ⟨p_b1, 6, none⟩ = some (.bool n_0d) := hs.g1.cell 6 rfl
 have d7 : w_2.cell? ⟨p_b1, 7, none⟩ = some (.slice o_0d k_0d c_0d) := hs.g1.cell 7 rfl
 go_big_op; refine hK _ _ rfl trivial ?_; clear hK K d0 d1 d2 d3 d4 d5 d6 d7
 refine sq ?_
 intro K hK
 have k0_2 := (kb n1).b n2
 replace ha1 := ha1.k k0_2
 replace ha2 := ha2.k k0_2
 replace ha3 := ha3.k k0_2
 replace ha4 := ha4.k k0_2
 go_big_op
 go_fit (od_any (CN.mk' ha1 ha2 ha3 ha4) (by omega) (by omega) (by omega) (by omega) )
 rintro e w_3 ⟨_, v_da, rfl, ⟨n_gaa, o_gaa, k_gaa, c_gaa, n_gab, o_gab, k_gab, c_gab, rfl, ga1, ga2⟩, da, hb_3⟩
 replace hs := hs.bl hb_3
 obtain ⟨n_da, o_da, k_da, c_da, rfl⟩ := da.open2
 have Lga1 := hide (ga1.lenOf ((zlen_mul (ha1.len) (od_len (ha2.len) (ha4.len)).1)))
 have Lga2 := hide (ga2.lenOf ((zlen_mul (ha3.len) (od_len (ha2.len) (ha4.len)).2)))
 have Lda := hide (da.lenOf ((zlen_mul (ha2.len) (od_len (ha2.len) (ha4.len)).1)))
 refine hK _ _ rfl trivial ?_
 clear hK K
 refine sm ?_
 refine sr ?_
 refine sr ?_
 refine sq ?_
 refine .al hs ?_; clear hs; intro p_b3 w_4 hs n4 kb_b3
 refine sq ?_
 refine .al hs ?_; clear hs; intro p_b4 w_5 hs n5 kb_b4
 refine sq ?_
 refine .s4 hs.g1 (fun _ => hs.u1 kb_b3) ?_; clear hs; intro w_6 hs hd6 ho6
 refine sq ?_
 refine .s2 hs.g0 (fun _ => hs.u0 kb_b4) ?_; clear hs; intro w_7 hs hd7 ho7
 apply wpSq_end
 refine hK2 _ _ ?_
 refine wp_seq_k ?_
 intro K3 hK3
 refine wp_region_f4 [(0, false), (2, false), (3, false), (1, true), (4, true), (5, true), (6, false), (7, false)] [8, 9] [] (fun _ => default) [0, 99, 1, 1, 99, 99, 99, 99, 99, 99] [] (.c hs.g1 (.c hs.g0 .n)) fn fun w_8 n8 => ?_
 replace hs := hs.bl n8
 refine f4 ?_
 refine f2 ?_
 refine f2 ?_
 refine fl fun w_9 n9 => ?_
 replace hs := hs.bl n9
 intro K hK
 have k3_9 := (((((kb n4).b n5).o hd6 ho6).o hd7 ho7).b n8).b n9
 replace ga1 := ga1.k k3_9
 replace ga2 := ga2.k k3_9
 go_big_op
 go_fit (gNorm_any (PN.mk' (ga1.zn Lga1.out) (ga2.zn Lga2.out)) (by omega) (by omega) )
 rintro e w_10 ⟨v_nn, rfl, nn, hb_10⟩
 replace hs := hs.bl hb_10
 obtain ⟨n_nn, o_nn, k_nn, c_nn, rfl⟩ := nn.open2
 have Lnn := hide (nn.lenOf (zlen_add (zlen_mul (Lga1.out) (Lga1.out)) (zlen_mul (Lga2.out) (Lga2.out))))
 refine hK _ _ rfl ⟨hb_10, (And.intro hs.g1 (And.intro hs.g0 trivial))⟩ ?_
 clear hK K
 refine fl fun w_11 n11 => ?_
 replace hs := hs.bl n11
 intro K hK
 have k3_11 := (k3_9.b hb_10).b n11
 replace da := da.k k3_11
 go_big_op
 go_fit (zmul_any (da.zn Lda.out) (da.zn Lda.out) (by omega) (by omega) )
 rintro e w_12 ⟨v_dm, rfl, dm, hb_12⟩
 replace hs := hs.bl hb_12
 replace dm := dm.rd
 obtain ⟨n_dm, o_dm, k_dm, c_dm, rfl⟩ := dm.open2
 have Ldm := hide (dm.lenOf (zlen_mul (Lda.out) (Lda.out)))
 rw [HD.out] at dm Ldm
 refine hK _ _ rfl ⟨hb_12, (And.intro hs.g1 (And.intro hs.g0 trivial))⟩ ?_
 clear hK K
 refine fl fun w_13 n13 => ?_
 replace hs := hs.bl n13
 intro K hK
 have k10_13 := ((kb n11).b hb_12).b n13
 replace nn := nn.k k10_13
 have k12_13 := kb n13
 replace dm := dm.k k12_13
 go_big_op
 go_fit (fmake_zero (nn.zn Lnn.out) (dm.zn Ldm.out) (by omega) (by omega) )
 rintro e w_14 ⟨rfl, hb_14⟩
 replace hs := hs.bl hb_14
 refine hK _ _ rfl ⟨hb_14, (And.intro hs.g1 (And.intro hs.g0 trivial))⟩ ?_
 clear hK K
 refine f0 ?_
 refine f0 ?_
 refine e0 hs ?_; clear hs; intro w_15 hs n15
 clear ha1 ha2 ha3 ha4 nn dm
 refine tl ?_
 refine .s4 hs.g2 (fun _ => hs.u2 kb_b2) ?_ (e := fun _ hs => (And.intro hs.g1 (And.intro hs.g0 True.intro))); clear hs; intro w_16 hs hd16 ho16
 refine tl ?_
 refine .mv ?_ (e := (And.intro hs.g1 (And.intro hs.g0 True.intro)))
 apply wpTail_end
 refine hK3 _ _ ?_
 refine wp_ret ?_
 try dsimp only [Exit.then, Exit.inBlock]
 obtain ⟨r0_0, r0_1, r0_2, r0_3⟩ := hs.g2.f4
 refine bodyPost_ret (v := (.tuple #[(.agg #[.bool false, .slice none 0 0, .bool false, .slice none 0 0]), (.int .i64 5)])) (by simp [results, Tryz.results11, go_sem, r0_0, r0_1, r0_2, r0_3]) rfl ?_
 have hb := hs.b
 exact ⟨rfl, hb⟩
theorem gfConj_bad (ha : CN w va x l y m u k v n) (hl : l ≤ 9000000) (hm : m ≤ 4500000) (hk : k ≤ 9000000) (hn : n ≤ 4500000) (h : y = 0 ∨ v = 0) :
   Calls Tryz.prog 12 #[va] w fun e w' => e = .returned (.tuple #[.agg #[.bool false, .slice none 0 0, .bool false, .slice none 0 0, .bool false, .slice none 0 0, .bool false, .slice none 0 0], .int .i64 5]) ∧ Below w.heap.size w w' := by
 have H := hide h
 clear h
 obtain ⟨n_0a, o_0a, k_0a, c_0a, n_0b, o_0b, k_0b, c_0b, n_0c, o_0c, k_0c, c_0c, n_0d, o_0d, k_0d, c_0d, rfl, ha1, ha2, ha3, ha4⟩ := ha
 go_enter Tryz.func12, Tryz.ntmps12
 have hs := St.nil w
 refine wp_seq_k fun K1 hK1 => rg [0, 1, 2] ?_
 refine sq ?_
 refine .al hs ?_; clear hs; intro p_b1 w_1 hs n1 kb_b1
 refine sq ?_
 refine .al hs ?_; clear hs; intro p_b2 w_2 hs n2 kb_b2
 refine sm ?_
 apply wpSq_end
 refine hK1 _ _ ?_
 refine wp_seq_k ?_
 intro K2 hK2
 refine wp_region_f4 [(0, false), (1, false), (2, false), (3, false), (4, false), (6, false), (7, false), (8, false), (5, true), (9, false), (10, false), (11, true), (12, false), (13, false)] [14, 15] [] (fun _ => default) [99, 0, 99, 99, 0, 99, 99, 99, 0, 99, 99, 99, 99, 99, 99, 99] [] (.c hs.g1 .n) fn fun w_3 n3 => ?_
 replace hs := hs.bl n3
 refine f0 ?_
 apply wpFl_ld rfl rfl; (case h1 => intro w' hC K hK; have c0 := Bs.cell hC 0 rfl; have c1 := Bs.cell hC 1 rfl; have c2 := Bs.cell hC 2 rfl; have c3 := Bs.cell hC 3 rfl; go_big_op; exact hK); iterate 4 kernel_rfl
 refine f0 ?_
 refine f0 ?_
 apply wpFl_ld rfl rfl; (case h1 => intro w' hC K hK; have c4 := Bs.cell hC 4 rfl; have c5 := Bs.cell hC 5 rfl; go_big_op; exact hK); iterate 4 kernel_rfl
 refine f0 ?_
 refine f0 ?_
 apply wpFl_ld rfl rfl; (case h1 => intro w' hC K hK; have c6 := Bs.cell hC 6 rfl; have c7 := Bs.cell hC 7 rfl; go_big_op; exact hK); iterate 4 kernel_rfl
 refine fl fun w_4 n4 => ?_
 replace hs := hs.bl n4
 intro K hK
 have k0_4 := (((kb n1).b n2).b n3).b n4
 replace ha3 := ha3.k k0_4
 go_big_op
 go_fit (zneg_any ha3 (by omega) )
 rintro e w_5 ⟨v_g, rfl, g, hb_5⟩
 replace hs := hs.bl hb_5
 replace g := g.rd
 obtain ⟨n_g, o_g, k_g, c_g, rfl⟩ := g.open2
 have Lg := hide (g.lenOf (zlen_neg (ha3.len)))
 refine hK _ _ rfl ⟨hb_5, (And.intro hs.g1 trivial)⟩ ?_
 clear hK K
 refine f0 ?_
 refine f0 ?_
 refine fl fun w_6 n6 => ?_
 replace hs := hs.bl n6
 intro K hK
 have k0_6 := (k0_4.b hb_5).b n6
 replace ha1 := ha1.k k0_6
 replace ha2 := ha2.k k0_6
 have k5_6 := kb n6
 replace g := g.k k5_6
 replace ha4 := ha4.k k0_6
 go_big_op
 go_fit (low_bad (CN.mk' ha1 ha2 (g.zn Lg.out) ha4) (by omega) (by omega) (by omega) (by omega) H.out)
 rintro e w_7 ⟨rfl, hb_7⟩
 replace hs := hs.bl hb_7
 refine hK _ _ rfl ⟨hb_7, (And.intro hs.g1 trivial)⟩ ?_
 clear hK K
 refine f0 ?_
 refine f0 ?_
 refine e0 hs ?_; clear hs; intro w_8 hs n8
 refine tl ?_
 intro K hK
 have xs := hs.g0
 have d0 : w_8.cell? ⟨p_b2, 0, none⟩ = some (.bool false) := hs.g0.cell 0 rfl
 have d1 : w_8.cell? ⟨p_b2, 1, none⟩ = some (.slice none 0 0) := hs.g0.cell 1 rfl
 have d2 : w_8.cell? ⟨p_b2, 2, none⟩ = some (.bool false) := hs.g0.cell 2 rfl
 have d3 : w_8.cell? ⟨p_b2, 3, none⟩ = some (.slice none 0 0) := hs.g0.cell 3 rfl
 have d4 : w_8.cell? ⟨p_b2, 4, none⟩ = some (.bool false) := hs.g0.cell 4 rfl
 have d5 : w_8.cell? ⟨p_b2, 5, none⟩ = some (.slice none 0 0) := hs.g0.cell 5 rfl
 have d6 : w_8.cell? ⟨p_b2, 6, none⟩ = some (.bool false) := hs.g0.cell 6 rfl
 have d7 : w_8.cell? ⟨p_b2, 7, none⟩ = some (.slice none 0 0) := hs.g0.cell 7 rfl
 have f0 := xs.free 0; have f1 := xs.free 1; have f2 := xs.free 2; have f3 := xs.free 3; have f4 := xs.free 4; have f5 := xs.free 5; have f6 := xs.free 6; have f7 := xs.free 7
 go_big_op
 have hd9 := xs.nod rfl rfl
 obtain ⟨w_9_0, eW, xs_0, ho_0⟩ : ∃ w', ((((w_8.setCell ⟨p_b2, 0, none⟩ (.bool false)).setCell ⟨p_b2, 1, none⟩ (.slice none 0 0)).setCell ⟨p_b2, 2, none⟩ (.bool false)).setCell ⟨p_b2, 3, none⟩ (.slice none 0 0)) = w' ∧ Bs w' p_b2 #[.bool false, .slice none 0 0, .bool false, .slice none 0 0, .bool false, .slice none 0 0, .bool false, .slice none 0 0] 28 ∧ Only p_b2 w_8 w' := xs.setN [(0, .bool false), (1, .slice none 0 0), (2, .bool false), (3, .slice none 0 0)]
 rw [eW]; clear eW
 obtain ⟨w_9, eW, xs', ho_4⟩ : ∃ w', ((((w_9_0.setCell ⟨p_b2, 4, none⟩ (.bool false)).setCell ⟨p_b2, 5, none⟩ (.slice none 0 0)).setCell ⟨p_b2, 6, none⟩ (.bool false)).setCell ⟨p_b2, 7, none⟩ (.slice none 0 0)) = w' ∧ Bs w' p_b2 #[.bool false, .slice none 0 0, .bool false, .slice none 0 0, .bool false, .slice none 0 0, .bool false, .slice none 0 0] 28 ∧ Only p_b2 w_9_0 w' := xs_0.setN [(4, .bool false), (5, .slice none 0 0), (6, .bool false), (7, .slice none 0 0)]
 rw [eW]; clear eW xs_0
 have ho9 := (ho_0.trans ho_4)
 clear ho_0 ho_4 d0 d1 d2 d3 d4 d5 d6 d7 f0 f1 f2 f3 f4 f5 f6 f7 xs
 replace hs := hs.u0 kb_b2 xs' ho9; clear xs'
 refine hK _ _ rfl (And.intro hs.g1 True.intro) ?_; clear hK K
 refine tl ?_
 refine .mv ?_ (e := (And.intro hs.g1 True.intro))
 apply wpTail_end
 refine hK2 _ _ ?_
 refine wp_ret ?_
 try dsimp only [Exit.then, Exit.inBlock]
 have r0_0 : w_9.cell? ⟨p_b2, 0, none⟩ = some (.bool false) := hs.g0.cell 0 rfl
 have r0_1 : w_9.cell? ⟨p_b2, 1, none⟩ = some (.slice none 0 0) := hs.g0.cell 1 rfl
 have r0_2 : w_9.cell? ⟨p_b2, 2, none⟩ = some (.bool false) := hs.g0.cell 2 rfl
 have r0_3 : w_9.cell? ⟨p_b2, 3, none⟩ = some (.slice none 0 0) := hs.g0.cell 3 rfl
 have r0_4 : w_9.cell? ⟨p_b2, 4, none⟩ = some (.bool false) := hs.g0.cell 4 rfl
 have r0_5 : w_9.cell? ⟨p_b2, 5, none⟩ = some (.slice none 0 0) := hs.g0.cell 5 rfl
 have r0_6 : w_9.cell? ⟨p_b2, 6, none⟩ = some (.bool false) := hs.g0.cell 6 rfl
 have r0_7 : w_9.cell? ⟨p_b2, 7, none⟩ = some (.slice none 0 0) := hs.g0.cell 7 rfl
 refine bodyPost_ret (v := (.tuple #[(.agg #[.bool false, .slice none 0 0, .bool false, .slice none 0 0, .bool false, .slice none 0 0, .bool false, .slice none 0 0]), (.int .i64 5)])) (by simp [results, Tryz.results12, go_sem, r0_0, r0_1, r0_2, r0_3, r0_4, r0_5, r0_6, r0_7]) rfl ?_
 have hb := hs.b
 exact ⟨rfl, hb⟩
theorem gfOf_any (ha : PN w va x l y m) (hl : l ≤ 10000000) (hm : m ≤ 10000000) :
   Calls Tryz.prog 36 #[va] w fun e w' => ∃ r, e = .returned r ∧ CC w' r (rv x 1).num (rv x 1).den (rv y 1).num (rv y 1).den ∧ Below w.heap.size w w' := by
 have H1 := hide (show (1 : Int) ≠ 0 by decide)
 obtain ⟨n_0a, o_0a, k_0a, c_0a, n_0b, o_0b, k_0b, c_0b, rfl, ha1, ha2⟩ := ha
 go_enter Tryz.func36, Tryz.ntmps36
 have hs := St.nil w
 refine wp_seq_k fun K1 hK1 => rg [0, 1] ?_
 refine sq ?_
 refine .al hs ?_; clear hs; intro p_b1 w_1 hs n1 kb_b1
 refine sq ?_
 refine .al hs ?_; clear hs; intro p_b2 w_2 hs n2 kb_b2
 apply wpSq_end
 refine hK1 _ _ ?_
 refine wp_seq_k ?_
 intro K2 hK2
 refine wp_region_f4 [(0, false), (1, true), (2, true), (3, true), (4, false), (5, false), (6, false)] [8, 9] [7] (fun j => (.cells #[.bool false, .slice none 0 0, .bool false, .slice none 0 0, .bool false, .slice none 0 0, .bool false, .slice none 0 0] 28)) [0, 99, 99, 99, 99, 99, 99, 99, 99, 99] [] (.c hs.g1 .n) (fm fn) fun w_3 n3 => ?_
 replace hs := hs.bl n3
 have hlB := hs.lt; have hkB := hs.k
 refine f4 ?_
 refine fl fun w_4 n4 => ?_
 replace hs := hs.bl n4
 intro K hK
 go_big_op
 go_fit (from_any (1 : Int) _ (by decide) (by decide))
 rintro e w_5 ⟨v_g, rfl, g, hb_5⟩
 replace hs := hs.bl hb_5
 replace g := g.rd
 obtain ⟨n_g, o_g, k_g, c_g, rfl⟩ := g.open2
 have Lg := hide (g.lenOf (zlen_i (1 : Int) (by decide) (by decide)))
 refine hK _ _ rfl ⟨hb_5, (And.intro hs.g1 trivial)⟩ ?_
 clear hK K
 refine fl fun w_6 n6 => ?_
 replace hs := hs.bl n6
 intro K hK
 have k0_6 := (((((kb n1).b n2).b n3).b n4).b hb_5).b n6
 replace ha1 := ha1.k k0_6
 replace ha2 := ha2.k k0_6
 have k5_6 := kb n6
 replace g := g.k k5_6
 go_big_op
 go_fit (over_c (PN.mk' ha1 ha2) (g.zn Lg.out)  )
 rintro e w_7 ⟨_, rfl, ⟨n_ov1, o_ov1, k_ov1, c_ov1, n_ov2, o_ov2, k_ov2, c_ov2, n_ov3, o_ov3, k_ov3, c_ov3, n_ov4, o_ov4, k_ov4, c_ov4, rfl, ov1, ov2, ov3, ov4⟩, hb_7⟩
 replace hs := hs.bl hb_7
 refine hK _ _ rfl ⟨hb_7, (And.intro hs.g1 trivial)⟩ ?_
 clear hK K
 refine fl fun w_8 n8 => ?_
 replace hs := hs.bl n8
 intro K hK
 have k7_8 := kb n8
 replace ov1 := ov1.k k7_8
 replace ov2 := ov2.k k7_8
 replace ov3 := ov3.k k7_8
 replace ov4 := ov4.k k7_8
 go_big_op
 go_fit (low_ok (CN.mk' ov1 ov2 ov3 ov4) (by omega) (by omega) (by omega) (by omega) H1.out H1.out)
 rintro e w_9 ⟨_, rfl, ⟨n_r1, o_r1, k_r1, c_r1, n_r2, o_r2, k_r2, c_r2, n_r3, o_r3, k_r3, c_r3, n_r4, o_r4, k_r4, c_r4, rfl, r1, r2, r3, r4⟩, hb_9⟩
 replace hs := hs.bl hb_9
 refine hK _ _ rfl ⟨hb_9, (And.intro hs.g1 trivial)⟩ ?_
 clear hK K
 refine fmv ?_
 refine f0 ?_
 refine f0 ?_
 refine e1 hs hlB hkB ?_; clear hs hlB hkB; intro w_10 p_b3 hs n10 kb_b3
 refine tl ?_
 intro K hK
 have xs := hs.g0
 have d0 : w_10.cell? ⟨p_b3, 0, none⟩ = some (.bool false) := hs.g0.cell 0 rfl
 have d1 : w_10.cell? ⟨p_b3, 1, none⟩ = some (.slice none 0 0) := hs.g0.cell 1 rfl
 have d2 : w_10.cell? ⟨p_b3, 2, none⟩ = some (.bool false) := hs.g0.cell 2 rfl
 have d3 : w_10.cell? ⟨p_b3, 3, none⟩ = some (.slice none 0 0) := hs.g0.cell 3 rfl
 have d4 : w_10.cell? ⟨p_b3, 4, none⟩ = some (.bool false) := hs.g0.cell 4 rfl
 have d5 : w_10.cell? ⟨p_b3, 5, none⟩ = some (.slice none 0 0) := hs.g0.cell 5 rfl
 have d6 : w_10.cell? ⟨p_b3, 6, none⟩ = some (.bool false) := hs.g0.cell 6 rfl
 have d7 : w_10.cell? ⟨p_b3, 7, none⟩ = some (.slice none 0 0) := hs.g0.cell 7 rfl
 have f0 := xs.free 0; have f1 := xs.free 1; have f2 := xs.free 2; have f3 := xs.free 3; have f4 := xs.free 4; have f5 := xs.free 5; have f6 := xs.free 6; have f7 := xs.free 7
 go_big_op
 have hd11 := xs.nod rfl rfl
 obtain ⟨w_11_0, eW, xs_0, ho_0⟩ : ∃ w', ((((w_10.setCell ⟨p_b3, 0, none⟩ (.bool n_r1)).setCell ⟨p_b3, 1, none⟩ (.slice o_r1 k_r1 c_r1)).setCell ⟨p_b3, 2, none⟩ (.bool n_r2)).setCell ⟨p_b3, 3, none⟩ (.slice o_r2 k_r2 c_r2)) = w' ∧ Bs w' p_b3 #[.bool n_r1, .slice o_r1 k_r1 c_r1, .bool n_r2, .slice o_r2 k_r2 c_r2, .bool false, .slice none 0 0, .bool false, .slice none 0 0] 28 ∧ Only p_b3 w_10 w' := xs.setN [(0, .bool n_r1), (1, .slice o_r1 k_r1 c_r1), (2, .bool n_r2), (3, .slice o_r2 k_r2 c_r2)]
 rw [eW]; clear eW
 obtain ⟨w_11, eW, xs', ho_4⟩ : ∃ w', ((((w_11_0.setCell ⟨p_b3, 4, none⟩ (.bool n_r3)).setCell ⟨p_b3, 5, none⟩ (.slice o_r3 k_r3 c_r3)).setCell ⟨p_b3, 6, none⟩ (.bool n_r4)).setCell ⟨p_b3, 7, none⟩ (.slice o_r4 k_r4 c_r4)) = w' ∧ Bs w' p_b3 #[.bool n_r1, .slice o_r1 k_r1 c_r1, .bool n_r2, .slice o_r2 k_r2 c_r2, .bool n_r3, .slice o_r3 k_r3 c_r3, .bool n_r4, .slice o_r4 k_r4 c_r4] 28 ∧ Only p_b3 w_11_0 w' := xs_0.setN [(4, .bool n_r3), (5, .slice o_r3 k_r3 c_r3), (6, .bool n_r4), (7, .slice o_r4 k_r4 c_r4)]
 rw [eW]; clear eW xs_0
 have ho11 := (ho_0.trans ho_4)
 clear ho_0 ho_4 d0 d1 d2 d3 d4 d5 d6 d7 f0 f1 f2 f3 f4 f5 f6 f7 xs
 replace hs := hs.u0 kb_b3 xs' ho11; clear xs'
 refine hK _ _ rfl (And.intro hs.g2 True.intro) ?_; clear hK K
 refine tl ?_
 refine .mv ?_ (e := (And.intro hs.g2 True.intro))
 apply wpTail_end
 refine hK2 _ _ ?_
 refine wp_seq_k fun K3 hK3 => rg [0, 1] ?_
 refine sq ?_
 intro K hK
 have d0 : w_11.cell? ⟨p_b3, 0, none⟩ = some (.bool n_r1) := hs.g0.cell 0 rfl
 have d1 : w_11.cell? ⟨p_b3, 1, none⟩ = some (.slice o_r1 k_r1 c_r1) := hs.g0.cell 1 rfl
 have d2 : w_11.cell? ⟨p_b3, 2, none⟩ = some (.bool n_r2) := hs.g0.cell 2 rfl
 have d3 : w_11.cell? ⟨p_b3, 3, none⟩ = some (.slice o_r2 k_r2 c_r2) := hs.g0.cell 3 rfl
 have d4 : w_11.cell? ⟨p_b3, 4, none⟩ = some (.bool n_r3) := hs.g0.cell 4 rfl
 have d5 : w_11.cell? ⟨p_b3, 5, none⟩ = some (.slice o_r3 k_r3 c_r3) := hs.g0.cell 5 rfl
 have d6 : w_11.cell? ⟨p_b3, 6, none⟩ = some (.bool n_r4) := hs.g0.cell 6 rfl
 have d7 : w_11.cell? ⟨p_b3, 7, none⟩ = some (.slice o_r4 k_r4 c_r4) := hs.g0.cell 7 rfl
 go_big_op; refine hK _ _ rfl trivial ?_; clear hK K d0 d1 d2 d3 d4 d5 d6 d7
 refine sq ?_
 intro K hK
 have xs := hs.g1
 have d0 : w_11.cell? ⟨p_b2, 0, none⟩ = some (.bool false) := hs.g1.cell 0 rfl
 have d1 : w_11.cell? ⟨p_b2, 1, none⟩ = some (.slice none 0 0) := hs.g1.cell 1 rfl
 have d2 : w_11.cell? ⟨p_b2, 2, none⟩ = some (.bool false) := hs.g1.cell 2 rfl
 have d3 : w_11.cell? ⟨p_b2, 3, none⟩ = some (.slice none 0 0) := hs.g1.cell 3 rfl
 have d4 : w_11.cell? ⟨p_b2, 4, none⟩ = some (.bool false) := hs.g1.cell 4 rfl
 have d5 : w_11.cell? ⟨p_b2, 5, none⟩ = some (.slice none 0 0) := hs.g1.cell 5 rfl
 have d6 : w_11.cell? ⟨p_b2, 6, none⟩ = some (.bool false) := hs.g1.cell 6 rfl
 have d7 : w_11.cell? ⟨p_b2, 7, none⟩ = some (.slice none 0 0) := hs.g1.cell 7 rfl
 have f0 := xs.free 0; have f1 := xs.free 1; have f2 := xs.free 2; have f3 := xs.free 3; have f4 := xs.free 4; have f5 := xs.free 5; have f6 := xs.free 6; have f7 := xs.free 7
 go_big_op
 have hd12 := xs.nod rfl rfl
 obtain ⟨w_12_0, eW, xs_0, ho_0⟩ : ∃ w', ((((w_11.setCell ⟨p_b2, 0, none⟩ (.bool n_r1)).setCell ⟨p_b2, 1, none⟩ (.slice o_r1 k_r1 c_r1)).setCell ⟨p_b2, 2, none⟩ (.bool n_r2)).setCell ⟨p_b2, 3, none⟩ (.slice o_r2 k_r2 c_r2)) = w' ∧ Bs w' p_b2 #[.bool n_r1, .slice o_r1 k_r1 c_r1, .bool n_r2, .slice o_r2 k_r2 c_r2, .bool false, .slice none 0 0, .bool false, .slice none 0 0] 28 ∧ Only p_b2 w_11 w' := xs.setN [(0, .bool n_r1), (1, .slice o_r1 k_r1 c_r1), (2, .bool n_r2), (3, .slice o_r2 k_r2 c_r2)]
 rw [eW]; clear eW
 obtain ⟨w_12, eW, xs', ho_4⟩ : ∃ w', ((((w_12_0.setCell ⟨p_b2, 4, none⟩ (.bool n_r3)).setCell ⟨p_b2, 5, none⟩ (.slice o_r3 k_r3 c_r3)).setCell ⟨p_b2, 6, none⟩ (.bool n_r4)).setCell ⟨p_b2, 7, none⟩ (.slice o_r4 k_r4 c_r4)) = w' ∧ Bs w' p_b2 #[.bool n_r1, .slice o_r1 k_r1 c_r1, .bool n_r2, .slice o_r2 k_r2 c_r2, .bool n_r3, .slice o_r3 k_r3 c_r3, .bool n_r4, .slice o_r4 k_r4 c_r4] 28 ∧ Only p_b2 w_12_0 w' := xs_0.setN [(4, .bool n_r3), (5, .slice o_r3 k_r3 c_r3), (6, .bool n_r4), (7, .slice o_r4 k_r4 c_r4)]
 rw [eW]; clear eW xs_0
 have ho12 := (ho_0.trans ho_4)
 clear ho_0 ho_4 d0 d1 d2 d3 d4 d5 d6 d7 f0 f1 f2 f3 f4 f5 f6 f7 xs
 replace hs := hs.u1 kb_b2 xs' ho12; clear xs'
 clear g ov1 ov2 ov3 ov4 ha1 ha2
 refine hK _ _ rfl trivial ?_; clear hK K
 apply wpSq_end
 refine hK3 _ _ ?_
 refine wp_ret ?_
 try dsimp only [Exit.then, Exit.inBlock]
 have r0_0 : w_12.cell? ⟨p_b2, 0, none⟩ = some (.bool n_r1) := hs.g1.cell 0 rfl
 have r0_1 : w_12.cell? ⟨p_b2, 1, none⟩ = some (.slice o_r1 k_r1 c_r1) := hs.g1.cell 1 rfl
 have r0_2 : w_12.cell? ⟨p_b2, 2, none⟩ = some (.bool n_r2) := hs.g1.cell 2 rfl
 have r0_3 : w_12.cell? ⟨p_b2, 3, none⟩ = some (.slice o_r2 k_r2 c_r2) := hs.g1.cell 3 rfl
 have r0_4 : w_12.cell? ⟨p_b2, 4, none⟩ = some (.bool n_r3) := hs.g1.cell 4 rfl
 have r0_5 : w_12.cell? ⟨p_b2, 5, none⟩ = some (.slice o_r3 k_r3 c_r3) := hs.g1.cell 5 rfl
 have r0_6 : w_12.cell? ⟨p_b2, 6, none⟩ = some (.bool n_r4) := hs.g1.cell 6 rfl
 have r0_7 : w_12.cell? ⟨p_b2, 7, none⟩ = some (.slice o_r4 k_r4 c_r4) := hs.g1.cell 7 rfl
 refine bodyPost_ret (v := (.agg #[.bool n_r1, .slice o_r1 k_r1 c_r1, .bool n_r2, .slice o_r2 k_r2 c_r2, .bool n_r3, .slice o_r3 k_r3 c_r3, .bool n_r4, .slice o_r4 k_r4 c_r4])) (by simp [results, Tryz.results36, go_sem, r0_0, r0_1, r0_2, r0_3, r0_4, r0_5, r0_6, r0_7]) rfl ?_
 have k9_12 := ((kb n10).o hd11 ho11).o hd12 ho12
 replace r1 := r1.k k9_12
 replace r2 := r2.k k9_12
 replace r3 := r3.k k9_12
 replace r4 := r4.k k9_12
 exact ⟨_, rfl, .mk' r1 r2 r3 r4, hs.b⟩
theorem rfZ_any {z : Int} (ha : ZN w va z l) (hl : l ≤ 10000000) :
   Calls Tryz.prog 90 #[va] w fun e w' => ∃ r, e = .returned r ∧ PC w' r z 1 ∧ Below w.heap.size w w' := by
 obtain ⟨n_0, o_0, k_0, c_0, rfl⟩ := ha.open2
 go_enter Tryz.func90, Tryz.ntmps90
 have hs := St.nil w
 refine wp_seq_k fun K1 hK1 => rg [0, 1] ?_
 refine sq ?_
 refine .al hs ?_; clear hs; intro p_b1 w_1 hs n1 kb_b1
 refine sq ?_
 refine .al hs ?_; clear hs; intro p_b2 w_2 hs n2 kb_b2
 apply wpSq_end
 refine hK1 _ _ ?_
 refine wp_seq_k fun K2 hK2 => rg [0, 1, 2, 3, 4] ?_
 refine sq ?_
 refine .r2 hs.g1.f2 ?_
 refine sq ?_
 intro K hK
 have k0_2 := (kb n1).b n2
 replace ha := ha.k k0_2
 go_big_op
 go_fit (rnorm_any ha (by omega) )
 rintro e w_3 ⟨v_g, rfl, g, hb_3⟩
 replace hs := hs.bl hb_3
 replace g := g.rd
 obtain ⟨n_g, o_g, k_g, c_g, rfl⟩ := g.open2
 refine hK _ _ rfl trivial ?_
 clear hK K
 refine sq ?_
 intro K hK
 go_big_op
 go_fit (ri_any 1 _ (by decide) (by decide))
 rintro e w_4 ⟨v_rb, rfl, rb, hb_4⟩
 replace hs := hs.bl hb_4
 replace rb := rb.rd
 obtain ⟨n_rb, o_rb, k_rb, c_rb, rfl⟩ := rb.open2
 refine hK _ _ rfl trivial ?_
 clear hK K
 refine sr ?_
 refine sq ?_
 refine .s4 hs.g0 (fun _ => hs.u0 kb_b2) ?_; clear hs; intro w_5 hs hd5 ho5
 apply wpSq_end
 refine hK2 _ _ ?_
 refine wp_ret ?_
 try dsimp only [Exit.then, Exit.inBlock]
 obtain ⟨r0_0, r0_1, r0_2, r0_3⟩ := hs.g0.f4
 refine bodyPost_ret (v := (.agg #[.bool n_g, .slice o_g k_g c_g, .bool n_rb, .slice o_rb k_rb c_rb])) (by simp [results, Tryz.results90, go_sem, r0_0, r0_1, r0_2, r0_3]) rfl ?_
 have k3_5 := (kb hb_4).o hd5 ho5
 replace g := g.k k3_5
 have k4_5 := ko hd5 ho5
 replace rb := rb.k k4_5
 exact ⟨_, rfl, .mk' g rb, hs.b⟩
theorem r7Of_any (ha : PN w va x l y m) (hl : l ≤ 10000000) (hm : m ≤ 10000000) :
   Calls Tryz.prog 37 #[va] w fun e w' => ∃ r, e = .returned r ∧ CC w' r x 1 y 1 ∧ Below w.heap.size w w' := by
 obtain ⟨n_0a, o_0a, k_0a, c_0a, n_0b, o_0b, k_0b, c_0b, rfl, ha1, ha2⟩ := ha
 go_enter Tryz.func37, Tryz.ntmps37
 have hs := St.nil w
 refine wp_seq_k fun K1 hK1 => rg [0, 1] ?_
 refine sq ?_
 refine .al hs ?_; clear hs; intro p_b1 w_1 hs n1 kb_b1
 refine sq ?_
 refine .al hs ?_; clear hs; intro p_b2 w_2 hs n2 kb_b2
 apply wpSq_end
 refine hK1 _ _ ?_
 refine wp_seq_k ?_
 intro K2 hK2
 refine wp_region_f4 [(0, false), (1, false), (3, false), (4, false), (2, true), (5, true), (6, false)] [7] [] (fun _ => default) [99, 0, 99, 99, 0, 99, 99, 99] [] (.c hs.g1 .n) fn fun w_3 n3 => ?_
 replace hs := hs.bl n3
 refine f0 ?_
 refine f4 ?_
 refine f0 ?_
 refine f4 ?_
 refine fl fun w_4 n4 => ?_
 replace hs := hs.bl n4
 intro K hK
 have k0_4 := (((kb n1).b n2).b n3).b n4
 replace ha1 := ha1.k k0_4
 go_big_op
 go_fit (rfZ_any ha1 (by omega))
 rintro e w_5 ⟨_, rfl, ⟨n_gaa, o_gaa, k_gaa, c_gaa, n_gab, o_gab, k_gab, c_gab, rfl, ga1, ga2⟩, hb_5⟩
 replace hs := hs.bl hb_5
 refine hK _ _ rfl ⟨hb_5, (And.intro hs.g1 trivial)⟩ ?_
 clear hK K
 refine fl fun w_6 n6 => ?_
 replace hs := hs.bl n6
 intro K hK
 have k0_6 := (k0_4.b hb_5).b n6
 replace ha2 := ha2.k k0_6
 go_big_op
 go_fit (rfZ_any ha2 (by omega))
 rintro e w_7 ⟨_, rfl, ⟨n_gba, o_gba, k_gba, c_gba, n_gbb, o_gbb, k_gbb, c_gbb, rfl, gb1, gb2⟩, hb_7⟩
 replace hs := hs.bl hb_7
 refine hK _ _ rfl ⟨hb_7, (And.intro hs.g1 trivial)⟩ ?_
 clear hK K
 refine f0 ?_
 refine e0 hs ?_; clear hs; intro w_8 hs n8
 refine tl ?_
 intro K hK
 have xs := hs.g0
 have d0 : w_8.cell? ⟨p_b2, 0, none⟩ = some (.bool false) := hs.g0.cell 0 rfl
 have d1 : w_8.cell? ⟨p_b2, 1, none⟩ = some (.slice none 0 0) := hs.g0.cell 1 rfl
 have d2 : w_8.cell? ⟨p_b2, 2, none⟩ = some (.bool false) := hs.g0.cell 2 rfl
 have d3 : w_8.cell? ⟨p_b2, 3, none⟩ = some (.slice none 0 0) := hs.g0.cell 3 rfl
 have d4 : w_8.cell? ⟨p_b2, 4, none⟩ = some (.bool false) := hs.g0.cell 4 rfl
 have d5 : w_8.cell? ⟨p_b2, 5, none⟩ = some (.slice none 0 0) := hs.g0.cell 5 rfl
 have d6 : w_8.cell? ⟨p_b2, 6, none⟩ = some (.bool false) := hs.g0.cell 6 rfl
 have d7 : w_8.cell? ⟨p_b2, 7, none⟩ = some (.slice none 0 0) := hs.g0.cell 7 rfl
 have f0 := xs.free 0; have f1 := xs.free 1; have f2 := xs.free 2; have f3 := xs.free 3; have f4 := xs.free 4; have f5 := xs.free 5; have f6 := xs.free 6; have f7 := xs.free 7
 go_big_op
 have hd9 := xs.nod rfl rfl
 obtain ⟨w_9_0, eW, xs_0, ho_0⟩ : ∃ w', ((((w_8.setCell ⟨p_b2, 0, none⟩ (.bool n_gaa)).setCell ⟨p_b2, 1, none⟩ (.slice o_gaa k_gaa c_gaa)).setCell ⟨p_b2, 2, none⟩ (.bool n_gab)).setCell ⟨p_b2, 3, none⟩ (.slice o_gab k_gab c_gab)) = w' ∧ Bs w' p_b2 #[.bool n_gaa, .slice o_gaa k_gaa c_gaa, .bool n_gab, .slice o_gab k_gab c_gab, .bool false, .slice none 0 0, .bool false, .slice none 0 0] 28 ∧ Only p_b2 w_8 w' := xs.setN [(0, .bool n_gaa), (1, .slice o_gaa k_gaa c_gaa), (2, .bool n_gab), (3, .slice o_gab k_gab c_gab)]
 rw [eW]; clear eW
 obtain ⟨w_9, eW, xs', ho_4⟩ : ∃ w', ((((w_9_0.setCell ⟨p_b2, 4, none⟩ (.bool n_gba)).setCell ⟨p_b2, 5, none⟩ (.slice o_gba k_gba c_gba)).setCell ⟨p_b2, 6, none⟩ (.bool n_gbb)).setCell ⟨p_b2, 7, none⟩ (.slice o_gbb k_gbb c_gbb)) = w' ∧ Bs w' p_b2 #[.bool n_gaa, .slice o_gaa k_gaa c_gaa, .bool n_gab, .slice o_gab k_gab c_gab, .bool n_gba, .slice o_gba k_gba c_gba, .bool n_gbb, .slice o_gbb k_gbb c_gbb] 28 ∧ Only p_b2 w_9_0 w' := xs_0.setN [(4, .bool n_gba), (5, .slice o_gba k_gba c_gba), (6, .bool n_gbb), (7, .slice o_gbb k_gbb c_gbb)]
 rw [eW]; clear eW xs_0
 have ho9 := (ho_0.trans ho_4)
 clear ho_0 ho_4 d0 d1 d2 d3 d4 d5 d6 d7 f0 f1 f2 f3 f4 f5 f6 f7 xs
 replace hs := hs.u0 kb_b2 xs' ho9; clear xs'
 refine hK _ _ rfl (And.intro hs.g1 True.intro) ?_; clear hK K
 apply wpTail_end
 refine hK2 _ _ ?_
 refine wp_ret ?_
 try dsimp only [Exit.then, Exit.inBlock]
 have r0_0 : w_9.cell? ⟨p_b2, 0, none⟩ = some (.bool n_gaa) := hs.g0.cell 0 rfl
 have r0_1 : w_9.cell? ⟨p_b2, 1, none⟩ = some (.slice o_gaa k_gaa c_gaa) := hs.g0.cell 1 rfl
 have r0_2 : w_9.cell? ⟨p_b2, 2, none⟩ = some (.bool n_gab) := hs.g0.cell 2 rfl
 have r0_3 : w_9.cell? ⟨p_b2, 3, none⟩ = some (.slice o_gab k_gab c_gab) := hs.g0.cell 3 rfl
 have r0_4 : w_9.cell? ⟨p_b2, 4, none⟩ = some (.bool n_gba) := hs.g0.cell 4 rfl
 have r0_5 : w_9.cell? ⟨p_b2, 5, none⟩ = some (.slice o_gba k_gba c_gba) := hs.g0.cell 5 rfl
 have r0_6 : w_9.cell? ⟨p_b2, 6, none⟩ = some (.bool n_gbb) := hs.g0.cell 6 rfl
 have r0_7 : w_9.cell? ⟨p_b2, 7, none⟩ = some (.slice o_gbb k_gbb c_gbb) := hs.g0.cell 7 rfl
 refine bodyPost_ret (v := (.agg #[.bool n_gaa, .slice o_gaa k_gaa c_gaa, .bool n_gab, .slice o_gab k_gab c_gab, .bool n_gba, .slice o_gba k_gba c_gba, .bool n_gbb, .slice o_gbb k_gbb c_gbb])) (by simp [results, Tryz.results37, go_sem, r0_0, r0_1, r0_2, r0_3, r0_4, r0_5, r0_6, r0_7]) rfl ?_
 have k5_9 := (((kb n6).b hb_7).b n8).o hd9 ho9
 replace ga1 := ga1.k k5_9
 replace ga2 := ga2.k k5_9
 have k7_9 := (kb n8).o hd9 ho9
 replace gb1 := gb1.k k7_9
 replace gb2 := gb2.k k7_9
 exact ⟨_, rfl, .mk' ga1 ga2 gb1 gb2, hs.b⟩
theorem r7Round_ok (ha : CN w va x l y m u k v n) (hl : l ≤ 9000000) (hm : m ≤ 4500000) (hk : k ≤ 9000000) (hn : n ≤ 4500000) (hy : y ≠ 0) (hv : v ≠ 0) :
   Calls Tryz.prog 44 #[va] w fun e w' => ∃ r, e = .returned r ∧ PC w' r (rnd x y) (rnd u v) ∧ Below w.heap.size w w' := by
 have HY := hide (And.intro hy hv)
 clear hy hv
 obtain ⟨n_0a, o_0a, k_0a, c_0a, n_0b, o_0b, k_0b, c_0b, n_0c, o_0c, k_0c, c_0c, n_0d, o_0d, k_0d, c_0d, rfl, ha1, ha2, ha3, ha4⟩ := ha
 go_enter Tryz.func44, Tryz.ntmps44
 have hs := St.nil w
 refine wp_seq_k fun K1 hK1 => rg [0, 1] ?_
 refine sq ?_
 refine .al hs ?_; clear hs; intro p_b1 w_1 hs n1 kb_b1
 refine sq ?_
 refine .al hs ?_; clear hs; intro p_b2 w_2 hs n2 kb_b2
 apply wpSq_end
 refine hK1 _ _ ?_
 refine wp_seq_k ?_
 intro K2 hK2
 refine wp_region_f4 [(0, false), (1, false), (3, false), (4, false), (2, true), (5, true), (6, false)] [7] [] (fun _ => default) [99, 0, 99, 99, 0, 99, 99, 99] [] (.c hs.g1 .n) fn fun w_3 n3 => ?_
 replace hs := hs.bl n3
 refine f0 ?_
 apply wpFl_ld rfl rfl; (case h1 => intro w' hC K hK; have c0 := Bs.cell hC 0 rfl; have c1 := Bs.cell hC 1 rfl; have c2 := Bs.cell hC 2 rfl; have c3 := Bs.cell hC 3 rfl; go_big_op; exact hK); iterate 4 kernel_rfl
 refine f0 ?_
 apply wpFl_ld rfl rfl; (case h1 => intro w' hC K hK; have c4 := Bs.cell hC 4 rfl; have c5 := Bs.cell hC 5 rfl; have c6 := Bs.cell hC 6 rfl; have c7 := Bs.cell hC 7 rfl; go_big_op; exact hK); iterate 4 kernel_rfl
 refine fl fun w_4 n4 => ?_
 replace hs := hs.bl n4
 intro K hK
 have k0_4 := (((kb n1).b n2).b n3).b n4
 replace ha1 := ha1.k k0_4
 replace ha2 := ha2.k k0_4
 go_big_op
 go_fit (rfRound_any (PN.mk' ha1 ha2) (by omega) (by omega) HY.out.1)
 rintro e w_5 ⟨v_ga, rfl, ga, hb_5⟩
 replace hs := hs.bl hb_5
 obtain ⟨n_ga, o_ga, k_ga, c_ga, rfl⟩ := ga.open2
 refine hK _ _ rfl ⟨hb_5, (And.intro hs.g1 trivial)⟩ ?_
 clear hK K
 refine fl fun w_6 n6 => ?_
 replace hs := hs.bl n6
 intro K hK
 have k0_6 := (k0_4.b hb_5).b n6
 replace ha3 := ha3.k k0_6
 replace ha4 := ha4.k k0_6
 go_big_op
 go_fit (rfRound_any (PN.mk' ha3 ha4) (by omega) (by omega) HY.out.2)
 rintro e w_7 ⟨v_gb, rfl, gb, hb_7⟩
 replace hs := hs.bl hb_7
 obtain ⟨n_gb, o_gb, k_gb, c_gb, rfl⟩ := gb.open2
 refine hK _ _ rfl ⟨hb_7, (And.intro hs.g1 trivial)⟩ ?_
 clear hK K
 refine f0 ?_
 refine e0 hs ?_; clear hs; intro w_8 hs n8
 refine tl ?_
 refine .s4 hs.g0 (fun _ => hs.u0 kb_b2) ?_ (e := fun _ hs => (And.intro hs.g1 True.intro)); clear hs; intro w_9 hs hd9 ho9
 apply wpTail_end
 refine hK2 _ _ ?_
 refine wp_ret ?_
 try dsimp only [Exit.then, Exit.inBlock]
 obtain ⟨r0_0, r0_1, r0_2, r0_3⟩ := hs.g0.f4
 refine bodyPost_ret (v := (.agg #[.bool n_ga, .slice o_ga k_ga c_ga, .bool n_gb, .slice o_gb k_gb c_gb])) (by simp [results, Tryz.results44, go_sem, r0_0, r0_1, r0_2, r0_3]) rfl ?_
 have k5_9 := (((kb n6).b hb_7).b n8).o hd9 ho9
 replace ga := ga.k k5_9
 have k7_9 := (kb n8).o hd9 ho9
 replace gb := gb.k k7_9
 exact ⟨_, rfl, .mk' ga gb, hs.b⟩
end
theorem r4zero_any (w : World) :
   Calls Tryz.prog 41 #[.agg #[.bool false, .slice none 0 0, .bool false, .slice none 0 0]] w fun e w' => e = .returned (.bool true) ∧ Below w.heap.size w w' := by
 go_enter Tryz.func41, Tryz.ntmps41
 have hs := St.nil w
 refine wp_seq_k fun K1 hK1 => rg [0, 1] ?_
 refine sq ?_
 refine .al hs ?_; clear hs; intro p_b1 w_1 hs n1 kb_b1
 refine sm ?_
 apply wpSq_end
 refine hK1 _ _ ?_
 refine wp_seq_k fun K2 hK2 => rg [0, 1, 2, 3, 4, 5, 6, 7, 8] ?_
 refine sr ?_
 refine sq ?_
 refine .r4 hs.g0.f4 ?_
 refine sq ?_
 intro K hK
 go_big_op
 go_fit (rzero_any _)
 rintro e w_2 ⟨rfl, hb_2⟩
 replace hs := hs.bl hb_2
 refine hK _ _ rfl trivial ?_
 clear hK K
 refine sm ?_
 refine sr ?_
 refine sq ?_
 refine .r4 hs.g0.f4 ?_
 refine sq ?_
 intro K hK
 go_big_op
 go_fit (rzero_any _)
 rintro e w_3 ⟨rfl, hb_3⟩
 replace hs := hs.bl hb_3
 refine hK _ _ rfl trivial ?_
 clear hK K
 refine sr ?_
 refine sm ?_
 apply wpSq_end
 refine hK2 _ _ ?_
 refine wp_ret ?_
 try dsimp only [Exit.then, Exit.inBlock]
 refine bodyPost_ret (v := (.bool true)) (by simp [results, Tryz.results41, go_sem]) rfl ?_
 have hb := hs.b
 exact ⟨rfl, hb⟩
theorem isfin_no {w : World} {b f s : Nat} (h : FB b 2047 f s) :
   Calls Tryz.prog 69 #[.float .f64 b] w fun e w' => e = .returned (.bool false) ∧ Below w.heap.size w w' := by
 have he := h.he
 have hb0 := h.b0
 clear h
 go_enter Tryz.func69, Tryz.ntmps69
 have hs := St.nil w
 refine wp_seq_k fun K1 hK1 => rg [0] ?_
 refine sm ?_
 apply wpSq_end
 refine hK1 _ _ ?_
 refine wp_seq_k fun K2 hK2 => rg [0, 1, 2, 3, 4, 5] ?_
 refine sm ?_
 refine sq ?_
 intro K hK
 go_big_op; rw [ext_bits]; simp only [Oper.upon, Act.put, List.setIfInBounds_toArray, List.set_cons_succ, List.set_cons_zero]; refine hK _ _ rfl trivial ?_; clear hK K
 refine sr ?_
 refine sr ?_
 refine sr ?_
 refine sm ?_
 apply wpSq_end
 refine hK2 _ _ ?_
 refine wp_ret ?_
 try dsimp only [Exit.then, Exit.inBlock]
 refine bodyPost_ret (v := (.bool false)) (by simp [results, Tryz.results69, go_sem]) rfl ?_
 have hb := hs.b
 exact ⟨rfl, hb⟩
theorem isfin_yes {w : World} {b e f s : Nat} (h : FB b e f s) (h7 : e < 2047) :
   Calls Tryz.prog 69 #[.float .f64 b] w fun e w' => e = .returned (.bool true) ∧ Below w.heap.size w w' := by
 have he := h.he
 have hb0 := h.b0
 have hg : (e = 2047) = False := eq_false (by omega)
 have hg1 : ((e : Int) = 2047) = False := eq_false (by omega)
 have hg2 : ((e : Int) != 2047) = true := by rw [bne_iff_ne]; omega
 clear h
 go_enter Tryz.func69, Tryz.ntmps69
 have hs := St.nil w
 refine wp_seq_k fun K1 hK1 => rg [0] ?_
 refine sm ?_
 apply wpSq_end
 refine hK1 _ _ ?_
 refine wp_seq_k fun K2 hK2 => rg [0, 1, 2, 3, 4, 5] ?_
 refine sm ?_
 refine sq ?_
 intro K hK
 go_big_op; rw [ext_bits]; simp only [Oper.upon, Act.put, List.setIfInBounds_toArray, List.set_cons_succ, List.set_cons_zero]; refine hK _ _ rfl trivial ?_; clear hK K
 refine sr ?_
 refine sr ?_
 refine sr ?_
 refine sm ?_
 apply wpSq_end
 refine hK2 _ _ ?_
 refine wp_ret ?_
 try dsimp only [Exit.then, Exit.inBlock]
 refine bodyPost_ret (v := (.bool true)) (by simp [results, Tryz.results69, go_sem]) rfl ?_
 have hb := hs.b
 exact ⟨rfl, hb⟩
def OfBoth2 (b : Nat) : Prop :=
 ((∀ w, Calls Tryz.prog 69 #[.float .f64 b] w fun e w' => e = .returned (.bool false) ∧ Below w.heap.size w w') ∧
   ∀ w, Calls Tryz.prog 38 #[.float .f64 b] w fun e w' => e = .returned (.bool false) ∧ Below w.heap.size w w') ∨
 ∃ p q : Int, low p q ∧ (dig p.natAbs).length ≤ 50 ∧ (dig q.natAbs).length ≤ 50 ∧ (∀ w, Calls Tryz.prog 70 #[.float .f64 b] w fun e w' => ∃ r, e = .returned (.tuple #[r, .int .i64 0]) ∧ PC w' r p q ∧ Below w.heap.size w w') ∧
   (∀ w, Calls Tryz.prog 69 #[.float .f64 b] w fun e w' => e = .returned (.bool true) ∧ Below w.heap.size w w') ∧
   (∀ w, Calls Tryz.prog 38 #[.float .f64 b] w fun e w' => e = .returned (.bool true) ∧ Below w.heap.size w w') ∧
   ∀ w, Calls Tryz.prog 39 #[.float .f64 b] w fun e w' => ∃ r, e = .returned r ∧ PC w' r p q ∧ Below w.heap.size w w'
theorem of_both2 (b : Nat) (hb : b < 18446744073709551616) : OfBoth2 b := by
 obtain ⟨e, f, s, h⟩ := fb_of b hb
 have he0 := h.e0
 have hz := (fZ_len e f s h.f0).1
 by_cases h7 : e = 2047
 · subst h7
   exact .inl ⟨fun w => isfin_no h, fun w => finite_no h⟩
 by_cases hz0 : e = 0
 · subst hz0
   obtain ⟨P, hP⟩ : ∃ P, P = 1074 := ⟨_, rfl⟩
   have h2 : (2 : Int) ^ P ≠ 0 := Int.pow_ne_zero (by decide)
   have hl2 := two_len P (by omega) P (Nat.le_refl _)
   refine .inr ⟨_, _, low_q (x := fZ 0 f s) h2, Nat.le_trans (qN_len h2 hz) (by decide), Nat.le_trans (qD_len h2 hl2) (by decide), fun w => ?_, fun w => isfin_yes h (by omega), fun w => finite_yes h (by omega), fun w => ?_⟩
   · rcases h.s0 with rfl | rfl
     · exact fOf_z0 (e := 0) (R := fun _ _ => True) h (fun v w g => scaled_neg P _ (by omega) (by omega) (by omega) (g.zn hz) (by decide))
     · exact fOf_z1 (e := 0) (R := fun _ _ => True) h (fun v w g => scaled_neg P _ (by omega) (by omega) (by omega) (g.zn hz) (by decide))
   · rcases h.s0 with rfl | rfl
     · exact rOf_z0 (e := 0) hP h
     · exact rOf_z1 (e := 0) hP h
 by_cases hlt : e < 1075
 · have h2 : (2 : Int) ^ (1075 - e) ≠ 0 := Int.pow_ne_zero (by decide)
   have hl2 := two_len (1075 - e) (by omega) _ (Nat.le_refl _)
   refine .inr ⟨_, _, low_q (x := fZ e f s) h2, Nat.le_trans (qN_len h2 hz) (by decide), Nat.le_trans (qD_len h2 hl2) (by decide), fun w => ?_, fun w => isfin_yes h (by omega), fun w => finite_yes h (by omega), fun w => ?_⟩
   · rcases h.s0 with rfl | rfl
     · exact fOf_n0 (R := fun _ _ => True) h (by omega) (by omega) (fun v w g => scaled_neg (1075 - e) _ (by omega) (by omega) (by omega) (g.zn hz) (by decide))
     · exact fOf_n1 (R := fun _ _ => True) h (by omega) (by omega) (fun v w g => scaled_neg (1075 - e) _ (by omega) (by omega) (by omega) (g.zn hz) (by decide))
   · rcases h.s0 with rfl | rfl
     · exact rOf_n0 h (by omega) (by omega)
     · exact rOf_n1 h (by omega) (by omega)
 · have hl2 := two_len (e - 1075) (by omega) _ (Nat.le_refl _)
   have hx : -1074 + ((e : Int) - 1) = ((e - 1075 : Nat) : Int) := by omega
   refine .inr ⟨fZ e f s * 2 ^ (e - 1075), 1, ⟨by decide, Int.gcd_one_right _⟩, Nat.le_trans (zlen_mul hz hl2) (by decide), by decide, fun w => ?_, fun w => isfin_yes h (by omega), fun w => finite_yes h (by omega), fun w => ?_⟩
   · rcases h.s0 with rfl | rfl
     · exact fOf_n0 (R := fun _ _ => True) h (by omega) (by omega) (fun v w g => by rw [hx]; exact scaled_pos (e - 1075) (by omega) (g.zn hz) (by decide))
     · exact fOf_n1 (R := fun _ _ => True) h (by omega) (by omega) (fun v w g => by rw [hx]; exact scaled_pos (e - 1075) (by omega) (g.zn hz) (by decide))
   · rcases h.s0 with rfl | rfl
     · exact rOf_g0 h (by omega) (by omega)
     · exact rOf_g1 h (by omega) (by omega)
theorem low_is {p q : Int} (h : low p q) : p = (rv p q).num ∧ q = ((rv p q).den : Int) := by
 have h1 := q_num (x := p) (y := q) (by have := h.1; omega)
 rw [qN_low h, qD_low h] at h1
 exact h1
theorem gfOfFloat_no1 {w : World} {b c : Nat} (h1 : ∀ w, Calls Tryz.prog 69 #[.float .f64 b] w fun e w' => e = .returned (.bool false) ∧ Below w.heap.size w w') :
   Calls Tryz.prog 18 #[.complex .f64 b c] w fun e w' => e = .returned (.tuple #[.agg #[.bool false, .slice none 0 0, .bool false, .slice none 0 0, .bool false, .slice none 0 0, .bool false, .slice none 0 0], .int .i64 9]) ∧ Below w.heap.size w w' := by
 have H1 := hide h1
 clear h1
 go_enter Tryz.func18, Tryz.ntmps18
 have hs := St.nil w
 refine wp_seq_k fun K1 hK1 => rg [0, 1] ?_
 refine sq ?_
 refine .al hs ?_; clear hs; intro p_b1 w_1 hs n1 kb_b1
 refine sm ?_
 apply wpSq_end
 refine hK1 _ _ ?_
 refine wp_seq_k ?_
 intro K2 hK2
 refine wp_seq_k fun K3 hK3 => rg [0, 1, 2, 3, 4, 5, 6, 7, 8, 9] ?_
 refine sm ?_
 refine sr ?_
 refine sq ?_
 intro K hK
 go_big_op
 go_fit (H1.out _)
 rintro e w_2 ⟨rfl, hb_2⟩
 replace hs := hs.bl hb_2
 refine hK _ _ rfl trivial ?_
 clear hK K
 refine sr ?_
 refine sm ?_
 refine sk ?_
 refine sk ?_
 refine sk ?_
 refine sk ?_
 refine sr ?_
 apply wpSq_end
 refine hK3 _ _ ?_
 refine ct ?_
 refine wp_seq_k fun K4 hK4 => rg [0, 1, 2] ?_
 refine sr ?_
 refine sq ?_
 intro K hK
 have xs := hs.g0
 have d0 : w_2.cell? ⟨p_b1, 0, none⟩ = some (.bool false) := hs.g0.cell 0 rfl
 have d1 : w_2.cell? ⟨p_b1, 1, none⟩ = some (.slice none 0 0) := hs.g0.cell 1 rfl
 have d2 : w_2.cell? ⟨p_b1, 2, none⟩ = some (.bool false) := hs.g0.cell 2 rfl
 have d3 : w_2.cell? ⟨p_b1, 3, none⟩ = some (.slice none 0 0) := hs.g0.cell 3 rfl
 have d4 : w_2.cell? ⟨p_b1, 4, none⟩ = some (.bool false) := hs.g0.cell 4 rfl
 have d5 : w_2.cell? ⟨p_b1, 5, none⟩ = some (.slice none 0 0) := hs.g0.cell 5 rfl
 have d6 : w_2.cell? ⟨p_b1, 6, none⟩ = some (.bool false) := hs.g0.cell 6 rfl
 have d7 : w_2.cell? ⟨p_b1, 7, none⟩ = some (.slice none 0 0) := hs.g0.cell 7 rfl
 have f0 := xs.free 0; have f1 := xs.free 1; have f2 := xs.free 2; have f3 := xs.free 3; have f4 := xs.free 4; have f5 := xs.free 5; have f6 := xs.free 6; have f7 := xs.free 7
 go_big_op
 have hd3 := xs.nod rfl rfl
 obtain ⟨w_3_0, eW, xs_0, ho_0⟩ : ∃ w', ((((w_2.setCell ⟨p_b1, 0, none⟩ (.bool false)).setCell ⟨p_b1, 1, none⟩ (.slice none 0 0)).setCell ⟨p_b1, 2, none⟩ (.bool false)).setCell ⟨p_b1, 3, none⟩ (.slice none 0 0)) = w' ∧ Bs w' p_b1 #[.bool false, .slice none 0 0, .bool false, .slice none 0 0, .bool false, .slice none 0 0, .bool false, .slice none 0 0] 28 ∧ Only p_b1 w_2 w' := xs.setN [(0, .bool false), (1, .slice none 0 0), (2, .bool false), (3, .slice none 0 0)]
 rw [eW]; clear eW
 obtain ⟨w_3, eW, xs', ho_4⟩ : ∃ w', ((((w_3_0.setCell ⟨p_b1, 4, none⟩ (.bool false)).setCell ⟨p_b1, 5, none⟩ (.slice none 0 0)).setCell ⟨p_b1, 6, none⟩ (.bool false)).setCell ⟨p_b1, 7, none⟩ (.slice none 0 0)) = w' ∧ Bs w' p_b1 #[.bool false, .slice none 0 0, .bool false, .slice none 0 0, .bool false, .slice none 0 0, .bool false, .slice none 0 0] 28 ∧ Only p_b1 w_3_0 w' := xs_0.setN [(4, .bool false), (5, .slice none 0 0), (6, .bool false), (7, .slice none 0 0)]
 rw [eW]; clear eW xs_0
 have ho3 := (ho_0.trans ho_4)
 clear ho_0 ho_4 d0 d1 d2 d3 d4 d5 d6 d7 f0 f1 f2 f3 f4 f5 f6 f7 xs
 replace hs := hs.u0 kb_b1 xs' ho3; clear xs'
 refine hK _ _ rfl trivial ?_; clear hK K
 refine sm ?_
 apply wpSq_end
 refine hK4 _ _ ?_
 refine wp_ret ?_
 try dsimp only [Exit.then, Exit.inBlock]
 have r0_0 : w_3.cell? ⟨p_b1, 0, none⟩ = some (.bool false) := hs.g0.cell 0 rfl
 have r0_1 : w_3.cell? ⟨p_b1, 1, none⟩ = some (.slice none 0 0) := hs.g0.cell 1 rfl
 have r0_2 : w_3.cell? ⟨p_b1, 2, none⟩ = some (.bool false) := hs.g0.cell 2 rfl
 have r0_3 : w_3.cell? ⟨p_b1, 3, none⟩ = some (.slice none 0 0) := hs.g0.cell 3 rfl
 have r0_4 : w_3.cell? ⟨p_b1, 4, none⟩ = some (.bool false) := hs.g0.cell 4 rfl
 have r0_5 : w_3.cell? ⟨p_b1, 5, none⟩ = some (.slice none 0 0) := hs.g0.cell 5 rfl
 have r0_6 : w_3.cell? ⟨p_b1, 6, none⟩ = some (.bool false) := hs.g0.cell 6 rfl
 have r0_7 : w_3.cell? ⟨p_b1, 7, none⟩ = some (.slice none 0 0) := hs.g0.cell 7 rfl
 refine bodyPost_ret (v := (.tuple #[(.agg #[.bool false, .slice none 0 0, .bool false, .slice none 0 0, .bool false, .slice none 0 0, .bool false, .slice none 0 0]), (.int .i64 9)])) (by simp [results, Tryz.results18, go_sem, r0_0, r0_1, r0_2, r0_3, r0_4, r0_5, r0_6, r0_7]) rfl ?_
 have hb := hs.b
 exact ⟨rfl, hb⟩
theorem gfOfFloat_no2 {w : World} {b c : Nat} (h1 : ∀ w, Calls Tryz.prog 69 #[.float .f64 b] w fun e w' => e = .returned (.bool true) ∧ Below w.heap.size w w') (h2 : ∀ w, Calls Tryz.prog 69 #[.float .f64 c] w fun e w' => e = .returned (.bool false) ∧ Below w.heap.size w w') :
   Calls Tryz.prog 18 #[.complex .f64 b c] w fun e w' => e = .returned (.tuple #[.agg #[.bool false, .slice none 0 0, .bool false, .slice none 0 0, .bool false, .slice none 0 0, .bool false, .slice none 0 0], .int .i64 9]) ∧ Below w.heap.size w w' := by
 have H1 := hide h1
 have H2 := hide h2
 clear h1 h2
 go_enter Tryz.func18, Tryz.ntmps18
 have hs := St.nil w
 refine wp_seq_k fun K1 hK1 => rg [0, 1] ?_
 refine sq ?_
 refine .al hs ?_; clear hs; intro p_b1 w_1 hs n1 kb_b1
 refine sm ?_
 apply wpSq_end
 refine hK1 _ _ ?_
 refine wp_seq_k ?_
 intro K2 hK2
 refine wp_seq_k fun K3 hK3 => rg [0, 1, 2, 3, 4, 5, 6, 7, 8, 9] ?_
 refine sm ?_
 refine sr ?_
 refine sq ?_
 intro K hK
 go_big_op
 go_fit (H1.out _)
 rintro e w_2 ⟨rfl, hb_2⟩
 replace hs := hs.bl hb_2
 refine hK _ _ rfl trivial ?_
 clear hK K
 refine sr ?_
 refine sm ?_
 refine sm ?_
 refine sr ?_
 refine sq ?_
 intro K hK
 go_big_op
 go_fit (H2.out _)
 rintro e w_3 ⟨rfl, hb_3⟩
 replace hs := hs.bl hb_3
 refine hK _ _ rfl trivial ?_
 clear hK K
 refine sr ?_
 refine sr ?_
 apply wpSq_end
 refine hK3 _ _ ?_
 refine ct ?_
 refine wp_seq_k fun K4 hK4 => rg [0, 1, 2] ?_
 refine sr ?_
 refine sq ?_
 intro K hK
 have xs := hs.g0
 have d0 : w_3.cell? ⟨p_b1, 0, none⟩ = some (.bool false) := hs.g0.cell 0 rfl
 have d1 : w_3.cell? ⟨p_b1, 1, none⟩ = some (.slice none 0 0) := hs.g0.cell 1 rfl
 have d2 : w_3.cell? ⟨p_b1, 2, none⟩ = some (.bool false) := hs.g0.cell 2 rfl
 have d3 : w_3.cell? ⟨p_b1, 3, none⟩ = some (.slice none 0 0) := hs.g0.cell 3 rfl
 have d4 : w_3.cell? ⟨p_b1, 4, none⟩ = some (.bool false) := hs.g0.cell 4 rfl
 have d5 : w_3.cell? ⟨p_b1, 5, none⟩ = some (.slice none 0 0) := hs.g0.cell 5 rfl
 have d6 : w_3.cell? ⟨p_b1, 6, none⟩ = some (.bool false) := hs.g0.cell 6 rfl
 have d7 : w_3.cell? ⟨p_b1, 7, none⟩ = some (.slice none 0 0) := hs.g0.cell 7 rfl
 have f0 := xs.free 0; have f1 := xs.free 1; have f2 := xs.free 2; have f3 := xs.free 3; have f4 := xs.free 4; have f5 := xs.free 5; have f6 := xs.free 6; have f7 := xs.free 7
 go_big_op
 have hd4 := xs.nod rfl rfl
 obtain ⟨w_4_0, eW, xs_0, ho_0⟩ : ∃ w', ((((w_3.setCell ⟨p_b1, 0, none⟩ (.bool false)).setCell ⟨p_b1, 1, none⟩ (.slice none 0 0)).setCell ⟨p_b1, 2, none⟩ (.bool false)).setCell ⟨p_b1, 3, none⟩ (.slice none 0 0)) = w' ∧ Bs w' p_b1 #[.bool false, .slice none 0 0, .bool false, .slice none 0 0, .bool false, .slice none 0 0, .bool false, .slice none 0 0] 28 ∧ Only p_b1 w_3 w' := xs.setN [(0, .bool false), (1, .slice none 0 0), (2, .bool false), (3, .slice none 0 0)]
 rw [eW]; clear eW
 obtain ⟨w_4, eW, xs', ho_4⟩ : ∃ w', ((((w_4_0.setCell ⟨p_b1, 4, none⟩ (.bool false)).setCell ⟨p_b1, 5, none⟩ (.slice none 0 0)).setCell ⟨p_b1, 6, none⟩ (.bool false)).setCell ⟨p_b1, 7, none⟩ (.slice none 0 0)) = w' ∧ Bs w' p_b1 #[.bool false, .slice none 0 0, .bool false, .slice none 0 0, .bool false, .slice none 0 0, .bool false, .slice none 0 0] 28 ∧ Only p_b1 w_4_0 w' := xs_0.setN [(4, .bool false), (5, .slice none 0 0), (6, .bool false), (7, .slice none 0 0)]
 rw [eW]; clear eW xs_0
 have ho4 := (ho_0.trans ho_4)
 clear ho_0 ho_4 d0 d1 d2 d3 d4 d5 d6 d7 f0 f1 f2 f3 f4 f5 f6 f7 xs
 replace hs := hs.u0 kb_b1 xs' ho4; clear xs'
 refine hK _ _ rfl trivial ?_; clear hK K
 refine sm ?_
 apply wpSq_end
 refine hK4 _ _ ?_
 refine wp_ret ?_
 try dsimp only [Exit.then, Exit.inBlock]
 have r0_0 : w_4.cell? ⟨p_b1, 0, none⟩ = some (.bool false) := hs.g0.cell 0 rfl
 have r0_1 : w_4.cell? ⟨p_b1, 1, none⟩ = some (.slice none 0 0) := hs.g0.cell 1 rfl
 have r0_2 : w_4.cell? ⟨p_b1, 2, none⟩ = some (.bool false) := hs.g0.cell 2 rfl
 have r0_3 : w_4.cell? ⟨p_b1, 3, none⟩ = some (.slice none 0 0) := hs.g0.cell 3 rfl
 have r0_4 : w_4.cell? ⟨p_b1, 4, none⟩ = some (.bool false) := hs.g0.cell 4 rfl
 have r0_5 : w_4.cell? ⟨p_b1, 5, none⟩ = some (.slice none 0 0) := hs.g0.cell 5 rfl
 have r0_6 : w_4.cell? ⟨p_b1, 6, none⟩ = some (.bool false) := hs.g0.cell 6 rfl
 have r0_7 : w_4.cell? ⟨p_b1, 7, none⟩ = some (.slice none 0 0) := hs.g0.cell 7 rfl
 refine bodyPost_ret (v := (.tuple #[(.agg #[.bool false, .slice none 0 0, .bool false, .slice none 0 0, .bool false, .slice none 0 0, .bool false, .slice none 0 0]), (.int .i64 9)])) (by simp [results, Tryz.results18, go_sem, r0_0, r0_1, r0_2, r0_3, r0_4, r0_5, r0_6, r0_7]) rfl ?_
 have hb := hs.b
 exact ⟨rfl, hb⟩
theorem gfOfFloat_yes {w : World} {b c : Nat} {p q s t : Int} (h1 : ∀ w, Calls Tryz.prog 69 #[.float .f64 b] w fun e w' => e = .returned (.bool true) ∧ Below w.heap.size w w') (h2 : ∀ w, Calls Tryz.prog 69 #[.float .f64 c] w fun e w' => e = .returned (.bool true) ∧ Below w.heap.size w w')
   (h3 : ∀ w, Calls Tryz.prog 70 #[.float .f64 b] w fun e w' => ∃ r, e = .returned (.tuple #[r, .int .i64 0]) ∧ PC w' r p q ∧ Below w.heap.size w w') (h4 : ∀ w, Calls Tryz.prog 70 #[.float .f64 c] w fun e w' => ∃ r, e = .returned (.tuple #[r, .int .i64 0]) ∧ PC w' r s t ∧ Below w.heap.size w w') :
   Calls Tryz.prog 18 #[.complex .f64 b c] w fun e w' => ∃ r, e = .returned (.tuple #[r, .int .i64 0]) ∧ CC w' r p q s t ∧ Below w.heap.size w w' := by
 have H1 := hide (And.intro h1 h2)
 have H3 := hide (And.intro h3 h4)
 clear h1 h2 h3 h4
 go_enter Tryz.func18, Tryz.ntmps18
 have hs := St.nil w
 refine wp_seq_k fun K1 hK1 => rg [0, 1] ?_
 refine sq ?_
 refine .al hs ?_; clear hs; intro p_b1 w_1 hs n1 kb_b1
 refine sm ?_
 apply wpSq_end
 refine hK1 _ _ ?_
 refine wp_seq_k ?_
 intro K2 hK2
 refine wp_seq_k fun K3 hK3 => rg [0, 1, 2, 3, 4, 5, 6, 7, 8, 9] ?_
 refine sm ?_
 refine sr ?_
 refine sq ?_
 intro K hK
 go_big_op
 go_fit (H1.out.1 _)
 rintro e w_2 ⟨rfl, hb_2⟩
 replace hs := hs.bl hb_2
 refine hK _ _ rfl trivial ?_
 clear hK K
 refine sr ?_
 refine sm ?_
 refine sm ?_
 refine sr ?_
 refine sq ?_
 intro K hK
 go_big_op
 go_fit (H1.out.2 _)
 rintro e w_3 ⟨rfl, hb_3⟩
 replace hs := hs.bl hb_3
 refine hK _ _ rfl trivial ?_
 clear hK K
 refine sr ?_
 refine sr ?_
 apply wpSq_end
 refine hK3 _ _ ?_
 refine cf ?_
 refine wp_skip ?_
 refine hK2 _ _ ?_
 refine wp_seq_k fun K4 hK4 => rg [0, 1, 2, 3, 4, 5, 6, 7, 8] ?_
 refine sm ?_
 refine sr ?_
 refine sq ?_
 intro K hK
 go_big_op
 go_fit (H3.out.1 _)
 rintro e w_4 ⟨_, rfl, ⟨n_gaa, o_gaa, k_gaa, c_gaa, n_gab, o_gab, k_gab, c_gab, rfl, ga1, ga2⟩, hb_4⟩
 replace hs := hs.bl hb_4
 refine hK _ _ rfl trivial ?_
 clear hK K
 refine sm ?_
 refine sr ?_
 refine sr ?_
 refine sq ?_
 refine .al hs ?_; clear hs; intro p_b2 w_5 hs n5 kb_b2
 refine sq ?_
 refine .s4 hs.g0 (fun _ => hs.u0 kb_b2) ?_; clear hs; intro w_6 hs hd6 ho6
 refine sm ?_
 apply wpSq_end
 refine hK4 _ _ ?_
 refine wp_seq_k fun K5 hK5 => rg [0, 1, 2, 3, 4, 5, 6, 7, 8] ?_
 refine sm ?_
 refine sr ?_
 refine sq ?_
 intro K hK
 go_big_op
 go_fit (H3.out.2 _)
 rintro e w_7 ⟨_, rfl, ⟨n_gba, o_gba, k_gba, c_gba, n_gbb, o_gbb, k_gbb, c_gbb, rfl, gb1, gb2⟩, hb_7⟩
 replace hs := hs.bl hb_7
 refine hK _ _ rfl trivial ?_
 clear hK K
 refine sm ?_
 refine sr ?_
 refine sr ?_
 refine sq ?_
 refine .al hs ?_; clear hs; intro p_b3 w_8 hs n8 kb_b3
 refine sq ?_
 refine .s4 hs.g0 (fun _ => hs.u0 kb_b3) ?_; clear hs; intro w_9 hs hd9 ho9
 refine sm ?_
 apply wpSq_end
 refine hK5 _ _ ?_
 refine wp_seq_k fun K6 hK6 => rg [0, 1, 2, 3, 4] ?_
 refine sq ?_
 refine .r4 hs.g1.f4 ?_
 refine sq ?_
 refine .r4 hs.g0.f4 ?_
 refine sr ?_
 refine sq ?_
 intro K hK
 have xs := hs.g2
 have d0 : w_9.cell? ⟨p_b1, 0, none⟩ = some (.bool false) := hs.g2.cell 0 rfl
 have d1 : w_9.cell? ⟨p_b1, 1, none⟩ = some (.slice none 0 0) := hs.g2.cell 1 rfl
 have d2 : w_9.cell? ⟨p_b1, 2, none⟩ = some (.bool false) := hs.g2.cell 2 rfl
 have d3 : w_9.cell? ⟨p_b1, 3, none⟩ = some (.slice none 0 0) := hs.g2.cell 3 rfl
 have d4 : w_9.cell? ⟨p_b1, 4, none⟩ = some (.bool false) := hs.g2.cell 4 rfl
 have d5 : w_9.cell? ⟨p_b1, 5, none⟩ = some (.slice none 0 0) := hs.g2.cell 5 rfl
 have d6 : w_9.cell? ⟨p_b1, 6, none⟩ = some (.bool false) := hs.g2.cell 6 rfl
 have d7 : w_9.cell? ⟨p_b1, 7, none⟩ = some (.slice none 0 0) := hs.g2.cell 7 rfl
 have f0 := xs.free 0; have f1 := xs.free 1; have f2 := xs.free 2; have f3 := xs.free 3; have f4 := xs.free 4; have f5 := xs.free 5; have f6 := xs.free 6; have f7 := xs.free 7
 go_big_op
 have hd10 := xs.nod rfl rfl
 obtain ⟨w_10_0, eW, xs_0, ho_0⟩ : ∃ w', ((((w_9.setCell ⟨p_b1, 0, none⟩ (.bool n_gaa)).setCell ⟨p_b1, 1, none⟩ (.slice o_gaa k_gaa c_gaa)).setCell ⟨p_b1, 2, none⟩ (.bool n_gab)).setCell ⟨p_b1, 3, none⟩ (.slice o_gab k_gab c_gab)) = w' ∧ Bs w' p_b1 #[.bool n_gaa, .slice o_gaa k_gaa c_gaa, .bool n_gab, .slice o_gab k_gab c_gab, .bool false, .slice none 0 0, .bool false, .slice none 0 0] 28 ∧ Only p_b1 w_9 w' := xs.setN [(0, .bool n_gaa), (1, .slice o_gaa k_gaa c_gaa), (2, .bool n_gab), (3, .slice o_gab k_gab c_gab)]
 rw [eW]; clear eW
 obtain ⟨w_10, eW, xs', ho_4⟩ : ∃ w', ((((w_10_0.setCell ⟨p_b1, 4, none⟩ (.bool n_gba)).setCell ⟨p_b1, 5, none⟩ (.slice o_gba k_gba c_gba)).setCell ⟨p_b1, 6, none⟩ (.bool n_gbb)).setCell ⟨p_b1, 7, none⟩ (.slice o_gbb k_gbb c_gbb)) = w' ∧ Bs w' p_b1 #[.bool n_gaa, .slice o_gaa k_gaa c_gaa, .bool n_gab, .slice o_gab k_gab c_gab, .bool n_gba, .slice o_gba k_gba c_gba, .bool n_gbb, .slice o_gbb k_gbb c_gbb] 28 ∧ Only p_b1 w_10_0 w' := xs_0.setN [(4, .bool n_gba), (5, .slice o_gba k_gba c_gba), (6, .bool n_gbb), (7, .slice o_gbb k_gbb c_gbb)]
 rw [eW]; clear eW xs_0
 have ho10 := (ho_0.trans ho_4)
 clear ho_0 ho_4 d0 d1 d2 d3 d4 d5 d6 d7 f0 f1 f2 f3 f4 f5 f6 f7 xs
 replace hs := hs.u2 kb_b1 xs' ho10; clear xs'
 refine hK _ _ rfl trivial ?_; clear hK K
 refine sm ?_
 apply wpSq_end
 refine hK6 _ _ ?_
 refine wp_ret ?_
 try dsimp only [Exit.then, Exit.inBlock]
 have r0_0 : w_10.cell? ⟨p_b1, 0, none⟩ = some (.bool n_gaa) := hs.g2.cell 0 rfl
 have r0_1 : w_10.cell? ⟨p_b1, 1, none⟩ = some (.slice o_gaa k_gaa c_gaa) := hs.g2.cell 1 rfl
 have r0_2 : w_10.cell? ⟨p_b1, 2, none⟩ = some (.bool n_gab) := hs.g2.cell 2 rfl
 have r0_3 : w_10.cell? ⟨p_b1, 3, none⟩ = some (.slice o_gab k_gab c_gab) := hs.g2.cell 3 rfl
 have r0_4 : w_10.cell? ⟨p_b1, 4, none⟩ = some (.bool n_gba) := hs.g2.cell 4 rfl
 have r0_5 : w_10.cell? ⟨p_b1, 5, none⟩ = some (.slice o_gba k_gba c_gba) := hs.g2.cell 5 rfl
 have r0_6 : w_10.cell? ⟨p_b1, 6, none⟩ = some (.bool n_gbb) := hs.g2.cell 6 rfl
 have r0_7 : w_10.cell? ⟨p_b1, 7, none⟩ = some (.slice o_gbb k_gbb c_gbb) := hs.g2.cell 7 rfl
 refine bodyPost_ret (v := (.tuple #[(.agg #[.bool n_gaa, .slice o_gaa k_gaa c_gaa, .bool n_gab, .slice o_gab k_gab c_gab, .bool n_gba, .slice o_gba k_gba c_gba, .bool n_gbb, .slice o_gbb k_gbb c_gbb]), (.int .i64 0)])) (by simp [results, Tryz.results18, go_sem, r0_0, r0_1, r0_2, r0_3, r0_4, r0_5, r0_6, r0_7]) rfl ?_
 have k4_10 := (((((kb n5).o hd6 ho6).b hb_7).b n8).o hd9 ho9).o hd10 ho10
 replace ga1 := ga1.k k4_10
 replace ga2 := ga2.k k4_10
 have k7_10 := ((kb n8).o hd9 ho9).o hd10 ho10
 replace gb1 := gb1.k k7_10
 replace gb2 := gb2.k k7_10
 exact ⟨_, rfl, .mk' ga1 ga2 gb1 gb2, hs.b⟩
end Go.Proofs.YthlhekkcjficdaaGreatDoor
