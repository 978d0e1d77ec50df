/- gfrac: a number's parts told by closures; both, number, low, over. -/
import Derived.Test.YthlhekkcjficdaaGreatDoorT1ToX1
import Derived.Test.YthlhekkcjficdaaGreatDoorWkToQ2

namespace Go.Proofs.YthlhekkcjficdaaGreatDoor
open Go Go.RowKit Dig
set_option maxHeartbeats 4000000
set_option maxRecDepth 20000
set_option linter.unusedVariables false
section
variable {w : World} {va vb : Value} {x y u v : Int} {l m k n : Nat}
theorem fmake_r (ha : ZN w va x l) (hq : ZN w vb y m) (hl : l ≤ 100000000) (hm : m ≤ 100000000) (h0 : y ≠ 0) :
   Calls Tryz.prog 60 #[va, vb] w fun e w' => ∃ v, e = .returned (.tuple #[v, .int .i64 0]) ∧ PC w' v (rv x y).num (rv x y).den ∧ Below w.heap.size w w' := by
 have := fmake_any ha hq hl hm h0
 rw [(q_num h0).1, (q_num h0).2] at this
 exact this
theorem selQ1 (ha : CN w va x l y m u k v n) :
   Calls Tryz.prog 171 #[va] w fun e w' => ∃ r, e = .returned r ∧ PN w' r x l y m ∧ Below w.heap.size w w' := by
 obtain ⟨n_0a, o_0a, k_0a, c_0a, n_0b, o_0b, k_0b, c_0b, n_0c, o_0c, k_0c, c_0c, n_0d, o_0d, k_0d, c_0d, rfl, ha1, ha2, ha3, ha4⟩ := ha
 go_enter Tryz.func171, Tryz.ntmps171
 have hs := St.nil w
 refine wp_seq_k fun K1 hK1 => rg [0, 1] ?_
 refine sq ?_
 refine .al hs ?_; clear hs; intro p_b1 w_1 hs n1 kb_b1
 refine sq ?_
 refine .al hs ?_; clear hs; intro p_b2 w_2 hs n2 kb_b2
 apply wpSq_end
 refine hK1 _ _ ?_
 refine wp_seq_k fun K2 hK2 => rg [0, 1, 2] ?_
 refine sr ?_
 refine sq ?_
 refine .r4 ⟨hs.g1.cell 0 rfl, hs.g1.cell 1 rfl, hs.g1.cell 2 rfl, hs.g1.cell 3 rfl⟩ ?_
 refine sq ?_
 refine .s4 hs.g0 (fun _ => hs.u0 kb_b2) ?_; clear hs; intro w_3 hs hd3 ho3
 apply wpSq_end
 refine hK2 _ _ ?_
 refine wp_ret ?_
 try dsimp only [Exit.then, Exit.inBlock]
 obtain ⟨r0_0, r0_1, r0_2, r0_3⟩ := hs.g0.f4
 refine bodyPost_ret (v := (.agg #[.bool n_0a, .slice o_0a k_0a c_0a, .bool n_0b, .slice o_0b k_0b c_0b])) (by simp [results, Tryz.results171, go_sem, r0_0, r0_1, r0_2, r0_3]) rfl ?_
 have k0_3 := ((kb n1).b n2).o hd3 ho3
 replace ha1 := ha1.k k0_3
 replace ha2 := ha2.k k0_3
 exact ⟨_, rfl, .mk' ha1 ha2, hs.b⟩
theorem selQ2 (ha : CN w va x l y m u k v n) :
   Calls Tryz.prog 172 #[va] w fun e w' => ∃ r, e = .returned r ∧ PN w' r u k v n ∧ Below w.heap.size w w' := by
 obtain ⟨n_0a, o_0a, k_0a, c_0a, n_0b, o_0b, k_0b, c_0b, n_0c, o_0c, k_0c, c_0c, n_0d, o_0d, k_0d, c_0d, rfl, ha1, ha2, ha3, ha4⟩ := ha
 go_enter Tryz.func172, Tryz.ntmps172
 have hs := St.nil w
 refine wp_seq_k fun K1 hK1 => rg [0, 1] ?_
 refine sq ?_
 refine .al hs ?_; clear hs; intro p_b1 w_1 hs n1 kb_b1
 refine sq ?_
 refine .al hs ?_; clear hs; intro p_b2 w_2 hs n2 kb_b2
 apply wpSq_end
 refine hK1 _ _ ?_
 refine wp_seq_k fun K2 hK2 => rg [0, 1, 2] ?_
 refine sr ?_
 refine sq ?_
 refine .r4 ⟨hs.g1.cell 4 rfl, hs.g1.cell 5 rfl, hs.g1.cell 6 rfl, hs.g1.cell 7 rfl⟩ ?_
 refine sq ?_
 refine .s4 hs.g0 (fun _ => hs.u0 kb_b2) ?_; clear hs; intro w_3 hs hd3 ho3
 apply wpSq_end
 refine hK2 _ _ ?_
 refine wp_ret ?_
 try dsimp only [Exit.then, Exit.inBlock]
 obtain ⟨r0_0, r0_1, r0_2, r0_3⟩ := hs.g0.f4
 refine bodyPost_ret (v := (.agg #[.bool n_0c, .slice o_0c k_0c c_0c, .bool n_0d, .slice o_0d k_0d c_0d])) (by simp [results, Tryz.results172, go_sem, r0_0, r0_1, r0_2, r0_3]) rfl ?_
 have k0_3 := ((kb n1).b n2).o hd3 ho3
 replace ha3 := ha3.k k0_3
 replace ha4 := ha4.k k0_3
 exact ⟨_, rfl, .mk' ha3 ha4, hs.b⟩
theorem over_c (ha : PN w va x l y m) (hd : ZN w vb u k) :
   Calls Tryz.prog 56 #[va, vb] w fun e w' => ∃ r, e = .returned r ∧ CN w' r x l u k y m u k ∧ Below w.heap.size w w' := by
 obtain ⟨n_0a, o_0a, k_0a, c_0a, n_0b, o_0b, k_0b, c_0b, rfl, ha1, ha2⟩ := ha
 obtain ⟨n_1, o_1, k_1, c_1, rfl⟩ := hd.open2
 go_enter Tryz.func56, Tryz.ntmps56
 have hs := St.nil w
 refine wp_seq_k fun K1 hK1 => rg [0, 1, 2] ?_
 refine sq ?_
 refine .al hs ?_; clear hs; intro p_b1 w_1 hs n1 kb_b1
 refine sq ?_
 refine .al hs ?_; clear hs; intro p_b2 w_2 hs n2 kb_b2
 refine sq ?_
 refine .al hs ?_; clear hs; intro p_b3 w_3 hs n3 kb_b3
 apply wpSq_end
 refine hK1 _ _ ?_
 refine wp_seq_k fun K2 hK2 => rg [0, 1, 2, 3, 4, 5, 6, 7, 8, 9] ?_
 refine sr ?_
 refine sq ?_
 refine .r4 hs.g2.f4 ?_
 refine sq ?_
 refine .r2 hs.g1.f2 ?_
 refine sr ?_
 refine sr ?_
 refine sq ?_
 refine .r4 hs.g2.f4 ?_
 refine sq ?_
 refine .r2 hs.g1.f2 ?_
 refine sr ?_
 refine sr ?_
 refine sq ?_
 intro K hK
 have xs := hs.g0
 have d0 : w_3.cell? ⟨p_b3, 0, none⟩ = some (.bool false) := hs.g0.cell 0 rfl
 have d1 : w_3.cell? ⟨p_b3, 1, none⟩ = some (.slice none 0 0) := hs.g0.cell 1 rfl
 have d2 : w_3.cell? ⟨p_b3, 2, none⟩ = some (.bool false) := hs.g0.cell 2 rfl
 have d3 : w_3.cell? ⟨p_b3, 3, none⟩ = some (.slice none 0 0) := hs.g0.cell 3 rfl
 have d4 : w_3.cell? ⟨p_b3, 4, none⟩ = some (.bool false) := hs.g0.cell 4 rfl
 have d5 : w_3.cell? ⟨p_b3, 5, none⟩ = some (.slice none 0 0) := hs.g0.cell 5 rfl
 have d6 : w_3.cell? ⟨p_b3, 6, none⟩ = some (.bool false) := hs.g0.cell 6 rfl
 have d7 : w_3.cell? ⟨p_b3, 7, none⟩ = some (.slice none 0 0) := hs.g0.cell 7 rfl
 have f0 := xs.free 0; have f1 := xs.free 1; have f2 := xs.free 2; have f3 := xs.free 3; have f4 := xs.free 4; have f5 := xs.free 5; have f6 := xs.free 6; have f7 := xs.free 7
 go_big_op
 have hd4 := xs.nod rfl rfl
 obtain ⟨w_4_0, eW, xs_0, ho_0⟩ : ∃ w', ((((w_3.setCell ⟨p_b3, 0, none⟩ (.bool n_0a)).setCell ⟨p_b3, 1, none⟩ (.slice o_0a k_0a c_0a)).setCell ⟨p_b3, 2, none⟩ (.bool n_1)).setCell ⟨p_b3, 3, none⟩ (.slice o_1 k_1 c_1)) = w' ∧ Bs w' p_b3 #[.bool n_0a, .slice o_0a k_0a c_0a, .bool n_1, .slice o_1 k_1 c_1, .bool false, .slice none 0 0, .bool false, .slice none 0 0] 28 ∧ Only p_b3 w_3 w' := xs.setN [(0, .bool n_0a), (1, .slice o_0a k_0a c_0a), (2, .bool n_1), (3, .slice o_1 k_1 c_1)]
 rw [eW]; clear eW
 obtain ⟨w_4, eW, xs', ho_4⟩ : ∃ w', ((((w_4_0.setCell ⟨p_b3, 4, none⟩ (.bool n_0b)).setCell ⟨p_b3, 5, none⟩ (.slice o_0b k_0b c_0b)).setCell ⟨p_b3, 6, none⟩ (.bool n_1)).setCell ⟨p_b3, 7, none⟩ (.slice o_1 k_1 c_1)) = w' ∧ Bs w' p_b3 #[.bool n_0a, .slice o_0a k_0a c_0a, .bool n_1, .slice o_1 k_1 c_1, .bool n_0b, .slice o_0b k_0b c_0b, .bool n_1, .slice o_1 k_1 c_1] 28 ∧ Only p_b3 w_4_0 w' := xs_0.setN [(4, .bool n_0b), (5, .slice o_0b k_0b c_0b), (6, .bool n_1), (7, .slice o_1 k_1 c_1)]
 rw [eW]; clear eW xs_0
 have ho4 := (ho_0.trans ho_4)
 clear ho_0 ho_4 d0 d1 d2 d3 d4 d5 d6 d7 f0 f1 f2 f3 f4 f5 f6 f7 xs
 replace hs := hs.u0 kb_b3 xs' ho4; clear xs'
 refine hK _ _ rfl trivial ?_; clear hK K
 apply wpSq_end
 refine hK2 _ _ ?_
 refine wp_ret ?_
 try dsimp only [Exit.then, Exit.inBlock]
 have r0_0 : w_4.cell? ⟨p_b3, 0, none⟩ = some (.bool n_0a) := hs.g0.cell 0 rfl
 have r0_1 : w_4.cell? ⟨p_b3, 1, none⟩ = some (.slice o_0a k_0a c_0a) := hs.g0.cell 1 rfl
 have r0_2 : w_4.cell? ⟨p_b3, 2, none⟩ = some (.bool n_1) := hs.g0.cell 2 rfl
 have r0_3 : w_4.cell? ⟨p_b3, 3, none⟩ = some (.slice o_1 k_1 c_1) := hs.g0.cell 3 rfl
 have r0_4 : w_4.cell? ⟨p_b3, 4, none⟩ = some (.bool n_0b) := hs.g0.cell 4 rfl
 have r0_5 : w_4.cell? ⟨p_b3, 5, none⟩ = some (.slice o_0b k_0b c_0b) := hs.g0.cell 5 rfl
 have r0_6 : w_4.cell? ⟨p_b3, 6, none⟩ = some (.bool n_1) := hs.g0.cell 6 rfl
 have r0_7 : w_4.cell? ⟨p_b3, 7, none⟩ = some (.slice o_1 k_1 c_1) := hs.g0.cell 7 rfl
 refine bodyPost_ret (v := (.agg #[.bool n_0a, .slice o_0a k_0a c_0a, .bool n_1, .slice o_1 k_1 c_1, .bool n_0b, .slice o_0b k_0b c_0b, .bool n_1, .slice o_1 k_1 c_1])) (by simp [results, Tryz.results56, go_sem, r0_0, r0_1, r0_2, r0_3, r0_4, r0_5, r0_6, r0_7]) rfl ?_
 have k0_4 := (((kb n1).b n2).b n3).o hd4 ho4
 replace ha1 := ha1.k k0_4
 replace hd := hd.k k0_4
 replace ha2 := ha2.k k0_4
 exact ⟨_, rfl, .mk' ha1 hd ha2 hd, hs.b⟩
end
section
variable {w : World} {f : Nat} {caps : Array Value} {a b c d : Int}
def Tells (w : World) (f : Nat) (caps : Array Value) (s : Nat) (a b : Int) : Prop :=
 ∀ w1, Below w.heap.size w w1 → Calls Tryz.prog f (#[.func (.func s) #[] #[]] ++ caps) w1 fun e w2 => ∃ r, e = .returned (.tuple #[r, .int .i64 0]) ∧ PC w2 r a b ∧ Below w1.heap.size w1 w2
def Refuses (w : World) (f : Nat) (caps : Array Value) (s : Nat) : Prop :=
 ∀ w1, Below w.heap.size w w1 → Calls Tryz.prog f (#[.func (.func s) #[] #[]] ++ caps) w1 fun e w2 => e = .returned (.tuple #[.agg #[.bool false, .slice none 0 0, .bool false, .slice none 0 0], .int .i64 5]) ∧ Below w1.heap.size w1 w2
def Enters (f : Nat) (caps : Array Value) : Prop := ∀ v w1, Sem.run Tryz.prog (callFunc f (#[v] ++ caps)) w1 = .ok (.enter f (#[v] ++ caps)) w1
theorem bothQ_ok (hf : Enters f caps) (hc1 : Tells w f caps 171 a b) (hc2 : Tells w f caps 172 c d) :
   Calls Tryz.prog 133 #[.func (.func f) #[] caps] w fun e w' => ∃ r s, e = .returned (.tuple #[r, s, .int .i64 0]) ∧ PC w' r a b ∧ PC w' s c d ∧ Below w.heap.size w w' := by
 unfold Enters at hf
 go_enter Tryz.func133, Tryz.ntmps133
 have hs := St.nil w
 refine wp_seq_k fun K1 hK1 => rg [0, 1, 2] ?_
 refine sq ?_
 refine .al hs ?_; clear hs; intro p_b1 w_1 hs n1 kb_b1
 refine sq ?_
 refine .al hs ?_; clear hs; intro p_b2 w_2 hs n2 kb_b2
 refine sm ?_
 apply wpSq_end
 refine hK1 _ _ ?_
 refine wp_seq_k fun K2 hK2 => rg [0] ?_
 refine sq ?_
 refine .al hs ?_; clear hs; intro p_b3 w_3 hs n3 kb_b3
 apply wpSq_end
 refine hK2 _ _ ?_
 refine wp_seq_k fun K3 hK3 => rg [0, 1, 2, 3, 4, 5, 6] ?_
 refine sm ?_
 refine sq ?_
 intro K hK
 have hb := hs.b
 go_big_op
 go_fit (hc1 _ hb)
 rintro e w_4 ⟨_, rfl, ⟨n_ga, o_ga, k_ga, c_ga, n_gb, o_gb, k_gb, c_gb, rfl, g1, g2⟩, hb_4⟩
 clear hb
 replace hs := hs.bl hb_4
 refine hK _ _ rfl trivial ?_
 clear hK K
 refine sm ?_
 refine sr ?_
 refine sr ?_
 refine sq ?_
 refine .s4 hs.g2 (fun _ => hs.u2 kb_b1) ?_; clear hs; intro w_5 hs hd5 ho5
 refine sm ?_
 apply wpSq_end
 refine hK3 _ _ ?_
 refine wp_seq_k ?_
 intro K4 hK4
 refine wp_seq_k fun K5 hK5 => rg [0, 1] ?_
 refine sm ?_
 refine sr ?_
 apply wpSq_end
 refine hK5 _ _ ?_
 refine cf ?_
 refine wp_skip ?_
 refine hK4 _ _ ?_
 refine wp_seq_k fun K6 hK6 => rg [0, 1, 2, 3, 4, 5, 6] ?_
 refine sm ?_
 refine sq ?_
 intro K hK
 have hb := hs.b
 go_big_op
 go_fit (hc2 _ hb)
 rintro e w_6 ⟨_, rfl, ⟨n_ha, o_ha, k_ha, c_ha, n_hb, o_hb, k_hb, c_hb, rfl, h1, h2⟩, hb_6⟩
 clear hb
 replace hs := hs.bl hb_6
 refine hK _ _ rfl trivial ?_
 clear hK K
 refine sm ?_
 refine sr ?_
 refine sr ?_
 refine sq ?_
 refine .s4 hs.g1 (fun _ => hs.u1 kb_b2) ?_; clear hs; intro w_7 hs hd7 ho7
 refine sm ?_
 apply wpSq_end
 refine hK6 _ _ ?_
 refine wp_seq_k ?_
 intro K7 hK7
 refine wp_seq_k fun K8 hK8 => rg [0, 1] ?_
 refine sm ?_
 refine sr ?_
 apply wpSq_end
 refine hK8 _ _ ?_
 refine cf ?_
 refine wp_skip ?_
 refine hK7 _ _ ?_
 refine wp_seq_k ?_
 intro K9 hK9
 refine wp_region_f4 [(0, false), (1, false)] [2, 3, 4] [] (fun _ => default) [0, 1, 99, 99, 99] [(2, 0), (3, 0), (3, 1)] (.c hs.g2 (.c hs.g1 .n)) fn fun w_8 n8 => ?_
 replace hs := hs.bl n8
 refine f4 ?_
 refine f4 ?_
 refine e0 hs ?_; clear hs; intro w_9 hs n9
 refine tl ?_
 refine .s4 hs.g2 (fun _ => hs.u2 kb_b1) ?_ (e := fun _ hs => (And.intro True.intro (And.intro hs.g1 True.intro))); clear hs; intro w_10 hs hd10 ho10
 refine tl ?_
 refine .s4 hs.g1 (fun _ => hs.u1 kb_b2) ?_ (e := fun _ hs => (And.intro True.intro (And.intro True.intro True.intro))); clear hs; intro w_11 hs hd11 ho11
 refine tl ?_
 refine .mv ?_ (e := (And.intro hs.g2 (And.intro hs.g1 True.intro)))
 apply wpTail_end
 refine hK9 _ _ ?_
 refine wp_ret ?_
 try dsimp only [Exit.then, Exit.inBlock]
 obtain ⟨r0_0, r0_1, r0_2, r0_3⟩ := hs.g2.f4
 obtain ⟨r4_0, r4_1, r4_2, r4_3⟩ := hs.g1.f4
 refine bodyPost_ret (v := (.tuple #[(.agg #[.bool n_ga, .slice o_ga k_ga c_ga, .bool n_gb, .slice o_gb k_gb c_gb]), (.agg #[.bool n_ha, .slice o_ha k_ha c_ha, .bool n_hb, .slice o_hb k_hb c_hb]), (.int .i64 0)])) (by simp [results, Tryz.results133, go_sem, r0_0, r0_1, r0_2, r0_3, r4_0, r4_1, r4_2, r4_3]) rfl ?_
 have k4_11 := ((((((ko hd5 ho5).b hb_6).o hd7 ho7).b n8).b n9).o hd10 ho10).o hd11 ho11
 replace g1 := g1.k k4_11
 replace g2 := g2.k k4_11
 have k6_11 := ((((ko hd7 ho7).b n8).b n9).o hd10 ho10).o hd11 ho11
 replace h1 := h1.k k6_11
 replace h2 := h2.k k6_11
 exact ⟨_, _, rfl, .mk' g1 g2, .mk' h1 h2, hs.b⟩
theorem bothQ_bad1 (hf : Enters f caps) (hc1 : Refuses w f caps 171) :
   Calls Tryz.prog 133 #[.func (.func f) #[] caps] w fun e w' => e = .returned (.tuple #[.agg #[.bool false, .slice none 0 0, .bool false, .slice none 0 0], .agg #[.bool false, .slice none 0 0, .bool false, .slice none 0 0], .int .i64 5]) ∧ Below w.heap.size w w' := by
 unfold Enters at hf
 go_enter Tryz.func133, Tryz.ntmps133
 have hs := St.nil w
 refine wp_seq_k fun K1 hK1 => rg [0, 1, 2] ?_
 refine sq ?_
 refine .al hs ?_; clear hs; intro p_b1 w_1 hs n1 kb_b1
 refine sq ?_
 refine .al hs ?_; clear hs; intro p_b2 w_2 hs n2 kb_b2
 refine sm ?_
 apply wpSq_end
 refine hK1 _ _ ?_
 refine wp_seq_k fun K2 hK2 => rg [0] ?_
 refine sq ?_
 refine .al hs ?_; clear hs; intro p_b3 w_3 hs n3 kb_b3
 apply wpSq_end
 refine hK2 _ _ ?_
 refine wp_seq_k fun K3 hK3 => rg [0, 1, 2, 3, 4, 5, 6] ?_
 refine sm ?_
 refine sq ?_
 intro K hK
 have hb := hs.b
 go_big_op
 go_fit (hc1 _ hb)
 rintro e w_4 ⟨rfl, hb_4⟩
 clear hb
 replace hs := hs.bl hb_4
 refine hK _ _ rfl trivial ?_
 clear hK K
 refine sm ?_
 refine sr ?_
 refine sr ?_
 refine sq ?_
 refine .s4 hs.g2 (fun _ => hs.u2 kb_b1) ?_; clear hs; intro w_5 hs hd5 ho5
 refine sm ?_
 apply wpSq_end
 refine hK3 _ _ ?_
 refine wp_seq_k ?_
 intro K4 hK4
 refine wp_seq_k fun K5 hK5 => rg [0, 1] ?_
 refine sm ?_
 refine sr ?_
 apply wpSq_end
 refine hK5 _ _ ?_
 refine ct ?_
 refine wp_seq_k ?_
 intro K6 hK6
 refine wp_region_f4 [(0, false), (1, false), (2, false)] [3, 4, 5] [] (fun _ => default) [0, 0, 99, 99, 99, 99] [] (.c hs.g0 .n) fn fun w_6 n6 => ?_
 replace hs := hs.bl n6
 refine f4 ?_
 refine f4 ?_
 refine fmv ?_
 refine e0 hs ?_; clear hs; intro w_7 hs n7
 refine tl ?_
 refine .s4 hs.g2 (fun _ => hs.u2 kb_b1) ?_ (e := fun _ hs => (And.intro hs.g0 True.intro)); clear hs; intro w_8 hs hd8 ho8
 refine tl ?_
 refine .s4 hs.g1 (fun _ => hs.u1 kb_b2) ?_ (e := fun _ hs => (And.intro hs.g0 True.intro)); clear hs; intro w_9 hs hd9 ho9
 refine tl ?_
 refine .mv ?_ (e := (And.intro hs.g0 True.intro))
 apply wpTail_end
 refine hK6 _ _ ?_
 refine wp_ret ?_
 try dsimp only [Exit.then, Exit.inBlock]
 obtain ⟨r0_0, r0_1, r0_2, r0_3⟩ := hs.g2.f4
 obtain ⟨r4_0, r4_1, r4_2, r4_3⟩ := hs.g1.f4
 refine bodyPost_ret (v := (.tuple #[(.agg #[.bool false, .slice none 0 0, .bool false, .slice none 0 0]), (.agg #[.bool false, .slice none 0 0, .bool false, .slice none 0 0]), (.int .i64 5)])) (by simp [results, Tryz.results133, go_sem, r0_0, r0_1, r0_2, r0_3, r4_0, r4_1, r4_2, r4_3]) rfl ?_
 have hb := hs.b
 exact ⟨rfl, hb⟩
theorem bothQ_bad2 (hf : Enters f caps) (hc1 : Tells w f caps 171 a b) (hc2 : Refuses w f caps 172) :
   Calls Tryz.prog 133 #[.func (.func f) #[] caps] w fun e w' => e = .returned (.tuple #[.agg #[.bool false, .slice none 0 0, .bool false, .slice none 0 0], .agg #[.bool false, .slice none 0 0, .bool false, .slice none 0 0], .int .i64 5]) ∧ Below w.heap.size w w' := by
 unfold Enters at hf
 go_enter Tryz.func133, Tryz.ntmps133
 have hs := St.nil w
 refine wp_seq_k fun K1 hK1 => rg [0, 1, 2] ?_
 refine sq ?_
 refine .al hs ?_; clear hs; intro p_b1 w_1 hs n1 kb_b1
 refine sq ?_
 refine .al hs ?_; clear hs; intro p_b2 w_2 hs n2 kb_b2
 refine sm ?_
 apply wpSq_end
 refine hK1 _ _ ?_
 refine wp_seq_k fun K2 hK2 => rg [0] ?_
 refine sq ?_
 refine .al hs ?_; clear hs; intro p_b3 w_3 hs n3 kb_b3
 apply wpSq_end
 refine hK2 _ _ ?_
 refine wp_seq_k fun K3 hK3 => rg [0, 1, 2, 3, 4, 5, 6] ?_
 refine sm ?_
 refine sq ?_
 intro K hK
 have hb := hs.b
 go_big_op
 go_fit (hc1 _ hb)
 rintro e w_4 ⟨_, rfl, ⟨n_ga, o_ga, k_ga, c_ga, n_gb, o_gb, k_gb, c_gb, rfl, g1, g2⟩, hb_4⟩
 clear hb
 replace hs := hs.bl hb_4
 refine hK _ _ rfl trivial ?_
 clear hK K
 refine sm ?_
 refine sr ?_
 refine sr ?_
 refine sq ?_
 refine .s4 hs.g2 (fun _ => hs.u2 kb_b1) ?_; clear hs; intro w_5 hs hd5 ho5
 refine sm ?_
 apply wpSq_end
 refine hK3 _ _ ?_
 refine wp_seq_k ?_
 intro K4 hK4
 refine wp_seq_k fun K5 hK5 => rg [0, 1] ?_
 refine sm ?_
 refine sr ?_
 apply wpSq_end
 refine hK5 _ _ ?_
 refine cf ?_
 refine wp_skip ?_
 refine hK4 _ _ ?_
 refine wp_seq_k fun K6 hK6 => rg [0, 1, 2, 3, 4, 5, 6] ?_
 refine sm ?_
 refine sq ?_
 intro K hK
 have hb := hs.b
 go_big_op
 go_fit (hc2 _ hb)
 rintro e w_6 ⟨rfl, hb_6⟩
 clear hb
 replace hs := hs.bl hb_6
 refine hK _ _ rfl trivial ?_
 clear hK K
 refine sm ?_
 refine sr ?_
 refine sr ?_
 refine sq ?_
 refine .s4 hs.g1 (fun _ => hs.u1 kb_b2) ?_; clear hs; intro w_7 hs hd7 ho7
 refine sm ?_
 apply wpSq_end
 refine hK6 _ _ ?_
 refine wp_seq_k ?_
 intro K7 hK7
 refine wp_seq_k fun K8 hK8 => rg [0, 1] ?_
 refine sm ?_
 refine sr ?_
 apply wpSq_end
 refine hK8 _ _ ?_
 refine ct ?_
 refine wp_seq_k ?_
 intro K9 hK9
 refine wp_region_f4 [(0, false), (1, false), (2, false)] [3, 4, 5] [] (fun _ => default) [0, 0, 99, 99, 99, 99] [] (.c hs.g0 .n) fn fun w_8 n8 => ?_
 replace hs := hs.bl n8
 refine f4 ?_
 refine f4 ?_
 refine fmv ?_
 refine e0 hs ?_; clear hs; intro w_9 hs n9
 refine tl ?_
 refine .s4 hs.g2 (fun _ => hs.u2 kb_b1) ?_ (e := fun _ hs => (And.intro hs.g0 True.intro)); clear hs; intro w_10 hs hd10 ho10
 refine tl ?_
 refine .s4 hs.g1 (fun _ => hs.u1 kb_b2) ?_ (e := fun _ hs => (And.intro hs.g0 True.intro)); clear hs; intro w_11 hs hd11 ho11
 refine tl ?_
 refine .mv ?_ (e := (And.intro hs.g0 True.intro))
 apply wpTail_end
 refine hK9 _ _ ?_
 refine wp_ret ?_
 try dsimp only [Exit.then, Exit.inBlock]
 obtain ⟨r0_0, r0_1, r0_2, r0_3⟩ := hs.g2.f4
 obtain ⟨r4_0, r4_1, r4_2, r4_3⟩ := hs.g1.f4
 refine bodyPost_ret (v := (.tuple #[(.agg #[.bool false, .slice none 0 0, .bool false, .slice none 0 0]), (.agg #[.bool false, .slice none 0 0, .bool false, .slice none 0 0]), (.int .i64 5)])) (by simp [results, Tryz.results133, go_sem, r0_0, r0_1, r0_2, r0_3, r4_0, r4_1, r4_2, r4_3]) rfl ?_
 have hb := hs.b
 exact ⟨rfl, hb⟩
theorem bothQ_bad (hf : Enters f caps) (h : Refuses w f caps 171 ∨ (∃ a b, Tells w f caps 171 a b) ∧ Refuses w f caps 172) :
   Calls Tryz.prog 133 #[.func (.func f) #[] caps] w fun e w' => e = .returned (.tuple #[.agg #[.bool false, .slice none 0 0, .bool false, .slice none 0 0], .agg #[.bool false, .slice none 0 0, .bool false, .slice none 0 0], .int .i64 5]) ∧ Below w.heap.size w w' := by
 rcases h with h | ⟨⟨a, b, h1⟩, h2⟩
 · exact bothQ_bad1 hf h
 · exact bothQ_bad2 hf h1 h2
theorem Tells.at {w w' : World} {s : Nat} (h : Tells w f caps s a b) (hb : Below w.heap.size w w') : Tells w' f caps s a b := fun w1 h1 => h w1 (tmm hb h1)
theorem Refuses.at {w w' : World} {s : Nat} (h : Refuses w f caps s) (hb : Below w.heap.size w w') : Refuses w' f caps s := fun w1 h1 => h w1 (tmm hb h1)
theorem number_ok (hf : Enters f caps) (hc1 : Tells w f caps 171 a b) (hc2 : Tells w f caps 172 c d) :
   Calls Tryz.prog 75 #[.func (.func f) #[] caps] w fun e w' => ∃ r, e = .returned (.tuple #[r, .int .i64 0]) ∧ CC w' r a b c d ∧ Below w.heap.size w w' := by
 go_enter Tryz.func75, Tryz.ntmps75
 have hs := St.nil w
 refine wp_seq_k fun K1 hK1 => rg [0, 1] ?_
 refine sq ?_
 refine .al hs ?_; clear hs; intro p_b1 w_1 hs n1 kb_b1
 refine sm ?_
 apply wpSq_end
 refine hK1 _ _ ?_
 refine wp_seq_k fun K2 hK2 => rg [0, 1, 2, 3, 4, 5, 6, 7, 8, 9, 10] ?_
 refine sm ?_
 refine sq ?_
 intro K hK
 have hb := hs.b
 go_big_op
 go_fit (bothQ_ok hf (hc1.at hb) (hc2.at hb))
 rintro e w_2 ⟨_, _, rfl, ⟨n_ga, o_ga, k_ga, c_ga, n_gb, o_gb, k_gb, c_gb, rfl, g1, g2⟩, ⟨n_ha, o_ha, k_ha, c_ha, n_hb, o_hb, k_hb, c_hb, rfl, h1, h2⟩, hb_2⟩
 clear hb
 replace hs := hs.bl hb_2
 refine hK _ _ rfl trivial ?_
 clear hK K
 refine sm ?_
 refine sr ?_
 refine sr ?_
 refine sr ?_
 refine sq ?_
 refine .al hs ?_; clear hs; intro p_b2 w_3 hs n3 kb_b2
 refine sq ?_
 refine .al hs ?_; clear hs; intro p_b3 w_4 hs n4 kb_b3
 refine sq ?_
 refine .s4 hs.g1 (fun _ => hs.u1 kb_b2) ?_; clear hs; intro w_5 hs hd5 ho5
 refine sq ?_
 refine .s4 hs.g0 (fun _ => hs.u0 kb_b3) ?_; clear hs; intro w_6 hs hd6 ho6
 refine sm ?_
 apply wpSq_end
 refine hK2 _ _ ?_
 refine wp_seq_k fun K3 hK3 => rg [0, 1, 2, 3, 4, 5] ?_
 refine sq ?_
 refine .r4 hs.g1.f4 ?_
 refine sq ?_
 refine .r4 hs.g0.f4 ?_
 refine sr ?_
 refine sm ?_
 refine sq ?_
 intro K hK
 have xs := hs.g2
 have d0 : w_6.cell? ⟨p_b1, 0, none⟩ = some (.bool false) := hs.g2.cell 0 rfl
 have d1 : w_6.cell? ⟨p_b1, 1, none⟩ = some (.slice none 0 0) := hs.g2.cell 1 rfl
 have d2 : w_6.cell? ⟨p_b1, 2, none⟩ = some (.bool false) := hs.g2.cell 2 rfl
 have d3 : w_6.cell? ⟨p_b1, 3, none⟩ = some (.slice none 0 0) := hs.g2.cell 3 rfl
 have d4 : w_6.cell? ⟨p_b1, 4, none⟩ = some (.bool false) := hs.g2.cell 4 rfl
 have d5 : w_6.cell? ⟨p_b1, 5, none⟩ = some (.slice none 0 0) := hs.g2.cell 5 rfl
 have d6 : w_6.cell? ⟨p_b1, 6, none⟩ = some (.bool false) := hs.g2.cell 6 rfl
 have d7 : w_6.cell? ⟨p_b1, 7, none⟩ = some (.slice none 0 0) := hs.g2.cell 7 rfl
 have f0 := xs.free 0; have f1 := xs.free 1; have f2 := xs.free 2; have f3 := xs.free 3; have f4 := xs.free 4; have f5 := xs.free 5; have f6 := xs.free 6; have f7 := xs.free 7
 go_big_op
 have hd7 := xs.nod rfl rfl
 obtain ⟨w_7_0, eW, xs_0, ho_0⟩ : ∃ w', ((((w_6.setCell ⟨p_b1, 0, none⟩ (.bool n_ga)).setCell ⟨p_b1, 1, none⟩ (.slice o_ga k_ga c_ga)).setCell ⟨p_b1, 2, none⟩ (.bool n_gb)).setCell ⟨p_b1, 3, none⟩ (.slice o_gb k_gb c_gb)) = w' ∧ Bs w' p_b1 #[.bool n_ga, .slice o_ga k_ga c_ga, .bool n_gb, .slice o_gb k_gb c_gb, .bool false, .slice none 0 0, .bool false, .slice none 0 0] 28 ∧ Only p_b1 w_6 w' := xs.setN [(0, .bool n_ga), (1, .slice o_ga k_ga c_ga), (2, .bool n_gb), (3, .slice o_gb k_gb c_gb)]
 rw [eW]; clear eW
 obtain ⟨w_7, eW, xs', ho_4⟩ : ∃ w', ((((w_7_0.setCell ⟨p_b1, 4, none⟩ (.bool n_ha)).setCell ⟨p_b1, 5, none⟩ (.slice o_ha k_ha c_ha)).setCell ⟨p_b1, 6, none⟩ (.bool n_hb)).setCell ⟨p_b1, 7, none⟩ (.slice o_hb k_hb c_hb)) = w' ∧ Bs w' p_b1 #[.bool n_ga, .slice o_ga k_ga c_ga, .bool n_gb, .slice o_gb k_gb c_gb, .bool n_ha, .slice o_ha k_ha c_ha, .bool n_hb, .slice o_hb k_hb c_hb] 28 ∧ Only p_b1 w_7_0 w' := xs_0.setN [(4, .bool n_ha), (5, .slice o_ha k_ha c_ha), (6, .bool n_hb), (7, .slice o_hb k_hb c_hb)]
 rw [eW]; clear eW xs_0
 have ho7 := (ho_0.trans ho_4)
 clear ho_0 ho_4 d0 d1 d2 d3 d4 d5 d6 d7 f0 f1 f2 f3 f4 f5 f6 f7 xs
 replace hs := hs.u2 kb_b1 xs' ho7; clear xs'
 refine hK _ _ rfl trivial ?_; clear hK K
 refine sm ?_
 apply wpSq_end
 refine hK3 _ _ ?_
 refine wp_ret ?_
 try dsimp only [Exit.then, Exit.inBlock]
 have r0_0 : w_7.cell? ⟨p_b1, 0, none⟩ = some (.bool n_ga) := hs.g2.cell 0 rfl
 have r0_1 : w_7.cell? ⟨p_b1, 1, none⟩ = some (.slice o_ga k_ga c_ga) := hs.g2.cell 1 rfl
 have r0_2 : w_7.cell? ⟨p_b1, 2, none⟩ = some (.bool n_gb) := hs.g2.cell 2 rfl
 have r0_3 : w_7.cell? ⟨p_b1, 3, none⟩ = some (.slice o_gb k_gb c_gb) := hs.g2.cell 3 rfl
 have r0_4 : w_7.cell? ⟨p_b1, 4, none⟩ = some (.bool n_ha) := hs.g2.cell 4 rfl
 have r0_5 : w_7.cell? ⟨p_b1, 5, none⟩ = some (.slice o_ha k_ha c_ha) := hs.g2.cell 5 rfl
 have r0_6 : w_7.cell? ⟨p_b1, 6, none⟩ = some (.bool n_hb) := hs.g2.cell 6 rfl
 have r0_7 : w_7.cell? ⟨p_b1, 7, none⟩ = some (.slice o_hb k_hb c_hb) := hs.g2.cell 7 rfl
 refine bodyPost_ret (v := (.tuple #[(.agg #[.bool n_ga, .slice o_ga k_ga c_ga, .bool n_gb, .slice o_gb k_gb c_gb, .bool n_ha, .slice o_ha k_ha c_ha, .bool n_hb, .slice o_hb k_hb c_hb]), (.int .i64 0)])) (by simp [results, Tryz.results75, go_sem, r0_0, r0_1, r0_2, r0_3, r0_4, r0_5, r0_6, r0_7]) rfl ?_
 have k2_7 := ((((kb n3).b n4).o hd5 ho5).o hd6 ho6).o hd7 ho7
 replace g1 := g1.k k2_7
 replace g2 := g2.k k2_7
 replace h1 := h1.k k2_7
 replace h2 := h2.k k2_7
 exact ⟨_, rfl, .mk' g1 g2 h1 h2, hs.b⟩
theorem number_bad (hf : Enters f caps) (h : Refuses w f caps 171 ∨ (∃ a b, Tells w f caps 171 a b) ∧ Refuses w f caps 172) :
   Calls Tryz.prog 75 #[.func (.func f) #[] caps] w fun e w' => e = .returned (.tuple #[.agg #[.bool false, .slice none 0 0, .bool false, .slice none 0 0, .bool false, .slice none 0 0, .bool false, .slice none 0 0], .int .i64 5]) ∧ Below w.heap.size w w' := by
 go_enter Tryz.func75, Tryz.ntmps75
 have hs := St.nil w
 refine wp_seq_k fun K1 hK1 => rg [0, 1] ?_
 refine sq ?_
 refine .al hs ?_; clear hs; intro p_b1 w_1 hs n1 kb_b1
 refine sm ?_
 apply wpSq_end
 refine hK1 _ _ ?_
 refine wp_seq_k fun K2 hK2 => rg [0, 1, 2, 3, 4, 5, 6, 7, 8, 9, 10] ?_
 refine sm ?_
 refine sq ?_
 intro K hK
 have hb := hs.b
 go_big_op
 go_fit (bothQ_bad hf (h.imp (fun h ↦ h.at hb) (fun h ↦ ⟨h.1.imp (fun _ h ↦ h.imp (fun _ h ↦ h.at hb)), h.2.at hb⟩)))
 rintro e w_2 ⟨rfl, hb_2⟩
 clear hb
 replace hs := hs.bl hb_2
 refine hK _ _ rfl trivial ?_
 clear hK K
 refine sm ?_
 refine sr ?_
 refine sr ?_
 refine sr ?_
 refine sq ?_
 refine .al hs ?_; clear hs; intro p_b2 w_3 hs n3 kb_b2
 refine sq ?_
 refine .al hs ?_; clear hs; intro p_b3 w_4 hs n4 kb_b3
 refine sq ?_
 refine .s4 hs.g1 (fun _ => hs.u1 kb_b2) ?_; clear hs; intro w_5 hs hd5 ho5
 refine sq ?_
 refine .s4 hs.g0 (fun _ => hs.u0 kb_b3) ?_; clear hs; intro w_6 hs hd6 ho6
 refine sm ?_
 apply wpSq_end
 refine hK2 _ _ ?_
 refine wp_seq_k fun K3 hK3 => rg [0, 1, 2, 3, 4, 5] ?_
 refine sq ?_
 refine .r4 hs.g1.f4 ?_
 refine sq ?_
 refine .r4 hs.g0.f4 ?_
 refine sr ?_
 refine sm ?_
 refine sq ?_
 intro K hK
 have xs := hs.g2
 have d0 : w_6.cell? ⟨p_b1, 0, none⟩ = some (.bool false) := hs.g2.cell 0 rfl
 have d1 : w_6.cell? ⟨p_b1, 1, none⟩ = some (.slice none 0 0) := hs.g2.cell 1 rfl
 have d2 : w_6.cell? ⟨p_b1, 2, none⟩ = some (.bool false) := hs.g2.cell 2 rfl
 have d3 : w_6.cell? ⟨p_b1, 3, none⟩ = some (.slice none 0 0) := hs.g2.cell 3 rfl
 have d4 : w_6.cell? ⟨p_b1, 4, none⟩ = some (.bool false) := hs.g2.cell 4 rfl
 have d5 : w_6.cell? ⟨p_b1, 5, none⟩ = some (.slice none 0 0) := hs.g2.cell 5 rfl
 have d6 : w_6.cell? ⟨p_b1, 6, none⟩ = some (.bool false) := hs.g2.cell 6 rfl
 have d7 : w_6.cell? ⟨p_b1, 7, none⟩ = some (.slice none 0 0) := hs.g2.cell 7 rfl
 have f0 := xs.free 0; have f1 := xs.free 1; have f2 := xs.free 2; have f3 := xs.free 3; have f4 := xs.free 4; have f5 := xs.free 5; have f6 := xs.free 6; have f7 := xs.free 7
 go_big_op
 have hd7 := xs.nod rfl rfl
 obtain ⟨w_7_0, eW, xs_0, ho_0⟩ : ∃ w', ((((w_6.setCell ⟨p_b1, 0, none⟩ (.bool false)).setCell ⟨p_b1, 1, none⟩ (.slice none 0 0)).setCell ⟨p_b1, 2, none⟩ (.bool false)).setCell ⟨p_b1, 3, none⟩ (.slice none 0 0)) = w' ∧ Bs w' p_b1 #[.bool false, .slice none 0 0, .bool false, .slice none 0 0, .bool false, .slice none 0 0, .bool false, .slice none 0 0] 28 ∧ Only p_b1 w_6 w' := xs.setN [(0, .bool false), (1, .slice none 0 0), (2, .bool false), (3, .slice none 0 0)]
 rw [eW]; clear eW
 obtain ⟨w_7, eW, xs', ho_4⟩ : ∃ w', ((((w_7_0.setCell ⟨p_b1, 4, none⟩ (.bool false)).setCell ⟨p_b1, 5, none⟩ (.slice none 0 0)).setCell ⟨p_b1, 6, none⟩ (.bool false)).setCell ⟨p_b1, 7, none⟩ (.slice none 0 0)) = w' ∧ Bs w' p_b1 #[.bool false, .slice none 0 0, .bool false, .slice none 0 0, .bool false, .slice none 0 0, .bool false, .slice none 0 0] 28 ∧ Only p_b1 w_7_0 w' := xs_0.setN [(4, .bool false), (5, .slice none 0 0), (6, .bool false), (7, .slice none 0 0)]
 rw [eW]; clear eW xs_0
 have ho7 := (ho_0.trans ho_4)
 clear ho_0 ho_4 d0 d1 d2 d3 d4 d5 d6 d7 f0 f1 f2 f3 f4 f5 f6 f7 xs
 replace hs := hs.u2 kb_b1 xs' ho7; clear xs'
 refine hK _ _ rfl trivial ?_; clear hK K
 refine sm ?_
 apply wpSq_end
 refine hK3 _ _ ?_
 refine wp_ret ?_
 try dsimp only [Exit.then, Exit.inBlock]
 have r0_0 : w_7.cell? ⟨p_b1, 0, none⟩ = some (.bool false) := hs.g2.cell 0 rfl
 have r0_1 : w_7.cell? ⟨p_b1, 1, none⟩ = some (.slice none 0 0) := hs.g2.cell 1 rfl
 have r0_2 : w_7.cell? ⟨p_b1, 2, none⟩ = some (.bool false) := hs.g2.cell 2 rfl
 have r0_3 : w_7.cell? ⟨p_b1, 3, none⟩ = some (.slice none 0 0) := hs.g2.cell 3 rfl
 have r0_4 : w_7.cell? ⟨p_b1, 4, none⟩ = some (.bool false) := hs.g2.cell 4 rfl
 have r0_5 : w_7.cell? ⟨p_b1, 5, none⟩ = some (.slice none 0 0) := hs.g2.cell 5 rfl
 have r0_6 : w_7.cell? ⟨p_b1, 6, none⟩ = some (.bool false) := hs.g2.cell 6 rfl
 have r0_7 : w_7.cell? ⟨p_b1, 7, none⟩ = some (.slice none 0 0) := hs.g2.cell 7 rfl
 refine bodyPost_ret (v := (.tuple #[(.agg #[.bool false, .slice none 0 0, .bool false, .slice none 0 0, .bool false, .slice none 0 0, .bool false, .slice none 0 0]), (.int .i64 5)])) (by simp [results, Tryz.results75, go_sem, r0_0, r0_1, r0_2, r0_3, r0_4, r0_5, r0_6, r0_7]) rfl ?_
 have hb := hs.b
 exact ⟨rfl, hb⟩
end
end Go.Proofs.YthlhekkcjficdaaGreatDoor

/- gfrac: low; Add, Sub. -/
namespace Go.Proofs.YthlhekkcjficdaaGreatDoor
open Go Go.RowKit Dig
set_option maxHeartbeats 4000000
set_option maxRecDepth 20000
set_option linter.unusedVariables false
section
variable {w : World} {va vb : Value} {x y u v p q s t : Int} {l m k n l2 m2 k2 n2 : Nat}
def BC (w : World) (pa : Nat) (x : Int) (l : Nat) (y : Int) (m : Nat) (u : Int) (k : Nat) (v : Int) (n : Nat) : Prop :=
 ∃ n1 o1 k1 c1 n2 o2 k2 c2 n3 o3 k3 c3 n4 o4 k4 c4, Bs w pa #[.bool n1, .slice o1 k1 c1, .bool n2, .slice o2 k2 c2, .bool n3, .slice o3 k3 c3, .bool n4, .slice o4 k4 c4] 28 ∧ ZN w (.agg #[.bool n1, .slice o1 k1 c1]) x l ∧ ZN w (.agg #[.bool n2, .slice o2 k2 c2]) y m ∧ ZN w (.agg #[.bool n3, .slice o3 k3 c3]) u k ∧ ZN w (.agg #[.bool n4, .slice o4 k4 c4]) v n
theorem BC.mk' {pa : Nat} {n1 n2 n3 n4 : Bool} {o1 o2 o3 o4 : Option Addr} {k1 c1 k2 c2 k3 c3 k4 c4 : Nat} (hb : Bs w pa #[.bool n1, .slice o1 k1 c1, .bool n2, .slice o2 k2 c2, .bool n3, .slice o3 k3 c3, .bool n4, .slice o4 k4 c4] 28) (h1 : ZN w (.agg #[.bool n1, .slice o1 k1 c1]) x l) (h2 : ZN w (.agg #[.bool n2, .slice o2 k2 c2]) y m) (h3 : ZN w (.agg #[.bool n3, .slice o3 k3 c3]) u k) (h4 : ZN w (.agg #[.bool n4, .slice o4 k4 c4]) v n) : BC w pa x l y m u k v n :=
 ⟨_, _, _, _, _, _, _, _, _, _, _, _, _, _, _, _, hb, h1, h2, h3, h4⟩
theorem low1_ok1 {pa : Nat} (hp : BC w pa x l y m u k v n) (hl : l ≤ 100000000) (hm : m ≤ 100000000) (hk : k ≤ 100000000) (hn : n ≤ 100000000) (h0 : y ≠ 0) :
   Calls Tryz.prog 115 (#[.func (.func 171) #[] #[]] ++ #[.pointer (some ⟨pa, 0, none⟩)]) w fun e w' => ∃ r, e = .returned (.tuple #[r, .int .i64 0]) ∧ PC w' r (rv x y).num (rv x y).den ∧ Below w.heap.size w w' := by
 have H0 := hide h0
 clear h0
 obtain ⟨n1, o1, k1, c1, n2, o2, k2, c2, n3, o3, k3, c3, n4, o4, k4, c4, xa, h1, h2, h3, h4⟩ := hp
 show Calls Tryz.prog 115 #[.func (.func 171) #[] #[], .pointer (some ⟨pa, 0, none⟩)] w _
 go_enter Tryz.func115, Tryz.ntmps115
 have hs := St.nil w
 have lt_xa := xa.lt
 have xaz := xa
 refine wp_seq_k fun K1 hK1 => rg [0, 1] ?_
 refine sq ?_
 refine .al hs ?_; clear hs; intro p_b1 w_1 hs n1 kb_b1
 replace xa := xa.bl n1
 refine sm ?_
 apply wpSq_end
 refine hK1 _ _ ?_
 refine wp_seq_k ?_
 intro K2 hK2
 refine wp_region_f4 [(0, false), (1, false), (4, false), (5, false), (2, true), (3, false), (6, true), (7, false), (8, true), (9, false), (10, false)] [11, 12] [] (fun _ => default) [99, 0, 99, 99, 99, 0, 99, 99, 99, 99, 99, 99, 99] [] (.c xa .n) fn fun w_2 n2 => ?_
 replace xa := xa.bl n2; replace hs := hs.bl n2
 refine fmv ?_
 apply wpFl_ld rfl rfl; (case h1 => intro w' hC K hK; have c0 := Bs.cell hC 0 rfl; have c1 := Bs.cell hC 1 rfl; have c2 := Bs.cell hC 2 rfl; have c3 := Bs.cell hC 3 rfl; have c4 := Bs.cell hC 4 rfl; have c5 := Bs.cell hC 5 rfl; have c6 := Bs.cell hC 6 rfl; have c7 := Bs.cell hC 7 rfl; go_big_op; exact hK); iterate 4 kernel_rfl
 refine fmv ?_
 apply wpFl_ld rfl rfl; (case h1 => intro w' hC K hK; have c0 := Bs.cell hC 0 rfl; have c1 := Bs.cell hC 1 rfl; have c2 := Bs.cell hC 2 rfl; have c3 := Bs.cell hC 3 rfl; have c4 := Bs.cell hC 4 rfl; have c5 := Bs.cell hC 5 rfl; have c6 := Bs.cell hC 6 rfl; have c7 := Bs.cell hC 7 rfl; go_big_op; exact hK); iterate 4 kernel_rfl
 refine fl fun w_3 n3 => ?_
 replace xa := xa.bl n3; replace hs := hs.bl n3
 intro K hK
 have k0_3 := ((kb n1).b n2).b n3
 replace h1 := h1.k k0_3
 replace h2 := h2.k k0_3
 replace h3 := h3.k k0_3
 replace h4 := h4.k k0_3
 go_big_op
 go_fit (selQ1 (.mk' h1 h2 h3 h4))
 rintro e w_4 ⟨_, rfl, ⟨n_gaa, o_gaa, k_gaa, c_gaa, n_gab, o_gab, k_gab, c_gab, rfl, ga1, ga2⟩, hb_4⟩
 replace xa := xa.bl hb_4; replace hs := hs.bl hb_4
 refine hK _ _ rfl ⟨hb_4, (And.intro xa trivial)⟩ ?_
 clear hK K
 apply wpFl_ld rfl rfl; (case h1 => intro w' hC K hK; go_big_op; rw [(?eX : Sem.run _ (Instr.field _ _ _) _ = Result.ok (.agg #[.bool n_gaa, .slice o_gaa k_gaa c_gaa]) _)]; (case eX => kernel_rfl); simp only [Result.andThen, Oper.upon, Act.put, List.setIfInBounds_toArray, List.set_cons_succ, List.set_cons_zero]; exact hK); iterate 4 kernel_rfl
 refine fl fun w_5 n5 => ?_
 replace xa := xa.bl n5; replace hs := hs.bl n5
 intro K hK
 have k3_5 := (kb hb_4).b n5
 replace h1 := h1.k k3_5
 replace h2 := h2.k k3_5
 replace h3 := h3.k k3_5
 replace h4 := h4.k k3_5
 go_big_op
 go_fit (selQ1 (.mk' h1 h2 h3 h4))
 rintro e w_6 ⟨_, rfl, ⟨n_gba, o_gba, k_gba, c_gba, n_gbb, o_gbb, k_gbb, c_gbb, rfl, gb1, gb2⟩, hb_6⟩
 replace xa := xa.bl hb_6; replace hs := hs.bl hb_6
 refine hK _ _ rfl ⟨hb_6, (And.intro xa trivial)⟩ ?_
 clear hK K
 apply wpFl_ld rfl rfl; (case h1 => intro w' hC K hK; go_big_op; rw [(?eX : Sem.run _ (Instr.field _ _ _) _ = Result.ok (.agg #[.bool n_gbb, .slice o_gbb k_gbb c_gbb]) _)]; (case eX => kernel_rfl); simp only [Result.andThen, Oper.upon, Act.put, List.setIfInBounds_toArray, List.set_cons_succ, List.set_cons_zero]; exact hK); iterate 4 kernel_rfl
 refine fl fun w_7 n7 => ?_
 replace xa := xa.bl n7; replace hs := hs.bl n7
 intro K hK
 have k4_7 := ((kb n5).b hb_6).b n7
 replace ga1 := ga1.k k4_7
 have k6_7 := kb n7
 replace gb2 := gb2.k k6_7
 go_big_op
 go_fit (fmake_r ga1 gb2 (by omega) (by omega) H0.out)
 rintro e w_8 ⟨_, rfl, ⟨n_ra, o_ra, k_ra, c_ra, n_rb, o_rb, k_rb, c_rb, rfl, r1, r2⟩, hb_8⟩
 replace xa := xa.bl hb_8; replace hs := hs.bl hb_8
 refine hK _ _ rfl ⟨hb_8, (And.intro xa trivial)⟩ ?_
 clear hK K
 refine f0 ?_
 refine f0 ?_
 refine e0 hs ?_; clear hs; intro w_9 hs n9
 replace xa := xa.bl n9
 refine tl ?_
 refine .s4 hs.g0 (fun _ => hs.u0 kb_b1) ?_ (e := fun _ hs => (And.intro (xaz.bl hs.b) True.intro)); clear hs; intro w_10 hs hd10 ho10
 replace xa := xa.frame ho10 (Nat.ne_of_lt (Nat.lt_of_lt_of_le lt_xa kb_b1))
 refine tl ?_
 refine .mv ?_ (e := (And.intro (xaz.bl hs.b) True.intro))
 apply wpTail_end
 refine hK2 _ _ ?_
 refine wp_ret ?_
 try dsimp only [Exit.then, Exit.inBlock]
 obtain ⟨r0_0, r0_1, r0_2, r0_3⟩ := hs.g0.f4
 refine bodyPost_ret (v := (.tuple #[(.agg #[.bool n_ra, .slice o_ra k_ra c_ra, .bool n_rb, .slice o_rb k_rb c_rb]), (.int .i64 0)])) (by simp [results, Tryz.results115, go_sem, r0_0, r0_1, r0_2, r0_3]) rfl ?_
 have k8_10 := (kb n9).o hd10 ho10
 replace r1 := r1.k k8_10
 replace r2 := r2.k k8_10
 exact ⟨_, rfl, .mk' r1 r2, hs.b⟩
theorem low1_bad1 {pa : Nat} (hp : BC w pa x l y m u k v n) (hl : l ≤ 100000000) (hm : m ≤ 100000000) (hk : k ≤ 100000000) (hn : n ≤ 100000000) (h0 : y = 0) :
   Calls Tryz.prog 115 (#[.func (.func 171) #[] #[]] ++ #[.pointer (some ⟨pa, 0, none⟩)]) w fun e w' => e = .returned (.tuple #[.agg #[.bool false, .slice none 0 0, .bool false, .slice none 0 0], .int .i64 5]) ∧ Below w.heap.size w w' := by
 subst h0
 obtain ⟨n1, o1, k1, c1, n2, o2, k2, c2, n3, o3, k3, c3, n4, o4, k4, c4, xa, h1, h2, h3, h4⟩ := hp
 show Calls Tryz.prog 115 #[.func (.func 171) #[] #[], .pointer (some ⟨pa, 0, none⟩)] w _
 go_enter Tryz.func115, Tryz.ntmps115
 have hs := St.nil w
 have lt_xa := xa.lt
 have xaz := xa
 refine wp_seq_k fun K1 hK1 => rg [0, 1] ?_
 refine sq ?_
 refine .al hs ?_; clear hs; intro p_b1 w_1 hs n1 kb_b1
 replace xa := xa.bl n1
 refine sm ?_
 apply wpSq_end
 refine hK1 _ _ ?_
 refine wp_seq_k ?_
 intro K2 hK2
 refine wp_region_f4 [(0, false), (1, false), (4, false), (5, false), (2, true), (3, false), (6, true), (7, false), (8, true), (9, false), (10, false)] [11, 12] [] (fun _ => default) [99, 0, 99, 99, 99, 0, 99, 99, 99, 99, 99, 99, 99] [] (.c xa .n) fn fun w_2 n2 => ?_
 replace xa := xa.bl n2; replace hs := hs.bl n2
 refine fmv ?_
 apply wpFl_ld rfl rfl; (case h1 => intro w' hC K hK; have c0 := Bs.cell hC 0 rfl; have c1 := Bs.cell hC 1 rfl; have c2 := Bs.cell hC 2 rfl; have c3 := Bs.cell hC 3 rfl; have c4 := Bs.cell hC 4 rfl; have c5 := Bs.cell hC 5 rfl; have c6 := Bs.cell hC 6 rfl; have c7 := Bs.cell hC 7 rfl; go_big_op; exact hK); iterate 4 kernel_rfl
 refine fmv ?_
 apply wpFl_ld rfl rfl; (case h1 => intro w' hC K hK; have c0 := Bs.cell hC 0 rfl; have c1 := Bs.cell hC 1 rfl; have c2 := Bs.cell hC 2 rfl; have c3 := Bs.cell hC 3 rfl; have c4 := Bs.cell hC 4 rfl; have c5 := Bs.cell hC 5 rfl; have c6 := Bs.cell hC 6 rfl; have c7 := Bs.cell hC 7 rfl; go_big_op; exact hK); iterate 4 kernel_rfl
 refine fl fun w_3 n3 => ?_
 replace xa := xa.bl n3; replace hs := hs.bl n3
 intro K hK
 have k0_3 := ((kb n1).b n2).b n3
 replace h1 := h1.k k0_3
 replace h2 := h2.k k0_3
 replace h3 := h3.k k0_3
 replace h4 := h4.k k0_3
 go_big_op
 go_fit (selQ1 (.mk' h1 h2 h3 h4))
 rintro e w_4 ⟨_, rfl, ⟨n_gaa, o_gaa, k_gaa, c_gaa, n_gab, o_gab, k_gab, c_gab, rfl, ga1, ga2⟩, hb_4⟩
 replace xa := xa.bl hb_4; replace hs := hs.bl hb_4
 refine hK _ _ rfl ⟨hb_4, (And.intro xa trivial)⟩ ?_
 clear hK K
 apply wpFl_ld rfl rfl; (case h1 => intro w' hC K hK; go_big_op; rw [(?eX : Sem.run _ (Instr.field _ _ _) _ = Result.ok (.agg #[.bool n_gaa, .slice o_gaa k_gaa c_gaa]) _)]; (case eX => kernel_rfl); simp only [Result.andThen, Oper.upon, Act.put, List.setIfInBounds_toArray, List.set_cons_succ, List.set_cons_zero]; exact hK); iterate 4 kernel_rfl
 refine fl fun w_5 n5 => ?_
 replace xa := xa.bl n5; replace hs := hs.bl n5
 intro K hK
 have k3_5 := (kb hb_4).b n5
 replace h1 := h1.k k3_5
 replace h2 := h2.k k3_5
 replace h3 := h3.k k3_5
 replace h4 := h4.k k3_5
 go_big_op
 go_fit (selQ1 (.mk' h1 h2 h3 h4))
 rintro e w_6 ⟨_, rfl, ⟨n_gba, o_gba, k_gba, c_gba, n_gbb, o_gbb, k_gbb, c_gbb, rfl, gb1, gb2⟩, hb_6⟩
 replace xa := xa.bl hb_6; replace hs := hs.bl hb_6
 refine hK _ _ rfl ⟨hb_6, (And.intro xa trivial)⟩ ?_
 clear hK K
 apply wpFl_ld rfl rfl; (case h1 => intro w' hC K hK; go_big_op; rw [(?eX : Sem.run _ (Instr.field _ _ _) _ = Result.ok (.agg #[.bool n_gbb, .slice o_gbb k_gbb c_gbb]) _)]; (case eX => kernel_rfl); simp only [Result.andThen, Oper.upon, Act.put, List.setIfInBounds_toArray, List.set_cons_succ, List.set_cons_zero]; exact hK); iterate 4 kernel_rfl
 refine fl fun w_7 n7 => ?_
 replace xa := xa.bl n7; replace hs := hs.bl n7
 intro K hK
 have k4_7 := ((kb n5).b hb_6).b n7
 replace ga1 := ga1.k k4_7
 have k6_7 := kb n7
 replace gb2 := gb2.k k6_7
 go_big_op
 go_fit (fmake_zero ga1 gb2 (by omega) (by omega) )
 rintro e w_8 ⟨rfl, hb_8⟩
 replace xa := xa.bl hb_8; replace hs := hs.bl hb_8
 refine hK _ _ rfl ⟨hb_8, (And.intro xa trivial)⟩ ?_
 clear hK K
 refine f0 ?_
 refine f0 ?_
 refine e0 hs ?_; clear hs; intro w_9 hs n9
 replace xa := xa.bl n9
 refine tl ?_
 refine .s4 hs.g0 (fun _ => hs.u0 kb_b1) ?_ (e := fun _ hs => (And.intro (xaz.bl hs.b) True.intro)); clear hs; intro w_10 hs hd10 ho10
 replace xa := xa.frame ho10 (Nat.ne_of_lt (Nat.lt_of_lt_of_le lt_xa kb_b1))
 refine tl ?_
 refine .mv ?_ (e := (And.intro (xaz.bl hs.b) True.intro))
 apply wpTail_end
 refine hK2 _ _ ?_
 refine wp_ret ?_
 try dsimp only [Exit.then, Exit.inBlock]
 obtain ⟨r0_0, r0_1, r0_2, r0_3⟩ := hs.g0.f4
 refine bodyPost_ret (v := (.tuple #[(.agg #[.bool false, .slice none 0 0, .bool false, .slice none 0 0]), (.int .i64 5)])) (by simp [results, Tryz.results115, go_sem, r0_0, r0_1, r0_2, r0_3]) rfl ?_
 have hb := hs.b
 exact ⟨rfl, hb⟩
theorem low1_ok2 {pa : Nat} (hp : BC w pa x l y m u k v n) (hl : l ≤ 100000000) (hm : m ≤ 100000000) (hk : k ≤ 100000000) (hn : n ≤ 100000000) (h0 : v ≠ 0) :
   Calls Tryz.prog 115 (#[.func (.func 172) #[] #[]] ++ #[.pointer (some ⟨pa, 0, none⟩)]) w fun e w' => ∃ r, e = .returned (.tuple #[r, .int .i64 0]) ∧ PC w' r (rv u v).num (rv u v).den ∧ Below w.heap.size w w' := by
 have H0 := hide h0
 clear h0
 obtain ⟨n1, o1, k1, c1, n2, o2, k2, c2, n3, o3, k3, c3, n4, o4, k4, c4, xa, h1, h2, h3, h4⟩ := hp
 show Calls Tryz.prog 115 #[.func (.func 172) #[] #[], .pointer (some ⟨pa, 0, none⟩)] w _
 go_enter Tryz.func115, Tryz.ntmps115
 have hs := St.nil w
 have lt_xa := xa.lt
 have xaz := xa
 refine wp_seq_k fun K1 hK1 => rg [0, 1] ?_
 refine sq ?_
 refine .al hs ?_; clear hs; intro p_b1 w_1 hs n1 kb_b1
 replace xa := xa.bl n1
 refine sm ?_
 apply wpSq_end
 refine hK1 _ _ ?_
 refine wp_seq_k ?_
 intro K2 hK2
 refine wp_region_f4 [(0, false), (1, false), (4, false), (5, false), (2, true), (3, false), (6, true), (7, false), (8, true), (9, false), (10, false)] [11, 12] [] (fun _ => default) [99, 0, 99, 99, 99, 0, 99, 99, 99, 99, 99, 99, 99] [] (.c xa .n) fn fun w_2 n2 => ?_
 replace xa := xa.bl n2; replace hs := hs.bl n2
 refine fmv ?_
 apply wpFl_ld rfl rfl; (case h1 => intro w' hC K hK; have c0 := Bs.cell hC 0 rfl; have c1 := Bs.cell hC 1 rfl; have c2 := Bs.cell hC 2 rfl; have c3 := Bs.cell hC 3 rfl; have c4 := Bs.cell hC 4 rfl; have c5 := Bs.cell hC 5 rfl; have c6 := Bs.cell hC 6 rfl; have c7 := Bs.cell hC 7 rfl; go_big_op; exact hK); iterate 4 kernel_rfl
 refine fmv ?_
 apply wpFl_ld rfl rfl; (case h1 => intro w' hC K hK; have c0 := Bs.cell hC 0 rfl; have c1 := Bs.cell hC 1 rfl; have c2 := Bs.cell hC 2 rfl; have c3 := Bs.cell hC 3 rfl; have c4 := Bs.cell hC 4 rfl; have c5 := Bs.cell hC 5 rfl; have c6 := Bs.cell hC 6 rfl; have c7 := Bs.cell hC 7 rfl; go_big_op; exact hK); iterate 4 kernel_rfl
 refine fl fun w_3 n3 => ?_
 replace xa := xa.bl n3; replace hs := hs.bl n3
 intro K hK
 have k0_3 := ((kb n1).b n2).b n3
 replace h1 := h1.k k0_3
 replace h2 := h2.k k0_3
 replace h3 := h3.k k0_3
 replace h4 := h4.k k0_3
 go_big_op
 go_fit (selQ2 (.mk' h1 h2 h3 h4))
 rintro e w_4 ⟨_, rfl, ⟨n_gaa, o_gaa, k_gaa, c_gaa, n_gab, o_gab, k_gab, c_gab, rfl, ga1, ga2⟩, hb_4⟩
 replace xa := xa.bl hb_4; replace hs := hs.bl hb_4
 refine hK _ _ rfl ⟨hb_4, (And.intro xa trivial)⟩ ?_
 clear hK K
 apply wpFl_ld rfl rfl; (case h1 => intro w' hC K hK; go_big_op; rw [(?eX : Sem.run _ (Instr.field _ _ _) _ = Result.ok (.agg #[.bool n_gaa, .slice o_gaa k_gaa c_gaa]) _)]; (case eX => kernel_rfl); simp only [Result.andThen, Oper.upon, Act.put, List.setIfInBounds_toArray, List.set_cons_succ, List.set_cons_zero]; exact hK); iterate 4 kernel_rfl
 refine fl fun w_5 n5 => ?_
 replace xa := xa.bl n5; replace hs := hs.bl n5
 intro K hK
 have k3_5 := (kb hb_4).b n5
 replace h1 := h1.k k3_5
 replace h2 := h2.k k3_5
 replace h3 := h3.k k3_5
 replace h4 := h4.k k3_5
 go_big_op
 go_fit (selQ2 (.mk' h1 h2 h3 h4))
 rintro e w_6 ⟨_, rfl, ⟨n_gba, o_gba, k_gba, c_gba, n_gbb, o_gbb, k_gbb, c_gbb, rfl, gb1, gb2⟩, hb_6⟩
 replace xa := xa.bl hb_6; replace hs := hs.bl hb_6
 refine hK _ _ rfl ⟨hb_6, (And.intro xa trivial)⟩ ?_
 clear hK K
 apply wpFl_ld rfl rfl; (case h1 => intro w' hC K hK; go_big_op; rw [(?eX : Sem.run _ (Instr.field _ _ _) _ = Result.ok (.agg #[.bool n_gbb, .slice o_gbb k_gbb c_gbb]) _)]; (case eX => kernel_rfl); simp only [Result.andThen, Oper.upon, Act.put, List.setIfInBounds_toArray, List.set_cons_succ, List.set_cons_zero]; exact hK); iterate 4 kernel_rfl
 refine fl fun w_7 n7 => ?_
 replace xa := xa.bl n7; replace hs := hs.bl n7
 intro K hK
 have k4_7 := ((kb n5).b hb_6).b n7
 replace ga1 := ga1.k k4_7
 have k6_7 := kb n7
 replace gb2 := gb2.k k6_7
 go_big_op
 go_fit (fmake_r ga1 gb2 (by omega) (by omega) H0.out)
 rintro e w_8 ⟨_, rfl, ⟨n_ra, o_ra, k_ra, c_ra, n_rb, o_rb, k_rb, c_rb, rfl, r1, r2⟩, hb_8⟩
 replace xa := xa.bl hb_8; replace hs := hs.bl hb_8
 refine hK _ _ rfl ⟨hb_8, (And.intro xa trivial)⟩ ?_
 clear hK K
 refine f0 ?_
 refine f0 ?_
 refine e0 hs ?_; clear hs; intro w_9 hs n9
 replace xa := xa.bl n9
 refine tl ?_
 refine .s4 hs.g0 (fun _ => hs.u0 kb_b1) ?_ (e := fun _ hs => (And.intro (xaz.bl hs.b) True.intro)); clear hs; intro w_10 hs hd10 ho10
 replace xa := xa.frame ho10 (Nat.ne_of_lt (Nat.lt_of_lt_of_le lt_xa kb_b1))
 refine tl ?_
 refine .mv ?_ (e := (And.intro (xaz.bl hs.b) True.intro))
 apply wpTail_end
 refine hK2 _ _ ?_
 refine wp_ret ?_
 try dsimp only [Exit.then, Exit.inBlock]
 obtain ⟨r0_0, r0_1, r0_2, r0_3⟩ := hs.g0.f4
 refine bodyPost_ret (v := (.tuple #[(.agg #[.bool n_ra, .slice o_ra k_ra c_ra, .bool n_rb, .slice o_rb k_rb c_rb]), (.int .i64 0)])) (by simp [results, Tryz.results115, go_sem, r0_0, r0_1, r0_2, r0_3]) rfl ?_
 have k8_10 := (kb n9).o hd10 ho10
 replace r1 := r1.k k8_10
 replace r2 := r2.k k8_10
 exact ⟨_, rfl, .mk' r1 r2, hs.b⟩
theorem low1_bad2 {pa : Nat} (hp : BC w pa x l y m u k v n) (hl : l ≤ 100000000) (hm : m ≤ 100000000) (hk : k ≤ 100000000) (hn : n ≤ 100000000) (h0 : v = 0) :
   Calls Tryz.prog 115 (#[.func (.func 172) #[] #[]] ++ #[.pointer (some ⟨pa, 0, none⟩)]) w fun e w' => e = .returned (.tuple #[.agg #[.bool false, .slice none 0 0, .bool false, .slice none 0 0], .int .i64 5]) ∧ Below w.heap.size w w' := by
 subst h0
 obtain ⟨n1, o1, k1, c1, n2, o2, k2, c2, n3, o3, k3, c3, n4, o4, k4, c4, xa, h1, h2, h3, h4⟩ := hp
 show Calls Tryz.prog 115 #[.func (.func 172) #[] #[], .pointer (some ⟨pa, 0, none⟩)] w _
 go_enter Tryz.func115, Tryz.ntmps115
 have hs := St.nil w
 have lt_xa := xa.lt
 have xaz := xa
 refine wp_seq_k fun K1 hK1 => rg [0, 1] ?_
 refine sq ?_
 refine .al hs ?_; clear hs; intro p_b1 w_1 hs n1 kb_b1
 replace xa := xa.bl n1
 refine sm ?_
 apply wpSq_end
 refine hK1 _ _ ?_
 refine wp_seq_k ?_
 intro K2 hK2
 refine wp_region_f4 [(0, false), (1, false), (4, false), (5, false), (2, true), (3, false), (6, true), (7, false), (8, true), (9, false), (10, false)] [11, 12] [] (fun _ => default) [99, 0, 99, 99, 99, 0, 99, 99, 99, 99, 99, 99, 99] [] (.c xa .n) fn fun w_2 n2 => ?_
 replace xa := xa.bl n2; replace hs := hs.bl n2
 refine fmv ?_
 apply wpFl_ld rfl rfl; (case h1 => intro w' hC K hK; have c0 := Bs.cell hC 0 rfl; have c1 := Bs.cell hC 1 rfl; have c2 := Bs.cell hC 2 rfl; have c3 := Bs.cell hC 3 rfl; have c4 := Bs.cell hC 4 rfl; have c5 := Bs.cell hC 5 rfl; have c6 := Bs.cell hC 6 rfl; have c7 := Bs.cell hC 7 rfl; go_big_op; exact hK); iterate 4 kernel_rfl
 refine fmv ?_
 apply wpFl_ld rfl rfl; (case h1 => intro w' hC K hK; have c0 := Bs.cell hC 0 rfl; have c1 := Bs.cell hC 1 rfl; have c2 := Bs.cell hC 2 rfl; have c3 := Bs.cell hC 3 rfl; have c4 := Bs.cell hC 4 rfl; have c5 := Bs.cell hC 5 rfl; have c6 := Bs.cell hC 6 rfl; have c7 := Bs.cell hC 7 rfl; go_big_op; exact hK); iterate 4 kernel_rfl
 refine fl fun w_3 n3 => ?_
 replace xa := xa.bl n3; replace hs := hs.bl n3
 intro K hK
 have k0_3 := ((kb n1).b n2).b n3
 replace h1 := h1.k k0_3
 replace h2 := h2.k k0_3
 replace h3 := h3.k k0_3
 replace h4 := h4.k k0_3
 go_big_op
 go_fit (selQ2 (.mk' h1 h2 h3 h4))
 rintro e w_4 ⟨_, rfl, ⟨n_gaa, o_gaa, k_gaa, c_gaa, n_gab, o_gab, k_gab, c_gab, rfl, ga1, ga2⟩, hb_4⟩
 replace xa := xa.bl hb_4; replace hs := hs.bl hb_4
 refine hK _ _ rfl ⟨hb_4, (And.intro xa trivial)⟩ ?_
 clear hK K
 apply wpFl_ld rfl rfl; (case h1 => intro w' hC K hK; go_big_op; rw [(?eX : Sem.run _ (Instr.field _ _ _) _ = Result.ok (.agg #[.bool n_gaa, .slice o_gaa k_gaa c_gaa]) _)]; (case eX => kernel_rfl); simp only [Result.andThen, Oper.upon, Act.put, List.setIfInBounds_toArray, List.set_cons_succ, List.set_cons_zero]; exact hK); iterate 4 kernel_rfl
 refine fl fun w_5 n5 => ?_
 replace xa := xa.bl n5; replace hs := hs.bl n5
 intro K hK
 have k3_5 := (kb hb_4).b n5
 replace h1 := h1.k k3_5
 replace h2 := h2.k k3_5
 replace h3 := h3.k k3_5
 replace h4 := h4.k k3_5
 go_big_op
 go_fit (selQ2 (.mk' h1 h2 h3 h4))
 rintro e w_6 ⟨_, rfl, ⟨n_gba, o_gba, k_gba, c_gba, n_gbb, o_gbb, k_gbb, c_gbb, rfl, gb1, gb2⟩, hb_6⟩
 replace xa := xa.bl hb_6; replace hs := hs.bl hb_6
 refine hK _ _ rfl ⟨hb_6, (And.intro xa trivial)⟩ ?_
 clear hK K
 apply wpFl_ld rfl rfl; (case h1 => intro w' hC K hK; go_big_op; rw [(?eX : Sem.run _ (Instr.field _ _ _) _ = Result.ok (.agg #[.bool n_gbb, .slice o_gbb k_gbb c_gbb]) _)]; (case eX => kernel_rfl); simp only [Result.andThen, Oper.upon, Act.put, List.setIfInBounds_toArray, List.set_cons_succ, List.set_cons_zero]; exact hK); iterate 4 kernel_rfl
 refine fl fun w_7 n7 => ?_
 replace xa := xa.bl n7; replace hs := hs.bl n7
 intro K hK
 have k4_7 := ((kb n5).b hb_6).b n7
 replace ga1 := ga1.k k4_7
 have k6_7 := kb n7
 replace gb2 := gb2.k k6_7
 go_big_op
 go_fit (fmake_zero ga1 gb2 (by omega) (by omega) )
 rintro e w_8 ⟨rfl, hb_8⟩
 replace xa := xa.bl hb_8; replace hs := hs.bl hb_8
 refine hK _ _ rfl ⟨hb_8, (And.intro xa trivial)⟩ ?_
 clear hK K
 refine f0 ?_
 refine f0 ?_
 refine e0 hs ?_; clear hs; intro w_9 hs n9
 replace xa := xa.bl n9
 refine tl ?_
 refine .s4 hs.g0 (fun _ => hs.u0 kb_b1) ?_ (e := fun _ hs => (And.intro (xaz.bl hs.b) True.intro)); clear hs; intro w_10 hs hd10 ho10
 replace xa := xa.frame ho10 (Nat.ne_of_lt (Nat.lt_of_lt_of_le lt_xa kb_b1))
 refine tl ?_
 refine .mv ?_ (e := (And.intro (xaz.bl hs.b) True.intro))
 apply wpTail_end
 refine hK2 _ _ ?_
 refine wp_ret ?_
 try dsimp only [Exit.then, Exit.inBlock]
 obtain ⟨r0_0, r0_1, r0_2, r0_3⟩ := hs.g0.f4
 refine bodyPost_ret (v := (.tuple #[(.agg #[.bool false, .slice none 0 0, .bool false, .slice none 0 0]), (.int .i64 5)])) (by simp [results, Tryz.results115, go_sem, r0_0, r0_1, r0_2, r0_3]) rfl ?_
 have hb := hs.b
 exact ⟨rfl, hb⟩
theorem low_ok (ha : CN w va x l y m u k v n) (hl : l ≤ 100000000) (hm : m ≤ 100000000) (hk : k ≤ 100000000) (hn : n ≤ 100000000) (hy : y ≠ 0) (hv : v ≠ 0) :
   Calls Tryz.prog 55 #[va] w fun e w' => ∃ r, e = .returned (.tuple #[r, .int .i64 0]) ∧ CC w' r (rv x y).num (rv x y).den (rv u v).num (rv u v).den ∧ Below w.heap.size w w' := by
 have HY := hide hy
 have HV := hide hv
 clear hy hv
 obtain ⟨n_0a, o_0a, k_0a, c_0a, n_0b, o_0b, k_0b, c_0b, n_0c, o_0c, k_0c, c_0c, n_0d, o_0d, k_0d, c_0d, rfl, ha1, ha2, ha3, ha4⟩ := ha
 go_enter Tryz.func55, Tryz.ntmps55
 have hs := St.nil w
 refine wp_seq_k fun K1 hK1 => rg [0, 1, 2] ?_
 refine sq ?_
 refine .al hs ?_; clear hs; intro p_b1 w_1 hs n1 kb_b1
 refine sq ?_
 refine .al hs ?_; clear hs; intro p_b2 w_2 hs n2 kb_b2
 refine sm ?_
 apply wpSq_end
 refine hK1 _ _ ?_
 refine wp_seq_k fun K2 hK2 => rg [0, 1, 2, 3, 4, 5] ?_
 refine sr ?_
 refine sq ?_
 intro K hK
 have x_b1 := hs.g1
 have k0_2 := (kb n1).b n2
 replace ha1 := ha1.k k0_2
 replace ha2 := ha2.k k0_2
 replace ha3 := ha3.k k0_2
 replace ha4 := ha4.k k0_2
 go_big_op
 go_fit (number_ok (fun _ _ ↦ by kernel_rfl) (fun w1 h ↦ low1_ok1 (.mk' (x_b1.bl h) (ha1.bl h) (ha2.bl h) (ha3.bl h) (ha4.bl h)) hl hm hk hn HY.out) (fun w1 h ↦ low1_ok2 (.mk' (x_b1.bl h) (ha1.bl h) (ha2.bl h) (ha3.bl h) (ha4.bl h)) hl hm hk hn HV.out))
 rintro e w_3 ⟨_, rfl, ⟨n_r1, o_r1, k_r1, c_r1, n_r2, o_r2, k_r2, c_r2, n_r3, o_r3, k_r3, c_r3, n_r4, o_r4, k_r4, c_r4, rfl, r1, r2, r3, r4⟩, hb_3⟩
 clear x_b1
 replace hs := hs.bl hb_3
 refine hK _ _ rfl trivial ?_
 clear hK K
 refine sr ?_
 refine sr ?_
 refine sq ?_
 intro K hK
 have xs := hs.g0
 have d0 : w_3.cell? ⟨p_b2, 0, none⟩ = some (.bool false) := hs.g0.cell 0 rfl
 have d1 : w_3.cell? ⟨p_b2, 1, none⟩ = some (.slice none 0 0) := hs.g0.cell 1 rfl
 have d2 : w_3.cell? ⟨p_b2, 2, none⟩ = some (.bool false) := hs.g0.cell 2 rfl
 have d3 : w_3.cell? ⟨p_b2, 3, none⟩ = some (.slice none 0 0) := hs.g0.cell 3 rfl
 have d4 : w_3.cell? ⟨p_b2, 4, none⟩ = some (.bool false) := hs.g0.cell 4 rfl
 have d5 : w_3.cell? ⟨p_b2, 5, none⟩ = some (.slice none 0 0) := hs.g0.cell 5 rfl
 have d6 : w_3.cell? ⟨p_b2, 6, none⟩ = some (.bool false) := hs.g0.cell 6 rfl
 have d7 : w_3.cell? ⟨p_b2, 7, none⟩ = some (.slice none 0 0) := hs.g0.cell 7 rfl
 have f0 := xs.free 0; have f1 := xs.free 1; have f2 := xs.free 2; have f3 := xs.free 3; have f4 := xs.free 4; have f5 := xs.free 5; have f6 := xs.free 6; have f7 := xs.free 7
 go_big_op
 have hd4 := xs.nod rfl rfl
 obtain ⟨w_4_0, eW, xs_0, ho_0⟩ : ∃ w', ((((w_3.setCell ⟨p_b2, 0, none⟩ (.bool n_r1)).setCell ⟨p_b2, 1, none⟩ (.slice o_r1 k_r1 c_r1)).setCell ⟨p_b2, 2, none⟩ (.bool n_r2)).setCell ⟨p_b2, 3, none⟩ (.slice o_r2 k_r2 c_r2)) = w' ∧ Bs w' p_b2 #[.bool n_r1, .slice o_r1 k_r1 c_r1, .bool n_r2, .slice o_r2 k_r2 c_r2, .bool false, .slice none 0 0, .bool false, .slice none 0 0] 28 ∧ Only p_b2 w_3 w' := xs.setN [(0, .bool n_r1), (1, .slice o_r1 k_r1 c_r1), (2, .bool n_r2), (3, .slice o_r2 k_r2 c_r2)]
 rw [eW]; clear eW
 obtain ⟨w_4, eW, xs', ho_4⟩ : ∃ w', ((((w_4_0.setCell ⟨p_b2, 4, none⟩ (.bool n_r3)).setCell ⟨p_b2, 5, none⟩ (.slice o_r3 k_r3 c_r3)).setCell ⟨p_b2, 6, none⟩ (.bool n_r4)).setCell ⟨p_b2, 7, none⟩ (.slice o_r4 k_r4 c_r4)) = w' ∧ Bs w' p_b2 #[.bool n_r1, .slice o_r1 k_r1 c_r1, .bool n_r2, .slice o_r2 k_r2 c_r2, .bool n_r3, .slice o_r3 k_r3 c_r3, .bool n_r4, .slice o_r4 k_r4 c_r4] 28 ∧ Only p_b2 w_4_0 w' := xs_0.setN [(4, .bool n_r3), (5, .slice o_r3 k_r3 c_r3), (6, .bool n_r4), (7, .slice o_r4 k_r4 c_r4)]
 rw [eW]; clear eW xs_0
 have ho4 := (ho_0.trans ho_4)
 clear ho_0 ho_4 d0 d1 d2 d3 d4 d5 d6 d7 f0 f1 f2 f3 f4 f5 f6 f7 xs
 replace hs := hs.u0 kb_b2 xs' ho4; clear xs'
 refine hK _ _ rfl trivial ?_; clear hK K
 refine sm ?_
 apply wpSq_end
 refine hK2 _ _ ?_
 refine wp_ret ?_
 try dsimp only [Exit.then, Exit.inBlock]
 have r0_0 : w_4.cell? ⟨p_b2, 0, none⟩ = some (.bool n_r1) := hs.g0.cell 0 rfl
 have r0_1 : w_4.cell? ⟨p_b2, 1, none⟩ = some (.slice o_r1 k_r1 c_r1) := hs.g0.cell 1 rfl
 have r0_2 : w_4.cell? ⟨p_b2, 2, none⟩ = some (.bool n_r2) := hs.g0.cell 2 rfl
 have r0_3 : w_4.cell? ⟨p_b2, 3, none⟩ = some (.slice o_r2 k_r2 c_r2) := hs.g0.cell 3 rfl
 have r0_4 : w_4.cell? ⟨p_b2, 4, none⟩ = some (.bool n_r3) := hs.g0.cell 4 rfl
 have r0_5 : w_4.cell? ⟨p_b2, 5, none⟩ = some (.slice o_r3 k_r3 c_r3) := hs.g0.cell 5 rfl
 have r0_6 : w_4.cell? ⟨p_b2, 6, none⟩ = some (.bool n_r4) := hs.g0.cell 6 rfl
 have r0_7 : w_4.cell? ⟨p_b2, 7, none⟩ = some (.slice o_r4 k_r4 c_r4) := hs.g0.cell 7 rfl
 refine bodyPost_ret (v := (.tuple #[(.agg #[.bool n_r1, .slice o_r1 k_r1 c_r1, .bool n_r2, .slice o_r2 k_r2 c_r2, .bool n_r3, .slice o_r3 k_r3 c_r3, .bool n_r4, .slice o_r4 k_r4 c_r4]), (.int .i64 0)])) (by simp [results, Tryz.results55, go_sem, r0_0, r0_1, r0_2, r0_3, r0_4, r0_5, r0_6, r0_7]) rfl ?_
 have k3_4 := ko hd4 ho4
 replace r1 := r1.k k3_4
 replace r2 := r2.k k3_4
 replace r3 := r3.k k3_4
 replace r4 := r4.k k3_4
 exact ⟨_, rfl, .mk' r1 r2 r3 r4, hs.b⟩
theorem low_bad (ha : CN w va x l y m u k v n) (hl : l ≤ 100000000) (hm : m ≤ 100000000) (hk : k ≤ 100000000) (hn : n ≤ 100000000) (h : y = 0 ∨ v = 0) :
   Calls Tryz.prog 55 #[va] w fun e w' => e = .returned (.tuple #[.agg #[.bool false, .slice none 0 0, .bool false, .slice none 0 0, .bool false, .slice none 0 0, .bool false, .slice none 0 0], .int .i64 5]) ∧ Below w.heap.size w w' := by
 have H := hide (show y = 0 ∨ y ≠ 0 ∧ v = 0 by omega)
 clear h
 obtain ⟨n_0a, o_0a, k_0a, c_0a, n_0b, o_0b, k_0b, c_0b, n_0c, o_0c, k_0c, c_0c, n_0d, o_0d, k_0d, c_0d, rfl, ha1, ha2, ha3, ha4⟩ := ha
 go_enter Tryz.func55, Tryz.ntmps55
 have hs := St.nil w
 refine wp_seq_k fun K1 hK1 => rg [0, 1, 2] ?_
 refine sq ?_
 refine .al hs ?_; clear hs; intro p_b1 w_1 hs n1 kb_b1
 refine sq ?_
 refine .al hs ?_; clear hs; intro p_b2 w_2 hs n2 kb_b2
 refine sm ?_
 apply wpSq_end
 refine hK1 _ _ ?_
 refine wp_seq_k fun K2 hK2 => rg [0, 1, 2, 3, 4, 5] ?_
 refine sr ?_
 refine sq ?_
 intro K hK
 have x_b1 := hs.g1
 have k0_2 := (kb n1).b n2
 replace ha1 := ha1.k k0_2
 replace ha2 := ha2.k k0_2
 replace ha3 := ha3.k k0_2
 replace ha4 := ha4.k k0_2
 go_big_op
 go_fit (number_bad (fun _ _ ↦ by kernel_rfl) (H.out.imp (fun e w1 h ↦ low1_bad1 (.mk' (x_b1.bl h) (ha1.bl h) (ha2.bl h) (ha3.bl h) (ha4.bl h)) hl hm hk hn e) (fun e ↦ ⟨⟨_, _, fun w1 h ↦ low1_ok1 (.mk' (x_b1.bl h) (ha1.bl h) (ha2.bl h) (ha3.bl h) (ha4.bl h)) hl hm hk hn e.1⟩, fun w1 h ↦ low1_bad2 (.mk' (x_b1.bl h) (ha1.bl h) (ha2.bl h) (ha3.bl h) (ha4.bl h)) hl hm hk hn e.2⟩)))
 rintro e w_3 ⟨rfl, hb_3⟩
 clear x_b1
 replace hs := hs.bl hb_3
 refine hK _ _ rfl trivial ?_
 clear hK K
 refine sr ?_
 refine sr ?_
 refine sq ?_
 intro K hK
 have xs := hs.g0
 have d0 : w_3.cell? ⟨p_b2, 0, none⟩ = some (.bool false) := hs.g0.cell 0 rfl
 have d1 : w_3.cell? ⟨p_b2, 1, none⟩ = some (.slice none 0 0) := hs.g0.cell 1 rfl
 have d2 : w_3.cell? ⟨p_b2, 2, none⟩ = some (.bool false) := hs.g0.cell 2 rfl
 have d3 : w_3.cell? ⟨p_b2, 3, none⟩ = some (.slice none 0 0) := hs.g0.cell 3 rfl
 have d4 : w_3.cell? ⟨p_b2, 4, none⟩ = some (.bool false) := hs.g0.cell 4 rfl
 have d5 : w_3.cell? ⟨p_b2, 5, none⟩ = some (.slice none 0 0) := hs.g0.cell 5 rfl
 have d6 : w_3.cell? ⟨p_b2, 6, none⟩ = some (.bool false) := hs.g0.cell 6 rfl
 have d7 : w_3.cell? ⟨p_b2, 7, none⟩ = some (.slice none 0 0) := hs.g0.cell 7 rfl
 have f0 := xs.free 0; have f1 := xs.free 1; have f2 := xs.free 2; have f3 := xs.free 3; have f4 := xs.free 4; have f5 := xs.free 5; have f6 := xs.free 6; have f7 := xs.free 7
 go_big_op
 have hd4 := xs.nod rfl rfl
 obtain ⟨w_4_0, eW, xs_0, ho_0⟩ : ∃ w', ((((w_3.setCell ⟨p_b2, 0, none⟩ (.bool false)).setCell ⟨p_b2, 1, none⟩ (.slice none 0 0)).setCell ⟨p_b2, 2, none⟩ (.bool false)).setCell ⟨p_b2, 3, none⟩ (.slice none 0 0)) = w' ∧ Bs w' p_b2 #[.bool false, .slice none 0 0, .bool false, .slice none 0 0, .bool false, .slice none 0 0, .bool false, .slice none 0 0] 28 ∧ Only p_b2 w_3 w' := xs.setN [(0, .bool false), (1, .slice none 0 0), (2, .bool false), (3, .slice none 0 0)]
 rw [eW]; clear eW
 obtain ⟨w_4, eW, xs', ho_4⟩ : ∃ w', ((((w_4_0.setCell ⟨p_b2, 4, none⟩ (.bool false)).setCell ⟨p_b2, 5, none⟩ (.slice none 0 0)).setCell ⟨p_b2, 6, none⟩ (.bool false)).setCell ⟨p_b2, 7, none⟩ (.slice none 0 0)) = w' ∧ Bs w' p_b2 #[.bool false, .slice none 0 0, .bool false, .slice none 0 0, .bool false, .slice none 0 0, .bool false, .slice none 0 0] 28 ∧ Only p_b2 w_4_0 w' := xs_0.setN [(4, .bool false), (5, .slice none 0 0), (6, .bool false), (7, .slice none 0 0)]
 rw [eW]; clear eW xs_0
 have ho4 := (ho_0.trans ho_4)
 clear ho_0 ho_4 d0 d1 d2 d3 d4 d5 d6 d7 f0 f1 f2 f3 f4 f5 f6 f7 xs
 replace hs := hs.u0 kb_b2 xs' ho4; clear xs'
 refine hK _ _ rfl trivial ?_; clear hK K
 refine sm ?_
 apply wpSq_end
 refine hK2 _ _ ?_
 refine wp_ret ?_
 try dsimp only [Exit.then, Exit.inBlock]
 have r0_0 : w_4.cell? ⟨p_b2, 0, none⟩ = some (.bool false) := hs.g0.cell 0 rfl
 have r0_1 : w_4.cell? ⟨p_b2, 1, none⟩ = some (.slice none 0 0) := hs.g0.cell 1 rfl
 have r0_2 : w_4.cell? ⟨p_b2, 2, none⟩ = some (.bool false) := hs.g0.cell 2 rfl
 have r0_3 : w_4.cell? ⟨p_b2, 3, none⟩ = some (.slice none 0 0) := hs.g0.cell 3 rfl
 have r0_4 : w_4.cell? ⟨p_b2, 4, none⟩ = some (.bool false) := hs.g0.cell 4 rfl
 have r0_5 : w_4.cell? ⟨p_b2, 5, none⟩ = some (.slice none 0 0) := hs.g0.cell 5 rfl
 have r0_6 : w_4.cell? ⟨p_b2, 6, none⟩ = some (.bool false) := hs.g0.cell 6 rfl
 have r0_7 : w_4.cell? ⟨p_b2, 7, none⟩ = some (.slice none 0 0) := hs.g0.cell 7 rfl
 refine bodyPost_ret (v := (.tuple #[(.agg #[.bool false, .slice none 0 0, .bool false, .slice none 0 0, .bool false, .slice none 0 0, .bool false, .slice none 0 0]), (.int .i64 5)])) (by simp [results, Tryz.results55, go_sem, r0_0, r0_1, r0_2, r0_3, r0_4, r0_5, r0_6, r0_7]) rfl ?_
 have hb := hs.b
 exact ⟨rfl, hb⟩
end
end Go.Proofs.YthlhekkcjficdaaGreatDoor

/- gfrac: Add, Sub. -/
namespace Go.Proofs.YthlhekkcjficdaaGreatDoor
open Go Go.RowKit Dig
set_option linter.unusedVariables false
section
variable {w : World} {va vb : Value} {x y u v p q s t : Int} {l m k n l2 m2 k2 n2 : Nat}
end
end Go.Proofs.YthlhekkcjficdaaGreatDoor

/- gint: sums, products, norms, order. -/
namespace Go.Proofs.YthlhekkcjficdaaGreatDoor
open Go Go.RowKit Dig
set_option maxHeartbeats 4000000
set_option maxRecDepth 20000
set_option linter.unusedVariables false
def gN (x y : Int) : Int := x * x + y * y
theorem mul_self_nonneg' (x : Int) : 0 ≤ x * x := by
 rcases Int.le_total 0 x with h | h
 · exact Int.mul_nonneg h h
 · exact Int.mul_nonneg_of_nonpos_of_nonpos h h
section
variable {w : World} {va vb : Value} {x y u v : Int} {l m k n : Nat}
theorem gMul_any (ha : PN w va x l y m) (hq : PN w vb u k v n) (hl : l ≤ 40000000) (hm : m ≤ 40000000) (hk : k ≤ 40000000) (hn : n ≤ 40000000) :
   Calls Tryz.prog 53 #[va, vb] w fun e w' => ∃ r, e = .returned r ∧ PC w' r (x * u - y * v) (x * v + y * u) ∧ Below w.heap.size w w' := by
 obtain ⟨n_0a, o_0a, k_0a, c_0a, n_0b, o_0b, k_0b, c_0b, rfl, ha1, ha2⟩ := ha
 obtain ⟨n_1a, o_1a, k_1a, c_1a, n_1b, o_1b, k_1b, c_1b, rfl, hq1, hq2⟩ := hq
 go_enter Tryz.func53, Tryz.ntmps53
 have hs := St.nil w
 refine wp_seq_k fun K1 hK1 => rg [0, 1, 2] ?_
 refine sq ?_
 refine .al hs ?_; clear hs; intro p_b1 w_1 hs n1 kb_b1
 refine sq ?_
 refine .al hs ?_; clear hs; intro p_b2 w_2 hs n2 kb_b2
 refine sq ?_
 refine .al hs ?_; clear hs; intro p_b3 w_3 hs n3 kb_b3
 apply wpSq_end
 refine hK1 _ _ ?_
 refine wp_seq_k ?_
 intro K2 hK2
 refine wp_region_f4 [(0, false), (1, false), (2, false), (3, false), (5, false), (6, false), (7, false), (8, false), (11, false), (12, false), (13, false), (14, false), (16, false), (17, false), (18, false), (19, false), (4, true), (9, true), (10, true), (15, true), (20, true), (21, true), (22, false)] [23] [] (fun _ => default) [99, 0, 99, 1, 99, 99, 0, 99, 1, 99, 99, 99, 0, 99, 1, 99, 99, 0, 99, 1, 99, 99, 99, 99] [] (.c hs.g2 (.c hs.g1 .n)) fn fun w_4 n4 => ?_
 replace hs := hs.bl n4
 refine f0 ?_
 refine f4 ?_
 refine f0 ?_
 refine f4 ?_
 refine f0 ?_
 refine f4 ?_
 refine f0 ?_
 refine f4 ?_
 refine f0 ?_
 refine f4 ?_
 refine f0 ?_
 refine f4 ?_
 refine f0 ?_
 refine f4 ?_
 refine f0 ?_
 refine f4 ?_
 refine fl fun w_5 n5 => ?_
 replace hs := hs.bl n5
 intro K hK
 have k0_5 := ((((kb n1).b n2).b n3).b n4).b n5
 replace ha1 := ha1.k k0_5
 replace hq1 := hq1.k k0_5
 go_big_op
 go_fit (zmul_any ha1 hq1 (by omega) (by omega) )
 rintro e w_6 ⟨v_g1, rfl, g1, hb_6⟩
 replace hs := hs.bl hb_6
 replace g1 := g1.rd
 obtain ⟨n_g1, o_g1, k_g1, c_g1, rfl⟩ := g1.open2
 have Lg1 := hide (g1.lenOf (zlen_mul (ha1.len) (hq1.len)))
 refine hK _ _ rfl ⟨hb_6, (And.intro hs.g2 (And.intro hs.g1 trivial))⟩ ?_
 clear hK K
 refine fl fun w_7 n7 => ?_
 replace hs := hs.bl n7
 intro K hK
 have k0_7 := (k0_5.b hb_6).b n7
 replace ha2 := ha2.k k0_7
 replace hq2 := hq2.k k0_7
 go_big_op
 go_fit (zmul_any ha2 hq2 (by omega) (by omega) )
 rintro e w_8 ⟨v_g2, rfl, g2, hb_8⟩
 replace hs := hs.bl hb_8
 replace g2 := g2.rd
 obtain ⟨n_g2, o_g2, k_g2, c_g2, rfl⟩ := g2.open2
 have Lg2 := hide (g2.lenOf (zlen_mul (ha2.len) (hq2.len)))
 refine hK _ _ rfl ⟨hb_8, (And.intro hs.g2 (And.intro hs.g1 trivial))⟩ ?_
 clear hK K
 refine fl fun w_9 n9 => ?_
 replace hs := hs.bl n9
 intro K hK
 have k6_9 := ((kb n7).b hb_8).b n9
 replace g1 := g1.k k6_9
 have k8_9 := kb n9
 replace g2 := g2.k k8_9
 go_big_op
 go_fit (zsub_any (g1.zn Lg1.out) (g2.zn Lg2.out) (by omega) (by omega) )
 rintro e w_10 ⟨v_g3, rfl, g3, hb_10⟩
 replace hs := hs.bl hb_10
 replace g3 := g3.rd
 obtain ⟨n_g3, o_g3, k_g3, c_g3, rfl⟩ := g3.open2
 refine hK _ _ rfl ⟨hb_10, (And.intro hs.g2 (And.intro hs.g1 trivial))⟩ ?_
 clear hK K
 refine fl fun w_11 n11 => ?_
 replace hs := hs.bl n11
 intro K hK
 have k5_11 := (((((kb hb_6).b n7).b hb_8).b n9).b hb_10).b n11
 replace ha1 := ha1.k k5_11
 have k7_11 := (((kb hb_8).b n9).b hb_10).b n11
 replace hq2 := hq2.k k7_11
 go_big_op
 go_fit (zmul_any ha1 hq2 (by omega) (by omega) )
 rintro e w_12 ⟨v_g4, rfl, g4, hb_12⟩
 replace hs := hs.bl hb_12
 replace g4 := g4.rd
 obtain ⟨n_g4, o_g4, k_g4, c_g4, rfl⟩ := g4.open2
 have Lg4 := hide (g4.lenOf (zlen_mul (ha1.len) (hq2.len)))
 refine hK _ _ rfl ⟨hb_12, (And.intro hs.g2 (And.intro hs.g1 trivial))⟩ ?_
 clear hK K
 refine fl fun w_13 n13 => ?_
 replace hs := hs.bl n13
 intro K hK
 have k7_13 := (k7_11.b hb_12).b n13
 replace ha2 := ha2.k k7_13
 have k5_13 := (k5_11.b hb_12).b n13
 replace hq1 := hq1.k k5_13
 go_big_op
 go_fit (zmul_any ha2 hq1 (by omega) (by omega) )
 rintro e w_14 ⟨v_g5, rfl, g5, hb_14⟩
 replace hs := hs.bl hb_14
 replace g5 := g5.rd
 obtain ⟨n_g5, o_g5, k_g5, c_g5, rfl⟩ := g5.open2
 have Lg5 := hide (g5.lenOf (zlen_mul (ha2.len) (hq1.len)))
 refine hK _ _ rfl ⟨hb_14, (And.intro hs.g2 (And.intro hs.g1 trivial))⟩ ?_
 clear hK K
 refine fl fun w_15 n15 => ?_
 replace hs := hs.bl n15
 intro K hK
 have k12_15 := ((kb n13).b hb_14).b n15
 replace g4 := g4.k k12_15
 have k14_15 := kb n15
 replace g5 := g5.k k14_15
 go_big_op
 go_fit (zadd_any (g4.zn Lg4.out) (g5.zn Lg5.out) (by omega) (by omega) )
 rintro e w_16 ⟨v_g6, rfl, g6, hb_16⟩
 replace hs := hs.bl hb_16
 replace g6 := g6.rd
 obtain ⟨n_g6, o_g6, k_g6, c_g6, rfl⟩ := g6.open2
 refine hK _ _ rfl ⟨hb_16, (And.intro hs.g2 (And.intro hs.g1 trivial))⟩ ?_
 clear hK K
 refine f0 ?_
 refine e0 hs ?_; clear hs; intro w_17 hs n17
 refine tl ?_
 refine .s4 hs.g0 (fun _ => hs.u0 kb_b3) ?_ (e := fun _ hs => (And.intro hs.g2 (And.intro hs.g1 True.intro))); clear hs; intro w_18 hs hd18 ho18
 apply wpTail_end
 refine hK2 _ _ ?_
 refine wp_ret ?_
 try dsimp only [Exit.then, Exit.inBlock]
 obtain ⟨r0_0, r0_1, r0_2, r0_3⟩ := hs.g0.f4
 refine bodyPost_ret (v := (.agg #[.bool n_g3, .slice o_g3 k_g3 c_g3, .bool n_g6, .slice o_g6 k_g6 c_g6])) (by simp [results, Tryz.results53, go_sem, r0_0, r0_1, r0_2, r0_3]) rfl ?_
 have k10_18 := (((((((kb n11).b hb_12).b n13).b hb_14).b n15).b hb_16).b n17).o hd18 ho18
 replace g3 := g3.k k10_18
 have k16_18 := (kb n17).o hd18 ho18
 replace g6 := g6.k k16_18
 exact ⟨_, rfl, .mk' g3 g6, hs.b⟩
theorem gConj_any (ha : PN w va x l y m) (hl : l ≤ 100000000) (hm : m ≤ 100000000) :
   Calls Tryz.prog 54 #[va] w fun e w' => ∃ r, e = .returned r ∧ PC w' r x (-y) ∧ Below w.heap.size w w' := by
 have E := hide (Int.add_zero x)
 obtain ⟨n_0a, o_0a, k_0a, c_0a, n_0b, o_0b, k_0b, c_0b, rfl, ha1, ha2⟩ := ha
 go_enter Tryz.func54, Tryz.ntmps54
 have hs := St.nil w
 refine wp_seq_k fun K1 hK1 => rg [0, 1] ?_
 refine sq ?_
 refine .al hs ?_; clear hs; intro p_b1 w_1 hs n1 kb_b1
 refine sq ?_
 refine .al hs ?_; clear hs; intro p_b2 w_2 hs n2 kb_b2
 apply wpSq_end
 refine hK1 _ _ ?_
 refine wp_seq_k ?_
 intro K2 hK2
 refine wp_region_f4 [(0, false), (1, false), (2, false), (4, false), (5, false), (3, true), (6, true), (7, false)] [8] [] (fun _ => default) [99, 0, 99, 99, 99, 0, 99, 99, 99] [] (.c hs.g1 .n) fn fun w_3 n3 => ?_
 replace hs := hs.bl n3
 refine f0 ?_
 refine f4 ?_
 refine f0 ?_
 refine f0 ?_
 refine f4 ?_
 refine fl fun w_4 n4 => ?_
 replace hs := hs.bl n4
 intro K hK
 have k0_4 := (((kb n1).b n2).b n3).b n4
 replace ha1 := ha1.k k0_4
 go_big_op
 go_fit (zadd_any ha1 ((zc_zero w_4).zn zlen_0) (by omega) (by omega) )
 rintro e w_5 ⟨v_g1, rfl, g1, hb_5⟩
 replace hs := hs.bl hb_5
 replace g1 := g1.rd
 obtain ⟨n_g1, o_g1, k_g1, c_g1, rfl⟩ := g1.open2
 rw [E.out] at g1
 refine hK _ _ rfl ⟨hb_5, (And.intro hs.g1 trivial)⟩ ?_
 clear hK K
 refine fl fun w_6 n6 => ?_
 replace hs := hs.bl n6
 intro K hK
 have k0_6 := (k0_4.b hb_5).b n6
 replace ha2 := ha2.k k0_6
 go_big_op
 go_fit (zneg_any ha2 (by omega) )
 rintro e w_7 ⟨v_g2, rfl, g2, hb_7⟩
 replace hs := hs.bl hb_7
 replace g2 := g2.rd
 obtain ⟨n_g2, o_g2, k_g2, c_g2, rfl⟩ := g2.open2
 refine hK _ _ rfl ⟨hb_7, (And.intro hs.g1 trivial)⟩ ?_
 clear hK K
 refine f0 ?_
 refine e0 hs ?_; clear hs; intro w_8 hs n8
 refine tl ?_
 refine .s4 hs.g0 (fun _ => hs.u0 kb_b2) ?_ (e := fun _ hs => (And.intro hs.g1 True.intro)); clear hs; intro w_9 hs hd9 ho9
 apply wpTail_end
 refine hK2 _ _ ?_
 refine wp_ret ?_
 try dsimp only [Exit.then, Exit.inBlock]
 obtain ⟨r0_0, r0_1, r0_2, r0_3⟩ := hs.g0.f4
 refine bodyPost_ret (v := (.agg #[.bool n_g1, .slice o_g1 k_g1 c_g1, .bool n_g2, .slice o_g2 k_g2 c_g2])) (by simp [results, Tryz.results54, go_sem, r0_0, r0_1, r0_2, r0_3]) rfl ?_
 have k5_9 := (((kb n6).b hb_7).b n8).o hd9 ho9
 replace g1 := g1.k k5_9
 have k7_9 := (kb n8).o hd9 ho9
 replace g2 := g2.k k7_9
 exact ⟨_, rfl, .mk' g1 g2, hs.b⟩
theorem gNorm_any (ha : PN w va x l y m) (hl : l ≤ 40000000) (hm : m ≤ 40000000) :
   Calls Tryz.prog 58 #[va] w fun e w' => ∃ r, e = .returned r ∧ ZC w' r (gN x y) ∧ Below w.heap.size w w' := by
 unfold gN
 obtain ⟨n_0a, o_0a, k_0a, c_0a, n_0b, o_0b, k_0b, c_0b, rfl, ha1, ha2⟩ := ha
 go_enter Tryz.func58, Tryz.ntmps58
 have hs := St.nil w
 refine wp_seq_k fun K1 hK1 => rg [0, 1] ?_
 refine sq ?_
 refine .al hs ?_; clear hs; intro p_b1 w_1 hs n1 kb_b1
 refine sq ?_
 refine .al hs ?_; clear hs; intro p_b2 w_2 hs n2 kb_b2
 apply wpSq_end
 refine hK1 _ _ ?_
 refine wp_seq_k ?_
 intro K2 hK2
 refine wp_region_f4 [(0, false), (1, false), (2, false), (3, false), (5, false), (6, false), (7, false), (8, false), (4, true), (9, true), (10, true)] [11] [] (fun _ => default) [99, 0, 99, 0, 99, 99, 0, 99, 0, 99, 99, 99] [] (.c hs.g1 .n) fn fun w_3 n3 => ?_
 replace hs := hs.bl n3
 refine f0 ?_
 refine f4 ?_
 refine f0 ?_
 refine f4 ?_
 refine f0 ?_
 refine f4 ?_
 refine f0 ?_
 refine f4 ?_
 refine fl fun w_4 n4 => ?_
 replace hs := hs.bl n4
 intro K hK
 have k0_4 := (((kb n1).b n2).b n3).b n4
 replace ha1 := ha1.k k0_4
 go_big_op
 go_fit (zmul_any ha1 ha1 (by omega) (by omega) )
 rintro e w_5 ⟨v_g1, rfl, g1, hb_5⟩
 replace hs := hs.bl hb_5
 replace g1 := g1.rd
 obtain ⟨n_g1, o_g1, k_g1, c_g1, rfl⟩ := g1.open2
 have Lg1 := hide (g1.lenOf (zlen_mul (ha1.len) (ha1.len)))
 refine hK _ _ rfl ⟨hb_5, (And.intro hs.g1 trivial)⟩ ?_
 clear hK K
 refine fl fun w_6 n6 => ?_
 replace hs := hs.bl n6
 intro K hK
 have k0_6 := (k0_4.b hb_5).b n6
 replace ha2 := ha2.k k0_6
 go_big_op
 go_fit (zmul_any ha2 ha2 (by omega) (by omega) )
 rintro e w_7 ⟨v_g2, rfl, g2, hb_7⟩
 replace hs := hs.bl hb_7
 replace g2 := g2.rd
 obtain ⟨n_g2, o_g2, k_g2, c_g2, rfl⟩ := g2.open2
 have Lg2 := hide (g2.lenOf (zlen_mul (ha2.len) (ha2.len)))
 refine hK _ _ rfl ⟨hb_7, (And.intro hs.g1 trivial)⟩ ?_
 clear hK K
 refine fl fun w_8 n8 => ?_
 replace hs := hs.bl n8
 intro K hK
 have k5_8 := ((kb n6).b hb_7).b n8
 replace g1 := g1.k k5_8
 have k7_8 := kb n8
 replace g2 := g2.k k7_8
 go_big_op
 go_fit (zadd_any (g1.zn Lg1.out) (g2.zn Lg2.out) (by omega) (by omega) )
 rintro e w_9 ⟨v_g3, rfl, g3, hb_9⟩
 replace hs := hs.bl hb_9
 replace g3 := g3.rd
 obtain ⟨n_g3, o_g3, k_g3, c_g3, rfl⟩ := g3.open2
 refine hK _ _ rfl ⟨hb_9, (And.intro hs.g1 trivial)⟩ ?_
 clear hK K
 refine e0 hs ?_; clear hs; intro w_10 hs n10
 refine tl ?_
 refine .s2 hs.g0 (fun _ => hs.u0 kb_b2) ?_ (e := fun _ hs => (And.intro hs.g1 True.intro)); clear hs; intro w_11 hs hd11 ho11
 apply wpTail_end
 refine hK2 _ _ ?_
 refine wp_ret ?_
 try dsimp only [Exit.then, Exit.inBlock]
 obtain ⟨r0_0, r0_1⟩ := hs.g0.f2
 refine bodyPost_ret (v := (.agg #[.bool n_g3, .slice o_g3 k_g3 c_g3])) (by simp [results, Tryz.results58, go_sem, r0_0, r0_1]) rfl ?_
 have k9_11 := (kb n10).o hd11 ho11
 replace g3 := g3.k k9_11
 exact ⟨_, rfl, g3, hs.b⟩
end
end Go.Proofs.YthlhekkcjficdaaGreatDoor

/- gint: RoundDiv, Exact. -/
namespace Go.Proofs.YthlhekkcjficdaaGreatDoor
open Go Go.RowKit Dig
set_option linter.unusedVariables false
theorem gN_zero {u v : Int} : gN u v = 0 ↔ u = 0 ∧ v = 0 := by
 unfold gN
 have h1 := mul_self_nonneg' u
 have h2 := mul_self_nonneg' v
 constructor
 · intro h
   have e1 : u * u = 0 := by omega
   have e2 : v * v = 0 := by omega
   exact ⟨(Int.mul_eq_zero.1 e1).elim id id, (Int.mul_eq_zero.1 e2).elim id id⟩
 · rintro ⟨rfl, rfl⟩; rfl
section
variable {w : World} {va vb : Value} {x y u v : Int} {l m k n : Nat}
end
end Go.Proofs.YthlhekkcjficdaaGreatDoor
