/- gfrac: Equal; what both makes of numbers and texts; Text below an axis. -/
import Derived.Test.YthlhekkcjficdaaGreatDoorX5
import Derived.Test.YthlhekkcjficdaaGreatDoorT1ToX1

namespace Go.Proofs.YthlhekkcjficdaaGreatDoor
open Go Go.RowKit Dig
set_option linter.unusedVariables false
/-- A closure that tells a value of one part. -/
def TellsV (w : World) (f : Nat) (caps : Array Value) (s : Nat) (v : Value) : Prop :=
  ∀ w1, Below w.heap.size w w1 → Calls Tryz.prog f (#[.func (.func s) #[] #[]] ++ caps) w1 fun e w2 => e = .returned (.tuple #[v, .int .i64 0]) ∧ Below w1.heap.size w1 w2
def RefusesV (w : World) (f : Nat) (caps : Array Value) (s : Nat) (z : Value) : Prop :=
  ∀ w1, Below w.heap.size w w1 → Calls Tryz.prog f (#[.func (.func s) #[] #[]] ++ caps) w1 fun e w2 => e = .returned (.tuple #[z, .int .i64 5]) ∧ Below w1.heap.size w1 w2
section
variable {w : World} {va vb : Value} {x y u v p q s t : Int} {l m k n l2 m2 k2 n2 : Nat}
set_option maxHeartbeats 4000000 in
set_option maxRecDepth 20000 in
theorem selint1 (ha : CN w va x l y m u k v n) :
    Calls Tryz.prog 136 #[va] w fun e w' => ∃ r, e = .returned r ∧ PN w' r x l y m ∧ Below w.heap.size w w' := by
  obtain ⟨n_0a, o_0a, k_0a, c_0a, n_0b, o_0b, k_0b, c_0b, n_0c, o_0c, k_0c, c_0c, n_0d, o_0d, k_0d, c_0d, rfl, ha1, ha2, ha3, ha4⟩ := ha
  go_enter Tryz.func136, Tryz.ntmps136
  have hs := St.nil w
  refine wp_seq_k ?_
  intro K1 hK1
  refine rg [0, 1] ?_
  refine sq ?_
  refine .al hs ?_; clear hs; intro p_b1 w_1 hs n1 kb_b1
  refine sq ?_
  refine .al hs ?_; clear hs; intro p_b2 w_2 hs n2 kb_b2
  apply wpSq_end
  refine hK1 _ _ ?_
  refine wp_seq_k ?_
  intro K2 hK2
  refine rg [0, 1, 2] ?_
  refine sq ?_
  refine .r0 ?_
  refine sq ?_
  refine .r4 ⟨hs.g1.cell 0 rfl, hs.g1.cell 1 rfl, hs.g1.cell 2 rfl, hs.g1.cell 3 rfl⟩ ?_
  refine sq ?_
  refine .s4 hs.g0 (fun _ => hs.u0 kb_b2) ?_; clear hs; intro w_3 hs hd3 ho3
  apply wpSq_end
  refine hK2 _ _ ?_
  refine wp_ret ?_
  try dsimp only [Exit.then, Exit.inBlock]
  obtain ⟨r0_0, r0_1, r0_2, r0_3⟩ := hs.g0.f4
  refine bodyPost_ret (v := (.agg #[.bool n_0a, .slice o_0a k_0a c_0a, .bool n_0b, .slice o_0b k_0b c_0b])) (by simp [results, Tryz.results136, go_sem, r0_0, r0_1, r0_2, r0_3]) rfl ?_
  have k0_3 := ((kb n1).b n2).o hd3 ho3
  replace ha1 := ha1.k k0_3
  replace ha2 := ha2.k k0_3
  exact ⟨_, rfl, .mk' ha1 ha2, hs.b⟩
set_option maxHeartbeats 4000000 in
set_option maxRecDepth 20000 in
theorem selint2 (ha : CN w va x l y m u k v n) :
    Calls Tryz.prog 137 #[va] w fun e w' => ∃ r, e = .returned r ∧ PN w' r u k v n ∧ Below w.heap.size w w' := by
  obtain ⟨n_0a, o_0a, k_0a, c_0a, n_0b, o_0b, k_0b, c_0b, n_0c, o_0c, k_0c, c_0c, n_0d, o_0d, k_0d, c_0d, rfl, ha1, ha2, ha3, ha4⟩ := ha
  go_enter Tryz.func137, Tryz.ntmps137
  have hs := St.nil w
  refine wp_seq_k ?_
  intro K1 hK1
  refine rg [0, 1] ?_
  refine sq ?_
  refine .al hs ?_; clear hs; intro p_b1 w_1 hs n1 kb_b1
  refine sq ?_
  refine .al hs ?_; clear hs; intro p_b2 w_2 hs n2 kb_b2
  apply wpSq_end
  refine hK1 _ _ ?_
  refine wp_seq_k ?_
  intro K2 hK2
  refine rg [0, 1, 2] ?_
  refine sq ?_
  refine .r0 ?_
  refine sq ?_
  refine .r4 ⟨hs.g1.cell 4 rfl, hs.g1.cell 5 rfl, hs.g1.cell 6 rfl, hs.g1.cell 7 rfl⟩ ?_
  refine sq ?_
  refine .s4 hs.g0 (fun _ => hs.u0 kb_b2) ?_; clear hs; intro w_3 hs hd3 ho3
  apply wpSq_end
  refine hK2 _ _ ?_
  refine wp_ret ?_
  try dsimp only [Exit.then, Exit.inBlock]
  obtain ⟨r0_0, r0_1, r0_2, r0_3⟩ := hs.g0.f4
  refine bodyPost_ret (v := (.agg #[.bool n_0c, .slice o_0c k_0c c_0c, .bool n_0d, .slice o_0d k_0d c_0d])) (by simp [results, Tryz.results137, go_sem, r0_0, r0_1, r0_2, r0_3]) rfl ?_
  have k0_3 := ((kb n1).b n2).o hd3 ho3
  replace ha3 := ha3.k k0_3
  replace ha4 := ha4.k k0_3
  exact ⟨_, rfl, .mk' ha3 ha4, hs.b⟩
set_option maxHeartbeats 4000000 in
set_option maxRecDepth 20000 in
theorem selstring1 (ha : CN w va x l y m u k v n) :
    Calls Tryz.prog 129 #[va] w fun e w' => ∃ r, e = .returned r ∧ PN w' r x l y m ∧ Below w.heap.size w w' := by
  obtain ⟨n_0a, o_0a, k_0a, c_0a, n_0b, o_0b, k_0b, c_0b, n_0c, o_0c, k_0c, c_0c, n_0d, o_0d, k_0d, c_0d, rfl, ha1, ha2, ha3, ha4⟩ := ha
  go_enter Tryz.func129, Tryz.ntmps129
  have hs := St.nil w
  refine wp_seq_k ?_
  intro K1 hK1
  refine rg [0, 1] ?_
  refine sq ?_
  refine .al hs ?_; clear hs; intro p_b1 w_1 hs n1 kb_b1
  refine sq ?_
  refine .al hs ?_; clear hs; intro p_b2 w_2 hs n2 kb_b2
  apply wpSq_end
  refine hK1 _ _ ?_
  refine wp_seq_k ?_
  intro K2 hK2
  refine rg [0, 1, 2] ?_
  refine sq ?_
  refine .r0 ?_
  refine sq ?_
  refine .r4 ⟨hs.g1.cell 0 rfl, hs.g1.cell 1 rfl, hs.g1.cell 2 rfl, hs.g1.cell 3 rfl⟩ ?_
  refine sq ?_
  refine .s4 hs.g0 (fun _ => hs.u0 kb_b2) ?_; clear hs; intro w_3 hs hd3 ho3
  apply wpSq_end
  refine hK2 _ _ ?_
  refine wp_ret ?_
  try dsimp only [Exit.then, Exit.inBlock]
  obtain ⟨r0_0, r0_1, r0_2, r0_3⟩ := hs.g0.f4
  refine bodyPost_ret (v := (.agg #[.bool n_0a, .slice o_0a k_0a c_0a, .bool n_0b, .slice o_0b k_0b c_0b])) (by simp [results, Tryz.results129, go_sem, r0_0, r0_1, r0_2, r0_3]) rfl ?_
  have k0_3 := ((kb n1).b n2).o hd3 ho3
  replace ha1 := ha1.k k0_3
  replace ha2 := ha2.k k0_3
  exact ⟨_, rfl, .mk' ha1 ha2, hs.b⟩
set_option maxHeartbeats 4000000 in
set_option maxRecDepth 20000 in
theorem selstring2 (ha : CN w va x l y m u k v n) :
    Calls Tryz.prog 130 #[va] w fun e w' => ∃ r, e = .returned r ∧ PN w' r u k v n ∧ Below w.heap.size w w' := by
  obtain ⟨n_0a, o_0a, k_0a, c_0a, n_0b, o_0b, k_0b, c_0b, n_0c, o_0c, k_0c, c_0c, n_0d, o_0d, k_0d, c_0d, rfl, ha1, ha2, ha3, ha4⟩ := ha
  go_enter Tryz.func130, Tryz.ntmps130
  have hs := St.nil w
  refine wp_seq_k ?_
  intro K1 hK1
  refine rg [0, 1] ?_
  refine sq ?_
  refine .al hs ?_; clear hs; intro p_b1 w_1 hs n1 kb_b1
  refine sq ?_
  refine .al hs ?_; clear hs; intro p_b2 w_2 hs n2 kb_b2
  apply wpSq_end
  refine hK1 _ _ ?_
  refine wp_seq_k ?_
  intro K2 hK2
  refine rg [0, 1, 2] ?_
  refine sq ?_
  refine .r0 ?_
  refine sq ?_
  refine .r4 ⟨hs.g1.cell 4 rfl, hs.g1.cell 5 rfl, hs.g1.cell 6 rfl, hs.g1.cell 7 rfl⟩ ?_
  refine sq ?_
  refine .s4 hs.g0 (fun _ => hs.u0 kb_b2) ?_; clear hs; intro w_3 hs hd3 ho3
  apply wpSq_end
  refine hK2 _ _ ?_
  refine wp_ret ?_
  try dsimp only [Exit.then, Exit.inBlock]
  obtain ⟨r0_0, r0_1, r0_2, r0_3⟩ := hs.g0.f4
  refine bodyPost_ret (v := (.agg #[.bool n_0c, .slice o_0c k_0c c_0c, .bool n_0d, .slice o_0d k_0d c_0d])) (by simp [results, Tryz.results130, go_sem, r0_0, r0_1, r0_2, r0_3]) rfl ?_
  have k0_3 := ((kb n1).b n2).o hd3 ho3
  replace ha3 := ha3.k k0_3
  replace ha4 := ha4.k k0_3
  exact ⟨_, rfl, .mk' ha3 ha4, hs.b⟩
end
section
variable {w : World} {f : Nat} {caps : Array Value}
set_option maxHeartbeats 4000000 in
set_option maxRecDepth 20000 in
theorem bothint_ok {a b : Int} (hf : Enters f caps) (hc1 : TellsV w f caps 136 (.int .i64 a)) (hc2 : TellsV w f caps 137 (.int .i64 b)) :
    Calls Tryz.prog 80 #[.func (.func f) #[] caps] w fun e w' => e = .returned (.tuple #[.int .i64 a, .int .i64 b, .int .i64 0]) ∧ Below w.heap.size w w' := by
  unfold Enters at hf
  go_enter Tryz.func80, Tryz.ntmps80
  have hs := St.nil w
  refine wp_seq_k ?_
  intro K1 hK1
  refine rg [0, 1, 2] ?_
  refine sq ?_
  refine .mv ?_
  refine sq ?_
  refine .mv ?_
  refine sq ?_
  refine .mv ?_
  apply wpSq_end
  refine hK1 _ _ ?_
  refine wp_seq_k ?_
  intro K2 hK2
  refine rg [0] ?_
  refine sq ?_
  refine .mv ?_
  apply wpSq_end
  refine hK2 _ _ ?_
  refine wp_seq_k ?_
  intro K3 hK3
  refine rg [0, 1, 2, 3, 4, 5, 6] ?_
  refine sq ?_
  refine .mv ?_
  refine sq ?_
  intro K hK
  have hb := hs.b
  go_big_op
  go_fit (hc1 _ hb)
  rintro e w_1 ⟨rfl, hb_1⟩
  clear hb
  replace hs := hs.bl hb_1
  refine hK _ _ rfl trivial ?_
  clear hK K
  refine sq ?_
  refine .mv ?_
  refine sq ?_
  refine .r0 ?_
  refine sq ?_
  refine .r0 ?_
  refine sq ?_
  refine .mv ?_
  refine sq ?_
  refine .mv ?_
  apply wpSq_end
  refine hK3 _ _ ?_
  refine wp_seq_k ?_
  intro K4 hK4
  refine wp_seq_k ?_
  intro K5 hK5
  refine rg [0, 1] ?_
  refine sq ?_
  refine .mv ?_
  refine sq ?_
  refine .r0 ?_
  apply wpSq_end
  refine hK5 _ _ ?_
  refine cf ?_
  refine wp_skip ?_
  refine hK4 _ _ ?_
  refine wp_seq_k ?_
  intro K6 hK6
  refine rg [0, 1, 2, 3, 4, 5, 6] ?_
  refine sq ?_
  refine .mv ?_
  refine sq ?_
  intro K hK
  have hb := hs.b
  go_big_op
  go_fit (hc2 _ hb)
  rintro e w_2 ⟨rfl, hb_2⟩
  clear hb
  replace hs := hs.bl hb_2
  refine hK _ _ rfl trivial ?_
  clear hK K
  refine sq ?_
  refine .mv ?_
  refine sq ?_
  refine .r0 ?_
  refine sq ?_
  refine .r0 ?_
  refine sq ?_
  refine .mv ?_
  refine sq ?_
  refine .mv ?_
  apply wpSq_end
  refine hK6 _ _ ?_
  refine wp_seq_k ?_
  intro K7 hK7
  refine wp_seq_k ?_
  intro K8 hK8
  refine rg [0, 1] ?_
  refine sq ?_
  refine .mv ?_
  refine sq ?_
  refine .r0 ?_
  apply wpSq_end
  refine hK8 _ _ ?_
  refine cf ?_
  refine wp_skip ?_
  refine hK7 _ _ ?_
  refine wp_seq_k ?_
  intro K9 hK9
  refine rg [0, 1, 2, 3, 4] ?_
  refine sq ?_
  refine .mv ?_
  refine sq ?_
  refine .mv ?_
  refine sq ?_
  refine .mv ?_
  refine sq ?_
  refine .mv ?_
  refine sq ?_
  refine .mv ?_
  apply wpSq_end
  refine hK9 _ _ ?_
  refine wp_ret ?_
  try dsimp only [Exit.then, Exit.inBlock]
  refine bodyPost_ret (v := (.tuple #[(.int .i64 a), (.int .i64 b), (.int .i64 0)])) (by simp [results, Tryz.results80, go_sem]) rfl ?_
  have hb := hs.b
  exact ⟨rfl, hb⟩
set_option maxHeartbeats 4000000 in
set_option maxRecDepth 20000 in
theorem bothint_bad1 (hf : Enters f caps) (hc1 : RefusesV w f caps 136 (.int .i64 0)) :
    Calls Tryz.prog 80 #[.func (.func f) #[] caps] w fun e w' => e = .returned (.tuple #[.int .i64 0, .int .i64 0, .int .i64 5]) ∧ Below w.heap.size w w' := by
  unfold Enters at hf
  go_enter Tryz.func80, Tryz.ntmps80
  have hs := St.nil w
  refine wp_seq_k ?_
  intro K1 hK1
  refine rg [0, 1, 2] ?_
  refine sq ?_
  refine .mv ?_
  refine sq ?_
  refine .mv ?_
  refine sq ?_
  refine .mv ?_
  apply wpSq_end
  refine hK1 _ _ ?_
  refine wp_seq_k ?_
  intro K2 hK2
  refine rg [0] ?_
  refine sq ?_
  refine .mv ?_
  apply wpSq_end
  refine hK2 _ _ ?_
  refine wp_seq_k ?_
  intro K3 hK3
  refine rg [0, 1, 2, 3, 4, 5, 6] ?_
  refine sq ?_
  refine .mv ?_
  refine sq ?_
  intro K hK
  have hb := hs.b
  go_big_op
  go_fit (hc1 _ hb)
  rintro e w_1 ⟨rfl, hb_1⟩
  clear hb
  replace hs := hs.bl hb_1
  refine hK _ _ rfl trivial ?_
  clear hK K
  refine sq ?_
  refine .mv ?_
  refine sq ?_
  refine .r0 ?_
  refine sq ?_
  refine .r0 ?_
  refine sq ?_
  refine .mv ?_
  refine sq ?_
  refine .mv ?_
  apply wpSq_end
  refine hK3 _ _ ?_
  refine wp_seq_k ?_
  intro K4 hK4
  refine wp_seq_k ?_
  intro K5 hK5
  refine rg [0, 1] ?_
  refine sq ?_
  refine .mv ?_
  refine sq ?_
  refine .r0 ?_
  apply wpSq_end
  refine hK5 _ _ ?_
  refine ct ?_
  refine wp_seq_k ?_
  intro K6 hK6
  refine rg [0, 1, 2, 3, 4, 5] ?_
  refine sq ?_
  refine .mv ?_
  refine sq ?_
  refine .mv ?_
  refine sq ?_
  refine .mv ?_
  refine sq ?_
  refine .mv ?_
  refine sq ?_
  refine .mv ?_
  refine sq ?_
  refine .mv ?_
  apply wpSq_end
  refine hK6 _ _ ?_
  refine wp_ret ?_
  try dsimp only [Exit.then, Exit.inBlock]
  refine bodyPost_ret (v := (.tuple #[(.int .i64 0), (.int .i64 0), (.int .i64 5)])) (by simp [results, Tryz.results80, go_sem]) rfl ?_
  have hb := hs.b
  exact ⟨rfl, hb⟩
set_option maxHeartbeats 4000000 in
set_option maxRecDepth 20000 in
theorem bothint_bad2 {a : Int} (hf : Enters f caps) (hc1 : TellsV w f caps 136 (.int .i64 a)) (hc2 : RefusesV w f caps 137 (.int .i64 0)) :
    Calls Tryz.prog 80 #[.func (.func f) #[] caps] w fun e w' => e = .returned (.tuple #[.int .i64 0, .int .i64 0, .int .i64 5]) ∧ Below w.heap.size w w' := by
  unfold Enters at hf
  go_enter Tryz.func80, Tryz.ntmps80
  have hs := St.nil w
  refine wp_seq_k ?_
  intro K1 hK1
  refine rg [0, 1, 2] ?_
  refine sq ?_
  refine .mv ?_
  refine sq ?_
  refine .mv ?_
  refine sq ?_
  refine .mv ?_
  apply wpSq_end
  refine hK1 _ _ ?_
  refine wp_seq_k ?_
  intro K2 hK2
  refine rg [0] ?_
  refine sq ?_
  refine .mv ?_
  apply wpSq_end
  refine hK2 _ _ ?_
  refine wp_seq_k ?_
  intro K3 hK3
  refine rg [0, 1, 2, 3, 4, 5, 6] ?_
  refine sq ?_
  refine .mv ?_
  refine sq ?_
  intro K hK
  have hb := hs.b
  go_big_op
  go_fit (hc1 _ hb)
  rintro e w_1 ⟨rfl, hb_1⟩
  clear hb
  replace hs := hs.bl hb_1
  refine hK _ _ rfl trivial ?_
  clear hK K
  refine sq ?_
  refine .mv ?_
  refine sq ?_
  refine .r0 ?_
  refine sq ?_
  refine .r0 ?_
  refine sq ?_
  refine .mv ?_
  refine sq ?_
  refine .mv ?_
  apply wpSq_end
  refine hK3 _ _ ?_
  refine wp_seq_k ?_
  intro K4 hK4
  refine wp_seq_k ?_
  intro K5 hK5
  refine rg [0, 1] ?_
  refine sq ?_
  refine .mv ?_
  refine sq ?_
  refine .r0 ?_
  apply wpSq_end
  refine hK5 _ _ ?_
  refine cf ?_
  refine wp_skip ?_
  refine hK4 _ _ ?_
  refine wp_seq_k ?_
  intro K6 hK6
  refine rg [0, 1, 2, 3, 4, 5, 6] ?_
  refine sq ?_
  refine .mv ?_
  refine sq ?_
  intro K hK
  have hb := hs.b
  go_big_op
  go_fit (hc2 _ hb)
  rintro e w_2 ⟨rfl, hb_2⟩
  clear hb
  replace hs := hs.bl hb_2
  refine hK _ _ rfl trivial ?_
  clear hK K
  refine sq ?_
  refine .mv ?_
  refine sq ?_
  refine .r0 ?_
  refine sq ?_
  refine .r0 ?_
  refine sq ?_
  refine .mv ?_
  refine sq ?_
  refine .mv ?_
  apply wpSq_end
  refine hK6 _ _ ?_
  refine wp_seq_k ?_
  intro K7 hK7
  refine wp_seq_k ?_
  intro K8 hK8
  refine rg [0, 1] ?_
  refine sq ?_
  refine .mv ?_
  refine sq ?_
  refine .r0 ?_
  apply wpSq_end
  refine hK8 _ _ ?_
  refine ct ?_
  refine wp_seq_k ?_
  intro K9 hK9
  refine rg [0, 1, 2, 3, 4, 5] ?_
  refine sq ?_
  refine .mv ?_
  refine sq ?_
  refine .mv ?_
  refine sq ?_
  refine .mv ?_
  refine sq ?_
  refine .mv ?_
  refine sq ?_
  refine .mv ?_
  refine sq ?_
  refine .mv ?_
  apply wpSq_end
  refine hK9 _ _ ?_
  refine wp_ret ?_
  try dsimp only [Exit.then, Exit.inBlock]
  refine bodyPost_ret (v := (.tuple #[(.int .i64 0), (.int .i64 0), (.int .i64 5)])) (by simp [results, Tryz.results80, go_sem]) rfl ?_
  have hb := hs.b
  exact ⟨rfl, hb⟩
theorem bothint_bad (hf : Enters f caps) (h : RefusesV w f caps 136 (.int .i64 0) ∨ (∃ a : Int, TellsV w f caps 136 (.int .i64 a)) ∧ RefusesV w f caps 137 (.int .i64 0)) :
    Calls Tryz.prog 80 #[.func (.func f) #[] caps] w fun e w' => e = .returned (.tuple #[.int .i64 0, .int .i64 0, .int .i64 5]) ∧ Below w.heap.size w w' := by
  rcases h with h | ⟨⟨a, h1⟩, h2⟩
  · exact bothint_bad1 hf h
  · exact bothint_bad2 hf h1 h2
set_option maxHeartbeats 4000000 in
set_option maxRecDepth 20000 in
theorem bothstring_ok {a b : ByteArray} (hf : Enters f caps) (hc1 : TellsV w f caps 129 (.string a)) (hc2 : TellsV w f caps 130 (.string b)) :
    Calls Tryz.prog 71 #[.func (.func f) #[] caps] w fun e w' => e = .returned (.tuple #[.string a, .string b, .int .i64 0]) ∧ Below w.heap.size w w' := by
  unfold Enters at hf
  go_enter Tryz.func71, Tryz.ntmps71
  have hs := St.nil w
  refine wp_seq_k ?_
  intro K1 hK1
  refine rg [0, 1, 2] ?_
  refine sq ?_
  refine .mv ?_
  refine sq ?_
  refine .mv ?_
  refine sq ?_
  refine .mv ?_
  apply wpSq_end
  refine hK1 _ _ ?_
  refine wp_seq_k ?_
  intro K2 hK2
  refine rg [0] ?_
  refine sq ?_
  refine .mv ?_
  apply wpSq_end
  refine hK2 _ _ ?_
  refine wp_seq_k ?_
  intro K3 hK3
  refine rg [0, 1, 2, 3, 4, 5, 6] ?_
  refine sq ?_
  refine .mv ?_
  refine sq ?_
  intro K hK
  have hb := hs.b
  go_big_op
  go_fit (hc1 _ hb)
  rintro e w_1 ⟨rfl, hb_1⟩
  clear hb
  replace hs := hs.bl hb_1
  refine hK _ _ rfl trivial ?_
  clear hK K
  refine sq ?_
  refine .mv ?_
  refine sq ?_
  refine .r0 ?_
  refine sq ?_
  refine .r0 ?_
  refine sq ?_
  refine .mv ?_
  refine sq ?_
  refine .mv ?_
  apply wpSq_end
  refine hK3 _ _ ?_
  refine wp_seq_k ?_
  intro K4 hK4
  refine wp_seq_k ?_
  intro K5 hK5
  refine rg [0, 1] ?_
  refine sq ?_
  refine .mv ?_
  refine sq ?_
  refine .r0 ?_
  apply wpSq_end
  refine hK5 _ _ ?_
  refine cf ?_
  refine wp_skip ?_
  refine hK4 _ _ ?_
  refine wp_seq_k ?_
  intro K6 hK6
  refine rg [0, 1, 2, 3, 4, 5, 6] ?_
  refine sq ?_
  refine .mv ?_
  refine sq ?_
  intro K hK
  have hb := hs.b
  go_big_op
  go_fit (hc2 _ hb)
  rintro e w_2 ⟨rfl, hb_2⟩
  clear hb
  replace hs := hs.bl hb_2
  refine hK _ _ rfl trivial ?_
  clear hK K
  refine sq ?_
  refine .mv ?_
  refine sq ?_
  refine .r0 ?_
  refine sq ?_
  refine .r0 ?_
  refine sq ?_
  refine .mv ?_
  refine sq ?_
  refine .mv ?_
  apply wpSq_end
  refine hK6 _ _ ?_
  refine wp_seq_k ?_
  intro K7 hK7
  refine wp_seq_k ?_
  intro K8 hK8
  refine rg [0, 1] ?_
  refine sq ?_
  refine .mv ?_
  refine sq ?_
  refine .r0 ?_
  apply wpSq_end
  refine hK8 _ _ ?_
  refine cf ?_
  refine wp_skip ?_
  refine hK7 _ _ ?_
  refine wp_seq_k ?_
  intro K9 hK9
  refine rg [0, 1, 2, 3, 4] ?_
  refine sq ?_
  refine .mv ?_
  refine sq ?_
  refine .mv ?_
  refine sq ?_
  refine .mv ?_
  refine sq ?_
  refine .mv ?_
  refine sq ?_
  refine .mv ?_
  apply wpSq_end
  refine hK9 _ _ ?_
  refine wp_ret ?_
  try dsimp only [Exit.then, Exit.inBlock]
  refine bodyPost_ret (v := (.tuple #[(.string a), (.string b), (.int .i64 0)])) (by simp [results, Tryz.results71, go_sem]) rfl ?_
  have hb := hs.b
  exact ⟨rfl, hb⟩
end
section
variable {w : World} {va vb : Value} {x y u v p q s t : Int} {l m k n l2 m2 k2 n2 : Nat}
set_option maxHeartbeats 4000000 in
set_option maxRecDepth 20000 in
theorem ceq1_ok {pa pb : Nat} (hp : BC w pa x l y m u k v n) (hr : BC w pb p l2 q m2 s k2 t n2) (hl : l ≤ 10000000) (hm : m ≤ 10000000) (hk : k ≤ 10000000) (hn : n ≤ 10000000) (hl2 : l2 ≤ 10000000) (hm2 : m2 ≤ 10000000) (hk2 : k2 ≤ 10000000) (hn2 : n2 ≤ 10000000) (h0 : y ≠ 0) (h9 : q ≠ 0) :
    Calls Tryz.prog 81 (#[.func (.func 136) #[] #[]] ++ #[.pointer (some ⟨pa, 0, none⟩), .pointer (some ⟨pb, 0, none⟩)]) w fun e w' => e = .returned (.tuple #[.int .i64 (qcmp x y p q), .int .i64 0]) ∧ Below w.heap.size w w' := by
  have H0 := hide h0
  have H9 := hide h9
  obtain ⟨C, hC⟩ : ∃ C, qcmp x y p q = C := ⟨_, rfl⟩
  have HC := hide hC
  rw [hC]
  clear h0 h9 hC
  obtain ⟨n1, o1, k1, c1, n2', o2, k2', c2, n3, o3, k3, c3, n4, o4, k4, c4, xa, h1, h2, h3, h4⟩ := hp
  obtain ⟨n5, o5, k5, c5, n6, o6, k6, c6, n7, o7, k7, c7, n8, o8, k8, c8, xb, h5, h6, h7, h8⟩ := hr
  show Calls Tryz.prog 81 #[.func (.func 136) #[] #[], .pointer (some ⟨pa, 0, none⟩), .pointer (some ⟨pb, 0, none⟩)] w _
  go_enter Tryz.func81, Tryz.ntmps81
  have hs := St.nil w
  have lt_xa := xa.lt
  have xaz := xa
  have lt_xb := xb.lt
  have xbz := xb
  refine wp_seq_k ?_
  intro K1 hK1
  refine rg [0, 1] ?_
  refine sq ?_
  refine .mv ?_
  refine sq ?_
  refine .mv ?_
  apply wpSq_end
  refine hK1 _ _ ?_
  refine wp_seq_k ?_
  intro K2 hK2
  refine wp_region_f4 [(0, false), (1, false), (3, false), (4, false), (2, true), (5, true), (6, true), (7, false), (8, false), (9, false), (10, false)] [] [] (fun _ => default) [99, 0, 99, 99, 1, 99, 99, 99, 99, 99, 99] [] (.c xa (.c xb .n)) fn fun w_1 n1 => ?_
  replace xa := xa.bl n1; replace xb := xb.bl n1; replace hs := hs.bl n1
  refine fmv ?_
  apply wpFl_ld rfl rfl; (case h1 => intro w' hC K hK; have c0 := Bs.cell hC 0 rfl; have c1 := Bs.cell hC 1 rfl; have c2 := Bs.cell hC 2 rfl; have c3 := Bs.cell hC 3 rfl; have c4 := Bs.cell hC 4 rfl; have c5 := Bs.cell hC 5 rfl; have c6 := Bs.cell hC 6 rfl; have c7 := Bs.cell hC 7 rfl; go_big_op; exact hK); iterate 4 kernel_rfl
  refine fmv ?_
  apply wpFl_ld rfl rfl; (case h1 => intro w' hC K hK; have c0 := Bs.cell hC 0 rfl; have c1 := Bs.cell hC 1 rfl; have c2 := Bs.cell hC 2 rfl; have c3 := Bs.cell hC 3 rfl; have c4 := Bs.cell hC 4 rfl; have c5 := Bs.cell hC 5 rfl; have c6 := Bs.cell hC 6 rfl; have c7 := Bs.cell hC 7 rfl; go_big_op; exact hK); iterate 4 kernel_rfl
  refine fl fun w_2 n2 => ?_
  replace xa := xa.bl n2; replace xb := xb.bl n2; replace hs := hs.bl n2
  intro K hK
  have k0_2 := (kb n1).b n2
  replace h1 := h1.k k0_2
  replace h2 := h2.k k0_2
  replace h3 := h3.k k0_2
  replace h4 := h4.k k0_2
  go_big_op
  go_fit (selint1 (.mk' h1 h2 h3 h4))
  rintro e w_3 ⟨_, rfl, ⟨n_gaa, o_gaa, k_gaa, c_gaa, n_gab, o_gab, k_gab, c_gab, rfl, ga1, ga2⟩, hb_3⟩
  replace xa := xa.bl hb_3; replace xb := xb.bl hb_3; replace hs := hs.bl hb_3
  refine hK _ _ rfl ⟨hb_3, (And.intro xa (And.intro xb trivial))⟩ ?_
  clear hK K
  refine fl fun w_4 n4 => ?_
  replace xa := xa.bl n4; replace xb := xb.bl n4; replace hs := hs.bl n4
  intro K hK
  have k0_4 := (k0_2.b hb_3).b n4
  replace h5 := h5.k k0_4
  replace h6 := h6.k k0_4
  replace h7 := h7.k k0_4
  replace h8 := h8.k k0_4
  go_big_op
  go_fit (selint1 (.mk' h5 h6 h7 h8))
  rintro e w_5 ⟨_, rfl, ⟨n_gba, o_gba, k_gba, c_gba, n_gbb, o_gbb, k_gbb, c_gbb, rfl, gb1, gb2⟩, hb_5⟩
  replace xa := xa.bl hb_5; replace xb := xb.bl hb_5; replace hs := hs.bl hb_5
  refine hK _ _ rfl ⟨hb_5, (And.intro xa (And.intro xb trivial))⟩ ?_
  clear hK K
  refine fl fun w_6 n6 => ?_
  replace xa := xa.bl n6; replace xb := xb.bl n6; replace hs := hs.bl n6
  intro K hK
  have k3_6 := ((kb n4).b hb_5).b n6
  replace ga1 := ga1.k k3_6
  replace ga2 := ga2.k k3_6
  have k5_6 := kb n6
  replace gb1 := gb1.k k5_6
  replace gb2 := gb2.k k5_6
  go_big_op
  go_fit (fCmp_any (.mk' ga1 ga2) (.mk' gb1 gb2) (by omega) (by omega) (by omega) (by omega) H0.out H9.out)
  rintro e w_7 ⟨rfl, hb_7⟩
  replace xa := xa.bl hb_7; replace xb := xb.bl hb_7; replace hs := hs.bl hb_7
  rw [HC.out]
  refine hK _ _ rfl ⟨hb_7, (And.intro xa (And.intro xb trivial))⟩ ?_
  clear hK K
  refine f0 ?_
  refine f0 ?_
  refine fmv ?_
  refine fmv ?_
  refine e0 hs ?_; clear hs; intro w_8 hs n8
  replace xa := xa.bl n8; replace xb := xb.bl n8
  apply wpTail_end
  refine hK2 _ _ ?_
  refine wp_ret ?_
  try dsimp only [Exit.then, Exit.inBlock]
  refine bodyPost_ret (v := (.tuple #[(.int .i64 C), (.int .i64 0)])) (by simp [results, Tryz.results81, go_sem]) rfl ?_
  have hb := hs.b
  exact ⟨rfl, hb⟩
set_option maxHeartbeats 4000000 in
set_option maxRecDepth 20000 in
theorem ceq1_bad {pa pb : Nat} (hp : BC w pa x l y m u k v n) (hr : BC w pb p l2 q m2 s k2 t n2) (hl : l ≤ 10000000) (hm : m ≤ 10000000) (hk : k ≤ 10000000) (hn : n ≤ 10000000) (hl2 : l2 ≤ 10000000) (hm2 : m2 ≤ 10000000) (hk2 : k2 ≤ 10000000) (hn2 : n2 ≤ 10000000) (h0 : y = 0 ∨ q = 0) :
    Calls Tryz.prog 81 (#[.func (.func 136) #[] #[]] ++ #[.pointer (some ⟨pa, 0, none⟩), .pointer (some ⟨pb, 0, none⟩)]) w fun e w' => e = .returned (.tuple #[.int .i64 0, .int .i64 5]) ∧ Below w.heap.size w w' := by
  have H0 := hide h0
  clear h0
  obtain ⟨n1, o1, k1, c1, n2', o2, k2', c2, n3, o3, k3, c3, n4, o4, k4, c4, xa, h1, h2, h3, h4⟩ := hp
  obtain ⟨n5, o5, k5, c5, n6, o6, k6, c6, n7, o7, k7, c7, n8, o8, k8, c8, xb, h5, h6, h7, h8⟩ := hr
  show Calls Tryz.prog 81 #[.func (.func 136) #[] #[], .pointer (some ⟨pa, 0, none⟩), .pointer (some ⟨pb, 0, none⟩)] w _
  go_enter Tryz.func81, Tryz.ntmps81
  have hs := St.nil w
  have lt_xa := xa.lt
  have xaz := xa
  have lt_xb := xb.lt
  have xbz := xb
  refine wp_seq_k ?_
  intro K1 hK1
  refine rg [0, 1] ?_
  refine sq ?_
  refine .mv ?_
  refine sq ?_
  refine .mv ?_
  apply wpSq_end
  refine hK1 _ _ ?_
  refine wp_seq_k ?_
  intro K2 hK2
  refine wp_region_f4 [(0, false), (1, false), (3, false), (4, false), (2, true), (5, true), (6, true), (7, false), (8, false), (9, false), (10, false)] [] [] (fun _ => default) [99, 0, 99, 99, 1, 99, 99, 99, 99, 99, 99] [] (.c xa (.c xb .n)) fn fun w_1 n1 => ?_
  replace xa := xa.bl n1; replace xb := xb.bl n1; replace hs := hs.bl n1
  refine fmv ?_
  apply wpFl_ld rfl rfl; (case h1 => intro w' hC K hK; have c0 := Bs.cell hC 0 rfl; have c1 := Bs.cell hC 1 rfl; have c2 := Bs.cell hC 2 rfl; have c3 := Bs.cell hC 3 rfl; have c4 := Bs.cell hC 4 rfl; have c5 := Bs.cell hC 5 rfl; have c6 := Bs.cell hC 6 rfl; have c7 := Bs.cell hC 7 rfl; go_big_op; exact hK); iterate 4 kernel_rfl
  refine fmv ?_
  apply wpFl_ld rfl rfl; (case h1 => intro w' hC K hK; have c0 := Bs.cell hC 0 rfl; have c1 := Bs.cell hC 1 rfl; have c2 := Bs.cell hC 2 rfl; have c3 := Bs.cell hC 3 rfl; have c4 := Bs.cell hC 4 rfl; have c5 := Bs.cell hC 5 rfl; have c6 := Bs.cell hC 6 rfl; have c7 := Bs.cell hC 7 rfl; go_big_op; exact hK); iterate 4 kernel_rfl
  refine fl fun w_2 n2 => ?_
  replace xa := xa.bl n2; replace xb := xb.bl n2; replace hs := hs.bl n2
  intro K hK
  have k0_2 := (kb n1).b n2
  replace h1 := h1.k k0_2
  replace h2 := h2.k k0_2
  replace h3 := h3.k k0_2
  replace h4 := h4.k k0_2
  go_big_op
  go_fit (selint1 (.mk' h1 h2 h3 h4))
  rintro e w_3 ⟨_, rfl, ⟨n_gaa, o_gaa, k_gaa, c_gaa, n_gab, o_gab, k_gab, c_gab, rfl, ga1, ga2⟩, hb_3⟩
  replace xa := xa.bl hb_3; replace xb := xb.bl hb_3; replace hs := hs.bl hb_3
  refine hK _ _ rfl ⟨hb_3, (And.intro xa (And.intro xb trivial))⟩ ?_
  clear hK K
  refine fl fun w_4 n4 => ?_
  replace xa := xa.bl n4; replace xb := xb.bl n4; replace hs := hs.bl n4
  intro K hK
  have k0_4 := (k0_2.b hb_3).b n4
  replace h5 := h5.k k0_4
  replace h6 := h6.k k0_4
  replace h7 := h7.k k0_4
  replace h8 := h8.k k0_4
  go_big_op
  go_fit (selint1 (.mk' h5 h6 h7 h8))
  rintro e w_5 ⟨_, rfl, ⟨n_gba, o_gba, k_gba, c_gba, n_gbb, o_gbb, k_gbb, c_gbb, rfl, gb1, gb2⟩, hb_5⟩
  replace xa := xa.bl hb_5; replace xb := xb.bl hb_5; replace hs := hs.bl hb_5
  refine hK _ _ rfl ⟨hb_5, (And.intro xa (And.intro xb trivial))⟩ ?_
  clear hK K
  refine fl fun w_6 n6 => ?_
  replace xa := xa.bl n6; replace xb := xb.bl n6; replace hs := hs.bl n6
  intro K hK
  have k3_6 := ((kb n4).b hb_5).b n6
  replace ga1 := ga1.k k3_6
  replace ga2 := ga2.k k3_6
  have k5_6 := kb n6
  replace gb1 := gb1.k k5_6
  replace gb2 := gb2.k k5_6
  go_big_op
  go_fit (fCmp_bad (PN.mk' ga1 ga2) (PN.mk' gb1 gb2) (by omega) (by omega) (by omega) (by omega) H0.out)
  rintro e w_7 ⟨rfl, hb_7⟩
  replace xa := xa.bl hb_7; replace xb := xb.bl hb_7; replace hs := hs.bl hb_7
  refine hK _ _ rfl ⟨hb_7, (And.intro xa (And.intro xb trivial))⟩ ?_
  clear hK K
  refine f0 ?_
  refine f0 ?_
  refine fmv ?_
  refine fmv ?_
  refine e0 hs ?_; clear hs; intro w_8 hs n8
  replace xa := xa.bl n8; replace xb := xb.bl n8
  apply wpTail_end
  refine hK2 _ _ ?_
  refine wp_ret ?_
  try dsimp only [Exit.then, Exit.inBlock]
  refine bodyPost_ret (v := (.tuple #[(.int .i64 0), (.int .i64 5)])) (by simp [results, Tryz.results81, go_sem]) rfl ?_
  have hb := hs.b
  exact ⟨rfl, hb⟩
set_option maxHeartbeats 4000000 in
set_option maxRecDepth 20000 in
theorem ctext1_ok {pa : Nat} (hp : BC w pa x l y m u k v n) (hl : l ≤ 10000000) (hm : m ≤ 10000000) (hk : k ≤ 10000000) (hn : n ≤ 10000000) (h0 : y ≠ 0) (htab : Lib.TabIs Tryz.prog w p10 .u64 Lib.pow10Tab) :
    Calls Tryz.prog 72 (#[.func (.func 129) #[] #[]] ++ #[.pointer (some ⟨pa, 0, none⟩)]) w fun e w' => e = .returned (.tuple #[.string (qts x y), .int .i64 0]) ∧ Below w.heap.size w w' := by
  have htabs := Lib.tabBelow_of_tabIs htab
  have H0 := hide h0
  obtain ⟨S, hS⟩ : ∃ S, qts x y = S := ⟨_, rfl⟩
  have HS := hide hS
  rw [hS]
  clear h0 hS
  obtain ⟨n1, o1, k1, c1, n2', o2, k2', c2, n3, o3, k3, c3, n4, o4, k4, c4, xa, h1, h2, h3, h4⟩ := hp
  show Calls Tryz.prog 72 #[.func (.func 129) #[] #[], .pointer (some ⟨pa, 0, none⟩)] w _
  go_enter Tryz.func72, Tryz.ntmps72
  have hs := St.nil w
  have lt_xa := xa.lt
  have xaz := xa
  refine wp_seq_k ?_
  intro K1 hK1
  refine rg [0, 1] ?_
  refine sq ?_
  refine .mv ?_
  refine sq ?_
  refine .mv ?_
  apply wpSq_end
  refine hK1 _ _ ?_
  refine wp_seq_k ?_
  intro K2 hK2
  refine rg [0, 1, 2, 3, 4, 5, 6, 7] ?_
  refine sq ?_
  refine .mv ?_
  refine sq ?_
  intro K hK
  have d0 : w.cell? ⟨pa, 0, none⟩ = some (.bool n1) := xa.cell 0 rfl
  have d1 : w.cell? ⟨pa, 1, none⟩ = some (.slice o1 k1 c1) := xa.cell 1 rfl
  have d2 : w.cell? ⟨pa, 2, none⟩ = some (.bool n2') := xa.cell 2 rfl
  have d3 : w.cell? ⟨pa, 3, none⟩ = some (.slice o2 k2' c2) := xa.cell 3 rfl
  have d4 : w.cell? ⟨pa, 4, none⟩ = some (.bool n3) := xa.cell 4 rfl
  have d5 : w.cell? ⟨pa, 5, none⟩ = some (.slice o3 k3 c3) := xa.cell 5 rfl
  have d6 : w.cell? ⟨pa, 6, none⟩ = some (.bool n4) := xa.cell 6 rfl
  have d7 : w.cell? ⟨pa, 7, none⟩ = some (.slice o4 k4 c4) := xa.cell 7 rfl
  go_big_op; refine hK _ _ rfl trivial ?_; clear hK K d0 d1 d2 d3 d4 d5 d6 d7
  refine sq ?_
  intro K hK
  go_big_op
  go_fit (selstring1 (.mk' h1 h2 h3 h4))
  rintro e w_1 ⟨_, rfl, ⟨n_gaa, o_gaa, k_gaa, c_gaa, n_gab, o_gab, k_gab, c_gab, rfl, ga1, ga2⟩, hb_1⟩
  replace hs := hs.bl hb_1
  refine hK _ _ rfl trivial ?_
  clear hK K
  refine sq ?_
  intro K hK
  have hb := hs.b
  go_big_op
  go_fit (fText_any (.mk' ga1 ga2) (by omega) (by omega) H0.out (htabs _ hb))
  rintro e w_2 ⟨rfl, hb_2⟩
  clear hb
  replace hs := hs.bl hb_2
  rw [HS.out]
  refine hK _ _ rfl trivial ?_
  clear hK K
  refine sq ?_
  refine .r0 ?_
  refine sq ?_
  refine .r0 ?_
  refine sq ?_
  refine .mv ?_
  refine sq ?_
  refine .mv ?_
  apply wpSq_end
  refine hK2 _ _ ?_
  refine wp_ret ?_
  try dsimp only [Exit.then, Exit.inBlock]
  refine bodyPost_ret (v := (.tuple #[(.string S), (.int .i64 0)])) (by simp [results, Tryz.results72, go_sem]) rfl ?_
  have hb := hs.b
  exact ⟨rfl, hb⟩
set_option maxHeartbeats 4000000 in
set_option maxRecDepth 20000 in
theorem ceq2_ok {pa pb : Nat} (hp : BC w pa x l y m u k v n) (hr : BC w pb p l2 q m2 s k2 t n2) (hl : l ≤ 10000000) (hm : m ≤ 10000000) (hk : k ≤ 10000000) (hn : n ≤ 10000000) (hl2 : l2 ≤ 10000000) (hm2 : m2 ≤ 10000000) (hk2 : k2 ≤ 10000000) (hn2 : n2 ≤ 10000000) (h0 : v ≠ 0) (h9 : t ≠ 0) :
    Calls Tryz.prog 81 (#[.func (.func 137) #[] #[]] ++ #[.pointer (some ⟨pa, 0, none⟩), .pointer (some ⟨pb, 0, none⟩)]) w fun e w' => e = .returned (.tuple #[.int .i64 (qcmp u v s t), .int .i64 0]) ∧ Below w.heap.size w w' := by
  have H0 := hide h0
  have H9 := hide h9
  obtain ⟨C, hC⟩ : ∃ C, qcmp u v s t = C := ⟨_, rfl⟩
  have HC := hide hC
  rw [hC]
  clear h0 h9 hC
  obtain ⟨n1, o1, k1, c1, n2', o2, k2', c2, n3, o3, k3, c3, n4, o4, k4, c4, xa, h1, h2, h3, h4⟩ := hp
  obtain ⟨n5, o5, k5, c5, n6, o6, k6, c6, n7, o7, k7, c7, n8, o8, k8, c8, xb, h5, h6, h7, h8⟩ := hr
  show Calls Tryz.prog 81 #[.func (.func 137) #[] #[], .pointer (some ⟨pa, 0, none⟩), .pointer (some ⟨pb, 0, none⟩)] w _
  go_enter Tryz.func81, Tryz.ntmps81
  have hs := St.nil w
  have lt_xa := xa.lt
  have xaz := xa
  have lt_xb := xb.lt
  have xbz := xb
  refine wp_seq_k ?_
  intro K1 hK1
  refine rg [0, 1] ?_
  refine sq ?_
  refine .mv ?_
  refine sq ?_
  refine .mv ?_
  apply wpSq_end
  refine hK1 _ _ ?_
  refine wp_seq_k ?_
  intro K2 hK2
  refine wp_region_f4 [(0, false), (1, false), (3, false), (4, false), (2, true), (5, true), (6, true), (7, false), (8, false), (9, false), (10, false)] [] [] (fun _ => default) [99, 0, 99, 99, 1, 99, 99, 99, 99, 99, 99] [] (.c xa (.c xb .n)) fn fun w_1 n1 => ?_
  replace xa := xa.bl n1; replace xb := xb.bl n1; replace hs := hs.bl n1
  refine fmv ?_
  apply wpFl_ld rfl rfl; (case h1 => intro w' hC K hK; have c0 := Bs.cell hC 0 rfl; have c1 := Bs.cell hC 1 rfl; have c2 := Bs.cell hC 2 rfl; have c3 := Bs.cell hC 3 rfl; have c4 := Bs.cell hC 4 rfl; have c5 := Bs.cell hC 5 rfl; have c6 := Bs.cell hC 6 rfl; have c7 := Bs.cell hC 7 rfl; go_big_op; exact hK); iterate 4 kernel_rfl
  refine fmv ?_
  apply wpFl_ld rfl rfl; (case h1 => intro w' hC K hK; have c0 := Bs.cell hC 0 rfl; have c1 := Bs.cell hC 1 rfl; have c2 := Bs.cell hC 2 rfl; have c3 := Bs.cell hC 3 rfl; have c4 := Bs.cell hC 4 rfl; have c5 := Bs.cell hC 5 rfl; have c6 := Bs.cell hC 6 rfl; have c7 := Bs.cell hC 7 rfl; go_big_op; exact hK); iterate 4 kernel_rfl
  refine fl fun w_2 n2 => ?_
  replace xa := xa.bl n2; replace xb := xb.bl n2; replace hs := hs.bl n2
  intro K hK
  have k0_2 := (kb n1).b n2
  replace h1 := h1.k k0_2
  replace h2 := h2.k k0_2
  replace h3 := h3.k k0_2
  replace h4 := h4.k k0_2
  go_big_op
  go_fit (selint2 (.mk' h1 h2 h3 h4))
  rintro e w_3 ⟨_, rfl, ⟨n_gaa, o_gaa, k_gaa, c_gaa, n_gab, o_gab, k_gab, c_gab, rfl, ga1, ga2⟩, hb_3⟩
  replace xa := xa.bl hb_3; replace xb := xb.bl hb_3; replace hs := hs.bl hb_3
  refine hK _ _ rfl ⟨hb_3, (And.intro xa (And.intro xb trivial))⟩ ?_
  clear hK K
  refine fl fun w_4 n4 => ?_
  replace xa := xa.bl n4; replace xb := xb.bl n4; replace hs := hs.bl n4
  intro K hK
  have k0_4 := (k0_2.b hb_3).b n4
  replace h5 := h5.k k0_4
  replace h6 := h6.k k0_4
  replace h7 := h7.k k0_4
  replace h8 := h8.k k0_4
  go_big_op
  go_fit (selint2 (.mk' h5 h6 h7 h8))
  rintro e w_5 ⟨_, rfl, ⟨n_gba, o_gba, k_gba, c_gba, n_gbb, o_gbb, k_gbb, c_gbb, rfl, gb1, gb2⟩, hb_5⟩
  replace xa := xa.bl hb_5; replace xb := xb.bl hb_5; replace hs := hs.bl hb_5
  refine hK _ _ rfl ⟨hb_5, (And.intro xa (And.intro xb trivial))⟩ ?_
  clear hK K
  refine fl fun w_6 n6 => ?_
  replace xa := xa.bl n6; replace xb := xb.bl n6; replace hs := hs.bl n6
  intro K hK
  have k3_6 := ((kb n4).b hb_5).b n6
  replace ga1 := ga1.k k3_6
  replace ga2 := ga2.k k3_6
  have k5_6 := kb n6
  replace gb1 := gb1.k k5_6
  replace gb2 := gb2.k k5_6
  go_big_op
  go_fit (fCmp_any (.mk' ga1 ga2) (.mk' gb1 gb2) (by omega) (by omega) (by omega) (by omega) H0.out H9.out)
  rintro e w_7 ⟨rfl, hb_7⟩
  replace xa := xa.bl hb_7; replace xb := xb.bl hb_7; replace hs := hs.bl hb_7
  rw [HC.out]
  refine hK _ _ rfl ⟨hb_7, (And.intro xa (And.intro xb trivial))⟩ ?_
  clear hK K
  refine f0 ?_
  refine f0 ?_
  refine fmv ?_
  refine fmv ?_
  refine e0 hs ?_; clear hs; intro w_8 hs n8
  replace xa := xa.bl n8; replace xb := xb.bl n8
  apply wpTail_end
  refine hK2 _ _ ?_
  refine wp_ret ?_
  try dsimp only [Exit.then, Exit.inBlock]
  refine bodyPost_ret (v := (.tuple #[(.int .i64 C), (.int .i64 0)])) (by simp [results, Tryz.results81, go_sem]) rfl ?_
  have hb := hs.b
  exact ⟨rfl, hb⟩
set_option maxHeartbeats 4000000 in
set_option maxRecDepth 20000 in
theorem ceq2_bad {pa pb : Nat} (hp : BC w pa x l y m u k v n) (hr : BC w pb p l2 q m2 s k2 t n2) (hl : l ≤ 10000000) (hm : m ≤ 10000000) (hk : k ≤ 10000000) (hn : n ≤ 10000000) (hl2 : l2 ≤ 10000000) (hm2 : m2 ≤ 10000000) (hk2 : k2 ≤ 10000000) (hn2 : n2 ≤ 10000000) (h0 : v = 0 ∨ t = 0) :
    Calls Tryz.prog 81 (#[.func (.func 137) #[] #[]] ++ #[.pointer (some ⟨pa, 0, none⟩), .pointer (some ⟨pb, 0, none⟩)]) w fun e w' => e = .returned (.tuple #[.int .i64 0, .int .i64 5]) ∧ Below w.heap.size w w' := by
  have H0 := hide h0
  clear h0
  obtain ⟨n1, o1, k1, c1, n2', o2, k2', c2, n3, o3, k3, c3, n4, o4, k4, c4, xa, h1, h2, h3, h4⟩ := hp
  obtain ⟨n5, o5, k5, c5, n6, o6, k6, c6, n7, o7, k7, c7, n8, o8, k8, c8, xb, h5, h6, h7, h8⟩ := hr
  show Calls Tryz.prog 81 #[.func (.func 137) #[] #[], .pointer (some ⟨pa, 0, none⟩), .pointer (some ⟨pb, 0, none⟩)] w _
  go_enter Tryz.func81, Tryz.ntmps81
  have hs := St.nil w
  have lt_xa := xa.lt
  have xaz := xa
  have lt_xb := xb.lt
  have xbz := xb
  refine wp_seq_k ?_
  intro K1 hK1
  refine rg [0, 1] ?_
  refine sq ?_
  refine .mv ?_
  refine sq ?_
  refine .mv ?_
  apply wpSq_end
  refine hK1 _ _ ?_
  refine wp_seq_k ?_
  intro K2 hK2
  refine wp_region_f4 [(0, false), (1, false), (3, false), (4, false), (2, true), (5, true), (6, true), (7, false), (8, false), (9, false), (10, false)] [] [] (fun _ => default) [99, 0, 99, 99, 1, 99, 99, 99, 99, 99, 99] [] (.c xa (.c xb .n)) fn fun w_1 n1 => ?_
  replace xa := xa.bl n1; replace xb := xb.bl n1; replace hs := hs.bl n1
  refine fmv ?_
  apply wpFl_ld rfl rfl; (case h1 => intro w' hC K hK; have c0 := Bs.cell hC 0 rfl; have c1 := Bs.cell hC 1 rfl; have c2 := Bs.cell hC 2 rfl; have c3 := Bs.cell hC 3 rfl; have c4 := Bs.cell hC 4 rfl; have c5 := Bs.cell hC 5 rfl; have c6 := Bs.cell hC 6 rfl; have c7 := Bs.cell hC 7 rfl; go_big_op; exact hK); iterate 4 kernel_rfl
  refine fmv ?_
  apply wpFl_ld rfl rfl; (case h1 => intro w' hC K hK; have c0 := Bs.cell hC 0 rfl; have c1 := Bs.cell hC 1 rfl; have c2 := Bs.cell hC 2 rfl; have c3 := Bs.cell hC 3 rfl; have c4 := Bs.cell hC 4 rfl; have c5 := Bs.cell hC 5 rfl; have c6 := Bs.cell hC 6 rfl; have c7 := Bs.cell hC 7 rfl; go_big_op; exact hK); iterate 4 kernel_rfl
  refine fl fun w_2 n2 => ?_
  replace xa := xa.bl n2; replace xb := xb.bl n2; replace hs := hs.bl n2
  intro K hK
  have k0_2 := (kb n1).b n2
  replace h1 := h1.k k0_2
  replace h2 := h2.k k0_2
  replace h3 := h3.k k0_2
  replace h4 := h4.k k0_2
  go_big_op
  go_fit (selint2 (.mk' h1 h2 h3 h4))
  rintro e w_3 ⟨_, rfl, ⟨n_gaa, o_gaa, k_gaa, c_gaa, n_gab, o_gab, k_gab, c_gab, rfl, ga1, ga2⟩, hb_3⟩
  replace xa := xa.bl hb_3; replace xb := xb.bl hb_3; replace hs := hs.bl hb_3
  refine hK _ _ rfl ⟨hb_3, (And.intro xa (And.intro xb trivial))⟩ ?_
  clear hK K
  refine fl fun w_4 n4 => ?_
  replace xa := xa.bl n4; replace xb := xb.bl n4; replace hs := hs.bl n4
  intro K hK
  have k0_4 := (k0_2.b hb_3).b n4
  replace h5 := h5.k k0_4
  replace h6 := h6.k k0_4
  replace h7 := h7.k k0_4
  replace h8 := h8.k k0_4
  go_big_op
  go_fit (selint2 (.mk' h5 h6 h7 h8))
  rintro e w_5 ⟨_, rfl, ⟨n_gba, o_gba, k_gba, c_gba, n_gbb, o_gbb, k_gbb, c_gbb, rfl, gb1, gb2⟩, hb_5⟩
  replace xa := xa.bl hb_5; replace xb := xb.bl hb_5; replace hs := hs.bl hb_5
  refine hK _ _ rfl ⟨hb_5, (And.intro xa (And.intro xb trivial))⟩ ?_
  clear hK K
  refine fl fun w_6 n6 => ?_
  replace xa := xa.bl n6; replace xb := xb.bl n6; replace hs := hs.bl n6
  intro K hK
  have k3_6 := ((kb n4).b hb_5).b n6
  replace ga1 := ga1.k k3_6
  replace ga2 := ga2.k k3_6
  have k5_6 := kb n6
  replace gb1 := gb1.k k5_6
  replace gb2 := gb2.k k5_6
  go_big_op
  go_fit (fCmp_bad (PN.mk' ga1 ga2) (PN.mk' gb1 gb2) (by omega) (by omega) (by omega) (by omega) H0.out)
  rintro e w_7 ⟨rfl, hb_7⟩
  replace xa := xa.bl hb_7; replace xb := xb.bl hb_7; replace hs := hs.bl hb_7
  refine hK _ _ rfl ⟨hb_7, (And.intro xa (And.intro xb trivial))⟩ ?_
  clear hK K
  refine f0 ?_
  refine f0 ?_
  refine fmv ?_
  refine fmv ?_
  refine e0 hs ?_; clear hs; intro w_8 hs n8
  replace xa := xa.bl n8; replace xb := xb.bl n8
  apply wpTail_end
  refine hK2 _ _ ?_
  refine wp_ret ?_
  try dsimp only [Exit.then, Exit.inBlock]
  refine bodyPost_ret (v := (.tuple #[(.int .i64 0), (.int .i64 5)])) (by simp [results, Tryz.results81, go_sem]) rfl ?_
  have hb := hs.b
  exact ⟨rfl, hb⟩
set_option maxHeartbeats 4000000 in
set_option maxRecDepth 20000 in
theorem ctext2_ok {pa : Nat} (hp : BC w pa x l y m u k v n) (hl : l ≤ 10000000) (hm : m ≤ 10000000) (hk : k ≤ 10000000) (hn : n ≤ 10000000) (h0 : v ≠ 0) (htab : Lib.TabIs Tryz.prog w p10 .u64 Lib.pow10Tab) :
    Calls Tryz.prog 72 (#[.func (.func 130) #[] #[]] ++ #[.pointer (some ⟨pa, 0, none⟩)]) w fun e w' => e = .returned (.tuple #[.string (qts u v), .int .i64 0]) ∧ Below w.heap.size w w' := by
  have htabs := Lib.tabBelow_of_tabIs htab
  have H0 := hide h0
  obtain ⟨S, hS⟩ : ∃ S, qts u v = S := ⟨_, rfl⟩
  have HS := hide hS
  rw [hS]
  clear h0 hS
  obtain ⟨n1, o1, k1, c1, n2', o2, k2', c2, n3, o3, k3, c3, n4, o4, k4, c4, xa, h1, h2, h3, h4⟩ := hp
  show Calls Tryz.prog 72 #[.func (.func 130) #[] #[], .pointer (some ⟨pa, 0, none⟩)] w _
  go_enter Tryz.func72, Tryz.ntmps72
  have hs := St.nil w
  have lt_xa := xa.lt
  have xaz := xa
  refine wp_seq_k ?_
  intro K1 hK1
  refine rg [0, 1] ?_
  refine sq ?_
  refine .mv ?_
  refine sq ?_
  refine .mv ?_
  apply wpSq_end
  refine hK1 _ _ ?_
  refine wp_seq_k ?_
  intro K2 hK2
  refine rg [0, 1, 2, 3, 4, 5, 6, 7] ?_
  refine sq ?_
  refine .mv ?_
  refine sq ?_
  intro K hK
  have d0 : w.cell? ⟨pa, 0, none⟩ = some (.bool n1) := xa.cell 0 rfl
  have d1 : w.cell? ⟨pa, 1, none⟩ = some (.slice o1 k1 c1) := xa.cell 1 rfl
  have d2 : w.cell? ⟨pa, 2, none⟩ = some (.bool n2') := xa.cell 2 rfl
  have d3 : w.cell? ⟨pa, 3, none⟩ = some (.slice o2 k2' c2) := xa.cell 3 rfl
  have d4 : w.cell? ⟨pa, 4, none⟩ = some (.bool n3) := xa.cell 4 rfl
  have d5 : w.cell? ⟨pa, 5, none⟩ = some (.slice o3 k3 c3) := xa.cell 5 rfl
  have d6 : w.cell? ⟨pa, 6, none⟩ = some (.bool n4) := xa.cell 6 rfl
  have d7 : w.cell? ⟨pa, 7, none⟩ = some (.slice o4 k4 c4) := xa.cell 7 rfl
  go_big_op; refine hK _ _ rfl trivial ?_; clear hK K d0 d1 d2 d3 d4 d5 d6 d7
  refine sq ?_
  intro K hK
  go_big_op
  go_fit (selstring2 (.mk' h1 h2 h3 h4))
  rintro e w_1 ⟨_, rfl, ⟨n_gaa, o_gaa, k_gaa, c_gaa, n_gab, o_gab, k_gab, c_gab, rfl, ga1, ga2⟩, hb_1⟩
  replace hs := hs.bl hb_1
  refine hK _ _ rfl trivial ?_
  clear hK K
  refine sq ?_
  intro K hK
  have hb := hs.b
  go_big_op
  go_fit (fText_any (.mk' ga1 ga2) (by omega) (by omega) H0.out (htabs _ hb))
  rintro e w_2 ⟨rfl, hb_2⟩
  clear hb
  replace hs := hs.bl hb_2
  rw [HS.out]
  refine hK _ _ rfl trivial ?_
  clear hK K
  refine sq ?_
  refine .r0 ?_
  refine sq ?_
  refine .r0 ?_
  refine sq ?_
  refine .mv ?_
  refine sq ?_
  refine .mv ?_
  apply wpSq_end
  refine hK2 _ _ ?_
  refine wp_ret ?_
  try dsimp only [Exit.then, Exit.inBlock]
  refine bodyPost_ret (v := (.tuple #[(.string S), (.int .i64 0)])) (by simp [results, Tryz.results72, go_sem]) rfl ?_
  have hb := hs.b
  exact ⟨rfl, hb⟩
set_option maxHeartbeats 4000000 in
set_option maxRecDepth 20000 in
theorem gfEqual_yes (ha : CN w va x l y m u k v n) (hq : CN w vb p l2 q m2 s k2 t n2) (hl : l ≤ 10000000) (hm : m ≤ 10000000) (hk : k ≤ 10000000) (hn : n ≤ 10000000) (hl2 : l2 ≤ 10000000) (hm2 : m2 ≤ 10000000) (hk2 : k2 ≤ 10000000) (hn2 : n2 ≤ 10000000) (hy : y ≠ 0) (hv : v ≠ 0) (hq0 : q ≠ 0) (ht : t ≠ 0) (h1 : qcmp x y p q = 0) (h2 : qcmp u v s t = 0) :
    Calls Tryz.prog 27 #[va, vb] w fun e w' => e = .returned (.tuple #[.bool true, .int .i64 0]) ∧ Below w.heap.size w w' := by
  have HY := hide (And.intro hy hq0)
  have HV := hide (And.intro hv ht)
  obtain ⟨C, hC⟩ : ∃ C, qcmp x y p q = C := ⟨_, rfl⟩
  have HC := hide hC
  obtain ⟨D, hD⟩ : ∃ D, qcmp u v s t = D := ⟨_, rfl⟩
  have HD := hide hD
  rw [hC] at h1
  try rw [hD] at h2
  try subst h1
  try subst h2
  try (have h3 : (C == 0) = false := by simpa using h1)
  try (have h4 : (D == 0) = false := by simpa using h2)
  try replace h1 : (C = 0) = False := by simpa using h1
  try replace h2 : (D = 0) = False := by simpa using h2
  clear hy hv hq0 ht hC hD
  obtain ⟨n_0a, o_0a, k_0a, c_0a, n_0b, o_0b, k_0b, c_0b, n_0c, o_0c, k_0c, c_0c, n_0d, o_0d, k_0d, c_0d, rfl, ha1, ha2, ha3, ha4⟩ := ha
  obtain ⟨n_1a, o_1a, k_1a, c_1a, n_1b, o_1b, k_1b, c_1b, n_1c, o_1c, k_1c, c_1c, n_1d, o_1d, k_1d, c_1d, rfl, hq1, hq2, hq3, hq4⟩ := hq
  go_enter Tryz.func27, Tryz.ntmps27
  have hs := St.nil w
  refine wp_seq_k ?_
  intro K1 hK1
  refine rg [0, 1, 2, 3] ?_
  refine sq ?_
  refine .al hs ?_; clear hs; intro p_b1 w_1 hs n1 kb_b1
  refine sq ?_
  refine .al hs ?_; clear hs; intro p_b2 w_2 hs n2 kb_b2
  refine sq ?_
  refine .mv ?_
  refine sq ?_
  refine .mv ?_
  apply wpSq_end
  refine hK1 _ _ ?_
  refine wp_seq_k ?_
  intro K2 hK2
  refine rg [0, 1, 2, 3, 4, 5, 6, 7, 8] ?_
  refine sq ?_
  refine .r0 ?_
  refine sq ?_
  intro K hK
  have x_b1 := hs.g1
  have k0_2 := (kb n1).b n2
  replace ha1 := ha1.k k0_2
  replace ha2 := ha2.k k0_2
  replace ha3 := ha3.k k0_2
  replace ha4 := ha4.k k0_2
  have x_b2 := hs.g0
  replace hq1 := hq1.k k0_2
  replace hq2 := hq2.k k0_2
  replace hq3 := hq3.k k0_2
  replace hq4 := hq4.k k0_2
  go_big_op
  go_fit (bothint_ok (fun _ _ ↦ by kernel_rfl) (fun w1 h ↦ HC.out ▸ ceq1_ok (.mk' (x_b1.bl h) (ha1.bl h) (ha2.bl h) (ha3.bl h) (ha4.bl h)) (.mk' (x_b2.bl h) (hq1.bl h) (hq2.bl h) (hq3.bl h) (hq4.bl h)) hl hm hk hn hl2 hm2 hk2 hn2 HY.out.1 HY.out.2) (fun w1 h ↦ HD.out ▸ ceq2_ok (.mk' (x_b1.bl h) (ha1.bl h) (ha2.bl h) (ha3.bl h) (ha4.bl h)) (.mk' (x_b2.bl h) (hq1.bl h) (hq2.bl h) (hq3.bl h) (hq4.bl h)) hl hm hk hn hl2 hm2 hk2 hn2 HV.out.1 HV.out.2))
  rintro e w_3 ⟨rfl, hb_3⟩
  clear x_b1 x_b2
  replace hs := hs.bl hb_3
  refine hK _ _ rfl trivial ?_
  clear hK K
  refine sq ?_
  refine .mv ?_
  refine sq ?_
  refine .r0 ?_
  refine sq ?_
  refine .r0 ?_
  refine sq ?_
  refine .r0 ?_
  refine sq ?_
  refine .mv ?_
  refine sq ?_
  refine .mv ?_
  refine sq ?_
  refine .mv ?_
  apply wpSq_end
  refine hK2 _ _ ?_
  refine wp_seq_k ?_
  intro K3 hK3
  refine rg [0, 1, 2, 3, 4, 5, 6, 7, 8, 9, 10, 11, 12] ?_
  refine sq ?_
  refine .mv ?_
  refine sq ?_
  refine .r0 ?_
  refine sq ?_
  refine .mv ?_
  refine sq ?_
  refine .mv ?_
  refine sq ?_
  refine .r0 ?_
  refine sq ?_
  refine .r0 ?_
  refine sq ?_
  refine .mv ?_
  refine sq ?_
  refine .mv ?_
  refine sq ?_
  refine .r0 ?_
  refine sq ?_
  refine .r0 ?_
  refine sq ?_
  refine .mv ?_
  refine sq ?_
  refine .mv ?_
  refine sq ?_
  refine .mv ?_
  apply wpSq_end
  refine hK3 _ _ ?_
  refine wp_ret ?_
  try dsimp only [Exit.then, Exit.inBlock]
  refine bodyPost_ret (v := (.tuple #[(.bool true), (.int .i64 0)])) (by simp [results, Tryz.results27, go_sem]) rfl ?_
  have hb := hs.b
  exact ⟨rfl, hb⟩
set_option maxHeartbeats 4000000 in
set_option maxRecDepth 20000 in
theorem gfEqual_no1 (ha : CN w va x l y m u k v n) (hq : CN w vb p l2 q m2 s k2 t n2) (hl : l ≤ 10000000) (hm : m ≤ 10000000) (hk : k ≤ 10000000) (hn : n ≤ 10000000) (hl2 : l2 ≤ 10000000) (hm2 : m2 ≤ 10000000) (hk2 : k2 ≤ 10000000) (hn2 : n2 ≤ 10000000) (hy : y ≠ 0) (hv : v ≠ 0) (hq0 : q ≠ 0) (ht : t ≠ 0) (h1 : qcmp x y p q ≠ 0) :
    Calls Tryz.prog 27 #[va, vb] w fun e w' => e = .returned (.tuple #[.bool false, .int .i64 0]) ∧ Below w.heap.size w w' := by
  have HY := hide (And.intro hy hq0)
  have HV := hide (And.intro hv ht)
  obtain ⟨C, hC⟩ : ∃ C, qcmp x y p q = C := ⟨_, rfl⟩
  have HC := hide hC
  obtain ⟨D, hD⟩ : ∃ D, qcmp u v s t = D := ⟨_, rfl⟩
  have HD := hide hD
  rw [hC] at h1
  try rw [hD] at h2
  try subst h1
  try subst h2
  try (have h3 : (C == 0) = false := by simpa using h1)
  try (have h4 : (D == 0) = false := by simpa using h2)
  try replace h1 : (C = 0) = False := by simpa using h1
  try replace h2 : (D = 0) = False := by simpa using h2
  clear hy hv hq0 ht hC hD
  obtain ⟨n_0a, o_0a, k_0a, c_0a, n_0b, o_0b, k_0b, c_0b, n_0c, o_0c, k_0c, c_0c, n_0d, o_0d, k_0d, c_0d, rfl, ha1, ha2, ha3, ha4⟩ := ha
  obtain ⟨n_1a, o_1a, k_1a, c_1a, n_1b, o_1b, k_1b, c_1b, n_1c, o_1c, k_1c, c_1c, n_1d, o_1d, k_1d, c_1d, rfl, hq1, hq2, hq3, hq4⟩ := hq
  go_enter Tryz.func27, Tryz.ntmps27
  have hs := St.nil w
  refine wp_seq_k ?_
  intro K1 hK1
  refine rg [0, 1, 2, 3] ?_
  refine sq ?_
  refine .al hs ?_; clear hs; intro p_b1 w_1 hs n1 kb_b1
  refine sq ?_
  refine .al hs ?_; clear hs; intro p_b2 w_2 hs n2 kb_b2
  refine sq ?_
  refine .mv ?_
  refine sq ?_
  refine .mv ?_
  apply wpSq_end
  refine hK1 _ _ ?_
  refine wp_seq_k ?_
  intro K2 hK2
  refine rg [0, 1, 2, 3, 4, 5, 6, 7, 8] ?_
  refine sq ?_
  refine .r0 ?_
  refine sq ?_
  intro K hK
  have x_b1 := hs.g1
  have k0_2 := (kb n1).b n2
  replace ha1 := ha1.k k0_2
  replace ha2 := ha2.k k0_2
  replace ha3 := ha3.k k0_2
  replace ha4 := ha4.k k0_2
  have x_b2 := hs.g0
  replace hq1 := hq1.k k0_2
  replace hq2 := hq2.k k0_2
  replace hq3 := hq3.k k0_2
  replace hq4 := hq4.k k0_2
  go_big_op
  go_fit (bothint_ok (fun _ _ ↦ by kernel_rfl) (fun w1 h ↦ HC.out ▸ ceq1_ok (.mk' (x_b1.bl h) (ha1.bl h) (ha2.bl h) (ha3.bl h) (ha4.bl h)) (.mk' (x_b2.bl h) (hq1.bl h) (hq2.bl h) (hq3.bl h) (hq4.bl h)) hl hm hk hn hl2 hm2 hk2 hn2 HY.out.1 HY.out.2) (fun w1 h ↦ HD.out ▸ ceq2_ok (.mk' (x_b1.bl h) (ha1.bl h) (ha2.bl h) (ha3.bl h) (ha4.bl h)) (.mk' (x_b2.bl h) (hq1.bl h) (hq2.bl h) (hq3.bl h) (hq4.bl h)) hl hm hk hn hl2 hm2 hk2 hn2 HV.out.1 HV.out.2))
  rintro e w_3 ⟨rfl, hb_3⟩
  clear x_b1 x_b2
  replace hs := hs.bl hb_3
  refine hK _ _ rfl trivial ?_
  clear hK K
  refine sq ?_
  refine .mv ?_
  refine sq ?_
  refine .r0 ?_
  refine sq ?_
  refine .r0 ?_
  refine sq ?_
  refine .r0 ?_
  refine sq ?_
  refine .mv ?_
  refine sq ?_
  refine .mv ?_
  refine sq ?_
  refine .mv ?_
  apply wpSq_end
  refine hK2 _ _ ?_
  refine wp_seq_k ?_
  intro K3 hK3
  refine rg [0, 1, 2, 3, 4, 5, 6, 7, 8, 9, 10, 11, 12] ?_
  refine sq ?_
  refine .mv ?_
  refine sq ?_
  refine .r0 ?_
  refine sq ?_
  refine .mv ?_
  refine sq ?_
  refine .mv ?_
  refine sq ?_
  refine .r0 ?_
  refine sq ?_
  refine .r0 ?_
  refine sq ?_
  refine .mv ?_
  refine sk ?_
  refine sk ?_
  refine sq ?_
  refine .r0 ?_
  refine sq ?_
  refine .mv ?_
  refine sq ?_
  refine .mv ?_
  refine sq ?_
  refine .mv ?_
  apply wpSq_end
  refine hK3 _ _ ?_
  refine wp_ret ?_
  try dsimp only [Exit.then, Exit.inBlock]
  refine bodyPost_ret (v := (.tuple #[(.bool false), (.int .i64 0)])) (by simp [results, Tryz.results27, go_sem]) rfl ?_
  have hb := hs.b
  exact ⟨rfl, hb⟩
set_option maxHeartbeats 4000000 in
set_option maxRecDepth 20000 in
theorem gfEqual_no2 (ha : CN w va x l y m u k v n) (hq : CN w vb p l2 q m2 s k2 t n2) (hl : l ≤ 10000000) (hm : m ≤ 10000000) (hk : k ≤ 10000000) (hn : n ≤ 10000000) (hl2 : l2 ≤ 10000000) (hm2 : m2 ≤ 10000000) (hk2 : k2 ≤ 10000000) (hn2 : n2 ≤ 10000000) (hy : y ≠ 0) (hv : v ≠ 0) (hq0 : q ≠ 0) (ht : t ≠ 0) (h1 : qcmp x y p q = 0) (h2 : qcmp u v s t ≠ 0) :
    Calls Tryz.prog 27 #[va, vb] w fun e w' => e = .returned (.tuple #[.bool false, .int .i64 0]) ∧ Below w.heap.size w w' := by
  have HY := hide (And.intro hy hq0)
  have HV := hide (And.intro hv ht)
  obtain ⟨C, hC⟩ : ∃ C, qcmp x y p q = C := ⟨_, rfl⟩
  have HC := hide hC
  obtain ⟨D, hD⟩ : ∃ D, qcmp u v s t = D := ⟨_, rfl⟩
  have HD := hide hD
  rw [hC] at h1
  try rw [hD] at h2
  try subst h1
  try subst h2
  try (have h3 : (C == 0) = false := by simpa using h1)
  try (have h4 : (D == 0) = false := by simpa using h2)
  try replace h1 : (C = 0) = False := by simpa using h1
  try replace h2 : (D = 0) = False := by simpa using h2
  clear hy hv hq0 ht hC hD
  obtain ⟨n_0a, o_0a, k_0a, c_0a, n_0b, o_0b, k_0b, c_0b, n_0c, o_0c, k_0c, c_0c, n_0d, o_0d, k_0d, c_0d, rfl, ha1, ha2, ha3, ha4⟩ := ha
  obtain ⟨n_1a, o_1a, k_1a, c_1a, n_1b, o_1b, k_1b, c_1b, n_1c, o_1c, k_1c, c_1c, n_1d, o_1d, k_1d, c_1d, rfl, hq1, hq2, hq3, hq4⟩ := hq
  go_enter Tryz.func27, Tryz.ntmps27
  have hs := St.nil w
  refine wp_seq_k ?_
  intro K1 hK1
  refine rg [0, 1, 2, 3] ?_
  refine sq ?_
  refine .al hs ?_; clear hs; intro p_b1 w_1 hs n1 kb_b1
  refine sq ?_
  refine .al hs ?_; clear hs; intro p_b2 w_2 hs n2 kb_b2
  refine sq ?_
  refine .mv ?_
  refine sq ?_
  refine .mv ?_
  apply wpSq_end
  refine hK1 _ _ ?_
  refine wp_seq_k ?_
  intro K2 hK2
  refine rg [0, 1, 2, 3, 4, 5, 6, 7, 8] ?_
  refine sq ?_
  refine .r0 ?_
  refine sq ?_
  intro K hK
  have x_b1 := hs.g1
  have k0_2 := (kb n1).b n2
  replace ha1 := ha1.k k0_2
  replace ha2 := ha2.k k0_2
  replace ha3 := ha3.k k0_2
  replace ha4 := ha4.k k0_2
  have x_b2 := hs.g0
  replace hq1 := hq1.k k0_2
  replace hq2 := hq2.k k0_2
  replace hq3 := hq3.k k0_2
  replace hq4 := hq4.k k0_2
  go_big_op
  go_fit (bothint_ok (fun _ _ ↦ by kernel_rfl) (fun w1 h ↦ HC.out ▸ ceq1_ok (.mk' (x_b1.bl h) (ha1.bl h) (ha2.bl h) (ha3.bl h) (ha4.bl h)) (.mk' (x_b2.bl h) (hq1.bl h) (hq2.bl h) (hq3.bl h) (hq4.bl h)) hl hm hk hn hl2 hm2 hk2 hn2 HY.out.1 HY.out.2) (fun w1 h ↦ HD.out ▸ ceq2_ok (.mk' (x_b1.bl h) (ha1.bl h) (ha2.bl h) (ha3.bl h) (ha4.bl h)) (.mk' (x_b2.bl h) (hq1.bl h) (hq2.bl h) (hq3.bl h) (hq4.bl h)) hl hm hk hn hl2 hm2 hk2 hn2 HV.out.1 HV.out.2))
  rintro e w_3 ⟨rfl, hb_3⟩
  clear x_b1 x_b2
  replace hs := hs.bl hb_3
  refine hK _ _ rfl trivial ?_
  clear hK K
  refine sq ?_
  refine .mv ?_
  refine sq ?_
  refine .r0 ?_
  refine sq ?_
  refine .r0 ?_
  refine sq ?_
  refine .r0 ?_
  refine sq ?_
  refine .mv ?_
  refine sq ?_
  refine .mv ?_
  refine sq ?_
  refine .mv ?_
  apply wpSq_end
  refine hK2 _ _ ?_
  refine wp_seq_k ?_
  intro K3 hK3
  refine rg [0, 1, 2, 3, 4, 5, 6, 7, 8, 9, 10, 11, 12] ?_
  refine sq ?_
  refine .mv ?_
  refine sq ?_
  refine .r0 ?_
  refine sq ?_
  refine .mv ?_
  refine sq ?_
  refine .mv ?_
  refine sq ?_
  refine .r0 ?_
  refine sq ?_
  refine .r0 ?_
  refine sq ?_
  refine .mv ?_
  refine sq ?_
  refine .mv ?_
  refine sq ?_
  refine .r0 ?_
  refine sq ?_
  refine .r0 ?_
  refine sq ?_
  refine .mv ?_
  refine sq ?_
  refine .mv ?_
  refine sq ?_
  refine .mv ?_
  apply wpSq_end
  refine hK3 _ _ ?_
  refine wp_ret ?_
  try dsimp only [Exit.then, Exit.inBlock]
  refine bodyPost_ret (v := (.tuple #[(.bool false), (.int .i64 0)])) (by simp [results, Tryz.results27, go_sem]) rfl ?_
  have hb := hs.b
  exact ⟨rfl, hb⟩
set_option maxHeartbeats 4000000 in
set_option maxRecDepth 20000 in
theorem gfEqual_bad (ha : CN w va x l y m u k v n) (hq : CN w vb p l2 q m2 s k2 t n2) (hl : l ≤ 10000000) (hm : m ≤ 10000000) (hk : k ≤ 10000000) (hn : n ≤ 10000000) (hl2 : l2 ≤ 10000000) (hm2 : m2 ≤ 10000000) (hk2 : k2 ≤ 10000000) (hn2 : n2 ≤ 10000000) (h : (y = 0 ∨ v = 0) ∨ (q = 0 ∨ t = 0)) :
    Calls Tryz.prog 27 #[va, vb] w fun e w' => e = .returned (.tuple #[.bool false, .int .i64 5]) ∧ Below w.heap.size w w' := by
  have H := hide (show (y = 0 ∨ q = 0) ∨ (y ≠ 0 ∧ q ≠ 0) ∧ (v = 0 ∨ t = 0) by omega)
  clear h
  obtain ⟨n_0a, o_0a, k_0a, c_0a, n_0b, o_0b, k_0b, c_0b, n_0c, o_0c, k_0c, c_0c, n_0d, o_0d, k_0d, c_0d, rfl, ha1, ha2, ha3, ha4⟩ := ha
  obtain ⟨n_1a, o_1a, k_1a, c_1a, n_1b, o_1b, k_1b, c_1b, n_1c, o_1c, k_1c, c_1c, n_1d, o_1d, k_1d, c_1d, rfl, hq1, hq2, hq3, hq4⟩ := hq
  go_enter Tryz.func27, Tryz.ntmps27
  have hs := St.nil w
  refine wp_seq_k ?_
  intro K1 hK1
  refine rg [0, 1, 2, 3] ?_
  refine sq ?_
  refine .al hs ?_; clear hs; intro p_b1 w_1 hs n1 kb_b1
  refine sq ?_
  refine .al hs ?_; clear hs; intro p_b2 w_2 hs n2 kb_b2
  refine sq ?_
  refine .mv ?_
  refine sq ?_
  refine .mv ?_
  apply wpSq_end
  refine hK1 _ _ ?_
  refine wp_seq_k ?_
  intro K2 hK2
  refine rg [0, 1, 2, 3, 4, 5, 6, 7, 8] ?_
  refine sq ?_
  refine .r0 ?_
  refine sq ?_
  intro K hK
  have x_b1 := hs.g1
  have k0_2 := (kb n1).b n2
  replace ha1 := ha1.k k0_2
  replace ha2 := ha2.k k0_2
  replace ha3 := ha3.k k0_2
  replace ha4 := ha4.k k0_2
  have x_b2 := hs.g0
  replace hq1 := hq1.k k0_2
  replace hq2 := hq2.k k0_2
  replace hq3 := hq3.k k0_2
  replace hq4 := hq4.k k0_2
  go_big_op
  go_fit (bothint_bad (fun _ _ ↦ by kernel_rfl) (H.out.imp (fun e w1 h ↦ ceq1_bad (.mk' (x_b1.bl h) (ha1.bl h) (ha2.bl h) (ha3.bl h) (ha4.bl h)) (.mk' (x_b2.bl h) (hq1.bl h) (hq2.bl h) (hq3.bl h) (hq4.bl h)) hl hm hk hn hl2 hm2 hk2 hn2 e) (fun e ↦ ⟨⟨_, fun w1 h ↦ ceq1_ok (.mk' (x_b1.bl h) (ha1.bl h) (ha2.bl h) (ha3.bl h) (ha4.bl h)) (.mk' (x_b2.bl h) (hq1.bl h) (hq2.bl h) (hq3.bl h) (hq4.bl h)) hl hm hk hn hl2 hm2 hk2 hn2 e.1.1 e.1.2⟩, fun w1 h ↦ ceq2_bad (.mk' (x_b1.bl h) (ha1.bl h) (ha2.bl h) (ha3.bl h) (ha4.bl h)) (.mk' (x_b2.bl h) (hq1.bl h) (hq2.bl h) (hq3.bl h) (hq4.bl h)) hl hm hk hn hl2 hm2 hk2 hn2 e.2⟩)))
  rintro e w_3 ⟨rfl, hb_3⟩
  clear x_b1 x_b2
  replace hs := hs.bl hb_3
  refine hK _ _ rfl trivial ?_
  clear hK K
  refine sq ?_
  refine .mv ?_
  refine sq ?_
  refine .r0 ?_
  refine sq ?_
  refine .r0 ?_
  refine sq ?_
  refine .r0 ?_
  refine sq ?_
  refine .mv ?_
  refine sq ?_
  refine .mv ?_
  refine sq ?_
  refine .mv ?_
  apply wpSq_end
  refine hK2 _ _ ?_
  refine wp_seq_k ?_
  intro K3 hK3
  refine rg [0, 1, 2, 3, 4, 5, 6, 7, 8, 9, 10, 11, 12] ?_
  refine sq ?_
  refine .mv ?_
  refine sq ?_
  refine .r0 ?_
  refine sq ?_
  refine .mv ?_
  refine sk ?_
  refine sk ?_
  refine sq ?_
  refine .r0 ?_
  refine sq ?_
  refine .mv ?_
  refine sk ?_
  refine sk ?_
  refine sq ?_
  refine .r0 ?_
  refine sq ?_
  refine .mv ?_
  refine sq ?_
  refine .mv ?_
  refine sq ?_
  refine .mv ?_
  apply wpSq_end
  refine hK3 _ _ ?_
  refine wp_ret ?_
  try dsimp only [Exit.then, Exit.inBlock]
  refine bodyPost_ret (v := (.tuple #[(.bool false), (.int .i64 5)])) (by simp [results, Tryz.results27, go_sem]) rfl ?_
  have hb := hs.b
  exact ⟨rfl, hb⟩
end
end Go.Proofs.YthlhekkcjficdaaGreatDoor


/- gfrac's reference; the law's told, is, awake. -/
namespace Go.Proofs.YthlhekkcjficdaaGreatDoor
open Go Go.RowKit Dig
set_option linter.unusedVariables false
section
variable {w : World} {va vb : Value} {x y u v p q s t : Int} {l m k n l2 m2 k2 n2 : Nat}
theorem rfAdd_r (ha : PN w va x l y m) (hq : PN w vb u k v n) (hl : l ≤ 10000000) (hm : m ≤ 10000000) (hk : k ≤ 10000000) (hn : n ≤ 10000000) (hy : y ≠ 0) (hv : v ≠ 0) :
    Calls Tryz.prog 83 #[va, vb] w fun e w' => ∃ r, e = .returned r ∧ PC w' r (rv x y + rv u v).num (rv x y + rv u v).den ∧ Below w.heap.size w w' := by
  have h0 := Int.mul_ne_zero hy hv
  have := rfAdd_any ha hq hl hm hk hn h0
  rw [(q_eq h0 (rv_opAdd hy hv)).1, (q_eq h0 (rv_opAdd hy hv)).2] at this
  exact this
theorem rfSub_r (ha : PN w va x l y m) (hq : PN w vb u k v n) (hl : l ≤ 9000000) (hm : m ≤ 9000000) (hk : k ≤ 9000000) (hn : n ≤ 9000000) (hy : y ≠ 0) (hv : v ≠ 0) :
    Calls Tryz.prog 84 #[va, vb] w fun e w' => ∃ r, e = .returned r ∧ PC w' r (rv x y - rv u v).num (rv x y - rv u v).den ∧ Below w.heap.size w w' := by
  have h0 := Int.mul_ne_zero hy hv
  have := rfSub_any ha hq hl hm hk hn hy hv
  rw [(q_eq h0 (rv_opSub hy hv)).1, (q_eq h0 (rv_opSub hy hv)).2] at this
  exact this
theorem rfMul_r (ha : PN w va x l y m) (hq : PN w vb u k v n) (hl : l ≤ 10000000) (hm : m ≤ 10000000) (hk : k ≤ 10000000) (hn : n ≤ 10000000) (hy : y ≠ 0) (hv : v ≠ 0) :
    Calls Tryz.prog 85 #[va, vb] w fun e w' => ∃ r, e = .returned r ∧ PC w' r (rv x y * rv u v).num (rv x y * rv u v).den ∧ Below w.heap.size w w' := by
  have h0 := Int.mul_ne_zero hy hv
  have := rfMul_any ha hq hl hm hk hn h0
  rw [(q_eq h0 (rv_mul x y u v)).1, (q_eq h0 (rv_mul x y u v)).2] at this
  exact this
theorem rfQuo_r (ha : PN w va x l y m) (hq : PN w vb u k v n) (hl : l ≤ 10000000) (hm : m ≤ 10000000) (hk : k ≤ 10000000) (hn : n ≤ 10000000) (hu : u ≠ 0) (hy : y ≠ 0) :
    Calls Tryz.prog 140 #[va, vb] w fun e w' => ∃ r, e = .returned r ∧ PC w' r (rv x y / rv u v).num (rv x y / rv u v).den ∧ Below w.heap.size w w' := by
  have h0 := Int.mul_ne_zero hu hy
  have := rfQuo_any ha hq hl hm hk hn h0
  rw [(q_eq h0 (rv_quo x y u v)).1, (q_eq h0 (rv_quo x y u v)).2] at this
  exact this
theorem rv_neg1 (x y : Int) : rv (-x) y = -rv x y := by unfold rv; rw [Rat.intCast_neg]; grind
theorem rfNeg_r (ha : PN w va x l y m) (hl : l ≤ 10000000) (hm : m ≤ 10000000) (h0 : y ≠ 0) :
    Calls Tryz.prog 95 #[va] w fun e w' => ∃ r, e = .returned r ∧ PC w' r (-rv x y).num (-rv x y).den ∧ Below w.heap.size w w' := by
  have := rfNeg_any ha hl hm h0
  rw [(q_eq h0 (rv_neg1 x y)).1, (q_eq h0 (rv_neg1 x y)).2] at this
  exact this
theorem rfnorm_r (ha : PN w va x l y m) (hl : l ≤ 44000000) (hm : m ≤ 44000000) (h0 : y ≠ 0) :
    Calls Tryz.prog 62 #[va] w fun e w' => ∃ r, e = .returned r ∧ PC w' r (rv x y).num (rv x y).den ∧ Below w.heap.size w w' := by
  have := rfnorm_any ha hl hm h0
  rw [(q_num h0).1, (q_num h0).2] at this
  exact this
theorem rfsame_r {r : Rat} (ha : PC w va r.num r.den) (hq : PN w vb r.num l r.den m) (hl : l ≤ 44000000) (hm : m ≤ 44000000) :
    Calls Tryz.prog 14 #[va, vb] w fun e w' => e = .returned (.bool true) ∧ Below w.heap.size w w' :=
  rfsame_any (u := r.num) (v := r.den) (by rw [qN_low (rat_low r), qD_low (rat_low r)]; exact ha) hq hl hm (den_ne r)
/-- What is read of a number in lowest terms is worth it. -/
theorem rv_nd (r : Rat) : rv r.num r.den = r := rv_self r
set_option maxHeartbeats 4000000 in
set_option maxRecDepth 20000 in
theorem r7Same_ok {a b : Rat} (ha : CC w va a.num a.den b.num b.den) (hq : CN w vb a.num l a.den m b.num k b.den n) (hl : l ≤ 44000000) (hm : m ≤ 44000000) (hk : k ≤ 44000000) (hn : n ≤ 44000000) :
    Calls Tryz.prog 88 #[va, vb] w fun e w' => e = .returned (.bool true) ∧ Below w.heap.size w w' := by
  obtain ⟨n_0a, o_0a, k_0a, c_0a, n_0b, o_0b, k_0b, c_0b, n_0c, o_0c, k_0c, c_0c, n_0d, o_0d, k_0d, c_0d, rfl, ha1, ha2, ha3, ha4⟩ := ha
  obtain ⟨n_1a, o_1a, k_1a, c_1a, n_1b, o_1b, k_1b, c_1b, n_1c, o_1c, k_1c, c_1c, n_1d, o_1d, k_1d, c_1d, rfl, hq1, hq2, hq3, hq4⟩ := hq
  go_enter Tryz.func88, Tryz.ntmps88
  have hs := St.nil w
  refine wp_seq_k ?_
  intro K1 hK1
  refine rg [0, 1, 2] ?_
  refine sq ?_
  refine .al hs ?_; clear hs; intro p_b1 w_1 hs n1 kb_b1
  refine sq ?_
  refine .al hs ?_; clear hs; intro p_b2 w_2 hs n2 kb_b2
  refine sq ?_
  refine .mv ?_
  apply wpSq_end
  refine hK1 _ _ ?_
  refine wp_seq_k ?_
  intro K2 hK2
  refine rg [0, 1, 2, 3, 4, 5, 6, 7, 8, 9, 10, 11, 12] ?_
  refine sq ?_
  refine .r0 ?_
  refine sq ?_
  refine .r4 ⟨hs.g1.cell 0 rfl, hs.g1.cell 1 rfl, hs.g1.cell 2 rfl, hs.g1.cell 3 rfl⟩ ?_
  refine sq ?_
  refine .r0 ?_
  refine sq ?_
  refine .r4 ⟨hs.g0.cell 0 rfl, hs.g0.cell 1 rfl, hs.g0.cell 2 rfl, hs.g0.cell 3 rfl⟩ ?_
  refine sq ?_
  intro K hK
  have k0_2 := (kb n1).b n2
  replace ha1 := ha1.k k0_2
  replace ha2 := ha2.k k0_2
  replace hq1 := hq1.k k0_2
  replace hq2 := hq2.k k0_2
  go_big_op
  go_fit (rfsame_r (.mk' ha1 ha2) (.mk' hq1 hq2) hl hm)
  rintro e w_3 ⟨rfl, hb_3⟩
  replace hs := hs.bl hb_3
  refine hK _ _ rfl trivial ?_
  clear hK K
  refine sq ?_
  refine .mv ?_
  refine sq ?_
  refine .r0 ?_
  refine sq ?_
  refine .r4 ⟨hs.g1.cell 4 rfl, hs.g1.cell 5 rfl, hs.g1.cell 6 rfl, hs.g1.cell 7 rfl⟩ ?_
  refine sq ?_
  refine .r0 ?_
  refine sq ?_
  refine .r4 ⟨hs.g0.cell 4 rfl, hs.g0.cell 5 rfl, hs.g0.cell 6 rfl, hs.g0.cell 7 rfl⟩ ?_
  refine sq ?_
  intro K hK
  have k0_3 := k0_2.b hb_3
  replace ha3 := ha3.k k0_3
  replace ha4 := ha4.k k0_3
  replace hq3 := hq3.k k0_3
  replace hq4 := hq4.k k0_3
  go_big_op
  go_fit (rfsame_r (.mk' ha3 ha4) (.mk' hq3 hq4) hk hn)
  rintro e w_4 ⟨rfl, hb_4⟩
  replace hs := hs.bl hb_4
  refine hK _ _ rfl trivial ?_
  clear hK K
  refine sq ?_
  refine .r0 ?_
  refine sq ?_
  refine .mv ?_
  apply wpSq_end
  refine hK2 _ _ ?_
  refine wp_ret ?_
  try dsimp only [Exit.then, Exit.inBlock]
  refine bodyPost_ret (v := (.bool true)) (by simp [results, Tryz.results88, go_sem]) rfl ?_
  have hb := hs.b
  exact ⟨rfl, hb⟩
set_option maxHeartbeats 4000000 in
set_option maxRecDepth 20000 in
theorem is7_ok {a b : Rat} (ha : CC w va a.num a.den b.num b.den) (hq : CN w vb a.num l a.den m b.num k b.den n) (hl : l ≤ 44000000) (hm : m ≤ 44000000) (hk : k ≤ 44000000) (hn : n ≤ 44000000) :
    Calls Tryz.prog 35 #[va, vb] w fun e w' => e = .returned (.bool true) ∧ Below w.heap.size w w' := by
  obtain ⟨n_0a, o_0a, k_0a, c_0a, n_0b, o_0b, k_0b, c_0b, n_0c, o_0c, k_0c, c_0c, n_0d, o_0d, k_0d, c_0d, rfl, ha1, ha2, ha3, ha4⟩ := ha
  obtain ⟨n_1a, o_1a, k_1a, c_1a, n_1b, o_1b, k_1b, c_1b, n_1c, o_1c, k_1c, c_1c, n_1d, o_1d, k_1d, c_1d, rfl, hq1, hq2, hq3, hq4⟩ := hq
  go_enter Tryz.func35, Tryz.ntmps35
  have hs := St.nil w
  refine wp_seq_k ?_
  intro K1 hK1
  refine rg [0, 1, 2] ?_
  refine sq ?_
  refine .al hs ?_; clear hs; intro p_b1 w_1 hs n1 kb_b1
  refine sq ?_
  refine .al hs ?_; clear hs; intro p_b2 w_2 hs n2 kb_b2
  refine sq ?_
  refine .mv ?_
  apply wpSq_end
  refine hK1 _ _ ?_
  refine wp_seq_k ?_
  intro K2 hK2
  refine rg [0, 1, 2, 3] ?_
  refine sq ?_
  intro K hK
  have d0 : w_2.cell? ⟨p_b1, 0, none⟩ = some (.bool n_0a) := hs.g1.cell 0 rfl
  have d1 : w_2.cell? ⟨p_b1, 1, none⟩ = some (.slice o_0a k_0a c_0a) := hs.g1.cell 1 rfl
  have d2 : w_2.cell? ⟨p_b1, 2, none⟩ = some (.bool n_0b) := hs.g1.cell 2 rfl
  have d3 : w_2.cell? ⟨p_b1, 3, none⟩ = some (.slice o_0b k_0b c_0b) := hs.g1.cell 3 rfl
  have d4 : w_2.cell? ⟨p_b1, 4, none⟩ = some (.bool n_0c) := hs.g1.cell 4 rfl
  have d5 : w_2.cell? ⟨p_b1, 5, none⟩ = some (.slice o_0c k_0c c_0c) := hs.g1.cell 5 rfl
  have d6 : w_2.cell? ⟨p_b1, 6, none⟩ = some (.bool n_0d) := hs.g1.cell 6 rfl
  have d7 : w_2.cell? ⟨p_b1, 7, none⟩ = some (.slice o_0d k_0d c_0d) := hs.g1.cell 7 rfl
  go_big_op; refine hK _ _ rfl trivial ?_; clear hK K d0 d1 d2 d3 d4 d5 d6 d7
  refine sq ?_
  intro K hK
  have d0 : w_2.cell? ⟨p_b2, 0, none⟩ = some (.bool n_1a) := hs.g0.cell 0 rfl
  have d1 : w_2.cell? ⟨p_b2, 1, none⟩ = some (.slice o_1a k_1a c_1a) := hs.g0.cell 1 rfl
  have d2 : w_2.cell? ⟨p_b2, 2, none⟩ = some (.bool n_1b) := hs.g0.cell 2 rfl
  have d3 : w_2.cell? ⟨p_b2, 3, none⟩ = some (.slice o_1b k_1b c_1b) := hs.g0.cell 3 rfl
  have d4 : w_2.cell? ⟨p_b2, 4, none⟩ = some (.bool n_1c) := hs.g0.cell 4 rfl
  have d5 : w_2.cell? ⟨p_b2, 5, none⟩ = some (.slice o_1c k_1c c_1c) := hs.g0.cell 5 rfl
  have d6 : w_2.cell? ⟨p_b2, 6, none⟩ = some (.bool n_1d) := hs.g0.cell 6 rfl
  have d7 : w_2.cell? ⟨p_b2, 7, none⟩ = some (.slice o_1d k_1d c_1d) := hs.g0.cell 7 rfl
  go_big_op; refine hK _ _ rfl trivial ?_; clear hK K d0 d1 d2 d3 d4 d5 d6 d7
  refine sq ?_
  intro K hK
  have k0_2 := (kb n1).b n2
  replace ha1 := ha1.k k0_2
  replace ha2 := ha2.k k0_2
  replace ha3 := ha3.k k0_2
  replace ha4 := ha4.k k0_2
  replace hq1 := hq1.k k0_2
  replace hq2 := hq2.k k0_2
  replace hq3 := hq3.k k0_2
  replace hq4 := hq4.k k0_2
  go_big_op
  go_fit (r7Same_ok (.mk' ha1 ha2 ha3 ha4) (.mk' hq1 hq2 hq3 hq4) hl hm hk hn)
  rintro e w_3 ⟨rfl, hb_3⟩
  replace hs := hs.bl hb_3
  refine hK _ _ rfl trivial ?_
  clear hK K
  refine sq ?_
  refine .mv ?_
  apply wpSq_end
  refine hK2 _ _ ?_
  refine wp_ret ?_
  try dsimp only [Exit.then, Exit.inBlock]
  refine bodyPost_ret (v := (.bool true)) (by simp [results, Tryz.results35, go_sem]) rfl ?_
  have hb := hs.b
  exact ⟨rfl, hb⟩
set_option maxHeartbeats 4000000 in
set_option maxRecDepth 20000 in
theorem told7_ok {a b : Rat} (ha : CC w va a.num a.den b.num b.den) (hq : CN w vb a.num l a.den m b.num k b.den n) (hl : l ≤ 44000000) (hm : m ≤ 44000000) (hk : k ≤ 44000000) (hn : n ≤ 44000000) :
    Calls Tryz.prog 16 #[va, .int .i64 0, vb, .int .i64 0] w fun e w' => e = .returned (.bool true) ∧ Below w.heap.size w w' := by
  obtain ⟨n_0a, o_0a, k_0a, c_0a, n_0b, o_0b, k_0b, c_0b, n_0c, o_0c, k_0c, c_0c, n_0d, o_0d, k_0d, c_0d, rfl, ha1, ha2, ha3, ha4⟩ := ha
  obtain ⟨n_2a, o_2a, k_2a, c_2a, n_2b, o_2b, k_2b, c_2b, n_2c, o_2c, k_2c, c_2c, n_2d, o_2d, k_2d, c_2d, rfl, hq1, hq2, hq3, hq4⟩ := hq
  go_enter Tryz.func16, Tryz.ntmps16
  have hs := St.nil w
  refine wp_seq_k ?_
  intro K1 hK1
  refine rg [0, 1, 2] ?_
  refine sq ?_
  refine .al hs ?_; clear hs; intro p_b1 w_1 hs n1 kb_b1
  refine sq ?_
  refine .al hs ?_; clear hs; intro p_b2 w_2 hs n2 kb_b2
  refine sq ?_
  refine .mv ?_
  apply wpSq_end
  refine hK1 _ _ ?_
  refine wp_seq_k ?_
  intro K2 hK2
  refine wp_seq_k ?_
  intro K3 hK3
  refine rg [0, 1] ?_
  refine sq ?_
  refine .mv ?_
  refine sq ?_
  refine .r0 ?_
  apply wpSq_end
  refine hK3 _ _ ?_
  refine cf ?_
  refine wp_skip ?_
  refine hK2 _ _ ?_
  refine wp_seq_k ?_
  intro K4 hK4
  refine rg [0, 1, 2, 3, 4, 5, 6, 7] ?_
  refine sq ?_
  refine .mv ?_
  refine sq ?_
  refine .r0 ?_
  refine sq ?_
  refine .mv ?_
  refine sq ?_
  intro K hK
  have d0 : w_2.cell? ⟨p_b1, 0, none⟩ = some (.bool n_0a) := hs.g1.cell 0 rfl
  have d1 : w_2.cell? ⟨p_b1, 1, none⟩ = some (.slice o_0a k_0a c_0a) := hs.g1.cell 1 rfl
  have d2 : w_2.cell? ⟨p_b1, 2, none⟩ = some (.bool n_0b) := hs.g1.cell 2 rfl
  have d3 : w_2.cell? ⟨p_b1, 3, none⟩ = some (.slice o_0b k_0b c_0b) := hs.g1.cell 3 rfl
  have d4 : w_2.cell? ⟨p_b1, 4, none⟩ = some (.bool n_0c) := hs.g1.cell 4 rfl
  have d5 : w_2.cell? ⟨p_b1, 5, none⟩ = some (.slice o_0c k_0c c_0c) := hs.g1.cell 5 rfl
  have d6 : w_2.cell? ⟨p_b1, 6, none⟩ = some (.bool n_0d) := hs.g1.cell 6 rfl
  have d7 : w_2.cell? ⟨p_b1, 7, none⟩ = some (.slice o_0d k_0d c_0d) := hs.g1.cell 7 rfl
  go_big_op; refine hK _ _ rfl trivial ?_; clear hK K d0 d1 d2 d3 d4 d5 d6 d7
  refine sq ?_
  intro K hK
  have d0 : w_2.cell? ⟨p_b2, 0, none⟩ = some (.bool n_2a) := hs.g0.cell 0 rfl
  have d1 : w_2.cell? ⟨p_b2, 1, none⟩ = some (.slice o_2a k_2a c_2a) := hs.g0.cell 1 rfl
  have d2 : w_2.cell? ⟨p_b2, 2, none⟩ = some (.bool n_2b) := hs.g0.cell 2 rfl
  have d3 : w_2.cell? ⟨p_b2, 3, none⟩ = some (.slice o_2b k_2b c_2b) := hs.g0.cell 3 rfl
  have d4 : w_2.cell? ⟨p_b2, 4, none⟩ = some (.bool n_2c) := hs.g0.cell 4 rfl
  have d5 : w_2.cell? ⟨p_b2, 5, none⟩ = some (.slice o_2c k_2c c_2c) := hs.g0.cell 5 rfl
  have d6 : w_2.cell? ⟨p_b2, 6, none⟩ = some (.bool n_2d) := hs.g0.cell 6 rfl
  have d7 : w_2.cell? ⟨p_b2, 7, none⟩ = some (.slice o_2d k_2d c_2d) := hs.g0.cell 7 rfl
  go_big_op; refine hK _ _ rfl trivial ?_; clear hK K d0 d1 d2 d3 d4 d5 d6 d7
  refine sq ?_
  intro K hK
  have k0_2 := (kb n1).b n2
  replace ha1 := ha1.k k0_2
  replace ha2 := ha2.k k0_2
  replace ha3 := ha3.k k0_2
  replace ha4 := ha4.k k0_2
  replace hq1 := hq1.k k0_2
  replace hq2 := hq2.k k0_2
  replace hq3 := hq3.k k0_2
  replace hq4 := hq4.k k0_2
  go_big_op
  go_fit (is7_ok (.mk' ha1 ha2 ha3 ha4) (.mk' hq1 hq2 hq3 hq4) hl hm hk hn)
  rintro e w_3 ⟨rfl, hb_3⟩
  replace hs := hs.bl hb_3
  refine hK _ _ rfl trivial ?_
  clear hK K
  refine sq ?_
  refine .r0 ?_
  refine sq ?_
  refine .mv ?_
  apply wpSq_end
  refine hK4 _ _ ?_
  refine wp_ret ?_
  try dsimp only [Exit.then, Exit.inBlock]
  refine bodyPost_ret (v := (.bool true)) (by simp [results, Tryz.results16, go_sem]) rfl ?_
  have hb := hs.b
  exact ⟨rfl, hb⟩
set_option maxHeartbeats 4000000 in
set_option maxRecDepth 20000 in
theorem r7Zero_ok (w : World) :
    Calls Tryz.prog 65 #[.agg #[.bool false, .slice none 0 0, .bool false, .slice none 0 0, .bool false, .slice none 0 0, .bool false, .slice none 0 0]] w fun e w' => e = .returned (.bool true) ∧ Below w.heap.size w w' := by
  go_enter Tryz.func65, Tryz.ntmps65
  have hs := St.nil w
  refine wp_seq_k ?_
  intro K1 hK1
  refine rg [0, 1] ?_
  refine sq ?_
  refine .al hs ?_; clear hs; intro p_b1 w_1 hs n1 kb_b1
  refine sq ?_
  refine .mv ?_
  apply wpSq_end
  refine hK1 _ _ ?_
  refine wp_seq_k ?_
  intro K2 hK2
  refine rg [0, 1, 2, 3, 4, 5, 6, 7, 8] ?_
  refine sq ?_
  refine .r0 ?_
  refine sq ?_
  refine .r4 ⟨hs.g0.cell 0 rfl, hs.g0.cell 1 rfl, hs.g0.cell 2 rfl, hs.g0.cell 3 rfl⟩ ?_
  refine sq ?_
  intro K hK
  go_big_op
  go_fit (rfzero_any _)
  rintro e w_2 ⟨rfl, hb_2⟩
  replace hs := hs.bl hb_2
  refine hK _ _ rfl trivial ?_
  clear hK K
  refine sq ?_
  refine .mv ?_
  refine sq ?_
  refine .r0 ?_
  refine sq ?_
  refine .r4 ⟨hs.g0.cell 4 rfl, hs.g0.cell 5 rfl, hs.g0.cell 6 rfl, hs.g0.cell 7 rfl⟩ ?_
  refine sq ?_
  intro K hK
  go_big_op
  go_fit (rfzero_any _)
  rintro e w_3 ⟨rfl, hb_3⟩
  replace hs := hs.bl hb_3
  refine hK _ _ rfl trivial ?_
  clear hK K
  refine sq ?_
  refine .r0 ?_
  refine sq ?_
  refine .mv ?_
  apply wpSq_end
  refine hK2 _ _ ?_
  refine wp_ret ?_
  try dsimp only [Exit.then, Exit.inBlock]
  refine bodyPost_ret (v := (.bool true)) (by simp [results, Tryz.results65, go_sem]) rfl ?_
  have hb := hs.b
  exact ⟨rfl, hb⟩
set_option maxHeartbeats 4000000 in
set_option maxRecDepth 20000 in
theorem told7_err (w : World) (f : Int) (hf : f ≠ 0) :
    Calls Tryz.prog 16 #[.agg #[.bool false, .slice none 0 0, .bool false, .slice none 0 0, .bool false, .slice none 0 0, .bool false, .slice none 0 0], .int .i64 f, .agg #[.bool false, .slice none 0 0, .bool false, .slice none 0 0, .bool false, .slice none 0 0, .bool false, .slice none 0 0], .int .i64 f] w fun e w' => e = .returned (.bool true) ∧ Below w.heap.size w w' := by
  have h0 : (f == 0) = false := by simpa using hf
  go_enter Tryz.func16, Tryz.ntmps16
  have hs := St.nil w
  refine wp_seq_k ?_
  intro K1 hK1
  refine rg [0, 1, 2] ?_
  refine sq ?_
  refine .al hs ?_; clear hs; intro p_b1 w_1 hs n1 kb_b1
  refine sq ?_
  refine .al hs ?_; clear hs; intro p_b2 w_2 hs n2 kb_b2
  refine sq ?_
  refine .mv ?_
  apply wpSq_end
  refine hK1 _ _ ?_
  refine wp_seq_k ?_
  intro K2 hK2
  refine wp_seq_k ?_
  intro K3 hK3
  refine rg [0, 1] ?_
  refine sq ?_
  refine .mv ?_
  refine sq ?_
  refine .r0 ?_
  apply wpSq_end
  refine hK3 _ _ ?_
  refine wp_cond_true (congrArg Value.bool (show _ = true from (by simpa using hf))) ?_
  refine wp_seq_k ?_
  intro K4 hK4
  refine rg [0, 1, 2, 3, 4, 5, 6, 7] ?_
  refine sq ?_
  refine .mv ?_
  refine sq ?_
  refine .mv ?_
  refine sq ?_
  refine .r0 ?_
  refine sq ?_
  refine .mv ?_
  refine sq ?_
  intro K hK
  have d0 : w_2.cell? ⟨p_b1, 0, none⟩ = some (.bool false) := hs.g1.cell 0 rfl
  have d1 : w_2.cell? ⟨p_b1, 1, none⟩ = some (.slice none 0 0) := hs.g1.cell 1 rfl
  have d2 : w_2.cell? ⟨p_b1, 2, none⟩ = some (.bool false) := hs.g1.cell 2 rfl
  have d3 : w_2.cell? ⟨p_b1, 3, none⟩ = some (.slice none 0 0) := hs.g1.cell 3 rfl
  have d4 : w_2.cell? ⟨p_b1, 4, none⟩ = some (.bool false) := hs.g1.cell 4 rfl
  have d5 : w_2.cell? ⟨p_b1, 5, none⟩ = some (.slice none 0 0) := hs.g1.cell 5 rfl
  have d6 : w_2.cell? ⟨p_b1, 6, none⟩ = some (.bool false) := hs.g1.cell 6 rfl
  have d7 : w_2.cell? ⟨p_b1, 7, none⟩ = some (.slice none 0 0) := hs.g1.cell 7 rfl
  go_big_op; refine hK _ _ rfl trivial ?_; clear hK K d0 d1 d2 d3 d4 d5 d6 d7
  refine sq ?_
  intro K hK
  go_big_op
  go_fit (r7Zero_ok _)
  rintro e w_3 ⟨rfl, hb_3⟩
  replace hs := hs.bl hb_3
  refine hK _ _ rfl trivial ?_
  clear hK K
  refine sq ?_
  refine .r0 ?_
  refine sq ?_
  refine .mv ?_
  apply wpSq_end
  refine hK4 _ _ ?_
  refine wp_ret ?_
  try dsimp only [Exit.then, Exit.inBlock]
  refine bodyPost_ret (v := (.bool true)) (by simp [results, Tryz.results16, go_sem]) rfl ?_
  have hb := hs.b
  exact ⟨rfl, hb⟩
set_option maxHeartbeats 4000000 in
set_option maxRecDepth 20000 in
theorem r7Bad_no (ha : CN w va x l y m u k v n) (hl : l ≤ 40000000) (hm : m ≤ 40000000) (hk : k ≤ 40000000) (hn : n ≤ 40000000) (hy : y ≠ 0) (hv : v ≠ 0) :
    Calls Tryz.prog 28 #[va] w fun e w' => e = .returned (.bool false) ∧ Below w.heap.size w w' := by
  have HY := hide hy
  have HV := hide hv
  clear hy hv
  obtain ⟨n_0a, o_0a, k_0a, c_0a, n_0b, o_0b, k_0b, c_0b, n_0c, o_0c, k_0c, c_0c, n_0d, o_0d, k_0d, c_0d, rfl, ha1, ha2, ha3, ha4⟩ := ha
  go_enter Tryz.func28, Tryz.ntmps28
  have hs := St.nil w
  refine wp_seq_k ?_
  intro K1 hK1
  refine rg [0, 1] ?_
  refine sq ?_
  refine .al hs ?_; clear hs; intro p_b1 w_1 hs n1 kb_b1
  refine sq ?_
  refine .mv ?_
  apply wpSq_end
  refine hK1 _ _ ?_
  refine wp_seq_k ?_
  intro K2 hK2
  refine rg [0, 1, 2, 3, 4, 5, 6, 7, 8] ?_
  refine sq ?_
  refine .r0 ?_
  refine sq ?_
  refine .r4 ⟨hs.g0.cell 0 rfl, hs.g0.cell 1 rfl, hs.g0.cell 2 rfl, hs.g0.cell 3 rfl⟩ ?_
  refine sq ?_
  intro K hK
  have k0_1 := kb n1
  replace ha1 := ha1.k k0_1
  replace ha2 := ha2.k k0_1
  go_big_op
  go_fit (rbad_no (PN.mk' ha1 ha2) (by omega) (by omega) HY.out)
  rintro e w_2 ⟨rfl, hb_2⟩
  replace hs := hs.bl hb_2
  refine hK _ _ rfl trivial ?_
  clear hK K
  refine sq ?_
  refine .mv ?_
  refine sq ?_
  refine .r0 ?_
  refine sq ?_
  refine .r4 ⟨hs.g0.cell 4 rfl, hs.g0.cell 5 rfl, hs.g0.cell 6 rfl, hs.g0.cell 7 rfl⟩ ?_
  refine sq ?_
  intro K hK
  have k0_2 := k0_1.b hb_2
  replace ha3 := ha3.k k0_2
  replace ha4 := ha4.k k0_2
  go_big_op
  go_fit (rbad_no (PN.mk' ha3 ha4) (by omega) (by omega) HV.out)
  rintro e w_3 ⟨rfl, hb_3⟩
  replace hs := hs.bl hb_3
  refine hK _ _ rfl trivial ?_
  clear hK K
  refine sq ?_
  refine .r0 ?_
  refine sq ?_
  refine .mv ?_
  apply wpSq_end
  refine hK2 _ _ ?_
  refine wp_ret ?_
  try dsimp only [Exit.then, Exit.inBlock]
  refine bodyPost_ret (v := (.bool false)) (by simp [results, Tryz.results28, go_sem]) rfl ?_
  have hb := hs.b
  exact ⟨rfl, hb⟩
set_option maxHeartbeats 4000000 in
set_option maxRecDepth 20000 in
theorem r7Bad_yes1 (ha : CN w va x l 0 m u k v n) (hl : l ≤ 40000000) (hm : m ≤ 40000000) (hk : k ≤ 40000000) (hn : n ≤ 40000000) :
    Calls Tryz.prog 28 #[va] w fun e w' => e = .returned (.bool true) ∧ Below w.heap.size w w' := by
  obtain ⟨n_0a, o_0a, k_0a, c_0a, n_0b, o_0b, k_0b, c_0b, n_0c, o_0c, k_0c, c_0c, n_0d, o_0d, k_0d, c_0d, rfl, ha1, ha2, ha3, ha4⟩ := ha
  go_enter Tryz.func28, Tryz.ntmps28
  have hs := St.nil w
  refine wp_seq_k ?_
  intro K1 hK1
  refine rg [0, 1] ?_
  refine sq ?_
  refine .al hs ?_; clear hs; intro p_b1 w_1 hs n1 kb_b1
  refine sq ?_
  refine .mv ?_
  apply wpSq_end
  refine hK1 _ _ ?_
  refine wp_seq_k ?_
  intro K2 hK2
  refine rg [0, 1, 2, 3, 4, 5, 6, 7, 8] ?_
  refine sq ?_
  refine .r0 ?_
  refine sq ?_
  refine .r4 ⟨hs.g0.cell 0 rfl, hs.g0.cell 1 rfl, hs.g0.cell 2 rfl, hs.g0.cell 3 rfl⟩ ?_
  refine sq ?_
  intro K hK
  have k0_1 := kb n1
  replace ha1 := ha1.k k0_1
  replace ha2 := ha2.k k0_1
  go_big_op
  go_fit (rbad_yes (PN.mk' ha1 ha2) (by omega) (by omega) )
  rintro e w_2 ⟨rfl, hb_2⟩
  replace hs := hs.bl hb_2
  refine hK _ _ rfl trivial ?_
  clear hK K
  refine sq ?_
  refine .mv ?_
  refine sk ?_
  refine sk ?_
  refine sk ?_
  refine sq ?_
  refine .r0 ?_
  refine sq ?_
  refine .mv ?_
  apply wpSq_end
  refine hK2 _ _ ?_
  refine wp_ret ?_
  try dsimp only [Exit.then, Exit.inBlock]
  refine bodyPost_ret (v := (.bool true)) (by simp [results, Tryz.results28, go_sem]) rfl ?_
  have hb := hs.b
  exact ⟨rfl, hb⟩
set_option maxHeartbeats 4000000 in
set_option maxRecDepth 20000 in
theorem r7Bad_yes2 (ha : CN w va x l y m u k 0 n) (hl : l ≤ 40000000) (hm : m ≤ 40000000) (hk : k ≤ 40000000) (hn : n ≤ 40000000) (hy : y ≠ 0) :
    Calls Tryz.prog 28 #[va] w fun e w' => e = .returned (.bool true) ∧ Below w.heap.size w w' := by
  have HY := hide hy
  clear hy
  obtain ⟨n_0a, o_0a, k_0a, c_0a, n_0b, o_0b, k_0b, c_0b, n_0c, o_0c, k_0c, c_0c, n_0d, o_0d, k_0d, c_0d, rfl, ha1, ha2, ha3, ha4⟩ := ha
  go_enter Tryz.func28, Tryz.ntmps28
  have hs := St.nil w
  refine wp_seq_k ?_
  intro K1 hK1
  refine rg [0, 1] ?_
  refine sq ?_
  refine .al hs ?_; clear hs; intro p_b1 w_1 hs n1 kb_b1
  refine sq ?_
  refine .mv ?_
  apply wpSq_end
  refine hK1 _ _ ?_
  refine wp_seq_k ?_
  intro K2 hK2
  refine rg [0, 1, 2, 3, 4, 5, 6, 7, 8] ?_
  refine sq ?_
  refine .r0 ?_
  refine sq ?_
  refine .r4 ⟨hs.g0.cell 0 rfl, hs.g0.cell 1 rfl, hs.g0.cell 2 rfl, hs.g0.cell 3 rfl⟩ ?_
  refine sq ?_
  intro K hK
  have k0_1 := kb n1
  replace ha1 := ha1.k k0_1
  replace ha2 := ha2.k k0_1
  go_big_op
  go_fit (rbad_no (PN.mk' ha1 ha2) (by omega) (by omega) HY.out)
  rintro e w_2 ⟨rfl, hb_2⟩
  replace hs := hs.bl hb_2
  refine hK _ _ rfl trivial ?_
  clear hK K
  refine sq ?_
  refine .mv ?_
  refine sq ?_
  refine .r0 ?_
  refine sq ?_
  refine .r4 ⟨hs.g0.cell 4 rfl, hs.g0.cell 5 rfl, hs.g0.cell 6 rfl, hs.g0.cell 7 rfl⟩ ?_
  refine sq ?_
  intro K hK
  have k0_2 := k0_1.b hb_2
  replace ha3 := ha3.k k0_2
  replace ha4 := ha4.k k0_2
  go_big_op
  go_fit (rbad_yes (PN.mk' ha3 ha4) (by omega) (by omega) )
  rintro e w_3 ⟨rfl, hb_3⟩
  replace hs := hs.bl hb_3
  refine hK _ _ rfl trivial ?_
  clear hK K
  refine sq ?_
  refine .r0 ?_
  refine sq ?_
  refine .mv ?_
  apply wpSq_end
  refine hK2 _ _ ?_
  refine wp_ret ?_
  try dsimp only [Exit.then, Exit.inBlock]
  refine bodyPost_ret (v := (.bool true)) (by simp [results, Tryz.results28, go_sem]) rfl ?_
  have hb := hs.b
  exact ⟨rfl, hb⟩
theorem r7Bad_yes (ha : CN w va x l y m u k v n) (hl : l ≤ 40000000) (hm : m ≤ 40000000) (hk : k ≤ 40000000) (hn : n ≤ 40000000) (h : y = 0 ∨ v = 0) :
    Calls Tryz.prog 28 #[va] w fun e w' => e = .returned (.bool true) ∧ Below w.heap.size w w' := by
  by_cases hy : y = 0
  · subst hy; exact r7Bad_yes1 ha hl hm hk hn
  · obtain rfl := h.resolve_left hy
    exact r7Bad_yes2 ha hl hm hk hn hy
set_option maxHeartbeats 4000000 in
set_option maxRecDepth 20000 in
theorem c7_any (a b d e : Int) (w : World) (h1 : -9223372036854775808 ≤ a) (h2 : a ≤ 9223372036854775807) (h3 : -9223372036854775808 ≤ b) (h4 : b ≤ 9223372036854775807) (h5 : -9223372036854775808 ≤ d) (h6 : d ≤ 9223372036854775807) (h7 : -9223372036854775808 ≤ e) (h8 : e ≤ 9223372036854775807) :
    Calls Tryz.prog 10 #[.int .i64 a, .int .i64 b, .int .i64 d, .int .i64 e] w fun e' w' => ∃ r, e' = .returned r ∧ CC w' r a b d e ∧ Below w.heap.size w w' := by
  go_enter Tryz.func10, Tryz.ntmps10
  have hs := St.nil w
  refine wp_seq_k ?_
  intro K1 hK1
  refine rg [0] ?_
  refine sq ?_
  refine .al hs ?_; clear hs; intro p_b1 w_1 hs n1 kb_b1
  apply wpSq_end
  refine hK1 _ _ ?_
  refine wp_seq_k ?_
  intro K2 hK2
  refine rg [0, 1, 2, 3, 4, 5, 6, 7, 8, 9, 10, 11] ?_
  refine sq ?_
  refine .mv ?_
  refine sq ?_
  intro K hK
  go_big_op
  go_fit (ri_any a _ h1 h2)
  rintro e w_2 ⟨v_ra, rfl, ra, hb_2⟩
  replace hs := hs.bl hb_2
  replace ra := ra.rd
  obtain ⟨n_ra, o_ra, k_ra, c_ra, rfl⟩ := ra.open2
  refine hK _ _ rfl trivial ?_
  clear hK K
  refine sq ?_
  refine .mv ?_
  refine sq ?_
  intro K hK
  go_big_op
  go_fit (ri_any b _ h3 h4)
  rintro e w_3 ⟨v_rb, rfl, rb, hb_3⟩
  replace hs := hs.bl hb_3
  replace rb := rb.rd
  obtain ⟨n_rb, o_rb, k_rb, c_rb, rfl⟩ := rb.open2
  refine hK _ _ rfl trivial ?_
  clear hK K
  refine sq ?_
  refine .r0 ?_
  refine sq ?_
  refine .mv ?_
  refine sq ?_
  intro K hK
  go_big_op
  go_fit (ri_any d _ h5 h6)
  rintro e w_4 ⟨v_rd, rfl, rd, hb_4⟩
  replace hs := hs.bl hb_4
  replace rd := rd.rd
  obtain ⟨n_rd, o_rd, k_rd, c_rd, rfl⟩ := rd.open2
  refine hK _ _ rfl trivial ?_
  clear hK K
  refine sq ?_
  refine .mv ?_
  refine sq ?_
  intro K hK
  go_big_op
  go_fit (ri_any e _ h7 h8)
  rintro e w_5 ⟨v_re, rfl, re, hb_5⟩
  replace hs := hs.bl hb_5
  replace re := re.rd
  obtain ⟨n_re, o_re, k_re, c_re, rfl⟩ := re.open2
  refine hK _ _ rfl trivial ?_
  clear hK K
  refine sq ?_
  refine .r0 ?_
  refine sq ?_
  refine .r0 ?_
  refine sq ?_
  intro K hK
  have xs := hs.g0
  have d0 : w_5.cell? ⟨p_b1, 0, none⟩ = some (.bool false) := hs.g0.cell 0 rfl
  have d1 : w_5.cell? ⟨p_b1, 1, none⟩ = some (.slice none 0 0) := hs.g0.cell 1 rfl
  have d2 : w_5.cell? ⟨p_b1, 2, none⟩ = some (.bool false) := hs.g0.cell 2 rfl
  have d3 : w_5.cell? ⟨p_b1, 3, none⟩ = some (.slice none 0 0) := hs.g0.cell 3 rfl
  have d4 : w_5.cell? ⟨p_b1, 4, none⟩ = some (.bool false) := hs.g0.cell 4 rfl
  have d5 : w_5.cell? ⟨p_b1, 5, none⟩ = some (.slice none 0 0) := hs.g0.cell 5 rfl
  have d6 : w_5.cell? ⟨p_b1, 6, none⟩ = some (.bool false) := hs.g0.cell 6 rfl
  have d7 : w_5.cell? ⟨p_b1, 7, none⟩ = some (.slice none 0 0) := hs.g0.cell 7 rfl
  have f0 := xs.free 0; have f1 := xs.free 1; have f2 := xs.free 2; have f3 := xs.free 3; have f4 := xs.free 4; have f5 := xs.free 5; have f6 := xs.free 6; have f7 := xs.free 7
  go_big_op
  have hd6 := xs.nod rfl rfl
  obtain ⟨w_6_0, eW, xs_0, ho_0⟩ : ∃ w', ((((w_5.setCell ⟨p_b1, 0, none⟩ (.bool n_ra)).setCell ⟨p_b1, 1, none⟩ (.slice o_ra k_ra c_ra)).setCell ⟨p_b1, 2, none⟩ (.bool n_rb)).setCell ⟨p_b1, 3, none⟩ (.slice o_rb k_rb c_rb)) = w' ∧ Bs w' p_b1 #[.bool n_ra, .slice o_ra k_ra c_ra, .bool n_rb, .slice o_rb k_rb c_rb, .bool false, .slice none 0 0, .bool false, .slice none 0 0] 28 ∧ Only p_b1 w_5 w' := xs.setN [(0, .bool n_ra), (1, .slice o_ra k_ra c_ra), (2, .bool n_rb), (3, .slice o_rb k_rb c_rb)]
  rw [eW]; clear eW
  obtain ⟨w_6, eW, xs', ho_4⟩ : ∃ w', ((((w_6_0.setCell ⟨p_b1, 4, none⟩ (.bool n_rd)).setCell ⟨p_b1, 5, none⟩ (.slice o_rd k_rd c_rd)).setCell ⟨p_b1, 6, none⟩ (.bool n_re)).setCell ⟨p_b1, 7, none⟩ (.slice o_re k_re c_re)) = w' ∧ Bs w' p_b1 #[.bool n_ra, .slice o_ra k_ra c_ra, .bool n_rb, .slice o_rb k_rb c_rb, .bool n_rd, .slice o_rd k_rd c_rd, .bool n_re, .slice o_re k_re c_re] 28 ∧ Only p_b1 w_6_0 w' := xs_0.setN [(4, .bool n_rd), (5, .slice o_rd k_rd c_rd), (6, .bool n_re), (7, .slice o_re k_re c_re)]
  rw [eW]; clear eW xs_0
  have ho6 := (ho_0.trans ho_4)
  clear ho_0 ho_4 d0 d1 d2 d3 d4 d5 d6 d7 f0 f1 f2 f3 f4 f5 f6 f7 xs
  replace hs := hs.u0 kb_b1 xs' ho6; clear xs'
  refine hK _ _ rfl trivial ?_; clear hK K
  apply wpSq_end
  refine hK2 _ _ ?_
  refine wp_ret ?_
  try dsimp only [Exit.then, Exit.inBlock]
  have r0_0 : w_6.cell? ⟨p_b1, 0, none⟩ = some (.bool n_ra) := hs.g0.cell 0 rfl
  have r0_1 : w_6.cell? ⟨p_b1, 1, none⟩ = some (.slice o_ra k_ra c_ra) := hs.g0.cell 1 rfl
  have r0_2 : w_6.cell? ⟨p_b1, 2, none⟩ = some (.bool n_rb) := hs.g0.cell 2 rfl
  have r0_3 : w_6.cell? ⟨p_b1, 3, none⟩ = some (.slice o_rb k_rb c_rb) := hs.g0.cell 3 rfl
  have r0_4 : w_6.cell? ⟨p_b1, 4, none⟩ = some (.bool n_rd) := hs.g0.cell 4 rfl
  have r0_5 : w_6.cell? ⟨p_b1, 5, none⟩ = some (.slice o_rd k_rd c_rd) := hs.g0.cell 5 rfl
  have r0_6 : w_6.cell? ⟨p_b1, 6, none⟩ = some (.bool n_re) := hs.g0.cell 6 rfl
  have r0_7 : w_6.cell? ⟨p_b1, 7, none⟩ = some (.slice o_re k_re c_re) := hs.g0.cell 7 rfl
  refine bodyPost_ret (v := (.agg #[.bool n_ra, .slice o_ra k_ra c_ra, .bool n_rb, .slice o_rb k_rb c_rb, .bool n_rd, .slice o_rd k_rd c_rd, .bool n_re, .slice o_re k_re c_re])) (by simp [results, Tryz.results10, go_sem, r0_0, r0_1, r0_2, r0_3, r0_4, r0_5, r0_6, r0_7]) rfl ?_
  have k2_6 := (((kb hb_3).b hb_4).b hb_5).o hd6 ho6
  replace ra := ra.k k2_6
  have k3_6 := ((kb hb_4).b hb_5).o hd6 ho6
  replace rb := rb.k k3_6
  have k4_6 := (kb hb_5).o hd6 ho6
  replace rd := rd.k k4_6
  have k5_6 := ko hd6 ho6
  replace re := re.k k5_6
  exact ⟨_, rfl, .mk' ra rb rd re, hs.b⟩
set_option maxHeartbeats 4000000 in
set_option maxRecDepth 20000 in
theorem r7Add_ok (ha : CN w va x l y m u k v n) (hq : CN w vb p l2 q m2 s k2 t n2) (hl : l ≤ 4500000) (hm : m ≤ 4500000) (hk : k ≤ 4500000) (hn : n ≤ 4500000) (hl2 : l2 ≤ 4500000) (hm2 : m2 ≤ 4500000) (hk2 : k2 ≤ 4500000) (hn2 : n2 ≤ 4500000) (hy : y ≠ 0) (hv : v ≠ 0) (hq0 : q ≠ 0) (ht : t ≠ 0) :
    Calls Tryz.prog 29 #[va, vb] w fun e w' => ∃ r, e = .returned r ∧ CC w' r (rv x y + rv p q).num (rv x y + rv p q).den (rv u v + rv s t).num (rv u v + rv s t).den ∧ Below w.heap.size w w' := by
  have HY := hide (And.intro hy hq0)
  have HV := hide (And.intro hv ht)
  clear hy hv hq0 ht
  obtain ⟨n_0a, o_0a, k_0a, c_0a, n_0b, o_0b, k_0b, c_0b, n_0c, o_0c, k_0c, c_0c, n_0d, o_0d, k_0d, c_0d, rfl, ha1, ha2, ha3, ha4⟩ := ha
  obtain ⟨n_1a, o_1a, k_1a, c_1a, n_1b, o_1b, k_1b, c_1b, n_1c, o_1c, k_1c, c_1c, n_1d, o_1d, k_1d, c_1d, rfl, hq1, hq2, hq3, hq4⟩ := hq
  go_enter Tryz.func29, Tryz.ntmps29
  have hs := St.nil w
  refine wp_seq_k ?_
  intro K1 hK1
  refine rg [0, 1, 2] ?_
  refine sq ?_
  refine .al hs ?_; clear hs; intro p_b1 w_1 hs n1 kb_b1
  refine sq ?_
  refine .al hs ?_; clear hs; intro p_b2 w_2 hs n2 kb_b2
  refine sq ?_
  refine .al hs ?_; clear hs; intro p_b3 w_3 hs n3 kb_b3
  apply wpSq_end
  refine hK1 _ _ ?_
  refine wp_seq_k ?_
  intro K2 hK2
  refine wp_region_f4 [(0, false), (1, false), (2, false), (3, false), (5, false), (6, false), (7, false), (8, false), (4, true), (9, true), (10, false)] [11] [] (fun _ => default) [99, 0, 99, 1, 99, 99, 0, 99, 1, 99, 99, 99] [] (.c hs.g2 (.c hs.g1 .n)) fn fun w_4 n4 => ?_
  replace hs := hs.bl n4
  refine f0 ?_
  apply wpFl_ld rfl rfl; (case h1 => intro w' hC K hK; have c0 := Bs.cell hC 0 rfl; have c1 := Bs.cell hC 1 rfl; have c2 := Bs.cell hC 2 rfl; have c3 := Bs.cell hC 3 rfl; go_big_op; exact hK); iterate 4 kernel_rfl
  refine f0 ?_
  apply wpFl_ld rfl rfl; (case h1 => intro w' hC K hK; have c0 := Bs.cell hC 0 rfl; have c1 := Bs.cell hC 1 rfl; have c2 := Bs.cell hC 2 rfl; have c3 := Bs.cell hC 3 rfl; go_big_op; exact hK); iterate 4 kernel_rfl
  refine f0 ?_
  apply wpFl_ld rfl rfl; (case h1 => intro w' hC K hK; have c4 := Bs.cell hC 4 rfl; have c5 := Bs.cell hC 5 rfl; have c6 := Bs.cell hC 6 rfl; have c7 := Bs.cell hC 7 rfl; go_big_op; exact hK); iterate 4 kernel_rfl
  refine f0 ?_
  apply wpFl_ld rfl rfl; (case h1 => intro w' hC K hK; have c4 := Bs.cell hC 4 rfl; have c5 := Bs.cell hC 5 rfl; have c6 := Bs.cell hC 6 rfl; have c7 := Bs.cell hC 7 rfl; go_big_op; exact hK); iterate 4 kernel_rfl
  refine fl fun w_5 n5 => ?_
  replace hs := hs.bl n5
  intro K hK
  have k0_5 := ((((kb n1).b n2).b n3).b n4).b n5
  replace ha1 := ha1.k k0_5
  replace ha2 := ha2.k k0_5
  replace hq1 := hq1.k k0_5
  replace hq2 := hq2.k k0_5
  go_big_op
  go_fit (rfAdd_r (.mk' ha1 ha2) (.mk' hq1 hq2) (by omega) (by omega) (by omega) (by omega) HY.out.1 HY.out.2)
  rintro e w_6 ⟨_, rfl, ⟨n_gaa, o_gaa, k_gaa, c_gaa, n_gab, o_gab, k_gab, c_gab, rfl, ga1, ga2⟩, hb_6⟩
  replace hs := hs.bl hb_6
  refine hK _ _ rfl ⟨hb_6, (And.intro hs.g2 (And.intro hs.g1 trivial))⟩ ?_
  clear hK K
  refine fl fun w_7 n7 => ?_
  replace hs := hs.bl n7
  intro K hK
  have k0_7 := (k0_5.b hb_6).b n7
  replace ha3 := ha3.k k0_7
  replace ha4 := ha4.k k0_7
  replace hq3 := hq3.k k0_7
  replace hq4 := hq4.k k0_7
  go_big_op
  go_fit (rfAdd_r (.mk' ha3 ha4) (.mk' hq3 hq4) (by omega) (by omega) (by omega) (by omega) HV.out.1 HV.out.2)
  rintro e w_8 ⟨_, rfl, ⟨n_gba, o_gba, k_gba, c_gba, n_gbb, o_gbb, k_gbb, c_gbb, rfl, gb1, gb2⟩, hb_8⟩
  replace hs := hs.bl hb_8
  refine hK _ _ rfl ⟨hb_8, (And.intro hs.g2 (And.intro hs.g1 trivial))⟩ ?_
  clear hK K
  refine f0 ?_
  refine e0 hs ?_; clear hs; intro w_9 hs n9
  refine tl ?_
  intro K hK
  have xs := hs.g0
  have d0 : w_9.cell? ⟨p_b3, 0, none⟩ = some (.bool false) := hs.g0.cell 0 rfl
  have d1 : w_9.cell? ⟨p_b3, 1, none⟩ = some (.slice none 0 0) := hs.g0.cell 1 rfl
  have d2 : w_9.cell? ⟨p_b3, 2, none⟩ = some (.bool false) := hs.g0.cell 2 rfl
  have d3 : w_9.cell? ⟨p_b3, 3, none⟩ = some (.slice none 0 0) := hs.g0.cell 3 rfl
  have d4 : w_9.cell? ⟨p_b3, 4, none⟩ = some (.bool false) := hs.g0.cell 4 rfl
  have d5 : w_9.cell? ⟨p_b3, 5, none⟩ = some (.slice none 0 0) := hs.g0.cell 5 rfl
  have d6 : w_9.cell? ⟨p_b3, 6, none⟩ = some (.bool false) := hs.g0.cell 6 rfl
  have d7 : w_9.cell? ⟨p_b3, 7, none⟩ = some (.slice none 0 0) := hs.g0.cell 7 rfl
  have f0 := xs.free 0; have f1 := xs.free 1; have f2 := xs.free 2; have f3 := xs.free 3; have f4 := xs.free 4; have f5 := xs.free 5; have f6 := xs.free 6; have f7 := xs.free 7
  go_big_op
  have hd10 := xs.nod rfl rfl
  obtain ⟨w_10_0, eW, xs_0, ho_0⟩ : ∃ w', ((((w_9.setCell ⟨p_b3, 0, none⟩ (.bool n_gaa)).setCell ⟨p_b3, 1, none⟩ (.slice o_gaa k_gaa c_gaa)).setCell ⟨p_b3, 2, none⟩ (.bool n_gab)).setCell ⟨p_b3, 3, none⟩ (.slice o_gab k_gab c_gab)) = w' ∧ Bs w' p_b3 #[.bool n_gaa, .slice o_gaa k_gaa c_gaa, .bool n_gab, .slice o_gab k_gab c_gab, .bool false, .slice none 0 0, .bool false, .slice none 0 0] 28 ∧ Only p_b3 w_9 w' := xs.setN [(0, .bool n_gaa), (1, .slice o_gaa k_gaa c_gaa), (2, .bool n_gab), (3, .slice o_gab k_gab c_gab)]
  rw [eW]; clear eW
  obtain ⟨w_10, eW, xs', ho_4⟩ : ∃ w', ((((w_10_0.setCell ⟨p_b3, 4, none⟩ (.bool n_gba)).setCell ⟨p_b3, 5, none⟩ (.slice o_gba k_gba c_gba)).setCell ⟨p_b3, 6, none⟩ (.bool n_gbb)).setCell ⟨p_b3, 7, none⟩ (.slice o_gbb k_gbb c_gbb)) = w' ∧ Bs w' p_b3 #[.bool n_gaa, .slice o_gaa k_gaa c_gaa, .bool n_gab, .slice o_gab k_gab c_gab, .bool n_gba, .slice o_gba k_gba c_gba, .bool n_gbb, .slice o_gbb k_gbb c_gbb] 28 ∧ Only p_b3 w_10_0 w' := xs_0.setN [(4, .bool n_gba), (5, .slice o_gba k_gba c_gba), (6, .bool n_gbb), (7, .slice o_gbb k_gbb c_gbb)]
  rw [eW]; clear eW xs_0
  have ho10 := (ho_0.trans ho_4)
  clear ho_0 ho_4 d0 d1 d2 d3 d4 d5 d6 d7 f0 f1 f2 f3 f4 f5 f6 f7 xs
  replace hs := hs.u0 kb_b3 xs' ho10; clear xs'
  refine hK _ _ rfl (And.intro hs.g2 (And.intro hs.g1 True.intro)) ?_; clear hK K
  apply wpTail_end
  refine hK2 _ _ ?_
  refine wp_ret ?_
  try dsimp only [Exit.then, Exit.inBlock]
  have r0_0 : w_10.cell? ⟨p_b3, 0, none⟩ = some (.bool n_gaa) := hs.g0.cell 0 rfl
  have r0_1 : w_10.cell? ⟨p_b3, 1, none⟩ = some (.slice o_gaa k_gaa c_gaa) := hs.g0.cell 1 rfl
  have r0_2 : w_10.cell? ⟨p_b3, 2, none⟩ = some (.bool n_gab) := hs.g0.cell 2 rfl
  have r0_3 : w_10.cell? ⟨p_b3, 3, none⟩ = some (.slice o_gab k_gab c_gab) := hs.g0.cell 3 rfl
  have r0_4 : w_10.cell? ⟨p_b3, 4, none⟩ = some (.bool n_gba) := hs.g0.cell 4 rfl
  have r0_5 : w_10.cell? ⟨p_b3, 5, none⟩ = some (.slice o_gba k_gba c_gba) := hs.g0.cell 5 rfl
  have r0_6 : w_10.cell? ⟨p_b3, 6, none⟩ = some (.bool n_gbb) := hs.g0.cell 6 rfl
  have r0_7 : w_10.cell? ⟨p_b3, 7, none⟩ = some (.slice o_gbb k_gbb c_gbb) := hs.g0.cell 7 rfl
  refine bodyPost_ret (v := (.agg #[.bool n_gaa, .slice o_gaa k_gaa c_gaa, .bool n_gab, .slice o_gab k_gab c_gab, .bool n_gba, .slice o_gba k_gba c_gba, .bool n_gbb, .slice o_gbb k_gbb c_gbb])) (by simp [results, Tryz.results29, go_sem, r0_0, r0_1, r0_2, r0_3, r0_4, r0_5, r0_6, r0_7]) rfl ?_
  have k6_10 := (((kb n7).b hb_8).b n9).o hd10 ho10
  replace ga1 := ga1.k k6_10
  replace ga2 := ga2.k k6_10
  have k8_10 := (kb n9).o hd10 ho10
  replace gb1 := gb1.k k8_10
  replace gb2 := gb2.k k8_10
  exact ⟨_, rfl, .mk' ga1 ga2 gb1 gb2, hs.b⟩
set_option maxHeartbeats 4000000 in
set_option maxRecDepth 20000 in
theorem r7Sub_ok (ha : CN w va x l y m u k v n) (hq : CN w vb p l2 q m2 s k2 t n2) (hl : l ≤ 4500000) (hm : m ≤ 4500000) (hk : k ≤ 4500000) (hn : n ≤ 4500000) (hl2 : l2 ≤ 4500000) (hm2 : m2 ≤ 4500000) (hk2 : k2 ≤ 4500000) (hn2 : n2 ≤ 4500000) (hy : y ≠ 0) (hv : v ≠ 0) (hq0 : q ≠ 0) (ht : t ≠ 0) :
    Calls Tryz.prog 30 #[va, vb] w fun e w' => ∃ r, e = .returned r ∧ CC w' r (rv x y - rv p q).num (rv x y - rv p q).den (rv u v - rv s t).num (rv u v - rv s t).den ∧ Below w.heap.size w w' := by
  have HY := hide (And.intro hy hq0)
  have HV := hide (And.intro hv ht)
  clear hy hv hq0 ht
  obtain ⟨n_0a, o_0a, k_0a, c_0a, n_0b, o_0b, k_0b, c_0b, n_0c, o_0c, k_0c, c_0c, n_0d, o_0d, k_0d, c_0d, rfl, ha1, ha2, ha3, ha4⟩ := ha
  obtain ⟨n_1a, o_1a, k_1a, c_1a, n_1b, o_1b, k_1b, c_1b, n_1c, o_1c, k_1c, c_1c, n_1d, o_1d, k_1d, c_1d, rfl, hq1, hq2, hq3, hq4⟩ := hq
  go_enter Tryz.func30, Tryz.ntmps30
  have hs := St.nil w
  refine wp_seq_k ?_
  intro K1 hK1
  refine rg [0, 1, 2] ?_
  refine sq ?_
  refine .al hs ?_; clear hs; intro p_b1 w_1 hs n1 kb_b1
  refine sq ?_
  refine .al hs ?_; clear hs; intro p_b2 w_2 hs n2 kb_b2
  refine sq ?_
  refine .al hs ?_; clear hs; intro p_b3 w_3 hs n3 kb_b3
  apply wpSq_end
  refine hK1 _ _ ?_
  refine wp_seq_k ?_
  intro K2 hK2
  refine wp_region_f4 [(0, false), (1, false), (2, false), (3, false), (5, false), (6, false), (7, false), (8, false), (4, true), (9, true), (10, false)] [11] [] (fun _ => default) [99, 0, 99, 1, 99, 99, 0, 99, 1, 99, 99, 99] [] (.c hs.g2 (.c hs.g1 .n)) fn fun w_4 n4 => ?_
  replace hs := hs.bl n4
  refine f0 ?_
  apply wpFl_ld rfl rfl; (case h1 => intro w' hC K hK; have c0 := Bs.cell hC 0 rfl; have c1 := Bs.cell hC 1 rfl; have c2 := Bs.cell hC 2 rfl; have c3 := Bs.cell hC 3 rfl; go_big_op; exact hK); iterate 4 kernel_rfl
  refine f0 ?_
  apply wpFl_ld rfl rfl; (case h1 => intro w' hC K hK; have c0 := Bs.cell hC 0 rfl; have c1 := Bs.cell hC 1 rfl; have c2 := Bs.cell hC 2 rfl; have c3 := Bs.cell hC 3 rfl; go_big_op; exact hK); iterate 4 kernel_rfl
  refine f0 ?_
  apply wpFl_ld rfl rfl; (case h1 => intro w' hC K hK; have c4 := Bs.cell hC 4 rfl; have c5 := Bs.cell hC 5 rfl; have c6 := Bs.cell hC 6 rfl; have c7 := Bs.cell hC 7 rfl; go_big_op; exact hK); iterate 4 kernel_rfl
  refine f0 ?_
  apply wpFl_ld rfl rfl; (case h1 => intro w' hC K hK; have c4 := Bs.cell hC 4 rfl; have c5 := Bs.cell hC 5 rfl; have c6 := Bs.cell hC 6 rfl; have c7 := Bs.cell hC 7 rfl; go_big_op; exact hK); iterate 4 kernel_rfl
  refine fl fun w_5 n5 => ?_
  replace hs := hs.bl n5
  intro K hK
  have k0_5 := ((((kb n1).b n2).b n3).b n4).b n5
  replace ha1 := ha1.k k0_5
  replace ha2 := ha2.k k0_5
  replace hq1 := hq1.k k0_5
  replace hq2 := hq2.k k0_5
  go_big_op
  go_fit (rfSub_r (.mk' ha1 ha2) (.mk' hq1 hq2) (by omega) (by omega) (by omega) (by omega) HY.out.1 HY.out.2)
  rintro e w_6 ⟨_, rfl, ⟨n_gaa, o_gaa, k_gaa, c_gaa, n_gab, o_gab, k_gab, c_gab, rfl, ga1, ga2⟩, hb_6⟩
  replace hs := hs.bl hb_6
  refine hK _ _ rfl ⟨hb_6, (And.intro hs.g2 (And.intro hs.g1 trivial))⟩ ?_
  clear hK K
  refine fl fun w_7 n7 => ?_
  replace hs := hs.bl n7
  intro K hK
  have k0_7 := (k0_5.b hb_6).b n7
  replace ha3 := ha3.k k0_7
  replace ha4 := ha4.k k0_7
  replace hq3 := hq3.k k0_7
  replace hq4 := hq4.k k0_7
  go_big_op
  go_fit (rfSub_r (.mk' ha3 ha4) (.mk' hq3 hq4) (by omega) (by omega) (by omega) (by omega) HV.out.1 HV.out.2)
  rintro e w_8 ⟨_, rfl, ⟨n_gba, o_gba, k_gba, c_gba, n_gbb, o_gbb, k_gbb, c_gbb, rfl, gb1, gb2⟩, hb_8⟩
  replace hs := hs.bl hb_8
  refine hK _ _ rfl ⟨hb_8, (And.intro hs.g2 (And.intro hs.g1 trivial))⟩ ?_
  clear hK K
  refine f0 ?_
  refine e0 hs ?_; clear hs; intro w_9 hs n9
  refine tl ?_
  intro K hK
  have xs := hs.g0
  have d0 : w_9.cell? ⟨p_b3, 0, none⟩ = some (.bool false) := hs.g0.cell 0 rfl
  have d1 : w_9.cell? ⟨p_b3, 1, none⟩ = some (.slice none 0 0) := hs.g0.cell 1 rfl
  have d2 : w_9.cell? ⟨p_b3, 2, none⟩ = some (.bool false) := hs.g0.cell 2 rfl
  have d3 : w_9.cell? ⟨p_b3, 3, none⟩ = some (.slice none 0 0) := hs.g0.cell 3 rfl
  have d4 : w_9.cell? ⟨p_b3, 4, none⟩ = some (.bool false) := hs.g0.cell 4 rfl
  have d5 : w_9.cell? ⟨p_b3, 5, none⟩ = some (.slice none 0 0) := hs.g0.cell 5 rfl
  have d6 : w_9.cell? ⟨p_b3, 6, none⟩ = some (.bool false) := hs.g0.cell 6 rfl
  have d7 : w_9.cell? ⟨p_b3, 7, none⟩ = some (.slice none 0 0) := hs.g0.cell 7 rfl
  have f0 := xs.free 0; have f1 := xs.free 1; have f2 := xs.free 2; have f3 := xs.free 3; have f4 := xs.free 4; have f5 := xs.free 5; have f6 := xs.free 6; have f7 := xs.free 7
  go_big_op
  have hd10 := xs.nod rfl rfl
  obtain ⟨w_10_0, eW, xs_0, ho_0⟩ : ∃ w', ((((w_9.setCell ⟨p_b3, 0, none⟩ (.bool n_gaa)).setCell ⟨p_b3, 1, none⟩ (.slice o_gaa k_gaa c_gaa)).setCell ⟨p_b3, 2, none⟩ (.bool n_gab)).setCell ⟨p_b3, 3, none⟩ (.slice o_gab k_gab c_gab)) = w' ∧ Bs w' p_b3 #[.bool n_gaa, .slice o_gaa k_gaa c_gaa, .bool n_gab, .slice o_gab k_gab c_gab, .bool false, .slice none 0 0, .bool false, .slice none 0 0] 28 ∧ Only p_b3 w_9 w' := xs.setN [(0, .bool n_gaa), (1, .slice o_gaa k_gaa c_gaa), (2, .bool n_gab), (3, .slice o_gab k_gab c_gab)]
  rw [eW]; clear eW
  obtain ⟨w_10, eW, xs', ho_4⟩ : ∃ w', ((((w_10_0.setCell ⟨p_b3, 4, none⟩ (.bool n_gba)).setCell ⟨p_b3, 5, none⟩ (.slice o_gba k_gba c_gba)).setCell ⟨p_b3, 6, none⟩ (.bool n_gbb)).setCell ⟨p_b3, 7, none⟩ (.slice o_gbb k_gbb c_gbb)) = w' ∧ Bs w' p_b3 #[.bool n_gaa, .slice o_gaa k_gaa c_gaa, .bool n_gab, .slice o_gab k_gab c_gab, .bool n_gba, .slice o_gba k_gba c_gba, .bool n_gbb, .slice o_gbb k_gbb c_gbb] 28 ∧ Only p_b3 w_10_0 w' := xs_0.setN [(4, .bool n_gba), (5, .slice o_gba k_gba c_gba), (6, .bool n_gbb), (7, .slice o_gbb k_gbb c_gbb)]
  rw [eW]; clear eW xs_0
  have ho10 := (ho_0.trans ho_4)
  clear ho_0 ho_4 d0 d1 d2 d3 d4 d5 d6 d7 f0 f1 f2 f3 f4 f5 f6 f7 xs
  replace hs := hs.u0 kb_b3 xs' ho10; clear xs'
  refine hK _ _ rfl (And.intro hs.g2 (And.intro hs.g1 True.intro)) ?_; clear hK K
  apply wpTail_end
  refine hK2 _ _ ?_
  refine wp_ret ?_
  try dsimp only [Exit.then, Exit.inBlock]
  have r0_0 : w_10.cell? ⟨p_b3, 0, none⟩ = some (.bool n_gaa) := hs.g0.cell 0 rfl
  have r0_1 : w_10.cell? ⟨p_b3, 1, none⟩ = some (.slice o_gaa k_gaa c_gaa) := hs.g0.cell 1 rfl
  have r0_2 : w_10.cell? ⟨p_b3, 2, none⟩ = some (.bool n_gab) := hs.g0.cell 2 rfl
  have r0_3 : w_10.cell? ⟨p_b3, 3, none⟩ = some (.slice o_gab k_gab c_gab) := hs.g0.cell 3 rfl
  have r0_4 : w_10.cell? ⟨p_b3, 4, none⟩ = some (.bool n_gba) := hs.g0.cell 4 rfl
  have r0_5 : w_10.cell? ⟨p_b3, 5, none⟩ = some (.slice o_gba k_gba c_gba) := hs.g0.cell 5 rfl
  have r0_6 : w_10.cell? ⟨p_b3, 6, none⟩ = some (.bool n_gbb) := hs.g0.cell 6 rfl
  have r0_7 : w_10.cell? ⟨p_b3, 7, none⟩ = some (.slice o_gbb k_gbb c_gbb) := hs.g0.cell 7 rfl
  refine bodyPost_ret (v := (.agg #[.bool n_gaa, .slice o_gaa k_gaa c_gaa, .bool n_gab, .slice o_gab k_gab c_gab, .bool n_gba, .slice o_gba k_gba c_gba, .bool n_gbb, .slice o_gbb k_gbb c_gbb])) (by simp [results, Tryz.results30, go_sem, r0_0, r0_1, r0_2, r0_3, r0_4, r0_5, r0_6, r0_7]) rfl ?_
  have k6_10 := (((kb n7).b hb_8).b n9).o hd10 ho10
  replace ga1 := ga1.k k6_10
  replace ga2 := ga2.k k6_10
  have k8_10 := (kb n9).o hd10 ho10
  replace gb1 := gb1.k k8_10
  replace gb2 := gb2.k k8_10
  exact ⟨_, rfl, .mk' ga1 ga2 gb1 gb2, hs.b⟩
end
end Go.Proofs.YthlhekkcjficdaaGreatDoor

