/- GprimeOver: the law's walk. -/
import Derived.Test.YtbiiglcfdphmaaaJ9ToK5
namespace Go.Proofs.Ytbiiglcfdphmaaa
open Go Go.RowKit Dig
set_option linter.unusedVariables false

theorem over_small {p x y : Nat} (hp : p < 65536) (hx : x * x + y * y = p) : ∀ q ∈ [((y : Int), (x : Int)), ((x : Int), (y : Int))], (dig q.1.natAbs).length ≤ 20000000 ∧ (dig q.2.natAbs).length ≤ 20000000 := by
  have key : ∀ c : Nat, c * c ≤ p → (dig ((c : Int)).natAbs).length ≤ 20000000 := fun c hc => by
    have h : c < 65536 := by
      rcases Nat.lt_or_ge c 65536 with h | h
      · exact h
      · have := Nat.mul_le_mul h h; omega
    exact Nat.le_trans (zlen_small6 (z := (c : Int)) (by omega)) (by decide)
  intro q hq
  simp only [List.mem_cons, List.not_mem_nil, or_false] at hq
  rcases hq with rfl | rfl
  · exact ⟨key y (by omega), key x (by omega)⟩
  · exact ⟨key x (by omega), key y (by omega)⟩
theorem srt_two {a b : Int × Int} (h : gle a b) : srt (1 + 1) [a, b] = [a, b] := by
  rw [srt, if_neg (by simp)]
  rw [show [a, b].length / 2 = 1 by simp, show List.take 1 [a, b] = [a] from rfl, show List.drop 1 [a, b] = [b] from rfl]
  have e : ∀ x : Int × Int, srt 1 [x] = [x] := fun x => by rw [srt, if_pos (by simp)]
  rw [e, e, mrg, if_pos h, mrg]
theorem ovs2 : ∀ k, ovs 2 (k + 1) = [(1, 1)]
  | 0 => over2.2
  | k + 1 => by
    have h : ovAt 2 (k + 1 + 1) = none := by
      unfold ovAt
      rw [if_neg]
      intro hc
      have : (k + 1 + 1) * (k + 1 + 1) = k * k + 4 * k + 4 := by grind
      omega
    rw [ovs, h, ovs2 k]; rfl
/-- What lies over a prime number: the program's answer and the reference's. -/
theorem over_both {p : Nat} (hp : IsLf p p) (hn : p < 65536) : ∃ ps : List (Int × Int), ps.length ≤ 2 ∧ (∀ q ∈ ps, (dig q.1.natAbs).length ≤ 20000000 ∧ (dig q.2.natAbs).length ≤ 20000000) ∧ (∀ w, TG 39 #[.int .u64 (p : Int)] w ps) ∧ ∀ w, TS 23 #[.int .i64 (p : Int)] w ps := by
  have h2 := hp.2.1
  by_cases h3 : p % 4 = 3
  · refine ⟨[((p : Int), 0)], by simp, fun q hq => ?_, fun w => pover_0 p hn (over3 h3), fun w => rover_3 p hn h3⟩
    obtain rfl : q = ((p : Int), 0) := by simpa using hq
    exact ⟨Nat.le_trans (zlen_small6 (z := (p : Int)) (by omega)) (by decide), Nat.le_trans (zlen_small6 (z := 0) (by decide)) (by decide)⟩
  · by_cases h1 : p % 4 = 1
    · obtain ⟨x, y, hy, hyx, hs, ha, hf⟩ := over1 hp h1
      have hsm := over_small hn hs
      refine ⟨_, by simp, hsm, fun w => pover_1 hn hyx hs ha, fun w => rover_any (f := 2) hn h3 hf (by simp) (by simp) hsm ?_⟩
      have hg : gle ((y : Int), (x : Int)) ((x : Int), (y : Int)) := by
        unfold gle gcmp
        have e1 : gN (y : Int) (x : Int) = gN (x : Int) (y : Int) := by unfold gN; exact Int.add_comm _ _
        rw [e1]
        have e2 : ∀ a : Int, zcmp a a = 0 := fun a => by unfold zcmp; simp
        have e3 : zcmp (y : Int) (x : Int) = -1 := by unfold zcmp; split <;> (try split) <;> omega
        rw [e2, e3]; unfold or3; simp
      exact srt_two hg
    · have hp2 : p = 2 := by
        rcases Nat.mod_two_eq_zero_or_one p with h | h
        · have := hp.2.2 2 (by decide) (Nat.dvd_of_mod_eq_zero h); omega
        · omega
      subst hp2
      refine ⟨[(1, 1)], by simp, fun q hq => ?_, fun w => pover_2, fun w => rover_any (f := 1) hn h3 (fun k hk => ?_) (by simp) (by simp) (fun q hq => ?_) rfl⟩
      · obtain rfl : q = (1, 1) := by simpa using hq
        exact ⟨Nat.le_trans (zlen_small6 (z := 1) (by decide)) (by decide), Nat.le_trans (zlen_small6 (z := 1) (by decide)) (by decide)⟩
      · obtain ⟨j, rfl⟩ : ∃ j, k = j + 1 := ⟨k - 1, by
          rcases Nat.eq_zero_or_pos k with h | h
          · subst h; simp at hk
          · omega⟩
        exact ovs2 j
      · obtain rfl : q = (1, 1) := by simpa using hq
        exact ⟨Nat.le_trans (zlen_small6 (z := 1) (by decide)) (by decide), Nat.le_trans (zlen_small6 (z := 1) (by decide)) (by decide)⟩
section
variable {w : World} {va : Value} {z : Int} {l : Nat}
set_option maxHeartbeats 4000000 in
set_option maxRecDepth 20000 in
theorem gover_w1 (ha : ZN w va z l) (hl : l ≤ 1048576) (h : 65536 ≤ z) :
    Calls Try.prog 5 #[va] w fun e w' => e = .returned (.bool true) ∧ Below w.heap.size w w' := by
  have L6 := hide (zlen_small6 (z := 65536) (by decide))
  have hc : 0 ≤ zcmp z 65536 := by unfold zcmp; split <;> (try split) <;> omega
  obtain ⟨n_0, o_0, k_0, c_0, rfl⟩ := ha.open2
  go_enter Try.func5, Try.ntmps5
  have hs := St.nil w
  refine wp_seq_k ?_
  intro K1 hK1
  refine rg [0, 1] ?_
  refine sq ?_
  refine .al hs ?_; clear hs; intro p_b1 w_1 hs n1 kb_b1
  refine sq ?_
  refine .mv ?_
  apply wpSq_end
  refine hK1 _ _ ?_
  refine wp_seq_k ?_
  intro K2 hK2
  refine rg [0, 1, 2, 3, 4, 5, 6] ?_
  refine sq ?_
  refine .r2 hs.g0.f2 ?_
  refine sq ?_
  intro K hK
  have k0_1 := kb n1
  replace ha := ha.k k0_1
  go_big_op
  go_fit (gover_high ha (by omega) h)
  rintro e w_2 ⟨rfl, hb_2⟩
  replace hs := hs.bl hb_2
  refine hK _ _ rfl trivial ?_
  clear hK K
  refine sq ?_
  refine .mv ?_
  refine sq ?_
  refine .r0 ?_
  refine sq ?_
  refine .r0 ?_
  refine sq ?_
  refine .mv ?_
  refine sq ?_
  refine .mv ?_
  apply wpSq_end
  refine hK2 _ _ ?_
  refine wp_seq_k ?_
  intro K3 hK3
  refine wp_seq_k ?_
  intro K4 hK4
  refine rg [0, 1] ?_
  refine sq ?_
  intro K hK
  go_big_op
  go_fit (awake6_any _)
  rintro e w_3 ⟨rfl, hb_3⟩
  replace hs := hs.bl hb_3
  refine hK _ _ rfl trivial ?_
  clear hK K
  refine sq ?_
  refine .r0 ?_
  apply wpSq_end
  refine hK4 _ _ ?_
  refine cf ?_
  refine wp_skip ?_
  refine hK3 _ _ ?_
  refine wp_seq_k ?_
  intro K5 hK5
  refine wp_seq_k ?_
  intro K6 hK6
  refine wp_region_f4 [(0, false), (1, true), (2, true), (3, false)] [] [] (fun _ => default) [0, 99, 99, 99] [] (.c hs.g0 .n) fn fun w_4 n4 => ?_
  replace hs := hs.bl n4
  refine f2 ?_
  refine fl fun w_5 n5 => ?_
  replace hs := hs.bl n5
  intro K hK
  go_big_op
  go_fit (ri_any 65536 _ (by decide) (by decide))
  rintro e w_6 ⟨v_t, rfl, t, hb_6⟩
  replace hs := hs.bl hb_6
  replace t := t.rd
  obtain ⟨n_t, o_t, k_t, c_t, rfl⟩ := t.open2
  have Lt := hide (t.lenOf (L6.out))
  refine hK _ _ rfl ⟨hb_6, (And.intro hs.g0 trivial)⟩ ?_
  clear hK K
  refine fl fun w_7 n7 => ?_
  replace hs := hs.bl n7
  intro K hK
  have k1_7 := (((((kb hb_2).b hb_3).b n4).b n5).b hb_6).b n7
  replace ha := ha.k k1_7
  have k6_7 := kb n7
  replace t := t.k k6_7
  go_big_op
  go_fit (rzcmp_any ha (t.zn Lt.out) (by omega) (by omega) )
  rintro e w_8 ⟨rfl, hb_8⟩
  replace hs := hs.bl hb_8
  refine hK _ _ rfl ⟨hb_8, (And.intro hs.g0 trivial)⟩ ?_
  clear hK K
  refine f0 ?_
  refine e0 hs ?_; clear hs; intro w_9 hs n9
  apply wpTail_end
  refine hK6 _ _ ?_
  refine ct ?_
  refine wp_seq_k ?_
  intro K7 hK7
  refine rg [0, 1, 2, 3, 4, 5, 6, 7] ?_
  refine sq ?_
  refine .mv ?_
  refine sq ?_
  refine .r0 ?_
  refine sq ?_
  refine .mv ?_
  refine sq ?_
  refine .mv ?_
  refine sq ?_
  refine .r0 ?_
  refine sq ?_
  refine .r0 ?_
  refine sq ?_
  refine .r0 ?_
  refine sq ?_
  refine .mv ?_
  apply wpSq_end
  refine hK7 _ _ ?_
  refine wp_ret ?_
  try dsimp only [Exit.then, Exit.inBlock]
  refine bodyPost_ret (v := (.bool true)) (by simp [results, Try.results5, go_sem]) rfl ?_
  exact ⟨rfl, hs.b⟩
set_option maxHeartbeats 4000000 in
set_option maxRecDepth 20000 in
theorem gover_w2 (ha : ZN w va z l) (hl : l ≤ 1048576) (h : z < 0) (h62 : 4611686018427387904 ≤ z.natAbs) :
    Calls Try.prog 5 #[va] w fun e w' => e = .returned (.bool true) ∧ Below w.heap.size w w' := by
  have L6 := hide (zlen_small6 (z := 65536) (by decide))
  have hc : zcmp z 65536 = -1 := by unfold zcmp; split <;> (try split) <;> omega
  obtain ⟨n_0, o_0, k_0, c_0, rfl⟩ := ha.open2
  go_enter Try.func5, Try.ntmps5
  have hs := St.nil w
  refine wp_seq_k ?_
  intro K1 hK1
  refine rg [0, 1] ?_
  refine sq ?_
  refine .al hs ?_; clear hs; intro p_b1 w_1 hs n1 kb_b1
  refine sq ?_
  refine .mv ?_
  apply wpSq_end
  refine hK1 _ _ ?_
  refine wp_seq_k ?_
  intro K2 hK2
  refine rg [0, 1, 2, 3, 4, 5, 6] ?_
  refine sq ?_
  refine .r2 hs.g0.f2 ?_
  refine sq ?_
  intro K hK
  have k0_1 := kb n1
  replace ha := ha.k k0_1
  go_big_op
  go_fit (gover_low ha (by omega) h)
  rintro e w_2 ⟨rfl, hb_2⟩
  replace hs := hs.bl hb_2
  refine hK _ _ rfl trivial ?_
  clear hK K
  refine sq ?_
  refine .mv ?_
  refine sq ?_
  refine .r0 ?_
  refine sq ?_
  refine .r0 ?_
  refine sq ?_
  refine .mv ?_
  refine sq ?_
  refine .mv ?_
  apply wpSq_end
  refine hK2 _ _ ?_
  refine wp_seq_k ?_
  intro K3 hK3
  refine wp_seq_k ?_
  intro K4 hK4
  refine rg [0, 1] ?_
  refine sq ?_
  intro K hK
  go_big_op
  go_fit (awake6_any _)
  rintro e w_3 ⟨rfl, hb_3⟩
  replace hs := hs.bl hb_3
  refine hK _ _ rfl trivial ?_
  clear hK K
  refine sq ?_
  refine .r0 ?_
  apply wpSq_end
  refine hK4 _ _ ?_
  refine cf ?_
  refine wp_skip ?_
  refine hK3 _ _ ?_
  refine wp_seq_k ?_
  intro K5 hK5
  refine wp_seq_k ?_
  intro K6 hK6
  refine wp_region_f4 [(0, false), (1, true), (2, true), (3, false)] [] [] (fun _ => default) [0, 99, 99, 99] [] (.c hs.g0 .n) fn fun w_4 n4 => ?_
  replace hs := hs.bl n4
  refine f2 ?_
  refine fl fun w_5 n5 => ?_
  replace hs := hs.bl n5
  intro K hK
  go_big_op
  go_fit (ri_any 65536 _ (by decide) (by decide))
  rintro e w_6 ⟨v_t, rfl, t, hb_6⟩
  replace hs := hs.bl hb_6
  replace t := t.rd
  obtain ⟨n_t, o_t, k_t, c_t, rfl⟩ := t.open2
  have Lt := hide (t.lenOf (L6.out))
  refine hK _ _ rfl ⟨hb_6, (And.intro hs.g0 trivial)⟩ ?_
  clear hK K
  refine fl fun w_7 n7 => ?_
  replace hs := hs.bl n7
  intro K hK
  have k1_7 := (((((kb hb_2).b hb_3).b n4).b n5).b hb_6).b n7
  replace ha := ha.k k1_7
  have k6_7 := kb n7
  replace t := t.k k6_7
  go_big_op
  go_fit (rzcmp_any ha (t.zn Lt.out) (by omega) (by omega) )
  rintro e w_8 ⟨rfl, hb_8⟩
  replace hs := hs.bl hb_8
  rw [hc]
  refine hK _ _ rfl ⟨hb_8, (And.intro hs.g0 trivial)⟩ ?_
  clear hK K
  refine f0 ?_
  refine e0 hs ?_; clear hs; intro w_9 hs n9
  apply wpTail_end
  refine hK6 _ _ ?_
  refine cf ?_
  refine wp_skip ?_
  refine hK5 _ _ ?_
  refine wp_seq_k ?_
  intro K7 hK7
  refine rg [0, 1, 2, 3, 4, 5, 6] ?_
  refine sq ?_
  refine .r2 hs.g0.f2 ?_
  refine sq ?_
  intro K hK
  have k7_9 := (kb hb_8).b n9
  replace ha := ha.k k7_9
  go_big_op
  go_fit (rsmall_big ha (by omega) h62)
  rintro e w_10 ⟨rfl, hb_10⟩
  replace hs := hs.bl hb_10
  refine hK _ _ rfl trivial ?_
  clear hK K
  refine sq ?_
  refine .mv ?_
  refine sq ?_
  refine .r0 ?_
  refine sq ?_
  refine .r0 ?_
  refine sq ?_
  refine .mv ?_
  refine sq ?_
  refine .mv ?_
  apply wpSq_end
  refine hK7 _ _ ?_
  refine wp_seq_k ?_
  intro K8 hK8
  refine wp_seq_k ?_
  intro K9 hK9
  refine rg [0, 1, 2, 3, 4, 5, 6, 7, 8, 9, 10, 11] ?_
  refine sq ?_
  refine .mv ?_
  refine sq ?_
  refine .r0 ?_
  refine sq ?_
  refine .mv ?_
  refine sk ?_
  refine sk ?_
  refine sq ?_
  refine .r0 ?_
  refine sq ?_
  refine .mv ?_
  refine sk ?_
  refine sk ?_
  refine sk ?_
  refine sk ?_
  refine sq ?_
  refine .r0 ?_
  apply wpSq_end
  refine hK9 _ _ ?_
  refine ct ?_
  refine wp_seq_k ?_
  intro K10 hK10
  refine rg [0, 1, 2, 3, 4, 5, 6, 7] ?_
  refine sq ?_
  refine .mv ?_
  refine sq ?_
  refine .r0 ?_
  refine sq ?_
  refine .mv ?_
  refine sq ?_
  refine .mv ?_
  refine sq ?_
  refine .r0 ?_
  refine sq ?_
  refine .r0 ?_
  refine sq ?_
  refine .r0 ?_
  refine sq ?_
  refine .mv ?_
  apply wpSq_end
  refine hK10 _ _ ?_
  refine wp_ret ?_
  try dsimp only [Exit.then, Exit.inBlock]
  refine bodyPost_ret (v := (.bool true)) (by simp [results, Try.results5, go_sem]) rfl ?_
  exact ⟨rfl, hs.b⟩
set_option maxHeartbeats 4000000 in
set_option maxRecDepth 20000 in
theorem gover_w3 (ha : ZN w va z l) (hl : l ≤ 1048576) (h : z < 0) (h62 : z.natAbs < 4611686018427387904) :
    Calls Try.prog 5 #[va] w fun e w' => e = .returned (.bool true) ∧ Below w.heap.size w w' := by
  have L6 := hide (zlen_small6 (z := 65536) (by decide))
  have hc : zcmp z 65536 = -1 := by unfold zcmp; split <;> (try split) <;> omega
  have h2 : (z < 2) = True := by simp; omega
  obtain ⟨n_0, o_0, k_0, c_0, rfl⟩ := ha.open2
  go_enter Try.func5, Try.ntmps5
  have hs := St.nil w
  refine wp_seq_k ?_
  intro K1 hK1
  refine rg [0, 1] ?_
  refine sq ?_
  refine .al hs ?_; clear hs; intro p_b1 w_1 hs n1 kb_b1
  refine sq ?_
  refine .mv ?_
  apply wpSq_end
  refine hK1 _ _ ?_
  refine wp_seq_k ?_
  intro K2 hK2
  refine rg [0, 1, 2, 3, 4, 5, 6] ?_
  refine sq ?_
  refine .r2 hs.g0.f2 ?_
  refine sq ?_
  intro K hK
  have k0_1 := kb n1
  replace ha := ha.k k0_1
  go_big_op
  go_fit (gover_low ha (by omega) h)
  rintro e w_2 ⟨rfl, hb_2⟩
  replace hs := hs.bl hb_2
  refine hK _ _ rfl trivial ?_
  clear hK K
  refine sq ?_
  refine .mv ?_
  refine sq ?_
  refine .r0 ?_
  refine sq ?_
  refine .r0 ?_
  refine sq ?_
  refine .mv ?_
  refine sq ?_
  refine .mv ?_
  apply wpSq_end
  refine hK2 _ _ ?_
  refine wp_seq_k ?_
  intro K3 hK3
  refine wp_seq_k ?_
  intro K4 hK4
  refine rg [0, 1] ?_
  refine sq ?_
  intro K hK
  go_big_op
  go_fit (awake6_any _)
  rintro e w_3 ⟨rfl, hb_3⟩
  replace hs := hs.bl hb_3
  refine hK _ _ rfl trivial ?_
  clear hK K
  refine sq ?_
  refine .r0 ?_
  apply wpSq_end
  refine hK4 _ _ ?_
  refine cf ?_
  refine wp_skip ?_
  refine hK3 _ _ ?_
  refine wp_seq_k ?_
  intro K5 hK5
  refine wp_seq_k ?_
  intro K6 hK6
  refine wp_region_f4 [(0, false), (1, true), (2, true), (3, false)] [] [] (fun _ => default) [0, 99, 99, 99] [] (.c hs.g0 .n) fn fun w_4 n4 => ?_
  replace hs := hs.bl n4
  refine f2 ?_
  refine fl fun w_5 n5 => ?_
  replace hs := hs.bl n5
  intro K hK
  go_big_op
  go_fit (ri_any 65536 _ (by decide) (by decide))
  rintro e w_6 ⟨v_t, rfl, t, hb_6⟩
  replace hs := hs.bl hb_6
  replace t := t.rd
  obtain ⟨n_t, o_t, k_t, c_t, rfl⟩ := t.open2
  have Lt := hide (t.lenOf (L6.out))
  refine hK _ _ rfl ⟨hb_6, (And.intro hs.g0 trivial)⟩ ?_
  clear hK K
  refine fl fun w_7 n7 => ?_
  replace hs := hs.bl n7
  intro K hK
  have k1_7 := (((((kb hb_2).b hb_3).b n4).b n5).b hb_6).b n7
  replace ha := ha.k k1_7
  have k6_7 := kb n7
  replace t := t.k k6_7
  go_big_op
  go_fit (rzcmp_any ha (t.zn Lt.out) (by omega) (by omega) )
  rintro e w_8 ⟨rfl, hb_8⟩
  replace hs := hs.bl hb_8
  rw [hc]
  refine hK _ _ rfl ⟨hb_8, (And.intro hs.g0 trivial)⟩ ?_
  clear hK K
  refine f0 ?_
  refine e0 hs ?_; clear hs; intro w_9 hs n9
  apply wpTail_end
  refine hK6 _ _ ?_
  refine cf ?_
  refine wp_skip ?_
  refine hK5 _ _ ?_
  refine wp_seq_k ?_
  intro K7 hK7
  refine rg [0, 1, 2, 3, 4, 5, 6] ?_
  refine sq ?_
  refine .r2 hs.g0.f2 ?_
  refine sq ?_
  intro K hK
  have k7_9 := (kb hb_8).b n9
  replace ha := ha.k k7_9
  go_big_op
  go_fit (rsmall_any ha (by omega) h62)
  rintro e w_10 ⟨rfl, hb_10⟩
  replace hs := hs.bl hb_10
  refine hK _ _ rfl trivial ?_
  clear hK K
  refine sq ?_
  refine .mv ?_
  refine sq ?_
  refine .r0 ?_
  refine sq ?_
  refine .r0 ?_
  refine sq ?_
  refine .mv ?_
  refine sq ?_
  refine .mv ?_
  apply wpSq_end
  refine hK7 _ _ ?_
  refine wp_seq_k ?_
  intro K8 hK8
  refine wp_seq_k ?_
  intro K9 hK9
  refine rg [0, 1, 2, 3, 4, 5, 6, 7, 8, 9, 10, 11] ?_
  refine sq ?_
  refine .mv ?_
  refine sq ?_
  refine .r0 ?_
  refine sq ?_
  refine .mv ?_
  refine sq ?_
  refine .mv ?_
  refine sq ?_
  refine .r0 ?_
  refine sq ?_
  refine .r0 ?_
  refine sq ?_
  refine .mv ?_
  refine sk ?_
  refine sk ?_
  refine sk ?_
  refine sk ?_
  refine sq ?_
  refine .r0 ?_
  apply wpSq_end
  refine hK9 _ _ ?_
  refine ct ?_
  refine wp_seq_k ?_
  intro K10 hK10
  refine rg [0, 1, 2, 3, 4, 5, 6, 7] ?_
  refine sq ?_
  refine .mv ?_
  refine sq ?_
  refine .r0 ?_
  refine sq ?_
  refine .mv ?_
  refine sq ?_
  refine .mv ?_
  refine sq ?_
  refine .r0 ?_
  refine sq ?_
  refine .r0 ?_
  refine sq ?_
  refine .r0 ?_
  refine sq ?_
  refine .mv ?_
  apply wpSq_end
  refine hK10 _ _ ?_
  refine wp_ret ?_
  try dsimp only [Exit.then, Exit.inBlock]
  refine bodyPost_ret (v := (.bool true)) (by simp [results, Try.results5, go_sem]) rfl ?_
  exact ⟨rfl, hs.b⟩
set_option maxHeartbeats 4000000 in
set_option maxRecDepth 20000 in
theorem gover_w4 (N : Nat) (ha : ZN w va (N : Int) l) (hl : l ≤ 1048576) (h : N < 2) :
    Calls Try.prog 5 #[va] w fun e w' => e = .returned (.bool true) ∧ Below w.heap.size w w' := by
  have L6 := hide (zlen_small6 (z := 65536) (by decide))
  have hc : zcmp (N : Int) 65536 = -1 := by unfold zcmp; split <;> (try split) <;> omega
  have h2 : ((N : Int) < 2) = True := by simp; omega
  have HP := hide (show ¬ IsLf N N from fun hc => by have := hc.2.1; omega)
  obtain ⟨n_0, o_0, k_0, c_0, rfl⟩ := ha.open2
  go_enter Try.func5, Try.ntmps5
  have hs := St.nil w
  refine wp_seq_k ?_
  intro K1 hK1
  refine rg [0, 1] ?_
  refine sq ?_
  refine .al hs ?_; clear hs; intro p_b1 w_1 hs n1 kb_b1
  refine sq ?_
  refine .mv ?_
  apply wpSq_end
  refine hK1 _ _ ?_
  refine wp_seq_k ?_
  intro K2 hK2
  refine rg [0, 1, 2, 3, 4, 5, 6] ?_
  refine sq ?_
  refine .r2 hs.g0.f2 ?_
  refine sq ?_
  intro K hK
  have k0_1 := kb n1
  replace ha := ha.k k0_1
  go_big_op
  go_fit (gover_no N ha (by omega) (by omega) HP.out)
  rintro e w_2 ⟨rfl, hb_2⟩
  replace hs := hs.bl hb_2
  refine hK _ _ rfl trivial ?_
  clear hK K
  refine sq ?_
  refine .mv ?_
  refine sq ?_
  refine .r0 ?_
  refine sq ?_
  refine .r0 ?_
  refine sq ?_
  refine .mv ?_
  refine sq ?_
  refine .mv ?_
  apply wpSq_end
  refine hK2 _ _ ?_
  refine wp_seq_k ?_
  intro K3 hK3
  refine wp_seq_k ?_
  intro K4 hK4
  refine rg [0, 1] ?_
  refine sq ?_
  intro K hK
  go_big_op
  go_fit (awake6_any _)
  rintro e w_3 ⟨rfl, hb_3⟩
  replace hs := hs.bl hb_3
  refine hK _ _ rfl trivial ?_
  clear hK K
  refine sq ?_
  refine .r0 ?_
  apply wpSq_end
  refine hK4 _ _ ?_
  refine cf ?_
  refine wp_skip ?_
  refine hK3 _ _ ?_
  refine wp_seq_k ?_
  intro K5 hK5
  refine wp_seq_k ?_
  intro K6 hK6
  refine wp_region_f4 [(0, false), (1, true), (2, true), (3, false)] [] [] (fun _ => default) [0, 99, 99, 99] [] (.c hs.g0 .n) fn fun w_4 n4 => ?_
  replace hs := hs.bl n4
  refine f2 ?_
  refine fl fun w_5 n5 => ?_
  replace hs := hs.bl n5
  intro K hK
  go_big_op
  go_fit (ri_any 65536 _ (by decide) (by decide))
  rintro e w_6 ⟨v_t, rfl, t, hb_6⟩
  replace hs := hs.bl hb_6
  replace t := t.rd
  obtain ⟨n_t, o_t, k_t, c_t, rfl⟩ := t.open2
  have Lt := hide (t.lenOf (L6.out))
  refine hK _ _ rfl ⟨hb_6, (And.intro hs.g0 trivial)⟩ ?_
  clear hK K
  refine fl fun w_7 n7 => ?_
  replace hs := hs.bl n7
  intro K hK
  have k1_7 := (((((kb hb_2).b hb_3).b n4).b n5).b hb_6).b n7
  replace ha := ha.k k1_7
  have k6_7 := kb n7
  replace t := t.k k6_7
  go_big_op
  go_fit (rzcmp_any ha (t.zn Lt.out) (by omega) (by omega) )
  rintro e w_8 ⟨rfl, hb_8⟩
  replace hs := hs.bl hb_8
  rw [hc]
  refine hK _ _ rfl ⟨hb_8, (And.intro hs.g0 trivial)⟩ ?_
  clear hK K
  refine f0 ?_
  refine e0 hs ?_; clear hs; intro w_9 hs n9
  apply wpTail_end
  refine hK6 _ _ ?_
  refine cf ?_
  refine wp_skip ?_
  refine hK5 _ _ ?_
  refine wp_seq_k ?_
  intro K7 hK7
  refine rg [0, 1, 2, 3, 4, 5, 6] ?_
  refine sq ?_
  refine .r2 hs.g0.f2 ?_
  refine sq ?_
  intro K hK
  have k7_9 := (kb hb_8).b n9
  replace ha := ha.k k7_9
  go_big_op
  go_fit (rsmall_any ha (by omega) (by omega))
  rintro e w_10 ⟨rfl, hb_10⟩
  replace hs := hs.bl hb_10
  refine hK _ _ rfl trivial ?_
  clear hK K
  refine sq ?_
  refine .mv ?_
  refine sq ?_
  refine .r0 ?_
  refine sq ?_
  refine .r0 ?_
  refine sq ?_
  refine .mv ?_
  refine sq ?_
  refine .mv ?_
  apply wpSq_end
  refine hK7 _ _ ?_
  refine wp_seq_k ?_
  intro K8 hK8
  refine wp_seq_k ?_
  intro K9 hK9
  refine rg [0, 1, 2, 3, 4, 5, 6, 7, 8, 9, 10, 11] ?_
  refine sq ?_
  refine .mv ?_
  refine sq ?_
  refine .r0 ?_
  refine sq ?_
  refine .mv ?_
  refine sq ?_
  refine .mv ?_
  refine sq ?_
  refine .r0 ?_
  refine sq ?_
  refine .r0 ?_
  refine sq ?_
  refine .mv ?_
  refine sk ?_
  refine sk ?_
  refine sk ?_
  refine sk ?_
  refine sq ?_
  refine .r0 ?_
  apply wpSq_end
  refine hK9 _ _ ?_
  refine ct ?_
  refine wp_seq_k ?_
  intro K10 hK10
  refine rg [0, 1, 2, 3, 4, 5, 6, 7] ?_
  refine sq ?_
  refine .mv ?_
  refine sq ?_
  refine .r0 ?_
  refine sq ?_
  refine .mv ?_
  refine sq ?_
  refine .mv ?_
  refine sq ?_
  refine .r0 ?_
  refine sq ?_
  refine .r0 ?_
  refine sq ?_
  refine .r0 ?_
  refine sq ?_
  refine .mv ?_
  apply wpSq_end
  refine hK10 _ _ ?_
  refine wp_ret ?_
  try dsimp only [Exit.then, Exit.inBlock]
  refine bodyPost_ret (v := (.bool true)) (by simp [results, Try.results5, go_sem]) rfl ?_
  exact ⟨rfl, hs.b⟩
set_option maxHeartbeats 4000000 in
set_option maxRecDepth 20000 in
theorem gover_w5 (N q : Nat) (ha : ZN w va (N : Int) l) (hl : l ≤ 1048576) (h : 2 ≤ N) (hN : N < 65536) (hq : IsLf N q) (hqN : q ≠ N) :
    Calls Try.prog 5 #[va] w fun e w' => e = .returned (.bool true) ∧ Below w.heap.size w w' := by
  have L6 := hide (zlen_small6 (z := 65536) (by decide))
  have hc : zcmp (N : Int) 65536 = -1 := by unfold zcmp; split <;> (try split) <;> omega
  have h2 : ((N : Int) < 2) = False := by simp; omega
  have HP := hide (show ¬ IsLf N N from fun hc => hqN (hq.uniq hc))
  have HR := hide (fun w => rleastP (w := w) hq h (by omega))
  have hne : ((q : Int) == (N : Int)) = false := by rw [beq_eq_false_iff_ne]; omega
  have hne2 : ((q : Int) != (N : Int)) = true := by simp; omega
  clear hq
  obtain ⟨n_0, o_0, k_0, c_0, rfl⟩ := ha.open2
  go_enter Try.func5, Try.ntmps5
  have hs := St.nil w
  refine wp_seq_k ?_
  intro K1 hK1
  refine rg [0, 1] ?_
  refine sq ?_
  refine .al hs ?_; clear hs; intro p_b1 w_1 hs n1 kb_b1
  refine sq ?_
  refine .mv ?_
  apply wpSq_end
  refine hK1 _ _ ?_
  refine wp_seq_k ?_
  intro K2 hK2
  refine rg [0, 1, 2, 3, 4, 5, 6] ?_
  refine sq ?_
  refine .r2 hs.g0.f2 ?_
  refine sq ?_
  intro K hK
  have k0_1 := kb n1
  replace ha := ha.k k0_1
  go_big_op
  go_fit (gover_no N ha (by omega) (by omega) HP.out)
  rintro e w_2 ⟨rfl, hb_2⟩
  replace hs := hs.bl hb_2
  refine hK _ _ rfl trivial ?_
  clear hK K
  refine sq ?_
  refine .mv ?_
  refine sq ?_
  refine .r0 ?_
  refine sq ?_
  refine .r0 ?_
  refine sq ?_
  refine .mv ?_
  refine sq ?_
  refine .mv ?_
  apply wpSq_end
  refine hK2 _ _ ?_
  refine wp_seq_k ?_
  intro K3 hK3
  refine wp_seq_k ?_
  intro K4 hK4
  refine rg [0, 1] ?_
  refine sq ?_
  intro K hK
  go_big_op
  go_fit (awake6_any _)
  rintro e w_3 ⟨rfl, hb_3⟩
  replace hs := hs.bl hb_3
  refine hK _ _ rfl trivial ?_
  clear hK K
  refine sq ?_
  refine .r0 ?_
  apply wpSq_end
  refine hK4 _ _ ?_
  refine cf ?_
  refine wp_skip ?_
  refine hK3 _ _ ?_
  refine wp_seq_k ?_
  intro K5 hK5
  refine wp_seq_k ?_
  intro K6 hK6
  refine wp_region_f4 [(0, false), (1, true), (2, true), (3, false)] [] [] (fun _ => default) [0, 99, 99, 99] [] (.c hs.g0 .n) fn fun w_4 n4 => ?_
  replace hs := hs.bl n4
  refine f2 ?_
  refine fl fun w_5 n5 => ?_
  replace hs := hs.bl n5
  intro K hK
  go_big_op
  go_fit (ri_any 65536 _ (by decide) (by decide))
  rintro e w_6 ⟨v_t, rfl, t, hb_6⟩
  replace hs := hs.bl hb_6
  replace t := t.rd
  obtain ⟨n_t, o_t, k_t, c_t, rfl⟩ := t.open2
  have Lt := hide (t.lenOf (L6.out))
  refine hK _ _ rfl ⟨hb_6, (And.intro hs.g0 trivial)⟩ ?_
  clear hK K
  refine fl fun w_7 n7 => ?_
  replace hs := hs.bl n7
  intro K hK
  have k1_7 := (((((kb hb_2).b hb_3).b n4).b n5).b hb_6).b n7
  replace ha := ha.k k1_7
  have k6_7 := kb n7
  replace t := t.k k6_7
  go_big_op
  go_fit (rzcmp_any ha (t.zn Lt.out) (by omega) (by omega) )
  rintro e w_8 ⟨rfl, hb_8⟩
  replace hs := hs.bl hb_8
  rw [hc]
  refine hK _ _ rfl ⟨hb_8, (And.intro hs.g0 trivial)⟩ ?_
  clear hK K
  refine f0 ?_
  refine e0 hs ?_; clear hs; intro w_9 hs n9
  apply wpTail_end
  refine hK6 _ _ ?_
  refine cf ?_
  refine wp_skip ?_
  refine hK5 _ _ ?_
  refine wp_seq_k ?_
  intro K7 hK7
  refine rg [0, 1, 2, 3, 4, 5, 6] ?_
  refine sq ?_
  refine .r2 hs.g0.f2 ?_
  refine sq ?_
  intro K hK
  have k7_9 := (kb hb_8).b n9
  replace ha := ha.k k7_9
  go_big_op
  go_fit (rsmall_any ha (by omega) (by omega))
  rintro e w_10 ⟨rfl, hb_10⟩
  replace hs := hs.bl hb_10
  refine hK _ _ rfl trivial ?_
  clear hK K
  refine sq ?_
  refine .mv ?_
  refine sq ?_
  refine .r0 ?_
  refine sq ?_
  refine .r0 ?_
  refine sq ?_
  refine .mv ?_
  refine sq ?_
  refine .mv ?_
  apply wpSq_end
  refine hK7 _ _ ?_
  refine wp_seq_k ?_
  intro K8 hK8
  refine wp_seq_k ?_
  intro K9 hK9
  refine rg [0, 1, 2, 3, 4, 5, 6, 7, 8, 9, 10, 11] ?_
  refine sq ?_
  refine .mv ?_
  refine sq ?_
  refine .r0 ?_
  refine sq ?_
  refine .mv ?_
  refine sq ?_
  refine .mv ?_
  refine sq ?_
  refine .r0 ?_
  refine sq ?_
  refine .r0 ?_
  refine sq ?_
  refine .mv ?_
  refine sq ?_
  refine .mv ?_
  refine sq ?_
  intro K hK
  go_big_op
  go_fit (HR.out _)
  rintro e w_11 ⟨rfl, e_11⟩
  (first | rw [e_11] | rw [← e_11]); clear e_11 w_11
  refine hK _ _ rfl trivial ?_
  clear hK K
  refine sq ?_
  refine .mv ?_
  refine sq ?_
  refine .r0 ?_
  refine sq ?_
  refine .r0 ?_
  apply wpSq_end
  refine hK9 _ _ ?_
  refine ct ?_
  refine wp_seq_k ?_
  intro K10 hK10
  refine rg [0, 1, 2, 3, 4, 5, 6, 7] ?_
  refine sq ?_
  refine .mv ?_
  refine sq ?_
  refine .r0 ?_
  refine sq ?_
  refine .mv ?_
  refine sq ?_
  refine .mv ?_
  refine sq ?_
  refine .r0 ?_
  refine sq ?_
  refine .r0 ?_
  refine sq ?_
  refine .r0 ?_
  refine sq ?_
  refine .mv ?_
  apply wpSq_end
  refine hK10 _ _ ?_
  refine wp_ret ?_
  try dsimp only [Exit.then, Exit.inBlock]
  refine bodyPost_ret (v := (.bool true)) (by simp [results, Try.results5, go_sem]) rfl ?_
  exact ⟨rfl, hs.b⟩
set_option maxHeartbeats 4000000 in
set_option maxRecDepth 20000 in
theorem gover_w6 (N : Nat) (ha : ZN w va (N : Int) l) (hl : l ≤ 1048576) (hN : N < 65536) (hp : IsLf N N) :
    Calls Try.prog 5 #[va] w fun e w' => e = .returned (.bool true) ∧ Below w.heap.size w w' := by
  have L6 := hide (zlen_small6 (z := 65536) (by decide))
  have hc : zcmp (N : Int) 65536 = -1 := by unfold zcmp; split <;> (try split) <;> omega
  have h2n := hp.2.1
  have h2 : ((N : Int) < 2) = False := by simp; omega
  have HR := hide (fun w => rleastP (w := w) hp h2n (by omega))
  obtain ⟨ps, hps, hlen, hT, hS⟩ := over_both hp hN
  have HP := hide hp
  have HT := hide hT
  have HS := hide hS
  have HL := hide (show ∀ q ∈ ps, (dig q.1.natAbs).length ≤ 100000000 ∧ (dig q.2.natAbs).length ≤ 100000000 from fun q hq => ⟨Nat.le_trans (hlen q hq).1 (by decide), Nat.le_trans (hlen q hq).2 (by decide)⟩)
  unfold TS at HS
  clear hp hT hS hlen
  obtain ⟨n_0, o_0, k_0, c_0, rfl⟩ := ha.open2
  go_enter Try.func5, Try.ntmps5
  have hs := St.nil w
  refine wp_seq_k ?_
  intro K1 hK1
  refine rg [0, 1] ?_
  refine sq ?_
  refine .al hs ?_; clear hs; intro p_b1 w_1 hs n1 kb_b1
  refine sq ?_
  refine .mv ?_
  apply wpSq_end
  refine hK1 _ _ ?_
  refine wp_seq_k ?_
  intro K2 hK2
  refine rg [0, 1, 2, 3, 4, 5, 6] ?_
  refine sq ?_
  refine .r2 hs.g0.f2 ?_
  refine sq ?_
  intro K hK
  have k0_1 := kb n1
  replace ha := ha.k k0_1
  go_big_op
  go_fit (gover_any N ha (by omega) hN HP.out HT.out)
  rintro e w_2 ⟨o_A, c_A, xs_A, rfl, L_A, d_A, hb_2⟩
  replace hs := hs.la hb_2 L_A
  refine hK _ _ rfl trivial ?_
  clear hK K
  refine sq ?_
  refine .mv ?_
  refine sq ?_
  refine .r0 ?_
  refine sq ?_
  refine .r0 ?_
  refine sq ?_
  refine .mv ?_
  refine sq ?_
  refine .mv ?_
  apply wpSq_end
  refine hK2 _ _ ?_
  refine wp_seq_k ?_
  intro K3 hK3
  refine wp_seq_k ?_
  intro K4 hK4
  refine rg [0, 1] ?_
  refine sq ?_
  intro K hK
  go_big_op
  go_fit (awake6_any _)
  rintro e w_3 ⟨rfl, hb_3⟩
  replace hs := hs.bl hb_3
  refine hK _ _ rfl trivial ?_
  clear hK K
  refine sq ?_
  refine .r0 ?_
  apply wpSq_end
  refine hK4 _ _ ?_
  refine cf ?_
  refine wp_skip ?_
  refine hK3 _ _ ?_
  refine wp_seq_k ?_
  intro K5 hK5
  refine wp_seq_k ?_
  intro K6 hK6
  refine wp_region_f4 [(0, false), (1, true), (2, true), (3, false)] [] [] (fun _ => default) [0, 99, 99, 99] [] (.c hs.g1 .n) fn fun w_4 n4 => ?_
  replace hs := hs.bl n4
  refine f2 ?_
  refine fl fun w_5 n5 => ?_
  replace hs := hs.bl n5
  intro K hK
  go_big_op
  go_fit (ri_any 65536 _ (by decide) (by decide))
  rintro e w_6 ⟨v_t, rfl, t, hb_6⟩
  replace hs := hs.bl hb_6
  replace t := t.rd
  obtain ⟨n_t, o_t, k_t, c_t, rfl⟩ := t.open2
  have Lt := hide (t.lenOf (L6.out))
  refine hK _ _ rfl ⟨hb_6, (And.intro hs.g1 trivial)⟩ ?_
  clear hK K
  refine fl fun w_7 n7 => ?_
  replace hs := hs.bl n7
  intro K hK
  have k1_7 := (((((kb hb_2).b hb_3).b n4).b n5).b hb_6).b n7
  replace ha := ha.k k1_7
  have k6_7 := kb n7
  replace t := t.k k6_7
  go_big_op
  go_fit (rzcmp_any ha (t.zn Lt.out) (by omega) (by omega) )
  rintro e w_8 ⟨rfl, hb_8⟩
  replace hs := hs.bl hb_8
  rw [hc]
  refine hK _ _ rfl ⟨hb_8, (And.intro hs.g1 trivial)⟩ ?_
  clear hK K
  refine f0 ?_
  refine e0 hs ?_; clear hs; intro w_9 hs n9
  apply wpTail_end
  refine hK6 _ _ ?_
  refine cf ?_
  refine wp_skip ?_
  refine hK5 _ _ ?_
  refine wp_seq_k ?_
  intro K7 hK7
  refine rg [0, 1, 2, 3, 4, 5, 6] ?_
  refine sq ?_
  refine .r2 hs.g1.f2 ?_
  refine sq ?_
  intro K hK
  have k7_9 := (kb hb_8).b n9
  replace ha := ha.k k7_9
  go_big_op
  go_fit (rsmall_any ha (by omega) (by omega))
  rintro e w_10 ⟨rfl, hb_10⟩
  replace hs := hs.bl hb_10
  refine hK _ _ rfl trivial ?_
  clear hK K
  refine sq ?_
  refine .mv ?_
  refine sq ?_
  refine .r0 ?_
  refine sq ?_
  refine .r0 ?_
  refine sq ?_
  refine .mv ?_
  refine sq ?_
  refine .mv ?_
  apply wpSq_end
  refine hK7 _ _ ?_
  refine wp_seq_k ?_
  intro K8 hK8
  refine wp_seq_k ?_
  intro K9 hK9
  refine rg [0, 1, 2, 3, 4, 5, 6, 7, 8, 9, 10, 11] ?_
  refine sq ?_
  refine .mv ?_
  refine sq ?_
  refine .r0 ?_
  refine sq ?_
  refine .mv ?_
  refine sq ?_
  refine .mv ?_
  refine sq ?_
  refine .r0 ?_
  refine sq ?_
  refine .r0 ?_
  refine sq ?_
  refine .mv ?_
  refine sq ?_
  refine .mv ?_
  refine sq ?_
  intro K hK
  go_big_op
  go_fit (HR.out _)
  rintro e w_11 ⟨rfl, e_11⟩
  (first | rw [e_11] | rw [← e_11]); clear e_11 w_11
  refine hK _ _ rfl trivial ?_
  clear hK K
  refine sq ?_
  refine .mv ?_
  refine sq ?_
  refine .r0 ?_
  refine sq ?_
  refine .r0 ?_
  apply wpSq_end
  refine hK9 _ _ ?_
  refine cf ?_
  refine wp_skip ?_
  refine hK8 _ _ ?_
  refine wp_seq_k ?_
  intro K10 hK10
  refine rg [0, 1, 2, 3, 4, 5, 6, 7, 8] ?_
  refine sq ?_
  refine .mv ?_
  refine sq ?_
  refine .r0 ?_
  refine sq ?_
  refine .mv ?_
  refine sq ?_
  refine .mv ?_
  refine sq ?_
  refine .mv ?_
  refine sq ?_
  intro K hK
  go_big_op
  go_fit (HS.out _)
  rintro e w_12 ⟨o_B, c_B, rfl, H_B, S_B, hb_12⟩
  replace hs := hs.bl hb_12
  refine hK _ _ rfl trivial ?_
  clear hK K
  refine sq ?_
  intro K hK
  have k2_11 := ((((((((kb hb_3).b n4).b n5).b hb_6).b n7).b hb_8).b n9).b hb_10).b hb_12
  replace d_A := d_A.k k2_11
  go_big_op
  go_fit (list6_sg (SG.of hs.1.1.1 d_A).2.2 S_B rfl (by omega) HL.out)
  rintro e w_13 ⟨rfl, hb_13⟩
  replace S_B := S_B.bl hb_13; replace hs := hs.bl hb_13
  refine hK _ _ rfl trivial ?_
  clear hK K
  refine sq ?_
  refine .r0 ?_
  refine sq ?_
  refine .mv ?_
  apply wpSq_end
  refine hK10 _ _ ?_
  refine wp_ret ?_
  try dsimp only [Exit.then, Exit.inBlock]
  refine bodyPost_ret (v := (.bool true)) (by simp [results, Try.results5, go_sem]) rfl ?_
  exact ⟨rfl, hs.b⟩
theorem gover_walk (ha : ZN w va z l) (hl : l ≤ 1048576) :
    Calls Try.prog 5 #[va] w fun e w' => e = .returned (.bool true) ∧ Below w.heap.size w w' := by
  rcases Int.lt_or_le z 65536 with h | h
  · rcases Int.lt_or_le z 0 with h0 | h0
    · by_cases h62 : z.natAbs < 4611686018427387904
      · exact gover_w3 ha hl h0 h62
      · exact gover_w2 ha hl h0 (by omega)
    · obtain ⟨N, rfl⟩ : ∃ N : Nat, z = (N : Int) := ⟨z.toNat, by omega⟩
      rcases Nat.lt_or_ge N 2 with h2 | h2
      · exact gover_w4 N ha hl h2
      · obtain ⟨q, hq⟩ := lf_ex h2
        by_cases hqN : q = N
        · subst hqN; exact gover_w6 _ ha hl (by omega) hq
        · exact gover_w5 N q ha hl h2 (by omega) hq hqN
  · exact gover_w1 ha hl h
end
theorem walk_GprimeOver (w : World) (n1 : Bool) (s1 : Value) (xs : List Nat) (h1 : Rd w s1 xs) (l1 : xs.length ≤ 1048576) :
    Calls Try.prog 5 #[.agg #[.bool n1, s1]] w fun e w' => e = .returned (.bool true) ∧ Below w.heap.size w w' :=
  gover_walk ⟨n1, s1, xs, rfl, h1, rfl, l1⟩ (Nat.le_refl _)
end Go.Proofs.Ytbiiglcfdphmaaa

