/- gint: Canon; the reference's. -/
import Derived.Test.YtbiiglcfdphmaaaGreatG10ToG7
import Derived.Test.YtbiiglcfdphmaaaGreatG11ToG13
import Derived.Test.YtbiiglcfdphmaaaGreatWkToG2

namespace Go.Proofs.YtbiiglcfdphmaaaGreat
open Go Go.RowKit Dig
set_option maxHeartbeats 4000000
set_option maxRecDepth 20000
set_option linter.unusedVariables false
section
variable {w : World} {va vb : Value} {x y u v : Int} {l m k n : Nat}
theorem quarters_mm (w : World) :
    Calls Tryz.prog 69 #[.int .i64 (-1), .int .i64 (-1)] w fun e w' => e = .returned (.int .i64 2) ∧ Below w.heap.size w w' := by
  go_enter Tryz.func69, Tryz.ntmps69
  have hs := St.nil w
  refine wp_seq_k ?_
  intro K1 hK1
  refine rg [0] ?_
  refine sq ?_
  refine .mv ?_
  apply wpSq_end
  refine hK1 _ _ ?_
  refine wp_seq_k ?_
  intro K2 hK2
  refine wp_block ?_
  refine wp_seq_k ?_
  intro K3 hK3
  refine rg [0, 1, 2, 3, 4, 5, 6] ?_
  refine sq ?_
  refine .mv ?_
  refine sq ?_
  refine .r0 ?_
  refine sq ?_
  refine .mv ?_
  refine sq ?_
  refine .mv ?_
  refine sq ?_
  refine .r0 ?_
  refine sq ?_
  refine .r0 ?_
  refine sq ?_
  refine .mv ?_
  apply wpSq_end
  refine hK3 _ _ ?_
  refine cf ?_
  refine wp_seq_k ?_
  intro K4 hK4
  refine rg [0, 1, 2, 3, 4, 5, 6] ?_
  refine sq ?_
  refine .mv ?_
  refine sq ?_
  refine .r0 ?_
  refine sq ?_
  refine .mv ?_
  refine sq ?_
  refine .mv ?_
  refine sq ?_
  refine .r0 ?_
  refine sq ?_
  refine .r0 ?_
  refine sq ?_
  refine .mv ?_
  apply wpSq_end
  refine hK4 _ _ ?_
  refine ct ?_
  refine wp_seq_k ?_
  intro K5 hK5
  refine rg [0] ?_
  refine sq ?_
  refine .mv ?_
  apply wpSq_end
  refine hK5 _ _ ?_
  refine wp_ret ?_
  try dsimp only [Exit.then, Exit.inBlock]
  refine bodyPost_ret (v := (.int .i64 2)) (by simp [results, Tryz.results69, go_sem]) rfl ?_
  have hb := hs.b
  exact ⟨rfl, hb⟩
theorem quarters_mz (w : World) :
    Calls Tryz.prog 69 #[.int .i64 (-1), .int .i64 0] w fun e w' => e = .returned (.int .i64 2) ∧ Below w.heap.size w w' := by
  go_enter Tryz.func69, Tryz.ntmps69
  have hs := St.nil w
  refine wp_seq_k ?_
  intro K1 hK1
  refine rg [0] ?_
  refine sq ?_
  refine .mv ?_
  apply wpSq_end
  refine hK1 _ _ ?_
  refine wp_seq_k ?_
  intro K2 hK2
  refine wp_block ?_
  refine wp_seq_k ?_
  intro K3 hK3
  refine rg [0, 1, 2, 3, 4, 5, 6] ?_
  refine sq ?_
  refine .mv ?_
  refine sq ?_
  refine .r0 ?_
  refine sq ?_
  refine .mv ?_
  refine sk ?_
  refine sk ?_
  refine sq ?_
  refine .r0 ?_
  refine sq ?_
  refine .mv ?_
  apply wpSq_end
  refine hK3 _ _ ?_
  refine cf ?_
  refine wp_seq_k ?_
  intro K4 hK4
  refine rg [0, 1, 2, 3, 4, 5, 6] ?_
  refine sq ?_
  refine .mv ?_
  refine sq ?_
  refine .r0 ?_
  refine sq ?_
  refine .mv ?_
  refine sq ?_
  refine .mv ?_
  refine sq ?_
  refine .r0 ?_
  refine sq ?_
  refine .r0 ?_
  refine sq ?_
  refine .mv ?_
  apply wpSq_end
  refine hK4 _ _ ?_
  refine ct ?_
  refine wp_seq_k ?_
  intro K5 hK5
  refine rg [0] ?_
  refine sq ?_
  refine .mv ?_
  apply wpSq_end
  refine hK5 _ _ ?_
  refine wp_ret ?_
  try dsimp only [Exit.then, Exit.inBlock]
  refine bodyPost_ret (v := (.int .i64 2)) (by simp [results, Tryz.results69, go_sem]) rfl ?_
  have hb := hs.b
  exact ⟨rfl, hb⟩
theorem quarters_mp (w : World) :
    Calls Tryz.prog 69 #[.int .i64 (-1), .int .i64 1] w fun e w' => e = .returned (.int .i64 3) ∧ Below w.heap.size w w' := by
  go_enter Tryz.func69, Tryz.ntmps69
  have hs := St.nil w
  refine wp_seq_k ?_
  intro K1 hK1
  refine rg [0] ?_
  refine sq ?_
  refine .mv ?_
  apply wpSq_end
  refine hK1 _ _ ?_
  refine wp_seq_k ?_
  intro K2 hK2
  refine wp_block ?_
  refine wp_seq_k ?_
  intro K3 hK3
  refine rg [0, 1, 2, 3, 4, 5, 6] ?_
  refine sq ?_
  refine .mv ?_
  refine sq ?_
  refine .r0 ?_
  refine sq ?_
  refine .mv ?_
  refine sk ?_
  refine sk ?_
  refine sq ?_
  refine .r0 ?_
  refine sq ?_
  refine .mv ?_
  apply wpSq_end
  refine hK3 _ _ ?_
  refine cf ?_
  refine wp_seq_k ?_
  intro K4 hK4
  refine rg [0, 1, 2, 3, 4, 5, 6] ?_
  refine sq ?_
  refine .mv ?_
  refine sq ?_
  refine .r0 ?_
  refine sq ?_
  refine .mv ?_
  refine sq ?_
  refine .mv ?_
  refine sq ?_
  refine .r0 ?_
  refine sq ?_
  refine .r0 ?_
  refine sq ?_
  refine .mv ?_
  apply wpSq_end
  refine hK4 _ _ ?_
  refine cf ?_
  refine wp_seq_k ?_
  intro K5 hK5
  refine rg [0, 1, 2, 3, 4, 5, 6] ?_
  refine sq ?_
  refine .mv ?_
  refine sq ?_
  refine .r0 ?_
  refine sq ?_
  refine .mv ?_
  refine sq ?_
  refine .mv ?_
  refine sq ?_
  refine .r0 ?_
  refine sq ?_
  refine .r0 ?_
  refine sq ?_
  refine .mv ?_
  apply wpSq_end
  refine hK5 _ _ ?_
  refine ct ?_
  refine wp_seq_k ?_
  intro K6 hK6
  refine rg [0] ?_
  refine sq ?_
  refine .mv ?_
  apply wpSq_end
  refine hK6 _ _ ?_
  refine wp_ret ?_
  try dsimp only [Exit.then, Exit.inBlock]
  refine bodyPost_ret (v := (.int .i64 3)) (by simp [results, Tryz.results69, go_sem]) rfl ?_
  have hb := hs.b
  exact ⟨rfl, hb⟩
theorem quarters_zm (w : World) :
    Calls Tryz.prog 69 #[.int .i64 0, .int .i64 (-1)] w fun e w' => e = .returned (.int .i64 1) ∧ Below w.heap.size w w' := by
  go_enter Tryz.func69, Tryz.ntmps69
  have hs := St.nil w
  refine wp_seq_k ?_
  intro K1 hK1
  refine rg [0] ?_
  refine sq ?_
  refine .mv ?_
  apply wpSq_end
  refine hK1 _ _ ?_
  refine wp_seq_k ?_
  intro K2 hK2
  refine wp_block ?_
  refine wp_seq_k ?_
  intro K3 hK3
  refine rg [0, 1, 2, 3, 4, 5, 6] ?_
  refine sq ?_
  refine .mv ?_
  refine sq ?_
  refine .r0 ?_
  refine sq ?_
  refine .mv ?_
  refine sq ?_
  refine .mv ?_
  refine sq ?_
  refine .r0 ?_
  refine sq ?_
  refine .r0 ?_
  refine sq ?_
  refine .mv ?_
  apply wpSq_end
  refine hK3 _ _ ?_
  refine ct ?_
  refine wp_seq_k ?_
  intro K4 hK4
  refine rg [0] ?_
  refine sq ?_
  refine .mv ?_
  apply wpSq_end
  refine hK4 _ _ ?_
  refine wp_ret ?_
  try dsimp only [Exit.then, Exit.inBlock]
  refine bodyPost_ret (v := (.int .i64 1)) (by simp [results, Tryz.results69, go_sem]) rfl ?_
  have hb := hs.b
  exact ⟨rfl, hb⟩
theorem quarters_zz (w : World) :
    Calls Tryz.prog 69 #[.int .i64 0, .int .i64 0] w fun e w' => e = .returned (.int .i64 0) ∧ Below w.heap.size w w' := by
  go_enter Tryz.func69, Tryz.ntmps69
  have hs := St.nil w
  refine wp_seq_k ?_
  intro K1 hK1
  refine rg [0] ?_
  refine sq ?_
  refine .mv ?_
  apply wpSq_end
  refine hK1 _ _ ?_
  refine wp_seq_k ?_
  intro K2 hK2
  refine wp_block ?_
  refine wp_seq_k ?_
  intro K3 hK3
  refine rg [0, 1, 2, 3, 4, 5, 6] ?_
  refine sq ?_
  refine .mv ?_
  refine sq ?_
  refine .r0 ?_
  refine sq ?_
  refine .mv ?_
  refine sk ?_
  refine sk ?_
  refine sq ?_
  refine .r0 ?_
  refine sq ?_
  refine .mv ?_
  apply wpSq_end
  refine hK3 _ _ ?_
  refine cf ?_
  refine wp_seq_k ?_
  intro K4 hK4
  refine rg [0, 1, 2, 3, 4, 5, 6] ?_
  refine sq ?_
  refine .mv ?_
  refine sq ?_
  refine .r0 ?_
  refine sq ?_
  refine .mv ?_
  refine sk ?_
  refine sk ?_
  refine sq ?_
  refine .r0 ?_
  refine sq ?_
  refine .mv ?_
  apply wpSq_end
  refine hK4 _ _ ?_
  refine cf ?_
  refine wp_seq_k ?_
  intro K5 hK5
  refine rg [0, 1, 2, 3, 4, 5, 6] ?_
  refine sq ?_
  refine .mv ?_
  refine sq ?_
  refine .r0 ?_
  refine sq ?_
  refine .mv ?_
  refine sk ?_
  refine sk ?_
  refine sq ?_
  refine .r0 ?_
  refine sq ?_
  refine .mv ?_
  apply wpSq_end
  refine hK5 _ _ ?_
  refine cf ?_
  refine wp_skip ?_
  refine hK2 _ _ ?_
  refine wp_seq_k ?_
  intro K6 hK6
  refine rg [0] ?_
  refine sq ?_
  refine .mv ?_
  apply wpSq_end
  refine hK6 _ _ ?_
  refine wp_ret ?_
  try dsimp only [Exit.then, Exit.inBlock]
  refine bodyPost_ret (v := (.int .i64 0)) (by simp [results, Tryz.results69, go_sem]) rfl ?_
  have hb := hs.b
  exact ⟨rfl, hb⟩
theorem quarters_zp (w : World) :
    Calls Tryz.prog 69 #[.int .i64 0, .int .i64 1] w fun e w' => e = .returned (.int .i64 3) ∧ Below w.heap.size w w' := by
  go_enter Tryz.func69, Tryz.ntmps69
  have hs := St.nil w
  refine wp_seq_k ?_
  intro K1 hK1
  refine rg [0] ?_
  refine sq ?_
  refine .mv ?_
  apply wpSq_end
  refine hK1 _ _ ?_
  refine wp_seq_k ?_
  intro K2 hK2
  refine wp_block ?_
  refine wp_seq_k ?_
  intro K3 hK3
  refine rg [0, 1, 2, 3, 4, 5, 6] ?_
  refine sq ?_
  refine .mv ?_
  refine sq ?_
  refine .r0 ?_
  refine sq ?_
  refine .mv ?_
  refine sk ?_
  refine sk ?_
  refine sq ?_
  refine .r0 ?_
  refine sq ?_
  refine .mv ?_
  apply wpSq_end
  refine hK3 _ _ ?_
  refine cf ?_
  refine wp_seq_k ?_
  intro K4 hK4
  refine rg [0, 1, 2, 3, 4, 5, 6] ?_
  refine sq ?_
  refine .mv ?_
  refine sq ?_
  refine .r0 ?_
  refine sq ?_
  refine .mv ?_
  refine sk ?_
  refine sk ?_
  refine sq ?_
  refine .r0 ?_
  refine sq ?_
  refine .mv ?_
  apply wpSq_end
  refine hK4 _ _ ?_
  refine cf ?_
  refine wp_seq_k ?_
  intro K5 hK5
  refine rg [0, 1, 2, 3, 4, 5, 6] ?_
  refine sq ?_
  refine .mv ?_
  refine sq ?_
  refine .r0 ?_
  refine sq ?_
  refine .mv ?_
  refine sq ?_
  refine .mv ?_
  refine sq ?_
  refine .r0 ?_
  refine sq ?_
  refine .r0 ?_
  refine sq ?_
  refine .mv ?_
  apply wpSq_end
  refine hK5 _ _ ?_
  refine ct ?_
  refine wp_seq_k ?_
  intro K6 hK6
  refine rg [0] ?_
  refine sq ?_
  refine .mv ?_
  apply wpSq_end
  refine hK6 _ _ ?_
  refine wp_ret ?_
  try dsimp only [Exit.then, Exit.inBlock]
  refine bodyPost_ret (v := (.int .i64 3)) (by simp [results, Tryz.results69, go_sem]) rfl ?_
  have hb := hs.b
  exact ⟨rfl, hb⟩
theorem quarters_pm (w : World) :
    Calls Tryz.prog 69 #[.int .i64 1, .int .i64 (-1)] w fun e w' => e = .returned (.int .i64 1) ∧ Below w.heap.size w w' := by
  go_enter Tryz.func69, Tryz.ntmps69
  have hs := St.nil w
  refine wp_seq_k ?_
  intro K1 hK1
  refine rg [0] ?_
  refine sq ?_
  refine .mv ?_
  apply wpSq_end
  refine hK1 _ _ ?_
  refine wp_seq_k ?_
  intro K2 hK2
  refine wp_block ?_
  refine wp_seq_k ?_
  intro K3 hK3
  refine rg [0, 1, 2, 3, 4, 5, 6] ?_
  refine sq ?_
  refine .mv ?_
  refine sq ?_
  refine .r0 ?_
  refine sq ?_
  refine .mv ?_
  refine sq ?_
  refine .mv ?_
  refine sq ?_
  refine .r0 ?_
  refine sq ?_
  refine .r0 ?_
  refine sq ?_
  refine .mv ?_
  apply wpSq_end
  refine hK3 _ _ ?_
  refine ct ?_
  refine wp_seq_k ?_
  intro K4 hK4
  refine rg [0] ?_
  refine sq ?_
  refine .mv ?_
  apply wpSq_end
  refine hK4 _ _ ?_
  refine wp_ret ?_
  try dsimp only [Exit.then, Exit.inBlock]
  refine bodyPost_ret (v := (.int .i64 1)) (by simp [results, Tryz.results69, go_sem]) rfl ?_
  have hb := hs.b
  exact ⟨rfl, hb⟩
theorem quarters_pz (w : World) :
    Calls Tryz.prog 69 #[.int .i64 1, .int .i64 0] w fun e w' => e = .returned (.int .i64 0) ∧ Below w.heap.size w w' := by
  go_enter Tryz.func69, Tryz.ntmps69
  have hs := St.nil w
  refine wp_seq_k ?_
  intro K1 hK1
  refine rg [0] ?_
  refine sq ?_
  refine .mv ?_
  apply wpSq_end
  refine hK1 _ _ ?_
  refine wp_seq_k ?_
  intro K2 hK2
  refine wp_block ?_
  refine wp_seq_k ?_
  intro K3 hK3
  refine rg [0, 1, 2, 3, 4, 5, 6] ?_
  refine sq ?_
  refine .mv ?_
  refine sq ?_
  refine .r0 ?_
  refine sq ?_
  refine .mv ?_
  refine sk ?_
  refine sk ?_
  refine sq ?_
  refine .r0 ?_
  refine sq ?_
  refine .mv ?_
  apply wpSq_end
  refine hK3 _ _ ?_
  refine cf ?_
  refine wp_seq_k ?_
  intro K4 hK4
  refine rg [0, 1, 2, 3, 4, 5, 6] ?_
  refine sq ?_
  refine .mv ?_
  refine sq ?_
  refine .r0 ?_
  refine sq ?_
  refine .mv ?_
  refine sk ?_
  refine sk ?_
  refine sq ?_
  refine .r0 ?_
  refine sq ?_
  refine .mv ?_
  apply wpSq_end
  refine hK4 _ _ ?_
  refine cf ?_
  refine wp_seq_k ?_
  intro K5 hK5
  refine rg [0, 1, 2, 3, 4, 5, 6] ?_
  refine sq ?_
  refine .mv ?_
  refine sq ?_
  refine .r0 ?_
  refine sq ?_
  refine .mv ?_
  refine sk ?_
  refine sk ?_
  refine sq ?_
  refine .r0 ?_
  refine sq ?_
  refine .mv ?_
  apply wpSq_end
  refine hK5 _ _ ?_
  refine cf ?_
  refine wp_skip ?_
  refine hK2 _ _ ?_
  refine wp_seq_k ?_
  intro K6 hK6
  refine rg [0] ?_
  refine sq ?_
  refine .mv ?_
  apply wpSq_end
  refine hK6 _ _ ?_
  refine wp_ret ?_
  try dsimp only [Exit.then, Exit.inBlock]
  refine bodyPost_ret (v := (.int .i64 0)) (by simp [results, Tryz.results69, go_sem]) rfl ?_
  have hb := hs.b
  exact ⟨rfl, hb⟩
theorem quarters_pp (w : World) :
    Calls Tryz.prog 69 #[.int .i64 1, .int .i64 1] w fun e w' => e = .returned (.int .i64 0) ∧ Below w.heap.size w w' := by
  go_enter Tryz.func69, Tryz.ntmps69
  have hs := St.nil w
  refine wp_seq_k ?_
  intro K1 hK1
  refine rg [0] ?_
  refine sq ?_
  refine .mv ?_
  apply wpSq_end
  refine hK1 _ _ ?_
  refine wp_seq_k ?_
  intro K2 hK2
  refine wp_block ?_
  refine wp_seq_k ?_
  intro K3 hK3
  refine rg [0, 1, 2, 3, 4, 5, 6] ?_
  refine sq ?_
  refine .mv ?_
  refine sq ?_
  refine .r0 ?_
  refine sq ?_
  refine .mv ?_
  refine sk ?_
  refine sk ?_
  refine sq ?_
  refine .r0 ?_
  refine sq ?_
  refine .mv ?_
  apply wpSq_end
  refine hK3 _ _ ?_
  refine cf ?_
  refine wp_seq_k ?_
  intro K4 hK4
  refine rg [0, 1, 2, 3, 4, 5, 6] ?_
  refine sq ?_
  refine .mv ?_
  refine sq ?_
  refine .r0 ?_
  refine sq ?_
  refine .mv ?_
  refine sk ?_
  refine sk ?_
  refine sq ?_
  refine .r0 ?_
  refine sq ?_
  refine .mv ?_
  apply wpSq_end
  refine hK4 _ _ ?_
  refine cf ?_
  refine wp_seq_k ?_
  intro K5 hK5
  refine rg [0, 1, 2, 3, 4, 5, 6] ?_
  refine sq ?_
  refine .mv ?_
  refine sq ?_
  refine .r0 ?_
  refine sq ?_
  refine .mv ?_
  refine sq ?_
  refine .mv ?_
  refine sq ?_
  refine .r0 ?_
  refine sq ?_
  refine .r0 ?_
  refine sq ?_
  refine .mv ?_
  apply wpSq_end
  refine hK5 _ _ ?_
  refine cf ?_
  refine wp_skip ?_
  refine hK2 _ _ ?_
  refine wp_seq_k ?_
  intro K6 hK6
  refine rg [0] ?_
  refine sq ?_
  refine .mv ?_
  apply wpSq_end
  refine hK6 _ _ ?_
  refine wp_ret ?_
  try dsimp only [Exit.then, Exit.inBlock]
  refine bodyPost_ret (v := (.int .i64 0)) (by simp [results, Tryz.results69, go_sem]) rfl ?_
  have hb := hs.b
  exact ⟨rfl, hb⟩
theorem sign3' (x : Int) : x.sign = -1 ∨ x.sign = 0 ∨ x.sign = 1 := by have := sign_bd x; omega
theorem quarters_any (x y : Int) (w : World) :
    Calls Tryz.prog 69 #[.int .i64 x.sign, .int .i64 y.sign] w fun e w' => e = .returned (.int .i64 ((kq x y : Nat) : Int)) ∧ Below w.heap.size w w' := by
  rw [← kq_sign]
  rcases sign3' x with h | h | h <;> rcases sign3' y with h2 | h2 | h2 <;> rw [h, h2]
  · exact quarters_mm w
  · exact quarters_mz w
  · exact quarters_mp w
  · exact quarters_zm w
  · exact quarters_zz w
  · exact quarters_zp w
  · exact quarters_pm w
  · exact quarters_pz w
  · exact quarters_pp w
theorem gCanon_any (ha : PN w va x l y m) (hl : l ≤ 40000000) (hm : m ≤ 40000000) :
    Calls Tryz.prog 27 #[va] w fun e w' => ∃ r, e = .returned (.tuple #[r, .int .i64 ((kq x y : Nat) : Int)]) ∧ PC w' r (turn (kq x y) (x, y)).1 (turn (kq x y) (x, y)).2 ∧ Below w.heap.size w w' := by
  have HM := hide (kq_mod x y)
  obtain ⟨S, hS⟩ : ∃ S, x.sign = S := ⟨_, rfl⟩
  obtain ⟨T, hT⟩ : ∃ T, y.sign = T := ⟨_, rfl⟩
  have HS := hide hS
  have HT := hide hT
  have HQ := hide (fun w => quarters_any x y w)
  rw [hS, hT] at HQ
  obtain ⟨J, hK⟩ : ∃ J, kq x y = J := ⟨_, rfl⟩
  rw [hK] at HM HQ ⊢
  clear hS hT hK
  obtain ⟨n_0a, o_0a, k_0a, c_0a, n_0b, o_0b, k_0b, c_0b, rfl, ha1, ha2⟩ := ha
  go_enter Tryz.func27, Tryz.ntmps27
  have hs := St.nil w
  refine wp_seq_k ?_
  intro K1 hK1
  refine rg [0, 1, 2] ?_
  refine sq ?_
  refine .al hs ?_; clear hs; intro p_b1 w_1 hs n1 kb_b1
  refine sq ?_
  refine .al hs ?_; clear hs; intro p_b2 w_2 hs n2 kb_b2
  refine sq ?_
  refine .mv ?_
  apply wpSq_end
  refine hK1 _ _ ?_
  refine wp_seq_k ?_
  intro K2 hK2
  refine wp_region_f4 [(0, false), (1, false), (3, false), (4, false), (2, true), (5, true), (6, true), (7, false)] [] [] (fun _ => default) [99, 0, 99, 99, 0, 99, 99, 99] [] (.c hs.g1 .n) fn fun w_3 n3 => ?_
  replace hs := hs.bl n3
  refine f0 ?_
  refine f4 ?_
  refine f0 ?_
  refine f4 ?_
  refine fl fun w_4 n4 => ?_
  replace hs := hs.bl n4
  intro K hK
  have k0_4 := (((kb n1).b n2).b n3).b n4
  replace ha1 := ha1.k k0_4
  go_big_op
  go_fit (zsign_any ha1 (by omega))
  rintro e w_5 ⟨rfl, hb_5⟩
  replace hs := hs.bl hb_5
  rw [HS.out]
  refine hK _ _ rfl ⟨hb_5, (And.intro hs.g1 trivial)⟩ ?_
  clear hK K
  refine fl fun w_6 n6 => ?_
  replace hs := hs.bl n6
  intro K hK
  have k0_6 := (k0_4.b hb_5).b n6
  replace ha2 := ha2.k k0_6
  go_big_op
  go_fit (zsign_any ha2 (by omega))
  rintro e w_7 ⟨rfl, hb_7⟩
  replace hs := hs.bl hb_7
  rw [HT.out]
  refine hK _ _ rfl ⟨hb_7, (And.intro hs.g1 trivial)⟩ ?_
  clear hK K
  refine fl fun w_8 n8 => ?_
  replace hs := hs.bl n8
  intro K hK
  go_big_op
  go_fit (HQ.out _)
  rintro e w_9 ⟨rfl, hb_9⟩
  replace hs := hs.bl hb_9
  refine hK _ _ rfl ⟨hb_9, (And.intro hs.g1 trivial)⟩ ?_
  clear hK K
  refine fmv ?_
  refine e0 hs ?_; clear hs; intro w_10 hs n10
  apply wpTail_end
  refine hK2 _ _ ?_
  refine wp_seq_k ?_
  intro K3 hK3
  refine rg [0, 1, 2, 3, 4, 5] ?_
  refine sq ?_
  refine .r4 hs.g1.f4 ?_
  refine sq ?_
  refine .mv ?_
  refine sq ?_
  intro K hK
  have k4_10 := (((((kb hb_5).b n6).b hb_7).b n8).b hb_9).b n10
  replace ha1 := ha1.k k4_10
  have k6_10 := (((kb hb_7).b n8).b hb_9).b n10
  replace ha2 := ha2.k k6_10
  go_big_op
  go_fit (gTurn_any (J : Int) (PN.mk' ha1 ha2) (by omega) (by omega))
  rintro e w_11 ⟨_, rfl, ⟨n_ga, o_ga, k_ga, c_ga, n_gb, o_gb, k_gb, c_gb, rfl, g1, g2⟩, hb_11⟩
  replace hs := hs.bl hb_11
  rw [HM.out] at g1 g2
  refine hK _ _ rfl trivial ?_
  clear hK K
  refine sq ?_
  refine .mv ?_
  refine sq ?_
  refine .s4 hs.g0 (fun _ => hs.u0 kb_b2) ?_; clear hs; intro w_12 hs hd12 ho12
  refine sq ?_
  refine .mv ?_
  apply wpSq_end
  refine hK3 _ _ ?_
  refine wp_ret ?_
  try dsimp only [Exit.then, Exit.inBlock]
  obtain ⟨r0_0, r0_1, r0_2, r0_3⟩ := hs.g0.f4
  refine bodyPost_ret (v := (.tuple #[(.agg #[.bool n_ga, .slice o_ga k_ga c_ga, .bool n_gb, .slice o_gb k_gb c_gb]), (.int .i64 (J : Int))])) (by simp [results, Tryz.results27, go_sem, r0_0, r0_1, r0_2, r0_3]) rfl ?_
  have k11_12 := ko hd12 ho12
  replace g1 := g1.k k11_12
  replace g2 := g2.k k11_12
  exact ⟨_, rfl, .mk' g1 g2, hs.b⟩
theorem rgFirst_yes (ha : PN w va x l y m) (hl : l ≤ 40000000) (hm : m ≤ 40000000) (h1 : 0 < x) (h2 : 0 ≤ y) :
    Calls Tryz.prog 80 #[va] w fun e w' => e = .returned (.bool true) ∧ Below w.heap.size w w' := by
  have hs := sign3' x
  have ht := sign3' y
  have hs1 : (0 < x.sign) = True := eq_true (Int.sign_pos_iff.2 h1)
  have ht1 : (0 ≤ y.sign) = True := eq_true (Int.sign_nonneg_iff.2 h2)
  obtain ⟨S, hS⟩ : ∃ S, x.sign = S := ⟨_, rfl⟩
  obtain ⟨T, hT⟩ : ∃ T, y.sign = T := ⟨_, rfl⟩
  rw [hS] at hs1
  rw [hT] at ht1
  have HS := hide hS
  have HT := hide hT
  clear hS hT hs ht h1 h2
  obtain ⟨n_0a, o_0a, k_0a, c_0a, n_0b, o_0b, k_0b, c_0b, rfl, ha1, ha2⟩ := ha
  go_enter Tryz.func80, Tryz.ntmps80
  have hs := St.nil w
  refine wp_seq_k ?_
  intro K1 hK1
  refine rg [0, 1] ?_
  refine sq ?_
  refine .al hs ?_; clear hs; intro p_b1 w_1 hs n1 kb_b1
  refine sq ?_
  refine .mv ?_
  apply wpSq_end
  refine hK1 _ _ ?_
  refine wp_seq_k ?_
  intro K2 hK2
  refine rg [0, 1, 2, 3, 4, 5, 6, 7, 8, 9, 10] ?_
  refine sq ?_
  refine .r0 ?_
  refine sq ?_
  refine .r4 hs.g0.f4 ?_
  refine sq ?_
  intro K hK
  have k0_1 := kb n1
  replace ha1 := ha1.k k0_1
  go_big_op
  go_fit (rzsign_any ha1 (by omega) )
  rintro e w_2 ⟨rfl, hb_2⟩
  replace hs := hs.bl hb_2
  rw [HS.out]
  refine hK _ _ rfl trivial ?_
  clear hK K
  refine sq ?_
  refine .r0 ?_
  refine sq ?_
  refine .mv ?_
  refine sq ?_
  refine .r0 ?_
  refine sq ?_
  refine .r4 hs.g0.f4 ?_
  refine sq ?_
  intro K hK
  have k0_2 := k0_1.b hb_2
  replace ha2 := ha2.k k0_2
  go_big_op
  go_fit (rzsign_any ha2 (by omega) )
  rintro e w_3 ⟨rfl, hb_3⟩
  replace hs := hs.bl hb_3
  rw [HT.out]
  refine hK _ _ rfl trivial ?_
  clear hK K
  refine sq ?_
  refine .r0 ?_
  refine sq ?_
  refine .r0 ?_
  refine sq ?_
  refine .mv ?_
  apply wpSq_end
  refine hK2 _ _ ?_
  refine wp_ret ?_
  try dsimp only [Exit.then, Exit.inBlock]
  refine bodyPost_ret (v := (.bool true)) (by simp [results, Tryz.results80, go_sem]) rfl ?_
  have hb := hs.b
  exact ⟨rfl, hb⟩
theorem rgFirst_no1 (ha : PN w va x l y m) (hl : l ≤ 40000000) (hm : m ≤ 40000000) (h1 : ¬ 0 < x) :
    Calls Tryz.prog 80 #[va] w fun e w' => e = .returned (.bool false) ∧ Below w.heap.size w w' := by
  have hs := sign3' x
  have ht := sign3' y
  have hs1 : (0 < x.sign) = False := eq_false (by rw [Int.sign_pos_iff]; exact h1)
  obtain ⟨S, hS⟩ : ∃ S, x.sign = S := ⟨_, rfl⟩
  obtain ⟨T, hT⟩ : ∃ T, y.sign = T := ⟨_, rfl⟩
  rw [hS] at hs1
  have HS := hide hS
  have HT := hide hT
  clear hS hT hs ht h1
  obtain ⟨n_0a, o_0a, k_0a, c_0a, n_0b, o_0b, k_0b, c_0b, rfl, ha1, ha2⟩ := ha
  go_enter Tryz.func80, Tryz.ntmps80
  have hs := St.nil w
  refine wp_seq_k ?_
  intro K1 hK1
  refine rg [0, 1] ?_
  refine sq ?_
  refine .al hs ?_; clear hs; intro p_b1 w_1 hs n1 kb_b1
  refine sq ?_
  refine .mv ?_
  apply wpSq_end
  refine hK1 _ _ ?_
  refine wp_seq_k ?_
  intro K2 hK2
  refine rg [0, 1, 2, 3, 4, 5, 6, 7, 8, 9, 10] ?_
  refine sq ?_
  refine .r0 ?_
  refine sq ?_
  refine .r4 hs.g0.f4 ?_
  refine sq ?_
  intro K hK
  have k0_1 := kb n1
  replace ha1 := ha1.k k0_1
  go_big_op
  go_fit (rzsign_any ha1 (by omega) )
  rintro e w_2 ⟨rfl, hb_2⟩
  replace hs := hs.bl hb_2
  rw [HS.out]
  refine hK _ _ rfl trivial ?_
  clear hK K
  refine sq ?_
  refine .r0 ?_
  refine sq ?_
  refine .mv ?_
  refine sk ?_
  refine sk ?_
  refine sk ?_
  refine sk ?_
  refine sq ?_
  refine .r0 ?_
  refine sq ?_
  refine .mv ?_
  apply wpSq_end
  refine hK2 _ _ ?_
  refine wp_ret ?_
  try dsimp only [Exit.then, Exit.inBlock]
  refine bodyPost_ret (v := (.bool false)) (by simp [results, Tryz.results80, go_sem]) rfl ?_
  have hb := hs.b
  exact ⟨rfl, hb⟩
theorem rgFirst_no2 (ha : PN w va x l y m) (hl : l ≤ 40000000) (hm : m ≤ 40000000) (h1 : 0 < x) (h2 : ¬ 0 ≤ y) :
    Calls Tryz.prog 80 #[va] w fun e w' => e = .returned (.bool false) ∧ Below w.heap.size w w' := by
  have hs := sign3' x
  have ht := sign3' y
  have hs1 : (0 < x.sign) = True := eq_true (Int.sign_pos_iff.2 h1)
  have ht1 : (0 ≤ y.sign) = False := eq_false (by rw [Int.sign_nonneg_iff]; exact h2)
  obtain ⟨S, hS⟩ : ∃ S, x.sign = S := ⟨_, rfl⟩
  obtain ⟨T, hT⟩ : ∃ T, y.sign = T := ⟨_, rfl⟩
  rw [hS] at hs1
  rw [hT] at ht1
  have HS := hide hS
  have HT := hide hT
  clear hS hT hs ht h1 h2
  obtain ⟨n_0a, o_0a, k_0a, c_0a, n_0b, o_0b, k_0b, c_0b, rfl, ha1, ha2⟩ := ha
  go_enter Tryz.func80, Tryz.ntmps80
  have hs := St.nil w
  refine wp_seq_k ?_
  intro K1 hK1
  refine rg [0, 1] ?_
  refine sq ?_
  refine .al hs ?_; clear hs; intro p_b1 w_1 hs n1 kb_b1
  refine sq ?_
  refine .mv ?_
  apply wpSq_end
  refine hK1 _ _ ?_
  refine wp_seq_k ?_
  intro K2 hK2
  refine rg [0, 1, 2, 3, 4, 5, 6, 7, 8, 9, 10] ?_
  refine sq ?_
  refine .r0 ?_
  refine sq ?_
  refine .r4 hs.g0.f4 ?_
  refine sq ?_
  intro K hK
  have k0_1 := kb n1
  replace ha1 := ha1.k k0_1
  go_big_op
  go_fit (rzsign_any ha1 (by omega) )
  rintro e w_2 ⟨rfl, hb_2⟩
  replace hs := hs.bl hb_2
  rw [HS.out]
  refine hK _ _ rfl trivial ?_
  clear hK K
  refine sq ?_
  refine .r0 ?_
  refine sq ?_
  refine .mv ?_
  refine sq ?_
  refine .r0 ?_
  refine sq ?_
  refine .r4 hs.g0.f4 ?_
  refine sq ?_
  intro K hK
  have k0_2 := k0_1.b hb_2
  replace ha2 := ha2.k k0_2
  go_big_op
  go_fit (rzsign_any ha2 (by omega) )
  rintro e w_3 ⟨rfl, hb_3⟩
  replace hs := hs.bl hb_3
  rw [HT.out]
  refine hK _ _ rfl trivial ?_
  clear hK K
  refine sq ?_
  refine .r0 ?_
  refine sq ?_
  refine .r0 ?_
  refine sq ?_
  refine .mv ?_
  apply wpSq_end
  refine hK2 _ _ ?_
  refine wp_ret ?_
  try dsimp only [Exit.then, Exit.inBlock]
  refine bodyPost_ret (v := (.bool false)) (by simp [results, Tryz.results80, go_sem]) rfl ?_
  have hb := hs.b
  exact ⟨rfl, hb⟩
theorem rgFirst_any (ha : PN w va x l y m) (hl : l ≤ 40000000) (hm : m ≤ 40000000) :
    Calls Tryz.prog 80 #[va] w fun e w' => e = .returned (.bool (decide (0 < x ∧ 0 ≤ y))) ∧ Below w.heap.size w w' := by
  by_cases h1 : 0 < x
  · by_cases h2 : 0 ≤ y
    · rw [decide_eq_true (And.intro h1 h2)]; exact rgFirst_yes ha hl hm h1 h2
    · rw [decide_eq_false (fun c => h2 c.2)]; exact rgFirst_no2 ha hl hm h1 h2
  · rw [decide_eq_false (fun c => h1 c.1)]; exact rgFirst_no1 ha hl hm h1
theorem rgCanon_0 (ha : PN w va x l y m) (hl : l ≤ 20000000) (hm : m ≤ 20000000) (hx : 0 < x ∧ 0 ≤ y) :
    Calls Tryz.prog 36 #[va] w fun e w' => ∃ r, e = .returned (.tuple #[r, .int .i64 0]) ∧ PC w' r (turn 0 (x, y)).1 (turn 0 (x, y)).2 ∧ Below w.heap.size w w' := by
  have L0 := hide (zlen_turn ha.len1 ha.len2 0)
  have F0 := hide (decide_eq_true (p := 0 < (turn 0 (x, y)).1 ∧ 0 ≤ (turn 0 (x, y)).2) (by simp only [turn_0]; omega))
  clear hx
  obtain ⟨n_0a, o_0a, k_0a, c_0a, n_0b, o_0b, k_0b, c_0b, rfl, ha1, ha2⟩ := ha
  go_enter Tryz.func36, Tryz.ntmps36
  have hs := St.nil w
  refine wp_seq_k ?_
  intro K1 hK1
  refine rg [0, 1, 2] ?_
  refine sq ?_
  refine .al hs ?_; clear hs; intro p_b1 w_1 hs n1 kb_b1
  refine sq ?_
  refine .al hs ?_; clear hs; intro p_b2 w_2 hs n2 kb_b2
  refine sq ?_
  refine .mv ?_
  apply wpSq_end
  refine hK1 _ _ ?_
  refine wp_seq_k ?_
  intro K2 hK2
  refine wp_seq_k ?_
  intro K3 hK3
  refine rg [0] ?_
  refine sq ?_
  refine .mv ?_
  apply wpSq_end
  refine hK3 _ _ ?_
  refine wp_block ?_
  refine wp_loop_rounds 5 ?_
  show Code.wp _ _ _ _ _
  refine wp_seq_k ?_
  intro K4 hK4
  refine wp_seq_k ?_
  intro K5 hK5
  refine rg [0, 1] ?_
  refine sq ?_
  refine .mv ?_
  refine sq ?_
  refine .r0 ?_
  apply wpSq_end
  refine hK5 _ _ ?_
  refine ct ?_
  refine wp_skip ?_
  refine hK4 _ _ ?_
  refine wp_seq_k ?_
  intro K6 hK6
  refine wp_block ?_
  refine wp_seq_k ?_
  intro K7 hK7
  refine rg [0, 1, 2, 3, 4] ?_
  refine sq ?_
  refine .r4 hs.g1.f4 ?_
  refine sq ?_
  refine .mv ?_
  refine sq ?_
  intro K hK
  have k0_2 := (kb n1).b n2
  replace ha1 := ha1.k k0_2
  replace ha2 := ha2.k k0_2
  go_big_op
  go_fit (rgTurn_p0 0 (by decide) (PN.mk' ha1 ha2) (by omega) (by omega))
  rintro e w_3 ⟨_, rfl, ⟨n_g0a, o_g0a, k_g0a, c_g0a, n_g0b, o_g0b, k_g0b, c_g0b, rfl, g01, g02⟩, hb_3⟩
  replace hs := hs.bl hb_3
  refine hK _ _ rfl trivial ?_
  clear hK K
  refine sq ?_
  refine .al hs ?_; clear hs; intro p_b3 w_4 hs n4 kb_b3
  refine sq ?_
  refine .s4 hs.g0 (fun _ => hs.u0 kb_b3) ?_; clear hs; intro w_5 hs hd5 ho5
  apply wpSq_end
  refine hK7 _ _ ?_
  refine wp_seq_k ?_
  intro K8 hK8
  refine rg [0, 1] ?_
  refine sq ?_
  refine .r4 hs.g0.f4 ?_
  refine sq ?_
  intro K hK
  have k3_5 := (kb n4).o hd5 ho5
  replace g01 := g01.k k3_5
  replace g02 := g02.k k3_5
  go_big_op
  go_fit (rgFirst_any (.mk' (g01.zn L0.out.1) (g02.zn L0.out.2)) (by omega) (by omega))
  rintro e w_6 ⟨rfl, hb_6⟩
  replace hs := hs.bl hb_6
  rw [F0.out]
  refine hK _ _ rfl trivial ?_
  clear hK K
  apply wpSq_end
  refine hK8 _ _ ?_
  refine ct ?_
  refine wp_seq_k ?_
  intro K9 hK9
  refine rg [0, 1, 2, 3] ?_
  refine sq ?_
  refine .r4 hs.g0.f4 ?_
  refine sq ?_
  refine .mv ?_
  refine sq ?_
  refine .s4 hs.g1 (fun _ => hs.u1 kb_b2) ?_; clear hs; intro w_7 hs hd7 ho7
  refine sq ?_
  refine .mv ?_
  apply wpSq_end
  refine hK9 _ _ ?_
  refine wp_ret ?_
  try dsimp only [Exit.then, Exit.inBlock]
  obtain ⟨r0_0, r0_1, r0_2, r0_3⟩ := hs.g1.f4
  refine bodyPost_ret (v := (.tuple #[(.agg #[.bool n_g0a, .slice o_g0a k_g0a c_g0a, .bool n_g0b, .slice o_g0b k_g0b c_g0b]), (.int .i64 0)])) (by simp [results, Tryz.results36, go_sem, r0_0, r0_1, r0_2, r0_3]) rfl ?_
  have k5_7 := (kb hb_6).o hd7 ho7
  replace g01 := g01.k k5_7
  replace g02 := g02.k k5_7
  exact ⟨_, rfl, .mk' g01 g02, hs.b⟩
theorem rgCanon_1 (ha : PN w va x l y m) (hl : l ≤ 20000000) (hm : m ≤ 20000000) (hx : y < 0 ∧ 0 ≤ x) :
    Calls Tryz.prog 36 #[va] w fun e w' => ∃ r, e = .returned (.tuple #[r, .int .i64 1]) ∧ PC w' r (turn 1 (x, y)).1 (turn 1 (x, y)).2 ∧ Below w.heap.size w w' := by
  have L0 := hide (zlen_turn ha.len1 ha.len2 0)
  have F0 := hide (decide_eq_false (p := 0 < (turn 0 (x, y)).1 ∧ 0 ≤ (turn 0 (x, y)).2) (by simp only [turn_0]; omega))
  have L1 := hide (zlen_turn ha.len1 ha.len2 1)
  have F1 := hide (decide_eq_true (p := 0 < (turn 1 (x, y)).1 ∧ 0 ≤ (turn 1 (x, y)).2) (by simp only [turn_1]; omega))
  clear hx
  obtain ⟨n_0a, o_0a, k_0a, c_0a, n_0b, o_0b, k_0b, c_0b, rfl, ha1, ha2⟩ := ha
  go_enter Tryz.func36, Tryz.ntmps36
  have hs := St.nil w
  refine wp_seq_k ?_
  intro K1 hK1
  refine rg [0, 1, 2] ?_
  refine sq ?_
  refine .al hs ?_; clear hs; intro p_b1 w_1 hs n1 kb_b1
  refine sq ?_
  refine .al hs ?_; clear hs; intro p_b2 w_2 hs n2 kb_b2
  refine sq ?_
  refine .mv ?_
  apply wpSq_end
  refine hK1 _ _ ?_
  refine wp_seq_k ?_
  intro K2 hK2
  refine wp_seq_k ?_
  intro K3 hK3
  refine rg [0] ?_
  refine sq ?_
  refine .mv ?_
  apply wpSq_end
  refine hK3 _ _ ?_
  refine wp_block ?_
  refine wp_loop_rounds 5 ?_
  show Code.wp _ _ _ _ _
  refine wp_seq_k ?_
  intro K4 hK4
  refine wp_seq_k ?_
  intro K5 hK5
  refine rg [0, 1] ?_
  refine sq ?_
  refine .mv ?_
  refine sq ?_
  refine .r0 ?_
  apply wpSq_end
  refine hK5 _ _ ?_
  refine ct ?_
  refine wp_skip ?_
  refine hK4 _ _ ?_
  refine wp_seq_k ?_
  intro K6 hK6
  refine wp_block ?_
  refine wp_seq_k ?_
  intro K7 hK7
  refine rg [0, 1, 2, 3, 4] ?_
  refine sq ?_
  refine .r4 hs.g1.f4 ?_
  refine sq ?_
  refine .mv ?_
  refine sq ?_
  intro K hK
  have k0_2 := (kb n1).b n2
  replace ha1 := ha1.k k0_2
  replace ha2 := ha2.k k0_2
  go_big_op
  go_fit (rgTurn_p0 0 (by decide) (PN.mk' ha1 ha2) (by omega) (by omega))
  rintro e w_3 ⟨_, rfl, ⟨n_g0a, o_g0a, k_g0a, c_g0a, n_g0b, o_g0b, k_g0b, c_g0b, rfl, g01, g02⟩, hb_3⟩
  replace hs := hs.bl hb_3
  refine hK _ _ rfl trivial ?_
  clear hK K
  refine sq ?_
  refine .al hs ?_; clear hs; intro p_b3 w_4 hs n4 kb_b3
  refine sq ?_
  refine .s4 hs.g0 (fun _ => hs.u0 kb_b3) ?_; clear hs; intro w_5 hs hd5 ho5
  apply wpSq_end
  refine hK7 _ _ ?_
  refine wp_seq_k ?_
  intro K8 hK8
  refine rg [0, 1] ?_
  refine sq ?_
  refine .r4 hs.g0.f4 ?_
  refine sq ?_
  intro K hK
  have k3_5 := (kb n4).o hd5 ho5
  replace g01 := g01.k k3_5
  replace g02 := g02.k k3_5
  go_big_op
  go_fit (rgFirst_any (.mk' (g01.zn L0.out.1) (g02.zn L0.out.2)) (by omega) (by omega))
  rintro e w_6 ⟨rfl, hb_6⟩
  replace hs := hs.bl hb_6
  rw [F0.out]
  refine hK _ _ rfl trivial ?_
  clear hK K
  apply wpSq_end
  refine hK8 _ _ ?_
  refine cf ?_
  refine wp_skip ?_
  refine hK6 _ _ ?_
  refine rg [0, 1, 2] ?_
  refine sq ?_
  refine .mv ?_
  refine sq ?_
  refine .r0 ?_
  refine sq ?_
  refine .mv ?_
  apply wpSq_end
  show Code.wp _ _ _ _ _
  refine wp_seq_k ?_
  intro K9 hK9
  refine wp_seq_k ?_
  intro K10 hK10
  refine rg [0, 1] ?_
  refine sq ?_
  refine .mv ?_
  refine sq ?_
  refine .r0 ?_
  apply wpSq_end
  refine hK10 _ _ ?_
  refine ct ?_
  refine wp_skip ?_
  refine hK9 _ _ ?_
  refine wp_seq_k ?_
  intro K11 hK11
  refine wp_block ?_
  refine wp_seq_k ?_
  intro K12 hK12
  refine rg [0, 1, 2, 3, 4] ?_
  refine sq ?_
  refine .r4 hs.g2.f4 ?_
  refine sq ?_
  refine .mv ?_
  refine sq ?_
  intro K hK
  have k2_6 := (((kb hb_3).b n4).o hd5 ho5).b hb_6
  replace ha1 := ha1.k k2_6
  replace ha2 := ha2.k k2_6
  go_big_op
  go_fit (rgTurn_p1 1 (by decide) (PN.mk' ha1 ha2) (by omega) (by omega))
  rintro e w_7 ⟨_, rfl, ⟨n_g1a, o_g1a, k_g1a, c_g1a, n_g1b, o_g1b, k_g1b, c_g1b, rfl, g11, g12⟩, hb_7⟩
  replace hs := hs.bl hb_7
  refine hK _ _ rfl trivial ?_
  clear hK K
  refine sq ?_
  refine .al hs ?_; clear hs; intro p_b4 w_8 hs n8 kb_b4
  refine sq ?_
  refine .s4 hs.g0 (fun _ => hs.u0 kb_b4) ?_; clear hs; intro w_9 hs hd9 ho9
  apply wpSq_end
  refine hK12 _ _ ?_
  refine wp_seq_k ?_
  intro K13 hK13
  refine rg [0, 1] ?_
  refine sq ?_
  refine .r4 hs.g0.f4 ?_
  refine sq ?_
  intro K hK
  have k7_9 := (kb n8).o hd9 ho9
  replace g11 := g11.k k7_9
  replace g12 := g12.k k7_9
  go_big_op
  go_fit (rgFirst_any (.mk' (g11.zn L1.out.1) (g12.zn L1.out.2)) (by omega) (by omega))
  rintro e w_10 ⟨rfl, hb_10⟩
  replace hs := hs.bl hb_10
  rw [F1.out]
  refine hK _ _ rfl trivial ?_
  clear hK K
  apply wpSq_end
  refine hK13 _ _ ?_
  refine ct ?_
  refine wp_seq_k ?_
  intro K14 hK14
  refine rg [0, 1, 2, 3] ?_
  refine sq ?_
  refine .r4 hs.g0.f4 ?_
  refine sq ?_
  refine .mv ?_
  refine sq ?_
  refine .s4 hs.g2 (fun _ => hs.u2 kb_b2) ?_; clear hs; intro w_11 hs hd11 ho11
  refine sq ?_
  refine .mv ?_
  apply wpSq_end
  refine hK14 _ _ ?_
  refine wp_ret ?_
  try dsimp only [Exit.then, Exit.inBlock]
  obtain ⟨r0_0, r0_1, r0_2, r0_3⟩ := hs.g2.f4
  refine bodyPost_ret (v := (.tuple #[(.agg #[.bool n_g1a, .slice o_g1a k_g1a c_g1a, .bool n_g1b, .slice o_g1b k_g1b c_g1b]), (.int .i64 1)])) (by simp [results, Tryz.results36, go_sem, r0_0, r0_1, r0_2, r0_3]) rfl ?_
  have k9_11 := (kb hb_10).o hd11 ho11
  replace g11 := g11.k k9_11
  replace g12 := g12.k k9_11
  exact ⟨_, rfl, .mk' g11 g12, hs.b⟩
theorem rgCanon_2 (ha : PN w va x l y m) (hl : l ≤ 20000000) (hm : m ≤ 20000000) (hx : x < 0 ∧ y ≤ 0) :
    Calls Tryz.prog 36 #[va] w fun e w' => ∃ r, e = .returned (.tuple #[r, .int .i64 2]) ∧ PC w' r (turn 2 (x, y)).1 (turn 2 (x, y)).2 ∧ Below w.heap.size w w' := by
  have L0 := hide (zlen_turn ha.len1 ha.len2 0)
  have F0 := hide (decide_eq_false (p := 0 < (turn 0 (x, y)).1 ∧ 0 ≤ (turn 0 (x, y)).2) (by simp only [turn_0]; omega))
  have L1 := hide (zlen_turn ha.len1 ha.len2 1)
  have F1 := hide (decide_eq_false (p := 0 < (turn 1 (x, y)).1 ∧ 0 ≤ (turn 1 (x, y)).2) (by simp only [turn_1]; omega))
  have L2 := hide (zlen_turn ha.len1 ha.len2 2)
  have F2 := hide (decide_eq_true (p := 0 < (turn 2 (x, y)).1 ∧ 0 ≤ (turn 2 (x, y)).2) (by simp only [turn_2]; omega))
  clear hx
  obtain ⟨n_0a, o_0a, k_0a, c_0a, n_0b, o_0b, k_0b, c_0b, rfl, ha1, ha2⟩ := ha
  go_enter Tryz.func36, Tryz.ntmps36
  have hs := St.nil w
  refine wp_seq_k ?_
  intro K1 hK1
  refine rg [0, 1, 2] ?_
  refine sq ?_
  refine .al hs ?_; clear hs; intro p_b1 w_1 hs n1 kb_b1
  refine sq ?_
  refine .al hs ?_; clear hs; intro p_b2 w_2 hs n2 kb_b2
  refine sq ?_
  refine .mv ?_
  apply wpSq_end
  refine hK1 _ _ ?_
  refine wp_seq_k ?_
  intro K2 hK2
  refine wp_seq_k ?_
  intro K3 hK3
  refine rg [0] ?_
  refine sq ?_
  refine .mv ?_
  apply wpSq_end
  refine hK3 _ _ ?_
  refine wp_block ?_
  refine wp_loop_rounds 5 ?_
  show Code.wp _ _ _ _ _
  refine wp_seq_k ?_
  intro K4 hK4
  refine wp_seq_k ?_
  intro K5 hK5
  refine rg [0, 1] ?_
  refine sq ?_
  refine .mv ?_
  refine sq ?_
  refine .r0 ?_
  apply wpSq_end
  refine hK5 _ _ ?_
  refine ct ?_
  refine wp_skip ?_
  refine hK4 _ _ ?_
  refine wp_seq_k ?_
  intro K6 hK6
  refine wp_block ?_
  refine wp_seq_k ?_
  intro K7 hK7
  refine rg [0, 1, 2, 3, 4] ?_
  refine sq ?_
  refine .r4 hs.g1.f4 ?_
  refine sq ?_
  refine .mv ?_
  refine sq ?_
  intro K hK
  have k0_2 := (kb n1).b n2
  replace ha1 := ha1.k k0_2
  replace ha2 := ha2.k k0_2
  go_big_op
  go_fit (rgTurn_p0 0 (by decide) (PN.mk' ha1 ha2) (by omega) (by omega))
  rintro e w_3 ⟨_, rfl, ⟨n_g0a, o_g0a, k_g0a, c_g0a, n_g0b, o_g0b, k_g0b, c_g0b, rfl, g01, g02⟩, hb_3⟩
  replace hs := hs.bl hb_3
  refine hK _ _ rfl trivial ?_
  clear hK K
  refine sq ?_
  refine .al hs ?_; clear hs; intro p_b3 w_4 hs n4 kb_b3
  refine sq ?_
  refine .s4 hs.g0 (fun _ => hs.u0 kb_b3) ?_; clear hs; intro w_5 hs hd5 ho5
  apply wpSq_end
  refine hK7 _ _ ?_
  refine wp_seq_k ?_
  intro K8 hK8
  refine rg [0, 1] ?_
  refine sq ?_
  refine .r4 hs.g0.f4 ?_
  refine sq ?_
  intro K hK
  have k3_5 := (kb n4).o hd5 ho5
  replace g01 := g01.k k3_5
  replace g02 := g02.k k3_5
  go_big_op
  go_fit (rgFirst_any (.mk' (g01.zn L0.out.1) (g02.zn L0.out.2)) (by omega) (by omega))
  rintro e w_6 ⟨rfl, hb_6⟩
  replace hs := hs.bl hb_6
  rw [F0.out]
  refine hK _ _ rfl trivial ?_
  clear hK K
  apply wpSq_end
  refine hK8 _ _ ?_
  refine cf ?_
  refine wp_skip ?_
  refine hK6 _ _ ?_
  refine rg [0, 1, 2] ?_
  refine sq ?_
  refine .mv ?_
  refine sq ?_
  refine .r0 ?_
  refine sq ?_
  refine .mv ?_
  apply wpSq_end
  show Code.wp _ _ _ _ _
  refine wp_seq_k ?_
  intro K9 hK9
  refine wp_seq_k ?_
  intro K10 hK10
  refine rg [0, 1] ?_
  refine sq ?_
  refine .mv ?_
  refine sq ?_
  refine .r0 ?_
  apply wpSq_end
  refine hK10 _ _ ?_
  refine ct ?_
  refine wp_skip ?_
  refine hK9 _ _ ?_
  refine wp_seq_k ?_
  intro K11 hK11
  refine wp_block ?_
  refine wp_seq_k ?_
  intro K12 hK12
  refine rg [0, 1, 2, 3, 4] ?_
  refine sq ?_
  refine .r4 hs.g2.f4 ?_
  refine sq ?_
  refine .mv ?_
  refine sq ?_
  intro K hK
  have k2_6 := (((kb hb_3).b n4).o hd5 ho5).b hb_6
  replace ha1 := ha1.k k2_6
  replace ha2 := ha2.k k2_6
  go_big_op
  go_fit (rgTurn_p1 1 (by decide) (PN.mk' ha1 ha2) (by omega) (by omega))
  rintro e w_7 ⟨_, rfl, ⟨n_g1a, o_g1a, k_g1a, c_g1a, n_g1b, o_g1b, k_g1b, c_g1b, rfl, g11, g12⟩, hb_7⟩
  replace hs := hs.bl hb_7
  refine hK _ _ rfl trivial ?_
  clear hK K
  refine sq ?_
  refine .al hs ?_; clear hs; intro p_b4 w_8 hs n8 kb_b4
  refine sq ?_
  refine .s4 hs.g0 (fun _ => hs.u0 kb_b4) ?_; clear hs; intro w_9 hs hd9 ho9
  apply wpSq_end
  refine hK12 _ _ ?_
  refine wp_seq_k ?_
  intro K13 hK13
  refine rg [0, 1] ?_
  refine sq ?_
  refine .r4 hs.g0.f4 ?_
  refine sq ?_
  intro K hK
  have k7_9 := (kb n8).o hd9 ho9
  replace g11 := g11.k k7_9
  replace g12 := g12.k k7_9
  go_big_op
  go_fit (rgFirst_any (.mk' (g11.zn L1.out.1) (g12.zn L1.out.2)) (by omega) (by omega))
  rintro e w_10 ⟨rfl, hb_10⟩
  replace hs := hs.bl hb_10
  rw [F1.out]
  refine hK _ _ rfl trivial ?_
  clear hK K
  apply wpSq_end
  refine hK13 _ _ ?_
  refine cf ?_
  refine wp_skip ?_
  refine hK11 _ _ ?_
  refine rg [0, 1, 2] ?_
  refine sq ?_
  refine .mv ?_
  refine sq ?_
  refine .r0 ?_
  refine sq ?_
  refine .mv ?_
  apply wpSq_end
  show Code.wp _ _ _ _ _
  refine wp_seq_k ?_
  intro K14 hK14
  refine wp_seq_k ?_
  intro K15 hK15
  refine rg [0, 1] ?_
  refine sq ?_
  refine .mv ?_
  refine sq ?_
  refine .r0 ?_
  apply wpSq_end
  refine hK15 _ _ ?_
  refine ct ?_
  refine wp_skip ?_
  refine hK14 _ _ ?_
  refine wp_seq_k ?_
  intro K16 hK16
  refine wp_block ?_
  refine wp_seq_k ?_
  intro K17 hK17
  refine rg [0, 1, 2, 3, 4] ?_
  refine sq ?_
  refine .r4 hs.g3.f4 ?_
  refine sq ?_
  refine .mv ?_
  refine sq ?_
  intro K hK
  have k6_10 := (((kb hb_7).b n8).o hd9 ho9).b hb_10
  replace ha1 := ha1.k k6_10
  replace ha2 := ha2.k k6_10
  go_big_op
  go_fit (rgTurn_p2 2 (by decide) (PN.mk' ha1 ha2) (by omega) (by omega))
  rintro e w_11 ⟨_, rfl, ⟨n_g2a, o_g2a, k_g2a, c_g2a, n_g2b, o_g2b, k_g2b, c_g2b, rfl, g21, g22⟩, hb_11⟩
  replace hs := hs.bl hb_11
  refine hK _ _ rfl trivial ?_
  clear hK K
  refine sq ?_
  refine .al hs ?_; clear hs; intro p_b5 w_12 hs n12 kb_b5
  refine sq ?_
  refine .s4 hs.g0 (fun _ => hs.u0 kb_b5) ?_; clear hs; intro w_13 hs hd13 ho13
  apply wpSq_end
  refine hK17 _ _ ?_
  refine wp_seq_k ?_
  intro K18 hK18
  refine rg [0, 1] ?_
  refine sq ?_
  refine .r4 hs.g0.f4 ?_
  refine sq ?_
  intro K hK
  have k11_13 := (kb n12).o hd13 ho13
  replace g21 := g21.k k11_13
  replace g22 := g22.k k11_13
  go_big_op
  go_fit (rgFirst_any (.mk' (g21.zn L2.out.1) (g22.zn L2.out.2)) (by omega) (by omega))
  rintro e w_14 ⟨rfl, hb_14⟩
  replace hs := hs.bl hb_14
  rw [F2.out]
  refine hK _ _ rfl trivial ?_
  clear hK K
  apply wpSq_end
  refine hK18 _ _ ?_
  refine ct ?_
  refine wp_seq_k ?_
  intro K19 hK19
  refine rg [0, 1, 2, 3] ?_
  refine sq ?_
  refine .r4 hs.g0.f4 ?_
  refine sq ?_
  refine .mv ?_
  refine sq ?_
  refine .s4 hs.g3 (fun _ => hs.u3 kb_b2) ?_; clear hs; intro w_15 hs hd15 ho15
  refine sq ?_
  refine .mv ?_
  apply wpSq_end
  refine hK19 _ _ ?_
  refine wp_ret ?_
  try dsimp only [Exit.then, Exit.inBlock]
  obtain ⟨r0_0, r0_1, r0_2, r0_3⟩ := hs.g3.f4
  refine bodyPost_ret (v := (.tuple #[(.agg #[.bool n_g2a, .slice o_g2a k_g2a c_g2a, .bool n_g2b, .slice o_g2b k_g2b c_g2b]), (.int .i64 2)])) (by simp [results, Tryz.results36, go_sem, r0_0, r0_1, r0_2, r0_3]) rfl ?_
  have k13_15 := (kb hb_14).o hd15 ho15
  replace g21 := g21.k k13_15
  replace g22 := g22.k k13_15
  exact ⟨_, rfl, .mk' g21 g22, hs.b⟩
theorem rgCanon_3 (ha : PN w va x l y m) (hl : l ≤ 20000000) (hm : m ≤ 20000000) (hx : 0 < y ∧ x ≤ 0) :
    Calls Tryz.prog 36 #[va] w fun e w' => ∃ r, e = .returned (.tuple #[r, .int .i64 3]) ∧ PC w' r (turn 3 (x, y)).1 (turn 3 (x, y)).2 ∧ Below w.heap.size w w' := by
  have L0 := hide (zlen_turn ha.len1 ha.len2 0)
  have F0 := hide (decide_eq_false (p := 0 < (turn 0 (x, y)).1 ∧ 0 ≤ (turn 0 (x, y)).2) (by simp only [turn_0]; omega))
  have L1 := hide (zlen_turn ha.len1 ha.len2 1)
  have F1 := hide (decide_eq_false (p := 0 < (turn 1 (x, y)).1 ∧ 0 ≤ (turn 1 (x, y)).2) (by simp only [turn_1]; omega))
  have L2 := hide (zlen_turn ha.len1 ha.len2 2)
  have F2 := hide (decide_eq_false (p := 0 < (turn 2 (x, y)).1 ∧ 0 ≤ (turn 2 (x, y)).2) (by simp only [turn_2]; omega))
  have L3 := hide (zlen_turn ha.len1 ha.len2 3)
  have F3 := hide (decide_eq_true (p := 0 < (turn 3 (x, y)).1 ∧ 0 ≤ (turn 3 (x, y)).2) (by simp only [turn_3]; omega))
  clear hx
  obtain ⟨n_0a, o_0a, k_0a, c_0a, n_0b, o_0b, k_0b, c_0b, rfl, ha1, ha2⟩ := ha
  go_enter Tryz.func36, Tryz.ntmps36
  have hs := St.nil w
  refine wp_seq_k ?_
  intro K1 hK1
  refine rg [0, 1, 2] ?_
  refine sq ?_
  refine .al hs ?_; clear hs; intro p_b1 w_1 hs n1 kb_b1
  refine sq ?_
  refine .al hs ?_; clear hs; intro p_b2 w_2 hs n2 kb_b2
  refine sq ?_
  refine .mv ?_
  apply wpSq_end
  refine hK1 _ _ ?_
  refine wp_seq_k ?_
  intro K2 hK2
  refine wp_seq_k ?_
  intro K3 hK3
  refine rg [0] ?_
  refine sq ?_
  refine .mv ?_
  apply wpSq_end
  refine hK3 _ _ ?_
  refine wp_block ?_
  refine wp_loop_rounds 5 ?_
  show Code.wp _ _ _ _ _
  refine wp_seq_k ?_
  intro K4 hK4
  refine wp_seq_k ?_
  intro K5 hK5
  refine rg [0, 1] ?_
  refine sq ?_
  refine .mv ?_
  refine sq ?_
  refine .r0 ?_
  apply wpSq_end
  refine hK5 _ _ ?_
  refine ct ?_
  refine wp_skip ?_
  refine hK4 _ _ ?_
  refine wp_seq_k ?_
  intro K6 hK6
  refine wp_block ?_
  refine wp_seq_k ?_
  intro K7 hK7
  refine rg [0, 1, 2, 3, 4] ?_
  refine sq ?_
  refine .r4 hs.g1.f4 ?_
  refine sq ?_
  refine .mv ?_
  refine sq ?_
  intro K hK
  have k0_2 := (kb n1).b n2
  replace ha1 := ha1.k k0_2
  replace ha2 := ha2.k k0_2
  go_big_op
  go_fit (rgTurn_p0 0 (by decide) (PN.mk' ha1 ha2) (by omega) (by omega))
  rintro e w_3 ⟨_, rfl, ⟨n_g0a, o_g0a, k_g0a, c_g0a, n_g0b, o_g0b, k_g0b, c_g0b, rfl, g01, g02⟩, hb_3⟩
  replace hs := hs.bl hb_3
  refine hK _ _ rfl trivial ?_
  clear hK K
  refine sq ?_
  refine .al hs ?_; clear hs; intro p_b3 w_4 hs n4 kb_b3
  refine sq ?_
  refine .s4 hs.g0 (fun _ => hs.u0 kb_b3) ?_; clear hs; intro w_5 hs hd5 ho5
  apply wpSq_end
  refine hK7 _ _ ?_
  refine wp_seq_k ?_
  intro K8 hK8
  refine rg [0, 1] ?_
  refine sq ?_
  refine .r4 hs.g0.f4 ?_
  refine sq ?_
  intro K hK
  have k3_5 := (kb n4).o hd5 ho5
  replace g01 := g01.k k3_5
  replace g02 := g02.k k3_5
  go_big_op
  go_fit (rgFirst_any (.mk' (g01.zn L0.out.1) (g02.zn L0.out.2)) (by omega) (by omega))
  rintro e w_6 ⟨rfl, hb_6⟩
  replace hs := hs.bl hb_6
  rw [F0.out]
  refine hK _ _ rfl trivial ?_
  clear hK K
  apply wpSq_end
  refine hK8 _ _ ?_
  refine cf ?_
  refine wp_skip ?_
  refine hK6 _ _ ?_
  refine rg [0, 1, 2] ?_
  refine sq ?_
  refine .mv ?_
  refine sq ?_
  refine .r0 ?_
  refine sq ?_
  refine .mv ?_
  apply wpSq_end
  show Code.wp _ _ _ _ _
  refine wp_seq_k ?_
  intro K9 hK9
  refine wp_seq_k ?_
  intro K10 hK10
  refine rg [0, 1] ?_
  refine sq ?_
  refine .mv ?_
  refine sq ?_
  refine .r0 ?_
  apply wpSq_end
  refine hK10 _ _ ?_
  refine ct ?_
  refine wp_skip ?_
  refine hK9 _ _ ?_
  refine wp_seq_k ?_
  intro K11 hK11
  refine wp_block ?_
  refine wp_seq_k ?_
  intro K12 hK12
  refine rg [0, 1, 2, 3, 4] ?_
  refine sq ?_
  refine .r4 hs.g2.f4 ?_
  refine sq ?_
  refine .mv ?_
  refine sq ?_
  intro K hK
  have k2_6 := (((kb hb_3).b n4).o hd5 ho5).b hb_6
  replace ha1 := ha1.k k2_6
  replace ha2 := ha2.k k2_6
  go_big_op
  go_fit (rgTurn_p1 1 (by decide) (PN.mk' ha1 ha2) (by omega) (by omega))
  rintro e w_7 ⟨_, rfl, ⟨n_g1a, o_g1a, k_g1a, c_g1a, n_g1b, o_g1b, k_g1b, c_g1b, rfl, g11, g12⟩, hb_7⟩
  replace hs := hs.bl hb_7
  refine hK _ _ rfl trivial ?_
  clear hK K
  refine sq ?_
  refine .al hs ?_; clear hs; intro p_b4 w_8 hs n8 kb_b4
  refine sq ?_
  refine .s4 hs.g0 (fun _ => hs.u0 kb_b4) ?_; clear hs; intro w_9 hs hd9 ho9
  apply wpSq_end
  refine hK12 _ _ ?_
  refine wp_seq_k ?_
  intro K13 hK13
  refine rg [0, 1] ?_
  refine sq ?_
  refine .r4 hs.g0.f4 ?_
  refine sq ?_
  intro K hK
  have k7_9 := (kb n8).o hd9 ho9
  replace g11 := g11.k k7_9
  replace g12 := g12.k k7_9
  go_big_op
  go_fit (rgFirst_any (.mk' (g11.zn L1.out.1) (g12.zn L1.out.2)) (by omega) (by omega))
  rintro e w_10 ⟨rfl, hb_10⟩
  replace hs := hs.bl hb_10
  rw [F1.out]
  refine hK _ _ rfl trivial ?_
  clear hK K
  apply wpSq_end
  refine hK13 _ _ ?_
  refine cf ?_
  refine wp_skip ?_
  refine hK11 _ _ ?_
  refine rg [0, 1, 2] ?_
  refine sq ?_
  refine .mv ?_
  refine sq ?_
  refine .r0 ?_
  refine sq ?_
  refine .mv ?_
  apply wpSq_end
  show Code.wp _ _ _ _ _
  refine wp_seq_k ?_
  intro K14 hK14
  refine wp_seq_k ?_
  intro K15 hK15
  refine rg [0, 1] ?_
  refine sq ?_
  refine .mv ?_
  refine sq ?_
  refine .r0 ?_
  apply wpSq_end
  refine hK15 _ _ ?_
  refine ct ?_
  refine wp_skip ?_
  refine hK14 _ _ ?_
  refine wp_seq_k ?_
  intro K16 hK16
  refine wp_block ?_
  refine wp_seq_k ?_
  intro K17 hK17
  refine rg [0, 1, 2, 3, 4] ?_
  refine sq ?_
  refine .r4 hs.g3.f4 ?_
  refine sq ?_
  refine .mv ?_
  refine sq ?_
  intro K hK
  have k6_10 := (((kb hb_7).b n8).o hd9 ho9).b hb_10
  replace ha1 := ha1.k k6_10
  replace ha2 := ha2.k k6_10
  go_big_op
  go_fit (rgTurn_p2 2 (by decide) (PN.mk' ha1 ha2) (by omega) (by omega))
  rintro e w_11 ⟨_, rfl, ⟨n_g2a, o_g2a, k_g2a, c_g2a, n_g2b, o_g2b, k_g2b, c_g2b, rfl, g21, g22⟩, hb_11⟩
  replace hs := hs.bl hb_11
  refine hK _ _ rfl trivial ?_
  clear hK K
  refine sq ?_
  refine .al hs ?_; clear hs; intro p_b5 w_12 hs n12 kb_b5
  refine sq ?_
  refine .s4 hs.g0 (fun _ => hs.u0 kb_b5) ?_; clear hs; intro w_13 hs hd13 ho13
  apply wpSq_end
  refine hK17 _ _ ?_
  refine wp_seq_k ?_
  intro K18 hK18
  refine rg [0, 1] ?_
  refine sq ?_
  refine .r4 hs.g0.f4 ?_
  refine sq ?_
  intro K hK
  have k11_13 := (kb n12).o hd13 ho13
  replace g21 := g21.k k11_13
  replace g22 := g22.k k11_13
  go_big_op
  go_fit (rgFirst_any (.mk' (g21.zn L2.out.1) (g22.zn L2.out.2)) (by omega) (by omega))
  rintro e w_14 ⟨rfl, hb_14⟩
  replace hs := hs.bl hb_14
  rw [F2.out]
  refine hK _ _ rfl trivial ?_
  clear hK K
  apply wpSq_end
  refine hK18 _ _ ?_
  refine cf ?_
  refine wp_skip ?_
  refine hK16 _ _ ?_
  refine rg [0, 1, 2] ?_
  refine sq ?_
  refine .mv ?_
  refine sq ?_
  refine .r0 ?_
  refine sq ?_
  refine .mv ?_
  apply wpSq_end
  show Code.wp _ _ _ _ _
  refine wp_seq_k ?_
  intro K19 hK19
  refine wp_seq_k ?_
  intro K20 hK20
  refine rg [0, 1] ?_
  refine sq ?_
  refine .mv ?_
  refine sq ?_
  refine .r0 ?_
  apply wpSq_end
  refine hK20 _ _ ?_
  refine ct ?_
  refine wp_skip ?_
  refine hK19 _ _ ?_
  refine wp_seq_k ?_
  intro K21 hK21
  refine wp_block ?_
  refine wp_seq_k ?_
  intro K22 hK22
  refine rg [0, 1, 2, 3, 4] ?_
  refine sq ?_
  refine .r4 hs.g4.f4 ?_
  refine sq ?_
  refine .mv ?_
  refine sq ?_
  intro K hK
  have k10_14 := (((kb hb_11).b n12).o hd13 ho13).b hb_14
  replace ha1 := ha1.k k10_14
  replace ha2 := ha2.k k10_14
  go_big_op
  go_fit (rgTurn_p3 3 (by decide) (PN.mk' ha1 ha2) (by omega) (by omega))
  rintro e w_15 ⟨_, rfl, ⟨n_g3a, o_g3a, k_g3a, c_g3a, n_g3b, o_g3b, k_g3b, c_g3b, rfl, g31, g32⟩, hb_15⟩
  replace hs := hs.bl hb_15
  refine hK _ _ rfl trivial ?_
  clear hK K
  refine sq ?_
  refine .al hs ?_; clear hs; intro p_b6 w_16 hs n16 kb_b6
  refine sq ?_
  refine .s4 hs.g0 (fun _ => hs.u0 kb_b6) ?_; clear hs; intro w_17 hs hd17 ho17
  apply wpSq_end
  refine hK22 _ _ ?_
  refine wp_seq_k ?_
  intro K23 hK23
  refine rg [0, 1] ?_
  refine sq ?_
  refine .r4 hs.g0.f4 ?_
  refine sq ?_
  intro K hK
  have k15_17 := (kb n16).o hd17 ho17
  replace g31 := g31.k k15_17
  replace g32 := g32.k k15_17
  go_big_op
  go_fit (rgFirst_any (.mk' (g31.zn L3.out.1) (g32.zn L3.out.2)) (by omega) (by omega))
  rintro e w_18 ⟨rfl, hb_18⟩
  clear g01 g02 g11 g12 g21 g22
  replace hs := hs.bl hb_18
  rw [F3.out]
  refine hK _ _ rfl trivial ?_
  clear hK K
  apply wpSq_end
  refine hK23 _ _ ?_
  refine ct ?_
  refine wp_seq_k ?_
  intro K24 hK24
  refine rg [0, 1, 2, 3] ?_
  refine sq ?_
  refine .r4 hs.g0.f4 ?_
  refine sq ?_
  refine .mv ?_
  refine sq ?_
  refine .s4 hs.g4 (fun _ => hs.u4 kb_b2) ?_; clear hs; intro w_19 hs hd19 ho19
  refine sq ?_
  refine .mv ?_
  apply wpSq_end
  refine hK24 _ _ ?_
  refine wp_ret ?_
  try dsimp only [Exit.then, Exit.inBlock]
  obtain ⟨r0_0, r0_1, r0_2, r0_3⟩ := hs.g4.f4
  refine bodyPost_ret (v := (.tuple #[(.agg #[.bool n_g3a, .slice o_g3a k_g3a c_g3a, .bool n_g3b, .slice o_g3b k_g3b c_g3b]), (.int .i64 3)])) (by simp [results, Tryz.results36, go_sem, r0_0, r0_1, r0_2, r0_3]) rfl ?_
  have k17_19 := (kb hb_18).o hd19 ho19
  replace g31 := g31.k k17_19
  replace g32 := g32.k k17_19
  exact ⟨_, rfl, .mk' g31 g32, hs.b⟩
theorem rgCanon_4 (ha : PN w va x l y m) (hl : l ≤ 20000000) (hm : m ≤ 20000000) (hx : x = 0 ∧ y = 0) :
    Calls Tryz.prog 36 #[va] w fun e w' => ∃ r, e = .returned (.tuple #[r, .int .i64 0]) ∧ PC w' r 0 0 ∧ Below w.heap.size w w' := by
  have L0 := hide (zlen_turn ha.len1 ha.len2 0)
  have F0 := hide (decide_eq_false (p := 0 < (turn 0 (x, y)).1 ∧ 0 ≤ (turn 0 (x, y)).2) (by simp only [turn_0]; omega))
  have L1 := hide (zlen_turn ha.len1 ha.len2 1)
  have F1 := hide (decide_eq_false (p := 0 < (turn 1 (x, y)).1 ∧ 0 ≤ (turn 1 (x, y)).2) (by simp only [turn_1]; omega))
  have L2 := hide (zlen_turn ha.len1 ha.len2 2)
  have F2 := hide (decide_eq_false (p := 0 < (turn 2 (x, y)).1 ∧ 0 ≤ (turn 2 (x, y)).2) (by simp only [turn_2]; omega))
  have L3 := hide (zlen_turn ha.len1 ha.len2 3)
  have F3 := hide (decide_eq_false (p := 0 < (turn 3 (x, y)).1 ∧ 0 ≤ (turn 3 (x, y)).2) (by simp only [turn_3]; omega))
  clear hx
  obtain ⟨n_0a, o_0a, k_0a, c_0a, n_0b, o_0b, k_0b, c_0b, rfl, ha1, ha2⟩ := ha
  go_enter Tryz.func36, Tryz.ntmps36
  have hs := St.nil w
  refine wp_seq_k ?_
  intro K1 hK1
  refine rg [0, 1, 2] ?_
  refine sq ?_
  refine .al hs ?_; clear hs; intro p_b1 w_1 hs n1 kb_b1
  refine sq ?_
  refine .al hs ?_; clear hs; intro p_b2 w_2 hs n2 kb_b2
  refine sq ?_
  refine .mv ?_
  apply wpSq_end
  refine hK1 _ _ ?_
  refine wp_seq_k ?_
  intro K2 hK2
  refine wp_seq_k ?_
  intro K3 hK3
  refine rg [0] ?_
  refine sq ?_
  refine .mv ?_
  apply wpSq_end
  refine hK3 _ _ ?_
  refine wp_block ?_
  refine wp_loop_rounds 5 ?_
  show Code.wp _ _ _ _ _
  refine wp_seq_k ?_
  intro K4 hK4
  refine wp_seq_k ?_
  intro K5 hK5
  refine rg [0, 1] ?_
  refine sq ?_
  refine .mv ?_
  refine sq ?_
  refine .r0 ?_
  apply wpSq_end
  refine hK5 _ _ ?_
  refine ct ?_
  refine wp_skip ?_
  refine hK4 _ _ ?_
  refine wp_seq_k ?_
  intro K6 hK6
  refine wp_block ?_
  refine wp_seq_k ?_
  intro K7 hK7
  refine rg [0, 1, 2, 3, 4] ?_
  refine sq ?_
  refine .r4 hs.g1.f4 ?_
  refine sq ?_
  refine .mv ?_
  refine sq ?_
  intro K hK
  have k0_2 := (kb n1).b n2
  replace ha1 := ha1.k k0_2
  replace ha2 := ha2.k k0_2
  go_big_op
  go_fit (rgTurn_p0 0 (by decide) (PN.mk' ha1 ha2) (by omega) (by omega))
  rintro e w_3 ⟨_, rfl, ⟨n_g0a, o_g0a, k_g0a, c_g0a, n_g0b, o_g0b, k_g0b, c_g0b, rfl, g01, g02⟩, hb_3⟩
  replace hs := hs.bl hb_3
  refine hK _ _ rfl trivial ?_
  clear hK K
  refine sq ?_
  refine .al hs ?_; clear hs; intro p_b3 w_4 hs n4 kb_b3
  refine sq ?_
  refine .s4 hs.g0 (fun _ => hs.u0 kb_b3) ?_; clear hs; intro w_5 hs hd5 ho5
  apply wpSq_end
  refine hK7 _ _ ?_
  refine wp_seq_k ?_
  intro K8 hK8
  refine rg [0, 1] ?_
  refine sq ?_
  refine .r4 hs.g0.f4 ?_
  refine sq ?_
  intro K hK
  have k3_5 := (kb n4).o hd5 ho5
  replace g01 := g01.k k3_5
  replace g02 := g02.k k3_5
  go_big_op
  go_fit (rgFirst_any (.mk' (g01.zn L0.out.1) (g02.zn L0.out.2)) (by omega) (by omega))
  rintro e w_6 ⟨rfl, hb_6⟩
  replace hs := hs.bl hb_6
  rw [F0.out]
  refine hK _ _ rfl trivial ?_
  clear hK K
  apply wpSq_end
  refine hK8 _ _ ?_
  refine cf ?_
  refine wp_skip ?_
  refine hK6 _ _ ?_
  refine rg [0, 1, 2] ?_
  refine sq ?_
  refine .mv ?_
  refine sq ?_
  refine .r0 ?_
  refine sq ?_
  refine .mv ?_
  apply wpSq_end
  show Code.wp _ _ _ _ _
  refine wp_seq_k ?_
  intro K9 hK9
  refine wp_seq_k ?_
  intro K10 hK10
  refine rg [0, 1] ?_
  refine sq ?_
  refine .mv ?_
  refine sq ?_
  refine .r0 ?_
  apply wpSq_end
  refine hK10 _ _ ?_
  refine ct ?_
  refine wp_skip ?_
  refine hK9 _ _ ?_
  refine wp_seq_k ?_
  intro K11 hK11
  refine wp_block ?_
  refine wp_seq_k ?_
  intro K12 hK12
  refine rg [0, 1, 2, 3, 4] ?_
  refine sq ?_
  refine .r4 hs.g2.f4 ?_
  refine sq ?_
  refine .mv ?_
  refine sq ?_
  intro K hK
  have k2_6 := (((kb hb_3).b n4).o hd5 ho5).b hb_6
  replace ha1 := ha1.k k2_6
  replace ha2 := ha2.k k2_6
  go_big_op
  go_fit (rgTurn_p1 1 (by decide) (PN.mk' ha1 ha2) (by omega) (by omega))
  rintro e w_7 ⟨_, rfl, ⟨n_g1a, o_g1a, k_g1a, c_g1a, n_g1b, o_g1b, k_g1b, c_g1b, rfl, g11, g12⟩, hb_7⟩
  replace hs := hs.bl hb_7
  refine hK _ _ rfl trivial ?_
  clear hK K
  refine sq ?_
  refine .al hs ?_; clear hs; intro p_b4 w_8 hs n8 kb_b4
  refine sq ?_
  refine .s4 hs.g0 (fun _ => hs.u0 kb_b4) ?_; clear hs; intro w_9 hs hd9 ho9
  apply wpSq_end
  refine hK12 _ _ ?_
  refine wp_seq_k ?_
  intro K13 hK13
  refine rg [0, 1] ?_
  refine sq ?_
  refine .r4 hs.g0.f4 ?_
  refine sq ?_
  intro K hK
  have k7_9 := (kb n8).o hd9 ho9
  replace g11 := g11.k k7_9
  replace g12 := g12.k k7_9
  go_big_op
  go_fit (rgFirst_any (.mk' (g11.zn L1.out.1) (g12.zn L1.out.2)) (by omega) (by omega))
  rintro e w_10 ⟨rfl, hb_10⟩
  replace hs := hs.bl hb_10
  rw [F1.out]
  refine hK _ _ rfl trivial ?_
  clear hK K
  apply wpSq_end
  refine hK13 _ _ ?_
  refine cf ?_
  refine wp_skip ?_
  refine hK11 _ _ ?_
  refine rg [0, 1, 2] ?_
  refine sq ?_
  refine .mv ?_
  refine sq ?_
  refine .r0 ?_
  refine sq ?_
  refine .mv ?_
  apply wpSq_end
  show Code.wp _ _ _ _ _
  refine wp_seq_k ?_
  intro K14 hK14
  refine wp_seq_k ?_
  intro K15 hK15
  refine rg [0, 1] ?_
  refine sq ?_
  refine .mv ?_
  refine sq ?_
  refine .r0 ?_
  apply wpSq_end
  refine hK15 _ _ ?_
  refine ct ?_
  refine wp_skip ?_
  refine hK14 _ _ ?_
  refine wp_seq_k ?_
  intro K16 hK16
  refine wp_block ?_
  refine wp_seq_k ?_
  intro K17 hK17
  refine rg [0, 1, 2, 3, 4] ?_
  refine sq ?_
  refine .r4 hs.g3.f4 ?_
  refine sq ?_
  refine .mv ?_
  refine sq ?_
  intro K hK
  have k6_10 := (((kb hb_7).b n8).o hd9 ho9).b hb_10
  replace ha1 := ha1.k k6_10
  replace ha2 := ha2.k k6_10
  go_big_op
  go_fit (rgTurn_p2 2 (by decide) (PN.mk' ha1 ha2) (by omega) (by omega))
  rintro e w_11 ⟨_, rfl, ⟨n_g2a, o_g2a, k_g2a, c_g2a, n_g2b, o_g2b, k_g2b, c_g2b, rfl, g21, g22⟩, hb_11⟩
  replace hs := hs.bl hb_11
  refine hK _ _ rfl trivial ?_
  clear hK K
  refine sq ?_
  refine .al hs ?_; clear hs; intro p_b5 w_12 hs n12 kb_b5
  refine sq ?_
  refine .s4 hs.g0 (fun _ => hs.u0 kb_b5) ?_; clear hs; intro w_13 hs hd13 ho13
  apply wpSq_end
  refine hK17 _ _ ?_
  refine wp_seq_k ?_
  intro K18 hK18
  refine rg [0, 1] ?_
  refine sq ?_
  refine .r4 hs.g0.f4 ?_
  refine sq ?_
  intro K hK
  have k11_13 := (kb n12).o hd13 ho13
  replace g21 := g21.k k11_13
  replace g22 := g22.k k11_13
  go_big_op
  go_fit (rgFirst_any (.mk' (g21.zn L2.out.1) (g22.zn L2.out.2)) (by omega) (by omega))
  rintro e w_14 ⟨rfl, hb_14⟩
  replace hs := hs.bl hb_14
  rw [F2.out]
  refine hK _ _ rfl trivial ?_
  clear hK K
  apply wpSq_end
  refine hK18 _ _ ?_
  refine cf ?_
  refine wp_skip ?_
  refine hK16 _ _ ?_
  refine rg [0, 1, 2] ?_
  refine sq ?_
  refine .mv ?_
  refine sq ?_
  refine .r0 ?_
  refine sq ?_
  refine .mv ?_
  apply wpSq_end
  show Code.wp _ _ _ _ _
  refine wp_seq_k ?_
  intro K19 hK19
  refine wp_seq_k ?_
  intro K20 hK20
  refine rg [0, 1] ?_
  refine sq ?_
  refine .mv ?_
  refine sq ?_
  refine .r0 ?_
  apply wpSq_end
  refine hK20 _ _ ?_
  refine ct ?_
  refine wp_skip ?_
  refine hK19 _ _ ?_
  refine wp_seq_k ?_
  intro K21 hK21
  refine wp_block ?_
  refine wp_seq_k ?_
  intro K22 hK22
  refine rg [0, 1, 2, 3, 4] ?_
  refine sq ?_
  refine .r4 hs.g4.f4 ?_
  refine sq ?_
  refine .mv ?_
  refine sq ?_
  intro K hK
  have k10_14 := (((kb hb_11).b n12).o hd13 ho13).b hb_14
  replace ha1 := ha1.k k10_14
  replace ha2 := ha2.k k10_14
  go_big_op
  go_fit (rgTurn_p3 3 (by decide) (PN.mk' ha1 ha2) (by omega) (by omega))
  rintro e w_15 ⟨_, rfl, ⟨n_g3a, o_g3a, k_g3a, c_g3a, n_g3b, o_g3b, k_g3b, c_g3b, rfl, g31, g32⟩, hb_15⟩
  replace hs := hs.bl hb_15
  refine hK _ _ rfl trivial ?_
  clear hK K
  refine sq ?_
  refine .al hs ?_; clear hs; intro p_b6 w_16 hs n16 kb_b6
  refine sq ?_
  refine .s4 hs.g0 (fun _ => hs.u0 kb_b6) ?_; clear hs; intro w_17 hs hd17 ho17
  apply wpSq_end
  refine hK22 _ _ ?_
  refine wp_seq_k ?_
  intro K23 hK23
  refine rg [0, 1] ?_
  refine sq ?_
  refine .r4 hs.g0.f4 ?_
  refine sq ?_
  intro K hK
  have k15_17 := (kb n16).o hd17 ho17
  replace g31 := g31.k k15_17
  replace g32 := g32.k k15_17
  go_big_op
  go_fit (rgFirst_any (.mk' (g31.zn L3.out.1) (g32.zn L3.out.2)) (by omega) (by omega))
  rintro e w_18 ⟨rfl, hb_18⟩
  clear g01 g02 g11 g12 g21 g22
  replace hs := hs.bl hb_18
  rw [F3.out]
  refine hK _ _ rfl trivial ?_
  clear hK K
  apply wpSq_end
  refine hK23 _ _ ?_
  refine cf ?_
  refine wp_skip ?_
  refine hK21 _ _ ?_
  refine rg [0, 1, 2] ?_
  refine sq ?_
  refine .mv ?_
  refine sq ?_
  refine .r0 ?_
  refine sq ?_
  refine .mv ?_
  apply wpSq_end
  show Code.wp _ _ _ _ _
  refine wp_seq_k ?_
  intro K24 hK24
  refine wp_seq_k ?_
  intro K25 hK25
  refine rg [0, 1] ?_
  refine sq ?_
  refine .mv ?_
  refine sq ?_
  refine .r0 ?_
  apply wpSq_end
  refine hK25 _ _ ?_
  refine cf ?_
  refine wp_exit ?_
  refine hK2 _ _ ?_
  refine wp_seq_k ?_
  intro K26 hK26
  refine rg [0, 1, 2] ?_
  refine sq ?_
  intro K hK
  go_big_op
  go_fit (rgI_any 0 0 _ (by decide) (by decide) (by decide) (by decide))
  rintro e w_19 ⟨_, rfl, ⟨n_ha, o_ha, k_ha, c_ha, n_hb, o_hb, k_hb, c_hb, rfl, h1, h2⟩, hb_19⟩
  replace hs := hs.bl hb_19
  refine hK _ _ rfl trivial ?_
  clear hK K
  refine sq ?_
  refine .s4 hs.g4 (fun _ => hs.u4 kb_b2) ?_; clear hs; intro w_20 hs hd20 ho20
  refine sq ?_
  refine .mv ?_
  apply wpSq_end
  refine hK26 _ _ ?_
  refine wp_ret ?_
  try dsimp only [Exit.then, Exit.inBlock]
  obtain ⟨r0_0, r0_1, r0_2, r0_3⟩ := hs.g4.f4
  refine bodyPost_ret (v := (.tuple #[(.agg #[.bool n_ha, .slice o_ha k_ha c_ha, .bool n_hb, .slice o_hb k_hb c_hb]), (.int .i64 0)])) (by simp [results, Tryz.results36, go_sem, r0_0, r0_1, r0_2, r0_3]) rfl ?_
  have k19_20 := ko hd20 ho20
  replace h1 := h1.k k19_20
  replace h2 := h2.k k19_20
  exact ⟨_, rfl, .mk' h1 h2, hs.b⟩
theorem rgCanon_any (ha : PN w va x l y m) (hl : l ≤ 20000000) (hm : m ≤ 20000000) :
    Calls Tryz.prog 36 #[va] w fun e w' => ∃ r, e = .returned (.tuple #[r, .int .i64 ((kq x y : Nat) : Int)]) ∧ PC w' r (turn (kq x y) (x, y)).1 (turn (kq x y) (x, y)).2 ∧ Below w.heap.size w w' := by
  rcases kq_cases x y with ⟨e, h⟩ | ⟨e, h⟩ | ⟨e, h⟩ | ⟨e, h | h⟩ <;> rw [e]
  · exact rgCanon_1 ha hl hm h
  · exact rgCanon_2 ha hl hm h
  · exact rgCanon_3 ha hl hm h
  · exact rgCanon_0 ha hl hm h
  · obtain ⟨rfl, rfl⟩ := h; exact rgCanon_4 ha hl hm ⟨rfl, rfl⟩
end
end Go.Proofs.YtbiiglcfdphmaaaGreat

/- What Xgcd tells. -/
namespace Go.Proofs.YtbiiglcfdphmaaaGreat
open Go Go.RowKit Dig
set_option linter.unusedVariables false
theorem turn_cases {k : Nat} (hk : k < 4) : k = 0 ∨ k = 1 ∨ k = 2 ∨ k = 3 := by omega
theorem turn_lin {k : Nat} (hk : k < 4) {a1 a2 b1 b2 r1 r2 x1 x2 y1 y2 : Int} (h1 : r1 = a1 * x1 - a2 * x2 + (b1 * y1 - b2 * y2)) (h2 : r2 = a1 * x2 + a2 * x1 + (b1 * y2 + b2 * y1)) :
    a1 * (turn k (x1, x2)).1 - a2 * (turn k (x1, x2)).2 + (b1 * (turn k (y1, y2)).1 - b2 * (turn k (y1, y2)).2) = (turn k (r1, r2)).1 ∧
    a1 * (turn k (x1, x2)).2 + a2 * (turn k (x1, x2)).1 + (b1 * (turn k (y1, y2)).2 + b2 * (turn k (y1, y2)).1) = (turn k (r1, r2)).2 := by
  rcases turn_cases hk with rfl | rfl | rfl | rfl <;> simp only [turn_0, turn_1, turn_2, turn_3] <;> rw [h1, h2] <;> clear h1 h2 <;> constructor <;> grind
theorem turn_norm {k : Nat} (hk : k < 4) (r1 r2 : Int) : gN (turn k (r1, r2)).1 (turn k (r1, r2)).2 = gN r1 r2 := by
  rcases turn_cases hk with rfl | rfl | rfl | rfl <;> simp only [turn_0, turn_1, turn_2, turn_3] <;> unfold gN <;> grind
end Go.Proofs.YtbiiglcfdphmaaaGreat

/- Residues by a Gaussian modulus: plain mathematics. -/
namespace Go.Proofs.YtbiiglcfdphmaaaGreat
open Go Go.RowKit Dig
set_option linter.unusedVariables false
def gCg (u v x y x' y' : Int) : Prop := ∃ c d : Int, x' = x + (c * u - d * v) ∧ y' = y + (c * v + d * u)
theorem gCg.refl (u v x y : Int) : gCg u v x y x y := ⟨0, 0, by grind, by grind⟩
theorem gCg.symm {u v x y x' y' : Int} (h : gCg u v x y x' y') : gCg u v x' y' x y := by
  obtain ⟨c, d, h1, h2⟩ := h
  exact ⟨-c, -d, by grind, by grind⟩
theorem gCg.trans {u v x y x' y' x'' y'' : Int} (h : gCg u v x y x' y') (h' : gCg u v x' y' x'' y'') : gCg u v x y x'' y'' := by
  obtain ⟨c, d, h1, h2⟩ := h
  obtain ⟨c', d', h3, h4⟩ := h'
  exact ⟨c + c', d + d', by grind, by grind⟩
theorem gCg.mul {u v x y x' y' a b a' b' : Int} (h : gCg u v x y x' y') (h' : gCg u v a b a' b') : gCg u v (x * a - y * b) (x * b + y * a) (x' * a' - y' * b') (x' * b' + y' * a') := by
  obtain ⟨c, d, h1, h2⟩ := h
  obtain ⟨p, q, h3, h4⟩ := h'
  subst h1 h2 h3 h4
  exact ⟨x * p - y * q + (c * a - d * b) + (c * p - d * q) * u - (c * q + d * p) * v, x * q + y * p + (c * b + d * a) + (c * p - d * q) * v + (c * q + d * p) * u, by grind, by grind⟩
theorem gCg.add {u v x y x' y' a b a' b' : Int} (h : gCg u v x y x' y') (h' : gCg u v a b a' b') : gCg u v (x + a) (y + b) (x' + a') (y' + b') := by
  obtain ⟨c, d, h1, h2⟩ := h
  obtain ⟨p, q, h3, h4⟩ := h'
  exact ⟨c + p, d + q, by grind, by grind⟩
theorem gCg.sub {u v x y x' y' a b a' b' : Int} (h : gCg u v x y x' y') (h' : gCg u v a b a' b') : gCg u v (x - a) (y - b) (x' - a') (y' - b') := by
  obtain ⟨c, d, h1, h2⟩ := h
  obtain ⟨p, q, h3, h4⟩ := h'
  exact ⟨c - p, d - q, by grind, by grind⟩
theorem gCg.res (x y u v : Int) : gCg u v (gR1 x y u v) (gR2 x y u v) x y := ⟨gQ1 x y u v, gQ2 x y u v, by unfold gR1; grind, by unfold gR2; grind⟩
theorem rnd_add {x y : Int} (c : Int) (h0 : y ≠ 0) : rnd (x + c * y) y = rnd x y + c := by
  unfold rnd
  rw [show 2 * (x + c * y) + y = 2 * x + y + c * (2 * y) by grind, Int.add_mul_fdiv_right _ _ (by omega)]
theorem gCg.one {u v x y x' y' : Int} (h : gCg u v x y x' y') (h0 : gN u v ≠ 0) : gR1 x' y' u v = gR1 x y u v ∧ gR2 x' y' u v = gR2 x y u v := by
  obtain ⟨c, d, h1, h2⟩ := h
  have e1 : gT1 x' y' u v = gT1 x y u v + c * gN u v := by subst h1 h2; unfold gT1 gN; grind
  have e2 : gT2 x' y' u v = gT2 x y u v + d * gN u v := by subst h1 h2; unfold gT2 gN; grind
  have q1 : gQ1 x' y' u v = gQ1 x y u v + c := by unfold gQ1; rw [e1, rnd_add c h0]
  have q2 : gQ2 x' y' u v = gQ2 x y u v + d := by unfold gQ2; rw [e2, rnd_add d h0]
  constructor
  · unfold gR1; rw [q1, q2]; grind
  · unfold gR2; rw [q1, q2]; grind
def gInv (x y u v : Int) : Prop := ∃ p q, gCg u v (x * p - y * q) (x * q + y * p) 1 0
theorem gInv.cg {x y x' y' u v : Int} (h : gInv x y u v) (hc : gCg u v x y x' y') : gInv x' y' u v := by
  obtain ⟨p, q, h⟩ := h
  exact ⟨p, q, ((hc.symm.mul (gCg.refl u v p q)).trans h)⟩
theorem inv_one {x y u v p q p' q' : Int} (h : gCg u v (x * p - y * q) (x * q + y * p) 1 0) (h' : gCg u v (x * p' - y * q') (x * q' + y * p') 1 0) : gCg u v p q p' q' := by
  have h1 := (gCg.refl u v p q).mul h'
  have h2 := (gCg.refl u v p' q').mul h
  have e1 : p * (x * p' - y * q') - q * (x * q' + y * p') = p' * (x * p - y * q) - q' * (x * q + y * p) := by grind
  have e2 : p * (x * q' + y * p') + q * (x * p' - y * q') = p' * (x * q + y * p) + q' * (x * p - y * q) := by grind
  rw [e1, e2] at h1
  have h3 := h1.symm.trans h2
  simpa using h3
theorem norm_one {a b : Int} (h : gN a b = 1) : (a = 1 ∧ b = 0) ∨ (a = -1 ∧ b = 0) ∨ (a = 0 ∧ b = 1) ∨ (a = 0 ∧ b = -1) := by
  unfold gN at h
  have ha : -1 ≤ a ∧ a ≤ 1 := by
    have := mul_self_nonneg' b
    constructor
    · have := Int.mul_nonneg (a := -a - 2) (b := -a - 2)
      by_cases hc : -1 ≤ a
      · exact hc
      · have := Int.mul_nonneg (a := -a - 2) (b := -a + 2) (by omega) (by omega)
        have e : (-a - 2) * (-a + 2) = a * a - 4 := by grind
        omega
    · by_cases hc : a ≤ 1
      · exact hc
      · have := Int.mul_nonneg (a := a - 2) (b := a + 2) (by omega) (by omega)
        have e : (a - 2) * (a + 2) = a * a - 4 := by grind
        omega
  have hb : -1 ≤ b ∧ b ≤ 1 := by
    have := mul_self_nonneg' a
    constructor
    · by_cases hc : -1 ≤ b
      · exact hc
      · have := Int.mul_nonneg (a := -b - 2) (b := -b + 2) (by omega) (by omega)
        have e : (-b - 2) * (-b + 2) = b * b - 4 := by grind
        omega
    · by_cases hc : b ≤ 1
      · exact hc
      · have := Int.mul_nonneg (a := b - 2) (b := b + 2) (by omega) (by omega)
        have e : (b - 2) * (b + 2) = b * b - 4 := by grind
        omega
  obtain rfl | rfl | rfl : a = -1 ∨ a = 0 ∨ a = 1 := by omega
  all_goals obtain rfl | rfl | rfl : b = -1 ∨ b = 0 ∨ b = 1 := by omega
  all_goals omega
theorem turn_one {a b : Int} (h : gN a b = 1) : turn (kq a b) (a, b) = (1, 0) := by
  obtain ⟨rfl, rfl⟩ | ⟨rfl, rfl⟩ | ⟨rfl, rfl⟩ | ⟨rfl, rfl⟩ := norm_one h <;> decide
theorem gcd_inv {x y u v : Int} {F : GS} (h : GI x y u v F) (hs : gN F.s1 F.s2 = 0) : gN F.r1 F.r2 = 1 ↔ gInv x y u v := by
  obtain ⟨s1, s2⟩ := gN_zero.1 hs
  constructor
  · intro h1
    have ht := turn_lin (kq_lt F.r1 F.r2) h.r.1 h.r.2
    rw [turn_one h1] at ht
    refine ⟨(turn (kq F.r1 F.r2) (F.x1, F.x2)).1, (turn (kq F.r1 F.r2) (F.x1, F.x2)).2, (turn (kq F.r1 F.r2) (F.y1, F.y2)).1, (turn (kq F.r1 F.r2) (F.y1, F.y2)).2, ?_, ?_⟩
    · have := ht.1; simp only at this; grind
    · have := ht.2; simp only at this; grind
  · rintro ⟨p, q, c, d, h1, h2⟩
    obtain ⟨c1, c2, d1, d2, a1, a2⟩ := h.da
    obtain ⟨e1, e2, f1, f2, b1, b2⟩ := h.db
    rw [s1, s2] at a1 a2 b1 b2
    have k1 : 1 = F.r1 * (c1 * p - c2 * q + (e1 * c - e2 * d)) - F.r2 * (c1 * q + c2 * p + (e1 * d + e2 * c)) := by subst a1 a2 b1 b2; grind
    have k2 : 0 = F.r1 * (c1 * q + c2 * p + (e1 * d + e2 * c)) + F.r2 * (c1 * p - c2 * q + (e1 * c - e2 * d)) := by subst a1 a2 b1 b2; grind
    have hm := gN_mul F.r1 F.r2 (c1 * p - c2 * q + (e1 * c - e2 * d)) (c1 * q + c2 * p + (e1 * d + e2 * c))
    rw [← k1, ← k2, show gN 1 0 = 1 from rfl] at hm
    have n1 := gN_nonneg F.r1 F.r2
    have n2 := gN_nonneg (c1 * p - c2 * q + (e1 * c - e2 * d)) (c1 * q + c2 * p + (e1 * d + e2 * c))
    exact Int.eq_one_of_mul_eq_one_right n1 hm.symm
theorem xgcd_makes {x y u v : Int} {F : GS} (h : GI x y u v F) (h1 : gN F.r1 F.r2 = 1) :
    gCg u v (x * (turn (kq F.r1 F.r2) (F.x1, F.x2)).1 - y * (turn (kq F.r1 F.r2) (F.x1, F.x2)).2) (x * (turn (kq F.r1 F.r2) (F.x1, F.x2)).2 + y * (turn (kq F.r1 F.r2) (F.x1, F.x2)).1) 1 0 := by
  have ht := turn_lin (kq_lt F.r1 F.r2) h.r.1 h.r.2
  rw [turn_one h1] at ht
  refine ⟨(turn (kq F.r1 F.r2) (F.y1, F.y2)).1, (turn (kq F.r1 F.r2) (F.y1, F.y2)).2, ?_, ?_⟩
  · have := ht.1; simp only at this; grind
  · have := ht.2; simp only at this; grind
def gVo (F : GS) (u v : Int) : Int × Int :=
  (gR1 (turn (kq F.r1 F.r2) (F.x1, F.x2)).1 (turn (kq F.r1 F.r2) (F.x1, F.x2)).2 u v, gR2 (turn (kq F.r1 F.r2) (F.x1, F.x2)).1 (turn (kq F.r1 F.r2) (F.x1, F.x2)).2 u v)
def gV (x y u v : Int) : Int × Int := gVo (GS.start x y u v).fin u v
theorem fin_gi (x y u v : Int) : GI x y u v (GS.start x y u v).fin ∧ gN (GS.start x y u v).fin.s1 (GS.start x y u v).fin.s2 = 0 := GI.fin _ (GI.start x y u v) (Nat.le_refl _)
theorem unit_inv (x y u v : Int) : gN (GS.start x y u v).fin.r1 (GS.start x y u v).fin.r2 = 1 ↔ gInv x y u v := gcd_inv (fin_gi x y u v).1 (fin_gi x y u v).2
theorem gV_makes {x y u v : Int} (h : gInv x y u v) : gCg u v (x * (gV x y u v).1 - y * (gV x y u v).2) (x * (gV x y u v).2 + y * (gV x y u v).1) 1 0 := by
  have h1 := xgcd_makes (fin_gi x y u v).1 ((unit_inv x y u v).2 h)
  exact ((gCg.refl u v x y).mul (gCg.res _ _ u v)).trans h1
theorem gV_cg {x y x' y' u v : Int} (h0 : gN u v ≠ 0) (hc : gCg u v x y x' y') (h : gInv x y u v) : gV x' y' u v = gV x y u v := by
  have h1 := xgcd_makes (fin_gi x y u v).1 ((unit_inv x y u v).2 h)
  have h2 := xgcd_makes (fin_gi x' y' u v).1 ((unit_inv x' y' u v).2 (h.cg hc))
  have h3 := (hc.mul (gCg.refl u v _ _)).trans h2
  have h4 := (inv_one h1 h3).one h0
  unfold gV gVo
  exact Prod.ext h4.1 h4.2
end Go.Proofs.YtbiiglcfdphmaaaGreat

/- Regions in which a call or an operation may panic: the walks of Rg, Rh, Rf, Wk once more, with what a panic must meet. -/
namespace Go.Proofs.YtbiiglcfdphmaaaGreat.Pn
open Go Go.RowKit Dig
set_option linter.unusedVariables false
class PX where
  X : List PanicEntry → World → Prop
def botX [PX] : Exit → Act → World → Prop
  | .panic ch, _, w => PX.X ch w
  | _, _, _ => False
theorem put_defers (a : Act) (d : Option Tmp) (v : Value) : (a.put d v).defers = a.defers := by unfold Act.put; split <;> rfl
section
variable [PX] {P : Program} {ops : Array Oper} {md : Region.Mode} {C : World → Prop}
def CalmE (next : Value → World → Prop) : Ending → World → Prop
  | .returned v, w => next v w
  | .panicked ch, w => PX.X ch w
  | .outgrown, _ => False
theorem CalmE.mono {K K' : Value → World → Prop} (h : ∀ v w, K v w → K' v w) : ∀ {e : Ending} {w : World}, CalmE K e w → CalmE K' e w
  | .returned _, _, hh => h _ _ hh
  | .panicked _, _, hh => hh
  | .outgrown, _, hh => hh.elim
def Calm (P : Program) (o : Oper) (a : Act) (w : World) (next : Value → World → Prop) : Prop :=
  match (execOp a.eval o).run P w with
  | .ok (.value v) w' => next v w'
  | .ok .skip w' => next undef w'
  | .ok (.enter f args) w' => Calls P f args w' (CalmE next)
  | .ok (.row row args) w' => Rows P row args w' next
  | .halt (.panic v) w' => PX.X [{ v, recovered := false }] w'
  | _ => False
theorem Calm.mono {o : Oper} {a : Act} {w : World} {K K' : Value → World → Prop} (h : ∀ v w, K v w → K' v w) (hh : Calm P o a w K) : Calm P o a w K' := by
  unfold Calm at *
  generalize (execOp a.eval o).run P w = r at *
  cases r with
  | ok n w' =>
    cases n <;> simp only at hh ⊢
    case value => exact h _ _ hh
    case skip => exact h _ _ hh
    case enter => exact Calls.mono hh fun e w'' h2 => CalmE.mono h h2
    case row => exact Rows.mono hh fun v w'' h2 => h _ _ h2
  | halt x w' =>
    cases x <;> simp only at hh ⊢
    case panic => exact hh
theorem Calm.wp {o : Oper} {a : Act} {w : World} {K : Act → World → Prop} {Q' : Exit → Act → World → Prop} (hX : ∀ ch w', PX.X ch w' → Q' (.panic ch) a w') (hh : Calm P o a w fun v w' => K (a.put o.dst v) w') : o.wp P a w K Q' := by
  unfold Calm at hh
  unfold Oper.wp
  generalize (execOp a.eval o).run P w = r at *
  cases r with
  | ok n w' =>
    cases n <;> simp only at hh <;> simp only [Oper.upon]
    case value => exact hh
    case skip => exact hh
    case enter =>
      refine Calls.mono hh fun e w'' he => ?_
      cases e with
      | returned v => exact he
      | panicked c => exact hX _ _ he
      | outgrown => exact he.elim
    case row => exact hh
  | halt x w' =>
    cases x <;> simp only at hh <;> simp only [Oper.upon]
    case panic => exact hX _ _ hh
def cOp (P : Program) (ops : Array Oper) (C : World → Prop) (i : Nat) (K : Act → World → Prop) (a : Act) (w : World) : Prop :=
  match ops[i]? with
  | none => K a w
  | some o => if Region.wanted o (yielded ops a.tmps) then Calm P o a w (fun v w' => C w' ∧ K (a.put o.dst v) w') else K (a.put o.dst undef) w
theorem wpOp_of_cOp {i : Nat} {a : Act} {w : World} {K K' : Act → World → Prop} {Q' : Exit → Act → World → Prop} (hX : ∀ ch w', PX.X ch w' → Q' (.panic ch) a w') (h : ∀ a' w, a'.defers = a.defers → K a' w → K' a' w) (hh : cOp P ops C i K a w) : wpOp P ops Q' i K' a w := by
  unfold cOp at hh
  unfold wpOp
  split
  · rename_i ho; simp only [ho] at hh; exact h _ _ rfl hh
  · rename_i o ho
    simp only [ho] at hh
    split
    · rename_i hw; simp only [hw, if_true] at hh; exact .inl (Calm.wp hX (hh.mono fun v w' h3 => h _ _ (put_defers _ _ _) h3.2))
    · rename_i hw; simp only [hw] at hh; exact h _ _ (put_defers _ _ _) hh
theorem cOp_mono {i : Nat} {a : Act} {w : World} {K K' : Act → World → Prop} (hw : C w) (h : ∀ a w, C w → K a w → K' a w) (hh : cOp P ops C i K a w) : cOp P ops C i K' a w := by
  unfold cOp at *
  split
  · rename_i ho; simp only [ho] at hh; exact h _ _ hw hh
  · rename_i o ho
    simp only [ho] at hh
    split
    · rename_i hwt; simp only [hwt, if_true] at hh; exact hh.mono fun v w' h3 => ⟨h3.1, h _ _ h3.1 h3.2⟩
    · rename_i hwt; simp only [hwt] at hh; exact h _ _ hw hh
end
section
variable [PX] {P : Program} {l : List Oper} {md : Region.Mode} {C : World → Prop}
variable {Q : Act → World → Prop} {a : Act} {w : World} {rest : List (Nat × Bool)} {o : Oper}
end
section
variable [PX] {P : Program} {l : List Oper} {md : Region.Mode} {C : World → Prop}
def wpAnyX (P : Program) (md : Region.Mode) (ops : Array Oper) (Gs : List (World → Prop)) (bad : List (Nat × Nat)) (Q : Act → World → Prop) : Nat → Array Bool → Act → World → Prop
  | 0, listed, a, w => Region.ready md ops listed = [] ∧ Q a w
  | fuel + 1, listed, a, w => (Region.ready md ops listed = [] → Q a w) ∧ ∀ i ∈ Region.ready md ops listed, cOp P ops (fun w' => Keeps Gs bad i w w') i (wpAnyX P md ops Gs bad Q fuel (listed.setIfInBounds i true)) a w
theorem wpAny_of_x {D : List Deferred} {ops : Array Oper} {Gs : List (World → Prop)} {bad : List (Nat × Nat)} {Q : Act → World → Prop} {Q' : Exit → Act → World → Prop} (hX : ∀ ch a w', a.defers = D → PX.X ch w' → Q' (.panic ch) a w') (hQ : ∀ a w, Q a w → Q' .normal a w) : ∀ (fuel : Nat) (listed : Array Bool) (a : Act) (w : World), a.defers = D →
    wpAnyX P md ops Gs bad Q fuel listed a w → wpAny P md ops Q' fuel listed a w
  | 0, _, _, _, _, h => ⟨h.1, hQ _ _ h.2⟩
  | fuel + 1, _, a, _, hd, h => ⟨fun h0 => hQ _ _ (h.1 h0), fun i hi => wpOp_of_cOp (fun ch w' => hX ch a w' hd) (fun a' w' hd' h3 => wpAny_of_x hX hQ fuel _ a' w' (hd'.trans hd) h3) (h.2 i hi)⟩
theorem cOp_put2 {ops : Array Oper} {C C2 : World → Prop} {j : Nat} {oi oj : Oper} {v : Value} (hj : ops[j]? = some oj) (hap : oi.apart ops oj = true)
    (hsi : ∀ cs b, oi.op ≠ .select cs b) (hsj : ∀ cs b, oj.op ≠ .select cs b) {K : Act → World → Prop} {a : Act} {w : World}
    (hy : Stable P ops C2 oi v a) (h : cOp P ops C j K (a.put oi.dst v) w) :
    cOp P ops C j (fun a' w' => Stable P ops C2 oi v a' ∧ K (a'.put oi.dst v) w') a w := by
  obtain ⟨h1, h2, h3⟩ := Oper.apart_spec hap
  have keep : ∀ (a : Act), Stable P ops C2 oi v a → ∀ u, Stable P ops C2 oi v (a.put oj.dst u) := fun a hy u =>
    hy.of_same (execOp_put oi hsi a oj.dst u h3) (wanted_put oi a oj.dst u h3)
  unfold cOp at *
  simp only [hj] at *
  rw [wanted_put oj a oi.dst v h1] at h
  split
  · rename_i hw
    simp only [hw, if_true] at h
    unfold Calm at h ⊢
    rw [execOp_put oj hsj a oi.dst v h1] at h
    have conv : ∀ u w', C w' ∧ K ((a.put oi.dst v).put oj.dst u) w' → C w' ∧ Stable P ops C2 oi v (a.put oj.dst u) ∧ K ((a.put oj.dst u).put oi.dst v) w' := fun u w' ⟨c1, c2⟩ =>
      ⟨c1, keep a hy u, by rw [← Act.put_comm a v u h2]; exact c2⟩
    generalize (execOp a.eval oj).run P w = r at *
    cases r with
    | ok n w' =>
      cases n <;> simp only at h ⊢
      case value => exact conv _ _ h
      case skip => exact conv _ _ h
      case enter => exact Calls.mono h fun e w'' h2 => CalmE.mono conv h2
      case row => exact Rows.mono h fun u w'' e2 => conv _ _ e2
    | halt x w' =>
      cases x <;> simp only at h ⊢
      case panic => exact h
  · rename_i hw
    simp only [hw] at h
    exact ⟨keep a hy _, by rw [← Act.put_comm a v undef h2]; exact h⟩
theorem stable_cOp2 {ops : Array Oper} {C C2 : World → Prop} {i : Nat} {o : Oper} {v : Value} {a : Act} {w : World} (hi : ops[i]? = some o) (hy : Stable P ops C2 o v a) (hC2 : C2 w) (hC : C w) {K : Act → World → Prop} (h : K (a.put o.dst v) w) : Go.Proofs.YtbiiglcfdphmaaaGreat.Pn.cOp P ops C i K a w := by
  unfold Go.Proofs.YtbiiglcfdphmaaaGreat.Pn.cOp
  simp only [hi]
  rcases hy with ⟨hw, hv⟩ | ⟨hw, rfl⟩
  · simp only [hw, if_true]
    unfold Calm
    rw [hv w hC2]
    exact ⟨hC, h⟩
  · simp only [hw, Bool.false_eq_true, if_false]; exact h
theorem wpAnyX_first {ops : Array Oper} {Gs : List (World → Prop)} {bad : List (Nat × Nat)} {g : Nat} {Q : Act → World → Prop} {i : Nat} {oi : Oper} {v : Value} (hi : ops[i]? = some oi) (hsel : ∀ (j : Nat) (o : Oper) cs b, ops[j]? = some o → o.op ≠ .select cs b)
    (hX : ∀ j oj, ops[j]? = some oj → (∀ e ∈ oj.after, Region.binds md e = true → e.on ≠ i) → bad.contains (j, g) = false) :
    ∀ (fuel : Nat) (listed : Array Bool) (a : Act) (w : World), nthG Gs g w →
      (∀ j oj, ops[j]? = some oj → j ≠ i → listed.getD j true = false → (∀ e ∈ oj.after, Region.binds md e = true → e.on ≠ i) → oi.apart ops oj = true) →
      i ∈ Region.ready md ops listed → Stable P ops (nthG Gs g) oi v a →
      wpAnyX P md ops Gs bad Q fuel (listed.setIfInBounds i true) (a.put oi.dst v) w → wpAnyX P md ops Gs bad Q (fuel + 1) listed a w := by
  intro fuel
  induction fuel with
  | zero =>
    intro listed a w hG _ hr hy H
    refine ⟨fun h => (by rw [h] at hr; cases hr), fun j hj => ?_⟩
    by_cases hji : j = i
    · subst hji; exact stable_cOp2 hi hy hG (Keeps.refl _ _ _ _) H
    · have := ready_mono hj hji
      rw [H.1] at this
      cases this
  | succ fuel ih =>
    intro listed a w hG hfree hr hy H
    refine ⟨fun h => (by rw [h] at hr; cases hr), fun j hj => ?_⟩
    by_cases hji : j = i
    · subst hji; exact stable_cOp2 hi hy hG (Keeps.refl _ _ _ _) H
    · have h1 := H.2 j (ready_mono hj hji)
      obtain ⟨hjun, oj, hoj, hall⟩ := mem_ready.1 hj
      have hnot : ∀ e ∈ oj.after, Region.binds md e = true → e.on ≠ i := fun e he hb heq => by
        have h1 := hall e he hb
        have h0 := (mem_ready.1 hr).1
        rw [heq] at h1
        rcases Nat.lt_or_ge i listed.size with h' | h'
        · simp [h'] at h0 h1; rw [h0] at h1; cases h1
        · simp [Array.getElem?_eq_none h'] at h1
      have h2 := cOp_put2 hoj (hfree j oj hoj hji hjun hnot) (fun cs b => hsel i oi cs b hi) (fun cs b => hsel j oj cs b hoj) hy h1
      have hfree' : ∀ k ok, ops[k]? = some ok → k ≠ i → (listed.setIfInBounds j true).getD k true = false →
          (∀ e ∈ ok.after, Region.binds md e = true → e.on ≠ i) → oi.apart ops ok = true := fun k ok hk hki hun hno => by
        refine hfree k ok hk hki ?_ hno
        by_cases hjk : j = k
        · subst hjk; exact hjun
        · rw [getD_set_ne true hjk] at hun; exact hun
      refine cOp_mono (C := fun w' => Keeps Gs bad j w w') (Keeps.refl _ _ _ _) (fun a' w' hCl h3 => ih (listed.setIfInBounds j true) a' w' (hCl g (hX j oj hoj hnot) hG) hfree' (ready_mono hr (Ne.symm hji)) h3.1 ?_) h2
      rw [Array.setIfInBounds_comm _ _ hji]
      exact h3.2
def wpTail (P : Program) (l : List Oper) (Gs : List (World → Prop)) (bad : List (Nat × Nat)) (Q : Act → World → Prop) : List Nat → Act → World → Prop
  | [], a, w => Q a w
  | k :: rest, a, w => ∃ o, nthO l k = some o ∧ if Region.wanted o (yielded l.toArray a.tmps) then Calm P o a w (fun v w' => Keeps Gs bad k w w' ∧ wpTail P l Gs bad Q rest (a.put o.dst v) w') else wpTail P l Gs bad Q rest (a.put o.dst undef) w
theorem wpAnyX_of_tail {Gs : List (World → Prop)} {bad : List (Nat × Nat)} {Q : Act → World → Prop} : ∀ (plan : List Nat) (listed : Array Bool) (a : Act) (w : World),
    plan2OK md l.toArray listed plan = true → wpTail P l Gs bad Q plan a w → wpAnyX P md l.toArray Gs bad Q plan.length listed a w
  | [], listed, a, w, hp, h => by
    simp only [plan2OK, List.isEmpty_iff] at hp
    exact ⟨hp, h⟩
  | k :: rest, listed, a, w, hp, h => by
    simp only [plan2OK, Bool.and_eq_true, beq_iff_eq] at hp
    obtain ⟨o, h0, h1⟩ := h
    refine ⟨fun h3 => (by rw [h3] at hp; cases hp.1), fun i hi => ?_⟩
    rw [hp.1] at hi
    obtain rfl : i = k := by simpa using hi
    unfold cOp
    rw [show l.toArray[i]? = some o by rw [← nthO_eq] at h0; simpa using h0]
    simp only
    split
    · rename_i hw
      simp only [hw, if_true] at h1
      exact h1.mono fun v w' ⟨c1, c2⟩ => ⟨c1, wpAnyX_of_tail rest _ _ _ hp.2 c2⟩
    · rename_i hw
      simp only [hw] at h1
      exact wpAnyX_of_tail rest _ _ _ hp.2 h1
def wpFl (P : Program) (l : List Oper) (C : World → Prop) (Gs : List (World → Prop)) (CL : List Nat) (ob : Nat → Obj) (F0 : List Nat) (B : Nat) (Q : Act → World → Prop) : List (Nat × Bool) → Act → World → Prop
  | [], a, w => ∀ w' (pt : Nat → Nat), Below w.heap.size w w' → C w' → (∀ j ∈ F0, B ≤ pt j ∧ w'.heap[pt j]? = some (ob j)) → (∀ i ∈ F0, ∀ j ∈ F0, i ≠ j → pt i ≠ pt j) → Q (putF l (fun j => some (pt j)) F0 a) w'
  | (i, false) :: rest, a, w => ∃ o v, nthO l i = some o ∧ Stable P l.toArray (nthG Gs (CL.getD i 99)) o v a ∧ wpFl P l C Gs CL ob F0 B Q rest (a.put o.dst v) w
  | (k, true) :: rest, a, w => ∃ o, nthO l k = some o ∧ if Region.wanted o (yielded l.toArray a.tmps) then
      ∀ w', Below w.heap.size w w' → C w' → Calm P o a w' (fun v w'' => Below w'.heap.size w' w'' ∧ C w'' ∧ wpFl P l C Gs CL ob F0 B Q rest (a.put o.dst v) w'') else wpFl P l C Gs CL ob F0 B Q rest (a.put o.dst undef) w
theorem wpAnyC_of_fl {Gs : List (World → Prop)} {CL : List Nat} {bad : List (Nat × Nat)} {Q : Act → World → Prop} {ob : Nat → Obj} {F0 : List Nat} {B : Nat} {plan2 : List Nat} (hns : Region.noSelect l.toArray = true) (hsu : sundry l F0 = true)
    (hl : ∀ j ∈ F0, Lays P l ob j) (hCa : ∀ w o, C w → C (w.alloc o)) (hCG : ∀ w, C w → ∀ G ∈ Gs, G w) (_hF : ∀ j ∈ F0, ∀ g, bad.contains (j, g) = false) :
    ∀ (n : Nat) (plan : List (Nat × Bool)) (F : List Nat) (listed : Array Bool) (pt : Nat → Option Nat) (a : Act) (w w' : World), flOK md l plan2 n listed plan F = true → planApart l F0 plan = true → waits md l CL bad plan = true → (∀ k ∈ plan, ∀ g, bad.contains (k.1, g) = false) → F.Nodup →
      (∀ j ∈ F, j ∈ F0) → (∀ j ∈ F0, pt j = none ↔ j ∈ F) → (∀ j ∈ F0, ∀ p, pt j = some p → B ≤ p ∧ p < w'.heap.size ∧ w'.heap[p]? = some (ob j)) → (∀ i ∈ F0, ∀ j ∈ F0, ∀ p, pt i = some p → pt j = some p → i = j) →
      B ≤ w'.heap.size → Below w.heap.size w w' → C w' → wpFl P l C Gs CL ob F0 B (wpTail P l Gs bad Q plan2) plan a w → wpAnyX P md l.toArray Gs bad Q (n + plan2.length) listed (putF l pt F0 a) w' := by
  have hsel := fun (j : Nat) (o : Oper) cs b (h : nthO l j = some o) => Region.noSelect_spec hns j o cs b (by rw [← nthO_eq] at h; simpa using h)
  -- a block is laid
  have hfl : ∀ (n : Nat) (plan : List (Nat × Bool)) (F : List Nat) (listed : Array Bool) (pt : Nat → Option Nat) (a : Act) (w w' : World),
      (∀ (F : List Nat) (listed : Array Bool) (pt : Nat → Option Nat) (w' : World), flOK md l plan2 n listed plan F = true → F.Nodup →
        (∀ j ∈ F, j ∈ F0) → (∀ j ∈ F0, pt j = none ↔ j ∈ F) → (∀ j ∈ F0, ∀ p, pt j = some p → B ≤ p ∧ p < w'.heap.size ∧ w'.heap[p]? = some (ob j)) → (∀ i ∈ F0, ∀ j ∈ F0, ∀ p, pt i = some p → pt j = some p → i = j) →
        B ≤ w'.heap.size → Below w.heap.size w w' → C w' → wpAnyX P md l.toArray Gs bad Q (n + plan2.length) listed (putF l pt F0 a) w') →
      ∀ j ∈ F, flOK md l plan2 n (listed.setIfInBounds j true) plan (F.erase j) = true → F.Nodup →
      (∀ j ∈ F, j ∈ F0) → (∀ j ∈ F0, pt j = none ↔ j ∈ F) → (∀ j ∈ F0, ∀ p, pt j = some p → B ≤ p ∧ p < w'.heap.size ∧ w'.heap[p]? = some (ob j)) → (∀ i ∈ F0, ∀ j ∈ F0, ∀ p, pt i = some p → pt j = some p → i = j) →
      B ≤ w'.heap.size → Below w.heap.size w w' → C w' → cOp P l.toArray (fun w2 => Keeps Gs bad j w' w2) j (wpAnyX P md l.toArray Gs bad Q (n + plan2.length) (listed.setIfInBounds j true)) (putF l pt F0 a) w' := by
    intro n plan F listed pt a w w' ih j hj hok hnd hF' hnone hpt hinj hB hb hC
    obtain ⟨o, ho, hg, hrun⟩ := hl j (hF' j hj)
    unfold cOp
    rw [show l.toArray[j]? = some o by rw [← nthO_eq] at ho; simpa using ho]
    have hw : Region.wanted o (yielded l.toArray (putF l pt F0 a).tmps) = true := by unfold Region.wanted; rw [hg]
    simp only [hw, if_true]
    unfold Calm
    rw [hrun]
    refine ⟨fun g _ _ => nthG_all (hCG _ (hCa _ _ hC)) g, ?_⟩
    rw [putF_set ho ((hnone j (hF' j hj)).2 hj) (hF' j hj) hsu]
    have hsz : (w'.alloc (ob j)).heap.size = w'.heap.size + 1 := by simp
    have hold : ∀ p, p < w'.heap.size → (w'.alloc (ob j)).heap[p]? = w'.heap[p]? := fun p hp => Below.heap_alloc _ _ _ hp
    have hnew : (w'.alloc (ob j)).heap[w'.heap.size]? = some (ob j) := by
      show (w'.heap.push _)[w'.heap.size]? = _
      simp
    refine ih (F.erase j) _ _ _ hok (hnd.erase _) (fun i hi => hF' i (List.mem_of_mem_erase hi)) ?_ ?_ ?_ (by omega) (hb.alloc hb.size _) (hCa _ _ hC)
    · intro i hi
      unfold setP
      split
      · rename_i e; subst e; simp [hnd.mem_erase_iff]
      · rename_i e; rw [hnone i hi, hnd.mem_erase_iff]; simp [e]
    · intro i hi p hp
      unfold setP at hp
      split at hp
      · rename_i e
        subst e
        obtain rfl : w'.heap.size = p := by simpa using hp
        exact ⟨hB, by omega, hnew⟩
      · obtain ⟨h1, h2, h3⟩ := hpt i hi p hp
        exact ⟨h1, by omega, by rw [hold p h2]; exact h3⟩
    · intro i hi k hk p hp hq
      unfold setP at hp hq
      split at hp <;> split at hq
      · rename_i e1 e2; rw [e1, e2]
      · have h1 : w'.heap.size = p := by simpa using hp
        have h2 := (hpt k hk p hq).2.1
        omega
      · have h1 : w'.heap.size = p := by simpa using hq
        have h2 := (hpt i hi p hp).2.1
        omega
      · exact hinj i hi k hk p hp hq
  intro n
  induction n with
  | zero =>
    intro plan F listed pt a w w' hok hpa hwt hnb hnd hF' hnone hpt hinj hB hb hC h
    simp only [flOK, Bool.and_eq_true, List.isEmpty_iff] at hok
    obtain ⟨⟨rfl, rfl⟩, hp2⟩ := hok
    have hall : ∀ j ∈ F0, ∃ p, pt j = some p := fun j hj => by
      cases hp : pt j with
      | none => exact absurd ((hnone j hj).1 hp) (by simp)
      | some p => exact ⟨p, rfl⟩
    have hget : ∀ j ∈ F0, pt j = some ((pt j).getD 0) := fun j hj => by obtain ⟨p, hp⟩ := hall j hj; rw [hp]; rfl
    have h2 := h w' (fun j => (pt j).getD 0) hb hC (fun j hj => by
      obtain ⟨p, hp⟩ := hall j hj
      have := hpt j hj p hp
      rw [hp]
      exact ⟨this.1, this.2.2⟩) (fun i hi j hj hne he => hne (by
      obtain ⟨p, hp⟩ := hall i hi
      obtain ⟨q, hq⟩ := hall j hj
      rw [hp, hq] at he
      obtain rfl : p = q := by simpa using he
      exact hinj i hi j hj p hp hq))
    rw [putF_congr (pt' := fun j => some ((pt j).getD 0)) hget, Nat.zero_add]
    exact wpAnyX_of_tail _ _ _ _ hp2 h2
  | succ n ih =>
    intro plan F listed pt a w w' hok hpa hwt hnb hnd hF' hnone hpt hinj hB hb hC h
    rw [show n + 1 + plan2.length = (n + plan2.length) + 1 by omega]
    match plan, hok, hpa, hwt, hnb, h with
    | [], hok, hpa, hwt, hnb, h =>
      simp only [flOK, Bool.and_eq_true, List.all_eq_true, Bool.or_eq_true, Bool.not_eq_true', List.contains_eq_mem, decide_eq_true_eq, decide_eq_false_iff_not] at hok
      obtain ⟨⟨hne, hin⟩, hall⟩ := hok
      refine ⟨fun h0 => (by rw [h0] at hne; simp at hne), fun j hj => ?_⟩
      refine hfl n [] F listed pt a w w' (fun F' listed' pt' w2 h1 h2 h3 h4 h5 h6 h7 h8 h9 => ih [] F' listed' pt' a w w2 h1 hpa hwt hnb h2 h3 h4 h5 h6 h7 h8 h9 h) j (hin j hj) ?_ hnd hF' hnone hpt hinj hB hb hC
      rcases hall j (hin j hj) with h1 | h1
      · exact absurd hj h1
      · exact h1
    | (i, false) :: rest, hok, hpa, hwt, hnb, h =>
      simp only [flOK, Bool.and_eq_true, List.contains_eq_mem, decide_eq_true_eq] at hok
      obtain ⟨⟨hfr, hrd⟩, hok⟩ := hok
      obtain ⟨o, v, ho, hst, h1⟩ := h
      simp only [planApart, List.all_cons, Bool.and_eq_true] at hpa
      rw [ho] at hpa
      have ho' : l.toArray[i]? = some o := by have := ho; rw [← nthO_eq] at this; simpa using this
      rw [waits, List.all_cons, Bool.and_eq_true] at hwt
      obtain ⟨hwt1, hwt⟩ := hwt
      have hgo := fun h1 => ih rest F (listed.setIfInBounds i true) pt (a.put o.dst v) w w' hok hpa.2 hwt (fun k hk => hnb k (List.mem_cons_of_mem _ hk)) hnd hF' hnone hpt hinj hB hb hC h1
      rw [putF_put hpa.1] at hgo
      have hst' := hst.of_same (a' := putF l pt F0 a) (putF_exec (fun cs b => hsel i o cs b ho) hpa.1) (putF_wanted hpa.1)
      refine wpAnyX_first ho' (Region.noSelect_spec hns) (fun k ok hok hne => ?_) _ _ _ _ (nthG_all (hCG _ hC) _) (Region.free_spec ho' hfr) hrd hst' (hgo h1)
      cases hk : bad.contains (k, CL.getD i 99) with
      | false => rfl
      | true =>
        exfalso
        simp only [Bool.false_or] at hwt1
        have h5 := List.all_eq_true.1 hwt1 (k, CL.getD i 99) (by simpa using hk)
        simp only [bne_self_eq_false, Bool.false_or] at h5
        rw [show nthO l k = some ok by rw [← nthO_eq]; simpa using hok] at h5
        obtain ⟨e, he, h6⟩ := Array.any_eq_true'.1 h5
        simp only [Bool.and_eq_true, beq_iff_eq] at h6
        exact hne e he h6.1 h6.2
    | (k, true) :: rest, hok, hpa, hwt, hnb, h =>
      have hpa0 := hpa
      have hwt0 := hwt
      simp only [waits, List.all_cons, Bool.true_or, Bool.true_and] at hwt
      have h0 := h
      simp only [flOK, Bool.and_eq_true, List.all_eq_true, Bool.or_eq_true, Bool.not_eq_true', List.contains_eq_mem, decide_eq_true_eq, decide_eq_false_iff_not, beq_iff_eq] at hok
      obtain ⟨⟨⟨hne, hin⟩, hokk⟩, hall⟩ := hok
      obtain ⟨o, ho, h1⟩ := h
      simp only [planApart, List.all_cons, Bool.and_eq_true] at hpa
      rw [ho] at hpa
      have ho' : l.toArray[k]? = some o := by have := ho; rw [← nthO_eq] at this; simpa using this
      refine ⟨fun h0 => (by rw [h0] at hne; simp at hne), fun j hj => ?_⟩
      by_cases hjk : j = k
      · subst hjk
        unfold cOp
        rw [ho']
        simp only
        rw [putF_wanted hpa.1]
        split
        · rename_i hw
          simp only [hw, if_true] at h1
          have h2 := h1 w' hb hC
          unfold Calm at h2 ⊢
          rw [putF_exec (fun cs b => hsel j o cs b ho) hpa.1]
          have h3 : Calm P o a w' (fun v w'' => Keeps Gs bad j w' w'' ∧ wpAnyX P md l.toArray Gs bad Q (n + plan2.length) (listed.setIfInBounds j true) ((putF l pt F0 a).put o.dst v) w'') := by
            refine (show Calm P o a w' _ from h2).mono ?_
            rintro v w'' ⟨hb2, hC2, h4⟩
            refine ⟨fun g _ _ => nthG_all (hCG _ hC2) g, ?_⟩
            rw [← putF_put hpa.1]
            exact ih rest F _ pt _ w'' w'' hokk hpa.2 hwt (fun k hk => hnb k (List.mem_cons_of_mem _ hk)) hnd hF' hnone (fun i hi p hp => by
              obtain ⟨e1, e2, e3⟩ := hpt i hi p hp
              exact ⟨e1, Nat.lt_of_lt_of_le e2 hb2.size, by rw [hb2.block p e2]; exact e3⟩) hinj (Nat.le_trans hB hb2.size) (Below.refl _ _) hC2 h4
          exact h3
        · rename_i hw
          simp only [hw] at h1
          rw [← putF_put hpa.1]
          exact ih rest F _ pt _ w w' hokk hpa.2 hwt (fun k hk => hnb k (List.mem_cons_of_mem _ hk)) hnd hF' hnone hpt hinj hB hb hC h1
      · have hjF : j ∈ F := (hin j hj).resolve_left hjk
        refine hfl n ((k, true) :: rest) F listed pt a w w' (fun F' listed' pt' w2 h1 h2 h3 h4 h5 h6 h7 h8 h9 => ih ((k, true) :: rest) F' listed' pt' a w w2 h1 hpa0 hwt0 hnb h2 h3 h4 h5 h6 h7 h8 h9 h0) j hjF ?_ hnd hF' hnone hpt hinj hB hb hC
        rcases hall j hjF with h1 | h1
        · exact absurd hj h1
        · exact h1
theorem wp_region_fl {id : Nat} {Q : Exit → Act → World → Prop} {a : Act} {w : World} (plan1 : List (Nat × Bool)) (plan2 : List Nat) (F0 : List Nat) (ob : Nat → Obj) (CL : List Nat) (bad : List (Nat × Nat)) (C : World → Prop) (Gs : List (World → Prop)) (hX : ∀ ch a' w', a'.defers = a.defers → PX.X ch w' → Q (.panic ch) a' w') (hm : P.follows .mixedOrders = true) (hs : Region.noSelect l.toArray = true)
    (hlen : plan1.length + F0.length + plan2.length = l.length) (hok : flOK .any l plan2 (plan1.length + F0.length) (Array.replicate l.length false) plan1 F0 = true) (hpa : planApart l F0 plan1 = true) (hwt : waits .any l CL bad plan1 = true) (hnb : notBad bad plan1 F0 = true) (hsu : sundry l F0 = true) (hnd : F0.Nodup)
    (hl : ∀ j ∈ F0, Lays P l ob j) (hCa : ∀ w o, C w → C (w.alloc o)) (hCG : ∀ w, C w → ∀ G ∈ Gs, G w) (hC : C w.drew) (h : wpFl P l C Gs CL ob F0 w.drew.heap.size (wpTail P l Gs bad (Q .normal) plan2) plan1 a w.drew) : (Code.region id l.toArray true).wp P Q a w := by
  refine wp_region_any hm ?_
  have hF0 : ∀ {F : List Nat} {a : Act}, putF l (fun _ => none) F a = a := by
    intro F
    induction F with
    | nil => intro a; rfl
    | cons j F ih =>
      intro a
      unfold putF
      split
      · rename_i h; cases h
      · exact ih
  have hb1 : ∀ k ∈ plan1, ∀ g, bad.contains (k.1, g) = false := fun k hk g => by
    cases h : bad.contains (k.1, g) with
    | false => rfl
    | true =>
      have h2 := List.all_eq_true.1 hnb (k.1, g) (by simpa using h)
      simp only [Bool.and_eq_true] at h2
      have h3 := List.all_eq_true.1 h2.1 k hk
      simp at h3
  have hb2 : ∀ j ∈ F0, ∀ g, bad.contains (j, g) = false := fun j hj g => by
    cases h : bad.contains (j, g) with
    | false => rfl
    | true =>
      have h2 := List.all_eq_true.1 hnb (j, g) (by simpa using h)
      simp only [Bool.and_eq_true, Bool.not_eq_true', List.contains_eq_mem, decide_eq_false_iff_not] at h2
      exact absurd hj h2.2
  have h1 := wpAnyC_of_fl (md := .any) hs hsu hl hCa hCG hb2 (plan1.length + F0.length) plan1 F0 (Array.replicate l.length false) (fun _ => none) a w.drew w.drew hok hpa hwt hb1 hnd (fun j hj => hj) (fun j hj => by simp [hj]) (fun j hj p hp => by cases hp) (fun i hi j hj p hp => by cases hp)
    (Nat.le_refl _) (Below.refl _ _) hC h
  rw [hF0] at h1
  have h3 := wpAny_of_x (Q' := Q) hX (fun a w hq => hq) _ _ _ _ rfl h1
  rw [hlen] at h3
  simpa using h3
variable {Q : Act → World → Prop} {a : Act} {w : World} {rest : List (Nat × Bool)} {o : Oper} {ob : Nat → Obj} {F0 : List Nat} {B : Nat} {Gs : List (World → Prop)} {CL : List Nat} {bad : List (Nat × Nat)}
theorem wpFl_ld {i : Nat} {a' : Act} {G : World → Prop} (hG : nthG Gs (CL.getD i 99) = G) (hi : nthO l i = some o) (h1 : ∀ w', G w' → ∀ K : Act → World → Prop, K a' w' → o.wp P a w' K bot)
    (hw : Region.wanted o (yielded l.toArray a.tmps) = true) (hv : isV o = true) (hb : inB o.dst a = true) (hp : a.put o.dst (slotOf o.dst a') = a')
    (hn : wpFl P l C Gs CL ob F0 B Q rest a' w) : wpFl P l C Gs CL ob F0 B Q ((i, false) :: rest) a w := by
  subst hG
  refine ⟨o, slotOf o.dst a', hi, .inl ⟨hw, fun w' hC => ?_⟩, by rw [hp]; exact hn⟩
  have h := h1 w' hC (fun a2 w2 => a2 = a' ∧ w2 = w') ⟨rfl, rfl⟩
  unfold Oper.wp at h
  have hr := fun n w2 => isV_run (P := P) (ρ := a.eval) (n := n) (w := w') (w' := w2) hv
  generalize (execOp a.eval o).run P w' = r at *
  cases r with
  | ok n w2 =>
    obtain ⟨v, rfl⟩ := hr n w2 rfl
    simp only [Oper.upon] at h
    obtain ⟨h2, rfl⟩ := h
    rw [← h2, slotOf_put hb]
  | halt x w2 => cases x <;> simp only [Oper.upon, bot] at h
theorem wpFl_call {k : Nat} (hi : nthO l k = some o) (hw : Region.wanted o (yielded l.toArray a.tmps) = true)
    (h : ∀ w', Below w.heap.size w w' → C w' → ∀ K : Act → World → Prop, (∀ a' w'', a'.defers = a.defers → Below w'.heap.size w' w'' → C w'' → wpFl P l C Gs CL ob F0 B Q rest a' w'' → K a' w'') → o.wp P a w' K botX) :
    wpFl P l C Gs CL ob F0 B Q ((k, true) :: rest) a w := by
  refine ⟨o, hi, ?_⟩
  rw [if_pos hw]
  intro w' hb hC
  have h := h w' hb hC (fun a' w'' => a'.defers = a.defers ∧ Below w'.heap.size w' w'' ∧ C w'' ∧ wpFl P l C Gs CL ob F0 B Q rest a' w'') (fun a' w' h1 h2 h3 h4 => ⟨h1, h2, h3, h4⟩)
  unfold Oper.wp at h
  unfold Calm
  generalize (execOp a.eval o).run P w' = r at *
  cases r with
  | ok n w2 =>
    cases n <;> simp only [Oper.upon] at h ⊢
    case value => exact h.2
    case skip => exact h.2
    case defer =>
      have h1 := h.1
      unfold Act.put at h1
      split at h1 <;> simp at h1
    case enter =>
      refine h.mono fun e w'' he => ?_
      cases e with
      | returned v => exact he.2
      | panicked c => exact he
      | outgrown => obtain ⟨_, _, hf⟩ := he; exact hf.elim
    case row => exact Rows.mono h fun v w'' he => he.2
  | halt x w2 =>
    cases x <;> simp only [Oper.upon, botX] at h ⊢
    case panic => exact h
theorem wpTail_call {k : Nat} {rest : List Nat} (hi : nthO l k = some o) (hw : Region.wanted o (yielded l.toArray a.tmps) = true)
    (h : ∀ K : Act → World → Prop, (∀ a' w', a'.defers = a.defers → keepL bad k 0 Gs w' → wpTail P l Gs bad Q rest a' w' → K a' w') → o.wp P a w K botX) : wpTail P l Gs bad Q (k :: rest) a w := by
  refine ⟨o, hi, ?_⟩
  rw [if_pos hw]
  have h := h (fun a' w' => a'.defers = a.defers ∧ Keeps Gs bad k w w' ∧ wpTail P l Gs bad Q rest a' w') (fun a' w' h1 h2 h3 => ⟨h1, .of_l h2, h3⟩)
  unfold Oper.wp at h
  unfold Calm
  generalize (execOp a.eval o).run P w = r at *
  cases r with
  | ok n w2 =>
    cases n <;> simp only [Oper.upon] at h ⊢
    case value => exact h.2
    case skip => exact h.2
    case defer =>
      have h1 := h.1
      unfold Act.put at h1
      split at h1 <;> simp at h1
    case enter =>
      refine h.mono fun e w'' he => ?_
      cases e with
      | returned v => exact he.2
      | panicked c => exact he
      | outgrown => obtain ⟨_, _, hf⟩ := he; exact hf.elim
    case row => exact Rows.mono h fun v w'' he => he.2
  | halt x w2 =>
    cases x <;> simp only [Oper.upon, botX] at h ⊢
    case panic => exact h
theorem wpTail_end (h : Q a w) : wpTail P l Gs bad Q [] a w := h
theorem wpFl_end {a' : (Nat → Nat) → Act} (ha : ∀ pt : Nat → Nat, putF l (fun j => some (pt j)) F0 a = a' pt)
    (h : ∀ w' (pt : Nat → Nat), Below w.heap.size w w' → C w' → (∀ j ∈ F0, B ≤ pt j ∧ w'.heap[pt j]? = some (ob j)) → (∀ i ∈ F0, ∀ j ∈ F0, i ≠ j → pt i ≠ pt j) → Q (a' pt) w') : wpFl P l C Gs CL ob F0 B Q [] a w := by
  intro w' pt h1 h2 h3 h4
  rw [ha pt]
  exact h w' pt h1 h2 h3 h4
end
section
variable [PX] {P : Program} {l : List Oper} {Q : Act → World → Prop} {a : Act} {w : World} {o : Oper}
def wpSq (P : Program) (l : List Oper) (Q : Act → World → Prop) : List Nat → Act → World → Prop
  | [], a, w => Q a w
  | k :: rest, a, w => ∃ o, nthO l k = some o ∧ if Region.wanted o (yielded l.toArray a.tmps) then Calm P o a w (fun v w' => wpSq P l Q rest (a.put o.dst v) w') else wpSq P l Q rest (a.put o.dst undef) w
theorem wpOps_of_sq {D : List Deferred} {Q' : Exit → Act → World → Prop} (hX : ∀ ch a w', a.defers = D → PX.X ch w' → Q' (.panic ch) a w') (hQ : ∀ a w, Q a w → Q' .normal a w) : ∀ (plan : List Nat) (a : Act) (w : World), a.defers = D → wpSq P l Q plan a w → wpOps P l.toArray Q' plan a w
  | [], a, w, _, h => hQ _ _ h
  | k :: rest, a, w, hd, h => by
    obtain ⟨o, ho, h⟩ := h
    unfold wpOps
    rw [show l.toArray[k]? = some o by rw [← nthO_eq] at ho; simpa using ho]
    simp only
    split
    · rename_i hw
      simp only [hw, if_true] at h
      exact .inl (Calm.wp (fun ch w' => hX ch a w' hd) (h.mono fun v w' h3 => wpOps_of_sq hX hQ rest _ _ ((put_defers _ _ _).trans hd) h3))
    · rename_i hw
      simp only [hw] at h
      exact wpOps_of_sq hX hQ rest _ _ ((put_defers _ _ _).trans hd) h
theorem wp_region_sq {id : Nat} {Q : Exit → Act → World → Prop} (plan : List Nat) (hX : ∀ ch a' w', a'.defers = a.defers → PX.X ch w' → Q (.panic ch) a' w') (hp : List.range l.length = plan) (h : wpSq P l (Q .normal) plan a w) : (Code.region id l.toArray false).wp P Q a w := by
  refine wp_region ?_
  rw [show l.toArray.size = l.length by simp, hp]
  exact wpOps_of_sq hX (fun _ _ h => h) _ _ _ rfl h
theorem wpSq_call {k : Nat} {rest : List Nat} (hi : nthO l k = some o) (hw : Region.wanted o (yielded l.toArray a.tmps) = true)
    (h : ∀ K : Act → World → Prop, (∀ a' w', a'.defers = a.defers → wpSq P l Q rest a' w' → K a' w') → o.wp P a w K botX) : wpSq P l Q (k :: rest) a w := by
  refine ⟨o, hi, ?_⟩
  rw [if_pos hw]
  have h := h (fun a' w' => a'.defers = a.defers ∧ wpSq P l Q rest a' w') (fun a' w' h1 h2 => ⟨h1, h2⟩)
  unfold Oper.wp at h
  unfold Calm
  generalize (execOp a.eval o).run P w = r at *
  cases r with
  | ok n w2 =>
    cases n <;> simp only [Oper.upon] at h ⊢
    case value => exact h.2
    case skip => exact h.2
    case defer =>
      have h1 := h.1
      unfold Act.put at h1
      split at h1 <;> simp at h1
    case enter =>
      refine h.mono fun e w'' he => ?_
      cases e with
      | returned v => exact he.2
      | panicked c => exact he
      | outgrown => obtain ⟨_, _, hf⟩ := he; exact hf.elim
    case row => exact Rows.mono h fun v w'' he => he.2
  | halt x w2 =>
    cases x <;> simp only [Oper.upon, botX] at h ⊢
    case panic => exact h
theorem wpSq_end (h : Q a w) : wpSq P l Q [] a w := h
end
end Go.Proofs.YtbiiglcfdphmaaaGreat.Pn

/- The same steps where an operation may panic. -/
namespace Go.Proofs.YtbiiglcfdphmaaaGreat
open Go Go.RowKit Dig
set_option linter.unusedVariables false
section
variable [Pn.PX] {P : Program} {l : List Oper} {Q : Act → World → Prop} {a : Act} {w w0 : World} {o : Oper} {k : Nat} {C : World → Prop} {ob : Nat → Obj} {B : Nat} {Gs : List (World → Prop)} {CL : List Nat} {bad : List (Nat × Nat)} {bs : List En}
theorem Pn.sq {rest : List Nat} (h : Stp P o a w Pn.botX (fun _ => True) (Pn.wpSq P l Q rest)) (hi : nthO l k = some o := by rfl) (hw : Region.wanted o (yielded l.toArray a.tmps) = true := by kernel_rfl) : Pn.wpSq P l Q (k :: rest) a w := Pn.wpSq_call hi hw fun K hK => h K fun a' w' h1 _ h3 => hK a' w' h1 h3
theorem Pn.tl {rest : List Nat} (h : Stp P o a w Pn.botX (keepL bad k 0 Gs) (Pn.wpTail P l Gs bad Q rest)) (hi : nthO l k = some o := by rfl) (hw : Region.wanted o (yielded l.toArray a.tmps) = true := by kernel_rfl) : Pn.wpTail P l Gs bad Q (k :: rest) a w := Pn.wpTail_call hi hw fun K hK => h K hK
variable {rest : List (Nat × Bool)} {F0 : List Nat}
theorem Pn.fl (h : ∀ w', Below w.heap.size w w' → Stp P o a w' Pn.botX (fun w'' => Below w'.heap.size w' w'' ∧ C w'') (Pn.wpFl P l C Gs CL ob F0 B Q rest)) (hi : nthO l k = some o := by rfl) (hw : Region.wanted o (yielded l.toArray a.tmps) = true := by kernel_rfl) : Pn.wpFl P l C Gs CL ob F0 B Q ((k, true) :: rest) a w := Pn.wpFl_call hi hw fun w' hb _ K hK => h w' hb K fun a' w'' h1 h2 h3 => hK a' w'' h1 h2.1 h2.2 h3
theorem Pn.f0 {G : World → Prop} {a' : Act} (hn : Pn.wpFl P l C Gs CL ob F0 B Q rest a' w) (hG : nthG Gs (CL.getD k 99) = G := by rfl) (hi : nthO l k = some o := by rfl) (h1 : ∀ (w' : World) (K : Act → World → Prop), K a' w' → o.wp P a w' K bot := by intro w' K hK; go_big_op; exact hK)
    (hw : Region.wanted o (yielded l.toArray a.tmps) = true := by kernel_rfl) (hv : isV o = true := by kernel_rfl) (hb : inB o.dst a = true := by kernel_rfl) (hp : a.put o.dst (slotOf o.dst a') = a' := by kernel_rfl) : Pn.wpFl P l C Gs CL ob F0 B Q ((k, false) :: rest) a w :=
  Pn.wpFl_ld hG hi (fun w' _ => h1 w') hw hv hb hp hn
theorem Pn.fmv {G : World → Prop} {a' : Act} (hn : Pn.wpFl P l C Gs CL ob F0 B Q rest a' w) (hG : nthG Gs (CL.getD k 99) = G := by rfl) (hi : nthO l k = some o := by rfl) (h1 : ∀ (w' : World) (K : Act → World → Prop), K a' w' → o.wp P a w' K bot := by intro w' K hK; go_big_move; exact hK)
    (hw : Region.wanted o (yielded l.toArray a.tmps) = true := by kernel_rfl) (hv : isV o = true := by kernel_rfl) (hb : inB o.dst a = true := by kernel_rfl) (hp : a.put o.dst (slotOf o.dst a') = a' := by kernel_rfl) : Pn.wpFl P l C Gs CL ob F0 B Q ((k, false) :: rest) a w :=
  Pn.wpFl_ld hG hi (fun w' _ => h1 w') hw hv hb hp hn
theorem Pn.f4 {b : Nat} {c0 c1 c2 c3 : Value} {ty : TypeId} {a' : Act} (hn : Pn.wpFl P l C Gs CL ob F0 B Q rest a' w) (hG : nthG Gs (CL.getD k 99) = BG (b, #[c0, c1, c2, c3], ty) := by rfl) (hi : nthO l k = some o := by rfl) (h1 : ∀ w' : World, w'.cell? ⟨b, 0, none⟩ = some c0 → w'.cell? ⟨b, 1, none⟩ = some c1 → w'.cell? ⟨b, 2, none⟩ = some c2 → w'.cell? ⟨b, 3, none⟩ = some c3 → ∀ K : Act → World → Prop, K a' w' → o.wp P a w' K bot := by intro w' d0 d1 d2 d3 K hK; go_big_op; exact hK)
    (hw : Region.wanted o (yielded l.toArray a.tmps) = true := by kernel_rfl) (hv : isV o = true := by kernel_rfl) (hb : inB o.dst a = true := by kernel_rfl) (hp : a.put o.dst (slotOf o.dst a') = a' := by kernel_rfl) : Pn.wpFl P l C Gs CL ob F0 B Q ((k, false) :: rest) a w :=
  Pn.wpFl_ld hG hi (fun w' hC => h1 w' (Bs.cell hC 0 rfl) (Bs.cell hC 1 rfl) (Bs.cell hC 2 rfl) (Bs.cell hC 3 rfl)) hw hv hb hp hn
theorem Pn.e2 {j0 j1 : Nat} {cs0 cs1 : Array Value} {ty0 ty1 : TypeId} {a' : Nat → Nat → Act} (hs : St w0 bs w) (hl : ∀ f ∈ bs.map (·.1), ∀ k, f = some k → k < B) (hk : w0.heap.size ≤ B)
    (h : ∀ w' p0 p1, St w0 (bx p0 cs0 ty0 :: bx p1 cs1 ty1 :: bs) w' → Below w.heap.size w w' → Hid (w0.heap.size ≤ p0) → Hid (w0.heap.size ≤ p1) → Q (a' p0 p1) w')
    (ha : ∀ p0 p1, putF l (fun j => some (if j = j0 then p0 else p1)) [j0, j1] a = a' p0 p1 := by intro p0 p1; simp only [putF, nthO, Act.put, ptr, List.setIfInBounds_toArray, List.set_cons_succ, List.set_cons_zero, if_true, if_false, eq_self, Nat.reduceEqDiff, reduceIte]; rfl) (ho0 : ob j0 = .cells cs0 ty0 := by rfl) (ho1 : ob j1 = .cells cs1 ty1 := by rfl) (hnd : [j0, j1].Nodup := by decide) : Pn.wpFl P l C Gs CL ob [j0, j1] B Q [] a w := by
  refine Pn.wpFl_end (a' := fun pt => a' (pt j0) (pt j1)) (fun pt => ?_) fun w' pt hb _ hF hD => ?_
  · rw [← ha]
    refine putF_congr fun j hj => ?_
    simp only [List.mem_cons, List.not_mem_nil, or_false] at hj
    congr 1
    (repeat' split) <;> first | rw [show j = j0 by omega] | rw [show j = j1 by omega]
  · have hx : ∀ j ∈ [j0, j1], ∀ f ∈ bs.map (·.1), ∀ k, some (pt j) = some k → f ≠ some k := fun j hj f hf k hk hc => Nat.lt_irrefl _ (Nat.lt_of_lt_of_le (hl _ hf k hc) (by cases hk; exact (hF j hj).1))
    have y0 : Bs w' (pt j0) cs0 ty0 := by have := (hF j0 (by simp)).2; rw [ho0] at this; exact this
    have k0 := Nat.le_trans hk (hF j0 (by simp)).1
    have y1 : Bs w' (pt j1) cs1 ty1 := by have := (hF j1 (by simp)).2; rw [ho1] at this; exact this
    have k1 := Nat.le_trans hk (hF j1 (by simp)).1
    simp only [List.nodup_cons, List.mem_cons, List.not_mem_nil, or_false, List.nodup_nil, and_true, not_false_eq_true] at hnd
    have s1 : St w0 (bx (pt j1) cs1 ty1 :: bs) w' := .cons (.bx y1) (hx j1 (by simp)) (hs.bl hb)
    have s0 : St w0 (bx (pt j0) cs0 ty0 :: bx (pt j1) cs1 ty1 :: bs) w' := .cons (.bx y0) (fun f hf k hk => by
      simp only [List.map_cons, List.mem_cons] at hf
      rcases hf with rfl | hf
      · exact fun hc => hD j0 (by simp) j1 (by simp) (by omega) (Option.some.inj (hk.trans hc.symm))
      · exact hx j0 (by simp) f hf k hk) s1
    exact h w' (pt j0) (pt j1) s0 hb k0 k1
theorem Pn.e3 {j0 j1 j2 : Nat} {cs0 cs1 cs2 : Array Value} {ty0 ty1 ty2 : TypeId} {a' : Nat → Nat → Nat → Act} (hs : St w0 bs w) (hl : ∀ f ∈ bs.map (·.1), ∀ k, f = some k → k < B) (hk : w0.heap.size ≤ B)
    (h : ∀ w' p0 p1 p2, St w0 (bx p0 cs0 ty0 :: bx p1 cs1 ty1 :: bx p2 cs2 ty2 :: bs) w' → Below w.heap.size w w' → Hid (w0.heap.size ≤ p0) → Hid (w0.heap.size ≤ p1) → Hid (w0.heap.size ≤ p2) → Q (a' p0 p1 p2) w')
    (ha : ∀ p0 p1 p2, putF l (fun j => some (if j = j0 then p0 else if j = j1 then p1 else p2)) [j0, j1, j2] a = a' p0 p1 p2 := by intro p0 p1 p2; simp only [putF, nthO, Act.put, ptr, List.setIfInBounds_toArray, List.set_cons_succ, List.set_cons_zero, if_true, if_false, eq_self, Nat.reduceEqDiff, reduceIte]; rfl) (ho0 : ob j0 = .cells cs0 ty0 := by rfl) (ho1 : ob j1 = .cells cs1 ty1 := by rfl) (ho2 : ob j2 = .cells cs2 ty2 := by rfl) (hnd : [j0, j1, j2].Nodup := by decide) : Pn.wpFl P l C Gs CL ob [j0, j1, j2] B Q [] a w := by
  refine Pn.wpFl_end (a' := fun pt => a' (pt j0) (pt j1) (pt j2)) (fun pt => ?_) fun w' pt hb _ hF hD => ?_
  · rw [← ha]
    refine putF_congr fun j hj => ?_
    simp only [List.mem_cons, List.not_mem_nil, or_false] at hj
    congr 1
    (repeat' split) <;> first | rw [show j = j0 by omega] | rw [show j = j1 by omega] | rw [show j = j2 by omega]
  · have hx : ∀ j ∈ [j0, j1, j2], ∀ f ∈ bs.map (·.1), ∀ k, some (pt j) = some k → f ≠ some k := fun j hj f hf k hk hc => Nat.lt_irrefl _ (Nat.lt_of_lt_of_le (hl _ hf k hc) (by cases hk; exact (hF j hj).1))
    have y0 : Bs w' (pt j0) cs0 ty0 := by have := (hF j0 (by simp)).2; rw [ho0] at this; exact this
    have k0 := Nat.le_trans hk (hF j0 (by simp)).1
    have y1 : Bs w' (pt j1) cs1 ty1 := by have := (hF j1 (by simp)).2; rw [ho1] at this; exact this
    have k1 := Nat.le_trans hk (hF j1 (by simp)).1
    have y2 : Bs w' (pt j2) cs2 ty2 := by have := (hF j2 (by simp)).2; rw [ho2] at this; exact this
    have k2 := Nat.le_trans hk (hF j2 (by simp)).1
    simp only [List.nodup_cons, List.mem_cons, List.not_mem_nil, not_or, or_false, List.nodup_nil, and_true, not_false_eq_true] at hnd
    have s2 : St w0 (bx (pt j2) cs2 ty2 :: bs) w' := .cons (.bx y2) (hx j2 (by simp)) (hs.bl hb)
    have s1 : St w0 (bx (pt j1) cs1 ty1 :: bx (pt j2) cs2 ty2 :: bs) w' := .cons (.bx y1) (fun f hf k hk => by
      simp only [List.map_cons, List.mem_cons] at hf
      rcases hf with rfl | hf
      · exact fun hc => hD j1 (by simp) j2 (by simp) (by omega) (Option.some.inj (hk.trans hc.symm))
      · exact hx j1 (by simp) f hf k hk) s2
    have s0 : St w0 (bx (pt j0) cs0 ty0 :: bx (pt j1) cs1 ty1 :: bx (pt j2) cs2 ty2 :: bs) w' := .cons (.bx y0) (fun f hf k hk => by
      simp only [List.map_cons, List.mem_cons] at hf
      rcases hf with rfl | rfl | hf
      · exact fun hc => hD j0 (by simp) j1 (by simp) (by omega) (Option.some.inj (hk.trans hc.symm))
      · exact fun hc => hD j0 (by simp) j2 (by simp) (by omega) (Option.some.inj (hk.trans hc.symm))
      · exact hx j0 (by simp) f hf k hk) s1
    exact h w' (pt j0) (pt j1) (pt j2) s0 hb k0 k1 k2
theorem Pn.wp_region_f4 {id : Nat} {Q : Exit → Act → World → Prop} (plan1 : List (Nat × Bool)) (plan2 : List Nat) (F0 : List Nat) (ob : Nat → Obj) (CL : List Nat) (bad : List (Nat × Nat)) {bs : List (Nat × Array Value × TypeId)} (hC : AllB bs w) (hl : ∀ j ∈ F0, Lays P l ob j) (hX : ∀ ch a' w', a'.defers = a.defers → Pn.PX.X ch w' → Q (.panic ch) a' w') 
    (h : ∀ w', Below w.heap.size w w' → Pn.wpFl P l (AllB bs) (bs.map BG) CL ob F0 w'.heap.size (Pn.wpTail P l (bs.map BG) bad (Q .normal) plan2) plan1 a w')
    (hm : P.follows .mixedOrders = true := by kernel_rfl) (hs : Region.noSelect l.toArray = true := by kernel_rfl)
    (hlen : plan1.length + F0.length + plan2.length = l.length := by kernel_rfl) (hok : flOK .any l plan2 (plan1.length + F0.length) (Array.replicate l.length false) plan1 F0 = true := by kernel_rfl) (hpa : planApart l F0 plan1 = true := by kernel_rfl) (hwt : waits .any l CL bad plan1 = true := by kernel_rfl) (hnb : notBad bad plan1 F0 = true := by kernel_rfl) (hsu : sundry l F0 = true := by kernel_rfl) (hnd : F0.Nodup := by decide) : (Code.region id l.toArray true).wp P Q a w :=
  Pn.wp_region_fl plan1 plan2 F0 ob CL bad (AllB bs) (bs.map BG) hX hm hs hlen hok hpa hwt hnb hsu hnd hl (fun _ _ hC => hC.alloc) (fun _ hC => hC.get) (hC.bl (Below.refl _ _).drew) (h _ (Below.refl _ _).drew)
theorem Pn.rg {id : Nat} {Q : Exit → Act → World → Prop} (plan : List Nat) (hX : ∀ ch a' w', a'.defers = a.defers → Pn.PX.X ch w' → Q (.panic ch) a' w') (h : Pn.wpSq P l (Q .normal) plan a w) (hp : List.range l.length = plan := by kernel_rfl) : (Code.region id l.toArray false).wp P Q a w := Pn.wp_region_sq plan hX hp h
end
end Go.Proofs.YtbiiglcfdphmaaaGreat
