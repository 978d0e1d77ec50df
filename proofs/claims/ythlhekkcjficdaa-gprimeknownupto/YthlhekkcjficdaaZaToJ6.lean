/- The law's awake. -/
import Derived.Test.YthlhekkcjficdaaWkToG2
import Derived.Test.YthlhekkcjficdaaY5ToD1
import Derived.Test.YthlhekkcjficdaaDrToJ2
import Derived.Test.YthlhekkcjficdaaG3ToR10
import Derived.Test.YthlhekkcjficdaaR2aToR6
import Derived.Test.YthlhekkcjficdaaT1ToG7

namespace Go.Proofs.Ythlhekkcjficdaa
open Go Go.RowKit Dig
set_option linter.unusedVariables false
end Go.Proofs.Ythlhekkcjficdaa


/- The reference's Small of a whole number; gprime.small. -/
namespace Go.Proofs.Ythlhekkcjficdaa
open Go Go.RowKit Dig
set_option linter.unusedVariables false

section
variable {w : World} {va : Value} {z : Int} {l : Nat}
end
end Go.Proofs.Ythlhekkcjficdaa


/- gint: Canon; the reference's. -/
namespace Go.Proofs.Ythlhekkcjficdaa
open Go Go.RowKit Dig
set_option linter.unusedVariables false

section
variable {w : World} {va vb : Value} {x y u v : Int} {l m k n : Nat}
set_option maxHeartbeats 4000000 in
set_option maxRecDepth 20000 in
theorem quarters_mm (w : World) :
    Calls Try.prog 42 #[.int .i64 (-1), .int .i64 (-1)] w fun e w' => e = .returned (.int .i64 2) ∧ Below w.heap.size w w' := by
  go_enter Try.func42, Try.ntmps42
  have hs := St.nil w
  refine wp_seq_k ?_
  intro K1 hK1
  refine rg [0] ?_
  refine sq ?_
  refine .mv ?_
  apply wpSq_end
  refine hK1 _ _ ?_
  refine wp_seq_k ?_
  intro K2 hK2
  refine wp_block ?_
  refine wp_seq_k ?_
  intro K3 hK3
  refine rg [0, 1, 2, 3, 4, 5, 6] ?_
  refine sq ?_
  refine .mv ?_
  refine sq ?_
  refine .r0 ?_
  refine sq ?_
  refine .mv ?_
  refine sq ?_
  refine .mv ?_
  refine sq ?_
  refine .r0 ?_
  refine sq ?_
  refine .r0 ?_
  refine sq ?_
  refine .mv ?_
  apply wpSq_end
  refine hK3 _ _ ?_
  refine cf ?_
  refine wp_seq_k ?_
  intro K4 hK4
  refine rg [0, 1, 2, 3, 4, 5, 6] ?_
  refine sq ?_
  refine .mv ?_
  refine sq ?_
  refine .r0 ?_
  refine sq ?_
  refine .mv ?_
  refine sq ?_
  refine .mv ?_
  refine sq ?_
  refine .r0 ?_
  refine sq ?_
  refine .r0 ?_
  refine sq ?_
  refine .mv ?_
  apply wpSq_end
  refine hK4 _ _ ?_
  refine ct ?_
  refine wp_seq_k ?_
  intro K5 hK5
  refine rg [0] ?_
  refine sq ?_
  refine .mv ?_
  apply wpSq_end
  refine hK5 _ _ ?_
  refine wp_ret ?_
  try dsimp only [Exit.then, Exit.inBlock]
  refine bodyPost_ret (v := (.int .i64 2)) (by simp [results, Try.results42, go_sem]) rfl ?_
  have hb := hs.b
  exact ⟨rfl, hb⟩
set_option maxHeartbeats 4000000 in
set_option maxRecDepth 20000 in
theorem quarters_mz (w : World) :
    Calls Try.prog 42 #[.int .i64 (-1), .int .i64 0] w fun e w' => e = .returned (.int .i64 2) ∧ Below w.heap.size w w' := by
  go_enter Try.func42, Try.ntmps42
  have hs := St.nil w
  refine wp_seq_k ?_
  intro K1 hK1
  refine rg [0] ?_
  refine sq ?_
  refine .mv ?_
  apply wpSq_end
  refine hK1 _ _ ?_
  refine wp_seq_k ?_
  intro K2 hK2
  refine wp_block ?_
  refine wp_seq_k ?_
  intro K3 hK3
  refine rg [0, 1, 2, 3, 4, 5, 6] ?_
  refine sq ?_
  refine .mv ?_
  refine sq ?_
  refine .r0 ?_
  refine sq ?_
  refine .mv ?_
  refine sk ?_
  refine sk ?_
  refine sq ?_
  refine .r0 ?_
  refine sq ?_
  refine .mv ?_
  apply wpSq_end
  refine hK3 _ _ ?_
  refine cf ?_
  refine wp_seq_k ?_
  intro K4 hK4
  refine rg [0, 1, 2, 3, 4, 5, 6] ?_
  refine sq ?_
  refine .mv ?_
  refine sq ?_
  refine .r0 ?_
  refine sq ?_
  refine .mv ?_
  refine sq ?_
  refine .mv ?_
  refine sq ?_
  refine .r0 ?_
  refine sq ?_
  refine .r0 ?_
  refine sq ?_
  refine .mv ?_
  apply wpSq_end
  refine hK4 _ _ ?_
  refine ct ?_
  refine wp_seq_k ?_
  intro K5 hK5
  refine rg [0] ?_
  refine sq ?_
  refine .mv ?_
  apply wpSq_end
  refine hK5 _ _ ?_
  refine wp_ret ?_
  try dsimp only [Exit.then, Exit.inBlock]
  refine bodyPost_ret (v := (.int .i64 2)) (by simp [results, Try.results42, go_sem]) rfl ?_
  have hb := hs.b
  exact ⟨rfl, hb⟩
set_option maxHeartbeats 4000000 in
set_option maxRecDepth 20000 in
theorem quarters_mp (w : World) :
    Calls Try.prog 42 #[.int .i64 (-1), .int .i64 1] w fun e w' => e = .returned (.int .i64 3) ∧ Below w.heap.size w w' := by
  go_enter Try.func42, Try.ntmps42
  have hs := St.nil w
  refine wp_seq_k ?_
  intro K1 hK1
  refine rg [0] ?_
  refine sq ?_
  refine .mv ?_
  apply wpSq_end
  refine hK1 _ _ ?_
  refine wp_seq_k ?_
  intro K2 hK2
  refine wp_block ?_
  refine wp_seq_k ?_
  intro K3 hK3
  refine rg [0, 1, 2, 3, 4, 5, 6] ?_
  refine sq ?_
  refine .mv ?_
  refine sq ?_
  refine .r0 ?_
  refine sq ?_
  refine .mv ?_
  refine sk ?_
  refine sk ?_
  refine sq ?_
  refine .r0 ?_
  refine sq ?_
  refine .mv ?_
  apply wpSq_end
  refine hK3 _ _ ?_
  refine cf ?_
  refine wp_seq_k ?_
  intro K4 hK4
  refine rg [0, 1, 2, 3, 4, 5, 6] ?_
  refine sq ?_
  refine .mv ?_
  refine sq ?_
  refine .r0 ?_
  refine sq ?_
  refine .mv ?_
  refine sq ?_
  refine .mv ?_
  refine sq ?_
  refine .r0 ?_
  refine sq ?_
  refine .r0 ?_
  refine sq ?_
  refine .mv ?_
  apply wpSq_end
  refine hK4 _ _ ?_
  refine cf ?_
  refine wp_seq_k ?_
  intro K5 hK5
  refine rg [0, 1, 2, 3, 4, 5, 6] ?_
  refine sq ?_
  refine .mv ?_
  refine sq ?_
  refine .r0 ?_
  refine sq ?_
  refine .mv ?_
  refine sq ?_
  refine .mv ?_
  refine sq ?_
  refine .r0 ?_
  refine sq ?_
  refine .r0 ?_
  refine sq ?_
  refine .mv ?_
  apply wpSq_end
  refine hK5 _ _ ?_
  refine ct ?_
  refine wp_seq_k ?_
  intro K6 hK6
  refine rg [0] ?_
  refine sq ?_
  refine .mv ?_
  apply wpSq_end
  refine hK6 _ _ ?_
  refine wp_ret ?_
  try dsimp only [Exit.then, Exit.inBlock]
  refine bodyPost_ret (v := (.int .i64 3)) (by simp [results, Try.results42, go_sem]) rfl ?_
  have hb := hs.b
  exact ⟨rfl, hb⟩
set_option maxHeartbeats 4000000 in
set_option maxRecDepth 20000 in
theorem quarters_zm (w : World) :
    Calls Try.prog 42 #[.int .i64 0, .int .i64 (-1)] w fun e w' => e = .returned (.int .i64 1) ∧ Below w.heap.size w w' := by
  go_enter Try.func42, Try.ntmps42
  have hs := St.nil w
  refine wp_seq_k ?_
  intro K1 hK1
  refine rg [0] ?_
  refine sq ?_
  refine .mv ?_
  apply wpSq_end
  refine hK1 _ _ ?_
  refine wp_seq_k ?_
  intro K2 hK2
  refine wp_block ?_
  refine wp_seq_k ?_
  intro K3 hK3
  refine rg [0, 1, 2, 3, 4, 5, 6] ?_
  refine sq ?_
  refine .mv ?_
  refine sq ?_
  refine .r0 ?_
  refine sq ?_
  refine .mv ?_
  refine sq ?_
  refine .mv ?_
  refine sq ?_
  refine .r0 ?_
  refine sq ?_
  refine .r0 ?_
  refine sq ?_
  refine .mv ?_
  apply wpSq_end
  refine hK3 _ _ ?_
  refine ct ?_
  refine wp_seq_k ?_
  intro K4 hK4
  refine rg [0] ?_
  refine sq ?_
  refine .mv ?_
  apply wpSq_end
  refine hK4 _ _ ?_
  refine wp_ret ?_
  try dsimp only [Exit.then, Exit.inBlock]
  refine bodyPost_ret (v := (.int .i64 1)) (by simp [results, Try.results42, go_sem]) rfl ?_
  have hb := hs.b
  exact ⟨rfl, hb⟩
set_option maxHeartbeats 4000000 in
set_option maxRecDepth 20000 in
theorem quarters_zz (w : World) :
    Calls Try.prog 42 #[.int .i64 0, .int .i64 0] w fun e w' => e = .returned (.int .i64 0) ∧ Below w.heap.size w w' := by
  go_enter Try.func42, Try.ntmps42
  have hs := St.nil w
  refine wp_seq_k ?_
  intro K1 hK1
  refine rg [0] ?_
  refine sq ?_
  refine .mv ?_
  apply wpSq_end
  refine hK1 _ _ ?_
  refine wp_seq_k ?_
  intro K2 hK2
  refine wp_block ?_
  refine wp_seq_k ?_
  intro K3 hK3
  refine rg [0, 1, 2, 3, 4, 5, 6] ?_
  refine sq ?_
  refine .mv ?_
  refine sq ?_
  refine .r0 ?_
  refine sq ?_
  refine .mv ?_
  refine sk ?_
  refine sk ?_
  refine sq ?_
  refine .r0 ?_
  refine sq ?_
  refine .mv ?_
  apply wpSq_end
  refine hK3 _ _ ?_
  refine cf ?_
  refine wp_seq_k ?_
  intro K4 hK4
  refine rg [0, 1, 2, 3, 4, 5, 6] ?_
  refine sq ?_
  refine .mv ?_
  refine sq ?_
  refine .r0 ?_
  refine sq ?_
  refine .mv ?_
  refine sk ?_
  refine sk ?_
  refine sq ?_
  refine .r0 ?_
  refine sq ?_
  refine .mv ?_
  apply wpSq_end
  refine hK4 _ _ ?_
  refine cf ?_
  refine wp_seq_k ?_
  intro K5 hK5
  refine rg [0, 1, 2, 3, 4, 5, 6] ?_
  refine sq ?_
  refine .mv ?_
  refine sq ?_
  refine .r0 ?_
  refine sq ?_
  refine .mv ?_
  refine sk ?_
  refine sk ?_
  refine sq ?_
  refine .r0 ?_
  refine sq ?_
  refine .mv ?_
  apply wpSq_end
  refine hK5 _ _ ?_
  refine cf ?_
  refine wp_skip ?_
  refine hK2 _ _ ?_
  refine wp_seq_k ?_
  intro K6 hK6
  refine rg [0] ?_
  refine sq ?_
  refine .mv ?_
  apply wpSq_end
  refine hK6 _ _ ?_
  refine wp_ret ?_
  try dsimp only [Exit.then, Exit.inBlock]
  refine bodyPost_ret (v := (.int .i64 0)) (by simp [results, Try.results42, go_sem]) rfl ?_
  have hb := hs.b
  exact ⟨rfl, hb⟩
set_option maxHeartbeats 4000000 in
set_option maxRecDepth 20000 in
theorem quarters_zp (w : World) :
    Calls Try.prog 42 #[.int .i64 0, .int .i64 1] w fun e w' => e = .returned (.int .i64 3) ∧ Below w.heap.size w w' := by
  go_enter Try.func42, Try.ntmps42
  have hs := St.nil w
  refine wp_seq_k ?_
  intro K1 hK1
  refine rg [0] ?_
  refine sq ?_
  refine .mv ?_
  apply wpSq_end
  refine hK1 _ _ ?_
  refine wp_seq_k ?_
  intro K2 hK2
  refine wp_block ?_
  refine wp_seq_k ?_
  intro K3 hK3
  refine rg [0, 1, 2, 3, 4, 5, 6] ?_
  refine sq ?_
  refine .mv ?_
  refine sq ?_
  refine .r0 ?_
  refine sq ?_
  refine .mv ?_
  refine sk ?_
  refine sk ?_
  refine sq ?_
  refine .r0 ?_
  refine sq ?_
  refine .mv ?_
  apply wpSq_end
  refine hK3 _ _ ?_
  refine cf ?_
  refine wp_seq_k ?_
  intro K4 hK4
  refine rg [0, 1, 2, 3, 4, 5, 6] ?_
  refine sq ?_
  refine .mv ?_
  refine sq ?_
  refine .r0 ?_
  refine sq ?_
  refine .mv ?_
  refine sk ?_
  refine sk ?_
  refine sq ?_
  refine .r0 ?_
  refine sq ?_
  refine .mv ?_
  apply wpSq_end
  refine hK4 _ _ ?_
  refine cf ?_
  refine wp_seq_k ?_
  intro K5 hK5
  refine rg [0, 1, 2, 3, 4, 5, 6] ?_
  refine sq ?_
  refine .mv ?_
  refine sq ?_
  refine .r0 ?_
  refine sq ?_
  refine .mv ?_
  refine sq ?_
  refine .mv ?_
  refine sq ?_
  refine .r0 ?_
  refine sq ?_
  refine .r0 ?_
  refine sq ?_
  refine .mv ?_
  apply wpSq_end
  refine hK5 _ _ ?_
  refine ct ?_
  refine wp_seq_k ?_
  intro K6 hK6
  refine rg [0] ?_
  refine sq ?_
  refine .mv ?_
  apply wpSq_end
  refine hK6 _ _ ?_
  refine wp_ret ?_
  try dsimp only [Exit.then, Exit.inBlock]
  refine bodyPost_ret (v := (.int .i64 3)) (by simp [results, Try.results42, go_sem]) rfl ?_
  have hb := hs.b
  exact ⟨rfl, hb⟩
set_option maxHeartbeats 4000000 in
set_option maxRecDepth 20000 in
theorem quarters_pm (w : World) :
    Calls Try.prog 42 #[.int .i64 1, .int .i64 (-1)] w fun e w' => e = .returned (.int .i64 1) ∧ Below w.heap.size w w' := by
  go_enter Try.func42, Try.ntmps42
  have hs := St.nil w
  refine wp_seq_k ?_
  intro K1 hK1
  refine rg [0] ?_
  refine sq ?_
  refine .mv ?_
  apply wpSq_end
  refine hK1 _ _ ?_
  refine wp_seq_k ?_
  intro K2 hK2
  refine wp_block ?_
  refine wp_seq_k ?_
  intro K3 hK3
  refine rg [0, 1, 2, 3, 4, 5, 6] ?_
  refine sq ?_
  refine .mv ?_
  refine sq ?_
  refine .r0 ?_
  refine sq ?_
  refine .mv ?_
  refine sq ?_
  refine .mv ?_
  refine sq ?_
  refine .r0 ?_
  refine sq ?_
  refine .r0 ?_
  refine sq ?_
  refine .mv ?_
  apply wpSq_end
  refine hK3 _ _ ?_
  refine ct ?_
  refine wp_seq_k ?_
  intro K4 hK4
  refine rg [0] ?_
  refine sq ?_
  refine .mv ?_
  apply wpSq_end
  refine hK4 _ _ ?_
  refine wp_ret ?_
  try dsimp only [Exit.then, Exit.inBlock]
  refine bodyPost_ret (v := (.int .i64 1)) (by simp [results, Try.results42, go_sem]) rfl ?_
  have hb := hs.b
  exact ⟨rfl, hb⟩
set_option maxHeartbeats 4000000 in
set_option maxRecDepth 20000 in
theorem quarters_pz (w : World) :
    Calls Try.prog 42 #[.int .i64 1, .int .i64 0] w fun e w' => e = .returned (.int .i64 0) ∧ Below w.heap.size w w' := by
  go_enter Try.func42, Try.ntmps42
  have hs := St.nil w
  refine wp_seq_k ?_
  intro K1 hK1
  refine rg [0] ?_
  refine sq ?_
  refine .mv ?_
  apply wpSq_end
  refine hK1 _ _ ?_
  refine wp_seq_k ?_
  intro K2 hK2
  refine wp_block ?_
  refine wp_seq_k ?_
  intro K3 hK3
  refine rg [0, 1, 2, 3, 4, 5, 6] ?_
  refine sq ?_
  refine .mv ?_
  refine sq ?_
  refine .r0 ?_
  refine sq ?_
  refine .mv ?_
  refine sk ?_
  refine sk ?_
  refine sq ?_
  refine .r0 ?_
  refine sq ?_
  refine .mv ?_
  apply wpSq_end
  refine hK3 _ _ ?_
  refine cf ?_
  refine wp_seq_k ?_
  intro K4 hK4
  refine rg [0, 1, 2, 3, 4, 5, 6] ?_
  refine sq ?_
  refine .mv ?_
  refine sq ?_
  refine .r0 ?_
  refine sq ?_
  refine .mv ?_
  refine sk ?_
  refine sk ?_
  refine sq ?_
  refine .r0 ?_
  refine sq ?_
  refine .mv ?_
  apply wpSq_end
  refine hK4 _ _ ?_
  refine cf ?_
  refine wp_seq_k ?_
  intro K5 hK5
  refine rg [0, 1, 2, 3, 4, 5, 6] ?_
  refine sq ?_
  refine .mv ?_
  refine sq ?_
  refine .r0 ?_
  refine sq ?_
  refine .mv ?_
  refine sk ?_
  refine sk ?_
  refine sq ?_
  refine .r0 ?_
  refine sq ?_
  refine .mv ?_
  apply wpSq_end
  refine hK5 _ _ ?_
  refine cf ?_
  refine wp_skip ?_
  refine hK2 _ _ ?_
  refine wp_seq_k ?_
  intro K6 hK6
  refine rg [0] ?_
  refine sq ?_
  refine .mv ?_
  apply wpSq_end
  refine hK6 _ _ ?_
  refine wp_ret ?_
  try dsimp only [Exit.then, Exit.inBlock]
  refine bodyPost_ret (v := (.int .i64 0)) (by simp [results, Try.results42, go_sem]) rfl ?_
  have hb := hs.b
  exact ⟨rfl, hb⟩
set_option maxHeartbeats 4000000 in
set_option maxRecDepth 20000 in
theorem quarters_pp (w : World) :
    Calls Try.prog 42 #[.int .i64 1, .int .i64 1] w fun e w' => e = .returned (.int .i64 0) ∧ Below w.heap.size w w' := by
  go_enter Try.func42, Try.ntmps42
  have hs := St.nil w
  refine wp_seq_k ?_
  intro K1 hK1
  refine rg [0] ?_
  refine sq ?_
  refine .mv ?_
  apply wpSq_end
  refine hK1 _ _ ?_
  refine wp_seq_k ?_
  intro K2 hK2
  refine wp_block ?_
  refine wp_seq_k ?_
  intro K3 hK3
  refine rg [0, 1, 2, 3, 4, 5, 6] ?_
  refine sq ?_
  refine .mv ?_
  refine sq ?_
  refine .r0 ?_
  refine sq ?_
  refine .mv ?_
  refine sk ?_
  refine sk ?_
  refine sq ?_
  refine .r0 ?_
  refine sq ?_
  refine .mv ?_
  apply wpSq_end
  refine hK3 _ _ ?_
  refine cf ?_
  refine wp_seq_k ?_
  intro K4 hK4
  refine rg [0, 1, 2, 3, 4, 5, 6] ?_
  refine sq ?_
  refine .mv ?_
  refine sq ?_
  refine .r0 ?_
  refine sq ?_
  refine .mv ?_
  refine sk ?_
  refine sk ?_
  refine sq ?_
  refine .r0 ?_
  refine sq ?_
  refine .mv ?_
  apply wpSq_end
  refine hK4 _ _ ?_
  refine cf ?_
  refine wp_seq_k ?_
  intro K5 hK5
  refine rg [0, 1, 2, 3, 4, 5, 6] ?_
  refine sq ?_
  refine .mv ?_
  refine sq ?_
  refine .r0 ?_
  refine sq ?_
  refine .mv ?_
  refine sq ?_
  refine .mv ?_
  refine sq ?_
  refine .r0 ?_
  refine sq ?_
  refine .r0 ?_
  refine sq ?_
  refine .mv ?_
  apply wpSq_end
  refine hK5 _ _ ?_
  refine cf ?_
  refine wp_skip ?_
  refine hK2 _ _ ?_
  refine wp_seq_k ?_
  intro K6 hK6
  refine rg [0] ?_
  refine sq ?_
  refine .mv ?_
  apply wpSq_end
  refine hK6 _ _ ?_
  refine wp_ret ?_
  try dsimp only [Exit.then, Exit.inBlock]
  refine bodyPost_ret (v := (.int .i64 0)) (by simp [results, Try.results42, go_sem]) rfl ?_
  have hb := hs.b
  exact ⟨rfl, hb⟩
theorem sign3' (x : Int) : x.sign = -1 ∨ x.sign = 0 ∨ x.sign = 1 := by have := sign_bd x; omega
theorem quarters_any (x y : Int) (w : World) :
    Calls Try.prog 42 #[.int .i64 x.sign, .int .i64 y.sign] w fun e w' => e = .returned (.int .i64 ((kq x y : Nat) : Int)) ∧ Below w.heap.size w w' := by
  rw [← kq_sign]
  rcases sign3' x with h | h | h <;> rcases sign3' y with h2 | h2 | h2 <;> rw [h, h2]
  · exact quarters_mm w
  · exact quarters_mz w
  · exact quarters_mp w
  · exact quarters_zm w
  · exact quarters_zz w
  · exact quarters_zp w
  · exact quarters_pm w
  · exact quarters_pz w
  · exact quarters_pp w
set_option maxHeartbeats 4000000 in
set_option maxRecDepth 20000 in
theorem gCanon_any (ha : PN w va x l y m) (hl : l ≤ 40000000) (hm : m ≤ 40000000) :
    Calls Try.prog 17 #[va] w fun e w' => ∃ r, e = .returned (.tuple #[r, .int .i64 ((kq x y : Nat) : Int)]) ∧ PC w' r (turn (kq x y) (x, y)).1 (turn (kq x y) (x, y)).2 ∧ Below w.heap.size w w' := by
  have HM := hide (kq_mod x y)
  obtain ⟨S, hS⟩ : ∃ S, x.sign = S := ⟨_, rfl⟩
  obtain ⟨T, hT⟩ : ∃ T, y.sign = T := ⟨_, rfl⟩
  have HS := hide hS
  have HT := hide hT
  have HQ := hide (fun w => quarters_any x y w)
  rw [hS, hT] at HQ
  obtain ⟨J, hK⟩ : ∃ J, kq x y = J := ⟨_, rfl⟩
  rw [hK] at HM HQ ⊢
  clear hS hT hK
  obtain ⟨n_0a, o_0a, k_0a, c_0a, n_0b, o_0b, k_0b, c_0b, rfl, ha1, ha2⟩ := ha
  go_enter Try.func17, Try.ntmps17
  have hs := St.nil w
  refine wp_seq_k ?_
  intro K1 hK1
  refine rg [0, 1, 2] ?_
  refine sq ?_
  refine .al hs ?_; clear hs; intro p_b1 w_1 hs n1 kb_b1
  refine sq ?_
  refine .al hs ?_; clear hs; intro p_b2 w_2 hs n2 kb_b2
  refine sq ?_
  refine .mv ?_
  apply wpSq_end
  refine hK1 _ _ ?_
  refine wp_seq_k ?_
  intro K2 hK2
  refine wp_region_f4 [(0, false), (1, false), (3, false), (4, false), (2, true), (5, true), (6, true), (7, false)] [] [] (fun _ => default) [99, 0, 99, 99, 0, 99, 99, 99] [] (.c hs.g1 .n) fn fun w_3 n3 => ?_
  replace hs := hs.bl n3
  refine f0 ?_
  refine f4 ?_
  refine f0 ?_
  refine f4 ?_
  refine fl fun w_4 n4 => ?_
  replace hs := hs.bl n4
  intro K hK
  have k0_4 := (((kb n1).b n2).b n3).b n4
  replace ha1 := ha1.k k0_4
  go_big_op
  go_fit (zsign_any ha1 (by omega))
  rintro e w_5 ⟨rfl, hb_5⟩
  replace hs := hs.bl hb_5
  rw [HS.out]
  refine hK _ _ rfl ⟨hb_5, (And.intro hs.g1 trivial)⟩ ?_
  clear hK K
  refine fl fun w_6 n6 => ?_
  replace hs := hs.bl n6
  intro K hK
  have k0_6 := (k0_4.b hb_5).b n6
  replace ha2 := ha2.k k0_6
  go_big_op
  go_fit (zsign_any ha2 (by omega))
  rintro e w_7 ⟨rfl, hb_7⟩
  replace hs := hs.bl hb_7
  rw [HT.out]
  refine hK _ _ rfl ⟨hb_7, (And.intro hs.g1 trivial)⟩ ?_
  clear hK K
  refine fl fun w_8 n8 => ?_
  replace hs := hs.bl n8
  intro K hK
  go_big_op
  go_fit (HQ.out _)
  rintro e w_9 ⟨rfl, hb_9⟩
  replace hs := hs.bl hb_9
  refine hK _ _ rfl ⟨hb_9, (And.intro hs.g1 trivial)⟩ ?_
  clear hK K
  refine fmv ?_
  refine e0 hs ?_; clear hs; intro w_10 hs n10
  apply wpTail_end
  refine hK2 _ _ ?_
  refine wp_seq_k ?_
  intro K3 hK3
  refine rg [0, 1, 2, 3, 4, 5] ?_
  refine sq ?_
  refine .r4 hs.g1.f4 ?_
  refine sq ?_
  refine .mv ?_
  refine sq ?_
  intro K hK
  have k4_10 := (((((kb hb_5).b n6).b hb_7).b n8).b hb_9).b n10
  replace ha1 := ha1.k k4_10
  have k6_10 := (((kb hb_7).b n8).b hb_9).b n10
  replace ha2 := ha2.k k6_10
  go_big_op
  go_fit (gTurn_any (J : Int) (PN.mk' ha1 ha2) (by omega) (by omega))
  rintro e w_11 ⟨_, rfl, ⟨n_ga, o_ga, k_ga, c_ga, n_gb, o_gb, k_gb, c_gb, rfl, g1, g2⟩, hb_11⟩
  replace hs := hs.bl hb_11
  rw [HM.out] at g1 g2
  refine hK _ _ rfl trivial ?_
  clear hK K
  refine sq ?_
  refine .mv ?_
  refine sq ?_
  refine .s4 hs.g0 (fun _ => hs.u0 kb_b2) ?_; clear hs; intro w_12 hs hd12 ho12
  refine sq ?_
  refine .mv ?_
  apply wpSq_end
  refine hK3 _ _ ?_
  refine wp_ret ?_
  try dsimp only [Exit.then, Exit.inBlock]
  obtain ⟨r0_0, r0_1, r0_2, r0_3⟩ := hs.g0.f4
  refine bodyPost_ret (v := (.tuple #[(.agg #[.bool n_ga, .slice o_ga k_ga c_ga, .bool n_gb, .slice o_gb k_gb c_gb]), (.int .i64 (J : Int))])) (by simp [results, Try.results17, go_sem, r0_0, r0_1, r0_2, r0_3]) rfl ?_
  have k11_12 := ko hd12 ho12
  replace g1 := g1.k k11_12
  replace g2 := g2.k k11_12
  exact ⟨_, rfl, .mk' g1 g2, hs.b⟩
end
end Go.Proofs.Ythlhekkcjficdaa


/- gprime.normOf, isNormOfPrime, IsPrime. -/
namespace Go.Proofs.Ythlhekkcjficdaa
open Go Go.RowKit Dig
set_option linter.unusedVariables false

theorem sq_abs (x : Int) : x * x = ((x.natAbs * x.natAbs : Nat) : Int) := by
  rw [Int.natAbs_mul_self]
theorem gN_nat (x y : Int) : gN x y = ((x.natAbs * x.natAbs + y.natAbs * y.natAbs : Nat) : Int) := by
  unfold gN; rw [sq_abs x, sq_abs y, Int.natCast_add]
theorem bits_16 {A : Nat} : bitsN A ≤ 16 ↔ A < 65536 := by
  constructor
  · intro h
    exact Nat.lt_of_lt_of_le (bitsN_lt A) (Nat.pow_le_pow_right (by decide) h)
  · intro h
    rcases Nat.eq_zero_or_pos A with h0 | h0
    · subst h0; decide
    · have h1 := bitsN_le (Nat.ne_of_gt h0)
      rcases Nat.lt_or_ge 16 (bitsN A) with h2 | h2
      · have := Nat.pow_le_pow_right (n := 2) (by decide) (show 16 ≤ bitsN A - 1 by omega)
        omega
      · exact h2
theorem bits_32 {A : Nat} : bitsN A ≤ 32 ↔ A < 4294967296 := by
  constructor
  · intro h
    exact Nat.lt_of_lt_of_le (bitsN_lt A) (Nat.pow_le_pow_right (by decide) h)
  · intro h
    rcases Nat.eq_zero_or_pos A with h0 | h0
    · subst h0; decide
    · have h1 := bitsN_le (Nat.ne_of_gt h0)
      rcases Nat.lt_or_ge 32 (bitsN A) with h2 | h2
      · have := Nat.pow_le_pow_right (n := 2) (by decide) (show 32 ≤ bitsN A - 1 by omega)
        omega
      · exact h2
theorem norm_small {x y : Int} (h : gN x y < 4294967296) : bitsN x.natAbs ≤ 16 ∧ bitsN y.natAbs ≤ 16 := by
  rw [gN_nat] at h
  have key : ∀ a b : Nat, a * a + b * b < 4294967296 → a < 65536 := fun a b h => by
    rcases Nat.lt_or_ge a 65536 with h1 | h1
    · exact h1
    · have := Nat.mul_le_mul h1 h1; omega
  exact ⟨bits_16.2 (key _ y.natAbs (by omega)), bits_16.2 (key _ x.natAbs (by omega))⟩
section
variable {w : World} {va : Value} {x y z : Int} {l m : Nat}
set_option maxHeartbeats 4000000 in
set_option maxRecDepth 20000 in
theorem psmall_any (N : Nat) (ha : ZN w va (N : Int) l) (hl : l ≤ 100000000) (hN : N < 8589934592) :
    Calls Try.prog 35 #[va] w fun e w' => e = .returned (.int .u64 (N : Int)) ∧ Below w.heap.size w w' := by
  obtain ⟨n_0, o_0, k_0, c_0, rfl⟩ := ha.open2
  go_enter Try.func35, Try.ntmps35
  have hs := St.nil w
  refine wp_seq_k ?_
  intro K1 hK1
  refine rg [0, 1] ?_
  refine sq ?_
  refine .al hs ?_; clear hs; intro p_b1 w_1 hs n1 kb_b1
  refine sq ?_
  refine .mv ?_
  apply wpSq_end
  refine hK1 _ _ ?_
  refine wp_seq_k ?_
  intro K2 hK2
  refine rg [0, 1, 2, 3, 4, 5, 6] ?_
  refine sq ?_
  refine .r2 hs.g0.f2 ?_
  refine sq ?_
  intro K hK
  have k0_1 := kb n1
  replace ha := ha.k k0_1
  go_big_op
  go_fit (int_any ha (by omega) (by omega) (by omega))
  rintro e w_2 ⟨rfl, hb_2⟩
  replace hs := hs.bl hb_2
  refine hK _ _ rfl trivial ?_
  clear hK K
  refine sq ?_
  refine .mv ?_
  refine sq ?_
  refine .r0 ?_
  refine sq ?_
  refine .r0 ?_
  refine sq ?_
  refine .mv ?_
  refine sq ?_
  refine .mv ?_
  apply wpSq_end
  refine hK2 _ _ ?_
  refine wp_seq_k ?_
  intro K3 hK3
  refine rg [0, 1, 2] ?_
  refine sq ?_
  refine .mv ?_
  refine sq ?_
  refine .r0 ?_
  refine sq ?_
  refine .mv ?_
  apply wpSq_end
  refine hK3 _ _ ?_
  refine wp_ret ?_
  try dsimp only [Exit.then, Exit.inBlock]
  refine bodyPost_ret (v := (.int .u64 (N : Int))) (by simp [results, Try.results35, go_sem]) rfl ?_
  exact ⟨rfl, hs.b⟩
set_option maxHeartbeats 4000000 in
set_option maxRecDepth 20000 in
theorem normOf_any (N : Nat) (ha : PN w va x l y m) (hl : l ≤ 20000000) (hm : m ≤ 20000000) (hn : gN x y = (N : Int)) (hN : N < 4294967296) :
    Calls Try.prog 24 #[va] w fun e w' => e = .returned (.tuple #[.int .u64 (N : Int), .int .i64 0]) ∧ Below w.heap.size w w' := by
  have HN := hide hn
  have LN := hide (show (dig ((N : Int)).natAbs).length ≤ 2 by rw [Int.natAbs_natCast]; exact dig_length_le (Nat.lt_trans hN (by decide)))
  have hb1 := (norm_small (x := x) (y := y) (by omega)).1
  have hb2 := (norm_small (x := x) (y := y) (by omega)).2
  have hbN := bits_32.2 hN
  clear hn
  obtain ⟨n_0a, o_0a, k_0a, c_0a, n_0b, o_0b, k_0b, c_0b, rfl, ha1, ha2⟩ := ha
  go_enter Try.func24, Try.ntmps24
  have hs := St.nil w
  refine wp_seq_k ?_
  intro K1 hK1
  refine rg [0, 1, 2] ?_
  refine sq ?_
  refine .al hs ?_; clear hs; intro p_b1 w_1 hs n1 kb_b1
  refine sq ?_
  refine .mv ?_
  refine sq ?_
  refine .mv ?_
  apply wpSq_end
  refine hK1 _ _ ?_
  refine wp_seq_k ?_
  intro K2 hK2
  refine wp_seq_k ?_
  intro K3 hK3
  refine wp_region_f4 [(0, false), (1, false), (3, false), (4, false), (2, true), (5, true), (6, true), (7, false)] [] [] (fun _ => default) [99, 0, 99, 99, 0, 99, 99, 99] [] (.c hs.g0 .n) fn fun w_2 n2 => ?_
  replace hs := hs.bl n2
  refine f0 ?_
  refine f4 ?_
  refine f0 ?_
  refine f4 ?_
  refine fl fun w_3 n3 => ?_
  replace hs := hs.bl n3
  intro K hK
  have k0_3 := ((kb n1).b n2).b n3
  replace ha1 := ha1.k k0_3
  go_big_op
  go_fit (zbits_any ha1 (by omega) )
  rintro e w_4 ⟨rfl, hb_4⟩
  replace hs := hs.bl hb_4
  refine hK _ _ rfl ⟨hb_4, (And.intro hs.g0 trivial)⟩ ?_
  clear hK K
  refine fl fun w_5 n5 => ?_
  replace hs := hs.bl n5
  intro K hK
  have k0_5 := (k0_3.b hb_4).b n5
  replace ha2 := ha2.k k0_5
  go_big_op
  go_fit (zbits_any ha2 (by omega) )
  rintro e w_6 ⟨rfl, hb_6⟩
  replace hs := hs.bl hb_6
  refine hK _ _ rfl ⟨hb_6, (And.intro hs.g0 trivial)⟩ ?_
  clear hK K
  refine fl fun w_7 n7 => ?_
  replace hs := hs.bl n7
  refine .r0 ?_ (e := ⟨Below.refl _ _, (And.intro hs.g0 trivial)⟩)
  refine f0 ?_
  refine e0 hs ?_; clear hs; intro w_8 hs n8
  apply wpTail_end
  refine hK3 _ _ ?_
  refine cf ?_
  refine wp_skip ?_
  refine hK2 _ _ ?_
  refine wp_seq_k ?_
  intro K4 hK4
  refine rg [0, 1, 2, 3] ?_
  refine sq ?_
  refine .r4 hs.g0.f4 ?_
  refine sq ?_
  intro K hK
  have k3_8 := ((((kb hb_4).b n5).b hb_6).b n7).b n8
  replace ha1 := ha1.k k3_8
  have k5_8 := ((kb hb_6).b n7).b n8
  replace ha2 := ha2.k k5_8
  go_big_op
  go_fit (gNorm_any (PN.mk' ha1 ha2) (by omega) (by omega) )
  rintro e w_9 ⟨v_g, rfl, g, hb_9⟩
  replace hs := hs.bl hb_9
  obtain ⟨n_g, o_g, k_g, c_g, rfl⟩ := g.open2
  have Lg := hide (g.lenOf (zlen_add (zlen_mul (ha1.len) (ha1.len)) (zlen_mul (ha2.len) (ha2.len))))
  refine hK _ _ rfl trivial ?_
  clear hK K
  refine sq ?_
  refine .al hs ?_; clear hs; intro p_b2 w_10 hs n10 kb_b2
  refine sq ?_
  refine .s2 hs.g0 (fun _ => hs.u0 kb_b2) ?_; clear hs; intro w_11 hs hd11 ho11
  apply wpSq_end
  refine hK4 _ _ ?_
  refine wp_seq_k ?_
  intro K5 hK5
  refine wp_seq_k ?_
  intro K6 hK6
  refine rg [0, 1, 2] ?_
  refine sq ?_
  refine .r2 hs.g0.f2 ?_
  have k9_11 := (kb n10).o hd11 ho11
  replace g := g.k k9_11
  rw [HN.out] at g
  have Lg := hide (g.lenOf (LN.out))
  refine sq ?_
  intro K hK
  go_big_op
  go_fit (zbits_any (g.zn Lg.out) (by omega) )
  rintro e w_12 ⟨rfl, hb_12⟩
  replace hs := hs.bl hb_12
  rw [Int.natAbs_natCast]
  refine hK _ _ rfl trivial ?_
  clear hK K
  refine sq ?_
  refine .r0 ?_
  apply wpSq_end
  refine hK6 _ _ ?_
  refine cf ?_
  refine wp_skip ?_
  refine hK5 _ _ ?_
  refine wp_seq_k ?_
  intro K7 hK7
  refine rg [0, 1, 2, 3] ?_
  refine sq ?_
  refine .r2 hs.g0.f2 ?_
  refine sq ?_
  intro K hK
  have k11_12 := kb hb_12
  replace g := g.k k11_12
  go_big_op
  go_fit (psmall_any N (g.zn Lg.out) (by omega) (by omega))
  rintro e w_13 ⟨rfl, hb_13⟩
  replace hs := hs.bl hb_13
  refine hK _ _ rfl trivial ?_
  clear hK K
  refine sq ?_
  refine .mv ?_
  refine sq ?_
  refine .mv ?_
  apply wpSq_end
  refine hK7 _ _ ?_
  refine wp_ret ?_
  try dsimp only [Exit.then, Exit.inBlock]
  refine bodyPost_ret (v := (.tuple #[(.int .u64 (N : Int)), (.int .i64 0)])) (by simp [results, Try.results24, go_sem]) rfl ?_
  exact ⟨rfl, hs.b⟩
set_option maxHeartbeats 4000000 in
set_option maxRecDepth 20000 in
theorem normOf_big (ha : PN w va x l y m) (hl : l ≤ 20000000) (hm : m ≤ 20000000) (hn : 4294967296 ≤ gN x y) :
    Calls Try.prog 24 #[va] w fun e w' => e = .returned (.tuple #[.int .u64 0, .int .i64 12]) ∧ Below w.heap.size w w' := by
  have HN := hide (show ¬ bitsN (gN x y).natAbs ≤ 32 from fun hc => by have := bits_32.1 hc; omega)
  clear hn
  by_cases hb : bitsN x.natAbs ≤ 16 ∧ bitsN y.natAbs ≤ 16
  · obtain ⟨hb1, hb2⟩ := hb
    obtain ⟨n_0a, o_0a, k_0a, c_0a, n_0b, o_0b, k_0b, c_0b, rfl, ha1, ha2⟩ := ha
    go_enter Try.func24, Try.ntmps24
    have hs := St.nil w
    refine wp_seq_k ?_
    intro K1 hK1
    refine rg [0, 1, 2] ?_
    refine sq ?_
    refine .al hs ?_; clear hs; intro p_b1 w_1 hs n1 kb_b1
    refine sq ?_
    refine .mv ?_
    refine sq ?_
    refine .mv ?_
    apply wpSq_end
    refine hK1 _ _ ?_
    refine wp_seq_k ?_
    intro K2 hK2
    refine wp_seq_k ?_
    intro K3 hK3
    refine wp_region_f4 [(0, false), (1, false), (3, false), (4, false), (2, true), (5, true), (6, true), (7, false)] [] [] (fun _ => default) [99, 0, 99, 99, 0, 99, 99, 99] [] (.c hs.g0 .n) fn fun w_2 n2 => ?_
    replace hs := hs.bl n2
    refine f0 ?_
    refine f4 ?_
    refine f0 ?_
    refine f4 ?_
    refine fl fun w_3 n3 => ?_
    replace hs := hs.bl n3
    intro K hK
    have k0_3 := ((kb n1).b n2).b n3
    replace ha1 := ha1.k k0_3
    go_big_op
    go_fit (zbits_any ha1 (by omega) )
    rintro e w_4 ⟨rfl, hb_4⟩
    replace hs := hs.bl hb_4
    refine hK _ _ rfl ⟨hb_4, (And.intro hs.g0 trivial)⟩ ?_
    clear hK K
    refine fl fun w_5 n5 => ?_
    replace hs := hs.bl n5
    intro K hK
    have k0_5 := (k0_3.b hb_4).b n5
    replace ha2 := ha2.k k0_5
    go_big_op
    go_fit (zbits_any ha2 (by omega) )
    rintro e w_6 ⟨rfl, hb_6⟩
    replace hs := hs.bl hb_6
    refine hK _ _ rfl ⟨hb_6, (And.intro hs.g0 trivial)⟩ ?_
    clear hK K
    refine fl fun w_7 n7 => ?_
    replace hs := hs.bl n7
    refine .r0 ?_ (e := ⟨Below.refl _ _, (And.intro hs.g0 trivial)⟩)
    refine f0 ?_
    refine e0 hs ?_; clear hs; intro w_8 hs n8
    apply wpTail_end
    refine hK3 _ _ ?_
    refine cf ?_
    refine wp_skip ?_
    refine hK2 _ _ ?_
    refine wp_seq_k ?_
    intro K4 hK4
    refine rg [0, 1, 2, 3] ?_
    refine sq ?_
    refine .r4 hs.g0.f4 ?_
    refine sq ?_
    intro K hK
    have k3_8 := ((((kb hb_4).b n5).b hb_6).b n7).b n8
    replace ha1 := ha1.k k3_8
    have k5_8 := ((kb hb_6).b n7).b n8
    replace ha2 := ha2.k k5_8
    go_big_op
    go_fit (gNorm_any (PN.mk' ha1 ha2) (by omega) (by omega) )
    rintro e w_9 ⟨v_g, rfl, g, hb_9⟩
    replace hs := hs.bl hb_9
    obtain ⟨n_g, o_g, k_g, c_g, rfl⟩ := g.open2
    have Lg := hide (g.lenOf (zlen_add (zlen_mul (ha1.len) (ha1.len)) (zlen_mul (ha2.len) (ha2.len))))
    refine hK _ _ rfl trivial ?_
    clear hK K
    refine sq ?_
    refine .al hs ?_; clear hs; intro p_b2 w_10 hs n10 kb_b2
    refine sq ?_
    refine .s2 hs.g0 (fun _ => hs.u0 kb_b2) ?_; clear hs; intro w_11 hs hd11 ho11
    apply wpSq_end
    refine hK4 _ _ ?_
    refine wp_seq_k ?_
    intro K5 hK5
    refine wp_seq_k ?_
    intro K6 hK6
    refine rg [0, 1, 2] ?_
    refine sq ?_
    refine .r2 hs.g0.f2 ?_
    have HN' := HN.out
    refine sq ?_
    intro K hK
    have k9_11 := (kb n10).o hd11 ho11
    replace g := g.k k9_11
    go_big_op
    go_fit (zbits_any (g.zn Lg.out) (by omega) )
    rintro e w_12 ⟨rfl, hb_12⟩
    replace hs := hs.bl hb_12
    refine hK _ _ rfl trivial ?_
    clear hK K
    refine sq ?_
    refine .r0 ?_
    apply wpSq_end
    refine hK6 _ _ ?_
    refine ct ?_
    refine wp_seq_k ?_
    intro K7 hK7
    refine rg [0, 1] ?_
    refine sq ?_
    refine .mv ?_
    refine sq ?_
    refine .mv ?_
    apply wpSq_end
    refine hK7 _ _ ?_
    refine wp_ret ?_
    try dsimp only [Exit.then, Exit.inBlock]
    refine bodyPost_ret (v := (.tuple #[(.int .u64 0), (.int .i64 12)])) (by simp [results, Try.results24, go_sem]) rfl ?_
    exact ⟨rfl, hs.b⟩
  · obtain ⟨n_0a, o_0a, k_0a, c_0a, n_0b, o_0b, k_0b, c_0b, rfl, ha1, ha2⟩ := ha
    go_enter Try.func24, Try.ntmps24
    have hs := St.nil w
    refine wp_seq_k ?_
    intro K1 hK1
    refine rg [0, 1, 2] ?_
    refine sq ?_
    refine .al hs ?_; clear hs; intro p_b1 w_1 hs n1 kb_b1
    refine sq ?_
    refine .mv ?_
    refine sq ?_
    refine .mv ?_
    apply wpSq_end
    refine hK1 _ _ ?_
    refine wp_seq_k ?_
    intro K2 hK2
    refine wp_seq_k ?_
    intro K3 hK3
    refine wp_region_f4 [(0, false), (1, false), (3, false), (4, false), (2, true), (5, true), (6, true), (7, false)] [] [] (fun _ => default) [99, 0, 99, 99, 0, 99, 99, 99] [] (.c hs.g0 .n) fn fun w_2 n2 => ?_
    replace hs := hs.bl n2
    refine f0 ?_
    refine f4 ?_
    refine f0 ?_
    refine f4 ?_
    refine fl fun w_3 n3 => ?_
    replace hs := hs.bl n3
    intro K hK
    have k0_3 := ((kb n1).b n2).b n3
    replace ha1 := ha1.k k0_3
    go_big_op
    go_fit (zbits_any ha1 (by omega) )
    rintro e w_4 ⟨rfl, hb_4⟩
    replace hs := hs.bl hb_4
    refine hK _ _ rfl ⟨hb_4, (And.intro hs.g0 trivial)⟩ ?_
    clear hK K
    refine fl fun w_5 n5 => ?_
    replace hs := hs.bl n5
    intro K hK
    have k0_5 := (k0_3.b hb_4).b n5
    replace ha2 := ha2.k k0_5
    go_big_op
    go_fit (zbits_any ha2 (by omega) )
    rintro e w_6 ⟨rfl, hb_6⟩
    replace hs := hs.bl hb_6
    refine hK _ _ rfl ⟨hb_6, (And.intro hs.g0 trivial)⟩ ?_
    clear hK K
    refine fl fun w_7 n7 => ?_
    replace hs := hs.bl n7
    refine .r0 ?_ (e := ⟨Below.refl _ _, (And.intro hs.g0 trivial)⟩)
    refine f0 ?_
    refine e0 hs ?_; clear hs; intro w_8 hs n8
    apply wpTail_end
    refine hK3 _ _ ?_
    refine ct ?_
    refine wp_seq_k ?_
    intro K4 hK4
    refine rg [0, 1] ?_
    refine sq ?_
    refine .mv ?_
    refine sq ?_
    refine .mv ?_
    apply wpSq_end
    refine hK4 _ _ ?_
    refine wp_ret ?_
    try dsimp only [Exit.then, Exit.inBlock]
    refine bodyPost_ret (v := (.tuple #[(.int .u64 0), (.int .i64 12)])) (by simp [results, Try.results24, go_sem]) rfl ?_
    exact ⟨rfl, hs.b⟩
theorem prime_bits {n p : Nat} (h2 : 2 ≤ n) (hp : IsLf n p) (h : p ≠ n) : p * p ≤ n := by
  obtain ⟨q, hq⟩ := hp.1
  have h2 : 2 ≤ q := by
    rcases Nat.lt_or_ge q 2 with h1 | h1
    · have : q = 0 ∨ q = 1 := by omega
      rcases this with rfl | rfl
      · rw [Nat.mul_zero] at hq; omega
      · omega
    · exact h1
  have h3 := hp.2.2 q h2 ⟨p, by rw [hq, Nat.mul_comm]⟩
  rw [hq]; exact Nat.mul_le_mul_left p h3
theorem lf_ex' (n : Nat) : ∀ m k, k + m = n → 2 ≤ k → (∀ e, 2 ≤ e → e < k → ¬ e ∣ n) → ∃ p, IsLf n p := by
  intro m
  induction m with
  | zero => intro k hk h2 hl; exact ⟨k, lf_div h2 (by rw [← hk]; exact Nat.dvd_refl k) hl⟩
  | succ m ih =>
    intro k hk h2 hl
    by_cases hd : k ∣ n
    · exact ⟨k, lf_div h2 hd hl⟩
    · refine ih (k + 1) (by omega) (by omega) fun e h3 h4 h5 => ?_
      rcases Nat.lt_or_ge e k with h | h
      · exact hl e h3 h h5
      · obtain rfl : e = k := by omega
        exact hd h5
theorem lf_ex {n : Nat} (h : 2 ≤ n) : ∃ p, IsLf n p := lf_ex' n (n - 2) 2 (by omega) (by omega) (by intro e h1 h2; omega)
theorem IsLf.le {n p : Nat} (h2 : 2 ≤ n) (h : IsLf n p) : p ≤ n := Nat.le_of_dvd (by omega) h.1
theorem leastP {n p : Nat} (hp : IsLf n p) (h2 : 2 ≤ n) (hn : n < 4294967296) : Calls Try.prog 50 #[.int .u64 (n : Int)] w fun e w' => e = .returned (.int .u64 (p : Int)) ∧ w = w' :=
  (least_u64 n w h2 hn).mono fun e w' ⟨r, h1, h3, h4⟩ => ⟨by rw [h1, h3.uniq hp], h4⟩
set_option maxHeartbeats 4000000 in
set_option maxRecDepth 20000 in
theorem inop_low (n : Nat) (h : n < 2) :
    Calls Try.prog 25 #[.int .u64 (n : Int)] w fun e w' => e = .returned (.bool false) ∧ Below w.heap.size w w' := by
  go_enter Try.func25, Try.ntmps25
  have hs := St.nil w
  refine wp_seq_k ?_
  intro K1 hK1
  refine rg [0] ?_
  refine sq ?_
  refine .mv ?_
  apply wpSq_end
  refine hK1 _ _ ?_
  refine wp_seq_k ?_
  intro K2 hK2
  refine wp_seq_k ?_
  intro K3 hK3
  refine rg [0, 1] ?_
  refine sq ?_
  refine .mv ?_
  refine sq ?_
  refine .r0 ?_
  apply wpSq_end
  refine hK3 _ _ ?_
  refine ct ?_
  refine wp_seq_k ?_
  intro K4 hK4
  refine rg [0] ?_
  refine sq ?_
  refine .mv ?_
  apply wpSq_end
  refine hK4 _ _ ?_
  refine wp_ret ?_
  try dsimp only [Exit.then, Exit.inBlock]
  refine bodyPost_ret (v := (.bool false)) (by simp [results, Try.results25, go_sem]) rfl ?_
  exact ⟨rfl, hs.b⟩
set_option maxHeartbeats 4000000 in
set_option maxRecDepth 20000 in
theorem int_beq (q n : Nat) : ((q : Int) == (n : Int)) = decide (q = n) := by rw [Bool.eq_iff_iff]; simp only [beq_iff_eq, decide_eq_true_eq]; omega
set_option maxHeartbeats 4000000 in
set_option maxRecDepth 20000 in
theorem inop_any {n p : Nat} (hp : IsLf n p) (h2 : 2 ≤ n) (hn : n < 4294967296) :
    Calls Try.prog 25 #[.int .u64 (n : Int)] w fun e w' => e = .returned (.bool (decide (p = n ∨ (p % 4 = 3 ∧ p * p = n)))) ∧ Below w.heap.size w w' := by
  have HP := hide hp
  have hpn := hp.le h2
  by_cases h : p = n
  · have HL := hide (leastP hp h2 hn (w := w))
    rw [decide_eq_true (.inl h)]
    clear hp
    have hb : ((p : Int) == (n : Int)) = true := by simp; omega
    go_enter Try.func25, Try.ntmps25
    have hs := St.nil w
    refine wp_seq_k ?_
    intro K1 hK1
    refine rg [0] ?_
    refine sq ?_
    refine .mv ?_
    apply wpSq_end
    refine hK1 _ _ ?_
    refine wp_seq_k ?_
    intro K2 hK2
    refine wp_seq_k ?_
    intro K3 hK3
    refine rg [0, 1] ?_
    refine sq ?_
    refine .mv ?_
    refine sq ?_
    refine .r0 ?_
    apply wpSq_end
    refine hK3 _ _ ?_
    refine cf ?_
    refine wp_skip ?_
    refine hK2 _ _ ?_
    refine wp_seq_k ?_
    intro K4 hK4
    refine rg [0, 1, 2] ?_
    refine sq ?_
    refine .mv ?_
    refine sq ?_
    intro K hK
    go_big_op
    go_fit (HL.out)
    rintro e w_1 ⟨rfl, e_1⟩
    (first | rw [e_1] | rw [← e_1]); clear e_1 w_1
    refine hK _ _ rfl trivial ?_
    clear hK K
    refine sq ?_
    refine .mv ?_
    apply wpSq_end
    refine hK4 _ _ ?_
    refine wp_seq_k ?_
    intro K5 hK5
    refine rg [0, 1, 2, 3, 4, 5, 6, 7, 8, 9, 10, 11, 12, 13, 14, 15] ?_
    refine sq ?_
    refine .mv ?_
    refine sq ?_
    refine .mv ?_
    refine sq ?_
    refine .r0 ?_
    refine sq ?_
    refine .mv ?_
    refine sk ?_
    refine sk ?_
    refine sk ?_
    refine sk ?_
    refine sk ?_
    refine sk ?_
    refine sk ?_
    refine sk ?_
    refine sk ?_
    refine sk ?_
    refine sq ?_
    refine .r0 ?_
    refine sq ?_
    refine .mv ?_
    apply wpSq_end
    refine hK5 _ _ ?_
    refine wp_ret ?_
    try dsimp only [Exit.then, Exit.inBlock]
    refine bodyPost_ret (v := (.bool true)) (by simp [results, Try.results25, go_sem]) rfl ?_
    exact ⟨rfl, hs.b⟩
  · have HQ := hide (prime_bits h2 hp h)
    have HL := hide (leastP hp h2 hn (w := w))
    have hb : ((p : Int) == (n : Int)) = false := by simp; omega
    have hm : Int.tmod (p : Int) 4 = ((p % 4 : Nat) : Int) := by rw [show ((4 : Int)) = ((4 : Nat) : Int) from rfl, Int.ofNat_tmod]
    clear hp
    by_cases h4 : p % 4 = 3
    · have hq : (p : Int) * (p : Int) = ((p * p : Nat) : Int) := by simp
      have HH := hide (show (p = n ∨ (p % 4 = 3 ∧ p * p = n)) ↔ p * p = n from ⟨fun hc => hc.elim (fun e => absurd e h) (fun e => e.2), fun e => .inr ⟨h4, e⟩⟩)
      rw [show decide (p = n ∨ (p % 4 = 3 ∧ p * p = n)) = decide (p * p = n) from decide_eq_decide.2 HH.out]
      clear h HH
      have hqn := HQ.out
      generalize p * p = q at *
      generalize p % 4 = r at *
      subst h4
      have heq := int_beq q n
      go_enter Try.func25, Try.ntmps25
      have hs := St.nil w
      refine wp_seq_k ?_
      intro K1 hK1
      refine rg [0] ?_
      refine sq ?_
      refine .mv ?_
      apply wpSq_end
      refine hK1 _ _ ?_
      refine wp_seq_k ?_
      intro K2 hK2
      refine wp_seq_k ?_
      intro K3 hK3
      refine rg [0, 1] ?_
      refine sq ?_
      refine .mv ?_
      refine sq ?_
      refine .r0 ?_
      apply wpSq_end
      refine hK3 _ _ ?_
      refine cf ?_
      refine wp_skip ?_
      refine hK2 _ _ ?_
      refine wp_seq_k ?_
      intro K4 hK4
      refine rg [0, 1, 2] ?_
      refine sq ?_
      refine .mv ?_
      refine sq ?_
      intro K hK
      go_big_op
      go_fit (HL.out)
      rintro e w_1 ⟨rfl, e_1⟩
      (first | rw [e_1] | rw [← e_1]); clear e_1 w_1
      refine hK _ _ rfl trivial ?_
      clear hK K
      refine sq ?_
      refine .mv ?_
      apply wpSq_end
      refine hK4 _ _ ?_
      refine wp_seq_k ?_
      intro K5 hK5
      refine rg [0, 1, 2, 3, 4, 5, 6, 7, 8, 9, 10, 11, 12, 13, 14, 15] ?_
      refine sq ?_
      refine .mv ?_
      refine sq ?_
      refine .mv ?_
      refine sq ?_
      refine .r0 ?_
      refine sq ?_
      refine .mv ?_
      refine sq ?_
      refine .mv ?_
      refine sq ?_
      refine .r0 ?_
      refine sq ?_
      refine .r0 ?_
      refine sq ?_
      refine .mv ?_
      refine sq ?_
      refine .mv ?_
      refine sq ?_
      refine .mv ?_
      refine sq ?_
      refine .r0 ?_
      refine sq ?_
      refine .mv ?_
      refine sq ?_
      refine .r0 ?_
      refine sq ?_
      refine .r0 ?_
      refine sq ?_
      refine .r0 ?_
      refine sq ?_
      refine .mv ?_
      apply wpSq_end
      refine hK5 _ _ ?_
      refine wp_ret ?_
      try dsimp only [Exit.then, Exit.inBlock]
      refine bodyPost_ret (v := (.bool (decide (q = n)))) (by simp [results, Try.results25, go_sem]) rfl ?_
      exact ⟨rfl, hs.b⟩
    · rw [decide_eq_false (fun hc => hc.elim h (fun e => h4 e.1))]
      clear h
      have h4b : (((p % 4 : Nat) : Int) == 3) = false := by simp; omega
      generalize p % 4 = r at *
      go_enter Try.func25, Try.ntmps25
      have hs := St.nil w
      refine wp_seq_k ?_
      intro K1 hK1
      refine rg [0] ?_
      refine sq ?_
      refine .mv ?_
      apply wpSq_end
      refine hK1 _ _ ?_
      refine wp_seq_k ?_
      intro K2 hK2
      refine wp_seq_k ?_
      intro K3 hK3
      refine rg [0, 1] ?_
      refine sq ?_
      refine .mv ?_
      refine sq ?_
      refine .r0 ?_
      apply wpSq_end
      refine hK3 _ _ ?_
      refine cf ?_
      refine wp_skip ?_
      refine hK2 _ _ ?_
      refine wp_seq_k ?_
      intro K4 hK4
      refine rg [0, 1, 2] ?_
      refine sq ?_
      refine .mv ?_
      refine sq ?_
      intro K hK
      go_big_op
      go_fit (HL.out)
      rintro e w_1 ⟨rfl, e_1⟩
      (first | rw [e_1] | rw [← e_1]); clear e_1 w_1
      refine hK _ _ rfl trivial ?_
      clear hK K
      refine sq ?_
      refine .mv ?_
      apply wpSq_end
      refine hK4 _ _ ?_
      refine wp_seq_k ?_
      intro K5 hK5
      refine rg [0, 1, 2, 3, 4, 5, 6, 7, 8, 9, 10, 11, 12, 13, 14, 15] ?_
      refine sq ?_
      refine .mv ?_
      refine sq ?_
      refine .mv ?_
      refine sq ?_
      refine .r0 ?_
      refine sq ?_
      refine .mv ?_
      refine sq ?_
      refine .mv ?_
      refine sq ?_
      refine .r0 ?_
      refine sq ?_
      refine .r0 ?_
      refine sq ?_
      refine .mv ?_
      refine sk ?_
      refine sk ?_
      refine sk ?_
      refine sk ?_
      refine sk ?_
      refine sq ?_
      refine .r0 ?_
      refine sq ?_
      refine .r0 ?_
      refine sq ?_
      refine .mv ?_
      apply wpSq_end
      refine hK5 _ _ ?_
      refine wp_ret ?_
      try dsimp only [Exit.then, Exit.inBlock]
      refine bodyPost_ret (v := (.bool false)) (by simp [results, Try.results25, go_sem]) rfl ?_
      exact ⟨rfl, hs.b⟩
end
end Go.Proofs.Ythlhekkcjficdaa


/- gprime.IsPrime; the reference's IsPrime. -/
namespace Go.Proofs.Ythlhekkcjficdaa
open Go Go.RowKit Dig
set_option linter.unusedVariables false

/-- Numbers of this norm are primes. -/
def PrimeN (n : Nat) : Prop := 2 ≤ n ∧ ∀ p, IsLf n p → p = n ∨ (p % 4 = 3 ∧ p * p = n)
open Classical in
noncomputable def primeB (n : Nat) : Bool := decide (PrimeN n)
open Classical in
theorem primeB_low {n : Nat} (h : n < 2) : primeB n = false := decide_eq_false fun hc => by have := hc.1; omega
open Classical in
theorem primeB_eq {n p : Nat} (hp : IsLf n p) (h2 : 2 ≤ n) : primeB n = decide (p = n ∨ (p % 4 = 3 ∧ p * p = n)) := by
  unfold primeB
  rw [decide_eq_decide]
  exact ⟨fun h => h.2 p hp, fun h => ⟨h2, fun q hq => by rw [hq.uniq hp]; exact h⟩⟩
section
variable {w : World} {va : Value} {x y z : Int} {l m : Nat}
theorem inop (n : Nat) (hn : n < 4294967296) :
    Calls Try.prog 25 #[.int .u64 (n : Int)] w fun e w' => e = .returned (.bool (primeB n)) ∧ Below w.heap.size w w' := by
  rcases Nat.lt_or_ge n 2 with h | h
  · rw [primeB_low h]; exact inop_low n h
  · obtain ⟨p, hp⟩ := lf_ex h
    rw [primeB_eq hp h]
    exact inop_any hp h hn
set_option maxHeartbeats 4000000 in
set_option maxRecDepth 20000 in
theorem gprime_any (N : Nat) (ha : PN w va x l y m) (hl : l ≤ 20000000) (hm : m ≤ 20000000) (hn : gN x y = (N : Int)) (hN : N < 4294967296) :
    Calls Try.prog 6 #[va] w fun e w' => e = .returned (.tuple #[.bool (primeB N), .int .i64 0]) ∧ Below w.heap.size w w' := by
  have HN := hide hn
  have HP := hide (fun w => inop (w := w) N hN)
  clear hn
  obtain ⟨n_0a, o_0a, k_0a, c_0a, n_0b, o_0b, k_0b, c_0b, rfl, ha1, ha2⟩ := ha
  go_enter Try.func6, Try.ntmps6
  have hs := St.nil w
  refine wp_seq_k ?_
  intro K1 hK1
  refine rg [0, 1, 2] ?_
  refine sq ?_
  refine .al hs ?_; clear hs; intro p_b1 w_1 hs n1 kb_b1
  refine sq ?_
  refine .mv ?_
  refine sq ?_
  refine .mv ?_
  apply wpSq_end
  refine hK1 _ _ ?_
  refine wp_seq_k ?_
  intro K2 hK2
  refine rg [0, 1, 2, 3, 4, 5, 6] ?_
  refine sq ?_
  refine .r4 hs.g0.f4 ?_
  refine sq ?_
  intro K hK
  have k0_1 := kb n1
  replace ha1 := ha1.k k0_1
  replace ha2 := ha2.k k0_1
  go_big_op
  go_fit (normOf_any N (PN.mk' ha1 ha2) (by omega) (by omega) HN.out hN)
  rintro e w_2 ⟨rfl, hb_2⟩
  replace hs := hs.bl hb_2
  refine hK _ _ rfl trivial ?_
  clear hK K
  refine sq ?_
  refine .mv ?_
  refine sq ?_
  refine .r0 ?_
  refine sq ?_
  refine .r0 ?_
  refine sq ?_
  refine .mv ?_
  refine sq ?_
  refine .mv ?_
  apply wpSq_end
  refine hK2 _ _ ?_
  refine wp_seq_k ?_
  intro K3 hK3
  refine wp_seq_k ?_
  intro K4 hK4
  refine rg [0, 1] ?_
  refine sq ?_
  refine .mv ?_
  refine sq ?_
  refine .r0 ?_
  apply wpSq_end
  refine hK4 _ _ ?_
  refine cf ?_
  refine wp_skip ?_
  refine hK3 _ _ ?_
  refine wp_seq_k ?_
  intro K5 hK5
  refine rg [0, 1, 2, 3] ?_
  refine sq ?_
  refine .mv ?_
  refine sq ?_
  intro K hK
  go_big_op
  go_fit (HP.out _)
  rintro e w_3 ⟨rfl, hb_3⟩
  replace hs := hs.bl hb_3
  refine hK _ _ rfl trivial ?_
  clear hK K
  refine sq ?_
  refine .mv ?_
  refine sq ?_
  refine .mv ?_
  apply wpSq_end
  refine hK5 _ _ ?_
  refine wp_ret ?_
  try dsimp only [Exit.then, Exit.inBlock]
  refine bodyPost_ret (v := (.tuple #[(.bool (primeB N)), (.int .i64 0)])) (by simp [results, Try.results6, go_sem]) rfl ?_
  exact ⟨rfl, hs.b⟩
set_option maxHeartbeats 4000000 in
set_option maxRecDepth 20000 in
theorem gprime_big (ha : PN w va x l y m) (hl : l ≤ 20000000) (hm : m ≤ 20000000) (hn : 4294967296 ≤ gN x y) :
    Calls Try.prog 6 #[va] w fun e w' => e = .returned (.tuple #[.bool false, .int .i64 12]) ∧ Below w.heap.size w w' := by
  obtain ⟨n_0a, o_0a, k_0a, c_0a, n_0b, o_0b, k_0b, c_0b, rfl, ha1, ha2⟩ := ha
  go_enter Try.func6, Try.ntmps6
  have hs := St.nil w
  refine wp_seq_k ?_
  intro K1 hK1
  refine rg [0, 1, 2] ?_
  refine sq ?_
  refine .al hs ?_; clear hs; intro p_b1 w_1 hs n1 kb_b1
  refine sq ?_
  refine .mv ?_
  refine sq ?_
  refine .mv ?_
  apply wpSq_end
  refine hK1 _ _ ?_
  refine wp_seq_k ?_
  intro K2 hK2
  refine rg [0, 1, 2, 3, 4, 5, 6] ?_
  refine sq ?_
  refine .r4 hs.g0.f4 ?_
  refine sq ?_
  intro K hK
  have k0_1 := kb n1
  replace ha1 := ha1.k k0_1
  replace ha2 := ha2.k k0_1
  go_big_op
  go_fit (normOf_big (PN.mk' ha1 ha2) (by omega) (by omega) hn)
  rintro e w_2 ⟨rfl, hb_2⟩
  replace hs := hs.bl hb_2
  refine hK _ _ rfl trivial ?_
  clear hK K
  refine sq ?_
  refine .mv ?_
  refine sq ?_
  refine .r0 ?_
  refine sq ?_
  refine .r0 ?_
  refine sq ?_
  refine .mv ?_
  refine sq ?_
  refine .mv ?_
  apply wpSq_end
  refine hK2 _ _ ?_
  refine wp_seq_k ?_
  intro K3 hK3
  refine wp_seq_k ?_
  intro K4 hK4
  refine rg [0, 1] ?_
  refine sq ?_
  refine .mv ?_
  refine sq ?_
  refine .r0 ?_
  apply wpSq_end
  refine hK4 _ _ ?_
  refine ct ?_
  refine wp_seq_k ?_
  intro K5 hK5
  refine rg [0, 1, 2] ?_
  refine sq ?_
  refine .mv ?_
  refine sq ?_
  refine .mv ?_
  refine sq ?_
  refine .mv ?_
  apply wpSq_end
  refine hK5 _ _ ?_
  refine wp_ret ?_
  try dsimp only [Exit.then, Exit.inBlock]
  refine bodyPost_ret (v := (.tuple #[(.bool false), (.int .i64 12)])) (by simp [results, Try.results6, go_sem]) rfl ?_
  exact ⟨rfl, hs.b⟩
end
end Go.Proofs.Ythlhekkcjficdaa


/- The law's g, is, awake (gprime). -/
namespace Go.Proofs.Ythlhekkcjficdaa
open Go Go.RowKit Dig
set_option linter.unusedVariables false

theorem lf9 : IsLf 9 3 := lf_div (by decide) (by decide) (fun e h1 h2 hc => by obtain rfl : e = 2 := (by omega); revert hc; decide)
theorem lf25 : IsLf 25 5 := lf_div (by decide) (by decide) (fun e h1 h2 hc => by
  have : e = 2 ∨ e = 3 ∨ e = 4 := by omega
  rcases this with rfl | rfl | rfl <;> revert hc <;> decide)
theorem prime9 : primeB 9 = true := by rw [primeB_eq lf9 (by decide)]; decide
theorem prime25 : primeB 25 = false := by rw [primeB_eq lf25 (by decide)]; decide
theorem zlen_small6 {z : Int} (h : z.natAbs < 4294967296) : (dig z.natAbs).length ≤ 1 := dig_length_le (by rw [show pw 1 = 4294967296 from rfl]; exact h)
set_option maxHeartbeats 4000000 in
set_option maxRecDepth 20000 in
theorem g6_any (a b : Int) (w : World) (h1 : -9223372036854775808 ≤ a) (h2 : a ≤ 9223372036854775807) (h3 : -9223372036854775808 ≤ b) (h4 : b ≤ 9223372036854775807) :
    Calls Try.prog 7 #[.int .i64 a, .int .i64 b] w fun e w' => ∃ r, e = .returned r ∧ PC w' r a b ∧ Below w.heap.size w w' := by
  go_enter Try.func7, Try.ntmps7
  have hs := St.nil w
  refine wp_seq_k ?_
  intro K1 hK1
  refine rg [0] ?_
  refine sq ?_
  refine .al hs ?_; clear hs; intro p_b1 w_1 hs n1 kb_b1
  apply wpSq_end
  refine hK1 _ _ ?_
  refine wp_seq_k ?_
  intro K2 hK2
  refine rg [0, 1, 2, 3] ?_
  refine sq ?_
  refine .mv ?_
  refine sq ?_
  refine .mv ?_
  refine sq ?_
  intro K hK
  go_big_op
  go_fit (rgI_any a b _ h1 h2 h3 h4)
  rintro e w_2 ⟨_, rfl, ⟨n_ra, o_ra, k_ra, c_ra, n_rb, o_rb, k_rb, c_rb, rfl, r1, r2⟩, hb_2⟩
  replace hs := hs.bl hb_2
  refine hK _ _ rfl trivial ?_
  clear hK K
  refine sq ?_
  refine .s4 hs.g0 (fun _ => hs.u0 kb_b1) ?_; clear hs; intro w_3 hs hd3 ho3
  apply wpSq_end
  refine hK2 _ _ ?_
  refine wp_ret ?_
  try dsimp only [Exit.then, Exit.inBlock]
  obtain ⟨r0_0, r0_1, r0_2, r0_3⟩ := hs.g0.f4
  refine bodyPost_ret (v := (.agg #[.bool n_ra, .slice o_ra k_ra c_ra, .bool n_rb, .slice o_rb k_rb c_rb])) (by simp [results, Try.results7, go_sem, r0_0, r0_1, r0_2, r0_3]) rfl ?_
  have k2_3 := ko hd3 ho3
  replace r1 := r1.k k2_3
  replace r2 := r2.k k2_3
  exact ⟨_, rfl, .mk' r1 r2, hs.b⟩
set_option maxHeartbeats 4000000 in
set_option maxRecDepth 20000 in
theorem awake6_any (w : World) :
    Calls Try.prog 8 #[] w fun e w' => e = .returned (.bool true) ∧ Below w.heap.size w w' := by
  have E1 := hide prime9
  have E2 := hide prime25
  go_enter Try.func8, Try.ntmps8
  have hs := St.nil w
  refine wp_seq_k ?_
  intro K1 hK1
  refine rg [0] ?_
  refine sq ?_
  refine .mv ?_
  apply wpSq_end
  refine hK1 _ _ ?_
  refine wp_seq_k ?_
  intro K2 hK2
  refine rg [0, 1, 2, 3, 4, 5, 6] ?_
  refine sq ?_
  intro K hK
  go_big_op
  go_fit (g6_any 3 0 _ (by decide) (by decide) (by decide) (by decide))
  rintro e w_1 ⟨_, rfl, ⟨n_aa, o_aa, k_aa, c_aa, n_ab, o_ab, k_ab, c_ab, rfl, a1, a2⟩, hb_1⟩
  replace hs := hs.bl hb_1
  have La1 := hide (a1.lenOf (zlen_small6 (z := 3) (by decide)))
  have La2 := hide (a2.lenOf (zlen_small6 (z := 0) (by decide)))
  refine hK _ _ rfl trivial ?_
  clear hK K
  refine sq ?_
  intro K hK
  go_big_op
  go_fit (gprime_any 9 (.mk' (a1.zn La1.out) (a2.zn La2.out)) (by omega) (by omega) (by decide) (by decide))
  rintro e w_2 ⟨rfl, hb_2⟩
  replace hs := hs.bl hb_2
  rw [E1.out]
  refine hK _ _ rfl trivial ?_
  clear hK K
  refine sq ?_
  refine .mv ?_
  refine sq ?_
  refine .r0 ?_
  refine sq ?_
  refine .r0 ?_
  refine sq ?_
  refine .mv ?_
  refine sq ?_
  refine .mv ?_
  apply wpSq_end
  refine hK2 _ _ ?_
  refine wp_seq_k ?_
  intro K3 hK3
  refine rg [0, 1, 2, 3, 4, 5, 6] ?_
  refine sq ?_
  intro K hK
  go_big_op
  go_fit (g6_any 5 0 _ (by decide) (by decide) (by decide) (by decide))
  rintro e w_3 ⟨_, rfl, ⟨n_ba, o_ba, k_ba, c_ba, n_bb, o_bb, k_bb, c_bb, rfl, b1, b2⟩, hb_3⟩
  replace hs := hs.bl hb_3
  have Lb1 := hide (b1.lenOf (zlen_small6 (z := 5) (by decide)))
  have Lb2 := hide (b2.lenOf (zlen_small6 (z := 0) (by decide)))
  refine hK _ _ rfl trivial ?_
  clear hK K
  refine sq ?_
  intro K hK
  go_big_op
  go_fit (gprime_any 25 (.mk' (b1.zn Lb1.out) (b2.zn Lb2.out)) (by omega) (by omega) (by decide) (by decide))
  rintro e w_4 ⟨rfl, hb_4⟩
  replace hs := hs.bl hb_4
  rw [E2.out]
  refine hK _ _ rfl trivial ?_
  clear hK K
  refine sq ?_
  refine .mv ?_
  refine sq ?_
  refine .r0 ?_
  refine sq ?_
  refine .r0 ?_
  refine sq ?_
  refine .mv ?_
  refine sq ?_
  refine .mv ?_
  apply wpSq_end
  refine hK3 _ _ ?_
  refine wp_seq_k ?_
  intro K4 hK4
  refine rg [0, 1, 2, 3, 4, 5, 6, 7, 8, 9, 10, 11, 12, 13] ?_
  refine sq ?_
  refine .mv ?_
  refine sq ?_
  refine .mv ?_
  refine sq ?_
  refine .mv ?_
  refine sq ?_
  refine .r0 ?_
  refine sq ?_
  refine .r0 ?_
  refine sq ?_
  refine .mv ?_
  refine sq ?_
  refine .mv ?_
  refine sq ?_
  refine .r0 ?_
  refine sq ?_
  refine .r0 ?_
  refine sq ?_
  refine .mv ?_
  refine sq ?_
  refine .mv ?_
  refine sq ?_
  refine .r0 ?_
  refine sq ?_
  refine .r0 ?_
  refine sq ?_
  refine .mv ?_
  apply wpSq_end
  refine hK4 _ _ ?_
  refine wp_ret ?_
  try dsimp only [Exit.then, Exit.inBlock]
  refine bodyPost_ret (v := (.bool true)) (by simp [results, Try.results8, go_sem]) rfl ?_
  exact ⟨rfl, hs.b⟩
end Go.Proofs.Ythlhekkcjficdaa

