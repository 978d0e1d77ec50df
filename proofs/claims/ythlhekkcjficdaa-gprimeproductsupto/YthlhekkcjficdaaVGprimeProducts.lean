/- GprimeProducts: the law's walk. -/
import Derived.Test.YthlhekkcjficdaaK10ToK24
import Derived.Test.YthlhekkcjficdaaK11
namespace Go.Proofs.Ythlhekkcjficdaa
open Go Go.RowKit Dig
set_option linter.unusedVariables false
theorem lst_cap {w : World} {B : Nat} {ty : TypeId} {sz : Nat} {o : Option Addr} {n c : Nat} {xs : List Value} (L : Lst w B ty sz (.slice o n c) n xs) : n ≤ c := by
  rcases L.1.2 with ⟨e, h0⟩ | ⟨g, cap, cur, e, hb, hg, hnc, hcm, hcs, htake⟩
  · omega
  · simp only [Value.slice.injEq] at e
    obtain ⟨_, _, rfl⟩ := e
    exact hnc
theorem cnt_le {q : Int × Int} : ∀ {ps : List (Int × Int × Int)}, (∀ t ∈ ps, 1 ≤ t.2.2 ∧ t.2.2 ≤ 31) → 0 ≤ cnt ps q ∧ cnt ps q ≤ 31
  | [], _ => ⟨Int.le_refl 0, show (0 : Int) ≤ 31 by decide⟩
  | t :: ps, h => by
    rw [cnt]
    split
    · have := h t List.mem_cons_self; omega
    · exact cnt_le fun s hs => h s (List.mem_cons_of_mem _ hs)
theorem allN_le : ∀ {ps : List (Int × Int × Int)}, (∀ t ∈ ps, 1 ≤ t.2.2 ∧ t.2.2 ≤ 31) → 0 ≤ allN ps ∧ allN ps ≤ 31 * ps.length
  | [], _ => ⟨Int.le_refl 0, Int.le_refl 0⟩
  | t :: ps, h => by
    have h1 := h t List.mem_cons_self
    have h2 := allN_le fun s hs => h s (List.mem_cons_of_mem _ hs)
    rw [show allN (t :: ps) = t.2.2 + allN ps from rfl, List.length_cons]
    omega
theorem FaOk.ns {x y k : Int} {ps : List (Int × Int × Int)} (h : FaOk x y k ps) : ∀ t ∈ ps, 1 ≤ t.2.2 ∧ t.2.2 ≤ 31 := fun t ht => (h.2.2.2.2 t ht).1.2.2.2.2
theorem FaOk.small {x y k : Int} {ps : List (Int × Int × Int)} (h : FaOk x y k ps) (hN : gN x y < 4294967296) : ∀ t ∈ ps, (dig t.1.natAbs).length ≤ 1 ∧ (dig t.2.1.natAbs).length ≤ 1 := fun t ht =>
  len_of_norm (Int.lt_of_le_of_lt (h.2.2.2.2 t ht).1.2.2.2.1 hN)
/-- A number that Factor refuses. -/
theorem refuse_ex {x y : Int} (h : gN x y = 0 ∨ 4294967296 ≤ gN x y) : ∃ E : Int, E ≠ 0 ∧ ∀ (w : World) (va : Value) (l m : Nat), PN w va x l y m → l ≤ 20000000 → m ≤ 20000000 →
    Calls Try.prog 9 #[va] w fun e w' => e = .returned (.tuple #[.int .i64 0, .slice none 0 0, .int .i64 E]) ∧ Below w.heap.size w w' := by
  rcases h with h | h
  · exact ⟨5, by decide, fun w va l m ha hl hm => gfactor_zero ha hl hm h⟩
  · exact ⟨12, by decide, fun w va l m ha hl hm => gfactor_big ha hl hm h⟩
open Classical in
/-- An exact quotient, or what stands in its place. -/
theorem exact_ex {x y u v : Int} (h0 : gN u v ≠ 0) :
    ∃ X Y E : Int, (E = 0 ↔ gDv x y u v) ∧ (E = 0 ∨ E = 11) ∧ ∀ (w : World) (va vb : Value) (l m : Nat), PN w va x l y m → PN w vb u 1 v 1 → l ≤ 10000000 → m ≤ 10000000 →
      Calls Try.prog 22 #[va, vb] w fun e w' => ∃ r, e = .returned (.tuple #[r, .int .i64 E]) ∧ PC w' r X Y ∧ Below w.heap.size w w' := by
  by_cases hd : gDv x y u v
  · exact ⟨_, _, 0, ⟨fun _ => hd, fun _ => rfl⟩, .inl rfl, fun w va vb l m ha hq hl hm => gExact_any ha hq (by omega) (by omega) (by omega) (by omega) h0 hd.1 hd.2⟩
  · refine ⟨0, 0, 11, ⟨fun h => absurd h (by decide), fun h => absurd h hd⟩, .inr rfl, fun w va vb l m ha hq hl hm => (gExact_rest ha hq (by omega) (by omega) (by omega) (by omega) h0 hd).mono ?_⟩
    rintro e w' ⟨rfl, hb⟩
    exact ⟨_, rfl, .mk' (zc_zero w') (zc_zero w'), hb⟩
section
variable {w : World} {va vb : Value} {x y u v : Int} {lg : Nat}
set_option maxHeartbeats 8000000 in
set_option maxRecDepth 20000 in
theorem products_no1 (ha : PN w va x lg y lg) (hq : PN w vb u lg v lg) (hlg : 1 ≤ lg) (hlm : lg ≤ 2000000) (hA : gN x y ≠ 0) (hA2 : gN x y < 4294967296) (hB : gN u v ≠ 0) (hB2 : gN u v < 4294967296) (hC : gN (x * u - y * v) (x * v + y * u) = 0 ∨ 4294967296 ≤ gN (x * u - y * v) (x * v + y * u)) :
    Calls Try.prog 5 #[va, vb] w fun e w' => e = .returned (.bool true) ∧ Below w.heap.size w w' := by
  obtain ⟨pA, kA, fA, FA⟩ := fa_ex hA hA2
  clear fA
  replace FA := hide FA
  clear hA hA2
  obtain ⟨pB, kB, fB, FB⟩ := fa_ex hB hB2
  clear fB
  replace FB := hide FB
  clear hB hB2
  obtain ⟨EC, eC, FC⟩ := refuse_ex hC
  have iC : (EC == 0) = false := by simpa using eC
  have jC : (EC != 0) = true := by simpa using eC
  have mC : (EC = 0) = False := by simpa using eC
  replace FC := hide FC
  clear hC eC
  obtain ⟨n_0a, o_0a, k_0a, c_0a, n_0b, o_0b, k_0b, c_0b, rfl, ha1, ha2⟩ := ha
  obtain ⟨n_1a, o_1a, k_1a, c_1a, n_1b, o_1b, k_1b, c_1b, rfl, hq1, hq2⟩ := hq
  go_enter Try.func5, Try.ntmps5
  have hs := St.nil w
  refine wp_seq_k ?_
  intro K1 hK1
  refine rg [0, 1, 2] ?_
  refine sq ?_
  refine .al hs ?_; clear hs; intro p_b1 w_1 hs n1 kb_b1
  refine sq ?_
  refine .al hs ?_; clear hs; intro p_b2 w_2 hs n2 kb_b2
  refine sq ?_
  refine .mv ?_
  apply wpSq_end
  refine hK1 _ _ ?_
  refine wp_seq_k ?_
  intro K2 hK2
  refine wp_seq_k ?_
  intro K3 hK3
  refine rg [0, 1] ?_
  refine sq ?_
  intro K hK
  go_big_op
  go_fit (awake6_any _)
  rintro e w_3 ⟨rfl, hb_3⟩
  replace hs := hs.bl hb_3
  refine hK _ _ rfl trivial ?_
  clear hK K
  refine sq ?_
  refine .r0 ?_
  apply wpSq_end
  refine hK3 _ _ ?_
  refine cf ?_
  refine wp_skip ?_
  refine hK2 _ _ ?_
  refine wp_seq_k ?_
  intro K4 hK4
  refine rg [0, 1, 2, 3, 4, 5, 6, 7, 8] ?_
  refine sq ?_
  refine .r4 hs.g1.f4 ?_
  refine sq ?_
  intro K hK
  have k0_3 := ((kb n1).b n2).b hb_3
  replace ha1 := ha1.k k0_3
  replace ha2 := ha2.k k0_3
  go_big_op
  go_fit (FA.out _ _ _ (.mk' ha1 ha2) hlg (by omega))
  rintro e w_4 ⟨o_A, c_A, xs_A, rfl, L_A, d_A, hb_4⟩
  replace hs := hs.la hb_4 L_A
  refine hK _ _ rfl trivial ?_
  clear hK K
  refine sq ?_
  refine .mv ?_
  refine sq ?_
  refine .r0 ?_
  refine sq ?_
  refine .r0 ?_
  refine sq ?_
  refine .r0 ?_
  refine sq ?_
  refine .mv ?_
  refine sq ?_
  refine .mv ?_
  refine sq ?_
  refine .mv ?_
  apply wpSq_end
  refine hK4 _ _ ?_
  refine wp_seq_k ?_
  intro K5 hK5
  refine rg [0, 1, 2, 3, 4, 5, 6, 7, 8] ?_
  refine sq ?_
  refine .r4 hs.g1.f4 ?_
  refine sq ?_
  intro K hK
  have k0_4 := k0_3.b hb_4
  replace hq1 := hq1.k k0_4
  replace hq2 := hq2.k k0_4
  go_big_op
  go_fit (FB.out _ _ _ (.mk' hq1 hq2) hlg (by omega))
  rintro e w_5 ⟨o_B, c_B, xs_B, rfl, L_B, d_B, hb_5⟩
  replace hs := hs.la hb_5 L_B
  refine hK _ _ rfl trivial ?_
  clear hK K
  refine sq ?_
  refine .mv ?_
  refine sq ?_
  refine .r0 ?_
  refine sq ?_
  refine .r0 ?_
  refine sq ?_
  refine .r0 ?_
  refine sq ?_
  refine .mv ?_
  refine sq ?_
  refine .mv ?_
  refine sq ?_
  refine .mv ?_
  apply wpSq_end
  refine hK5 _ _ ?_
  refine wp_seq_k ?_
  intro K6 hK6
  refine rg [0, 1, 2, 3, 4, 5, 6, 7, 8, 9, 10] ?_
  refine sq ?_
  refine .r4 hs.g3.f4 ?_
  refine sq ?_
  refine .r4 hs.g2.f4 ?_
  refine sq ?_
  intro K hK
  have k3_5 := (kb hb_4).b hb_5
  replace ha1 := ha1.k k3_5
  replace ha2 := ha2.k k3_5
  have k4_5 := kb hb_5
  replace hq1 := hq1.k k4_5
  replace hq2 := hq2.k k4_5
  go_big_op
  go_fit (gMul_any (PN.mk' ha1 ha2) (PN.mk' hq1 hq2) (by omega) (by omega) (by omega) (by omega) )
  rintro e w_6 ⟨_, rfl, ⟨n_gma, o_gma, k_gma, c_gma, n_gmb, o_gmb, k_gmb, c_gmb, rfl, gm1, gm2⟩, hb_6⟩
  replace hs := hs.bl hb_6
  have Lgm1 := hide (gm1.lenOf (zlen_sub (zlen_mul (ha1.len) (hq1.len)) (zlen_mul (ha2.len) (hq2.len))))
  have Lgm2 := hide (gm2.lenOf (zlen_add (zlen_mul (ha1.len) (hq2.len)) (zlen_mul (ha2.len) (hq1.len))))
  refine hK _ _ rfl trivial ?_
  clear hK K
  refine sq ?_
  intro K hK
  go_big_op
  go_fit (FC.out _ _ _ _ (.mk' (gm1.zn Lgm1.out) (gm2.zn Lgm2.out)) (by omega) (by omega))
  rintro e w_7 ⟨rfl, hb_7⟩
  replace hs := hs.bl hb_7
  refine hK _ _ rfl trivial ?_
  clear hK K
  refine sq ?_
  refine .mv ?_
  refine sq ?_
  refine .r0 ?_
  refine sq ?_
  refine .r0 ?_
  refine sq ?_
  refine .r0 ?_
  refine sq ?_
  refine .mv ?_
  refine sq ?_
  refine .mv ?_
  refine sq ?_
  refine .mv ?_
  apply wpSq_end
  refine hK6 _ _ ?_
  refine wp_seq_k ?_
  intro K7 hK7
  refine wp_seq_k ?_
  intro K8 hK8
  refine rg [0, 1, 2, 3, 4, 5, 6, 7, 8, 9] ?_
  refine sq ?_
  refine .mv ?_
  refine sq ?_
  refine .r0 ?_
  refine sq ?_
  refine .mv ?_
  refine sq ?_
  refine .mv ?_
  refine sq ?_
  refine .r0 ?_
  refine sq ?_
  refine .r0 ?_
  refine sq ?_
  refine .mv ?_
  refine sq ?_
  refine .mv ?_
  refine sq ?_
  refine .r0 ?_
  refine sq ?_
  refine .r0 ?_
  apply wpSq_end
  refine hK8 _ _ ?_
  refine ct ?_
  refine wp_seq_k ?_
  intro K9 hK9
  refine rg [0, 1, 2, 3, 4, 5, 6, 7, 8, 9, 10] ?_
  refine sq ?_
  refine .mv ?_
  refine sq ?_
  refine .r0 ?_
  refine sq ?_
  refine .mv ?_
  refine sk ?_
  refine sk ?_
  refine sq ?_
  refine .r0 ?_
  refine sq ?_
  refine .mv ?_
  refine sk ?_
  refine sk ?_
  refine sq ?_
  refine .r0 ?_
  refine sq ?_
  refine .mv ?_
  apply wpSq_end
  refine hK9 _ _ ?_
  refine wp_ret ?_
  try dsimp only [Exit.then, Exit.inBlock]
  refine bodyPost_ret (v := (.bool true)) (by simp [results, Try.results5, go_sem]) rfl ?_
  exact ⟨rfl, hs.b⟩
set_option maxHeartbeats 8000000 in
set_option maxRecDepth 20000 in
theorem products_no2 (ha : PN w va x lg y lg) (hq : PN w vb u lg v lg) (hlg : 1 ≤ lg) (hlm : lg ≤ 2000000) (hA : gN x y ≠ 0) (hA2 : gN x y < 4294967296) (hB : gN u v = 0 ∨ 4294967296 ≤ gN u v) (hC : gN (x * u - y * v) (x * v + y * u) = 0 ∨ 4294967296 ≤ gN (x * u - y * v) (x * v + y * u)) :
    Calls Try.prog 5 #[va, vb] w fun e w' => e = .returned (.bool true) ∧ Below w.heap.size w w' := by
  obtain ⟨pA, kA, fA, FA⟩ := fa_ex hA hA2
  clear fA
  replace FA := hide FA
  clear hA hA2
  obtain ⟨EB, eB, FB⟩ := refuse_ex hB
  have iB : (EB == 0) = false := by simpa using eB
  have jB : (EB != 0) = true := by simpa using eB
  have mB : (EB = 0) = False := by simpa using eB
  replace FB := hide FB
  clear hB eB
  obtain ⟨EC, eC, FC⟩ := refuse_ex hC
  have iC : (EC == 0) = false := by simpa using eC
  have jC : (EC != 0) = true := by simpa using eC
  have mC : (EC = 0) = False := by simpa using eC
  replace FC := hide FC
  clear hC eC
  obtain ⟨n_0a, o_0a, k_0a, c_0a, n_0b, o_0b, k_0b, c_0b, rfl, ha1, ha2⟩ := ha
  obtain ⟨n_1a, o_1a, k_1a, c_1a, n_1b, o_1b, k_1b, c_1b, rfl, hq1, hq2⟩ := hq
  go_enter Try.func5, Try.ntmps5
  have hs := St.nil w
  refine wp_seq_k ?_
  intro K1 hK1
  refine rg [0, 1, 2] ?_
  refine sq ?_
  refine .al hs ?_; clear hs; intro p_b1 w_1 hs n1 kb_b1
  refine sq ?_
  refine .al hs ?_; clear hs; intro p_b2 w_2 hs n2 kb_b2
  refine sq ?_
  refine .mv ?_
  apply wpSq_end
  refine hK1 _ _ ?_
  refine wp_seq_k ?_
  intro K2 hK2
  refine wp_seq_k ?_
  intro K3 hK3
  refine rg [0, 1] ?_
  refine sq ?_
  intro K hK
  go_big_op
  go_fit (awake6_any _)
  rintro e w_3 ⟨rfl, hb_3⟩
  replace hs := hs.bl hb_3
  refine hK _ _ rfl trivial ?_
  clear hK K
  refine sq ?_
  refine .r0 ?_
  apply wpSq_end
  refine hK3 _ _ ?_
  refine cf ?_
  refine wp_skip ?_
  refine hK2 _ _ ?_
  refine wp_seq_k ?_
  intro K4 hK4
  refine rg [0, 1, 2, 3, 4, 5, 6, 7, 8] ?_
  refine sq ?_
  refine .r4 hs.g1.f4 ?_
  refine sq ?_
  intro K hK
  have k0_3 := ((kb n1).b n2).b hb_3
  replace ha1 := ha1.k k0_3
  replace ha2 := ha2.k k0_3
  go_big_op
  go_fit (FA.out _ _ _ (.mk' ha1 ha2) hlg (by omega))
  rintro e w_4 ⟨o_A, c_A, xs_A, rfl, L_A, d_A, hb_4⟩
  replace hs := hs.la hb_4 L_A
  refine hK _ _ rfl trivial ?_
  clear hK K
  refine sq ?_
  refine .mv ?_
  refine sq ?_
  refine .r0 ?_
  refine sq ?_
  refine .r0 ?_
  refine sq ?_
  refine .r0 ?_
  refine sq ?_
  refine .mv ?_
  refine sq ?_
  refine .mv ?_
  refine sq ?_
  refine .mv ?_
  apply wpSq_end
  refine hK4 _ _ ?_
  refine wp_seq_k ?_
  intro K5 hK5
  refine rg [0, 1, 2, 3, 4, 5, 6, 7, 8] ?_
  refine sq ?_
  refine .r4 hs.g1.f4 ?_
  refine sq ?_
  intro K hK
  have k0_4 := k0_3.b hb_4
  replace hq1 := hq1.k k0_4
  replace hq2 := hq2.k k0_4
  go_big_op
  go_fit (FB.out _ _ _ _ (.mk' hq1 hq2) (by omega) (by omega))
  rintro e w_5 ⟨rfl, hb_5⟩
  replace hs := hs.bl hb_5
  refine hK _ _ rfl trivial ?_
  clear hK K
  refine sq ?_
  refine .mv ?_
  refine sq ?_
  refine .r0 ?_
  refine sq ?_
  refine .r0 ?_
  refine sq ?_
  refine .r0 ?_
  refine sq ?_
  refine .mv ?_
  refine sq ?_
  refine .mv ?_
  refine sq ?_
  refine .mv ?_
  apply wpSq_end
  refine hK5 _ _ ?_
  refine wp_seq_k ?_
  intro K6 hK6
  refine rg [0, 1, 2, 3, 4, 5, 6, 7, 8, 9, 10] ?_
  refine sq ?_
  refine .r4 hs.g2.f4 ?_
  refine sq ?_
  refine .r4 hs.g1.f4 ?_
  refine sq ?_
  intro K hK
  have k3_5 := (kb hb_4).b hb_5
  replace ha1 := ha1.k k3_5
  replace ha2 := ha2.k k3_5
  have k4_5 := kb hb_5
  replace hq1 := hq1.k k4_5
  replace hq2 := hq2.k k4_5
  go_big_op
  go_fit (gMul_any (PN.mk' ha1 ha2) (PN.mk' hq1 hq2) (by omega) (by omega) (by omega) (by omega) )
  rintro e w_6 ⟨_, rfl, ⟨n_gma, o_gma, k_gma, c_gma, n_gmb, o_gmb, k_gmb, c_gmb, rfl, gm1, gm2⟩, hb_6⟩
  replace hs := hs.bl hb_6
  have Lgm1 := hide (gm1.lenOf (zlen_sub (zlen_mul (ha1.len) (hq1.len)) (zlen_mul (ha2.len) (hq2.len))))
  have Lgm2 := hide (gm2.lenOf (zlen_add (zlen_mul (ha1.len) (hq2.len)) (zlen_mul (ha2.len) (hq1.len))))
  refine hK _ _ rfl trivial ?_
  clear hK K
  refine sq ?_
  intro K hK
  go_big_op
  go_fit (FC.out _ _ _ _ (.mk' (gm1.zn Lgm1.out) (gm2.zn Lgm2.out)) (by omega) (by omega))
  rintro e w_7 ⟨rfl, hb_7⟩
  replace hs := hs.bl hb_7
  refine hK _ _ rfl trivial ?_
  clear hK K
  refine sq ?_
  refine .mv ?_
  refine sq ?_
  refine .r0 ?_
  refine sq ?_
  refine .r0 ?_
  refine sq ?_
  refine .r0 ?_
  refine sq ?_
  refine .mv ?_
  refine sq ?_
  refine .mv ?_
  refine sq ?_
  refine .mv ?_
  apply wpSq_end
  refine hK6 _ _ ?_
  refine wp_seq_k ?_
  intro K7 hK7
  refine wp_seq_k ?_
  intro K8 hK8
  refine rg [0, 1, 2, 3, 4, 5, 6, 7, 8, 9] ?_
  refine sq ?_
  refine .mv ?_
  refine sq ?_
  refine .r0 ?_
  refine sq ?_
  refine .mv ?_
  refine sq ?_
  refine .mv ?_
  refine sq ?_
  refine .r0 ?_
  refine sq ?_
  refine .r0 ?_
  refine sq ?_
  refine .mv ?_
  refine sk ?_
  refine sk ?_
  refine sq ?_
  refine .r0 ?_
  apply wpSq_end
  refine hK8 _ _ ?_
  refine ct ?_
  refine wp_seq_k ?_
  intro K9 hK9
  refine rg [0, 1, 2, 3, 4, 5, 6, 7, 8, 9, 10] ?_
  refine sq ?_
  refine .mv ?_
  refine sq ?_
  refine .r0 ?_
  refine sq ?_
  refine .mv ?_
  refine sk ?_
  refine sk ?_
  refine sq ?_
  refine .r0 ?_
  refine sq ?_
  refine .mv ?_
  refine sk ?_
  refine sk ?_
  refine sq ?_
  refine .r0 ?_
  refine sq ?_
  refine .mv ?_
  apply wpSq_end
  refine hK9 _ _ ?_
  refine wp_ret ?_
  try dsimp only [Exit.then, Exit.inBlock]
  refine bodyPost_ret (v := (.bool true)) (by simp [results, Try.results5, go_sem]) rfl ?_
  exact ⟨rfl, hs.b⟩
set_option maxHeartbeats 8000000 in
set_option maxRecDepth 20000 in
theorem products_no3 (ha : PN w va x lg y lg) (hq : PN w vb u lg v lg) (hlg : 1 ≤ lg) (hlm : lg ≤ 2000000) (hA : gN x y = 0 ∨ 4294967296 ≤ gN x y) (hB : gN u v ≠ 0) (hB2 : gN u v < 4294967296) (hC : gN (x * u - y * v) (x * v + y * u) = 0 ∨ 4294967296 ≤ gN (x * u - y * v) (x * v + y * u)) :
    Calls Try.prog 5 #[va, vb] w fun e w' => e = .returned (.bool true) ∧ Below w.heap.size w w' := by
  obtain ⟨EA, eA, FA⟩ := refuse_ex hA
  have iA : (EA == 0) = false := by simpa using eA
  have jA : (EA != 0) = true := by simpa using eA
  have mA : (EA = 0) = False := by simpa using eA
  replace FA := hide FA
  clear hA eA
  obtain ⟨pB, kB, fB, FB⟩ := fa_ex hB hB2
  clear fB
  replace FB := hide FB
  clear hB hB2
  obtain ⟨EC, eC, FC⟩ := refuse_ex hC
  have iC : (EC == 0) = false := by simpa using eC
  have jC : (EC != 0) = true := by simpa using eC
  have mC : (EC = 0) = False := by simpa using eC
  replace FC := hide FC
  clear hC eC
  obtain ⟨n_0a, o_0a, k_0a, c_0a, n_0b, o_0b, k_0b, c_0b, rfl, ha1, ha2⟩ := ha
  obtain ⟨n_1a, o_1a, k_1a, c_1a, n_1b, o_1b, k_1b, c_1b, rfl, hq1, hq2⟩ := hq
  go_enter Try.func5, Try.ntmps5
  have hs := St.nil w
  refine wp_seq_k ?_
  intro K1 hK1
  refine rg [0, 1, 2] ?_
  refine sq ?_
  refine .al hs ?_; clear hs; intro p_b1 w_1 hs n1 kb_b1
  refine sq ?_
  refine .al hs ?_; clear hs; intro p_b2 w_2 hs n2 kb_b2
  refine sq ?_
  refine .mv ?_
  apply wpSq_end
  refine hK1 _ _ ?_
  refine wp_seq_k ?_
  intro K2 hK2
  refine wp_seq_k ?_
  intro K3 hK3
  refine rg [0, 1] ?_
  refine sq ?_
  intro K hK
  go_big_op
  go_fit (awake6_any _)
  rintro e w_3 ⟨rfl, hb_3⟩
  replace hs := hs.bl hb_3
  refine hK _ _ rfl trivial ?_
  clear hK K
  refine sq ?_
  refine .r0 ?_
  apply wpSq_end
  refine hK3 _ _ ?_
  refine cf ?_
  refine wp_skip ?_
  refine hK2 _ _ ?_
  refine wp_seq_k ?_
  intro K4 hK4
  refine rg [0, 1, 2, 3, 4, 5, 6, 7, 8] ?_
  refine sq ?_
  refine .r4 hs.g1.f4 ?_
  refine sq ?_
  intro K hK
  have k0_3 := ((kb n1).b n2).b hb_3
  replace ha1 := ha1.k k0_3
  replace ha2 := ha2.k k0_3
  go_big_op
  go_fit (FA.out _ _ _ _ (.mk' ha1 ha2) (by omega) (by omega))
  rintro e w_4 ⟨rfl, hb_4⟩
  replace hs := hs.bl hb_4
  refine hK _ _ rfl trivial ?_
  clear hK K
  refine sq ?_
  refine .mv ?_
  refine sq ?_
  refine .r0 ?_
  refine sq ?_
  refine .r0 ?_
  refine sq ?_
  refine .r0 ?_
  refine sq ?_
  refine .mv ?_
  refine sq ?_
  refine .mv ?_
  refine sq ?_
  refine .mv ?_
  apply wpSq_end
  refine hK4 _ _ ?_
  refine wp_seq_k ?_
  intro K5 hK5
  refine rg [0, 1, 2, 3, 4, 5, 6, 7, 8] ?_
  refine sq ?_
  refine .r4 hs.g0.f4 ?_
  refine sq ?_
  intro K hK
  have k0_4 := k0_3.b hb_4
  replace hq1 := hq1.k k0_4
  replace hq2 := hq2.k k0_4
  go_big_op
  go_fit (FB.out _ _ _ (.mk' hq1 hq2) hlg (by omega))
  rintro e w_5 ⟨o_B, c_B, xs_B, rfl, L_B, d_B, hb_5⟩
  replace hs := hs.la hb_5 L_B
  refine hK _ _ rfl trivial ?_
  clear hK K
  refine sq ?_
  refine .mv ?_
  refine sq ?_
  refine .r0 ?_
  refine sq ?_
  refine .r0 ?_
  refine sq ?_
  refine .r0 ?_
  refine sq ?_
  refine .mv ?_
  refine sq ?_
  refine .mv ?_
  refine sq ?_
  refine .mv ?_
  apply wpSq_end
  refine hK5 _ _ ?_
  refine wp_seq_k ?_
  intro K6 hK6
  refine rg [0, 1, 2, 3, 4, 5, 6, 7, 8, 9, 10] ?_
  refine sq ?_
  refine .r4 hs.g2.f4 ?_
  refine sq ?_
  refine .r4 hs.g1.f4 ?_
  refine sq ?_
  intro K hK
  have k3_5 := (kb hb_4).b hb_5
  replace ha1 := ha1.k k3_5
  replace ha2 := ha2.k k3_5
  have k4_5 := kb hb_5
  replace hq1 := hq1.k k4_5
  replace hq2 := hq2.k k4_5
  go_big_op
  go_fit (gMul_any (PN.mk' ha1 ha2) (PN.mk' hq1 hq2) (by omega) (by omega) (by omega) (by omega) )
  rintro e w_6 ⟨_, rfl, ⟨n_gma, o_gma, k_gma, c_gma, n_gmb, o_gmb, k_gmb, c_gmb, rfl, gm1, gm2⟩, hb_6⟩
  replace hs := hs.bl hb_6
  have Lgm1 := hide (gm1.lenOf (zlen_sub (zlen_mul (ha1.len) (hq1.len)) (zlen_mul (ha2.len) (hq2.len))))
  have Lgm2 := hide (gm2.lenOf (zlen_add (zlen_mul (ha1.len) (hq2.len)) (zlen_mul (ha2.len) (hq1.len))))
  refine hK _ _ rfl trivial ?_
  clear hK K
  refine sq ?_
  intro K hK
  go_big_op
  go_fit (FC.out _ _ _ _ (.mk' (gm1.zn Lgm1.out) (gm2.zn Lgm2.out)) (by omega) (by omega))
  rintro e w_7 ⟨rfl, hb_7⟩
  replace hs := hs.bl hb_7
  refine hK _ _ rfl trivial ?_
  clear hK K
  refine sq ?_
  refine .mv ?_
  refine sq ?_
  refine .r0 ?_
  refine sq ?_
  refine .r0 ?_
  refine sq ?_
  refine .r0 ?_
  refine sq ?_
  refine .mv ?_
  refine sq ?_
  refine .mv ?_
  refine sq ?_
  refine .mv ?_
  apply wpSq_end
  refine hK6 _ _ ?_
  refine wp_seq_k ?_
  intro K7 hK7
  refine wp_seq_k ?_
  intro K8 hK8
  refine rg [0, 1, 2, 3, 4, 5, 6, 7, 8, 9] ?_
  refine sq ?_
  refine .mv ?_
  refine sq ?_
  refine .r0 ?_
  refine sq ?_
  refine .mv ?_
  refine sk ?_
  refine sk ?_
  refine sq ?_
  refine .r0 ?_
  refine sq ?_
  refine .mv ?_
  refine sk ?_
  refine sk ?_
  refine sq ?_
  refine .r0 ?_
  apply wpSq_end
  refine hK8 _ _ ?_
  refine ct ?_
  refine wp_seq_k ?_
  intro K9 hK9
  refine rg [0, 1, 2, 3, 4, 5, 6, 7, 8, 9, 10] ?_
  refine sq ?_
  refine .mv ?_
  refine sq ?_
  refine .r0 ?_
  refine sq ?_
  refine .mv ?_
  refine sq ?_
  refine .mv ?_
  refine sq ?_
  refine .r0 ?_
  refine sq ?_
  refine .r0 ?_
  refine sq ?_
  refine .mv ?_
  refine sk ?_
  refine sk ?_
  refine sq ?_
  refine .r0 ?_
  refine sq ?_
  refine .mv ?_
  apply wpSq_end
  refine hK9 _ _ ?_
  refine wp_ret ?_
  try dsimp only [Exit.then, Exit.inBlock]
  refine bodyPost_ret (v := (.bool true)) (by simp [results, Try.results5, go_sem]) rfl ?_
  exact ⟨rfl, hs.b⟩
set_option maxHeartbeats 8000000 in
set_option maxRecDepth 20000 in
theorem products_no4 (ha : PN w va x lg y lg) (hq : PN w vb u lg v lg) (hlg : 1 ≤ lg) (hlm : lg ≤ 2000000) (hA : gN x y = 0 ∨ 4294967296 ≤ gN x y) (hB : gN u v = 0 ∨ 4294967296 ≤ gN u v) (hC : gN (x * u - y * v) (x * v + y * u) = 0 ∨ 4294967296 ≤ gN (x * u - y * v) (x * v + y * u)) :
    Calls Try.prog 5 #[va, vb] w fun e w' => e = .returned (.bool true) ∧ Below w.heap.size w w' := by
  obtain ⟨EA, eA, FA⟩ := refuse_ex hA
  have iA : (EA == 0) = false := by simpa using eA
  have jA : (EA != 0) = true := by simpa using eA
  have mA : (EA = 0) = False := by simpa using eA
  replace FA := hide FA
  clear hA eA
  obtain ⟨EB, eB, FB⟩ := refuse_ex hB
  have iB : (EB == 0) = false := by simpa using eB
  have jB : (EB != 0) = true := by simpa using eB
  have mB : (EB = 0) = False := by simpa using eB
  replace FB := hide FB
  clear hB eB
  obtain ⟨EC, eC, FC⟩ := refuse_ex hC
  have iC : (EC == 0) = false := by simpa using eC
  have jC : (EC != 0) = true := by simpa using eC
  have mC : (EC = 0) = False := by simpa using eC
  replace FC := hide FC
  clear hC eC
  obtain ⟨n_0a, o_0a, k_0a, c_0a, n_0b, o_0b, k_0b, c_0b, rfl, ha1, ha2⟩ := ha
  obtain ⟨n_1a, o_1a, k_1a, c_1a, n_1b, o_1b, k_1b, c_1b, rfl, hq1, hq2⟩ := hq
  go_enter Try.func5, Try.ntmps5
  have hs := St.nil w
  refine wp_seq_k ?_
  intro K1 hK1
  refine rg [0, 1, 2] ?_
  refine sq ?_
  refine .al hs ?_; clear hs; intro p_b1 w_1 hs n1 kb_b1
  refine sq ?_
  refine .al hs ?_; clear hs; intro p_b2 w_2 hs n2 kb_b2
  refine sq ?_
  refine .mv ?_
  apply wpSq_end
  refine hK1 _ _ ?_
  refine wp_seq_k ?_
  intro K2 hK2
  refine wp_seq_k ?_
  intro K3 hK3
  refine rg [0, 1] ?_
  refine sq ?_
  intro K hK
  go_big_op
  go_fit (awake6_any _)
  rintro e w_3 ⟨rfl, hb_3⟩
  replace hs := hs.bl hb_3
  refine hK _ _ rfl trivial ?_
  clear hK K
  refine sq ?_
  refine .r0 ?_
  apply wpSq_end
  refine hK3 _ _ ?_
  refine cf ?_
  refine wp_skip ?_
  refine hK2 _ _ ?_
  refine wp_seq_k ?_
  intro K4 hK4
  refine rg [0, 1, 2, 3, 4, 5, 6, 7, 8] ?_
  refine sq ?_
  refine .r4 hs.g1.f4 ?_
  refine sq ?_
  intro K hK
  have k0_3 := ((kb n1).b n2).b hb_3
  replace ha1 := ha1.k k0_3
  replace ha2 := ha2.k k0_3
  go_big_op
  go_fit (FA.out _ _ _ _ (.mk' ha1 ha2) (by omega) (by omega))
  rintro e w_4 ⟨rfl, hb_4⟩
  replace hs := hs.bl hb_4
  refine hK _ _ rfl trivial ?_
  clear hK K
  refine sq ?_
  refine .mv ?_
  refine sq ?_
  refine .r0 ?_
  refine sq ?_
  refine .r0 ?_
  refine sq ?_
  refine .r0 ?_
  refine sq ?_
  refine .mv ?_
  refine sq ?_
  refine .mv ?_
  refine sq ?_
  refine .mv ?_
  apply wpSq_end
  refine hK4 _ _ ?_
  refine wp_seq_k ?_
  intro K5 hK5
  refine rg [0, 1, 2, 3, 4, 5, 6, 7, 8] ?_
  refine sq ?_
  refine .r4 hs.g0.f4 ?_
  refine sq ?_
  intro K hK
  have k0_4 := k0_3.b hb_4
  replace hq1 := hq1.k k0_4
  replace hq2 := hq2.k k0_4
  go_big_op
  go_fit (FB.out _ _ _ _ (.mk' hq1 hq2) (by omega) (by omega))
  rintro e w_5 ⟨rfl, hb_5⟩
  replace hs := hs.bl hb_5
  refine hK _ _ rfl trivial ?_
  clear hK K
  refine sq ?_
  refine .mv ?_
  refine sq ?_
  refine .r0 ?_
  refine sq ?_
  refine .r0 ?_
  refine sq ?_
  refine .r0 ?_
  refine sq ?_
  refine .mv ?_
  refine sq ?_
  refine .mv ?_
  refine sq ?_
  refine .mv ?_
  apply wpSq_end
  refine hK5 _ _ ?_
  refine wp_seq_k ?_
  intro K6 hK6
  refine rg [0, 1, 2, 3, 4, 5, 6, 7, 8, 9, 10] ?_
  refine sq ?_
  refine .r4 hs.g1.f4 ?_
  refine sq ?_
  refine .r4 hs.g0.f4 ?_
  refine sq ?_
  intro K hK
  have k3_5 := (kb hb_4).b hb_5
  replace ha1 := ha1.k k3_5
  replace ha2 := ha2.k k3_5
  have k4_5 := kb hb_5
  replace hq1 := hq1.k k4_5
  replace hq2 := hq2.k k4_5
  go_big_op
  go_fit (gMul_any (PN.mk' ha1 ha2) (PN.mk' hq1 hq2) (by omega) (by omega) (by omega) (by omega) )
  rintro e w_6 ⟨_, rfl, ⟨n_gma, o_gma, k_gma, c_gma, n_gmb, o_gmb, k_gmb, c_gmb, rfl, gm1, gm2⟩, hb_6⟩
  replace hs := hs.bl hb_6
  have Lgm1 := hide (gm1.lenOf (zlen_sub (zlen_mul (ha1.len) (hq1.len)) (zlen_mul (ha2.len) (hq2.len))))
  have Lgm2 := hide (gm2.lenOf (zlen_add (zlen_mul (ha1.len) (hq2.len)) (zlen_mul (ha2.len) (hq1.len))))
  refine hK _ _ rfl trivial ?_
  clear hK K
  refine sq ?_
  intro K hK
  go_big_op
  go_fit (FC.out _ _ _ _ (.mk' (gm1.zn Lgm1.out) (gm2.zn Lgm2.out)) (by omega) (by omega))
  rintro e w_7 ⟨rfl, hb_7⟩
  replace hs := hs.bl hb_7
  refine hK _ _ rfl trivial ?_
  clear hK K
  refine sq ?_
  refine .mv ?_
  refine sq ?_
  refine .r0 ?_
  refine sq ?_
  refine .r0 ?_
  refine sq ?_
  refine .r0 ?_
  refine sq ?_
  refine .mv ?_
  refine sq ?_
  refine .mv ?_
  refine sq ?_
  refine .mv ?_
  apply wpSq_end
  refine hK6 _ _ ?_
  refine wp_seq_k ?_
  intro K7 hK7
  refine wp_seq_k ?_
  intro K8 hK8
  refine rg [0, 1, 2, 3, 4, 5, 6, 7, 8, 9] ?_
  refine sq ?_
  refine .mv ?_
  refine sq ?_
  refine .r0 ?_
  refine sq ?_
  refine .mv ?_
  refine sk ?_
  refine sk ?_
  refine sq ?_
  refine .r0 ?_
  refine sq ?_
  refine .mv ?_
  refine sk ?_
  refine sk ?_
  refine sq ?_
  refine .r0 ?_
  apply wpSq_end
  refine hK8 _ _ ?_
  refine ct ?_
  refine wp_seq_k ?_
  intro K9 hK9
  refine rg [0, 1, 2, 3, 4, 5, 6, 7, 8, 9, 10] ?_
  refine sq ?_
  refine .mv ?_
  refine sq ?_
  refine .r0 ?_
  refine sq ?_
  refine .mv ?_
  refine sq ?_
  refine .mv ?_
  refine sq ?_
  refine .r0 ?_
  refine sq ?_
  refine .r0 ?_
  refine sq ?_
  refine .mv ?_
  refine sq ?_
  refine .mv ?_
  refine sq ?_
  refine .r0 ?_
  refine sq ?_
  refine .r0 ?_
  refine sq ?_
  refine .mv ?_
  apply wpSq_end
  refine hK9 _ _ ?_
  refine wp_ret ?_
  try dsimp only [Exit.then, Exit.inBlock]
  refine bodyPost_ret (v := (.bool true)) (by simp [results, Try.results5, go_sem]) rfl ?_
  exact ⟨rfl, hs.b⟩
set_option maxHeartbeats 8000000 in
set_option maxRecDepth 20000 in
theorem products_some (ha : PN w va x lg y lg) (hq : PN w vb u lg v lg) (hlg : 1 ≤ lg) (hlm : lg ≤ 2000000) (hA : gN x y ≠ 0) (hA2 : gN x y < 4294967296) (hB : gN u v ≠ 0) (hB2 : gN u v < 4294967296) (hC : gN (x * u - y * v) (x * v + y * u) ≠ 0) (hC2 : gN (x * u - y * v) (x * v + y * u) < 4294967296) :
    Calls Try.prog 5 #[va, vb] w fun e w' => e = .returned (.bool true) ∧ Below w.heap.size w w' := by
  obtain ⟨pA, kA, fA, FA⟩ := fa_ex hA hA2
  obtain ⟨pB, kB, fB, FB⟩ := fa_ex hB hB2
  obtain ⟨pC, kC, fC, FC⟩ := fa_ex hC hC2
  have sA := hide (fA.small hA2)
  have sB := hide (fB.small hB2)
  have sC := hide (fC.small hC2)
  have HA := hide fA
  have HB := hide fB
  have HC := hide fC
  replace FA := hide FA
  replace FB := hide FB
  replace FC := hide FC
  have UN := hide (unit_add fA fB fC)
  have AL := hide (all_add fA fB fC)
  obtain ⟨⟨a0, a1'⟩, _, _, aL, _⟩ := id fA
  obtain ⟨⟨b0, b1'⟩, _, _, bL, _⟩ := id fB
  obtain ⟨⟨c0, c1'⟩, _, _, cL, _⟩ := id fC
  have tm : Int.tmod (kA + kB) 4 = kC := by rw [Int.tmod_eq_emod_of_nonneg (by omega)]; exact UN.out
  clear fA fB fC hA hA2 hB hB2 hC hC2
  obtain ⟨n_0a, o_0a, k_0a, c_0a, n_0b, o_0b, k_0b, c_0b, rfl, ha1, ha2⟩ := ha
  obtain ⟨n_1a, o_1a, k_1a, c_1a, n_1b, o_1b, k_1b, c_1b, rfl, hq1, hq2⟩ := hq
  go_enter Try.func5, Try.ntmps5
  have hs := St.nil w
  refine wp_seq_k ?_
  intro K1 hK1
  refine rg [0, 1, 2] ?_
  refine sq ?_
  refine .al hs ?_; clear hs; intro p_b1 w_1 hs n1 kb_b1
  refine sq ?_
  refine .al hs ?_; clear hs; intro p_b2 w_2 hs n2 kb_b2
  refine sq ?_
  refine .mv ?_
  apply wpSq_end
  refine hK1 _ _ ?_
  refine wp_seq_k ?_
  intro K2 hK2
  refine wp_seq_k ?_
  intro K3 hK3
  refine rg [0, 1] ?_
  refine sq ?_
  intro K hK
  go_big_op
  go_fit (awake6_any _)
  rintro e w_3 ⟨rfl, hb_3⟩
  replace hs := hs.bl hb_3
  refine hK _ _ rfl trivial ?_
  clear hK K
  refine sq ?_
  refine .r0 ?_
  apply wpSq_end
  refine hK3 _ _ ?_
  refine cf ?_
  refine wp_skip ?_
  refine hK2 _ _ ?_
  refine wp_seq_k ?_
  intro K4 hK4
  refine rg [0, 1, 2, 3, 4, 5, 6, 7, 8] ?_
  refine sq ?_
  refine .r4 hs.g1.f4 ?_
  refine sq ?_
  intro K hK
  have k0_3 := ((kb n1).b n2).b hb_3
  replace ha1 := ha1.k k0_3
  replace ha2 := ha2.k k0_3
  go_big_op
  go_fit (FA.out _ _ _ (.mk' ha1 ha2) hlg (by omega))
  rintro e w_4 ⟨o_A, c_A, xs_A, rfl, L_A, d_A, hb_4⟩
  replace hs := hs.la hb_4 L_A
  refine hK _ _ rfl trivial ?_
  clear hK K
  refine sq ?_
  refine .mv ?_
  refine sq ?_
  refine .r0 ?_
  refine sq ?_
  refine .r0 ?_
  refine sq ?_
  refine .r0 ?_
  refine sq ?_
  refine .mv ?_
  refine sq ?_
  refine .mv ?_
  refine sq ?_
  refine .mv ?_
  apply wpSq_end
  refine hK4 _ _ ?_
  refine wp_seq_k ?_
  intro K5 hK5
  refine rg [0, 1, 2, 3, 4, 5, 6, 7, 8] ?_
  refine sq ?_
  refine .r4 hs.g1.f4 ?_
  refine sq ?_
  intro K hK
  have k0_4 := k0_3.b hb_4
  replace hq1 := hq1.k k0_4
  replace hq2 := hq2.k k0_4
  go_big_op
  go_fit (FB.out _ _ _ (.mk' hq1 hq2) hlg (by omega))
  rintro e w_5 ⟨o_B, c_B, xs_B, rfl, L_B, d_B, hb_5⟩
  replace hs := hs.la hb_5 L_B
  refine hK _ _ rfl trivial ?_
  clear hK K
  refine sq ?_
  refine .mv ?_
  refine sq ?_
  refine .r0 ?_
  refine sq ?_
  refine .r0 ?_
  refine sq ?_
  refine .r0 ?_
  refine sq ?_
  refine .mv ?_
  refine sq ?_
  refine .mv ?_
  refine sq ?_
  refine .mv ?_
  apply wpSq_end
  refine hK5 _ _ ?_
  refine wp_seq_k ?_
  intro K6 hK6
  refine rg [0, 1, 2, 3, 4, 5, 6, 7, 8, 9, 10] ?_
  refine sq ?_
  refine .r4 hs.g3.f4 ?_
  refine sq ?_
  refine .r4 hs.g2.f4 ?_
  refine sq ?_
  intro K hK
  have k3_5 := (kb hb_4).b hb_5
  replace ha1 := ha1.k k3_5
  replace ha2 := ha2.k k3_5
  have k4_5 := kb hb_5
  replace hq1 := hq1.k k4_5
  replace hq2 := hq2.k k4_5
  go_big_op
  go_fit (gMul_any (PN.mk' ha1 ha2) (PN.mk' hq1 hq2) (by omega) (by omega) (by omega) (by omega) )
  rintro e w_6 ⟨_, rfl, ⟨n_gma, o_gma, k_gma, c_gma, n_gmb, o_gmb, k_gmb, c_gmb, rfl, gm1, gm2⟩, hb_6⟩
  replace hs := hs.bl hb_6
  have Lgm1 := hide (gm1.lenOf (zlen_sub (zlen_mul (ha1.len) (hq1.len)) (zlen_mul (ha2.len) (hq2.len))))
  have Lgm2 := hide (gm2.lenOf (zlen_add (zlen_mul (ha1.len) (hq2.len)) (zlen_mul (ha2.len) (hq1.len))))
  refine hK _ _ rfl trivial ?_
  clear hK K
  refine sq ?_
  intro K hK
  go_big_op
  go_fit (FC.out _ _ _ (.mk' (gm1.zn Lgm1.out) (gm2.zn Lgm2.out)) (by omega) (by omega))
  rintro e w_7 ⟨o_C, c_C, xs_C, rfl, L_C, d_C, hb_7⟩
  replace hs := hs.la hb_7 L_C
  refine hK _ _ rfl trivial ?_
  clear hK K
  refine sq ?_
  refine .mv ?_
  refine sq ?_
  refine .r0 ?_
  refine sq ?_
  refine .r0 ?_
  refine sq ?_
  refine .r0 ?_
  refine sq ?_
  refine .mv ?_
  refine sq ?_
  refine .mv ?_
  refine sq ?_
  refine .mv ?_
  apply wpSq_end
  refine hK6 _ _ ?_
  refine wp_seq_k ?_
  intro K7 hK7
  refine wp_seq_k ?_
  intro K8 hK8
  refine rg [0, 1, 2, 3, 4, 5, 6, 7, 8, 9] ?_
  refine sq ?_
  refine .mv ?_
  refine sq ?_
  refine .r0 ?_
  refine sq ?_
  refine .mv ?_
  refine sq ?_
  refine .mv ?_
  refine sq ?_
  refine .r0 ?_
  refine sq ?_
  refine .r0 ?_
  refine sq ?_
  refine .mv ?_
  refine sq ?_
  refine .mv ?_
  refine sq ?_
  refine .r0 ?_
  refine sq ?_
  refine .r0 ?_
  apply wpSq_end
  refine hK8 _ _ ?_
  refine cf ?_
  refine wp_skip ?_
  refine hK7 _ _ ?_
  refine wp_seq_k ?_
  intro K9 hK9
  refine rg [0] ?_
  refine sq ?_
  refine .mv ?_
  apply wpSq_end
  refine hK9 _ _ ?_
  refine wp_seq_k ?_
  intro K10 hK10
  refine wp_seq_k ?_
  intro K11 hK11
  refine rg [0] ?_
  refine sq ?_
  refine .mv ?_
  apply wpSq_end
  refine hK11 _ _ ?_
  refine wp_block ?_
  have k4_7 := (k4_5.b hb_6).b hb_7
  replace d_A := d_A.k k4_7
  have k5_7 := (kb hb_6).b hb_7
  replace d_B := d_B.k k5_7
  replace ha1 := ha1.k k5_7
  replace ha2 := ha2.k k5_7
  replace hq1 := hq1.k k5_7
  replace hq2 := hq2.k k5_7
  have hd8 := hs.2.1
  go_loopg [14, 15] pC.length (fun k s14 s15 wr => ∃ (i : Nat) (M : Int), s14 = .int .i64 M ∧ s15 = .int .i64 (i : Int) ∧ i + k = pC.length ∧ 0 ≤ M ∧ M ≤ 62 * (i : Int) ∧ Hid (M + allN (pC.drop i) = allN pC) ∧ FacL wr xs_A pA ∧ FacL wr xs_B pB ∧ FacL wr xs_C pC ∧ ZN wr (.agg #[.bool n_0a, .slice o_0a k_0a c_0a]) x lg ∧ ZN wr (.agg #[.bool n_0b, .slice o_0b k_0b c_0b]) y lg ∧ ZN wr (.agg #[.bool n_1a, .slice o_1a k_1a c_1a]) u lg ∧ ZN wr (.agg #[.bool n_1b, .slice o_1b k_1b c_1b]) v lg ∧
    St w [ls w.heap.size 37 5 (.slice o_C pC.length c_C) pC.length xs_C, ls w.heap.size 37 5 (.slice o_B pB.length c_B) pB.length xs_B, ls w.heap.size 37 5 (.slice o_A pA.length c_A) pA.length xs_A, bx p_b2 #[.bool n_1a, .slice o_1a k_1a c_1a, .bool n_1b, .slice o_1b k_1b c_1b] 29, bx p_b1 #[.bool n_0a, .slice o_0a k_0a c_0a, .bool n_0b, .slice o_0b k_0b c_0b] 29] wr)
  case atStart => exact ⟨0, 0, rfl, rfl, by omega, by omega, by omega, hide (by rw [List.drop_zero, Int.zero_add]), d_A, d_B, d_C, ha1, ha2, hq1, hq2, hs⟩
  case round =>
  clear ha1 ha2 hq1 hq2 d_A d_B gm1 gm2 d_C hs
  obtain ⟨i, M, rfl, rfl, hik, hM0, hM1, HI, dA, dB, dC, ha1, ha2, hq1, hq2, hs⟩ := hrel
  by_cases hi : i < pC.length
  · obtain ⟨t, ht⟩ : ∃ t, pC[i] = t := ⟨_, rfl⟩
    have htm : t ∈ pC := ht ▸ List.getElem_mem hi
    have HZ := hide (sC.out t htm)
    obtain ⟨n1, o1, k1, q1, n2, o2, k2, q2, ea1, ea2, ea3, ea4, ea5, z1, z2⟩ := dC.at hi
    obtain ⟨CA, hCA⟩ : ∃ CA, cnt pA (t.1, t.2.1) = CA := ⟨_, rfl⟩
    obtain ⟨CB, hCB⟩ : ∃ CB, cnt pB (t.1, t.2.1) = CB := ⟨_, rfl⟩
    have bA := cnt_le (q := (t.1, t.2.1)) HA.out.ns
    have bB := cnt_le (q := (t.1, t.2.1)) HB.out.ns
    rw [hCA] at bA
    rw [hCB] at bB
    obtain ⟨bA0, bA1⟩ := bA
    obtain ⟨bB0, bB1⟩ := bB
    have hN : t.2.2 = CA + CB := by
      have h1 := cntC HA.out HB.out HC.out (Pr t) (List.mem_map_of_mem (f := Pr) htm)
      rw [cnt_mem HC.out.nodup htm] at h1
      exact h1.trans (by rw [← hCA, ← hCB]; rfl)
    rw [ht] at z1 z2 ea5
    rw [hN] at ea5
    have HD := hide (allN_drop hi)
    rw [ht, hN] at HD
    have HJ := hide (show M + (CA + CB) + allN (pC.drop (i + 1)) = allN pC from by rw [← HI.out, HD.out, Int.add_assoc M])
    have HCA := hide hCA
    have HCB := hide hCB
    have hg0 : gN t.1 t.2.1 ≠ 0 := by have := (HC.out.2.2.2.2 t htm).1.2.2.1; omega
    have HG := hide hg0
    have HO := hide (one_dv HA.out HB.out HC.out htm)
    obtain ⟨gl, curl, rfl, xl, hcur⟩ := (hs.1.1.1).box (by omega)
    replace ea1 := hide (hcur _ _ ea1)
    replace ea2 := hide (hcur _ _ ea2)
    replace ea3 := hide (hcur _ _ ea3)
    replace ea4 := hide (hcur _ _ ea4)
    replace ea5 := hide (hcur _ _ ea5)
    obtain ⟨X1, Y1, E1, hx1, _, FX⟩ := exact_ex (x := x) (y := y) hg0
    obtain ⟨X2, Y2, E2, hy1, _, FY⟩ := exact_ex (x := u) (y := v) hg0
    have HX := hide hx1
    have HY := hide hy1
    replace FX := hide FX
    replace FY := hide FY
    clear hcur hCA hCB hN ht htm hg0 hx1 hy1
    generalize hT1 : t.1 = T1 at *
    generalize hT2 : t.2.1 = T2 at *
    clear hT1 hT2
    refine wp_seq_k ?_
    intro K12 hK12
    refine wp_seq_k ?_
    intro K13 hK13
    refine rg [0, 1, 2, 3] ?_
    refine sq ?_
    refine .mv ?_
    refine sq ?_
    refine .mv ?_
    refine sq ?_
    refine .r0 ?_
    refine sq ?_
    refine .r0 ?_
    apply wpSq_end
    refine hK13 _ _ ?_
    refine ct ?_
    refine wp_skip ?_
    refine hK12 _ _ ?_
    refine wp_seq_k ?_
    intro K14 hK14
    refine wp_block ?_
    refine wp_seq_k ?_
    intro K15 hK15
    refine wp_seq_k ?_
    intro K16 hK16
    refine wp_region_f4 [(0, false), (1, false), (2, false), (3, false), (4, false), (5, false), (7, false), (8, false), (9, false), (10, false), (11, false), (12, false), (15, false), (16, false), (17, false), (18, false), (19, false), (6, true), (13, true), (14, false), (20, false)] [] [] (fun _ => default) [99, 99, 99, 99, 99, 0, 99, 99, 99, 99, 99, 99, 0, 99, 99, 99, 99, 99, 99, 0, 99] [] (.c xl .n) fn fun w_9 n9 => ?_
    replace xl := xl.bl n9; replace hs := hs.bl n9
    refine fmv ?_
    refine fmv ?_
    refine fmv ?_
    refine f0 ?_
    refine f0 ?_
    apply wpFl_ld rfl rfl; (case h1 => intro w' hC K hK; have c0 := Bs.cell hC ((i * 5)) ea1.out; have c1 := Bs.cell hC ((i * 5) + 1) ea2.out; have c2 := Bs.cell hC ((i * 5) + 2) ea3.out; have c3 := Bs.cell hC ((i * 5) + 3) ea4.out; go_big_op; exact hK); iterate 4 kernel_rfl
    refine fmv ?_
    refine fmv ?_
    refine fmv ?_
    refine f0 ?_
    refine f0 ?_
    apply wpFl_ld rfl rfl; (case h1 => intro w' hC K hK; have c0 := Bs.cell hC ((i * 5)) ea1.out; have c1 := Bs.cell hC ((i * 5) + 1) ea2.out; have c2 := Bs.cell hC ((i * 5) + 2) ea3.out; have c3 := Bs.cell hC ((i * 5) + 3) ea4.out; go_big_op; exact hK); iterate 4 kernel_rfl
    refine fmv ?_
    refine fmv ?_
    refine f0 ?_
    refine f0 ?_
    apply wpFl_ld rfl rfl; (case h1 => intro w' hC K hK; have c4 := Bs.cell hC ((i * 5) + 4) ea5.out; go_big_op; exact hK); iterate 4 kernel_rfl
    refine fl fun w_10 n10 => ?_
    replace xl := xl.bl n10; replace hs := hs.bl n10
    intro K hK
    have k0_2 := (kb n9).b n10
    replace dA := dA.k k0_2
    replace z1 := z1.k k0_2
    replace z2 := z2.k k0_2
    go_big_op
    go_fit (count_any (SF.of hs.1.2.2.1.1 dA) (lst_cap hs.1.2.2.1.1) aL sA.out (.mk' (z1.zn HZ.out.1) (z2.zn HZ.out.2)))
    rintro e w_11 ⟨rfl, hb_11⟩
    replace xl := xl.bl hb_11; replace hs := hs.bl hb_11
    rw [HCA.out]
    refine hK _ _ rfl ⟨hb_11, (And.intro xl trivial)⟩ ?_
    clear hK K
    refine fl fun w_12 n12 => ?_
    replace xl := xl.bl n12; replace hs := hs.bl n12
    intro K hK
    have k0_4 := (k0_2.b hb_11).b n12
    replace dB := dB.k k0_4
    have k2_4 := (kb hb_11).b n12
    replace z1 := z1.k k2_4
    replace z2 := z2.k k2_4
    go_big_op
    go_fit (count_any (SF.of hs.1.2.1.1 dB) (lst_cap hs.1.2.1.1) bL sB.out (.mk' (z1.zn HZ.out.1) (z2.zn HZ.out.2)))
    rintro e w_13 ⟨rfl, hb_13⟩
    replace xl := xl.bl hb_13; replace hs := hs.bl hb_13
    rw [HCB.out]
    refine hK _ _ rfl ⟨hb_13, (And.intro xl trivial)⟩ ?_
    clear hK K
    refine f0 ?_
    refine f0 ?_
    refine e0 hs ?_; clear hs; intro w_14 hs n14
    replace xl := xl.bl n14
    apply wpTail_end
    refine hK16 _ _ ?_
    refine cf ?_
    refine wp_skip ?_
    refine hK15 _ _ ?_
    refine wp_seq_k ?_
    intro K17 hK17
    refine wp_region_f4 [(0, false), (1, false), (2, false), (3, false), (4, false), (5, false), (6, true), (7, false), (8, false), (9, false)] [11, 12] [10] (fun j => (.cells #[.bool false, .slice none 0 0, .bool false, .slice none 0 0] 29)) [0, 99, 99, 99, 99, 1, 99, 99, 99, 99, 99, 99, 99] [] (.c hs.g4 (.c xl .n)) (fm fn) fun w_15 n15 => ?_
    replace xl := xl.bl n15; replace hs := hs.bl n15
    have hlB := hs.lt; have hkB := hs.k
    refine f4 ?_
    refine fmv ?_
    refine fmv ?_
    refine f0 ?_
    refine f0 ?_
    apply wpFl_ld rfl rfl; (case h1 => intro w' hC K hK; have c0 := Bs.cell hC ((i * 5)) ea1.out; have c1 := Bs.cell hC ((i * 5) + 1) ea2.out; have c2 := Bs.cell hC ((i * 5) + 2) ea3.out; have c3 := Bs.cell hC ((i * 5) + 3) ea4.out; go_big_op; exact hK); iterate 4 kernel_rfl
    refine fl fun w_16 n16 => ?_
    replace xl := xl.bl n16; replace hs := hs.bl n16
    intro K hK
    have k0_8 := (((k0_4.b hb_13).b n14).b n15).b n16
    replace ha1 := ha1.k k0_8
    replace ha2 := ha2.k k0_8
    have k4_8 := (((kb hb_13).b n14).b n15).b n16
    replace z1 := z1.k k4_8
    replace z2 := z2.k k4_8
    go_big_op
    go_fit (FX.out _ _ _ _ _ (.mk' ha1 ha2) (.mk' (z1.zn HZ.out.1) (z2.zn HZ.out.2)) (by omega) (by omega))
    rintro e w_17 ⟨_, rfl, ⟨n_qaa, o_qaa, k_qaa, c_qaa, n_qab, o_qab, k_qab, c_qab, rfl, qa1, qa2⟩, hb_17⟩
    replace xl := xl.bl hb_17; replace hs := hs.bl hb_17
    refine hK _ _ rfl ⟨hb_17, (And.intro hs.g4 (And.intro xl trivial))⟩ ?_
    clear hK K
    refine fmv ?_
    refine f0 ?_
    refine f0 ?_
    refine e1 hs hlB hkB ?_; clear hs hlB hkB; intro w_18 p_b3 hs n18 kb_b3
    replace xl := xl.bl n18
    refine tl ?_
    refine .s4o hs.g0 (fun _ => hs.u0 kb_b3) ?_ (e := fun _ hs hO => (And.intro hs.g5 (And.intro (xl.frame hO (hs.ne 1 0)) True.intro))); clear hs; intro w_19 hs hd19 ho19
    replace xl := xl.frame ho19 (hs.ne 1 0)
    refine tl ?_
    refine .mv ?_ (e := (And.intro hs.g5 (And.intro xl True.intro)))
    apply wpTail_end
    refine hK17 _ _ ?_
    refine wp_seq_k ?_
    intro K18 hK18
    refine wp_region_f4 [(0, false), (1, false), (2, false), (3, false), (4, false), (5, false), (6, true), (7, false), (8, false), (9, false)] [11, 12] [10] (fun j => (.cells #[.bool false, .slice none 0 0, .bool false, .slice none 0 0] 29)) [0, 99, 99, 99, 99, 1, 99, 99, 99, 99, 99, 99, 99] [] (.c hs.g4 (.c xl .n)) (fm fn) fun w_20 n20 => ?_
    replace xl := xl.bl n20; replace hs := hs.bl n20
    have hlB := hs.lt; have hkB := hs.k
    refine f4 ?_
    refine fmv ?_
    refine fmv ?_
    refine f0 ?_
    refine f0 ?_
    apply wpFl_ld rfl rfl; (case h1 => intro w' hC K hK; have c0 := Bs.cell hC ((i * 5)) ea1.out; have c1 := Bs.cell hC ((i * 5) + 1) ea2.out; have c2 := Bs.cell hC ((i * 5) + 2) ea3.out; have c3 := Bs.cell hC ((i * 5) + 3) ea4.out; go_big_op; exact hK); iterate 4 kernel_rfl
    by_cases hE : E1 = 0
    · have hE1 : (E1 != 0) = false := by simp [hE]
      have hE2 : (E1 = 0) = True := by simp [hE]
      clear hE
      refine fl fun w_21 n21 => ?_
      replace xl := xl.bl n21; replace hs := hs.bl n21
      intro K hK
      have k0_13 := ((((k0_8.b hb_17).b n18).o hd19 ho19).b n20).b n21
      replace hq1 := hq1.k k0_13
      replace hq2 := hq2.k k0_13
      have k8_13 := ((((kb hb_17).b n18).o hd19 ho19).b n20).b n21
      replace z1 := z1.k k8_13
      replace z2 := z2.k k8_13
      go_big_op
      go_fit (FY.out _ _ _ _ _ (.mk' hq1 hq2) (.mk' (z1.zn HZ.out.1) (z2.zn HZ.out.2)) (by omega) (by omega))
      rintro e w_22 ⟨_, rfl, ⟨n_qba, o_qba, k_qba, c_qba, n_qbb, o_qbb, k_qbb, c_qbb, rfl, qb1, qb2⟩, hb_22⟩
      replace xl := xl.bl hb_22; replace hs := hs.bl hb_22
      refine hK _ _ rfl ⟨hb_22, (And.intro hs.g4 (And.intro xl trivial))⟩ ?_
      clear hK K
      refine fmv ?_
      refine f0 ?_
      refine f0 ?_
      refine e1 hs hlB hkB ?_; clear hs hlB hkB; intro w_23 p_b4 hs n23 kb_b4
      replace xl := xl.bl n23
      refine tl ?_
      refine .s4o hs.g0 (fun _ => hs.u0 kb_b4) ?_ (e := fun _ hs hO => (And.intro hs.g5 (And.intro (xl.frame hO (hs.ne 2 0)) True.intro))); clear hs; intro w_24 hs hd24 ho24
      replace xl := xl.frame ho24 (hs.ne 2 0)
      refine tl ?_
      refine .mv ?_ (e := (And.intro hs.g5 (And.intro xl True.intro)))
      apply wpTail_end
      refine hK18 _ _ ?_
      refine wp_seq_k ?_
      intro K19 hK19
      refine wp_seq_k ?_
      intro K20 hK20
      refine rg [0, 1, 2, 3, 4, 5] ?_
      refine sq ?_
      refine .mv ?_
      refine sq ?_
      refine .r0 ?_
      refine sq ?_
      refine .mv ?_
      refine sk ?_
      refine sk ?_
      refine sq ?_
      refine .r0 ?_
      apply wpSq_end
      refine hK20 _ _ ?_
      refine cf ?_
      refine wp_skip ?_
      refine hK19 _ _ ?_
      refine rg [0, 1, 2, 3, 4, 5, 6, 7] ?_
      refine sq ?_
      refine .mv ?_
      refine sq ?_
      refine .mv ?_
      refine sq ?_
      refine .mv ?_
      refine sq ?_
      refine .r0 ?_
      refine sq ?_
      refine .r0 ?_
      refine sq ?_
      refine .r1 (xl.cell _ ea5.out) ?_
      refine sq ?_
      refine .r0 ?_
      refine sq ?_
      refine .mv ?_
      apply wpSq_end
      refine hK14 _ _ ?_
      refine rg [0, 1, 2] ?_
      refine sq ?_
      refine .mv ?_
      refine sq ?_
      refine .r0 ?_
      refine sq ?_
      refine .mv ?_
      apply wpSq_end
      have k2_16 := (((((((((((k2_4.b hb_13).b n14).b n15).b n16).b hb_17).b n18).o hd19 ho19).b n20).b n21).b hb_22).b n23).o hd24 ho24
      replace dA := dA.k k2_16
      have k4_16 := (((((((k4_8.b hb_17).b n18).o hd19 ho19).b n20).b n21).b hb_22).b n23).o hd24 ho24
      replace dB := dB.k k4_16
      have k0_16 := ((k0_13.b hb_22).b n23).o hd24 ho24
      replace dC := dC.k k0_16
      have k8_16 := ((k8_13.b hb_22).b n23).o hd24 ho24
      replace ha1 := ha1.k k8_16
      replace ha2 := ha2.k k8_16
      have k13_16 := ((kb hb_22).b n23).o hd24 ho24
      replace hq1 := hq1.k k13_16
      replace hq2 := hq2.k k13_16
      refine ‹∀ (a' : Act) (w' : World), Handed _ _ a' w' → _› _ _ ?_
      go_roundg (gk - 1)
      case rel => exact ⟨i + 1, M + (CA + CB), by rfl, by rfl, by omega, by omega, by omega, HJ, dA, dB, dC, ha1, ha2, hq1, hq2, hs.sub (.cons _ (.cons _ (List.Sublist.refl _)))⟩
      case measure => omega
    · have hE1 : (E1 != 0) = true := by simp [hE]
      have hE2 : (E1 = 0) = False := by simp [hE]
      have hE5 : E2 = 0 := (HO.out.resolve_left fun h => hE (HX.out.2 h)) |> HY.out.2
      have hE3 : (E2 != 0) = false := by simp [hE5]
      have hE4 : (E2 = 0) = True := by simp [hE5]
      clear hE hE5
      refine fl fun w_21 n21 => ?_
      replace xl := xl.bl n21; replace hs := hs.bl n21
      intro K hK
      have k0_13 := ((((k0_8.b hb_17).b n18).o hd19 ho19).b n20).b n21
      replace hq1 := hq1.k k0_13
      replace hq2 := hq2.k k0_13
      have k8_13 := ((((kb hb_17).b n18).o hd19 ho19).b n20).b n21
      replace z1 := z1.k k8_13
      replace z2 := z2.k k8_13
      go_big_op
      go_fit (FY.out _ _ _ _ _ (.mk' hq1 hq2) (.mk' (z1.zn HZ.out.1) (z2.zn HZ.out.2)) (by omega) (by omega))
      rintro e w_22 ⟨_, rfl, ⟨n_qba, o_qba, k_qba, c_qba, n_qbb, o_qbb, k_qbb, c_qbb, rfl, qb1, qb2⟩, hb_22⟩
      replace xl := xl.bl hb_22; replace hs := hs.bl hb_22
      refine hK _ _ rfl ⟨hb_22, (And.intro hs.g4 (And.intro xl trivial))⟩ ?_
      clear hK K
      refine fmv ?_
      refine f0 ?_
      refine f0 ?_
      refine e1 hs hlB hkB ?_; clear hs hlB hkB; intro w_23 p_b4 hs n23 kb_b4
      replace xl := xl.bl n23
      refine tl ?_
      refine .s4o hs.g0 (fun _ => hs.u0 kb_b4) ?_ (e := fun _ hs hO => (And.intro hs.g5 (And.intro (xl.frame hO (hs.ne 2 0)) True.intro))); clear hs; intro w_24 hs hd24 ho24
      replace xl := xl.frame ho24 (hs.ne 2 0)
      refine tl ?_
      refine .mv ?_ (e := (And.intro hs.g5 (And.intro xl True.intro)))
      apply wpTail_end
      refine hK18 _ _ ?_
      refine wp_seq_k ?_
      intro K19 hK19
      refine wp_seq_k ?_
      intro K20 hK20
      refine rg [0, 1, 2, 3, 4, 5] ?_
      refine sq ?_
      refine .mv ?_
      refine sq ?_
      refine .r0 ?_
      refine sq ?_
      refine .mv ?_
      refine sq ?_
      refine .mv ?_
      refine sq ?_
      refine .r0 ?_
      refine sq ?_
      refine .r0 ?_
      apply wpSq_end
      refine hK20 _ _ ?_
      refine cf ?_
      refine wp_skip ?_
      refine hK19 _ _ ?_
      refine rg [0, 1, 2, 3, 4, 5, 6, 7] ?_
      refine sq ?_
      refine .mv ?_
      refine sq ?_
      refine .mv ?_
      refine sq ?_
      refine .mv ?_
      refine sq ?_
      refine .r0 ?_
      refine sq ?_
      refine .r0 ?_
      refine sq ?_
      refine .r1 (xl.cell _ ea5.out) ?_
      refine sq ?_
      refine .r0 ?_
      refine sq ?_
      refine .mv ?_
      apply wpSq_end
      refine hK14 _ _ ?_
      refine rg [0, 1, 2] ?_
      refine sq ?_
      refine .mv ?_
      refine sq ?_
      refine .r0 ?_
      refine sq ?_
      refine .mv ?_
      apply wpSq_end
      have k2_16 := (((((((((((k2_4.b hb_13).b n14).b n15).b n16).b hb_17).b n18).o hd19 ho19).b n20).b n21).b hb_22).b n23).o hd24 ho24
      replace dA := dA.k k2_16
      have k4_16 := (((((((k4_8.b hb_17).b n18).o hd19 ho19).b n20).b n21).b hb_22).b n23).o hd24 ho24
      replace dB := dB.k k4_16
      have k0_16 := ((k0_13.b hb_22).b n23).o hd24 ho24
      replace dC := dC.k k0_16
      have k8_16 := ((k8_13.b hb_22).b n23).o hd24 ho24
      replace ha1 := ha1.k k8_16
      replace ha2 := ha2.k k8_16
      have k13_16 := ((kb hb_22).b n23).o hd24 ho24
      replace hq1 := hq1.k k13_16
      replace hq2 := hq2.k k13_16
      refine ‹∀ (a' : Act) (w' : World), Handed _ _ a' w' → _› _ _ ?_
      go_roundg (gk - 1)
      case rel => exact ⟨i + 1, M + (CA + CB), by rfl, by rfl, by omega, by omega, by omega, HJ, dA, dB, dC, ha1, ha2, hq1, hq2, hs.sub (.cons _ (.cons _ (List.Sublist.refl _)))⟩
      case measure => omega
  · obtain ⟨SA, hSA⟩ : ∃ S, allN pA = S := ⟨_, rfl⟩
    obtain ⟨SB, hSB⟩ : ∃ S, allN pB = S := ⟨_, rfl⟩
    have hMM : SA + SB = M := by
      have h1 := HI.out
      rw [List.drop_of_length_le (by omega), ← AL.out, hSA, hSB] at h1
      exact h1.symm.trans (Int.add_zero M)
    have bA := allN_le HA.out.ns
    have bB := allN_le HB.out.ns
    rw [hSA] at bA
    rw [hSB] at bB
    obtain ⟨bA0, bA1⟩ := bA
    obtain ⟨bB0, bB1⟩ := bB
    have HSA := hide hSA
    have HSB := hide hSB
    clear hSA hSB
    refine wp_seq_k ?_
    intro K12 hK12
    refine wp_seq_k ?_
    intro K13 hK13
    refine rg [0, 1, 2, 3] ?_
    refine sq ?_
    refine .mv ?_
    refine sq ?_
    refine .mv ?_
    refine sq ?_
    refine .r0 ?_
    refine sq ?_
    refine .r0 ?_
    apply wpSq_end
    refine hK13 _ _ ?_
    refine cf ?_
    refine wp_exit ?_
    refine hK10 _ _ ?_
    refine wp_seq_k ?_
    intro K14 hK14
    refine rg [0, 1, 2, 3, 4, 5, 6, 7, 8, 9, 10, 11, 12, 13, 14, 15] ?_
    refine sq ?_
    refine .mv ?_
    refine sq ?_
    refine .mv ?_
    refine sq ?_
    refine .r0 ?_
    refine sq ?_
    refine .r0 ?_
    refine sq ?_
    refine .mv ?_
    refine sq ?_
    refine .r0 ?_
    refine sq ?_
    refine .mv ?_
    refine sq ?_
    refine .mv ?_
    refine sq ?_
    intro K hK
    go_big_op
    go_fit (all_any (SF.of hs.1.2.2.1.1 dA) (lst_cap hs.1.2.2.1.1) aL HA.out.ns)
    rintro e w_9 ⟨rfl, hb_9⟩
    replace hs := hs.bl hb_9
    rw [HSA.out]
    refine hK _ _ rfl trivial ?_
    clear hK K
    refine sq ?_
    refine .mv ?_
    refine sq ?_
    intro K hK
    have k0_1 := kb hb_9
    replace dB := dB.k k0_1
    go_big_op
    go_fit (all_any (SF.of hs.1.2.1.1 dB) (lst_cap hs.1.2.1.1) bL HB.out.ns)
    rintro e w_10 ⟨rfl, hb_10⟩
    replace hs := hs.bl hb_10
    rw [HSB.out]
    refine hK _ _ rfl trivial ?_
    clear hK K
    refine sq ?_
    refine .r0 ?_
    refine sq ?_
    refine .mv ?_
    refine sq ?_
    refine .r0 ?_
    refine sq ?_
    refine .r0 ?_
    refine sq ?_
    refine .mv ?_
    apply wpSq_end
    refine hK14 _ _ ?_
    refine wp_ret ?_
    try dsimp only [Exit.then, Exit.inBlock]
    refine bodyPost_ret (v := (.bool true)) (by simp [results, Try.results5, go_sem]) rfl ?_
    exact ⟨rfl, hs.b⟩
end
theorem walk_GprimeProducts (w : World) (n1 : Bool) (s1 : Value) (xs : List Nat) (h1 : Rd w s1 xs) (l1 : xs.length ≤ 1048576) (n2 : Bool) (s2 : Value) (ys : List Nat) (h2 : Rd w s2 ys) (l2 : ys.length ≤ 1048576)
    (n3 : Bool) (s3 : Value) (us : List Nat) (h3 : Rd w s3 us) (l3 : us.length ≤ 1048576) (n4 : Bool) (s4 : Value) (vs : List Nat) (h4 : Rd w s4 vs) (l4 : vs.length ≤ 1048576) :
    Calls Try.prog 5 #[.agg #[.bool n1, s1, .bool n2, s2], .agg #[.bool n3, s3, .bool n4, s4]] w fun e w' => e = .returned (.bool true) ∧ Below w.heap.size w w' := by
  have ha := PN.of_rd n1 n2 h1 l1 h2 l2
  have hq := PN.of_rd n3 n4 h3 l3 h4 l4
  have hm : ∀ x y u v : Int, gN (x * u - y * v) (x * v + y * u) = gN x y * gN u v := fun x y u v => gP_norm (x, y) (u, v)
  generalize zv n1 xs = x at *
  generalize zv n2 ys = y at *
  generalize zv n3 us = u at *
  generalize zv n4 vs = v at *
  have p1 := gN_nonneg x y
  have p2 := gN_nonneg u v
  have big : ∀ a b : Int, 0 ≤ a → 0 ≤ b → (a = 0 ∨ 4294967296 ≤ a) → a * b = 0 ∨ 4294967296 ≤ a * b := fun a b h1 h2 h => by
    rcases h with rfl | h
    · exact .inl (Int.zero_mul b)
    · rcases Int.lt_or_le b 1 with h3 | h3
      · rw [show b = 0 by omega]; exact .inl (Int.mul_zero a)
      · have := Int.mul_le_mul_of_nonneg_left h3 h1
        omega
  by_cases hA : gN x y = 0 ∨ 4294967296 ≤ gN x y
  · have hC := big _ _ p1 p2 hA
    rw [← hm] at hC
    by_cases hB : gN u v = 0 ∨ 4294967296 ≤ gN u v
    · exact products_no4 ha hq (by omega) (by omega) hA hB hC
    · exact products_no3 ha hq (by omega) (by omega) hA (fun h => hB (.inl h)) (by omega) hC
  · by_cases hB : gN u v = 0 ∨ 4294967296 ≤ gN u v
    · have hC := big _ _ p2 p1 hB
      rw [Int.mul_comm, ← hm] at hC
      exact products_no2 ha hq (by omega) (by omega) (fun h => hA (.inl h)) (by omega) hB hC
    · by_cases hC : gN (x * u - y * v) (x * v + y * u) = 0 ∨ 4294967296 ≤ gN (x * u - y * v) (x * v + y * u)
      · exact products_no1 ha hq (by omega) (by omega) (fun h => hA (.inl h)) (by omega) (fun h => hB (.inl h)) (by omega) hC
      · exact products_some ha hq (by omega) (by omega) (fun h => hA (.inl h)) (by omega) (fun h => hB (.inl h)) (by omega) (fun h => hC (.inl h)) (by omega)
end Go.Proofs.Ythlhekkcjficdaa

