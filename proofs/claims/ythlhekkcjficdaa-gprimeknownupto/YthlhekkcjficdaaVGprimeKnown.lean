/- GprimeKnown: the law's walk. -/
import Derived.Test.YthlhekkcjficdaaK10ToK5
import Derived.Test.YthlhekkcjficdaaZaToJ6
import Derived.Test.YthlhekkcjficdaaRq
namespace Go.Proofs.Ythlhekkcjficdaa
open Go Go.RowKit Dig
set_option linter.unusedVariables false
/-- Factor's answer where the steps are told. -/
theorem fa_of {x y : Int} {N0 : Nat} {L0 : List Nat} {T : List (Int × Int × Int)} {U V k : Int} (hN0 : gN x y = (N0 : Int)) (h0 : N0 ≠ 0) (hN : N0 < 4294967296) (hL : PF N0 L0) (hT : (L0.flatMap pOv).foldl fcS ([], (x, y)) = (T, (U, V))) (hr : T.Pairwise FLt) (hk : (-((kq U V : Nat) : Int)) % 4 = k)
    (w : World) (va : Value) (lg : Nat) (ha : PN w va x lg y lg) (hlg : 1 ≤ lg) (hlm : lg ≤ 10000000) :
    Calls Try.prog 9 #[va] w fun e w' => ∃ (o : Option Addr) (c : Nat) (xs : List Value), e = .returned (.tuple #[.int .i64 k, .slice o T.length c, .int .i64 0]) ∧ Lst w' w.heap.size 37 5 (.slice o T.length c) T.length xs ∧ FacL w' xs T ∧ Below w.heap.size w w' := by
  refine (gfactor_any ha hlg hlm hN0 h0 hN hL hT).mono ?_
  rintro e w' ⟨o, c, qs, rfl, hq, hs, hl, hc, hb⟩
  have hd : (T.map Pr).Nodup := by have := fc_nodup (z := (x, y)) hL; rw [hT] at this; exact this
  have e1 : qs.map Pw.val = T := List.Perm.eq_of_pairwise (le := FLt) (fun a b _ _ h1 h2 => (flt_anti h1 h2).elim) (List.pairwise_map.2 (ris_strict hs hq hd)) hr hq
  exact ⟨o, c, _, by rw [hk], hl, ⟨qs, rfl, e1, hc⟩, hb⟩
theorem lf_2 : IsLf 2 2 := ⟨Nat.dvd_refl 2, Nat.le_refl 2, fun d h _ => h⟩
theorem lf_7 : IsLf 7 7 := lf_div (by decide) (by decide) (fun e h1 h2 => (by decide : ∀ e, e < 7 → 2 ≤ e → ¬ e ∣ 7) e h2 h1)
theorem lf_13 : IsLf 13 13 := lf_div (by decide) (by decide) (fun e h1 h2 => (by decide : ∀ e, e < 13 → 2 ≤ e → ¬ e ∣ 13) e h2 h1)
theorem lf_4b : IsLf 4 2 := lf_div (by decide) (by decide) (fun e h1 h2 => by omega)
theorem no_9 : ¬ IsLf 9 9 := fun h => absurd (h.uniq lf9) (by decide)
theorem prime2 : primeB 2 = true := by rw [primeB_eq lf_2 (by decide)]; decide
theorem prime0 : primeB 0 = false := primeB_low (by decide)
theorem pf_25 : PF 25 [5] := ⟨lf25, 1, ⟨⟨2, rfl⟩, by decide⟩, rfl⟩
theorem pf_4 : PF 4 [2] := ⟨lf_4b, 1, ⟨⟨2, rfl⟩, by decide⟩, rfl⟩
theorem tf_5 : ([5].flatMap pOv).foldl fcS ([], ((5 : Int), (0 : Int))) = ([(1, 2, 1), (2, 1, 1)], (0, -1)) := by decide +kernel
theorem tf_2 : ([2].flatMap pOv).foldl fcS ([], ((-2 : Int), (0 : Int))) = ([(1, 1, 2)], (0, 1)) := by decide +kernel
theorem tf_i : (([] : List Nat).flatMap pOv).foldl fcS ([], ((0 : Int), (1 : Int))) = ([], (0, 1)) := rfl
theorem gd1 {w : World} {B p : Nat} {a1 a2 a3 a4 : Value} {x y : Int} (hx : Bs w p #[a1, a2, a3, a4] 29) (hB : Hid (B ≤ p)) (hn : ([a1, a2, a3, a4] : List Value).all nd = true) (h1 : PC w (.agg #[a1, a2, a3, a4]) x y) : SG w (some ⟨p, 0, none⟩) [(x, y)] :=
  (SG.of (Lst.ofBs (n := 1) (xs := [a1, a2, a3, a4]) hx hB rfl hn) (GD.snoc (GD.nil w) h1)).2.2
theorem gd2 {w : World} {B p : Nat} {a1 a2 a3 a4 b1 b2 b3 b4 : Value} {x y z u : Int} (hx : Bs w p #[a1, a2, a3, a4, b1, b2, b3, b4] 29) (hB : Hid (B ≤ p)) (hn : ([a1, a2, a3, a4, b1, b2, b3, b4] : List Value).all nd = true) (h1 : PC w (.agg #[a1, a2, a3, a4]) x y) (h2 : PC w (.agg #[b1, b2, b3, b4]) z u) : SG w (some ⟨p, 0, none⟩) [(x, y), (z, u)] :=
  (SG.of (Lst.ofBs (n := 2) (xs := [a1, a2, a3, a4, b1, b2, b3, b4]) hx hB rfl hn) (GD.snoc (GD.snoc (GD.nil w) h1) h2)).2.2
theorem ps_5 : List.Pairwise FLt [((1 : Int), (2 : Int), (1 : Int)), (2, 1, 1)] := List.Pairwise.cons (fun t h => by rw [List.mem_singleton.1 h]; show gcmp 1 2 2 1 < 0; decide) (List.pairwise_singleton _ _)
theorem ps_2 : List.Pairwise FLt [((1 : Int), (1 : Int), (2 : Int))] := List.pairwise_singleton _ _
theorem ps_i : List.Pairwise FLt [] := List.Pairwise.nil
theorem pv_2 : pOv 2 = [(1, 1)] := by decide +kernel
theorem pv_13 : pOv 13 = [(2, 3), (3, 2)] := by decide +kernel
theorem pv_7 : pOv 7 = [(7, 0)] := by decide +kernel
theorem small_list {ps : List (Int × Int)} (h : ∀ p ∈ ps, p.1.natAbs < 4294967296 ∧ p.2.natAbs < 4294967296) : ∀ p ∈ ps, (dig p.1.natAbs).length ≤ 100000000 ∧ (dig p.2.natAbs).length ≤ 100000000 := fun p hp =>
  ⟨Nat.le_trans (zlen_small6 (h p hp).1) (by decide), Nat.le_trans (zlen_small6 (h p hp).2) (by decide)⟩
theorem gover_is {w : World} {va : Value} {l N : Nat} {ps : List (Int × Int)} (hp : IsLf N N) (e : pOv N = ps) (hN : N < 65536) (ha : ZN w va (N : Int) l) (hl : l ≤ 20000000) :
    Calls Try.prog 11 #[va] w fun e w' => ∃ o c xs, e = .returned (.tuple #[.slice o ps.length c, .int .i64 0]) ∧ Lst w' w.heap.size 29 4 (.slice o ps.length c) ps.length xs ∧ GD w' xs ps ∧ Below w.heap.size w w' :=
  gover_any N ha hl hN hp (fun w => by have := pover_any (w := w) hp (by omega); rw [e] at this; exact this)
theorem gsq_is {w : World} {va : Value} {l N : Nat} {ps : List (Int × Int)} (e : sqAll N = ps) (hN : N < 4294967296) (ha : ZN w va (N : Int) l) (hl : l ≤ 20000000) :
    Calls Try.prog 14 #[va] w fun e w' => ∃ o c xs, e = .returned (.tuple #[.slice o ps.length c, .int .i64 0]) ∧ Lst w' w.heap.size 29 4 (.slice o ps.length c) ps.length xs ∧ GD w' xs ps ∧ Below w.heap.size w w' := by
  have := gsq_any N ha hl hN
  rw [e] at this
  exact this
set_option maxHeartbeats 8000000 in
set_option maxRecDepth 20000 in
theorem walk_GprimeKnown (w : World) :
    Calls Try.prog 3 #[] w fun e w' => e = .returned (.bool true) ∧ Below w.heap.size w w' := by
  have E2 := hide prime2
  have E9 := hide prime9
  have E0 := hide prime0
  go_enter Try.func3, Try.ntmps3
  have hs := St.nil w
  refine wp_seq_k ?_
  intro K1 hK1
  refine rg [0] ?_
  refine sq ?_
  refine .mv ?_
  apply wpSq_end
  refine hK1 _ _ ?_
  refine wp_seq_k ?_
  intro K2 hK2
  refine rg [0, 1, 2, 3, 4, 5, 6] ?_
  refine sq ?_
  intro K hK
  go_big_op
  go_fit (g6_any 1 1 _ (by decide) (by decide) (by decide) (by decide))
  rintro e w_1 ⟨_, rfl, ⟨n_aaa, o_aaa, k_aaa, c_aaa, n_aab, o_aab, k_aab, c_aab, rfl, aa1, aa2⟩, hb_1⟩
  replace hs := hs.bl hb_1
  have Laa1 := hide (aa1.lenOf (zlen_small6 (z := 1) (by decide)))
  have Laa2 := hide (aa2.lenOf (zlen_small6 (z := 1) (by decide)))
  refine hK _ _ rfl trivial ?_
  clear hK K
  refine sq ?_
  intro K hK
  go_big_op
  go_fit (gprime_any 2 (.mk' (aa1.zn Laa1.out) (aa2.zn Laa2.out)) (by decide) (by decide) (by decide) (by decide))
  rintro e w_2 ⟨rfl, hb_2⟩
  replace hs := hs.bl hb_2
  rw [E2.out]
  refine hK _ _ rfl trivial ?_
  clear hK K
  refine sq ?_
  refine .mv ?_
  refine sq ?_
  refine .r0 ?_
  refine sq ?_
  refine .r0 ?_
  refine sq ?_
  refine .mv ?_
  refine sq ?_
  refine .mv ?_
  apply wpSq_end
  refine hK2 _ _ ?_
  refine wp_seq_k ?_
  intro K3 hK3
  refine rg [0, 1, 2, 3, 4, 5, 6] ?_
  refine sq ?_
  intro K hK
  go_big_op
  go_fit (g6_any 0 (-3) _ (by decide) (by decide) (by decide) (by decide))
  rintro e w_3 ⟨_, rfl, ⟨n_aba, o_aba, k_aba, c_aba, n_abb, o_abb, k_abb, c_abb, rfl, ab1, ab2⟩, hb_3⟩
  replace hs := hs.bl hb_3
  have Lab1 := hide (ab1.lenOf (zlen_small6 (z := 0) (by decide)))
  have Lab2 := hide (ab2.lenOf (zlen_small6 (z := (-3)) (by decide)))
  refine hK _ _ rfl trivial ?_
  clear hK K
  refine sq ?_
  intro K hK
  go_big_op
  go_fit (gprime_any 9 (.mk' (ab1.zn Lab1.out) (ab2.zn Lab2.out)) (by decide) (by decide) (by decide) (by decide))
  rintro e w_4 ⟨rfl, hb_4⟩
  replace hs := hs.bl hb_4
  rw [E9.out]
  refine hK _ _ rfl trivial ?_
  clear hK K
  refine sq ?_
  refine .mv ?_
  refine sq ?_
  refine .r0 ?_
  refine sq ?_
  refine .r0 ?_
  refine sq ?_
  refine .mv ?_
  refine sq ?_
  refine .mv ?_
  apply wpSq_end
  refine hK3 _ _ ?_
  refine wp_seq_k ?_
  intro K4 hK4
  refine rg [0, 1, 2, 3, 4, 5, 6] ?_
  refine sq ?_
  intro K hK
  go_big_op
  go_fit (g6_any 0 0 _ (by decide) (by decide) (by decide) (by decide))
  rintro e w_5 ⟨_, rfl, ⟨n_aca, o_aca, k_aca, c_aca, n_acb, o_acb, k_acb, c_acb, rfl, ac1, ac2⟩, hb_5⟩
  replace hs := hs.bl hb_5
  have Lac1 := hide (ac1.lenOf (zlen_small6 (z := 0) (by decide)))
  have Lac2 := hide (ac2.lenOf (zlen_small6 (z := 0) (by decide)))
  refine hK _ _ rfl trivial ?_
  clear hK K
  refine sq ?_
  intro K hK
  go_big_op
  go_fit (gprime_any 0 (.mk' (ac1.zn Lac1.out) (ac2.zn Lac2.out)) (by decide) (by decide) (by decide) (by decide))
  rintro e w_6 ⟨rfl, hb_6⟩
  replace hs := hs.bl hb_6
  rw [E0.out]
  refine hK _ _ rfl trivial ?_
  clear hK K
  refine sq ?_
  refine .mv ?_
  refine sq ?_
  refine .r0 ?_
  refine sq ?_
  refine .r0 ?_
  refine sq ?_
  refine .mv ?_
  refine sq ?_
  refine .mv ?_
  apply wpSq_end
  refine hK4 _ _ ?_
  refine wp_seq_k ?_
  intro K5 hK5
  refine rg [0, 1, 2, 3, 4, 5, 6] ?_
  refine sq ?_
  intro K hK
  go_big_op
  go_fit (g6_any 65536 0 _ (by decide) (by decide) (by decide) (by decide))
  rintro e w_7 ⟨_, rfl, ⟨n_ada, o_ada, k_ada, c_ada, n_adb, o_adb, k_adb, c_adb, rfl, ad1, ad2⟩, hb_7⟩
  clear aa1 aa2 ab1 ab2 ac1 ac2
  replace hs := hs.bl hb_7
  have Lad1 := hide (ad1.lenOf (zlen_small6 (z := 65536) (by decide)))
  have Lad2 := hide (ad2.lenOf (zlen_small6 (z := 0) (by decide)))
  refine hK _ _ rfl trivial ?_
  clear hK K
  refine sq ?_
  intro K hK
  go_big_op
  go_fit (gprime_big (.mk' (ad1.zn Lad1.out) (ad2.zn Lad2.out)) (by decide) (by decide) (by decide))
  rintro e w_8 ⟨rfl, hb_8⟩
  replace hs := hs.bl hb_8
  refine hK _ _ rfl trivial ?_
  clear hK K
  refine sq ?_
  refine .mv ?_
  refine sq ?_
  refine .r0 ?_
  refine sq ?_
  refine .r0 ?_
  refine sq ?_
  refine .mv ?_
  refine sq ?_
  refine .mv ?_
  apply wpSq_end
  refine hK5 _ _ ?_
  refine wp_seq_k ?_
  intro K6 hK6
  refine wp_seq_k ?_
  intro K7 hK7
  refine rg [0, 1, 2, 3, 4, 5, 6, 7, 8, 9, 10, 11, 12, 13, 14, 15, 16, 17, 18, 19, 20, 21, 22, 23, 24, 25, 26, 27, 28] ?_
  refine sq ?_
  intro K hK
  go_big_op
  go_fit (awake6_any _)
  rintro e w_9 ⟨rfl, hb_9⟩
  replace hs := hs.bl hb_9
  refine hK _ _ rfl trivial ?_
  clear hK K
  refine sq ?_
  refine .r0 ?_
  refine sq ?_
  refine .mv ?_
  refine sq ?_
  refine .mv ?_
  refine sq ?_
  refine .r0 ?_
  refine sq ?_
  refine .r0 ?_
  refine sq ?_
  refine .mv ?_
  refine sq ?_
  refine .mv ?_
  refine sq ?_
  refine .r0 ?_
  refine sq ?_
  refine .r0 ?_
  refine sq ?_
  refine .mv ?_
  refine sq ?_
  refine .mv ?_
  refine sq ?_
  refine .r0 ?_
  refine sq ?_
  refine .r0 ?_
  refine sq ?_
  refine .mv ?_
  refine sq ?_
  refine .mv ?_
  refine sq ?_
  refine .r0 ?_
  refine sq ?_
  refine .r0 ?_
  refine sq ?_
  refine .mv ?_
  refine sq ?_
  refine .mv ?_
  refine sq ?_
  refine .r0 ?_
  refine sq ?_
  refine .mv ?_
  refine sq ?_
  refine .mv ?_
  refine sq ?_
  refine .r0 ?_
  refine sq ?_
  refine .r0 ?_
  refine sq ?_
  refine .mv ?_
  refine sq ?_
  refine .mv ?_
  refine sq ?_
  refine .r0 ?_
  refine sq ?_
  refine .r0 ?_
  apply wpSq_end
  refine hK7 _ _ ?_
  refine cf ?_
  refine wp_skip ?_
  refine hK6 _ _ ?_
  refine wp_seq_k ?_
  intro K8 hK8
  refine rg [0, 1, 2, 3, 4, 5, 6, 7, 8] ?_
  refine sq ?_
  intro K hK
  go_big_op
  go_fit (g6_any 5 0 _ (by decide) (by decide) (by decide) (by decide))
  rintro e w_10 ⟨_, rfl, ⟨n_baa, o_baa, k_baa, c_baa, n_bab, o_bab, k_bab, c_bab, rfl, ba1, ba2⟩, hb_10⟩
  replace hs := hs.bl hb_10
  have Lba1 := hide (ba1.lenOf (zlen_small6 (z := 5) (by decide)))
  have Lba2 := hide (ba2.lenOf (zlen_small6 (z := 0) (by decide)))
  refine hK _ _ rfl trivial ?_
  clear hK K
  refine sq ?_
  intro K hK
  go_big_op
  go_fit (fa_of (N0 := 25) (k := 3) (by decide) (by decide) (by decide) pf_25 tf_5 ps_5 (by decide) _ _ _ (.mk' (ba1.zn Lba1.out) (ba2.zn Lba2.out)) (by decide) (by decide))
  rintro e w_11 ⟨o_A, c_A, xs_A, rfl, L_A, d_A, hb_11⟩
  replace hs := hs.la hb_11 L_A
  refine hK _ _ rfl trivial ?_
  clear hK K
  refine sq ?_
  refine .mv ?_
  refine sq ?_
  refine .r0 ?_
  refine sq ?_
  refine .r0 ?_
  refine sq ?_
  refine .r0 ?_
  refine sq ?_
  refine .mv ?_
  refine sq ?_
  refine .mv ?_
  refine sq ?_
  refine .mv ?_
  apply wpSq_end
  refine hK8 _ _ ?_
  refine wp_seq_k ?_
  intro K9 hK9
  refine rg [0, 1, 2, 3, 4, 5, 6, 7, 8] ?_
  refine sq ?_
  intro K hK
  go_big_op
  go_fit (g6_any (-2) 0 _ (by decide) (by decide) (by decide) (by decide))
  rintro e w_12 ⟨_, rfl, ⟨n_bba, o_bba, k_bba, c_bba, n_bbb, o_bbb, k_bbb, c_bbb, rfl, bb1, bb2⟩, hb_12⟩
  replace hs := hs.bl hb_12
  have Lbb1 := hide (bb1.lenOf (zlen_small6 (z := (-2)) (by decide)))
  have Lbb2 := hide (bb2.lenOf (zlen_small6 (z := 0) (by decide)))
  refine hK _ _ rfl trivial ?_
  clear hK K
  refine sq ?_
  intro K hK
  go_big_op
  go_fit (fa_of (N0 := 4) (k := 1) (by decide) (by decide) (by decide) pf_4 tf_2 ps_2 (by decide) _ _ _ (.mk' (bb1.zn Lbb1.out) (bb2.zn Lbb2.out)) (by decide) (by decide))
  rintro e w_13 ⟨o_B, c_B, xs_B, rfl, L_B, d_B, hb_13⟩
  replace hs := hs.la hb_13 L_B
  refine hK _ _ rfl trivial ?_
  clear hK K
  refine sq ?_
  refine .mv ?_
  refine sq ?_
  refine .r0 ?_
  refine sq ?_
  refine .r0 ?_
  refine sq ?_
  refine .r0 ?_
  refine sq ?_
  refine .mv ?_
  refine sq ?_
  refine .mv ?_
  refine sq ?_
  refine .mv ?_
  apply wpSq_end
  refine hK9 _ _ ?_
  refine wp_seq_k ?_
  intro K10 hK10
  refine rg [0, 1, 2, 3, 4, 5, 6, 7, 8] ?_
  refine sq ?_
  intro K hK
  go_big_op
  go_fit (g6_any 0 1 _ (by decide) (by decide) (by decide) (by decide))
  rintro e w_14 ⟨_, rfl, ⟨n_bca, o_bca, k_bca, c_bca, n_bcb, o_bcb, k_bcb, c_bcb, rfl, bc1, bc2⟩, hb_14⟩
  clear ad1 ad2 ba1 ba2 bb1 bb2
  replace hs := hs.bl hb_14
  have Lbc1 := hide (bc1.lenOf (zlen_small6 (z := 0) (by decide)))
  have Lbc2 := hide (bc2.lenOf (zlen_small6 (z := 1) (by decide)))
  refine hK _ _ rfl trivial ?_
  clear hK K
  refine sq ?_
  intro K hK
  go_big_op
  go_fit (fa_of (N0 := 1) (L0 := []) (k := 1) (by decide) (by decide) (by decide) rfl tf_i ps_i (by decide) _ _ _ (.mk' (bc1.zn Lbc1.out) (bc2.zn Lbc2.out)) (by decide) (by decide))
  rintro e w_15 ⟨o_C, c_C, xs_C, rfl, L_C, d_C, hb_15⟩
  replace hs := hs.la hb_15 L_C
  refine hK _ _ rfl trivial ?_
  clear hK K
  refine sq ?_
  refine .mv ?_
  refine sq ?_
  refine .r0 ?_
  refine sq ?_
  refine .r0 ?_
  refine sq ?_
  refine .r0 ?_
  refine sq ?_
  refine .mv ?_
  refine sq ?_
  refine .mv ?_
  refine sq ?_
  refine .mv ?_
  apply wpSq_end
  refine hK10 _ _ ?_
  refine wp_seq_k ?_
  intro K11 hK11
  refine rg [0, 1, 2, 3, 4, 5, 6] ?_
  refine sq ?_
  intro K hK
  go_big_op
  go_fit (g6_any 0 0 _ (by decide) (by decide) (by decide) (by decide))
  rintro e w_16 ⟨_, rfl, ⟨n_bda, o_bda, k_bda, c_bda, n_bdb, o_bdb, k_bdb, c_bdb, rfl, bd1, bd2⟩, hb_16⟩
  replace hs := hs.bl hb_16
  have Lbd1 := hide (bd1.lenOf (zlen_small6 (z := 0) (by decide)))
  have Lbd2 := hide (bd2.lenOf (zlen_small6 (z := 0) (by decide)))
  refine hK _ _ rfl trivial ?_
  clear hK K
  have k11_16 := ((((kb hb_12).b hb_13).b hb_14).b hb_15).b hb_16
  replace d_A := d_A.k k11_16
  obtain ⟨na, oa, ka, qa, nb, ob, kb', qb, ea1, ea2, ea3, ea4, ea5, za1, za2⟩ := d_A.at (i := 0) (by decide)
  obtain ⟨nc, oc, kc, qc, nd', od, kd, qd, eb1, eb2, eb3, eb4, eb5, zb1, zb2⟩ := d_A.at (i := 1) (by decide)
  have k13_16 := ((kb hb_14).b hb_15).b hb_16
  replace d_B := d_B.k k13_16
  obtain ⟨ne, oe, ke, qe, nf, of', kf, qf, ec1, ec2, ec3, ec4, ec5, zc1, zc2⟩ := d_B.at (i := 0) (by decide)
  change ZC _ _ 1 at za1
  change ZC _ _ 2 at za2
  change ZC _ _ 2 at zb1
  change ZC _ _ 1 at zb2
  change ZC _ _ 1 at zc1
  change ZC _ _ 1 at zc2
  obtain ⟨ga, cura, rfl, xla, hca⟩ := (hs.1.2.2.1.1).box (by decide)
  obtain ⟨gb, curb, rfl, xlb, hcb⟩ := (hs.1.2.1.1).box (by decide)
  replace ea1 := hide (hca _ _ ea1); replace ea2 := hide (hca _ _ ea2); replace ea3 := hide (hca _ _ ea3); replace ea4 := hide (hca _ _ ea4); replace ea5 := hide (show cura[0 + 4]? = some (.int .i64 1) from hca _ _ ea5)
  replace eb1 := hide (hca _ _ eb1); replace eb2 := hide (hca _ _ eb2); replace eb3 := hide (hca _ _ eb3); replace eb4 := hide (hca _ _ eb4); replace eb5 := hide (show cura[5 + 4]? = some (.int .i64 1) from hca _ _ eb5)
  replace ec1 := hide (hcb _ _ ec1); replace ec2 := hide (hcb _ _ ec2); replace ec3 := hide (hcb _ _ ec3); replace ec4 := hide (hcb _ _ ec4); replace ec5 := hide (show curb[0 + 4]? = some (.int .i64 2) from hcb _ _ ec5)
  clear hca hcb
  refine sq ?_
  intro K hK
  go_big_op
  go_fit (gfactor_zero (.mk' (bd1.zn Lbd1.out) (bd2.zn Lbd2.out)) (by decide) (by decide) (by decide))
  rintro e w_17 ⟨rfl, hb_17⟩
  replace xla := xla.bl hb_17; replace xlb := xlb.bl hb_17; replace hs := hs.bl hb_17
  refine hK _ _ rfl trivial ?_
  clear hK K
  refine sq ?_
  refine .mv ?_
  refine sq ?_
  refine .r0 ?_
  refine sq ?_
  refine .r0 ?_
  refine sq ?_
  refine .r0 ?_
  refine sq ?_
  refine .mv ?_
  apply wpSq_end
  refine hK11 _ _ ?_
  refine wp_seq_k ?_
  intro K12 hK12
  refine wp_seq_k ?_
  intro K13 hK13
  refine wp_region_f5 [(0, false), (1, false), (2, false), (3, false), (4, false), (5, false), (6, false), (7, false), (8, false), (9, false), (10, false), (11, false), (12, false), (13, false), (14, false), (15, false), (16, true), (17, true), (18, false), (19, false), (20, false), (21, false), (22, false), (23, false), (24, false), (25, false), (26, false), (27, false), (28, false), (29, false), (30, false), (31, false), (32, true), (33, true), (34, false), (35, false), (36, false), (37, false), (38, false), (39, false), (40, false), (41, false), (42, false), (43, false), (44, false), (45, false), (46, false), (47, false), (48, false), (49, false), (50, false), (51, false), (52, false), (53, false), (54, false), (55, false), (56, false), (57, false), (58, false), (59, false), (60, false), (61, true), (62, true), (63, false), (64, false), (65, false), (66, false), (67, false), (68, false), (69, false), (70, false), (71, false), (72, false), (73, false), (74, false), (75, false), (76, false), (77, false), (78, false), (79, false), (80, false), (81, false), (82, false), (83, false), (84, false), (85, false), (86, false), (87, false), (88, false)] (fun _ => default) [99, 99, 99, 99, 99, 99, 99, 99, 99, 99, 99, 99, 99, 99, 99, 0, 99, 99, 99, 99, 99, 99, 99, 99, 0, 99, 99, 99, 99, 99, 99, 0, 99, 99, 99, 99, 99, 99, 99, 99, 0, 99, 99, 99, 99, 99, 99, 99, 99, 99, 99, 99, 99, 99, 99, 99, 99, 99, 99, 99, 1, 99, 99, 99, 99, 99, 99, 99, 99, 1, 99, 99, 99, 99, 99, 99, 99, 99, 99, 99, 99, 99, 99, 99, 99, 99, 99, 99, 99] [] (.c xla (.c xlb .n)) fn fun w_18 n18 => ?_
  replace xla := xla.bl n18; replace xlb := xlb.bl n18; replace hs := hs.bl n18
  refine fmv ?_
  refine f0 ?_
  refine fmv ?_
  refine fmv ?_
  refine f0 ?_
  refine f0 ?_
  refine fmv ?_
  refine fmv ?_
  refine fb ?_
  refine f0 ?_
  refine f0 ?_
  refine fmv ?_
  refine fmv ?_
  refine f0 ?_
  refine f0 ?_
  apply wpFl_ld rfl rfl; (case h1 => intro w' hC K hK; have c0 := Bs.cell hC (0) ea1.out; have c1 := Bs.cell hC (0 + 1) ea2.out; have c2 := Bs.cell hC (0 + 2) ea3.out; have c3 := Bs.cell hC (0 + 3) ea4.out; go_big_op; exact hK); iterate 4 kernel_rfl
  refine fl fun w_19 n19 => ?_
  replace xla := xla.bl n19; replace xlb := xlb.bl n19; replace hs := hs.bl n19
  intro K hK
  go_big_op
  go_fit (g6_any 1 2 _ (by decide) (by decide) (by decide) (by decide))
  rintro e w_20 ⟨_, rfl, ⟨n_caa, o_caa, k_caa, c_caa, n_cab, o_cab, k_cab, c_cab, rfl, ca1, ca2⟩, hb_20⟩
  replace xla := xla.bl hb_20; replace xlb := xlb.bl hb_20; replace hs := hs.bl hb_20
  have Lca1 := hide (ca1.lenOf (zlen_small6 (z := 1) (by decide)))
  have Lca2 := hide (ca2.lenOf (zlen_small6 (z := 2) (by decide)))
  refine hK _ _ rfl ⟨hb_20, (And.intro xla (And.intro xlb trivial))⟩ ?_
  clear hK K
  refine fl fun w_21 n21 => ?_
  replace xla := xla.bl n21; replace xlb := xlb.bl n21; replace hs := hs.bl n21
  intro K hK
  have k16_21 := ((((kb hb_17).b n18).b n19).b hb_20).b n21
  replace za1 := za1.k k16_21
  replace za2 := za2.k k16_21
  have k20_21 := kb n21
  replace ca1 := ca1.k k20_21
  replace ca2 := ca2.k k20_21
  go_big_op
  go_fit (g6is_any (.mk' za1 za2) (.mk' (ca1.zn Lca1.out) (ca2.zn Lca2.out)) (by decide) (by decide))
  rintro e w_22 ⟨rfl, hb_22⟩
  replace xla := xla.bl hb_22; replace xlb := xlb.bl hb_22; replace hs := hs.bl hb_22
  refine hK _ _ rfl ⟨hb_22, (And.intro xla (And.intro xlb trivial))⟩ ?_
  clear hK K
  refine f0 ?_
  refine f0 ?_
  refine fmv ?_
  refine fmv ?_
  refine f0 ?_
  refine f0 ?_
  apply wpFl_ld rfl rfl; (case h1 => intro w' hC K hK; have c4 := Bs.cell hC (0 + 4) ea5.out; go_big_op; exact hK); iterate 4 kernel_rfl
  refine f0 ?_
  refine f0 ?_
  refine fmv ?_
  refine fmv ?_
  refine f0 ?_
  refine f0 ?_
  apply wpFl_ld rfl rfl; (case h1 => intro w' hC K hK; have c0 := Bs.cell hC (5) eb1.out; have c1 := Bs.cell hC (5 + 1) eb2.out; have c2 := Bs.cell hC (5 + 2) eb3.out; have c3 := Bs.cell hC (5 + 3) eb4.out; go_big_op; exact hK); iterate 4 kernel_rfl
  refine fl fun w_23 n23 => ?_
  clear bc1 bc2 bd1 bd2 ca1 ca2
  replace xla := xla.bl n23; replace xlb := xlb.bl n23; replace hs := hs.bl n23
  intro K hK
  go_big_op
  go_fit (g6_any 2 1 _ (by decide) (by decide) (by decide) (by decide))
  rintro e w_24 ⟨_, rfl, ⟨n_cba, o_cba, k_cba, c_cba, n_cbb, o_cbb, k_cbb, c_cbb, rfl, cb1, cb2⟩, hb_24⟩
  replace xla := xla.bl hb_24; replace xlb := xlb.bl hb_24; replace hs := hs.bl hb_24
  have Lcb1 := hide (cb1.lenOf (zlen_small6 (z := 2) (by decide)))
  have Lcb2 := hide (cb2.lenOf (zlen_small6 (z := 1) (by decide)))
  refine hK _ _ rfl ⟨hb_24, (And.intro xla (And.intro xlb trivial))⟩ ?_
  clear hK K
  refine fl fun w_25 n25 => ?_
  replace xla := xla.bl n25; replace xlb := xlb.bl n25; replace hs := hs.bl n25
  intro K hK
  have k16_25 := (((k16_21.b hb_22).b n23).b hb_24).b n25
  replace zb1 := zb1.k k16_25
  replace zb2 := zb2.k k16_25
  have k24_25 := kb n25
  replace cb1 := cb1.k k24_25
  replace cb2 := cb2.k k24_25
  go_big_op
  go_fit (g6is_any (.mk' zb1 zb2) (.mk' (cb1.zn Lcb1.out) (cb2.zn Lcb2.out)) (by decide) (by decide))
  rintro e w_26 ⟨rfl, hb_26⟩
  replace xla := xla.bl hb_26; replace xlb := xlb.bl hb_26; replace hs := hs.bl hb_26
  refine hK _ _ rfl ⟨hb_26, (And.intro xla (And.intro xlb trivial))⟩ ?_
  clear hK K
  refine f0 ?_
  refine f0 ?_
  refine fmv ?_
  refine fmv ?_
  refine f0 ?_
  refine f0 ?_
  apply wpFl_ld rfl rfl; (case h1 => intro w' hC K hK; have c4 := Bs.cell hC (5 + 4) eb5.out; go_big_op; exact hK); iterate 4 kernel_rfl
  refine f0 ?_
  refine f0 ?_
  refine fmv ?_
  refine fmv ?_
  refine f0 ?_
  refine f0 ?_
  refine fmv ?_
  refine fmv ?_
  refine f0 ?_
  refine f0 ?_
  refine fmv ?_
  refine fmv ?_
  refine fb ?_
  refine f0 ?_
  refine f0 ?_
  refine fmv ?_
  refine fmv ?_
  refine f0 ?_
  refine f0 ?_
  apply wpFl_ld rfl rfl; (case h1 => intro w' hC K hK; have c0 := Bs.cell hC (0) ec1.out; have c1 := Bs.cell hC (0 + 1) ec2.out; have c2 := Bs.cell hC (0 + 2) ec3.out; have c3 := Bs.cell hC (0 + 3) ec4.out; go_big_op; exact hK); iterate 4 kernel_rfl
  refine fl fun w_27 n27 => ?_
  replace xla := xla.bl n27; replace xlb := xlb.bl n27; replace hs := hs.bl n27
  intro K hK
  go_big_op
  go_fit (g6_any 1 1 _ (by decide) (by decide) (by decide) (by decide))
  rintro e w_28 ⟨_, rfl, ⟨n_cca, o_cca, k_cca, c_cca, n_ccb, o_ccb, k_ccb, c_ccb, rfl, cc1, cc2⟩, hb_28⟩
  replace xla := xla.bl hb_28; replace xlb := xlb.bl hb_28; replace hs := hs.bl hb_28
  have Lcc1 := hide (cc1.lenOf (zlen_small6 (z := 1) (by decide)))
  have Lcc2 := hide (cc2.lenOf (zlen_small6 (z := 1) (by decide)))
  refine hK _ _ rfl ⟨hb_28, (And.intro xla (And.intro xlb trivial))⟩ ?_
  clear hK K
  refine fl fun w_29 n29 => ?_
  replace xla := xla.bl n29; replace xlb := xlb.bl n29; replace hs := hs.bl n29
  intro K hK
  have k16_29 := (((k16_25.b hb_26).b n27).b hb_28).b n29
  replace zc1 := zc1.k k16_29
  replace zc2 := zc2.k k16_29
  have k28_29 := kb n29
  replace cc1 := cc1.k k28_29
  replace cc2 := cc2.k k28_29
  go_big_op
  go_fit (g6is_any (.mk' zc1 zc2) (.mk' (cc1.zn Lcc1.out) (cc2.zn Lcc2.out)) (by decide) (by decide))
  rintro e w_30 ⟨rfl, hb_30⟩
  replace xla := xla.bl hb_30; replace xlb := xlb.bl hb_30; replace hs := hs.bl hb_30
  refine hK _ _ rfl ⟨hb_30, (And.intro xla (And.intro xlb trivial))⟩ ?_
  clear hK K
  refine f0 ?_
  refine f0 ?_
  refine fmv ?_
  refine fmv ?_
  refine f0 ?_
  refine f0 ?_
  apply wpFl_ld rfl rfl; (case h1 => intro w' hC K hK; have c4 := Bs.cell hC (0 + 4) ec5.out; go_big_op; exact hK); iterate 4 kernel_rfl
  refine f0 ?_
  refine f0 ?_
  refine fmv ?_
  refine fmv ?_
  refine f0 ?_
  refine f0 ?_
  refine fmv ?_
  refine fmv ?_
  refine f0 ?_
  refine f0 ?_
  refine fmv ?_
  refine fmv ?_
  refine fb ?_
  refine f0 ?_
  refine f0 ?_
  refine fmv ?_
  refine fmv ?_
  refine f0 ?_
  refine f0 ?_
  refine e0 hs ?_; clear hs; intro w_31 hs n31
  clear d_A cb1 cb2 d_B d_C cc1 cc2
  replace xla := xla.bl n31; replace xlb := xlb.bl n31
  apply wpTail_end
  refine hK13 _ _ ?_
  refine cf ?_
  refine wp_skip ?_
  refine hK12 _ _ ?_
  refine wp_seq_k ?_
  intro K14 hK14
  refine rg [0, 1, 2, 3, 4, 5, 6] ?_
  refine sq ?_
  intro K hK
  go_big_op
  go_fit (ri_any 2 _ (by decide) (by decide))
  rintro e w_32 ⟨v_ia, rfl, ia, hb_32⟩
  replace xla := xla.bl hb_32; replace xlb := xlb.bl hb_32; replace hs := hs.bl hb_32
  replace ia := ia.rd
  obtain ⟨n_ia, o_ia, k_ia, c_ia, rfl⟩ := ia.open2
  have Lia := hide (ia.lenOf (zlen_small6 (z := 2) (by decide)))
  refine hK _ _ rfl trivial ?_
  clear hK K
  refine sq ?_
  intro K hK
  go_big_op
  go_fit (gover_is (N := 2) lf_2 pv_2 (by decide) (ia.zn Lia.out) (by decide))
  rintro e w_33 ⟨o_D, c_D, xs_D, rfl, L_D, d_D, hb_33⟩
  replace xla := xla.bl hb_33; replace xlb := xlb.bl hb_33
  replace hs := hs.la hb_33 L_D
  refine hK _ _ rfl trivial ?_
  clear hK K
  refine sq ?_
  refine .mv ?_
  refine sq ?_
  refine .r0 ?_
  refine sq ?_
  refine .r0 ?_
  refine sq ?_
  refine .mv ?_
  refine sq ?_
  refine .mv ?_
  apply wpSq_end
  refine hK14 _ _ ?_
  refine wp_seq_k ?_
  intro K15 hK15
  refine rg [0, 1, 2, 3, 4, 5, 6] ?_
  refine sq ?_
  intro K hK
  go_big_op
  go_fit (ri_any 13 _ (by decide) (by decide))
  rintro e w_34 ⟨v_ib, rfl, ib, hb_34⟩
  replace xla := xla.bl hb_34; replace xlb := xlb.bl hb_34; replace hs := hs.bl hb_34
  replace ib := ib.rd
  obtain ⟨n_ib, o_ib, k_ib, c_ib, rfl⟩ := ib.open2
  have Lib := hide (ib.lenOf (zlen_small6 (z := 13) (by decide)))
  refine hK _ _ rfl trivial ?_
  clear hK K
  refine sq ?_
  intro K hK
  go_big_op
  go_fit (gover_is (N := 13) lf_13 pv_13 (by decide) (ib.zn Lib.out) (by decide))
  rintro e w_35 ⟨o_E, c_E, xs_E, rfl, L_E, d_E, hb_35⟩
  replace xla := xla.bl hb_35; replace xlb := xlb.bl hb_35
  replace hs := hs.la hb_35 L_E
  refine hK _ _ rfl trivial ?_
  clear hK K
  refine sq ?_
  refine .mv ?_
  refine sq ?_
  refine .r0 ?_
  refine sq ?_
  refine .r0 ?_
  refine sq ?_
  refine .mv ?_
  refine sq ?_
  refine .mv ?_
  apply wpSq_end
  refine hK15 _ _ ?_
  refine wp_seq_k ?_
  intro K16 hK16
  refine rg [0, 1, 2, 3, 4, 5, 6] ?_
  refine sq ?_
  intro K hK
  go_big_op
  go_fit (ri_any 7 _ (by decide) (by decide))
  rintro e w_36 ⟨v_ic, rfl, ic, hb_36⟩
  replace xla := xla.bl hb_36; replace xlb := xlb.bl hb_36; replace hs := hs.bl hb_36
  replace ic := ic.rd
  obtain ⟨n_ic, o_ic, k_ic, c_ic, rfl⟩ := ic.open2
  have Lic := hide (ic.lenOf (zlen_small6 (z := 7) (by decide)))
  refine hK _ _ rfl trivial ?_
  clear hK K
  refine sq ?_
  intro K hK
  go_big_op
  go_fit (gover_is (N := 7) lf_7 pv_7 (by decide) (ic.zn Lic.out) (by decide))
  rintro e w_37 ⟨o_G, c_G, xs_G, rfl, L_G, d_G, hb_37⟩
  replace xla := xla.bl hb_37; replace xlb := xlb.bl hb_37
  replace hs := hs.la hb_37 L_G
  refine hK _ _ rfl trivial ?_
  clear hK K
  refine sq ?_
  refine .mv ?_
  refine sq ?_
  refine .r0 ?_
  refine sq ?_
  refine .r0 ?_
  refine sq ?_
  refine .mv ?_
  refine sq ?_
  refine .mv ?_
  apply wpSq_end
  refine hK16 _ _ ?_
  refine wp_seq_k ?_
  intro K17 hK17
  refine rg [0, 1, 2, 3, 4, 5] ?_
  refine sq ?_
  intro K hK
  go_big_op
  go_fit (ri_any 9 _ (by decide) (by decide))
  rintro e w_38 ⟨v_id', rfl, id', hb_38⟩
  replace xla := xla.bl hb_38; replace xlb := xlb.bl hb_38; replace hs := hs.bl hb_38
  replace id' := id'.rd
  obtain ⟨n_id', o_id', k_id', c_id', rfl⟩ := id'.open2
  have Lid' := hide (id'.lenOf (zlen_small6 (z := 9) (by decide)))
  refine hK _ _ rfl trivial ?_
  clear hK K
  refine sq ?_
  intro K hK
  go_big_op
  go_fit (gover_no 9 (id'.zn Lid'.out) (by decide) (by decide) no_9)
  rintro e w_39 ⟨rfl, hb_39⟩
  replace xla := xla.bl hb_39; replace xlb := xlb.bl hb_39; replace hs := hs.bl hb_39
  refine hK _ _ rfl trivial ?_
  clear hK K
  refine sq ?_
  refine .mv ?_
  refine sq ?_
  refine .r0 ?_
  refine sq ?_
  refine .r0 ?_
  refine sq ?_
  refine .mv ?_
  apply wpSq_end
  refine hK17 _ _ ?_
  refine wp_seq_k ?_
  intro K18 hK18
  refine rg [0, 1, 2, 3, 4, 5, 6] ?_
  refine sq ?_
  intro K hK
  go_big_op
  go_fit (ri_any 65536 _ (by decide) (by decide))
  rintro e w_40 ⟨v_ie, rfl, ie, hb_40⟩
  replace xla := xla.bl hb_40; replace xlb := xlb.bl hb_40; replace hs := hs.bl hb_40
  replace ie := ie.rd
  obtain ⟨n_ie, o_ie, k_ie, c_ie, rfl⟩ := ie.open2
  have Lie := hide (ie.lenOf (zlen_small6 (z := 65536) (by decide)))
  refine hK _ _ rfl trivial ?_
  clear hK K
  refine sq ?_
  intro K hK
  go_big_op
  go_fit (gover_high (ie.zn Lie.out) (by decide) (by decide))
  rintro e w_41 ⟨rfl, hb_41⟩
  replace xla := xla.bl hb_41; replace xlb := xlb.bl hb_41; replace hs := hs.bl hb_41
  refine hK _ _ rfl trivial ?_
  clear hK K
  refine sq ?_
  refine .mv ?_
  refine sq ?_
  refine .r0 ?_
  refine sq ?_
  refine .r0 ?_
  refine sq ?_
  refine .mv ?_
  refine sq ?_
  refine .mv ?_
  apply wpSq_end
  refine hK18 _ _ ?_
  refine wp_seq_k ?_
  intro K19 hK19
  refine wp_seq_k ?_
  intro K20 hK20
  refine rg [0, 1, 2, 3, 4, 5, 6, 7, 8, 9, 10, 11, 12, 13, 14, 15, 16, 17, 18, 19, 20, 21, 22, 23, 24, 25, 26, 27, 28, 29, 30, 31, 32, 33, 34, 35, 36, 37, 38, 39] ?_
  refine sq ?_
  refine .mv ?_
  refine sq ?_
  refine .r0 ?_
  refine sq ?_
  refine .mv ?_
  refine sq ?_
  refine .mv ?_
  refine sq ?_
  intro K hK
  go_big_op
  go_fit (g6_any 1 1 _ (by decide) (by decide) (by decide) (by decide))
  rintro e w_42 ⟨_, rfl, ⟨n_daa, o_daa, k_daa, c_daa, n_dab, o_dab, k_dab, c_dab, rfl, da1, da2⟩, hb_42⟩
  replace xla := xla.bl hb_42; replace xlb := xlb.bl hb_42; replace hs := hs.bl hb_42
  have Lda1 := hide (da1.lenOf (zlen_small6 (z := 1) (by decide)))
  have Lda2 := hide (da2.lenOf (zlen_small6 (z := 1) (by decide)))
  refine hK _ _ rfl trivial ?_
  clear hK K
  refine sq ?_
  refine .al hs ?_; clear hs; intro p_b1 w_43 hs n43 kb_b1
  replace xla := xla.bl n43; replace xlb := xlb.bl n43
  refine sq ?_
  intro K hK
  have k33_43 := (((((((((kb hb_34).b hb_35).b hb_36).b hb_37).b hb_38).b hb_39).b hb_40).b hb_41).b hb_42).b n43
  replace d_D := d_D.k k33_43
  have k42_43 := kb n43
  replace da1 := da1.k k42_43
  replace da2 := da2.k k42_43
  go_big_op
  go_fit (list6_sg (SG.of hs.1.2.2.2.1.1 d_D).2.2 (gd1 hs.g0 kb_b1 rfl (.mk' da1 da2)) rfl (by decide) (small_list (by decide)))
  rintro e w_44 ⟨rfl, hb_44⟩
  replace xla := xla.bl hb_44; replace xlb := xlb.bl hb_44; replace hs := hs.bl hb_44
  refine hK _ _ rfl trivial ?_
  clear hK K
  refine sq ?_
  refine .r0 ?_
  refine sq ?_
  refine .r0 ?_
  refine sq ?_
  refine .mv ?_
  refine sq ?_
  refine .mv ?_
  refine sq ?_
  refine .r0 ?_
  refine sq ?_
  refine .r0 ?_
  refine sq ?_
  refine .mv ?_
  refine sq ?_
  refine .mv ?_
  refine sq ?_
  intro K hK
  go_big_op
  go_fit (g6_any 2 3 _ (by decide) (by decide) (by decide) (by decide))
  rintro e w_45 ⟨_, rfl, ⟨n_dba, o_dba, k_dba, c_dba, n_dbb, o_dbb, k_dbb, c_dbb, rfl, db1, db2⟩, hb_45⟩
  clear ia ib ic id' ie da1 da2
  replace xla := xla.bl hb_45; replace xlb := xlb.bl hb_45; replace hs := hs.bl hb_45
  have Ldb1 := hide (db1.lenOf (zlen_small6 (z := 2) (by decide)))
  have Ldb2 := hide (db2.lenOf (zlen_small6 (z := 3) (by decide)))
  refine hK _ _ rfl trivial ?_
  clear hK K
  refine sq ?_
  intro K hK
  go_big_op
  go_fit (g6_any 3 2 _ (by decide) (by decide) (by decide) (by decide))
  rintro e w_46 ⟨_, rfl, ⟨n_dca, o_dca, k_dca, c_dca, n_dcb, o_dcb, k_dcb, c_dcb, rfl, dc1, dc2⟩, hb_46⟩
  replace xla := xla.bl hb_46; replace xlb := xlb.bl hb_46; replace hs := hs.bl hb_46
  have Ldc1 := hide (dc1.lenOf (zlen_small6 (z := 3) (by decide)))
  have Ldc2 := hide (dc2.lenOf (zlen_small6 (z := 2) (by decide)))
  refine hK _ _ rfl trivial ?_
  clear hK K
  refine sq ?_
  refine .al hs ?_; clear hs; intro p_b2 w_47 hs n47 kb_b2
  replace xla := xla.bl n47; replace xlb := xlb.bl n47
  refine sq ?_
  intro K hK
  have k35_47 := (((((((((((kb hb_36).b hb_37).b hb_38).b hb_39).b hb_40).b hb_41).b hb_42).b n43).b hb_44).b hb_45).b hb_46).b n47
  replace d_E := d_E.k k35_47
  have k45_47 := (kb hb_46).b n47
  replace db1 := db1.k k45_47
  replace db2 := db2.k k45_47
  have k46_47 := kb n47
  replace dc1 := dc1.k k46_47
  replace dc2 := dc2.k k46_47
  go_big_op
  go_fit (list6_sg (SG.of hs.1.2.2.2.1.1 d_E).2.2 (gd2 hs.g0 kb_b2 rfl (.mk' db1 db2) (.mk' dc1 dc2)) rfl (by decide) (small_list (by decide)))
  rintro e w_48 ⟨rfl, hb_48⟩
  replace xla := xla.bl hb_48; replace xlb := xlb.bl hb_48; replace hs := hs.bl hb_48
  refine hK _ _ rfl trivial ?_
  clear hK K
  refine sq ?_
  refine .r0 ?_
  refine sq ?_
  refine .r0 ?_
  refine sq ?_
  refine .mv ?_
  refine sq ?_
  refine .mv ?_
  refine sq ?_
  refine .r0 ?_
  refine sq ?_
  refine .r0 ?_
  refine sq ?_
  refine .mv ?_
  refine sq ?_
  refine .mv ?_
  refine sq ?_
  intro K hK
  go_big_op
  go_fit (g6_any 7 0 _ (by decide) (by decide) (by decide) (by decide))
  rintro e w_49 ⟨_, rfl, ⟨n_dda, o_dda, k_dda, c_dda, n_ddb, o_ddb, k_ddb, c_ddb, rfl, dd1, dd2⟩, hb_49⟩
  replace xla := xla.bl hb_49; replace xlb := xlb.bl hb_49; replace hs := hs.bl hb_49
  have Ldd1 := hide (dd1.lenOf (zlen_small6 (z := 7) (by decide)))
  have Ldd2 := hide (dd2.lenOf (zlen_small6 (z := 0) (by decide)))
  refine hK _ _ rfl trivial ?_
  clear hK K
  refine sq ?_
  refine .al hs ?_; clear hs; intro p_b3 w_50 hs n50 kb_b3
  replace xla := xla.bl n50; replace xlb := xlb.bl n50
  refine sq ?_
  intro K hK
  have k37_50 := ((((((((((((kb hb_38).b hb_39).b hb_40).b hb_41).b hb_42).b n43).b hb_44).b hb_45).b hb_46).b n47).b hb_48).b hb_49).b n50
  replace d_G := d_G.k k37_50
  have k49_50 := kb n50
  replace dd1 := dd1.k k49_50
  replace dd2 := dd2.k k49_50
  go_big_op
  go_fit (list6_sg (SG.of hs.1.2.2.2.1.1 d_G).2.2 (gd1 hs.g0 kb_b3 rfl (.mk' dd1 dd2)) rfl (by decide) (small_list (by decide)))
  rintro e w_51 ⟨rfl, hb_51⟩
  replace xla := xla.bl hb_51; replace xlb := xlb.bl hb_51; replace hs := hs.bl hb_51
  refine hK _ _ rfl trivial ?_
  clear hK K
  refine sq ?_
  refine .r0 ?_
  refine sq ?_
  refine .r0 ?_
  refine sq ?_
  refine .mv ?_
  refine sq ?_
  refine .mv ?_
  refine sq ?_
  refine .r0 ?_
  refine sq ?_
  refine .r0 ?_
  refine sq ?_
  refine .mv ?_
  refine sq ?_
  refine .mv ?_
  refine sq ?_
  refine .r0 ?_
  refine sq ?_
  refine .r0 ?_
  apply wpSq_end
  refine hK20 _ _ ?_
  refine cf ?_
  refine wp_skip ?_
  refine hK19 _ _ ?_
  refine wp_seq_k ?_
  intro K21 hK21
  refine rg [0, 1, 2, 3, 4, 5, 6] ?_
  refine sq ?_
  intro K hK
  go_big_op
  go_fit (ri_any 25 _ (by decide) (by decide))
  rintro e w_52 ⟨v_ja, rfl, ja, hb_52⟩
  clear db1 db2 dc1 dc2 dd1 dd2
  replace xla := xla.bl hb_52; replace xlb := xlb.bl hb_52; replace hs := hs.bl hb_52
  replace ja := ja.rd
  obtain ⟨n_ja, o_ja, k_ja, c_ja, rfl⟩ := ja.open2
  have Lja := hide (ja.lenOf (zlen_small6 (z := 25) (by decide)))
  refine hK _ _ rfl trivial ?_
  clear hK K
  refine sq ?_
  intro K hK
  go_big_op
  go_fit (gsq_is (N := 25) (by decide +kernel : sqAll 25 = [(4, 3), (5, 0)]) (by decide) (ja.zn Lja.out) (by decide))
  rintro e w_53 ⟨o_H, c_H, xs_H, rfl, L_H, d_H, hb_53⟩
  replace xla := xla.bl hb_53; replace xlb := xlb.bl hb_53
  replace hs := hs.la hb_53 L_H
  refine hK _ _ rfl trivial ?_
  clear hK K
  refine sq ?_
  refine .mv ?_
  refine sq ?_
  refine .r0 ?_
  refine sq ?_
  refine .r0 ?_
  refine sq ?_
  refine .mv ?_
  refine sq ?_
  refine .mv ?_
  apply wpSq_end
  refine hK21 _ _ ?_
  refine wp_seq_k ?_
  intro K22 hK22
  refine rg [0, 1, 2, 3, 4, 5, 6] ?_
  refine sq ?_
  intro K hK
  go_big_op
  go_fit (ri_any 0 _ (by decide) (by decide))
  rintro e w_54 ⟨v_jb, rfl, jb, hb_54⟩
  replace xla := xla.bl hb_54; replace xlb := xlb.bl hb_54; replace hs := hs.bl hb_54
  replace jb := jb.rd
  obtain ⟨n_jb, o_jb, k_jb, c_jb, rfl⟩ := jb.open2
  have Ljb := hide (jb.lenOf (zlen_small6 (z := 0) (by decide)))
  refine hK _ _ rfl trivial ?_
  clear hK K
  refine sq ?_
  intro K hK
  go_big_op
  go_fit (gsq_is (N := 0) (by decide +kernel : sqAll 0 = [(0, 0)]) (by decide) (jb.zn Ljb.out) (by decide))
  rintro e w_55 ⟨o_J, c_J, xs_J, rfl, L_J, d_J, hb_55⟩
  replace xla := xla.bl hb_55; replace xlb := xlb.bl hb_55
  replace hs := hs.la hb_55 L_J
  refine hK _ _ rfl trivial ?_
  clear hK K
  refine sq ?_
  refine .mv ?_
  refine sq ?_
  refine .r0 ?_
  refine sq ?_
  refine .r0 ?_
  refine sq ?_
  refine .mv ?_
  refine sq ?_
  refine .mv ?_
  apply wpSq_end
  refine hK22 _ _ ?_
  refine wp_seq_k ?_
  intro K23 hK23
  refine rg [0, 1, 2, 3, 4, 5, 6] ?_
  refine sq ?_
  intro K hK
  go_big_op
  go_fit (ri_any 3 _ (by decide) (by decide))
  rintro e w_56 ⟨v_jc, rfl, jc, hb_56⟩
  replace xla := xla.bl hb_56; replace xlb := xlb.bl hb_56; replace hs := hs.bl hb_56
  replace jc := jc.rd
  obtain ⟨n_jc, o_jc, k_jc, c_jc, rfl⟩ := jc.open2
  have Ljc := hide (jc.lenOf (zlen_small6 (z := 3) (by decide)))
  refine hK _ _ rfl trivial ?_
  clear hK K
  refine sq ?_
  intro K hK
  go_big_op
  go_fit (gsq_is (N := 3) (by decide +kernel : sqAll 3 = []) (by decide) (jc.zn Ljc.out) (by decide))
  rintro e w_57 ⟨o_M, c_M, xs_M, rfl, L_M, d_M, hb_57⟩
  replace xla := xla.bl hb_57; replace xlb := xlb.bl hb_57
  replace hs := hs.la hb_57 L_M
  refine hK _ _ rfl trivial ?_
  clear hK K
  refine sq ?_
  refine .mv ?_
  refine sq ?_
  refine .r0 ?_
  refine sq ?_
  refine .r0 ?_
  refine sq ?_
  refine .mv ?_
  refine sq ?_
  refine .mv ?_
  apply wpSq_end
  refine hK23 _ _ ?_
  refine wp_seq_k ?_
  intro K24 hK24
  refine rg [0, 1, 2, 3, 4, 5] ?_
  refine sq ?_
  intro K hK
  go_big_op
  go_fit (ri_any (-1) _ (by decide) (by decide))
  rintro e w_58 ⟨v_jd, rfl, jd, hb_58⟩
  clear d_D ja d_E jb d_G jc
  replace xla := xla.bl hb_58; replace xlb := xlb.bl hb_58; replace hs := hs.bl hb_58
  replace jd := jd.rd
  obtain ⟨n_jd, o_jd, k_jd, c_jd, rfl⟩ := jd.open2
  have Ljd := hide (jd.lenOf (zlen_small6 (z := (-1)) (by decide)))
  refine hK _ _ rfl trivial ?_
  clear hK K
  refine sq ?_
  intro K hK
  go_big_op
  go_fit (gsq_low (jd.zn Ljd.out) (by decide) (by decide))
  rintro e w_59 ⟨rfl, hb_59⟩
  replace xla := xla.bl hb_59; replace xlb := xlb.bl hb_59; replace hs := hs.bl hb_59
  refine hK _ _ rfl trivial ?_
  clear hK K
  refine sq ?_
  refine .mv ?_
  refine sq ?_
  refine .r0 ?_
  refine sq ?_
  refine .r0 ?_
  refine sq ?_
  refine .mv ?_
  apply wpSq_end
  refine hK24 _ _ ?_
  refine wp_seq_k ?_
  intro K25 hK25
  refine rg [0, 1, 2, 3, 4, 5, 6, 7, 8, 9, 10, 11, 12, 13, 14, 15, 16, 17, 18, 19, 20, 21, 22, 23, 24, 25, 26, 27, 28, 29, 30, 31, 32] ?_
  refine sq ?_
  refine .mv ?_
  refine sq ?_
  refine .r0 ?_
  refine sq ?_
  refine .mv ?_
  refine sq ?_
  refine .mv ?_
  refine sq ?_
  intro K hK
  go_big_op
  go_fit (g6_any 4 3 _ (by decide) (by decide) (by decide) (by decide))
  rintro e w_60 ⟨_, rfl, ⟨n_faa, o_faa, k_faa, c_faa, n_fab, o_fab, k_fab, c_fab, rfl, fa1, fa2⟩, hb_60⟩
  replace xla := xla.bl hb_60; replace xlb := xlb.bl hb_60; replace hs := hs.bl hb_60
  have Lfa1 := hide (fa1.lenOf (zlen_small6 (z := 4) (by decide)))
  have Lfa2 := hide (fa2.lenOf (zlen_small6 (z := 3) (by decide)))
  refine hK _ _ rfl trivial ?_
  clear hK K
  refine sq ?_
  intro K hK
  go_big_op
  go_fit (g6_any 5 0 _ (by decide) (by decide) (by decide) (by decide))
  rintro e w_61 ⟨_, rfl, ⟨n_fba, o_fba, k_fba, c_fba, n_fbb, o_fbb, k_fbb, c_fbb, rfl, fb1, fb2⟩, hb_61⟩
  replace xla := xla.bl hb_61; replace xlb := xlb.bl hb_61; replace hs := hs.bl hb_61
  have Lfb1 := hide (fb1.lenOf (zlen_small6 (z := 5) (by decide)))
  have Lfb2 := hide (fb2.lenOf (zlen_small6 (z := 0) (by decide)))
  refine hK _ _ rfl trivial ?_
  clear hK K
  refine sq ?_
  refine .al hs ?_; clear hs; intro p_b4 w_62 hs n62 kb_b4
  replace xla := xla.bl n62; replace xlb := xlb.bl n62
  refine sq ?_
  intro K hK
  have k53_62 := ((((((((kb hb_54).b hb_55).b hb_56).b hb_57).b hb_58).b hb_59).b hb_60).b hb_61).b n62
  replace d_H := d_H.k k53_62
  have k60_62 := (kb hb_61).b n62
  replace fa1 := fa1.k k60_62
  replace fa2 := fa2.k k60_62
  have k61_62 := kb n62
  replace fb1 := fb1.k k61_62
  replace fb2 := fb2.k k61_62
  go_big_op
  go_fit (list6_sg (SG.of hs.1.2.2.2.1.1 d_H).2.2 (gd2 hs.g0 kb_b4 rfl (.mk' fa1 fa2) (.mk' fb1 fb2)) rfl (by decide) (small_list (by decide)))
  rintro e w_63 ⟨rfl, hb_63⟩
  replace xla := xla.bl hb_63; replace xlb := xlb.bl hb_63; replace hs := hs.bl hb_63
  refine hK _ _ rfl trivial ?_
  clear hK K
  refine sq ?_
  refine .r0 ?_
  refine sq ?_
  refine .mv ?_
  refine sq ?_
  refine .mv ?_
  refine sq ?_
  refine .r0 ?_
  refine sq ?_
  refine .r0 ?_
  refine sq ?_
  refine .mv ?_
  refine sq ?_
  refine .mv ?_
  refine sq ?_
  intro K hK
  go_big_op
  go_fit (g6_any 0 0 _ (by decide) (by decide) (by decide) (by decide))
  rintro e w_64 ⟨_, rfl, ⟨n_fca, o_fca, k_fca, c_fca, n_fcb, o_fcb, k_fcb, c_fcb, rfl, fc1, fc2⟩, hb_64⟩
  clear jd d_H fa1 fa2 fb1 fb2
  replace xla := xla.bl hb_64; replace xlb := xlb.bl hb_64; replace hs := hs.bl hb_64
  have Lfc1 := hide (fc1.lenOf (zlen_small6 (z := 0) (by decide)))
  have Lfc2 := hide (fc2.lenOf (zlen_small6 (z := 0) (by decide)))
  refine hK _ _ rfl trivial ?_
  clear hK K
  refine sq ?_
  refine .al hs ?_; clear hs; intro p_b5 w_65 hs n65 kb_b5
  replace xla := xla.bl n65; replace xlb := xlb.bl n65
  refine sq ?_
  intro K hK
  have k55_65 := (((((((((kb hb_56).b hb_57).b hb_58).b hb_59).b hb_60).b hb_61).b n62).b hb_63).b hb_64).b n65
  replace d_J := d_J.k k55_65
  have k64_65 := kb n65
  replace fc1 := fc1.k k64_65
  replace fc2 := fc2.k k64_65
  go_big_op
  go_fit (list6_sg (SG.of hs.1.2.2.2.1.1 d_J).2.2 (gd1 hs.g0 kb_b5 rfl (.mk' fc1 fc2)) rfl (by decide) (small_list (by decide)))
  rintro e w_66 ⟨rfl, hb_66⟩
  replace xla := xla.bl hb_66; replace xlb := xlb.bl hb_66; replace hs := hs.bl hb_66
  refine hK _ _ rfl trivial ?_
  clear hK K
  refine sq ?_
  refine .r0 ?_
  refine sq ?_
  refine .mv ?_
  refine sq ?_
  refine .mv ?_
  refine sq ?_
  refine .r0 ?_
  refine sq ?_
  refine .r0 ?_
  refine sq ?_
  refine .mv ?_
  refine sq ?_
  refine .mv ?_
  refine sq ?_
  refine .r0 ?_
  refine sq ?_
  refine .r0 ?_
  refine sq ?_
  refine .r0 ?_
  refine sq ?_
  refine .mv ?_
  refine sq ?_
  refine .mv ?_
  refine sq ?_
  refine .r0 ?_
  refine sq ?_
  refine .r0 ?_
  refine sq ?_
  refine .mv ?_
  apply wpSq_end
  refine hK25 _ _ ?_
  refine wp_ret ?_
  try dsimp only [Exit.then, Exit.inBlock]
  refine bodyPost_ret (v := (.bool true)) (by simp [results, Try.results3, go_sem]) rfl ?_
  exact ⟨rfl, hs.b⟩
end Go.Proofs.Ythlhekkcjficdaa

