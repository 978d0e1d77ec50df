/- The walk of GdetPositive. -/
import Derived.Test.YtjfjlloibmebeaaRtToH2a
import Derived.Test.YtjfjlloibmebeaaE13ToE18
namespace Go.Proofs.Ytjfjlloibmebeaa
open Go Go.RowKit Dig
set_option linter.unusedVariables false
section
variable {w : World} {n c k r : Nat} {o : Option Addr} {A : List (List (Int × Int))}
set_option maxHeartbeats 4000000 in
set_option maxRecDepth 20000 in
theorem pos_bad (ha : MN 1048576 w o A) (hn : A.length = n) (ln : n ≤ 1048576) (h : ¬ gd A) :
    Calls Try.prog 3 #[.slice o n c] w fun e w' => e = .returned (.bool true) ∧ Below w.heap.size w w' := by
  have HA := hide ha
  have HG := hide h
  clear ha h
  go_enter Try.func3, Try.ntmps3
  have hs := St.nil w
  refine wp_seq_k ?_
  intro K1 hK1
  refine rg [0] ?_
  refine sq ?_
  refine .mv ?_
  apply wpSq_end
  refine hK1 _ _ ?_
  refine wp_seq_k ?_
  intro K2 hK2
  refine wp_seq_k ?_
  intro K3 hK3
  refine rg [0, 1] ?_
  refine sq ?_
  intro K hK
  go_big_op
  go_fit (awake9_any _)
  rintro e w_1 ⟨rfl, hb_1⟩
  replace hs := hs.bl hb_1
  refine hK _ _ rfl trivial ?_
  clear hK K
  refine sq ?_
  refine .r0 ?_
  apply wpSq_end
  refine hK3 _ _ ?_
  refine cf ?_
  refine wp_skip ?_
  refine hK2 _ _ ?_
  refine wp_seq_k ?_
  intro K4 hK4
  refine rg [0, 1, 2, 3, 4, 5, 6] ?_
  refine sq ?_
  refine .mv ?_
  refine sq ?_
  intro K hK
  have hb := hs.b
  go_big_op
  go_fit (minors_bad (HA.out.bl stab_n hb) hn HG.out (by omega))
  rintro e w_2 ⟨rfl, hb_2⟩
  clear hb
  replace hs := hs.bl hb_2
  refine hK _ _ rfl trivial ?_
  clear hK K
  refine sq ?_
  refine .mv ?_
  refine sq ?_
  refine .r0 ?_
  refine sq ?_
  refine .r0 ?_
  refine sq ?_
  refine .mv ?_
  refine sq ?_
  refine .mv ?_
  apply wpSq_end
  refine hK4 _ _ ?_
  refine wp_seq_k ?_
  intro K5 hK5
  refine wp_seq_k ?_
  intro K6 hK6
  refine rg [0, 1] ?_
  refine sq ?_
  refine .mv ?_
  refine sq ?_
  refine .r0 ?_
  apply wpSq_end
  refine hK6 _ _ ?_
  refine ct ?_
  refine wp_seq_k ?_
  intro K7 hK7
  refine rg [0, 1, 2] ?_
  refine sq ?_
  refine .mv ?_
  refine sq ?_
  refine .r0 ?_
  refine sq ?_
  refine .mv ?_
  apply wpSq_end
  refine hK7 _ _ ?_
  refine wp_ret ?_
  try dsimp only [Exit.then, Exit.inBlock]
  refine bodyPost_ret (v := (.bool true)) (by simp [results, Try.results3, go_sem]) rfl ?_
  exact ⟨rfl, hs.b⟩
set_option maxHeartbeats 4000000 in
set_option maxRecDepth 20000 in
theorem pos_ok (ha : MN 1048576 w o A) (hn : A.length = n) (ln : n ≤ 1048576) (h : gd A) (hk : wd A = k) (hT : Tot 1048576 A) (hr : Dt.Rk n k (at2 A) r) :
    Calls Try.prog 3 #[.slice o n c] w fun e w' => e = .returned (.bool true) ∧ Below w.heap.size w w' := by
  have HA := hide ha
  have HG := hide h
  have HK := hide hk
  have HR := hide hr
  have hn64 : n ≤ 64 := by have := h.1; omega
  have hk64 : k ≤ 64 := by have := h.2.1; omega
  have HB := hide (hT.minB (W := k) hn hn64)
  have HGB := hide (hT.gram (W := k) hn hn64 hk64)
  obtain ⟨z, hz⟩ : ∃ z, zM k (at2 A) = z := ⟨_, rfl⟩
  have HZ0 := hide (show z 0 = 1 by rw [← hz]; rfl)
  have HZN := hide (show ∀ i, 0 ≤ z i by rw [← hz]; exact fun i => gram_pos i)
  have HZB := hide (show ∀ i, i ≤ n → (dig (z i).natAbs).length ≤ 2097217 by rw [← hz]; exact fun i hi => zM_bd HGB.out hi)
  have HZA := hide (show posB z (n + 1) = decide (r = n) by rw [← hz]; exact zM_all hr)
  have HZL := hide (show 0 < z n ↔ r = n by rw [← hz]; exact zM_last hr)
  have HZ1 := hide (show z 1 = lenS k fun q => nP (at1 (rw_ A 0) q) by rw [← hz]; exact zM_1)
  have HZS := hide (show k = n → z n = nP (Dt.det n (at2 A)) by intro e; subst e; rw [← hz]; exact zM_sq)
  have HMZ := hide (show mins n k (at2 A) = (List.range (n + 1)).map z by rw [← hz]; rfl)
  obtain ⟨b, hb1⟩ : ∃ b, decide (r = n) = b := ⟨_, rfl⟩
  have HB1 := hide hb1
  clear ha h hk hr hT hz hb1
  go_enter Try.func3, Try.ntmps3
  have hs := St.nil w
  refine wp_seq_k ?_
  intro K1 hK1
  refine rg [0] ?_
  refine sq ?_
  refine .mv ?_
  apply wpSq_end
  refine hK1 _ _ ?_
  refine wp_seq_k ?_
  intro K2 hK2
  refine wp_seq_k ?_
  intro K3 hK3
  refine rg [0, 1] ?_
  refine sq ?_
  intro K hK
  go_big_op
  go_fit (awake9_any _)
  rintro e w_1 ⟨rfl, hb_1⟩
  replace hs := hs.bl hb_1
  refine hK _ _ rfl trivial ?_
  clear hK K
  refine sq ?_
  refine .r0 ?_
  apply wpSq_end
  refine hK3 _ _ ?_
  refine cf ?_
  refine wp_skip ?_
  refine hK2 _ _ ?_
  refine wp_seq_k ?_
  intro K4 hK4
  refine rg [0, 1, 2, 3, 4, 5, 6] ?_
  refine sq ?_
  refine .mv ?_
  refine sq ?_
  intro K hK
  have hb := hs.b
  go_big_op
  go_fit (minors_lz mins_len (minors_ok (HA.out.bl stab_n hb) hn HG.out HK.out HGB.out (by decide) (by decide)))
  rintro e w_2 ⟨o_p, c_p, rfl, m_p, hb_2⟩
  clear hb
  replace hs := hs.bl hb_2
  rw [HMZ.out] at m_p
  refine hK _ _ rfl trivial ?_
  clear hK K
  refine sq ?_
  refine .mv ?_
  refine sq ?_
  refine .r0 ?_
  refine sq ?_
  refine .r0 ?_
  refine sq ?_
  refine .mv ?_
  refine sq ?_
  refine .mv ?_
  apply wpSq_end
  refine hK4 _ _ ?_
  refine wp_seq_k ?_
  intro K5 hK5
  refine wp_seq_k ?_
  intro K6 hK6
  refine rg [0, 1] ?_
  refine sq ?_
  refine .mv ?_
  refine sq ?_
  refine .r0 ?_
  apply wpSq_end
  refine hK6 _ _ ?_
  have hb := hs.b
  replace HA := hide (HA.out.bl stab_n hb)
  have MP := hide m_p
  clear hb
  clear m_p
  have hBB := hs.b
  clear hs
  obtain ⟨w1, e_w1⟩ : ∃ x, x = w_2 := ⟨_, rfl⟩; subst e_w1
  have hs := St.nil w1
  refine cf ?_
  refine wp_skip ?_
  refine hK5 _ _ ?_
  refine wp_seq_k ?_
  intro K7 hK7
  refine rg [0, 1, 2, 3, 4, 5, 6] ?_
  refine sq ?_
  refine .mv ?_
  refine sq ?_
  intro K hK
  have hb := hs.b
  go_big_op
  go_fit (independent_is (HA.out.bl stab_n hb) hn HG.out HK.out HB.out (by decide) (by decide) HR.out)
  rintro e w_3 ⟨rfl, hb_3⟩
  clear hb
  replace hs := hs.bl hb_3
  rw [HB1.out]
  refine hK _ _ rfl trivial ?_
  clear hK K
  refine sq ?_
  refine .mv ?_
  refine sq ?_
  refine .r0 ?_
  have mp1 := MP.out.bl hs.b
  obtain ⟨gq, fq, uq, yq, zq, nq, pq, kq, cq, eoq, xq, eq1, eq2, zaq⟩ := mp1.op (i := 0) (by simp)
  subst eoq
  have zaq : ZC w_3 (.agg #[.bool nq, .slice pq kq cq]) 1 := by rw [← HZ0.out]; simpa using zaq
  refine sq ?_
  refine .r0 ?_
  refine sq ?_
  refine .mv ?_
  refine sq ?_
  refine .mv ?_
  apply wpSq_end
  refine hK7 _ _ ?_
  refine wp_seq_k ?_
  intro K8 hK8
  refine wp_seq_k ?_
  intro K9 hK9
  refine wp_region_f4 [(0, false), (1, false), (2, false), (3, false), (4, false), (5, false), (6, false), (7, false), (8, false), (9, false), (10, false), (11, false), (12, false), (13, false), (14, true), (15, true), (16, false), (17, false)] [] [] (fun _ => default) [99, 99, 99, 99, 99, 99, 99, 99, 99, 99, 99, 99, 99, 0, 99, 99, 99, 99] [] (.c xq .n) fn fun w_4 n4 => ?_
  replace xq := xq.bl n4; replace hs := hs.bl n4
  refine fmv ?_
  refine f0 ?_
  refine fmv ?_
  refine fmv ?_
  refine fb ?_
  refine fmv ?_
  refine fb ?_
  refine f0 ?_
  refine f0 ?_
  refine f0 ?_
  refine fmv ?_
  refine fmv ?_
  refine f0 ?_
  apply wpFl_ld rfl rfl; (case h1 => intro w' hC K hK; have c0 := Bs.cell hC (fq) eq1; have c1 := Bs.cell hC (fq + 1) eq2; go_big_op; exact hK); iterate 4 kernel_rfl
  refine fl fun w_5 n5 => ?_
  replace xq := xq.bl n5; replace hs := hs.bl n5
  intro K hK
  go_big_op
  go_fit (ri_any 1 _ (by decide) (by decide))
  rintro e w_6 ⟨v_u, rfl, u, hb_6⟩
  replace xq := xq.bl hb_6; replace hs := hs.bl hb_6
  replace u := u.rd
  obtain ⟨n_u, o_u, k_u, c_u, rfl⟩ := u.open2
  have Lu := hide (u.lenOf (zlen_small8 (z := 1) (by decide)))
  refine hK _ _ rfl ⟨hb_6, (And.intro xq trivial)⟩ ?_
  clear hK K
  refine fl fun w_7 n7 => ?_
  replace xq := xq.bl n7; replace hs := hs.bl n7
  intro K hK
  have k1_5 := (((kb n4).b n5).b hb_6).b n7
  replace zaq := zaq.k k1_5
  have k4_5 := kb n7
  replace u := u.k k4_5
  go_big_op
  go_fit (rsame_zz zaq (u.zn Lu.out) (by decide))
  rintro e w_8 ⟨rfl, hb_8⟩
  replace xq := xq.bl hb_8; replace hs := hs.bl hb_8
  refine hK _ _ rfl ⟨hb_8, (And.intro xq trivial)⟩ ?_
  clear hK K
  refine f0 ?_
  refine f0 ?_
  refine e0 hs ?_; clear hs; intro w_9 hs n9
  replace xq := xq.bl n9
  apply wpTail_end
  refine hK9 _ _ ?_
  refine cf ?_
  refine wp_skip ?_
  refine hK8 _ _ ?_
  refine wp_seq_k ?_
  intro K10 hK10
  refine rg [0] ?_
  refine sq ?_
  refine .mv ?_
  apply wpSq_end
  refine hK10 _ _ ?_
  refine wp_seq_k ?_
  intro K11 hK11
  refine wp_seq_k ?_
  intro K12 hK12
  refine rg [0] ?_
  refine sq ?_
  refine .mv ?_
  apply wpSq_end
  refine hK12 _ _ ?_
  refine wp_block ?_
  have hd10 := hs.2.1
  go_loopg [7, 8] (n + 1) (fun kz s7 s8 wr => ∃ (i : Nat) (b' : Bool), s7 = .bool b' ∧ s8 = .int .i64 (i : Int) ∧ i + kz = n + 1 ∧ Hid (b' = posB z i) ∧ St w1 [] wr)
  case atStart => exact ⟨0, true, rfl, rfl, by omega, hide rfl, hs⟩
  case round =>
  clear xq zaq u hs
  obtain ⟨i, b', rfl, rfl, hin, HBI, hs⟩ := hrel
  by_cases hi : i < n + 1
  · have HI := hide hi
    have t1 : ((i : Int) < (n : Int) + 1) = True := eq_true (by omega)
    have mp1 := MP.out.bl hs.b
    obtain ⟨gr, fr, uq, yq, zq, nq, pq, kq, cq, eoq, xq, eq1, eq2, zaq⟩ := mp1.op (i := i) (by simp; omega)
    simp only [Option.some.injEq, Addr.mk.injEq, and_true] at eoq
    obtain ⟨rfl, rfl⟩ := eoq
    replace zaq : ZC wr (.agg #[.bool nq, .slice pq kq cq]) (z i) := by simpa using zaq
    have zz := zaq.zn (HZB.out i (by omega))
    have HNN := HZN.out i
    obtain ⟨Z, hZ⟩ : ∃ Z, z i = Z := ⟨_, rfl⟩
    have HZI := hide hZ
    rw [hZ] at zz HNN
    clear zaq mp1 hZ
    by_cases h0 : 0 < Z
    · have S1 := hide (show Z.sign = 1 from Int.sign_eq_one_of_pos h0)
      have HB2 := hide (show posB z (i + 1) = (posB z i && true) by show (posB z i && decide (0 < z i)) = _; rw [HZI.out, decide_eq_true h0])
      clear h0
      cases b' with
      | true =>
        refine wp_seq_k ?_
        intro K13 hK13
        refine wp_seq_k ?_
        intro K14 hK14
        refine rg [0, 1, 2, 3] ?_
        refine sq ?_
        refine .mv ?_
        refine sq ?_
        refine .mv ?_
        refine sq ?_
        refine .r0 ?_
        refine sq ?_
        refine .r0 ?_
        apply wpSq_end
        refine hK14 _ _ ?_
        refine ct ?_
        refine wp_skip ?_
        refine hK13 _ _ ?_
        refine wp_seq_k ?_
        intro K15 hK15
        refine wp_block ?_
        refine wp_seq_k ?_
        intro K16 hK16
        refine wp_seq_k ?_
        intro K17 hK17
        refine rg [0, 1, 2, 3, 4, 5] ?_
        refine sq ?_
        refine .mv ?_
        refine sq ?_
        refine .mv ?_
        refine sq ?_
        refine .r0 ?_
        refine sq ?_
        refine .r2 ⟨xq.cell _ eq1, xq.cell _ eq2⟩ ?_
        refine sq ?_
        intro K hK
        go_big_op
        go_fit (zsign_any zz (by decide))
        rintro e w_11 ⟨rfl, hb_11⟩
        replace xq := xq.bl hb_11; replace hs := hs.bl hb_11
        rw [S1.out]
        refine hK _ _ rfl trivial ?_
        clear hK K
        refine sq ?_
        refine .r0 ?_
        apply wpSq_end
        refine hK17 _ _ ?_
        refine cf ?_
        refine wp_skip ?_
        refine hK16 _ _ ?_
        refine rg [0, 1, 2, 3, 4, 5, 6, 7, 8, 9] ?_
        refine sq ?_
        refine .mv ?_
        refine sq ?_
        refine .mv ?_
        refine sq ?_
        refine .mv ?_
        refine sq ?_
        refine .mv ?_
        refine sq ?_
        refine .r0 ?_
        refine sq ?_
        refine .r2 ⟨xq.cell _ eq1, xq.cell _ eq2⟩ ?_
        refine sq ?_
        intro K hK
        have k0_1 := kb hb_11
        replace zz := zz.k k0_1
        go_big_op
        go_fit (zsign_any zz (by decide))
        rintro e w_12 ⟨rfl, hb_12⟩
        replace xq := xq.bl hb_12; replace hs := hs.bl hb_12
        rw [S1.out]
        refine hK _ _ rfl trivial ?_
        clear hK K
        refine sq ?_
        refine .r0 ?_
        refine sq ?_
        refine .r0 ?_
        refine sq ?_
        refine .mv ?_
        apply wpSq_end
        refine hK15 _ _ ?_
        refine rg [0, 1, 2] ?_
        refine sq ?_
        refine .mv ?_
        refine sq ?_
        refine .r0 ?_
        refine sq ?_
        refine .mv ?_
        apply wpSq_end
        refine ‹∀ (a' : Act) (w' : World), Handed _ _ a' w' → _› _ _ ?_
        go_roundg (gk - 1)
        case rel => exact ⟨i + 1, true, by rfl, by rfl, by omega, hide (by rw [HB2.out, ← HBI.out]; rfl), hs⟩
        case measure => omega
      | false =>
        refine wp_seq_k ?_
        intro K13 hK13
        refine wp_seq_k ?_
        intro K14 hK14
        refine rg [0, 1, 2, 3] ?_
        refine sq ?_
        refine .mv ?_
        refine sq ?_
        refine .mv ?_
        refine sq ?_
        refine .r0 ?_
        refine sq ?_
        refine .r0 ?_
        apply wpSq_end
        refine hK14 _ _ ?_
        refine ct ?_
        refine wp_skip ?_
        refine hK13 _ _ ?_
        refine wp_seq_k ?_
        intro K15 hK15
        refine wp_block ?_
        refine wp_seq_k ?_
        intro K16 hK16
        refine wp_seq_k ?_
        intro K17 hK17
        refine rg [0, 1, 2, 3, 4, 5] ?_
        refine sq ?_
        refine .mv ?_
        refine sq ?_
        refine .mv ?_
        refine sq ?_
        refine .r0 ?_
        refine sq ?_
        refine .r2 ⟨xq.cell _ eq1, xq.cell _ eq2⟩ ?_
        refine sq ?_
        intro K hK
        go_big_op
        go_fit (zsign_any zz (by decide))
        rintro e w_11 ⟨rfl, hb_11⟩
        replace xq := xq.bl hb_11; replace hs := hs.bl hb_11
        rw [S1.out]
        refine hK _ _ rfl trivial ?_
        clear hK K
        refine sq ?_
        refine .r0 ?_
        apply wpSq_end
        refine hK17 _ _ ?_
        refine cf ?_
        refine wp_skip ?_
        refine hK16 _ _ ?_
        refine rg [0, 1, 2, 3, 4, 5, 6, 7, 8, 9] ?_
        refine sq ?_
        refine .mv ?_
        refine sq ?_
        refine .mv ?_
        refine sk ?_
        refine sk ?_
        refine sk ?_
        refine sk ?_
        refine sk ?_
        refine sk ?_
        refine sq ?_
        refine .r0 ?_
        refine sq ?_
        refine .mv ?_
        apply wpSq_end
        refine hK15 _ _ ?_
        refine rg [0, 1, 2] ?_
        refine sq ?_
        refine .mv ?_
        refine sq ?_
        refine .r0 ?_
        refine sq ?_
        refine .mv ?_
        apply wpSq_end
        refine ‹∀ (a' : Act) (w' : World), Handed _ _ a' w' → _› _ _ ?_
        go_roundg (gk - 1)
        case rel => exact ⟨i + 1, false, by rfl, by rfl, by omega, hide (by rw [HB2.out, ← HBI.out]; rfl), hs⟩
        case measure => omega
    · have S1 := hide (show Z.sign = 0 by rw [show Z = 0 by omega]; rfl)
      have HB2 := hide (show posB z (i + 1) = (posB z i && false) by show (posB z i && decide (0 < z i)) = _; rw [HZI.out, decide_eq_false h0])
      clear h0
      cases b' with
      | true =>
        refine wp_seq_k ?_
        intro K13 hK13
        refine wp_seq_k ?_
        intro K14 hK14
        refine rg [0, 1, 2, 3] ?_
        refine sq ?_
        refine .mv ?_
        refine sq ?_
        refine .mv ?_
        refine sq ?_
        refine .r0 ?_
        refine sq ?_
        refine .r0 ?_
        apply wpSq_end
        refine hK14 _ _ ?_
        refine ct ?_
        refine wp_skip ?_
        refine hK13 _ _ ?_
        refine wp_seq_k ?_
        intro K15 hK15
        refine wp_block ?_
        refine wp_seq_k ?_
        intro K16 hK16
        refine wp_seq_k ?_
        intro K17 hK17
        refine rg [0, 1, 2, 3, 4, 5] ?_
        refine sq ?_
        refine .mv ?_
        refine sq ?_
        refine .mv ?_
        refine sq ?_
        refine .r0 ?_
        refine sq ?_
        refine .r2 ⟨xq.cell _ eq1, xq.cell _ eq2⟩ ?_
        refine sq ?_
        intro K hK
        go_big_op
        go_fit (zsign_any zz (by decide))
        rintro e w_11 ⟨rfl, hb_11⟩
        replace xq := xq.bl hb_11; replace hs := hs.bl hb_11
        rw [S1.out]
        refine hK _ _ rfl trivial ?_
        clear hK K
        refine sq ?_
        refine .r0 ?_
        apply wpSq_end
        refine hK17 _ _ ?_
        refine cf ?_
        refine wp_skip ?_
        refine hK16 _ _ ?_
        refine rg [0, 1, 2, 3, 4, 5, 6, 7, 8, 9] ?_
        refine sq ?_
        refine .mv ?_
        refine sq ?_
        refine .mv ?_
        refine sq ?_
        refine .mv ?_
        refine sq ?_
        refine .mv ?_
        refine sq ?_
        refine .r0 ?_
        refine sq ?_
        refine .r2 ⟨xq.cell _ eq1, xq.cell _ eq2⟩ ?_
        refine sq ?_
        intro K hK
        have k0_1 := kb hb_11
        replace zz := zz.k k0_1
        go_big_op
        go_fit (zsign_any zz (by decide))
        rintro e w_12 ⟨rfl, hb_12⟩
        replace xq := xq.bl hb_12; replace hs := hs.bl hb_12
        rw [S1.out]
        refine hK _ _ rfl trivial ?_
        clear hK K
        refine sq ?_
        refine .r0 ?_
        refine sq ?_
        refine .r0 ?_
        refine sq ?_
        refine .mv ?_
        apply wpSq_end
        refine hK15 _ _ ?_
        refine rg [0, 1, 2] ?_
        refine sq ?_
        refine .mv ?_
        refine sq ?_
        refine .r0 ?_
        refine sq ?_
        refine .mv ?_
        apply wpSq_end
        refine ‹∀ (a' : Act) (w' : World), Handed _ _ a' w' → _› _ _ ?_
        go_roundg (gk - 1)
        case rel => exact ⟨i + 1, false, by rfl, by rfl, by omega, hide (by rw [HB2.out, ← HBI.out]; rfl), hs⟩
        case measure => omega
      | false =>
        refine wp_seq_k ?_
        intro K13 hK13
        refine wp_seq_k ?_
        intro K14 hK14
        refine rg [0, 1, 2, 3] ?_
        refine sq ?_
        refine .mv ?_
        refine sq ?_
        refine .mv ?_
        refine sq ?_
        refine .r0 ?_
        refine sq ?_
        refine .r0 ?_
        apply wpSq_end
        refine hK14 _ _ ?_
        refine ct ?_
        refine wp_skip ?_
        refine hK13 _ _ ?_
        refine wp_seq_k ?_
        intro K15 hK15
        refine wp_block ?_
        refine wp_seq_k ?_
        intro K16 hK16
        refine wp_seq_k ?_
        intro K17 hK17
        refine rg [0, 1, 2, 3, 4, 5] ?_
        refine sq ?_
        refine .mv ?_
        refine sq ?_
        refine .mv ?_
        refine sq ?_
        refine .r0 ?_
        refine sq ?_
        refine .r2 ⟨xq.cell _ eq1, xq.cell _ eq2⟩ ?_
        refine sq ?_
        intro K hK
        go_big_op
        go_fit (zsign_any zz (by decide))
        rintro e w_11 ⟨rfl, hb_11⟩
        replace xq := xq.bl hb_11; replace hs := hs.bl hb_11
        rw [S1.out]
        refine hK _ _ rfl trivial ?_
        clear hK K
        refine sq ?_
        refine .r0 ?_
        apply wpSq_end
        refine hK17 _ _ ?_
        refine cf ?_
        refine wp_skip ?_
        refine hK16 _ _ ?_
        refine rg [0, 1, 2, 3, 4, 5, 6, 7, 8, 9] ?_
        refine sq ?_
        refine .mv ?_
        refine sq ?_
        refine .mv ?_
        refine sk ?_
        refine sk ?_
        refine sk ?_
        refine sk ?_
        refine sk ?_
        refine sk ?_
        refine sq ?_
        refine .r0 ?_
        refine sq ?_
        refine .mv ?_
        apply wpSq_end
        refine hK15 _ _ ?_
        refine rg [0, 1, 2] ?_
        refine sq ?_
        refine .mv ?_
        refine sq ?_
        refine .r0 ?_
        refine sq ?_
        refine .mv ?_
        apply wpSq_end
        have k0_1 := kb hb_11
        replace zz := zz.k k0_1
        refine ‹∀ (a' : Act) (w' : World), Handed _ _ a' w' → _› _ _ ?_
        go_roundg (gk - 1)
        case rel => exact ⟨i + 1, false, by rfl, by rfl, by omega, hide (by rw [HB2.out, ← HBI.out]; rfl), hs⟩
        case measure => omega
  · have hie : i = n + 1 := by omega
    have HI := hide hi
    have HBB : b' = b := by rw [HBI.out, hie, HZA.out, HB1.out]
    subst HBB
    have t1 : ((i : Int) < (n : Int) + 1) = False := eq_false (by omega)
    clear HBI
    have mp1 := MP.out.bl hs.b
    obtain ⟨gr, fr, uq, yq, zq, nq, pq, kq, cq, eoq, xq, eq1, eq2, zaq⟩ := mp1.op (i := n) (by simp)
    simp only [Option.some.injEq, Addr.mk.injEq, and_true] at eoq
    obtain ⟨rfl, rfl⟩ := eoq
    replace zaq : ZC wr (.agg #[.bool nq, .slice pq kq cq]) (z n) := by simpa using zaq
    have zz := zaq.zn (HZB.out n (by omega))
    obtain ⟨S, hS⟩ : ∃ S, (z n).sign = S := ⟨_, rfl⟩
    have S1 := hide hS
    have t2 : (b' != b') = false := by simp
    have t3 : (b' != decide (0 < S)) = false := by
      rw [← HB1.out, ← hS]
      have h1 := HZL.out
      have h2 := HZN.out n
      by_cases c : 0 < z n
      · rw [decide_eq_true (h1.1 c), Int.sign_eq_one_of_pos c]; rfl
      · rw [decide_eq_false fun e => c (h1.2 e), show z n = 0 by omega]; rfl
    clear zaq mp1 hS hie hi hin
    obtain ⟨gr0, fr0, ur0, yr0, zr0, nr0, pr0, kr0, cr0, eor0, xr0, er1, er2, zr9⟩ := MP.out.op (i := n) (by simp)
    simp only [Option.some.injEq, Addr.mk.injEq, and_true] at eor0
    obtain ⟨rfl, rfl⟩ := eor0
    have lt_kp := xr0.lt
    clear xr0 er1 er2 zr9
    by_cases hn0 : 0 < n
    · have t4 : ((0 : Int) < (n : Int)) = True := eq_true (by omega)
      have HL0 := hide (show (rw_ A 0).length = k by rw [gd_row HG.out (by omega)]; exact HK.out)
      have HZB1 := hide (HZB.out 1 (by omega))
      have t5 : (1 < n + 1) = True := eq_true (by omega)
      have t6 : ((1 : Int) < (n : Int) + 1) = True := eq_true (by omega)
      have t7 : (0 < n) = True := eq_true hn0
      have HN0 := hide hn0
      clear hn0
      by_cases hsq : k = n
      · have HWK := hide (show wd A = n from HK.out.trans hsq)
        have HBS := hide (show MinB n n 1048641 (at2 A) from hsq ▸ HB.out)
        have LD := hide (show zl 1048641 (Dt.det n (at2 A)) from HBS.out n id id (fun r hr => ⟨hr, hr⟩) (fun r q h _ => by simp only [id]; omega))
        have HNE := hide (show gN (Dt.det n (at2 A)).1 (Dt.det n (at2 A)).2 = z n from (HZS.out hsq).symm)
        have LZN := hide (HZB.out n (by omega))
        clear hsq
        refine wp_seq_k ?_
        intro K13 hK13
        refine wp_seq_k ?_
        intro K14 hK14
        refine rg [0, 1, 2, 3] ?_
        refine sq ?_
        refine .mv ?_
        refine sq ?_
        refine .mv ?_
        refine sq ?_
        refine .r0 ?_
        refine sq ?_
        refine .r0 ?_
        apply wpSq_end
        refine hK14 _ _ ?_
        refine cf ?_
        refine wp_exit ?_
        refine hK11 _ _ ?_
        refine wp_seq_k ?_
        intro K15 hK15
        refine wp_seq_k ?_
        intro K16 hK16
        refine rg [0, 1, 2, 3, 4, 5, 6, 7, 8, 9, 10, 11, 12, 13] ?_
        refine sq ?_
        refine .mv ?_
        refine sq ?_
        refine .mv ?_
        refine sq ?_
        refine .r0 ?_
        refine sq ?_
        refine .mv ?_
        refine sq ?_
        refine .mv ?_
        refine sq ?_
        refine .mv ?_
        refine sq ?_
        refine .mv ?_
        refine sq ?_
        refine .r0 ?_
        refine sq ?_
        refine .r0 ?_
        refine sq ?_
        refine .r2 ⟨xq.cell _ eq1, xq.cell _ eq2⟩ ?_
        refine sq ?_
        intro K hK
        go_big_op
        go_fit (zsign_any zz (by decide))
        rintro e w_11 ⟨rfl, hb_11⟩
        replace xq := xq.bl hb_11; replace hs := hs.bl hb_11
        rw [S1.out]
        refine hK _ _ rfl trivial ?_
        clear hK K
        have mpa := MP.out.bl hs.b
        obtain ⟨ga, fa, ua, ya, ta, na, pa, ka, ca, eoa, xa, eaa, eba, zaa⟩ := mpa.op (i := 1) (by have := HN0.out; simp; omega)
        simp only [Option.some.injEq, Addr.mk.injEq, and_true] at eoa
        obtain ⟨rfl, rfl⟩ := eoa
        replace zaa : ZC w_11 (.agg #[.bool na, .slice pa ka ca]) (z 1) := by simpa using zaa
        have zna := zaa.zn HZB1.out
        clear mpa zaa
        have mrow := HA.out.row (i := 0) (by have := HN0.out; omega)
        obtain ⟨gA, fA, uA, yA, tA, oi, ci, rfl, xA0, eA, sA⟩ := mrow
        rw [HL0.out] at eA
        have lt_kA := xA0.lt
        have xA := xA0.bl hs.b
        have SA := hide sA
        clear xA0 sA
        refine sq ?_
        refine .r0 ?_
        refine sq ?_
        refine .r0 ?_
        refine sq ?_
        refine .r0 ?_
        apply wpSq_end
        refine hK16 _ _ ?_
        refine cf ?_
        refine wp_skip ?_
        refine hK15 _ _ ?_
        refine wp_seq_k ?_
        intro K17 hK17
        refine wp_seq_k ?_
        intro K18 hK18
        refine wp_region_f4 [(0, false), (1, false), (2, false), (3, false), (4, false), (5, false), (6, false), (7, false), (8, false), (9, false), (10, true), (11, true), (12, false), (13, false)] [] [] (fun _ => default) [99, 99, 99, 99, 99, 99, 0, 99, 99, 1, 99, 99, 99, 99] [] (.c xa (.c xA .n)) fn fun w_12 n12 => ?_
        replace xq := xq.bl n12; replace xa := xa.bl n12; replace xA := xA.bl n12; replace hs := hs.bl n12
        refine fmv ?_
        refine fb ?_
        refine f0 ?_
        refine fmv ?_
        refine fmv ?_
        refine f0 ?_
        apply wpFl_ld rfl rfl; (case h1 => intro w' hC K hK; have c0 := Bs.cell hC ((fq + 1 * 2)) eaa; have c1 := Bs.cell hC ((fq + 1 * 2) + 1) eba; go_big_op; exact hK); iterate 4 kernel_rfl
        refine fmv ?_
        refine f0 ?_
        apply wpFl_ld rfl rfl; (case h1 => intro w' hC K hK; have c0 := Bs.cell hC (fA) eA; go_big_op; exact hK); iterate 4 kernel_rfl
        refine fl fun w_13 n13 => ?_
        replace xq := xq.bl n13; replace xa := xa.bl n13; replace xA := xA.bl n13; replace hs := hs.bl n13
        intro K hK
        have hb := hs.b
        go_big_op
        go_fit (mLength_any (SA.out.bl stab_n hb) HL0.out (by omega) (by decide))
        rintro e w_14 ⟨v_L, rfl, L, hb_14⟩
        clear hb
        replace xq := xq.bl hb_14; replace xa := xa.bl hb_14; replace xA := xA.bl hb_14; replace hs := hs.bl hb_14
        obtain ⟨n_L, o_L, k_L, c_L, rfl⟩ := L.open2
        rw [← HZ1.out] at L
        refine hK _ _ rfl ⟨hb_14, (And.intro xa (And.intro xA trivial))⟩ ?_
        clear hK K
        refine fl fun w_15 n15 => ?_
        replace xq := xq.bl n15; replace xa := xa.bl n15; replace xA := xA.bl n15; replace hs := hs.bl n15
        intro K hK
        have k1_5 := (((kb n12).b n13).b hb_14).b n15
        replace zna := zna.k k1_5
        have k4_5 := kb n15
        replace L := L.k k4_5
        go_big_op
        go_fit (zcmp_any zna (L.zn HZB1.out) (by decide) (by decide))
        rintro e w_16 ⟨rfl, hb_16⟩
        replace xq := xq.bl hb_16; replace xa := xa.bl hb_16; replace xA := xA.bl hb_16; replace hs := hs.bl hb_16
        rw [zcmp_self]
        refine hK _ _ rfl ⟨hb_16, (And.intro xa (And.intro xA trivial))⟩ ?_
        clear hK K
        refine f0 ?_
        refine f0 ?_
        refine e0 hs ?_; clear hs; intro w_17 hs n17
        replace xq := xq.bl n17; replace xa := xa.bl n17; replace xA := xA.bl n17
        apply wpTail_end
        refine hK18 _ _ ?_
        refine cf ?_
        refine wp_skip ?_
        refine hK17 _ _ ?_
        refine wp_seq_k ?_
        intro K19 hK19
        refine rg [0, 1, 2, 3, 4, 5, 6, 7] ?_
        refine sq ?_
        refine .mv ?_
        refine sq ?_
        intro K hK
        have hb := hs.b
        go_big_op
        go_fit (det_ok (HA.out.bl stab_n hb) hn HG.out HWK.out HBS.out (by decide) (by decide))
        rintro e w_18 ⟨_, rfl, ⟨n_da, o_da, k_da, c_da, n_db, o_db, k_db, c_db, rfl, d1, d2⟩, hb_18⟩
        clear hb
        replace xq := xq.bl hb_18; replace xa := xa.bl hb_18; replace xA := xA.bl hb_18; replace hs := hs.bl hb_18
        have Ld1 := hide (d1.lenOf (LD.out.1))
        have Ld2 := hide (d2.lenOf (LD.out.2))
        refine hK _ _ rfl trivial ?_
        clear hK K
        refine sq ?_
        refine .mv ?_
        refine sq ?_
        refine .r0 ?_
        refine sq ?_
        refine .r0 ?_
        refine sq ?_
        refine .al hs ?_; clear hs; intro p_b1 w_19 hs n19 kb_b1
        replace xq := xq.bl n19; replace xa := xa.bl n19; replace xA := xA.bl n19
        refine sq ?_
        refine .s4 hs.g0 (fun _ => hs.u0 kb_b1) ?_; clear hs; intro w_20 hs hd20 ho20
        replace xq := xq.frame ho20 (Nat.ne_of_lt (Nat.lt_of_lt_of_le lt_kp kb_b1)); replace xa := xa.frame ho20 (Nat.ne_of_lt (Nat.lt_of_lt_of_le lt_kp kb_b1)); replace xA := xA.frame ho20 (Nat.ne_of_lt (Nat.lt_of_lt_of_le lt_kA kb_b1))
        have mpv := MP.out.bl hs.b
        obtain ⟨gv, fv, uv, yv, tv, nv, pv, kv, cv, eov, xv, eav, ebv, zav⟩ := mpv.op (i := n) (by simp)
        simp only [Option.some.injEq, Addr.mk.injEq, and_true] at eov
        obtain ⟨rfl, rfl⟩ := eov
        replace zav : ZC w_20 (.agg #[.bool nv, .slice pv kv cv]) (z n) := by simpa using zav
        have znv := zav.zn (HZB.out n (by omega))
        clear mpv zav
        refine sq ?_
        refine .mv ?_
        apply wpSq_end
        refine hK19 _ _ ?_
        refine wp_seq_k ?_
        intro K20 hK20
        refine wp_region_f4 [(0, false), (1, false), (2, false), (3, false), (5, false), (6, false), (7, false), (8, false), (9, false), (4, true), (10, true), (11, false), (12, false), (13, false)] [] [] (fun _ => default) [99, 99, 99, 0, 99, 99, 99, 99, 99, 1, 99, 99, 99, 99] [] (.c hs.g0 (.c xv .n)) fn fun w_21 n21 => ?_
        replace xq := xq.bl n21; replace xa := xa.bl n21; replace xA := xA.bl n21; replace xv := xv.bl n21; replace hs := hs.bl n21
        refine fmv ?_
        refine f0 ?_
        refine fmv ?_
        refine f4 ?_
        refine fmv ?_
        refine fmv ?_
        refine fb ?_
        refine f0 ?_
        apply wpFl_ld rfl rfl; (case h1 => intro w' hC K hK; have c0 := Bs.cell hC ((fq + n * 2)) eav; have c1 := Bs.cell hC ((fq + n * 2) + 1) ebv; go_big_op; exact hK); iterate 4 kernel_rfl
        refine fl fun w_22 n22 => ?_
        replace xq := xq.bl n22; replace xa := xa.bl n22; replace xA := xA.bl n22; replace xv := xv.bl n22; replace hs := hs.bl n22
        intro K hK
        have k8_12 := (((kb n19).o hd20 ho20).b n21).b n22
        replace d1 := d1.k k8_12
        replace d2 := d2.k k8_12
        go_big_op
        go_fit (gNorm_any (.mk' (d1.zn Ld1.out) (d2.zn Ld2.out)) (by decide) (by decide))
        rintro e w_23 ⟨v_N, rfl, N, hb_23⟩
        replace xq := xq.bl hb_23; replace xa := xa.bl hb_23; replace xA := xA.bl hb_23; replace xv := xv.bl hb_23; replace hs := hs.bl hb_23
        obtain ⟨n_N, o_N, k_N, c_N, rfl⟩ := N.open2
        rw [HNE.out] at N
        refine hK _ _ rfl ⟨hb_23, (And.intro hs.g0 (And.intro xv trivial))⟩ ?_
        clear hK K
        refine fl fun w_24 n24 => ?_
        replace xq := xq.bl n24; replace xa := xa.bl n24; replace xA := xA.bl n24; replace xv := xv.bl n24; replace hs := hs.bl n24
        intro K hK
        have k13_14 := kb n24
        replace N := N.k k13_14
        have k10_14 := (((kb n21).b n22).b hb_23).b n24
        replace znv := znv.k k10_14
        go_big_op
        go_fit (zcmp_any (N.zn LZN.out) znv (by decide) (by decide))
        rintro e w_25 ⟨rfl, hb_25⟩
        replace xq := xq.bl hb_25; replace xa := xa.bl hb_25; replace xA := xA.bl hb_25; replace xv := xv.bl hb_25; replace hs := hs.bl hb_25
        rw [zcmp_self]
        refine hK _ _ rfl ⟨hb_25, (And.intro hs.g0 (And.intro xv trivial))⟩ ?_
        clear hK K
        refine f0 ?_
        refine f0 ?_
        refine fmv ?_
        refine e0 hs ?_; clear hs; intro w_26 hs n26
        replace xq := xq.bl n26; replace xa := xa.bl n26; replace xA := xA.bl n26; replace xv := xv.bl n26
        apply wpTail_end
        refine hK20 _ _ ?_
        refine wp_ret ?_
        try dsimp only [Exit.then, Exit.inBlock]
        refine bodyPost_ret (v := (.bool true)) (by simp [results, Try.results3, go_sem]) rfl ?_
        exact ⟨rfl, hBB.trans (hs.b.mono hBB.size)⟩
      · have HW := hide (show ¬ (gd A ∧ wd A = n) from fun c => hsq (HK.out.symm.trans c.2))
        clear hsq
        refine wp_seq_k ?_
        intro K13 hK13
        refine wp_seq_k ?_
        intro K14 hK14
        refine rg [0, 1, 2, 3] ?_
        refine sq ?_
        refine .mv ?_
        refine sq ?_
        refine .mv ?_
        refine sq ?_
        refine .r0 ?_
        refine sq ?_
        refine .r0 ?_
        apply wpSq_end
        refine hK14 _ _ ?_
        refine cf ?_
        refine wp_exit ?_
        refine hK11 _ _ ?_
        refine wp_seq_k ?_
        intro K15 hK15
        refine wp_seq_k ?_
        intro K16 hK16
        refine rg [0, 1, 2, 3, 4, 5, 6, 7, 8, 9, 10, 11, 12, 13] ?_
        refine sq ?_
        refine .mv ?_
        refine sq ?_
        refine .mv ?_
        refine sq ?_
        refine .r0 ?_
        refine sq ?_
        refine .mv ?_
        refine sq ?_
        refine .mv ?_
        refine sq ?_
        refine .mv ?_
        refine sq ?_
        refine .mv ?_
        refine sq ?_
        refine .r0 ?_
        refine sq ?_
        refine .r0 ?_
        refine sq ?_
        refine .r2 ⟨xq.cell _ eq1, xq.cell _ eq2⟩ ?_
        refine sq ?_
        intro K hK
        go_big_op
        go_fit (zsign_any zz (by decide))
        rintro e w_11 ⟨rfl, hb_11⟩
        replace xq := xq.bl hb_11; replace hs := hs.bl hb_11
        rw [S1.out]
        refine hK _ _ rfl trivial ?_
        clear hK K
        have mpa := MP.out.bl hs.b
        obtain ⟨ga, fa, ua, ya, ta, na, pa, ka, ca, eoa, xa, eaa, eba, zaa⟩ := mpa.op (i := 1) (by have := HN0.out; simp; omega)
        simp only [Option.some.injEq, Addr.mk.injEq, and_true] at eoa
        obtain ⟨rfl, rfl⟩ := eoa
        replace zaa : ZC w_11 (.agg #[.bool na, .slice pa ka ca]) (z 1) := by simpa using zaa
        have zna := zaa.zn HZB1.out
        clear mpa zaa
        have mrow := HA.out.row (i := 0) (by have := HN0.out; omega)
        obtain ⟨gA, fA, uA, yA, tA, oi, ci, rfl, xA0, eA, sA⟩ := mrow
        rw [HL0.out] at eA
        have lt_kA := xA0.lt
        have xA := xA0.bl hs.b
        have SA := hide sA
        clear xA0 sA
        refine sq ?_
        refine .r0 ?_
        refine sq ?_
        refine .r0 ?_
        refine sq ?_
        refine .r0 ?_
        apply wpSq_end
        refine hK16 _ _ ?_
        refine cf ?_
        refine wp_skip ?_
        refine hK15 _ _ ?_
        refine wp_seq_k ?_
        intro K17 hK17
        refine wp_seq_k ?_
        intro K18 hK18
        refine wp_region_f4 [(0, false), (1, false), (2, false), (3, false), (4, false), (5, false), (6, false), (7, false), (8, false), (9, false), (10, true), (11, true), (12, false), (13, false)] [] [] (fun _ => default) [99, 99, 99, 99, 99, 99, 0, 99, 99, 1, 99, 99, 99, 99] [] (.c xa (.c xA .n)) fn fun w_12 n12 => ?_
        replace xq := xq.bl n12; replace xa := xa.bl n12; replace xA := xA.bl n12; replace hs := hs.bl n12
        refine fmv ?_
        refine fb ?_
        refine f0 ?_
        refine fmv ?_
        refine fmv ?_
        refine f0 ?_
        apply wpFl_ld rfl rfl; (case h1 => intro w' hC K hK; have c0 := Bs.cell hC ((fq + 1 * 2)) eaa; have c1 := Bs.cell hC ((fq + 1 * 2) + 1) eba; go_big_op; exact hK); iterate 4 kernel_rfl
        refine fmv ?_
        refine f0 ?_
        apply wpFl_ld rfl rfl; (case h1 => intro w' hC K hK; have c0 := Bs.cell hC (fA) eA; go_big_op; exact hK); iterate 4 kernel_rfl
        refine fl fun w_13 n13 => ?_
        replace xq := xq.bl n13; replace xa := xa.bl n13; replace xA := xA.bl n13; replace hs := hs.bl n13
        intro K hK
        have hb := hs.b
        go_big_op
        go_fit (mLength_any (SA.out.bl stab_n hb) HL0.out (by omega) (by decide))
        rintro e w_14 ⟨v_L, rfl, L, hb_14⟩
        clear hb
        replace xq := xq.bl hb_14; replace xa := xa.bl hb_14; replace xA := xA.bl hb_14; replace hs := hs.bl hb_14
        obtain ⟨n_L, o_L, k_L, c_L, rfl⟩ := L.open2
        rw [← HZ1.out] at L
        refine hK _ _ rfl ⟨hb_14, (And.intro xa (And.intro xA trivial))⟩ ?_
        clear hK K
        refine fl fun w_15 n15 => ?_
        replace xq := xq.bl n15; replace xa := xa.bl n15; replace xA := xA.bl n15; replace hs := hs.bl n15
        intro K hK
        have k1_5 := (((kb n12).b n13).b hb_14).b n15
        replace zna := zna.k k1_5
        have k4_5 := kb n15
        replace L := L.k k4_5
        go_big_op
        go_fit (zcmp_any zna (L.zn HZB1.out) (by decide) (by decide))
        rintro e w_16 ⟨rfl, hb_16⟩
        replace xq := xq.bl hb_16; replace xa := xa.bl hb_16; replace xA := xA.bl hb_16; replace hs := hs.bl hb_16
        rw [zcmp_self]
        refine hK _ _ rfl ⟨hb_16, (And.intro xa (And.intro xA trivial))⟩ ?_
        clear hK K
        refine f0 ?_
        refine f0 ?_
        refine e0 hs ?_; clear hs; intro w_17 hs n17
        replace xq := xq.bl n17; replace xa := xa.bl n17; replace xA := xA.bl n17
        apply wpTail_end
        refine hK18 _ _ ?_
        refine cf ?_
        refine wp_skip ?_
        refine hK17 _ _ ?_
        refine wp_seq_k ?_
        intro K19 hK19
        refine rg [0, 1, 2, 3, 4, 5, 6, 7] ?_
        refine sq ?_
        refine .mv ?_
        refine sq ?_
        intro K hK
        have hb := hs.b
        go_big_op
        go_fit (det_bad (HA.out.bl stab_n hb) hn HW.out (by omega))
        rintro e w_18 ⟨rfl, hb_18⟩
        clear hb
        replace xq := xq.bl hb_18; replace xa := xa.bl hb_18; replace xA := xA.bl hb_18; replace hs := hs.bl hb_18
        refine hK _ _ rfl trivial ?_
        clear hK K
        refine sq ?_
        refine .mv ?_
        refine sq ?_
        refine .r0 ?_
        refine sq ?_
        refine .r0 ?_
        refine sq ?_
        refine .al hs ?_; clear hs; intro p_b1 w_19 hs n19 kb_b1
        replace xq := xq.bl n19; replace xa := xa.bl n19; replace xA := xA.bl n19
        refine sq ?_
        refine .s4 hs.g0 (fun _ => hs.u0 kb_b1) ?_; clear hs; intro w_20 hs hd20 ho20
        replace xq := xq.frame ho20 (Nat.ne_of_lt (Nat.lt_of_lt_of_le lt_kp kb_b1)); replace xa := xa.frame ho20 (Nat.ne_of_lt (Nat.lt_of_lt_of_le lt_kp kb_b1)); replace xA := xA.frame ho20 (Nat.ne_of_lt (Nat.lt_of_lt_of_le lt_kA kb_b1))
        refine sq ?_
        refine .mv ?_
        apply wpSq_end
        refine hK19 _ _ ?_
        refine wp_seq_k ?_
        intro K20 hK20
        refine wp_region_f4 [(0, false), (1, false), (2, false), (3, false), (5, false), (6, false), (7, false), (8, false), (9, false), (4, true), (10, true), (11, false), (12, false), (13, false)] [] [] (fun _ => default) [99, 99, 99, 0, 99, 99, 99, 99, 99, 1, 99, 99, 99, 99] [] (.c hs.g0 (.c xa .n)) fn fun w_21 n21 => ?_
        replace xq := xq.bl n21; replace xa := xa.bl n21; replace xA := xA.bl n21; replace hs := hs.bl n21
        refine fmv ?_
        refine f0 ?_
        refine fmv ?_
        refine fk ?_
        refine fk ?_
        refine fk ?_
        refine fk ?_
        refine fk ?_
        refine fk ?_
        refine fkc ?_
        refine fkc ?_
        refine fk ?_
        refine f0 ?_
        refine fmv ?_
        refine e0 hs ?_; clear hs; intro w_22 hs n22
        replace xq := xq.bl n22; replace xa := xa.bl n22; replace xA := xA.bl n22
        apply wpTail_end
        refine hK20 _ _ ?_
        refine wp_ret ?_
        try dsimp only [Exit.then, Exit.inBlock]
        refine bodyPost_ret (v := (.bool true)) (by simp [results, Try.results3, go_sem]) rfl ?_
        exact ⟨rfl, hBB.trans (hs.b.mono hBB.size)⟩
    · have t4 : ((0 : Int) < (n : Int)) = False := eq_false (by omega)
      have t7 : (0 < n) = False := eq_false hn0
      have HN0 := hide hn0
      clear hn0
      by_cases hsq : k = n
      · have HWK := hide (show wd A = n from HK.out.trans hsq)
        have HBS := hide (show MinB n n 1048641 (at2 A) from hsq ▸ HB.out)
        have LD := hide (show zl 1048641 (Dt.det n (at2 A)) from HBS.out n id id (fun r hr => ⟨hr, hr⟩) (fun r q h _ => by simp only [id]; omega))
        have HNE := hide (show gN (Dt.det n (at2 A)).1 (Dt.det n (at2 A)).2 = z n from (HZS.out hsq).symm)
        have LZN := hide (HZB.out n (by omega))
        clear hsq
        refine wp_seq_k ?_
        intro K13 hK13
        refine wp_seq_k ?_
        intro K14 hK14
        refine rg [0, 1, 2, 3] ?_
        refine sq ?_
        refine .mv ?_
        refine sq ?_
        refine .mv ?_
        refine sq ?_
        refine .r0 ?_
        refine sq ?_
        refine .r0 ?_
        apply wpSq_end
        refine hK14 _ _ ?_
        refine cf ?_
        refine wp_exit ?_
        refine hK11 _ _ ?_
        refine wp_seq_k ?_
        intro K15 hK15
        refine wp_seq_k ?_
        intro K16 hK16
        refine rg [0, 1, 2, 3, 4, 5, 6, 7, 8, 9, 10, 11, 12, 13] ?_
        refine sq ?_
        refine .mv ?_
        refine sq ?_
        refine .mv ?_
        refine sq ?_
        refine .r0 ?_
        refine sq ?_
        refine .mv ?_
        refine sq ?_
        refine .mv ?_
        refine sq ?_
        refine .mv ?_
        refine sq ?_
        refine .mv ?_
        refine sq ?_
        refine .r0 ?_
        refine sq ?_
        refine .r0 ?_
        refine sq ?_
        refine .r2 ⟨xq.cell _ eq1, xq.cell _ eq2⟩ ?_
        refine sq ?_
        intro K hK
        go_big_op
        go_fit (zsign_any zz (by decide))
        rintro e w_11 ⟨rfl, hb_11⟩
        replace xq := xq.bl hb_11; replace hs := hs.bl hb_11
        rw [S1.out]
        refine hK _ _ rfl trivial ?_
        clear hK K
        have mpa := MP.out.bl hs.b
        obtain ⟨ga, fa, ua, ya, ta, na', pa, ka, ca', eoa, xa, eaa, eba, zaa⟩ := mpa.op (i := 0) (by simp)
        simp only [Option.some.injEq, Addr.mk.injEq, and_true] at eoa
        obtain ⟨rfl, rfl⟩ := eoa
        have xa2 := xa
        have lt_kA := lt_kp
        clear mpa zaa
        refine sq ?_
        refine .r0 ?_
        refine sq ?_
        refine .r0 ?_
        refine sq ?_
        refine .r0 ?_
        apply wpSq_end
        refine hK16 _ _ ?_
        refine cf ?_
        refine wp_skip ?_
        refine hK15 _ _ ?_
        refine wp_seq_k ?_
        intro K17 hK17
        refine wp_seq_k ?_
        intro K18 hK18
        refine wp_region_f4 [(0, false), (1, false), (2, false), (3, false), (4, false), (5, false), (6, false), (7, false), (8, false), (9, false), (10, true), (11, true), (12, false), (13, false)] [] [] (fun _ => default) [99, 99, 99, 99, 99, 99, 0, 99, 99, 1, 99, 99, 99, 99] [] (.c xa (.c xa2 .n)) fn fun w_12 n12 => ?_
        replace xq := xq.bl n12; replace xa := xa.bl n12; replace xa2 := xa2.bl n12; replace hs := hs.bl n12
        refine fmv ?_
        refine fb ?_
        refine f0 ?_
        refine fmv ?_
        refine fk ?_
        refine fk ?_
        refine fk ?_
        refine fk ?_
        refine fk ?_
        refine fk ?_
        refine fkc ?_
        refine fkc ?_
        refine fk ?_
        refine f0 ?_
        refine e0 hs ?_; clear hs; intro w_13 hs n13
        replace xq := xq.bl n13; replace xa := xa.bl n13; replace xa2 := xa2.bl n13
        apply wpTail_end
        refine hK18 _ _ ?_
        refine cf ?_
        refine wp_skip ?_
        refine hK17 _ _ ?_
        refine wp_seq_k ?_
        intro K19 hK19
        refine rg [0, 1, 2, 3, 4, 5, 6, 7] ?_
        refine sq ?_
        refine .mv ?_
        refine sq ?_
        intro K hK
        have hb := hs.b
        go_big_op
        go_fit (det_ok (HA.out.bl stab_n hb) hn HG.out HWK.out HBS.out (by decide) (by decide))
        rintro e w_14 ⟨_, rfl, ⟨n_da, o_da, k_da, c_da, n_db, o_db, k_db, c_db, rfl, d1, d2⟩, hb_14⟩
        clear hb
        replace xq := xq.bl hb_14; replace xa := xa.bl hb_14; replace xa2 := xa2.bl hb_14; replace hs := hs.bl hb_14
        have Ld1 := hide (d1.lenOf (LD.out.1))
        have Ld2 := hide (d2.lenOf (LD.out.2))
        refine hK _ _ rfl trivial ?_
        clear hK K
        refine sq ?_
        refine .mv ?_
        refine sq ?_
        refine .r0 ?_
        refine sq ?_
        refine .r0 ?_
        refine sq ?_
        refine .al hs ?_; clear hs; intro p_b1 w_15 hs n15 kb_b1
        replace xq := xq.bl n15; replace xa := xa.bl n15; replace xa2 := xa2.bl n15
        refine sq ?_
        refine .s4 hs.g0 (fun _ => hs.u0 kb_b1) ?_; clear hs; intro w_16 hs hd16 ho16
        replace xq := xq.frame ho16 (Nat.ne_of_lt (Nat.lt_of_lt_of_le lt_kp kb_b1)); replace xa := xa.frame ho16 (Nat.ne_of_lt (Nat.lt_of_lt_of_le lt_kp kb_b1)); replace xa2 := xa2.frame ho16 (Nat.ne_of_lt (Nat.lt_of_lt_of_le lt_kA kb_b1))
        have mpv := MP.out.bl hs.b
        obtain ⟨gv, fv, uv, yv, tv, nv, pv, kv, cv, eov, xv, eav, ebv, zav⟩ := mpv.op (i := n) (by simp)
        simp only [Option.some.injEq, Addr.mk.injEq, and_true] at eov
        obtain ⟨rfl, rfl⟩ := eov
        replace zav : ZC w_16 (.agg #[.bool nv, .slice pv kv cv]) (z n) := by simpa using zav
        have znv := zav.zn (HZB.out n (by omega))
        clear mpv zav
        refine sq ?_
        refine .mv ?_
        apply wpSq_end
        refine hK19 _ _ ?_
        refine wp_seq_k ?_
        intro K20 hK20
        refine wp_region_f4 [(0, false), (1, false), (2, false), (3, false), (5, false), (6, false), (7, false), (8, false), (9, false), (4, true), (10, true), (11, false), (12, false), (13, false)] [] [] (fun _ => default) [99, 99, 99, 0, 99, 99, 99, 99, 99, 1, 99, 99, 99, 99] [] (.c hs.g0 (.c xv .n)) fn fun w_17 n17 => ?_
        replace xq := xq.bl n17; replace xa := xa.bl n17; replace xa2 := xa2.bl n17; replace xv := xv.bl n17; replace hs := hs.bl n17
        refine fmv ?_
        refine f0 ?_
        refine fmv ?_
        refine f4 ?_
        refine fmv ?_
        refine fmv ?_
        refine fb ?_
        refine f0 ?_
        apply wpFl_ld rfl rfl; (case h1 => intro w' hC K hK; have c0 := Bs.cell hC ((fq + n * 2)) eav; have c1 := Bs.cell hC ((fq + n * 2) + 1) ebv; go_big_op; exact hK); iterate 4 kernel_rfl
        refine fl fun w_18 n18 => ?_
        replace xq := xq.bl n18; replace xa := xa.bl n18; replace xa2 := xa2.bl n18; replace xv := xv.bl n18; replace hs := hs.bl n18
        intro K hK
        have k4_8 := (((kb n15).o hd16 ho16).b n17).b n18
        replace d1 := d1.k k4_8
        replace d2 := d2.k k4_8
        go_big_op
        go_fit (gNorm_any (.mk' (d1.zn Ld1.out) (d2.zn Ld2.out)) (by decide) (by decide))
        rintro e w_19 ⟨v_N, rfl, N, hb_19⟩
        replace xq := xq.bl hb_19; replace xa := xa.bl hb_19; replace xa2 := xa2.bl hb_19; replace xv := xv.bl hb_19; replace hs := hs.bl hb_19
        obtain ⟨n_N, o_N, k_N, c_N, rfl⟩ := N.open2
        rw [HNE.out] at N
        refine hK _ _ rfl ⟨hb_19, (And.intro hs.g0 (And.intro xv trivial))⟩ ?_
        clear hK K
        refine fl fun w_20 n20 => ?_
        replace xq := xq.bl n20; replace xa := xa.bl n20; replace xa2 := xa2.bl n20; replace xv := xv.bl n20; replace hs := hs.bl n20
        intro K hK
        have k9_10 := kb n20
        replace N := N.k k9_10
        have k6_10 := (((kb n17).b n18).b hb_19).b n20
        replace znv := znv.k k6_10
        go_big_op
        go_fit (zcmp_any (N.zn LZN.out) znv (by decide) (by decide))
        rintro e w_21 ⟨rfl, hb_21⟩
        replace xq := xq.bl hb_21; replace xa := xa.bl hb_21; replace xa2 := xa2.bl hb_21; replace xv := xv.bl hb_21; replace hs := hs.bl hb_21
        rw [zcmp_self]
        refine hK _ _ rfl ⟨hb_21, (And.intro hs.g0 (And.intro xv trivial))⟩ ?_
        clear hK K
        refine f0 ?_
        refine f0 ?_
        refine fmv ?_
        refine e0 hs ?_; clear hs; intro w_22 hs n22
        replace xq := xq.bl n22; replace xa := xa.bl n22; replace xa2 := xa2.bl n22; replace xv := xv.bl n22
        apply wpTail_end
        refine hK20 _ _ ?_
        refine wp_ret ?_
        try dsimp only [Exit.then, Exit.inBlock]
        refine bodyPost_ret (v := (.bool true)) (by simp [results, Try.results3, go_sem]) rfl ?_
        exact ⟨rfl, hBB.trans (hs.b.mono hBB.size)⟩
      · have HW := hide (show ¬ (gd A ∧ wd A = n) from fun c => hsq (HK.out.symm.trans c.2))
        clear hsq
        refine wp_seq_k ?_
        intro K13 hK13
        refine wp_seq_k ?_
        intro K14 hK14
        refine rg [0, 1, 2, 3] ?_
        refine sq ?_
        refine .mv ?_
        refine sq ?_
        refine .mv ?_
        refine sq ?_
        refine .r0 ?_
        refine sq ?_
        refine .r0 ?_
        apply wpSq_end
        refine hK14 _ _ ?_
        refine cf ?_
        refine wp_exit ?_
        refine hK11 _ _ ?_
        refine wp_seq_k ?_
        intro K15 hK15
        refine wp_seq_k ?_
        intro K16 hK16
        refine rg [0, 1, 2, 3, 4, 5, 6, 7, 8, 9, 10, 11, 12, 13] ?_
        refine sq ?_
        refine .mv ?_
        refine sq ?_
        refine .mv ?_
        refine sq ?_
        refine .r0 ?_
        refine sq ?_
        refine .mv ?_
        refine sq ?_
        refine .mv ?_
        refine sq ?_
        refine .mv ?_
        refine sq ?_
        refine .mv ?_
        refine sq ?_
        refine .r0 ?_
        refine sq ?_
        refine .r0 ?_
        refine sq ?_
        refine .r2 ⟨xq.cell _ eq1, xq.cell _ eq2⟩ ?_
        refine sq ?_
        intro K hK
        go_big_op
        go_fit (zsign_any zz (by decide))
        rintro e w_11 ⟨rfl, hb_11⟩
        replace xq := xq.bl hb_11; replace hs := hs.bl hb_11
        rw [S1.out]
        refine hK _ _ rfl trivial ?_
        clear hK K
        have mpa := MP.out.bl hs.b
        obtain ⟨ga, fa, ua, ya, ta, na', pa, ka, ca', eoa, xa, eaa, eba, zaa⟩ := mpa.op (i := 0) (by simp)
        simp only [Option.some.injEq, Addr.mk.injEq, and_true] at eoa
        obtain ⟨rfl, rfl⟩ := eoa
        have xa2 := xa
        have lt_kA := lt_kp
        clear mpa zaa
        refine sq ?_
        refine .r0 ?_
        refine sq ?_
        refine .r0 ?_
        refine sq ?_
        refine .r0 ?_
        apply wpSq_end
        refine hK16 _ _ ?_
        refine cf ?_
        refine wp_skip ?_
        refine hK15 _ _ ?_
        refine wp_seq_k ?_
        intro K17 hK17
        refine wp_seq_k ?_
        intro K18 hK18
        refine wp_region_f4 [(0, false), (1, false), (2, false), (3, false), (4, false), (5, false), (6, false), (7, false), (8, false), (9, false), (10, true), (11, true), (12, false), (13, false)] [] [] (fun _ => default) [99, 99, 99, 99, 99, 99, 0, 99, 99, 1, 99, 99, 99, 99] [] (.c xa (.c xa2 .n)) fn fun w_12 n12 => ?_
        replace xq := xq.bl n12; replace xa := xa.bl n12; replace xa2 := xa2.bl n12; replace hs := hs.bl n12
        refine fmv ?_
        refine fb ?_
        refine f0 ?_
        refine fmv ?_
        refine fk ?_
        refine fk ?_
        refine fk ?_
        refine fk ?_
        refine fk ?_
        refine fk ?_
        refine fkc ?_
        refine fkc ?_
        refine fk ?_
        refine f0 ?_
        refine e0 hs ?_; clear hs; intro w_13 hs n13
        replace xq := xq.bl n13; replace xa := xa.bl n13; replace xa2 := xa2.bl n13
        apply wpTail_end
        refine hK18 _ _ ?_
        refine cf ?_
        refine wp_skip ?_
        refine hK17 _ _ ?_
        refine wp_seq_k ?_
        intro K19 hK19
        refine rg [0, 1, 2, 3, 4, 5, 6, 7] ?_
        refine sq ?_
        refine .mv ?_
        refine sq ?_
        intro K hK
        have hb := hs.b
        go_big_op
        go_fit (det_bad (HA.out.bl stab_n hb) hn HW.out (by omega))
        rintro e w_14 ⟨rfl, hb_14⟩
        clear hb
        replace xq := xq.bl hb_14; replace xa := xa.bl hb_14; replace xa2 := xa2.bl hb_14; replace hs := hs.bl hb_14
        refine hK _ _ rfl trivial ?_
        clear hK K
        refine sq ?_
        refine .mv ?_
        refine sq ?_
        refine .r0 ?_
        refine sq ?_
        refine .r0 ?_
        refine sq ?_
        refine .al hs ?_; clear hs; intro p_b1 w_15 hs n15 kb_b1
        replace xq := xq.bl n15; replace xa := xa.bl n15; replace xa2 := xa2.bl n15
        refine sq ?_
        refine .s4 hs.g0 (fun _ => hs.u0 kb_b1) ?_; clear hs; intro w_16 hs hd16 ho16
        replace xq := xq.frame ho16 (Nat.ne_of_lt (Nat.lt_of_lt_of_le lt_kp kb_b1)); replace xa := xa.frame ho16 (Nat.ne_of_lt (Nat.lt_of_lt_of_le lt_kp kb_b1)); replace xa2 := xa2.frame ho16 (Nat.ne_of_lt (Nat.lt_of_lt_of_le lt_kA kb_b1))
        refine sq ?_
        refine .mv ?_
        apply wpSq_end
        refine hK19 _ _ ?_
        refine wp_seq_k ?_
        intro K20 hK20
        refine wp_region_f4 [(0, false), (1, false), (2, false), (3, false), (5, false), (6, false), (7, false), (8, false), (9, false), (4, true), (10, true), (11, false), (12, false), (13, false)] [] [] (fun _ => default) [99, 99, 99, 0, 99, 99, 99, 99, 99, 1, 99, 99, 99, 99] [] (.c hs.g0 (.c xa .n)) fn fun w_17 n17 => ?_
        replace xq := xq.bl n17; replace xa := xa.bl n17; replace xa2 := xa2.bl n17; replace hs := hs.bl n17
        refine fmv ?_
        refine f0 ?_
        refine fmv ?_
        refine fk ?_
        refine fk ?_
        refine fk ?_
        refine fk ?_
        refine fk ?_
        refine fk ?_
        refine fkc ?_
        refine fkc ?_
        refine fk ?_
        refine f0 ?_
        refine fmv ?_
        refine e0 hs ?_; clear hs; intro w_18 hs n18
        replace xq := xq.bl n18; replace xa := xa.bl n18; replace xa2 := xa2.bl n18
        apply wpTail_end
        refine hK20 _ _ ?_
        refine wp_ret ?_
        try dsimp only [Exit.then, Exit.inBlock]
        refine bodyPost_ret (v := (.bool true)) (by simp [results, Try.results3, go_sem]) rfl ?_
        exact ⟨rfl, hBB.trans (hs.b.mono hBB.size)⟩
end
theorem walk_GdetPositive (w : World) (oa : Option Addr) (na ca : Nat) (A : List (List (Int × Int))) (ha : MN 1048576 w oa A) (hna : A.length = na) (la : na ≤ 1048576) (ta : Tot 1048576 A) :
    Calls Try.prog 3 #[.slice oa na ca] w fun e w' => e = .returned (.bool true) ∧ Below w.heap.size w w' := by
  by_cases h : gd A
  · obtain ⟨r, hr⟩ := Dt.rk_exists one_ne na (wd A) (at2 A)
    exact pos_ok ha hna la h rfl ta hr
  · exact pos_bad ha hna la h
end Go.Proofs.Ytjfjlloibmebeaa

