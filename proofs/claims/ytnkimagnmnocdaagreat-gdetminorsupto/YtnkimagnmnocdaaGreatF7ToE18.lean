/- The reference's Minors: its walk. -/
import Derived.Test.YtnkimagnmnocdaaGreatE15ToF6
import Derived.Test.YtnkimagnmnocdaaGreatE7ToDt2
import Derived.Test.YtnkimagnmnocdaaGreatI5ToDp

namespace Go.Proofs.YtnkimagnmnocdaaGreat
open Go Go.RowKit Dig
set_option linter.unusedVariables false
set_option linter.unusedSimpArgs false
section
variable {w : World} {l n k cm L : Nat} {om : Option Addr} {M : List (List (Int × Int))}
set_option maxHeartbeats 8000000 in
set_option maxRecDepth 20000 in
theorem rMinors_any (hm : MN l w om M) (hn : M.length = n) (h : gd M) (hk : wd M = k) (hB : MinB n n L (gG k (at2 M))) (hL : L ≤ 3000000) (hL1 : 1 ≤ L) (hl1 : l ≤ 9000000) :
    Calls Tryz.prog 20 #[.slice om n cm] w fun e w' => ∃ o c xs, e = .returned (.slice o (n + 1) c) ∧ Lst w' w.heap.size 26 2 (.slice o (n + 1) c) (n + 1) xs ∧ ZL w' xs (mins n k (at2 M)) ∧ Below w.heap.size w w' := by
  have HM := hide hm
  have H := hide h
  have HK := hide hk
  have HB := hide hB
  have hn64 : n ≤ 64 := by have := h.1; omega
  obtain ⟨G0, hG0⟩ : ∃ G0, G0 = gG k (at2 M) := ⟨_, rfl⟩
  rw [← hG0] at HB
  have HG0 := hide hG0
  clear hm h hk hB hG0
  go_enter Tryz.func20, Tryz.ntmps20
  have hs := St.nil w
  refine wp_seq_k ?_
  intro K1 hK1
  refine rg [0] ?_
  refine sq ?_
  refine .mv ?_
  apply wpSq_end
  refine hK1 _ _ ?_
  refine wp_seq_k ?_
  intro K2 hK2
  refine rg [0, 1, 2] ?_
  refine sq ?_
  refine .mv ?_
  refine sq ?_
  intro K hK
  have hb := hs.b
  go_big_op
  go_fit (rGram_any (HM.out.bl stab_n hb) hn H.out HK.out hl1)
  rintro e w_1 ⟨o_G, c_G, rs_G, rfl, hl_G, hs_G, d_G, hb_1⟩
  clear hb
  replace hs := hs.mx hl_G hs_G; simp only [List.nil_append] at hs
  rw [show (fun i j => sumP k fun q => mP (at2 M i q) (cP (at2 M j q))) = G0 from HG0.out.symm] at d_G
  refine hK _ _ rfl trivial ?_
  clear hK K
  refine sq ?_
  refine .mv ?_
  apply wpSq_end
  refine hK2 _ _ ?_
  refine wp_seq_k ?_
  intro K3 hK3
  refine rg [0] ?_
  refine sq ?_
  refine .mv ?_
  apply wpSq_end
  refine hK3 _ _ ?_
  refine wp_seq_k ?_
  intro K4 hK4
  refine wp_seq_k ?_
  intro K5 hK5
  refine rg [0] ?_
  refine sq ?_
  refine .mv ?_
  apply wpSq_end
  refine hK5 _ _ ?_
  refine wp_block ?_
  have hs := hs.l0 26 2
  have hd2 := hs.2.1
  go_loopg [4, 5] (n + 1) (fun kz s4 s5 wr => ∃ (a : Nat) (o9 : Option Addr) (c9 : Nat) (xs : List Value), s5 = .int .i64 (a : Int) ∧ s4 = .slice o9 a c9 ∧ a + kz = n + 1 ∧ RD wr rs_G (mkM n n G0) ∧ ZL wr xs (mink k (at2 M) a) ∧
    St w (ls w.heap.size 26 2 (.slice o9 a c9) a xs :: ls w.heap.size 52 1 (.slice o_G n c_G) n (rs_G.map (·.v)) :: (rs_G.map (Rw.e w.heap.size))) wr)
  case atStart => exact ⟨0, none, 0, [], rfl, rfl, by omega, d_G, ZL.nil _, hs⟩
  case round =>
  clear d_G hs
  obtain ⟨a, o9, c9, xs, rfl, rfl, hak, hdG, hL9, hs⟩ := hrel
  have HO := ‹∀ (a' : Act) (w' : World), Handed _ _ a' w' → _›
  obtain ⟨g1, hg1⟩ : ∃ g, gk = g := ⟨_, rfl⟩
  by_cases ha : a ≤ n
  · have HA := hide ha
    have t1 : ((a : Int) ≤ (n : Int)) = True := eq_true (by omega)
    refine wp_seq_k ?_
    intro K6 hK6
    refine wp_seq_k ?_
    intro K7 hK7
    refine rg [0, 1, 2, 3] ?_
    refine sq ?_
    refine .mv ?_
    refine sq ?_
    refine .mv ?_
    refine sq ?_
    refine .r0 ?_
    refine sq ?_
    refine .r0 ?_
    apply wpSq_end
    refine hK7 _ _ ?_
    refine ct ?_
    refine wp_skip ?_
    refine hK6 _ _ ?_
    refine wp_seq_k ?_
    intro K8 hK8
    refine wp_block ?_
    refine wp_seq_k ?_
    intro K9 hK9
    refine rg [0, 1, 2, 3] ?_
    refine sq ?_
    refine .mv ?_
    refine sq ?_
    refine .mv ?_
    refine sq ?_
    intro K hK
    go_big_op
    go_fit (rNew_any (r := a) (k := a) (by omega) (by omega))
    rintro e w_3 ⟨o_O, c_O, rs_O, rfl, hl_O, hs_O, d_O, hb_3⟩
    replace hs := hs.mx hl_O hs_O; simp only [List.cons_append, List.nil_append] at hs
    refine hK _ _ rfl trivial ?_
    clear hK K
    refine sq ?_
    refine .mv ?_
    apply wpSq_end
    refine hK9 _ _ ?_
    refine wp_seq_k ?_
    intro K10 hK10
    refine wp_seq_k ?_
    intro K11 hK11
    refine rg [0] ?_
    refine sq ?_
    refine .mv ?_
    apply wpSq_end
    refine hK11 _ _ ?_
    refine wp_block ?_
    have k0_1 := kb hb_3
    replace hL9 := hL9.k k0_1
    replace hdG := hdG.k k0_1
    have hd4 := hs.2.1
    go_loopg [7] a (fun kz s7 wr => ∃ (i : Nat) (rs : List Rw), s7 = .int .i64 (i : Int) ∧ i + kz = a ∧ rs.length = a ∧ RD wr rs (mkM a a (fi G0 i 0)) ∧ RD wr rs_G (mkM n n G0) ∧ ZL wr xs (mink k (at2 M) a) ∧
      St w (ls w.heap.size 52 1 (.slice o_O a c_O) a (rs.map (·.v)) :: ls w.heap.size 26 2 (.slice o9 a c9) a xs :: ls w.heap.size 52 1 (.slice o_G n c_G) n (rs_G.map (·.v)) :: (rs_G.map (Rw.e w.heap.size) ++ rs.map (Rw.e w.heap.size))) wr)
    case atStart => exact ⟨0, rs_O, rfl, by omega, hl_O, by rw [← fi_0]; exact d_O, hdG, hL9, hs⟩
    case round =>
    clear hL9 hdG d_O hs
    obtain ⟨i, rs, rfl, hia, hrl, hd, hdG, hL9, hs⟩ := hrel
    have HO2 := ‹∀ (a' : Act) (w' : World), Handed _ _ a' w' → _›
    obtain ⟨g2, hg2⟩ : ∃ g, gk = g := ⟨_, rfl⟩
    by_cases hi : i < a
    · have HI := hide hi
      have t2 : ((i : Int) < (a : Int)) = True := eq_true (by omega)
      refine wp_seq_k ?_
      intro K12 hK12
      refine wp_seq_k ?_
      intro K13 hK13
      refine rg [0, 1, 2] ?_
      refine sq ?_
      refine .mv ?_
      refine sq ?_
      refine .mv ?_
      refine sq ?_
      refine .r0 ?_
      apply wpSq_end
      refine hK13 _ _ ?_
      refine ct ?_
      refine wp_skip ?_
      refine hK12 _ _ ?_
      refine wp_seq_k ?_
      intro K14 hK14
      refine wp_block ?_
      refine wp_seq_k ?_
      intro K15 hK15
      refine rg [0] ?_
      refine sq ?_
      refine .mv ?_
      apply wpSq_end
      refine hK15 _ _ ?_
      refine wp_block ?_
      have hd5 := hs.2.1
      go_loopg [8] a (fun kz s8 wr => ∃ (j : Nat) (rs rt : List Rw), s8 = .int .i64 (j : Int) ∧ j + kz = a ∧ rs.length = a ∧ rt = rs_G ∧ RD wr rs (mkM a a (fi G0 i j)) ∧ RD wr rt (mkM n n G0) ∧ ZL wr xs (mink k (at2 M) a) ∧
        St w (ls w.heap.size 52 1 (.slice o_O a c_O) a (rs.map (·.v)) :: ls w.heap.size 26 2 (.slice o9 a c9) a xs :: ls w.heap.size 52 1 (.slice o_G n c_G) n (rt.map (·.v)) :: (rt.map (Rw.e w.heap.size) ++ rs.map (Rw.e w.heap.size))) wr)
      case atStart => exact ⟨0, rs, rs_G, rfl, by omega, hrl, rfl, hd, hdG, hL9, hs⟩
      case round =>
      clear hL9 hd hdG hs
      clear hrl
      obtain ⟨j, rs, rt, rfl, hja, hrl, hrt, hd, hdG, hL9, hs⟩ := hrel
      have HRT := hide hrt
      clear hrt
      by_cases hj : j < a
      · have HJ := hide hj
        have t3 : ((j : Int) < (a : Int)) = True := eq_true (by omega)
        obtain ⟨r1, gr, cr, ys, r2, s1, gs, cs, zs, s2, er, hr1, hrv, hx, es, hs1, hsv, hy, hs⟩ := hs.row2m hd (p := i) (K := a) (by rw [len_mkM]; exact HI.out) (by rw [mkM_row HI.out]; simp) (by omega) hdG (q := i) (J := n) (by rw [len_mkM]; have := HI.out; omega) (by rw [mkM_row (by have := HI.out; omega)]; simp) (by have := HI.out; omega)
        subst er es
        have LO : Lst wr w.heap.size 52 1 (.slice o_O a c_O) a _ := hs.1.2.1.1
        obtain ⟨gO, curO, rfl, xO, hcO⟩ := LO.box (by omega)
        have eO := hcO _ _ hrv
        have LG : Lst wr w.heap.size 52 1 (.slice o_G n c_G) n _ := hs.1.2.2.2.1.1
        obtain ⟨gG9, curG, rfl, xG, hcG⟩ := LG.box (by have := HI.out; omega)
        have eG := hcG _ _ hsv
        have LS : Lst wr w.heap.size 28 4 (.slice (some ⟨gs, 0, none⟩) n cs) n zs := hs.1.2.2.1.1
        obtain ⟨gs', curS, eS, xS, hcS⟩ := LS.box (by have := HI.out; omega)
        simp only [Option.some.injEq, Addr.mk.injEq, and_true] at eS
        obtain rfl : gs = gs' := eS
        rw [mkM_row (by have := HI.out; omega)] at hy
        have hjn : j < n := by have := HA.out; omega
        obtain ⟨a1, a2, a3, a4, a5, a6, a7, a8, ee1, ee2, ee3, ee4, x1, x2⟩ := hy.els j (by simpa using hjn)
        rw [show ((List.range n).map (G0 i))[j]'(by simpa using hjn) = G0 i j by simp] at x1 x2
        replace ee1 := hcS _ _ ee1
        replace ee2 := hcS _ _ ee2
        replace ee3 := hcS _ _ ee3
        replace ee4 := hcS _ _ ee4
        clear LO hcO LG hcG LS hcS hrv hsv hy
        refine wp_seq_k ?_
        intro K16 hK16
        refine wp_seq_k ?_
        intro K17 hK17
        refine rg [0, 1, 2] ?_
        refine sq ?_
        refine .mv ?_
        refine sq ?_
        refine .mv ?_
        refine sq ?_
        refine .r0 ?_
        apply wpSq_end
        refine hK17 _ _ ?_
        refine ct ?_
        refine wp_skip ?_
        refine hK16 _ _ ?_
        refine wp_seq_k ?_
        intro K18 hK18
        refine wp_block ?_
        refine wp_region_f4 [(0, false), (1, false), (2, false), (3, false), (4, false), (5, false), (6, false), (7, false), (8, false), (9, false), (10, false), (11, false), (12, false)] [13] [] (fun _ => default) [99, 99, 99, 0, 99, 99, 99, 99, 1, 99, 99, 2, 99, 99] [] (.c xO (.c xG (.c xS .n))) fn fun w_6 n6 => ?_
        replace xO := xO.bl n6; replace xG := xG.bl n6; replace xS := xS.bl n6; replace hs := hs.bl n6
        refine fmv ?_
        refine fmv ?_
        refine f0 ?_
        apply wpFl_ld rfl rfl; (case h1 => intro w' hC K hK; have c0 := Bs.cell hC (i) eO; go_big_op; exact hK); iterate 4 kernel_rfl
        refine fmv ?_
        refine fmv ?_
        refine fmv ?_
        refine f0 ?_
        apply wpFl_ld rfl rfl; (case h1 => intro w' hC K hK; have c0 := Bs.cell hC (i) eG; go_big_op; exact hK); iterate 4 kernel_rfl
        refine fmv ?_
        refine f0 ?_
        apply wpFl_ld rfl rfl; (case h1 => intro w' hC K hK; have c0 := Bs.cell hC ((j * 4)) ee1; have c1 := Bs.cell hC ((j * 4) + 1) ee2; have c2 := Bs.cell hC ((j * 4) + 2) ee3; have c3 := Bs.cell hC ((j * 4) + 3) ee4; go_big_op; exact hK); iterate 4 kernel_rfl
        refine f0 ?_
        refine e0 hs ?_; clear hs; intro w_7 hs n7
        replace xO := xO.bl n7; replace xG := xG.bl n7; replace xS := xS.bl n7
        refine tl ?_
        refine .i4 0 hs (j := j) (by exact HJ.out) ?_ (e := fun _ hB hO => (And.intro (xO.frame hO (hs.ne 1 0)) (And.intro (xG.frame hO (hs.ne 3 0)) (And.intro (xS.frame hO (hs.ne 2 0)) True.intro)))); clear hs; intro w_8 hs kp8 hd8 ho8 hw8; simp only [List.set_cons_zero] at hs
        clear xO
        clear xG
        clear xS
        apply wpTail_end
        refine hK18 _ _ ?_
        refine rg [0, 1, 2] ?_
        refine sq ?_
        refine .mv ?_
        refine sq ?_
        refine .r0 ?_
        refine sq ?_
        refine .mv ?_
        apply wpSq_end
        have k0_3 := ((kb n6).b n7).t kp8
        replace hd := hd.k k0_3
        replace hdG := hdG.k k0_3
        replace hx := hx.k k0_3
        replace hL9 := hL9.k k0_3
        replace x1 := x1.k k0_3
        replace x2 := x2.k k0_3
        refine ‹∀ (a' : Act) (w' : World), Handed _ _ a' w' → _› _ _ ?_
        have hs := hs.unrow2m
        go_roundg (gk - 1)
        case rel => exact ⟨j + 1, _, _, by rfl, by omega, by simpa using hrl, HRT.out, RD.fi hd hr1 HI.out HJ.out hx x1 x2, hdG, hL9, hs⟩
        case measure => omega
      · obtain rfl : j = a := by omega
        have HJ := hide hj
        have t3 : ((j : Int) < (j : Int)) = False := eq_false (by omega)
        refine wp_seq_k ?_
        intro K16 hK16
        refine wp_seq_k ?_
        intro K17 hK17
        refine rg [0, 1, 2] ?_
        refine sq ?_
        refine .mv ?_
        refine sq ?_
        refine .mv ?_
        refine sq ?_
        refine .r0 ?_
        apply wpSq_end
        refine hK17 _ _ ?_
        refine cf ?_
        refine wp_exit ?_
        refine hK14 _ _ ?_
        refine rg [0, 1, 2] ?_
        refine sq ?_
        refine .mv ?_
        refine sq ?_
        refine .r0 ?_
        refine sq ?_
        refine .mv ?_
        apply wpSq_end
        refine HO2 _ _ ?_
        rw [HRT.out] at hs hdG
        go_roundg (g2 - 1)
        case rel => exact ⟨i + 1, rs, by rfl, by omega, hrl, by rw [← fi_row]; exact hd, hdG, hL9, hs⟩
        case measure => omega
    · obtain rfl : i = a := by omega
      have HI := hide hi
      have t2 : ((i : Int) < (i : Int)) = False := eq_false (by omega)
      obtain ⟨r, hr⟩ := Dt.rk_exists one_ne i i (at2 (mkM i i G0))
      have HR := hide hr
      have hd2 := hd
      rw [fi_end] at hd2
      have hMC := hide ((MCin hs rfl (fun q hq => List.mem_cons_of_mem _ (List.mem_cons_of_mem _ (List.mem_append_right _ (List.mem_map_of_mem hq)))) hrl hd2).mn (HB.out.bd HA.out))
      have hDE := hide (show Dt.det i (at2 (mkM i i G0)) = Dt.det i G0 from Dt.det_congr fun p hp q hq => at2_mkM hp hq)
      have hPT := hide (HB.out.part HA.out)
      have hGD := hide (show gd (mkM i i G0) from gd_mkM (by have := HA.out; omega) (by have := HA.out; omega))
      have hWD := hide (show wd (mkM i i G0) = i from wd_mkM (by omega))
      clear hr hd2
      refine wp_seq_k ?_
      intro K12 hK12
      refine wp_seq_k ?_
      intro K13 hK13
      refine rg [0, 1, 2] ?_
      refine sq ?_
      refine .mv ?_
      refine sq ?_
      refine .mv ?_
      refine sq ?_
      refine .r0 ?_
      apply wpSq_end
      refine hK13 _ _ ?_
      refine cf ?_
      refine wp_exit ?_
      refine hK10 _ _ ?_
      refine rg [0, 1, 2, 3, 4, 5, 6] ?_
      refine sq ?_
      refine .mv ?_
      refine sq ?_
      refine .mv ?_
      refine sq ?_
      intro K hK
      go_big_op
      go_fit (rDet_any hMC.out len_mkM hGD.out hWD.out hPT.out hL hL1 (by omega) HR.out)
      rintro e w_5 ⟨_, rfl, ⟨n_da, o_da, k_da, c_da, n_db, o_db, k_db, c_db, rfl, d1, d2⟩, hb_5⟩
      replace hs := hs.bl hb_5
      rw [hDE.out] at d1 d2
      refine hK _ _ rfl trivial ?_
      clear hK K
      refine sq ?_
      intro K hK
      go_big_op; rw [(?eX : Sem.run _ (Instr.field _ _ _) _ = Result.ok (.agg #[.bool n_da, .slice o_da k_da c_da]) w_5)]; (case eX => kernel_rfl); simp only [Result.andThen, Oper.upon, Act.put, List.setIfInBounds_toArray, List.set_cons_succ, List.set_cons_zero]; refine hK _ _ rfl trivial ?_; clear hK K
      refine sq ?_
      refine .al hs ?_; clear hs; intro p_b1 w_6 hs n6 kb_b1
      refine sq ?_
      have k0_2 := (kb hb_5).b n6
      replace hL9 := hL9.k k0_2
      have k1_2 := kb n6
      replace d1 := d1.k k1_2
      replace hL9 := hL9.snoc d1
      refine .ap 2 hs hs.g0 ?_; clear hs; intro o_L_7 c_L_7 w_7 hs kp7 hw7; simp only [List.set_cons_succ, List.set_cons_zero] at hs
      refine sq ?_
      refine .mv ?_
      apply wpSq_end
      refine hK8 _ _ ?_
      refine rg [0, 1, 2] ?_
      refine sq ?_
      refine .mv ?_
      refine sq ?_
      refine .r0 ?_
      refine sq ?_
      refine .mv ?_
      apply wpSq_end
      have k0_3 := k0_2.t kp7
      replace hdG := hdG.k k0_3
      have k2_3 := kp7
      replace hL9 := hL9.k k2_3
      refine HO _ _ ?_
      have hs := hs.sub (show List.Sublist (_ :: _ :: rs_G.map (Rw.e w.heap.size)) _ from .cons _ (.cons _ (.cons_cons _ (.cons_cons _ (List.sublist_append_left _ _)))))
      go_roundg (g1 - 1)
      case rel => exact ⟨i + 1, _, _, _, by rfl, by rfl, by omega, hdG, by rw [mink_succ, ← HG0.out]; exact hL9, hs⟩
      case measure => omega
  · have HAE := hide (show a = n + 1 by omega)
    have t1 : ((a : Int) ≤ (n : Int)) = False := eq_false (by omega)
    refine wp_seq_k ?_
    intro K6 hK6
    refine wp_seq_k ?_
    intro K7 hK7
    refine rg [0, 1, 2, 3] ?_
    refine sq ?_
    refine .mv ?_
    refine sq ?_
    refine .mv ?_
    refine sq ?_
    refine .r0 ?_
    refine sq ?_
    refine .r0 ?_
    apply wpSq_end
    refine hK7 _ _ ?_
    refine cf ?_
    refine wp_exit ?_
    refine hK4 _ _ ?_
    refine wp_seq_k ?_
    intro K8 hK8
    refine rg [0, 1] ?_
    refine sq ?_
    refine .mv ?_
    refine sq ?_
    refine .mv ?_
    apply wpSq_end
    refine hK8 _ _ ?_
    refine wp_ret ?_
    have hL8 := hL9
    rw [HAE.out] at hL8
    rw [← HAE.out]
    try dsimp only [Exit.then, Exit.inBlock]
    refine bodyPost_ret (v := (.slice o9 a c9)) (by simp [results, Tryz.results20, go_sem]) rfl ?_
    exact ⟨_, _, _, rfl, hs.1.1.1, hL8, hs.b⟩
end
end Go.Proofs.YtnkimagnmnocdaaGreat

/- The law's g, simple, told, awake (gdet). -/
namespace Go.Proofs.YtnkimagnmnocdaaGreat
open Go Go.RowKit Dig
set_option maxHeartbeats 4000000
set_option maxRecDepth 20000
set_option linter.unusedVariables false
theorem g9_any (a b : Int) (w : World) (h1 : -9223372036854775808 ≤ a) (h2 : a ≤ 9223372036854775807) (h3 : -9223372036854775808 ≤ b) (h4 : b ≤ 9223372036854775807) :
    Calls Tryz.prog 51 #[.int .i64 a, .int .i64 b] w fun e w' => ∃ r, e = .returned r ∧ PC w' r a b ∧ Below w.heap.size w w' := by
  go_enter Tryz.func51, Tryz.ntmps51
  have hs := St.nil w
  refine wp_seq_k ?_
  intro K1 hK1
  refine rg [0] ?_
  refine sq ?_
  refine .al hs ?_; clear hs; intro p_b1 w_1 hs n1 kb_b1
  apply wpSq_end
  refine hK1 _ _ ?_
  refine wp_seq_k ?_
  intro K2 hK2
  refine rg [0, 1, 2, 3] ?_
  refine sq ?_
  refine .mv ?_
  refine sq ?_
  refine .mv ?_
  refine sq ?_
  intro K hK
  go_big_op
  go_fit (rgI_any a b _ h1 h2 h3 h4)
  rintro e w_2 ⟨_, rfl, ⟨n_ra, o_ra, k_ra, c_ra, n_rb, o_rb, k_rb, c_rb, rfl, r1, r2⟩, hb_2⟩
  replace hs := hs.bl hb_2
  refine hK _ _ rfl trivial ?_
  clear hK K
  refine sq ?_
  refine .s4 hs.g0 (fun _ => hs.u0 kb_b1) ?_; clear hs; intro w_3 hs hd3 ho3
  apply wpSq_end
  refine hK2 _ _ ?_
  refine wp_ret ?_
  try dsimp only [Exit.then, Exit.inBlock]
  obtain ⟨r0_0, r0_1, r0_2, r0_3⟩ := hs.g0.f4
  refine bodyPost_ret (v := (.agg #[.bool n_ra, .slice o_ra k_ra c_ra, .bool n_rb, .slice o_rb k_rb c_rb])) (by simp [results, Tryz.results51, go_sem, r0_0, r0_1, r0_2, r0_3]) rfl ?_
  have k2_3 := ko hd3 ho3
  replace r1 := r1.k k2_3
  replace r2 := r2.k k2_3
  exact ⟨_, rfl, .mk' r1 r2, hs.b⟩
theorem simple9_any (w : World) :
    Calls Tryz.prog 50 #[] w fun e w' => ∃ o c, e = .returned (.slice o 2 c) ∧ MC w' o [[(1, 0), (2, 0)], [(0, 1), (0, 0)]] ∧ Below w.heap.size w w' := by
  go_enter Tryz.func50, Tryz.ntmps50
  have hs := St.nil w
  refine wp_seq_k ?_
  intro K1 hK1
  refine rg [0] ?_
  refine sq ?_
  refine .mv ?_
  apply wpSq_end
  refine hK1 _ _ ?_
  refine wp_seq_k ?_
  intro K2 hK2
  refine rg [0, 1, 2, 3, 4, 5, 6, 7] ?_
  refine sq ?_
  intro K hK
  go_big_op
  go_fit (g9_any 1 0 _ (by decide) (by decide) (by decide) (by decide))
  rintro e w_1 ⟨_, rfl, ⟨n_aa, o_aa, k_aa, c_aa, n_ab, o_ab, k_ab, c_ab, rfl, a1, a2⟩, hb_1⟩
  replace hs := hs.bl hb_1
  refine hK _ _ rfl trivial ?_
  clear hK K
  refine sq ?_
  intro K hK
  go_big_op
  go_fit (g9_any 2 0 _ (by decide) (by decide) (by decide) (by decide))
  rintro e w_2 ⟨_, rfl, ⟨n_ba, o_ba, k_ba, c_ba, n_bb, o_bb, k_bb, c_bb, rfl, b1, b2⟩, hb_2⟩
  replace hs := hs.bl hb_2
  refine hK _ _ rfl trivial ?_
  clear hK K
  refine sq ?_
  refine .al hs ?_; clear hs; intro p_b1 w_3 hs n3 kb_b1
  refine sq ?_
  intro K hK
  go_big_op
  go_fit (g9_any 0 1 _ (by decide) (by decide) (by decide) (by decide))
  rintro e w_4 ⟨_, rfl, ⟨n_ca, o_ca, k_ca, c_ca, n_cb, o_cb, k_cb, c_cb, rfl, c1, c2⟩, hb_4⟩
  replace hs := hs.bl hb_4
  refine hK _ _ rfl trivial ?_
  clear hK K
  refine sq ?_
  intro K hK
  go_big_op
  go_fit (g9_any 0 0 _ (by decide) (by decide) (by decide) (by decide))
  rintro e w_5 ⟨_, rfl, ⟨n_da, o_da, k_da, c_da, n_db, o_db, k_db, c_db, rfl, d1, d2⟩, hb_5⟩
  replace hs := hs.bl hb_5
  refine hK _ _ rfl trivial ?_
  clear hK K
  refine sq ?_
  refine .al hs ?_; clear hs; intro p_b2 w_6 hs n6 kb_b2
  refine sq ?_
  refine .al hs ?_; clear hs; intro p_b3 w_7 hs n7 kb_b3
  refine sq ?_
  refine .mv ?_
  apply wpSq_end
  refine hK2 _ _ ?_
  refine wp_ret ?_
  have k1_7 := (((((kb hb_2).b n3).b hb_4).b hb_5).b n6).b n7
  replace a1 := a1.k k1_7
  replace a2 := a2.k k1_7
  have k2_7 := ((((kb n3).b hb_4).b hb_5).b n6).b n7
  replace b1 := b1.k k2_7
  replace b2 := b2.k k2_7
  have k4_7 := ((kb hb_5).b n6).b n7
  replace c1 := c1.k k4_7
  replace c2 := c2.k k4_7
  have k5_7 := (kb n6).b n7
  replace d1 := d1.k k5_7
  replace d2 := d2.k k5_7
  try dsimp only [Exit.then, Exit.inBlock]
  refine bodyPost_ret (v := (.slice (some ⟨p_b3, 0, none⟩) 2 2)) (by simp [results, Tryz.results50, go_sem]) rfl ?_
  exact ⟨_, _, rfl, mc2 hs.g0 (sc2 hs.g2 a1 a2 b1 b2) (sc2 hs.g1 c1 c2 d1 d2), hs.b⟩
section
variable {w : World} {va vb : Value} {x y : Int} {l m : Nat}
theorem told9_yes (ha : PC w va x y) (hq : PN w vb x l y m) (hl : l ≤ 80000000) (hm : m ≤ 80000000) :
    Calls Tryz.prog 14 #[va, .int .i64 0, vb, .int .i64 0] w fun e w' => e = .returned (.bool true) ∧ Below w.heap.size w w' := by
  obtain ⟨n_0a, o_0a, k_0a, c_0a, n_0b, o_0b, k_0b, c_0b, rfl, ha1, ha2⟩ := ha
  obtain ⟨n_2a, o_2a, k_2a, c_2a, n_2b, o_2b, k_2b, c_2b, rfl, hq1, hq2⟩ := hq
  go_enter Tryz.func14, Tryz.ntmps14
  have hs := St.nil w
  refine wp_seq_k ?_
  intro K1 hK1
  refine rg [0, 1, 2] ?_
  refine sq ?_
  refine .al hs ?_; clear hs; intro p_b1 w_1 hs n1 kb_b1
  refine sq ?_
  refine .al hs ?_; clear hs; intro p_b2 w_2 hs n2 kb_b2
  refine sq ?_
  refine .mv ?_
  apply wpSq_end
  refine hK1 _ _ ?_
  refine wp_seq_k ?_
  intro K2 hK2
  refine wp_seq_k ?_
  intro K3 hK3
  refine rg [0, 1] ?_
  refine sq ?_
  refine .mv ?_
  refine sq ?_
  refine .r0 ?_
  apply wpSq_end
  refine hK3 _ _ ?_
  refine cf ?_
  refine wp_skip ?_
  refine hK2 _ _ ?_
  refine wp_seq_k ?_
  intro K4 hK4
  refine rg [0, 1, 2, 3, 4, 5, 6, 7] ?_
  refine sq ?_
  refine .mv ?_
  refine sq ?_
  refine .r0 ?_
  refine sq ?_
  refine .mv ?_
  refine sq ?_
  refine .r4 hs.g1.f4 ?_
  refine sq ?_
  refine .r4 hs.g0.f4 ?_
  refine sq ?_
  intro K hK
  have k0_2 := (kb n1).b n2
  replace ha1 := ha1.k k0_2
  replace ha2 := ha2.k k0_2
  replace hq1 := hq1.k k0_2
  replace hq2 := hq2.k k0_2
  go_big_op
  go_fit (rgSame_any (PC.mk' ha1 ha2) (PN.mk' hq1 hq2) (by omega) (by omega) )
  rintro e w_3 ⟨rfl, hb_3⟩
  replace hs := hs.bl hb_3
  refine hK _ _ rfl trivial ?_
  clear hK K
  refine sq ?_
  refine .r0 ?_
  refine sq ?_
  refine .mv ?_
  apply wpSq_end
  refine hK4 _ _ ?_
  refine wp_ret ?_
  try dsimp only [Exit.then, Exit.inBlock]
  refine bodyPost_ret (v := (.bool true)) (by simp [results, Tryz.results14, go_sem]) rfl ?_
  have hb := hs.b
  exact ⟨rfl, hb⟩
end
theorem det_simple : Dt.det 2 (at2 [[(1, 0), (2, 0)], [(0, 1), (0, 0)]]) = ((0, -2) : Int × Int) := by decide +kernel
theorem minB_simple : MinB 2 2 67 (at2 [[(1, 0), (2, 0)], [(0, 1), (0, 0)]]) :=
  minB_of (T := 2) (b := fun _ => 1) (by decide) (by decide) fun i hi q hq => (bd_small (by decide)).at2
theorem awake9_any (w : World) :
    Calls Tryz.prog 12 #[] w fun e w' => e = .returned (.bool true) ∧ Below w.heap.size w w' := by
  go_enter Tryz.func12, Tryz.ntmps12
  have hs := St.nil w
  refine wp_seq_k ?_
  intro K1 hK1
  refine rg [0] ?_
  refine sq ?_
  refine .mv ?_
  apply wpSq_end
  refine hK1 _ _ ?_
  refine wp_seq_k ?_
  intro K2 hK2
  refine rg [0, 1, 2, 3, 4, 5, 6, 7] ?_
  refine sq ?_
  intro K hK
  go_big_op
  go_fit (simple9_any _)
  rintro e w_1 ⟨o_S, c_S, rfl, m_S, hb_1⟩
  replace hs := hs.bl hb_1
  refine hK _ _ rfl trivial ?_
  clear hK K
  refine sq ?_
  intro K hK
  go_big_op
  go_fit (det_ok (m_S.mn (bd_small (by decide))) rfl gd_simple rfl minB_simple (by decide) (by decide))
  rintro e w_2 ⟨_, rfl, ⟨n_da, o_da, k_da, c_da, n_db, o_db, k_db, c_db, rfl, d1, d2⟩, hb_2⟩
  replace m_S := m_S.bl hb_2; replace hs := hs.bl hb_2
  rw [det_simple] at d1 d2
  refine hK _ _ rfl trivial ?_
  clear hK K
  refine sq ?_
  refine .mv ?_
  refine sq ?_
  refine .r0 ?_
  refine sq ?_
  refine .r0 ?_
  refine sq ?_
  refine .al hs ?_; clear hs; intro p_b1 w_3 hs n3 kb_b1
  refine sq ?_
  refine .s4 hs.g0 (fun _ => hs.u0 kb_b1) ?_; clear hs; intro w_4 hs hd4 ho4
  refine sq ?_
  refine .mv ?_
  apply wpSq_end
  refine hK2 _ _ ?_
  refine wp_seq_k ?_
  intro K3 hK3
  refine wp_region_f4 [(0, false), (1, false), (2, true), (3, true), (4, false)] [] [] (fun _ => default) [0, 99, 99, 99, 99] [] (.c hs.g0 .n) fn fun w_5 n5 => ?_
  replace hs := hs.bl n5
  refine f4 ?_
  refine fmv ?_
  refine fl fun w_6 n6 => ?_
  replace hs := hs.bl n6
  intro K hK
  go_big_op
  go_fit (g9_any 0 (-2) _ (by decide) (by decide) (by decide) (by decide))
  rintro e w_7 ⟨_, rfl, ⟨n_aa, o_aa, k_aa, c_aa, n_ab, o_ab, k_ab, c_ab, rfl, a1, a2⟩, hb_7⟩
  replace hs := hs.bl hb_7
  have La1 := hide (a1.lenOf (zlen_small8 (z := 0) (by decide)))
  have La2 := hide (a2.lenOf (zlen_small8 (z := -2) (by decide)))
  refine hK _ _ rfl ⟨hb_7, (And.intro hs.g0 trivial)⟩ ?_
  clear hK K
  refine fl fun w_8 n8 => ?_
  replace hs := hs.bl n8
  intro K hK
  have k2_8 := (((((kb n3).o hd4 ho4).b n5).b n6).b hb_7).b n8
  replace d1 := d1.k k2_8
  replace d2 := d2.k k2_8
  have k7_8 := kb n8
  replace a1 := a1.k k7_8
  replace a2 := a2.k k7_8
  go_big_op
  go_fit (told9_yes (.mk' d1 d2) (.mk' (a1.zn La1.out) (a2.zn La2.out)) (by decide) (by decide))
  rintro e w_9 ⟨rfl, hb_9⟩
  replace hs := hs.bl hb_9
  refine hK _ _ rfl ⟨hb_9, (And.intro hs.g0 trivial)⟩ ?_
  clear hK K
  refine fmv ?_
  refine e0 hs ?_; clear hs; intro w_10 hs n10
  apply wpTail_end
  refine hK3 _ _ ?_
  refine wp_ret ?_
  try dsimp only [Exit.then, Exit.inBlock]
  refine bodyPost_ret (v := (.bool true)) (by simp [results, Tryz.results12, go_sem]) rfl ?_
  exact ⟨rfl, hs.b⟩
end Go.Proofs.YtnkimagnmnocdaaGreat
