/- gdet: Minors. -/
import Derived.Test.YtjfjlloibmebeaaGreatA9ToRt
import Derived.Test.YtjfjlloibmebeaaGreatI3ToN4
import Derived.Test.YtjfjlloibmebeaaGreatE13ToE18
import Derived.Test.YtjfjlloibmebeaaGreatO5ToN5
import Derived.Test.YtjfjlloibmebeaaGreatO11ToE5
import Derived.Test.YtjfjlloibmebeaaGreatZ8
import Derived.Test.YtjfjlloibmebeaaGreatR7
import Derived.Test.YtjfjlloibmebeaaGreatMx
import Derived.Test.YtjfjlloibmebeaaGreatR2aToZ1
import Derived.Test.YtjfjlloibmebeaaGreatW8
import Derived.Test.YtjfjlloibmebeaaGreatR1
import Derived.Lib.Strings

namespace Go.Proofs.YtjfjlloibmebeaaGreat
open Go Go.RowKit Dig
set_option linter.unusedVariables false
set_option linter.unusedSimpArgs false
section
variable {w : World} {la n k L ca : Nat} {oa : Option Addr} {A : List (List (Int × Int))}
end
end Go.Proofs.YtjfjlloibmebeaaGreat

/- The reference's Minors. -/
namespace Go.Proofs.YtjfjlloibmebeaaGreat
open Go Go.RowKit Dig
set_option linter.unusedVariables false
set_option linter.unusedSimpArgs false
section
variable {w0 w : World} {v u x : Value} {m n p q K J : Nat} {rs ts r1 r2 s1 s2 : List Rw} {C : En} {xs xs' ys : List Value} {Ms Ns : List (List (Int × Int))}
end
end Go.Proofs.YtjfjlloibmebeaaGreat

/- The reference's Adjugate. -/
namespace Go.Proofs.YtjfjlloibmebeaaGreat
open Go Go.RowKit Dig
set_option linter.unusedVariables false
set_option linter.unusedSimpArgs false
theorem adjE_even {n i j m : Nat} {M : Nat → Nat → Int × Int} (hm : n - 1 = m) (h : (i + j) % 2 = 0) : Dt.det m (fun r c => M (Dt.skip j r) (Dt.skip i c)) = adjE n M i j := by
 unfold adjE Dt.sg; rw [if_pos h, hm]; grind
theorem adjE_odd {n i j m : Nat} {M : Nat → Nat → Int × Int} (hm : n - 1 = m) (h : (i + j) % 2 = 1) : (-(Dt.det m (fun r c => M (Dt.skip j r) (Dt.skip i c))).1, -(Dt.det m (fun r c => M (Dt.skip j r) (Dt.skip i c))).2) = adjE n M i j := by
 unfold adjE Dt.sg; rw [if_neg (by omega), hm]
 show - Dt.det m (fun r c => M (Dt.skip j r) (Dt.skip i c)) = _
 grind
theorem MinB.cut {n m L i j : Nat} {M : Nat → Nat → Int × Int} (h : MinB n n L M) (hm : n - 1 = m) : MinB m m L (at2 (mkM m m fun r c => M (Dt.skip j r) (Dt.skip i c))) := by
 intro s f g hfg hi
 have e : Dt.det s (fun a b => at2 (mkM m m fun r c => M (Dt.skip j r) (Dt.skip i c)) (f a) (g b)) = Dt.det s fun a b => M (Dt.skip j (f a)) (Dt.skip i (g b)) := Dt.det_congr fun a ha b hb => at2_mkM (F := fun r c => M (Dt.skip j r) (Dt.skip i c)) (hfg a ha).1 (hfg b hb).2
 rw [e]
 exact h s (fun a => Dt.skip j (f a)) (fun b => Dt.skip i (g b)) (fun r hr => ⟨by have := (hfg r hr).1; unfold Dt.skip; split <;> omega, by have := (hfg r hr).2; unfold Dt.skip; split <;> omega⟩) fun r q h1 h2 h3 => hi r q h1 h2 (by
   unfold Dt.skip at h3; split at h3 <;> split at h3 <;> omega)
section
variable {w : World} {l n cm L m : Nat} {om : Option Addr} {M : List (List (Int × Int))}
theorem rNew_sq {q : Int} (hq : q = (m : Int)) (hm : m ≤ 1000000) :
   Calls Tryz.prog 92 #[.int .i64 q, .int .i64 q] w fun e w' => ∃ o c rs, e = .returned (.slice o m c) ∧ rs.length = m ∧ St w (Mx w.heap.size (.slice o m c) rs) w' ∧ RD w' rs (mkM m m fun _ _ => (0, 0)) ∧ Below w.heap.size w w' := by
 subst hq; exact rNew_any hm hm
set_option maxHeartbeats 8000000 in
set_option maxRecDepth 20000 in
theorem rAdjg_any (hm : MN l w om M) (hn : M.length = n) (h : gd M) (hk : wd M = n) (hB : MinB n n L (at2 M)) (hL : L ≤ 3000000) (hL1 : 1 ≤ L) (hl1 : l ≤ 9000000) :
   Calls Tryz.prog 23 #[.slice om n cm] w fun e w' => ∃ o c rs, e = .returned (.slice o n c) ∧ rs.length = n ∧ St w (Mx w.heap.size (.slice o n c) rs) w' ∧ RD w' rs (mkM n n (adjE n (at2 M))) ∧ Below w.heap.size w w' := by
 have HM := hide hm
 have HB := hide hB
 have HL := hide (show ∀ i, i < n → (rw_ M i).length = n from fun i hi => by rw [gd_row h (by omega)]; exact hk)
 have HBM := hide hm.bd
 have hn64 : n ≤ 64 := by have := h.1; omega
 obtain ⟨G, hG⟩ : ∃ G, G = adjE n (at2 M) := ⟨_, rfl⟩
 rw [← hG]
 have HG := hide hG
 obtain ⟨m, hm1⟩ : ∃ m, n - 1 = m := ⟨_, rfl⟩
 have HM1 := hide hm1
 have hmn : 0 < n → n = m + 1 := by omega
 have HMN := hide hmn
 have hm64 : m ≤ 64 := by omega
 clear hm h hk hB hG hm1 hmn
 go_enter Tryz.func23, Tryz.ntmps23
 have hs := St.nil w
 refine wp_seq_k fun K1 hK1 => rg [0] ?_
 refine sm ?_
 apply wpSq_end
 refine hK1 _ _ ?_
 refine wp_seq_k fun K2 hK2 => rg [0, 1, 2] ?_
 refine sm ?_
 refine sr ?_
 refine sm ?_
 apply wpSq_end
 refine hK2 _ _ ?_
 refine wp_seq_k fun K3 hK3 => rg [0, 1, 2, 3] ?_
 refine sm ?_
 refine sm ?_
 refine sq ?_
 intro K hK
 go_big_op
 go_fit (rNew_any (r := n) (k := n) (by omega) (by omega))
 rintro e w_1 ⟨o_O, c_O, rs_O, rfl, hl_O, hs_O, d_O, hb_1⟩
 replace hs := hs.mx hl_O hs_O; simp only [List.nil_append] at hs
 refine hK _ _ rfl trivial ?_
 clear hK K
 refine sm ?_
 apply wpSq_end
 refine hK3 _ _ ?_
 refine wp_seq_k ?_
 intro K4 hK4
 refine wp_seq_k fun K5 hK5 => rg [0] ?_
 refine sm ?_
 apply wpSq_end
 refine hK5 _ _ ?_
 refine wp_block ?_
 have hd2 := hs.2.1
 go_loopg [5] n (fun kz s5 wr => ∃ (i : Nat) (rs : List Rw), s5 = .int .i64 (i : Int) ∧ i + kz = n ∧ rs.length = n ∧ RD wr rs (mkM n n (fi G i 0)) ∧ St w (ls w.heap.size 51 1 (.slice o_O n c_O) n (rs.map (·.v)) :: (rs.map (Rw.e w.heap.size))) wr)
 case atStart => exact ⟨0, rs_O, rfl, by omega, hl_O, by rw [← fi_0]; exact d_O, hs⟩
 case round =>
 clear d_O hs
 obtain ⟨i, rs, rfl, hin, hrl, hd, hs⟩ := hrel
 have HO := ‹∀ (a' : Act) (w' : World), Handed _ _ a' w' → _›
 obtain ⟨g1, hg1⟩ : ∃ g, gk = g := ⟨_, rfl⟩
 by_cases hi : i < n
 · have HI := hide hi
   have hnm : n = m + 1 := HMN.out (by omega)
   have t1 : ((i : Int) < (n : Int)) = True := eq_true (by omega)
   refine wp_seq_k ?_
   intro K6 hK6
   refine wp_seq_k fun K7 hK7 => rg [0, 1, 2] ?_
   refine sm ?_
   refine sm ?_
   refine sr ?_
   apply wpSq_end
   refine hK7 _ _ ?_
   refine ct ?_
   refine wp_skip ?_
   refine hK6 _ _ ?_
   refine wp_seq_k ?_
   intro K8 hK8
   refine wp_block ?_
   refine wp_seq_k fun K9 hK9 => rg [0] ?_
   refine sm ?_
   apply wpSq_end
   refine hK9 _ _ ?_
   refine wp_block ?_
   have hd3 := hs.2.1
   go_loopg [6] n (fun kz s6 wr => ∃ (j : Nat) (rs : List Rw), s6 = .int .i64 (j : Int) ∧ j + kz = n ∧ rs.length = n ∧ RD wr rs (mkM n n (fi G i j)) ∧ St w (ls w.heap.size 51 1 (.slice o_O n c_O) n (rs.map (·.v)) :: (rs.map (Rw.e w.heap.size))) wr)
   case atStart => exact ⟨0, rs, rfl, by omega, hrl, hd, hs⟩
   case round =>
   clear hrl
   clear hd hs
   obtain ⟨j, rs, rfl, hjn, hrl, hd, hs⟩ := hrel
   have HO2 := ‹∀ (a' : Act) (w' : World), Handed _ _ a' w' → _›
   obtain ⟨g2, hg2⟩ : ∃ g, gk = g := ⟨_, rfl⟩
   by_cases hj : j < n
   · have HJ := hide hj
     have t2 : ((j : Int) < (n : Int)) = True := eq_true (by omega)
     obtain ⟨H, hH⟩ : ∃ H : Nat → Nat → Int × Int, H = fun r c => at2 M (Dt.skip j r) (Dt.skip i c) := ⟨_, rfl⟩
     have HH := hide hH
     clear hH
     refine wp_seq_k ?_
     intro K10 hK10
     refine wp_seq_k fun K11 hK11 => rg [0, 1, 2] ?_
     refine sm ?_
     refine sm ?_
     refine sr ?_
     apply wpSq_end
     refine hK11 _ _ ?_
     refine ct ?_
     refine wp_skip ?_
     refine hK10 _ _ ?_
     refine wp_seq_k ?_
     intro K12 hK12
     refine wp_block ?_
     refine wp_seq_k fun K13 hK13 => rg [0, 1, 2, 3, 4, 5] ?_
     refine sm ?_
     refine sr ?_
     refine sm ?_
     refine sr ?_
     refine sq ?_
     intro K hK
     go_big_op
     go_fit (rNew_sq (m := m) (by omega) (by omega))
     rintro e w_4 ⟨o_P, c_P, rs_P, rfl, hl_P, hs_P, d_P, hb_4⟩
     replace hs := hs.mx hl_P hs_P; simp only [List.cons_append, List.nil_append] at hs
     refine hK _ _ rfl trivial ?_
     clear hK K
     refine sm ?_
     apply wpSq_end
     refine hK13 _ _ ?_
     refine wp_seq_k ?_
     intro K14 hK14
     refine wp_seq_k fun K15 hK15 => rg [0] ?_
     refine sm ?_
     apply wpSq_end
     refine hK15 _ _ ?_
     refine wp_block ?_
     have hdP : RL l w_4 rs_P (mkM m m (fi H 0 0)) := by rw [← fi_0]; exact RL.of d_P (bdM_mk fun i _ j _ => zl_0 _)
     have k0_1 := kb hb_4
     replace hd := hd.k k0_1
     have hd5 := hs.2.1
     go_loopg [8] m (fun kz s8 wr => ∃ (r : Nat) (ts : List Rw), s8 = .int .i64 (r : Int) ∧ r + kz = m ∧ ts.length = m ∧ RL l wr ts (mkM m m (fi H r 0)) ∧ RD wr rs (mkM n n (fi G i j)) ∧ St w (ls w.heap.size 51 1 (.slice o_P m c_P) m (ts.map (·.v)) :: ((ls w.heap.size 51 1 (.slice o_O n c_O) n (rs.map (·.v)) :: rs.map (Rw.e w.heap.size)) ++ ts.map (Rw.e w.heap.size))) wr)
     case atStart => exact ⟨0, rs_P, rfl, by omega, hl_P, hdP, hd, hs⟩
     case round =>
     clear hd d_P hs
     obtain ⟨r, ts, rfl, hrm, htl, hdP, hd, hs⟩ := hrel
     have HO3 := ‹∀ (a' : Act) (w' : World), Handed _ _ a' w' → _›
     obtain ⟨g3, hg3⟩ : ∃ g, gk = g := ⟨_, rfl⟩
     by_cases hr : r < m
     · have HR := hide hr
       have t3 : ((r : Int) < (n : Int) - 1) = True := eq_true (by omega)
       refine wp_seq_k ?_
       intro K16 hK16
       refine wp_seq_k fun K17 hK17 => rg [0, 1, 2, 3] ?_
       refine sm ?_
       refine sm ?_
       refine sr ?_
       refine sr ?_
       apply wpSq_end
       refine hK17 _ _ ?_
       refine ct ?_
       refine wp_skip ?_
       refine hK16 _ _ ?_
       refine wp_seq_k ?_
       intro K18 hK18
       refine wp_block ?_
       refine wp_seq_k fun K19 hK19 => rg [0] ?_
       refine sm ?_
       apply wpSq_end
       refine hK19 _ _ ?_
       refine wp_block ?_
       have hd6 := hs.2.1
       go_loopg [9] m (fun kz s9 wr => ∃ (c : Nat) (ts : List Rw), s9 = .int .i64 (c : Int) ∧ c + kz = m ∧ ts.length = m ∧ RL l wr ts (mkM m m (fi H r c)) ∧ RD wr rs (mkM n n (fi G i j)) ∧ St w (ls w.heap.size 51 1 (.slice o_P m c_P) m (ts.map (·.v)) :: ((ls w.heap.size 51 1 (.slice o_O n c_O) n (rs.map (·.v)) :: rs.map (Rw.e w.heap.size)) ++ ts.map (Rw.e w.heap.size))) wr)
       case atStart => exact ⟨0, ts, rfl, by omega, htl, hdP, hd, hs⟩
       case round =>
       clear htl
       clear hd hdP hs
       obtain ⟨c, ts, rfl, hcm, htl, hdP, hd, hs⟩ := hrel
       by_cases hc : c < m
       · have HC := hide hc
         have t4 : ((c : Int) < (n : Int) - 1) = True := eq_true (by omega)
         obtain ⟨r1, gr, cr, ys, r2, er, hr1, hrv, hx, hs⟩ := hs.rowL (bs := ls w.heap.size 51 1 (.slice o_O n c_O) n (rs.map (·.v)) :: rs.map (Rw.e w.heap.size)) hdP (p := r) (K := m) (by rw [len_mkM]; exact HR.out) (by rw [mkM_row HR.out]; simp) (by omega)
         subst er
         have LO : Lst wr w.heap.size 51 1 (.slice o_P m c_P) m _ := hs.1.2.1.1
         obtain ⟨gP, curP, rfl, xP, hcP⟩ := LO.box (by omega)
         have eP := hcP _ _ hrv
         clear LO hcP hrv
         by_cases ha : r < j
         · have HY := hide (show Dt.skip j r = r by unfold Dt.skip; rw [if_pos ha])
           have t6 : ((j : Int) ≤ (r : Int)) = False := eq_false (by omega)
           clear ha
           by_cases hb9 : c < i
           · have HX := hide (show Dt.skip i c = c by unfold Dt.skip; rw [if_pos hb9])
             have t7 : ((i : Int) ≤ (c : Int)) = False := eq_false (by omega)
             clear hb9
             obtain ⟨gM, offM, curM, tyM, fzM, g2', off2, cur2, ty2, fz2, ci, a1, a2, a3, a4, a5, a6, a7, a8, rfl, xM, eM, x2, e1, e2, e3, e4, z1, z2⟩ := HM.out.op (i := r) (j := c) (by omega) (by rw [HL.out _ (by omega)]; omega)
             rw [HL.out _ (by omega)] at eM
             have HHE := hide (show H r c = at2 M r c by rw [HH.out]; simp only []; rw [HY.out, HX.out])
             have xMz := xM
             have lt_kM := xM.lt
             replace xM := xM.bl hs.b
             have x2z := x2
             have lt_kRM := x2.lt
             replace x2 := x2.bl hs.b
             replace z1 : ZN wr (.agg #[.bool a1, .slice a2 a3 a4]) (H r c).1 l := by rw [HHE.out]; exact z1.bl hs.b
             replace z2 : ZN wr (.agg #[.bool a5, .slice a6 a7 a8]) (H r c).2 l := by rw [HHE.out]; exact z2.bl hs.b
             refine wp_seq_k ?_
             intro K20 hK20
             refine wp_seq_k fun K21 hK21 => rg [0, 1, 2, 3] ?_
             refine sm ?_
             refine sm ?_
             refine sr ?_
             refine sr ?_
             apply wpSq_end
             refine hK21 _ _ ?_
             refine ct ?_
             refine wp_skip ?_
             refine hK20 _ _ ?_
             refine wp_seq_k ?_
             intro K22 hK22
             refine wp_block ?_
             refine wp_seq_k fun K23 hK23 => rg [0, 1] ?_
             refine sm ?_
             refine sm ?_
             apply wpSq_end
             refine hK23 _ _ ?_
             refine wp_seq_k fun K24 hK24 => rg [0, 1] ?_
             refine sm ?_
             refine sm ?_
             apply wpSq_end
             refine hK24 _ _ ?_
             refine wp_seq_k ?_
             intro K25 hK25
             refine wp_seq_k fun K26 hK26 => rg [0, 1, 2] ?_
             refine sm ?_
             refine sm ?_
             refine sr ?_
             apply wpSq_end
             refine hK26 _ _ ?_
             refine cf ?_
             refine wp_skip ?_
             refine hK25 _ _ ?_
             refine wp_seq_k ?_
             intro K27 hK27
             refine wp_seq_k fun K28 hK28 => rg [0, 1, 2] ?_
             refine sm ?_
             refine sm ?_
             refine sr ?_
             apply wpSq_end
             refine hK28 _ _ ?_
             refine cf ?_
             refine wp_skip ?_
             refine hK27 _ _ ?_
             refine wp_region_f4 [(0, false), (1, false), (2, false), (3, false), (4, false), (5, false), (6, false), (7, false), (8, false), (9, false), (10, false), (11, false), (12, false)] [13] [] (fun _ => default) [99, 99, 99, 0, 99, 99, 99, 99, 1, 99, 99, 2, 99, 99] [] (.c xP (.c xM (.c x2 .n))) fn fun w_7 n7 => ?_
             replace xM := xM.bl n7; replace x2 := x2.bl n7; replace xP := xP.bl n7; replace hs := hs.bl n7
             refine fmv ?_
             refine fmv ?_
             refine f0 ?_
             apply wpFl_ld rfl rfl; (case h1 => intro w' hC K hK; have c0 := Bs.cell hC (r) eP; go_big_op; exact hK); iterate 4 kernel_rfl
             refine fmv ?_
             refine fmv ?_
             refine fmv ?_
             refine f0 ?_
             apply wpFl_ld rfl rfl; (case h1 => intro w' hC K hK; have c0 := Bs.cell hC ((offM + r)) eM; go_big_op; exact hK); iterate 4 kernel_rfl
             refine fmv ?_
             refine f0 ?_
             apply wpFl_ld rfl rfl; (case h1 => intro w' hC K hK; have c0 := Bs.cell hC ((off2 + c * 4)) e1; have c1 := Bs.cell hC ((off2 + c * 4) + 1) e2; have c2 := Bs.cell hC ((off2 + c * 4) + 2) e3; have c3 := Bs.cell hC ((off2 + c * 4) + 3) e4; go_big_op; exact hK); iterate 4 kernel_rfl
             refine f0 ?_
             refine e0 hs ?_; clear hs; intro w_8 hs n8
             replace xM := xM.bl n8; replace x2 := x2.bl n8; replace xP := xP.bl n8
             refine tl ?_
             refine .i4 0 hs (j := c) (by exact HC.out) ?_ (e := fun _ hB hO => (And.intro (xP.frame hO (hs.ne 1 0)) (And.intro (xMz.bl hB) (And.intro (x2z.bl hB) True.intro)))); clear hs; intro w_9 hs kp9 hd9 ho9 hw9; simp only [List.set_cons_zero] at hs
             replace xM := xM.lo lt_kM hw9
             replace x2 := x2.lo lt_kRM hw9
             clear xP
             apply wpTail_end
             refine hK22 _ _ ?_
             refine rg [0, 1, 2] ?_
             refine sm ?_
             refine sr ?_
             refine sm ?_
             apply wpSq_end
             have k0_3 := ((kb n7).b n8).t kp9
             replace hd := hd.k k0_3
             replace hdP := hdP.k k0_3
             replace hx := hx.k k0_3
             replace z1 := z1.k k0_3
             replace z2 := z2.k k0_3
             refine ‹∀ (a' : Act) (w' : World), Handed _ _ a' w' → _› _ _ ?_
             have hs := hs.unrow (bs := ls w.heap.size 51 1 (.slice o_O n c_O) n (rs.map (·.v)) :: rs.map (Rw.e w.heap.size))
             go_roundg (gk - 1)
             case rel => exact ⟨c + 1, _, by rfl, by omega, by simpa using htl, RL.fi hdP hr1 HR.out HC.out hx z1 z2, hd, hs⟩
             case measure => omega
           · have HX := hide (show Dt.skip i c = (c + 1) by unfold Dt.skip; rw [if_neg (by omega)])
             have t7 : ((i : Int) ≤ (c : Int)) = True := eq_true (by omega)
             clear hb9
             obtain ⟨gM, offM, curM, tyM, fzM, g2', off2, cur2, ty2, fz2, ci, a1, a2, a3, a4, a5, a6, a7, a8, rfl, xM, eM, x2, e1, e2, e3, e4, z1, z2⟩ := HM.out.op (i := r) (j := (c + 1)) (by omega) (by rw [HL.out _ (by omega)]; omega)
             rw [HL.out _ (by omega)] at eM
             have HHE := hide (show H r c = at2 M r (c + 1) by rw [HH.out]; simp only []; rw [HY.out, HX.out])
             have xMz := xM
             have lt_kM := xM.lt
             replace xM := xM.bl hs.b
             have x2z := x2
             have lt_kRM := x2.lt
             replace x2 := x2.bl hs.b
             replace z1 : ZN wr (.agg #[.bool a1, .slice a2 a3 a4]) (H r c).1 l := by rw [HHE.out]; exact z1.bl hs.b
             replace z2 : ZN wr (.agg #[.bool a5, .slice a6 a7 a8]) (H r c).2 l := by rw [HHE.out]; exact z2.bl hs.b
             refine wp_seq_k ?_
             intro K20 hK20
             refine wp_seq_k fun K21 hK21 => rg [0, 1, 2, 3] ?_
             refine sm ?_
             refine sm ?_
             refine sr ?_
             refine sr ?_
             apply wpSq_end
             refine hK21 _ _ ?_
             refine ct ?_
             refine wp_skip ?_
             refine hK20 _ _ ?_
             refine wp_seq_k ?_
             intro K22 hK22
             refine wp_block ?_
             refine wp_seq_k fun K23 hK23 => rg [0, 1] ?_
             refine sm ?_
             refine sm ?_
             apply wpSq_end
             refine hK23 _ _ ?_
             refine wp_seq_k fun K24 hK24 => rg [0, 1] ?_
             refine sm ?_
             refine sm ?_
             apply wpSq_end
             refine hK24 _ _ ?_
             refine wp_seq_k ?_
             intro K25 hK25
             refine wp_seq_k fun K26 hK26 => rg [0, 1, 2] ?_
             refine sm ?_
             refine sm ?_
             refine sr ?_
             apply wpSq_end
             refine hK26 _ _ ?_
             refine cf ?_
             refine wp_skip ?_
             refine hK25 _ _ ?_
             refine wp_seq_k ?_
             intro K27 hK27
             refine wp_seq_k fun K28 hK28 => rg [0, 1, 2] ?_
             refine sm ?_
             refine sm ?_
             refine sr ?_
             apply wpSq_end
             refine hK28 _ _ ?_
             refine ct ?_
             refine rg [0, 1, 2] ?_
             refine sm ?_
             refine sr ?_
             refine sm ?_
             apply wpSq_end
             refine hK27 _ _ ?_
             refine wp_region_f4 [(0, false), (1, false), (2, false), (3, false), (4, false), (5, false), (6, false), (7, false), (8, false), (9, false), (10, false), (11, false), (12, false)] [13] [] (fun _ => default) [99, 99, 99, 0, 99, 99, 99, 99, 1, 99, 99, 2, 99, 99] [] (.c xP (.c xM (.c x2 .n))) fn fun w_7 n7 => ?_
             replace xM := xM.bl n7; replace x2 := x2.bl n7; replace xP := xP.bl n7; replace hs := hs.bl n7
             refine fmv ?_
             refine fmv ?_
             refine f0 ?_
             apply wpFl_ld rfl rfl; (case h1 => intro w' hC K hK; have c0 := Bs.cell hC (r) eP; go_big_op; exact hK); iterate 4 kernel_rfl
             refine fmv ?_
             refine fmv ?_
             refine fmv ?_
             refine f0 ?_
             apply wpFl_ld rfl rfl; (case h1 => intro w' hC K hK; have c0 := Bs.cell hC ((offM + r)) eM; go_big_op; exact hK); iterate 4 kernel_rfl
             refine fmv ?_
             refine f0 ?_
             apply wpFl_ld rfl rfl; (case h1 => intro w' hC K hK; have c0 := Bs.cell hC ((off2 + (c + 1) * 4)) e1; have c1 := Bs.cell hC ((off2 + (c + 1) * 4) + 1) e2; have c2 := Bs.cell hC ((off2 + (c + 1) * 4) + 2) e3; have c3 := Bs.cell hC ((off2 + (c + 1) * 4) + 3) e4; go_big_op; exact hK); iterate 4 kernel_rfl
             refine f0 ?_
             refine e0 hs ?_; clear hs; intro w_8 hs n8
             replace xM := xM.bl n8; replace x2 := x2.bl n8; replace xP := xP.bl n8
             refine tl ?_
             refine .i4 0 hs (j := c) (by exact HC.out) ?_ (e := fun _ hB hO => (And.intro (xP.frame hO (hs.ne 1 0)) (And.intro (xMz.bl hB) (And.intro (x2z.bl hB) True.intro)))); clear hs; intro w_9 hs kp9 hd9 ho9 hw9; simp only [List.set_cons_zero] at hs
             replace xM := xM.lo lt_kM hw9
             replace x2 := x2.lo lt_kRM hw9
             clear xP
             apply wpTail_end
             refine hK22 _ _ ?_
             refine rg [0, 1, 2] ?_
             refine sm ?_
             refine sr ?_
             refine sm ?_
             apply wpSq_end
             have k0_3 := ((kb n7).b n8).t kp9
             replace hd := hd.k k0_3
             replace hdP := hdP.k k0_3
             replace hx := hx.k k0_3
             replace z1 := z1.k k0_3
             replace z2 := z2.k k0_3
             refine ‹∀ (a' : Act) (w' : World), Handed _ _ a' w' → _› _ _ ?_
             have hs := hs.unrow (bs := ls w.heap.size 51 1 (.slice o_O n c_O) n (rs.map (·.v)) :: rs.map (Rw.e w.heap.size))
             go_roundg (gk - 1)
             case rel => exact ⟨c + 1, _, by rfl, by omega, by simpa using htl, RL.fi hdP hr1 HR.out HC.out hx z1 z2, hd, hs⟩
             case measure => omega
         · have HY := hide (show Dt.skip j r = (r + 1) by unfold Dt.skip; rw [if_neg (by omega)])
           have t6 : ((j : Int) ≤ (r : Int)) = True := eq_true (by omega)
           clear ha
           by_cases hb9 : c < i
           · have HX := hide (show Dt.skip i c = c by unfold Dt.skip; rw [if_pos hb9])
             have t7 : ((i : Int) ≤ (c : Int)) = False := eq_false (by omega)
             clear hb9
             obtain ⟨gM, offM, curM, tyM, fzM, g2', off2, cur2, ty2, fz2, ci, a1, a2, a3, a4, a5, a6, a7, a8, rfl, xM, eM, x2, e1, e2, e3, e4, z1, z2⟩ := HM.out.op (i := (r + 1)) (j := c) (by omega) (by rw [HL.out _ (by omega)]; omega)
             rw [HL.out _ (by omega)] at eM
             have HHE := hide (show H r c = at2 M (r + 1) c by rw [HH.out]; simp only []; rw [HY.out, HX.out])
             have xMz := xM
             have lt_kM := xM.lt
             replace xM := xM.bl hs.b
             have x2z := x2
             have lt_kRM := x2.lt
             replace x2 := x2.bl hs.b
             replace z1 : ZN wr (.agg #[.bool a1, .slice a2 a3 a4]) (H r c).1 l := by rw [HHE.out]; exact z1.bl hs.b
             replace z2 : ZN wr (.agg #[.bool a5, .slice a6 a7 a8]) (H r c).2 l := by rw [HHE.out]; exact z2.bl hs.b
             refine wp_seq_k ?_
             intro K20 hK20
             refine wp_seq_k fun K21 hK21 => rg [0, 1, 2, 3] ?_
             refine sm ?_
             refine sm ?_
             refine sr ?_
             refine sr ?_
             apply wpSq_end
             refine hK21 _ _ ?_
             refine ct ?_
             refine wp_skip ?_
             refine hK20 _ _ ?_
             refine wp_seq_k ?_
             intro K22 hK22
             refine wp_block ?_
             refine wp_seq_k fun K23 hK23 => rg [0, 1] ?_
             refine sm ?_
             refine sm ?_
             apply wpSq_end
             refine hK23 _ _ ?_
             refine wp_seq_k fun K24 hK24 => rg [0, 1] ?_
             refine sm ?_
             refine sm ?_
             apply wpSq_end
             refine hK24 _ _ ?_
             refine wp_seq_k ?_
             intro K25 hK25
             refine wp_seq_k fun K26 hK26 => rg [0, 1, 2] ?_
             refine sm ?_
             refine sm ?_
             refine sr ?_
             apply wpSq_end
             refine hK26 _ _ ?_
             refine ct ?_
             refine rg [0, 1, 2] ?_
             refine sm ?_
             refine sr ?_
             refine sm ?_
             apply wpSq_end
             refine hK25 _ _ ?_
             refine wp_seq_k ?_
             intro K27 hK27
             refine wp_seq_k fun K28 hK28 => rg [0, 1, 2] ?_
             refine sm ?_
             refine sm ?_
             refine sr ?_
             apply wpSq_end
             refine hK28 _ _ ?_
             refine cf ?_
             refine wp_skip ?_
             refine hK27 _ _ ?_
             refine wp_region_f4 [(0, false), (1, false), (2, false), (3, false), (4, false), (5, false), (6, false), (7, false), (8, false), (9, false), (10, false), (11, false), (12, false)] [13] [] (fun _ => default) [99, 99, 99, 0, 99, 99, 99, 99, 1, 99, 99, 2, 99, 99] [] (.c xP (.c xM (.c x2 .n))) fn fun w_7 n7 => ?_
             replace xM := xM.bl n7; replace x2 := x2.bl n7; replace xP := xP.bl n7; replace hs := hs.bl n7
             refine fmv ?_
             refine fmv ?_
             refine f0 ?_
             apply wpFl_ld rfl rfl; (case h1 => intro w' hC K hK; have c0 := Bs.cell hC (r) eP; go_big_op; exact hK); iterate 4 kernel_rfl
             refine fmv ?_
             refine fmv ?_
             refine fmv ?_
             refine f0 ?_
             apply wpFl_ld rfl rfl; (case h1 => intro w' hC K hK; have c0 := Bs.cell hC ((offM + (r + 1))) eM; go_big_op; exact hK); iterate 4 kernel_rfl
             refine fmv ?_
             refine f0 ?_
             apply wpFl_ld rfl rfl; (case h1 => intro w' hC K hK; have c0 := Bs.cell hC ((off2 + c * 4)) e1; have c1 := Bs.cell hC ((off2 + c * 4) + 1) e2; have c2 := Bs.cell hC ((off2 + c * 4) + 2) e3; have c3 := Bs.cell hC ((off2 + c * 4) + 3) e4; go_big_op; exact hK); iterate 4 kernel_rfl
             refine f0 ?_
             refine e0 hs ?_; clear hs; intro w_8 hs n8
             replace xM := xM.bl n8; replace x2 := x2.bl n8; replace xP := xP.bl n8
             refine tl ?_
             refine .i4 0 hs (j := c) (by exact HC.out) ?_ (e := fun _ hB hO => (And.intro (xP.frame hO (hs.ne 1 0)) (And.intro (xMz.bl hB) (And.intro (x2z.bl hB) True.intro)))); clear hs; intro w_9 hs kp9 hd9 ho9 hw9; simp only [List.set_cons_zero] at hs
             replace xM := xM.lo lt_kM hw9
             replace x2 := x2.lo lt_kRM hw9
             clear xP
             apply wpTail_end
             refine hK22 _ _ ?_
             refine rg [0, 1, 2] ?_
             refine sm ?_
             refine sr ?_
             refine sm ?_
             apply wpSq_end
             have k0_3 := ((kb n7).b n8).t kp9
             replace hd := hd.k k0_3
             replace hdP := hdP.k k0_3
             replace hx := hx.k k0_3
             replace z1 := z1.k k0_3
             replace z2 := z2.k k0_3
             refine ‹∀ (a' : Act) (w' : World), Handed _ _ a' w' → _› _ _ ?_
             have hs := hs.unrow (bs := ls w.heap.size 51 1 (.slice o_O n c_O) n (rs.map (·.v)) :: rs.map (Rw.e w.heap.size))
             go_roundg (gk - 1)
             case rel => exact ⟨c + 1, _, by rfl, by omega, by simpa using htl, RL.fi hdP hr1 HR.out HC.out hx z1 z2, hd, hs⟩
             case measure => omega
           · have HX := hide (show Dt.skip i c = (c + 1) by unfold Dt.skip; rw [if_neg (by omega)])
             have t7 : ((i : Int) ≤ (c : Int)) = True := eq_true (by omega)
             clear hb9
             obtain ⟨gM, offM, curM, tyM, fzM, g2', off2, cur2, ty2, fz2, ci, a1, a2, a3, a4, a5, a6, a7, a8, rfl, xM, eM, x2, e1, e2, e3, e4, z1, z2⟩ := HM.out.op (i := (r + 1)) (j := (c + 1)) (by omega) (by rw [HL.out _ (by omega)]; omega)
             rw [HL.out _ (by omega)] at eM
             have HHE := hide (show H r c = at2 M (r + 1) (c + 1) by rw [HH.out]; simp only []; rw [HY.out, HX.out])
             have xMz := xM
             have lt_kM := xM.lt
             replace xM := xM.bl hs.b
             have x2z := x2
             have lt_kRM := x2.lt
             replace x2 := x2.bl hs.b
             replace z1 : ZN wr (.agg #[.bool a1, .slice a2 a3 a4]) (H r c).1 l := by rw [HHE.out]; exact z1.bl hs.b
             replace z2 : ZN wr (.agg #[.bool a5, .slice a6 a7 a8]) (H r c).2 l := by rw [HHE.out]; exact z2.bl hs.b
             refine wp_seq_k ?_
             intro K20 hK20
             refine wp_seq_k fun K21 hK21 => rg [0, 1, 2, 3] ?_
             refine sm ?_
             refine sm ?_
             refine sr ?_
             refine sr ?_
             apply wpSq_end
             refine hK21 _ _ ?_
             refine ct ?_
             refine wp_skip ?_
             refine hK20 _ _ ?_
             refine wp_seq_k ?_
             intro K22 hK22
             refine wp_block ?_
             refine wp_seq_k fun K23 hK23 => rg [0, 1] ?_
             refine sm ?_
             refine sm ?_
             apply wpSq_end
             refine hK23 _ _ ?_
             refine wp_seq_k fun K24 hK24 => rg [0, 1] ?_
             refine sm ?_
             refine sm ?_
             apply wpSq_end
             refine hK24 _ _ ?_
             refine wp_seq_k ?_
             intro K25 hK25
             refine wp_seq_k fun K26 hK26 => rg [0, 1, 2] ?_
             refine sm ?_
             refine sm ?_
             refine sr ?_
             apply wpSq_end
             refine hK26 _ _ ?_
             refine ct ?_
             refine rg [0, 1, 2] ?_
             refine sm ?_
             refine sr ?_
             refine sm ?_
             apply wpSq_end
             refine hK25 _ _ ?_
             refine wp_seq_k ?_
             intro K27 hK27
             refine wp_seq_k fun K28 hK28 => rg [0, 1, 2] ?_
             refine sm ?_
             refine sm ?_
             refine sr ?_
             apply wpSq_end
             refine hK28 _ _ ?_
             refine ct ?_
             refine rg [0, 1, 2] ?_
             refine sm ?_
             refine sr ?_
             refine sm ?_
             apply wpSq_end
             refine hK27 _ _ ?_
             refine wp_region_f4 [(0, false), (1, false), (2, false), (3, false), (4, false), (5, false), (6, false), (7, false), (8, false), (9, false), (10, false), (11, false), (12, false)] [13] [] (fun _ => default) [99, 99, 99, 0, 99, 99, 99, 99, 1, 99, 99, 2, 99, 99] [] (.c xP (.c xM (.c x2 .n))) fn fun w_7 n7 => ?_
             replace xM := xM.bl n7; replace x2 := x2.bl n7; replace xP := xP.bl n7; replace hs := hs.bl n7
             refine fmv ?_
             refine fmv ?_
             refine f0 ?_
             apply wpFl_ld rfl rfl; (case h1 => intro w' hC K hK; have c0 := Bs.cell hC (r) eP; go_big_op; exact hK); iterate 4 kernel_rfl
             refine fmv ?_
             refine fmv ?_
             refine fmv ?_
             refine f0 ?_
             apply wpFl_ld rfl rfl; (case h1 => intro w' hC K hK; have c0 := Bs.cell hC ((offM + (r + 1))) eM; go_big_op; exact hK); iterate 4 kernel_rfl
             refine fmv ?_
             refine f0 ?_
             apply wpFl_ld rfl rfl; (case h1 => intro w' hC K hK; have c0 := Bs.cell hC ((off2 + (c + 1) * 4)) e1; have c1 := Bs.cell hC ((off2 + (c + 1) * 4) + 1) e2; have c2 := Bs.cell hC ((off2 + (c + 1) * 4) + 2) e3; have c3 := Bs.cell hC ((off2 + (c + 1) * 4) + 3) e4; go_big_op; exact hK); iterate 4 kernel_rfl
             refine f0 ?_
             refine e0 hs ?_; clear hs; intro w_8 hs n8
             replace xM := xM.bl n8; replace x2 := x2.bl n8; replace xP := xP.bl n8
             refine tl ?_
             refine .i4 0 hs (j := c) (by exact HC.out) ?_ (e := fun _ hB hO => (And.intro (xP.frame hO (hs.ne 1 0)) (And.intro (xMz.bl hB) (And.intro (x2z.bl hB) True.intro)))); clear hs; intro w_9 hs kp9 hd9 ho9 hw9; simp only [List.set_cons_zero] at hs
             replace xM := xM.lo lt_kM hw9
             replace x2 := x2.lo lt_kRM hw9
             clear xP
             apply wpTail_end
             refine hK22 _ _ ?_
             refine rg [0, 1, 2] ?_
             refine sm ?_
             refine sr ?_
             refine sm ?_
             apply wpSq_end
             have k0_3 := ((kb n7).b n8).t kp9
             replace hd := hd.k k0_3
             replace hdP := hdP.k k0_3
             replace hx := hx.k k0_3
             replace z1 := z1.k k0_3
             replace z2 := z2.k k0_3
             refine ‹∀ (a' : Act) (w' : World), Handed _ _ a' w' → _› _ _ ?_
             have hs := hs.unrow (bs := ls w.heap.size 51 1 (.slice o_O n c_O) n (rs.map (·.v)) :: rs.map (Rw.e w.heap.size))
             go_roundg (gk - 1)
             case rel => exact ⟨c + 1, _, by rfl, by omega, by simpa using htl, RL.fi hdP hr1 HR.out HC.out hx z1 z2, hd, hs⟩
             case measure => omega
       · obtain rfl : c = m := by omega
         have HC := hide hc
         have t4 : ((c : Int) < (n : Int) - 1) = False := eq_false (by omega)
         refine wp_seq_k ?_
         intro K20 hK20
         refine wp_seq_k fun K21 hK21 => rg [0, 1, 2, 3] ?_
         refine sm ?_
         refine sm ?_
         refine sr ?_
         refine sr ?_
         apply wpSq_end
         refine hK21 _ _ ?_
         refine cf ?_
         refine wp_exit ?_
         refine hK18 _ _ ?_
         refine rg [0, 1, 2] ?_
         refine sm ?_
         refine sr ?_
         refine sm ?_
         apply wpSq_end
         refine HO3 _ _ ?_
         go_roundg (g3 - 1)
         case rel => exact ⟨r + 1, ts, by rfl, by omega, htl, by rw [← fi_row]; exact hdP, hd, hs⟩
         case measure => omega
     · obtain rfl : r = m := by omega
       have HR := hide hr
       have t3 : ((r : Int) < (n : Int) - 1) = False := eq_false (by omega)
       rw [fi_end] at hdP
       have hs := hs.perm (cs := ls w.heap.size 51 1 (.slice o_O n c_O) n (rs.map (·.v)) :: ((ls w.heap.size 51 1 (.slice o_P r c_P) r (ts.map (·.v)) :: ts.map (Rw.e w.heap.size)) ++ rs.map (Rw.e w.heap.size))) ((List.Perm.swap _ _ _).trans (List.Perm.cons _ (List.Perm.cons _ List.perm_append_comm)))
       obtain ⟨r1, gr, cr, ys, r2, er, hr1, hrv, hx, hs⟩ := hs.row (bs := ls w.heap.size 51 1 (.slice o_P r c_P) r (ts.map (·.v)) :: ts.map (Rw.e w.heap.size)) hd (p := i) (K := n) (by rw [len_mkM]; exact HI.out) (by rw [mkM_row HI.out]; simp) (by omega)
       subst er
       obtain ⟨q, hq⟩ := Dt.rk_exists one_ne r r (at2 (mkM r r H))
       have HRK := hide hq
       have hDE := hide (show Dt.det r (at2 (mkM r r H)) = Dt.det r H from Dt.det_congr fun p hp q hq => at2_mkM hp hq)
       have hPT := hide (show MinB r r L (at2 (mkM r r H)) by rw [HH.out]; exact HB.out.cut HM1.out)
       have hGD := hide (show gd (mkM r r H) from gd_mkM (by omega) (by omega))
       have hWD := hide (show wd (mkM r r H) = r from wd_mkM (by omega))
       have LD := hide (show zl L (Dt.det r H) by rw [← hDE.out]; exact hPT.out r id id (fun r hr => ⟨hr, hr⟩) (fun r q h _ => by simp only [id]; omega))
       clear hq
       by_cases hev : (i + j) % 2 = 0
       · have t5 : (((i : Int) + (j : Int)).tmod 2 == 1) = false := beq_eq_false_iff_ne.2 (by rw [Int.tmod_eq_emod_of_nonneg (by omega)]; omega)
         have HE := hide (show Dt.det r H = G i j by rw [HH.out, HG.out]; exact adjE_even HM1.out hev)
         clear hev
         refine wp_seq_k ?_
         intro K16 hK16
         refine wp_seq_k fun K17 hK17 => rg [0, 1, 2, 3] ?_
         refine sm ?_
         refine sm ?_
         refine sr ?_
         refine sr ?_
         apply wpSq_end
         refine hK17 _ _ ?_
         refine cf ?_
         refine wp_exit ?_
         refine hK14 _ _ ?_
         refine wp_seq_k fun K18 hK18 => rg [0, 1, 2, 3] ?_
         refine sm ?_
         refine sq ?_
         intro K hK
         go_big_op
         go_fit (rDet_any (MNof (c := c_P) hs (by simp) rfl (fun r hr ↦ by simp [List.mem_map_of_mem hr]) htl hdP) len_mkM hGD.out hWD.out hPT.out hL hL1 (by omega) HRK.out)
         rintro e w_6 ⟨_, rfl, ⟨n_da, o_da, k_da, c_da, n_db, o_db, k_db, c_db, rfl, d1, d2⟩, hb_6⟩
         replace hs := hs.bl hb_6
         rw [hDE.out] at d1 d2
         refine hK _ _ rfl trivial ?_
         clear hK K
         refine sq ?_
         refine .al hs ?_; clear hs; intro p_b1 w_7 hs n7 kb_b1
         refine sq ?_
         refine .s4 hs.g0 (fun _ => hs.u0 kb_b1) ?_; clear hs; intro w_8 hs hd8 ho8
         apply wpSq_end
         refine hK18 _ _ ?_
         refine wp_seq_k ?_
         intro K19 hK19
         refine wp_seq_k fun K20 hK20 => rg [0, 1, 2, 3, 4] ?_
         have LO : Lst w_8 w.heap.size 51 1 (.slice o_O n c_O) n _ := hs.1.2.2.1.1
         obtain ⟨gO', curO, eO', xO, hcO⟩ := LO.box (by omega)
         subst eO'
         have eO := hcO _ _ hrv
         refine sm ?_
         refine sm ?_
         refine sr ?_
         refine sr ?_
         refine sr ?_
         apply wpSq_end
         refine hK20 _ _ ?_
         refine cf ?_
         refine wp_skip ?_
         refine hK19 _ _ ?_
         refine wp_region_f4 [(0, false), (1, false), (2, false), (3, false), (4, false), (5, false), (6, true), (7, false)] [8] [] (fun _ => default) [99, 99, 99, 0, 99, 1, 99, 99, 99] [] (.c xO (.c hs.g0 .n)) fn fun w_9 n9 => ?_
         replace xO := xO.bl n9; replace hs := hs.bl n9
         refine fmv ?_
         refine fmv ?_
         refine f0 ?_
         apply wpFl_ld rfl rfl; (case h1 => intro w' hC K hK; have c0 := Bs.cell hC (i) eO; go_big_op; exact hK); iterate 4 kernel_rfl
         refine fmv ?_
         refine f4 ?_
         refine fl fun w_10 n10 => ?_
         replace xO := xO.bl n10; replace hs := hs.bl n10
         intro K hK
         have k1_5 := (((kb n7).o hd8 ho8).b n9).b n10
         replace d1 := d1.k k1_5
         replace d2 := d2.k k1_5
         go_big_op
         go_fit (rgCanonical_any (.mk' (d1.zn LD.out.1) (d2.zn LD.out.2)) (by omega) (by omega))
         rintro e w_11 ⟨_, rfl, ⟨n_qa, o_qa, k_qa, c_qa, n_qb, o_qb, k_qb, c_qb, rfl, q1, q2⟩, hb_11⟩
         replace xO := xO.bl hb_11; replace hs := hs.bl hb_11
         refine hK _ _ rfl ⟨hb_11, (And.intro xO (And.intro hs.g0 trivial))⟩ ?_
         clear hK K
         refine f0 ?_
         refine e0 hs ?_; clear hs; intro w_12 hs n12
         replace xO := xO.bl n12
         refine tl ?_
         refine .i4 1 hs (j := j) (by exact HJ.out) ?_ (e := fun _ hB hO => (And.intro (xO.frame hO (hs.ne 2 1)) (And.intro (hs.g0.frame hO (hs.ne 0 1)) True.intro))); clear hs; intro w_13 hs kp13 hd13 ho13 hw13; simp only [List.set_cons_succ, List.set_cons_zero] at hs
         clear xO
         apply wpTail_end
         refine hK12 _ _ ?_
         refine rg [0, 1, 2] ?_
         refine sm ?_
         refine sr ?_
         refine sm ?_
         apply wpSq_end
         have k0_8 := (((((((kb hb_6).b n7).o hd8 ho8).b n9).b n10).b hb_11).b n12).t kp13
         replace hd := hd.k k0_8
         replace hx := hx.k k0_8
         have k6_8 := (kb n12).t kp13
         replace q1 := q1.k k6_8
         replace q2 := q2.k k6_8
         refine HO2 _ _ ?_
         have hs := (hs.sub (.cons _ (List.Sublist.refl _))).unrow (bs := ls w.heap.size 51 1 (.slice o_P r c_P) r (ts.map (·.v)) :: ts.map (Rw.e w.heap.size))
         have hs := hs.sub (show List.Sublist (_ :: (r1 ++ _ :: r2).map (Rw.e w.heap.size)) _ from .cons_cons _ (.cons _ (List.sublist_append_right _ _)))
         go_roundg (g2 - 1)
         case rel => exact ⟨j + 1, _, by rfl, by omega, by simpa using hrl, RD.fi hd hr1 HI.out HJ.out hx (by rw [← HE.out]; exact q1) (by rw [← HE.out]; exact q2), hs⟩
         case measure => omega
       · have t5 : (((i : Int) + (j : Int)).tmod 2 == 1) = true := beq_iff_eq.2 (by rw [Int.tmod_eq_emod_of_nonneg (by omega)]; omega)
         have HE := hide (show (-(Dt.det r H).1, -(Dt.det r H).2) = G i j by rw [HH.out, HG.out]; exact adjE_odd HM1.out (by omega))
         clear hev
         refine wp_seq_k ?_
         intro K16 hK16
         refine wp_seq_k fun K17 hK17 => rg [0, 1, 2, 3] ?_
         refine sm ?_
         refine sm ?_
         refine sr ?_
         refine sr ?_
         apply wpSq_end
         refine hK17 _ _ ?_
         refine cf ?_
         refine wp_exit ?_
         refine hK14 _ _ ?_
         refine wp_seq_k fun K18 hK18 => rg [0, 1, 2, 3] ?_
         refine sm ?_
         refine sq ?_
         intro K hK
         go_big_op
         go_fit (rDet_any (MNof (c := c_P) hs (by simp) rfl (fun r hr ↦ by simp [List.mem_map_of_mem hr]) htl hdP) len_mkM hGD.out hWD.out hPT.out hL hL1 (by omega) HRK.out)
         rintro e w_6 ⟨_, rfl, ⟨n_da, o_da, k_da, c_da, n_db, o_db, k_db, c_db, rfl, d1, d2⟩, hb_6⟩
         replace hs := hs.bl hb_6
         rw [hDE.out] at d1 d2
         refine hK _ _ rfl trivial ?_
         clear hK K
         refine sq ?_
         refine .al hs ?_; clear hs; intro p_b1 w_7 hs n7 kb_b1
         refine sq ?_
         refine .s4 hs.g0 (fun _ => hs.u0 kb_b1) ?_; clear hs; intro w_8 hs hd8 ho8
         apply wpSq_end
         refine hK18 _ _ ?_
         refine wp_seq_k ?_
         intro K19 hK19
         refine wp_seq_k fun K20 hK20 => rg [0, 1, 2, 3, 4] ?_
         refine sm ?_
         refine sm ?_
         refine sr ?_
         refine sr ?_
         refine sr ?_
         apply wpSq_end
         refine hK20 _ _ ?_
         refine ct ?_
         refine rg [0, 1, 2] ?_
         refine sq ?_
         refine .r4 hs.g0.f4 ?_
         refine sq ?_
         intro K hK
         have k1_3 := (kb n7).o hd8 ho8
         replace d1 := d1.k k1_3
         replace d2 := d2.k k1_3
         go_big_op
         go_fit (rgNeg_any (.mk' (d1.zn LD.out.1) (d2.zn LD.out.2)) (by omega) (by omega))
         rintro e w_9 ⟨_, rfl, ⟨n_e9a, o_e9a, k_e9a, c_e9a, n_e9b, o_e9b, k_e9b, c_e9b, rfl, e91, e92⟩, hb_9⟩
         replace hs := hs.bl hb_9
         have Le91 := hide (e91.lenOf (zlen_neg LD.out.1))
         have Le92 := hide (e92.lenOf (zlen_neg LD.out.2))
         refine hK _ _ rfl trivial ?_
         clear hK K
         have LO : Lst w_9 w.heap.size 51 1 (.slice o_O n c_O) n _ := hs.1.2.2.1.1
         obtain ⟨gO', curO, eO', xO, hcO⟩ := LO.box (by omega)
         subst eO'
         have eO := hcO _ _ hrv
         refine sq ?_
         refine .s4 hs.g0 (fun _ => hs.u0 kb_b1) ?_; clear hs; intro w_10 hs hd10 ho10
         replace xO := xO.frame ho10 (hs.ne 2 0)
         apply wpSq_end
         refine hK19 _ _ ?_
         refine wp_region_f4 [(0, false), (1, false), (2, false), (3, false), (4, false), (5, false), (6, true), (7, false)] [8] [] (fun _ => default) [99, 99, 99, 0, 99, 1, 99, 99, 99] [] (.c xO (.c hs.g0 .n)) fn fun w_11 n11 => ?_
         replace xO := xO.bl n11; replace hs := hs.bl n11
         refine fmv ?_
         refine fmv ?_
         refine f0 ?_
         apply wpFl_ld rfl rfl; (case h1 => intro w' hC K hK; have c0 := Bs.cell hC (i) eO; go_big_op; exact hK); iterate 4 kernel_rfl
         refine fmv ?_
         refine f4 ?_
         refine fl fun w_12 n12 => ?_
         replace xO := xO.bl n12; replace hs := hs.bl n12
         intro K hK
         have k4_7 := ((ko hd10 ho10).b n11).b n12
         replace e91 := e91.k k4_7
         replace e92 := e92.k k4_7
         go_big_op
         go_fit (rgCanonical_any (.mk' (e91.zn Le91.out) (e92.zn Le92.out)) (by omega) (by omega))
         rintro e w_13 ⟨_, rfl, ⟨n_qa, o_qa, k_qa, c_qa, n_qb, o_qb, k_qb, c_qb, rfl, q1, q2⟩, hb_13⟩
         replace xO := xO.bl hb_13; replace hs := hs.bl hb_13
         refine hK _ _ rfl ⟨hb_13, (And.intro xO (And.intro hs.g0 trivial))⟩ ?_
         clear hK K
         refine f0 ?_
         refine e0 hs ?_; clear hs; intro w_14 hs n14
         replace xO := xO.bl n14
         refine tl ?_
         refine .i4 1 hs (j := j) (by exact HJ.out) ?_ (e := fun _ hB hO => (And.intro (xO.frame hO (hs.ne 2 1)) (And.intro (hs.g0.frame hO (hs.ne 0 1)) True.intro))); clear hs; intro w_15 hs kp15 hd15 ho15 hw15; simp only [List.set_cons_succ, List.set_cons_zero] at hs
         clear xO
         apply wpTail_end
         refine hK12 _ _ ?_
         refine rg [0, 1, 2] ?_
         refine sm ?_
         refine sr ?_
         refine sm ?_
         apply wpSq_end
         have k0_10 := (((((((((kb hb_6).b n7).o hd8 ho8).b hb_9).o hd10 ho10).b n11).b n12).b hb_13).b n14).t kp15
         replace hd := hd.k k0_10
         replace hx := hx.k k0_10
         have k8_10 := (kb n14).t kp15
         replace q1 := q1.k k8_10
         replace q2 := q2.k k8_10
         refine HO2 _ _ ?_
         have hs := (hs.sub (.cons _ (List.Sublist.refl _))).unrow (bs := ls w.heap.size 51 1 (.slice o_P r c_P) r (ts.map (·.v)) :: ts.map (Rw.e w.heap.size))
         have hs := hs.sub (show List.Sublist (_ :: (r1 ++ _ :: r2).map (Rw.e w.heap.size)) _ from .cons_cons _ (.cons _ (List.sublist_append_right _ _)))
         go_roundg (g2 - 1)
         case rel => exact ⟨j + 1, _, by rfl, by omega, by simpa using hrl, RD.fi hd hr1 HI.out HJ.out hx (by rw [← HE.out]; exact q1) (by rw [← HE.out]; exact q2), hs⟩
         case measure => omega
   · obtain rfl : j = n := by omega
     have HJ := hide hj
     have t2 : ((j : Int) < (j : Int)) = False := eq_false (by omega)
     refine wp_seq_k ?_
     intro K10 hK10
     refine wp_seq_k fun K11 hK11 => rg [0, 1, 2] ?_
     refine sm ?_
     refine sm ?_
     refine sr ?_
     apply wpSq_end
     refine hK11 _ _ ?_
     refine cf ?_
     refine wp_exit ?_
     refine hK8 _ _ ?_
     refine rg [0, 1, 2] ?_
     refine sm ?_
     refine sr ?_
     refine sm ?_
     apply wpSq_end
     refine HO _ _ ?_
     go_roundg (g1 - 1)
     case rel => exact ⟨i + 1, rs, by rfl, by omega, hrl, by rw [← fi_row]; exact hd, hs⟩
     case measure => omega
 · have HAE := hide (show i = n by omega)
   have HI := hide hi
   have t1 : ((i : Int) < (n : Int)) = False := eq_false (by omega)
   refine wp_seq_k ?_
   intro K6 hK6
   refine wp_seq_k fun K7 hK7 => rg [0, 1, 2] ?_
   refine sm ?_
   refine sm ?_
   refine sr ?_
   apply wpSq_end
   refine hK7 _ _ ?_
   refine cf ?_
   refine wp_exit ?_
   refine hK4 _ _ ?_
   refine wp_seq_k fun K8 hK8 => rg [0, 1] ?_
   refine sm ?_
   refine sm ?_
   apply wpSq_end
   refine hK8 _ _ ?_
   refine wp_ret ?_
   have hd2 := hd
   rw [HAE.out, fi_end] at hd2
   try dsimp only [Exit.then, Exit.inBlock]
   refine bodyPost_ret (v := (.slice o_O n c_O)) (by simp [results, Tryz.results23, go_sem]) rfl ?_
   exact ⟨_, _, rs, rfl, hrl, (by unfold Mx; rw [hrl]; exact hs), hd2, hs.b⟩
end
end Go.Proofs.YtjfjlloibmebeaaGreat

/- zint.Int. -/
namespace Go.Proofs.YtjfjlloibmebeaaGreat
open Go.RowKit Dig
end Go.Proofs.YtjfjlloibmebeaaGreat

/- nat.isDigits, groupValue and putGroup: what a text's digits are worth. -/
namespace Go.Proofs.YtjfjlloibmebeaaGreat
open Go.RowKit Dig
end Go.Proofs.YtjfjlloibmebeaaGreat

/- nat.Parse: the number of a text of digits, or the error. -/
namespace Go.Proofs.YtjfjlloibmebeaaGreat
open Go.RowKit Dig
end Go.Proofs.YtjfjlloibmebeaaGreat

/- The reference's Digits and Parse: what a text's digits are worth. -/
namespace Go.Proofs.YtjfjlloibmebeaaGreat
open Go.RowKit Dig
end Go.Proofs.YtjfjlloibmebeaaGreat
