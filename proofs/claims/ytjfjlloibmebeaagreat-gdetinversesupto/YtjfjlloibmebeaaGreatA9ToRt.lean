/- gdet: Adjugate, Inverse. -/
import Derived.Test.YtjfjlloibmebeaaGreatA0ToH2a
import Derived.Test.YtjfjlloibmebeaaGreatE13ToE18
import Derived.Test.YtjfjlloibmebeaaGreatScToE17
import Derived.Test.YtjfjlloibmebeaaGreatDtToO3
import Derived.Test.YtjfjlloibmebeaaGreatWkToM1

namespace Go.Proofs.YtjfjlloibmebeaaGreat
open Go Go.RowKit Dig
set_option maxHeartbeats 8000000
set_option maxRecDepth 20000
set_option linter.unusedVariables false
set_option linter.unusedSimpArgs false
theorem perm5 {α : Type} {a b c d e : α} {t z : List α} : (a :: b :: c :: d :: e :: (t ++ z)).Perm (c :: d :: a :: e :: b :: (z ++ t)) := by
 let f : Nat → α := fun i => if i = 0 then a else if i = 1 then b else if i = 2 then c else if i = 3 then d else e
 exact List.Perm.append (l₁ := [a, b, c, d, e]) (l₂ := [c, d, a, e, b]) ((show [0, 1, 2, 3, 4].Perm [2, 3, 0, 4, 1] by decide).map f) List.perm_append_comm
theorem perm5b {α : Type} {a b c d e : α} {t z : List α} : (a :: b :: c :: d :: e :: (t ++ z)).Perm (e :: b :: c :: d :: a :: (z ++ t)) := by
 let f : Nat → α := fun i => if i = 0 then a else if i = 1 then b else if i = 2 then c else if i = 3 then d else e
 exact List.Perm.append (l₁ := [a, b, c, d, e]) (l₂ := [e, b, c, d, a]) ((show [0, 1, 2, 3, 4].Perm [4, 1, 2, 3, 0] by decide).map f) List.perm_append_comm
theorem at2_one2 {n i j : Nat} (hi : i < n) (hj : j < n) : at2 (mkM n n one2) i j = Dt.one i j := by rw [at2_mkM hi hj]; rfl
section
variable {w : World} {la n L ca : Nat} {oa : Option Addr} {A : List (List (Int × Int))}
theorem adjugate_bad (ha : MN la w oa A) (hna : A.length = n) (h : ¬ (gd A ∧ wd A = n)) (hla : n ≤ 1000000000) :
   Calls Tryz.prog 17 #[.slice oa n ca] w fun e w' => e = .returned (.tuple #[.slice none 0 0, .int .i64 4]) ∧ Below w.heap.size w w' := by
 have HS := hide (show ∀ w1, Below w.heap.size w w1 → Calls Tryz.prog 79 #[.slice oa n ca] w1 fun e w' => e = .returned (.bool false) ∧ Below w1.heap.size w1 w' from fun w1 h1 => by
   by_cases hg : gd A
   · have := isSquare_ok (ca := ca) (ha.bl stab_n h1) hna hg rfl
     rw [decide_eq_false (fun c => h ⟨hg, c.symm⟩)] at this
     exact this
   · exact isSquare_bad (ha.bl stab_n h1) hna hg hla)
 clear ha h
 go_enter Tryz.func17, Tryz.ntmps17
 have hs := St.nil w
 refine wp_seq_k fun K1 hK1 => rg [0, 1] ?_
 refine sm ?_
 refine sm ?_
 apply wpSq_end
 refine hK1 _ _ ?_
 refine wp_seq_k ?_
 intro K2 hK2
 refine wp_seq_k fun K3 hK3 => rg [0, 1, 2] ?_
 refine sm ?_
 refine sq ?_
 intro K hK
 have hb := hs.b
 go_big_op
 go_fit (HS.out _ hb)
 rintro e w_1 ⟨rfl, hb_1⟩
 clear hb
 replace hs := hs.bl hb_1
 refine hK _ _ rfl trivial ?_
 clear hK K
 refine sr ?_
 apply wpSq_end
 refine hK3 _ _ ?_
 refine ct ?_
 refine wp_seq_k fun K4 hK4 => rg [0, 1] ?_
 refine sm ?_
 refine sm ?_
 apply wpSq_end
 refine hK4 _ _ ?_
 refine wp_ret ?_
 try dsimp only [Exit.then, Exit.inBlock]
 refine bodyPost_ret (v := (.tuple #[(.slice none 0 0), (.int .i64 4)])) (by simp [results, Tryz.results17, go_sem]) rfl ?_
 exact ⟨rfl, hs.b⟩
theorem adjugate_ok (ha : MN la w oa A) (hna : A.length = n) (h : gd A) (hk : wd A = n) (hB : MinB (n + n) (n + n) L (brd n (at2 A))) (hL : L ≤ 3000000) (hla : la ≤ 9000000) :
   Calls Tryz.prog 17 #[.slice oa n ca] w fun e w' => ∃ o c rs, e = .returned (.tuple #[.slice o n c, .int .i64 0]) ∧ rs.length = n ∧ St w (Mx w.heap.size (.slice o n c) rs) w' ∧ RD w' rs (mkM n n (adjE n (at2 A))) ∧ Below w.heap.size w w' := by
 have HA := hide ha
 have H := hide h
 have HK := hide hk
 have HB := hide hB
 have hn64 : n ≤ 64 := by have := h.1; omega
 have ES : decide (n = n) = true := decide_eq_true rfl
 have B1 := hide (show BdM (la + 1) (mkM n n one2) from bdM_mk fun i _ j _ => zl_one2 _ _ _)
 have HR1 := hide (show ∀ i, i < n → (rw_ (mkM n n one2) i).length = n from fun i hi => by simp [rw_, mkM, List.getD, hi])
 have HBD := hide (fun k B9 odd (hq : QA n (at2 A) k B9 odd) => fun m (_ : m ≤ k) i (hi : i < n + n) j (hj : j < n + n) => hq.2.1.bd hB (by omega) (by omega) m i hi j hj)
 have HAG := hide (show Agr (n + n) (n + n) 0 (brd n (at2 A)) (brd n (at2 A)) from fun i _ j _ _ _ => Dt.D_0.symm)
 have EB := hide (show mkM (n + n) (n + n) (brdG n n (at2 A) (at2 (mkM n n one2))) = mkM (n + n) (n + n) (brd n (at2 A)) from mkM_eq rfl rfl fun i hi j hj => by
   unfold brdG brd
   by_cases c : i < n
   · rw [if_pos c, if_pos c]
   · rw [if_neg c, if_neg c]
     by_cases e : j < n
     · rw [if_pos e, if_pos e, at2_one2 (by omega) e]
     · rw [if_neg e, if_neg e])
 clear ha h hk hB
 go_enter Tryz.func17, Tryz.ntmps17
 have hs := St.nil w
 refine wp_seq_k fun K1 hK1 => rg [0, 1] ?_
 refine sm ?_
 refine sm ?_
 apply wpSq_end
 refine hK1 _ _ ?_
 refine wp_seq_k ?_
 intro K2 hK2
 refine wp_seq_k fun K3 hK3 => rg [0, 1, 2] ?_
 refine sm ?_
 refine sq ?_
 intro K hK
 have hb := hs.b
 go_big_op
 go_fit (isSquare_ok (HA.out.bl stab_n hb) hna H.out HK.out)
 rintro e w_1 ⟨rfl, hb_1⟩
 clear hb
 replace hs := hs.bl hb_1
 rw [ES]
 refine hK _ _ rfl trivial ?_
 clear hK K
 refine sr ?_
 apply wpSq_end
 refine hK3 _ _ ?_
 refine cf ?_
 refine wp_skip ?_
 refine hK2 _ _ ?_
 refine wp_seq_k fun K4 hK4 => rg [0, 1, 2, 3] ?_
 refine sm ?_
 refine sr ?_
 refine sq ?_
 refine .al hs ?_; clear hs; intro p_b1 w_2 hs n2 kb_b1
 refine sq ?_
 refine .s1 hs.g0 (fun _ => hs.u0 kb_b1) ?_; clear hs; intro w_3 hs hd3 ho3
 apply wpSq_end
 refine hK4 _ _ ?_
 refine wp_seq_k fun K5 hK5 => rg [0, 1, 2, 3, 4, 5, 6] ?_
 refine sq ?_
 refine .r1 hs.g0.f1 ?_
 refine sq ?_
 intro K hK
 go_big_op
 go_fit (mIdent_ok hn64)
 rintro e w_4 ⟨o_I, c_I, rs_I, rfl, hl_I, hs_I, d_I, hb_4⟩
 replace hs := hs.mx hl_I hs_I; simp only [List.cons_append, List.nil_append] at hs
 refine hK _ _ rfl trivial ?_
 clear hK K
 refine sm ?_
 refine sr ?_
 refine sr ?_
 refine sm ?_
 refine sm ?_
 apply wpSq_end
 refine hK5 _ _ ?_
 refine wp_seq_k ?_
 intro K6 hK6
 refine wp_region_f4 [(0, false), (1, false), (3, false), (4, false), (2, true), (5, true)] [7, 8] [6] (fun j => (.cells #[.pointer none] 100)) [99, 99, 99, 0, 0, 99, 99, 99, 99] [] (.c hs.g1 .n) (fm fn) fun w_5 n5 => ?_
 replace hs := hs.bl n5
 have hlB := hs.lt; have hkB := hs.k
 refine fmv ?_
 refine fmv ?_
 refine f1 ?_
 refine f1 ?_
 refine fl fun w_6 n6 => ?_
 replace hs := hs.bl n6
 intro K hK
 have k4_6 := (kb n5).b n6
 replace d_I := d_I.k k4_6
 go_big_op
 go_fit (bordered_new (la := la) (lb := la + 1) (B := mkM n n one2) hs HA.out hna H.out HK.out ((MCof (c := c_I) hs (by simp) rfl (fun r hr ↦ by simp [List.mem_map_of_mem hr]) hl_I d_I).mn B1.out) len_mkM HR1.out (fun _ ↦ rfl) (by omega) (by omega) (by omega) (by omega))
 have bb7 := hs.b
 rintro e w_7 ⟨p_t, o_t, c_t, rs_t, rfl, kb_bt, hl_t, hd, HBL, hs', kp7⟩
 clear hs; have hs := hs'; clear hs'
 have bc7 := hs.b
 clear bb7 bc7
 rw [EB.out] at hd
 refine hK _ _ rfl ⟨HBL, (And.intro hs.g3 trivial)⟩ ?_
 clear hK K
 refine fl fun w_8 n8 => ?_
 replace hs := hs.bl n8
 intro K hK
 go_big_op
 go_fit (blank_any (r := n) (k := n) (by omega) (by omega))
 rintro e w_9 ⟨o_Z, c_Z, rs_Z, rfl, hl_Z, hs_Z, d_Z, hb_9⟩
 replace hs := hs.mx hl_Z hs_Z; simp only [List.cons_append, List.nil_append] at hs
 refine hK _ _ rfl ⟨hb_9, (And.intro hs.g4 trivial)⟩ ?_
 clear hK K
 refine e1t hs ((show AllT 100 _ from .ls (.ls (.bx (.ls (.bx (.app (.app .rows .rows) .rows))))))) hkB ?_; clear hs hlB hkB; intro w_10 p_b2 hs n10 kb_b2
 refine tl ?_
 refine .s1 hs.g0 (fun _ => hs.u0 kb_b2) ?_ (e := fun _ hs => (And.intro hs.g5 True.intro)); clear hs; intro w_11 hs hd11 ho11
 refine tl ?_
 refine .mv ?_ (e := (And.intro hs.g5 True.intro))
 apply wpTail_end
 refine hK6 _ _ ?_
 refine wp_seq_k fun K7 hK7 => rg [0, 1, 2, 3, 4, 5, 6] ?_
 refine sq ?_
 refine .r1 hs.g0.f1 ?_
 refine sr ?_
 refine sr ?_
 refine sq ?_
 refine .r4 hs.g3.f4 ?_
 refine sr ?_
 have hs : St w (ls w.heap.size 51 1 (.slice o_t (n + n) c_t) (n + n) (rs_t.map (·.v)) :: bx p_t #[.slice o_t (n + n) c_t, .int .i64 (n : Int), .int .i64 (n : Int), .bool false] 105 :: ((bx p_b2 #[.pointer (some ⟨p_t, 0, none⟩)] 100 :: bx p_b1 #[.int .i64 (n : Int)] 3 :: ls w.heap.size 51 1 (.slice o_Z n c_Z) n (rs_Z.map (·.v)) :: rs_Z.map (Rw.e w.heap.size)) ++ rs_t.map (Rw.e w.heap.size))) w_11 := (hs.sub (.cons_cons _ (.cons_cons _ (.cons_cons _ (.cons_cons _ (.cons _ (.cons_cons _ (List.Sublist.append (List.sublist_append_right _ _) (List.Sublist.refl _))))))))).perm perm5
 refine sq ?_
 intro K hK
 have k7_11 := (((kb n8).b hb_9).b n10).o hd11 ho11
 replace hd := hd.k k7_11
 go_big_op
 go_fit (eliminate_any (bs := bx p_b2 #[.pointer (some ⟨p_t, 0, none⟩)] 100 :: bx p_b1 #[.int .i64 (n : Int)] 3 :: ls w.heap.size 51 1 (.slice o_Z n c_Z) n (rs_Z.map (·.v)) :: rs_Z.map (Rw.e w.heap.size)) hs kb_bt entP_adj (pivS_adj kb_bt hn64 HB.out hL) ⟨_, List.Perm.refl _⟩ QA.zero HAG.out hl_t hd (by omega) (by omega) HBD.out hL)
 have bb12 := hs.b
 rintro e w_12 ⟨o9, c9, xs, r, A2, F2, odd2, rs2, rfl, hF, hQ, hL9, hA2, hl2, hd2, hs', kp12⟩
 clear hs; have hs := hs'; clear hs'
 have bc12 := hs.b
 clear bb12 bc12
 refine hK _ _ rfl trivial ?_
 clear hK K
 refine sm ?_
 apply wpSq_end
 refine hK7 _ _ ?_
 refine wp_seq_k ?_
 intro K8 hK8
 refine wp_seq_k fun K9 hK9 => rg [0, 1, 2, 3] ?_
 refine sm ?_
 refine sr ?_
 refine sq ?_
 refine .r1 hs.g4.f1 ?_
 refine sr ?_
 apply wpSq_end
 refine hK9 _ _ ?_
 have HF := hide hF
 have HQ := hide hQ
 have HA2 := hide hA2
 have HADJ := hide (fun i j (hi : i < n) (hj : j < n) => hF.adj hQ hi hj)
 have hrn := hQ.1
 obtain ⟨G, hG⟩ : ∃ G, G = adjE n (at2 A) := ⟨_, rfl⟩
 rw [← hG] at HADJ
 have HG := hide hG
 clear hF hQ hA2
 by_cases hr : r = n
 · have HRN := hide hr
   have hge : n ≤ r := by omega
   clear hr hrn
   have HBF := hide (show ∀ i, i < n → ∀ j, j < n → zl L (F2 (n + i) (n + j)) from fun i hi j hj => by
     rw [HA2.out (n + i) (by omega) (n + j) (by omega) (by have := HRN.out; omega) (by have := HRN.out; omega)]
     exact HQ.out.2.1.bd HB.out (by omega) (by omega) _ _ (by omega) _ (by omega))
   have HGF := hide (show ∀ i, i < n → ∀ j, j < n → G i j = sgb odd2 (-(F2 (n + i) (n + j)).1, -(F2 (n + i) (n + j)).2) from fun i hi j hj => by
     have h1 := (HADJ.out i j hi hj).1 HRN.out
     rw [HA2.out (n + i) (by omega) (n + j) (by omega) (by have := HRN.out; omega) (by have := HRN.out; omega), HRN.out]
     exact h1)
   refine cf ?_
   refine wp_skip ?_
   refine hK8 _ _ ?_
   refine wp_seq_k ?_
   intro K10 hK10
   refine wp_seq_k fun K11 hK11 => rg [0, 1, 2] ?_
   refine sm ?_
   refine sr ?_
   refine sm ?_
   apply wpSq_end
   refine hK11 _ _ ?_
   refine wp_block ?_
   have k9_12 := ((kb n10).o hd11 ho11).t kp12
   replace d_Z := d_Z.k k9_12
   have hs := (hs.sub (.cons _ (List.Sublist.refl _))).perm (show List.Perm (_ :: _ :: _ :: _ :: _ :: (rs_Z.map (Rw.e w.heap.size) ++ rs2.map (Rw.e w.heap.size))) _ from perm5b)
   have hd13 := hs.2.1
   go_loopg [42] n (fun kz s42 wr => ∃ (i : Nat) (rs : List Rw), s42 = .int .i64 (i : Int) ∧ i + kz = n ∧ rs.length = n ∧ RD wr rs (mkM n n (fi G i 0)) ∧ RD wr rs2 (mkM (n + n) (n + n) F2) ∧ St w (ls w.heap.size 51 1 (.slice o_Z n c_Z) n (rs.map (·.v)) :: ((bx p_t #[.slice o_t (n + n) c_t, .int .i64 (n : Int), .int .i64 (n : Int), .bool odd2] 105 :: bx p_b2 #[.pointer (some ⟨p_t, 0, none⟩)] 100 :: bx p_b1 #[.int .i64 (n : Int)] 3 :: []) ++ ls w.heap.size 51 1 (.slice o_t (n + n) c_t) (n + n) (rs2.map (·.v)) :: (rs2.map (Rw.e w.heap.size) ++ rs.map (Rw.e w.heap.size)))) wr)
   case atStart => exact ⟨0, rs_Z, rfl, by omega, hl_Z, by rw [← fi_0]; exact d_Z, hd2, hs⟩
   case round =>
   clear hd d_Z hL9 hd2 d_I hs
   obtain ⟨i, rs, rfl, hin, hrl, hd, hd2, hs⟩ := hrel
   have HO := ‹∀ (a' : Act) (w' : World), Handed _ _ a' w' → _›
   obtain ⟨g1, hg1⟩ : ∃ g, gk = g := ⟨_, rfl⟩
   by_cases hi : i < n
   · have HI := hide hi
     have t3 : ((i : Int) < (n : Int)) = True := eq_true (by omega)
     obtain ⟨oi, ci, hvi⟩ := St.rowv (bs := (bx p_t #[.slice o_t (n + n) c_t, .int .i64 (n : Int), .int .i64 (n : Int), .bool odd2] 105 :: bx p_b2 #[.pointer (some ⟨p_t, 0, none⟩)] 100 :: bx p_b1 #[.int .i64 (n : Int)] 3 :: []) ++ ls w.heap.size 51 1 (.slice o_t (n + n) c_t) (n + n) (rs2.map (·.v)) :: rs2.map (Rw.e w.heap.size)) (by rw [List.append_assoc, List.cons_append]; exact hs) hd (p := i) (K := n) (by rw [len_mkM]; exact hi) (by rw [mkM_row hi]; simp)
     have LO : Lst wr w.heap.size 51 1 (.slice o_Z n c_Z) n _ := hs.1.1.1
     obtain ⟨gZ, curZ, rfl, xZ, hcZ⟩ := LO.box (by omega)
     have eI := hcZ _ _ hvi
     clear LO hcZ
     refine wp_seq_k fun K12 hK12 => rg [0] ?_
     refine sr ?_
     apply wpSq_end
     refine hK12 _ _ ?_
     refine wp_seq_k ?_
     intro K13 hK13
     refine ct ?_
     refine wp_skip ?_
     refine hK13 _ _ ?_
     refine wp_seq_k ?_
     intro K14 hK14
     refine wp_block ?_
     refine wp_seq_k fun K15 hK15 => rg [0, 1, 2, 3, 4] ?_
     refine sm ?_
     refine sr ?_
     refine sq ?_
     refine .r1 (xZ.cell _ eI) ?_
     refine sm ?_
     refine sm ?_
     apply wpSq_end
     refine hK15 _ _ ?_
     refine wp_seq_k fun K16 hK16 => rg [0, 1, 2] ?_
     refine sm ?_
     refine sr ?_
     refine sm ?_
     apply wpSq_end
     refine hK16 _ _ ?_
     refine wp_block ?_
     have hd14 := hs.2.1
     go_loopg [49] n (fun kz s49 wr => ∃ (j : Nat) (rs : List Rw), s49 = .int .i64 (j : Int) ∧ j + kz = n ∧ rs.length = n ∧ RD wr rs (mkM n n (fi G i j)) ∧ (rs.map (·.v))[i]? = some (.slice oi n ci) ∧ RD wr rs2 (mkM (n + n) (n + n) F2) ∧ St w (ls w.heap.size 51 1 (.slice (some ⟨gZ, 0, none⟩) n c_Z) n (rs.map (·.v)) :: ((bx p_t #[.slice o_t (n + n) c_t, .int .i64 (n : Int), .int .i64 (n : Int), .bool odd2] 105 :: bx p_b2 #[.pointer (some ⟨p_t, 0, none⟩)] 100 :: bx p_b1 #[.int .i64 (n : Int)] 3 :: []) ++ ls w.heap.size 51 1 (.slice o_t (n + n) c_t) (n + n) (rs2.map (·.v)) :: (rs2.map (Rw.e w.heap.size) ++ rs.map (Rw.e w.heap.size)))) wr)
     case atStart => exact ⟨0, rs, rfl, by omega, hrl, hd, hvi, hd2, hs⟩
     case round =>
     clear hrl hvi
     clear hd hd2 xZ hs
     obtain ⟨j, rs, rfl, hjn, hrl, hd, hri, hd2, hs⟩ := hrel
     have HRI := hide hri
     clear hri
     by_cases hj : j < n
     · have HJ := hide hj
       have t4 : ((j : Int) < (n : Int)) = True := eq_true (by omega)
       obtain ⟨r1, gr, cr, ys, r2, s1, gs, cs, zs, s2, er, hr1, hrv, hx, es, hs1, hsv, hy, hs⟩ := hs.row2c (Cs := bx p_t #[.slice o_t (n + n) c_t, .int .i64 (n : Int), .int .i64 (n : Int), .bool odd2] 105 :: bx p_b2 #[.pointer (some ⟨p_t, 0, none⟩)] 100 :: bx p_b1 #[.int .i64 (n : Int)] 3 :: []) hd (p := i) (K := n) (by rw [len_mkM]; exact HI.out) (by rw [mkM_row HI.out]; simp) (by omega) hd2 (q := n + i) (J := n + n) (by rw [len_mkM]; have := HI.out; omega) (by rw [mkM_row (by have := HI.out; omega)]; simp) (by omega)
       have hri := HRI.out
       rw [hrv] at hri
       simp only [Option.some.injEq, Value.slice.injEq, true_and] at hri
       obtain ⟨rfl, rfl⟩ := hri
       have ES := hide es
       subst er
       have LT9 : Lst wr w.heap.size 51 1 (.slice o_t (n + n) c_t) (n + n) _ := hs.1.2.2.2.1.1
       obtain ⟨gT, curT, rfl, xT, hcT⟩ := LT9.box (by omega)
       have eT := hcT _ _ hsv
       have LS : Lst wr w.heap.size 38 4 (.slice (some ⟨gs, 0, none⟩) (n + n) cs) (n + n) zs := hs.1.2.2.1.1
       obtain ⟨gs', curS, eS, xS, hcS⟩ := LS.box (by omega)
       simp only [Option.some.injEq, Addr.mk.injEq, and_true] at eS
       obtain rfl : gs = gs' := eS
       rw [mkM_row (by have := HI.out; omega)] at hy
       obtain ⟨a1, a2, a3, a4, a5, a6, a7, a8, ee1, ee2, ee3, ee4, x1, x2⟩ := hy.els (n + j) (by simpa using hj)
       rw [show ((List.range (n + n)).map (F2 (n + i)))[n + j]'(by simpa using hj) = F2 (n + i) (n + j) by simp] at x1 x2
       replace ee1 := hcS _ _ ee1
       replace ee2 := hcS _ _ ee2
       replace ee3 := hcS _ _ ee3
       replace ee4 := hcS _ _ ee4
       have LX := hide (HBF.out i HI.out j hj)
       have HGE := hide (HGF.out i HI.out j hj)
       replace x1 := x1.zn LX.out.1
       replace x2 := x2.zn LX.out.2
       obtain ⟨X, hX⟩ : ∃ X, F2 (n + i) (n + j) = X := ⟨_, rfl⟩
       rw [hX] at x1 x2 LX HGE
       have LNG := hide (show zl L (-X.1, -X.2) from ⟨Nat.le_trans (Nat.le_of_eq (by rw [Int.natAbs_neg])) LX.out.1, Nat.le_trans (Nat.le_of_eq (by rw [Int.natAbs_neg])) LX.out.2⟩)
       clear LT9 hcT hsv LS hcS hy hrv hX es
       refine wp_seq_k fun K17 hK17 => rg [0] ?_
       refine sr ?_
       apply wpSq_end
       refine hK17 _ _ ?_
       refine wp_seq_k ?_
       intro K18 hK18
       refine ct ?_
       refine wp_skip ?_
       refine hK18 _ _ ?_
       refine wp_seq_k ?_
       intro K19 hK19
       refine wp_block ?_
       refine wp_seq_k fun K20 hK20 => rg [0, 1] ?_
       refine sm ?_
       refine sm ?_
       apply wpSq_end
       refine hK20 _ _ ?_
       refine wp_region_f4 [(0, false), (1, false), (2, false), (3, false), (4, false), (5, false), (6, false), (7, false), (8, false), (9, false), (10, false), (11, false), (12, false), (13, false), (14, false), (15, false), (16, false), (17, true), (18, true), (19, false)] [20] [] (fun _ => default) [99, 99, 0, 0, 99, 99, 1, 2, 99, 99, 99, 3, 2, 99, 99, 99, 4, 99, 99, 99, 99] [] (.c hs.g5 (.c hs.g4 (.c hs.g6 (.c xT (.c xS .n))))) fn fun w_15 n15 => ?_
       replace xT := xT.bl n15; replace xS := xS.bl n15; replace hs := hs.bl n15
       refine fmv ?_
       refine fmv ?_
       refine f1 ?_
       refine f1 ?_
       refine f0 ?_
       refine f0 ?_
       refine f4 ?_
       refine f1 ?_
       refine fmv ?_
       refine f0 ?_
       refine f0 ?_
       apply wpFl_ld rfl rfl; (case h1 => intro w' hC K hK; have c0 := Bs.cell hC ((n + i)) eT; go_big_op; exact hK); iterate 4 kernel_rfl
       refine f1 ?_
       refine fmv ?_
       refine f0 ?_
       refine f0 ?_
       apply wpFl_ld rfl rfl; (case h1 => intro w' hC K hK; have c0 := Bs.cell hC (((n + j) * 4)) ee1; have c1 := Bs.cell hC (((n + j) * 4) + 1) ee2; have c2 := Bs.cell hC (((n + j) * 4) + 2) ee3; have c3 := Bs.cell hC (((n + j) * 4) + 3) ee4; go_big_op; exact hK); iterate 4 kernel_rfl
       refine fl fun w_16 n16 => ?_
       replace xT := xT.bl n16; replace xS := xS.bl n16; replace hs := hs.bl n16
       intro K hK
       have k0_2 := (kb n15).b n16
       replace x1 := x1.k k0_2
       replace x2 := x2.k k0_2
       go_big_op
       go_fit (gNeg_any (.mk' x1 x2) (by omega) (by omega))
       rintro e w_17 ⟨_, rfl, ⟨n_ga, o_ga, k_ga, c_ga, n_gb, o_gb, k_gb, c_gb, rfl, g1, g2⟩, hb_17⟩
       replace xT := xT.bl hb_17; replace xS := xS.bl hb_17; replace hs := hs.bl hb_17
       refine hK _ _ rfl ⟨hb_17, (And.intro hs.g5 (And.intro hs.g4 (And.intro hs.g6 (And.intro xT (And.intro xS trivial)))))⟩ ?_
       clear hK K
       refine fl fun w_18 n18 => ?_
       replace xT := xT.bl n18; replace xS := xS.bl n18; replace hs := hs.bl n18
       intro K hK
       have k3_4 := kb n18
       replace g1 := g1.k k3_4
       replace g2 := g2.k k3_4
       go_big_op
       go_fit (dsigned_any (L := L) hs.g4 (.mk' g1 g2) LNG.out hL)
       rintro e w_19 ⟨_, rfl, ⟨n_sa, o_sa, k_sa, c_sa, n_sb, o_sb, k_sb, c_sb, rfl, s1, s2⟩, hb_19⟩
       replace xT := xT.bl hb_19; replace xS := xS.bl hb_19; replace hs := hs.bl hb_19
       refine hK _ _ rfl ⟨hb_19, (And.intro hs.g5 (And.intro hs.g4 (And.intro hs.g6 (And.intro xT (And.intro xS trivial)))))⟩ ?_
       clear hK K
       refine f0 ?_
       refine e0 hs ?_; clear hs; intro w_20 hs n20
       replace xT := xT.bl n20; replace xS := xS.bl n20
       refine tl ?_
       refine .i4 0 hs (j := j) (by exact HJ.out) ?_ (e := fun _ hB hO => (And.intro (hs.g5.frame hO (hs.ne 5 0)) (And.intro (hs.g4.frame hO (hs.ne 4 0)) (And.intro (hs.g6.frame hO (hs.ne 6 0)) (And.intro (xT.frame hO (hs.ne 3 0)) (And.intro (xS.frame hO (hs.ne 2 0)) True.intro)))))); clear hs; intro w_21 hs kp21 hd21 ho21 hw21; simp only [List.set_cons_zero] at hs
       clear xT
       clear xS
       apply wpTail_end
       refine hK19 _ _ ?_
       refine rg [0, 1] ?_
       refine sr ?_
       refine sm ?_
       apply wpSq_end
       have k0_7 := ((((k0_2.b hb_17).b n18).b hb_19).b n20).t kp21
       replace hd := hd.k k0_7
       replace hd2 := hd2.k k0_7
       replace hx := hx.k k0_7
       have k5_7 := (kb n20).t kp21
       replace s1 := s1.k k5_7
       replace s2 := s2.k k5_7
       refine ‹∀ (a' : Act) (w' : World), Handed _ _ a' w' → _› _ _ ?_
       have e9 := ES.out
       subst e9
       go_roundg (gk - 1)
       case rel => exact ⟨j + 1, _, by rfl, by omega, by simpa using hrl, RD.fi hd hr1 HI.out HJ.out hx (by rw [HGE.out]; exact s1) (by rw [HGE.out]; exact s2), (by rw [List.map_append, List.map_cons, List.getElem?_append_right (by simp [hr1])]; simp [hr1]), hd2, hs.unrow2c⟩
       case measure => omega
     · have HJ := hide (show j = n by omega)
       have t4 : ((j : Int) < (n : Int)) = False := eq_false (by omega)
       refine wp_seq_k fun K17 hK17 => rg [0] ?_
       refine sr ?_
       apply wpSq_end
       refine hK17 _ _ ?_
       refine wp_seq_k ?_
       intro K18 hK18
       refine cf ?_
       refine wp_exit ?_
       refine hK14 _ _ ?_
       refine rg [0, 1] ?_
       refine sr ?_
       refine sm ?_
       apply wpSq_end
       have hd8 := hd
       rw [HJ.out, fi_row] at hd8
       refine HO _ _ ?_
       go_roundg (g1 - 1)
       case rel => exact ⟨i + 1, rs, by rfl, by omega, hrl, hd8, hd2, hs⟩
       case measure => omega
   · have HI := hide (show i = n by omega)
     have t3 : ((i : Int) < (n : Int)) = False := eq_false (by omega)
     refine wp_seq_k fun K12 hK12 => rg [0] ?_
     refine sr ?_
     apply wpSq_end
     refine hK12 _ _ ?_
     refine wp_seq_k ?_
     intro K13 hK13
     refine cf ?_
     refine wp_exit ?_
     refine hK10 _ _ ?_
     refine wp_seq_k fun K14 hK14 => rg [0, 1, 2] ?_
     refine sm ?_
     refine sm ?_
     refine sm ?_
     apply wpSq_end
     refine hK14 _ _ ?_
     refine wp_ret ?_
     have hd8 := hd
     rw [HI.out, fi_end, HG.out] at hd8
     have hs9 := hs.sub (show List.Sublist (ls w.heap.size 51 1 (.slice o_Z n c_Z) n (rs.map (·.v)) :: rs.map (Rw.e w.heap.size)) (_ :: _ :: _ :: _ :: _ :: (rs2.map (Rw.e w.heap.size) ++ rs.map (Rw.e w.heap.size))) from .cons_cons _ (.cons _ (.cons _ (.cons _ (.cons _ (List.sublist_append_right _ _))))))
     try dsimp only [Exit.then, Exit.inBlock]
     refine bodyPost_ret (v := (.tuple #[(.slice o_Z n c_Z), (.int .i64 0)])) (by simp [results, Tryz.results17, go_sem]) rfl ?_
     exact ⟨_, _, rs, rfl, hrl, (by unfold Mx; rw [hrl]; exact hs9), hd8, hs.b⟩
 · have hlt : r < n := by omega
   have HR := hide hr
   clear hr
   refine ct ?_
   refine wp_seq_k fun K10 hK10 => rg [0, 1, 2] ?_
   refine sm ?_
   refine sm ?_
   refine sm ?_
   apply wpSq_end
   refine hK10 _ _ ?_
   refine wp_ret ?_
   have k9_12 := ((kb n10).o hd11 ho11).t kp12
   replace d_Z := d_Z.k k9_12
   have hd9 : RD w_12 rs_Z (mkM n n (adjE n (at2 A))) := by
     rw [← HG.out, ← show mkM n n (fun _ _ => ((0 : Int), (0 : Int))) = mkM n n G from mkM_eq rfl rfl fun i hi j hj => ((HADJ.out i j hi hj).2 HR.out).symm]
     exact d_Z
   have hs9 := hs.sub (show List.Sublist (ls w.heap.size 51 1 (.slice o_Z n c_Z) n (rs_Z.map (·.v)) :: rs_Z.map (Rw.e w.heap.size)) (_ :: _ :: _ :: _ :: _ :: _ :: (rs_Z.map (Rw.e w.heap.size) ++ rs2.map (Rw.e w.heap.size))) from .cons _ (.cons _ (.cons _ (.cons _ (.cons _ (.cons_cons _ (List.sublist_append_left _ _)))))))
   try dsimp only [Exit.then, Exit.inBlock]
   refine bodyPost_ret (v := (.tuple #[(.slice o_Z n c_Z), (.int .i64 0)])) (by simp [results, Tryz.results17, go_sem]) rfl ?_
   exact ⟨_, _, rs_Z, rfl, hl_Z, (by unfold Mx; rw [hl_Z]; exact hs9), hd9, hs.b⟩
end
end Go.Proofs.YtjfjlloibmebeaaGreat

/- Own matrices whose numbers can be read, canonical or not. -/
namespace Go.Proofs.YtjfjlloibmebeaaGreat
open Go Go.RowKit Dig
set_option linter.unusedVariables false
variable {l : Nat}
def Gl (l : Nat) (w : World) : List Value → List (Int × Int) → Prop
 | [], [] => True
 | c1 :: c2 :: c3 :: c4 :: xs, p :: ps => PN w (.agg #[c1, c2, c3, c4]) p.1 l p.2 l ∧ Gl l w xs ps
 | _, _ => False
theorem Gl.k' {w w' : World} (k : Kp w w') : ∀ {xs : List Value} {ps : List (Int × Int)}, Gl l w xs ps → Gl l w' xs ps
 | [], [], _ => trivial
 | _ :: _ :: _ :: _ :: _, _ :: _, h => ⟨h.1.k k, Gl.k' k h.2⟩
theorem Gl.k {w w' : World} {xs : List Value} {ps : List (Int × Int)} (h : Gl l w xs ps) (k : Kp w w') : Gl l w' xs ps := Gl.k' k h
theorem Gl.of {w : World} : ∀ {xs : List Value} {ps : List (Int × Int)}, GD w xs ps → Bd l ps → Gl l w xs ps
 | [], [], _, _ => trivial
 | _ :: _ :: _ :: _ :: _, p :: _, h, hb => ⟨h.1.pn (hb p (List.mem_cons_self ..)).1 (hb p (List.mem_cons_self ..)).2, Gl.of h.2 fun q hq => hb q (List.mem_cons_of_mem _ hq)⟩
theorem Gl.len {w : World} : ∀ {xs : List Value} {ps : List (Int × Int)}, Gl l w xs ps → xs.length = ps.length * 4
 | [], [], _ => rfl
 | _ :: _ :: _ :: _ :: xs, _ :: ps, h => by have := Gl.len h.2; simp only [List.length_cons]; omega
theorem Gl.get {w : World} : ∀ {xs : List Value} {ps : List (Int × Int)} {i : Nat}, Gl l w xs ps → (h : i < ps.length) → ∃ c1 c2 c3 c4, xs[i * 4]? = some c1 ∧ xs[i * 4 + 1]? = some c2 ∧ xs[i * 4 + 2]? = some c3 ∧ xs[i * 4 + 3]? = some c4 ∧ PN w (.agg #[c1, c2, c3, c4]) ps[i].1 l ps[i].2 l
 | [], [], _, _, hi => absurd hi (Nat.not_lt_zero _)
 | c1 :: c2 :: c3 :: c4 :: xs, p :: ps, 0, h, _ => ⟨c1, c2, c3, c4, rfl, rfl, rfl, rfl, h.1⟩
 | c1 :: c2 :: c3 :: c4 :: xs, p :: ps, i + 1, h, hi => by
   obtain ⟨d1, d2, d3, d4, e1, e2, e3, e4, hp⟩ := Gl.get (i := i) h.2 (by simpa using hi)
   have e : ∀ j, (c1 :: c2 :: c3 :: c4 :: xs)[(i + 1) * 4 + j]? = xs[i * 4 + j]? := fun j => by
     rw [show (i + 1) * 4 + j = i * 4 + j + 1 + 1 + 1 + 1 by omega]; rfl
   exact ⟨d1, d2, d3, d4, (e 0).trans e1, (e 1).trans e2, (e 2).trans e3, (e 3).trans e4, hp⟩
theorem Gl.at {w : World} {xs : List Value} {ps : List (Int × Int)} {i : Nat} (h : Gl l w xs ps) (hi : i < ps.length) : ∃ n1 o1 k1 c1 n2 o2 k2 c2, xs[i * 4]? = some (.bool n1) ∧ xs[i * 4 + 1]? = some (.slice o1 k1 c1) ∧ xs[i * 4 + 2]? = some (.bool n2) ∧ xs[i * 4 + 3]? = some (.slice o2 k2 c2) ∧ ZN w (.agg #[.bool n1, .slice o1 k1 c1]) ps[i].1 l ∧ ZN w (.agg #[.bool n2, .slice o2 k2 c2]) ps[i].2 l := by
 obtain ⟨a1, a2, a3, a4, e1, e2, e3, e4, n1, o1, k1, c1, n2, o2, k2, c2, hv, z1, z2⟩ := h.get hi
 simp only [Value.agg.injEq, Array.mk.injEq, List.cons.injEq, and_true] at hv
 obtain ⟨rfl, rfl, rfl, rfl⟩ := hv
 exact ⟨n1, o1, k1, c1, n2, o2, k2, c2, e1, e2, e3, e4, z1, z2⟩
theorem Gl.put {w : World} {n1 n2 : Bool} {o1 o2 : Option Addr} {k1 c1 k2 c2 : Nat} {x y : Int} (h1 : ZN w (.agg #[.bool n1, .slice o1 k1 c1]) x l) (h2 : ZN w (.agg #[.bool n2, .slice o2 k2 c2]) y l) :
   ∀ {xs : List Value} {ps : List (Int × Int)} {q : Nat}, Gl l w xs ps → q < ps.length →
   Gl l w (setL xs [(q * 4, .bool n1), (q * 4 + 1, .slice o1 k1 c1), (q * 4 + 2, .bool n2), (q * 4 + 3, .slice o2 k2 c2)]) (ps.set q (x, y)) := by
 intro xs
 induction hn : xs.length using Nat.strongRecOn generalizing xs with
 | _ n ih =>
   intro ps q hd hq
   have hl := hd.len
   match xs, ps, hd with
   | a :: b :: c :: d :: xs, p :: ps, hd =>
     cases q with
     | zero => exact ⟨.mk' h1 h2, hd.2⟩
     | succ q =>
       have := ih xs.length (by rw [← hn]; simp only [List.length_cons]; omega) rfl hd.2 (q := q) (by simpa using hq)
       simp only [setL, List.set_cons_succ, show (q + 1) * 4 = q * 4 + 1 + 1 + 1 + 1 by omega, List.set_cons_succ, show q * 4 + 1 + 1 + 1 + 1 + 1 = (q * 4 + 1) + 1 + 1 + 1 + 1 by omega, show q * 4 + 1 + 1 + 1 + 1 + 2 = (q * 4 + 2) + 1 + 1 + 1 + 1 by omega, show q * 4 + 1 + 1 + 1 + 1 + 3 = (q * 4 + 3) + 1 + 1 + 1 + 1 by omega]
       exact ⟨hd.1, this⟩
   | [], [], _ => exact absurd hq (Nat.not_lt_zero _)
def RL (l : Nat) (w : World) : List Rw → List (List (Int × Int)) → Prop
 | [], [] => True
 | r :: rs, p :: Ms => (r.n = p.length ∧ Gl l w r.xs p) ∧ RL l w rs Ms
 | _, _ => False
theorem RL.of {w : World} : ∀ {rs : List Rw} {Ms : List (List (Int × Int))}, RD w rs Ms → BdM l Ms → RL l w rs Ms
 | [], [], _, _ => trivial
 | _ :: _, p :: _, h, hb => ⟨⟨h.1.1, Gl.of h.1.2 (hb p (List.mem_cons_self ..))⟩, RL.of h.2 fun q hq => hb q (List.mem_cons_of_mem _ hq)⟩
theorem RL.k {w w' : World} (k : Kp w w') : ∀ {rs : List Rw} {Ms : List (List (Int × Int))}, RL l w rs Ms → RL l w' rs Ms
 | [], [], _ => trivial
 | _ :: _, _ :: _, h => ⟨⟨h.1.1, h.1.2.k k⟩, RL.k k h.2⟩
theorem RL.len {w : World} : ∀ {rs : List Rw} {Ms : List (List (Int × Int))}, RL l w rs Ms → rs.length = Ms.length
 | [], [], _ => rfl
 | _ :: _, _ :: _, h => by simp [RL.len h.2]
theorem RL.get {w : World} : ∀ {rs : List Rw} {Ms : List (List (Int × Int))}, RL l w rs Ms → ∀ i (hi : i < Ms.length), ∃ r, rs[i]? = some r ∧ r.n = Ms[i].length ∧ Gl l w r.xs Ms[i]
 | [], [], _, i, hi => absurd hi (Nat.not_lt_zero _)
 | r :: rs, p :: Ms, h, 0, hi => ⟨r, rfl, h.1⟩
 | r :: rs, p :: Ms, h, i + 1, hi => by
   obtain ⟨r', h1, h2⟩ := RL.get h.2 i (by simpa using hi)
   exact ⟨r', by simpa using h1, by simpa using h2⟩
theorem RL.at' {w : World} : ∀ {rs : List Rw} {Ms : List (List (Int × Int))} {p : Nat}, RL l w rs Ms → (hp : p < Ms.length) → ∃ r1 r r2, rs = r1 ++ r :: r2 ∧ r1.length = p ∧ r.n = Ms[p].length ∧ Gl l w r.xs Ms[p]
 | [], [], p, _, hp => absurd hp (Nat.not_lt_zero _)
 | r :: rs, m :: Ms, 0, h, _ => ⟨[], r, rs, rfl, rfl, h.1⟩
 | r :: rs, m :: Ms, p + 1, h, hp => by
   obtain ⟨r1, r', r2, rfl, h1, h2⟩ := RL.at' (p := p) h.2 (by simpa using hp)
   exact ⟨r :: r1, r', r2, rfl, by simp [h1], by simpa using h2⟩
theorem RL.set' {w : World} {v : Value} {n : Nat} {xs : List Value} {m : List (Int × Int)} {r : Rw} {r2 : List Rw} (hn : n = m.length) (hg : Gl l w xs m) : ∀ {r1 : List Rw} {Ms : List (List (Int × Int))} {p : Nat}, RL l w (r1 ++ r :: r2) Ms → r1.length = p → RL l w (r1 ++ (⟨v, n, xs⟩ : Rw) :: r2) (Ms.set p m)
 | [], _ :: Ms, p, h, hp => by subst hp; exact ⟨⟨hn, hg⟩, h.2⟩
 | a :: r1, b :: Ms, p, h, hp => by subst hp; exact ⟨h.1, RL.set' hn hg h.2 rfl⟩
 | [], [], p, h, _ => h.elim
 | _ :: _, [], p, h, _ => h.elim
section
variable {w0 w : World} {v : Value} {n p K : Nat} {rs r1 r2 : List Rw} {bs : List En} {Ms : List (List (Int × Int))}
theorem St.rowL (hs : St w0 (ls w0.heap.size 51 1 v n (rs.map (·.v)) :: (bs ++ rs.map (Rw.e w0.heap.size))) w) (hd : RL l w rs Ms) (hp : p < Ms.length) (hK : Ms[p].length = K) (h0 : 0 < K) :
   ∃ r1 g c xs r2, rs = r1 ++ (⟨.slice (some ⟨g, 0, none⟩) K c, K, xs⟩ : Rw) :: r2 ∧ r1.length = p ∧ (rs.map (·.v))[p]? = some (.slice (some ⟨g, 0, none⟩) K c) ∧ Gl l w xs Ms[p] ∧
     St w0 (ls w0.heap.size 38 4 (.slice (some ⟨g, 0, none⟩) K c) K xs :: ls w0.heap.size 51 1 v n (rs.map (·.v)) :: (bs ++ (r1 ++ r2).map (Rw.e w0.heap.size))) w := by
 obtain ⟨r1, r, r2, rfl, h1, h2, h3⟩ := hd.at' hp
 obtain ⟨rv, rn, xs⟩ := r
 simp only at h2 h3
 rw [hK] at h2
 subst h2
 have hs2 := hs.perm (cs := Rw.e w0.heap.size ⟨rv, rn, xs⟩ :: ls w0.heap.size 51 1 v n ((r1 ++ (⟨rv, rn, xs⟩ : Rw) :: r2).map (·.v)) :: (bs ++ (r1 ++ r2).map (Rw.e w0.heap.size))) (by
   refine (List.Perm.cons _ ?_).trans (List.Perm.swap _ _ _)
   rw [List.map_append, List.map_cons, List.map_append, ← List.append_assoc, ← List.append_assoc]
   exact List.perm_middle)
 have L : Lst w w0.heap.size 38 4 rv rn xs := hs2.1.1.1
 obtain ⟨o, c, rfl⟩ := L.shape
 obtain ⟨g, cur, rfl, _, _⟩ := L.box h0
 exact ⟨r1, g, c, xs, r2, rfl, h1, by rw [List.map_append, List.map_cons, List.getElem?_append_right (by simp [h1])]; simp [h1], h3, hs2⟩
end
section
variable {n k i j : Nat} {G : Nat → Nat → Int × Int}
theorem RL.fi {w : World} {r1 r2 : List Rw} {r : Rw} {x : Value} {xs : List Value} {n1 n2 : Bool} {o1 o2 : Option Addr} {k1 c1 k2 c2 : Nat} (hd : RL l w (r1 ++ r :: r2) (mkM n k (Go.Proofs.YtjfjlloibmebeaaGreat.fi G i j))) (hr : r1.length = i) (hi : i < n) (hj : j < k)
   (hx : Gl l w xs ((mkM n k (Go.Proofs.YtjfjlloibmebeaaGreat.fi G i j))[i]'(by rw [len_mkM]; exact hi))) (h1 : ZN w (.agg #[.bool n1, .slice o1 k1 c1]) (G i j).1 l) (h2 : ZN w (.agg #[.bool n2, .slice o2 k2 c2]) (G i j).2 l) :
   RL l w (r1 ++ (⟨x, k, setL xs [(j * 4, .bool n1), (j * 4 + 1, .slice o1 k1 c1), (j * 4 + 2, .bool n2), (j * 4 + 3, .slice o2 k2 c2)]⟩ : Rw) :: r2) (mkM n k (Go.Proofs.YtjfjlloibmebeaaGreat.fi G i (j + 1))) := by
 rw [mkM_row hi] at hx
 have := RL.set' (v := x) (n := k) (by simp) (Gl.put h1 h2 hx (q := j) (by simpa using hj)) hd hr
 rw [mkM_set hi, show (((G i j).1, (G i j).2) : Int × Int) = G i j from rfl, fi_step] at this
 exact this
end
theorem Lst.sl {w : World} {B n c : Nat} {ty : TypeId} {o : Option Addr} {xs : List Value} {ps : List (Int × Int)} (L : Lst w B ty 4 (.slice o n c) n xs) (d : Gl l w xs ps) : n = ps.length ∧ SN l w o ps := by
 have h1 := d.len
 have h2 := L.1.1
 have hn : n = ps.length := by omega
 refine ⟨hn, ?_⟩
 rcases Nat.eq_zero_or_pos n with h0 | h0
 · exact .inl (List.eq_nil_of_length_eq_zero (by omega))
 · obtain ⟨g, cur, rfl, x, hc⟩ := L.box h0
   refine .inr ⟨g, 0, cur, _, _, rfl, x, fun i hi => ?_⟩
   obtain ⟨n1, o1, k1, c1, n2, o2, k2, c2, e1, e2, e3, e4, h1, h2⟩ := d.at hi
   exact ⟨n1, o1, k1, c1, n2, o2, k2, c2, by rw [Nat.zero_add]; exact hc _ _ e1, by rw [Nat.zero_add]; exact hc _ _ e2, by rw [Nat.zero_add]; exact hc _ _ e3, by rw [Nat.zero_add]; exact hc _ _ e4, h1, h2⟩
theorem MNof {w0 w : World} {es : List En} {n c : Nat} {o : Option Addr} {rs : List Rw} {vs : List Value} {Ms : List (List (Int × Int))} (hs : St w0 es w) (hm : ls w0.heap.size 51 1 (.slice o n c) n vs ∈ es) (hv : rs.map (·.v) = vs) (hr : ∀ r ∈ rs, r.e w0.heap.size ∈ es) (hn : rs.length = n) (hd : RL l w rs Ms) : MN l w o Ms := by
 have key : ∀ {l : List En}, AllE l w → ∀ e ∈ l, Ok e w := by
   intro l
   induction l with
   | nil => intro _ e he; cases he
   | cons a t ih => intro h e he; rcases List.mem_cons.1 he with rfl | he; exact h.1; exact ih h.2 e he
 have hM : AllE (rs.map (Rw.e w0.heap.size)) w := by
   have : ∀ {rs : List Rw}, (∀ r ∈ rs, Ok (r.e w0.heap.size) w) → AllE (rs.map (Rw.e w0.heap.size)) w := by
     intro rs
     induction rs with
     | nil => intro _; trivial
     | cons a t ih => intro h; exact ⟨h a (List.mem_cons_self ..), ih fun r hr => h r (List.mem_cons_of_mem _ hr)⟩
   exact this fun r h => key hs.1 _ (hr r h)
 subst hv hn
 have L : Lst w w0.heap.size 51 1 (.slice o rs.length c) rs.length (rs.map (·.v)) := (key hs.1 _ hm).1
 have hn := hd.len
 rcases Nat.eq_zero_or_pos rs.length with h0 | h0
 · exact .inl (List.eq_nil_of_length_eq_zero (by omega))
 · obtain ⟨g, cur, rfl, x, hc⟩ := L.box h0
   refine .inr ⟨g, 0, cur, _, _, rfl, x, fun i hi => ?_⟩
   obtain ⟨r, h1, h2, h3⟩ := hd.get i hi
   have h4 : (rs.map (Rw.e w0.heap.size))[i]? = some (r.e w0.heap.size) := by rw [List.getElem?_map, h1]; rfl
   have L2 : Lst w w0.heap.size 38 4 r.v r.n r.xs := (hM.at h4).1
   obtain ⟨o2, c2, e⟩ := L2.shape
   have h5 : (rs.map (·.v))[i]? = some r.v := by rw [List.getElem?_map, h1]; rfl
   have := hc _ _ h5
   rw [e] at L2
   exact ⟨o2, c2, by rw [Nat.zero_add, this, e, h2], (L2.sl h3).2⟩
end Go.Proofs.YtjfjlloibmebeaaGreat

/- gdet: lists of whole numbers; the closures that divide by a whole number; times a whole number. -/
namespace Go.Proofs.YtjfjlloibmebeaaGreat
open Go Go.RowKit Dig
set_option linter.unusedVariables false
section
variable {w w0 : World} {l m k n : Nat} {va vb vq : Value} {x y u v q : Int} {bs : List En}
end
end Go.Proofs.YtjfjlloibmebeaaGreat

/- gdet: eliminate by whole pivots. -/
namespace Go.Proofs.YtjfjlloibmebeaaGreat
open Go Go.RowKit Dig
set_option linter.unusedVariables false
section
variable {w w0 : World} {f pt n c W L : Nat} {bnd caps : Array Value} {o : Option Addr} {rs : List Rw} {bs : List En} {A : Nat → Nat → Int × Int} {Fin : Nat → Prop}
end
end Go.Proofs.YtjfjlloibmebeaaGreat

/- gdet: the pivots of Minors. -/
namespace Go.Proofs.YtjfjlloibmebeaaGreat
open Go Go.RowKit Dig
set_option linter.unusedVariables false
section
variable {w w0 : World} {pt n c L : Nat} {o : Option Addr} {A : Nat → Nat → Int × Int}
end
end Go.Proofs.YtjfjlloibmebeaaGreat

/- Gram matrices' leading determinants: real, not below 0; behind one that is 0 all are. -/
namespace Go.Proofs.YtjfjlloibmebeaaGreat
open Go Go.RowKit Dig
set_option linter.unusedVariables false
section
variable {W k : Nat} {M : Nat → Nat → Int × Int}
end
end Go.Proofs.YtjfjlloibmebeaaGreat

/- gdet: Gram matrices' minors are no longer than their rows together; Minors. -/
namespace Go.Proofs.YtjfjlloibmebeaaGreat
open Go Go.RowKit Dig
set_option linter.unusedVariables false
section
variable {n W T : Nat} {M : Nat → Nat → Int × Int} {b : Nat → Nat}
theorem MinB.D {L : Nat} {A : Nat → Nat → Int × Int} (hB : MinB n W L A) : ∀ m, ∀ i, i < n → ∀ j, j < W → zl L (Dt.D m A i j) := by
 intro m i hi j hj
 by_cases h1 : i < m
 · rw [Dt.D_row0 h1]; exact zl_0 _
 · by_cases h2 : j < m
   · rw [Dt.D_col0 h2]; exact zl_0 _
   · exact hB (m + 1) (Dt.bord m i) (Dt.bord m j) (fun r hr => ⟨by unfold Dt.bord; split <;> omega, by unfold Dt.bord; split <;> omega⟩) fun r q h3 h4 h5 => by
       unfold Dt.bord at h5
       split at h5 <;> split at h5 <;> omega
end
end Go.Proofs.YtjfjlloibmebeaaGreat

/- A region that draws, at whose end two operations are ready at once: both orders (else as Rf). -/
namespace Go.Proofs.YtjfjlloibmebeaaGreat
open Go Go.RowKit Dig
set_option linter.unusedVariables false
section
variable {P : Program} {l : List Oper} {md : Region.Mode} {C : World → Prop}
end
section
variable {P : Program} {l : List Oper} {a : Act} {w : World}
end
end Go.Proofs.YtjfjlloibmebeaaGreat
