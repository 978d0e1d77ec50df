/- gmat.Turn; the reference's Vector, Copy. -/
import Derived.Test.YtnkimagnmnocdaaO9ToS3

namespace Go.Proofs.Ytnkimagnmnocdaa
open Go Go.RowKit Dig
set_option linter.unusedVariables false
theorem fi_rowed {A : List (List (Int × Int))} {i n k : Nat} (hi : i < n) : (mkM n k (fi (at2 A) i 0)).set i ((List.range k).map (at1 (rw_ A i))) = mkM n k (fi (at2 A) i k) := by
  rw [mkM_setrow hi]
  refine mkM_eq rfl rfl fun p _ q hq => ?_
  unfold rowed fi
  by_cases h : p = i
  · rw [if_pos h, if_pos (by omega), h]; rfl
  · rw [if_neg h]
    by_cases h2 : p < i
    · rw [if_pos (by omega), if_pos (by omega)]
    · rw [if_neg (by omega), if_neg (by omega)]
section
variable {w : World} {l la na ca n c i k : Nat} {o oa : Option Addr} {A : List (List (Int × Int))} {ps : List (Int × Int)}
set_option maxHeartbeats 4000000 in
set_option maxRecDepth 20000 in
theorem mTurn_bad {i kt : Int} (ha : MN la w oa A) (hna : A.length = na) (h : ¬ gd A) (hla : na ≤ 1000000000) :
    Calls Try.prog 18 #[.slice oa na ca, .int .i64 i, .int .i64 kt] w fun e w' => e = .returned (.tuple #[.slice none 0 0, .int .i64 4]) ∧ Below w.heap.size w w' := by
  have HA := hide ha
  have H := hide h
  clear ha h
  go_enter Try.func18, Try.ntmps18
  have hs := St.nil w
  refine wp_seq_k ?_
  intro K1 hK1
  refine rg [0, 1] ?_
  refine sq ?_
  refine .mv ?_
  refine sq ?_
  refine .mv ?_
  apply wpSq_end
  refine hK1 _ _ ?_
  refine wp_seq_k ?_
  intro K2 hK2
  refine rg [0, 1, 2, 3, 4, 5, 6, 7, 8] ?_
  refine sq ?_
  refine .mv ?_
  refine sq ?_
  refine .mv ?_
  refine sq ?_
  refine .al hs ?_; clear hs; intro p_b1 w_1 hs n1 kb_b1
  refine sq ?_
  intro K hK
  have hb := hs.b
  go_big_op
  go_fit (copied_bad (HA.out.bl stab_n hb) hna H.out hla)
  rintro e w_2 ⟨rfl, hb_2⟩
  clear hb
  replace hs := hs.bl hb_2
  refine hK _ _ rfl trivial ?_
  clear hK K
  refine sq ?_
  refine .mv ?_
  refine sq ?_
  refine .r0 ?_
  refine sq ?_
  refine .r0 ?_
  refine sq ?_
  refine .mv ?_
  refine sq ?_
  refine .mv ?_
  apply wpSq_end
  refine hK2 _ _ ?_
  refine wp_seq_k ?_
  intro K3 hK3
  refine wp_seq_k ?_
  intro K4 hK4
  refine rg [0, 1] ?_
  refine sq ?_
  refine .mv ?_
  refine sq ?_
  refine .r0 ?_
  apply wpSq_end
  refine hK4 _ _ ?_
  refine ct ?_
  refine wp_seq_k ?_
  intro K5 hK5
  refine rg [0, 1, 2] ?_
  refine sq ?_
  refine .mv ?_
  refine sq ?_
  refine .mv ?_
  refine sq ?_
  refine .mv ?_
  apply wpSq_end
  refine hK5 _ _ ?_
  refine wp_ret ?_
  try dsimp only [Exit.then, Exit.inBlock]
  refine bodyPost_ret (v := (.tuple #[(.slice none 0 0), (.int .i64 4)])) (by simp [results, Try.results18, go_sem]) rfl ?_
  exact ⟨rfl, hs.b⟩
set_option maxHeartbeats 4000000 in
set_option maxRecDepth 20000 in
theorem mTurn_arg {i kt : Int} (ha : MN la w oa A) (hna : A.length = na) (h : gd A) (hla : la ≤ 40000000) (hi : ¬ (0 ≤ i ∧ i < (na : Int))) :
    Calls Try.prog 18 #[.slice oa na ca, .int .i64 i, .int .i64 kt] w fun e w' => e = .returned (.tuple #[.slice none 0 0, .int .i64 9]) ∧ Below w.heap.size w w' := by
  have HA := hide ha
  have H := hide h
  have HZ := hide (show ¬ ∀ z ∈ [i], 0 ≤ z ∧ z < (na : Int) from fun c => hi (c _ (by simp)))
  clear ha h hi
  go_enter Try.func18, Try.ntmps18
  have hs := St.nil w
  refine wp_seq_k ?_
  intro K1 hK1
  refine rg [0, 1] ?_
  refine sq ?_
  refine .mv ?_
  refine sq ?_
  refine .mv ?_
  apply wpSq_end
  refine hK1 _ _ ?_
  refine wp_seq_k ?_
  intro K2 hK2
  refine rg [0, 1, 2, 3, 4, 5, 6, 7, 8] ?_
  refine sq ?_
  refine .mv ?_
  refine sq ?_
  refine .mv ?_
  refine sq ?_
  refine .al hs ?_; clear hs; intro p_b1 w_1 hs n1 kb_b1
  refine sq ?_
  intro K hK
  have hb := hs.b
  go_big_op
  go_fit (copied_arg (HA.out.bl stab_n hb) (PL1 hs.g0) rfl hna H.out (by simp) hla HZ.out)
  rintro e w_2 ⟨rfl, hb_2⟩
  clear hb
  replace hs := hs.bl hb_2
  refine hK _ _ rfl trivial ?_
  clear hK K
  refine sq ?_
  refine .mv ?_
  refine sq ?_
  refine .r0 ?_
  refine sq ?_
  refine .r0 ?_
  refine sq ?_
  refine .mv ?_
  refine sq ?_
  refine .mv ?_
  apply wpSq_end
  refine hK2 _ _ ?_
  refine wp_seq_k ?_
  intro K3 hK3
  refine wp_seq_k ?_
  intro K4 hK4
  refine rg [0, 1] ?_
  refine sq ?_
  refine .mv ?_
  refine sq ?_
  refine .r0 ?_
  apply wpSq_end
  refine hK4 _ _ ?_
  refine ct ?_
  refine wp_seq_k ?_
  intro K5 hK5
  refine rg [0, 1, 2] ?_
  refine sq ?_
  refine .mv ?_
  refine sq ?_
  refine .mv ?_
  refine sq ?_
  refine .mv ?_
  apply wpSq_end
  refine hK5 _ _ ?_
  refine wp_ret ?_
  try dsimp only [Exit.then, Exit.inBlock]
  refine bodyPost_ret (v := (.tuple #[(.slice none 0 0), (.int .i64 9)])) (by simp [results, Try.results18, go_sem]) rfl ?_
  exact ⟨rfl, hs.b⟩
set_option maxHeartbeats 4000000 in
set_option maxRecDepth 20000 in
theorem mTurn_ok {kt : Int} (ha : MN la w oa A) (hna : A.length = na) (h : gd A) (hk : wd A = k) (hi : i < na) (hla : la ≤ 20000000) :
    Calls Try.prog 18 #[.slice oa na ca, .int .i64 (i : Int), .int .i64 kt] w fun e w' => ∃ o c rs, e = .returned (.tuple #[.slice o na c, .int .i64 0]) ∧ rs.length = na ∧ St w (Mx w.heap.size (.slice o na c) rs) w' ∧ RD w' rs (mkM na k (rowed (at2 A) i fun q => turn (kt % 4).toNat (at2 A i q))) ∧ Below w.heap.size w w' := by
  obtain ⟨G, hG⟩ : ∃ G : Nat → Int × Int, G = fun q => turn (kt % 4).toNat (at2 A i q) := ⟨_, rfl⟩
  rw [← hG]
  have HG := hide (fun q => congrFun hG q)
  have HA := hide ha
  have H := hide h
  have HK := hide hk
  have HI := hide hi
  have hn64 : na ≤ 64 := by have := h.1; omega
  have hk64 : k ≤ 64 := by have := h.2.1; omega
  obtain ⟨gm, offm, curm, tym, fzm, oj, cj, rfl, xm, em, sj⟩ := ha.row (i := i) (by omega)
  rw [show (rw_ A i).length = k by rw [gd_row h (by omega)]; exact hk] at em
  have HS := hide sj
  have HL := hide (show (rw_ A i).length = k by rw [gd_row h (by omega)]; exact hk)
  clear ha h hk hG sj
  go_enter Try.func18, Try.ntmps18
  have hs := St.nil w
  have lt_kA := xm.lt
  have xmz := xm
  refine wp_seq_k ?_
  intro K1 hK1
  refine rg [0, 1] ?_
  refine sq ?_
  refine .mv ?_
  refine sq ?_
  refine .mv ?_
  apply wpSq_end
  refine hK1 _ _ ?_
  refine wp_seq_k ?_
  intro K2 hK2
  refine rg [0, 1, 2, 3, 4, 5, 6, 7, 8] ?_
  refine sq ?_
  refine .mv ?_
  refine sq ?_
  refine .mv ?_
  refine sq ?_
  refine .al hs ?_; clear hs; intro p_b1 w_1 hs n1 kb_b1
  replace xm := xm.bl n1
  refine sq ?_
  intro K hK
  have hb := hs.b
  go_big_op
  go_fit (copied_ok (HA.out.bl stab_n hb) (PL1 hs.g0) rfl hna H.out HK.out (by simp) (by omega) (by have := HI.out; simp; omega))
  rintro e w_2 ⟨o_O, c_O, rs_O, rfl, hl_O, hs_O, d_O, hb_2⟩
  clear hb
  replace xm := xm.bl hb_2
  replace hs := hs.mx hl_O hs_O; simp only [List.cons_append, List.nil_append] at hs
  refine hK _ _ rfl trivial ?_
  clear hK K
  refine sq ?_
  refine .mv ?_
  refine sq ?_
  refine .r0 ?_
  refine sq ?_
  refine .r0 ?_
  refine sq ?_
  refine .mv ?_
  refine sq ?_
  refine .mv ?_
  apply wpSq_end
  refine hK2 _ _ ?_
  refine wp_seq_k ?_
  intro K3 hK3
  refine wp_seq_k ?_
  intro K4 hK4
  refine rg [0, 1] ?_
  refine sq ?_
  refine .mv ?_
  refine sq ?_
  refine .r0 ?_
  apply wpSq_end
  refine hK4 _ _ ?_
  refine cf ?_
  refine wp_skip ?_
  refine hK3 _ _ ?_
  refine wp_seq_k ?_
  intro K5 hK5
  refine wp_seq_k ?_
  intro K6 hK6
  refine rg [0, 1, 2, 3, 4, 5] ?_
  refine sq ?_
  refine .mv ?_
  refine sq ?_
  refine .mv ?_
  refine sq ?_
  refine .r0 ?_
  refine sq ?_
  refine .r1 (xm.cell _ em) ?_
  refine sq ?_
  refine .r0 ?_
  refine sq ?_
  refine .mv ?_
  apply wpSq_end
  refine hK6 _ _ ?_
  refine wp_block ?_
  have hd3 := hs.2.1
  go_loopg [27] k (fun kk s27 wr => ∃ (q : Nat) (rs : List Rw), s27 = .int .i64 (q : Int) ∧ q + kk = k ∧ rs.length = na ∧ RD wr rs (mkM na k (pr (at2 A) i q G)) ∧
    St w (ls w.heap.size 39 1 (.slice o_O na c_O) na (rs.map (·.v)) :: ([] ++ rs.map (Rw.e w.heap.size))) wr)
  case atStart => exact ⟨0, rs_O, rfl, by omega, hl_O, by rw [← pr_0]; exact d_O, hs.sub (.cons_cons _ (.cons _ (List.Sublist.refl _)))⟩
  case round =>
  clear xm d_O hs
  obtain ⟨q, rs, rfl, hqk, hrl, hd, hs⟩ := hrel
  by_cases hqk2 : q < k
  · have HQ := hide hqk2
    obtain ⟨g2, off2, cur2, ty2, fz2, d1, d2, d3, d4, d5, d6, d7, d8, rfl, x2, e5, e6, e7, e8, z3, z4⟩ := HS.out.op (j := q) (by rw [HL.out]; exact hqk2)
    replace z3 : ZN wr (.agg #[.bool d1, .slice d2 d3 d4]) (at2 A i q).1 la := z3.bl hs.b
    replace z4 : ZN wr (.agg #[.bool d5, .slice d6 d7 d8]) (at2 A i q).2 la := z4.bl hs.b
    have x2z := x2
    have lt_kRA := x2.lt
    replace x2 := x2.bl hs.b
    obtain ⟨r1, gr, cr, xs, r2, rfl, hr1, hrv, hx, hs⟩ := hs.row (bs := []) hd (p := i) (K := k) (by rw [len_mkM]; exact HI.out) (by rw [mkM_row HI.out]; simp) (by omega)
    have LO : Lst wr w.heap.size 39 1 (.slice o_O na c_O) na _ := hs.1.2.1.1
    obtain ⟨gO, curO, rfl, xO, hcO⟩ := LO.box (by omega)
    have eO := hcO _ _ hrv
    clear LO hcO hrv
    have Lz3 := hide z3.len
    have Lz4 := hide z4.len
    have HGq := hide (HG.out q)
    obtain ⟨P2, hP2⟩ : ∃ P2, at2 A i q = P2 := ⟨_, rfl⟩
    rw [hP2] at z3 z4 HGq
    clear hP2
    refine wp_seq_k ?_
    intro K7 hK7
    refine rg [0] ?_
    refine sq ?_
    refine .r0 ?_
    apply wpSq_end
    refine hK7 _ _ ?_
    refine wp_seq_k ?_
    intro K8 hK8
    refine ct ?_
    refine wp_skip ?_
    refine hK8 _ _ ?_
    refine wp_seq_k ?_
    intro K9 hK9
    refine wp_block ?_
    refine wp_seq_k ?_
    intro K10 hK10
    refine rg [0, 1, 2, 3, 4, 5] ?_
    refine sq ?_
    refine .mv ?_
    refine sq ?_
    refine .r0 ?_
    refine sq ?_
    refine .r4 ⟨x2.cell _ e5, x2.cell _ e6, x2.cell _ e7, x2.cell _ e8⟩ ?_
    refine sq ?_
    refine .al hs ?_; clear hs; intro p_b2 w_4 hs n4 kb_b2
    replace x2 := x2.bl n4; replace xO := xO.bl n4
    refine sq ?_
    refine .mv ?_
    refine sq ?_
    refine .s4 hs.g0 (fun _ => hs.u0 kb_b2) ?_; clear hs; intro w_5 hs hd5 ho5
    replace x2 := x2.frame ho5 (Nat.ne_of_lt (Nat.lt_of_lt_of_le lt_kRA kb_b2)); replace xO := xO.frame ho5 (hs.ne 2 0)
    apply wpSq_end
    refine hK10 _ _ ?_
    refine wp_region_f4 [(0, false), (1, false), (2, false), (3, false), (4, false), (5, false), (6, false), (7, true), (8, false)] [9] [] (fun _ => default) [99, 99, 99, 0, 99, 1, 99, 99, 99, 99] [] (.c xO (.c hs.g0 .n)) fn fun w_6 n6 => ?_
    replace x2 := x2.bl n6; replace xO := xO.bl n6; replace hs := hs.bl n6
    refine fmv ?_
    refine fmv ?_
    refine f0 ?_
    apply wpFl_ld rfl rfl; (case h1 => intro w' hC K hK; have c0 := Bs.cell hC (i) eO; go_big_op; exact hK); iterate 4 kernel_rfl
    refine fmv ?_
    refine f4 ?_
    refine fmv ?_
    refine fl fun w_7 n7 => ?_
    replace x2 := x2.bl n7; replace xO := xO.bl n7; replace hs := hs.bl n7
    intro K hK
    have k0_4 := (((kb n4).o hd5 ho5).b n6).b n7
    replace z3 := z3.k k0_4
    replace z4 := z4.k k0_4
    go_big_op
    go_fit (gTurn_any kt (.mk' z3 z4) (by omega) (by omega))
    rintro e w_8 ⟨_, rfl, ⟨n_ta, o_ta, k_ta, c_ta, n_tb, o_tb, k_tb, c_tb, rfl, t1, t2⟩, hb_8⟩
    replace x2 := x2.bl hb_8; replace xO := xO.bl hb_8; replace hs := hs.bl hb_8
    refine hK _ _ rfl ⟨hb_8, (And.intro xO (And.intro hs.g0 trivial))⟩ ?_
    clear hK K
    refine f0 ?_
    refine e0 hs ?_; clear hs; intro w_9 hs n9
    replace x2 := x2.bl n9; replace xO := xO.bl n9
    refine tl ?_
    refine .i4 1 hs (j := q) (by omega) ?_ (e := fun _ hB hO => (And.intro (xO.frame hO (hs.ne 2 1)) (And.intro (hs.g0.frame hO (hs.ne 0 1)) True.intro))); clear hs; intro w_10 hs kp10 hd10 ho10 hw10; simp only [List.set_cons_succ, List.set_cons_zero] at hs
    replace x2 := x2.lo lt_kRA hw10
    clear xO
    apply wpTail_end
    refine hK9 _ _ ?_
    refine rg [0, 1] ?_
    refine sq ?_
    refine .r0 ?_
    refine sq ?_
    refine .mv ?_
    apply wpSq_end
    have k0_7 := ((k0_4.b hb_8).b n9).t kp10
    replace hd := hd.k k0_7
    replace hx := hx.k k0_7
    have k5_7 := (kb n9).t kp10
    replace t1 := t1.k k5_7
    replace t2 := t2.k k5_7
    refine ‹∀ (a' : Act) (w' : World), Handed _ _ a' w' → _› _ _ ?_
    go_roundg (gk - 1)
    case rel => exact ⟨q + 1, _, by rfl, by omega, by simpa using hrl, by rw [← pr_step, HGq.out]; exact hd.upd hr1 HI.out HQ.out hx t1 t2, (hs.sub (.cons _ (List.Sublist.refl _))).unrow (bs := [])⟩
    case measure => omega
  · obtain rfl : k = q := by omega
    have HX := hide hqk2
    refine wp_seq_k ?_
    intro K7 hK7
    refine rg [0] ?_
    refine sq ?_
    refine .r0 ?_
    apply wpSq_end
    refine hK7 _ _ ?_
    refine wp_seq_k ?_
    intro K8 hK8
    refine cf ?_
    refine wp_exit ?_
    refine hK5 _ _ ?_
    refine wp_seq_k ?_
    intro K9 hK9
    refine rg [0, 1, 2] ?_
    refine sq ?_
    refine .mv ?_
    refine sq ?_
    refine .mv ?_
    refine sq ?_
    refine .mv ?_
    apply wpSq_end
    refine hK9 _ _ ?_
    refine wp_ret ?_
    try dsimp only [Exit.then, Exit.inBlock]
    refine bodyPost_ret (v := (.tuple #[(.slice o_O na c_O), (.int .i64 0)])) (by simp [results, Try.results18, go_sem]) rfl ?_
    exact ⟨_, _, rs, rfl, hrl, (by unfold Mx; rw [hrl]; exact hs), by rw [← pr_end]; exact hd, hs.b⟩
set_option maxHeartbeats 4000000 in
set_option maxRecDepth 20000 in
theorem rVector_any (h1 : SN l w o ps) (hn : ps.length = n) (hl : n ≤ 1000000000) (hl1 : l ≤ 20000000) :
    Calls Try.prog 25 #[.slice o n c] w fun e w' => ∃ o c xs, e = .returned (.slice o n c) ∧ Lst w' w.heap.size 41 4 (.slice o n c) n xs ∧ GD w' xs ((List.range n).map (at1 ps)) ∧ Below w.heap.size w w' := by
  have H1 := hide h1
  clear h1
  go_enter Try.func25, Try.ntmps25
  have hs := St.nil w
  refine wp_seq_k ?_
  intro K1 hK1
  refine rg [0] ?_
  refine sq ?_
  refine .mv ?_
  apply wpSq_end
  refine hK1 _ _ ?_
  refine wp_seq_k ?_
  intro K2 hK2
  refine rg [0] ?_
  refine sq ?_
  refine .mv ?_
  apply wpSq_end
  refine hK2 _ _ ?_
  refine wp_seq_k ?_
  intro K3 hK3
  refine wp_seq_k ?_
  intro K4 hK4
  refine rg [0] ?_
  refine sq ?_
  refine .mv ?_
  apply wpSq_end
  refine hK4 _ _ ?_
  refine wp_block ?_
  have hd1 := hs.2.1
  go_loopg [3, 4] n (fun kk s3 s4 wr => ∃ (i : Nat) (o : Option Addr) (c : Nat) (xs : List Value), s4 = .int .i64 (i : Int) ∧ s3 = .slice o i c ∧ i + kk = n ∧ GD wr xs ((List.range i).map (at1 ps)) ∧
    St w [ls w.heap.size 41 4 (.slice o i c) i xs] wr)
  case atStart => exact ⟨0, none, 0, [], rfl, rfl, by omega, GD.nil _, hs.l0 _ _⟩
  case round =>
  clear hs
  obtain ⟨i, ow, cw, xs, rfl, rfl, hik, d, hs⟩ := hrel
  by_cases hi : i < n
  · obtain ⟨g1, off1, cur1, ty1, fz1, a1, a2, a3, a4, a5, a6, a7, a8, rfl, x1, e1, e2, e3, e4, z1, z2⟩ := H1.out.op (j := i) (by omega)
    replace z1 : ZN wr (.agg #[.bool a1, .slice a2 a3 a4]) (at1 ps i).1 l := z1.bl hs.b
    replace z2 : ZN wr (.agg #[.bool a5, .slice a6 a7 a8]) (at1 ps i).2 l := z2.bl hs.b
    have lt_kA := x1.lt
    replace x1 := x1.bl hs.b
    have E1 := hide (mapr_succ (at1 ps) i)
    generalize at1 ps i = p at *
    refine wp_seq_k ?_
    intro K5 hK5
    refine wp_seq_k ?_
    intro K6 hK6
    refine rg [0, 1, 2, 3] ?_
    refine sq ?_
    refine .mv ?_
    refine sq ?_
    refine .mv ?_
    refine sq ?_
    refine .r0 ?_
    refine sq ?_
    refine .r0 ?_
    apply wpSq_end
    refine hK6 _ _ ?_
    refine ct ?_
    refine wp_skip ?_
    refine hK5 _ _ ?_
    refine wp_seq_k ?_
    intro K7 hK7
    refine wp_block ?_
    refine rg [0, 1, 2, 3, 4, 5, 6, 7, 8] ?_
    refine sq ?_
    refine .mv ?_
    refine sq ?_
    refine .mv ?_
    refine sq ?_
    refine .mv ?_
    refine sq ?_
    refine .r0 ?_
    refine sq ?_
    refine .r4 ⟨x1.cell _ e1, x1.cell _ e2, x1.cell _ e3, x1.cell _ e4⟩ ?_
    refine sq ?_
    intro K hK
    go_big_op
    go_fit (rgCanonical_any (.mk' z1 z2) (by omega) (by omega))
    rintro e w_2 ⟨_, rfl, ⟨n_ta, o_ta, k_ta, c_ta, n_tb, o_tb, k_tb, c_tb, rfl, t1, t2⟩, hb_2⟩
    replace x1 := x1.bl hb_2; replace hs := hs.bl hb_2
    refine hK _ _ rfl trivial ?_
    clear hK K
    refine sq ?_
    refine .al hs ?_; clear hs; intro p_b1 w_3 hs n3 kb_b1
    replace x1 := x1.bl n3
    refine sq ?_
    have k1_2 := kb n3
    replace t1 := t1.k k1_2
    replace t2 := t2.k k1_2
    have k0_2 := (kb hb_2).b n3
    replace d := d.k k0_2
    replace d := d.snoc (.mk' t1 t2)
    refine .ap 1 hs hs.g0 ?_; clear hs; intro o_L_4 c_L_4 w_4 hs kp4 hw4; simp only [List.set_cons_succ, List.set_cons_zero] at hs
    replace x1 := x1.lo lt_kA hw4
    refine sq ?_
    refine .mv ?_
    apply wpSq_end
    refine hK7 _ _ ?_
    refine rg [0, 1, 2] ?_
    refine sq ?_
    refine .mv ?_
    refine sq ?_
    refine .r0 ?_
    refine sq ?_
    refine .mv ?_
    apply wpSq_end
    have k2_3 := kp4
    replace d := d.k k2_3
    refine ‹∀ (a' : Act) (w' : World), Handed _ _ a' w' → _› _ _ ?_
    go_roundg (gk - 1)
    case rel => exact ⟨i + 1, _, _, _, by rfl, by rfl, by omega, by rw [E1.out]; exact d, hs.sub (.cons _ (List.Sublist.refl _))⟩
    case measure => omega
  · obtain rfl : i = n := by omega
    clear hi
    refine wp_seq_k ?_
    intro K5 hK5
    refine wp_seq_k ?_
    intro K6 hK6
    refine rg [0, 1, 2, 3] ?_
    refine sq ?_
    refine .mv ?_
    refine sq ?_
    refine .mv ?_
    refine sq ?_
    refine .r0 ?_
    refine sq ?_
    refine .r0 ?_
    apply wpSq_end
    refine hK6 _ _ ?_
    refine cf ?_
    refine wp_exit ?_
    refine hK3 _ _ ?_
    refine wp_seq_k ?_
    intro K7 hK7
    refine rg [0, 1] ?_
    refine sq ?_
    refine .mv ?_
    refine sq ?_
    refine .mv ?_
    apply wpSq_end
    refine hK7 _ _ ?_
    refine wp_ret ?_
    try dsimp only [Exit.then, Exit.inBlock]
    refine bodyPost_ret (v := (.slice ow i cw)) (by simp [results, Try.results25, go_sem]) rfl ?_
    exact ⟨_, _, _, rfl, hs.1.1.1, d, hs.b⟩
set_option maxHeartbeats 4000000 in
set_option maxRecDepth 20000 in
theorem rCopy_any (ha : MN la w oa A) (hna : A.length = na) (h : gd A) (hk : wd A = k) (hla : la ≤ 20000000) :
    Calls Try.prog 22 #[.slice oa na ca] w fun e w' => ∃ o c rs, e = .returned (.slice o na c) ∧ rs.length = na ∧ St w (Mx w.heap.size (.slice o na c) rs) w' ∧ RD w' rs (mkM na k (at2 A)) ∧ Below w.heap.size w w' := by
  have HA := hide ha
  have hn64 : na ≤ 64 := by have := h.1; omega
  have hk64 : k ≤ 64 := by have := h.2.1; omega
  have HR := hide (show ∀ i, i < na → (rw_ A i).length = k from fun i hi => by rw [gd_row h (by omega)]; exact hk)
  clear ha h
  go_enter Try.func22, Try.ntmps22
  have hs := St.nil w
  refine wp_seq_k ?_
  intro K1 hK1
  refine rg [0] ?_
  refine sq ?_
  refine .mv ?_
  apply wpSq_end
  refine hK1 _ _ ?_
  refine wp_seq_k ?_
  intro K2 hK2
  refine rg [0, 1, 2, 3, 4, 5] ?_
  refine sq ?_
  refine .mv ?_
  refine sq ?_
  refine .r0 ?_
  refine sq ?_
  refine .mv ?_
  refine sq ?_
  intro K hK
  have hb := hs.b
  go_big_op
  go_fit (rCols_any (HA.out.bl stab_n hb) hna hk)
  rintro e w_1 ⟨rfl, hb_1⟩
  clear hb
  replace hs := hs.bl hb_1
  refine hK _ _ rfl trivial ?_
  clear hK K
  refine sq ?_
  intro K hK
  go_big_op
  go_fit (rNew_any (r := na) (k := k) (by omega) (by omega))
  rintro e w_2 ⟨o_O, c_O, rs_O, rfl, hl_O, hs_O, d_O, hb_2⟩
  replace hs := hs.mx hl_O hs_O; simp only [List.nil_append] at hs
  refine hK _ _ rfl trivial ?_
  clear hK K
  refine sq ?_
  refine .mv ?_
  apply wpSq_end
  refine hK2 _ _ ?_
  refine wp_seq_k ?_
  intro K3 hK3
  refine wp_seq_k ?_
  intro K4 hK4
  refine rg [0] ?_
  refine sq ?_
  refine .mv ?_
  apply wpSq_end
  refine hK4 _ _ ?_
  refine wp_block ?_
  have hd3 := hs.2.1
  go_loopg [4] na (fun kk s4 wr => ∃ (i : Nat) (rs : List Rw), s4 = .int .i64 (i : Int) ∧ i + kk = na ∧ rs.length = na ∧ RD wr rs (mkM na k (fi (at2 A) i 0)) ∧
    St w (ls w.heap.size 39 1 (.slice o_O na c_O) na (rs.map (·.v)) :: ([] ++ rs.map (Rw.e w.heap.size))) wr)
  case atStart => exact ⟨0, rs_O, rfl, by omega, hl_O, by rw [← fi_0]; exact d_O, hs⟩
  case round =>
  clear d_O hs
  obtain ⟨i, rs, rfl, hik, hrl, hd, hs⟩ := hrel
  by_cases hi : i < na
  · have HX := hide hi
    obtain ⟨gm, offm, curm, tym, fzm, oi, ci, rfl, x1, e5, s2⟩ := HA.out.row (i := i) (by omega)
    have HL := hide (HR.out i hi)
    rw [HL.out] at e5
    have HS := hide s2
    have lt_kA := x1.lt
    have x1z := x1
    replace x1 := x1.bl hs.b
    clear s2
    have LO : Lst wr w.heap.size 39 1 (.slice o_O na c_O) na _ := hs.1.1.1
    obtain ⟨gO, curO, rfl, xO, hcO⟩ := LO.box (by omega)
    clear LO hcO xO
    refine wp_seq_k ?_
    intro K5 hK5
    refine wp_seq_k ?_
    intro K6 hK6
    refine rg [0, 1, 2, 3] ?_
    refine sq ?_
    refine .mv ?_
    refine sq ?_
    refine .mv ?_
    refine sq ?_
    refine .r0 ?_
    refine sq ?_
    refine .r0 ?_
    apply wpSq_end
    refine hK6 _ _ ?_
    refine ct ?_
    refine wp_skip ?_
    refine hK5 _ _ ?_
    refine wp_seq_k ?_
    intro K7 hK7
    refine wp_block ?_
    refine rg [0, 1, 2, 3, 4, 5, 6, 7, 8] ?_
    refine sq ?_
    refine .mv ?_
    refine sq ?_
    refine .mv ?_
    refine sq ?_
    refine .mv ?_
    refine sq ?_
    refine .mv ?_
    refine sq ?_
    refine .r0 ?_
    refine sq ?_
    refine .r1 (x1.cell _ e5) ?_
    refine sq ?_
    intro K hK
    have hb := hs.b
    go_big_op
    go_fit (rVector_any (HS.out.bl stab_n hb) HL.out (by omega) (by omega))
    rintro e w_4 ⟨o_r, c_r, xs_r, rfl, L_r, d_r, hb_4⟩
    clear hb
    replace x1 := x1.bl hb_4
    replace hs := hs.la hb_4 L_r
    refine hK _ _ rfl trivial ?_
    clear hK K
    refine sq ?_
    refine .r0 ?_
    refine sq ?_
    refine .i1 1 hs (j := i) (by omega) ?_; clear hs; intro w_5 hs kp5 hd5 ho5 hw5; simp only [List.set_cons_succ, List.set_cons_zero] at hs
    replace x1 := x1.lo lt_kA hw5
    apply wpSq_end
    refine hK7 _ _ ?_
    refine rg [0, 1, 2] ?_
    refine sq ?_
    refine .mv ?_
    refine sq ?_
    refine .r0 ?_
    refine sq ?_
    refine .mv ?_
    apply wpSq_end
    have k1_2 := kp5
    replace d_r := d_r.k k1_2
    have k0_2 := (kb hb_4).t kp5
    replace hd := hd.k k0_2
    refine ‹∀ (a' : Act) (w' : World), Handed _ _ a' w' → _› _ _ ?_
    have hs := hs.newrow (bs := []) (by omega)
    go_roundg (gk - 1)
    case rel => exact ⟨i + 1, _, by rfl, by omega, by simpa using hrl, by rw [← fi_row, ← fi_rowed HX.out]; exact RD.set1 (by simp) d_r hd, hs⟩
    case measure => omega
  · obtain rfl : na = i := by omega
    have HX := hide hi
    refine wp_seq_k ?_
    intro K5 hK5
    refine wp_seq_k ?_
    intro K6 hK6
    refine rg [0, 1, 2, 3] ?_
    refine sq ?_
    refine .mv ?_
    refine sq ?_
    refine .mv ?_
    refine sq ?_
    refine .r0 ?_
    refine sq ?_
    refine .r0 ?_
    apply wpSq_end
    refine hK6 _ _ ?_
    refine cf ?_
    refine wp_exit ?_
    refine hK3 _ _ ?_
    refine wp_seq_k ?_
    intro K7 hK7
    refine rg [0, 1] ?_
    refine sq ?_
    refine .mv ?_
    refine sq ?_
    refine .mv ?_
    apply wpSq_end
    refine hK7 _ _ ?_
    refine wp_ret ?_
    try dsimp only [Exit.then, Exit.inBlock]
    refine bodyPost_ret (v := (.slice o_O na c_O)) (by simp [results, Try.results22, go_sem]) rfl ?_
    exact ⟨_, _, rs, rfl, hrl, (by unfold Mx; rw [hrl]; exact hs), by rw [← fi_end]; exact hd, hs.b⟩
theorem rCopy_own (ha : MN la w oa A) (hna : A.length = na) (h : gd A) (hk : wd A = k) (hla : la ≤ 20000000) (h0 : 0 < na) :
    Calls Try.prog 22 #[.slice oa na ca] w fun e w' => ∃ g c rs, e = .returned (.slice (some ⟨g, 0, none⟩) na c) ∧ rs.length = na ∧ St w (Mx w.heap.size (.slice (some ⟨g, 0, none⟩) na c) rs) w' ∧ RD w' rs (mkM na k (at2 A)) ∧ Below w.heap.size w w' :=
  Calls.mono (rCopy_any ha hna h hk hla) fun e w' ⟨o, c, rs, h1, h2, h3, h4, h5⟩ => by
    subst h2
    have LO : Lst w' w.heap.size 39 1 (.slice o rs.length c) rs.length _ := h3.1.1.1
    obtain ⟨gO, curO, rfl, xO, hcO⟩ := LO.box h0
    exact ⟨gO, c, rs, h1, rfl, h3, h4, h5⟩
end
end Go.Proofs.Ytnkimagnmnocdaa


/- GmatRows: what its calls tell. -/
namespace Go.Proofs.Ytnkimagnmnocdaa
open Go Go.RowKit Dig
set_option linter.unusedVariables false
theorem zl_turn {p : Int × Int} {l n : Nat} (h : zl l p) : zl (l + l) (turn n p) := zlen_turn h.1 h.2 n
theorem mP_swap (p q : Int × Int) : mP p q = mP q p := Prod.ext (by simp only [mP]; grind) (by simp only [mP]; grind)
theorem MCin {w0 w : World} {bs : List En} {n c : Nat} {o : Option Addr} {rs : List Rw} {vs : List Value} {Ms : List (List (Int × Int))} (hs : St w0 (ls w0.heap.size 39 1 (.slice o n c) n vs :: bs) w) (hv : rs.map (·.v) = vs) (hr : ∀ r ∈ rs, r.e w0.heap.size ∈ bs) (hn : rs.length = n) (hd : RD w rs Ms) : MC w o Ms := by
  have key : ∀ {l : List En}, AllE l w → ∀ e ∈ l, Ok e w := by
    intro l
    induction l with
    | nil => intro _ e he; cases he
    | cons a t ih => intro h e he; rcases List.mem_cons.1 he with rfl | he; exact h.1; exact ih h.2 e he
  have hM : AllE (rs.map (Rw.e w0.heap.size)) w := by
    have : ∀ {rs : List Rw}, (∀ r ∈ rs, Ok (r.e w0.heap.size) w) → AllE (rs.map (Rw.e w0.heap.size)) w := by
      intro rs
      induction rs with
      | nil => intro _; trivial
      | cons a t ih => intro h; exact ⟨h a (List.mem_cons_self ..), ih fun r hr => h r (List.mem_cons_of_mem _ hr)⟩
    exact this fun r h => key hs.1.2 _ (hr r h)
  subst hv hn
  have L : Lst w w0.heap.size 39 1 (.slice o rs.length c) rs.length (rs.map (·.v)) := hs.1.1.1
  have hn := hd.len
  rcases Nat.eq_zero_or_pos rs.length with h0 | h0
  · exact .inl (List.eq_nil_of_length_eq_zero (by omega))
  · obtain ⟨g, cur, rfl, x, hc⟩ := L.box h0
    refine .inr ⟨g, 0, cur, _, _, rfl, x, fun i hi => ?_⟩
    obtain ⟨r, h1, h2, h3⟩ := hd.get i hi
    have h4 : (rs.map (Rw.e w0.heap.size))[i]? = some (r.e w0.heap.size) := by rw [List.getElem?_map, h1]; rfl
    have L2 : Lst w w0.heap.size 41 4 r.v r.n r.xs := (hM.at h4).1
    obtain ⟨o2, c2, e⟩ := L2.shape
    have h5 : (rs.map (·.v))[i]? = some r.v := by rw [List.getElem?_map, h1]; rfl
    have := hc _ _ h5
    rw [e] at L2
    exact ⟨o2, c2, by rw [Nat.zero_add, this, e, h2], (L2.sc h3).2⟩
theorem MC.rowc {w : World} {om : Option Addr} {Ms : List (List (Int × Int))} {i : Nat} (h : MC w om Ms) (hi : i < Ms.length) :
    ∃ g off cur ty fz oi ci, om = some ⟨g, off, none⟩ ∧ Bs w g cur ty fz ∧ cur[off + i]? = some (.slice oi (rw_ Ms i).length ci) ∧ SC w oi (rw_ Ms i) := by
  obtain ⟨g, off, cur, ty, fz, rfl, x, hr⟩ := h.box (by omega)
  obtain ⟨o, c, e, hs⟩ := hr i hi
  rw [← rw_eq hi] at e hs
  exact ⟨g, off, cur, ty, fz, o, c, rfl, x, e, hs⟩
theorem rw_bd {l i : Nat} {Ms : List (List (Int × Int))} (h : BdM l Ms) : Bd l (rw_ Ms i) := by
  unfold rw_
  rcases Nat.lt_or_ge i Ms.length with hi | hi
  · rw [List.getD, List.getElem?_eq_getElem hi]; exact h _ (List.getElem_mem hi)
  · rw [List.getD, List.getElem?_eq_none hi]; intro p hp; cases hp
section
variable {la lq na k i j : Nat} {A : List (List (Int × Int))} {u v : Int}
theorem bd_arM (ha : BdM la A) (h1 : (dig u.natAbs).length ≤ lq) (h2 : (dig v.natAbs).length ≤ lq) : BdM (la + lq + 2) (mkM na k (rowed (at2 A) i fun q => aP (at2 A i q) (mP (u, v) (at2 A j q)))) := bd_mkM fun r _ c _ => by
  unfold rowed
  split
  · exact zl_up (zl_aP (l := lq + la + 1) (zl_up (at2_bd ha) (by omega)) (zl_mP ⟨h1, h2⟩ (at2_bd ha))) (by omega)
  · exact zl_up (at2_bd ha) (by omega)
theorem bd_swM (ha : BdM la A) : BdM la (mkM na k fun r => at2 A (swr i j r)) := bd_mkM fun r _ c _ => at2_bd ha
theorem bd_cpM (ha : BdM la A) : BdM la (mkM na k (at2 A)) := bd_mkM fun r _ c _ => at2_bd ha
theorem bd_tuM {n : Nat} (ha : BdM la A) : BdM (la + la) (mkM na k (rowed (at2 A) i fun q => turn n (at2 A i q))) := bd_mkM fun r _ c _ => by
  unfold rowed
  split
  · exact zl_turn (at2_bd ha)
  · exact zl_up (at2_bd ha) (by omega)
/-- The copy's rows, and a row written anew. -/
theorem rw_cp (hi : i < na) : rw_ (mkM na k (at2 A)) i = (List.range k).map (at2 A i) := by
  unfold rw_ mkM; simp [List.getD, hi]
theorem row_cp (hi : i < na) (hj : j < na) : (mkM na k (at2 A)).set i (rowR (rw_ (mkM na k (at2 A)) i) (rw_ (mkM na k (at2 A)) j) (u, v) k) = mkM na k (rowed (at2 A) i fun q => aP (at2 A i q) (mP (u, v) (at2 A j q))) := by
  rw [rw_cp hi, rw_cp hj, ← mkM_setrow hi]
  congr 1
  unfold rowR
  refine List.map_congr_left fun q hq => ?_
  have hq : q < k := by simpa using hq
  rw [show at1 ((List.range k).map (at2 A i)) q = at2 A i q by simp [at1, List.getD, hq], show at1 ((List.range k).map (at2 A j)) q = at2 A j q by simp [at1, List.getD, hq], mP_swap]
end
end Go.Proofs.Ytnkimagnmnocdaa

