/- The reference's Adj. -/
import Derived.Test.YtajmgjgobgchjaaO3ToO9
import Derived.Test.YtajmgjgobgchjaaI5ToO2

namespace Go.Proofs.Ytajmgjgobgchjaa
open Go Go.RowKit Dig
set_option linter.unusedVariables false
section
variable {G : Nat → Nat → Int × Int} {i j n k : Nat}
end
section
variable {w : World} {l n k cm : Nat} {om : Option Addr} {M : List (List (Int × Int))}
end
end Go.Proofs.Ytajmgjgobgchjaa


/- GmatAlong: what its calls tell. -/
namespace Go.Proofs.Ytajmgjgobgchjaa
open Go Go.RowKit Dig
set_option linter.unusedVariables false
section
variable {w : World} {l la lb lv n k na nb ca cb c : Nat} {oa ob ov : Option Addr} {A B : List (List (Int × Int))} {V : List (Int × Int)}
theorem lMul (ha : MN la w oa A) (hb : MN lb w ob B) (hna : A.length = na) (hnb : B.length = nb) (h : ml2 A B) (h1 : la ≤ 10000000) (h2 : lb ≤ 10000000) :
    Calls Try.prog 12 #[.slice oa na ca, .slice ob nb cb] w fun e w' => ∃ o c, e = .returned (.tuple #[.slice o na c, .int .i64 0]) ∧ MC w' o (mulM A B) ∧ Below w.heap.size w w' := mxmc (mMul_ok ha hb hna hnb h h1 h2)
end
end Go.Proofs.Ytajmgjgobgchjaa


/- GmatSingle: what its calls tell. -/
namespace Go.Proofs.Ytajmgjgobgchjaa
open Go Go.RowKit Dig
set_option linter.unusedVariables false
theorem mxmc2 {K n : Nat} {a : Array Value} {w : World} {M : List (List (Int × Int))} (h : Calls Try.prog K a w fun e w' => ∃ o c rs, e = .returned (.slice o n c) ∧ rs.length = n ∧ St w (Mx w.heap.size (.slice o n c) rs) w' ∧ RD w' rs M ∧ Below w.heap.size w w') :
    Calls Try.prog K a w fun e w' => ∃ o c, e = .returned (.slice o n c) ∧ MC w' o M ∧ Below w.heap.size w w' :=
  Calls.mono h fun e w' ⟨o, c, rs, h1, h2, h3, h4, h5⟩ => ⟨o, c, h1, Mx.mc0 h3 h2 h4, h5⟩
theorem mkM_rl {R K : Nat} {F : Nat → Nat → Int × Int} (h : K ≤ 64) : ∀ r ∈ mkM R K F, r.length ≤ 1000000000 := fun r hr => by
  obtain ⟨i, _, rfl⟩ := List.mem_map.1 hr
  simp only [List.length_map, List.length_range]; omega
section
variable {w : World} {l lb n k c : Nat} {o : Option Addr} {A : List (List (Int × Int))} {vg : Value} {u v : Int}
end
end Go.Proofs.Ytajmgjgobgchjaa


/- The reference's Sum. -/
namespace Go.Proofs.Ytajmgjgobgchjaa
open Go Go.RowKit Dig
set_option linter.unusedVariables false
section
variable {w : World} {l m n k ca cb : Nat} {oa ob : Option Addr} {A B : List (List (Int × Int))} {z : Int}
set_option maxHeartbeats 4000000 in
set_option maxRecDepth 20000 in
theorem rSum_any (ha : MN l w oa A) (hb' : MN m w ob B) (hna : A.length = n) (hnb : B.length = n) (h : gd A) (h2 : gd B) (hk : wd A = k) (hk2 : wd B = k) (hl1 : l ≤ 20000000) (hl2 : m ≤ 20000000) (hz1 : -4294967296 < z) (hz2 : z < 4294967296) :
    Calls Try.prog 22 #[.slice oa n ca, .slice ob n cb, .int .i64 z] w fun e w' => ∃ o c rs, e = .returned (.slice o n c) ∧ rs.length = n ∧ St w (Mx w.heap.size (.slice o n c) rs) w' ∧ RD w' rs (mkM n k fun i j => aP (at2 A i j) (mP (at2 B i j) (z, 0))) ∧ Below w.heap.size w w' := by
  obtain ⟨G, hG⟩ : ∃ G : Nat → Nat → Int × Int, G = fun i j => aP (at2 A i j) (mP (at2 B i j) (z, 0)) := ⟨_, rfl⟩
  rw [← hG]
  have HG := hide (fun i j => congrFun (congrFun hG i) j)
  have HA := hide ha
  have HB := hide hb'
  have HC := hide ha.bd
  have HD := hide hb'.bd
  have hn64 : n ≤ 64 := by have := h.1; omega
  have hk64 : k ≤ 64 := by have := h.2.1; omega
  have HR := hide (show ∀ i, i < n → (rw_ A i).length = k ∧ (rw_ B i).length = k from fun i hi => ⟨by rw [gd_row h (by omega)]; exact hk, by rw [gd_row h2 (by omega)]; exact hk2⟩)
  have lz := zlen_small8 (z := z) (by omega)
  clear ha hb' h h2 hG
  go_enter Try.func22, Try.ntmps22
  have hs := St.nil w
  refine wp_seq_k ?_
  intro K1 hK1
  refine rg [0] ?_
  refine sq ?_
  refine .mv ?_
  apply wpSq_end
  refine hK1 _ _ ?_
  refine wp_seq_k ?_
  intro K2 hK2
  refine rg [0, 1, 2, 3, 4, 5] ?_
  refine sq ?_
  refine .mv ?_
  refine sq ?_
  refine .r0 ?_
  refine sq ?_
  refine .mv ?_
  refine sq ?_
  intro K hK
  have hb := hs.b
  go_big_op
  go_fit (rCols_any (HA.out.bl stab_n hb) hna hk)
  rintro e w_1 ⟨rfl, hb_1⟩
  clear hb
  replace hs := hs.bl hb_1
  refine hK _ _ rfl trivial ?_
  clear hK K
  refine sq ?_
  intro K hK
  go_big_op
  go_fit (rNew_any (r := n) (k := k) (by omega) (by omega))
  rintro e w_2 ⟨o_O, c_O, rs_O, rfl, hl_O, hs_O, d_O, hb_2⟩
  replace hs := hs.mx hl_O hs_O; simp only [List.nil_append] at hs
  refine hK _ _ rfl trivial ?_
  clear hK K
  refine sq ?_
  refine .mv ?_
  apply wpSq_end
  refine hK2 _ _ ?_
  refine wp_seq_k ?_
  intro K3 hK3
  refine wp_seq_k ?_
  intro K4 hK4
  refine rg [0] ?_
  refine sq ?_
  refine .mv ?_
  apply wpSq_end
  refine hK4 _ _ ?_
  refine wp_block ?_
  have hd3 := hs.2.1
  go_loopg [8] n (fun kk s8 wr => ∃ (i : Nat) (rs : List Rw), s8 = .int .i64 (i : Int) ∧ i + kk = n ∧ rs.length = n ∧ RD wr rs (mkM n k (fi G i 0)) ∧
    St w (ls w.heap.size 51 1 (.slice o_O n c_O) n (rs.map (·.v)) :: ([] ++ rs.map (Rw.e w.heap.size))) wr)
  case atStart => exact ⟨0, rs_O, rfl, by omega, hl_O, by rw [← fi_0]; exact d_O, hs⟩
  case round =>
  clear d_O hs
  obtain ⟨i, rs, rfl, hik, hrl, hd, hs⟩ := hrel
  have HO := ‹∀ (a' : Act) (w' : World), Handed _ _ a' w' → _›
  obtain ⟨g1, hg1⟩ : ∃ g, gk = g := ⟨_, rfl⟩
  by_cases hi : i < n
  · have HX := hide hi
    refine wp_seq_k ?_
    intro K5 hK5
    refine wp_seq_k ?_
    intro K6 hK6
    refine rg [0, 1, 2, 3] ?_
    refine sq ?_
    refine .mv ?_
    refine sq ?_
    refine .mv ?_
    refine sq ?_
    refine .r0 ?_
    refine sq ?_
    refine .r0 ?_
    apply wpSq_end
    refine hK6 _ _ ?_
    refine ct ?_
    refine wp_skip ?_
    refine hK5 _ _ ?_
    refine wp_seq_k ?_
    intro K7 hK7
    refine wp_block ?_
    refine wp_seq_k ?_
    intro K8 hK8
    refine rg [0] ?_
    refine sq ?_
    refine .mv ?_
    apply wpSq_end
    refine hK8 _ _ ?_
    refine wp_block ?_
    have hd4 := hs.2.1
    go_loopg [9] k (fun kk s9 wr => ∃ (j : Nat) (rs : List Rw), s9 = .int .i64 (j : Int) ∧ j + kk = k ∧ rs.length = n ∧ RD wr rs (mkM n k (fi G i j)) ∧
      St w (ls w.heap.size 51 1 (.slice o_O n c_O) n (rs.map (·.v)) :: ([] ++ rs.map (Rw.e w.heap.size))) wr)
    case atStart => exact ⟨0, rs, rfl, by omega, hrl, hd, hs⟩
    case round =>
    clear hd hs
    clear hrl
    obtain ⟨j, rs, rfl, hjk, hrl, hd, hs⟩ := hrel
    by_cases hj : j < k
    · have HJ := hide hj
      obtain ⟨gm, offm, curm, tym, fzm, g2, off2, cur2, ty2, fz2, ci, a1, a2, a3, a4, a5, a6, a7, a8, rfl, x1, e0', x2, e1, e2, e3, e4, z1, z2⟩ := HA.out.op (i := i) (j := j) (by have := HX.out; omega) (by rw [(HR.out i HX.out).1]; exact hj)
      obtain ⟨gn, offn, curn, tyn, fzn, g4, off4, cur4, ty4, fz4, cj, d1, d2, d3, d4, d5, d6, d7, d8, rfl, x3, e5', x4, e5, e6, e7, e8, z3, z4⟩ := HB.out.op (i := i) (j := j) (by have := HX.out; omega) (by rw [(HR.out i HX.out).2]; exact hj)
      rw [(HR.out i HX.out).1] at e0'
      rw [(HR.out i HX.out).2] at e5'
      have hE := e0'
      have hF := e5'
      clear e0' e5'
      replace z1 : ZN wr (.agg #[.bool a1, .slice a2 a3 a4]) (at2 A i j).1 l := z1.bl hs.b
      replace z2 : ZN wr (.agg #[.bool a5, .slice a6 a7 a8]) (at2 A i j).2 l := z2.bl hs.b
      replace z3 : ZN wr (.agg #[.bool d1, .slice d2 d3 d4]) (at2 B i j).1 m := z3.bl hs.b
      replace z4 : ZN wr (.agg #[.bool d5, .slice d6 d7 d8]) (at2 B i j).2 m := z4.bl hs.b
      have x1z := x1
      have x2z := x2
      have x3z := x3
      have x4z := x4
      have lt_kA := x1.lt
      have lt_kRA := x2.lt
      have lt_kB := x3.lt
      have lt_kRB := x4.lt
      replace x1 := x1.bl hs.b
      replace x2 := x2.bl hs.b
      replace x3 := x3.bl hs.b
      replace x4 := x4.bl hs.b
      have Lz1 := hide z1.len
      have Lz2 := hide z2.len
      have Lz3 := hide z3.len
      have Lz4 := hide z4.len
      have LF := hide (show zl (m + 1 + 1) (mP (at2 B i j) (z, 0)) from zl_mP ⟨Lz3.out, Lz4.out⟩ ⟨lz, zlen_small8 (z := 0) (by decide)⟩)
      obtain ⟨r1, gr, cr, xs, r2, rfl, hr1, hrv, hx, hs⟩ := hs.row (bs := []) hd (p := i) (K := k) (by rw [len_mkM]; exact HX.out) (by rw [mkM_row HX.out]; simp) (by omega)
      have LO : Lst wr w.heap.size 51 1 (.slice o_O n c_O) n _ := hs.1.2.1.1
      obtain ⟨gO, curO, rfl, xO, hcO⟩ := LO.box (by omega)
      have eO := hcO _ _ hrv
      clear LO hcO hrv
      refine wp_seq_k ?_
      intro K9 hK9
      refine wp_seq_k ?_
      intro K10 hK10
      refine rg [0, 1, 2, 3, 4, 5, 6] ?_
      refine sq ?_
      refine .mv ?_
      refine sq ?_
      refine .mv ?_
      refine sq ?_
      refine .mv ?_
      refine sq ?_
      refine .r0 ?_
      refine sq ?_
      refine .r1 (x1.cell _ hE) ?_
      refine sq ?_
      refine .r0 ?_
      refine sq ?_
      refine .r0 ?_
      apply wpSq_end
      refine hK10 _ _ ?_
      refine ct ?_
      refine wp_skip ?_
      refine hK9 _ _ ?_
      refine wp_seq_k ?_
      intro K11 hK11
      refine wp_block ?_
      refine wp_region_f4 [(0, false), (1, false), (2, false), (3, false), (4, false), (5, false), (6, false), (7, false), (8, false), (9, false), (10, false), (11, false), (12, false), (13, false), (14, false), (15, false), (16, false), (17, false), (18, false), (19, false), (20, true), (21, true), (22, true), (23, false)] [24] [] (fun _ => default) [99, 99, 99, 0, 99, 99, 99, 99, 1, 99, 99, 2, 99, 99, 99, 3, 99, 99, 4, 99, 99, 99, 99, 99, 99] [] (.c xO (.c x1 (.c x2 (.c x3 (.c x4 .n))))) fn fun w_5 n5 => ?_
      replace x1 := x1.bl n5; replace x2 := x2.bl n5; replace x3 := x3.bl n5; replace x4 := x4.bl n5; replace xO := xO.bl n5; replace hs := hs.bl n5
      refine fmv ?_
      refine fmv ?_
      refine f0 ?_
      apply wpFl_ld rfl rfl; (case h1 => intro w' hC K hK; have c0 := Bs.cell hC (i) eO; go_big_op; exact hK); iterate 4 kernel_rfl
      refine fmv ?_
      refine fmv ?_
      refine fmv ?_
      refine f0 ?_
      apply wpFl_ld rfl rfl; (case h1 => intro w' hC K hK; have c0 := Bs.cell hC ((offm + i)) hE; go_big_op; exact hK); iterate 4 kernel_rfl
      refine fmv ?_
      refine f0 ?_
      apply wpFl_ld rfl rfl; (case h1 => intro w' hC K hK; have c0 := Bs.cell hC ((off2 + j * 4)) e1; have c1 := Bs.cell hC ((off2 + j * 4) + 1) e2; have c2 := Bs.cell hC ((off2 + j * 4) + 2) e3; have c3 := Bs.cell hC ((off2 + j * 4) + 3) e4; go_big_op; exact hK); iterate 4 kernel_rfl
      refine fmv ?_
      refine fmv ?_
      refine f0 ?_
      apply wpFl_ld rfl rfl; (case h1 => intro w' hC K hK; have c0 := Bs.cell hC ((offn + i)) hF; go_big_op; exact hK); iterate 4 kernel_rfl
      refine fmv ?_
      refine f0 ?_
      apply wpFl_ld rfl rfl; (case h1 => intro w' hC K hK; have c0 := Bs.cell hC ((off4 + j * 4)) e5; have c1 := Bs.cell hC ((off4 + j * 4) + 1) e6; have c2 := Bs.cell hC ((off4 + j * 4) + 2) e7; have c3 := Bs.cell hC ((off4 + j * 4) + 3) e8; go_big_op; exact hK); iterate 4 kernel_rfl
      refine fmv ?_
      refine fl fun w_6 n6 => ?_
      replace x1 := x1.bl n6; replace x2 := x2.bl n6; replace x3 := x3.bl n6; replace x4 := x4.bl n6; replace xO := xO.bl n6; replace hs := hs.bl n6
      intro K hK
      go_big_op
      go_fit (rgI_any z 0 _ (by omega) (by omega) (by decide) (by decide))
      rintro e w_7 ⟨_, rfl, ⟨n_ca, o_ca, k_ca, c_ca, n_cb, o_cb, k_cb, c_cb, rfl, c1, c2⟩, hb_7⟩
      replace x1 := x1.bl hb_7; replace x2 := x2.bl hb_7; replace x3 := x3.bl hb_7; replace x4 := x4.bl hb_7; replace xO := xO.bl hb_7; replace hs := hs.bl hb_7
      have Lc1 := hide (c1.lenOf (lz))
      have Lc2 := hide (c2.lenOf (zlen_small8 (z := 0) (by decide)))
      refine hK _ _ rfl ⟨hb_7, (And.intro xO (And.intro x1 (And.intro x2 (And.intro x3 (And.intro x4 trivial)))))⟩ ?_
      clear hK K
      refine fl fun w_8 n8 => ?_
      replace x1 := x1.bl n8; replace x2 := x2.bl n8; replace x3 := x3.bl n8; replace x4 := x4.bl n8; replace xO := xO.bl n8; replace hs := hs.bl n8
      intro K hK
      have k0_4 := (((kb n5).b n6).b hb_7).b n8
      replace z3 := z3.k k0_4
      replace z4 := z4.k k0_4
      have k3_4 := kb n8
      replace c1 := c1.k k3_4
      replace c2 := c2.k k3_4
      go_big_op
      go_fit (rgMul_any (.mk' z3 z4) (.mk' (c1.zn Lc1.out) (c2.zn Lc2.out)) (by omega) (by omega) (by omega) (by omega))
      rintro e w_9 ⟨_, rfl, ⟨n_ya, o_ya, k_ya, c_ya, n_yb, o_yb, k_yb, c_yb, rfl, y1, y2⟩, hb_9⟩
      replace x1 := x1.bl hb_9; replace x2 := x2.bl hb_9; replace x3 := x3.bl hb_9; replace x4 := x4.bl hb_9; replace xO := xO.bl hb_9; replace hs := hs.bl hb_9
      have Ly1 := hide (y1.lenOf (LF.out.1))
      have Ly2 := hide (y2.lenOf (LF.out.2))
      refine hK _ _ rfl ⟨hb_9, (And.intro xO (And.intro x1 (And.intro x2 (And.intro x3 (And.intro x4 trivial)))))⟩ ?_
      clear hK K
      refine fl fun w_10 n10 => ?_
      replace x1 := x1.bl n10; replace x2 := x2.bl n10; replace x3 := x3.bl n10; replace x4 := x4.bl n10; replace xO := xO.bl n10; replace hs := hs.bl n10
      intro K hK
      have k0_6 := (k0_4.b hb_9).b n10
      replace z1 := z1.k k0_6
      replace z2 := z2.k k0_6
      have k5_6 := kb n10
      replace y1 := y1.k k5_6
      replace y2 := y2.k k5_6
      go_big_op
      go_fit (rgAdd_any (.mk' z1 z2) (.mk' (y1.zn Ly1.out) (y2.zn Ly2.out)) (by omega) (by omega) (by omega) (by omega))
      rintro e w_11 ⟨_, rfl, ⟨n_fa, o_fa, k_fa, c_fa, n_fb, o_fb, k_fb, c_fb, rfl, f1, f2⟩, hb_11⟩
      replace x1 := x1.bl hb_11; replace x2 := x2.bl hb_11; replace x3 := x3.bl hb_11; replace x4 := x4.bl hb_11; replace xO := xO.bl hb_11; replace hs := hs.bl hb_11
      refine hK _ _ rfl ⟨hb_11, (And.intro xO (And.intro x1 (And.intro x2 (And.intro x3 (And.intro x4 trivial)))))⟩ ?_
      clear hK K
      refine f0 ?_
      refine e0 hs ?_; clear hs; intro w_12 hs n12
      replace x1 := x1.bl n12; replace x2 := x2.bl n12; replace x3 := x3.bl n12; replace x4 := x4.bl n12; replace xO := xO.bl n12
      refine tl ?_
      refine .i4 0 hs (j := j) (by omega) ?_ (e := fun _ hB hO => (And.intro (xO.frame hO (hs.ne 1 0)) (And.intro (x1z.bl hB) (And.intro (x2z.bl hB) (And.intro (x3z.bl hB) (And.intro (x4z.bl hB) True.intro)))))); clear hs; intro w_13 hs kp13 hd13 ho13 hw13; simp only [List.set_cons_zero] at hs
      replace x1 := x1.lo lt_kA hw13
      replace x2 := x2.lo lt_kRA hw13
      replace x3 := x3.lo lt_kB hw13
      replace x4 := x4.lo lt_kRB hw13
      clear xO
      apply wpTail_end
      refine hK11 _ _ ?_
      refine rg [0, 1, 2] ?_
      refine sq ?_
      refine .mv ?_
      refine sq ?_
      refine .r0 ?_
      refine sq ?_
      refine .mv ?_
      apply wpSq_end
      have k0_9 := ((k0_6.b hb_11).b n12).t kp13
      replace hd := hd.k k0_9
      replace hx := hx.k k0_9
      have k7_9 := (kb n12).t kp13
      replace f1 := f1.k k7_9
      replace f2 := f2.k k7_9
      refine ‹∀ (a' : Act) (w' : World), Handed _ _ a' w' → _› _ _ ?_
      go_roundg (gk - 1)
      case rel => exact ⟨j + 1, _, by rfl, by omega, by simpa using hrl, RD.fi hd hr1 HX.out HJ.out hx (by rw [HG.out]; exact f1) (by rw [HG.out]; exact f2), hs.unrow (bs := [])⟩
      case measure => omega
    · obtain rfl : k = j := by omega
      have HJ := hide hj
      obtain ⟨gm, offm, curm, tym, fzm, oi, ci, rfl, x1, e5, s2⟩ := HA.out.row (i := i) (by have := HX.out; omega)
      rw [(HR.out i HX.out).1] at e5
      clear s2
      replace x1 := x1.bl hs.b
      refine wp_seq_k ?_
      intro K9 hK9
      refine wp_seq_k ?_
      intro K10 hK10
      refine rg [0, 1, 2, 3, 4, 5, 6] ?_
      refine sq ?_
      refine .mv ?_
      refine sq ?_
      refine .mv ?_
      refine sq ?_
      refine .mv ?_
      refine sq ?_
      refine .r0 ?_
      refine sq ?_
      refine .r1 (x1.cell _ e5) ?_
      refine sq ?_
      refine .r0 ?_
      refine sq ?_
      refine .r0 ?_
      apply wpSq_end
      refine hK10 _ _ ?_
      refine cf ?_
      refine wp_exit ?_
      refine hK7 _ _ ?_
      refine rg [0, 1, 2] ?_
      refine sq ?_
      refine .mv ?_
      refine sq ?_
      refine .r0 ?_
      refine sq ?_
      refine .mv ?_
      apply wpSq_end
      refine HO _ _ ?_
      go_roundg (g1 - 1)
      case rel => exact ⟨i + 1, rs, by rfl, by omega, hrl, by rw [← fi_row]; exact hd, hs⟩
      case measure => omega
  · obtain rfl : n = i := by omega
    have HX := hide hi
    refine wp_seq_k ?_
    intro K5 hK5
    refine wp_seq_k ?_
    intro K6 hK6
    refine rg [0, 1, 2, 3] ?_
    refine sq ?_
    refine .mv ?_
    refine sq ?_
    refine .mv ?_
    refine sq ?_
    refine .r0 ?_
    refine sq ?_
    refine .r0 ?_
    apply wpSq_end
    refine hK6 _ _ ?_
    refine cf ?_
    refine wp_exit ?_
    refine hK3 _ _ ?_
    refine wp_seq_k ?_
    intro K7 hK7
    refine rg [0, 1] ?_
    refine sq ?_
    refine .mv ?_
    refine sq ?_
    refine .mv ?_
    apply wpSq_end
    refine hK7 _ _ ?_
    refine wp_ret ?_
    try dsimp only [Exit.then, Exit.inBlock]
    refine bodyPost_ret (v := (.slice o_O n c_O)) (by simp [results, Try.results22, go_sem]) rfl ?_
    exact ⟨_, _, rs, rfl, hrl, (by unfold Mx; rw [hrl]; exact hs), by rw [← fi_end]; exact hd, hs.b⟩
end
end Go.Proofs.Ytajmgjgobgchjaa


/- The reference's Mul. -/
namespace Go.Proofs.Ytajmgjgobgchjaa
open Go Go.RowKit Dig
set_option linter.unusedVariables false
section
variable {w : World} {l m na nb k ca cb : Nat} {oa ob : Option Addr} {A B : List (List (Int × Int))}
def mlT (A B : List (List (Int × Int))) (i nb k : Nat) : List (List (Int × Int)) := (List.range i).map fun i => rwT (rw_ A i) B nb k
set_option maxHeartbeats 4000000 in
set_option maxRecDepth 20000 in
theorem rMul_any (ha : MN l w oa A) (hb' : MN m w ob B) (hna : A.length = na) (hnb : B.length = nb) (h : ml2 A B) (hk : wd B = k) (hl1 : l ≤ 9000000) (hl2 : m ≤ 9000000) :
    Calls Try.prog 23 #[.slice oa na ca, .slice ob nb cb] w fun e w' => ∃ o c rs, e = .returned (.slice o na c) ∧ rs.length = na ∧ St w (Mx w.heap.size (.slice o na c) rs) w' ∧ RD w' rs (mulM A B) ∧ Below w.heap.size w w' := by
  have HE := hide (show mulM A B = mlT A B na nb k by subst hna hnb hk; rfl)
  have HA := hide ha
  have HB := hide hb'
  have hn64 : na ≤ 64 := by have := h.1.1; omega
  have HH := hide h.2.1
  have HR := hide (show ∀ i, i < na → (rw_ A i).length = nb from fun i hi => by rw [gd_row h.1 (by omega), h.2.2]; exact hnb)
  clear ha hb' h
  go_enter Try.func23, Try.ntmps23
  have hs := St.nil w
  refine wp_seq_k ?_
  intro K1 hK1
  refine rg [0] ?_
  refine sq ?_
  refine .mv ?_
  apply wpSq_end
  refine hK1 _ _ ?_
  refine wp_seq_k ?_
  intro K2 hK2
  refine rg [0] ?_
  refine sq ?_
  refine .mv ?_
  apply wpSq_end
  refine hK2 _ _ ?_
  refine wp_seq_k ?_
  intro K3 hK3
  refine wp_seq_k ?_
  intro K4 hK4
  refine rg [0] ?_
  refine sq ?_
  refine .mv ?_
  apply wpSq_end
  refine hK4 _ _ ?_
  refine wp_block ?_
  have hd1 := hs.2.1
  go_loopg [5, 6] na (fun kk s5 s6 wr => ∃ (i : Nat) (o : Option Addr) (c : Nat) (rs : List Rw), s6 = .int .i64 (i : Int) ∧ s5 = .slice o i c ∧ i + kk = na ∧ rs.length = i ∧ RD wr rs (mlT A B i nb k) ∧ St w (ls w.heap.size 51 1 (.slice o i c) i (rs.map (·.v)) :: rs.map (Rw.e w.heap.size)) wr)
  case atStart => exact ⟨0, none, 0, [], rfl, rfl, by omega, rfl, trivial, hs.l0 _ _⟩
  case round =>
  clear hs
  obtain ⟨i, o, c, rs, rfl, rfl, hik, hyl, hd, hs⟩ := hrel
  by_cases hi : i < na
  · obtain ⟨gm, offm, curm, tym, fzm, oi, ci, rfl, x1, e5, s2⟩ := HA.out.row (i := i) (by omega)
    rw [HR.out i hi] at e5
    have HS := hide s2
    clear s2
    have x1z := x1
    have lt_kA := x1.lt
    replace x1 := x1.bl hs.b
    have HX := hide hi
    refine wp_seq_k ?_
    intro K5 hK5
    refine wp_seq_k ?_
    intro K6 hK6
    refine rg [0, 1, 2, 3] ?_
    refine sq ?_
    refine .mv ?_
    refine sq ?_
    refine .mv ?_
    refine sq ?_
    refine .r0 ?_
    refine sq ?_
    refine .r0 ?_
    apply wpSq_end
    refine hK6 _ _ ?_
    refine ct ?_
    refine wp_skip ?_
    refine hK5 _ _ ?_
    refine wp_seq_k ?_
    intro K7 hK7
    refine wp_block ?_
    refine wp_region_f4 [(0, false), (1, false), (2, false), (3, false), (4, false), (5, false), (6, false), (7, true), (8, true), (9, true)] [10, 11] [] (fun _ => default) [99, 99, 99, 99, 0, 99, 99, 99, 99, 99, 99, 99] [] (.c x1 .n) fn fun w_2 n2 => ?_
    replace x1 := x1.bl n2; replace hs := hs.bl n2
    refine fmv ?_
    refine fmv ?_
    refine fmv ?_
    refine f0 ?_
    apply wpFl_ld rfl rfl; (case h1 => intro w' hC K hK; have c0 := Bs.cell hC ((offm + i)) e5; go_big_op; exact hK); iterate 4 kernel_rfl
    refine fmv ?_
    refine fmv ?_
    refine fl fun w_3 n3 => ?_
    replace x1 := x1.bl n3; replace hs := hs.bl n3
    intro K hK
    have hb := hs.b
    go_big_op
    go_fit (rCols_any (HB.out.bl stab_n hb) hnb hk)
    rintro e w_4 ⟨rfl, hb_4⟩
    clear hb
    replace x1 := x1.bl hb_4; replace hs := hs.bl hb_4
    refine hK _ _ rfl ⟨hb_4, (And.intro x1 trivial)⟩ ?_
    clear hK K
    refine fl fun w_5 n5 => ?_
    replace x1 := x1.bl n5; replace hs := hs.bl n5
    intro K hK
    have hb := hs.b
    go_big_op
    go_fit (rTimes_any (HS.out.bl stab_n hb) (HB.out.bl stab_n hb) (HR.out i HX.out) hnb HH.out hk hl1 hl2)
    rintro e w_6 ⟨o_y, c_y, xs_y, rfl, L_y, d_y, hb_6⟩
    clear hb
    replace x1 := x1.bl hb_6
    replace hs := hs.la hb_6 L_y
    refine hK _ _ rfl ⟨hb_6, (And.intro x1 trivial)⟩ ?_
    clear hK K
    refine fl fun w_7 n7 => ?_
    replace x1 := x1.bl n7; replace hs := hs.bl n7
    refine .al hs ?_ (e := fun _ _ hs n => ⟨n, (And.intro (x1z.bl hs.b) trivial)⟩); clear hs; intro p_b1 w_8 hs n8 kb_b1
    replace x1 := x1.bl n8
    refine e0 hs ?_; clear hs; intro w_9 hs n9
    replace x1 := x1.bl n9
    refine tl ?_
    refine .apo 2 hs hs.g0 ?_ (eE := fun _ _ _ hs => (And.intro (x1z.bl hs.b) True.intro)); clear hs; intro o_L_10 c_L_10 w_10 hs kp10 hw10; simp only [List.set_cons_succ, List.set_cons_zero] at hs
    replace x1 := x1.lo lt_kA hw10
    refine tl ?_
    refine .mv ?_ (e := (And.intro (x1z.bl hs.b) True.intro))
    apply wpTail_end
    refine hK7 _ _ ?_
    refine rg [0, 1, 2] ?_
    refine sq ?_
    refine .mv ?_
    refine sq ?_
    refine .r0 ?_
    refine sq ?_
    refine .mv ?_
    apply wpSq_end
    have k0_9 := ((((((((kb n2).b n3).b hb_4).b n5).b hb_6).b n7).b n8).b n9).t kp10
    replace hd := hd.k k0_9
    have k5_9 := (((kb n7).b n8).b n9).t kp10
    replace d_y := d_y.k k5_9
    refine ‹∀ (a' : Act) (w' : World), Handed _ _ a' w' → _› _ _ ?_
    have hs := (hs.sub (.cons _ (List.Sublist.refl _))).perm (cs := ls w.heap.size 51 1 (.slice o_L_10 (i + 1) c_L_10) (i + 1) ((rs ++ [(⟨.slice o_y k c_y, k, xs_y⟩ : Rw)]).map (·.v)) :: (rs ++ [(⟨.slice o_y k c_y, k, xs_y⟩ : Rw)]).map (Rw.e w.heap.size)) (by
      rw [List.map_append, List.map_append]
      exact (List.Perm.swap _ _ _).trans (List.Perm.cons _ (List.perm_append_singleton _ _).symm))
    go_roundg (gk - 1)
    case rel => exact ⟨i + 1, _, _, _, by rfl, by rfl, by omega, by simp; omega, by unfold mlT; rw [mapr_succ]; exact hd.snoc (by simp [rwT]) d_y, hs⟩
    case measure => omega
  · obtain rfl : i = na := by omega
    have HX := hide hi
    refine wp_seq_k ?_
    intro K5 hK5
    refine wp_seq_k ?_
    intro K6 hK6
    refine rg [0, 1, 2, 3] ?_
    refine sq ?_
    refine .mv ?_
    refine sq ?_
    refine .mv ?_
    refine sq ?_
    refine .r0 ?_
    refine sq ?_
    refine .r0 ?_
    apply wpSq_end
    refine hK6 _ _ ?_
    refine cf ?_
    refine wp_exit ?_
    refine hK3 _ _ ?_
    refine wp_seq_k ?_
    intro K7 hK7
    refine rg [0, 1] ?_
    refine sq ?_
    refine .mv ?_
    refine sq ?_
    refine .mv ?_
    apply wpSq_end
    refine hK7 _ _ ?_
    refine wp_ret ?_
    try dsimp only [Exit.then, Exit.inBlock]
    refine bodyPost_ret (v := (.slice o i c)) (by simp [results, Try.results23, go_sem]) rfl ?_
    exact ⟨_, _, rs, rfl, hyl, (by unfold Mx; rw [hyl]; exact hs), by rw [HE.out]; exact hd, hs.b⟩
end
end Go.Proofs.Ytajmgjgobgchjaa


/- The reference's Ident. -/
namespace Go.Proofs.Ytajmgjgobgchjaa
open Go Go.RowKit Dig
set_option linter.unusedVariables false
/-- Ones on the way down, the first i. -/
def di (i : Nat) : Nat → Nat → Int × Int := fun p q => if p = q ∧ p < i then (1, 0) else (0, 0)
section
variable {w : World} {n i : Nat}
theorem di_0 : (mkM n n fun _ _ => (0, 0)) = mkM n n (di 0) := mkM_eq rfl rfl fun p _ q _ => by unfold di; rw [if_neg (by omega)]
theorem di_step : upd (di i) i i (1, 0) = di (i + 1) := by
  funext p q
  unfold upd di
  by_cases h : p = i ∧ q = i
  · rw [if_pos h, if_pos (by omega)]
  · rw [if_neg h]
    by_cases h2 : p = q ∧ p < i
    · rw [if_pos h2, if_pos (by omega)]
    · rw [if_neg h2, if_neg (by omega)]
theorem di_end : mkM n n (di n) = mkM n n one2 := mkM_eq rfl rfl fun p hp q _ => by
  unfold di one2
  by_cases h : p = q
  · rw [if_pos ⟨h, hp⟩, if_pos h]
  · rw [if_neg (by omega), if_neg h]
set_option maxHeartbeats 4000000 in
set_option maxRecDepth 20000 in
theorem rIdent_any (hn64 : n ≤ 64) :
    Calls Try.prog 21 #[.int .i64 (n : Int)] w fun e w' => ∃ o c rs, e = .returned (.slice o n c) ∧ rs.length = n ∧ St w (Mx w.heap.size (.slice o n c) rs) w' ∧ RD w' rs (mkM n n one2) ∧ Below w.heap.size w w' := by
  go_enter Try.func21, Try.ntmps21
  have hs := St.nil w
  refine wp_seq_k ?_
  intro K1 hK1
  refine rg [0] ?_
  refine sq ?_
  refine .mv ?_
  apply wpSq_end
  refine hK1 _ _ ?_
  refine wp_seq_k ?_
  intro K2 hK2
  refine rg [0, 1, 2, 3] ?_
  refine sq ?_
  refine .mv ?_
  refine sq ?_
  refine .mv ?_
  refine sq ?_
  intro K hK
  go_big_op
  go_fit (rNew_any (r := n) (k := n) (by omega) (by omega))
  rintro e w_1 ⟨o_O, c_O, rs_O, rfl, hl_O, hs_O, d_O, hb_1⟩
  replace hs := hs.mx hl_O hs_O; simp only [List.nil_append] at hs
  refine hK _ _ rfl trivial ?_
  clear hK K
  refine sq ?_
  refine .mv ?_
  apply wpSq_end
  refine hK2 _ _ ?_
  refine wp_seq_k ?_
  intro K3 hK3
  refine wp_seq_k ?_
  intro K4 hK4
  refine rg [0] ?_
  refine sq ?_
  refine .mv ?_
  apply wpSq_end
  refine hK4 _ _ ?_
  refine wp_block ?_
  have hd2 := hs.2.1
  go_loopg [4] n (fun kk s4 wr => ∃ (i : Nat) (rs : List Rw), s4 = .int .i64 (i : Int) ∧ i + kk = n ∧ rs.length = n ∧ RD wr rs (mkM n n (di i)) ∧
    St w (ls w.heap.size 51 1 (.slice o_O n c_O) n (rs.map (·.v)) :: ([] ++ rs.map (Rw.e w.heap.size))) wr)
  case atStart => exact ⟨0, rs_O, rfl, by omega, hl_O, by rw [← di_0]; exact d_O, hs⟩
  case round =>
  clear d_O hs
  obtain ⟨i, rs, rfl, hik, hrl, hd, hs⟩ := hrel
  by_cases hi : i < n
  · have HX := hide hi
    obtain ⟨r1, gr, cr, xs, r2, rfl, hr1, hrv, hx, hs⟩ := hs.row (bs := []) hd (p := i) (K := n) (by rw [len_mkM]; exact hi) (by rw [mkM_row hi]; simp) (by omega)
    have LO : Lst wr w.heap.size 51 1 (.slice o_O n c_O) n _ := hs.1.2.1.1
    obtain ⟨gO, curO, rfl, xO, hcO⟩ := LO.box (by omega)
    have eO := hcO _ _ hrv
    clear LO hcO hrv
    refine wp_seq_k ?_
    intro K5 hK5
    refine wp_seq_k ?_
    intro K6 hK6
    refine rg [0, 1, 2] ?_
    refine sq ?_
    refine .mv ?_
    refine sq ?_
    refine .mv ?_
    refine sq ?_
    refine .r0 ?_
    apply wpSq_end
    refine hK6 _ _ ?_
    refine ct ?_
    refine wp_skip ?_
    refine hK5 _ _ ?_
    refine wp_seq_k ?_
    intro K7 hK7
    refine wp_block ?_
    refine wp_region_f4 [(0, false), (1, false), (2, false), (3, false), (4, false), (5, true), (6, false)] [7] [] (fun _ => default) [99, 99, 99, 0, 99, 99, 99, 99] [] (.c xO .n) fn fun w_3 n3 => ?_
    replace xO := xO.bl n3; replace hs := hs.bl n3
    refine fmv ?_
    refine fmv ?_
    refine f0 ?_
    apply wpFl_ld rfl rfl; (case h1 => intro w' hC K hK; have c0 := Bs.cell hC (i) eO; go_big_op; exact hK); iterate 4 kernel_rfl
    refine fmv ?_
    refine fl fun w_4 n4 => ?_
    replace xO := xO.bl n4; replace hs := hs.bl n4
    intro K hK
    go_big_op
    go_fit (rgI_any 1 0 _ (by decide) (by decide) (by decide) (by decide))
    rintro e w_5 ⟨_, rfl, ⟨n_fa, o_fa, k_fa, c_fa, n_fb, o_fb, k_fb, c_fb, rfl, f1, f2⟩, hb_5⟩
    replace xO := xO.bl hb_5; replace hs := hs.bl hb_5
    have Lf1 := hide (f1.lenOf (zlen_small8 (z := 1) (by decide)))
    have Lf2 := hide (f2.lenOf (zlen_small8 (z := 0) (by decide)))
    refine hK _ _ rfl ⟨hb_5, (And.intro xO trivial)⟩ ?_
    clear hK K
    refine f0 ?_
    refine e0 hs ?_; clear hs; intro w_6 hs n6
    replace xO := xO.bl n6
    refine tl ?_
    refine .i4 0 hs (j := i) (by omega) ?_ (e := fun _ hB hO => (And.intro (xO.frame hO (hs.ne 1 0)) True.intro)); clear hs; intro w_7 hs kp7 hd7 ho7 hw7; simp only [List.set_cons_zero] at hs
    clear xO
    apply wpTail_end
    refine hK7 _ _ ?_
    refine rg [0, 1, 2] ?_
    refine sq ?_
    refine .mv ?_
    refine sq ?_
    refine .r0 ?_
    refine sq ?_
    refine .mv ?_
    apply wpSq_end
    have k0_5 := ((((kb n3).b n4).b hb_5).b n6).t kp7
    replace hd := hd.k k0_5
    replace hx := hx.k k0_5
    have k3_5 := (kb n6).t kp7
    replace f1 := f1.k k3_5
    replace f2 := f2.k k3_5
    refine ‹∀ (a' : Act) (w' : World), Handed _ _ a' w' → _› _ _ ?_
    go_roundg (gk - 1)
    case rel => exact ⟨i + 1, _, by rfl, by omega, by simpa using hrl, by rw [← di_step]; exact hd.upd (y := (1, 0)) hr1 HX.out HX.out hx f1 f2, hs.unrow (bs := [])⟩
    case measure => omega
  · obtain rfl : n = i := by omega
    have HX := hide hi
    refine wp_seq_k ?_
    intro K5 hK5
    refine wp_seq_k ?_
    intro K6 hK6
    refine rg [0, 1, 2] ?_
    refine sq ?_
    refine .mv ?_
    refine sq ?_
    refine .mv ?_
    refine sq ?_
    refine .r0 ?_
    apply wpSq_end
    refine hK6 _ _ ?_
    refine cf ?_
    refine wp_exit ?_
    refine hK3 _ _ ?_
    refine wp_seq_k ?_
    intro K7 hK7
    refine rg [0, 1] ?_
    refine sq ?_
    refine .mv ?_
    refine sq ?_
    refine .mv ?_
    apply wpSq_end
    refine hK7 _ _ ?_
    refine wp_ret ?_
    try dsimp only [Exit.then, Exit.inBlock]
    refine bodyPost_ret (v := (.slice o_O n c_O)) (by simp [results, Try.results21, go_sem]) rfl ?_
    exact ⟨_, _, rs, rfl, hrl, (by unfold Mx; rw [hrl]; exact hs), by rw [← di_end]; exact hd, hs.b⟩
end
end Go.Proofs.Ytajmgjgobgchjaa

