/- The reference's Times. -/
import Derived.Test.YtajmgjgobgchjaaI5ToO2

namespace Go.Proofs.Ytajmgjgobgchjaa
open Go Go.RowKit Dig
set_option linter.unusedVariables false
section
variable {w : World} {l m n k cv cm i : Nat} {ov om : Option Addr} {V : List (Int × Int)} {M : List (List (Int × Int))}
/-- The sum of the first i rows, each times its number. -/
def rwT (V : List (Int × Int)) (M : List (List (Int × Int))) (i k : Nat) : List (Int × Int) := (List.range k).map fun j => sumP i fun q => mP (at1 V q) (at2 M q j)
theorem rwT_len : (rwT V M i k).length = k := by simp [rwT]
theorem at1_map {f : Nat → Int × Int} {j : Nat} (hj : j < k) : at1 ((List.range k).map f) j = f j := by simp [at1, List.getD, hj]
theorem rwT_row : rowR (rwT V M i k) (rw_ M i) (at1 V i) k = rwT V M (i + 1) k := List.map_congr_left fun j hj => by
  rw [rwT, at1_map (List.mem_range.1 hj), mP_comm]; rfl
theorem rwT_null (h : at1 V i = (0, 0)) : rwT V M i k = rwT V M (i + 1) k := List.map_congr_left fun j hj => by
  show _ = aP _ (mP (at1 V i) _)
  rw [h, mP_0l]; exact Prod.ext (Int.add_zero _).symm (Int.add_zero _).symm
theorem rwT_bd (hV : Bd l V) (hM : BdM m M) : Bd (l + m + 1 + i) (rwT V M i k) := fun p hp => by
  obtain ⟨j, _, rfl⟩ := List.mem_map.1 hp
  exact zl_sum fun q _ => zl_mP hV.at1 (at2_bd hM)
set_option maxHeartbeats 4000000 in
set_option maxRecDepth 20000 in
theorem rTimes_any (hv : SN l w ov V) (hm : MN m w om M) (hn : V.length = n) (hmn : M.length = n) (h : gd M) (hk : wd M = k) (hl1 : l ≤ 9000000) (hl2 : m ≤ 9000000) :
    Calls Try.prog 47 #[.slice ov n cv, .slice om n cm, .int .i64 (k : Int)] w fun e w' => ∃ o c xs, e = .returned (.slice o k c) ∧ Lst w' w.heap.size 43 4 (.slice o k c) k xs ∧ GD w' xs (rwT V M n k) ∧ Below w.heap.size w w' := by
  have HV := hide hv
  have HM := hide hm
  have HU := hide hv.bd
  have HW := hide hm.bd
  have hn64 : n ≤ 64 := by have := h.1; omega
  have hk64 : k ≤ 64 := by have := h.2.1; omega
  have HR := hide (show ∀ i, i < n → (rw_ M i).length = k from fun i hi => by rw [gd_row h (by omega)]; exact hk)
  clear hv hm h
  go_enter Try.func47, Try.ntmps47
  have hs := St.nil w
  refine wp_seq_k ?_
  intro K1 hK1
  refine rg [0] ?_
  refine sq ?_
  refine .mv ?_
  apply wpSq_end
  refine hK1 _ _ ?_
  refine wp_seq_k ?_
  intro K2 hK2
  refine rg [0, 1, 2] ?_
  refine sq ?_
  refine .mv ?_
  refine sq ?_
  refine .mk (n := k) hs ?_ (by first | rfl | omega) (by omega); clear hs; intro g_l xs_l w_1 hs e_l n1 kb_l
  refine sq ?_
  refine .mv ?_
  apply wpSq_end
  refine hK2 _ _ ?_
  refine wp_seq_k ?_
  intro K3 hK3
  refine wp_seq_k ?_
  intro K4 hK4
  refine rg [0] ?_
  refine sq ?_
  refine .mv ?_
  apply wpSq_end
  refine hK4 _ _ ?_
  refine wp_block ?_
  have hd2 := hs.2.1
  go_loopg [8] k (fun kk s8 wr => ∃ (i : Nat) (ys zs : List Value), s8 = .int .i64 (i : Int) ∧ i + kk = k ∧ St w [ls w.heap.size 43 4 (.slice (some ⟨g_l, 0, none⟩) k k) k (ys ++ zs)] wr ∧ ys.length = i * 4 ∧ GD wr ys ((List.range i).map fun _ => (0, 0)))
  case atStart => exact ⟨0, [], xs_l, rfl, by omega, hs, rfl, GD.nil _⟩
  case round =>
  clear hs
  obtain ⟨i, ys, zs, rfl, hik, hs, hyl, hd⟩ := hrel
  have hlen := hs.1.1.1.1.1
  rw [List.length_append, hyl] at hlen
  by_cases hi : i < k
  · obtain ⟨z0, z1, z2, z3, ws, rfl⟩ := four_of (zs := zs) (by omega)
    refine wp_seq_k ?_
    intro K5 hK5
    refine wp_seq_k ?_
    intro K6 hK6
    refine rg [0, 1, 2] ?_
    refine sq ?_
    refine .mv ?_
    refine sq ?_
    refine .mv ?_
    refine sq ?_
    refine .r0 ?_
    apply wpSq_end
    refine hK6 _ _ ?_
    refine ct ?_
    refine wp_skip ?_
    refine hK5 _ _ ?_
    refine wp_seq_k ?_
    intro K7 hK7
    refine wp_block ?_
    refine rg [0, 1, 2, 3, 4] ?_
    refine sq ?_
    refine .mv ?_
    refine sq ?_
    refine .mv ?_
    refine sq ?_
    intro K hK
    go_big_op
    go_fit (rgI_any 0 0 _ (by decide) (by decide) (by decide) (by decide))
    rintro e w_3 ⟨_, rfl, ⟨n_va, o_va, k_va, c_va, n_vb, o_vb, k_vb, c_vb, rfl, v1, v2⟩, hb_3⟩
    replace hs := hs.bl hb_3
    have Lv1 := hide (v1.lenOf (zlen_small8 (z := 0) (by decide)))
    have Lv2 := hide (v2.lenOf (zlen_small8 (z := 0) (by decide)))
    refine hK _ _ rfl trivial ?_
    clear hK K
    refine sq ?_
    refine .r0 ?_
    refine sq ?_
    refine .i4 0 hs (j := i) (by omega) ?_; clear hs; intro w_4 hs kp4 hd4 ho4 hw4; simp only [List.set_cons_zero] at hs
    apply wpSq_end
    refine hK7 _ _ ?_
    refine rg [0, 1, 2] ?_
    refine sq ?_
    refine .mv ?_
    refine sq ?_
    refine .r0 ?_
    refine sq ?_
    refine .mv ?_
    apply wpSq_end
    have k0_2 := (kb hb_3).t kp4
    replace hd := hd.k k0_2
    have k1_2 := kp4
    replace v1 := v1.k k1_2
    replace v2 := v2.k k1_2
    refine ‹∀ (a' : Act) (w' : World), Handed _ _ a' w' → _› _ _ ?_
    rw [setL_app hyl] at hs
    go_roundg (gk - 1)
    case rel => exact ⟨i + 1, _, ws, by rfl, by omega, hs, by simp; omega, by rw [mapr_succ]; exact hd.snoc (.mk' v1 v2)⟩
    case measure => omega
  · obtain rfl : k = i := by omega
    obtain rfl : zs = [] := List.eq_nil_of_length_eq_zero (by omega)
    rw [List.append_nil] at hs
    have HX := hide hi
    refine wp_seq_k ?_
    intro K5 hK5
    refine wp_seq_k ?_
    intro K6 hK6
    refine rg [0, 1, 2] ?_
    refine sq ?_
    refine .mv ?_
    refine sq ?_
    refine .mv ?_
    refine sq ?_
    refine .r0 ?_
    apply wpSq_end
    refine hK6 _ _ ?_
    refine cf ?_
    refine wp_exit ?_
    refine hK3 _ _ ?_
    refine wp_seq_k ?_
    intro K7 hK7
    refine wp_seq_k ?_
    intro K8 hK8
    refine rg [0] ?_
    refine sq ?_
    refine .mv ?_
    apply wpSq_end
    refine hK8 _ _ ?_
    refine wp_block ?_
    have hd3 := hs.2.1
    go_loopg [7, 9] n (fun kk s7 s9 wr => ∃ (i : Nat) (o : Option Addr) (c : Nat) (xs : List Value), s9 = .int .i64 (i : Int) ∧ s7 = .slice o k c ∧ i + kk = n ∧ GD wr xs (rwT V M i k) ∧ St w [ls w.heap.size 43 4 (.slice o k c) k xs] wr)
    case atStart => exact ⟨0, _, _, _, rfl, rfl, by omega, hd, hs⟩
    case round =>
    clear hd hs
    clear HX hlen
    obtain ⟨i, o, c, xs, rfl, rfl, hik, d, hs⟩ := hrel
    by_cases hi : i < n
    · obtain ⟨g1, off1, cur1, ty1, fz1, a1, a2, a3, a4, a5, a6, a7, a8, rfl, x1, e1, e2, e3, e4, z1, z2⟩ := HV.out.op (j := i) (by omega)
      obtain ⟨g2, off2, cur2, ty2, fz2, oi, ci, rfl, x2, e5, s2⟩ := HM.out.row (i := i) (by omega)
      rw [HR.out i hi] at e5
      have HS := hide s2
      have HK := hide (HR.out i hi)
      have HT := hide (rwT_bd (i := i) (k := k) HU.out HW.out)
      have E1 := hide (rwT_row (V := V) (M := M) (i := i) (k := k))
      have E2 := hide (fun h => rwT_null (V := V) (M := M) (i := i) (k := k) h)
      replace z1 : ZN wr (.agg #[.bool a1, .slice a2 a3 a4]) (at1 V i).1 l := z1.bl hs.b
      replace z2 : ZN wr (.agg #[.bool a5, .slice a6 a7 a8]) (at1 V i).2 l := z2.bl hs.b
      clear s2
      have x1z := x1
      have x2z := x2
      have lt_kV := x1.lt
      have lt_kM := x2.lt
      replace x1 := x1.bl hs.b
      replace x2 := x2.bl hs.b
      have Lz1 := hide z1.len
      have Lz2 := hide z2.len
      have HQ := hide (show rw_ M i = rw_ M i from rfl)
      generalize at1 V i = p at *
      by_cases hp : p.1 = 0 ∧ p.2 = 0
      · have HP := hide hp
        clear hp
        refine wp_seq_k ?_
        intro K9 hK9
        refine wp_seq_k ?_
        intro K10 hK10
        refine rg [0, 1, 2, 3] ?_
        refine sq ?_
        refine .mv ?_
        refine sq ?_
        refine .mv ?_
        refine sq ?_
        refine .r0 ?_
        refine sq ?_
        refine .r0 ?_
        apply wpSq_end
        refine hK10 _ _ ?_
        refine ct ?_
        refine wp_skip ?_
        refine hK9 _ _ ?_
        refine wp_seq_k ?_
        intro K11 hK11
        refine wp_block ?_
        refine wp_seq_k ?_
        intro K12 hK12
        refine rg [0, 1, 2, 3, 4, 5] ?_
        refine sq ?_
        refine .mv ?_
        refine sq ?_
        refine .mv ?_
        refine sq ?_
        refine .r0 ?_
        refine sq ?_
        refine .r4 ⟨x1.cell _ e1, x1.cell _ e2, x1.cell _ e3, x1.cell _ e4⟩ ?_
        refine sq ?_
        intro K hK
        go_big_op
        go_fit (rgNull_any (.mk' z1 z2) (by omega) (by omega))
        rintro e w_4 ⟨rfl, hb_4⟩
        replace x1 := x1.bl hb_4; replace x2 := x2.bl hb_4; replace hs := hs.bl hb_4
        rw [decide_eq_true HP.out]
        refine hK _ _ rfl trivial ?_
        clear hK K
        refine sq ?_
        refine .r0 ?_
        apply wpSq_end
        refine hK12 _ _ ?_
        refine cf ?_
        refine wp_skip ?_
        refine hK11 _ _ ?_
        refine rg [0, 1, 2] ?_
        refine sq ?_
        refine .mv ?_
        refine sq ?_
        refine .r0 ?_
        refine sq ?_
        refine .mv ?_
        apply wpSq_end
        have k0_1 := kb hb_4
        replace d := d.k k0_1
        refine ‹∀ (a' : Act) (w' : World), Handed _ _ a' w' → _› _ _ ?_
        go_roundg (gk - 1)
        case rel => exact ⟨i + 1, _, _, _, by rfl, by rfl, by omega, by rw [← E2.out (Prod.ext HP.out.1 HP.out.2)]; exact d, hs⟩
        case measure => omega
      · have HP := hide hp
        clear hp
        refine wp_seq_k ?_
        intro K9 hK9
        refine wp_seq_k ?_
        intro K10 hK10
        refine rg [0, 1, 2, 3] ?_
        refine sq ?_
        refine .mv ?_
        refine sq ?_
        refine .mv ?_
        refine sq ?_
        refine .r0 ?_
        refine sq ?_
        refine .r0 ?_
        apply wpSq_end
        refine hK10 _ _ ?_
        refine ct ?_
        refine wp_skip ?_
        refine hK9 _ _ ?_
        refine wp_seq_k ?_
        intro K11 hK11
        refine wp_block ?_
        refine wp_seq_k ?_
        intro K12 hK12
        refine rg [0, 1, 2, 3, 4, 5] ?_
        refine sq ?_
        refine .mv ?_
        refine sq ?_
        refine .mv ?_
        refine sq ?_
        refine .r0 ?_
        refine sq ?_
        refine .r4 ⟨x1.cell _ e1, x1.cell _ e2, x1.cell _ e3, x1.cell _ e4⟩ ?_
        refine sq ?_
        intro K hK
        go_big_op
        go_fit (rgNull_any (.mk' z1 z2) (by omega) (by omega))
        rintro e w_4 ⟨rfl, hb_4⟩
        replace x1 := x1.bl hb_4; replace x2 := x2.bl hb_4; replace hs := hs.bl hb_4
        rw [decide_eq_false HP.out]
        refine hK _ _ rfl trivial ?_
        clear hK K
        refine sq ?_
        refine .r0 ?_
        apply wpSq_end
        refine hK12 _ _ ?_
        refine ct ?_
        refine wp_region_f4 [(0, false), (1, false), (2, false), (3, false), (4, false), (5, false), (6, false), (7, false), (8, false), (9, true), (10, false)] [] [] (fun _ => default) [99, 99, 99, 99, 0, 99, 99, 99, 1, 99, 99] [] (.c x2 (.c x1 .n)) fn fun w_5 n5 => ?_
        replace x1 := x1.bl n5; replace x2 := x2.bl n5; replace hs := hs.bl n5
        refine fmv ?_
        refine fmv ?_
        refine fmv ?_
        refine f0 ?_
        apply wpFl_ld rfl rfl; (case h1 => intro w' hC K hK; have c0 := Bs.cell hC ((off2 + i)) e5; go_big_op; exact hK); iterate 4 kernel_rfl
        refine fmv ?_
        refine fmv ?_
        refine f0 ?_
        apply wpFl_ld rfl rfl; (case h1 => intro w' hC K hK; have c0 := Bs.cell hC ((off1 + i * 4)) e1; have c1 := Bs.cell hC ((off1 + i * 4) + 1) e2; have c2 := Bs.cell hC ((off1 + i * 4) + 2) e3; have c3 := Bs.cell hC ((off1 + i * 4) + 3) e4; go_big_op; exact hK); iterate 4 kernel_rfl
        refine fl fun w_6 n6 => ?_
        replace x1 := x1.bl n6; replace x2 := x2.bl n6; replace hs := hs.bl n6
        intro K hK
        have k0_3 := ((kb hb_4).b n5).b n6
        replace d := d.k k0_3
        have hb := hs.b
        replace z1 := z1.k k0_3
        replace z2 := z2.k k0_3
        go_big_op
        go_fit (rRow_any (SV.sn (Lst.sc hs.1.1.1 d).2 HT.out) (HS.out.bl stab_n hb) (.mk' z1 z2) rwT_len HK.out (Nat.le_refl _) (by omega) (by omega) (by omega) (by omega))
        rintro e w_7 ⟨o_y, c_y, xs_y, rfl, L_y, d_y, hb_7⟩
        clear hb
        replace x1 := x1.bl hb_7; replace x2 := x2.bl hb_7
        replace hs := hs.la hb_7 L_y
        refine hK _ _ rfl ⟨hb_7, (And.intro x2 (And.intro x1 trivial))⟩ ?_
        clear hK K
        refine fmv ?_
        refine e0 hs ?_; clear hs; intro w_8 hs n8
        replace x1 := x1.bl n8; replace x2 := x2.bl n8
        apply wpTail_end
        refine hK11 _ _ ?_
        refine rg [0, 1, 2] ?_
        refine sq ?_
        refine .mv ?_
        refine sq ?_
        refine .r0 ?_
        refine sq ?_
        refine .mv ?_
        apply wpSq_end
        have k4_5 := kb n8
        replace d_y := d_y.k k4_5
        refine ‹∀ (a' : Act) (w' : World), Handed _ _ a' w' → _› _ _ ?_
        go_roundg (gk - 1)
        case rel => exact ⟨i + 1, _, _, _, by rfl, by rfl, by omega, by rw [← E1.out]; exact d_y, hs.sub (.cons_cons _ (.cons _ (List.Sublist.refl _)))⟩
        case measure => omega
    · obtain rfl : n = i := by omega
      have HX := hide hi
      refine wp_seq_k ?_
      intro K9 hK9
      refine wp_seq_k ?_
      intro K10 hK10
      refine rg [0, 1, 2, 3] ?_
      refine sq ?_
      refine .mv ?_
      refine sq ?_
      refine .mv ?_
      refine sq ?_
      refine .r0 ?_
      refine sq ?_
      refine .r0 ?_
      apply wpSq_end
      refine hK10 _ _ ?_
      refine cf ?_
      refine wp_exit ?_
      refine hK7 _ _ ?_
      refine wp_seq_k ?_
      intro K11 hK11
      refine rg [0, 1] ?_
      refine sq ?_
      refine .mv ?_
      refine sq ?_
      refine .mv ?_
      apply wpSq_end
      refine hK11 _ _ ?_
      refine wp_ret ?_
      try dsimp only [Exit.then, Exit.inBlock]
      refine bodyPost_ret (v := (.slice o k c)) (by simp [results, Try.results47, go_sem]) rfl ?_
      exact ⟨_, _, _, rfl, hs.1.1.1, d, hs.b⟩
end
end Go.Proofs.Ytajmgjgobgchjaa


/- GmatAlong: what its calls tell. -/
namespace Go.Proofs.Ytajmgjgobgchjaa
open Go Go.RowKit Dig
set_option linter.unusedVariables false
section
variable {w : World} {l la lb lv n k na nb ca cb c : Nat} {oa ob ov : Option Addr} {A B : List (List (Int × Int))} {V : List (Int × Int)}
theorem lLen {D : Int} (hD : D = lenS n fun i => nP (at1 V i)) (hv : SN lv w ov V) (hn : V.length = n) (hl : n ≤ 2000000) (h1 : lv ≤ 10000000) :
    Calls Try.prog 41 #[.slice ov n c] w fun e w' => ∃ r, e = .returned r ∧ ZC w' r D ∧ Below w.heap.size w w' := by
  rw [hD]; exact mLength_any hv hn hl h1
theorem bd_len {l : Nat} (hv : SN l w ov V) (hn : V.length = n) (hl : n ≤ 2000000) (h1 : l ≤ 10000000) : (dig (lenS n fun i => nP (at1 V i)).natAbs).length ≤ 50000000 :=
  Nat.le_trans (zl_len (l := l + l + 1) fun i _ => zl_nP (Bd.at1 hv.bd)) (by omega)
end
end Go.Proofs.Ytajmgjgobgchjaa


/- GmatVectors: what its calls tell. -/
namespace Go.Proofs.Ytajmgjgobgchjaa
open Go Go.RowKit Dig
set_option linter.unusedVariables false
section
variable {w : World} {l m n k cv cm : Nat} {ov om : Option Addr} {V W : List (Int × Int)} {M : List (List (Int × Int))}
set_option maxHeartbeats 4000000 in
set_option maxRecDepth 20000 in
theorem rgZero8 (w : World) :
    Calls Try.prog 43 #[.agg #[.bool false, .slice none 0 0, .bool false, .slice none 0 0]] w fun e w' => e = .returned (.bool true) ∧ Below w.heap.size w w' := by
  go_enter Try.func43, Try.ntmps43
  have hs := St.nil w
  refine wp_seq_k ?_
  intro K1 hK1
  refine rg [0, 1] ?_
  refine sq ?_
  refine .al hs ?_; clear hs; intro p_b1 w_1 hs n1 kb_b1
  refine sq ?_
  refine .mv ?_
  apply wpSq_end
  refine hK1 _ _ ?_
  refine wp_seq_k ?_
  intro K2 hK2
  refine rg [0, 1, 2, 3, 4, 5, 6, 7, 8] ?_
  refine sq ?_
  refine .r0 ?_
  refine sq ?_
  refine .r4 hs.g0.f4 ?_
  refine sq ?_
  intro K hK
  go_big_op
  go_fit (rzero_any _)
  rintro e w_2 ⟨rfl, hb_2⟩
  replace hs := hs.bl hb_2
  refine hK _ _ rfl trivial ?_
  clear hK K
  refine sq ?_
  refine .mv ?_
  refine sq ?_
  refine .r0 ?_
  refine sq ?_
  refine .r4 hs.g0.f4 ?_
  refine sq ?_
  intro K hK
  go_big_op
  go_fit (rzero_any _)
  rintro e w_3 ⟨rfl, hb_3⟩
  replace hs := hs.bl hb_3
  refine hK _ _ rfl trivial ?_
  clear hK K
  refine sq ?_
  refine .r0 ?_
  refine sq ?_
  refine .mv ?_
  apply wpSq_end
  refine hK2 _ _ ?_
  refine wp_ret ?_
  try dsimp only [Exit.then, Exit.inBlock]
  refine bodyPost_ret (v := (.bool true)) (by simp [results, Try.results43, go_sem]) rfl ?_
  have hb := hs.b
  exact ⟨rfl, hb⟩
theorem rTimes8 (hv : SN l w ov V) (hm : MN m w om M) (hn : V.length = n) (hmn : M.length = n) (h : gd M) (hk : wd M = k) (hl1 : l ≤ 9000000) (hl2 : m ≤ 9000000) :
    Calls Try.prog 47 #[.slice ov n cv, .slice om n cm, .int .i64 (k : Int)] w fun e w' => ∃ o c, e = .returned (.slice o k c) ∧ SC w' o (rwT V M n k) ∧ Below w.heap.size w w' :=
  Calls.mono (rTimes_any hv hm hn hmn h hk hl1 hl2) fun e w' ⟨o, c, xs, h1, h2, h3, h4⟩ => ⟨o, c, h1, (Lst.sc h2 h3).2, h4⟩
theorem lDot2 {D : Int × Int} (hD : D = sumP n fun i => mP (at1 V i) (cP (at1 W i))) (hu : SN l w ov V) (hv : SN m w om W) (hn : V.length = n) (hm : W.length = n) (hl : n ≤ 2000000) (h1 : l ≤ 10000000) (h2 : m ≤ 10000000) :
    Calls Try.prog 39 #[.slice ov n cv, .slice om n cm] w fun e w' => ∃ r, e = .returned (.tuple #[r, .int .i64 0]) ∧ PC w' r D.1 D.2 ∧ Below w.heap.size w w' := by
  rw [hD]; exact mDot_ok hu hv hn hm hl h1 h2
theorem rDot8 {D : Int × Int} (hD : D = sumP n fun i => mP (at1 V i) (cP (at1 W i))) (hu : SN l w ov V) (hv : SN m w om W) (hn : V.length = n) (hm : W.length = n) (hl : n ≤ 2000000) (h1 : l ≤ 10000000) (h2 : m ≤ 10000000) :
    Calls Try.prog 45 #[.slice ov n cv, .slice om n cm] w fun e w' => ∃ r, e = .returned r ∧ PC w' r D.1 D.2 ∧ Below w.heap.size w w' := by
  rw [hD]; exact rDot_any hu hv hn hm hl h1 h2
theorem rLen8 {D : Int} (hD : D = lenS n fun i => nP (at1 V i)) (hv : SN l w ov V) (hn : V.length = n) (hl : n ≤ 2000000) (h1 : l ≤ 10000000) :
    Calls Try.prog 42 #[.slice ov n cv] w fun e w' => ∃ r, e = .returned r ∧ ZC w' r D ∧ Below w.heap.size w w' := by
  rw [hD]; exact rLength_any hv hn hl h1
theorem dot_bd {D : Int × Int} (hD : D = sumP n fun i => mP (at1 V i) (cP (at1 W i))) (hu : SN l w ov V) (hv : SN m w om W) : zl (l + m + 1 + n) D := by
  rw [hD]; exact zl_sum fun i _ => zl_mP hu.bd.at1 (zl_cP hv.bd.at1)
end
end Go.Proofs.Ytajmgjgobgchjaa

