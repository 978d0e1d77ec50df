/- gprime.Factor, up to its sort. -/
import Derived.Test.YthlhekkcjficdaaK1ToK12
import Derived.Test.YthlhekkcjficdaaK19ToSo5
import Derived.Test.YthlhekkcjficdaaWkToG2
import Derived.Test.YthlhekkcjficdaaZaToJ6

namespace Go.Proofs.Ythlhekkcjficdaa
open Go Go.RowKit Dig
set_option linter.unusedVariables false
section
variable {w : World} {va : Value} {x y : Int}
set_option maxHeartbeats 4000000 in
set_option maxRecDepth 20000 in
theorem gfactor_any {N0 : Nat} {L0 : List Nat} {T : List (Int × Int × Int)} {U V : Int} {lg : Nat} (ha : PN w va x lg y lg) (hlg : 1 ≤ lg) (hlm : lg ≤ 10000000) (hn : gN x y = (N0 : Int)) (h0 : N0 ≠ 0) (hN : N0 < 4294967296) (hL : PF N0 L0) (hT : (L0.flatMap pOv).foldl fcS ([], (x, y)) = (T, (U, V))) :
    Calls Try.prog 9 #[va] w fun e w' => ∃ (o : Option Addr) (c : Nat) (qs : List Pw), e = .returned (.tuple #[.int .i64 ((-((kq U V : Nat) : Int)) % 4), .slice o T.length c, .int .i64 0]) ∧ (qs.map Pw.val).Perm T ∧ Ris qs ∧ Lst w' w.heap.size 37 5 (.slice o T.length c) T.length (qs.flatMap Pw.cells) ∧ Cns w' qs ∧ Below w.heap.size w w' := by
  have HL := hide hL
  have HT := hide hT
  have HN := hide (And.intro hn h0)
  have h00 : ((N0 : Int) == 0) = false := by rw [beq_eq_false_iff_ne]; omega
  have hLl : L0.length < 4294967297 := by have := hL.len; omega
  clear hL hT hn h0
  obtain ⟨n_0a, o_0a, k_0a, c_0a, n_0b, o_0b, k_0b, c_0b, rfl, ha1, ha2⟩ := ha
  go_enter Try.func9, Try.ntmps9
  have hs := St.nil w
  refine wp_seq_k ?_
  intro K1 hK1
  refine rg [0, 1, 2, 3] ?_
  refine sq ?_
  refine .al hs ?_; clear hs; intro p_b1 w_1 hs n1 kb_b1
  refine sq ?_
  refine .mv ?_
  refine sq ?_
  refine .mv ?_
  refine sq ?_
  refine .mv ?_
  apply wpSq_end
  refine hK1 _ _ ?_
  refine wp_seq_k ?_
  intro K2 hK2
  refine rg [0, 1, 2, 3, 4, 5, 6] ?_
  refine sq ?_
  refine .r4 hs.g0.f4 ?_
  refine sq ?_
  intro K hK
  have k0_1 := kb n1
  replace ha1 := ha1.k k0_1
  replace ha2 := ha2.k k0_1
  go_big_op
  go_fit (normOf_any N0 (.mk' ha1 ha2) (by omega) (by omega) HN.out.1 hN)
  rintro e w_2 ⟨rfl, hb_2⟩
  replace hs := hs.bl hb_2
  refine hK _ _ rfl trivial ?_
  clear hK K
  refine sq ?_
  refine .mv ?_
  refine sq ?_
  refine .r0 ?_
  refine sq ?_
  refine .r0 ?_
  refine sq ?_
  refine .mv ?_
  refine sq ?_
  refine .mv ?_
  apply wpSq_end
  refine hK2 _ _ ?_
  refine wp_seq_k ?_
  intro K3 hK3
  refine wp_seq_k ?_
  intro K4 hK4
  refine rg [0, 1] ?_
  refine sq ?_
  refine .mv ?_
  refine sq ?_
  refine .r0 ?_
  apply wpSq_end
  refine hK4 _ _ ?_
  refine cf ?_
  refine wp_skip ?_
  refine hK3 _ _ ?_
  refine wp_seq_k ?_
  intro K5 hK5
  refine wp_seq_k ?_
  intro K6 hK6
  refine rg [0, 1] ?_
  refine sq ?_
  refine .mv ?_
  refine sq ?_
  refine .r0 ?_
  apply wpSq_end
  refine hK6 _ _ ?_
  refine cf ?_
  refine wp_skip ?_
  refine hK5 _ _ ?_
  refine wp_seq_k ?_
  intro K7 hK7
  refine rg [0, 1, 2] ?_
  refine sq ?_
  refine .r4 hs.g0.f4 ?_
  refine sq ?_
  refine .al hs ?_; clear hs; intro p_b2 w_3 hs n3 kb_b2
  refine sq ?_
  refine .s4 hs.g0 (fun _ => hs.u0 kb_b2) ?_; clear hs; intro w_4 hs hd4 ho4
  apply wpSq_end
  refine hK7 _ _ ?_
  refine wp_seq_k ?_
  intro K8 hK8
  refine wp_seq_k ?_
  intro K9 hK9
  refine rg [0, 1, 2, 3] ?_
  refine sq ?_
  refine .mv ?_
  refine sq ?_
  intro K hK
  go_big_op
  go_fit (pnums_any HL.out hN)
  rintro e w_5 ⟨o_L, c_L, rfl, L_L, hb_5⟩
  replace hs := hs.la hb_5 L_L
  refine hK _ _ rfl trivial ?_
  clear hK K
  refine sq ?_
  refine .r0 ?_
  refine sq ?_
  refine .mv ?_
  apply wpSq_end
  refine hK9 _ _ ?_
  refine wp_block ?_
  have k1_5 := (((kb hb_2).b n3).o hd4 ho4).b hb_5
  replace ha1 := ha1.k k1_5
  replace ha2 := ha2.k k1_5
  have hd6 := hs.2.1
  go_loopg [3, 29] L0.length (fun k s3 s29 wr => ∃ (i N : Nat) (o : Option Addr) (c : Nat) (xs : List Value) (ps : List (Int × Int × Int)) (X Y : Int) (an1 an2 : Bool) (ao1 ao2 : Option Addr) (ak1 ac1 ak2 ac2 : Nat), s3 = .slice o N c ∧ s29 = .int .i64 (i : Int) ∧ i + k = L0.length ∧ N ≤ 2 * i ∧ Hid (FcI x y ((L0.take i).flatMap pOv) ps X Y N) ∧ FacL wr xs ps ∧ ZN wr (.agg #[.bool an1, .slice ao1 ak1 ac1]) X lg ∧ ZN wr (.agg #[.bool an2, .slice ao2 ak2 ac2]) Y lg ∧
    St w [ls w.heap.size 37 5 (.slice o N c) N xs, ls w.heap.size 54 1 (.slice o_L L0.length c_L) L0.length (L0.map enc64), bx p_b2 #[.bool an1, .slice ao1 ak1 ac1, .bool an2, .slice ao2 ak2 ac2] 29] wr)
  case atStart => exact ⟨0, 0, none, 0, [], [], x, y, _, _, _, _, _, _, _, _, rfl, rfl, by omega, by omega, hide ⟨rfl, by rw [HN.out.1]; have := HN.out.2; omega, by rw [HN.out.1]; omega, rfl, fun _ h => nomatch h⟩, FacL.nil _, ha1, ha2, (hs.sub (.cons_cons _ (.cons_cons _ (.cons _ (List.Sublist.refl _))))).l0 _ _⟩
  case round =>
  clear ha1 ha2 hs
  obtain ⟨i, N, o, c, xs, ps, X, Y, an1, an2, ao1, ao2, ak1, ac1, ak2, ac2, rfl, rfl, hik, hNi, HI, d, a1, a2, hs⟩ := hrel
  by_cases hi : i < L0.length
  · obtain ⟨p, hp⟩ : ∃ p, L0[i] = p := ⟨_, rfl⟩
    have HP := hide (HL.out.mem p (hp ▸ List.getElem_mem hi))
    have HE := hide (show (L0.map enc64)[i]? = some (.int .u64 (p : Int)) from by rw [List.getElem?_map, List.getElem?_eq_getElem hi, hp]; rfl)
    have HTk := hide (show L0.take (i + 1) = L0.take i ++ [p] from by rw [List.take_add_one, List.getElem?_eq_getElem hi, hp]; rfl)
    have HV := fun w => pover_any (w := w) HP.out.1 (by have := HP.out.2; omega)
    unfold TG at HV
    replace HV := hide HV
    have hpl : (pOv p).length ≤ 2 := pOv_len p HP.out.1
    obtain ⟨gl, curl, rfl, xl, hcur⟩ := (hs.1.2.1.1).box (by omega)
    have e1 := hide (hcur i _ HE.out)
    clear hcur hp
    refine wp_seq_k ?_
    intro K10 hK10
    refine rg [0] ?_
    refine sq ?_
    refine .r0 ?_
    apply wpSq_end
    refine hK10 _ _ ?_
    refine wp_seq_k ?_
    intro K11 hK11
    refine ct ?_
    refine wp_skip ?_
    refine hK11 _ _ ?_
    refine wp_seq_k ?_
    intro K12 hK12
    refine wp_block ?_
    refine wp_seq_k ?_
    intro K13 hK13
    refine rg [0, 1, 2] ?_
    refine sq ?_
    refine .r0 ?_
    refine sq ?_
    refine .r1 (xl.cell _ e1.out) ?_
    refine sq ?_
    refine .mv ?_
    apply wpSq_end
    refine hK13 _ _ ?_
    refine wp_seq_k ?_
    intro K14 hK14
    refine rg [0, 1, 2, 3] ?_
    refine sq ?_
    refine .mv ?_
    refine sq ?_
    intro K hK
    go_big_op
    go_fit (HV.out _)
    rintro e w_7 ⟨o_V, c_V, xs_V, rfl, L_V, d_V, hb_7⟩
    replace xl := xl.bl hb_7
    replace hs := hs.la hb_7 L_V
    refine hK _ _ rfl trivial ?_
    clear hK K
    refine sq ?_
    refine .r0 ?_
    refine sq ?_
    refine .mv ?_
    apply wpSq_end
    refine hK14 _ _ ?_
    refine wp_block ?_
    have HO := ‹∀ (a' : Act) (w' : World), Handed _ _ a' w' → _›
    obtain ⟨g1, hg1⟩ : ∃ g, gk = g := ⟨_, rfl⟩
    have k0_1 := kb hb_7
    replace d := d.k k0_1
    replace a1 := a1.k k0_1
    replace a2 := a2.k k0_1
    have hd8 := hs.2.1
    go_loopg [3, 36] (pOv p).length (fun k s3 s36 wr => ∃ (j N : Nat) (o : Option Addr) (c : Nat) (xs : List Value) (ps : List (Int × Int × Int)) (X Y : Int) (an1 an2 : Bool) (ao1 ao2 : Option Addr) (ak1 ac1 ak2 ac2 : Nat), s3 = .slice o N c ∧ s36 = .int .i64 (j : Int) ∧ j + k = (pOv p).length ∧ N ≤ 2 * i + j ∧ Hid (FcI x y ((L0.take i).flatMap pOv ++ (pOv p).take j) ps X Y N) ∧ FacL wr xs ps ∧ GD wr xs_V (pOv p) ∧ ZN wr (.agg #[.bool an1, .slice ao1 ak1 ac1]) X lg ∧ ZN wr (.agg #[.bool an2, .slice ao2 ak2 ac2]) Y lg ∧
      St w [ls w.heap.size 29 4 (.slice o_V (pOv p).length c_V) (pOv p).length xs_V, ls w.heap.size 37 5 (.slice o N c) N xs, ls w.heap.size 54 1 (.slice (some ⟨gl, 0, none⟩) L0.length c_L) L0.length (L0.map enc64), bx p_b2 #[.bool an1, .slice ao1 ak1 ac1, .bool an2, .slice ao2 ak2 ac2] 29] wr)
    case atStart => exact ⟨0, N, o, c, xs, ps, X, Y, _, _, _, _, _, _, _, _, rfl, rfl, by omega, by omega, hide (by rw [List.take_zero, List.append_nil]; exact HI.out), d, d_V, a1, a2, hs⟩
    case round =>
    clear a1 a2 d xl d_V hs
    obtain ⟨j, M, o2, c2, xs2, ps2, X2, Y2, bn1, bn2, bo1, bo2, bk1, bc1, bk2, bc2, rfl, rfl, hjk, hM, HJ, d2, dV, b1, b2, hs⟩ := hrel
    by_cases hj : j < (pOv p).length
    · obtain ⟨q, hq⟩ : ∃ q, (pOv p)[j] = q := ⟨_, rfl⟩
      have hqm : q ∈ pOv p := hq ▸ List.getElem_mem hj
      have HQ := hide (And.intro (pOv_norm HP.out.1 hqm) (pOv_small HP.out.1 (by have := HP.out.2; omega) hqm))
      have HTj := hide (show (pOv p).take (j + 1) = (pOv p).take j ++ [q] from by rw [List.take_add_one, List.getElem?_eq_getElem hj, hq]; rfl)
      obtain ⟨n1, o1, k1, q1, n2, o3, k2, q2, e5, e2, e3, e4, z1, z2⟩ := dV.at hj
      rw [hq] at z1 z2
      have Lz1 := hide (zlen_small6 HQ.out.2.1)
      have Lz2 := hide (zlen_small6 HQ.out.2.2)
      obtain ⟨gv, curv, rfl, xv, hcv⟩ := (hs.1.1.1).box (by omega)
      replace e5 := hide (hcv _ _ e5)
      replace e2 := hide (hcv _ _ e2)
      replace e3 := hide (hcv _ _ e3)
      replace e4 := hide (hcv _ _ e4)
      clear hcv hq hqm
      by_cases ht : 0 < (tkF q.1 q.2 X2 Y2).1
      · have HJ2 := hide (show FcI x y ((L0.take i).flatMap pOv ++ (pOv p).take (j + 1)) (ps2 ++ [(q.1, q.2, ((tkF q.1 q.2 X2 Y2).1 : Int))]) (tkF q.1 q.2 X2 Y2).2.1 (tkF q.1 q.2 X2 Y2).2.2 (M + 1) from by rw [HTj.out, ← List.append_assoc]; exact HJ.out.yes HQ.out.1 HQ.out.2 ht)
        have HZ := hide (And.intro HJ.out.2.1 HJ.out.2.2.1)
        clear HJ
        refine wp_seq_k ?_
        intro K15 hK15
        refine rg [0] ?_
        refine sq ?_
        refine .r0 ?_
        apply wpSq_end
        refine hK15 _ _ ?_
        refine wp_seq_k ?_
        intro K16 hK16
        refine ct ?_
        refine wp_skip ?_
        refine hK16 _ _ ?_
        refine wp_seq_k ?_
        intro K17 hK17
        refine wp_block ?_
        refine wp_seq_k ?_
        intro K18 hK18
        refine rg [0, 1, 2, 3] ?_
        refine sq ?_
        refine .r0 ?_
        refine sq ?_
        refine .r4 ⟨xv.cell _ e5.out, xv.cell _ e2.out, xv.cell _ e3.out, xv.cell _ e4.out⟩ ?_
        refine sq ?_
        refine .al hs ?_; clear hs; intro p_b3 w_9 hs n9 kb_b3
        replace xv := xv.bl n9
        refine sq ?_
        refine .s4 hs.g0 (fun _ => hs.u0 kb_b3) ?_; clear hs; intro w_10 hs hd10 ho10
        replace xv := xv.frame ho10 (hs.ne 1 0)
        apply wpSq_end
        refine hK18 _ _ ?_
        refine wp_seq_k ?_
        intro K19 hK19
        refine rg [0, 1, 2, 3, 4, 5, 6, 7, 8] ?_
        refine sq ?_
        refine .r4 hs.g0.f4 ?_
        refine sq ?_
        refine .r4 hs.g4.f4 ?_
        refine sq ?_
        intro K hK
        have k0_2 := (kb n9).o hd10 ho10
        replace z1 := z1.k k0_2
        replace z2 := z2.k k0_2
        replace b1 := b1.k k0_2
        replace b2 := b2.k k0_2
        go_big_op
        go_fit (takeout_any (.mk' (z1.zn Lz1.out) (z2.zn Lz2.out)) (.mk' b1 b2) hlg hlm HQ.out.1 HZ.out.1 HZ.out.2)
        rintro e w_11 ⟨_, rfl, ⟨n_ta, o_ta, k_ta, c_ta, n_tb, o_tb, k_tb, c_tb, rfl, t1, t2⟩, hb_11⟩
        replace xv := xv.bl hb_11; replace hs := hs.bl hb_11
        refine hK _ _ rfl trivial ?_
        clear hK K
        refine sq ?_
        refine .mv ?_
        refine sq ?_
        refine .r0 ?_
        refine sq ?_
        refine .r0 ?_
        refine sq ?_
        refine .al hs ?_; clear hs; intro p_b4 w_12 hs n12 kb_b4
        replace xv := xv.bl n12
        refine sq ?_
        refine .mv ?_
        refine sq ?_
        refine .s4 hs.g0 (fun _ => hs.u0 kb_b4) ?_; clear hs; intro w_13 hs hd13 ho13
        replace xv := xv.frame ho13 (hs.ne 2 0)
        apply wpSq_end
        refine hK19 _ _ ?_
        refine wp_seq_k ?_
        intro K20 hK20
        refine wp_seq_k ?_
        intro K21 hK21
        refine rg [0, 1] ?_
        refine sq ?_
        refine .mv ?_
        refine sq ?_
        refine .r0 ?_
        apply wpSq_end
        refine hK21 _ _ ?_
        refine ct ?_
        refine rg [0, 1, 2, 3, 4, 5, 6] ?_
        refine sq ?_
        refine .mv ?_
        refine sq ?_
        refine .r4 hs.g1.f4 ?_
        refine sq ?_
        refine .mv ?_
        refine sq ?_
        refine .r0 ?_
        refine sq ?_
        refine .al hs ?_; clear hs; intro p_b5 w_14 hs n14 kb_b5
        replace xv := xv.bl n14
        refine sq ?_
        have k2_6 := (((kb hb_11).b n12).o hd13 ho13).b n14
        replace z1 := z1.k k2_6
        replace z2 := z2.k k2_6
        have k0_6 := (((k0_2.b hb_11).b n12).o hd13 ho13).b n14
        replace d2 := d2.k k0_6
        replace d2 := d2.snoc (.mk' z1 z2) (n := (((tkF q.1 q.2 X2 Y2).1 : Nat) : Int))
        refine .ap 4 hs hs.g0 ?_; clear hs; intro o_F_15 c_F_15 w_15 hs kp15 hw15; simp only [List.set_cons_succ, List.set_cons_zero] at hs
        clear xv
        refine sq ?_
        refine .mv ?_
        apply wpSq_end
        refine hK20 _ _ ?_
        refine rg [0, 1] ?_
        refine sq ?_
        refine .r4 hs.g1.f4 ?_
        refine sq ?_
        refine .s4 hs.g6 (fun _ => hs.u6 kb_b2) ?_; clear hs; intro w_16 hs hd16 ho16
        apply wpSq_end
        refine hK17 _ _ ?_
        refine rg [0, 1] ?_
        refine sq ?_
        refine .r0 ?_
        refine sq ?_
        refine .mv ?_
        apply wpSq_end
        have k6_8 := kp15.o hd16 ho16
        replace d2 := d2.k k6_8
        have k0_8 := (k0_6.t kp15).o hd16 ho16
        replace dV := dV.k k0_8
        have k3_8 := ((((kb n12).o hd13 ho13).b n14).t kp15).o hd16 ho16
        replace t1 := t1.k k3_8
        replace t2 := t2.k k3_8
        refine ‹∀ (a' : Act) (w' : World), Handed _ _ a' w' → _› _ _ ?_
        go_roundg (gk - 1)
        case rel => exact ⟨j + 1, M + 1, _, _, _, _, _, _, _, _, _, _, _, _, _, _, by rfl, by rfl, by omega, by omega, HJ2, d2, dV, t1, t2, hs.sub (.cons _ (.cons _ (.cons _ (List.Sublist.refl _))))⟩
        case measure => omega
      · have HJ2 := hide (show FcI x y ((L0.take i).flatMap pOv ++ (pOv p).take (j + 1)) ps2 (tkF q.1 q.2 X2 Y2).2.1 (tkF q.1 q.2 X2 Y2).2.2 M from by rw [HTj.out, ← List.append_assoc]; exact HJ.out.no HQ.out.1 ht)
        have HZ := hide (And.intro HJ.out.2.1 HJ.out.2.2.1)
        clear HJ
        refine wp_seq_k ?_
        intro K15 hK15
        refine rg [0] ?_
        refine sq ?_
        refine .r0 ?_
        apply wpSq_end
        refine hK15 _ _ ?_
        refine wp_seq_k ?_
        intro K16 hK16
        refine ct ?_
        refine wp_skip ?_
        refine hK16 _ _ ?_
        refine wp_seq_k ?_
        intro K17 hK17
        refine wp_block ?_
        refine wp_seq_k ?_
        intro K18 hK18
        refine rg [0, 1, 2, 3] ?_
        refine sq ?_
        refine .r0 ?_
        refine sq ?_
        refine .r4 ⟨xv.cell _ e5.out, xv.cell _ e2.out, xv.cell _ e3.out, xv.cell _ e4.out⟩ ?_
        refine sq ?_
        refine .al hs ?_; clear hs; intro p_b3 w_9 hs n9 kb_b3
        replace xv := xv.bl n9
        refine sq ?_
        refine .s4 hs.g0 (fun _ => hs.u0 kb_b3) ?_; clear hs; intro w_10 hs hd10 ho10
        replace xv := xv.frame ho10 (hs.ne 1 0)
        apply wpSq_end
        refine hK18 _ _ ?_
        refine wp_seq_k ?_
        intro K19 hK19
        refine rg [0, 1, 2, 3, 4, 5, 6, 7, 8] ?_
        refine sq ?_
        refine .r4 hs.g0.f4 ?_
        refine sq ?_
        refine .r4 hs.g4.f4 ?_
        refine sq ?_
        intro K hK
        have k0_2 := (kb n9).o hd10 ho10
        replace z1 := z1.k k0_2
        replace z2 := z2.k k0_2
        replace b1 := b1.k k0_2
        replace b2 := b2.k k0_2
        go_big_op
        go_fit (takeout_any (.mk' (z1.zn Lz1.out) (z2.zn Lz2.out)) (.mk' b1 b2) hlg hlm HQ.out.1 HZ.out.1 HZ.out.2)
        rintro e w_11 ⟨_, rfl, ⟨n_ta, o_ta, k_ta, c_ta, n_tb, o_tb, k_tb, c_tb, rfl, t1, t2⟩, hb_11⟩
        replace xv := xv.bl hb_11; replace hs := hs.bl hb_11
        refine hK _ _ rfl trivial ?_
        clear hK K
        refine sq ?_
        refine .mv ?_
        refine sq ?_
        refine .r0 ?_
        refine sq ?_
        refine .r0 ?_
        refine sq ?_
        refine .al hs ?_; clear hs; intro p_b4 w_12 hs n12 kb_b4
        replace xv := xv.bl n12
        refine sq ?_
        refine .mv ?_
        refine sq ?_
        refine .s4 hs.g0 (fun _ => hs.u0 kb_b4) ?_; clear hs; intro w_13 hs hd13 ho13
        replace xv := xv.frame ho13 (hs.ne 2 0)
        apply wpSq_end
        refine hK19 _ _ ?_
        refine wp_seq_k ?_
        intro K20 hK20
        refine wp_seq_k ?_
        intro K21 hK21
        refine rg [0, 1] ?_
        refine sq ?_
        refine .mv ?_
        refine sq ?_
        refine .r0 ?_
        apply wpSq_end
        refine hK21 _ _ ?_
        refine cf ?_
        refine wp_skip ?_
        refine hK20 _ _ ?_
        refine rg [0, 1] ?_
        refine sq ?_
        refine .r4 hs.g0.f4 ?_
        refine sq ?_
        refine .s4 hs.g5 (fun _ => hs.u5 kb_b2) ?_; clear hs; intro w_14 hs hd14 ho14
        replace xv := xv.frame ho14 (hs.ne 2 5)
        apply wpSq_end
        refine hK17 _ _ ?_
        refine rg [0, 1] ?_
        refine sq ?_
        refine .r0 ?_
        refine sq ?_
        refine .mv ?_
        apply wpSq_end
        have k0_6 := (((k0_2.b hb_11).b n12).o hd13 ho13).o hd14 ho14
        replace d2 := d2.k k0_6
        replace dV := dV.k k0_6
        have k3_6 := ((kb n12).o hd13 ho13).o hd14 ho14
        replace t1 := t1.k k3_6
        replace t2 := t2.k k3_6
        refine ‹∀ (a' : Act) (w' : World), Handed _ _ a' w' → _› _ _ ?_
        go_roundg (gk - 1)
        case rel => exact ⟨j + 1, M, _, _, _, _, _, _, _, _, _, _, _, _, _, _, by rfl, by rfl, by omega, by omega, HJ2, d2, dV, t1, t2, hs.sub (.cons _ (.cons _ (List.Sublist.refl _)))⟩
        case measure => omega
    · have HI' := hide (show FcI x y ((L0.take (i + 1)).flatMap pOv) ps2 X2 Y2 M from by
        have := HJ.out
        rw [show (pOv p).take j = pOv p from List.take_of_length_le (by omega)] at this
        rw [HTk.out, List.flatMap_append, List.flatMap_cons, List.flatMap_nil, List.append_nil]
        exact this)
      clear HJ
      refine wp_seq_k ?_
      intro K15 hK15
      refine rg [0] ?_
      refine sq ?_
      refine .r0 ?_
      apply wpSq_end
      refine hK15 _ _ ?_
      refine wp_seq_k ?_
      intro K16 hK16
      refine cf ?_
      refine wp_exit ?_
      refine hK12 _ _ ?_
      refine rg [0, 1] ?_
      refine sq ?_
      refine .r0 ?_
      refine sq ?_
      refine .mv ?_
      apply wpSq_end
      refine HO _ _ ?_
      go_roundg (g1 - 1)
      case rel => exact ⟨i + 1, M, _, _, _, _, _, _, _, _, _, _, _, _, _, _, by rfl, by rfl, by omega, by omega, HI', d2, b1, b2, hs.sub (.cons _ (List.Sublist.refl _))⟩
      case measure => omega
  · have HF := hide (show T = ps ∧ U = X ∧ V = Y ∧ N = ps.length ∧ ∀ t ∈ ps, t.1.natAbs < 4294967296 ∧ t.2.1.natAbs < 4294967296 from by
      obtain ⟨h1, h2, h3, h4, h5⟩ := HI.out
      rw [show L0.take i = L0 from List.take_of_length_le (by omega), HT.out] at h1
      injection h1 with h1 h6
      injection h6 with h6 h7
      exact ⟨h1, h6, h7, h4, h5⟩)
    obtain ⟨qs0, rfl, hq0, hc0⟩ := d
    have hq1 : qs0.length = N := by rw [HF.out.2.2.2.1, ← hq0, List.length_map]
    change Cns wr qs0 at hc0
    have HQ0 := hide (show qs0.map Pw.val = ps from hq0)
    have hN9 : N < 4611686018427387904 := by omega
    have hkq : bits .and .i64 (wrap64 (-((kq X Y : Nat) : Int))) 3 = (-((kq X Y : Nat) : Int)) % 4 := by
      rw [i64_and_three, show wrap64 (-((kq X Y : Nat) : Int)) = -((kq X Y : Nat) : Int) from by have := kq_lt X Y; unfold wrap64; omega]
    clear HI hq0
    refine wp_seq_k ?_
    intro K10 hK10
    refine rg [0] ?_
    refine sq ?_
    refine .r0 ?_
    apply wpSq_end
    refine hK10 _ _ ?_
    refine wp_seq_k ?_
    intro K11 hK11
    refine cf ?_
    refine wp_exit ?_
    refine hK8 _ _ ?_
    refine wp_seq_k ?_
    intro K12 hK12
    refine rg [0, 1] ?_
    refine sq ?_
    refine .mv ?_
    refine sq ?_
    intro K hK
    go_big_op
    go_fit (fac_sort (hs.1.1.1) (hc0.ok HQ0.out HF.out.2.2.2.2) hq1 hN9)
    rintro e w_7 ⟨rfl, qs_s, hp_s, hr_s, L_s, hg_s, hq_s⟩
    obtain ⟨hs', kp7, hw7⟩ := hs.so 0 L_s hg_s; clear hs; have hs := hs'; clear hs' L_s hg_s; simp only [List.set_cons_zero] at hs
    refine hK _ _ rfl trivial ?_
    clear hK K
    apply wpSq_end
    refine hK12 _ _ ?_
    refine wp_seq_k ?_
    intro K13 hK13
    refine rg [0, 1, 2, 3, 4, 5, 6, 7] ?_
    refine sq ?_
    refine .r4 hs.g2.f4 ?_
    refine sq ?_
    intro K hK
    have k0_1 := kp7
    replace a1 := a1.k k0_1
    replace a2 := a2.k k0_1
    go_big_op
    go_fit (gCanon_any (.mk' a1 a2) (by omega) (by omega))
    rintro e w_8 ⟨_, rfl, ⟨n_ga, o_ga, k_ga, c_ga, n_gb, o_gb, k_gb, c_gb, rfl, g1, g2⟩, hb_8⟩
    replace hs := hs.bl hb_8
    refine hK _ _ rfl trivial ?_
    clear hK K
    refine sq ?_
    refine .mv ?_
    refine sq ?_
    refine .r0 ?_
    refine sq ?_
    refine .r0 ?_
    refine sq ?_
    refine .al hs ?_; clear hs; intro p_b3 w_9 hs n9 kb_b3
    refine sq ?_
    refine .s4 hs.g0 (fun _ => hs.u0 kb_b3) ?_; clear hs; intro w_10 hs hd10 ho10
    refine sq ?_
    refine .mv ?_
    apply wpSq_end
    refine hK13 _ _ ?_
    refine wp_seq_k ?_
    intro K14 hK14
    refine rg [0, 1, 2, 3, 4, 5, 6] ?_
    refine sq ?_
    refine .mv ?_
    refine sq ?_
    refine .r0 ?_
    refine sq ?_
    refine .r0 ?_
    refine sq ?_
    refine .mv ?_
    refine sq ?_
    refine .mv ?_
    refine sq ?_
    refine .mv ?_
    refine sq ?_
    refine .mv ?_
    apply wpSq_end
    refine hK14 _ _ ?_
    refine wp_ret ?_
    try dsimp only [Exit.then, Exit.inBlock]
    refine bodyPost_ret (v := (.tuple #[.int .i64 ((-((kq X Y : Nat) : Int)) % 4), .slice o N c, .int .i64 0])) (by simp [results, Try.results9, go_sem]) rfl ?_
    have k0_4 := ((k0_1.b hb_8).b n9).o hd10 ho10
    replace hc0 := hc0.k k0_4
    have hc1 : Cns _ qs_s := fun q hq => hc0 q (hp_s.mem_iff.1 hq); obtain ⟨rfl, rfl, rfl, rfl, _⟩ := HF.out; exact ⟨_, _, qs_s, rfl, (HQ0.out ▸ hp_s.map Pw.val), hr_s, hs.1.2.1.1, hc1, hs.b⟩
end
end Go.Proofs.Ythlhekkcjficdaa


/- What Factor answers, as the laws meet it: the list is told ahead of the call. -/
namespace Go.Proofs.Ythlhekkcjficdaa
open Go Go.RowKit Dig
set_option linter.unusedVariables false
/-- One factor ahead of another. -/
def FLt (s t : Int × Int × Int) : Prop := gcmp s.1 s.2.1 t.1 t.2.1 < 0
/-- A number's unit and its factors: they make it, they rise, each is a canonical prime, 1 to 31 times. -/
def FaOk (x y k : Int) (ps : List (Int × Int × Int)) : Prop :=
  (0 ≤ k ∧ k < 4) ∧ gP (turn k.toNat (1, 0)) (gPs ps) = (x, y) ∧ ps.Pairwise FLt ∧ ps.length < 9000000000 ∧ ∀ t ∈ ps, (kq t.1 t.2.1 = 0 ∧ primeB (gN t.1 t.2.1).toNat = true ∧ 2 ≤ gN t.1 t.2.1 ∧ gN t.1 t.2.1 ≤ gN x y ∧ 1 ≤ t.2.2 ∧ t.2.2 ≤ 31) ∧ ∃ p, IsLf p p ∧ (t.1, t.2.1) ∈ pOv p
theorem pOvs_len {L : List Nat} (h : ∀ p ∈ L, IsLf p p) : (L.flatMap pOv).length ≤ 2 * L.length := by
  induction L with
  | nil => exact Nat.le_refl _
  | cons p L ih =>
    have h1 := pOv_len p (h p List.mem_cons_self)
    have h2 := ih fun q hq => h q (List.mem_cons_of_mem _ hq)
    rw [List.flatMap_cons, List.length_append, List.length_cons]
    omega
theorem flt_anti {s t : Int × Int × Int} (h1 : FLt s t) (h2 : FLt t s) : False := by
  unfold FLt at h1 h2
  rw [gcmp_lt] at h1 h2
  generalize gN s.1 s.2.1 = a at *
  generalize gN t.1 t.2.1 = b at *
  omega
section
variable {x y : Int} {N0 : Nat} {L0 : List Nat} {T : List (Int × Int × Int)} {U V : Int}
theorem factor_ok (hn : gN x y = (N0 : Int)) (h0 : N0 ≠ 0) (hN : N0 < 4294967296) (hL : PF N0 L0) (hT : (L0.flatMap pOv).foldl fcS ([], (x, y)) = (T, (U, V))) {ps : List (Int × Int × Int)} (hp : ps.Perm T) (hr : ps.Pairwise FLt) :
    FaOk x y ((-((kq U V : Nat) : Int)) % 4) ps := by
  have hQ : ∀ q ∈ L0.flatMap pOv, 2 ≤ gN q.1 q.2 := fun q hq => by
    obtain ⟨p, hp, hq⟩ := List.mem_flatMap.1 hq
    exact pOv_norm (hL.mem p hp).1 hq
  have hz : gN x y ≠ 0 := by omega
  have h1 := fc_counts _ hQ [] x y hz (by omega) (fun t ht => nomatch ht)
  have h2 := fc_le _ hQ (gN x y) [] x y hz (Int.le_refl _) (fun t ht => nomatch ht)
  have h3 := fc_sub (L0.flatMap pOv) [] (x, y)
  rw [hT] at h1 h2 h3
  refine ⟨by omega, back_prod hn h0 hL hT hp, hr, ?_, fun t ht => ?_⟩
  · have e1 := h3.length_le
    have e2 := pOvs_len fun p hp => (hL.mem p hp).1
    have e3 := hL.len
    rw [hp.length_eq]
    simp only [List.length_map, List.map_nil, List.nil_append] at e1
    omega
  · have hm := hp.mem_iff.1 ht
    have h4 : (t.1, t.2.1) ∈ L0.flatMap pOv := by
      have := h3.subset (List.mem_map_of_mem (f := Pr) hm)
      rw [List.map_nil, List.nil_append] at this
      exact this
    obtain ⟨p, hp1, hp2⟩ := List.mem_flatMap.1 h4
    have hp3 := (hL.mem p hp1).1
    exact ⟨⟨pOv_canon hp3 hp2, pOv_prime hp3 hp2, hQ _ h4, h2 _ hm, (h1 _ hm).1, (h1 _ hm).2⟩, p, hp3, hp2⟩
/-- There is just one list of the factors that rises. -/
theorem ris_ex (hL : PF N0 L0) (hT : (L0.flatMap pOv).foldl fcS ([], (x, y)) = (T, (U, V))) : ∃ ps : List (Int × Int × Int), ps.Perm T ∧ ps.Pairwise FLt := by
  have hd : (T.map Pr).Nodup := by have := fc_nodup (z := (x, y)) hL; rw [hT] at this; exact this
  have h1 := List.pairwise_mergeSort (le := fun s t : Int × Int × Int => decide (¬ gcmp t.1 t.2.1 s.1 s.2.1 < 0)) (fun a b c h1 h2 => by
    simp only [decide_eq_true_eq, gcmp_lt] at *
    generalize gN a.1 a.2.1 = p at *
    generalize gN b.1 b.2.1 = q at *
    generalize gN c.1 c.2.1 = r at *
    omega) (fun a b => by
    simp only [Bool.or_eq_true, decide_eq_true_eq, gcmp_lt] at *
    generalize gN a.1 a.2.1 = p at *
    generalize gN b.1 b.2.1 = q at *
    omega) T
  have h2 := List.mergeSort_perm T fun s t : Int × Int × Int => decide (¬ gcmp t.1 t.2.1 s.1 s.2.1 < 0)
  refine ⟨_, h2, ?_⟩
  have h3 : (T.mergeSort fun s t : Int × Int × Int => decide (¬ gcmp t.1 t.2.1 s.1 s.2.1 < 0)).Pairwise fun s t => Pr s ≠ Pr t := by
    have := ((h2.map Pr).nodup_iff.2 hd)
    rw [List.nodup_iff_pairwise_ne, List.pairwise_map] at this
    exact this
  refine (List.Pairwise.and h1 h3).imp fun {s t} h => ?_
  have h4 : ¬ gcmp t.1 t.2.1 s.1 s.2.1 < 0 := of_decide_eq_true h.1
  have h5 : ¬ (s.1 = t.1 ∧ s.2.1 = t.2.1) := fun e => h.2 (by unfold Pr; rw [e.1, e.2])
  unfold FLt
  rw [gcmp_lt] at h4 ⊢
  generalize gN s.1 s.2.1 = p at *
  generalize gN t.1 t.2.1 = q at *
  omega
end
/-- Factor's answer, its list and unit told ahead. -/
theorem fa_ex {x y : Int} (h0 : gN x y ≠ 0) (hN : gN x y < 4294967296) : ∃ (ps : List (Int × Int × Int)) (k : Int), FaOk x y k ps ∧ ∀ (w : World) (va : Value) (lg : Nat), PN w va x lg y lg → 1 ≤ lg → lg ≤ 10000000 →
    Calls Try.prog 9 #[va] w fun e w' => ∃ (o : Option Addr) (c : Nat) (xs : List Value), e = .returned (.tuple #[.int .i64 k, .slice o ps.length c, .int .i64 0]) ∧ Lst w' w.heap.size 37 5 (.slice o ps.length c) ps.length xs ∧ FacL w' xs ps ∧ Below w.heap.size w w' := by
  have h1 := gN_nonneg x y
  obtain ⟨N0, hN0⟩ : ∃ N0 : Nat, gN x y = (N0 : Int) := ⟨(gN x y).toNat, by omega⟩
  obtain ⟨L0, hL⟩ := pf_ex N0 (by omega)
  obtain ⟨T, Z, hT⟩ : ∃ T Z, (L0.flatMap pOv).foldl fcS ([], (x, y)) = (T, Z) := ⟨_, _, rfl⟩
  obtain ⟨U, V⟩ := Z
  obtain ⟨ps, hp, hr⟩ := ris_ex hL hT
  refine ⟨ps, _, factor_ok hN0 (by omega) (by omega) hL hT hp hr, fun w va lg ha hlg hlm => (gfactor_any ha hlg hlm hN0 (by omega) (by omega) hL hT).mono ?_⟩
  rintro e w' ⟨o, c, qs, rfl, hq, hs, hl, hc, hb⟩
  have hd : (T.map Pr).Nodup := by have := fc_nodup (z := (x, y)) hL; rw [hT] at this; exact this
  have e1 : qs.map Pw.val = ps := List.Perm.eq_of_pairwise (le := FLt) (fun a b _ _ h1 h2 => (flt_anti h1 h2).elim) (List.pairwise_map.2 (ris_strict hs hq hd)) hr (hq.trans hp.symm)
  have e2 : ps.length = T.length := hp.length_eq
  rw [← e2] at hl
  exact ⟨o, c, _, by rw [e2], hl, ⟨qs, rfl, e1, hc⟩, hb⟩
theorem pw_at : ∀ {qs : List Pw} {i : Nat} (hi : i < qs.length), (qs.flatMap Pw.cells)[i * 5]? = some (.bool qs[i].n1) ∧ (qs.flatMap Pw.cells)[i * 5 + 1]? = some (.slice qs[i].o1 qs[i].k1 qs[i].c1) ∧ (qs.flatMap Pw.cells)[i * 5 + 2]? = some (.bool qs[i].n2) ∧ (qs.flatMap Pw.cells)[i * 5 + 3]? = some (.slice qs[i].o2 qs[i].k2 qs[i].c2) ∧ (qs.flatMap Pw.cells)[i * 5 + 4]? = some (.int .i64 qs[i].n)
  | [], i, hi => absurd hi (Nat.not_lt_zero i)
  | q :: qs, 0, hi => ⟨rfl, rfl, rfl, rfl, rfl⟩
  | q :: qs, i + 1, hi => by
    have h := pw_at (qs := qs) (i := i) (Nat.lt_of_succ_lt_succ hi)
    have e : ∀ j, ((q :: qs).flatMap Pw.cells)[(i + 1) * 5 + j]? = (qs.flatMap Pw.cells)[i * 5 + j]? := fun j => by
      rw [List.flatMap_cons, List.getElem?_append_right (by show 5 ≤ _; omega)]
      congr 1
      show (i + 1) * 5 + j - 5 = _
      omega
    rw [List.getElem_cons_succ]
    exact ⟨(e 0).trans h.1, (e 1).trans h.2.1, (e 2).trans h.2.2.1, (e 3).trans h.2.2.2.1, (e 4).trans h.2.2.2.2⟩
theorem FacL.at {w : World} {xs : List Value} {ps : List (Int × Int × Int)} (h : FacL w xs ps) {i : Nat} (hi : i < ps.length) : ∃ n1 o1 k1 c1 n2 o2 k2 c2, xs[i * 5]? = some (.bool n1) ∧ xs[i * 5 + 1]? = some (.slice o1 k1 c1) ∧ xs[i * 5 + 2]? = some (.bool n2) ∧ xs[i * 5 + 3]? = some (.slice o2 k2 c2) ∧ xs[i * 5 + 4]? = some (.int .i64 ps[i].2.2) ∧ ZC w (.agg #[.bool n1, .slice o1 k1 c1]) ps[i].1 ∧ ZC w (.agg #[.bool n2, .slice o2 k2 c2]) ps[i].2.1 := by
  obtain ⟨qs, rfl, rfl, hc⟩ := h
  rw [List.length_map] at hi
  obtain ⟨e1, e2, e3, e4, e5⟩ := pw_at hi
  obtain ⟨n1, o1, k1, c1, n2, o2, k2, c2, he, z1, z2⟩ := hc _ (List.getElem_mem hi)
  simp only [Value.agg.injEq, Array.mk.injEq, List.cons.injEq, and_true] at he
  obtain ⟨h1, h2, h3, h4⟩ := he
  rw [List.getElem_map]
  exact ⟨n1, o1, k1, c1, n2, o2, k2, c2, h1 ▸ e1, h2 ▸ e2, h3 ▸ e3, h4 ▸ e4, e5, z1, z2⟩
theorem gPw_add (q : Int × Int) (m : Nat) : ∀ n : Nat, gPw q (m + n) = gP (gPw q m) (gPw q n)
  | 0 => by rw [gP_comm]; exact (gP_one _).symm
  | n + 1 => by rw [show gPw q (m + (n + 1)) = gP (gPw q (m + n)) q from rfl, gPw_add q m n, gP_assoc]; rfl
theorem gPs_one (t : Int × Int × Int) : gPs [t] = gPw (t.1, t.2.1) t.2.2.toNat := gP_one _
section
variable {x y k : Int} {ps : List (Int × Int × Int)} {i n : Nat}
theorem gP_one' (a : Int × Int) : gP a (1, 0) = a := by rw [gP_comm]; exact gP_one a
end
end Go.Proofs.Ythlhekkcjficdaa


/- A Gaussian prime that divides a product divides one of both; how often a prime stands in a number. -/
namespace Go.Proofs.Ythlhekkcjficdaa
open Go Go.RowKit Dig
set_option linter.unusedVariables false
/-- q divides z. -/
def Dv (q z : Int × Int) : Prop := ∃ D, z = gP D q
theorem dv_iff {q z : Int × Int} (h : gN q.1 q.2 ≠ 0) : gDv z.1 z.2 q.1 q.2 ↔ Dv q z := gDv_iff h
theorem dv_mul {q a : Int × Int} (b : Int × Int) (h : Dv q a) : Dv q (gP b a) := by
  obtain ⟨D, rfl⟩ := h
  exact ⟨gP b D, (gP_assoc b D q).symm⟩
theorem dv_mul' {q a : Int × Int} (b : Int × Int) (h : Dv q a) : Dv q (gP a b) := by rw [gP_comm]; exact dv_mul b h
theorem gN0 (z : Int × Int) : 0 ≤ gN z.1 z.2 := gN_nonneg _ _
/-- One of a product is divisible. -/
theorem dv_euclid {p : Nat} (hp : IsLf p p) {q : Int × Int} (hq : q ∈ pOv p) {a b : Int × Int} (h : Dv q (gP a b)) : Dv q a ∨ Dv q b := by
  have h2 := pOv_norm hp hq
  have h0 : gN q.1 q.2 ≠ 0 := by omega
  have hpd : (p : Int) ∣ gN q.1 q.2 := by
    rcases pOv_is hp hq with e | e <;> rw [e]
    · exact Int.dvd_refl _
    · exact ⟨_, rfl⟩
  have hn : (p : Int) ∣ gN a.1 a.2 * gN b.1 b.2 := by
    rw [← gP_norm]
    obtain ⟨D, hD⟩ := h
    rw [hD, gP_norm]
    exact Int.dvd_mul_of_dvd_right hpd
  rcases pOv_is hp hq with e | e
  · -- of norm p
    have key : (p : Int) ∣ gT1 a.1 a.2 q.1 q.2 * gT1 b.1 b.2 q.1 q.2 := by
      have h1 := ((dv_iff h0).2 h).1
      have h3 : (p : Int) ∣ gT1 (gP a b).1 (gP a b).2 q.1 q.2 := by rw [← e]; exact Int.dvd_of_fmod_eq_zero h1
      have h4 : gT1 a.1 a.2 q.1 q.2 * gT1 b.1 b.2 q.1 q.2 = q.1 * gT1 (gP a b).1 (gP a b).2 q.1 q.2 + gN q.1 q.2 * (a.2 * b.2) := by
        unfold gT1 gP gN
        grind
      rw [h4, e]
      exact Int.dvd_add (Int.dvd_mul_of_dvd_right h3) ⟨_, rfl⟩
    have fin : ∀ z : Int × Int, (p : Int) ∣ gT1 z.1 z.2 q.1 q.2 → Dv q z := fun z hz => by
      have h5 : (p : Int) ∣ gT2 z.1 z.2 q.1 q.2 := by
        have h6 : gT2 z.1 z.2 q.1 q.2 * gT2 z.1 z.2 q.1 q.2 = gN z.1 z.2 * p - gT1 z.1 z.2 q.1 q.2 * gT1 z.1 z.2 q.1 q.2 := by
          have := t_norm z.1 z.2 q.1 q.2
          rw [e] at this
          omega
        have h7 : (p : Int) ∣ gT2 z.1 z.2 q.1 q.2 * gT2 z.1 z.2 q.1 q.2 := by
          rw [h6]
          exact Int.dvd_sub ⟨_, Int.mul_comm _ _⟩ (Int.dvd_mul_of_dvd_left hz)
        exact (lf_imul hp h7).elim id id
      exact (dv_iff h0).1 (gDv_of (e ▸ hz) (e ▸ h5))
    exact (lf_imul hp key).imp (fin a) (fin b)
  · -- p itself
    have h3 : p % 4 = 3 ∧ q = ((p : Int), 0) := by
      unfold pOv at hq
      by_cases c2 : p = 2
      · rw [if_pos c2] at hq
        obtain rfl : q = (1, 1) := by simpa using hq
        subst c2
        exact absurd e (by decide)
      · rw [if_neg c2] at hq
        rcases lf_4 hp c2 with h4 | h4
        · rw [if_neg (by omega)] at hq
          obtain ⟨x, y, _, hyx, hs, ha, _⟩ := over1 hp h4
          rw [ha] at hq
          have hc : ((x : Int) * x + (y : Int) * y) = (p : Int) := by rw [← hs]; simp
          have hg : gN q.1 q.2 = p := by
            have hq2 : q = ((y : Int), (x : Int)) ∨ q = ((x : Int), (y : Int)) := by simpa using hq
            rcases hq2 with rfl | rfl <;> unfold gN <;> simp only <;> omega
          have e2 : ((p * p : Nat) : Int) = ((p : Nat) : Int) := by rw [Int.natCast_mul, ← e, hg]
          exact absurd (show p * p = p by omega) (prime_nsq hp p)
        · rw [if_pos h4] at hq
          exact ⟨h4, by simpa using hq⟩
    have fin : ∀ z : Int × Int, (p : Int) ∣ gN z.1 z.2 → Dv q z := fun z hz => (dv_iff h0).1 (by rw [h3.2]; exact over_3 hp h3.1 hz)
    exact (lf_imul hp hn).imp (fin a) (fin b)
theorem dv_pow {p : Nat} (hp : IsLf p p) {q : Int × Int} (hq : q ∈ pOv p) {a : Int × Int} (h : ¬ Dv q a) (h1 : ¬ Dv q (1, 0)) : ∀ n, ¬ Dv q (gPw a n)
  | 0 => h1
  | n + 1 => fun hc => (dv_euclid hp hq hc).elim (dv_pow hp hq h h1 n) h
theorem dv_unit {q z : Int × Int} (h : 2 ≤ gN q.1 q.2) (hz : gN z.1 z.2 = 1) : ¬ Dv q z := by
  rintro ⟨D, rfl⟩
  rw [gP_norm] at hz
  have h1 := gN0 D
  rcases Int.lt_or_le (gN D.1 D.2) 1 with h2 | h2
  · rw [show gN D.1 D.2 = 0 by omega, Int.zero_mul] at hz; omega
  · have := Int.mul_le_mul h2 h (by decide) (by omega)
    omega
/-- What is multiplied may be taken out. -/
theorem gP_cancel {a x y : Int × Int} (h : gN a.1 a.2 ≠ 0) (e : gP a x = gP a y) : x = y := by
  obtain ⟨a1, a2⟩ := a
  obtain ⟨x1, x2⟩ := x
  obtain ⟨y1, y2⟩ := y
  unfold gP at e
  simp only [Prod.mk.injEq] at e ⊢
  unfold gN at h
  dsimp only at h
  constructor
  · refine Int.eq_of_mul_eq_mul_left h ?_
    grind
  · refine Int.eq_of_mul_eq_mul_left h ?_
    grind
/-- Two primes over prime numbers: one divides the other only if they are one. -/
theorem dv_apart {p r : Nat} (hp : IsLf p p) (hr : IsLf r r) {q t : Int × Int} (hq : q ∈ pOv p) (ht : t ∈ pOv r) (hne : q ≠ t) : ¬ Dv q t := by
  rintro ⟨D, hD⟩
  have h2 := pOv_norm hp hq
  have h3 := pOv_norm hr ht
  -- t = D q: D divides t; t divides D or q
  have hd : Dv t (gP D q) := ⟨(1, 0), by rw [← hD, gP_one]⟩
  have hk1 := pOv_canon hp hq
  have hk2 := pOv_canon hr ht
  rcases dv_euclid hr ht hd with ⟨E, hE⟩ | ⟨E, hE⟩
  · -- D = E t: t = E t q, so E q = 1
    have h4 : gP t (1, 0) = gP t (gP E q) := by
      rw [gP_one', ← gP_assoc, gP_comm t E, ← hE]
      exact hD
    have h5 := gP_cancel (by omega) h4
    exact dv_unit h2 (by decide : gN (1, 0).1 (1, 0).2 = 1) ⟨E, h5⟩
  · -- q = E t: t = D E t, so D E = 1: D is a unit, both are canonical
    have h4 : gP t (1, 0) = gP t (gP D E) := by
      rw [gP_one', gP_comm t, gP_assoc, ← hE]
      exact hD
    have h5 := gP_cancel (by omega) h4
    have h6 : gN D.1 D.2 * gN E.1 E.2 = 1 := by rw [← gP_norm, ← h5]; rfl
    have h7 := gN0 D
    have h8 := gN0 E
    have h9 : gN D.1 D.2 = 1 := by
      rcases Int.lt_or_le (gN D.1 D.2) 1 with c | c
      · rw [show gN D.1 D.2 = 0 by omega, Int.zero_mul] at h6; omega
      · rcases Int.lt_or_le (gN E.1 E.2) 1 with c2 | c2
        · rw [show gN E.1 E.2 = 0 by omega, Int.mul_zero] at h6; omega
        · rcases Int.lt_or_le (gN D.1 D.2) 2 with c3 | c3
          · omega
          · have := Int.mul_le_mul c3 c2 (by decide) (by omega)
            omega
    obtain ⟨d1, d2⟩ := D
    obtain ⟨q1, q2⟩ := q
    obtain ⟨t1, t2⟩ := t
    unfold gP at hD
    simp only [Prod.mk.injEq] at hD
    unfold gN at h9 h2
    dsimp only at h9 hk1 hk2 h2
    have s1 := mul_self_nonneg' d1
    have s2 := mul_self_nonneg' d2
    have hz : ¬ (q1 = 0 ∧ q2 = 0) := by rintro ⟨rfl, rfl⟩; simp at h2
    have hz1 : 0 < q1 ∧ 0 ≤ q2 := by unfold kq at hk1; revert hk1; (repeat' split) <;> intro hk1 <;> first | omega | (exfalso; revert hk1; decide) | skip
    have ht0 : ¬ (t1 = 0 ∧ t2 = 0) := by
      rintro ⟨rfl, rfl⟩
      unfold gN at h3
      simp at h3
    have hz2 : 0 < t1 ∧ 0 ≤ t2 := by unfold kq at hk2; revert hk2; (repeat' split) <;> intro hk2 <;> first | omega | (exfalso; revert hk2; decide) | skip
    rcases sq_le_one (a := d1) (by omega) with rfl | rfl | rfl <;> rcases sq_le_one (a := d2) (by omega) with rfl | rfl | rfl <;> first | (exfalso; revert h9; decide) | (exfalso; omega) | (exact hne (by rw [hD.1, hD.2]; simp))
end Go.Proofs.Ythlhekkcjficdaa


/- The factors of a product are those of both. -/
namespace Go.Proofs.Ythlhekkcjficdaa
open Go Go.RowKit Dig
set_option linter.unusedVariables false
/-- How often a prime stands in a list of factors. -/
def cnt : List (Int × Int × Int) → Int × Int → Int
  | [], _ => 0
  | t :: ps, q => if t.1 = q.1 ∧ t.2.1 = q.2 then t.2.2 else cnt ps q
theorem pr_eq {t : Int × Int × Int} {q : Int × Int} : (t.1 = q.1 ∧ t.2.1 = q.2) ↔ Pr t = q := by
  unfold Pr
  constructor
  · rintro ⟨h1, h2⟩; rw [h1, h2]
  · rintro rfl; exact ⟨rfl, rfl⟩
theorem cnt_no {q : Int × Int} : ∀ {ps : List (Int × Int × Int)}, q ∉ ps.map Pr → cnt ps q = 0
  | [], _ => rfl
  | t :: ps, h => by
    rw [List.map_cons, List.mem_cons, not_or] at h
    rw [cnt, if_neg (fun e => h.1 (pr_eq.1 e).symm)]
    exact cnt_no h.2
theorem cnt_cons_ne {t : Int × Int × Int} {ps : List (Int × Int × Int)} {q : Int × Int} (h : q ≠ Pr t) : cnt (t :: ps) q = cnt ps q := by
  rw [cnt, if_neg (fun e => h (pr_eq.1 e).symm)]
theorem cnt_cons_eq {t : Int × Int × Int} {ps : List (Int × Int × Int)} : cnt (t :: ps) (Pr t) = t.2.2 := by
  rw [cnt, if_pos (pr_eq.2 rfl)]
theorem cnt_mem : ∀ {ps : List (Int × Int × Int)} {t : Int × Int × Int}, (ps.map Pr).Nodup → t ∈ ps → cnt ps (Pr t) = t.2.2
  | s :: ps, t, hd, ht => by
    rw [List.map_cons, List.nodup_cons] at hd
    rcases List.mem_cons.1 ht with rfl | ht
    · exact cnt_cons_eq
    · rw [cnt_cons_ne (fun e => hd.1 (e ▸ List.mem_map_of_mem (f := Pr) ht))]
      exact cnt_mem hd.2 ht
theorem gPs_cons (t : Int × Int × Int) (ps : List (Int × Int × Int)) : gPs (t :: ps) = gP (gPw (Pr t) t.2.2.toNat) (gPs ps) := by
  rw [show t :: ps = [t] ++ ps from rfl, gPs_app, gPs_one]; rfl
/-- Primes over prime numbers. -/
def AllPr (ps : List (Int × Int × Int)) : Prop := ∀ t ∈ ps, (∃ r, IsLf r r ∧ Pr t ∈ pOv r) ∧ 1 ≤ t.2.2
section
variable {p : Nat} {q : Int × Int}
theorem ndv_none (hp : IsLf p p) (hq : q ∈ pOv p) : ∀ {ps : List (Int × Int × Int)}, AllPr ps → q ∉ ps.map Pr → ¬ Dv q (gPs ps)
  | [], _, _ => dv_unit (pOv_norm hp hq) rfl
  | t :: ps, h, hn => fun hc => by
    rw [List.map_cons, List.mem_cons, not_or] at hn
    rw [gPs_cons] at hc
    obtain ⟨⟨r, hr, ht⟩, _⟩ := h t List.mem_cons_self
    rcases dv_euclid hp hq hc with h1 | h1
    · exact dv_pow hp hq (dv_apart hp hr hq ht hn.1) (dv_unit (pOv_norm hp hq) rfl) _ h1
    · exact ndv_none hp hq (fun s hs => h s (List.mem_cons_of_mem _ hs)) hn.2 h1
theorem cnt_split (hp : IsLf p p) (hq : q ∈ pOv p) : ∀ {ps : List (Int × Int × Int)}, AllPr ps → (ps.map Pr).Nodup → ∃ R, gPs ps = gP (gPw q (cnt ps q).toNat) R ∧ ¬ Dv q R
  | [], _, _ => ⟨(1, 0), rfl, dv_unit (pOv_norm hp hq) rfl⟩
  | t :: ps, h, hd => by
    have hA : AllPr ps := fun s hs => h s (List.mem_cons_of_mem _ hs)
    rw [List.map_cons, List.nodup_cons] at hd
    by_cases e : q = Pr t
    · subst e
      refine ⟨gPs ps, ?_, ndv_none hp hq hA hd.1⟩
      rw [cnt_cons_eq, gPs_cons]
    · obtain ⟨R, h1, h2⟩ := cnt_split hp hq hA hd.2
      obtain ⟨⟨r, hr, ht⟩, _⟩ := h t List.mem_cons_self
      refine ⟨gP (gPw (Pr t) t.2.2.toNat) R, ?_, fun hc => ?_⟩
      · rw [cnt_cons_ne e, gPs_cons, h1, ← gP_assoc, ← gP_assoc, gP_comm (gPw (Pr t) _)]
      · rcases dv_euclid hp hq hc with h3 | h3
        · exact dv_pow hp hq (dv_apart hp hr hq ht e) (dv_unit (pOv_norm hp hq) rfl) _ h3
        · exact h2 h3
theorem pw_ne (h : 2 ≤ gN q.1 q.2) (n : Nat) : gN (gPw q n).1 (gPw q n).2 ≠ 0 := by
  rw [gPw_norm]; exact Int.pow_ne_zero (by omega)
theorem pow_lt (h : 2 ≤ gN q.1 q.2) {m n : Nat} {X Y : Int × Int} (e : gP (gPw q m) X = gP (gPw q n) Y) (hX : ¬ Dv q X) : n ≤ m := by
  rcases Nat.lt_or_ge m n with hl | hl
  · exfalso
    obtain ⟨d, rfl⟩ : ∃ d, n = m + (d + 1) := ⟨n - m - 1, by omega⟩
    rw [gPw_add, gP_assoc] at e
    have := gP_cancel (pw_ne h m) e
    refine hX (this ▸ dv_mul' Y ⟨gPw q d, rfl⟩)
  · exact hl
theorem pow_uniq (h : 2 ≤ gN q.1 q.2) {m n : Nat} {X Y : Int × Int} (e : gP (gPw q m) X = gP (gPw q n) Y) (hX : ¬ Dv q X) (hY : ¬ Dv q Y) : m = n :=
  Nat.le_antisymm (pow_lt h e.symm hY) (pow_lt h e hX)
end
theorem FaOk.nodup {x y k : Int} {ps : List (Int × Int × Int)} (h : FaOk x y k ps) : (ps.map Pr).Nodup := by
  rw [List.nodup_iff_pairwise_ne, List.pairwise_map]
  refine h.2.2.1.imp fun {s t} hs e => ?_
  unfold FLt at hs
  unfold Pr at e
  injection e with e1 e2
  rw [e1, e2, gcmp_lt] at hs
  omega
theorem FaOk.all {x y k : Int} {ps : List (Int × Int × Int)} (h : FaOk x y k ps) : AllPr ps := fun t ht => by
  obtain ⟨h1, p, h2, h3⟩ := h.2.2.2.2 t ht
  exact ⟨⟨p, h2, h3⟩, h1.2.2.2.2.1⟩
theorem cnt_nonneg {q : Int × Int} : ∀ {ps : List (Int × Int × Int)}, AllPr ps → 0 ≤ cnt ps q
  | [], _ => Int.le_refl 0
  | t :: ps, h => by
    rw [cnt]
    split
    · have := (h t List.mem_cons_self).2; omega
    · exact cnt_nonneg fun s hs => h s (List.mem_cons_of_mem _ hs)
theorem unit_norm {k : Int} (h : 0 ≤ k ∧ k < 4) : gN (turn k.toNat (1, 0)).1 (turn k.toNat (1, 0)).2 = 1 := by
  have : k = 0 ∨ k = 1 ∨ k = 2 ∨ k = 3 := by omega
  rcases this with rfl | rfl | rfl | rfl <;> rfl
section
variable {x y u v j k l : Int} {A B C : List (Int × Int × Int)}
/-- THE COUNTS ADD. -/
theorem cnt_add (hA : FaOk x y j A) (hB : FaOk u v k B) (hC : FaOk (x * u - y * v) (x * v + y * u) l C) {p : Nat} (hp : IsLf p p) {q : Int × Int} (hq : q ∈ pOv p) : cnt C q = cnt A q + cnt B q := by
  obtain ⟨RA, a1, a2⟩ := cnt_split hp hq hA.all hA.nodup
  obtain ⟨RB, b1, b2⟩ := cnt_split hp hq hB.all hB.nodup
  obtain ⟨RC, c1, c2⟩ := cnt_split hp hq hC.all hC.nodup
  have h2 := pOv_norm hp hq
  have e : gP (gP (turn j.toNat (1, 0)) (gPs A)) (gP (turn k.toNat (1, 0)) (gPs B)) = gP (turn l.toNat (1, 0)) (gPs C) := by
    rw [hA.2.1, hB.2.1, hC.2.1]; rfl
  have uA := unit_norm hA.1
  have uB := unit_norm hB.1
  have uC := unit_norm hC.1
  rw [a1, b1, c1] at e
  generalize turn j.toNat (1, 0) = UA at *
  generalize turn k.toNat (1, 0) = UB at *
  generalize turn l.toNat (1, 0) = UC at *
  have n1 := cnt_nonneg (q := q) hA.all
  have n2 := cnt_nonneg (q := q) hB.all
  have n3 := cnt_nonneg (q := q) hC.all
  have e2 : gP (gPw q ((cnt A q).toNat + (cnt B q).toNat)) (gP (gP UA RA) (gP UB RB)) = gP (gPw q (cnt C q).toNat) (gP UC RC) := by
    rw [gPw_add]
    calc gP (gP (gPw q (cnt A q).toNat) (gPw q (cnt B q).toNat)) (gP (gP UA RA) (gP UB RB)) = gP (gP UA (gP (gPw q (cnt A q).toNat) RA)) (gP UB (gP (gPw q (cnt B q).toNat) RB)) := by
          unfold gP; simp only [Prod.mk.injEq]; constructor <;> grind
      _ = gP UC (gP (gPw q (cnt C q).toNat) RC) := e
      _ = _ := by rw [← gP_assoc, ← gP_assoc, gP_comm UC]
  have key := pow_uniq h2 e2 (fun hc => (dv_euclid hp hq hc).elim (fun h => (dv_euclid hp hq h).elim (dv_unit h2 uA) a2) (fun h => (dv_euclid hp hq h).elim (dv_unit h2 uB) b2)) (fun hc => (dv_euclid hp hq hc).elim (dv_unit h2 uC) c2)
  omega
theorem keys_sub (hA : FaOk x y j A) (hB : FaOk u v k B) (hC : FaOk (x * u - y * v) (x * v + y * u) l C) : (∀ t ∈ A, Pr t ∈ C.map Pr) ∧ ∀ t ∈ B, Pr t ∈ C.map Pr := by
  constructor
  · intro t ht
    obtain ⟨⟨p, hp, hq⟩, h1⟩ := hA.all t ht
    have e := cnt_add hA hB hC hp hq
    rw [cnt_mem hA.nodup ht] at e
    have := cnt_nonneg (q := Pr t) hB.all
    rcases Classical.em (Pr t ∈ C.map Pr) with h | h
    · exact h
    · rw [cnt_no h] at e; omega
  · intro t ht
    obtain ⟨⟨p, hp, hq⟩, h1⟩ := hB.all t ht
    have e := cnt_add hA hB hC hp hq
    rw [cnt_mem hB.nodup ht] at e
    have := cnt_nonneg (q := Pr t) hA.all
    rcases Classical.em (Pr t ∈ C.map Pr) with h | h
    · exact h
    · rw [cnt_no h] at e; omega
end
/-- One of a list's values is picked out. -/
theorem pick {M : Type} (op : M → M → M) (e : M) (hc : ∀ a b, op a b = op b a) (hs : ∀ a b c, op (op a b) c = op a (op b c)) (h1 : ∀ a, op e a = a) (f g : Int × Int → M) (t : Int × Int) (ht : g t = e) :
    ∀ K : List (Int × Int), K.Nodup → t ∈ K → (∀ q ∈ K, q ≠ t → f q = g q) → K.foldr (fun q a => op (f q) a) e = op (f t) (K.foldr (fun q a => op (g q) a) e)
  | [], _, hm, _ => nomatch hm
  | q :: K, hd, hm, hf => by
    rw [List.nodup_cons] at hd
    rw [List.foldr_cons, List.foldr_cons]
    by_cases e1 : q = t
    · subst e1
      have : ∀ L : List (Int × Int), (∀ r ∈ L, f r = g r) → L.foldr (fun q a => op (f q) a) e = L.foldr (fun q a => op (g q) a) e := fun L => by
        induction L with
        | nil => intro _; rfl
        | cons r L ih => intro h; rw [List.foldr_cons, List.foldr_cons, h r List.mem_cons_self, ih fun s hs => h s (List.mem_cons_of_mem _ hs)]
      rw [this K fun r hr => hf r (List.mem_cons_of_mem _ hr) fun e2 => hd.1 (e2 ▸ hr), ht, h1]
    · rw [pick op e hc hs h1 f g t ht K hd.2 ((List.mem_cons.1 hm).resolve_left (Ne.symm e1)) fun r hr => hf r (List.mem_cons_of_mem _ hr), hf q List.mem_cons_self e1, ← hs, ← hs, hc (g q)]
/-- A list of factors, told over more primes than stand in it. -/
theorem cnt_fold {M : Type} (op : M → M → M) (e : M) (hc : ∀ a b, op a b = op b a) (hs : ∀ a b c, op (op a b) c = op a (op b c)) (h1 : ∀ a, op e a = a) (F : Int × Int → Int → M) (h0 : ∀ q, F q 0 = e) {K : List (Int × Int)} (hK : K.Nodup) :
    ∀ {A : List (Int × Int × Int)}, (A.map Pr).Nodup → (∀ t ∈ A, Pr t ∈ K) → K.foldr (fun q a => op (F q (cnt A q)) a) e = A.foldr (fun t a => op (F (Pr t) t.2.2) a) e
  | [], _, hm => by
    clear hK hm
    induction K with
    | nil => rfl
    | cons q K ih => rw [List.foldr_cons, show cnt [] q = 0 from rfl, h0, h1]; exact ih
  | t :: A, hd, hm => by
    rw [List.map_cons, List.nodup_cons] at hd
    rw [pick op e hc hs h1 (fun q => F q (cnt (t :: A) q)) (fun q => F q (cnt A q)) (Pr t) (by rw [cnt_no hd.1, h0]) K hK (hm t List.mem_cons_self) (fun q _ hq => by rw [cnt_cons_ne hq]),
      cnt_fold op e hc hs h1 F h0 hK hd.2 fun s hs => hm s (List.mem_cons_of_mem _ hs)]
    rw [cnt_cons_eq, List.foldr_cons]
/-- All counts. -/
def allN (ps : List (Int × Int × Int)) : Int := ps.foldr (fun t a => t.2.2 + a) 0
theorem gPs_foldr : ∀ ps : List (Int × Int × Int), gPs ps = ps.foldr (fun t a => gP (gPw (Pr t) t.2.2.toNat) a) (1, 0)
  | [] => rfl
  | t :: ps => by rw [gPs_cons, gPs_foldr ps]; rfl
section
variable {x y u v j k l : Int} {A B C : List (Int × Int × Int)}
theorem cntC (hA : FaOk x y j A) (hB : FaOk u v k B) (hC : FaOk (x * u - y * v) (x * v + y * u) l C) : ∀ q ∈ C.map Pr, cnt C q = cnt A q + cnt B q := fun q hq => by
  obtain ⟨t, ht, rfl⟩ := List.mem_map.1 hq
  obtain ⟨⟨p, hp, hp2⟩, _⟩ := hC.all t ht
  exact cnt_add hA hB hC hp hp2
/-- THE WHOLE COUNT. -/
theorem all_add (hA : FaOk x y j A) (hB : FaOk u v k B) (hC : FaOk (x * u - y * v) (x * v + y * u) l C) : allN A + allN B = allN C := by
  have hk := keys_sub hA hB hC
  have f := fun {D : List (Int × Int × Int)} => cnt_fold (M := Int) (· + ·) 0 Int.add_comm Int.add_assoc Int.zero_add (fun _ n => n) (fun _ => rfl) hC.nodup (A := D)
  have fA := f hA.nodup hk.1
  have fB := f hB.nodup hk.2
  have fC := f hC.nodup fun t ht => List.mem_map_of_mem (f := Pr) ht
  unfold allN
  rw [← fA, ← fB, ← fC]
  have hc := cntC hA hB hC
  generalize C.map Pr = K at *
  clear fA fB fC f hk
  induction K with
  | nil => rfl
  | cons q K ih =>
    simp only [List.foldr_cons]
    rw [hc q List.mem_cons_self, ← ih fun r hr => hc r (List.mem_cons_of_mem _ hr)]
    omega
theorem prod_add (hA : FaOk x y j A) (hB : FaOk u v k B) (hC : FaOk (x * u - y * v) (x * v + y * u) l C) : gP (gPs A) (gPs B) = gPs C := by
  have hk := keys_sub hA hB hC
  have f := fun {D : List (Int × Int × Int)} => cnt_fold (M := Int × Int) gP (1, 0) gP_comm gP_assoc gP_one (fun q n => gPw q n.toNat) (fun _ => rfl) hC.nodup (A := D)
  have fA := f hA.nodup hk.1
  have fB := f hB.nodup hk.2
  have fC := f hC.nodup fun t ht => List.mem_map_of_mem (f := Pr) ht
  rw [gPs_foldr A, gPs_foldr B, gPs_foldr C, ← fA, ← fB, ← fC]
  have hc := cntC hA hB hC
  have nA := fun q => cnt_nonneg (q := q) hA.all
  have nB := fun q => cnt_nonneg (q := q) hB.all
  generalize C.map Pr = K at *
  clear fA fB fC f hk
  induction K with
  | nil => rfl
  | cons q K ih =>
    simp only [List.foldr_cons]
    rw [hc q List.mem_cons_self, ← ih fun r hr => hc r (List.mem_cons_of_mem _ hr), Int.toNat_add (nA q) (nB q), gPw_add]
    unfold gP; simp only [Prod.mk.injEq]; constructor <;> grind
theorem all_ne {ps : List (Int × Int × Int)} (h : AllPr ps) : gN (gPs ps).1 (gPs ps).2 ≠ 0 := by
  induction ps with
  | nil => decide
  | cons t ps ih =>
    rw [gPs_cons, gP_norm]
    obtain ⟨⟨r, hr, ht⟩, _⟩ := h t List.mem_cons_self
    exact Int.mul_ne_zero (pw_ne (pOv_norm hr ht) _) (ih fun s hs => h s (List.mem_cons_of_mem _ hs))
/-- THE UNITS. -/
theorem unit_add (hA : FaOk x y j A) (hB : FaOk u v k B) (hC : FaOk (x * u - y * v) (x * v + y * u) l C) : (j + k) % 4 = l := by
  have e : gP (gP (turn j.toNat (1, 0)) (gPs A)) (gP (turn k.toNat (1, 0)) (gPs B)) = gP (turn l.toNat (1, 0)) (gPs C) := by
    rw [hA.2.1, hB.2.1, hC.2.1]; rfl
  have e2 : gP (gPs C) (gP (turn j.toNat (1, 0)) (turn k.toNat (1, 0))) = gP (gPs C) (turn l.toNat (1, 0)) := by
    rw [gP_comm (gPs C) (turn l.toNat (1, 0)), ← e, ← prod_add hA hB hC]
    unfold gP; simp only [Prod.mk.injEq]; constructor <;> grind
  have e3 := gP_cancel (all_ne hC.all) e2
  have a1 := hA.1
  have a2 := hB.1
  have a3 := hC.1
  clear e e2 hA hB hC
  have b1 : j = 0 ∨ j = 1 ∨ j = 2 ∨ j = 3 := by omega
  have b2 : k = 0 ∨ k = 1 ∨ k = 2 ∨ k = 3 := by omega
  have b3 : l = 0 ∨ l = 1 ∨ l = 2 ∨ l = 3 := by omega
  clear a1 a2 a3
  rcases b1 with rfl | rfl | rfl | rfl <;> rcases b2 with rfl | rfl | rfl | rfl <;> rcases b3 with rfl | rfl | rfl | rfl <;> first | rfl | (exfalso; revert e3; decide)
/-- A factor of the product divides one of both. -/
theorem one_dv (hA : FaOk x y j A) (hB : FaOk u v k B) (hC : FaOk (x * u - y * v) (x * v + y * u) l C) {t : Int × Int × Int} (ht : t ∈ C) : gDv x y t.1 t.2.1 ∨ gDv u v t.1 t.2.1 := by
  obtain ⟨⟨p, hp, hq⟩, h1⟩ := hC.all t ht
  have h0 : gN (Pr t).1 (Pr t).2 ≠ 0 := by have := pOv_norm hp hq; omega
  have hd : Dv (Pr t) (x * u - y * v, x * v + y * u) := by
    obtain ⟨R, hR, _⟩ := cnt_split hp hq hC.all hC.nodup
    rw [← hC.2.1, hR, cnt_mem hC.nodup ht]
    obtain ⟨d, hd⟩ : ∃ d, t.2.2.toNat = d + 1 := ⟨t.2.2.toNat - 1, by omega⟩
    rw [hd]
    exact dv_mul _ (dv_mul' R ⟨gPw (Pr t) d, rfl⟩)
  have := dv_euclid hp hq (a := (x, y)) (b := (u, v)) hd
  exact this.imp (fun h => (dv_iff (z := (x, y)) h0).2 h) (fun h => (dv_iff (z := (u, v)) h0).2 h)
end
end Go.Proofs.Ythlhekkcjficdaa


/- Stores in a region that draws, beside lists that are read: what else is asked may lean on what was left alone. -/
namespace Go.Proofs.Ythlhekkcjficdaa
open Go Go.RowKit Dig
set_option linter.unusedVariables false
section
variable {P : Program} {o : Oper} {a : Act} {w w0 : World} {B : Exit → Act → World → Prop} {E : World → Prop} {G : Act → World → Prop} {bs bs' : List En}
theorem Stp.s4o {b : Nat} {d0 d1 d2 d3 c0 c1 c2 c3 : Value} {ty : TypeId} {a' : Act} (x : Bs w b #[d0, d1, d2, d3] ty) (hu : ∀ w', Bs w' b #[c0, c1, c2, c3] ty → Only b w w' → St w0 bs' w')
    (h : ∀ w', St w0 bs' w' → NoD w b → Only b w w' → G a' w')
    (h1 : w.cell? ⟨b, 0, none⟩ = some d0 → w.cell? ⟨b, 1, none⟩ = some d1 → w.cell? ⟨b, 2, none⟩ = some d2 → w.cell? ⟨b, 3, none⟩ = some d3 → w.frozen? ⟨b, 0, none⟩ = false → w.frozen? ⟨b, 1, none⟩ = false → w.frozen? ⟨b, 2, none⟩ = false → w.frozen? ⟨b, 3, none⟩ = false → ∀ K : Act → World → Prop, K a' ((((w.setCell ⟨b, 0, none⟩ c0).setCell ⟨b, 1, none⟩ c1).setCell ⟨b, 2, none⟩ c2).setCell ⟨b, 3, none⟩ c3) → o.wp P a w K B := by intro d0 d1 d2 d3 f0 f1 f2 f3 K hK; go_big_op; exact hK)
    (e : ∀ w', St w0 bs' w' → Only b w w' → E w') (hd : a'.defers = a.defers := by rfl) (hn : (#[d0, d1, d2, d3] : Array Value).toList.all nd = true := by rfl) (ht : (ty == 68) = false := by rfl) : Stp P o a w B E G := fun K hK => by
  obtain ⟨v, rfl, h2, h3⟩ := x.set4 c0 c1 c2 c3
  exact h1 (x.cell 0 rfl) (x.cell 1 rfl) (x.cell 2 rfl) (x.cell 3 rfl) (x.free 0) (x.free 1) (x.free 2) (x.free 3) K (hK _ _ hd (e _ (hu _ h2 h3) h3) (h _ (hu _ h2 h3) (x.nod hn ht) h3))
end
end Go.Proofs.Ythlhekkcjficdaa


/- The law's count and all. -/
namespace Go.Proofs.Ythlhekkcjficdaa
open Go Go.RowKit Dig
set_option linter.unusedVariables false
/-- These factors can be read from here. -/
def SF (w : World) (o : Option Addr) (ps : List (Int × Int × Int)) : Prop :=
  ps = [] ∨ ∃ g cur X, o = some ⟨g, 0, none⟩ ∧ Bs w g cur 37 ∧ FacL w X ps ∧ ∀ (j : Nat) (u : Value), X[j]? = some u → cur[j]? = some u
theorem SF.of {w : World} {B c : Nat} {o : Option Addr} {xs : List Value} {ps : List (Int × Int × Int)} (L : Lst w B 37 5 (.slice o ps.length c) ps.length xs) (d : FacL w xs ps) : SF w o ps := by
  rcases Nat.eq_zero_or_pos ps.length with h | h
  · exact .inl (List.eq_nil_of_length_eq_zero h)
  · obtain ⟨g, cur, rfl, x, hx⟩ := L.box h
    exact .inr ⟨g, cur, xs, rfl, x, d, hx⟩
theorem cnt_drop {ps : List (Int × Int × Int)} {q : Int × Int} {i : Nat} (hi : i < ps.length) : cnt (ps.drop i) q = if ps[i].1 = q.1 ∧ ps[i].2.1 = q.2 then ps[i].2.2 else cnt (ps.drop (i + 1)) q := by
  rw [List.drop_eq_getElem_cons hi, cnt]
theorem allN_drop {ps : List (Int × Int × Int)} {i : Nat} (hi : i < ps.length) : allN (ps.drop i) = ps[i].2.2 + allN (ps.drop (i + 1)) := by
  rw [List.drop_eq_getElem_cons hi]; rfl
section
variable {w : World} {vb : Value} {x y : Int} {o : Option Addr} {c : Nat} {ps : List (Int × Int × Int)}
set_option maxHeartbeats 4000000 in
set_option maxRecDepth 20000 in
theorem count_any (S : SF w o ps) (hc : ps.length ≤ c) (hlen : ps.length < 9000000000) (hps : ∀ t ∈ ps, (dig t.1.natAbs).length ≤ 1 ∧ (dig t.2.1.natAbs).length ≤ 1) (hq : PN w vb x 1 y 1) :
    Calls Try.prog 21 #[.slice o ps.length c, vb] w fun e w' => e = .returned (.int .i64 (cnt ps (x, y))) ∧ Below w.heap.size w w' := by
  obtain ⟨n, hn⟩ : ∃ n, ps.length = n := ⟨_, rfl⟩
  rcases S with rfl | ⟨g, cur, X, rfl, xl, d, hcur⟩
  · subst hn
    clear hps
    obtain ⟨n_1a, o_1a, k_1a, c_1a, n_1b, o_1b, k_1b, c_1b, rfl, hq1, hq2⟩ := hq
    go_enter Try.func21, Try.ntmps21
    have hs := St.nil w
    refine wp_seq_k ?_
    intro K1 hK1
    refine rg [0, 1] ?_
    refine sq ?_
    refine .al hs ?_; clear hs; intro p_b1 w_1 hs n1 kb_b1
    refine sq ?_
    refine .mv ?_
    apply wpSq_end
    refine hK1 _ _ ?_
    refine wp_seq_k ?_
    intro K2 hK2
    refine wp_seq_k ?_
    intro K3 hK3
    refine rg [0] ?_
    refine sq ?_
    refine .mv ?_
    apply wpSq_end
    refine hK3 _ _ ?_
    refine wp_block ?_
    have hd2 := hs.2.1
    go_loopg [5] 0 (fun k s5 wr => s5 = .int .i64 0 ∧ Below w.heap.size w wr)
    case atStart => exact ⟨rfl, hs.b⟩
    case round =>
    clear hq1 hq2 hs
    obtain ⟨rfl, hb⟩ := hrel
    have hs : St w [] wr := ⟨trivial, List.Pairwise.nil, hb⟩
    refine wp_seq_k ?_
    intro K4 hK4
    refine wp_seq_k ?_
    intro K5 hK5
    refine rg [0, 1, 2, 3] ?_
    refine sq ?_
    refine .mv ?_
    refine sq ?_
    refine .mv ?_
    refine sq ?_
    refine .r0 ?_
    refine sq ?_
    refine .r0 ?_
    apply wpSq_end
    refine hK5 _ _ ?_
    refine cf ?_
    refine wp_exit ?_
    refine hK2 _ _ ?_
    refine wp_seq_k ?_
    intro K6 hK6
    refine rg [0] ?_
    refine sq ?_
    refine .mv ?_
    apply wpSq_end
    refine hK6 _ _ ?_
    refine wp_ret ?_
    try dsimp only [Exit.then, Exit.inBlock]
    refine bodyPost_ret (v := (.int .i64 0)) (by simp [results, Try.results21, go_sem]) rfl ?_
    exact ⟨rfl, hs.b⟩
  · rw [hn] at hc hlen ⊢
    have HP := hide (fun i (hi : i < ps.length) => hps _ (List.getElem_mem hi))
    have HN := hide hn
    have HC := hide hcur
    clear hps hcur hn
    obtain ⟨n_1a, o_1a, k_1a, c_1a, n_1b, o_1b, k_1b, c_1b, rfl, hq1, hq2⟩ := hq
    go_enter Try.func21, Try.ntmps21
    have hs := St.nil w
    refine wp_seq_k ?_
    intro K1 hK1
    refine rg [0, 1] ?_
    refine sq ?_
    refine .al hs ?_; clear hs; intro p_b1 w_1 hs n1 kb_b1
    refine sq ?_
    refine .mv ?_
    apply wpSq_end
    refine hK1 _ _ ?_
    refine wp_seq_k ?_
    intro K2 hK2
    refine wp_seq_k ?_
    intro K3 hK3
    refine rg [0] ?_
    refine sq ?_
    refine .mv ?_
    apply wpSq_end
    refine hK3 _ _ ?_
    refine wp_block ?_
    have k0_1 := kb n1
    replace d := d.k k0_1
    replace hq1 := hq1.k k0_1
    replace hq2 := hq2.k k0_1
    have hd2 := hs.2.1
    go_loopg [5] n (fun k s5 wr => ∃ i : Nat, s5 = .int .i64 (i : Int) ∧ i + k = n ∧ Hid (cnt ps (x, y) = cnt (ps.drop i) (x, y)) ∧ Bs wr g cur 37 ∧ FacL wr X ps ∧ ZN wr (.agg #[.bool n_1a, .slice o_1a k_1a c_1a]) x 1 ∧ ZN wr (.agg #[.bool n_1b, .slice o_1b k_1b c_1b]) y 1 ∧
      St w [bx p_b1 #[.bool n_1a, .slice o_1a k_1a c_1a, .bool n_1b, .slice o_1b k_1b c_1b] 29] wr)
    case atStart => exact ⟨0, rfl, by omega, hide (by rw [List.drop_zero]), xl.bl hs.b, d, hq1, hq2, hs⟩
    case round =>
    clear d hq1 hq2 xl hs
    obtain ⟨i, rfl, hik, HI, xl, d, hq1, hq2, hs⟩ := hrel
    have ltl : g < wr.heap.size := xl.lt
    by_cases hi : i < n
    · have hip : i < ps.length := HN.out ▸ hi
      obtain ⟨t, ht⟩ : ∃ t, ps[i] = t := ⟨_, rfl⟩
      obtain ⟨n1, o1, k1, q1, n2, o2, k2, q2, e1, e2, e3, e4, e5, z1, z2⟩ := d.at hip
      rw [ht] at z1 z2 e5
      have HD := hide (cnt_drop (q := (x, y)) hip)
      rw [ht] at HD
      have HZ := hide (show (dig t.1.natAbs).length ≤ 1 ∧ (dig t.2.1.natAbs).length ≤ 1 from ht ▸ HP.out i hip)
      replace e1 := hide (HC.out _ _ e1)
      replace e2 := hide (HC.out _ _ e2)
      replace e3 := hide (HC.out _ _ e3)
      replace e4 := hide (HC.out _ _ e4)
      replace e5 := hide (HC.out _ _ e5)
      clear ht hip
      by_cases he : t.1 = x ∧ t.2.1 = y
      · have HE := hide (show decide (t.1 = x ∧ t.2.1 = y) = true from decide_eq_true he)
        have HR := hide (show cnt ps (x, y) = t.2.2 from by rw [HI.out, HD.out, if_pos he])
        clear he
        refine wp_seq_k ?_
        intro K4 hK4
        refine wp_seq_k ?_
        intro K5 hK5
        refine rg [0, 1, 2, 3] ?_
        refine sq ?_
        refine .mv ?_
        refine sq ?_
        refine .mv ?_
        refine sq ?_
        refine .r0 ?_
        refine sq ?_
        refine .r0 ?_
        apply wpSq_end
        refine hK5 _ _ ?_
        refine ct ?_
        refine wp_skip ?_
        refine hK4 _ _ ?_
        refine wp_seq_k ?_
        intro K6 hK6
        refine wp_block ?_
        refine wp_seq_k ?_
        intro K7 hK7
        refine wp_region_f4 [(0, false), (1, false), (2, false), (3, false), (4, false), (5, false), (6, true)] [] [] (fun _ => default) [99, 99, 99, 99, 0, 1, 99] [] (.c xl (.c hs.g0 .n)) fn fun w_3 n3 => ?_
        replace xl := xl.bl n3; replace hs := hs.bl n3
        refine fmv ?_
        refine fmv ?_
        refine f0 ?_
        refine f0 ?_
        apply wpFl_ld rfl rfl; (case h1 => intro w' hC K hK; have c0 := Bs.cell hC ((i * 5)) e1.out; have c1 := Bs.cell hC ((i * 5) + 1) e2.out; have c2 := Bs.cell hC ((i * 5) + 2) e3.out; have c3 := Bs.cell hC ((i * 5) + 3) e4.out; go_big_op; exact hK); iterate 4 kernel_rfl
        refine f4 ?_
        refine fl fun w_4 n4 => ?_
        replace xl := xl.bl n4; replace hs := hs.bl n4
        intro K hK
        have k0_2 := (kb n3).b n4
        replace z1 := z1.k k0_2
        replace z2 := z2.k k0_2
        replace hq1 := hq1.k k0_2
        replace hq2 := hq2.k k0_2
        go_big_op
        go_fit (gEqual_any (.mk' (z1.zn HZ.out.1) (z2.zn HZ.out.2)) (.mk' hq1 hq2) (by omega) (by omega) (by omega) (by omega))
        rintro e w_5 ⟨rfl, hb_5⟩
        replace xl := xl.bl hb_5; replace hs := hs.bl hb_5
        rw [HE.out]
        refine hK _ _ rfl ⟨hb_5, (And.intro xl (And.intro hs.g0 trivial))⟩ ?_
        clear hK K
        refine e0 hs ?_; clear hs; intro w_6 hs n6
        replace xl := xl.bl n6
        apply wpTail_end
        refine hK7 _ _ ?_
        refine ct ?_
        refine wp_seq_k ?_
        intro K8 hK8
        refine rg [0, 1, 2, 3, 4, 5] ?_
        refine sq ?_
        refine .mv ?_
        refine sq ?_
        refine .mv ?_
        refine sq ?_
        refine .r0 ?_
        refine sq ?_
        refine .r0 ?_
        refine sq ?_
        refine .r1 (xl.cell _ e5.out) ?_
        refine sq ?_
        refine .mv ?_
        apply wpSq_end
        refine hK8 _ _ ?_
        refine wp_ret ?_
        try dsimp only [Exit.then, Exit.inBlock]
        refine bodyPost_ret (v := (.int .i64 t.2.2)) (by simp [results, Try.results21, go_sem]) rfl ?_
        rw [HR.out]; exact ⟨rfl, hs.b⟩
      · have HE := hide (show decide (t.1 = x ∧ t.2.1 = y) = false from decide_eq_false he)
        have HJ := hide (show cnt ps (x, y) = cnt (ps.drop (i + 1)) (x, y) from by rw [HI.out, HD.out, if_neg he])
        clear he
        refine wp_seq_k ?_
        intro K4 hK4
        refine wp_seq_k ?_
        intro K5 hK5
        refine rg [0, 1, 2, 3] ?_
        refine sq ?_
        refine .mv ?_
        refine sq ?_
        refine .mv ?_
        refine sq ?_
        refine .r0 ?_
        refine sq ?_
        refine .r0 ?_
        apply wpSq_end
        refine hK5 _ _ ?_
        refine ct ?_
        refine wp_skip ?_
        refine hK4 _ _ ?_
        refine wp_seq_k ?_
        intro K6 hK6
        refine wp_block ?_
        refine wp_seq_k ?_
        intro K7 hK7
        refine wp_region_f4 [(0, false), (1, false), (2, false), (3, false), (4, false), (5, false), (6, true)] [] [] (fun _ => default) [99, 99, 99, 99, 0, 1, 99] [] (.c xl (.c hs.g0 .n)) fn fun w_3 n3 => ?_
        replace xl := xl.bl n3; replace hs := hs.bl n3
        refine fmv ?_
        refine fmv ?_
        refine f0 ?_
        refine f0 ?_
        apply wpFl_ld rfl rfl; (case h1 => intro w' hC K hK; have c0 := Bs.cell hC ((i * 5)) e1.out; have c1 := Bs.cell hC ((i * 5) + 1) e2.out; have c2 := Bs.cell hC ((i * 5) + 2) e3.out; have c3 := Bs.cell hC ((i * 5) + 3) e4.out; go_big_op; exact hK); iterate 4 kernel_rfl
        refine f4 ?_
        refine fl fun w_4 n4 => ?_
        replace xl := xl.bl n4; replace hs := hs.bl n4
        intro K hK
        have k0_2 := (kb n3).b n4
        replace z1 := z1.k k0_2
        replace z2 := z2.k k0_2
        replace hq1 := hq1.k k0_2
        replace hq2 := hq2.k k0_2
        go_big_op
        go_fit (gEqual_any (.mk' (z1.zn HZ.out.1) (z2.zn HZ.out.2)) (.mk' hq1 hq2) (by omega) (by omega) (by omega) (by omega))
        rintro e w_5 ⟨rfl, hb_5⟩
        replace xl := xl.bl hb_5; replace hs := hs.bl hb_5
        rw [HE.out]
        refine hK _ _ rfl ⟨hb_5, (And.intro xl (And.intro hs.g0 trivial))⟩ ?_
        clear hK K
        refine e0 hs ?_; clear hs; intro w_6 hs n6
        replace xl := xl.bl n6
        apply wpTail_end
        refine hK7 _ _ ?_
        refine cf ?_
        refine wp_skip ?_
        refine hK6 _ _ ?_
        refine rg [0, 1, 2] ?_
        refine sq ?_
        refine .mv ?_
        refine sq ?_
        refine .r0 ?_
        refine sq ?_
        refine .mv ?_
        apply wpSq_end
        have k0_4 := (k0_2.b hb_5).b n6
        replace d := d.k k0_4
        have k2_4 := (kb hb_5).b n6
        replace hq1 := hq1.k k2_4
        replace hq2 := hq2.k k2_4
        refine ‹∀ (a' : Act) (w' : World), Handed _ _ a' w' → _› _ _ ?_
        go_roundg (gk - 1)
        case rel => exact ⟨i + 1, by rfl, by omega, HJ, xl, d, hq1, hq2, hs⟩
        case measure => omega
    · have HR := hide (show cnt ps (x, y) = 0 from by rw [HI.out, List.drop_of_length_le (by rw [HN.out]; omega)]; rfl)
      refine wp_seq_k ?_
      intro K4 hK4
      refine wp_seq_k ?_
      intro K5 hK5
      refine rg [0, 1, 2, 3] ?_
      refine sq ?_
      refine .mv ?_
      refine sq ?_
      refine .mv ?_
      refine sq ?_
      refine .r0 ?_
      refine sq ?_
      refine .r0 ?_
      apply wpSq_end
      refine hK5 _ _ ?_
      refine cf ?_
      refine wp_exit ?_
      refine hK2 _ _ ?_
      refine wp_seq_k ?_
      intro K6 hK6
      refine rg [0] ?_
      refine sq ?_
      refine .mv ?_
      apply wpSq_end
      refine hK6 _ _ ?_
      refine wp_ret ?_
      try dsimp only [Exit.then, Exit.inBlock]
      refine bodyPost_ret (v := (.int .i64 0)) (by simp [results, Try.results21, go_sem]) rfl ?_
      rw [HR.out]; exact ⟨rfl, hs.b⟩
set_option maxHeartbeats 4000000 in
set_option maxRecDepth 20000 in
theorem all_any (S : SF w o ps) (hc : ps.length ≤ c) (hlen : ps.length < 9000000000) (hps : ∀ t ∈ ps, 1 ≤ t.2.2 ∧ t.2.2 ≤ 31) :
    Calls Try.prog 23 #[.slice o ps.length c] w fun e w' => e = .returned (.int .i64 (allN ps)) ∧ Below w.heap.size w w' := by
  obtain ⟨n, hn⟩ : ∃ n, ps.length = n := ⟨_, rfl⟩
  rcases S with rfl | ⟨g, cur, X, rfl, xl, d, hcur⟩
  · subst hn
    clear hps
    go_enter Try.func23, Try.ntmps23
    have hs := St.nil w
    refine wp_seq_k ?_
    intro K1 hK1
    refine rg [0] ?_
    refine sq ?_
    refine .mv ?_
    apply wpSq_end
    refine hK1 _ _ ?_
    refine wp_seq_k ?_
    intro K2 hK2
    refine rg [0] ?_
    refine sq ?_
    refine .mv ?_
    apply wpSq_end
    refine hK2 _ _ ?_
    refine wp_seq_k ?_
    intro K3 hK3
    refine wp_seq_k ?_
    intro K4 hK4
    refine rg [0] ?_
    refine sq ?_
    refine .mv ?_
    apply wpSq_end
    refine hK4 _ _ ?_
    refine wp_block ?_
    have hd1 := hs.2.1
    go_loopg [3, 4] 0 (fun k s3 s4 wr => s3 = .int .i64 0 ∧ s4 = .int .i64 0 ∧ Below w.heap.size w wr)
    case atStart => exact ⟨rfl, rfl, hs.b⟩
    case round =>
    clear hs
    obtain ⟨rfl, rfl, hb⟩ := hrel
    have hs : St w [] wr := ⟨trivial, List.Pairwise.nil, hb⟩
    refine wp_seq_k ?_
    intro K5 hK5
    refine wp_seq_k ?_
    intro K6 hK6
    refine rg [0, 1, 2, 3] ?_
    refine sq ?_
    refine .mv ?_
    refine sq ?_
    refine .mv ?_
    refine sq ?_
    refine .r0 ?_
    refine sq ?_
    refine .r0 ?_
    apply wpSq_end
    refine hK6 _ _ ?_
    refine cf ?_
    refine wp_exit ?_
    refine hK3 _ _ ?_
    refine wp_seq_k ?_
    intro K7 hK7
    refine rg [0, 1] ?_
    refine sq ?_
    refine .mv ?_
    refine sq ?_
    refine .mv ?_
    apply wpSq_end
    refine hK7 _ _ ?_
    refine wp_ret ?_
    try dsimp only [Exit.then, Exit.inBlock]
    refine bodyPost_ret (v := (.int .i64 0)) (by simp [results, Try.results23, go_sem]) rfl ?_
    exact ⟨rfl, hs.b⟩
  · rw [hn] at hc hlen ⊢
    have HP := hide (fun i (hi : i < ps.length) => hps _ (List.getElem_mem hi))
    have HN := hide hn
    have HC := hide hcur
    clear hps hcur hn
    go_enter Try.func23, Try.ntmps23
    have hs := St.nil w
    refine wp_seq_k ?_
    intro K1 hK1
    refine rg [0] ?_
    refine sq ?_
    refine .mv ?_
    apply wpSq_end
    refine hK1 _ _ ?_
    refine wp_seq_k ?_
    intro K2 hK2
    refine rg [0] ?_
    refine sq ?_
    refine .mv ?_
    apply wpSq_end
    refine hK2 _ _ ?_
    refine wp_seq_k ?_
    intro K3 hK3
    refine wp_seq_k ?_
    intro K4 hK4
    refine rg [0] ?_
    refine sq ?_
    refine .mv ?_
    apply wpSq_end
    refine hK4 _ _ ?_
    refine wp_block ?_
    have hd1 := hs.2.1
    go_loopg [3, 4] n (fun k s3 s4 wr => ∃ (i : Nat) (M : Int), s3 = .int .i64 M ∧ s4 = .int .i64 (i : Int) ∧ i + k = n ∧ 0 ≤ M ∧ M ≤ 31 * (i : Int) ∧ Hid (M + allN (ps.drop i) = allN ps) ∧ Bs wr g cur 37 ∧ FacL wr X ps ∧ St w [] wr)
    case atStart => exact ⟨0, 0, rfl, rfl, by omega, by omega, by omega, hide (by rw [List.drop_zero, Int.zero_add]), xl, d, hs⟩
    case round =>
    clear d xl hs
    obtain ⟨i, M, rfl, rfl, hik, hM0, hM1, HI, xl, d, hs⟩ := hrel
    have ltl : g < wr.heap.size := xl.lt
    by_cases hi : i < n
    · have hip : i < ps.length := HN.out ▸ hi
      obtain ⟨t, ht⟩ : ∃ t, ps[i] = t := ⟨_, rfl⟩
      obtain ⟨n1, o1, k1, q1, n2, o2, k2, q2, e1, e2, e3, e4, e5, z1, z2⟩ := d.at hip
      rw [ht] at z1 z2 e5
      have HD := hide (allN_drop hip)
      rw [ht] at HD
      obtain ⟨hA, hB⟩ : 1 ≤ t.2.2 ∧ t.2.2 ≤ 31 := ht ▸ HP.out i hip
      replace e1 := hide (HC.out _ _ e1)
      replace e2 := hide (HC.out _ _ e2)
      replace e3 := hide (HC.out _ _ e3)
      replace e4 := hide (HC.out _ _ e4)
      replace e5 := hide (HC.out _ _ e5)
      clear ht hip
      generalize t.2.2 = N at *
      have HJ := hide (show M + N + allN (ps.drop (i + 1)) = allN ps from by rw [← HI.out, HD.out, Int.add_assoc])
      refine wp_seq_k ?_
      intro K5 hK5
      refine wp_seq_k ?_
      intro K6 hK6
      refine rg [0, 1, 2, 3] ?_
      refine sq ?_
      refine .mv ?_
      refine sq ?_
      refine .mv ?_
      refine sq ?_
      refine .r0 ?_
      refine sq ?_
      refine .r0 ?_
      apply wpSq_end
      refine hK6 _ _ ?_
      refine ct ?_
      refine wp_skip ?_
      refine hK5 _ _ ?_
      refine wp_seq_k ?_
      intro K7 hK7
      refine wp_block ?_
      refine rg [0, 1, 2, 3, 4, 5, 6, 7] ?_
      refine sq ?_
      refine .mv ?_
      refine sq ?_
      refine .mv ?_
      refine sq ?_
      refine .mv ?_
      refine sq ?_
      refine .r0 ?_
      refine sq ?_
      refine .r0 ?_
      refine sq ?_
      refine .r1 (xl.cell _ e5.out) ?_
      refine sq ?_
      refine .r0 ?_
      refine sq ?_
      refine .mv ?_
      apply wpSq_end
      refine hK7 _ _ ?_
      refine rg [0, 1, 2] ?_
      refine sq ?_
      refine .mv ?_
      refine sq ?_
      refine .r0 ?_
      refine sq ?_
      refine .mv ?_
      apply wpSq_end
      refine ‹∀ (a' : Act) (w' : World), Handed _ _ a' w' → _› _ _ ?_
      go_roundg (gk - 1)
      case rel => exact ⟨i + 1, M + N, by rfl, by rfl, by omega, by omega, by omega, HJ, xl, d, hs⟩
      case measure => omega
    · have HR := hide (show allN ps = M from by rw [← HI.out, List.drop_of_length_le (by rw [HN.out]; omega)]; exact Int.add_zero M)
      refine wp_seq_k ?_
      intro K5 hK5
      refine wp_seq_k ?_
      intro K6 hK6
      refine rg [0, 1, 2, 3] ?_
      refine sq ?_
      refine .mv ?_
      refine sq ?_
      refine .mv ?_
      refine sq ?_
      refine .r0 ?_
      refine sq ?_
      refine .r0 ?_
      apply wpSq_end
      refine hK6 _ _ ?_
      refine cf ?_
      refine wp_exit ?_
      refine hK3 _ _ ?_
      refine wp_seq_k ?_
      intro K7 hK7
      refine rg [0, 1] ?_
      refine sq ?_
      refine .mv ?_
      refine sq ?_
      refine .mv ?_
      apply wpSq_end
      refine hK7 _ _ ?_
      refine wp_ret ?_
      try dsimp only [Exit.then, Exit.inBlock]
      refine bodyPost_ret (v := (.int .i64 M)) (by simp [results, Try.results23, go_sem]) rfl ?_
      rw [HR.out]; exact ⟨rfl, hs.b⟩
end
end Go.Proofs.Ythlhekkcjficdaa

