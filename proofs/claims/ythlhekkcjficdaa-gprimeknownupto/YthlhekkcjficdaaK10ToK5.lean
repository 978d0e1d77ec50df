/- gprime.Factor, up to its sort. -/
import Derived.Test.YthlhekkcjficdaaK1ToK12
import Derived.Test.YthlhekkcjficdaaK19ToSo5
import Derived.Test.YthlhekkcjficdaaZaToJ6
import Derived.Test.YthlhekkcjficdaaWkToG2
import Derived.Test.YthlhekkcjficdaaT1ToG7

namespace Go.Proofs.Ythlhekkcjficdaa
open Go Go.RowKit Dig
set_option linter.unusedVariables false
section
variable {w : World} {va : Value} {x y : Int}
set_option maxHeartbeats 4000000 in
set_option maxRecDepth 20000 in
theorem gfactor_any {N0 : Nat} {L0 : List Nat} {T : List (Int × Int × Int)} {U V : Int} {lg : Nat} (ha : PN w va x lg y lg) (hlg : 1 ≤ lg) (hlm : lg ≤ 10000000) (hn : gN x y = (N0 : Int)) (h0 : N0 ≠ 0) (hN : N0 < 4294967296) (hL : PF N0 L0) (hT : (L0.flatMap pOv).foldl fcS ([], (x, y)) = (T, (U, V))) :
    Calls Try.prog 9 #[va] w fun e w' => ∃ (o : Option Addr) (c : Nat) (qs : List Pw), e = .returned (.tuple #[.int .i64 ((-((kq U V : Nat) : Int)) % 4), .slice o T.length c, .int .i64 0]) ∧ (qs.map Pw.val).Perm T ∧ Ris qs ∧ Lst w' w.heap.size 37 5 (.slice o T.length c) T.length (qs.flatMap Pw.cells) ∧ Cns w' qs ∧ Below w.heap.size w w' := by
  have HL := hide hL
  have HT := hide hT
  have HN := hide (And.intro hn h0)
  have h00 : ((N0 : Int) == 0) = false := by rw [beq_eq_false_iff_ne]; omega
  have hLl : L0.length < 4294967297 := by have := hL.len; omega
  clear hL hT hn h0
  obtain ⟨n_0a, o_0a, k_0a, c_0a, n_0b, o_0b, k_0b, c_0b, rfl, ha1, ha2⟩ := ha
  go_enter Try.func9, Try.ntmps9
  have hs := St.nil w
  refine wp_seq_k ?_
  intro K1 hK1
  refine rg [0, 1, 2, 3] ?_
  refine sq ?_
  refine .al hs ?_; clear hs; intro p_b1 w_1 hs n1 kb_b1
  refine sq ?_
  refine .mv ?_
  refine sq ?_
  refine .mv ?_
  refine sq ?_
  refine .mv ?_
  apply wpSq_end
  refine hK1 _ _ ?_
  refine wp_seq_k ?_
  intro K2 hK2
  refine rg [0, 1, 2, 3, 4, 5, 6] ?_
  refine sq ?_
  refine .r4 hs.g0.f4 ?_
  refine sq ?_
  intro K hK
  have k0_1 := kb n1
  replace ha1 := ha1.k k0_1
  replace ha2 := ha2.k k0_1
  go_big_op
  go_fit (normOf_any N0 (.mk' ha1 ha2) (by omega) (by omega) HN.out.1 hN)
  rintro e w_2 ⟨rfl, hb_2⟩
  replace hs := hs.bl hb_2
  refine hK _ _ rfl trivial ?_
  clear hK K
  refine sq ?_
  refine .mv ?_
  refine sq ?_
  refine .r0 ?_
  refine sq ?_
  refine .r0 ?_
  refine sq ?_
  refine .mv ?_
  refine sq ?_
  refine .mv ?_
  apply wpSq_end
  refine hK2 _ _ ?_
  refine wp_seq_k ?_
  intro K3 hK3
  refine wp_seq_k ?_
  intro K4 hK4
  refine rg [0, 1] ?_
  refine sq ?_
  refine .mv ?_
  refine sq ?_
  refine .r0 ?_
  apply wpSq_end
  refine hK4 _ _ ?_
  refine cf ?_
  refine wp_skip ?_
  refine hK3 _ _ ?_
  refine wp_seq_k ?_
  intro K5 hK5
  refine wp_seq_k ?_
  intro K6 hK6
  refine rg [0, 1] ?_
  refine sq ?_
  refine .mv ?_
  refine sq ?_
  refine .r0 ?_
  apply wpSq_end
  refine hK6 _ _ ?_
  refine cf ?_
  refine wp_skip ?_
  refine hK5 _ _ ?_
  refine wp_seq_k ?_
  intro K7 hK7
  refine rg [0, 1, 2] ?_
  refine sq ?_
  refine .r4 hs.g0.f4 ?_
  refine sq ?_
  refine .al hs ?_; clear hs; intro p_b2 w_3 hs n3 kb_b2
  refine sq ?_
  refine .s4 hs.g0 (fun _ => hs.u0 kb_b2) ?_; clear hs; intro w_4 hs hd4 ho4
  apply wpSq_end
  refine hK7 _ _ ?_
  refine wp_seq_k ?_
  intro K8 hK8
  refine wp_seq_k ?_
  intro K9 hK9
  refine rg [0, 1, 2, 3] ?_
  refine sq ?_
  refine .mv ?_
  refine sq ?_
  intro K hK
  go_big_op
  go_fit (pnums_any HL.out hN)
  rintro e w_5 ⟨o_L, c_L, rfl, L_L, hb_5⟩
  replace hs := hs.la hb_5 L_L
  refine hK _ _ rfl trivial ?_
  clear hK K
  refine sq ?_
  refine .r0 ?_
  refine sq ?_
  refine .mv ?_
  apply wpSq_end
  refine hK9 _ _ ?_
  refine wp_block ?_
  have k1_5 := (((kb hb_2).b n3).o hd4 ho4).b hb_5
  replace ha1 := ha1.k k1_5
  replace ha2 := ha2.k k1_5
  have hd6 := hs.2.1
  go_loopg [3, 29] L0.length (fun k s3 s29 wr => ∃ (i N : Nat) (o : Option Addr) (c : Nat) (xs : List Value) (ps : List (Int × Int × Int)) (X Y : Int) (an1 an2 : Bool) (ao1 ao2 : Option Addr) (ak1 ac1 ak2 ac2 : Nat), s3 = .slice o N c ∧ s29 = .int .i64 (i : Int) ∧ i + k = L0.length ∧ N ≤ 2 * i ∧ Hid (FcI x y ((L0.take i).flatMap pOv) ps X Y N) ∧ FacL wr xs ps ∧ ZN wr (.agg #[.bool an1, .slice ao1 ak1 ac1]) X lg ∧ ZN wr (.agg #[.bool an2, .slice ao2 ak2 ac2]) Y lg ∧
    St w [ls w.heap.size 37 5 (.slice o N c) N xs, ls w.heap.size 54 1 (.slice o_L L0.length c_L) L0.length (L0.map enc64), bx p_b2 #[.bool an1, .slice ao1 ak1 ac1, .bool an2, .slice ao2 ak2 ac2] 29] wr)
  case atStart => exact ⟨0, 0, none, 0, [], [], x, y, _, _, _, _, _, _, _, _, rfl, rfl, by omega, by omega, hide ⟨rfl, by rw [HN.out.1]; have := HN.out.2; omega, by rw [HN.out.1]; omega, rfl, fun _ h => nomatch h⟩, FacL.nil _, ha1, ha2, (hs.sub (.cons_cons _ (.cons_cons _ (.cons _ (List.Sublist.refl _))))).l0 _ _⟩
  case round =>
  clear ha1 ha2 hs
  obtain ⟨i, N, o, c, xs, ps, X, Y, an1, an2, ao1, ao2, ak1, ac1, ak2, ac2, rfl, rfl, hik, hNi, HI, d, a1, a2, hs⟩ := hrel
  by_cases hi : i < L0.length
  · obtain ⟨p, hp⟩ : ∃ p, L0[i] = p := ⟨_, rfl⟩
    have HP := hide (HL.out.mem p (hp ▸ List.getElem_mem hi))
    have HE := hide (show (L0.map enc64)[i]? = some (.int .u64 (p : Int)) from by rw [List.getElem?_map, List.getElem?_eq_getElem hi, hp]; rfl)
    have HTk := hide (show L0.take (i + 1) = L0.take i ++ [p] from by rw [List.take_add_one, List.getElem?_eq_getElem hi, hp]; rfl)
    have HV := fun w => pover_any (w := w) HP.out.1 (by have := HP.out.2; omega)
    unfold TG at HV
    replace HV := hide HV
    have hpl : (pOv p).length ≤ 2 := pOv_len p HP.out.1
    obtain ⟨gl, curl, rfl, xl, hcur⟩ := (hs.1.2.1.1).box (by omega)
    have e1 := hide (hcur i _ HE.out)
    clear hcur hp
    refine wp_seq_k ?_
    intro K10 hK10
    refine rg [0] ?_
    refine sq ?_
    refine .r0 ?_
    apply wpSq_end
    refine hK10 _ _ ?_
    refine wp_seq_k ?_
    intro K11 hK11
    refine ct ?_
    refine wp_skip ?_
    refine hK11 _ _ ?_
    refine wp_seq_k ?_
    intro K12 hK12
    refine wp_block ?_
    refine wp_seq_k ?_
    intro K13 hK13
    refine rg [0, 1, 2] ?_
    refine sq ?_
    refine .r0 ?_
    refine sq ?_
    refine .r1 (xl.cell _ e1.out) ?_
    refine sq ?_
    refine .mv ?_
    apply wpSq_end
    refine hK13 _ _ ?_
    refine wp_seq_k ?_
    intro K14 hK14
    refine rg [0, 1, 2, 3] ?_
    refine sq ?_
    refine .mv ?_
    refine sq ?_
    intro K hK
    go_big_op
    go_fit (HV.out _)
    rintro e w_7 ⟨o_V, c_V, xs_V, rfl, L_V, d_V, hb_7⟩
    replace xl := xl.bl hb_7
    replace hs := hs.la hb_7 L_V
    refine hK _ _ rfl trivial ?_
    clear hK K
    refine sq ?_
    refine .r0 ?_
    refine sq ?_
    refine .mv ?_
    apply wpSq_end
    refine hK14 _ _ ?_
    refine wp_block ?_
    have HO := ‹∀ (a' : Act) (w' : World), Handed _ _ a' w' → _›
    obtain ⟨g1, hg1⟩ : ∃ g, gk = g := ⟨_, rfl⟩
    have k0_1 := kb hb_7
    replace d := d.k k0_1
    replace a1 := a1.k k0_1
    replace a2 := a2.k k0_1
    have hd8 := hs.2.1
    go_loopg [3, 36] (pOv p).length (fun k s3 s36 wr => ∃ (j N : Nat) (o : Option Addr) (c : Nat) (xs : List Value) (ps : List (Int × Int × Int)) (X Y : Int) (an1 an2 : Bool) (ao1 ao2 : Option Addr) (ak1 ac1 ak2 ac2 : Nat), s3 = .slice o N c ∧ s36 = .int .i64 (j : Int) ∧ j + k = (pOv p).length ∧ N ≤ 2 * i + j ∧ Hid (FcI x y ((L0.take i).flatMap pOv ++ (pOv p).take j) ps X Y N) ∧ FacL wr xs ps ∧ GD wr xs_V (pOv p) ∧ ZN wr (.agg #[.bool an1, .slice ao1 ak1 ac1]) X lg ∧ ZN wr (.agg #[.bool an2, .slice ao2 ak2 ac2]) Y lg ∧
      St w [ls w.heap.size 29 4 (.slice o_V (pOv p).length c_V) (pOv p).length xs_V, ls w.heap.size 37 5 (.slice o N c) N xs, ls w.heap.size 54 1 (.slice (some ⟨gl, 0, none⟩) L0.length c_L) L0.length (L0.map enc64), bx p_b2 #[.bool an1, .slice ao1 ak1 ac1, .bool an2, .slice ao2 ak2 ac2] 29] wr)
    case atStart => exact ⟨0, N, o, c, xs, ps, X, Y, _, _, _, _, _, _, _, _, rfl, rfl, by omega, by omega, hide (by rw [List.take_zero, List.append_nil]; exact HI.out), d, d_V, a1, a2, hs⟩
    case round =>
    clear a1 a2 d xl d_V hs
    obtain ⟨j, M, o2, c2, xs2, ps2, X2, Y2, bn1, bn2, bo1, bo2, bk1, bc1, bk2, bc2, rfl, rfl, hjk, hM, HJ, d2, dV, b1, b2, hs⟩ := hrel
    by_cases hj : j < (pOv p).length
    · obtain ⟨q, hq⟩ : ∃ q, (pOv p)[j] = q := ⟨_, rfl⟩
      have hqm : q ∈ pOv p := hq ▸ List.getElem_mem hj
      have HQ := hide (And.intro (pOv_norm HP.out.1 hqm) (pOv_small HP.out.1 (by have := HP.out.2; omega) hqm))
      have HTj := hide (show (pOv p).take (j + 1) = (pOv p).take j ++ [q] from by rw [List.take_add_one, List.getElem?_eq_getElem hj, hq]; rfl)
      obtain ⟨n1, o1, k1, q1, n2, o3, k2, q2, e5, e2, e3, e4, z1, z2⟩ := dV.at hj
      rw [hq] at z1 z2
      have Lz1 := hide (zlen_small6 HQ.out.2.1)
      have Lz2 := hide (zlen_small6 HQ.out.2.2)
      obtain ⟨gv, curv, rfl, xv, hcv⟩ := (hs.1.1.1).box (by omega)
      replace e5 := hide (hcv _ _ e5)
      replace e2 := hide (hcv _ _ e2)
      replace e3 := hide (hcv _ _ e3)
      replace e4 := hide (hcv _ _ e4)
      clear hcv hq hqm
      by_cases ht : 0 < (tkF q.1 q.2 X2 Y2).1
      · have HJ2 := hide (show FcI x y ((L0.take i).flatMap pOv ++ (pOv p).take (j + 1)) (ps2 ++ [(q.1, q.2, ((tkF q.1 q.2 X2 Y2).1 : Int))]) (tkF q.1 q.2 X2 Y2).2.1 (tkF q.1 q.2 X2 Y2).2.2 (M + 1) from by rw [HTj.out, ← List.append_assoc]; exact HJ.out.yes HQ.out.1 HQ.out.2 ht)
        have HZ := hide (And.intro HJ.out.2.1 HJ.out.2.2.1)
        clear HJ
        refine wp_seq_k ?_
        intro K15 hK15
        refine rg [0] ?_
        refine sq ?_
        refine .r0 ?_
        apply wpSq_end
        refine hK15 _ _ ?_
        refine wp_seq_k ?_
        intro K16 hK16
        refine ct ?_
        refine wp_skip ?_
        refine hK16 _ _ ?_
        refine wp_seq_k ?_
        intro K17 hK17
        refine wp_block ?_
        refine wp_seq_k ?_
        intro K18 hK18
        refine rg [0, 1, 2, 3] ?_
        refine sq ?_
        refine .r0 ?_
        refine sq ?_
        refine .r4 ⟨xv.cell _ e5.out, xv.cell _ e2.out, xv.cell _ e3.out, xv.cell _ e4.out⟩ ?_
        refine sq ?_
        refine .al hs ?_; clear hs; intro p_b3 w_9 hs n9 kb_b3
        replace xv := xv.bl n9
        refine sq ?_
        refine .s4 hs.g0 (fun _ => hs.u0 kb_b3) ?_; clear hs; intro w_10 hs hd10 ho10
        replace xv := xv.frame ho10 (hs.ne 1 0)
        apply wpSq_end
        refine hK18 _ _ ?_
        refine wp_seq_k ?_
        intro K19 hK19
        refine rg [0, 1, 2, 3, 4, 5, 6, 7, 8] ?_
        refine sq ?_
        refine .r4 hs.g0.f4 ?_
        refine sq ?_
        refine .r4 hs.g4.f4 ?_
        refine sq ?_
        intro K hK
        have k0_2 := (kb n9).o hd10 ho10
        replace z1 := z1.k k0_2
        replace z2 := z2.k k0_2
        replace b1 := b1.k k0_2
        replace b2 := b2.k k0_2
        go_big_op
        go_fit (takeout_any (.mk' (z1.zn Lz1.out) (z2.zn Lz2.out)) (.mk' b1 b2) hlg hlm HQ.out.1 HZ.out.1 HZ.out.2)
        rintro e w_11 ⟨_, rfl, ⟨n_ta, o_ta, k_ta, c_ta, n_tb, o_tb, k_tb, c_tb, rfl, t1, t2⟩, hb_11⟩
        replace xv := xv.bl hb_11; replace hs := hs.bl hb_11
        refine hK _ _ rfl trivial ?_
        clear hK K
        refine sq ?_
        refine .mv ?_
        refine sq ?_
        refine .r0 ?_
        refine sq ?_
        refine .r0 ?_
        refine sq ?_
        refine .al hs ?_; clear hs; intro p_b4 w_12 hs n12 kb_b4
        replace xv := xv.bl n12
        refine sq ?_
        refine .mv ?_
        refine sq ?_
        refine .s4 hs.g0 (fun _ => hs.u0 kb_b4) ?_; clear hs; intro w_13 hs hd13 ho13
        replace xv := xv.frame ho13 (hs.ne 2 0)
        apply wpSq_end
        refine hK19 _ _ ?_
        refine wp_seq_k ?_
        intro K20 hK20
        refine wp_seq_k ?_
        intro K21 hK21
        refine rg [0, 1] ?_
        refine sq ?_
        refine .mv ?_
        refine sq ?_
        refine .r0 ?_
        apply wpSq_end
        refine hK21 _ _ ?_
        refine ct ?_
        refine rg [0, 1, 2, 3, 4, 5, 6] ?_
        refine sq ?_
        refine .mv ?_
        refine sq ?_
        refine .r4 hs.g1.f4 ?_
        refine sq ?_
        refine .mv ?_
        refine sq ?_
        refine .r0 ?_
        refine sq ?_
        refine .al hs ?_; clear hs; intro p_b5 w_14 hs n14 kb_b5
        replace xv := xv.bl n14
        refine sq ?_
        have k2_6 := (((kb hb_11).b n12).o hd13 ho13).b n14
        replace z1 := z1.k k2_6
        replace z2 := z2.k k2_6
        have k0_6 := (((k0_2.b hb_11).b n12).o hd13 ho13).b n14
        replace d2 := d2.k k0_6
        replace d2 := d2.snoc (.mk' z1 z2) (n := (((tkF q.1 q.2 X2 Y2).1 : Nat) : Int))
        refine .ap 4 hs hs.g0 ?_; clear hs; intro o_F_15 c_F_15 w_15 hs kp15 hw15; simp only [List.set_cons_succ, List.set_cons_zero] at hs
        clear xv
        refine sq ?_
        refine .mv ?_
        apply wpSq_end
        refine hK20 _ _ ?_
        refine rg [0, 1] ?_
        refine sq ?_
        refine .r4 hs.g1.f4 ?_
        refine sq ?_
        refine .s4 hs.g6 (fun _ => hs.u6 kb_b2) ?_; clear hs; intro w_16 hs hd16 ho16
        apply wpSq_end
        refine hK17 _ _ ?_
        refine rg [0, 1] ?_
        refine sq ?_
        refine .r0 ?_
        refine sq ?_
        refine .mv ?_
        apply wpSq_end
        have k6_8 := kp15.o hd16 ho16
        replace d2 := d2.k k6_8
        have k0_8 := (k0_6.t kp15).o hd16 ho16
        replace dV := dV.k k0_8
        have k3_8 := ((((kb n12).o hd13 ho13).b n14).t kp15).o hd16 ho16
        replace t1 := t1.k k3_8
        replace t2 := t2.k k3_8
        refine ‹∀ (a' : Act) (w' : World), Handed _ _ a' w' → _› _ _ ?_
        go_roundg (gk - 1)
        case rel => exact ⟨j + 1, M + 1, _, _, _, _, _, _, _, _, _, _, _, _, _, _, by rfl, by rfl, by omega, by omega, HJ2, d2, dV, t1, t2, hs.sub (.cons _ (.cons _ (.cons _ (List.Sublist.refl _))))⟩
        case measure => omega
      · have HJ2 := hide (show FcI x y ((L0.take i).flatMap pOv ++ (pOv p).take (j + 1)) ps2 (tkF q.1 q.2 X2 Y2).2.1 (tkF q.1 q.2 X2 Y2).2.2 M from by rw [HTj.out, ← List.append_assoc]; exact HJ.out.no HQ.out.1 ht)
        have HZ := hide (And.intro HJ.out.2.1 HJ.out.2.2.1)
        clear HJ
        refine wp_seq_k ?_
        intro K15 hK15
        refine rg [0] ?_
        refine sq ?_
        refine .r0 ?_
        apply wpSq_end
        refine hK15 _ _ ?_
        refine wp_seq_k ?_
        intro K16 hK16
        refine ct ?_
        refine wp_skip ?_
        refine hK16 _ _ ?_
        refine wp_seq_k ?_
        intro K17 hK17
        refine wp_block ?_
        refine wp_seq_k ?_
        intro K18 hK18
        refine rg [0, 1, 2, 3] ?_
        refine sq ?_
        refine .r0 ?_
        refine sq ?_
        refine .r4 ⟨xv.cell _ e5.out, xv.cell _ e2.out, xv.cell _ e3.out, xv.cell _ e4.out⟩ ?_
        refine sq ?_
        refine .al hs ?_; clear hs; intro p_b3 w_9 hs n9 kb_b3
        replace xv := xv.bl n9
        refine sq ?_
        refine .s4 hs.g0 (fun _ => hs.u0 kb_b3) ?_; clear hs; intro w_10 hs hd10 ho10
        replace xv := xv.frame ho10 (hs.ne 1 0)
        apply wpSq_end
        refine hK18 _ _ ?_
        refine wp_seq_k ?_
        intro K19 hK19
        refine rg [0, 1, 2, 3, 4, 5, 6, 7, 8] ?_
        refine sq ?_
        refine .r4 hs.g0.f4 ?_
        refine sq ?_
        refine .r4 hs.g4.f4 ?_
        refine sq ?_
        intro K hK
        have k0_2 := (kb n9).o hd10 ho10
        replace z1 := z1.k k0_2
        replace z2 := z2.k k0_2
        replace b1 := b1.k k0_2
        replace b2 := b2.k k0_2
        go_big_op
        go_fit (takeout_any (.mk' (z1.zn Lz1.out) (z2.zn Lz2.out)) (.mk' b1 b2) hlg hlm HQ.out.1 HZ.out.1 HZ.out.2)
        rintro e w_11 ⟨_, rfl, ⟨n_ta, o_ta, k_ta, c_ta, n_tb, o_tb, k_tb, c_tb, rfl, t1, t2⟩, hb_11⟩
        replace xv := xv.bl hb_11; replace hs := hs.bl hb_11
        refine hK _ _ rfl trivial ?_
        clear hK K
        refine sq ?_
        refine .mv ?_
        refine sq ?_
        refine .r0 ?_
        refine sq ?_
        refine .r0 ?_
        refine sq ?_
        refine .al hs ?_; clear hs; intro p_b4 w_12 hs n12 kb_b4
        replace xv := xv.bl n12
        refine sq ?_
        refine .mv ?_
        refine sq ?_
        refine .s4 hs.g0 (fun _ => hs.u0 kb_b4) ?_; clear hs; intro w_13 hs hd13 ho13
        replace xv := xv.frame ho13 (hs.ne 2 0)
        apply wpSq_end
        refine hK19 _ _ ?_
        refine wp_seq_k ?_
        intro K20 hK20
        refine wp_seq_k ?_
        intro K21 hK21
        refine rg [0, 1] ?_
        refine sq ?_
        refine .mv ?_
        refine sq ?_
        refine .r0 ?_
        apply wpSq_end
        refine hK21 _ _ ?_
        refine cf ?_
        refine wp_skip ?_
        refine hK20 _ _ ?_
        refine rg [0, 1] ?_
        refine sq ?_
        refine .r4 hs.g0.f4 ?_
        refine sq ?_
        refine .s4 hs.g5 (fun _ => hs.u5 kb_b2) ?_; clear hs; intro w_14 hs hd14 ho14
        replace xv := xv.frame ho14 (hs.ne 2 5)
        apply wpSq_end
        refine hK17 _ _ ?_
        refine rg [0, 1] ?_
        refine sq ?_
        refine .r0 ?_
        refine sq ?_
        refine .mv ?_
        apply wpSq_end
        have k0_6 := (((k0_2.b hb_11).b n12).o hd13 ho13).o hd14 ho14
        replace d2 := d2.k k0_6
        replace dV := dV.k k0_6
        have k3_6 := ((kb n12).o hd13 ho13).o hd14 ho14
        replace t1 := t1.k k3_6
        replace t2 := t2.k k3_6
        refine ‹∀ (a' : Act) (w' : World), Handed _ _ a' w' → _› _ _ ?_
        go_roundg (gk - 1)
        case rel => exact ⟨j + 1, M, _, _, _, _, _, _, _, _, _, _, _, _, _, _, by rfl, by rfl, by omega, by omega, HJ2, d2, dV, t1, t2, hs.sub (.cons _ (.cons _ (List.Sublist.refl _)))⟩
        case measure => omega
    · have HI' := hide (show FcI x y ((L0.take (i + 1)).flatMap pOv) ps2 X2 Y2 M from by
        have := HJ.out
        rw [show (pOv p).take j = pOv p from List.take_of_length_le (by omega)] at this
        rw [HTk.out, List.flatMap_append, List.flatMap_cons, List.flatMap_nil, List.append_nil]
        exact this)
      clear HJ
      refine wp_seq_k ?_
      intro K15 hK15
      refine rg [0] ?_
      refine sq ?_
      refine .r0 ?_
      apply wpSq_end
      refine hK15 _ _ ?_
      refine wp_seq_k ?_
      intro K16 hK16
      refine cf ?_
      refine wp_exit ?_
      refine hK12 _ _ ?_
      refine rg [0, 1] ?_
      refine sq ?_
      refine .r0 ?_
      refine sq ?_
      refine .mv ?_
      apply wpSq_end
      refine HO _ _ ?_
      go_roundg (g1 - 1)
      case rel => exact ⟨i + 1, M, _, _, _, _, _, _, _, _, _, _, _, _, _, _, by rfl, by rfl, by omega, by omega, HI', d2, b1, b2, hs.sub (.cons _ (List.Sublist.refl _))⟩
      case measure => omega
  · have HF := hide (show T = ps ∧ U = X ∧ V = Y ∧ N = ps.length ∧ ∀ t ∈ ps, t.1.natAbs < 4294967296 ∧ t.2.1.natAbs < 4294967296 from by
      obtain ⟨h1, h2, h3, h4, h5⟩ := HI.out
      rw [show L0.take i = L0 from List.take_of_length_le (by omega), HT.out] at h1
      injection h1 with h1 h6
      injection h6 with h6 h7
      exact ⟨h1, h6, h7, h4, h5⟩)
    obtain ⟨qs0, rfl, hq0, hc0⟩ := d
    have hq1 : qs0.length = N := by rw [HF.out.2.2.2.1, ← hq0, List.length_map]
    change Cns wr qs0 at hc0
    have HQ0 := hide (show qs0.map Pw.val = ps from hq0)
    have hN9 : N < 4611686018427387904 := by omega
    have hkq : bits .and .i64 (wrap64 (-((kq X Y : Nat) : Int))) 3 = (-((kq X Y : Nat) : Int)) % 4 := by
      rw [i64_and_three, show wrap64 (-((kq X Y : Nat) : Int)) = -((kq X Y : Nat) : Int) from by have := kq_lt X Y; unfold wrap64; omega]
    clear HI hq0
    refine wp_seq_k ?_
    intro K10 hK10
    refine rg [0] ?_
    refine sq ?_
    refine .r0 ?_
    apply wpSq_end
    refine hK10 _ _ ?_
    refine wp_seq_k ?_
    intro K11 hK11
    refine cf ?_
    refine wp_exit ?_
    refine hK8 _ _ ?_
    refine wp_seq_k ?_
    intro K12 hK12
    refine rg [0, 1] ?_
    refine sq ?_
    refine .mv ?_
    refine sq ?_
    intro K hK
    go_big_op
    go_fit (fac_sort (hs.1.1.1) (hc0.ok HQ0.out HF.out.2.2.2.2) hq1 hN9)
    rintro e w_7 ⟨rfl, qs_s, hp_s, hr_s, L_s, hg_s, hq_s⟩
    obtain ⟨hs', kp7, hw7⟩ := hs.so 0 L_s hg_s; clear hs; have hs := hs'; clear hs' L_s hg_s; simp only [List.set_cons_zero] at hs
    refine hK _ _ rfl trivial ?_
    clear hK K
    apply wpSq_end
    refine hK12 _ _ ?_
    refine wp_seq_k ?_
    intro K13 hK13
    refine rg [0, 1, 2, 3, 4, 5, 6, 7] ?_
    refine sq ?_
    refine .r4 hs.g2.f4 ?_
    refine sq ?_
    intro K hK
    have k0_1 := kp7
    replace a1 := a1.k k0_1
    replace a2 := a2.k k0_1
    go_big_op
    go_fit (gCanon_any (.mk' a1 a2) (by omega) (by omega))
    rintro e w_8 ⟨_, rfl, ⟨n_ga, o_ga, k_ga, c_ga, n_gb, o_gb, k_gb, c_gb, rfl, g1, g2⟩, hb_8⟩
    replace hs := hs.bl hb_8
    refine hK _ _ rfl trivial ?_
    clear hK K
    refine sq ?_
    refine .mv ?_
    refine sq ?_
    refine .r0 ?_
    refine sq ?_
    refine .r0 ?_
    refine sq ?_
    refine .al hs ?_; clear hs; intro p_b3 w_9 hs n9 kb_b3
    refine sq ?_
    refine .s4 hs.g0 (fun _ => hs.u0 kb_b3) ?_; clear hs; intro w_10 hs hd10 ho10
    refine sq ?_
    refine .mv ?_
    apply wpSq_end
    refine hK13 _ _ ?_
    refine wp_seq_k ?_
    intro K14 hK14
    refine rg [0, 1, 2, 3, 4, 5, 6] ?_
    refine sq ?_
    refine .mv ?_
    refine sq ?_
    refine .r0 ?_
    refine sq ?_
    refine .r0 ?_
    refine sq ?_
    refine .mv ?_
    refine sq ?_
    refine .mv ?_
    refine sq ?_
    refine .mv ?_
    refine sq ?_
    refine .mv ?_
    apply wpSq_end
    refine hK14 _ _ ?_
    refine wp_ret ?_
    try dsimp only [Exit.then, Exit.inBlock]
    refine bodyPost_ret (v := (.tuple #[.int .i64 ((-((kq X Y : Nat) : Int)) % 4), .slice o N c, .int .i64 0])) (by simp [results, Try.results9, go_sem]) rfl ?_
    have k0_4 := ((k0_1.b hb_8).b n9).o hd10 ho10
    replace hc0 := hc0.k k0_4
    have hc1 : Cns _ qs_s := fun q hq => hc0 q (hp_s.mem_iff.1 hq); obtain ⟨rfl, rfl, rfl, rfl, _⟩ := HF.out; exact ⟨_, _, qs_s, rfl, (HQ0.out ▸ hp_s.map Pw.val), hr_s, hs.1.2.1.1, hc1, hs.b⟩
end
end Go.Proofs.Ythlhekkcjficdaa


/- What Factor answers, as the laws meet it: the list is told ahead of the call. -/
namespace Go.Proofs.Ythlhekkcjficdaa
open Go Go.RowKit Dig
set_option linter.unusedVariables false
/-- One factor ahead of another. -/
def FLt (s t : Int × Int × Int) : Prop := gcmp s.1 s.2.1 t.1 t.2.1 < 0
theorem flt_anti {s t : Int × Int × Int} (h1 : FLt s t) (h2 : FLt t s) : False := by
  unfold FLt at h1 h2
  rw [gcmp_lt] at h1 h2
  generalize gN s.1 s.2.1 = a at *
  generalize gN t.1 t.2.1 = b at *
  omega
section
variable {x y : Int} {N0 : Nat} {L0 : List Nat} {T : List (Int × Int × Int)} {U V : Int}
end
theorem pw_at : ∀ {qs : List Pw} {i : Nat} (hi : i < qs.length), (qs.flatMap Pw.cells)[i * 5]? = some (.bool qs[i].n1) ∧ (qs.flatMap Pw.cells)[i * 5 + 1]? = some (.slice qs[i].o1 qs[i].k1 qs[i].c1) ∧ (qs.flatMap Pw.cells)[i * 5 + 2]? = some (.bool qs[i].n2) ∧ (qs.flatMap Pw.cells)[i * 5 + 3]? = some (.slice qs[i].o2 qs[i].k2 qs[i].c2) ∧ (qs.flatMap Pw.cells)[i * 5 + 4]? = some (.int .i64 qs[i].n)
  | [], i, hi => absurd hi (Nat.not_lt_zero i)
  | q :: qs, 0, hi => ⟨rfl, rfl, rfl, rfl, rfl⟩
  | q :: qs, i + 1, hi => by
    have h := pw_at (qs := qs) (i := i) (Nat.lt_of_succ_lt_succ hi)
    have e : ∀ j, ((q :: qs).flatMap Pw.cells)[(i + 1) * 5 + j]? = (qs.flatMap Pw.cells)[i * 5 + j]? := fun j => by
      rw [List.flatMap_cons, List.getElem?_append_right (by show 5 ≤ _; omega)]
      congr 1
      show (i + 1) * 5 + j - 5 = _
      omega
    rw [List.getElem_cons_succ]
    exact ⟨(e 0).trans h.1, (e 1).trans h.2.1, (e 2).trans h.2.2.1, (e 3).trans h.2.2.2.1, (e 4).trans h.2.2.2.2⟩
theorem FacL.at {w : World} {xs : List Value} {ps : List (Int × Int × Int)} (h : FacL w xs ps) {i : Nat} (hi : i < ps.length) : ∃ n1 o1 k1 c1 n2 o2 k2 c2, xs[i * 5]? = some (.bool n1) ∧ xs[i * 5 + 1]? = some (.slice o1 k1 c1) ∧ xs[i * 5 + 2]? = some (.bool n2) ∧ xs[i * 5 + 3]? = some (.slice o2 k2 c2) ∧ xs[i * 5 + 4]? = some (.int .i64 ps[i].2.2) ∧ ZC w (.agg #[.bool n1, .slice o1 k1 c1]) ps[i].1 ∧ ZC w (.agg #[.bool n2, .slice o2 k2 c2]) ps[i].2.1 := by
  obtain ⟨qs, rfl, rfl, hc⟩ := h
  rw [List.length_map] at hi
  obtain ⟨e1, e2, e3, e4, e5⟩ := pw_at hi
  obtain ⟨n1, o1, k1, c1, n2, o2, k2, c2, he, z1, z2⟩ := hc _ (List.getElem_mem hi)
  simp only [Value.agg.injEq, Array.mk.injEq, List.cons.injEq, and_true] at he
  obtain ⟨h1, h2, h3, h4⟩ := he
  rw [List.getElem_map]
  exact ⟨n1, o1, k1, c1, n2, o2, k2, c2, h1 ▸ e1, h2 ▸ e2, h3 ▸ e3, h4 ▸ e4, e5, z1, z2⟩
section
variable {x y k : Int} {ps : List (Int × Int × Int)} {i n : Nat}
end
end Go.Proofs.Ythlhekkcjficdaa


/- gprime.Factor's ways out. -/
namespace Go.Proofs.Ythlhekkcjficdaa
open Go Go.RowKit Dig
set_option linter.unusedVariables false
section
variable {w : World} {va : Value} {x y : Int} {l m : Nat}
set_option maxHeartbeats 4000000 in
set_option maxRecDepth 20000 in
theorem gfactor_zero (ha : PN w va x l y m) (hl : l ≤ 20000000) (hm : m ≤ 20000000) (hn : gN x y = 0) :
    Calls Try.prog 9 #[va] w fun e w' => e = .returned (.tuple #[.int .i64 0, .slice none 0 0, .int .i64 5]) ∧ Below w.heap.size w w' := by
  have HN := hide (show gN x y = ((0 : Nat) : Int) from hn)
  clear hn
  obtain ⟨n_0a, o_0a, k_0a, c_0a, n_0b, o_0b, k_0b, c_0b, rfl, ha1, ha2⟩ := ha
  go_enter Try.func9, Try.ntmps9
  have hs := St.nil w
  refine wp_seq_k ?_
  intro K1 hK1
  refine rg [0, 1, 2, 3] ?_
  refine sq ?_
  refine .al hs ?_; clear hs; intro p_b1 w_1 hs n1 kb_b1
  refine sq ?_
  refine .mv ?_
  refine sq ?_
  refine .mv ?_
  refine sq ?_
  refine .mv ?_
  apply wpSq_end
  refine hK1 _ _ ?_
  refine wp_seq_k ?_
  intro K2 hK2
  refine rg [0, 1, 2, 3, 4, 5, 6] ?_
  refine sq ?_
  refine .r4 hs.g0.f4 ?_
  refine sq ?_
  intro K hK
  have k0_1 := kb n1
  replace ha1 := ha1.k k0_1
  replace ha2 := ha2.k k0_1
  go_big_op
  go_fit (normOf_any 0 (.mk' ha1 ha2) (by omega) (by omega) HN.out (by decide))
  rintro e w_2 ⟨rfl, hb_2⟩
  replace hs := hs.bl hb_2
  refine hK _ _ rfl trivial ?_
  clear hK K
  refine sq ?_
  refine .mv ?_
  refine sq ?_
  refine .r0 ?_
  refine sq ?_
  refine .r0 ?_
  refine sq ?_
  refine .mv ?_
  refine sq ?_
  refine .mv ?_
  apply wpSq_end
  refine hK2 _ _ ?_
  refine wp_seq_k ?_
  intro K3 hK3
  refine wp_seq_k ?_
  intro K4 hK4
  refine rg [0, 1] ?_
  refine sq ?_
  refine .mv ?_
  refine sq ?_
  refine .r0 ?_
  apply wpSq_end
  refine hK4 _ _ ?_
  refine cf ?_
  refine wp_skip ?_
  refine hK3 _ _ ?_
  refine wp_seq_k ?_
  intro K5 hK5
  refine wp_seq_k ?_
  intro K6 hK6
  refine rg [0, 1] ?_
  refine sq ?_
  refine .mv ?_
  refine sq ?_
  refine .r0 ?_
  apply wpSq_end
  refine hK6 _ _ ?_
  refine ct ?_
  refine wp_seq_k ?_
  intro K7 hK7
  refine rg [0, 1, 2] ?_
  refine sq ?_
  refine .mv ?_
  refine sq ?_
  refine .mv ?_
  refine sq ?_
  refine .mv ?_
  apply wpSq_end
  refine hK7 _ _ ?_
  refine wp_ret ?_
  try dsimp only [Exit.then, Exit.inBlock]
  refine bodyPost_ret (v := (.tuple #[.int .i64 0, .slice none 0 0, .int .i64 5])) (by simp [results, Try.results9, go_sem]) rfl ?_
  exact ⟨rfl, hs.b⟩
end
end Go.Proofs.Ythlhekkcjficdaa


/- Lists of Gaussian integers that are read; the reference's order of them: what Sorted tells. -/
namespace Go.Proofs.Ythlhekkcjficdaa
open Go Go.RowKit Dig
set_option linter.unusedVariables false

/-- These numbers, canonical, one behind the other, can be read from here. -/
def SG (w : World) (o : Option Addr) (ps : List (Int × Int)) : Prop :=
  ps = [] ∨ ∃ g off cur, o = some ⟨g, off, none⟩ ∧ Bs w g cur 29 ∧ GD w ((cur.toList.drop off).take (ps.length * 4)) ps
theorem SG.of {w : World} {B n c : Nat} {o : Option Addr} {xs : List Value} {ps : List (Int × Int)} (L : Lst w B 29 4 (.slice o n c) n xs) (d : GD w xs ps) : n = ps.length ∧ n ≤ c ∧ SG w o ps := by
  have h1 := d.len
  have h2 := L.1.1
  have hn : n = ps.length := by omega
  rcases L.1.2 with ⟨e, h0⟩ | ⟨g, cap, cur, e, hb, hg, hnc, hcm, hcs, htake⟩
  · refine ⟨hn, by omega, .inl (List.eq_nil_of_length_eq_zero (by omega))⟩
  · simp only [Value.slice.injEq] at e
    obtain ⟨rfl, _, rfl⟩ := e
    refine ⟨hn, hnc, .inr ⟨g, 0, cur, rfl, hg, ?_⟩⟩
    rw [List.drop_zero, ← hn, htake]; exact d
/-- What a list that is read holds, by its block's cells. -/
theorem SG.open {w : World} {o : Option Addr} {ps : List (Int × Int)} (h : SG w o ps) (hn : 0 < ps.length) : ∃ g off cur X, o = some ⟨g, off, none⟩ ∧ Bs w g cur 29 ∧ GD w X ps ∧ ∀ (j k : Nat) (u : Value), X[j + k]? = some u → cur[off + j + k]? = some u := by
  rcases h with rfl | ⟨g, off, cur, rfl, x, d⟩
  · simp at hn
  · refine ⟨g, off, cur, _, rfl, x, d, fun j k u hj => ?_⟩
    have hlt : j + k < ps.length * 4 := by
      rcases Nat.lt_or_ge (j + k) (ps.length * 4) with h1 | h1
      · exact h1
      · rw [List.getElem?_eq_none (by rw [List.length_take]; omega)] at hj; cases hj
    rw [List.getElem?_take, if_pos hlt, List.getElem?_drop, Array.getElem?_toList] at hj
    rw [Nat.add_assoc]; exact hj
end Go.Proofs.Ythlhekkcjficdaa


/- The reference's Sorted. -/
namespace Go.Proofs.Ythlhekkcjficdaa
open Go Go.RowKit Dig
set_option linter.unusedVariables false

section
end
end Go.Proofs.Ythlhekkcjficdaa


/- The reference's Over; the law's list of any two lists that are read. -/
namespace Go.Proofs.Ythlhekkcjficdaa
open Go Go.RowKit Dig
set_option linter.unusedVariables false

section
variable {w : World} {va vb : Value} {x y z : Int} {l m : Nat}
set_option maxHeartbeats 4000000 in
set_option maxRecDepth 20000 in
theorem list6_sg {n c1 c2 : Nat} {o1 o2 : Option Addr} {ps : List (Int × Int)} (S1 : SG w o1 ps) (S2 : SG w o2 ps) (hn : ps.length = n) (hn2 : n ≤ 1000000000)
    (hl : ∀ p ∈ ps, (dig p.1.natAbs).length ≤ 100000000 ∧ (dig p.2.natAbs).length ≤ 100000000) :
    Calls Try.prog 13 #[.slice o1 n c1, .slice o2 n c2] w fun e w' => e = .returned (.bool true) ∧ Below w.heap.size w w' := by
  rcases Nat.eq_zero_or_pos n with h0 | h0
  · subst h0
    go_enter Try.func13, Try.ntmps13
    have hs := St.nil w
    refine wp_seq_k ?_
    intro K1 hK1
    refine rg [0] ?_
    refine sq ?_
    refine .mv ?_
    apply wpSq_end
    refine hK1 _ _ ?_
    refine wp_seq_k ?_
    intro K2 hK2
    refine wp_seq_k ?_
    intro K3 hK3
    refine rg [0, 1, 2, 3, 4] ?_
    refine sq ?_
    refine .mv ?_
    refine sq ?_
    refine .r0 ?_
    refine sq ?_
    refine .mv ?_
    refine sq ?_
    refine .r0 ?_
    refine sq ?_
    refine .r0 ?_
    apply wpSq_end
    refine hK3 _ _ ?_
    refine cf ?_
    refine wp_skip ?_
    refine hK2 _ _ ?_
    refine wp_seq_k ?_
    intro K4 hK4
    refine wp_seq_k ?_
    intro K5 hK5
    refine rg [0] ?_
    refine sq ?_
    refine .mv ?_
    apply wpSq_end
    refine hK5 _ _ ?_
    refine wp_block ?_
    have hd1 := hs.2.1
    go_loopg [5] 0 (fun k s5 wr => s5 = .int .i64 0 ∧ St w [] wr)
    case atStart => exact ⟨rfl, hs⟩
    case round =>
    clear hs
    obtain ⟨rfl, hs⟩ := hrel
    refine wp_seq_k ?_
    intro K6 hK6
    refine wp_seq_k ?_
    intro K7 hK7
    refine rg [0, 1, 2, 3] ?_
    refine sq ?_
    refine .mv ?_
    refine sq ?_
    refine .mv ?_
    refine sq ?_
    refine .r0 ?_
    refine sq ?_
    refine .r0 ?_
    apply wpSq_end
    refine hK7 _ _ ?_
    refine cf ?_
    refine wp_exit ?_
    refine hK4 _ _ ?_
    refine wp_seq_k ?_
    intro K8 hK8
    refine rg [0] ?_
    refine sq ?_
    refine .mv ?_
    apply wpSq_end
    refine hK8 _ _ ?_
    refine wp_ret ?_
    try dsimp only [Exit.then, Exit.inBlock]
    refine bodyPost_ret (v := (.bool true)) (by simp [results, Try.results13, go_sem]) rfl ?_
    exact ⟨rfl, hs.b⟩
  · obtain ⟨g1, off1, cur1, XA, rfl, x1, d1, h1⟩ := S1.open (by omega)
    obtain ⟨g2, off2, cur2, XB, rfl, x2, d2, h2⟩ := S2.open (by omega)
    clear S1 S2
    have HL := hide hl
    have HA := hide h1
    have HB := hide h2
    clear hl h1 h2
    go_enter Try.func13, Try.ntmps13
    have hs := St.nil w
    refine wp_seq_k ?_
    intro K1 hK1
    refine rg [0] ?_
    refine sq ?_
    refine .mv ?_
    apply wpSq_end
    refine hK1 _ _ ?_
    refine wp_seq_k ?_
    intro K2 hK2
    refine wp_seq_k ?_
    intro K3 hK3
    refine rg [0, 1, 2, 3, 4] ?_
    refine sq ?_
    refine .mv ?_
    refine sq ?_
    refine .r0 ?_
    refine sq ?_
    refine .mv ?_
    refine sq ?_
    refine .r0 ?_
    refine sq ?_
    refine .r0 ?_
    apply wpSq_end
    refine hK3 _ _ ?_
    refine cf ?_
    refine wp_skip ?_
    refine hK2 _ _ ?_
    refine wp_seq_k ?_
    intro K4 hK4
    refine wp_seq_k ?_
    intro K5 hK5
    refine rg [0] ?_
    refine sq ?_
    refine .mv ?_
    apply wpSq_end
    refine hK5 _ _ ?_
    refine wp_block ?_
    have hd1 := hs.2.1
    go_loopg [5] n (fun k s5 wr => ∃ i : Nat, s5 = .int .i64 (i : Int) ∧ i + k = n ∧ Bs wr g1 cur1 29 ∧ Bs wr g2 cur2 29 ∧ GD wr XA ps ∧ GD wr XB ps ∧ St w [] wr)
    case atStart => exact ⟨0, rfl, by omega, x1, x2, d1, d2, hs⟩
    case round =>
    clear d1 d2 x1 x2 hs
    obtain ⟨i, rfl, hik, x1, x2, d1, d2, hs⟩ := hrel
    by_cases hi : i < n
    · have hip : i < ps.length := by omega
      obtain ⟨n1, o1, k1, q1, n2, o2, k2, q2, e1, e2, e3, e4, z1, z2⟩ := d1.at hip
      obtain ⟨n3, o3, k3, q3, n4, o4, k4, q4, e5, e6, e7, e8, z3, z4⟩ := d2.at hip
      replace e1 : Hid (cur1[off1 + i * 4]? = some (.bool n1)) := hide (HA.out (i * 4) 0 _ e1); replace e2 := hide (HA.out (i * 4) 1 _ e2); replace e3 := hide (HA.out (i * 4) 2 _ e3); replace e4 := hide (HA.out (i * 4) 3 _ e4)
      replace e5 : Hid (cur2[off2 + i * 4]? = some (.bool n3)) := hide (HB.out (i * 4) 0 _ e5); replace e6 := hide (HB.out (i * 4) 1 _ e6); replace e7 := hide (HB.out (i * 4) 2 _ e7); replace e8 := hide (HB.out (i * 4) 3 _ e8)
      have Lz3 := hide (HL.out _ (List.getElem_mem hip)).1
      have Lz4 := hide (HL.out _ (List.getElem_mem hip)).2
      generalize ps[i].1 = P1 at *
      generalize ps[i].2 = P2 at *
      refine wp_seq_k ?_
      intro K6 hK6
      refine wp_seq_k ?_
      intro K7 hK7
      refine rg [0, 1, 2, 3] ?_
      refine sq ?_
      refine .mv ?_
      refine sq ?_
      refine .mv ?_
      refine sq ?_
      refine .r0 ?_
      refine sq ?_
      refine .r0 ?_
      apply wpSq_end
      refine hK7 _ _ ?_
      refine ct ?_
      refine wp_skip ?_
      refine hK6 _ _ ?_
      refine wp_seq_k ?_
      intro K8 hK8
      refine wp_block ?_
      refine wp_seq_k ?_
      intro K9 hK9
      refine wp_region_f4 [(0, false), (1, false), (2, false), (3, false), (4, false), (5, false), (6, false), (7, false), (8, true), (9, false)] [] [] (fun _ => default) [99, 99, 99, 0, 99, 99, 99, 1, 99, 99] [] (.c x1 (.c x2 .n)) fn fun w_2 n2 => ?_
      replace x1 := x1.bl n2; replace x2 := x2.bl n2; replace hs := hs.bl n2
      refine fmv ?_
      refine fmv ?_
      refine f0 ?_
      apply wpFl_ld rfl rfl; (case h1 => intro w' hC K hK; have c0 := Bs.cell hC ((off1 + i * 4)) e1.out; have c1 := Bs.cell hC ((off1 + i * 4) + 1) e2.out; have c2 := Bs.cell hC ((off1 + i * 4) + 2) e3.out; have c3 := Bs.cell hC ((off1 + i * 4) + 3) e4.out; go_big_op; exact hK); iterate 4 kernel_rfl
      refine fmv ?_
      refine fmv ?_
      refine f0 ?_
      apply wpFl_ld rfl rfl; (case h1 => intro w' hC K hK; have c0 := Bs.cell hC ((off2 + i * 4)) e5.out; have c1 := Bs.cell hC ((off2 + i * 4) + 1) e6.out; have c2 := Bs.cell hC ((off2 + i * 4) + 2) e7.out; have c3 := Bs.cell hC ((off2 + i * 4) + 3) e8.out; go_big_op; exact hK); iterate 4 kernel_rfl
      refine fl fun w_3 n3 => ?_
      replace x1 := x1.bl n3; replace x2 := x2.bl n3; replace hs := hs.bl n3
      intro K hK
      have k0_2 := (kb n2).b n3
      replace z1 := z1.k k0_2
      replace z2 := z2.k k0_2
      replace z3 := z3.k k0_2
      replace z4 := z4.k k0_2
      go_big_op
      go_fit (g6is_any (PC.mk' z1 z2) (PN.mk' (z3.zn Lz3.out) (z4.zn Lz4.out)) (by omega) (by omega) )
      rintro e w_4 ⟨rfl, hb_4⟩
      replace x1 := x1.bl hb_4; replace x2 := x2.bl hb_4; replace hs := hs.bl hb_4
      refine hK _ _ rfl ⟨hb_4, (And.intro x1 (And.intro x2 trivial))⟩ ?_
      clear hK K
      refine f0 ?_
      refine e0 hs ?_; clear hs; intro w_5 hs n5
      replace x1 := x1.bl n5; replace x2 := x2.bl n5
      apply wpTail_end
      refine hK9 _ _ ?_
      refine cf ?_
      refine wp_skip ?_
      refine hK8 _ _ ?_
      refine rg [0, 1, 2] ?_
      refine sq ?_
      refine .mv ?_
      refine sq ?_
      refine .r0 ?_
      refine sq ?_
      refine .mv ?_
      apply wpSq_end
      have k0_4 := (k0_2.b hb_4).b n5
      replace d1 := d1.k k0_4
      replace d2 := d2.k k0_4
      refine ‹∀ (a' : Act) (w' : World), Handed _ _ a' w' → _› _ _ ?_
      go_roundg (gk - 1)
      case rel => exact ⟨i + 1, by rfl, by omega, x1, x2, d1, d2, hs⟩
      case measure => omega
    · have HX := hide hi
      refine wp_seq_k ?_
      intro K6 hK6
      refine wp_seq_k ?_
      intro K7 hK7
      refine rg [0, 1, 2, 3] ?_
      refine sq ?_
      refine .mv ?_
      refine sq ?_
      refine .mv ?_
      refine sq ?_
      refine .r0 ?_
      refine sq ?_
      refine .r0 ?_
      apply wpSq_end
      refine hK7 _ _ ?_
      refine cf ?_
      refine wp_exit ?_
      refine hK4 _ _ ?_
      refine wp_seq_k ?_
      intro K8 hK8
      refine rg [0] ?_
      refine sq ?_
      refine .mv ?_
      apply wpSq_end
      refine hK8 _ _ ?_
      refine wp_ret ?_
      try dsimp only [Exit.then, Exit.inBlock]
      refine bodyPost_ret (v := (.bool true)) (by simp [results, Try.results13, go_sem]) rfl ?_
      exact ⟨rfl, hs.b⟩
end
end Go.Proofs.Ythlhekkcjficdaa

