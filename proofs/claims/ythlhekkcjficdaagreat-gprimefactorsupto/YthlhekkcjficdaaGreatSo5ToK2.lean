/- slices.SortFunc at a list of factors. -/
import Derived.Test.YthlhekkcjficdaaGreatK19ToShelfS
import Derived.Shelf.SlSortCmp.NoneTotal
import Derived.Test.YthlhekkcjficdaaGreatK1ToK12
import Derived.Test.YthlhekkcjficdaaGreatWkToG2
import Derived.Test.YthlhekkcjficdaaGreatT1ToG7

namespace Go.Proofs.YthlhekkcjficdaaGreat
open Go Go.RowKit Dig
set_option linter.unusedVariables false
theorem fac_enters (args : Array Value) (w : World) : (callFunc 16 args).run Tryz.prog w = .ok (.enter 16 args) w := by kernel_rfl
theorem fac_sort {w : World} {B n c : Nat} {o : Option Addr} {ps : List Pw} (h : Lst w B 39 5 (.slice o n c) n (ps.flatMap Pw.cells)) (hok : ∀ p ∈ ps, p.ok w) (hn : ps.length = n) (hsz : n < 4611686018427387904) :
    Calls Tryz.prog 15 #[.slice o n c, .func (.func 16) #[] #[]] w fun e w' => e = .returned (.tuple #[]) ∧
      ∃ qs, qs.Perm ps ∧ Ris qs ∧ Lst w' B 39 5 (.slice o n c) n (qs.flatMap Pw.cells) ∧ w.grownBy w' (Value.slice o n c).ownBlock ∧ ∀ q ∈ qs, q.ok w := by
  rcases h.1.2 with ⟨e2, h0⟩ | ⟨g, cap, cur, e2, hb, hh, _⟩
  · subst h0
    obtain rfl : ps = [] := List.eq_nil_of_length_eq_zero hn
    refine (AnyF.slices_SortFunc_none Tryz.laysS o c (.func (.func 16) #[] #[]) w).mono ?_
    rintro e w' ⟨he, hw⟩
    subst hw
    exact ⟨he, [], .refl _, List.Pairwise.nil, h, ⟨rfl, rfl, rfl, Nat.le_refl _, fun _ _ _ => rfl⟩, fun _ hq => nomatch hq⟩
  · obtain ⟨rfl, rfl⟩ : o = some ⟨g, 0, none⟩ ∧ c = cap := by simp only [Value.slice.injEq, true_and] at e2; exact e2
    have hnod := h.nod rfl g rfl
    have hgl : g < w.heap.size := by
      rcases Nat.lt_or_ge g w.heap.size with hl | hl
      · exact hl
      · rw [Array.getElem?_eq_none hl] at hh; cases hh
    have hd : (Pws.arr ps hok).size = n := by rw [Pws.arr_size, hn]
    have hs := AnyQ.slices_SortFunc Tryz.laysS 5 Tryz.isAgg39 Tryz.sizeOf39 Pws.enc Pws.len Pws.one Pws.cf (Pws.swo w) 16 #[] g 0 c (Pws.arr ps hok) w fac_enters (fac_lays hnod) (fac_holds h hok rfl) hgl (by rw [hd]; exact hsz)
    rw [hd] at hs
    refine hs.mono ?_
    rintro e w' ⟨he, d', m, os, hp, hr, hw⟩
    obtain ⟨qs, h1, h2, h3, h4, h5⟩ := fac_sorted h hok hn (d' := d') (by rw [hd]; exact hp) (by rw [hd]; exact hr) hw
    exact ⟨he, qs, h1, h2, h3, h4, h5⟩
end Go.Proofs.YthlhekkcjficdaaGreat


/- gprime.Factor, up to its sort. -/
namespace Go.Proofs.YthlhekkcjficdaaGreat
open Go Go.RowKit Dig
set_option linter.unusedVariables false
section
variable {w : World} {va : Value} {x y : Int}
set_option maxHeartbeats 4000000 in
set_option maxRecDepth 20000 in
theorem gfactor_any {N0 : Nat} {L0 : List Nat} {T : List (Int × Int × Int)} {U V : Int} {lg : Nat} (ha : PN w va x lg y lg) (hlg : 1 ≤ lg) (hlm : lg ≤ 10000000) (hn : gN x y = (N0 : Int)) (h0 : N0 ≠ 0) (hN : N0 < 4294967296) (hL : PF N0 L0) (hT : (L0.flatMap pOv).foldl fcS ([], (x, y)) = (T, (U, V))) :
    Calls Tryz.prog 4 #[va] w fun e w' => ∃ (o : Option Addr) (c : Nat) (qs : List Pw), e = .returned (.tuple #[.int .i64 ((-((kq U V : Nat) : Int)) % 4), .slice o T.length c, .int .i64 0]) ∧ (qs.map Pw.val).Perm T ∧ Ris qs ∧ Lst w' w.heap.size 39 5 (.slice o T.length c) T.length (qs.flatMap Pw.cells) ∧ Cns w' qs ∧ Below w.heap.size w w' := by
  have HL := hide hL
  have HT := hide hT
  have HN := hide (And.intro hn h0)
  have h00 : ((N0 : Int) == 0) = false := by rw [beq_eq_false_iff_ne]; omega
  have hLl : L0.length < 4294967297 := by have := hL.len; omega
  clear hL hT hn h0
  obtain ⟨n_0a, o_0a, k_0a, c_0a, n_0b, o_0b, k_0b, c_0b, rfl, ha1, ha2⟩ := ha
  go_enter Tryz.func4, Tryz.ntmps4
  have hs := St.nil w
  refine wp_seq_k ?_
  intro K1 hK1
  refine rg [0, 1, 2, 3] ?_
  refine sq ?_
  refine .al hs ?_; clear hs; intro p_b1 w_1 hs n1 kb_b1
  refine sq ?_
  refine .mv ?_
  refine sq ?_
  refine .mv ?_
  refine sq ?_
  refine .mv ?_
  apply wpSq_end
  refine hK1 _ _ ?_
  refine wp_seq_k ?_
  intro K2 hK2
  refine rg [0, 1, 2, 3, 4, 5, 6] ?_
  refine sq ?_
  refine .r4 hs.g0.f4 ?_
  refine sq ?_
  intro K hK
  have k0_1 := kb n1
  replace ha1 := ha1.k k0_1
  replace ha2 := ha2.k k0_1
  go_big_op
  go_fit (normOf_any N0 (.mk' ha1 ha2) (by omega) (by omega) HN.out.1 hN)
  rintro e w_2 ⟨rfl, hb_2⟩
  replace hs := hs.bl hb_2
  refine hK _ _ rfl trivial ?_
  clear hK K
  refine sq ?_
  refine .mv ?_
  refine sq ?_
  refine .r0 ?_
  refine sq ?_
  refine .r0 ?_
  refine sq ?_
  refine .mv ?_
  refine sq ?_
  refine .mv ?_
  apply wpSq_end
  refine hK2 _ _ ?_
  refine wp_seq_k ?_
  intro K3 hK3
  refine wp_seq_k ?_
  intro K4 hK4
  refine rg [0, 1] ?_
  refine sq ?_
  refine .mv ?_
  refine sq ?_
  refine .r0 ?_
  apply wpSq_end
  refine hK4 _ _ ?_
  refine cf ?_
  refine wp_skip ?_
  refine hK3 _ _ ?_
  refine wp_seq_k ?_
  intro K5 hK5
  refine wp_seq_k ?_
  intro K6 hK6
  refine rg [0, 1] ?_
  refine sq ?_
  refine .mv ?_
  refine sq ?_
  refine .r0 ?_
  apply wpSq_end
  refine hK6 _ _ ?_
  refine cf ?_
  refine wp_skip ?_
  refine hK5 _ _ ?_
  refine wp_seq_k ?_
  intro K7 hK7
  refine rg [0, 1, 2] ?_
  refine sq ?_
  refine .r4 hs.g0.f4 ?_
  refine sq ?_
  refine .al hs ?_; clear hs; intro p_b2 w_3 hs n3 kb_b2
  refine sq ?_
  refine .s4 hs.g0 (fun _ => hs.u0 kb_b2) ?_; clear hs; intro w_4 hs hd4 ho4
  apply wpSq_end
  refine hK7 _ _ ?_
  refine wp_seq_k ?_
  intro K8 hK8
  refine wp_seq_k ?_
  intro K9 hK9
  refine rg [0, 1, 2, 3] ?_
  refine sq ?_
  refine .mv ?_
  refine sq ?_
  intro K hK
  go_big_op
  go_fit (pnums_any HL.out hN)
  rintro e w_5 ⟨o_L, c_L, rfl, L_L, hb_5⟩
  replace hs := hs.la hb_5 L_L
  refine hK _ _ rfl trivial ?_
  clear hK K
  refine sq ?_
  refine .r0 ?_
  refine sq ?_
  refine .mv ?_
  apply wpSq_end
  refine hK9 _ _ ?_
  refine wp_block ?_
  have k1_5 := (((kb hb_2).b n3).o hd4 ho4).b hb_5
  replace ha1 := ha1.k k1_5
  replace ha2 := ha2.k k1_5
  have hd6 := hs.2.1
  go_loopg [3, 29] L0.length (fun k s3 s29 wr => ∃ (i N : Nat) (o : Option Addr) (c : Nat) (xs : List Value) (ps : List (Int × Int × Int)) (X Y : Int) (an1 an2 : Bool) (ao1 ao2 : Option Addr) (ak1 ac1 ak2 ac2 : Nat), s3 = .slice o N c ∧ s29 = .int .i64 (i : Int) ∧ i + k = L0.length ∧ N ≤ 2 * i ∧ Hid (FcI x y ((L0.take i).flatMap pOv) ps X Y N) ∧ FacL wr xs ps ∧ ZN wr (.agg #[.bool an1, .slice ao1 ak1 ac1]) X lg ∧ ZN wr (.agg #[.bool an2, .slice ao2 ak2 ac2]) Y lg ∧
    St w [ls w.heap.size 39 5 (.slice o N c) N xs, ls w.heap.size 41 1 (.slice o_L L0.length c_L) L0.length (L0.map enc64), bx p_b2 #[.bool an1, .slice ao1 ak1 ac1, .bool an2, .slice ao2 ak2 ac2] 26] wr)
  case atStart => exact ⟨0, 0, none, 0, [], [], x, y, _, _, _, _, _, _, _, _, rfl, rfl, by omega, by omega, hide ⟨rfl, by rw [HN.out.1]; have := HN.out.2; omega, by rw [HN.out.1]; omega, rfl, fun _ h => nomatch h⟩, FacL.nil _, ha1, ha2, (hs.sub (.cons_cons _ (.cons_cons _ (.cons _ (List.Sublist.refl _))))).l0 _ _⟩
  case round =>
  clear ha1 ha2 hs
  obtain ⟨i, N, o, c, xs, ps, X, Y, an1, an2, ao1, ao2, ak1, ac1, ak2, ac2, rfl, rfl, hik, hNi, HI, d, a1, a2, hs⟩ := hrel
  by_cases hi : i < L0.length
  · obtain ⟨p, hp⟩ : ∃ p, L0[i] = p := ⟨_, rfl⟩
    have HP := hide (HL.out.mem p (hp ▸ List.getElem_mem hi))
    have HE := hide (show (L0.map enc64)[i]? = some (.int .u64 (p : Int)) from by rw [List.getElem?_map, List.getElem?_eq_getElem hi, hp]; rfl)
    have HTk := hide (show L0.take (i + 1) = L0.take i ++ [p] from by rw [List.take_add_one, List.getElem?_eq_getElem hi, hp]; rfl)
    have HV := fun w => pover_any (w := w) HP.out.1 (by have := HP.out.2; omega)
    unfold TG at HV
    replace HV := hide HV
    have hpl : (pOv p).length ≤ 2 := pOv_len p HP.out.1
    obtain ⟨gl, curl, rfl, xl, hcur⟩ := (hs.1.2.1.1).box (by omega)
    have e1 := hide (hcur i _ HE.out)
    clear hcur hp
    refine wp_seq_k ?_
    intro K10 hK10
    refine rg [0] ?_
    refine sq ?_
    refine .r0 ?_
    apply wpSq_end
    refine hK10 _ _ ?_
    refine wp_seq_k ?_
    intro K11 hK11
    refine ct ?_
    refine wp_skip ?_
    refine hK11 _ _ ?_
    refine wp_seq_k ?_
    intro K12 hK12
    refine wp_block ?_
    refine wp_seq_k ?_
    intro K13 hK13
    refine rg [0, 1, 2] ?_
    refine sq ?_
    refine .r0 ?_
    refine sq ?_
    refine .r1 (xl.cell _ e1.out) ?_
    refine sq ?_
    refine .mv ?_
    apply wpSq_end
    refine hK13 _ _ ?_
    refine wp_seq_k ?_
    intro K14 hK14
    refine rg [0, 1, 2, 3] ?_
    refine sq ?_
    refine .mv ?_
    refine sq ?_
    intro K hK
    go_big_op
    go_fit (HV.out _)
    rintro e w_7 ⟨o_V, c_V, xs_V, rfl, L_V, d_V, hb_7⟩
    replace xl := xl.bl hb_7
    replace hs := hs.la hb_7 L_V
    refine hK _ _ rfl trivial ?_
    clear hK K
    refine sq ?_
    refine .r0 ?_
    refine sq ?_
    refine .mv ?_
    apply wpSq_end
    refine hK14 _ _ ?_
    refine wp_block ?_
    have HO := ‹∀ (a' : Act) (w' : World), Handed _ _ a' w' → _›
    obtain ⟨g1, hg1⟩ : ∃ g, gk = g := ⟨_, rfl⟩
    have k0_1 := kb hb_7
    replace d := d.k k0_1
    replace a1 := a1.k k0_1
    replace a2 := a2.k k0_1
    have hd8 := hs.2.1
    go_loopg [3, 36] (pOv p).length (fun k s3 s36 wr => ∃ (j N : Nat) (o : Option Addr) (c : Nat) (xs : List Value) (ps : List (Int × Int × Int)) (X Y : Int) (an1 an2 : Bool) (ao1 ao2 : Option Addr) (ak1 ac1 ak2 ac2 : Nat), s3 = .slice o N c ∧ s36 = .int .i64 (j : Int) ∧ j + k = (pOv p).length ∧ N ≤ 2 * i + j ∧ Hid (FcI x y ((L0.take i).flatMap pOv ++ (pOv p).take j) ps X Y N) ∧ FacL wr xs ps ∧ GD wr xs_V (pOv p) ∧ ZN wr (.agg #[.bool an1, .slice ao1 ak1 ac1]) X lg ∧ ZN wr (.agg #[.bool an2, .slice ao2 ak2 ac2]) Y lg ∧
      St w [ls w.heap.size 26 4 (.slice o_V (pOv p).length c_V) (pOv p).length xs_V, ls w.heap.size 39 5 (.slice o N c) N xs, ls w.heap.size 41 1 (.slice (some ⟨gl, 0, none⟩) L0.length c_L) L0.length (L0.map enc64), bx p_b2 #[.bool an1, .slice ao1 ak1 ac1, .bool an2, .slice ao2 ak2 ac2] 26] wr)
    case atStart => exact ⟨0, N, o, c, xs, ps, X, Y, _, _, _, _, _, _, _, _, rfl, rfl, by omega, by omega, hide (by rw [List.take_zero, List.append_nil]; exact HI.out), d, d_V, a1, a2, hs⟩
    case round =>
    clear a1 a2 d xl d_V hs
    obtain ⟨j, M, o2, c2, xs2, ps2, X2, Y2, bn1, bn2, bo1, bo2, bk1, bc1, bk2, bc2, rfl, rfl, hjk, hM, HJ, d2, dV, b1, b2, hs⟩ := hrel
    by_cases hj : j < (pOv p).length
    · obtain ⟨q, hq⟩ : ∃ q, (pOv p)[j] = q := ⟨_, rfl⟩
      have hqm : q ∈ pOv p := hq ▸ List.getElem_mem hj
      have HQ := hide (And.intro (pOv_norm HP.out.1 hqm) (pOv_small HP.out.1 (by have := HP.out.2; omega) hqm))
      have HTj := hide (show (pOv p).take (j + 1) = (pOv p).take j ++ [q] from by rw [List.take_add_one, List.getElem?_eq_getElem hj, hq]; rfl)
      obtain ⟨n1, o1, k1, q1, n2, o3, k2, q2, e5, e2, e3, e4, z1, z2⟩ := dV.at hj
      rw [hq] at z1 z2
      have Lz1 := hide (zlen_small6 HQ.out.2.1)
      have Lz2 := hide (zlen_small6 HQ.out.2.2)
      obtain ⟨gv, curv, rfl, xv, hcv⟩ := (hs.1.1.1).box (by omega)
      replace e5 := hide (hcv _ _ e5)
      replace e2 := hide (hcv _ _ e2)
      replace e3 := hide (hcv _ _ e3)
      replace e4 := hide (hcv _ _ e4)
      clear hcv hq hqm
      by_cases ht : 0 < (tkF q.1 q.2 X2 Y2).1
      · have HJ2 := hide (show FcI x y ((L0.take i).flatMap pOv ++ (pOv p).take (j + 1)) (ps2 ++ [(q.1, q.2, ((tkF q.1 q.2 X2 Y2).1 : Int))]) (tkF q.1 q.2 X2 Y2).2.1 (tkF q.1 q.2 X2 Y2).2.2 (M + 1) from by rw [HTj.out, ← List.append_assoc]; exact HJ.out.yes HQ.out.1 HQ.out.2 ht)
        have HZ := hide (And.intro HJ.out.2.1 HJ.out.2.2.1)
        clear HJ
        refine wp_seq_k ?_
        intro K15 hK15
        refine rg [0] ?_
        refine sq ?_
        refine .r0 ?_
        apply wpSq_end
        refine hK15 _ _ ?_
        refine wp_seq_k ?_
        intro K16 hK16
        refine ct ?_
        refine wp_skip ?_
        refine hK16 _ _ ?_
        refine wp_seq_k ?_
        intro K17 hK17
        refine wp_block ?_
        refine wp_seq_k ?_
        intro K18 hK18
        refine rg [0, 1, 2, 3] ?_
        refine sq ?_
        refine .r0 ?_
        refine sq ?_
        refine .r4 ⟨xv.cell _ e5.out, xv.cell _ e2.out, xv.cell _ e3.out, xv.cell _ e4.out⟩ ?_
        refine sq ?_
        refine .al hs ?_; clear hs; intro p_b3 w_9 hs n9 kb_b3
        replace xv := xv.bl n9
        refine sq ?_
        refine .s4 hs.g0 (fun _ => hs.u0 kb_b3) ?_; clear hs; intro w_10 hs hd10 ho10
        replace xv := xv.frame ho10 (hs.ne 1 0)
        apply wpSq_end
        refine hK18 _ _ ?_
        refine wp_seq_k ?_
        intro K19 hK19
        refine rg [0, 1, 2, 3, 4, 5, 6, 7, 8] ?_
        refine sq ?_
        refine .r4 hs.g0.f4 ?_
        refine sq ?_
        refine .r4 hs.g4.f4 ?_
        refine sq ?_
        intro K hK
        have k0_2 := (kb n9).o hd10 ho10
        replace z1 := z1.k k0_2
        replace z2 := z2.k k0_2
        replace b1 := b1.k k0_2
        replace b2 := b2.k k0_2
        go_big_op
        go_fit (takeout_any (.mk' (z1.zn Lz1.out) (z2.zn Lz2.out)) (.mk' b1 b2) hlg hlm HQ.out.1 HZ.out.1 HZ.out.2)
        rintro e w_11 ⟨_, rfl, ⟨n_ta, o_ta, k_ta, c_ta, n_tb, o_tb, k_tb, c_tb, rfl, t1, t2⟩, hb_11⟩
        replace xv := xv.bl hb_11; replace hs := hs.bl hb_11
        refine hK _ _ rfl trivial ?_
        clear hK K
        refine sq ?_
        refine .mv ?_
        refine sq ?_
        refine .r0 ?_
        refine sq ?_
        refine .r0 ?_
        refine sq ?_
        refine .al hs ?_; clear hs; intro p_b4 w_12 hs n12 kb_b4
        replace xv := xv.bl n12
        refine sq ?_
        refine .mv ?_
        refine sq ?_
        refine .s4 hs.g0 (fun _ => hs.u0 kb_b4) ?_; clear hs; intro w_13 hs hd13 ho13
        replace xv := xv.frame ho13 (hs.ne 2 0)
        apply wpSq_end
        refine hK19 _ _ ?_
        refine wp_seq_k ?_
        intro K20 hK20
        refine wp_seq_k ?_
        intro K21 hK21
        refine rg [0, 1] ?_
        refine sq ?_
        refine .mv ?_
        refine sq ?_
        refine .r0 ?_
        apply wpSq_end
        refine hK21 _ _ ?_
        refine ct ?_
        refine rg [0, 1, 2, 3, 4, 5, 6] ?_
        refine sq ?_
        refine .mv ?_
        refine sq ?_
        refine .r4 hs.g1.f4 ?_
        refine sq ?_
        refine .mv ?_
        refine sq ?_
        refine .r0 ?_
        refine sq ?_
        refine .al hs ?_; clear hs; intro p_b5 w_14 hs n14 kb_b5
        replace xv := xv.bl n14
        refine sq ?_
        have k2_6 := (((kb hb_11).b n12).o hd13 ho13).b n14
        replace z1 := z1.k k2_6
        replace z2 := z2.k k2_6
        have k0_6 := (((k0_2.b hb_11).b n12).o hd13 ho13).b n14
        replace d2 := d2.k k0_6
        replace d2 := d2.snoc (.mk' z1 z2) (n := (((tkF q.1 q.2 X2 Y2).1 : Nat) : Int))
        refine .ap 4 hs hs.g0 ?_; clear hs; intro o_F_15 c_F_15 w_15 hs kp15 hw15; simp only [List.set_cons_succ, List.set_cons_zero] at hs
        clear xv
        refine sq ?_
        refine .mv ?_
        apply wpSq_end
        refine hK20 _ _ ?_
        refine rg [0, 1] ?_
        refine sq ?_
        refine .r4 hs.g1.f4 ?_
        refine sq ?_
        refine .s4 hs.g6 (fun _ => hs.u6 kb_b2) ?_; clear hs; intro w_16 hs hd16 ho16
        apply wpSq_end
        refine hK17 _ _ ?_
        refine rg [0, 1] ?_
        refine sq ?_
        refine .r0 ?_
        refine sq ?_
        refine .mv ?_
        apply wpSq_end
        have k6_8 := kp15.o hd16 ho16
        replace d2 := d2.k k6_8
        have k0_8 := (k0_6.t kp15).o hd16 ho16
        replace dV := dV.k k0_8
        have k3_8 := ((((kb n12).o hd13 ho13).b n14).t kp15).o hd16 ho16
        replace t1 := t1.k k3_8
        replace t2 := t2.k k3_8
        refine ‹∀ (a' : Act) (w' : World), Handed _ _ a' w' → _› _ _ ?_
        go_roundg (gk - 1)
        case rel => exact ⟨j + 1, M + 1, _, _, _, _, _, _, _, _, _, _, _, _, _, _, by rfl, by rfl, by omega, by omega, HJ2, d2, dV, t1, t2, hs.sub (.cons _ (.cons _ (.cons _ (List.Sublist.refl _))))⟩
        case measure => omega
      · have HJ2 := hide (show FcI x y ((L0.take i).flatMap pOv ++ (pOv p).take (j + 1)) ps2 (tkF q.1 q.2 X2 Y2).2.1 (tkF q.1 q.2 X2 Y2).2.2 M from by rw [HTj.out, ← List.append_assoc]; exact HJ.out.no HQ.out.1 ht)
        have HZ := hide (And.intro HJ.out.2.1 HJ.out.2.2.1)
        clear HJ
        refine wp_seq_k ?_
        intro K15 hK15
        refine rg [0] ?_
        refine sq ?_
        refine .r0 ?_
        apply wpSq_end
        refine hK15 _ _ ?_
        refine wp_seq_k ?_
        intro K16 hK16
        refine ct ?_
        refine wp_skip ?_
        refine hK16 _ _ ?_
        refine wp_seq_k ?_
        intro K17 hK17
        refine wp_block ?_
        refine wp_seq_k ?_
        intro K18 hK18
        refine rg [0, 1, 2, 3] ?_
        refine sq ?_
        refine .r0 ?_
        refine sq ?_
        refine .r4 ⟨xv.cell _ e5.out, xv.cell _ e2.out, xv.cell _ e3.out, xv.cell _ e4.out⟩ ?_
        refine sq ?_
        refine .al hs ?_; clear hs; intro p_b3 w_9 hs n9 kb_b3
        replace xv := xv.bl n9
        refine sq ?_
        refine .s4 hs.g0 (fun _ => hs.u0 kb_b3) ?_; clear hs; intro w_10 hs hd10 ho10
        replace xv := xv.frame ho10 (hs.ne 1 0)
        apply wpSq_end
        refine hK18 _ _ ?_
        refine wp_seq_k ?_
        intro K19 hK19
        refine rg [0, 1, 2, 3, 4, 5, 6, 7, 8] ?_
        refine sq ?_
        refine .r4 hs.g0.f4 ?_
        refine sq ?_
        refine .r4 hs.g4.f4 ?_
        refine sq ?_
        intro K hK
        have k0_2 := (kb n9).o hd10 ho10
        replace z1 := z1.k k0_2
        replace z2 := z2.k k0_2
        replace b1 := b1.k k0_2
        replace b2 := b2.k k0_2
        go_big_op
        go_fit (takeout_any (.mk' (z1.zn Lz1.out) (z2.zn Lz2.out)) (.mk' b1 b2) hlg hlm HQ.out.1 HZ.out.1 HZ.out.2)
        rintro e w_11 ⟨_, rfl, ⟨n_ta, o_ta, k_ta, c_ta, n_tb, o_tb, k_tb, c_tb, rfl, t1, t2⟩, hb_11⟩
        replace xv := xv.bl hb_11; replace hs := hs.bl hb_11
        refine hK _ _ rfl trivial ?_
        clear hK K
        refine sq ?_
        refine .mv ?_
        refine sq ?_
        refine .r0 ?_
        refine sq ?_
        refine .r0 ?_
        refine sq ?_
        refine .al hs ?_; clear hs; intro p_b4 w_12 hs n12 kb_b4
        replace xv := xv.bl n12
        refine sq ?_
        refine .mv ?_
        refine sq ?_
        refine .s4 hs.g0 (fun _ => hs.u0 kb_b4) ?_; clear hs; intro w_13 hs hd13 ho13
        replace xv := xv.frame ho13 (hs.ne 2 0)
        apply wpSq_end
        refine hK19 _ _ ?_
        refine wp_seq_k ?_
        intro K20 hK20
        refine wp_seq_k ?_
        intro K21 hK21
        refine rg [0, 1] ?_
        refine sq ?_
        refine .mv ?_
        refine sq ?_
        refine .r0 ?_
        apply wpSq_end
        refine hK21 _ _ ?_
        refine cf ?_
        refine wp_skip ?_
        refine hK20 _ _ ?_
        refine rg [0, 1] ?_
        refine sq ?_
        refine .r4 hs.g0.f4 ?_
        refine sq ?_
        refine .s4 hs.g5 (fun _ => hs.u5 kb_b2) ?_; clear hs; intro w_14 hs hd14 ho14
        replace xv := xv.frame ho14 (hs.ne 2 5)
        apply wpSq_end
        refine hK17 _ _ ?_
        refine rg [0, 1] ?_
        refine sq ?_
        refine .r0 ?_
        refine sq ?_
        refine .mv ?_
        apply wpSq_end
        have k0_6 := (((k0_2.b hb_11).b n12).o hd13 ho13).o hd14 ho14
        replace d2 := d2.k k0_6
        replace dV := dV.k k0_6
        have k3_6 := ((kb n12).o hd13 ho13).o hd14 ho14
        replace t1 := t1.k k3_6
        replace t2 := t2.k k3_6
        refine ‹∀ (a' : Act) (w' : World), Handed _ _ a' w' → _› _ _ ?_
        go_roundg (gk - 1)
        case rel => exact ⟨j + 1, M, _, _, _, _, _, _, _, _, _, _, _, _, _, _, by rfl, by rfl, by omega, by omega, HJ2, d2, dV, t1, t2, hs.sub (.cons _ (.cons _ (List.Sublist.refl _)))⟩
        case measure => omega
    · have HI' := hide (show FcI x y ((L0.take (i + 1)).flatMap pOv) ps2 X2 Y2 M from by
        have := HJ.out
        rw [show (pOv p).take j = pOv p from List.take_of_length_le (by omega)] at this
        rw [HTk.out, List.flatMap_append, List.flatMap_cons, List.flatMap_nil, List.append_nil]
        exact this)
      clear HJ
      refine wp_seq_k ?_
      intro K15 hK15
      refine rg [0] ?_
      refine sq ?_
      refine .r0 ?_
      apply wpSq_end
      refine hK15 _ _ ?_
      refine wp_seq_k ?_
      intro K16 hK16
      refine cf ?_
      refine wp_exit ?_
      refine hK12 _ _ ?_
      refine rg [0, 1] ?_
      refine sq ?_
      refine .r0 ?_
      refine sq ?_
      refine .mv ?_
      apply wpSq_end
      refine HO _ _ ?_
      go_roundg (g1 - 1)
      case rel => exact ⟨i + 1, M, _, _, _, _, _, _, _, _, _, _, _, _, _, _, by rfl, by rfl, by omega, by omega, HI', d2, b1, b2, hs.sub (.cons _ (List.Sublist.refl _))⟩
      case measure => omega
  · have HF := hide (show T = ps ∧ U = X ∧ V = Y ∧ N = ps.length ∧ ∀ t ∈ ps, t.1.natAbs < 4294967296 ∧ t.2.1.natAbs < 4294967296 from by
      obtain ⟨h1, h2, h3, h4, h5⟩ := HI.out
      rw [show L0.take i = L0 from List.take_of_length_le (by omega), HT.out] at h1
      injection h1 with h1 h6
      injection h6 with h6 h7
      exact ⟨h1, h6, h7, h4, h5⟩)
    obtain ⟨qs0, rfl, hq0, hc0⟩ := d
    have hq1 : qs0.length = N := by rw [HF.out.2.2.2.1, ← hq0, List.length_map]
    change Cns wr qs0 at hc0
    have HQ0 := hide (show qs0.map Pw.val = ps from hq0)
    have hN9 : N < 4611686018427387904 := by omega
    have hkq : bits .and .i64 (wrap64 (-((kq X Y : Nat) : Int))) 3 = (-((kq X Y : Nat) : Int)) % 4 := by
      rw [i64_and_three, show wrap64 (-((kq X Y : Nat) : Int)) = -((kq X Y : Nat) : Int) from by have := kq_lt X Y; unfold wrap64; omega]
    clear HI hq0
    refine wp_seq_k ?_
    intro K10 hK10
    refine rg [0] ?_
    refine sq ?_
    refine .r0 ?_
    apply wpSq_end
    refine hK10 _ _ ?_
    refine wp_seq_k ?_
    intro K11 hK11
    refine cf ?_
    refine wp_exit ?_
    refine hK8 _ _ ?_
    refine wp_seq_k ?_
    intro K12 hK12
    refine rg [0, 1] ?_
    refine sq ?_
    refine .mv ?_
    refine sq ?_
    intro K hK
    go_big_op
    go_fit (fac_sort (hs.1.1.1) (hc0.ok HQ0.out HF.out.2.2.2.2) hq1 hN9)
    rintro e w_7 ⟨rfl, qs_s, hp_s, hr_s, L_s, hg_s, hq_s⟩
    obtain ⟨hs', kp7, hw7⟩ := hs.so 0 L_s hg_s; clear hs; have hs := hs'; clear hs' L_s hg_s; simp only [List.set_cons_zero] at hs
    refine hK _ _ rfl trivial ?_
    clear hK K
    apply wpSq_end
    refine hK12 _ _ ?_
    refine wp_seq_k ?_
    intro K13 hK13
    refine rg [0, 1, 2, 3, 4, 5, 6, 7] ?_
    refine sq ?_
    refine .r4 hs.g2.f4 ?_
    refine sq ?_
    intro K hK
    have k0_1 := kp7
    replace a1 := a1.k k0_1
    replace a2 := a2.k k0_1
    go_big_op
    go_fit (gCanon_any (.mk' a1 a2) (by omega) (by omega))
    rintro e w_8 ⟨_, rfl, ⟨n_ga, o_ga, k_ga, c_ga, n_gb, o_gb, k_gb, c_gb, rfl, g1, g2⟩, hb_8⟩
    replace hs := hs.bl hb_8
    refine hK _ _ rfl trivial ?_
    clear hK K
    refine sq ?_
    refine .mv ?_
    refine sq ?_
    refine .r0 ?_
    refine sq ?_
    refine .r0 ?_
    refine sq ?_
    refine .al hs ?_; clear hs; intro p_b3 w_9 hs n9 kb_b3
    refine sq ?_
    refine .s4 hs.g0 (fun _ => hs.u0 kb_b3) ?_; clear hs; intro w_10 hs hd10 ho10
    refine sq ?_
    refine .mv ?_
    apply wpSq_end
    refine hK13 _ _ ?_
    refine wp_seq_k ?_
    intro K14 hK14
    refine rg [0, 1, 2, 3, 4, 5, 6] ?_
    refine sq ?_
    refine .mv ?_
    refine sq ?_
    refine .r0 ?_
    refine sq ?_
    refine .r0 ?_
    refine sq ?_
    refine .mv ?_
    refine sq ?_
    refine .mv ?_
    refine sq ?_
    refine .mv ?_
    refine sq ?_
    refine .mv ?_
    apply wpSq_end
    refine hK14 _ _ ?_
    refine wp_ret ?_
    try dsimp only [Exit.then, Exit.inBlock]
    refine bodyPost_ret (v := (.tuple #[.int .i64 ((-((kq X Y : Nat) : Int)) % 4), .slice o N c, .int .i64 0])) (by simp [results, Tryz.results4, go_sem]) rfl ?_
    have k0_4 := ((k0_1.b hb_8).b n9).o hd10 ho10
    replace hc0 := hc0.k k0_4
    have hc1 : Cns _ qs_s := fun q hq => hc0 q (hp_s.mem_iff.1 hq); obtain ⟨rfl, rfl, rfl, rfl, _⟩ := HF.out; exact ⟨_, _, qs_s, rfl, (HQ0.out ▸ hp_s.map Pw.val), hr_s, hs.1.2.1.1, hc1, hs.b⟩
end
end Go.Proofs.YthlhekkcjficdaaGreat


/- What Factor answers, as the laws meet it: the list is told ahead of the call. -/
namespace Go.Proofs.YthlhekkcjficdaaGreat
open Go Go.RowKit Dig
set_option linter.unusedVariables false
/-- One factor ahead of another. -/
def FLt (s t : Int × Int × Int) : Prop := gcmp s.1 s.2.1 t.1 t.2.1 < 0
/-- A number's unit and its factors: they make it, they rise, each is a canonical prime, 1 to 31 times. -/
def FaOk (x y k : Int) (ps : List (Int × Int × Int)) : Prop :=
  (0 ≤ k ∧ k < 4) ∧ gP (turn k.toNat (1, 0)) (gPs ps) = (x, y) ∧ ps.Pairwise FLt ∧ ps.length < 9000000000 ∧ ∀ t ∈ ps, (kq t.1 t.2.1 = 0 ∧ primeB (gN t.1 t.2.1).toNat = true ∧ 2 ≤ gN t.1 t.2.1 ∧ gN t.1 t.2.1 ≤ gN x y ∧ 1 ≤ t.2.2 ∧ t.2.2 ≤ 31) ∧ ∃ p, IsLf p p ∧ (t.1, t.2.1) ∈ pOv p
theorem pOvs_len {L : List Nat} (h : ∀ p ∈ L, IsLf p p) : (L.flatMap pOv).length ≤ 2 * L.length := by
  induction L with
  | nil => exact Nat.le_refl _
  | cons p L ih =>
    have h1 := pOv_len p (h p List.mem_cons_self)
    have h2 := ih fun q hq => h q (List.mem_cons_of_mem _ hq)
    rw [List.flatMap_cons, List.length_append, List.length_cons]
    omega
theorem flt_anti {s t : Int × Int × Int} (h1 : FLt s t) (h2 : FLt t s) : False := by
  unfold FLt at h1 h2
  rw [gcmp_lt] at h1 h2
  generalize gN s.1 s.2.1 = a at *
  generalize gN t.1 t.2.1 = b at *
  omega
section
variable {x y : Int} {N0 : Nat} {L0 : List Nat} {T : List (Int × Int × Int)} {U V : Int}
theorem factor_ok (hn : gN x y = (N0 : Int)) (h0 : N0 ≠ 0) (hN : N0 < 4294967296) (hL : PF N0 L0) (hT : (L0.flatMap pOv).foldl fcS ([], (x, y)) = (T, (U, V))) {ps : List (Int × Int × Int)} (hp : ps.Perm T) (hr : ps.Pairwise FLt) :
    FaOk x y ((-((kq U V : Nat) : Int)) % 4) ps := by
  have hQ : ∀ q ∈ L0.flatMap pOv, 2 ≤ gN q.1 q.2 := fun q hq => by
    obtain ⟨p, hp, hq⟩ := List.mem_flatMap.1 hq
    exact pOv_norm (hL.mem p hp).1 hq
  have hz : gN x y ≠ 0 := by omega
  have h1 := fc_counts _ hQ [] x y hz (by omega) (fun t ht => nomatch ht)
  have h2 := fc_le _ hQ (gN x y) [] x y hz (Int.le_refl _) (fun t ht => nomatch ht)
  have h3 := fc_sub (L0.flatMap pOv) [] (x, y)
  rw [hT] at h1 h2 h3
  refine ⟨by omega, back_prod hn h0 hL hT hp, hr, ?_, fun t ht => ?_⟩
  · have e1 := h3.length_le
    have e2 := pOvs_len fun p hp => (hL.mem p hp).1
    have e3 := hL.len
    rw [hp.length_eq]
    simp only [List.length_map, List.map_nil, List.nil_append] at e1
    omega
  · have hm := hp.mem_iff.1 ht
    have h4 : (t.1, t.2.1) ∈ L0.flatMap pOv := by
      have := h3.subset (List.mem_map_of_mem (f := Pr) hm)
      rw [List.map_nil, List.nil_append] at this
      exact this
    obtain ⟨p, hp1, hp2⟩ := List.mem_flatMap.1 h4
    have hp3 := (hL.mem p hp1).1
    exact ⟨⟨pOv_canon hp3 hp2, pOv_prime hp3 hp2, hQ _ h4, h2 _ hm, (h1 _ hm).1, (h1 _ hm).2⟩, p, hp3, hp2⟩
/-- There is just one list of the factors that rises. -/
theorem ris_ex (hL : PF N0 L0) (hT : (L0.flatMap pOv).foldl fcS ([], (x, y)) = (T, (U, V))) : ∃ ps : List (Int × Int × Int), ps.Perm T ∧ ps.Pairwise FLt := by
  have hd : (T.map Pr).Nodup := by have := fc_nodup (z := (x, y)) hL; rw [hT] at this; exact this
  have h1 := List.pairwise_mergeSort (le := fun s t : Int × Int × Int => decide (¬ gcmp t.1 t.2.1 s.1 s.2.1 < 0)) (fun a b c h1 h2 => by
    simp only [decide_eq_true_eq, gcmp_lt] at *
    generalize gN a.1 a.2.1 = p at *
    generalize gN b.1 b.2.1 = q at *
    generalize gN c.1 c.2.1 = r at *
    omega) (fun a b => by
    simp only [Bool.or_eq_true, decide_eq_true_eq, gcmp_lt] at *
    generalize gN a.1 a.2.1 = p at *
    generalize gN b.1 b.2.1 = q at *
    omega) T
  have h2 := List.mergeSort_perm T fun s t : Int × Int × Int => decide (¬ gcmp t.1 t.2.1 s.1 s.2.1 < 0)
  refine ⟨_, h2, ?_⟩
  have h3 : (T.mergeSort fun s t : Int × Int × Int => decide (¬ gcmp t.1 t.2.1 s.1 s.2.1 < 0)).Pairwise fun s t => Pr s ≠ Pr t := by
    have := ((h2.map Pr).nodup_iff.2 hd)
    rw [List.nodup_iff_pairwise_ne, List.pairwise_map] at this
    exact this
  refine (List.Pairwise.and h1 h3).imp fun {s t} h => ?_
  have h4 : ¬ gcmp t.1 t.2.1 s.1 s.2.1 < 0 := of_decide_eq_true h.1
  have h5 : ¬ (s.1 = t.1 ∧ s.2.1 = t.2.1) := fun e => h.2 (by unfold Pr; rw [e.1, e.2])
  unfold FLt
  rw [gcmp_lt] at h4 ⊢
  generalize gN s.1 s.2.1 = p at *
  generalize gN t.1 t.2.1 = q at *
  omega
end
theorem pw_at : ∀ {qs : List Pw} {i : Nat} (hi : i < qs.length), (qs.flatMap Pw.cells)[i * 5]? = some (.bool qs[i].n1) ∧ (qs.flatMap Pw.cells)[i * 5 + 1]? = some (.slice qs[i].o1 qs[i].k1 qs[i].c1) ∧ (qs.flatMap Pw.cells)[i * 5 + 2]? = some (.bool qs[i].n2) ∧ (qs.flatMap Pw.cells)[i * 5 + 3]? = some (.slice qs[i].o2 qs[i].k2 qs[i].c2) ∧ (qs.flatMap Pw.cells)[i * 5 + 4]? = some (.int .i64 qs[i].n)
  | [], i, hi => absurd hi (Nat.not_lt_zero i)
  | q :: qs, 0, hi => ⟨rfl, rfl, rfl, rfl, rfl⟩
  | q :: qs, i + 1, hi => by
    have h := pw_at (qs := qs) (i := i) (Nat.lt_of_succ_lt_succ hi)
    have e : ∀ j, ((q :: qs).flatMap Pw.cells)[(i + 1) * 5 + j]? = (qs.flatMap Pw.cells)[i * 5 + j]? := fun j => by
      rw [List.flatMap_cons, List.getElem?_append_right (by show 5 ≤ _; omega)]
      congr 1
      show (i + 1) * 5 + j - 5 = _
      omega
    rw [List.getElem_cons_succ]
    exact ⟨(e 0).trans h.1, (e 1).trans h.2.1, (e 2).trans h.2.2.1, (e 3).trans h.2.2.2.1, (e 4).trans h.2.2.2.2⟩
theorem FacL.at {w : World} {xs : List Value} {ps : List (Int × Int × Int)} (h : FacL w xs ps) {i : Nat} (hi : i < ps.length) : ∃ n1 o1 k1 c1 n2 o2 k2 c2, xs[i * 5]? = some (.bool n1) ∧ xs[i * 5 + 1]? = some (.slice o1 k1 c1) ∧ xs[i * 5 + 2]? = some (.bool n2) ∧ xs[i * 5 + 3]? = some (.slice o2 k2 c2) ∧ xs[i * 5 + 4]? = some (.int .i64 ps[i].2.2) ∧ ZC w (.agg #[.bool n1, .slice o1 k1 c1]) ps[i].1 ∧ ZC w (.agg #[.bool n2, .slice o2 k2 c2]) ps[i].2.1 := by
  obtain ⟨qs, rfl, rfl, hc⟩ := h
  rw [List.length_map] at hi
  obtain ⟨e1, e2, e3, e4, e5⟩ := pw_at hi
  obtain ⟨n1, o1, k1, c1, n2, o2, k2, c2, he, z1, z2⟩ := hc _ (List.getElem_mem hi)
  simp only [Value.agg.injEq, Array.mk.injEq, List.cons.injEq, and_true] at he
  obtain ⟨h1, h2, h3, h4⟩ := he
  rw [List.getElem_map]
  exact ⟨n1, o1, k1, c1, n2, o2, k2, c2, h1 ▸ e1, h2 ▸ e2, h3 ▸ e3, h4 ▸ e4, e5, z1, z2⟩
theorem gPs_one (t : Int × Int × Int) : gPs [t] = gPw (t.1, t.2.1) t.2.2.toNat := gP_one _
section
variable {x y k : Int} {ps : List (Int × Int × Int)} {i n : Nat}
end
end Go.Proofs.YthlhekkcjficdaaGreat


/- A Gaussian prime that divides a product divides one of both; how often a prime stands in a number. -/
namespace Go.Proofs.YthlhekkcjficdaaGreat
open Go Go.RowKit Dig
set_option linter.unusedVariables false
end Go.Proofs.YthlhekkcjficdaaGreat


/- The factors of a product are those of both. -/
namespace Go.Proofs.YthlhekkcjficdaaGreat
open Go Go.RowKit Dig
set_option linter.unusedVariables false
theorem gPs_cons (t : Int × Int × Int) (ps : List (Int × Int × Int)) : gPs (t :: ps) = gP (gPw (Pr t) t.2.2.toNat) (gPs ps) := by
  rw [show t :: ps = [t] ++ ps from rfl, gPs_app, gPs_one]; rfl
/-- Primes over prime numbers. -/
def AllPr (ps : List (Int × Int × Int)) : Prop := ∀ t ∈ ps, (∃ r, IsLf r r ∧ Pr t ∈ pOv r) ∧ 1 ≤ t.2.2
section
variable {p : Nat} {q : Int × Int}
end
theorem FaOk.all {x y k : Int} {ps : List (Int × Int × Int)} (h : FaOk x y k ps) : AllPr ps := fun t ht => by
  obtain ⟨h1, p, h2, h3⟩ := h.2.2.2.2 t ht
  exact ⟨⟨p, h2, h3⟩, h1.2.2.2.2.1⟩
theorem unit_norm {k : Int} (h : 0 ≤ k ∧ k < 4) : gN (turn k.toNat (1, 0)).1 (turn k.toNat (1, 0)).2 = 1 := by
  have : k = 0 ∨ k = 1 ∨ k = 2 ∨ k = 3 := by omega
  rcases this with rfl | rfl | rfl | rfl <;> rfl
section
variable {x y u v j k l : Int} {A B C : List (Int × Int × Int)}
end
section
variable {x y u v j k l : Int} {A B C : List (Int × Int × Int)}
end
end Go.Proofs.YthlhekkcjficdaaGreat


/- Lists of Gaussian integers that are read; the reference's order of them: what Sorted tells. -/
namespace Go.Proofs.YthlhekkcjficdaaGreat
open Go Go.RowKit Dig
set_option linter.unusedVariables false

/-- These numbers, canonical, one behind the other, can be read from here. -/
def SG (w : World) (o : Option Addr) (ps : List (Int × Int)) : Prop :=
  ps = [] ∨ ∃ g off cur, o = some ⟨g, off, none⟩ ∧ Bs w g cur 26 ∧ GD w ((cur.toList.drop off).take (ps.length * 4)) ps
theorem SG.bl {w w' : World} {o : Option Addr} {ps : List (Int × Int)} (h : SG w o ps) (hb : Below w.heap.size w w') : SG w' o ps := by
  rcases h with h | ⟨g, off, cur, rfl, x, d⟩
  · exact .inl h
  · exact .inr ⟨g, off, cur, rfl, x.bl hb, d.k (kb hb)⟩
theorem SG.of {w : World} {B n c : Nat} {o : Option Addr} {xs : List Value} {ps : List (Int × Int)} (L : Lst w B 26 4 (.slice o n c) n xs) (d : GD w xs ps) : n = ps.length ∧ n ≤ c ∧ SG w o ps := by
  have h1 := d.len
  have h2 := L.1.1
  have hn : n = ps.length := by omega
  rcases L.1.2 with ⟨e, h0⟩ | ⟨g, cap, cur, e, hb, hg, hnc, hcm, hcs, htake⟩
  · refine ⟨hn, by omega, .inl (List.eq_nil_of_length_eq_zero (by omega))⟩
  · simp only [Value.slice.injEq] at e
    obtain ⟨rfl, _, rfl⟩ := e
    refine ⟨hn, hnc, .inr ⟨g, 0, cur, rfl, hg, ?_⟩⟩
    rw [List.drop_zero, ← hn, htake]; exact d
theorem GD.take {w : World} : ∀ {xs : List Value} {ps : List (Int × Int)} (k : Nat), GD w xs ps → GD w (xs.take (k * 4)) (ps.take k)
  | [], [], k, _ => by simp; exact trivial
  | _ :: _ :: _ :: _ :: _, _ :: _, 0, _ => by simp; exact trivial
  | c1 :: c2 :: c3 :: c4 :: xs, p :: ps, k + 1, h => by
    rw [show (k + 1) * 4 = k * 4 + 1 + 1 + 1 + 1 by omega]
    exact ⟨h.1, GD.take k h.2⟩
theorem GD.drop {w : World} : ∀ {xs : List Value} {ps : List (Int × Int)} (k : Nat), GD w xs ps → GD w (xs.drop (k * 4)) (ps.drop k)
  | [], [], k, _ => by simp; exact trivial
  | _ :: _ :: _ :: _ :: _, _ :: _, 0, h => by simpa using h
  | c1 :: c2 :: c3 :: c4 :: xs, p :: ps, k + 1, h => by
    rw [show (k + 1) * 4 = k * 4 + 1 + 1 + 1 + 1 by omega]
    exact GD.drop k h.2
theorem SG.left {w : World} {o : Option Addr} {ps : List (Int × Int)} (h : SG w o ps) (k : Nat) (hk : k ≤ ps.length) : SG w o (ps.take k) := by
  rcases h with rfl | ⟨g, off, cur, rfl, x, d⟩
  · exact .inl (by simp)
  · refine .inr ⟨g, off, cur, rfl, x, ?_⟩
    have := d.take k
    rw [List.take_take, Nat.min_eq_left (by omega)] at this
    rw [List.length_take, Nat.min_eq_left hk]
    exact this
theorem SG.right {w : World} {g off : Nat} {ps : List (Int × Int)} (h : SG w (some ⟨g, off, none⟩) ps) (k : Nat) (hk : k < ps.length) : SG w (some ⟨g, off + k * 4, none⟩) (ps.drop k) := by
  rcases h with rfl | ⟨g, off, cur, e, x, d⟩
  · simp at hk
  · simp only [Option.some.injEq, Addr.mk.injEq, and_true] at e
    obtain ⟨rfl, rfl⟩ := e
    refine .inr ⟨_, _, cur, rfl, x, ?_⟩
    have := d.drop k
    rw [List.drop_take, List.drop_drop] at this
    rw [List.length_drop, Nat.sub_mul]
    exact this
/-- What the reference's Sorted makes of two lists, and of one. -/
def gle (a b : Int × Int) : Prop := gcmp a.1 a.2 b.1 b.2 ≤ 0
instance (a b : Int × Int) : Decidable (gle a b) := inferInstanceAs (Decidable (_ ≤ _))
def mrg : List (Int × Int) → List (Int × Int) → List (Int × Int)
  | [], vs => vs
  | a :: us, [] => a :: us
  | a :: us, b :: vs => if gle a b then a :: mrg us (b :: vs) else b :: mrg (a :: us) vs
theorem mrg_nil (us : List (Int × Int)) : mrg us [] = us := by cases us <;> rw [mrg]
theorem mrg_len : ∀ us vs : List (Int × Int), (mrg us vs).length = us.length + vs.length
  | [], vs => by rw [mrg]; simp
  | a :: us, [] => by rw [mrg]; simp
  | a :: us, b :: vs => by
    rw [mrg]
    split
    · rw [List.length_cons, mrg_len us (b :: vs)]; simp only [List.length_cons]; omega
    · rw [List.length_cons, mrg_len (a :: us) vs]; simp only [List.length_cons]; omega
def srt : Nat → List (Int × Int) → List (Int × Int)
  | 0, l => l
  | n + 1, l => if l.length < 2 then l else mrg (srt n (l.take (l.length / 2))) (srt n (l.drop (l.length / 2)))
theorem srt_len : ∀ (n : Nat) (l : List (Int × Int)), (srt n l).length = l.length
  | 0, l => rfl
  | n + 1, l => by
    rw [srt]
    split
    · rfl
    · rw [mrg_len, srt_len n, srt_len n, List.length_take, List.length_drop]; omega
theorem mrg_mem {p : Int × Int} : ∀ {us vs : List (Int × Int)}, p ∈ mrg us vs → p ∈ us ∨ p ∈ vs
  | [], vs, h => .inr (by rwa [mrg] at h)
  | a :: us, [], h => .inl (by rwa [mrg] at h)
  | a :: us, b :: vs, h => by
    rw [mrg] at h
    split at h
    · rcases List.mem_cons.1 h with rfl | h
      · exact .inl (List.mem_cons_self ..)
      · rcases mrg_mem h with h | h
        · exact .inl (List.mem_cons_of_mem _ h)
        · exact .inr h
    · rcases List.mem_cons.1 h with rfl | h
      · exact .inr (List.mem_cons_self ..)
      · rcases mrg_mem h with h | h
        · exact .inl h
        · exact .inr (List.mem_cons_of_mem _ h)
theorem srt_mem {p : Int × Int} : ∀ {n : Nat} {l : List (Int × Int)}, p ∈ srt n l → p ∈ l
  | 0, l, h => h
  | n + 1, l, h => by
    rw [srt] at h
    split at h
    · exact h
    · rcases mrg_mem h with h | h
      · exact List.mem_of_mem_take (srt_mem h)
      · exact List.mem_of_mem_drop (srt_mem h)
/-- What a list that is read holds, by its block's cells. -/
theorem SG.open {w : World} {o : Option Addr} {ps : List (Int × Int)} (h : SG w o ps) (hn : 0 < ps.length) : ∃ g off cur X, o = some ⟨g, off, none⟩ ∧ Bs w g cur 26 ∧ GD w X ps ∧ ∀ (j k : Nat) (u : Value), X[j + k]? = some u → cur[off + j + k]? = some u := by
  rcases h with rfl | ⟨g, off, cur, rfl, x, d⟩
  · simp at hn
  · refine ⟨g, off, cur, _, rfl, x, d, fun j k u hj => ?_⟩
    have hlt : j + k < ps.length * 4 := by
      rcases Nat.lt_or_ge (j + k) (ps.length * 4) with h1 | h1
      · exact h1
      · rw [List.getElem?_eq_none (by rw [List.length_take]; omega)] at hj; cases hj
    rw [List.getElem?_take, if_pos hlt, List.getElem?_drop, Array.getElem?_toList] at hj
    rw [Nat.add_assoc]; exact hj
/-- One step of the merging. -/
theorem mrg_left {us vs : List (Int × Int)} {i j : Nat} (hi : i < us.length) (h : ∀ hj : j < vs.length, gle us[i] vs[j]) : mrg (us.drop i) (vs.drop j) = us[i] :: mrg (us.drop (i + 1)) (vs.drop j) := by
  rw [List.drop_eq_getElem_cons hi]
  rcases Nat.lt_or_ge j vs.length with hj | hj
  · rw [List.drop_eq_getElem_cons hj, mrg, if_pos (h hj)]
  · rw [List.drop_eq_nil_of_le hj, mrg_nil, mrg_nil]
theorem mrg_right {us vs : List (Int × Int)} {i j : Nat} (hj : j < vs.length) (h : ∀ hi : i < us.length, ¬ gle us[i] vs[j]) : mrg (us.drop i) (vs.drop j) = vs[j] :: mrg (us.drop i) (vs.drop (j + 1)) := by
  rw [List.drop_eq_getElem_cons hj]
  rcases Nat.lt_or_ge i us.length with hi | hi
  · rw [List.drop_eq_getElem_cons hi, mrg, if_neg (h hi)]
  · rw [List.drop_eq_nil_of_le hi, mrg, mrg]
end Go.Proofs.YthlhekkcjficdaaGreat

