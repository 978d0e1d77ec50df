/- gdet: eliminate. -/
import Derived.Test.YtnkimagnmnocdaaGreatS4ToSc

namespace Go.Proofs.YtnkimagnmnocdaaGreat
open Go Go.RowKit Dig
set_option linter.unusedVariables false
def EntP (f : Nat) (bnd caps : Array Value) : Prop := ∀ v w1, Sem.run Tryz.prog (callFunc f (bnd.push v ++ caps)) w1 = .ok (.enter f (bnd.push v ++ caps)) w1
/-- A closure that brings the next pivot of a table: Q is kept from step to step, Fin tells that there is none. -/
def PivS (w0 : World) (f : Nat) (bnd caps : Array Value) (o : Option Addr) (n c pt h m W : Nat) (Q Fin : Nat → (Nat → Nat → Int × Int) → Bool → Prop) : Prop :=
  ∀ (k : Nat) (w : World) (A F : Nat → Nat → Int × Int) (odd : Bool) (rs : List Rw) (bs : List En), Q k A odd → Agr n W k A F → rs.length = n → RD w rs (mkM n W F) →
    St w0 (ls w0.heap.size 52 1 (.slice o n c) n (rs.map (·.v)) :: bx pt #[.slice o n c, .int .i64 (h : Int), .int .i64 (m : Int), .bool odd] 101 :: (bs ++ rs.map (Rw.e w0.heap.size))) w →
    Calls Tryz.prog f (bnd.push (.int .i64 (k : Int)) ++ caps) w fun e w' => ∃ v fd rs' A' F' odd' p, e = .returned (.tuple #[v, .bool fd]) ∧ PC w' v p.1 p.2 ∧
      ((fd = true ∧ k < n ∧ k < W ∧ Q (k + 1) A' odd' ∧ Agr n W k A' F' ∧ p = Dt.D k A' k k ∧ Dt.det k A' ≠ 0 ∧ ∀ m, m ≤ k → Dt.det m A' = Dt.det m A) ∨ (fd = false ∧ Fin k A odd ∧ A' = A ∧ F' = F ∧ odd' = odd)) ∧ rs'.length = n ∧ RD w' rs' (mkM n W F') ∧
      St w0 (ls w0.heap.size 52 1 (.slice o n c) n (rs'.map (·.v)) :: bx pt #[.slice o n c, .int .i64 (h : Int), .int .i64 (m : Int), .bool odd'] 101 :: (bs ++ rs'.map (Rw.e w0.heap.size))) w' ∧ Kp w w'
theorem perm_in {α : Type} {ds hd bs rows : List α} : (ds ++ (hd ++ (bs ++ rows))).Perm (hd ++ ((ds ++ bs) ++ rows)) := by rw [List.append_assoc ds]; exact List.perm_append_comm_assoc ds hd (bs ++ rows)
theorem zl_sPx {p q : Int × Int} {l : Nat} (hp : zl l p) (hq : zl l q) : zl (l + 1) (sP p q) := ⟨zlen_subM hp.1 hq.1, zlen_subM hp.2 hq.2⟩
theorem Lst.capn {w : World} {B g n c sz : Nat} {ty : TypeId} {xs : List Value} (h : Lst w B ty sz (.slice (some ⟨g, 0, none⟩) n c) n xs) : n ≤ c := by
  rcases h.1.2 with ⟨e, h0⟩ | ⟨g', cap, cur, e, hb, hg, hnc, hcm, hcs, htake⟩
  · cases e
  · simp only [Value.slice.injEq, Option.some.injEq, Addr.mk.injEq, and_true, true_and] at e
    obtain ⟨rfl, rfl⟩ := e
    exact hnc
section
variable {w w0 : World} {f pt n c h m W L : Nat} {bnd caps : Array Value} {odd : Bool} {o : Option Addr} {rs : List Rw} {bs : List En} {A F : Nat → Nat → Int × Int} {Q Fin : Nat → (Nat → Nat → Int × Int) → Bool → Prop}
set_option maxHeartbeats 8000000 in
set_option maxRecDepth 20000 in
theorem eliminate_any (hst : St w0 (ls w0.heap.size 52 1 (.slice o n c) n (rs.map (·.v)) :: bx pt #[.slice o n c, .int .i64 (h : Int), .int .i64 (m : Int), .bool odd] 101 :: (bs ++ rs.map (Rw.e w0.heap.size))) w)
    (kb_bt : Hid (w0.heap.size ≤ pt)) (hf : EntP f bnd caps) (hpv : PivS w0 f bnd caps o n c pt h m W Q Fin) (hQ : Q 0 A odd) (hA : Agr n W 0 A F) (hrl : rs.length = n) (hd : RD w rs (mkM n W F)) (hn : n ≤ 1000) (hW : W ≤ 1000)
    (hB : ∀ k A odd, Q k A odd → ∀ m, m ≤ k → ∀ i, i < n → ∀ j, j < W → zl L (Dt.D m A i j)) (hL : L ≤ 3000000) :
    Calls Tryz.prog 69 #[.slice o n c, .func (.func f) bnd caps, .func (.func 31) #[] #[], .func (.func 72) #[] #[]] w fun e w' => ∃ o9 c9 xs r A' F' odd' rs', e = .returned (.slice o9 r c9) ∧ Fin r A' odd' ∧ Q r A' odd' ∧ GD w' xs (pvs A' r) ∧ Agr n W r A' F' ∧ rs'.length = n ∧ RD w' rs' (mkM n W F') ∧
      St w0 (ls w0.heap.size 28 4 (.slice o9 r c9) r xs :: ls w0.heap.size 52 1 (.slice o n c) n (rs'.map (·.v)) :: bx pt #[.slice o n c, .int .i64 (h : Int), .int .i64 (m : Int), .bool odd'] 101 :: (bs ++ rs'.map (Rw.e w0.heap.size))) w' ∧ Kp w w' := by
  have kk := KpF.r w
  have HPV := hide hpv
  have HL4 := hide (show L ≤ 40000000 by omega)
  have HL5 := hide (show L + L + 1 ≤ 100000000 by omega)
  have HL6 := hide (show L + L + 2 ≤ 20000000 by omega)
  have HBD := hide hB
  have HQ0 := hide hQ
  have HA0 := hide hA
  clear hpv hB hQ hA
  unfold EntP at hf
  go_enter Tryz.func69, Tryz.ntmps69
  have hs := hst
  clear hst
  refine wp_seq_k ?_
  intro K1 hK1
  refine rg [0] ?_
  refine sq ?_
  refine .mv ?_
  apply wpSq_end
  refine hK1 _ _ ?_
  refine wp_scope_k 9 ?_
  intro S hSr hSn hSg
  refine wp_seq_k ?_
  intro K2 hK2
  refine rg [0] ?_
  refine sq ?_
  refine .mv ?_
  apply wpSq_end
  refine hK2 _ _ ?_
  refine wp_seq_k ?_
  intro K3 hK3
  refine rg [0] ?_
  refine sq ?_
  refine .r0 ?_
  apply wpSq_end
  refine hK3 _ _ ?_
  refine wp_seq_k ?_
  intro K4 hK4
  refine wp_label ?_
  refine hK4 _ _ ?_
  refine wp_seq_k ?_
  intro K5 hK5
  refine wp_seq_k ?_
  intro K6 hK6
  refine rg [0] ?_
  refine sq ?_
  refine .mv ?_
  apply wpSq_end
  refine hK6 _ _ ?_
  refine wp_block ?_
  have hd1 := hs.2.1
  go_loopg [9, 10, 11] n (fun kz s9 s10 s11 wr => ∃ (k : Nat) (A F : Nat → Nat → Int × Int) (odd : Bool) (rs : List Rw) (f2 : Nat) (caps2 : Array Value) (o9 : Option Addr) (c9 : Nat) (xs : List Value), s11 = .int .i64 (k : Int) ∧ s10 = .func (.func f2) #[] caps2 ∧ s9 = .slice o9 k c9 ∧ k + kz = n ∧ Hid (k = 0 → f2 = 136 ∧ caps2 = #[]) ∧ Hid (Q k A odd) ∧ Hid (Agr n W k A F) ∧ rs.length = n ∧ RD wr rs (mkM n W F) ∧ GD wr xs (pvs A k) ∧ KpF w wr ∧
    St w0 (ls w0.heap.size 52 1 (.slice o n c) n (rs.map (·.v)) :: bx pt #[.slice o n c, .int .i64 (h : Int), .int .i64 (m : Int), .bool odd] 101 :: ls w0.heap.size 28 4 (.slice o9 k c9) k xs :: (bs ++ rs.map (Rw.e w0.heap.size))) wr)
  case atStart => exact ⟨0, A, F, odd, rs, 136, #[], none, 0, [], rfl, rfl, rfl, by omega, hide (fun _ => ⟨rfl, rfl⟩), HQ0, HA0, hrl, hd, GD.nil _, kk, (hs.l0 _ _).perm ((List.Perm.swap _ _ _).trans (List.Perm.cons _ (List.Perm.swap _ _ _)))⟩
  case round =>
  clear HQ0 HA0 hrl
  clear kk hd hs
  obtain ⟨k, A, F, odd, rs, f2, caps2, o9, c9, xs, rfl, rfl, rfl, hkn, HID, HQ, HA, hrl, hd, hL9, kk, hs⟩ := hrel
  have HO := ‹∀ (a' : Act) (w' : World), Handed _ _ a' w' → _›
  obtain ⟨g1, hg1⟩ : ∃ g, gk = g := ⟨_, rfl⟩
  refine wp_seq_k ?_
  intro K7 hK7
  refine wp_block ?_
  refine wp_seq_k ?_
  intro K8 hK8
  refine rg [0, 1, 2, 3, 4, 5, 6, 7, 8] ?_
  refine sq ?_
  refine .mv ?_
  refine sq ?_
  refine .mv ?_
  refine sq ?_
  intro K hK
  go_big_op
  go_fit (HPV.out k _ A F odd rs (ls w0.heap.size 28 4 (.slice o9 k c9) k xs :: bs) HQ.out HA.out hrl hd hs)
  have bb2 := hs.b
  rintro e w_2 ⟨_, fd, rs2, A2, F2, odd2, P, rfl, ⟨n_pa, o_pa, k_pa, c_pa, n_pb, o_pb, k_pb, c_pb, rfl, p1, p2⟩, HP, q1, hd2, hs', kp2⟩
  clear hs; have hs := hs'; clear hs'
  have bc2 := hs.b
  clear bb2 bc2
  refine hK _ _ rfl trivial ?_
  clear hK K
  refine sq ?_
  refine .mv ?_
  refine sq ?_
  refine .r0 ?_
  refine sq ?_
  refine .r0 ?_
  refine sq ?_
  refine .al hs ?_; clear hs; intro p_b1 w_3 hs n3 kb_b1
  refine sq ?_
  refine .s4 hs.g0 (fun _ => hs.u0 kb_b1) ?_; clear hs; intro w_4 hs hd4 ho4
  refine sq ?_
  refine .mv ?_
  apply wpSq_end
  refine hK8 _ _ ?_
  refine wp_seq_k ?_
  intro K9 hK9
  refine wp_block ?_
  refine wp_seq_k ?_
  intro K10 hK10
  refine rg [0, 1, 2] ?_
  refine sq ?_
  refine .mv ?_
  refine sq ?_
  refine .r0 ?_
  refine sq ?_
  refine .mv ?_
  apply wpSq_end
  refine hK10 _ _ ?_
  rcases HP with ⟨rfl, hkn2, hkW, hQ2, hA2, hP, hdet, hlead⟩ | ⟨rfl, hFin, rfl, rfl, rfl⟩
  · have HA2 := hide hA2
    have HQ2 := hide hQ2
    have HDT := hide hdet
    have HLD := hide hlead
    have HKN := hide hkn2
    have HKW := hide hkW
    have HB2 := hide (HBD.out (k + 1) A2 odd2 hQ2)
    have HPE := hide hP
    have LP := hide (show zl L P by rw [hP]; exact HB2.out k (by omega) k hkn2 k hkW)
    clear hA2 hQ2 hdet hlead hP
    refine cf ?_
    refine wp_seq_k ?_
    intro K11 hK11
    refine rg [0, 1, 2] ?_
    refine sq ?_
    refine .mv ?_
    refine sq ?_
    refine .r0 ?_
    refine sq ?_
    refine .mv ?_
    apply wpSq_end
    refine hK11 _ _ ?_
    by_cases hk0 : k = 0
    · have t1 : k < 1 := by omega
      have hdv : DivF w_4 f2 caps2 [] (Dt.det k A2) := by
        obtain ⟨e1, e2⟩ := HID.out hk0
        exact .inl ⟨e1, e2, rfl, by rw [hk0]; rfl⟩
      clear hk0
      refine cf ?_
      refine wp_skip ?_
      refine hK9 _ _ ?_
      refine wp_seq_k ?_
      intro K12 hK12
      refine wp_seq_k ?_
      intro K13 hK13
      refine rg [0, 1, 2, 3, 4, 5] ?_
      refine sq ?_
      refine .mv ?_
      refine sq ?_
      refine .mv ?_
      refine sq ?_
      refine .r0 ?_
      refine sq ?_
      refine .r0 ?_
      refine sq ?_
      refine .r0 ?_
      refine sq ?_
      refine .mv ?_
      apply wpSq_end
      refine hK13 _ _ ?_
      refine wp_block ?_
      generalize hoT : (@ite (Option Addr) (c = k + 1) _ o _) = oT
      have HT := hide hoT
      clear hoT
      have hs := hs.perm ((List.Perm.swap _ _ _).trans (List.Perm.cons _ ((List.Perm.swap _ _ _).trans (List.Perm.cons _ (List.Perm.swap _ _ _)))))
      have k1_3 := (kb n3).o hd4 ho4
      replace hd2 := hd2.k k1_3
      replace p1 := p1.k k1_3
      replace p2 := p2.k k1_3
      have k0_3 := (kp2.b n3).o hd4 ho4
      replace hL9 := hL9.k k0_3
      replace kk := kk.k k0_3
      have hd5 := hs.2.1
      go_loopg [43] (n - (k + 1)) (fun kz s43 wr => ∃ (q : Nat) (rs : List Rw), s43 = .int .i64 (q : Int) ∧ q + kz = n - (k + 1) ∧ rs.length = n ∧ RD wr rs (mkM n W (Elm k A2 F2 (k + 1 + q) (k + 1))) ∧ ZC wr (.agg #[.bool n_pa, .slice o_pa k_pa c_pa]) P.1 ∧ ZC wr (.agg #[.bool n_pb, .slice o_pb k_pb c_pb]) P.2 ∧ GD wr xs (pvs A k) ∧ DivF wr f2 caps2 ([] : List En) (Dt.det k A2) ∧ KpF w wr ∧
        St w0 (ls w0.heap.size 52 1 (.slice o n c) n (rs.map (·.v)) :: bx pt #[.slice o n c, .int .i64 (h : Int), .int .i64 (m : Int), .bool odd2] 101 :: ls w0.heap.size 28 4 (.slice o9 k c9) k xs :: bx p_b1 #[.bool n_pa, .slice o_pa k_pa c_pa, .bool n_pb, .slice o_pb k_pb c_pb] 28 :: ((([] : List En) ++ bs) ++ rs.map (Rw.e w0.heap.size))) wr)
      case atStart => exact ⟨0, rs2, rfl, by omega, q1, by rw [Nat.add_zero, ← Elm_0]; exact hd2, p1, p2, hL9, hdv, kk, hs⟩
      case round =>
      clear hL9 hd kk p1 p2 hd2 hdv hs
      obtain ⟨q, rs, rfl, hqn, hrl, hd, z5, z6, hL9, hdv, kk, hs⟩ := hrel
      have HO2 := ‹∀ (a' : Act) (w' : World), Handed _ _ a' w' → _›
      obtain ⟨g2, hg2⟩ : ∃ g, gk = g := ⟨_, rfl⟩
      have Lz5 := hide LP.out.1
      have Lz6 := hide LP.out.2
      by_cases hq : q < n - (k + 1)
      · have HQQ := hide hq
        have HI := hide (show k + 1 + q < n by omega)
        obtain ⟨oi, ci, hvi⟩ := hs.rowv (bs := bx pt #[.slice o n c, .int .i64 (h : Int), .int .i64 (m : Int), .bool odd2] 101 :: ls w0.heap.size 28 4 (.slice o9 k c9) k xs :: bx p_b1 #[.bool n_pa, .slice o_pa k_pa c_pa, .bool n_pb, .slice o_pb k_pb c_pb] 28 :: (([] : List En) ++ bs)) hd (p := k + 1 + q) (K := W) (by rw [len_mkM]; omega) (by rw [mkM_row (by omega)]; simp)
        have LO : Lst wr w0.heap.size 52 1 (.slice o n c) n _ := hs.1.1.1
        obtain ⟨gO, curO, rfl, xO, hcO⟩ := LO.box (by omega)
        have eI := hcO _ _ hvi
        have hcap := LO.capn
        obtain rfl : oT = some ⟨gO, k + 1, none⟩ := by
          have := HT.out
          rw [if_neg (by omega)] at this
          rw [← this]; simp
        clear LO hcO HT
        refine wp_seq_k ?_
        intro K14 hK14
        refine rg [0] ?_
        refine sq ?_
        refine .r0 ?_
        apply wpSq_end
        refine hK14 _ _ ?_
        refine wp_seq_k ?_
        intro K15 hK15
        refine ct ?_
        refine wp_skip ?_
        refine hK15 _ _ ?_
        refine wp_seq_k ?_
        intro K16 hK16
        refine wp_block ?_
        refine wp_seq_k ?_
        intro K17 hK17
        refine rg [0, 1, 2] ?_
        refine sq ?_
        refine .r0 ?_
        refine sq ?_
        refine .r1 (xO.cell _ eI) ?_
        refine sq ?_
        refine .mv ?_
        apply wpSq_end
        refine hK17 _ _ ?_
        refine wp_seq_k ?_
        intro K18 hK18
        refine rg [0, 1, 2] ?_
        refine sq ?_
        refine .mv ?_
        refine sq ?_
        refine .r0 ?_
        refine sq ?_
        refine .mv ?_
        apply wpSq_end
        refine hK18 _ _ ?_
        refine wp_block ?_
        have hd6 := hs.2.1
        go_loopg [16] (W - (k + 1)) (fun kz s16 wr => ∃ (j : Nat) (rs : List Rw), s16 = .int .i64 (j : Int) ∧ j + kz = W ∧ k + 1 ≤ j ∧ rs.length = n ∧ RD wr rs (mkM n W (Elm k A2 F2 (k + 1 + q) j)) ∧ (rs.map (·.v))[k + 1 + q]? = some (.slice oi W ci) ∧ ZC wr (.agg #[.bool n_pa, .slice o_pa k_pa c_pa]) P.1 ∧ ZC wr (.agg #[.bool n_pb, .slice o_pb k_pb c_pb]) P.2 ∧ GD wr xs (pvs A k) ∧ DivF wr f2 caps2 ([] : List En) (Dt.det k A2) ∧ KpF w wr ∧
          St w0 (ls w0.heap.size 52 1 (.slice (some ⟨gO, 0, none⟩) n c) n (rs.map (·.v)) :: bx pt #[.slice (some ⟨gO, 0, none⟩) n c, .int .i64 (h : Int), .int .i64 (m : Int), .bool odd2] 101 :: ls w0.heap.size 28 4 (.slice o9 k c9) k xs :: bx p_b1 #[.bool n_pa, .slice o_pa k_pa c_pa, .bool n_pb, .slice o_pb k_pb c_pb] 28 :: ((([] : List En) ++ bs) ++ rs.map (Rw.e w0.heap.size))) wr)
        case atStart => exact ⟨k + 1, rs, by rfl, by omega, Nat.le_refl _, hrl, hd, hvi, z5, z6, hL9, hdv, kk, hs⟩
        case round =>
        clear hrl hvi
        clear z5 z6 hL9 hd kk hdv xO hs
        obtain ⟨j, rs, rfl, hjW, hkj, hrl, hd, hri, z5, z6, hL9, hdv, kk, hs⟩ := hrel
        have HRI := hide hri
        clear hri
        have Lz5 := hide LP.out.1
        have Lz6 := hide LP.out.2
        by_cases hj : j < W
        · have HJ := hide hj
          obtain ⟨a, gp, cp, xp, b, gq, cq, xq, r2, rfl, hab, hvp, hvq, hxp, hxq, hs⟩ := hs.rows2 (bs := bx pt #[.slice (some ⟨gO, 0, none⟩) n c, .int .i64 (h : Int), .int .i64 (m : Int), .bool odd2] 101 :: ls w0.heap.size 28 4 (.slice o9 k c9) k xs :: bx p_b1 #[.bool n_pa, .slice o_pa k_pa c_pa, .bool n_pb, .slice o_pb k_pb c_pb] 28 :: (([] : List En) ++ bs)) hd (p := k) (q := k + 1 + q) (K := W) (by omega) (by rw [len_mkM]; exact HI.out) (by rw [mkM_row HKN.out]; simp) (by rw [mkM_row HI.out]; simp) (by omega)
          have hri := HRI.out
          rw [hvq] at hri
          simp only [Option.some.injEq, Value.slice.injEq, true_and] at hri
          obtain ⟨rfl, rfl⟩ := hri
          have LO : Lst wr w0.heap.size 52 1 (.slice (some ⟨gO, 0, none⟩) n c) n _ := hs.1.2.2.1.1
          obtain ⟨gO', curO, eO', xO, hcO⟩ := LO.box (by have := HI.out; omega)
          simp only [Option.some.injEq, Addr.mk.injEq, and_true] at eO'
          obtain rfl : gO = gO' := eO'
          have eK := hcO _ _ hvp
          have LQ : Lst wr w0.heap.size 28 4 (.slice (some ⟨gq, 0, none⟩) W cq) W xq := hs.1.1.1
          obtain ⟨gq', curQ, eQ, xQ, hcQ⟩ := LQ.box (by omega)
          simp only [Option.some.injEq, Addr.mk.injEq, and_true] at eQ
          obtain rfl : gq = gq' := eQ
          have LPr : Lst wr w0.heap.size 28 4 (.slice (some ⟨gp, 0, none⟩) W cp) W xp := hs.1.2.1.1
          obtain ⟨gp', curP, eP, xP, hcP⟩ := LPr.box (by omega)
          simp only [Option.some.injEq, Addr.mk.injEq, and_true] at eP
          obtain rfl : gp = gp' := eP
          have hxq2 := hxq
          rw [mkM_row HI.out] at hxq2
          rw [mkM_row HKN.out] at hxp
          obtain ⟨a1, a2, a3, a4, a5, a6, a7, a8, e1, e2, e3, e4, x1, x2⟩ := hxq2.els j (by simpa using hj)
          obtain ⟨b1, b2, b3, b4, b5, b6, b7, b8, e5, e6, e7, e8, y1, y2⟩ := hxq2.els k (by simpa using HKW.out)
          obtain ⟨d1, d2, d3, d4, d5, d6, d7, d8, e9, e10, e11, e12, y3, y4⟩ := hxp.els j (by simpa using hj)
          rw [show ((List.range W).map (Elm k A2 F2 (k + 1 + q) j (k + 1 + q)))[j]'(by simpa using hj) = F2 (k + 1 + q) j by simp [Elm_here]] at x1 x2
          rw [show ((List.range W).map (Elm k A2 F2 (k + 1 + q) j (k + 1 + q)))[k]'(by simpa using HKW.out) = F2 (k + 1 + q) k by simp [Elm_k]] at y1 y2
          rw [show ((List.range W).map (Elm k A2 F2 (k + 1 + q) j k))[j]'(by simpa using hj) = F2 k j by simp [Elm_up]] at y3 y4
          have EE := hide (Elm_div HA2.out HI.out hj (by omega) (by omega) HKN.out HKW.out HDT.out)
          have LX : zl L (F2 (k + 1 + q) j) := by rw [HA2.out _ HI.out j hj (by omega) (by omega)]; exact HB2.out k (by omega) _ HI.out j hj
          have LY : zl L (F2 (k + 1 + q) k) := by rw [HA2.out _ HI.out k HKW.out (by omega) (by omega)]; exact HB2.out k (by omega) _ HI.out k HKW.out
          have LU : zl L (F2 k j) := by rw [HA2.out k HKN.out j hj (by omega) (by omega)]; exact HB2.out k (by omega) k HKN.out j hj
          replace x1 := x1.zn LX.1
          replace x2 := x2.zn LX.2
          replace y1 := y1.zn LY.1
          replace y2 := y2.zn LY.2
          replace y3 := y3.zn LU.1
          replace y4 := y4.zn LU.2
          replace e1 := hcQ _ _ e1
          replace e2 := hcQ _ _ e2
          replace e3 := hcQ _ _ e3
          replace e4 := hcQ _ _ e4
          replace e5 := hcQ _ _ e5
          replace e6 := hcQ _ _ e6
          replace e7 := hcQ _ _ e7
          replace e8 := hcQ _ _ e8
          replace e9 := hcP _ _ e9
          replace e10 := hcP _ _ e10
          replace e11 := hcP _ _ e11
          replace e12 := hcP _ _ e12
          obtain ⟨X, hX⟩ : ∃ X, F2 (k + 1 + q) j = X := ⟨_, rfl⟩
          obtain ⟨Y, hY⟩ : ∃ Y, F2 (k + 1 + q) k = Y := ⟨_, rfl⟩
          obtain ⟨U, hU⟩ : ∃ U, F2 k j = U := ⟨_, rfl⟩
          obtain ⟨V, hV⟩ : ∃ V, Dt.det k A2 = V := ⟨_, rfl⟩
          have HT := hide (Elm_step (k := k) (A := A2) (F := F2) (i := k + 1 + q) (j := j) (by omega) (by omega))
          have HTZ := hide (show True from trivial)
          obtain ⟨Z, hZ⟩ : ∃ Z, Dt.D (k + 1) A2 (k + 1 + q) j = Z := ⟨_, rfl⟩
          have E3 := EE.out
          rw [← HPE.out, hX, hY, hU, hV, hZ] at E3
          rw [hX] at x1 x2 LX
          rw [hY] at y1 y2 LY
          rw [hU] at y3 y4 LU
          rw [hV] at hdv
          have HTS := HT.out
          rw [hZ] at HTS
          have HS := hide HTS
          have HV := hide hV
          have E1 := hide (show X.1 * P.1 - X.2 * P.2 - (Y.1 * U.1 - Y.2 * U.2) = (mP V Z).1 from congrArg Prod.fst E3)
          have E2 := hide (show X.1 * P.2 + X.2 * P.1 - (Y.1 * U.2 + Y.2 * U.1) = (mP V Z).2 from congrArg Prod.snd E3)
          have LM := hide (show zl (L + L + 1) (mP X P) from zl_mP LX LP.out)
          have LN := hide (show zl (L + L + 1) (mP Y U) from zl_mP LY LU)
          have LZ := hide (show zl (L + L + 2) (mP V Z) by rw [← E3]; exact zl_sPx LM.out LN.out)
          have hent := hdv.ent
          unfold Ent1 at hent
          clear LO hcO hvp hvq LQ hcQ hxq2 LPr hcP hxp hX hY hU hV hZ EE HT E3 LX LY LU HTS HRI
          refine wp_seq_k ?_
          intro K19 hK19
          refine wp_seq_k ?_
          intro K20 hK20
          refine rg [0, 1, 2, 3] ?_
          refine sq ?_
          refine .mv ?_
          refine sq ?_
          refine .mv ?_
          refine sq ?_
          refine .r0 ?_
          refine sq ?_
          refine .r0 ?_
          apply wpSq_end
          refine hK20 _ _ ?_
          refine ct ?_
          refine wp_skip ?_
          refine hK19 _ _ ?_
          refine wp_seq_k ?_
          intro K21 hK21
          refine wp_block ?_
          refine wp_region_f4 [(0, false), (1, false), (2, false), (3, false), (4, false), (5, false), (6, false), (7, false), (8, false), (10, false), (11, false), (12, false), (13, false), (14, false), (15, false), (16, false), (17, false), (18, false), (19, false), (20, false), (9, true), (21, true), (22, true), (23, true), (24, false)] [25] [] (fun _ => default) [99, 99, 99, 99, 99, 99, 99, 0, 1, 99, 99, 99, 99, 0, 99, 99, 99, 2, 99, 99, 3, 99, 99, 99, 99, 99] [(25, 0)] (.c xQ (.c hs.g5 (.c xO (.c xP .n)))) fn fun w_7 n7 => ?_
          replace xO := xO.bl n7; replace xQ := xQ.bl n7; replace xP := xP.bl n7; replace hs := hs.bl n7
          refine fmv ?_
          refine fmv ?_
          refine fmv ?_
          refine fmv ?_
          refine fmv ?_
          refine fmv ?_
          refine f0 ?_
          apply wpFl_ld rfl rfl; (case h1 => intro w' hC K hK; have c0 := Bs.cell hC ((j * 4)) e1; have c1 := Bs.cell hC ((j * 4) + 1) e2; have c2 := Bs.cell hC ((j * 4) + 2) e3; have c3 := Bs.cell hC ((j * 4) + 3) e4; go_big_op; exact hK); iterate 4 kernel_rfl
          refine f4 ?_
          refine fmv ?_
          refine fmv ?_
          refine f0 ?_
          apply wpFl_ld rfl rfl; (case h1 => intro w' hC K hK; have c0 := Bs.cell hC ((k * 4)) e5; have c1 := Bs.cell hC ((k * 4) + 1) e6; have c2 := Bs.cell hC ((k * 4) + 2) e7; have c3 := Bs.cell hC ((k * 4) + 3) e8; go_big_op; exact hK); iterate 4 kernel_rfl
          refine fmv ?_
          refine fmv ?_
          refine f0 ?_
          apply wpFl_ld rfl rfl; (case h1 => intro w' hC K hK; have c0 := Bs.cell hC (k) eK; go_big_op; exact hK); iterate 4 kernel_rfl
          refine fmv ?_
          refine f0 ?_
          apply wpFl_ld rfl rfl; (case h1 => intro w' hC K hK; have c0 := Bs.cell hC ((j * 4)) e9; have c1 := Bs.cell hC ((j * 4) + 1) e10; have c2 := Bs.cell hC ((j * 4) + 2) e11; have c3 := Bs.cell hC ((j * 4) + 3) e12; go_big_op; exact hK); iterate 4 kernel_rfl
          refine fl fun w_8 n8 => ?_
          replace xO := xO.bl n8; replace xQ := xQ.bl n8; replace xP := xP.bl n8; replace hs := hs.bl n8
          intro K hK
          have k0_2 := (kb n7).b n8
          replace x1 := x1.k k0_2
          replace x2 := x2.k k0_2
          replace z5 := z5.k k0_2
          replace z6 := z6.k k0_2
          go_big_op
          go_fit (gMul_any (.mk' x1 x2) (.mk' (z5.zn Lz5.out) (z6.zn Lz6.out)) HL4.out HL4.out HL4.out HL4.out)
          rintro e w_9 ⟨_, rfl, ⟨n_fa, o_fa, k_fa, c_fa, n_fb, o_fb, k_fb, c_fb, rfl, f1, f2⟩, hb_9⟩
          replace xO := xO.bl hb_9; replace xQ := xQ.bl hb_9; replace xP := xP.bl hb_9; replace hs := hs.bl hb_9
          have Lf1 := hide (f1.lenOf (LM.out.1))
          have Lf2 := hide (f2.lenOf (LM.out.2))
          refine hK _ _ rfl ⟨hb_9, (And.intro xQ (And.intro hs.g5 (And.intro xO (And.intro xP trivial))))⟩ ?_
          clear hK K
          refine fl fun w_10 n10 => ?_
          replace xO := xO.bl n10; replace xQ := xQ.bl n10; replace xP := xP.bl n10; replace hs := hs.bl n10
          intro K hK
          have k0_4 := (k0_2.b hb_9).b n10
          replace y1 := y1.k k0_4
          replace y2 := y2.k k0_4
          replace y3 := y3.k k0_4
          replace y4 := y4.k k0_4
          go_big_op
          go_fit (gMul_any (.mk' y1 y2) (.mk' y3 y4) HL4.out HL4.out HL4.out HL4.out)
          rintro e w_11 ⟨_, rfl, ⟨n_ga, o_ga, k_ga, c_ga, n_gb, o_gb, k_gb, c_gb, rfl, g1, g2⟩, hb_11⟩
          replace xO := xO.bl hb_11; replace xQ := xQ.bl hb_11; replace xP := xP.bl hb_11; replace hs := hs.bl hb_11
          have Lg1 := hide (g1.lenOf (LN.out.1))
          have Lg2 := hide (g2.lenOf (LN.out.2))
          refine hK _ _ rfl ⟨hb_11, (And.intro xQ (And.intro hs.g5 (And.intro xO (And.intro xP trivial))))⟩ ?_
          clear hK K
          refine fl fun w_12 n12 => ?_
          replace xO := xO.bl n12; replace xQ := xQ.bl n12; replace xP := xP.bl n12; replace hs := hs.bl n12
          intro K hK
          have k3_6 := ((kb n10).b hb_11).b n12
          replace f1 := f1.k k3_6
          replace f2 := f2.k k3_6
          have k5_6 := kb n12
          replace g1 := g1.k k5_6
          replace g2 := g2.k k5_6
          go_big_op
          go_fit (gSub_any (.mk' (f1.zn Lf1.out) (f2.zn Lf2.out)) (.mk' (g1.zn Lg1.out) (g2.zn Lg2.out)) HL5.out HL5.out HL5.out HL5.out)
          rintro e w_13 ⟨_, rfl, ⟨n_sa, o_sa, k_sa, c_sa, n_sb, o_sb, k_sb, c_sb, rfl, s1, s2⟩, hb_13⟩
          replace xO := xO.bl hb_13; replace xQ := xQ.bl hb_13; replace xP := xP.bl hb_13; replace hs := hs.bl hb_13
          rw [E1.out] at s1
          rw [E2.out] at s2
          refine hK _ _ rfl ⟨hb_13, (And.intro xQ (And.intro hs.g5 (And.intro xO (And.intro xP trivial))))⟩ ?_
          clear hK K
          refine fl fun w_14 n14 => ?_
          replace xO := xO.bl n14; replace xQ := xQ.bl n14; replace xP := xP.bl n14; replace hs := hs.bl n14
          intro K hK
          have k0_8 := (((k0_4.b hb_11).b n12).b hb_13).b n14
          replace hdv := hdv.k k0_8
          have k7_8 := kb n14
          replace s1 := s1.k k7_8
          replace s2 := s2.k k7_8
          go_big_op
          go_fit (hdv.call (hs.sub (.cons _ (.cons _ (.cons _ (.cons _ (.cons _ (.cons _ ((List.sublist_append_left ([] : List En) bs).trans (List.sublist_append_left _ _))))))))).1 (.mk' s1 s2) LZ.out HL6.out)
          rintro e w_15 ⟨_, rfl, ⟨n_ta, o_ta, k_ta, c_ta, n_tb, o_tb, k_tb, c_tb, rfl, t1, t2⟩, hb_15⟩
          replace xO := xO.bl hb_15; replace xQ := xQ.bl hb_15; replace xP := xP.bl hb_15; replace hs := hs.bl hb_15
          refine hK _ _ rfl ⟨hb_15, (And.intro xQ (And.intro hs.g5 (And.intro xO (And.intro xP trivial))))⟩ ?_
          clear hK K
          refine f0 ?_
          refine e0 hs ?_; clear hs; intro w_16 hs n16
          clear f1 f2 g1 g2 s1 s2
          replace xO := xO.bl n16; replace xQ := xQ.bl n16; replace xP := xP.bl n16
          refine tl ?_
          refine .i4 0 hs (j := j) (by exact HJ.out) ?_ (e := fun _ hB hO => (And.intro True.intro (And.intro (hs.g5.frame hO (hs.ne 5 0)) (And.intro (xO.frame hO (hs.ne 2 0)) (And.intro (xP.frame hO (hs.ne 1 0)) True.intro))))); clear hs; intro w_17 hs kp17 hd17 ho17 hw17; simp only [List.set_cons_zero] at hs
          clear xO
          clear xQ
          clear xP
          apply wpTail_end
          refine hK21 _ _ ?_
          refine rg [0, 1, 2] ?_
          refine sq ?_
          refine .mv ?_
          refine sq ?_
          refine .r0 ?_
          refine sq ?_
          refine .mv ?_
          apply wpSq_end
          have k0_11 := ((k0_8.b hb_15).b n16).t kp17
          replace hd := hd.k k0_11
          replace hxq := hxq.k k0_11
          have k9_11 := (kb n16).t kp17
          replace t1 := t1.k k9_11
          replace t2 := t2.k k9_11
          have k2_11 := ((((((((kb hb_9).b n10).b hb_11).b n12).b hb_13).b n14).b hb_15).b n16).t kp17
          replace z5 := z5.k k2_11
          replace z6 := z6.k k2_11
          replace hL9 := hL9.k k0_11
          have k8_11 := ((kb hb_15).b n16).t kp17
          replace hdv := hdv.k k8_11
          replace kk := kk.k k0_11
          refine ‹∀ (a' : Act) (w' : World), Handed _ _ a' w' → _› _ _ ?_
          have hs := hs.unrows2 (bs := bx pt #[.slice (some ⟨gO, 0, none⟩) n c, .int .i64 (h : Int), .int .i64 (m : Int), .bool odd2] 101 :: ls w0.heap.size 28 4 (.slice o9 k c9) k xs :: bx p_b1 #[.bool n_pa, .slice o_pa k_pa c_pa, .bool n_pb, .slice o_pb k_pb c_pb] 28 :: (([] : List En) ++ bs))
          rw [mkM_row HI.out] at hxq
          have hd := RD.set' (r1 := a ++ (⟨.slice (some ⟨gp, 0, none⟩) W cp, W, xp⟩ : Rw) :: b) (v := .slice (some ⟨gq, 0, none⟩) W cq) (n := W) (by simp) (GD.put t1 t2 hxq (q := j) (by simpa using HJ.out)) (by simpa using hd) hab
          rw [show ((Z.1, Z.2) : Int × Int) = Z from rfl, mkM_set HI.out, HS.out] at hd
          rw [← HV.out] at hdv
          go_roundg (gk - 1)
          case rel => exact ⟨j + 1, _, by rfl, by omega, by omega, by simpa using hrl, by simpa using hd, by rw [List.map_append, List.map_cons, List.map_append, List.map_cons, ← List.cons_append, ← List.append_assoc, List.getElem?_append_right (by simpa using Nat.le_of_eq hab)]; simp at hab ⊢; simp [← hab], z5, z6, hL9, hdv, kk, hs⟩
          case measure => omega
        · obtain rfl : W = j := by omega
          have HX := hide hj
          refine wp_seq_k ?_
          intro K19 hK19
          refine wp_seq_k ?_
          intro K20 hK20
          refine rg [0, 1, 2, 3] ?_
          refine sq ?_
          refine .mv ?_
          refine sq ?_
          refine .mv ?_
          refine sq ?_
          refine .r0 ?_
          refine sq ?_
          refine .r0 ?_
          apply wpSq_end
          refine hK20 _ _ ?_
          refine cf ?_
          refine wp_exit ?_
          refine hK16 _ _ ?_
          refine rg [0, 1] ?_
          refine sq ?_
          refine .r0 ?_
          refine sq ?_
          refine .mv ?_
          apply wpSq_end
          refine HO2 _ _ ?_
          go_roundg (g2 - 1)
          case rel => exact ⟨q + 1, rs, by rfl, by omega, hrl, by rw [show k + 1 + (q + 1) = k + 1 + q + 1 from rfl, ← Elm_row]; exact hd, z5, z6, hL9, hdv, kk, hs⟩
          case measure => omega
      · have hqe : k + 1 + q = n := by omega
        have HX := hide hq
        have HE := hide hqe
        clear hqe
        refine wp_seq_k ?_
        intro K14 hK14
        refine rg [0] ?_
        refine sq ?_
        refine .r0 ?_
        apply wpSq_end
        refine hK14 _ _ ?_
        refine wp_seq_k ?_
        intro K15 hK15
        refine cf ?_
        refine wp_exit ?_
        refine hK12 _ _ ?_
        refine rg [0, 1, 2, 3, 4] ?_
        refine sq ?_
        refine .mv ?_
        refine sq ?_
        refine .r4 hs.g3.f4 ?_
        refine sq ?_
        refine .al hs ?_; clear hs; intro p_b2 w_6 hs n6 kb_b2
        refine sq ?_
        have k0_1 := kb n6
        replace z5 := z5.k k0_1
        replace z6 := z6.k k0_1
        replace hL9 := hL9.k k0_1
        replace hL9 := hL9.snoc (.mk' z5 z6)
        refine .ap 3 hs hs.g0 ?_; clear hs; intro o_L_7 c_L_7 w_7 hs kp7 hw7; simp only [List.set_cons_succ, List.set_cons_zero] at hs
        refine sq ?_
        refine .mv ?_
        apply wpSq_end
        refine hK7 _ _ ?_
        refine rg [0, 1, 2] ?_
        refine sq ?_
        refine .mv ?_
        refine sq ?_
        refine .r0 ?_
        refine sq ?_
        refine .mv ?_
        apply wpSq_end
        have k0_2 := k0_1.t kp7
        replace hd := hd.k k0_2
        have k1_2 := kp7
        replace hL9 := hL9.k k1_2
        replace kk := kk.k k0_2
        refine HO _ _ ?_
        have hs := hs.sub (show List.Sublist (ls w0.heap.size 52 1 (.slice o n c) n (rs.map (·.v)) :: bx pt #[.slice o n c, .int .i64 (h : Int), .int .i64 (m : Int), .bool odd2] 101 :: _ :: (bs ++ rs.map (Rw.e w0.heap.size))) _ from .cons _ (.cons_cons _ (.cons_cons _ (.cons_cons _ (.cons _ (List.Sublist.append_right (List.sublist_append_right ([] : List En) bs) _))))))
        go_roundg (g1 - 1)
        case rel => exact ⟨k + 1, A2, Elm k A2 F2 n (k + 1), odd2, rs, f2, caps2, _, _, _, by rfl, rfl, by rfl, by omega, hide (fun h => absurd h (by omega)), HQ2, hide Elm_end, hrl, by rw [← HE.out] at hd ⊢; exact hd, by rw [pvs_succ, ← pvs_congr HLD.out, ← Dt.D_diag, ← HPE.out]; exact hL9, kk, hs⟩
        case measure => omega
    · have t1 : 0 < k := by omega
      obtain ⟨k1, hk1⟩ : ∃ k1, k = k1 + 1 := ⟨k - 1, by omega⟩
      have HK1 := hide hk1
      have LL : Lst w_4 w0.heap.size 28 4 (.slice o9 k c9) k xs := (hs.1.at (i := 3) rfl).1
      obtain ⟨gL, curL, rfl, xL, hcL⟩ := LL.box t1
      have k0_3 := (kp2.b n3).o hd4 ho4
      replace hL9 := hL9.k k0_3
      obtain ⟨l1, l2, l3, l4, l5, l6, l7, l8, e1, e2, e3, e4, v1, v2⟩ := hL9.els k1 (by rw [pvs_len]; omega)
      rw [show (pvs A k)[k1]'(by rw [pvs_len]; omega) = Dt.det k A2 by rw [HLD.out k (Nat.le_refl _)]; simp [pvs, hk1]] at v1 v2
      replace e1 := hcL _ _ e1
      replace e2 := hcL _ _ e2
      replace e3 := hcL _ _ e3
      replace e4 := hcL _ _ e4
      have LV : zl L (Dt.det k A2) := by rw [hk1, ← Dt.D_diag]; exact HB2.out k1 (by omega) k1 (by omega) k1 (by omega)
      replace v1 := v1.zn LV.1
      replace v2 := v2.zn LV.2
      have HN0 := hide (show gN (Dt.det k A2).1 (Dt.det k A2).2 ≠ 0 from fun c => HDT.out (Prod.ext (gN_zero.1 c).1 (gN_zero.1 c).2))
      have HLL := hide (show L ≤ 10000000 by omega)
      have EK1 : (k : Int) - 1 = (k1 : Int) := by omega
      clear LL hcL hk0 LV hk1
      refine ct ?_
      refine rg [0, 1, 2, 3, 4, 5, 6, 7] ?_
      refine sq ?_
      refine .mv ?_
      refine sq ?_
      refine .mv ?_
      refine sq ?_
      refine .mv ?_
      refine sq ?_
      refine .r0 ?_
      refine sq ?_
      refine .r0 ?_
      refine sq ?_
      refine .r4 ⟨xL.cell _ e1, xL.cell _ e2, xL.cell _ e3, xL.cell _ e4⟩ ?_
      refine sq ?_
      intro K hK
      go_big_op
      go_fit (overNumber_any hs (.mk' v1 v2) HLL.out HLL.out HN0.out)
      have bb5 := hs.b
      rintro e w_5 ⟨f3, caps3, ds3, rfl, hdv, hs', kp5⟩
      clear hs; have hs := hs'; clear hs'
      have bc5 := hs.b
      clear xL
      clear bb5 bc5
      have k0_4 := k0_3.t kp5
      replace hd := hd.k k0_4
      replace hs := hs.perm (perm_in (hd := [_, _, _, _]))
      refine hK _ _ rfl trivial ?_
      clear hK K
      refine sq ?_
      refine .mv ?_
      apply wpSq_end
      refine hK9 _ _ ?_
      refine wp_seq_k ?_
      intro K12 hK12
      refine wp_seq_k ?_
      intro K13 hK13
      refine rg [0, 1, 2, 3, 4, 5] ?_
      refine sq ?_
      refine .mv ?_
      refine sq ?_
      refine .mv ?_
      refine sq ?_
      refine .r0 ?_
      refine sq ?_
      refine .r0 ?_
      refine sq ?_
      refine .r0 ?_
      refine sq ?_
      refine .mv ?_
      apply wpSq_end
      refine hK13 _ _ ?_
      refine wp_block ?_
      generalize hoT : (@ite (Option Addr) (c = k + 1) _ o _) = oT
      have HT := hide hoT
      clear hoT
      have hs := hs.perm ((List.Perm.swap _ _ _).trans (List.Perm.cons _ ((List.Perm.swap _ _ _).trans (List.Perm.cons _ (List.Perm.swap _ _ _)))))
      have k1_4 := ((kb n3).o hd4 ho4).t kp5
      replace hd2 := hd2.k k1_4
      replace p1 := p1.k k1_4
      replace p2 := p2.k k1_4
      have k3_4 := kp5
      replace hL9 := hL9.k k3_4
      replace kk := kk.k k0_4
      have hd6 := hs.2.1
      go_loopg [43] (n - (k + 1)) (fun kz s43 wr => ∃ (q : Nat) (rs : List Rw), s43 = .int .i64 (q : Int) ∧ q + kz = n - (k + 1) ∧ rs.length = n ∧ RD wr rs (mkM n W (Elm k A2 F2 (k + 1 + q) (k + 1))) ∧ ZC wr (.agg #[.bool n_pa, .slice o_pa k_pa c_pa]) P.1 ∧ ZC wr (.agg #[.bool n_pb, .slice o_pb k_pb c_pb]) P.2 ∧ GD wr xs (pvs A k) ∧ DivF wr f3 caps3 ds3 (Dt.det k A2) ∧ KpF w wr ∧
        St w0 (ls w0.heap.size 52 1 (.slice o n c) n (rs.map (·.v)) :: bx pt #[.slice o n c, .int .i64 (h : Int), .int .i64 (m : Int), .bool odd2] 101 :: ls w0.heap.size 28 4 (.slice (some ⟨gL, 0, none⟩) k c9) k xs :: bx p_b1 #[.bool n_pa, .slice o_pa k_pa c_pa, .bool n_pb, .slice o_pb k_pb c_pb] 28 :: ((ds3 ++ bs) ++ rs.map (Rw.e w0.heap.size))) wr)
      case atStart => exact ⟨0, rs2, rfl, by omega, q1, by rw [Nat.add_zero, ← Elm_0]; exact hd2, p1, p2, hL9, hdv, kk, hs⟩
      case round =>
      clear hL9 hd kk p1 p2 hd2 v1 v2 hdv hs
      obtain ⟨q, rs, rfl, hqn, hrl, hd, z5, z6, hL9, hdv, kk, hs⟩ := hrel
      have HO2 := ‹∀ (a' : Act) (w' : World), Handed _ _ a' w' → _›
      obtain ⟨g2, hg2⟩ : ∃ g, gk = g := ⟨_, rfl⟩
      have Lz5 := hide LP.out.1
      have Lz6 := hide LP.out.2
      by_cases hq : q < n - (k + 1)
      · have HQQ := hide hq
        have HI := hide (show k + 1 + q < n by omega)
        obtain ⟨oi, ci, hvi⟩ := hs.rowv (bs := bx pt #[.slice o n c, .int .i64 (h : Int), .int .i64 (m : Int), .bool odd2] 101 :: ls w0.heap.size 28 4 (.slice (some ⟨gL, 0, none⟩) k c9) k xs :: bx p_b1 #[.bool n_pa, .slice o_pa k_pa c_pa, .bool n_pb, .slice o_pb k_pb c_pb] 28 :: (ds3 ++ bs)) hd (p := k + 1 + q) (K := W) (by rw [len_mkM]; omega) (by rw [mkM_row (by omega)]; simp)
        have LO : Lst wr w0.heap.size 52 1 (.slice o n c) n _ := hs.1.1.1
        obtain ⟨gO, curO, rfl, xO, hcO⟩ := LO.box (by omega)
        have eI := hcO _ _ hvi
        have hcap := LO.capn
        obtain rfl : oT = some ⟨gO, k + 1, none⟩ := by
          have := HT.out
          rw [if_neg (by omega)] at this
          rw [← this]; simp
        clear LO hcO HT
        refine wp_seq_k ?_
        intro K14 hK14
        refine rg [0] ?_
        refine sq ?_
        refine .r0 ?_
        apply wpSq_end
        refine hK14 _ _ ?_
        refine wp_seq_k ?_
        intro K15 hK15
        refine ct ?_
        refine wp_skip ?_
        refine hK15 _ _ ?_
        refine wp_seq_k ?_
        intro K16 hK16
        refine wp_block ?_
        refine wp_seq_k ?_
        intro K17 hK17
        refine rg [0, 1, 2] ?_
        refine sq ?_
        refine .r0 ?_
        refine sq ?_
        refine .r1 (xO.cell _ eI) ?_
        refine sq ?_
        refine .mv ?_
        apply wpSq_end
        refine hK17 _ _ ?_
        refine wp_seq_k ?_
        intro K18 hK18
        refine rg [0, 1, 2] ?_
        refine sq ?_
        refine .mv ?_
        refine sq ?_
        refine .r0 ?_
        refine sq ?_
        refine .mv ?_
        apply wpSq_end
        refine hK18 _ _ ?_
        refine wp_block ?_
        have hd7 := hs.2.1
        go_loopg [16] (W - (k + 1)) (fun kz s16 wr => ∃ (j : Nat) (rs : List Rw), s16 = .int .i64 (j : Int) ∧ j + kz = W ∧ k + 1 ≤ j ∧ rs.length = n ∧ RD wr rs (mkM n W (Elm k A2 F2 (k + 1 + q) j)) ∧ (rs.map (·.v))[k + 1 + q]? = some (.slice oi W ci) ∧ ZC wr (.agg #[.bool n_pa, .slice o_pa k_pa c_pa]) P.1 ∧ ZC wr (.agg #[.bool n_pb, .slice o_pb k_pb c_pb]) P.2 ∧ GD wr xs (pvs A k) ∧ DivF wr f3 caps3 ds3 (Dt.det k A2) ∧ KpF w wr ∧
          St w0 (ls w0.heap.size 52 1 (.slice (some ⟨gO, 0, none⟩) n c) n (rs.map (·.v)) :: bx pt #[.slice (some ⟨gO, 0, none⟩) n c, .int .i64 (h : Int), .int .i64 (m : Int), .bool odd2] 101 :: ls w0.heap.size 28 4 (.slice (some ⟨gL, 0, none⟩) k c9) k xs :: bx p_b1 #[.bool n_pa, .slice o_pa k_pa c_pa, .bool n_pb, .slice o_pb k_pb c_pb] 28 :: ((ds3 ++ bs) ++ rs.map (Rw.e w0.heap.size))) wr)
        case atStart => exact ⟨k + 1, rs, by rfl, by omega, Nat.le_refl _, hrl, hd, hvi, z5, z6, hL9, hdv, kk, hs⟩
        case round =>
        clear hrl hvi
        clear z5 z6 hL9 hd kk hdv xO hs
        obtain ⟨j, rs, rfl, hjW, hkj, hrl, hd, hri, z5, z6, hL9, hdv, kk, hs⟩ := hrel
        have HRI := hide hri
        clear hri
        have Lz5 := hide LP.out.1
        have Lz6 := hide LP.out.2
        by_cases hj : j < W
        · have HJ := hide hj
          obtain ⟨a, gp, cp, xp, b, gq, cq, xq, r2, rfl, hab, hvp, hvq, hxp, hxq, hs⟩ := hs.rows2 (bs := bx pt #[.slice (some ⟨gO, 0, none⟩) n c, .int .i64 (h : Int), .int .i64 (m : Int), .bool odd2] 101 :: ls w0.heap.size 28 4 (.slice (some ⟨gL, 0, none⟩) k c9) k xs :: bx p_b1 #[.bool n_pa, .slice o_pa k_pa c_pa, .bool n_pb, .slice o_pb k_pb c_pb] 28 :: (ds3 ++ bs)) hd (p := k) (q := k + 1 + q) (K := W) (by omega) (by rw [len_mkM]; exact HI.out) (by rw [mkM_row HKN.out]; simp) (by rw [mkM_row HI.out]; simp) (by omega)
          have hri := HRI.out
          rw [hvq] at hri
          simp only [Option.some.injEq, Value.slice.injEq, true_and] at hri
          obtain ⟨rfl, rfl⟩ := hri
          have LO : Lst wr w0.heap.size 52 1 (.slice (some ⟨gO, 0, none⟩) n c) n _ := hs.1.2.2.1.1
          obtain ⟨gO', curO, eO', xO, hcO⟩ := LO.box (by have := HI.out; omega)
          simp only [Option.some.injEq, Addr.mk.injEq, and_true] at eO'
          obtain rfl : gO = gO' := eO'
          have eK := hcO _ _ hvp
          have LQ : Lst wr w0.heap.size 28 4 (.slice (some ⟨gq, 0, none⟩) W cq) W xq := hs.1.1.1
          obtain ⟨gq', curQ, eQ, xQ, hcQ⟩ := LQ.box (by omega)
          simp only [Option.some.injEq, Addr.mk.injEq, and_true] at eQ
          obtain rfl : gq = gq' := eQ
          have LPr : Lst wr w0.heap.size 28 4 (.slice (some ⟨gp, 0, none⟩) W cp) W xp := hs.1.2.1.1
          obtain ⟨gp', curP, eP, xP, hcP⟩ := LPr.box (by omega)
          simp only [Option.some.injEq, Addr.mk.injEq, and_true] at eP
          obtain rfl : gp = gp' := eP
          have hxq2 := hxq
          rw [mkM_row HI.out] at hxq2
          rw [mkM_row HKN.out] at hxp
          obtain ⟨a1, a2, a3, a4, a5, a6, a7, a8, e1, e2, e3, e4, x1, x2⟩ := hxq2.els j (by simpa using hj)
          obtain ⟨b1, b2, b3, b4, b5, b6, b7, b8, e5, e6, e7, e8, y1, y2⟩ := hxq2.els k (by simpa using HKW.out)
          obtain ⟨d1, d2, d3, d4, d5, d6, d7, d8, e9, e10, e11, e12, y3, y4⟩ := hxp.els j (by simpa using hj)
          rw [show ((List.range W).map (Elm k A2 F2 (k + 1 + q) j (k + 1 + q)))[j]'(by simpa using hj) = F2 (k + 1 + q) j by simp [Elm_here]] at x1 x2
          rw [show ((List.range W).map (Elm k A2 F2 (k + 1 + q) j (k + 1 + q)))[k]'(by simpa using HKW.out) = F2 (k + 1 + q) k by simp [Elm_k]] at y1 y2
          rw [show ((List.range W).map (Elm k A2 F2 (k + 1 + q) j k))[j]'(by simpa using hj) = F2 k j by simp [Elm_up]] at y3 y4
          have EE := hide (Elm_div HA2.out HI.out hj (by omega) (by omega) HKN.out HKW.out HDT.out)
          have LX : zl L (F2 (k + 1 + q) j) := by rw [HA2.out _ HI.out j hj (by omega) (by omega)]; exact HB2.out k (by omega) _ HI.out j hj
          have LY : zl L (F2 (k + 1 + q) k) := by rw [HA2.out _ HI.out k HKW.out (by omega) (by omega)]; exact HB2.out k (by omega) _ HI.out k HKW.out
          have LU : zl L (F2 k j) := by rw [HA2.out k HKN.out j hj (by omega) (by omega)]; exact HB2.out k (by omega) k HKN.out j hj
          replace x1 := x1.zn LX.1
          replace x2 := x2.zn LX.2
          replace y1 := y1.zn LY.1
          replace y2 := y2.zn LY.2
          replace y3 := y3.zn LU.1
          replace y4 := y4.zn LU.2
          replace e1 := hcQ _ _ e1
          replace e2 := hcQ _ _ e2
          replace e3 := hcQ _ _ e3
          replace e4 := hcQ _ _ e4
          replace e5 := hcQ _ _ e5
          replace e6 := hcQ _ _ e6
          replace e7 := hcQ _ _ e7
          replace e8 := hcQ _ _ e8
          replace e9 := hcP _ _ e9
          replace e10 := hcP _ _ e10
          replace e11 := hcP _ _ e11
          replace e12 := hcP _ _ e12
          obtain ⟨X, hX⟩ : ∃ X, F2 (k + 1 + q) j = X := ⟨_, rfl⟩
          obtain ⟨Y, hY⟩ : ∃ Y, F2 (k + 1 + q) k = Y := ⟨_, rfl⟩
          obtain ⟨U, hU⟩ : ∃ U, F2 k j = U := ⟨_, rfl⟩
          obtain ⟨V, hV⟩ : ∃ V, Dt.det k A2 = V := ⟨_, rfl⟩
          have HT := hide (Elm_step (k := k) (A := A2) (F := F2) (i := k + 1 + q) (j := j) (by omega) (by omega))
          have HTZ := hide (show True from trivial)
          obtain ⟨Z, hZ⟩ : ∃ Z, Dt.D (k + 1) A2 (k + 1 + q) j = Z := ⟨_, rfl⟩
          have E3 := EE.out
          rw [← HPE.out, hX, hY, hU, hV, hZ] at E3
          rw [hX] at x1 x2 LX
          rw [hY] at y1 y2 LY
          rw [hU] at y3 y4 LU
          rw [hV] at hdv
          have HTS := HT.out
          rw [hZ] at HTS
          have HS := hide HTS
          have HV := hide hV
          have E1 := hide (show X.1 * P.1 - X.2 * P.2 - (Y.1 * U.1 - Y.2 * U.2) = (mP V Z).1 from congrArg Prod.fst E3)
          have E2 := hide (show X.1 * P.2 + X.2 * P.1 - (Y.1 * U.2 + Y.2 * U.1) = (mP V Z).2 from congrArg Prod.snd E3)
          have LM := hide (show zl (L + L + 1) (mP X P) from zl_mP LX LP.out)
          have LN := hide (show zl (L + L + 1) (mP Y U) from zl_mP LY LU)
          have LZ := hide (show zl (L + L + 2) (mP V Z) by rw [← E3]; exact zl_sPx LM.out LN.out)
          have hent := hdv.ent
          unfold Ent1 at hent
          clear LO hcO hvp hvq LQ hcQ hxq2 LPr hcP hxp hX hY hU hV hZ EE HT E3 LX LY LU HTS HRI
          refine wp_seq_k ?_
          intro K19 hK19
          refine wp_seq_k ?_
          intro K20 hK20
          refine rg [0, 1, 2, 3] ?_
          refine sq ?_
          refine .mv ?_
          refine sq ?_
          refine .mv ?_
          refine sq ?_
          refine .r0 ?_
          refine sq ?_
          refine .r0 ?_
          apply wpSq_end
          refine hK20 _ _ ?_
          refine ct ?_
          refine wp_skip ?_
          refine hK19 _ _ ?_
          refine wp_seq_k ?_
          intro K21 hK21
          refine wp_block ?_
          refine wp_region_f4 [(0, false), (1, false), (2, false), (3, false), (4, false), (5, false), (6, false), (7, false), (8, false), (10, false), (11, false), (12, false), (13, false), (14, false), (15, false), (16, false), (17, false), (18, false), (19, false), (20, false), (9, true), (21, true), (22, true), (23, true), (24, false)] [25] [] (fun _ => default) [99, 99, 99, 99, 99, 99, 99, 0, 1, 99, 99, 99, 99, 0, 99, 99, 99, 2, 99, 99, 3, 99, 99, 99, 99, 99] [(25, 0)] (.c xQ (.c hs.g5 (.c xO (.c xP .n)))) fn fun w_8 n8 => ?_
          replace xO := xO.bl n8; replace xQ := xQ.bl n8; replace xP := xP.bl n8; replace hs := hs.bl n8
          refine fmv ?_
          refine fmv ?_
          refine fmv ?_
          refine fmv ?_
          refine fmv ?_
          refine fmv ?_
          refine f0 ?_
          apply wpFl_ld rfl rfl; (case h1 => intro w' hC K hK; have c0 := Bs.cell hC ((j * 4)) e1; have c1 := Bs.cell hC ((j * 4) + 1) e2; have c2 := Bs.cell hC ((j * 4) + 2) e3; have c3 := Bs.cell hC ((j * 4) + 3) e4; go_big_op; exact hK); iterate 4 kernel_rfl
          refine f4 ?_
          refine fmv ?_
          refine fmv ?_
          refine f0 ?_
          apply wpFl_ld rfl rfl; (case h1 => intro w' hC K hK; have c0 := Bs.cell hC ((k * 4)) e5; have c1 := Bs.cell hC ((k * 4) + 1) e6; have c2 := Bs.cell hC ((k * 4) + 2) e7; have c3 := Bs.cell hC ((k * 4) + 3) e8; go_big_op; exact hK); iterate 4 kernel_rfl
          refine fmv ?_
          refine fmv ?_
          refine f0 ?_
          apply wpFl_ld rfl rfl; (case h1 => intro w' hC K hK; have c0 := Bs.cell hC (k) eK; go_big_op; exact hK); iterate 4 kernel_rfl
          refine fmv ?_
          refine f0 ?_
          apply wpFl_ld rfl rfl; (case h1 => intro w' hC K hK; have c0 := Bs.cell hC ((j * 4)) e9; have c1 := Bs.cell hC ((j * 4) + 1) e10; have c2 := Bs.cell hC ((j * 4) + 2) e11; have c3 := Bs.cell hC ((j * 4) + 3) e12; go_big_op; exact hK); iterate 4 kernel_rfl
          refine fl fun w_9 n9 => ?_
          replace xO := xO.bl n9; replace xQ := xQ.bl n9; replace xP := xP.bl n9; replace hs := hs.bl n9
          intro K hK
          have k0_2 := (kb n8).b n9
          replace x1 := x1.k k0_2
          replace x2 := x2.k k0_2
          replace z5 := z5.k k0_2
          replace z6 := z6.k k0_2
          go_big_op
          go_fit (gMul_any (.mk' x1 x2) (.mk' (z5.zn Lz5.out) (z6.zn Lz6.out)) HL4.out HL4.out HL4.out HL4.out)
          rintro e w_10 ⟨_, rfl, ⟨n_fa, o_fa, k_fa, c_fa, n_fb, o_fb, k_fb, c_fb, rfl, f1, f2⟩, hb_10⟩
          replace xO := xO.bl hb_10; replace xQ := xQ.bl hb_10; replace xP := xP.bl hb_10; replace hs := hs.bl hb_10
          have Lf1 := hide (f1.lenOf (LM.out.1))
          have Lf2 := hide (f2.lenOf (LM.out.2))
          refine hK _ _ rfl ⟨hb_10, (And.intro xQ (And.intro hs.g5 (And.intro xO (And.intro xP trivial))))⟩ ?_
          clear hK K
          refine fl fun w_11 n11 => ?_
          replace xO := xO.bl n11; replace xQ := xQ.bl n11; replace xP := xP.bl n11; replace hs := hs.bl n11
          intro K hK
          have k0_4 := (k0_2.b hb_10).b n11
          replace y1 := y1.k k0_4
          replace y2 := y2.k k0_4
          replace y3 := y3.k k0_4
          replace y4 := y4.k k0_4
          go_big_op
          go_fit (gMul_any (.mk' y1 y2) (.mk' y3 y4) HL4.out HL4.out HL4.out HL4.out)
          rintro e w_12 ⟨_, rfl, ⟨n_ga, o_ga, k_ga, c_ga, n_gb, o_gb, k_gb, c_gb, rfl, g1, g2⟩, hb_12⟩
          replace xO := xO.bl hb_12; replace xQ := xQ.bl hb_12; replace xP := xP.bl hb_12; replace hs := hs.bl hb_12
          have Lg1 := hide (g1.lenOf (LN.out.1))
          have Lg2 := hide (g2.lenOf (LN.out.2))
          refine hK _ _ rfl ⟨hb_12, (And.intro xQ (And.intro hs.g5 (And.intro xO (And.intro xP trivial))))⟩ ?_
          clear hK K
          refine fl fun w_13 n13 => ?_
          replace xO := xO.bl n13; replace xQ := xQ.bl n13; replace xP := xP.bl n13; replace hs := hs.bl n13
          intro K hK
          have k3_6 := ((kb n11).b hb_12).b n13
          replace f1 := f1.k k3_6
          replace f2 := f2.k k3_6
          have k5_6 := kb n13
          replace g1 := g1.k k5_6
          replace g2 := g2.k k5_6
          go_big_op
          go_fit (gSub_any (.mk' (f1.zn Lf1.out) (f2.zn Lf2.out)) (.mk' (g1.zn Lg1.out) (g2.zn Lg2.out)) HL5.out HL5.out HL5.out HL5.out)
          rintro e w_14 ⟨_, rfl, ⟨n_sa, o_sa, k_sa, c_sa, n_sb, o_sb, k_sb, c_sb, rfl, s1, s2⟩, hb_14⟩
          replace xO := xO.bl hb_14; replace xQ := xQ.bl hb_14; replace xP := xP.bl hb_14; replace hs := hs.bl hb_14
          rw [E1.out] at s1
          rw [E2.out] at s2
          refine hK _ _ rfl ⟨hb_14, (And.intro xQ (And.intro hs.g5 (And.intro xO (And.intro xP trivial))))⟩ ?_
          clear hK K
          refine fl fun w_15 n15 => ?_
          replace xO := xO.bl n15; replace xQ := xQ.bl n15; replace xP := xP.bl n15; replace hs := hs.bl n15
          intro K hK
          have k0_8 := (((k0_4.b hb_12).b n13).b hb_14).b n15
          replace hdv := hdv.k k0_8
          have k7_8 := kb n15
          replace s1 := s1.k k7_8
          replace s2 := s2.k k7_8
          go_big_op
          go_fit (hdv.call (hs.sub (.cons _ (.cons _ (.cons _ (.cons _ (.cons _ (.cons _ ((List.sublist_append_left ds3 bs).trans (List.sublist_append_left _ _))))))))).1 (.mk' s1 s2) LZ.out HL6.out)
          rintro e w_16 ⟨_, rfl, ⟨n_ta, o_ta, k_ta, c_ta, n_tb, o_tb, k_tb, c_tb, rfl, t1, t2⟩, hb_16⟩
          replace xO := xO.bl hb_16; replace xQ := xQ.bl hb_16; replace xP := xP.bl hb_16; replace hs := hs.bl hb_16
          refine hK _ _ rfl ⟨hb_16, (And.intro xQ (And.intro hs.g5 (And.intro xO (And.intro xP trivial))))⟩ ?_
          clear hK K
          refine f0 ?_
          refine e0 hs ?_; clear hs; intro w_17 hs n17
          clear f1 f2 g1 g2 s1 s2
          replace xO := xO.bl n17; replace xQ := xQ.bl n17; replace xP := xP.bl n17
          refine tl ?_
          refine .i4 0 hs (j := j) (by exact HJ.out) ?_ (e := fun _ hB hO => (And.intro True.intro (And.intro (hs.g5.frame hO (hs.ne 5 0)) (And.intro (xO.frame hO (hs.ne 2 0)) (And.intro (xP.frame hO (hs.ne 1 0)) True.intro))))); clear hs; intro w_18 hs kp18 hd18 ho18 hw18; simp only [List.set_cons_zero] at hs
          clear xO
          clear xQ
          clear xP
          apply wpTail_end
          refine hK21 _ _ ?_
          refine rg [0, 1, 2] ?_
          refine sq ?_
          refine .mv ?_
          refine sq ?_
          refine .r0 ?_
          refine sq ?_
          refine .mv ?_
          apply wpSq_end
          have k0_11 := ((k0_8.b hb_16).b n17).t kp18
          replace hd := hd.k k0_11
          replace hxq := hxq.k k0_11
          have k9_11 := (kb n17).t kp18
          replace t1 := t1.k k9_11
          replace t2 := t2.k k9_11
          have k2_11 := ((((((((kb hb_10).b n11).b hb_12).b n13).b hb_14).b n15).b hb_16).b n17).t kp18
          replace z5 := z5.k k2_11
          replace z6 := z6.k k2_11
          replace hL9 := hL9.k k0_11
          have k8_11 := ((kb hb_16).b n17).t kp18
          replace hdv := hdv.k k8_11
          replace kk := kk.k k0_11
          refine ‹∀ (a' : Act) (w' : World), Handed _ _ a' w' → _› _ _ ?_
          have hs := hs.unrows2 (bs := bx pt #[.slice (some ⟨gO, 0, none⟩) n c, .int .i64 (h : Int), .int .i64 (m : Int), .bool odd2] 101 :: ls w0.heap.size 28 4 (.slice (some ⟨gL, 0, none⟩) k c9) k xs :: bx p_b1 #[.bool n_pa, .slice o_pa k_pa c_pa, .bool n_pb, .slice o_pb k_pb c_pb] 28 :: (ds3 ++ bs))
          rw [mkM_row HI.out] at hxq
          have hd := RD.set' (r1 := a ++ (⟨.slice (some ⟨gp, 0, none⟩) W cp, W, xp⟩ : Rw) :: b) (v := .slice (some ⟨gq, 0, none⟩) W cq) (n := W) (by simp) (GD.put t1 t2 hxq (q := j) (by simpa using HJ.out)) (by simpa using hd) hab
          rw [show ((Z.1, Z.2) : Int × Int) = Z from rfl, mkM_set HI.out, HS.out] at hd
          rw [← HV.out] at hdv
          go_roundg (gk - 1)
          case rel => exact ⟨j + 1, _, by rfl, by omega, by omega, by simpa using hrl, by simpa using hd, by rw [List.map_append, List.map_cons, List.map_append, List.map_cons, ← List.cons_append, ← List.append_assoc, List.getElem?_append_right (by simpa using Nat.le_of_eq hab)]; simp at hab ⊢; simp [← hab], z5, z6, hL9, hdv, kk, hs⟩
          case measure => omega
        · obtain rfl : W = j := by omega
          have HX := hide hj
          refine wp_seq_k ?_
          intro K19 hK19
          refine wp_seq_k ?_
          intro K20 hK20
          refine rg [0, 1, 2, 3] ?_
          refine sq ?_
          refine .mv ?_
          refine sq ?_
          refine .mv ?_
          refine sq ?_
          refine .r0 ?_
          refine sq ?_
          refine .r0 ?_
          apply wpSq_end
          refine hK20 _ _ ?_
          refine cf ?_
          refine wp_exit ?_
          refine hK16 _ _ ?_
          refine rg [0, 1] ?_
          refine sq ?_
          refine .r0 ?_
          refine sq ?_
          refine .mv ?_
          apply wpSq_end
          refine HO2 _ _ ?_
          go_roundg (g2 - 1)
          case rel => exact ⟨q + 1, rs, by rfl, by omega, hrl, by rw [show k + 1 + (q + 1) = k + 1 + q + 1 from rfl, ← Elm_row]; exact hd, z5, z6, hL9, hdv, kk, hs⟩
          case measure => omega
      · have hqe : k + 1 + q = n := by omega
        have HX := hide hq
        have HE := hide hqe
        clear hqe
        refine wp_seq_k ?_
        intro K14 hK14
        refine rg [0] ?_
        refine sq ?_
        refine .r0 ?_
        apply wpSq_end
        refine hK14 _ _ ?_
        refine wp_seq_k ?_
        intro K15 hK15
        refine cf ?_
        refine wp_exit ?_
        refine hK12 _ _ ?_
        refine rg [0, 1, 2, 3, 4] ?_
        refine sq ?_
        refine .mv ?_
        refine sq ?_
        refine .r4 hs.g3.f4 ?_
        refine sq ?_
        refine .al hs ?_; clear hs; intro p_b2 w_7 hs n7 kb_b2
        refine sq ?_
        have k0_1 := kb n7
        replace z5 := z5.k k0_1
        replace z6 := z6.k k0_1
        replace hL9 := hL9.k k0_1
        replace hL9 := hL9.snoc (.mk' z5 z6)
        refine .ap 3 hs hs.g0 ?_; clear hs; intro o_L_8 c_L_8 w_8 hs kp8 hw8; simp only [List.set_cons_succ, List.set_cons_zero] at hs
        refine sq ?_
        refine .mv ?_
        apply wpSq_end
        refine hK7 _ _ ?_
        refine rg [0, 1, 2] ?_
        refine sq ?_
        refine .mv ?_
        refine sq ?_
        refine .r0 ?_
        refine sq ?_
        refine .mv ?_
        apply wpSq_end
        have k0_2 := k0_1.t kp8
        replace hd := hd.k k0_2
        have k1_2 := kp8
        replace hL9 := hL9.k k1_2
        replace kk := kk.k k0_2
        refine HO _ _ ?_
        have hs := hs.sub (show List.Sublist (ls w0.heap.size 52 1 (.slice o n c) n (rs.map (·.v)) :: bx pt #[.slice o n c, .int .i64 (h : Int), .int .i64 (m : Int), .bool odd2] 101 :: _ :: (bs ++ rs.map (Rw.e w0.heap.size))) _ from .cons _ (.cons_cons _ (.cons_cons _ (.cons_cons _ (.cons _ (List.Sublist.append_right (List.sublist_append_right ds3 bs) _))))))
        go_roundg (g1 - 1)
        case rel => exact ⟨k + 1, A2, Elm k A2 F2 n (k + 1), odd2, rs, f3, caps3, _, _, _, by rfl, rfl, by rfl, by omega, hide (fun h => absurd h (by omega)), HQ2, hide Elm_end, hrl, by rw [← HE.out] at hd ⊢; exact hd, by rw [pvs_succ, ← pvs_congr HLD.out, ← Dt.D_diag, ← HPE.out]; exact hL9, kk, hs⟩
        case measure => omega
  · have HFin := hide hFin
    refine ct ?_
    refine wp_exit ?_
    refine hK5 _ _ ?_
    refine wp_seq_k ?_
    intro K11 hK11
    refine rg [0, 1] ?_
    refine sq ?_
    refine .mv ?_
    refine sq ?_
    refine .mv ?_
    apply wpSq_end
    refine hK11 _ _ ?_
    refine wp_ret ?_
    refine hSr _ _ _ ?_
    have k1_3 := (kb n3).o hd4 ho4
    replace hd2 := hd2.k k1_3
    have k0_3 := (kp2.b n3).o hd4 ho4
    replace hL9 := hL9.k k0_3
    replace kk := kk.k k0_3
    try dsimp only [Exit.then, Exit.inBlock]
    refine bodyPost_ret (v := (.slice o9 k c9)) (by simp [results, Tryz.results69, go_sem]) rfl ?_
    exact ⟨_, _, xs, k, _, _, _, rs2, rfl, hFin, HQ.out, hL9, HA.out, q1, hd2, (hs.sub (.cons _ (List.Sublist.refl _))).perm ((List.Perm.cons _ (List.Perm.swap _ _ _)).trans (List.Perm.swap _ _ _)), kk.kp⟩
end
end Go.Proofs.YtnkimagnmnocdaaGreat


/- gdet: tables whose rows and columns were exchanged; the determinant's sign, the rank. -/
namespace Go.Proofs.YtnkimagnmnocdaaGreat
open Go Go.RowKit Dig
set_option linter.unusedVariables false
open Dt in
/-- What an odd number of exchanges does. -/
def sgb (odd : Bool) (p : Int × Int) : Int × Int := if odd then (-p.1, -p.2) else p
theorem sgb_eq (odd : Bool) (p : Int × Int) : sgb odd p = if odd then -p else p := rfl
theorem swr_swp : swr = Dt.swp := rfl
theorem swr_lt {i k r m : Nat} (hi : i < m) (hk : k < m) (hr : r < m) : swr i k r < m := by unfold swr; split <;> (try split) <;> assumption
theorem swr_low {i k r : Nat} (hi : k ≤ i) (hr : r < k) : swr i k r = r := by unfold swr; rw [if_neg (by omega), if_neg (by omega)]
section
variable {k i j n W h m : Nat} {A A0 F : Nat → Nat → Int × Int} {odd : Bool}
theorem D_swr (hi : k ≤ i) (hj : k ≤ j) {r c : Nat} : Dt.D k (fun r c => A (swr i k r) (swr j k c)) r c = Dt.D k A (swr i k r) (swr j k c) := by
  unfold Dt.D
  refine Dt.det_congr fun x _ y _ => ?_
  have key : ∀ {i r x : Nat}, k ≤ i → swr i k (Dt.bord k r x) = Dt.bord k (swr i k r) x := fun {i r x} hi => by
    unfold Dt.bord
    by_cases h : x < k
    · rw [if_pos h, if_pos h, swr_low hi h]
    · rw [if_neg h, if_neg h]
  show A (swr i k (Dt.bord k r x)) (swr j k (Dt.bord k c y)) = _
  rw [key hi, key hj]
theorem det_swr (hi : k ≤ i) (hj : k ≤ j) {s : Nat} (hs : s ≤ k) : Dt.det s (fun r c => A (swr i k r) (swr j k c)) = Dt.det s A := Dt.det_congr fun x hx y hy => by
  rw [swr_low hi (by omega), swr_low hj (by omega)]
theorem det_swr2 (hi : i < n) (hj : j < n) (hk : k < n) (h : Dt.det n A = sgb odd (Dt.det n A0)) : Dt.det n (fun r c => A (swr i k r) (swr j k c)) = sgb (xo odd i j k) (Dt.det n A0) := by
  have e1 : Dt.det n (fun r c => A (swr i k r) (swr j k c)) = if j = k then Dt.det n (fun r c => A (swr i k r) c) else - Dt.det n (fun r c => A (swr i k r) c) := by
    by_cases e : j = k
    · subst e
      rw [if_pos rfl]
      refine Dt.det_congr fun r _ c _ => ?_
      have : swr j j c = c := by unfold swr; split <;> omega
      rw [this]
    · rw [if_neg e]; exact Dt.det_cols (A := fun r c => A (swr i k r) c) e hj hk
  have e2 : Dt.det n (fun r c => A (swr i k r) c) = if i = k then Dt.det n A else - Dt.det n A := by
    by_cases e : i = k
    · subst e
      rw [if_pos rfl]
      refine Dt.det_congr fun r _ c _ => ?_
      have : swr i i r = r := by unfold swr; split <;> omega
      rw [this]
    · rw [if_neg e]; exact (Dt.alt_det (R := Int × Int) (n := n)).swap e hi hk A
  rw [e1, e2, h]
  unfold xo
  simp only [sgb_eq]
  by_cases h1 : i = k <;> by_cases h2 : j = k <;> cases odd <;> simp [h1, h2] <;> grind
/-- A table at step k: rows and columns of A0 exchanged. -/
def Pmd (h m : Nat) (A0 A : Nat → Nat → Int × Int) : Prop := ∃ u u' v v' : Nat → Nat, (∀ i j, A i j = A0 (u i) (v j)) ∧ (∀ i, (i < h → u i < h ∧ u' i < h) ∧ (h ≤ i → u i = i) ∧ u (u' i) = i ∧ u' (u i) = i) ∧ ∀ i, (i < m → v i < m ∧ v' i < m) ∧ (m ≤ i → v i = i) ∧ v (v' i) = i ∧ v' (v i) = i
def QP (h m : Nat) (A0 : Nat → Nat → Int × Int) (k : Nat) (A : Nat → Nat → Int × Int) (odd : Bool) : Prop :=
  k ≤ h ∧ k ≤ m ∧ Dt.det k A ≠ 0 ∧ Pmd h m A0 A ∧ (h = m → Dt.det h A = sgb odd (Dt.det h A0))
def FinP (h m : Nat) (A0 : Nat → Nat → Int × Int) (k : Nat) (A : Nat → Nat → Int × Int) (odd : Bool) : Prop :=
  QP h m A0 k A odd ∧ ∀ i, k ≤ i → i < h → ∀ j, k ≤ j → j < m → Dt.D k A i j = 0
theorem swr_inv {i k r : Nat} : swr i k (swr i k r) = r := by rw [swr_swp]; exact Dt.swp_swp
theorem Pmd.swr (hp : Pmd h m A0 A) (hi : i < h) (hk : k < h) (hj : j < m) (hk2 : k < m) : Pmd h m A0 (fun r c => A (swr i k r) (swr j k c)) := by
  obtain ⟨u, u', v, v', hA, hu, hv⟩ := hp
  refine ⟨fun r => u (Go.Proofs.YtnkimagnmnocdaaGreat.swr i k r), fun r => Go.Proofs.YtnkimagnmnocdaaGreat.swr i k (u' r), fun c => v (Go.Proofs.YtnkimagnmnocdaaGreat.swr j k c), fun c => Go.Proofs.YtnkimagnmnocdaaGreat.swr j k (v' c), fun r c => hA _ _, fun r => ⟨fun hr => ⟨((hu _).1 (swr_lt hi hk hr)).1, swr_lt hi hk ((hu r).1 hr).2⟩, fun hr => ?_, ?_, ?_⟩, fun r => ⟨fun hr => ⟨((hv _).1 (swr_lt hj hk2 hr)).1, swr_lt hj hk2 ((hv r).1 hr).2⟩, fun hr => ?_, ?_, ?_⟩⟩
  · have : Go.Proofs.YtnkimagnmnocdaaGreat.swr i k r = r := by unfold Go.Proofs.YtnkimagnmnocdaaGreat.swr; rw [if_neg (by omega), if_neg (by omega)]
    simp only [this]; exact (hu r).2.1 hr
  · simp only [swr_inv]; exact (hu r).2.2.1
  · simp only [(hu _).2.2.2, swr_inv]
  · have : Go.Proofs.YtnkimagnmnocdaaGreat.swr j k r = r := by unfold Go.Proofs.YtnkimagnmnocdaaGreat.swr; rw [if_neg (by omega), if_neg (by omega)]
    simp only [this]; exact (hv r).2.1 hr
  · simp only [swr_inv]; exact (hv r).2.2.1
  · simp only [(hv _).2.2.2, swr_inv]
theorem one_ne : (1 : Int × Int) ≠ 0 := by decide
theorem QP.zero : QP h m A0 0 A0 false := ⟨Nat.zero_le _, Nat.zero_le _, one_ne, ⟨id, id, id, id, fun _ _ => rfl, fun i => ⟨fun h => ⟨h, h⟩, fun _ => rfl, rfl, rfl⟩, fun i => ⟨fun h => ⟨h, h⟩, fun _ => rfl, rfl, rfl⟩⟩, fun _ => rfl⟩
/-- A pivot brought to its place. -/
theorem QP.next (hq : QP h m A0 k A odd) (hi : k ≤ i) (hi2 : i < h) (hj : k ≤ j) (hj2 : j < m) (h0 : Dt.D k A i j ≠ 0) : QP h m A0 (k + 1) (fun r c => A (swr i k r) (swr j k c)) (xo odd i j k) := by
  obtain ⟨h1, h2, h3, h4, h5⟩ := hq
  refine ⟨by omega, by omega, ?_, h4.swr hi2 (by omega) hj2 (by omega), fun e => ?_⟩
  · rw [← Dt.D_diag, D_swr hi hj, swr_k, swr_k]; exact h0
  · subst e; exact det_swr2 hi2 hj2 (by omega) (h5 rfl)
theorem Agr.next (ha : Agr n W k A F) (hi : k ≤ i) (hi2 : i < n) (hj : k ≤ j) (hj2 : j < W) : Agr n W k (fun r c => A (swr i k r) (swr j k c)) (fun r c => F (swr i k r) (swr j k c)) := fun r hr c hc h1 h2 => by
  have g : ∀ {i r : Nat}, k ≤ i → k ≤ r → k ≤ swr i k r := fun {i r} hi hr => by unfold swr; split <;> (try split) <;> omega
  rw [D_swr hi hj]
  exact ha _ (swr_lt hi2 (by omega) hr) _ (swr_lt hj2 (by omega) hc) (g hi h1) (g hj h2)
/-- The table's rank, where no pivot is left. -/
theorem FinP.rk (hf : FinP h m A0 k A odd) : Dt.Rk h m A0 k := by
  obtain ⟨⟨h1, h2, h3, ⟨u, u', v, v', hA, hu, hv⟩, h5⟩, h6⟩ := hf
  have := Dt.rk_of (h := h) (w := m) h1 h2 h3 fun i hi j hj => by
    by_cases e : i < k
    · exact Dt.D_row0 e
    · by_cases e2 : j < k
      · exact Dt.D_col0 e2
      · exact h6 i (by omega) hi j (by omega) hj
  exact this.perm (u := u) (u' := u') (v := v) (v' := v') (fun i _ j _ => hA i j) (fun i hi => ⟨((hu i).1 hi).1, ((hu i).1 hi).2, (hu i).2.2.1⟩) (fun i hi => ⟨((hv i).1 hi).1, ((hv i).1 hi).2, (hv i).2.2.1⟩)
/-- A square one's determinant. -/
theorem FinP.det (hf : FinP n n A0 k A odd) : (k < n → Dt.det n A0 = 0) ∧ (k = n → Dt.det n A0 = sgb odd (Dt.det n A)) := by
  refine ⟨fun h => (FinP.rk hf).det0 noz one_ne h, fun e => ?_⟩
  have := hf.1.2.2.2.2 rfl
  rw [this]
  cases odd <;> simp [sgb]
/-- Bounds of minors of A0, and of the table's. -/
def MinB (n W L : Nat) (A : Nat → Nat → Int × Int) : Prop := ∀ (s : Nat) (f g : Nat → Nat), (∀ r, r < s → f r < n ∧ g r < W) → (∀ r q, r < q → q < s → f r ≠ f q) → zl L (Dt.det s fun i j => A (f i) (g j))
theorem QP.bd {L : Nat} (hB : MinB n W L A0) (hh : h ≤ n) (hm : m ≤ W) (hq : QP h m A0 k A odd) : ∀ s, s ≤ k → ∀ i, i < n → ∀ j, j < W → zl L (Dt.D s A i j) := by
  obtain ⟨h1, h2, h3, ⟨u, u', v, v', hA, hu, hv⟩, h5⟩ := hq
  intro s hs i hi j hj
  by_cases e : i < s
  · rw [Dt.D_row0 e]; exact zl_0 _
  · have hun : ∀ r, r < n → u r < n := fun r hr => by
      by_cases c : r < h
      · have := ((hu r).1 c).1; omega
      · rw [(hu r).2.1 (by omega)]; exact hr
    have hvn : ∀ r, r < W → v r < W := fun r hr => by
      by_cases c : r < m
      · have := ((hv r).1 c).1; omega
      · rw [(hv r).2.1 (by omega)]; exact hr
    have e2 : Dt.D s A i j = Dt.det (s + 1) fun r c => A0 (u (Dt.bord s i r)) (v (Dt.bord s j c)) := Dt.det_congr fun r _ c _ => hA _ _
    rw [e2]
    refine hB (s + 1) (fun r => u (Dt.bord s i r)) (fun c => v (Dt.bord s j c)) (fun r hr => ⟨hun _ (by unfold Dt.bord; split <;> omega), hvn _ (by unfold Dt.bord; split <;> omega)⟩) fun r q h1 h2 h3 => ?_
    have h4 := congrArg u' h3
    rw [(hu _).2.2.2, (hu _).2.2.2] at h4
    unfold Dt.bord at h4
    split at h4 <;> split at h4 <;> omega
end
end Go.Proofs.YtnkimagnmnocdaaGreat


/- The reference's elimination: what stands from column to column. -/
namespace Go.Proofs.YtnkimagnmnocdaaGreat
open Go Go.RowKit Dig
set_option linter.unusedVariables false
section
variable {n W c k p i j : Nat} {A0 A F : Nat → Nat → Int × Int} {g : Nat → Nat} {odd : Bool}
/-- Rows exchanged. -/
def Pmr (n : Nat) (A0 A : Nat → Nat → Int × Int) : Prop := ∃ u u' : Nat → Nat, (∀ i j, A i j = A0 (u i) j) ∧ ∀ i, (i < n → u i < n ∧ u' i < n) ∧ u (u' i) = i ∧ u' (u i) = i
theorem Pmr.swr (hp : Pmr n A0 A) (hi : i < n) (hk : k < n) : Pmr n A0 (fun r q => A (swr i k r) q) := by
  obtain ⟨u, u', hA, hu⟩ := hp
  refine ⟨fun r => u (Go.Proofs.YtnkimagnmnocdaaGreat.swr i k r), fun r => Go.Proofs.YtnkimagnmnocdaaGreat.swr i k (u' r), fun r q => hA _ _, fun r => ⟨fun hr => ⟨((hu _).1 (swr_lt hi hk hr)).1, swr_lt hi hk ((hu r).1 hr).2⟩, ?_, ?_⟩⟩
  · simp only [swr_inv]; exact (hu r).2.1
  · simp only [(hu _).2.2, swr_inv]
structure EInv (n W : Nat) (A0 : Nat → Nat → Int × Int) (c k : Nat) (A F : Nat → Nat → Int × Int) (g : Nat → Nat) (odd : Bool) : Prop where
  kn : k ≤ n
  kc : k ≤ c
  cW : c ≤ W
  mono : ∀ x, x < k → g x < c ∧ ∀ y, y < x → g y < g x
  dne : Dt.det k (fun r x => A r (g x)) ≠ 0
  pm : Pmr n A0 A
  sgn : Dt.det n A = sgb odd (Dt.det n A0)
  low : ∀ q, q < c → ∀ r, r < n → Dt.Dg k A g r q = 0
  tab : ∀ r, k ≤ r → r < n → ∀ q, c ≤ q → q < W → F r q = Dt.Dg k A g r q
theorem EInv.start : EInv n W A0 0 0 A0 A0 id false :=
  ⟨Nat.zero_le _, Nat.le_refl _, Nat.zero_le _, fun x hx => absurd hx (Nat.not_lt_zero _), one_ne, ⟨id, id, fun _ _ => rfl, fun i => ⟨fun h => ⟨h, h⟩, rfl, rfl⟩⟩, rfl, fun q hq => absurd hq (Nat.not_lt_zero _), fun r _ _ q _ _ => Dt.Dg_0.symm⟩
theorem EInv.skip (h : EInv n W A0 c k A F g odd) (hc : c < W) (hz : ∀ r, k ≤ r → r < n → F r c = (0, 0)) : EInv n W A0 (c + 1) k A F g odd :=
  ⟨h.kn, by have := h.kc; omega, hc, fun x hx => ⟨by have := (h.mono x hx).1; omega, (h.mono x hx).2⟩, h.dne, h.pm, h.sgn, fun q hq r hr => by
    rcases Nat.lt_or_ge q c with e | e
    · exact h.low q e r hr
    · obtain rfl : q = c := by omega
      by_cases e2 : r < k
      · exact Dt.Dg_row0 e2
      · rw [← h.tab r (by omega) hr q (Nat.le_refl _) hc]; exact hz r (by omega) hr,
    fun r h1 h2 q h3 h4 => h.tab r h1 h2 q (by omega) h4⟩
/-- The pivot's column joins. -/
def gup (g : Nat → Nat) (k c x : Nat) : Nat := if x = k then c else g x
theorem gup_k : gup g k c k = c := by unfold gup; rw [if_pos rfl]
theorem gup_lt {x : Nat} (hx : x < k) : gup g k c x = g x := by unfold gup; rw [if_neg (by omega)]
theorem Dg_gup {r q : Nat} : Dt.Dg k A (gup g k c) r q = Dt.Dg k A g r q := by
  unfold Dt.Dg Dt.D
  refine Dt.det_congr fun x _ y hy => ?_
  have : Dt.gx k (gup g k c) q (Dt.bord k k y) = Dt.gx k g q (Dt.bord k k y) := by
    unfold Dt.gx
    split
    · rename_i h; rw [gup_lt h]
    · rfl
  show A _ _ = A _ _
  rw [this]
theorem Dg_swr (hp : k ≤ p) {r q : Nat} : Dt.Dg k (fun r q => A (swr p k r) q) g r q = Dt.Dg k A g (swr p k r) q := by
  unfold Dt.Dg Dt.D
  refine Dt.det_congr fun x _ y _ => ?_
  show A (swr p k (Dt.bord k r x)) _ = A (Dt.bord k (swr p k r) x) _
  congr 1
  unfold Dt.bord
  by_cases h : x < k
  · rw [if_pos h, if_pos h, swr_low hp h]
  · rw [if_neg h, if_neg h]
theorem Dg_col0 {x r : Nat} (hx : x < k) : Dt.Dg k A g r (g x) = 0 := by
  unfold Dt.Dg Dt.D
  refine Dt.det_coleq (c1 := x) (c2 := k) hx (by omega) fun i _ => ?_
  have e1 : Dt.gx k g (g x) (Dt.bord k k x) = g x := by unfold Dt.gx Dt.bord; rw [if_pos hx, if_pos hx]
  have e2 : Dt.gx k g (g x) (Dt.bord k k k) = g x := by unfold Dt.gx Dt.bord; rw [if_neg (Nat.lt_irrefl _), if_neg (Nat.lt_irrefl _)]
  show A _ _ = A _ _
  rw [e1, e2]
/-- The step at column c, done up to row i's number j. -/
def Gel (k c : Nat) (A : Nat → Nat → Int × Int) (g : Nat → Nat) (F : Nat → Nat → Int × Int) (i j : Nat) : Nat → Nat → Int × Int := fun p q =>
  if k < p ∧ ((p < i ∧ c ≤ q) ∨ (p = i ∧ c < q ∧ q < j)) then (if q = c then (0, 0) else Dt.Dg (k + 1) A g p q) else F p q
theorem Gel_0 {n W : Nat} : mkM n W F = mkM n W (Gel k c A g F (k + 1) (c + 1)) := mkM_eq rfl rfl fun p _ q _ => by unfold Gel; rw [if_neg (by omega)]
theorem Gel_here : Gel k c A g F i j i j = F i j := by unfold Gel; rw [if_neg (by omega)]
theorem Gel_c : Gel k c A g F i j i c = F i c := by unfold Gel; rw [if_neg (by omega)]
theorem Gel_up {q : Nat} : Gel k c A g F i j k q = F k q := by unfold Gel; rw [if_neg (by omega)]
theorem Gel_step (hi : k < i) (hj : c < j) : upd (Gel k c A g F i j) i j (Dt.Dg (k + 1) A g i j) = Gel k c A g F i (j + 1) := by
  funext p q
  unfold upd Gel
  by_cases h : p = i ∧ q = j
  · rw [if_pos h, if_pos (by omega), if_neg (by omega), h.1, h.2]
  · rw [if_neg h]
    by_cases h2 : k < p ∧ ((p < i ∧ c ≤ q) ∨ (p = i ∧ c < q ∧ q < j))
    · have h3 : k < p ∧ ((p < i ∧ c ≤ q) ∨ (p = i ∧ c < q ∧ q < j + 1)) := by omega
      rw [if_pos h2, if_pos h3]
    · rw [if_neg h2, if_neg (by omega)]
theorem Gel_row {n W : Nat} (hi : k < i) : mkM n W (upd (Gel k c A g F i W) i c (0, 0)) = mkM n W (Gel k c A g F (i + 1) (c + 1)) := mkM_eq rfl rfl fun p _ q hq => by
  unfold upd Gel
  by_cases h : p = i ∧ q = c
  · rw [if_pos h, if_pos (by omega), if_pos h.2]
  · rw [if_neg h]
    by_cases h2 : k < p ∧ ((p < i ∧ c ≤ q) ∨ (p = i ∧ c < q ∧ q < W))
    · have h3 : k < p ∧ ((p < i + 1 ∧ c ≤ q) ∨ (p = i + 1 ∧ c < q ∧ q < c + 1)) := by omega
      rw [if_pos h2, if_pos h3]
    · rw [if_neg h2, if_neg (by omega)]
theorem det_row_swr (hi : i < n) (hk : k < n) (h : Dt.det n A = sgb odd (Dt.det n A0)) : Dt.det n (fun r q => A (swr i k r) q) = sgb (odd != decide (i ≠ k)) (Dt.det n A0) := by
  by_cases e : i = k
  · subst e
    have e2 : Dt.det n (fun r q => A (swr i i r) q) = Dt.det n A := Dt.det_congr fun r _ q _ => by
      have : swr i i r = r := by unfold swr; split <;> omega
      rw [this]
    rw [e2, h]; cases odd <;> simp
  · rw [show Dt.det n (fun r q => A (swr i k r) q) = - Dt.det n A from (Dt.alt_det (R := Int × Int) (n := n)).swap e hi hk A, h]
    simp only [sgb_eq]
    cases odd <;> simp [e] <;> grind
/-- With the pivot in its place: the numbers that the step starts from. -/
structure EMid (n W : Nat) (A0 : Nat → Nat → Int × Int) (c k : Nat) (A F : Nat → Nat → Int × Int) (g : Nat → Nat) (odd : Bool) : Prop where
  kn : k < n
  kc : k ≤ c
  cW : c < W
  mono : ∀ x, x < k → g x < c ∧ ∀ y, y < x → g y < g x
  gk : g k = c
  dne : Dt.det k (fun r x => A r (g x)) ≠ 0
  pne : F k c ≠ (0, 0)
  pm : Pmr n A0 A
  sgn : Dt.det n A = sgb odd (Dt.det n A0)
  low : ∀ q, q < c → ∀ r, r < n → Dt.Dg k A g r q = 0
  tab : ∀ r, k ≤ r → r < n → ∀ q, c ≤ q → q < W → F r q = Dt.Dg k A g r q
theorem EInv.mid (h : EInv n W A0 c k A F g odd) (hc : c < W) (hp : k ≤ p) (hpn : p < n) (hne : F p c ≠ (0, 0)) : EMid n W A0 c k (fun r q => A (swr p k r) q) (fun r q => F (swr p k r) q) (gup g k c) (odd != decide (p ≠ k)) := by
  have hd : Dt.det k (fun r x => A (swr p k r) (gup g k c x)) = Dt.det k (fun r x => A r (g x)) := Dt.det_congr fun r hr x hx => by rw [swr_low hp hr, gup_lt hx]
  refine ⟨by omega, h.kc, hc, fun x hx => ?_, gup_k, by rw [hd]; exact h.dne, by rw [swr_k]; exact hne, h.pm.swr hpn (by omega), det_row_swr hpn (by omega) h.sgn, fun q hq r hr => ?_, fun r h1 h2 q h3 h4 => ?_⟩
  · rw [gup_lt hx]; exact ⟨(h.mono x hx).1, fun y hy => by rw [gup_lt (by omega)]; exact (h.mono x hx).2 y hy⟩
  · rw [Dg_gup, Dg_swr hp]; exact h.low q hq _ (swr_lt hpn (by omega) hr)
  · rw [Dg_gup, Dg_swr hp]
    exact h.tab _ (by unfold swr; split <;> (try split) <;> omega) (swr_lt hpn (by omega) h2) q h3 h4
theorem EMid.div (h : EMid n W A0 c k A F g odd) (hi : k < i) (hin : i < n) (hj : c < j) (hjW : j < W) : sP (mP (F i j) (F k c)) (mP (F i c) (F k j)) = mP (Dt.det k fun r x => A r (g x)) (Dt.Dg (k + 1) A g i j) := by
  have h2 := Dt.stepG noz (k := k) (A := A) (g := g) (i := i) (j := j) h.dne
  rw [h.gk, ← h.tab k (Nat.le_refl _) h.kn c (Nat.le_refl _) h.cW, ← h.tab i (by omega) hin j (by omega) hjW, ← h.tab i (by omega) hin c (Nat.le_refl _) h.cW, ← h.tab k (Nat.le_refl _) h.kn j (by omega) hjW] at h2
  show F i j * F k c - F i c * F k j = Dt.det k (fun r x => A r (g x)) * Dt.Dg (k + 1) A g i j
  rw [h2]; grind
theorem EMid.last (h : EMid n W A0 c k A F g odd) : Dt.det (k + 1) (fun r x => A r (g x)) = F k c := by
  rw [← Dt.Dg_diag, h.gk, ← h.tab k (Nat.le_refl _) h.kn c (Nat.le_refl _) h.cW]
theorem EMid.next (h : EMid n W A0 c k A F g odd) : EInv n W A0 (c + 1) (k + 1) A (Gel k c A g F n (c + 1)) g odd := by
  refine ⟨h.kn, by have := h.kc; omega, h.cW, fun x hx => ?_, by rw [h.last]; exact h.pne, h.pm, h.sgn, fun q hq r hr => ?_, fun r h1 h2 q h3 h4 => by unfold Gel; rw [if_pos (by omega), if_neg (by omega)]⟩
  · by_cases e : x = k
    · subst e; rw [h.gk]; exact ⟨by omega, fun y hy => (h.mono y hy).1⟩
    · have := h.mono x (by omega); exact ⟨by omega, this.2⟩
  · rcases Nat.lt_or_ge q c with e | e
    · exact Dt.Dg_zero noz (h := n - 1) h.dne (fun i hi => h.low q e i (by have := h.kn; omega)) (by have := h.kn; omega) (by omega)
    · obtain rfl : q = g k := by rw [h.gk]; omega
      exact Dg_col0 (Nat.lt_succ_self k)
/-- At the end: the rank; the determinant. -/
theorem EInv.rk (h : EInv n W A0 c k A F g odd) (he : c = W ∨ k = n) : Dt.Rk n W A0 k := by
  obtain ⟨u, u', hA, hu⟩ := h.pm
  have := Dt.rk_ofG (h := n) (w := W) h.kn (fun x hx => by have := (h.mono x hx).1; have := h.cW; omega) h.dne fun i hi j hj => by
    rcases he with e | e
    · exact h.low j (by omega) i hi
    · exact Dt.Dg_row0 (by omega)
  exact this.perm (u := u) (u' := u') (v := id) (v' := id) (fun i _ j _ => hA i j) (fun i hi => ⟨((hu i).1 hi).1, ((hu i).1 hi).2, (hu i).2.1⟩) (fun i hi => ⟨hi, hi, rfl⟩)
theorem mono_id (hm : ∀ x, x < n → g x < n ∧ ∀ y, y < x → g y < g x) : ∀ x, x < n → g x = x := by
  have lo : ∀ x, x < n → x ≤ g x := by
    intro x
    induction x with
    | zero => intro _; omega
    | succ x ih => intro hx; have := ih (by omega); have := (hm (x + 1) hx).2 x (by omega); omega
  have hi : ∀ d x, x + d + 1 = n → g x ≤ x := by
    intro d
    induction d with
    | zero => intro x hx; have := (hm x (by omega)).1; omega
    | succ d ih => intro x hx; have := ih (x + 1) (by omega); have := (hm (x + 1) (by omega)).2 x (by omega); omega
  exact fun x hx => Nat.le_antisymm (hi (n - x - 1) x (by omega)) (lo x hx)
theorem EInv.det (h : EInv n n A0 c k A F g odd) (hk : k = n) : Dt.det n A0 = sgb odd (Dt.det k fun r x => A r (g x)) := by
  subst hk
  have e : Dt.det k (fun r x => A r (g x)) = Dt.det k A := Dt.det_congr fun r _ x hx => by
    rw [mono_id (n := k) (fun x hx => ⟨by have := (h.mono x hx).1; have := h.cW; omega, (h.mono x hx).2⟩) x hx]
  rw [e, h.sgn]
  cases odd <;> simp [sgb]
/-- Bounds. -/
theorem EInv.bd {L : Nat} (hB : MinB n W L A0) (hp : Pmr n A0 A) {s : Nat} (hg : ∀ x, x < s → g x < W) {i j : Nat} (hi : i < n) (hs : s ≤ n) (hj : j < W) : zl L (Dt.Dg s A g i j) := by
  obtain ⟨u, u', hA, hu⟩ := hp
  by_cases e : i < s
  · rw [Dt.Dg_row0 e]; exact zl_0 _
  · have e2 : Dt.Dg s A g i j = Dt.det (s + 1) fun r x => A0 (u (Dt.bord s i r)) (Dt.gx s g j (Dt.bord s s x)) := Dt.det_congr fun r _ x _ => hA _ _
    rw [e2]
    refine hB (s + 1) (fun r => u (Dt.bord s i r)) (fun x => Dt.gx s g j (Dt.bord s s x)) (fun r hr => ⟨((hu _).1 (by unfold Dt.bord; split <;> omega)).1, ?_⟩) fun r q h1 h2 h3 => ?_
    · unfold Dt.gx
      split
      · exact hg _ (by assumption)
      · exact hj
    · have h4 := congrArg u' h3
      rw [(hu _).2.2, (hu _).2.2] at h4
      unfold Dt.bord at h4
      split at h4 <;> split at h4 <;> omega
end
end Go.Proofs.YtnkimagnmnocdaaGreat

