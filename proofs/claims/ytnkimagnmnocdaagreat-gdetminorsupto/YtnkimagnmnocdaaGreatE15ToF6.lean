/- The reference's elimination: its walk. -/
import Derived.Test.YtnkimagnmnocdaaGreatRtToE14
import Derived.Test.YtnkimagnmnocdaaGreatGpToF4
import Derived.Test.YtnkimagnmnocdaaGreatE7ToDt2
import Derived.Test.YtnkimagnmnocdaaGreatO5ToO9
import Derived.Test.YtnkimagnmnocdaaGreatE3ToE6

namespace Go.Proofs.YtnkimagnmnocdaaGreat
open Go Go.RowKit Dig
set_option linter.unusedVariables false
theorem bd_ex : ∀ Ms : List (List (Int × Int)), ∃ l, BdM l Ms
  | [] => ⟨0, fun r hr => by cases hr⟩
  | ps :: t => by
    obtain ⟨l, hl⟩ := bd_ex t
    have : ∀ ps : List (Int × Int), ∃ l, Bd l ps := by
      intro ps
      induction ps with
      | nil => exact ⟨0, fun p hp => by cases hp⟩
      | cons p t ih =>
        obtain ⟨l, hl⟩ := ih
        refine ⟨l + (dig p.1.natAbs).length + (dig p.2.natAbs).length, fun q hq => ?_⟩
        rcases List.mem_cons.1 hq with rfl | hq
        · exact ⟨by omega, by omega⟩
        · have := hl q hq; exact ⟨by omega, by omega⟩
    obtain ⟨m, hm⟩ := this ps
    refine ⟨l + m, fun r hr => ?_⟩
    rcases List.mem_cons.1 hr with rfl | hr
    · exact fun p hp => ⟨by have := (hm p hp).1; omega, by have := (hm p hp).2; omega⟩
    · exact fun p hp => ⟨by have := (hl r hr p hp).1; omega, by have := (hl r hr p hp).2; omega⟩
theorem wd_mkM2 {n W : Nat} {F : Nat → Nat → Int × Int} (h : 0 < n ∨ W = 0) : wd (mkM n W F) = W := wd_mkM h
def sgz (odd : Bool) : Int := if odd then -1 else 1
section
variable {n W c k p : Nat} {A0 A F : Nat → Nat → Int × Int} {g : Nat → Nat} {odd : Bool}
theorem EInv.dk (h : EInv n W A0 c k A F g odd) (hp : k ≤ p) : Dt.det k (fun r x => A (swr p k r) (gup g k c x)) = Dt.det k (fun r x => A r (g x)) := Dt.det_congr fun r hr x hx => by rw [swr_low hp hr, gup_lt hx]
theorem swr_self {r : Nat} : swr k k r = r := by unfold swr; split <;> omega
theorem sgz_le (odd : Bool) : -1 ≤ sgz odd ∧ sgz odd ≤ 1 := by cases odd <;> decide
theorem sgz_pm (odd : Bool) : sgz odd = 1 ∨ sgz odd = -1 := by cases odd; exact .inl rfl; exact .inr rfl
theorem EInv.lastbd {L : Nat} (h : EInv n W A0 c k A F g odd) (hB : MinB n W L A0) (h1 : 1 ≤ L) : zl L (Dt.det k fun r x => A r (g x)) := by
  cases k with
  | zero => exact ⟨Nat.le_trans (show (dig (1 : Int).natAbs).length ≤ 1 from zlen_small8 (by decide)) h1, Nat.le_trans (show (dig (0 : Int).natAbs).length ≤ 1 from zlen_small8 (by decide)) h1⟩
  | succ k =>
    rw [← Dt.Dg_diag]
    have hx : ∀ x, x < k + 1 → g x < W := fun x hx => by have := (h.mono x hx).1; have := h.cW; omega
    exact EInv.bd hB h.pm (fun x hx' => hx x (by omega)) (by have := h.kn; omega) (by have := h.kn; omega) (hx k (Nat.lt_succ_self k))
theorem sgz_mul (odd : Bool) (q : Int × Int) : sgb odd q = mP q (sgz odd, 0) := by
  unfold sgb sgz mP
  cases odd <;> simp
end
section
variable {w : World} {la n W L ca : Nat} {oa : Option Addr} {A : List (List (Int × Int))}
set_option maxHeartbeats 8000000 in
set_option maxRecDepth 20000 in
theorem relim_any (ha : MN la w oa A) (hna : A.length = n) (h : gd A) (hk : wd A = W) (hB : MinB n W L (at2 A)) (hL : L ≤ 3000000) (hL1 : 1 ≤ L) (hla : la ≤ 20000000) :
    Calls Tryz.prog 54 #[.slice oa n ca] w fun e w' => ∃ v1 o9 c9 v3 k z p, e = .returned (.tuple #[v1, .slice o9 k c9, v3, .int .i64 z]) ∧ PC w' v3 p.1 p.2 ∧ zl L p ∧ (z = 1 ∨ z = -1) ∧ k ≤ n ∧ Dt.Rk n W (at2 A) k ∧ (n = W → k = n → Dt.det n (at2 A) = mP p (z, 0)) ∧ Below w.heap.size w w' := by
  have HA := hide ha
  have H := hide h
  have HK := hide hk
  have HB := hide hB
  have hn64 : n ≤ 64 := by have := h.1; omega
  have hW64 : W ≤ 64 := by have := h.2.1; omega
  have hn0 : 0 < n ∨ W = 0 := by
    rcases Nat.eq_zero_or_pos n with e | e
    · right; rw [← hk, wd_nil (hna.trans e)]
    · exact .inl e
  have HN0 := hide hn0
  have HL4 := hide (show L ≤ 40000000 by omega)
  have HL5 := hide (show L + L + 1 ≤ 100000000 by omega)
  have HL6 := hide (show L + L + 2 ≤ 9000000 by omega)
  have HL7 := hide (show L ≤ 4500000 by omega)
  have HST := hide (EInv.start (n := n) (W := W) (A0 := at2 A))
  clear ha h hk hB hn0
  go_enter Tryz.func54, Tryz.ntmps54
  have hs := St.nil w
  refine wp_seq_k ?_
  intro K1 hK1
  refine rg [0, 1, 2, 3] ?_
  refine sq ?_
  refine .mv ?_
  refine sq ?_
  refine .mv ?_
  refine sq ?_
  refine .al hs ?_; clear hs; intro p_b1 w_1 hs n1 kb_b1
  refine sq ?_
  refine .mv ?_
  apply wpSq_end
  refine hK1 _ _ ?_
  refine wp_seq_k ?_
  intro K2 hK2
  refine rg [0, 1, 2] ?_
  refine sq ?_
  refine .mv ?_
  refine sq ?_
  intro K hK
  have hb := hs.b
  go_big_op
  go_fit (rCopy_any (HA.out.bl stab_n hb) hna H.out HK.out hla)
  rintro e w_2 ⟨o_O, c_O, rs_O, rfl, hl_O, hs_O, d_O, hb_2⟩
  clear hb
  replace hs := hs.mx hl_O hs_O; simp only [List.cons_append, List.nil_append] at hs
  refine hK _ _ rfl trivial ?_
  clear hK K
  refine sq ?_
  refine .mv ?_
  apply wpSq_end
  refine hK2 _ _ ?_
  refine wp_seq_k ?_
  intro K3 hK3
  refine rg [0, 1, 2] ?_
  refine sq ?_
  intro K hK
  go_big_op
  go_fit (rgI_any 1 0 _ (by decide) (by decide) (by decide) (by decide))
  rintro e w_3 ⟨_, rfl, ⟨n_ma, o_ma, k_ma, c_ma, n_mb, o_mb, k_mb, c_mb, rfl, m1, m2⟩, hb_3⟩
  replace hs := hs.bl hb_3
  refine hK _ _ rfl trivial ?_
  clear hK K
  refine sq ?_
  refine .al hs ?_; clear hs; intro p_b2 w_4 hs n4 kb_b2
  refine sq ?_
  refine .s4 hs.g0 (fun _ => hs.u0 kb_b2) ?_; clear hs; intro w_5 hs hd5 ho5
  apply wpSq_end
  refine hK3 _ _ ?_
  refine wp_seq_k ?_
  intro K4 hK4
  refine rg [0] ?_
  refine sq ?_
  refine .mv ?_
  apply wpSq_end
  refine hK4 _ _ ?_
  refine wp_seq_k ?_
  intro K5 hK5
  refine rg [0] ?_
  refine sq ?_
  refine .mv ?_
  apply wpSq_end
  refine hK5 _ _ ?_
  refine wp_seq_k ?_
  intro K6 hK6
  refine wp_seq_k ?_
  intro K7 hK7
  refine rg [0] ?_
  refine sq ?_
  refine .mv ?_
  apply wpSq_end
  refine hK7 _ _ ?_
  refine wp_block ?_
  have hs := ((hs.l0 3 1).perm (List.Perm.cons _ (List.Perm.swap _ _ _))).perm (List.Perm.swap _ _ _)
  have k3_5 := (kb n4).o hd5 ho5
  replace m1 := m1.k k3_5
  replace m2 := m2.k k3_5
  have k2_5 := ((kb hb_3).b n4).o hd5 ho5
  replace d_O := d_O.k k2_5
  have hd6 := hs.2.1
  go_loopg [8, 9, 10] W (fun kz s8 s9 s10 wr => ∃ (c k : Nat) (B F : Nat → Nat → Int × Int) (g : Nat → Nat) (odd : Bool) (rs : List Rw) (o9 : Option Addr) (c9 : Nat) (xs : List Value) (m1 m5 : Bool) (m2 m6 : Option Addr) (m3 m4 m7 m8 : Nat), s10 = .int .i64 (c : Int) ∧ s9 = .slice o9 k c9 ∧ s8 = .int .i64 (sgz odd) ∧ c + kz = W ∧ Hid (EInv n W (at2 A) c k B F g odd) ∧ rs.length = n ∧ RD wr rs (mkM n W F) ∧ ZC wr (.agg #[.bool m1, .slice m2 m3 m4]) (Dt.det k fun r x => B r (g x)).1 ∧ ZC wr (.agg #[.bool m5, .slice m6 m7 m8]) (Dt.det k fun r x => B r (g x)).2 ∧
    St w (ls w.heap.size 52 1 (.slice o_O n c_O) n (rs.map (·.v)) :: ls w.heap.size 3 1 (.slice o9 k c9) k xs :: bx p_b2 #[.bool m1, .slice m2 m3 m4, .bool m5, .slice m6 m7 m8] 28 :: bx p_b1 #[.bool false, .slice none 0 0, .bool false, .slice none 0 0] 28 :: ([] ++ rs.map (Rw.e w.heap.size))) wr)
  case atStart => exact ⟨0, 0, at2 A, at2 A, id, false, rs_O, none, 0, [], _, _, _, _, _, _, _, _, rfl, rfl, rfl, by omega, HST, hl_O, d_O, m1, m2, hs⟩
  case round =>
  clear d_O m1 m2 hs
  obtain ⟨c, k, B, F, g, odd, rs, o9, c9, xs, m1, m5, m2, m6, m3, m4, m7, m8, rfl, rfl, rfl, hcW, HE, hrl, hd, z5, z6, hs⟩ := hrel
  have HO := ‹∀ (a' : Act) (w' : World), Handed _ _ a' w' → _›
  obtain ⟨g1, hg1⟩ : ∃ g, gk = g := ⟨_, rfl⟩
  have hkn := HE.out.kn
  have hkc := HE.out.kc
  obtain ⟨V, hV⟩ : ∃ V, (Dt.det k fun r x => B r (g x)) = V := ⟨_, rfl⟩
  have HV := hide hV
  have LV := hide (show zl L V by rw [← hV]; exact HE.out.lastbd HB.out hL1)
  have hsg1 := (sgz_le odd).1
  have hsg2 := (sgz_le odd).2
  rw [hV] at z5 z6
  clear hV
  obtain ⟨lx, hlx⟩ := bd_ex (mkM n W F)
  have hMC := hide ((MCin (bs := _ :: _ :: _ :: ([] ++ rs.map (Rw.e w.heap.size))) hs rfl (fun r hr => by simp only [List.nil_append, List.mem_cons]; exact .inr (.inr (.inr (List.mem_map_of_mem hr)))) hrl hd).mn hlx)
  by_cases hc : c < W
  · by_cases hk2 : k < n
    · have t1 : ((k : Int) < (n : Int)) = True := eq_true (by omega)
      have t2 : ((c : Int) < (W : Int)) = True := eq_true (by omega)
      have HC := hide hc
      have HK2 := hide hk2
      clear hlx
      refine wp_seq_k ?_
      intro K8 hK8
      refine wp_seq_k ?_
      intro K9 hK9
      refine rg [0, 1, 2, 3, 4, 5, 6, 7, 8, 9, 10] ?_
      refine sq ?_
      refine .mv ?_
      refine sq ?_
      refine .mv ?_
      refine sq ?_
      intro K hK
      go_big_op
      go_fit (rCols_any hMC.out len_mkM (wd_mkM2 HN0.out))
      rintro e w_7 ⟨rfl, hb_7⟩
      replace hs := hs.bl hb_7
      refine hK _ _ rfl trivial ?_
      clear hK K
      refine sq ?_
      refine .r0 ?_
      refine sq ?_
      refine .mv ?_
      refine sq ?_
      refine .mv ?_
      refine sq ?_
      refine .r0 ?_
      refine sq ?_
      refine .mv ?_
      refine sq ?_
      refine .r0 ?_
      refine sq ?_
      refine .r0 ?_
      refine sq ?_
      refine .r0 ?_
      apply wpSq_end
      refine hK9 _ _ ?_
      refine ct ?_
      refine wp_skip ?_
      refine hK8 _ _ ?_
      refine wp_seq_k ?_
      intro K10 hK10
      refine wp_block ?_
      refine wp_seq_k ?_
      intro K11 hK11
      refine rg [0, 1, 2] ?_
      refine sq ?_
      refine .mv ?_
      refine sq ?_
      refine .r0 ?_
      refine sq ?_
      refine .mv ?_
      apply wpSq_end
      refine hK11 _ _ ?_
      refine wp_seq_k ?_
      intro K12 hK12
      refine rg [0, 1] ?_
      refine sq ?_
      refine .mv ?_
      refine sq ?_
      refine .mv ?_
      apply wpSq_end
      refine hK12 _ _ ?_
      refine wp_seq_k ?_
      intro K13 hK13
      refine wp_block ?_
      have k0_1 := kb hb_7
      replace hd := hd.k k0_1
      replace z5 := z5.k k0_1
      replace z6 := z6.k k0_1
      have hd8 := hs.2.1
      go_loopg [12] (n - k) (fun kz s12 wr => ∃ p : Nat, s12 = .int .i64 (p : Int) ∧ p + kz = n ∧ k ≤ p ∧ Hid (∀ r, k ≤ r → r < p → F r c = (0, 0)) ∧ RD wr rs (mkM n W F) ∧ ZC wr (.agg #[.bool m1, .slice m2 m3 m4]) V.1 ∧ ZC wr (.agg #[.bool m5, .slice m6 m7 m8]) V.2 ∧
        St w (ls w.heap.size 52 1 (.slice o_O n c_O) n (rs.map (·.v)) :: ls w.heap.size 3 1 (.slice o9 k c9) k xs :: bx p_b2 #[.bool m1, .slice m2 m3 m4, .bool m5, .slice m6 m7 m8] 28 :: bx p_b1 #[.bool false, .slice none 0 0, .bool false, .slice none 0 0] 28 :: ([] ++ rs.map (Rw.e w.heap.size))) wr)
      case atStart => exact ⟨k, rfl, by omega, Nat.le_refl _, hide (fun r h1 h2 => absurd h1 (by omega)), hd, z5, z6, hs⟩
      case round =>
      clear z5 z6 hd hs
      obtain ⟨p, rfl, hpn, hkp, HZ, hd, z5, z6, hs⟩ := hrel
      by_cases hp : p < n
      · have HP := hide hp
        have t3 : ((p : Int) < (n : Int)) = True := eq_true (by omega)
        obtain ⟨r1, gr, cr, ys, r2, er, hr1, hrv, hx, hs⟩ := hs.row (bs := _ :: _ :: _ :: []) hd (p := p) (K := W) (by rw [len_mkM]; exact hp) (by rw [mkM_row hp]; simp) (by omega)
        have ER := hide er
        clear er
        have LO : Lst wr w.heap.size 52 1 (.slice o_O n c_O) n _ := hs.1.2.1.1
        obtain ⟨gO, curO, rfl, xO, hcO⟩ := LO.box (by omega)
        have eO := hcO _ _ hrv
        have LR : Lst wr w.heap.size 28 4 (.slice (some ⟨gr, 0, none⟩) W cr) W ys := hs.1.1.1
        obtain ⟨gr', curR, eR, xR, hcR⟩ := LR.box (by omega)
        simp only [Option.some.injEq, Addr.mk.injEq, and_true] at eR
        obtain rfl : gr = gr' := eR
        rw [mkM_row hp] at hx
        obtain ⟨a1, a2, a3, a4, a5, a6, a7, a8, ee1, ee2, ee3, ee4, x1, x2⟩ := hx.els c (by simpa using HC.out)
        rw [show ((List.range W).map (F p))[c]'(by simpa using HC.out) = F p c by simp] at x1 x2
        replace ee1 := hcR _ _ ee1
        replace ee2 := hcR _ _ ee2
        replace ee3 := hcR _ _ ee3
        replace ee4 := hcR _ _ ee4
        have LB := hide (show zl L (F p c) by
          rw [HE.out.tab p hkp hp c (Nat.le_refl _) HC.out]
          exact EInv.bd HB.out HE.out.pm (fun x hx => by have := (HE.out.mono x hx).1; omega) hp HE.out.kn HC.out)
        replace x1 := x1.zn LB.out.1
        replace x2 := x2.zn LB.out.2
        have HPP := hide (show (F p c = (0, 0)) = ((F p c).1 = 0 ∧ (F p c).2 = 0) by rw [Prod.ext_iff])
        obtain ⟨P, hP⟩ : ∃ P, F p c = P := ⟨_, rfl⟩
        have HPE := hide hP
        rw [hP] at x1 x2 HPP LB
        have HRV := hide hrv
        clear LO hcO LR hcR hx hP hrv
        by_cases h0 : P.1 = 0 ∧ P.2 = 0
        · have HD := hide (decide_eq_true h0)
          have HY := hide (HPE.out.trans (Eq.mpr HPP.out h0))
          clear h0
          refine wp_seq_k ?_
          intro K14 hK14
          refine wp_seq_k ?_
          intro K15 hK15
          refine rg [0, 1, 2, 3, 4, 5, 6, 7, 8, 9, 10, 11, 12, 13] ?_
          refine sq ?_
          refine .mv ?_
          refine sq ?_
          refine .mv ?_
          refine sq ?_
          refine .r0 ?_
          refine sq ?_
          refine .r0 ?_
          refine sq ?_
          refine .mv ?_
          refine sq ?_
          refine .mv ?_
          refine sq ?_
          refine .mv ?_
          refine sq ?_
          refine .r0 ?_
          refine sq ?_
          refine .r1 (xO.cell _ eO) ?_
          refine sq ?_
          refine .mv ?_
          refine sq ?_
          refine .r0 ?_
          refine sq ?_
          refine .r4 ⟨xR.cell _ ee1, xR.cell _ ee2, xR.cell _ ee3, xR.cell _ ee4⟩ ?_
          refine sq ?_
          intro K hK
          go_big_op
          go_fit (rgNull_any (.mk' x1 x2) (by omega) (by omega))
          rintro e w_9 ⟨rfl, hb_9⟩
          replace xO := xO.bl hb_9; replace xR := xR.bl hb_9; replace hs := hs.bl hb_9
          rw [HD.out]
          refine hK _ _ rfl trivial ?_
          clear hK K
          refine sq ?_
          refine .r0 ?_
          apply wpSq_end
          refine hK15 _ _ ?_
          refine ct ?_
          refine wp_skip ?_
          refine hK14 _ _ ?_
          refine wp_block ?_
          refine rg [0, 1, 2] ?_
          refine sq ?_
          refine .mv ?_
          refine sq ?_
          refine .r0 ?_
          refine sq ?_
          refine .mv ?_
          apply wpSq_end
          have k0_1 := kb hb_9
          replace hd := hd.k k0_1
          replace z5 := z5.k k0_1
          replace z6 := z6.k k0_1
          refine ‹∀ (a' : Act) (w' : World), Handed _ _ a' w' → _› _ _ ?_
          have e9 := ER.out
          subst e9
          have hs := hs.unrow (bs := _ :: _ :: _ :: [])
          go_roundg (gk - 1)
          case rel => exact ⟨p + 1, by rfl, by omega, by omega, hide (fun r h1 h2 => by
            rcases Nat.lt_or_ge r p with h3 | h3
            · exact HZ.out r h1 h3
            · obtain rfl : r = p := by omega
              exact HY.out), hd, z5, z6, hs⟩
          case measure => omega
        · have HD := hide (decide_eq_false h0)
          have HNZ := hide (show F p c ≠ (0, 0) from fun c => h0 (Eq.mp HPP.out (HPE.out.symm.trans c)))
          clear h0
          refine wp_seq_k ?_
          intro K14 hK14
          refine wp_seq_k ?_
          intro K15 hK15
          refine rg [0, 1, 2, 3, 4, 5, 6, 7, 8, 9, 10, 11, 12, 13] ?_
          refine sq ?_
          refine .mv ?_
          refine sq ?_
          refine .mv ?_
          refine sq ?_
          refine .r0 ?_
          refine sq ?_
          refine .r0 ?_
          refine sq ?_
          refine .mv ?_
          refine sq ?_
          refine .mv ?_
          refine sq ?_
          refine .mv ?_
          refine sq ?_
          refine .r0 ?_
          refine sq ?_
          refine .r1 (xO.cell _ eO) ?_
          refine sq ?_
          refine .mv ?_
          refine sq ?_
          refine .r0 ?_
          refine sq ?_
          refine .r4 ⟨xR.cell _ ee1, xR.cell _ ee2, xR.cell _ ee3, xR.cell _ ee4⟩ ?_
          refine sq ?_
          intro K hK
          go_big_op
          go_fit (rgNull_any (.mk' x1 x2) (by omega) (by omega))
          rintro e w_9 ⟨rfl, hb_9⟩
          replace xO := xO.bl hb_9; replace xR := xR.bl hb_9; replace hs := hs.bl hb_9
          rw [HD.out]
          refine hK _ _ rfl trivial ?_
          clear hK K
          refine sq ?_
          refine .r0 ?_
          apply wpSq_end
          refine hK15 _ _ ?_
          refine cf ?_
          refine wp_exit ?_
          refine hK13 _ _ ?_
          refine wp_seq_k ?_
          intro K16 hK16
          refine wp_seq_k ?_
          intro K17 hK17
          refine rg [0, 1, 2, 3] ?_
          refine sq ?_
          refine .mv ?_
          refine sq ?_
          refine .mv ?_
          refine sq ?_
          refine .r0 ?_
          refine sq ?_
          refine .r0 ?_
          apply wpSq_end
          refine hK17 _ _ ?_
          have t4 : ((p : Int) == (n : Int)) = false := beq_eq_false_iff_ne.2 (by have := HP.out; omega)
          refine cf ?_
          refine wp_skip ?_
          refine hK16 _ _ ?_
          refine wp_seq_k ?_
          intro K18 hK18
          refine wp_seq_k ?_
          intro K19 hK19
          refine rg [0, 1, 2] ?_
          refine sq ?_
          refine .mv ?_
          refine sq ?_
          refine .mv ?_
          refine sq ?_
          refine .r0 ?_
          apply wpSq_end
          refine hK19 _ _ ?_
          have k0_1 := kb hb_9
          replace hd := hd.k k0_1
          replace z5 := z5.k k0_1
          replace z6 := z6.k k0_1
          have e9 := ER.out
          subst e9
          have hs := hs.unrow (bs := _ :: _ :: _ :: [])
          have hmid := HE.out.mid HC.out hkp HP.out HNZ.out
          have hdk := HE.out.dk (c := c) hkp
          have hrl2 := hide hrl
          clear hrl HRV
          obtain ⟨rs, hrs⟩ : ∃ rs, r1 ++ (⟨.slice (some ⟨gr, 0, none⟩) W cr, W, ys⟩ : Rw) :: r2 = rs := ⟨_, rfl⟩
          rw [hrs] at hs hd hrl2
          clear hrs
          by_cases hpk : p = k
          · have t5 : ((p : Int) != (k : Int)) = false := by rw [hpk]; simp
            have HMM := hide (show (mkM n W F) = mkM n W (fun r q => F (swr p k r) q) from mkM_eq rfl rfl fun r _ q _ => by rw [hpk, swr_self])
            have hz2 := hide (show sgz odd = sgz (odd != decide (p ≠ k)) by rw [decide_eq_false (fun c => c hpk)]; cases odd <;> rfl)
            rw [HMM.out] at hd
            clear hpk HMM
            refine cf ?_
            refine wp_skip ?_
            refine hK18 _ _ ?_
            refine wp_seq_k ?_
            intro K20 hK20
            refine wp_seq_k ?_
            intro K21 hK21
            refine rg [0, 1, 2] ?_
            refine sq ?_
            refine .mv ?_
            refine sq ?_
            refine .r0 ?_
            refine sq ?_
            refine .mv ?_
            apply wpSq_end
            refine hK21 _ _ ?_
            refine wp_block ?_
            obtain ⟨B2, F2, g2, odd2, hM2, hd2', hdk2, hz3⟩ : ∃ B2 F2 g2 odd2, EMid n W (at2 A) c k B2 F2 g2 odd2 ∧ RD w_9 rs (mkM n W F2) ∧ (Dt.det k fun r x => B2 r (g2 x)) = V ∧ (sgz odd) = sgz odd2 := ⟨_, _, _, _, hmid, hd, hdk.trans HV.out, hz2.out⟩
            have HM := hide hM2
            have HDK := hide hdk2
            have HZ2 := hide hz3
            clear hmid hd hdk hz2 hM2 hdk2 hz3
            have hd := hd2'
            clear hd2'
            have HNV := hide (show gN V.1 V.2 ≠ 0 from fun c => HM.out.dne (HDK.out.trans (Prod.ext (gN_zero.1 c).1 (gN_zero.1 c).2)))
            have HG2 := hide (show ∀ x, x < k → g2 x < W from fun x hx => by have := (HM.out.mono x hx).1; have := HC.out; omega)
            have hd10 := hs.2.1
            go_loopg [13] (n - (k + 1)) (fun kz s13 wr => ∃ (i : Nat) (rs : List Rw), s13 = .int .i64 (i : Int) ∧ i + kz = n ∧ k + 1 ≤ i ∧ rs.length = n ∧ RD wr rs (mkM n W (Gel k c B2 g2 F2 i (c + 1))) ∧ ZC wr (.agg #[.bool m1, .slice m2 m3 m4]) V.1 ∧ ZC wr (.agg #[.bool m5, .slice m6 m7 m8]) V.2 ∧ St w (ls w.heap.size 52 1 (.slice (some ⟨gO, 0, none⟩) n c_O) n (rs.map (·.v)) :: ls w.heap.size 3 1 (.slice o9 k c9) k xs :: bx p_b2 #[.bool m1, .slice m2 m3 m4, .bool m5, .slice m6 m7 m8] 28 :: bx p_b1 #[.bool false, .slice none 0 0, .bool false, .slice none 0 0] 28 :: ([] ++ rs.map (Rw.e w.heap.size))) wr)
            case atStart => exact ⟨k + 1, rs, by rfl, by have := HK2.out; omega, Nat.le_refl _, hrl2.out, by rw [← Gel_0]; exact hd, z5, z6, hs⟩
            case round =>
            clear z5 z6 hd x1 x2 hs
            obtain ⟨i, rs, rfl, hin, hki, hrl, hd, z5, z6, hs⟩ := hrel
            have HO3 := ‹∀ (a' : Act) (w' : World), Handed _ _ a' w' → _›
            obtain ⟨g3, hg3⟩ : ∃ g, gk = g := ⟨_, rfl⟩
            by_cases hi : i < n
            · have HI := hide hi
              have t6 : ((i : Int) < (n : Int)) = True := eq_true (by omega)
              refine wp_seq_k ?_
              intro K22 hK22
              refine wp_seq_k ?_
              intro K23 hK23
              refine rg [0, 1, 2, 3] ?_
              refine sq ?_
              refine .mv ?_
              refine sq ?_
              refine .mv ?_
              refine sq ?_
              refine .r0 ?_
              refine sq ?_
              refine .r0 ?_
              apply wpSq_end
              refine hK23 _ _ ?_
              refine ct ?_
              refine wp_skip ?_
              refine hK22 _ _ ?_
              refine wp_seq_k ?_
              intro K24 hK24
              refine wp_block ?_
              refine wp_seq_k ?_
              intro K25 hK25
              refine wp_seq_k ?_
              intro K26 hK26
              refine rg [0, 1, 2] ?_
              refine sq ?_
              refine .mv ?_
              refine sq ?_
              refine .r0 ?_
              refine sq ?_
              refine .mv ?_
              apply wpSq_end
              refine hK26 _ _ ?_
              refine wp_block ?_
              have hd11 := hs.2.1
              go_loopg [14] (W - (c + 1)) (fun kz s14 wr => ∃ (j : Nat) (rs : List Rw), s14 = .int .i64 (j : Int) ∧ j + kz = W ∧ c + 1 ≤ j ∧ rs.length = n ∧ RD wr rs (mkM n W (Gel k c B2 g2 F2 i j)) ∧ ZC wr (.agg #[.bool m1, .slice m2 m3 m4]) V.1 ∧ ZC wr (.agg #[.bool m5, .slice m6 m7 m8]) V.2 ∧ St w (ls w.heap.size 52 1 (.slice (some ⟨gO, 0, none⟩) n c_O) n (rs.map (·.v)) :: ls w.heap.size 3 1 (.slice o9 k c9) k xs :: bx p_b2 #[.bool m1, .slice m2 m3 m4, .bool m5, .slice m6 m7 m8] 28 :: bx p_b1 #[.bool false, .slice none 0 0, .bool false, .slice none 0 0] 28 :: ([] ++ rs.map (Rw.e w.heap.size))) wr)
              case atStart => exact ⟨c + 1, rs, by rfl, by have := HC.out; omega, Nat.le_refl _, hrl, hd, z5, z6, hs⟩
              case round =>
              clear hrl
              clear z5 z6 hd hs
              obtain ⟨j, rs, rfl, hjW, hcj, hrl, hd, z5, z6, hs⟩ := hrel
              have Lz5 := hide LV.out.1
              have Lz6 := hide LV.out.2
              by_cases hj : j < W
              · have HJ := hide hj
                have t7 : ((j : Int) < (W : Int)) = True := eq_true (by omega)
                obtain ⟨a, gp, cp, xp, b, gq, cq, xq, r2, rfl, hab, hvp, hvq, hxp, hxq, hs⟩ := hs.rows2 (bs := ls w.heap.size 3 1 (.slice o9 k c9) k xs :: bx p_b2 #[.bool m1, .slice m2 m3 m4, .bool m5, .slice m6 m7 m8] 28 :: bx p_b1 #[.bool false, .slice none 0 0, .bool false, .slice none 0 0] 28 :: []) hd (p := k) (q := i) (K := W) (by omega) (by rw [len_mkM]; exact hi) (by rw [mkM_row HK2.out]; simp) (by rw [mkM_row HI.out]; simp) (by omega)
                have LO : Lst wr w.heap.size 52 1 (.slice (some ⟨gO, 0, none⟩) n c_O) n _ := hs.1.2.2.1.1
                obtain ⟨gO', curO, eO', xO, hcO⟩ := LO.box (by omega)
                simp only [Option.some.injEq, Addr.mk.injEq, and_true] at eO'
                obtain rfl : gO = gO' := eO'
                have eK := hcO _ _ hvp
                have eI := hcO _ _ hvq
                have LQ : Lst wr w.heap.size 28 4 (.slice (some ⟨gq, 0, none⟩) W cq) W xq := hs.1.1.1
                obtain ⟨gq', curQ, eQ, xQ, hcQ⟩ := LQ.box (by omega)
                simp only [Option.some.injEq, Addr.mk.injEq, and_true] at eQ
                obtain rfl : gq = gq' := eQ
                have LPr : Lst wr w.heap.size 28 4 (.slice (some ⟨gp, 0, none⟩) W cp) W xp := hs.1.2.1.1
                obtain ⟨gp', curP, eP, xP, hcP⟩ := LPr.box (by omega)
                simp only [Option.some.injEq, Addr.mk.injEq, and_true] at eP
                obtain rfl : gp = gp' := eP
                have hxq2 := hxq
                rw [mkM_row HI.out] at hxq2
                rw [mkM_row HK2.out] at hxp
                obtain ⟨a1, a2, a3, a4, a5, a6, a7, a8, ee1, ee2, ee3, ee4, x1, x2⟩ := hxq2.els j (by simpa using hj)
                obtain ⟨b1, b2, b3, b4, b5, b6, b7, b8, ee5, ee6, ee7, ee8, y1, y2⟩ := hxq2.els c (by simpa using HC.out)
                obtain ⟨d1, d2, d3, d4, d5, d6, d7, d8, ee9, ee10, ee11, ee12, y3, y4⟩ := hxp.els j (by simpa using hj)
                obtain ⟨f1', f2', f3', f4', f5', f6', f7', f8', ee13, ee14, ee15, ee16, y5, y6⟩ := hxp.els c (by simpa using HC.out)
                rw [show ((List.range W).map (Gel k c B2 g2 F2 i j i))[j]'(by simpa using hj) = F2 i j by simp [Gel_here]] at x1 x2
                rw [show ((List.range W).map (Gel k c B2 g2 F2 i j i))[c]'(by simpa using HC.out) = F2 i c by simp [Gel_c]] at y1 y2
                rw [show ((List.range W).map (Gel k c B2 g2 F2 i j k))[j]'(by simpa using hj) = F2 k j by simp [Gel_up]] at y3 y4
                rw [show ((List.range W).map (Gel k c B2 g2 F2 i j k))[c]'(by simpa using HC.out) = F2 k c by simp [Gel_up]] at y5 y6
                have EE := hide (HM.out.div (i := i) (j := j) (by omega) HI.out (by omega) hj)
                have LX : zl L (F2 i j) := by rw [HM.out.tab i (by omega) HI.out j (by omega) hj]; exact EInv.bd HB.out HM.out.pm HG2.out HI.out (Nat.le_of_lt HK2.out) hj
                have LY : zl L (F2 i c) := by rw [HM.out.tab i (by omega) HI.out c (Nat.le_refl _) HC.out]; exact EInv.bd HB.out HM.out.pm HG2.out HI.out (Nat.le_of_lt HK2.out) HC.out
                have LU : zl L (F2 k j) := by rw [HM.out.tab k (Nat.le_refl _) HK2.out j (by omega) hj]; exact EInv.bd HB.out HM.out.pm HG2.out HK2.out (Nat.le_of_lt HK2.out) hj
                have LQ2 : zl L (F2 k c) := by rw [HM.out.tab k (Nat.le_refl _) HK2.out c (Nat.le_refl _) HC.out]; exact EInv.bd HB.out HM.out.pm HG2.out HK2.out (Nat.le_of_lt HK2.out) HC.out
                replace x1 := x1.zn LX.1
                replace x2 := x2.zn LX.2
                replace y1 := y1.zn LY.1
                replace y2 := y2.zn LY.2
                replace y3 := y3.zn LU.1
                replace y4 := y4.zn LU.2
                replace y5 := y5.zn LQ2.1
                replace y6 := y6.zn LQ2.2
                replace ee1 := hcQ _ _ ee1
                replace ee2 := hcQ _ _ ee2
                replace ee3 := hcQ _ _ ee3
                replace ee4 := hcQ _ _ ee4
                replace ee5 := hcQ _ _ ee5
                replace ee6 := hcQ _ _ ee6
                replace ee7 := hcQ _ _ ee7
                replace ee8 := hcQ _ _ ee8
                replace ee9 := hcP _ _ ee9
                replace ee10 := hcP _ _ ee10
                replace ee11 := hcP _ _ ee11
                replace ee12 := hcP _ _ ee12
                replace ee13 := hcP _ _ ee13
                replace ee14 := hcP _ _ ee14
                replace ee15 := hcP _ _ ee15
                replace ee16 := hcP _ _ ee16
                have HT := hide (Gel_step (k := k) (c := c) (A := B2) (g := g2) (F := F2) (i := i) (j := j) (by omega) (by omega))
                obtain ⟨X, hX⟩ : ∃ X, F2 i j = X := ⟨_, rfl⟩
                obtain ⟨Y, hY⟩ : ∃ Y, F2 i c = Y := ⟨_, rfl⟩
                obtain ⟨U, hU⟩ : ∃ U, F2 k j = U := ⟨_, rfl⟩
                obtain ⟨P9, hP9⟩ : ∃ P9, F2 k c = P9 := ⟨_, rfl⟩
                obtain ⟨Z, hZ⟩ : ∃ Z, Dt.Dg (k + 1) B2 g2 i j = Z := ⟨_, rfl⟩
                have E3 := EE.out
                rw [hX, hY, hU, hP9, HDK.out, hZ] at E3
                rw [hX] at x1 x2 LX
                rw [hY] at y1 y2 LY
                rw [hU] at y3 y4 LU
                rw [hP9] at y5 y6 LQ2
                have HTS := HT.out
                rw [hZ] at HTS
                have HS := hide HTS
                have E1 := hide (show X.1 * P9.1 - X.2 * P9.2 - (Y.1 * U.1 - Y.2 * U.2) = (mP V Z).1 from congrArg Prod.fst E3)
                have E2 := hide (show X.1 * P9.2 + X.2 * P9.1 - (Y.1 * U.2 + Y.2 * U.1) = (mP V Z).2 from congrArg Prod.snd E3)
                have LM := hide (show zl (L + L + 1) (mP X P9) from zl_mP LX LQ2)
                have LN := hide (show zl (L + L + 1) (mP Y U) from zl_mP LY LU)
                have LZ := hide (show zl (L + L + 2) (mP V Z) by rw [← E3]; exact zl_sPx LM.out LN.out)
                clear LO hcO hvp hvq LQ hcQ hxq2 LPr hcP hxp hX hY hU hP9 hZ EE HT E3 LX LY LU LQ2 HTS
                refine wp_seq_k ?_
                intro K27 hK27
                refine wp_seq_k ?_
                intro K28 hK28
                refine rg [0, 1, 2, 3, 4, 5, 6] ?_
                refine sq ?_
                refine .mv ?_
                refine sq ?_
                refine .mv ?_
                refine sq ?_
                refine .mv ?_
                refine sq ?_
                refine .r0 ?_
                refine sq ?_
                refine .r1 (xO.cell _ eI) ?_
                refine sq ?_
                refine .r0 ?_
                refine sq ?_
                refine .r0 ?_
                apply wpSq_end
                refine hK28 _ _ ?_
                refine ct ?_
                refine wp_skip ?_
                refine hK27 _ _ ?_
                refine wp_seq_k ?_
                intro K29 hK29
                refine wp_block ?_
                refine wp_seq_k ?_
                intro K30 hK30
                refine wp_region_f4 [(0, false), (1, false), (2, false), (3, false), (4, false), (5, false), (6, false), (7, false), (8, false), (9, false), (10, false), (11, false), (12, false), (13, false), (15, false), (16, false), (17, false), (18, false), (19, false), (20, false), (21, false), (22, false), (23, false), (24, false), (25, false), (26, false), (27, false), (28, false), (14, true), (29, true), (30, true)] [32] [31] (fun j => (.cells #[.bool false, .slice none 0 0, .bool false, .slice none 0 0] 28)) [99, 99, 99, 0, 99, 99, 1, 99, 99, 99, 0, 99, 99, 2, 99, 99, 99, 99, 0, 99, 99, 1, 99, 99, 99, 0, 99, 99, 2, 99, 99, 99, 99] [] (.c xO (.c xQ (.c xP .n))) (fm fn) fun w_12 n12 => ?_
                replace xO := xO.bl n12; replace xQ := xQ.bl n12; replace xP := xP.bl n12; replace hs := hs.bl n12
                have hlB := hs.lt; have hkB := hs.k
                refine fmv ?_
                refine fmv ?_
                refine f0 ?_
                apply wpFl_ld rfl rfl; (case h1 => intro w' hC K hK; have c0 := Bs.cell hC (i) eI; go_big_op; exact hK); iterate 4 kernel_rfl
                refine fmv ?_
                refine f0 ?_
                apply wpFl_ld rfl rfl; (case h1 => intro w' hC K hK; have c0 := Bs.cell hC ((j * 4)) ee1; have c1 := Bs.cell hC ((j * 4) + 1) ee2; have c2 := Bs.cell hC ((j * 4) + 2) ee3; have c3 := Bs.cell hC ((j * 4) + 3) ee4; go_big_op; exact hK); iterate 4 kernel_rfl
                refine fmv ?_
                refine fmv ?_
                refine f0 ?_
                apply wpFl_ld rfl rfl; (case h1 => intro w' hC K hK; have c0 := Bs.cell hC (k) eK; go_big_op; exact hK); iterate 4 kernel_rfl
                refine fmv ?_
                refine f0 ?_
                apply wpFl_ld rfl rfl; (case h1 => intro w' hC K hK; have c0 := Bs.cell hC ((c * 4)) ee13; have c1 := Bs.cell hC ((c * 4) + 1) ee14; have c2 := Bs.cell hC ((c * 4) + 2) ee15; have c3 := Bs.cell hC ((c * 4) + 3) ee16; go_big_op; exact hK); iterate 4 kernel_rfl
                refine fmv ?_
                refine fmv ?_
                refine f0 ?_
                apply wpFl_ld rfl rfl; (case h1 => intro w' hC K hK; have c0 := Bs.cell hC (i) eI; go_big_op; exact hK); iterate 4 kernel_rfl
                refine fmv ?_
                refine f0 ?_
                apply wpFl_ld rfl rfl; (case h1 => intro w' hC K hK; have c0 := Bs.cell hC ((c * 4)) ee5; have c1 := Bs.cell hC ((c * 4) + 1) ee6; have c2 := Bs.cell hC ((c * 4) + 2) ee7; have c3 := Bs.cell hC ((c * 4) + 3) ee8; go_big_op; exact hK); iterate 4 kernel_rfl
                refine fmv ?_
                refine fmv ?_
                refine f0 ?_
                apply wpFl_ld rfl rfl; (case h1 => intro w' hC K hK; have c0 := Bs.cell hC (k) eK; go_big_op; exact hK); iterate 4 kernel_rfl
                refine fmv ?_
                refine f0 ?_
                apply wpFl_ld rfl rfl; (case h1 => intro w' hC K hK; have c0 := Bs.cell hC ((j * 4)) ee9; have c1 := Bs.cell hC ((j * 4) + 1) ee10; have c2 := Bs.cell hC ((j * 4) + 2) ee11; have c3 := Bs.cell hC ((j * 4) + 3) ee12; go_big_op; exact hK); iterate 4 kernel_rfl
                refine fl fun w_13 n13 => ?_
                replace xO := xO.bl n13; replace xQ := xQ.bl n13; replace xP := xP.bl n13; replace hs := hs.bl n13
                intro K hK
                have k0_2 := (kb n12).b n13
                replace x1 := x1.k k0_2
                replace x2 := x2.k k0_2
                replace y5 := y5.k k0_2
                replace y6 := y6.k k0_2
                go_big_op
                go_fit (rgMul_any (.mk' x1 x2) (.mk' y5 y6) HL4.out HL4.out HL4.out HL4.out)
                rintro e w_14 ⟨_, rfl, ⟨n_fa, o_fa, k_fa, c_fa, n_fb, o_fb, k_fb, c_fb, rfl, f1, f2⟩, hb_14⟩
                replace xO := xO.bl hb_14; replace xQ := xQ.bl hb_14; replace xP := xP.bl hb_14; replace hs := hs.bl hb_14
                have Lf1 := hide (f1.lenOf (LM.out.1))
                have Lf2 := hide (f2.lenOf (LM.out.2))
                refine hK _ _ rfl ⟨hb_14, (And.intro xO (And.intro xQ (And.intro xP trivial)))⟩ ?_
                clear hK K
                refine fl fun w_15 n15 => ?_
                replace xO := xO.bl n15; replace xQ := xQ.bl n15; replace xP := xP.bl n15; replace hs := hs.bl n15
                intro K hK
                have k0_4 := (k0_2.b hb_14).b n15
                replace y1 := y1.k k0_4
                replace y2 := y2.k k0_4
                replace y3 := y3.k k0_4
                replace y4 := y4.k k0_4
                go_big_op
                go_fit (rgMul_any (.mk' y1 y2) (.mk' y3 y4) HL4.out HL4.out HL4.out HL4.out)
                rintro e w_16 ⟨_, rfl, ⟨n_ga, o_ga, k_ga, c_ga, n_gb, o_gb, k_gb, c_gb, rfl, g1, g2⟩, hb_16⟩
                replace xO := xO.bl hb_16; replace xQ := xQ.bl hb_16; replace xP := xP.bl hb_16; replace hs := hs.bl hb_16
                have Lg1 := hide (g1.lenOf (LN.out.1))
                have Lg2 := hide (g2.lenOf (LN.out.2))
                refine hK _ _ rfl ⟨hb_16, (And.intro xO (And.intro xQ (And.intro xP trivial)))⟩ ?_
                clear hK K
                refine fl fun w_17 n17 => ?_
                replace xO := xO.bl n17; replace xQ := xQ.bl n17; replace xP := xP.bl n17; replace hs := hs.bl n17
                intro K hK
                have k3_6 := ((kb n15).b hb_16).b n17
                replace f1 := f1.k k3_6
                replace f2 := f2.k k3_6
                have k5_6 := kb n17
                replace g1 := g1.k k5_6
                replace g2 := g2.k k5_6
                go_big_op
                go_fit (rgSub_any (.mk' (f1.zn Lf1.out) (f2.zn Lf2.out)) (.mk' (g1.zn Lg1.out) (g2.zn Lg2.out)) HL5.out HL5.out HL5.out HL5.out)
                rintro e w_18 ⟨_, rfl, ⟨n_sa, o_sa, k_sa, c_sa, n_sb, o_sb, k_sb, c_sb, rfl, s1, s2⟩, hb_18⟩
                replace xO := xO.bl hb_18; replace xQ := xQ.bl hb_18; replace xP := xP.bl hb_18; replace hs := hs.bl hb_18
                rw [E1.out] at s1
                rw [E2.out] at s2
                refine hK _ _ rfl ⟨hb_18, (And.intro xO (And.intro xQ (And.intro xP trivial)))⟩ ?_
                clear hK K
                refine e1 hs hlB hkB ?_; clear hs hlB hkB; intro w_19 p_b3 hs n19 kb_b3
                replace xO := xO.bl n19; replace xQ := xQ.bl n19; replace xP := xP.bl n19
                refine tl ?_
                refine .s4o hs.g0 (fun _ => hs.u0 kb_b3) ?_ (e := fun _ hs hO => (And.intro (xO.frame hO (hs.ne 3 0)) (And.intro (xQ.frame hO (hs.ne 1 0)) (And.intro (xP.frame hO (hs.ne 2 0)) True.intro)))); clear hs; intro w_20 hs hd20 ho20
                replace xO := xO.frame ho20 (hs.ne 3 0); replace xQ := xQ.frame ho20 (hs.ne 1 0); replace xP := xP.frame ho20 (hs.ne 2 0)
                apply wpTail_end
                refine hK30 _ _ ?_
                refine wp_seq_k ?_
                intro K31 hK31
                refine rg [0, 1, 2, 3, 4, 5, 6, 7, 8] ?_
                refine sq ?_
                refine .r4 hs.g0.f4 ?_
                refine sq ?_
                refine .r4 hs.g5.f4 ?_
                refine sq ?_
                intro K hK
                have k7_9 := (kb n19).o hd20 ho20
                replace s1 := s1.k k7_9
                replace s2 := s2.k k7_9
                have k0_9 := ((((k0_4.b hb_16).b n17).b hb_18).b n19).o hd20 ho20
                replace z5 := z5.k k0_9
                replace z6 := z6.k k0_9
                go_big_op
                go_fit (rgExact_div (q := V) (z := Z) (.mk' (s1.zn LZ.out.1) (s2.zn LZ.out.2)) (.mk' (z5.zn Lz5.out) (z6.zn Lz6.out)) HL6.out HL6.out HL7.out HL7.out HNV.out)
                rintro e w_21 ⟨_, rfl, ⟨n_ta, o_ta, k_ta, c_ta, n_tb, o_tb, k_tb, c_tb, rfl, t1, t2⟩, hb_21⟩
                replace xO := xO.bl hb_21; replace xQ := xQ.bl hb_21; replace xP := xP.bl hb_21; replace hs := hs.bl hb_21
                refine hK _ _ rfl trivial ?_
                clear hK K
                refine sq ?_
                refine .mv ?_
                refine sq ?_
                refine .r0 ?_
                refine sq ?_
                refine .r0 ?_
                refine sq ?_
                refine .al hs ?_; clear hs; intro p_b4 w_22 hs n22 kb_b4
                replace xO := xO.bl n22; replace xQ := xQ.bl n22; replace xP := xP.bl n22
                refine sq ?_
                refine .s4 hs.g0 (fun _ => hs.u0 kb_b4) ?_; clear hs; intro w_23 hs hd23 ho23
                replace xO := xO.frame ho23 (hs.ne 4 0); replace xQ := xQ.frame ho23 (hs.ne 2 0); replace xP := xP.frame ho23 (hs.ne 3 0)
                refine sq ?_
                refine .mv ?_
                apply wpSq_end
                refine hK31 _ _ ?_
                refine wp_region_f4 [(0, false), (1, false), (2, false), (3, false), (4, false), (5, false), (6, false)] [7] [] (fun _ => default) [99, 99, 99, 0, 99, 1, 99, 99] [] (.c xO (.c hs.g0 .n)) fn fun w_24 n24 => ?_
                replace xO := xO.bl n24; replace xQ := xQ.bl n24; replace xP := xP.bl n24; replace hs := hs.bl n24
                refine fmv ?_
                refine fmv ?_
                refine f0 ?_
                apply wpFl_ld rfl rfl; (case h1 => intro w' hC K hK; have c0 := Bs.cell hC (i) eI; go_big_op; exact hK); iterate 4 kernel_rfl
                refine fmv ?_
                refine f4 ?_
                refine f0 ?_
                refine e0 hs ?_; clear hs; intro w_25 hs n25
                replace xO := xO.bl n25; replace xQ := xQ.bl n25; replace xP := xP.bl n25
                refine tl ?_
                refine .i4 2 hs (j := j) (by exact HJ.out) ?_ (e := fun _ hB hO => (And.intro (xO.frame hO (hs.ne 4 2)) (And.intro (hs.g0.frame hO (hs.ne 0 2)) True.intro))); clear hs; intro w_26 hs kp26 hd26 ho26 hw26; simp only [List.set_cons_succ, List.set_cons_zero] at hs
                clear xO
                clear xQ
                clear xP
                apply wpTail_end
                refine hK29 _ _ ?_
                refine rg [0, 1, 2] ?_
                refine sq ?_
                refine .mv ?_
                refine sq ?_
                refine .r0 ?_
                refine sq ?_
                refine .mv ?_
                apply wpSq_end
                have k0_15 := (((((k0_9.b hb_21).b n22).o hd23 ho23).b n24).b n25).t kp26
                replace hd := hd.k k0_15
                replace hxq := hxq.k k0_15
                have k10_15 := ((((kb n22).o hd23 ho23).b n24).b n25).t kp26
                replace t1 := t1.k k10_15
                replace t2 := t2.k k10_15
                have k9_15 := (((((kb hb_21).b n22).o hd23 ho23).b n24).b n25).t kp26
                replace z5 := z5.k k9_15
                replace z6 := z6.k k9_15
                refine ‹∀ (a' : Act) (w' : World), Handed _ _ a' w' → _› _ _ ?_
                have hs := (hs.sub (.cons _ (.cons _ (List.Sublist.refl _)))).unrows2 (bs := ls w.heap.size 3 1 (.slice o9 k c9) k xs :: bx p_b2 #[.bool m1, .slice m2 m3 m4, .bool m5, .slice m6 m7 m8] 28 :: bx p_b1 #[.bool false, .slice none 0 0, .bool false, .slice none 0 0] 28 :: [])
                rw [mkM_row HI.out] at hxq
                have hd := RD.set' (r1 := a ++ (⟨.slice (some ⟨gp, 0, none⟩) W cp, W, xp⟩ : Rw) :: b) (v := .slice (some ⟨gq, 0, none⟩) W cq) (n := W) (by simp) (GD.put t1 t2 hxq (q := j) (by simpa using HJ.out)) (by simpa using hd) hab
                rw [show ((Z.1, Z.2) : Int × Int) = Z from rfl, mkM_set HI.out, HS.out] at hd
                go_roundg (gk - 1)
                case rel => exact ⟨j + 1, _, by rfl, by omega, by omega, by simpa using hrl, by simpa using hd, z5, z6, hs⟩
                case measure => omega
              · obtain rfl : W = j := by omega
                have HX := hide hj
                have t7 : ((W : Int) < (W : Int)) = False := eq_false (by omega)
                have h0W : 0 < W := by have := HC.out; omega
                obtain ⟨r1, gq, cq, xq, r2, rfl, hr1, hvq, hxq, hs⟩ := hs.row (bs := ls w.heap.size 3 1 (.slice o9 k c9) k xs :: bx p_b2 #[.bool m1, .slice m2 m3 m4, .bool m5, .slice m6 m7 m8] 28 :: bx p_b1 #[.bool false, .slice none 0 0, .bool false, .slice none 0 0] 28 :: []) hd (p := i) (K := W) (by rw [len_mkM]; exact HI.out) (by rw [mkM_row HI.out]; simp) h0W
                have LO : Lst wr w.heap.size 52 1 (.slice (some ⟨gO, 0, none⟩) n c_O) n _ := hs.1.2.1.1
                obtain ⟨gO', curO, eO', xO, hcO⟩ := LO.box (by have := HI.out; omega)
                simp only [Option.some.injEq, Addr.mk.injEq, and_true] at eO'
                obtain rfl : gO = gO' := eO'
                have eI := hcO _ _ hvq
                clear LO hcO hvq
                refine wp_seq_k ?_
                intro K27 hK27
                refine wp_seq_k ?_
                intro K28 hK28
                refine rg [0, 1, 2, 3, 4, 5, 6] ?_
                refine sq ?_
                refine .mv ?_
                refine sq ?_
                refine .mv ?_
                refine sq ?_
                refine .mv ?_
                refine sq ?_
                refine .r0 ?_
                refine sq ?_
                refine .r1 (xO.cell _ eI) ?_
                refine sq ?_
                refine .r0 ?_
                refine sq ?_
                refine .r0 ?_
                apply wpSq_end
                refine hK28 _ _ ?_
                refine cf ?_
                refine wp_exit ?_
                refine hK25 _ _ ?_
                refine wp_region_f4 [(0, false), (1, false), (2, false), (3, false), (4, false), (5, true), (6, false)] [7] [] (fun _ => default) [99, 99, 99, 0, 99, 99, 99, 99] [] (.c xO .n) fn fun w_12 n12 => ?_
                replace xO := xO.bl n12; replace hs := hs.bl n12
                refine fmv ?_
                refine fmv ?_
                refine f0 ?_
                apply wpFl_ld rfl rfl; (case h1 => intro w' hC K hK; have c0 := Bs.cell hC (i) eI; go_big_op; exact hK); iterate 4 kernel_rfl
                refine fmv ?_
                refine fl fun w_13 n13 => ?_
                replace xO := xO.bl n13; replace hs := hs.bl n13
                intro K hK
                go_big_op
                go_fit (rgI_any 0 0 _ (by decide) (by decide) (by decide) (by decide))
                rintro e w_14 ⟨_, rfl, ⟨n_oa, o_oa, k_oa, c_oa, n_ob, o_ob, k_ob, c_ob, rfl, o1, o2⟩, hb_14⟩
                replace xO := xO.bl hb_14; replace hs := hs.bl hb_14
                refine hK _ _ rfl ⟨hb_14, (And.intro xO trivial)⟩ ?_
                clear hK K
                refine f0 ?_
                refine e0 hs ?_; clear hs; intro w_15 hs n15
                replace xO := xO.bl n15
                refine tl ?_
                refine .i4 0 hs (j := c) (by exact HC.out) ?_ (e := fun _ hB hO => (And.intro (xO.frame hO (hs.ne 1 0)) True.intro)); clear hs; intro w_16 hs kp16 hd16 ho16 hw16; simp only [List.set_cons_zero] at hs
                clear xO
                apply wpTail_end
                refine hK24 _ _ ?_
                refine rg [0, 1, 2] ?_
                refine sq ?_
                refine .mv ?_
                refine sq ?_
                refine .r0 ?_
                refine sq ?_
                refine .mv ?_
                apply wpSq_end
                have k0_5 := ((((kb n12).b n13).b hb_14).b n15).t kp16
                replace hd := hd.k k0_5
                replace hxq := hxq.k k0_5
                have k3_5 := (kb n15).t kp16
                replace o1 := o1.k k3_5
                replace o2 := o2.k k3_5
                replace z5 := z5.k k0_5
                replace z6 := z6.k k0_5
                refine HO3 _ _ ?_
                have hs := hs.unrow (bs := ls w.heap.size 3 1 (.slice o9 k c9) k xs :: bx p_b2 #[.bool m1, .slice m2 m3 m4, .bool m5, .slice m6 m7 m8] 28 :: bx p_b1 #[.bool false, .slice none 0 0, .bool false, .slice none 0 0] 28 :: [])
                rw [mkM_row HI.out] at hxq
                have hd := RD.set' (v := .slice (some ⟨gq, 0, none⟩) W cq) (n := W) (by simp) (GD.put o1 o2 hxq (q := c) (by simpa using HC.out)) hd hr1
                rw [mkM_set HI.out, Gel_row (by omega)] at hd
                go_roundg (g3 - 1)
                case rel => exact ⟨i + 1, _, by rfl, by omega, by omega, by simpa using hrl, hd, z5, z6, hs⟩
                case measure => omega
            · obtain rfl : n = i := by omega
              have HX := hide hi
              have t6 : ((n : Int) < (n : Int)) = False := eq_false (by omega)
              obtain ⟨r1, gp, cp, xp, r2, rfl, hr1, hvp, hxp, hs⟩ := hs.row (bs := ls w.heap.size 3 1 (.slice o9 k c9) k xs :: bx p_b2 #[.bool m1, .slice m2 m3 m4, .bool m5, .slice m6 m7 m8] 28 :: bx p_b1 #[.bool false, .slice none 0 0, .bool false, .slice none 0 0] 28 :: []) hd (p := k) (K := W) (by rw [len_mkM]; exact HK2.out) (by rw [mkM_row HK2.out]; simp) (by have := HC.out; omega)
              have LO : Lst wr w.heap.size 52 1 (.slice (some ⟨gO, 0, none⟩) n c_O) n _ := hs.1.2.1.1
              obtain ⟨gO', curO, eO', xO, hcO⟩ := LO.box (by have := HK2.out; omega)
              simp only [Option.some.injEq, Addr.mk.injEq, and_true] at eO'
              obtain rfl : gO = gO' := eO'
              have eK := hcO _ _ hvp
              have LPr : Lst wr w.heap.size 28 4 (.slice (some ⟨gp, 0, none⟩) W cp) W xp := hs.1.1.1
              obtain ⟨gp', curP, eP, xP, hcP⟩ := LPr.box (by have := HC.out; omega)
              simp only [Option.some.injEq, Addr.mk.injEq, and_true] at eP
              obtain rfl : gp = gp' := eP
              rw [mkM_row HK2.out] at hxp
              obtain ⟨f1', f2', f3', f4', f5', f6', f7', f8', ee13, ee14, ee15, ee16, y5, y6⟩ := hxp.els c (by simpa using HC.out)
              rw [show ((List.range W).map (Gel k c B2 g2 F2 n (c + 1) k))[c]'(by simpa using HC.out) = F2 k c by simp [Gel_up]] at y5 y6
              replace ee13 := hcP _ _ ee13
              replace ee14 := hcP _ _ ee14
              replace ee15 := hcP _ _ ee15
              replace ee16 := hcP _ _ ee16
              rw [← HM.out.last] at y5 y6
              obtain ⟨V2, hV2⟩ : ∃ V2, (Dt.det (k + 1) fun r x => B2 r (g2 x)) = V2 := ⟨_, rfl⟩
              have HV2 := hide hV2
              rw [hV2] at y5 y6
              have hk64 : k ≤ 64 := by have := HK2.out; omega
              clear LO hcO hvp LPr hcP hxp hV2
              refine wp_seq_k ?_
              intro K22 hK22
              refine wp_seq_k ?_
              intro K23 hK23
              refine rg [0, 1, 2, 3] ?_
              refine sq ?_
              refine .mv ?_
              refine sq ?_
              refine .mv ?_
              refine sq ?_
              refine .r0 ?_
              refine sq ?_
              refine .r0 ?_
              apply wpSq_end
              refine hK23 _ _ ?_
              refine cf ?_
              refine wp_exit ?_
              refine hK20 _ _ ?_
              refine wp_seq_k ?_
              intro K24 hK24
              refine rg [0, 1, 2, 3, 4, 5, 6, 7] ?_
              refine sq ?_
              refine .mv ?_
              refine sq ?_
              refine .mv ?_
              refine sq ?_
              refine .r0 ?_
              refine sq ?_
              refine .r1 (xO.cell _ eK) ?_
              refine sq ?_
              refine .mv ?_
              refine sq ?_
              refine .r0 ?_
              refine sq ?_
              refine .r4 ⟨xP.cell _ ee13, xP.cell _ ee14, xP.cell _ ee15, xP.cell _ ee16⟩ ?_
              refine sq ?_
              refine .s4 hs.g3 (fun _ => hs.u3 kb_b2) ?_; clear hs; intro w_11 hs hd11 ho11
              replace xO := xO.frame ho11 (hs.ne 1 3); replace xP := xP.frame ho11 (hs.ne 0 3)
              apply wpSq_end
              refine hK24 _ _ ?_
              refine rg [0, 1, 2, 3, 4] ?_
              refine sq ?_
              refine .mv ?_
              refine sq ?_
              refine .mv ?_
              refine sq ?_
              refine .al hs ?_; clear hs; intro p_b3 w_12 hs n12 kb_b3
              replace xO := xO.bl n12; replace xP := xP.bl n12
              refine sq ?_
              refine .ap 3 hs hs.g0 ?_; clear hs; intro o_L_13 c_L_13 w_13 hs kp13 hw13; simp only [List.set_cons_succ, List.set_cons_zero] at hs
              clear xO
              clear xP
              refine sq ?_
              refine .mv ?_
              apply wpSq_end
              refine hK10 _ _ ?_
              refine rg [0, 1, 2] ?_
              refine sq ?_
              refine .mv ?_
              refine sq ?_
              refine .r0 ?_
              refine sq ?_
              refine .mv ?_
              apply wpSq_end
              have k0_3 := ((ko hd11 ho11).b n12).t kp13
              replace hd := hd.k k0_3
              replace y5 := y5.k k0_3
              replace y6 := y6.k k0_3
              refine HO _ _ ?_
              have hs := (hs.sub (.cons _ (List.Sublist.refl _))).unrow (bs := _ :: _ :: _ :: [])
              rw [← HV2.out] at y5 y6
              go_roundg (g1 - 1)
              case rel => exact ⟨c + 1, k + 1, B2, Gel k c B2 g2 F2 n (c + 1), g2, odd2, _, _, _, _, _, _, _, _, _, _, _, _, by rfl, by rfl, congrArg (Value.int .i64) HZ2.out, by omega, hide HM.out.next, hrl, hd, y5, y6, hs⟩
              case measure => omega
          · have t5 : ((p : Int) != (k : Int)) = true := bne_iff_ne.2 (by omega)
            have hz2 := hide (show -sgz odd = sgz (odd != decide (p ≠ k)) by rw [decide_eq_true hpk]; cases odd <;> rfl)
            have LO : Lst w_9 w.heap.size 52 1 (.slice (some ⟨gO, 0, none⟩) n c_O) n _ := hs.1.1.1
            obtain ⟨gO', curO, eO', xO, hcO⟩ := LO.box (by have := HP.out; omega)
            simp only [Option.some.injEq, Addr.mk.injEq, and_true] at eO'
            obtain rfl : gO = gO' := eO'
            obtain ⟨op, cp, hvp⟩ := hs.rowv (bs := _ :: _ :: _ :: []) hd (p := p) (K := W) (by rw [len_mkM]; exact HP.out) (by rw [mkM_row HP.out]; simp)
            obtain ⟨ok, ck, hvk⟩ := hs.rowv (bs := _ :: _ :: _ :: []) hd (p := k) (K := W) (by rw [len_mkM]; exact HK2.out) (by rw [mkM_row HK2.out]; simp)
            have eP := hcO _ _ hvp
            have eK := hcO _ _ hvk
            clear LO hcO hpk
            refine ct ?_
            refine wp_seq_k ?_
            intro K20 hK20
            refine wp_region_f4 [(0, false), (1, false), (2, false), (3, false), (4, false), (5, false), (6, false), (7, false), (8, false), (9, false), (10, false), (11, false), (12, false)] [13, 14, 15] [] (fun _ => default) [99, 99, 99, 99, 99, 99, 99, 0, 99, 99, 99, 0, 99, 99, 99, 99] [(13, 0), (14, 0), (15, 0)] (.c xO .n) fn fun w_10 n10 => ?_
            replace xO := xO.bl n10; replace hs := hs.bl n10
            refine fmv ?_
            refine fmv ?_
            refine fmv ?_
            refine fmv ?_
            refine fmv ?_
            refine fmv ?_
            refine f0 ?_
            apply wpFl_ld rfl rfl; (case h1 => intro w' hC K hK; have c0 := Bs.cell hC (k) eK; go_big_op; exact hK); iterate 4 kernel_rfl
            refine fmv ?_
            refine fmv ?_
            refine f0 ?_
            apply wpFl_ld rfl rfl; (case h1 => intro w' hC K hK; have c0 := Bs.cell hC (p) eP; go_big_op; exact hK); iterate 4 kernel_rfl
            refine f0 ?_
            refine e0 hs ?_; clear hs; intro w_11 hs n11
            replace xO := xO.bl n11
            refine tl ?_
            refine .i1 0 hs (j := p) (by exact HP.out) ?_ (e := fun _ hB hO => (And.intro True.intro True.intro)); clear hs; intro w_12 hs kp12 hd12 ho12 hw12; simp only [List.set_cons_zero] at hs
            clear xO
            refine tl ?_
            refine .r0 ?_ (e := (And.intro True.intro True.intro))
            refine tl ?_
            refine .i1 0 hs (j := k) (by exact HK2.out) ?_ (e := fun _ hB hO => (And.intro True.intro True.intro)); clear hs; intro w_13 hs kp13 hd13 ho13 hw13; simp only [List.set_cons_zero] at hs
            apply wpTail_end
            refine hK20 _ _ ?_
            refine rg [0, 1, 2] ?_
            refine sq ?_
            refine .mv ?_
            refine sq ?_
            refine .r0 ?_
            refine sq ?_
            refine .mv ?_
            apply wpSq_end
            refine hK18 _ _ ?_
            refine wp_seq_k ?_
            intro K21 hK21
            refine wp_seq_k ?_
            intro K22 hK22
            refine rg [0, 1, 2] ?_
            refine sq ?_
            refine .mv ?_
            refine sq ?_
            refine .r0 ?_
            refine sq ?_
            refine .mv ?_
            apply wpSq_end
            refine hK22 _ _ ?_
            refine wp_block ?_
            have k1_5 := (((kb n10).b n11).t kp12).t kp13
            replace hd := hd.k k1_5
            replace z5 := z5.k k1_5
            replace z6 := z6.k k1_5
            obtain ⟨rs2, q1, q2, q3, q4⟩ := RD.swap hd HP.out HK2.out hvp hvk
            have hs := hs.swap (bs := _ :: _ :: _ :: []) q2 q3
            replace hrl2 := hide (q1.trans hrl2.out)
            clear hd hvp hvk q1 q2 q3
            have hd := q4
            clear q4
            obtain ⟨B2, F2, g2, odd2, hM2, hd2', hdk2, hz3⟩ : ∃ B2 F2 g2 odd2, EMid n W (at2 A) c k B2 F2 g2 odd2 ∧ RD w_13 rs2 (mkM n W F2) ∧ (Dt.det k fun r x => B2 r (g2 x)) = V ∧ (-sgz odd) = sgz odd2 := ⟨_, _, _, _, hmid, hd, hdk.trans HV.out, hz2.out⟩
            have HM := hide hM2
            have HDK := hide hdk2
            have HZ2 := hide hz3
            clear hmid hd hdk hz2 hM2 hdk2 hz3
            have hd := hd2'
            clear hd2'
            have HNV := hide (show gN V.1 V.2 ≠ 0 from fun c => HM.out.dne (HDK.out.trans (Prod.ext (gN_zero.1 c).1 (gN_zero.1 c).2)))
            have HG2 := hide (show ∀ x, x < k → g2 x < W from fun x hx => by have := (HM.out.mono x hx).1; have := HC.out; omega)
            have hd14 := hs.2.1
            go_loopg [13] (n - (k + 1)) (fun kz s13 wr => ∃ (i : Nat) (rs : List Rw), s13 = .int .i64 (i : Int) ∧ i + kz = n ∧ k + 1 ≤ i ∧ rs.length = n ∧ RD wr rs (mkM n W (Gel k c B2 g2 F2 i (c + 1))) ∧ ZC wr (.agg #[.bool m1, .slice m2 m3 m4]) V.1 ∧ ZC wr (.agg #[.bool m5, .slice m6 m7 m8]) V.2 ∧ St w (ls w.heap.size 52 1 (.slice (some ⟨gO, 0, none⟩) n c_O) n (rs.map (·.v)) :: ls w.heap.size 3 1 (.slice o9 k c9) k xs :: bx p_b2 #[.bool m1, .slice m2 m3 m4, .bool m5, .slice m6 m7 m8] 28 :: bx p_b1 #[.bool false, .slice none 0 0, .bool false, .slice none 0 0] 28 :: ([] ++ rs.map (Rw.e w.heap.size))) wr)
            case atStart => exact ⟨k + 1, rs2, by rfl, by have := HK2.out; omega, Nat.le_refl _, hrl2.out, by rw [← Gel_0]; exact hd, z5, z6, hs⟩
            case round =>
            clear z5 z6 hd x1 x2 hs
            obtain ⟨i, rs, rfl, hin, hki, hrl, hd, z5, z6, hs⟩ := hrel
            have HO3 := ‹∀ (a' : Act) (w' : World), Handed _ _ a' w' → _›
            obtain ⟨g3, hg3⟩ : ∃ g, gk = g := ⟨_, rfl⟩
            by_cases hi : i < n
            · have HI := hide hi
              have t6 : ((i : Int) < (n : Int)) = True := eq_true (by omega)
              refine wp_seq_k ?_
              intro K23 hK23
              refine wp_seq_k ?_
              intro K24 hK24
              refine rg [0, 1, 2, 3] ?_
              refine sq ?_
              refine .mv ?_
              refine sq ?_
              refine .mv ?_
              refine sq ?_
              refine .r0 ?_
              refine sq ?_
              refine .r0 ?_
              apply wpSq_end
              refine hK24 _ _ ?_
              refine ct ?_
              refine wp_skip ?_
              refine hK23 _ _ ?_
              refine wp_seq_k ?_
              intro K25 hK25
              refine wp_block ?_
              refine wp_seq_k ?_
              intro K26 hK26
              refine wp_seq_k ?_
              intro K27 hK27
              refine rg [0, 1, 2] ?_
              refine sq ?_
              refine .mv ?_
              refine sq ?_
              refine .r0 ?_
              refine sq ?_
              refine .mv ?_
              apply wpSq_end
              refine hK27 _ _ ?_
              refine wp_block ?_
              have hd15 := hs.2.1
              go_loopg [14] (W - (c + 1)) (fun kz s14 wr => ∃ (j : Nat) (rs : List Rw), s14 = .int .i64 (j : Int) ∧ j + kz = W ∧ c + 1 ≤ j ∧ rs.length = n ∧ RD wr rs (mkM n W (Gel k c B2 g2 F2 i j)) ∧ ZC wr (.agg #[.bool m1, .slice m2 m3 m4]) V.1 ∧ ZC wr (.agg #[.bool m5, .slice m6 m7 m8]) V.2 ∧ St w (ls w.heap.size 52 1 (.slice (some ⟨gO, 0, none⟩) n c_O) n (rs.map (·.v)) :: ls w.heap.size 3 1 (.slice o9 k c9) k xs :: bx p_b2 #[.bool m1, .slice m2 m3 m4, .bool m5, .slice m6 m7 m8] 28 :: bx p_b1 #[.bool false, .slice none 0 0, .bool false, .slice none 0 0] 28 :: ([] ++ rs.map (Rw.e w.heap.size))) wr)
              case atStart => exact ⟨c + 1, rs, by rfl, by have := HC.out; omega, Nat.le_refl _, hrl, hd, z5, z6, hs⟩
              case round =>
              clear hrl
              clear z5 z6 hd hs
              obtain ⟨j, rs, rfl, hjW, hcj, hrl, hd, z5, z6, hs⟩ := hrel
              have Lz5 := hide LV.out.1
              have Lz6 := hide LV.out.2
              by_cases hj : j < W
              · have HJ := hide hj
                have t7 : ((j : Int) < (W : Int)) = True := eq_true (by omega)
                obtain ⟨a, gp, cp, xp, b, gq, cq, xq, r2, rfl, hab, hvp, hvq, hxp, hxq, hs⟩ := hs.rows2 (bs := ls w.heap.size 3 1 (.slice o9 k c9) k xs :: bx p_b2 #[.bool m1, .slice m2 m3 m4, .bool m5, .slice m6 m7 m8] 28 :: bx p_b1 #[.bool false, .slice none 0 0, .bool false, .slice none 0 0] 28 :: []) hd (p := k) (q := i) (K := W) (by omega) (by rw [len_mkM]; exact hi) (by rw [mkM_row HK2.out]; simp) (by rw [mkM_row HI.out]; simp) (by omega)
                have LO : Lst wr w.heap.size 52 1 (.slice (some ⟨gO, 0, none⟩) n c_O) n _ := hs.1.2.2.1.1
                obtain ⟨gO', curO, eO', xO, hcO⟩ := LO.box (by omega)
                simp only [Option.some.injEq, Addr.mk.injEq, and_true] at eO'
                obtain rfl : gO = gO' := eO'
                have eK := hcO _ _ hvp
                have eI := hcO _ _ hvq
                have LQ : Lst wr w.heap.size 28 4 (.slice (some ⟨gq, 0, none⟩) W cq) W xq := hs.1.1.1
                obtain ⟨gq', curQ, eQ, xQ, hcQ⟩ := LQ.box (by omega)
                simp only [Option.some.injEq, Addr.mk.injEq, and_true] at eQ
                obtain rfl : gq = gq' := eQ
                have LPr : Lst wr w.heap.size 28 4 (.slice (some ⟨gp, 0, none⟩) W cp) W xp := hs.1.2.1.1
                obtain ⟨gp', curP, eP, xP, hcP⟩ := LPr.box (by omega)
                simp only [Option.some.injEq, Addr.mk.injEq, and_true] at eP
                obtain rfl : gp = gp' := eP
                have hxq2 := hxq
                rw [mkM_row HI.out] at hxq2
                rw [mkM_row HK2.out] at hxp
                obtain ⟨a1, a2, a3, a4, a5, a6, a7, a8, ee1, ee2, ee3, ee4, x1, x2⟩ := hxq2.els j (by simpa using hj)
                obtain ⟨b1, b2, b3, b4, b5, b6, b7, b8, ee5, ee6, ee7, ee8, y1, y2⟩ := hxq2.els c (by simpa using HC.out)
                obtain ⟨d1, d2, d3, d4, d5, d6, d7, d8, ee9, ee10, ee11, ee12, y3, y4⟩ := hxp.els j (by simpa using hj)
                obtain ⟨f1', f2', f3', f4', f5', f6', f7', f8', ee13, ee14, ee15, ee16, y5, y6⟩ := hxp.els c (by simpa using HC.out)
                rw [show ((List.range W).map (Gel k c B2 g2 F2 i j i))[j]'(by simpa using hj) = F2 i j by simp [Gel_here]] at x1 x2
                rw [show ((List.range W).map (Gel k c B2 g2 F2 i j i))[c]'(by simpa using HC.out) = F2 i c by simp [Gel_c]] at y1 y2
                rw [show ((List.range W).map (Gel k c B2 g2 F2 i j k))[j]'(by simpa using hj) = F2 k j by simp [Gel_up]] at y3 y4
                rw [show ((List.range W).map (Gel k c B2 g2 F2 i j k))[c]'(by simpa using HC.out) = F2 k c by simp [Gel_up]] at y5 y6
                have EE := hide (HM.out.div (i := i) (j := j) (by omega) HI.out (by omega) hj)
                have LX : zl L (F2 i j) := by rw [HM.out.tab i (by omega) HI.out j (by omega) hj]; exact EInv.bd HB.out HM.out.pm HG2.out HI.out (Nat.le_of_lt HK2.out) hj
                have LY : zl L (F2 i c) := by rw [HM.out.tab i (by omega) HI.out c (Nat.le_refl _) HC.out]; exact EInv.bd HB.out HM.out.pm HG2.out HI.out (Nat.le_of_lt HK2.out) HC.out
                have LU : zl L (F2 k j) := by rw [HM.out.tab k (Nat.le_refl _) HK2.out j (by omega) hj]; exact EInv.bd HB.out HM.out.pm HG2.out HK2.out (Nat.le_of_lt HK2.out) hj
                have LQ2 : zl L (F2 k c) := by rw [HM.out.tab k (Nat.le_refl _) HK2.out c (Nat.le_refl _) HC.out]; exact EInv.bd HB.out HM.out.pm HG2.out HK2.out (Nat.le_of_lt HK2.out) HC.out
                replace x1 := x1.zn LX.1
                replace x2 := x2.zn LX.2
                replace y1 := y1.zn LY.1
                replace y2 := y2.zn LY.2
                replace y3 := y3.zn LU.1
                replace y4 := y4.zn LU.2
                replace y5 := y5.zn LQ2.1
                replace y6 := y6.zn LQ2.2
                replace ee1 := hcQ _ _ ee1
                replace ee2 := hcQ _ _ ee2
                replace ee3 := hcQ _ _ ee3
                replace ee4 := hcQ _ _ ee4
                replace ee5 := hcQ _ _ ee5
                replace ee6 := hcQ _ _ ee6
                replace ee7 := hcQ _ _ ee7
                replace ee8 := hcQ _ _ ee8
                replace ee9 := hcP _ _ ee9
                replace ee10 := hcP _ _ ee10
                replace ee11 := hcP _ _ ee11
                replace ee12 := hcP _ _ ee12
                replace ee13 := hcP _ _ ee13
                replace ee14 := hcP _ _ ee14
                replace ee15 := hcP _ _ ee15
                replace ee16 := hcP _ _ ee16
                have HT := hide (Gel_step (k := k) (c := c) (A := B2) (g := g2) (F := F2) (i := i) (j := j) (by omega) (by omega))
                obtain ⟨X, hX⟩ : ∃ X, F2 i j = X := ⟨_, rfl⟩
                obtain ⟨Y, hY⟩ : ∃ Y, F2 i c = Y := ⟨_, rfl⟩
                obtain ⟨U, hU⟩ : ∃ U, F2 k j = U := ⟨_, rfl⟩
                obtain ⟨P9, hP9⟩ : ∃ P9, F2 k c = P9 := ⟨_, rfl⟩
                obtain ⟨Z, hZ⟩ : ∃ Z, Dt.Dg (k + 1) B2 g2 i j = Z := ⟨_, rfl⟩
                have E3 := EE.out
                rw [hX, hY, hU, hP9, HDK.out, hZ] at E3
                rw [hX] at x1 x2 LX
                rw [hY] at y1 y2 LY
                rw [hU] at y3 y4 LU
                rw [hP9] at y5 y6 LQ2
                have HTS := HT.out
                rw [hZ] at HTS
                have HS := hide HTS
                have E1 := hide (show X.1 * P9.1 - X.2 * P9.2 - (Y.1 * U.1 - Y.2 * U.2) = (mP V Z).1 from congrArg Prod.fst E3)
                have E2 := hide (show X.1 * P9.2 + X.2 * P9.1 - (Y.1 * U.2 + Y.2 * U.1) = (mP V Z).2 from congrArg Prod.snd E3)
                have LM := hide (show zl (L + L + 1) (mP X P9) from zl_mP LX LQ2)
                have LN := hide (show zl (L + L + 1) (mP Y U) from zl_mP LY LU)
                have LZ := hide (show zl (L + L + 2) (mP V Z) by rw [← E3]; exact zl_sPx LM.out LN.out)
                clear LO hcO hvp hvq LQ hcQ hxq2 LPr hcP hxp hX hY hU hP9 hZ EE HT E3 LX LY LU LQ2 HTS
                refine wp_seq_k ?_
                intro K28 hK28
                refine wp_seq_k ?_
                intro K29 hK29
                refine rg [0, 1, 2, 3, 4, 5, 6] ?_
                refine sq ?_
                refine .mv ?_
                refine sq ?_
                refine .mv ?_
                refine sq ?_
                refine .mv ?_
                refine sq ?_
                refine .r0 ?_
                refine sq ?_
                refine .r1 (xO.cell _ eI) ?_
                refine sq ?_
                refine .r0 ?_
                refine sq ?_
                refine .r0 ?_
                apply wpSq_end
                refine hK29 _ _ ?_
                refine ct ?_
                refine wp_skip ?_
                refine hK28 _ _ ?_
                refine wp_seq_k ?_
                intro K30 hK30
                refine wp_block ?_
                refine wp_seq_k ?_
                intro K31 hK31
                refine wp_region_f4 [(0, false), (1, false), (2, false), (3, false), (4, false), (5, false), (6, false), (7, false), (8, false), (9, false), (10, false), (11, false), (12, false), (13, false), (15, false), (16, false), (17, false), (18, false), (19, false), (20, false), (21, false), (22, false), (23, false), (24, false), (25, false), (26, false), (27, false), (28, false), (14, true), (29, true), (30, true)] [32] [31] (fun j => (.cells #[.bool false, .slice none 0 0, .bool false, .slice none 0 0] 28)) [99, 99, 99, 0, 99, 99, 1, 99, 99, 99, 0, 99, 99, 2, 99, 99, 99, 99, 0, 99, 99, 1, 99, 99, 99, 0, 99, 99, 2, 99, 99, 99, 99] [] (.c xO (.c xQ (.c xP .n))) (fm fn) fun w_16 n16 => ?_
                replace xO := xO.bl n16; replace xQ := xQ.bl n16; replace xP := xP.bl n16; replace hs := hs.bl n16
                have hlB := hs.lt; have hkB := hs.k
                refine fmv ?_
                refine fmv ?_
                refine f0 ?_
                apply wpFl_ld rfl rfl; (case h1 => intro w' hC K hK; have c0 := Bs.cell hC (i) eI; go_big_op; exact hK); iterate 4 kernel_rfl
                refine fmv ?_
                refine f0 ?_
                apply wpFl_ld rfl rfl; (case h1 => intro w' hC K hK; have c0 := Bs.cell hC ((j * 4)) ee1; have c1 := Bs.cell hC ((j * 4) + 1) ee2; have c2 := Bs.cell hC ((j * 4) + 2) ee3; have c3 := Bs.cell hC ((j * 4) + 3) ee4; go_big_op; exact hK); iterate 4 kernel_rfl
                refine fmv ?_
                refine fmv ?_
                refine f0 ?_
                apply wpFl_ld rfl rfl; (case h1 => intro w' hC K hK; have c0 := Bs.cell hC (k) eK; go_big_op; exact hK); iterate 4 kernel_rfl
                refine fmv ?_
                refine f0 ?_
                apply wpFl_ld rfl rfl; (case h1 => intro w' hC K hK; have c0 := Bs.cell hC ((c * 4)) ee13; have c1 := Bs.cell hC ((c * 4) + 1) ee14; have c2 := Bs.cell hC ((c * 4) + 2) ee15; have c3 := Bs.cell hC ((c * 4) + 3) ee16; go_big_op; exact hK); iterate 4 kernel_rfl
                refine fmv ?_
                refine fmv ?_
                refine f0 ?_
                apply wpFl_ld rfl rfl; (case h1 => intro w' hC K hK; have c0 := Bs.cell hC (i) eI; go_big_op; exact hK); iterate 4 kernel_rfl
                refine fmv ?_
                refine f0 ?_
                apply wpFl_ld rfl rfl; (case h1 => intro w' hC K hK; have c0 := Bs.cell hC ((c * 4)) ee5; have c1 := Bs.cell hC ((c * 4) + 1) ee6; have c2 := Bs.cell hC ((c * 4) + 2) ee7; have c3 := Bs.cell hC ((c * 4) + 3) ee8; go_big_op; exact hK); iterate 4 kernel_rfl
                refine fmv ?_
                refine fmv ?_
                refine f0 ?_
                apply wpFl_ld rfl rfl; (case h1 => intro w' hC K hK; have c0 := Bs.cell hC (k) eK; go_big_op; exact hK); iterate 4 kernel_rfl
                refine fmv ?_
                refine f0 ?_
                apply wpFl_ld rfl rfl; (case h1 => intro w' hC K hK; have c0 := Bs.cell hC ((j * 4)) ee9; have c1 := Bs.cell hC ((j * 4) + 1) ee10; have c2 := Bs.cell hC ((j * 4) + 2) ee11; have c3 := Bs.cell hC ((j * 4) + 3) ee12; go_big_op; exact hK); iterate 4 kernel_rfl
                refine fl fun w_17 n17 => ?_
                replace xO := xO.bl n17; replace xQ := xQ.bl n17; replace xP := xP.bl n17; replace hs := hs.bl n17
                intro K hK
                have k0_2 := (kb n16).b n17
                replace x1 := x1.k k0_2
                replace x2 := x2.k k0_2
                replace y5 := y5.k k0_2
                replace y6 := y6.k k0_2
                go_big_op
                go_fit (rgMul_any (.mk' x1 x2) (.mk' y5 y6) HL4.out HL4.out HL4.out HL4.out)
                rintro e w_18 ⟨_, rfl, ⟨n_fa, o_fa, k_fa, c_fa, n_fb, o_fb, k_fb, c_fb, rfl, f1, f2⟩, hb_18⟩
                replace xO := xO.bl hb_18; replace xQ := xQ.bl hb_18; replace xP := xP.bl hb_18; replace hs := hs.bl hb_18
                have Lf1 := hide (f1.lenOf (LM.out.1))
                have Lf2 := hide (f2.lenOf (LM.out.2))
                refine hK _ _ rfl ⟨hb_18, (And.intro xO (And.intro xQ (And.intro xP trivial)))⟩ ?_
                clear hK K
                refine fl fun w_19 n19 => ?_
                replace xO := xO.bl n19; replace xQ := xQ.bl n19; replace xP := xP.bl n19; replace hs := hs.bl n19
                intro K hK
                have k0_4 := (k0_2.b hb_18).b n19
                replace y1 := y1.k k0_4
                replace y2 := y2.k k0_4
                replace y3 := y3.k k0_4
                replace y4 := y4.k k0_4
                go_big_op
                go_fit (rgMul_any (.mk' y1 y2) (.mk' y3 y4) HL4.out HL4.out HL4.out HL4.out)
                rintro e w_20 ⟨_, rfl, ⟨n_ga, o_ga, k_ga, c_ga, n_gb, o_gb, k_gb, c_gb, rfl, g1, g2⟩, hb_20⟩
                replace xO := xO.bl hb_20; replace xQ := xQ.bl hb_20; replace xP := xP.bl hb_20; replace hs := hs.bl hb_20
                have Lg1 := hide (g1.lenOf (LN.out.1))
                have Lg2 := hide (g2.lenOf (LN.out.2))
                refine hK _ _ rfl ⟨hb_20, (And.intro xO (And.intro xQ (And.intro xP trivial)))⟩ ?_
                clear hK K
                refine fl fun w_21 n21 => ?_
                replace xO := xO.bl n21; replace xQ := xQ.bl n21; replace xP := xP.bl n21; replace hs := hs.bl n21
                intro K hK
                have k3_6 := ((kb n19).b hb_20).b n21
                replace f1 := f1.k k3_6
                replace f2 := f2.k k3_6
                have k5_6 := kb n21
                replace g1 := g1.k k5_6
                replace g2 := g2.k k5_6
                go_big_op
                go_fit (rgSub_any (.mk' (f1.zn Lf1.out) (f2.zn Lf2.out)) (.mk' (g1.zn Lg1.out) (g2.zn Lg2.out)) HL5.out HL5.out HL5.out HL5.out)
                rintro e w_22 ⟨_, rfl, ⟨n_sa, o_sa, k_sa, c_sa, n_sb, o_sb, k_sb, c_sb, rfl, s1, s2⟩, hb_22⟩
                replace xO := xO.bl hb_22; replace xQ := xQ.bl hb_22; replace xP := xP.bl hb_22; replace hs := hs.bl hb_22
                rw [E1.out] at s1
                rw [E2.out] at s2
                refine hK _ _ rfl ⟨hb_22, (And.intro xO (And.intro xQ (And.intro xP trivial)))⟩ ?_
                clear hK K
                refine e1 hs hlB hkB ?_; clear hs hlB hkB; intro w_23 p_b3 hs n23 kb_b3
                replace xO := xO.bl n23; replace xQ := xQ.bl n23; replace xP := xP.bl n23
                refine tl ?_
                refine .s4o hs.g0 (fun _ => hs.u0 kb_b3) ?_ (e := fun _ hs hO => (And.intro (xO.frame hO (hs.ne 3 0)) (And.intro (xQ.frame hO (hs.ne 1 0)) (And.intro (xP.frame hO (hs.ne 2 0)) True.intro)))); clear hs; intro w_24 hs hd24 ho24
                replace xO := xO.frame ho24 (hs.ne 3 0); replace xQ := xQ.frame ho24 (hs.ne 1 0); replace xP := xP.frame ho24 (hs.ne 2 0)
                apply wpTail_end
                refine hK31 _ _ ?_
                refine wp_seq_k ?_
                intro K32 hK32
                refine rg [0, 1, 2, 3, 4, 5, 6, 7, 8] ?_
                refine sq ?_
                refine .r4 hs.g0.f4 ?_
                refine sq ?_
                refine .r4 hs.g5.f4 ?_
                refine sq ?_
                intro K hK
                have k7_9 := (kb n23).o hd24 ho24
                replace s1 := s1.k k7_9
                replace s2 := s2.k k7_9
                have k0_9 := ((((k0_4.b hb_20).b n21).b hb_22).b n23).o hd24 ho24
                replace z5 := z5.k k0_9
                replace z6 := z6.k k0_9
                go_big_op
                go_fit (rgExact_div (q := V) (z := Z) (.mk' (s1.zn LZ.out.1) (s2.zn LZ.out.2)) (.mk' (z5.zn Lz5.out) (z6.zn Lz6.out)) HL6.out HL6.out HL7.out HL7.out HNV.out)
                rintro e w_25 ⟨_, rfl, ⟨n_ta, o_ta, k_ta, c_ta, n_tb, o_tb, k_tb, c_tb, rfl, t1, t2⟩, hb_25⟩
                replace xO := xO.bl hb_25; replace xQ := xQ.bl hb_25; replace xP := xP.bl hb_25; replace hs := hs.bl hb_25
                refine hK _ _ rfl trivial ?_
                clear hK K
                refine sq ?_
                refine .mv ?_
                refine sq ?_
                refine .r0 ?_
                refine sq ?_
                refine .r0 ?_
                refine sq ?_
                refine .al hs ?_; clear hs; intro p_b4 w_26 hs n26 kb_b4
                replace xO := xO.bl n26; replace xQ := xQ.bl n26; replace xP := xP.bl n26
                refine sq ?_
                refine .s4 hs.g0 (fun _ => hs.u0 kb_b4) ?_; clear hs; intro w_27 hs hd27 ho27
                replace xO := xO.frame ho27 (hs.ne 4 0); replace xQ := xQ.frame ho27 (hs.ne 2 0); replace xP := xP.frame ho27 (hs.ne 3 0)
                refine sq ?_
                refine .mv ?_
                apply wpSq_end
                refine hK32 _ _ ?_
                refine wp_region_f4 [(0, false), (1, false), (2, false), (3, false), (4, false), (5, false), (6, false)] [7] [] (fun _ => default) [99, 99, 99, 0, 99, 1, 99, 99] [] (.c xO (.c hs.g0 .n)) fn fun w_28 n28 => ?_
                replace xO := xO.bl n28; replace xQ := xQ.bl n28; replace xP := xP.bl n28; replace hs := hs.bl n28
                refine fmv ?_
                refine fmv ?_
                refine f0 ?_
                apply wpFl_ld rfl rfl; (case h1 => intro w' hC K hK; have c0 := Bs.cell hC (i) eI; go_big_op; exact hK); iterate 4 kernel_rfl
                refine fmv ?_
                refine f4 ?_
                refine f0 ?_
                refine e0 hs ?_; clear hs; intro w_29 hs n29
                replace xO := xO.bl n29; replace xQ := xQ.bl n29; replace xP := xP.bl n29
                refine tl ?_
                refine .i4 2 hs (j := j) (by exact HJ.out) ?_ (e := fun _ hB hO => (And.intro (xO.frame hO (hs.ne 4 2)) (And.intro (hs.g0.frame hO (hs.ne 0 2)) True.intro))); clear hs; intro w_30 hs kp30 hd30 ho30 hw30; simp only [List.set_cons_succ, List.set_cons_zero] at hs
                clear xO
                clear xQ
                clear xP
                apply wpTail_end
                refine hK30 _ _ ?_
                refine rg [0, 1, 2] ?_
                refine sq ?_
                refine .mv ?_
                refine sq ?_
                refine .r0 ?_
                refine sq ?_
                refine .mv ?_
                apply wpSq_end
                have k0_15 := (((((k0_9.b hb_25).b n26).o hd27 ho27).b n28).b n29).t kp30
                replace hd := hd.k k0_15
                replace hxq := hxq.k k0_15
                have k10_15 := ((((kb n26).o hd27 ho27).b n28).b n29).t kp30
                replace t1 := t1.k k10_15
                replace t2 := t2.k k10_15
                have k9_15 := (((((kb hb_25).b n26).o hd27 ho27).b n28).b n29).t kp30
                replace z5 := z5.k k9_15
                replace z6 := z6.k k9_15
                refine ‹∀ (a' : Act) (w' : World), Handed _ _ a' w' → _› _ _ ?_
                have hs := (hs.sub (.cons _ (.cons _ (List.Sublist.refl _)))).unrows2 (bs := ls w.heap.size 3 1 (.slice o9 k c9) k xs :: bx p_b2 #[.bool m1, .slice m2 m3 m4, .bool m5, .slice m6 m7 m8] 28 :: bx p_b1 #[.bool false, .slice none 0 0, .bool false, .slice none 0 0] 28 :: [])
                rw [mkM_row HI.out] at hxq
                have hd := RD.set' (r1 := a ++ (⟨.slice (some ⟨gp, 0, none⟩) W cp, W, xp⟩ : Rw) :: b) (v := .slice (some ⟨gq, 0, none⟩) W cq) (n := W) (by simp) (GD.put t1 t2 hxq (q := j) (by simpa using HJ.out)) (by simpa using hd) hab
                rw [show ((Z.1, Z.2) : Int × Int) = Z from rfl, mkM_set HI.out, HS.out] at hd
                go_roundg (gk - 1)
                case rel => exact ⟨j + 1, _, by rfl, by omega, by omega, by simpa using hrl, by simpa using hd, z5, z6, hs⟩
                case measure => omega
              · obtain rfl : W = j := by omega
                have HX := hide hj
                have t7 : ((W : Int) < (W : Int)) = False := eq_false (by omega)
                have h0W : 0 < W := by have := HC.out; omega
                obtain ⟨r1, gq, cq, xq, r2, rfl, hr1, hvq, hxq, hs⟩ := hs.row (bs := ls w.heap.size 3 1 (.slice o9 k c9) k xs :: bx p_b2 #[.bool m1, .slice m2 m3 m4, .bool m5, .slice m6 m7 m8] 28 :: bx p_b1 #[.bool false, .slice none 0 0, .bool false, .slice none 0 0] 28 :: []) hd (p := i) (K := W) (by rw [len_mkM]; exact HI.out) (by rw [mkM_row HI.out]; simp) h0W
                have LO : Lst wr w.heap.size 52 1 (.slice (some ⟨gO, 0, none⟩) n c_O) n _ := hs.1.2.1.1
                obtain ⟨gO', curO, eO', xO, hcO⟩ := LO.box (by have := HI.out; omega)
                simp only [Option.some.injEq, Addr.mk.injEq, and_true] at eO'
                obtain rfl : gO = gO' := eO'
                have eI := hcO _ _ hvq
                clear LO hcO hvq
                refine wp_seq_k ?_
                intro K28 hK28
                refine wp_seq_k ?_
                intro K29 hK29
                refine rg [0, 1, 2, 3, 4, 5, 6] ?_
                refine sq ?_
                refine .mv ?_
                refine sq ?_
                refine .mv ?_
                refine sq ?_
                refine .mv ?_
                refine sq ?_
                refine .r0 ?_
                refine sq ?_
                refine .r1 (xO.cell _ eI) ?_
                refine sq ?_
                refine .r0 ?_
                refine sq ?_
                refine .r0 ?_
                apply wpSq_end
                refine hK29 _ _ ?_
                refine cf ?_
                refine wp_exit ?_
                refine hK26 _ _ ?_
                refine wp_region_f4 [(0, false), (1, false), (2, false), (3, false), (4, false), (5, true), (6, false)] [7] [] (fun _ => default) [99, 99, 99, 0, 99, 99, 99, 99] [] (.c xO .n) fn fun w_16 n16 => ?_
                replace xO := xO.bl n16; replace hs := hs.bl n16
                refine fmv ?_
                refine fmv ?_
                refine f0 ?_
                apply wpFl_ld rfl rfl; (case h1 => intro w' hC K hK; have c0 := Bs.cell hC (i) eI; go_big_op; exact hK); iterate 4 kernel_rfl
                refine fmv ?_
                refine fl fun w_17 n17 => ?_
                replace xO := xO.bl n17; replace hs := hs.bl n17
                intro K hK
                go_big_op
                go_fit (rgI_any 0 0 _ (by decide) (by decide) (by decide) (by decide))
                rintro e w_18 ⟨_, rfl, ⟨n_oa, o_oa, k_oa, c_oa, n_ob, o_ob, k_ob, c_ob, rfl, o1, o2⟩, hb_18⟩
                replace xO := xO.bl hb_18; replace hs := hs.bl hb_18
                refine hK _ _ rfl ⟨hb_18, (And.intro xO trivial)⟩ ?_
                clear hK K
                refine f0 ?_
                refine e0 hs ?_; clear hs; intro w_19 hs n19
                replace xO := xO.bl n19
                refine tl ?_
                refine .i4 0 hs (j := c) (by exact HC.out) ?_ (e := fun _ hB hO => (And.intro (xO.frame hO (hs.ne 1 0)) True.intro)); clear hs; intro w_20 hs kp20 hd20 ho20 hw20; simp only [List.set_cons_zero] at hs
                clear xO
                apply wpTail_end
                refine hK25 _ _ ?_
                refine rg [0, 1, 2] ?_
                refine sq ?_
                refine .mv ?_
                refine sq ?_
                refine .r0 ?_
                refine sq ?_
                refine .mv ?_
                apply wpSq_end
                have k0_5 := ((((kb n16).b n17).b hb_18).b n19).t kp20
                replace hd := hd.k k0_5
                replace hxq := hxq.k k0_5
                have k3_5 := (kb n19).t kp20
                replace o1 := o1.k k3_5
                replace o2 := o2.k k3_5
                replace z5 := z5.k k0_5
                replace z6 := z6.k k0_5
                refine HO3 _ _ ?_
                have hs := hs.unrow (bs := ls w.heap.size 3 1 (.slice o9 k c9) k xs :: bx p_b2 #[.bool m1, .slice m2 m3 m4, .bool m5, .slice m6 m7 m8] 28 :: bx p_b1 #[.bool false, .slice none 0 0, .bool false, .slice none 0 0] 28 :: [])
                rw [mkM_row HI.out] at hxq
                have hd := RD.set' (v := .slice (some ⟨gq, 0, none⟩) W cq) (n := W) (by simp) (GD.put o1 o2 hxq (q := c) (by simpa using HC.out)) hd hr1
                rw [mkM_set HI.out, Gel_row (by omega)] at hd
                go_roundg (g3 - 1)
                case rel => exact ⟨i + 1, _, by rfl, by omega, by omega, by simpa using hrl, hd, z5, z6, hs⟩
                case measure => omega
            · obtain rfl : n = i := by omega
              have HX := hide hi
              have t6 : ((n : Int) < (n : Int)) = False := eq_false (by omega)
              obtain ⟨r1, gp, cp, xp, r2, rfl, hr1, hvp, hxp, hs⟩ := hs.row (bs := ls w.heap.size 3 1 (.slice o9 k c9) k xs :: bx p_b2 #[.bool m1, .slice m2 m3 m4, .bool m5, .slice m6 m7 m8] 28 :: bx p_b1 #[.bool false, .slice none 0 0, .bool false, .slice none 0 0] 28 :: []) hd (p := k) (K := W) (by rw [len_mkM]; exact HK2.out) (by rw [mkM_row HK2.out]; simp) (by have := HC.out; omega)
              have LO : Lst wr w.heap.size 52 1 (.slice (some ⟨gO, 0, none⟩) n c_O) n _ := hs.1.2.1.1
              obtain ⟨gO', curO, eO', xO, hcO⟩ := LO.box (by have := HK2.out; omega)
              simp only [Option.some.injEq, Addr.mk.injEq, and_true] at eO'
              obtain rfl : gO = gO' := eO'
              have eK := hcO _ _ hvp
              have LPr : Lst wr w.heap.size 28 4 (.slice (some ⟨gp, 0, none⟩) W cp) W xp := hs.1.1.1
              obtain ⟨gp', curP, eP, xP, hcP⟩ := LPr.box (by have := HC.out; omega)
              simp only [Option.some.injEq, Addr.mk.injEq, and_true] at eP
              obtain rfl : gp = gp' := eP
              rw [mkM_row HK2.out] at hxp
              obtain ⟨f1', f2', f3', f4', f5', f6', f7', f8', ee13, ee14, ee15, ee16, y5, y6⟩ := hxp.els c (by simpa using HC.out)
              rw [show ((List.range W).map (Gel k c B2 g2 F2 n (c + 1) k))[c]'(by simpa using HC.out) = F2 k c by simp [Gel_up]] at y5 y6
              replace ee13 := hcP _ _ ee13
              replace ee14 := hcP _ _ ee14
              replace ee15 := hcP _ _ ee15
              replace ee16 := hcP _ _ ee16
              rw [← HM.out.last] at y5 y6
              obtain ⟨V2, hV2⟩ : ∃ V2, (Dt.det (k + 1) fun r x => B2 r (g2 x)) = V2 := ⟨_, rfl⟩
              have HV2 := hide hV2
              rw [hV2] at y5 y6
              have hk64 : k ≤ 64 := by have := HK2.out; omega
              clear LO hcO hvp LPr hcP hxp hV2
              refine wp_seq_k ?_
              intro K23 hK23
              refine wp_seq_k ?_
              intro K24 hK24
              refine rg [0, 1, 2, 3] ?_
              refine sq ?_
              refine .mv ?_
              refine sq ?_
              refine .mv ?_
              refine sq ?_
              refine .r0 ?_
              refine sq ?_
              refine .r0 ?_
              apply wpSq_end
              refine hK24 _ _ ?_
              refine cf ?_
              refine wp_exit ?_
              refine hK21 _ _ ?_
              refine wp_seq_k ?_
              intro K25 hK25
              refine rg [0, 1, 2, 3, 4, 5, 6, 7] ?_
              refine sq ?_
              refine .mv ?_
              refine sq ?_
              refine .mv ?_
              refine sq ?_
              refine .r0 ?_
              refine sq ?_
              refine .r1 (xO.cell _ eK) ?_
              refine sq ?_
              refine .mv ?_
              refine sq ?_
              refine .r0 ?_
              refine sq ?_
              refine .r4 ⟨xP.cell _ ee13, xP.cell _ ee14, xP.cell _ ee15, xP.cell _ ee16⟩ ?_
              refine sq ?_
              refine .s4 hs.g3 (fun _ => hs.u3 kb_b2) ?_; clear hs; intro w_15 hs hd15 ho15
              replace xO := xO.frame ho15 (hs.ne 1 3); replace xP := xP.frame ho15 (hs.ne 0 3)
              apply wpSq_end
              refine hK25 _ _ ?_
              refine rg [0, 1, 2, 3, 4] ?_
              refine sq ?_
              refine .mv ?_
              refine sq ?_
              refine .mv ?_
              refine sq ?_
              refine .al hs ?_; clear hs; intro p_b3 w_16 hs n16 kb_b3
              replace xO := xO.bl n16; replace xP := xP.bl n16
              refine sq ?_
              refine .ap 3 hs hs.g0 ?_; clear hs; intro o_L_17 c_L_17 w_17 hs kp17 hw17; simp only [List.set_cons_succ, List.set_cons_zero] at hs
              clear xO
              clear xP
              refine sq ?_
              refine .mv ?_
              apply wpSq_end
              refine hK10 _ _ ?_
              refine rg [0, 1, 2] ?_
              refine sq ?_
              refine .mv ?_
              refine sq ?_
              refine .r0 ?_
              refine sq ?_
              refine .mv ?_
              apply wpSq_end
              have k0_3 := ((ko hd15 ho15).b n16).t kp17
              replace hd := hd.k k0_3
              replace y5 := y5.k k0_3
              replace y6 := y6.k k0_3
              refine HO _ _ ?_
              have hs := (hs.sub (.cons _ (List.Sublist.refl _))).unrow (bs := _ :: _ :: _ :: [])
              rw [← HV2.out] at y5 y6
              go_roundg (g1 - 1)
              case rel => exact ⟨c + 1, k + 1, B2, Gel k c B2 g2 F2 n (c + 1), g2, odd2, _, _, _, _, _, _, _, _, _, _, _, _, by rfl, by rfl, congrArg (Value.int .i64) HZ2.out, by omega, hide HM.out.next, hrl, hd, y5, y6, hs⟩
              case measure => omega
      · obtain rfl : p = n := by omega
        have HX := hide hp
        have t4 : ((p : Int) == (p : Int)) = true := by simp
        have HZE := hide (HE.out.skip HC.out (fun r h1 h2 => HZ.out r h1 h2))
        refine wp_seq_k ?_
        intro K14 hK14
        refine wp_seq_k ?_
        intro K15 hK15
        refine rg [0, 1, 2, 3, 4, 5, 6, 7, 8, 9, 10, 11, 12, 13] ?_
        refine sq ?_
        refine .mv ?_
        refine sq ?_
        refine .mv ?_
        refine sq ?_
        refine .r0 ?_
        refine sq ?_
        refine .r0 ?_
        refine sq ?_
        refine .mv ?_
        refine sk ?_
        refine sk ?_
        refine sk ?_
        refine sk ?_
        refine sk ?_
        refine sk ?_
        refine sk ?_
        refine sk ?_
        refine sq ?_
        refine .r0 ?_
        apply wpSq_end
        refine hK15 _ _ ?_
        refine cf ?_
        refine wp_exit ?_
        refine hK13 _ _ ?_
        refine wp_seq_k ?_
        intro K16 hK16
        refine wp_seq_k ?_
        intro K17 hK17
        refine rg [0, 1, 2, 3] ?_
        refine sq ?_
        refine .mv ?_
        refine sq ?_
        refine .mv ?_
        refine sq ?_
        refine .r0 ?_
        refine sq ?_
        refine .r0 ?_
        apply wpSq_end
        refine hK17 _ _ ?_
        refine ct ?_
        refine wp_exit ?_
        refine hK10 _ _ ?_
        refine rg [0, 1, 2] ?_
        refine sq ?_
        refine .mv ?_
        refine sq ?_
        refine .r0 ?_
        refine sq ?_
        refine .mv ?_
        apply wpSq_end
        refine HO _ _ ?_
        rw [← HV.out] at z5 z6
        go_roundg (g1 - 1)
        case rel => exact ⟨c + 1, k, B, F, g, odd, rs, o9, c9, xs, m1, m5, m2, m6, m3, m4, m7, m8, by rfl, rfl, rfl, by omega, HZE, hrl, hd, z5, z6, hs⟩
        case measure => omega
    · have hkn2 : k = n := by omega
      have t1 : ((k : Int) < (n : Int)) = False := eq_false (by omega)
      have t2 : ((c : Int) < (W : Int)) = True := eq_true (by omega)
      have HRK := hide (HE.out.rk (.inr hkn2))
      have HDE := hide (show n = W → k = n → Dt.det n (at2 A) = mP V (sgz odd, 0) from fun e1 e2 => by
        subst e2
        have h9 := HE.out
        rw [← e1] at h9
        rw [h9.det rfl, HV.out, sgz_mul])
      clear hlx
      refine wp_seq_k ?_
      intro K8 hK8
      refine wp_seq_k ?_
      intro K9 hK9
      refine rg [0, 1, 2, 3, 4, 5, 6, 7, 8, 9, 10] ?_
      refine sq ?_
      refine .mv ?_
      refine sq ?_
      refine .mv ?_
      refine sq ?_
      intro K hK
      go_big_op
      go_fit (rCols_any hMC.out len_mkM (wd_mkM2 HN0.out))
      rintro e w_7 ⟨rfl, hb_7⟩
      replace hs := hs.bl hb_7
      refine hK _ _ rfl trivial ?_
      clear hK K
      refine sq ?_
      refine .r0 ?_
      refine sq ?_
      refine .mv ?_
      refine sq ?_
      refine .mv ?_
      refine sq ?_
      refine .r0 ?_
      refine sq ?_
      refine .mv ?_
      refine sq ?_
      refine .r0 ?_
      refine sq ?_
      refine .r0 ?_
      refine sq ?_
      refine .r0 ?_
      apply wpSq_end
      refine hK9 _ _ ?_
      refine cf ?_
      refine wp_exit ?_
      refine hK6 _ _ ?_
      refine wp_seq_k ?_
      intro K10 hK10
      refine wp_region_f4 [(0, false), (1, false), (2, false), (3, false), (4, false), (5, false)] [6, 7] [] (fun _ => default) [99, 99, 0, 99, 99, 99, 99, 99] [] (.c hs.g2 .n) fn fun w_8 n8 => ?_
      replace hs := hs.bl n8
      refine fmv ?_
      refine fmv ?_
      refine f4 ?_
      refine fmv ?_
      refine fmv ?_
      refine fmv ?_
      refine e0 hs ?_; clear hs; intro w_9 hs n9
      refine tl ?_
      refine .s4 hs.g3 (fun _ => hs.u3 kb_b1) ?_ (e := fun _ hs => (And.intro hs.g2 True.intro)); clear hs; intro w_10 hs hd10 ho10
      refine tl ?_
      refine .mv ?_ (e := (And.intro hs.g2 True.intro))
      apply wpTail_end
      refine hK10 _ _ ?_
      refine wp_ret ?_
      have k0_4 := (((kb hb_7).b n8).b n9).o hd10 ho10
      replace z5 := z5.k k0_4
      replace z6 := z6.k k0_4
      try dsimp only [Exit.then, Exit.inBlock]
      obtain ⟨r0_0, r0_1, r0_2, r0_3⟩ := hs.g3.f4
      refine bodyPost_ret (v := (.tuple #[(.slice o_O n c_O), (.slice o9 k c9), (.agg #[.bool m1, .slice m2 m3 m4, .bool m5, .slice m6 m7 m8]), (.int .i64 (sgz odd))])) (by simp [results, Tryz.results54, go_sem, r0_0, r0_1, r0_2, r0_3]) rfl ?_
      exact ⟨_, _, _, _, k, sgz odd, V, rfl, .mk' z5 z6, LV.out, sgz_pm odd, hkn, HRK.out, HDE.out, hs.b⟩
  · obtain rfl : c = W := by omega
    have t2 : ((c : Int) < (c : Int)) = False := eq_false (by omega)
    have HRK := hide (HE.out.rk (.inl rfl))
    have HDE := hide (show n = c → k = n → Dt.det n (at2 A) = mP V (sgz odd, 0) from fun e1 e2 => by
      have h9 := HE.out
      rw [← e1] at h9
      rw [h9.det e2, HV.out, sgz_mul])
    clear hlx
    refine wp_seq_k ?_
    intro K8 hK8
    refine wp_seq_k ?_
    intro K9 hK9
    refine rg [0, 1, 2, 3, 4, 5, 6, 7, 8, 9, 10] ?_
    refine sq ?_
    refine .mv ?_
    refine sq ?_
    refine .mv ?_
    refine sq ?_
    intro K hK
    go_big_op
    go_fit (rCols_any hMC.out len_mkM (wd_mkM2 HN0.out))
    rintro e w_7 ⟨rfl, hb_7⟩
    replace hs := hs.bl hb_7
    refine hK _ _ rfl trivial ?_
    clear hK K
    refine sq ?_
    refine .r0 ?_
    refine sq ?_
    refine .mv ?_
    refine sk ?_
    refine sk ?_
    refine sk ?_
    refine sk ?_
    refine sk ?_
    refine sq ?_
    refine .r0 ?_
    apply wpSq_end
    refine hK9 _ _ ?_
    refine cf ?_
    refine wp_exit ?_
    refine hK6 _ _ ?_
    refine wp_seq_k ?_
    intro K10 hK10
    refine wp_region_f4 [(0, false), (1, false), (2, false), (3, false), (4, false), (5, false)] [6, 7] [] (fun _ => default) [99, 99, 0, 99, 99, 99, 99, 99] [] (.c hs.g2 .n) fn fun w_8 n8 => ?_
    replace hs := hs.bl n8
    refine fmv ?_
    refine fmv ?_
    refine f4 ?_
    refine fmv ?_
    refine fmv ?_
    refine fmv ?_
    refine e0 hs ?_; clear hs; intro w_9 hs n9
    refine tl ?_
    refine .s4 hs.g3 (fun _ => hs.u3 kb_b1) ?_ (e := fun _ hs => (And.intro hs.g2 True.intro)); clear hs; intro w_10 hs hd10 ho10
    refine tl ?_
    refine .mv ?_ (e := (And.intro hs.g2 True.intro))
    apply wpTail_end
    refine hK10 _ _ ?_
    refine wp_ret ?_
    have k0_4 := (((kb hb_7).b n8).b n9).o hd10 ho10
    replace z5 := z5.k k0_4
    replace z6 := z6.k k0_4
    try dsimp only [Exit.then, Exit.inBlock]
    obtain ⟨r0_0, r0_1, r0_2, r0_3⟩ := hs.g3.f4
    refine bodyPost_ret (v := (.tuple #[(.slice o_O n c_O), (.slice o9 k c9), (.agg #[.bool m1, .slice m2 m3 m4, .bool m5, .slice m6 m7 m8]), (.int .i64 (sgz odd))])) (by simp [results, Tryz.results54, go_sem, r0_0, r0_1, r0_2, r0_3]) rfl ?_
    exact ⟨_, _, _, _, k, sgz odd, V, rfl, .mk' z5 z6, LV.out, sgz_pm odd, hkn, HRK.out, HDE.out, hs.b⟩
end
end Go.Proofs.YtnkimagnmnocdaaGreat

/- gdet: Rank, Independent. -/
namespace Go.Proofs.YtnkimagnmnocdaaGreat
open Go Go.RowKit Dig
set_option linter.unusedVariables false
section
variable {w w0 : World} {l la n k L ca : Nat} {oa : Option Addr} {bs : List En} {A : List (List (Int × Int))}
end
end Go.Proofs.YtnkimagnmnocdaaGreat

/- The reference's Rank and Det. -/
namespace Go.Proofs.YtnkimagnmnocdaaGreat
open Go Go.RowKit Dig
set_option linter.unusedVariables false
section
variable {w : World} {la n W L ca r : Nat} {oa : Option Addr} {A : List (List (Int × Int))}
theorem relim_rk (ha : MN la w oa A) (hna : A.length = n) (h : gd A) (hk : wd A = W) (hB : MinB n W L (at2 A)) (hL : L ≤ 3000000) (hL1 : 1 ≤ L) (hla : la ≤ 20000000) (hr : Dt.Rk n W (at2 A) r) :
    Calls Tryz.prog 54 #[.slice oa n ca] w fun e w' => ∃ (o9 : Option Addr) (c9 : Nat) (z : Int) (p : Int × Int) (v1 v3 : Value), e = .returned (.tuple #[v1, .slice o9 r c9, v3, .int .i64 z]) ∧ (z = 1 ∨ z = -1) ∧ r ≤ n ∧ (n = W → r = n → Dt.det n (at2 A) = mP p (z, 0)) ∧ zl L p ∧ PC w' v3 p.1 p.2 ∧ Below w.heap.size w w' :=
  Calls.mono (relim_any (ca := ca) ha hna h hk hB hL hL1 hla) fun e w' ⟨v1, o9, c9, v3, k, z, p, h1, h2, h3, h4, h8, h5, h6, h7⟩ => by
    obtain rfl := Dt.Rk.eq noz one_ne h5 hr
    exact ⟨o9, c9, z, p, v1, v3, h1, h4, h8, h6, h3, h2, h7⟩
theorem rk_le {R : Type} [Lean.Grind.CommRing R] {h w r : Nat} {A : Nat → Nat → R} (hr : Dt.Rk h w A r) : r ≤ h := by
  obtain ⟨f, g, hfg, hne, _⟩ := hr
  exact Nat.le_of_not_lt fun c => hne (Dt.minor_big (h := h) c fun i hi => (hfg i hi).1)
set_option maxHeartbeats 4000000 in
set_option maxRecDepth 20000 in
theorem rDet_any (ha : MN la w oa A) (hna : A.length = n) (h : gd A) (hk : wd A = n) (hB : MinB n n L (at2 A)) (hL : L ≤ 3000000) (hL1 : 1 ≤ L) (hla : la ≤ 20000000) (hr : Dt.Rk n n (at2 A) r) :
    Calls Tryz.prog 17 #[.slice oa n ca] w fun e w' => ∃ v, e = .returned v ∧ PC w' v (Dt.det n (at2 A)).1 (Dt.det n (at2 A)).2 ∧ Below w.heap.size w w' := by
  have HA := hide ha
  have H := hide h
  have HK := hide hk
  have HB := hide hB
  have HR := hide hr
  have hn64 : n ≤ 64 := by have := h.1; omega
  have hrn := rk_le hr
  clear ha h hk hB hr
  by_cases hlt : r < n
  · have t1 : ((r : Int) < (n : Int)) = True := eq_true (by omega)
    have E0 := hide (Dt.Rk.det0 noz one_ne HR.out hlt)
    go_enter Tryz.func17, Tryz.ntmps17
    have hs := St.nil w
    refine wp_seq_k ?_
    intro K1 hK1
    refine rg [0] ?_
    refine sq ?_
    refine .al hs ?_; clear hs; intro p_b1 w_1 hs n1 kb_b1
    apply wpSq_end
    refine hK1 _ _ ?_
    refine wp_seq_k ?_
    intro K2 hK2
    refine rg [0, 1, 2, 3, 4, 5, 6, 7, 8, 9, 10, 11] ?_
    refine sq ?_
    refine .mv ?_
    refine sq ?_
    intro K hK
    have hb := hs.b
    go_big_op
    go_fit (relim_rk (HA.out.bl stab_n hb) hna H.out HK.out HB.out hL hL1 hla HR.out)
    rintro e w_2 ⟨o9, c9, z, p, v, _, rfl, hz, hrn, hp, hlp, ⟨n_fa, o_fa, k_fa, c_fa, n_fb, o_fb, k_fb, c_fb, rfl, f1, f2⟩, hb_2⟩
    clear hb
    replace hs := hs.bl hb_2
    refine hK _ _ rfl trivial ?_
    clear hK K
    refine sq ?_
    refine .mv ?_
    refine sq ?_
    refine .r0 ?_
    refine sq ?_
    refine .r0 ?_
    refine sq ?_
    refine .r0 ?_
    refine sq ?_
    refine .r0 ?_
    refine sq ?_
    refine .al hs ?_; clear hs; intro p_b2 w_3 hs n3 kb_b2
    refine sq ?_
    refine .mv ?_
    refine sq ?_
    refine .mv ?_
    refine sq ?_
    refine .s4 hs.g0 (fun _ => hs.u0 kb_b2) ?_; clear hs; intro w_4 hs hd4 ho4
    refine sq ?_
    refine .mv ?_
    apply wpSq_end
    refine hK2 _ _ ?_
    refine wp_seq_k ?_
    intro K3 hK3
    refine wp_seq_k ?_
    intro K4 hK4
    refine rg [0, 1, 2, 3, 4] ?_
    refine sq ?_
    refine .mv ?_
    refine sq ?_
    refine .r0 ?_
    refine sq ?_
    refine .mv ?_
    refine sq ?_
    refine .r0 ?_
    refine sq ?_
    refine .r0 ?_
    apply wpSq_end
    refine hK4 _ _ ?_
    refine ct ?_
    refine wp_seq_k ?_
    intro K5 hK5
    refine rg [0, 1] ?_
    refine sq ?_
    intro K hK
    go_big_op
    go_fit (rgI_any 0 0 _ (by decide) (by decide) (by decide) (by decide))
    rintro e w_5 ⟨_, rfl, ⟨n_ga, o_ga, k_ga, c_ga, n_gb, o_gb, k_gb, c_gb, rfl, g1, g2⟩, hb_5⟩
    replace hs := hs.bl hb_5
    refine hK _ _ rfl trivial ?_
    clear hK K
    refine sq ?_
    refine .s4 hs.g1 (fun _ => hs.u1 kb_b1) ?_; clear hs; intro w_6 hs hd6 ho6
    apply wpSq_end
    refine hK5 _ _ ?_
    refine wp_ret ?_
    have k5_6 := ko hd6 ho6
    replace g1 := g1.k k5_6
    replace g2 := g2.k k5_6
    try dsimp only [Exit.then, Exit.inBlock]
    obtain ⟨r0_0, r0_1, r0_2, r0_3⟩ := hs.g1.f4
    refine bodyPost_ret (v := (.agg #[.bool n_ga, .slice o_ga k_ga c_ga, .bool n_gb, .slice o_gb k_gb c_gb])) (by simp [results, Tryz.results17, go_sem, r0_0, r0_1, r0_2, r0_3]) rfl ?_
    exact ⟨_, rfl, .mk' (by rw [E0.out]; exact g1) (by rw [E0.out]; exact g2), hs.b⟩
  · obtain rfl : r = n := by omega
    have t1 : ((r : Int) < (r : Int)) = False := eq_false (by omega)
    have HL4 := hide (show L ≤ 40000000 by omega)
    go_enter Tryz.func17, Tryz.ntmps17
    have hs := St.nil w
    refine wp_seq_k ?_
    intro K1 hK1
    refine rg [0] ?_
    refine sq ?_
    refine .al hs ?_; clear hs; intro p_b1 w_1 hs n1 kb_b1
    apply wpSq_end
    refine hK1 _ _ ?_
    refine wp_seq_k ?_
    intro K2 hK2
    refine rg [0, 1, 2, 3, 4, 5, 6, 7, 8, 9, 10, 11] ?_
    refine sq ?_
    refine .mv ?_
    refine sq ?_
    intro K hK
    have hb := hs.b
    go_big_op
    go_fit (relim_rk (HA.out.bl stab_n hb) hna H.out HK.out HB.out hL hL1 hla HR.out)
    rintro e w_2 ⟨o9, c9, z, p, v, _, rfl, hz, hrn, hp, hlp, ⟨n_fa, o_fa, k_fa, c_fa, n_fb, o_fb, k_fb, c_fb, rfl, f1, f2⟩, hb_2⟩
    clear hb
    replace hs := hs.bl hb_2
    have Lf1 := hide (f1.lenOf (hlp.1))
    have Lf2 := hide (f2.lenOf (hlp.2))
    refine hK _ _ rfl trivial ?_
    clear hK K
    refine sq ?_
    refine .mv ?_
    refine sq ?_
    refine .r0 ?_
    refine sq ?_
    refine .r0 ?_
    refine sq ?_
    refine .r0 ?_
    refine sq ?_
    refine .r0 ?_
    refine sq ?_
    refine .al hs ?_; clear hs; intro p_b2 w_3 hs n3 kb_b2
    refine sq ?_
    refine .mv ?_
    refine sq ?_
    refine .mv ?_
    refine sq ?_
    refine .s4 hs.g0 (fun _ => hs.u0 kb_b2) ?_; clear hs; intro w_4 hs hd4 ho4
    refine sq ?_
    refine .mv ?_
    apply wpSq_end
    refine hK2 _ _ ?_
    refine wp_seq_k ?_
    intro K3 hK3
    refine wp_seq_k ?_
    intro K4 hK4
    refine rg [0, 1, 2, 3, 4] ?_
    refine sq ?_
    refine .mv ?_
    refine sq ?_
    refine .r0 ?_
    refine sq ?_
    refine .mv ?_
    refine sq ?_
    refine .r0 ?_
    refine sq ?_
    refine .r0 ?_
    apply wpSq_end
    refine hK4 _ _ ?_
    refine cf ?_
    refine wp_skip ?_
    refine hK3 _ _ ?_
    refine wp_seq_k ?_
    intro K5 hK5
    refine wp_region_f4 [(0, false), (1, false), (2, true), (3, true)] [4] [] (fun _ => default) [0, 99, 99, 99, 99] [] (.c hs.g0 .n) fn fun w_5 n5 => ?_
    replace hs := hs.bl n5
    refine f4 ?_
    refine fmv ?_
    refine fl fun w_6 n6 => ?_
    replace hs := hs.bl n6
    intro K hK
    go_big_op
    go_fit (rgI_any z 0 _ (by omega) (by omega) (by decide) (by decide))
    rintro e w_7 ⟨_, rfl, ⟨n_ia, o_ia, k_ia, c_ia, n_ib, o_ib, k_ib, c_ib, rfl, i1, i2⟩, hb_7⟩
    replace hs := hs.bl hb_7
    have Li1 := hide (i1.lenOf (zlen_small8 (z := z) (by omega)))
    have Li2 := hide (i2.lenOf (zlen_small8 (z := 0) (by decide)))
    refine hK _ _ rfl ⟨hb_7, (And.intro hs.g0 trivial)⟩ ?_
    clear hK K
    refine fl fun w_8 n8 => ?_
    replace hs := hs.bl n8
    intro K hK
    have k2_8 := (((((kb n3).o hd4 ho4).b n5).b n6).b hb_7).b n8
    replace f1 := f1.k k2_8
    replace f2 := f2.k k2_8
    have k7_8 := kb n8
    replace i1 := i1.k k7_8
    replace i2 := i2.k k7_8
    go_big_op
    go_fit (rgMul_any (.mk' (f1.zn Lf1.out) (f2.zn Lf2.out)) (.mk' (i1.zn Li1.out) (i2.zn Li2.out)) HL4.out HL4.out (by decide) (by decide))
    rintro e w_9 ⟨_, rfl, ⟨n_ga, o_ga, k_ga, c_ga, n_gb, o_gb, k_gb, c_gb, rfl, g1, g2⟩, hb_9⟩
    replace hs := hs.bl hb_9
    refine hK _ _ rfl ⟨hb_9, (And.intro hs.g0 trivial)⟩ ?_
    clear hK K
    refine e0 hs ?_; clear hs; intro w_10 hs n10
    refine tl ?_
    refine .s4 hs.g1 (fun _ => hs.u1 kb_b1) ?_ (e := fun _ hs => (And.intro hs.g0 True.intro)); clear hs; intro w_11 hs hd11 ho11
    apply wpTail_end
    refine hK5 _ _ ?_
    refine wp_ret ?_
    have k9_11 := (kb n10).o hd11 ho11
    replace g1 := g1.k k9_11
    replace g2 := g2.k k9_11
    try dsimp only [Exit.then, Exit.inBlock]
    obtain ⟨r0_0, r0_1, r0_2, r0_3⟩ := hs.g1.f4
    refine bodyPost_ret (v := (.agg #[.bool n_ga, .slice o_ga k_ga c_ga, .bool n_gb, .slice o_gb k_gb c_gb])) (by simp [results, Tryz.results17, go_sem, r0_0, r0_1, r0_2, r0_3]) rfl ?_
    exact ⟨_, rfl, .mk' (by rw [hp rfl rfl]; exact g1) (by rw [hp rfl rfl]; exact g2), hs.b⟩
end
end Go.Proofs.YtnkimagnmnocdaaGreat

/- The reference's Minors. -/
namespace Go.Proofs.YtnkimagnmnocdaaGreat
open Go Go.RowKit Dig
set_option linter.unusedVariables false
set_option linter.unusedSimpArgs false
section
variable {w0 w : World} {v u x : Value} {m n p q K J : Nat} {rs ts r1 r2 s1 s2 : List Rw} {C : En} {xs xs' ys : List Value} {Ms Ns : List (List (Int × Int))}
theorem St.row2m (hs : St w0 (ls w0.heap.size 52 1 v m (rs.map (·.v)) :: C :: ls w0.heap.size 52 1 u n (ts.map (·.v)) :: (ts.map (Rw.e w0.heap.size) ++ rs.map (Rw.e w0.heap.size))) w)
    (hd : RD w rs Ms) (hp : p < Ms.length) (hK : Ms[p].length = K) (h0 : 0 < K) (he : RD w ts Ns) (hq : q < Ns.length) (hJ : Ns[q].length = J) (h1 : 0 < J) :
    ∃ r1 g c xs r2 s1 h d ys s2, rs = r1 ++ (⟨.slice (some ⟨g, 0, none⟩) K c, K, xs⟩ : Rw) :: r2 ∧ r1.length = p ∧ (rs.map (·.v))[p]? = some (.slice (some ⟨g, 0, none⟩) K c) ∧ GD w xs Ms[p] ∧
      ts = s1 ++ (⟨.slice (some ⟨h, 0, none⟩) J d, J, ys⟩ : Rw) :: s2 ∧ s1.length = q ∧ (ts.map (·.v))[q]? = some (.slice (some ⟨h, 0, none⟩) J d) ∧ GD w ys Ns[q] ∧
      St w0 (ls w0.heap.size 28 4 (.slice (some ⟨g, 0, none⟩) K c) K xs :: ls w0.heap.size 52 1 v m (rs.map (·.v)) :: ls w0.heap.size 28 4 (.slice (some ⟨h, 0, none⟩) J d) J ys :: ls w0.heap.size 52 1 u n (ts.map (·.v)) :: C :: ((s1 ++ s2).map (Rw.e w0.heap.size) ++ (r1 ++ r2).map (Rw.e w0.heap.size))) w := by
  have hs1 := hs.perm (cs := ls w0.heap.size 52 1 u n (ts.map (·.v)) :: ((C :: ls w0.heap.size 52 1 v m (rs.map (·.v)) :: rs.map (Rw.e w0.heap.size)) ++ ts.map (Rw.e w0.heap.size)))
    ((List.Perm.swap _ _ _).trans ((List.Perm.cons _ (List.Perm.swap _ _ _)).trans ((List.Perm.swap _ _ _).trans (List.Perm.cons _ (List.Perm.cons _ (List.Perm.cons _ List.perm_append_comm))))))
  obtain ⟨s1, h, d, ys, s2, e1, e2, e3, e4, hs2⟩ := hs1.row he hq hJ h1
  have hs3 := hs2.perm (cs := ls w0.heap.size 52 1 v m (rs.map (·.v)) :: ((ls w0.heap.size 28 4 (.slice (some ⟨h, 0, none⟩) J d) J ys :: ls w0.heap.size 52 1 u n (ts.map (·.v)) :: C :: (s1 ++ s2).map (Rw.e w0.heap.size)) ++ rs.map (Rw.e w0.heap.size)))
    ((List.Perm.cons _ (List.Perm.cons _ (List.Perm.swap _ _ _))).trans ((List.Perm.cons _ (List.Perm.swap _ _ _)).trans ((List.Perm.swap _ _ _).trans (List.Perm.cons _ (List.Perm.cons _ (List.Perm.cons _ (List.Perm.cons _ List.perm_append_comm)))))))
  obtain ⟨r1, g, c, xs, r2, f1, f2, f3, f4, hs4⟩ := hs3.row hd hp hK h0
  exact ⟨r1, g, c, xs, r2, s1, h, d, ys, s2, f1, f2, f3, f4, e1, e2, e3, e4, hs4⟩
theorem St.unrow2m {y : Value} (hs : St w0 (ls w0.heap.size 28 4 x K xs' :: ls w0.heap.size 52 1 v m ((r1 ++ (⟨x, K, xs⟩ : Rw) :: r2).map (·.v)) :: ls w0.heap.size 28 4 y J ys :: ls w0.heap.size 52 1 u n ((s1 ++ (⟨y, J, ys⟩ : Rw) :: s2).map (·.v)) :: C :: ((s1 ++ s2).map (Rw.e w0.heap.size) ++ (r1 ++ r2).map (Rw.e w0.heap.size))) w) :
    St w0 (ls w0.heap.size 52 1 v m ((r1 ++ (⟨x, K, xs'⟩ : Rw) :: r2).map (·.v)) :: C :: ls w0.heap.size 52 1 u n ((s1 ++ (⟨y, J, ys⟩ : Rw) :: s2).map (·.v)) :: ((s1 ++ (⟨y, J, ys⟩ : Rw) :: s2).map (Rw.e w0.heap.size) ++ (r1 ++ (⟨x, K, xs'⟩ : Rw) :: r2).map (Rw.e w0.heap.size))) w := by
  have hs1 := St.unrow (bs := ls w0.heap.size 28 4 y J ys :: ls w0.heap.size 52 1 u n ((s1 ++ (⟨y, J, ys⟩ : Rw) :: s2).map (·.v)) :: C :: (s1 ++ s2).map (Rw.e w0.heap.size)) hs
  have hs2 := hs1.perm (cs := ls w0.heap.size 28 4 y J ys :: ls w0.heap.size 52 1 u n ((s1 ++ (⟨y, J, ys⟩ : Rw) :: s2).map (·.v)) :: ((C :: ls w0.heap.size 52 1 v m ((r1 ++ (⟨x, K, xs'⟩ : Rw) :: r2).map (·.v)) :: (r1 ++ (⟨x, K, xs'⟩ : Rw) :: r2).map (Rw.e w0.heap.size)) ++ (s1 ++ s2).map (Rw.e w0.heap.size)))
    ((List.Perm.swap _ _ _).trans ((List.Perm.cons _ (List.Perm.swap _ _ _)).trans ((List.Perm.cons _ (List.Perm.cons _ (List.Perm.swap _ _ _))).trans (List.Perm.cons _ (List.Perm.cons _ (List.Perm.cons _ (List.Perm.cons _ List.perm_append_comm)))))))
  have hs3 := St.unrow hs2
  exact hs3.perm ((List.Perm.swap _ _ _).trans ((List.Perm.cons _ (List.Perm.swap _ _ _)).trans ((List.Perm.swap _ _ _).trans (List.Perm.cons _ (List.Perm.cons _ (List.Perm.cons _ List.perm_append_comm))))))
end
theorem MinB.part {n L k : Nat} {G : Nat → Nat → Int × Int} (h : MinB n n L G) (hk : k ≤ n) : MinB k k L (at2 (mkM k k G)) := by
  intro s f g hfg hi
  rw [Dt.det_congr (B := fun i j => G (f i) (g j)) fun i hi j hj => at2_mkM (hfg i hi).1 (hfg j hj).2]
  exact h s f g (fun r hr => ⟨by have := (hfg r hr).1; omega, by have := (hfg r hr).2; omega⟩) hi
theorem MinB.bd {n L k : Nat} {G : Nat → Nat → Int × Int} (h : MinB n n L G) (hk : k ≤ n) : BdM L (mkM k k G) := fun r hr p hp => by
  obtain ⟨i, hi, rfl⟩ := List.mem_map.1 hr
  obtain ⟨j, hj, rfl⟩ := List.mem_map.1 hp
  have := h.D 0 i (by have := List.mem_range.1 hi; omega) j (by have := List.mem_range.1 hj; omega)
  rw [Dt.D_0] at this
  exact this
def mink (W : Nat) (M : Nat → Nat → Int × Int) (k : Nat) : List Int := (List.range k).map fun k => (Dt.det k (gG W M)).1
theorem mink_succ {W k : Nat} {M : Nat → Nat → Int × Int} : mink W M (k + 1) = mink W M k ++ [(Dt.det k (gG W M)).1] := by unfold mink; rw [List.range_succ, List.map_append]; rfl
end Go.Proofs.YtnkimagnmnocdaaGreat
