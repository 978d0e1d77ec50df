/- The reference's Factor. -/
import Derived.Test.YthlhekkcjficdaaGreatK19ToShelfS
import Derived.Test.YthlhekkcjficdaaGreatK3ToWo
import Derived.Test.YthlhekkcjficdaaGreatZaToJ6
import Derived.Test.YthlhekkcjficdaaGreatSo5ToK2

namespace Go.Proofs.YthlhekkcjficdaaGreat
open Go Go.RowKit Dig
set_option linter.unusedVariables false
/-- What holds of the list and of the rest. -/
def FrZ (N0 : Nat) (L : List (Int × Int)) (X Y : Int) (N : Nat) : Prop := gN X Y ≠ 0 ∧ (N : Int) + gN X Y ≤ (N0 : Int) ∧ N = L.length ∧ ∀ p ∈ L, p.1.natAbs < 4294967296 ∧ p.2.natAbs < 4294967296
theorem rfS_yes {L : List (Int × Int)} {X Y : Int} {q : Int × Int} (h2 : 2 ≤ gN q.1 q.2) (h0 : gN X Y ≠ 0) (h : gDv X Y q.1 q.2) : rfS (L, (X, Y)) q = rfS (L ++ [q], (gD1 X Y q.1 q.2, gD2 X Y q.1 q.2)) q := by
  unfold rfS
  dsimp only
  rw [tkF_yes h2 h0 h, List.replicate_succ, List.append_assoc]
  rfl
theorem rfS_no {L : List (Int × Int)} {X Y : Int} {q : Int × Int} (h : ¬ gDv X Y q.1 q.2) : rfS (L, (X, Y)) q = (L, (X, Y)) := by
  unfold rfS
  dsimp only
  rw [tkF_no h, List.replicate_zero, List.append_nil]
theorem FrZ.step {N0 N : Nat} {L : List (Int × Int)} {X Y : Int} {q : Int × Int} (h : FrZ N0 L X Y N) (h2 : 2 ≤ gN q.1 q.2) (hs : q.1.natAbs < 4294967296 ∧ q.2.natAbs < 4294967296) (hd : gDv X Y q.1 q.2) :
    FrZ N0 (L ++ [q]) (gD1 X Y q.1 q.2) (gD2 X Y q.1 q.2) (N + 1) ∧ (gN (gD1 X Y q.1 q.2) (gD2 X Y q.1 q.2)).toNat + 1 ≤ (gN X Y).toNat := by
  obtain ⟨h1, h3, h4, h5⟩ := h
  obtain ⟨h6, h7⟩ := gD_small h2 h1 hd
  have h8 := gN_nonneg (gD1 X Y q.1 q.2) (gD2 X Y q.1 q.2)
  refine ⟨⟨h6, by omega, by rw [List.length_append, h4]; rfl, fun p hp => ?_⟩, by omega⟩
  rcases List.mem_append.1 hp with hp | hp
  · exact h5 p hp
  · obtain rfl := List.mem_singleton.1 hp
    exact hs
section
variable {w : World} {va : Value} {x y : Int}
set_option maxHeartbeats 4000000 in
set_option maxRecDepth 20000 in
theorem rfactor_any {N0 : Nat} {L0 : List Nat} {T : List (Int × Int × Int)} {U V : Int} {lg : Nat} (ha : PN w va x lg y lg) (hlg : 1 ≤ lg) (hlm : lg ≤ 2000000) (hn : gN x y = (N0 : Int)) (h0 : N0 ≠ 0) (hN : N0 < 4294967296) (hL : PF N0 L0) (hT : (L0.flatMap pOv).foldl fcS ([], (x, y)) = (T, (U, V))) (hfew : (expd T).length ≤ 1000) :
    Calls Tryz.prog 8 #[va, .int .i64 (N0 : Int)] w fun e w' => ∃ o c, e = .returned (.tuple #[.int .i64 ((-((kq U V : Nat) : Int)) % 4), .slice o (expd T).length c]) ∧ (expd T).length ≤ c ∧ (∃ xs, Lst w' w.heap.size 26 4 (.slice o (expd T).length c) (expd T).length xs ∧ GD w' xs (srt (expd T).length (expd T))) ∧ Below w.heap.size w w' := by
  have HT := hide (show (L0.flatMap pOv).foldl rfS ([], (x, y)) = (expd T, (U, V)) from by
    have := rf_fc (L0.flatMap pOv) [] (x, y)
    rw [hT] at this
    exact this)
  have HF := hide hfew
  have HL := hide hL
  have HZ := hide (show FrZ N0 [] x y 0 from ⟨by rw [hn]; omega, by rw [hn]; omega, rfl, fun _ h => nomatch h⟩)
  clear hL hT hn hfew
  obtain ⟨n_0a, o_0a, k_0a, c_0a, n_0b, o_0b, k_0b, c_0b, rfl, ha1, ha2⟩ := ha
  go_enter Tryz.func8, Tryz.ntmps8
  have hs := St.nil w
  refine wp_seq_k ?_
  intro K1 hK1
  refine rg [0, 1, 2] ?_
  refine sq ?_
  refine .al hs ?_; clear hs; intro p_b1 w_1 hs n1 kb_b1
  refine sq ?_
  refine .mv ?_
  refine sq ?_
  refine .mv ?_
  apply wpSq_end
  refine hK1 _ _ ?_
  refine wp_seq_k ?_
  intro K2 hK2
  refine rg [0] ?_
  refine sq ?_
  refine .mv ?_
  apply wpSq_end
  refine hK2 _ _ ?_
  refine wp_seq_k ?_
  intro K3 hK3
  refine rg [0, 1, 2] ?_
  refine sq ?_
  refine .r4 hs.g0.f4 ?_
  refine sq ?_
  refine .al hs ?_; clear hs; intro p_b2 w_2 hs n2 kb_b2
  refine sq ?_
  refine .s4 hs.g0 (fun _ => hs.u0 kb_b2) ?_; clear hs; intro w_3 hs hd3 ho3
  apply wpSq_end
  refine hK3 _ _ ?_
  refine wp_seq_k ?_
  intro K4 hK4
  refine wp_seq_k ?_
  intro K5 hK5
  refine rg [0, 1] ?_
  refine sq ?_
  refine .mv ?_
  refine sq ?_
  refine .mv ?_
  apply wpSq_end
  refine hK5 _ _ ?_
  refine wp_block ?_
  have k0_3 := ((kb n1).b n2).o hd3 ho3
  replace ha1 := ha1.k k0_3
  replace ha2 := ha2.k k0_3
  have hd4 := hs.2.1
  go_loopg [6, 8] N0 (fun k s6 s8 wr => ∃ (m N : Nat) (o : Option Addr) (c : Nat) (xs : List Value) (L : List (Int × Int)) (D R : List Nat) (X Y : Int) (an1 an2 : Bool) (ao1 ao2 : Option Addr) (ak1 ac1 ak2 ac2 : Nat), s6 = .slice o N c ∧ s8 = .int .i64 (m : Int) ∧ m ≤ k ∧ m ≤ N0 ∧ N ≤ N0 ∧ Hid (L0 = D ++ R ∧ PF m R ∧ (D.flatMap pOv).foldl rfS ([], (x, y)) = (L, (X, Y)) ∧ FrZ N0 L X Y N) ∧ GD wr xs L ∧ ZN wr (.agg #[.bool an1, .slice ao1 ak1 ac1]) X lg ∧ ZN wr (.agg #[.bool an2, .slice ao2 ak2 ac2]) Y lg ∧
    St w [ls w.heap.size 26 4 (.slice o N c) N xs, bx p_b2 #[.bool an1, .slice ao1 ak1 ac1, .bool an2, .slice ao2 ak2 ac2] 26] wr)
  case atStart => exact ⟨N0, 0, none, 0, [], [], [], L0, x, y, _, _, _, _, _, _, _, _, rfl, rfl, Nat.le_refl _, Nat.le_refl _, Nat.zero_le _, hide ⟨rfl, HL.out, rfl, HZ.out⟩, GD.nil _, ha1, ha2, (hs.sub (.cons_cons _ (.cons _ .slnil))).l0 _ _⟩
  case round =>
  clear ha1 ha2 hs
  obtain ⟨m, N, o, c, xs, L, D, R, X, Y, an1, an2, ao1, ao2, ak1, ac1, ak2, ac2, rfl, rfl, hmk, hm0, hN0, HI, d, a1, a2, hs⟩ := hrel
  cases R with
  | nil =>
    have h1 : m = 1 := HI.out.2.1
    subst h1
    have HE := hide (show L = expd T ∧ X = U ∧ Y = V ∧ N = L.length ∧ ∀ p ∈ L, (dig p.1.natAbs).length ≤ 20000000 ∧ (dig p.2.natAbs).length ≤ 20000000 from by
      obtain ⟨h1, _, h3, h4⟩ := HI.out
      rw [← List.append_nil D, ← h1, HT.out] at h3
      injection h3 with h3 h5
      injection h5 with h5 h6
      exact ⟨h3.symm, h5.symm, h6.symm, h4.2.2.1, fun p hp => ⟨Nat.le_trans (zlen_small6 (h4.2.2.2 p hp).1) (by decide), Nat.le_trans (zlen_small6 (h4.2.2.2 p hp).2) (by decide)⟩⟩)
    obtain ⟨hE1, hE2, hE3, hE4, hE5⟩ := HE.out
    clear HE
    subst hE2 hE3
    subst hE1
    subst hE4
    have hfw := HF.out
    have hkq : Int.tmod (wrap64 (4 - ((kq X Y : Nat) : Int))) 4 = (-((kq X Y : Nat) : Int)) % 4 := by
      have := kq_lt X Y
      rw [show wrap64 (4 - ((kq X Y : Nat) : Int)) = 4 - ((kq X Y : Nat) : Int) from by unfold wrap64; omega, Int.tmod_eq_emod_of_nonneg (by omega)]
      omega
    have hcl := gD_len hs.1.1.1
    have HE5 := hide hE5
    clear HI hE5
    refine wp_seq_k ?_
    intro K6 hK6
    refine wp_seq_k ?_
    intro K7 hK7
    refine rg [0, 1] ?_
    refine sq ?_
    refine .mv ?_
    refine sq ?_
    refine .r0 ?_
    apply wpSq_end
    refine hK7 _ _ ?_
    refine cf ?_
    refine wp_exit ?_
    refine hK4 _ _ ?_
    refine wp_seq_k ?_
    intro K8 hK8
    refine rg [0, 1, 2, 3, 4, 5, 6, 7] ?_
    refine sq ?_
    refine .r4 hs.g1.f4 ?_
    refine sq ?_
    intro K hK
    go_big_op
    go_fit (rgCanon_any (PN.mk' a1 a2) (by omega) (by omega))
    rintro e w_5 ⟨_, rfl, ⟨n_ea, o_ea, k_ea, c_ea, n_eb, o_eb, k_eb, c_eb, rfl, e1, e2⟩, hb_5⟩
    replace hs := hs.bl hb_5
    refine hK _ _ rfl trivial ?_
    clear hK K
    refine sq ?_
    refine .mv ?_
    refine sq ?_
    refine .r0 ?_
    refine sq ?_
    refine .r0 ?_
    refine sq ?_
    refine .al hs ?_; clear hs; intro p_b3 w_6 hs n6 kb_b3
    refine sq ?_
    refine .s4 hs.g0 (fun _ => hs.u0 kb_b3) ?_; clear hs; intro w_7 hs hd7 ho7
    refine sq ?_
    refine .mv ?_
    apply wpSq_end
    refine hK8 _ _ ?_
    refine wp_seq_k ?_
    intro K9 hK9
    refine rg [0, 1, 2, 3, 4, 5, 6] ?_
    refine sq ?_
    refine .mv ?_
    refine sq ?_
    refine .r0 ?_
    refine sq ?_
    refine .r0 ?_
    refine sq ?_
    refine .mv ?_
    refine sq ?_
    intro K hK
    have k0_3 := ((kb hb_5).b n6).o hd7 ho7
    replace d := d.k k0_3
    go_big_op
    go_fit (sorted_own (expd T).length hs.1.2.1.1 d hs.b.size (Nat.le_refl _) (by omega) hcl HE5.out)
    rintro e w_8 ⟨o_s, c_s, rfl, H_s, S_s, hb_8⟩
    replace hs := hs.bl hb_8
    refine hK _ _ rfl trivial ?_
    clear hK K
    refine sq ?_
    refine .mv ?_
    refine sq ?_
    refine .mv ?_
    apply wpSq_end
    refine hK9 _ _ ?_
    refine wp_ret ?_
    try dsimp only [Exit.then, Exit.inBlock]
    refine bodyPost_ret (v := (.tuple #[.int .i64 ((-((kq X Y : Nat) : Int)) % 4), .slice o_s (expd T).length c_s])) (by simp [results, Tryz.results8, go_sem]) rfl ?_
    exact ⟨_, _, rfl, H_s, S_s, hs.b⟩
  | cons p R =>
    obtain ⟨hp, m2, hm, hR⟩ := HI.out.2.1
    have hp2 := hp.2.1
    have hn2 : 2 ≤ m := Nat.le_trans hp2 (Nat.le_of_dvd (PF.pos HI.out.2.1) hp.1)
    have hpn := hp.le hn2
    have hpl : (pOv p).length ≤ 2 := pOv_len p hp.self
    have hmn := hm.lt hp.1 hp2 hR.pos
    have hmb : m < 4294967296 := by omega
    have HP := hide hp
    have HPP := hide hp.self
    have HM := hide hm
    have HV := fun w => rover_pov (w := w) hp.self (by omega)
    unfold TG at HV
    replace HV := hide HV
    have HI2 := hide (show L0 = (D ++ [p]) ++ R ∧ PF m2 R from ⟨by rw [HI.out.1, List.append_assoc]; rfl, hR⟩)
    have HJ0 := hide HI.out.2.2
    clear hp hm hR HI
    refine wp_seq_k ?_
    intro K6 hK6
    refine wp_seq_k ?_
    intro K7 hK7
    refine rg [0, 1] ?_
    refine sq ?_
    refine .mv ?_
    refine sq ?_
    refine .r0 ?_
    apply wpSq_end
    refine hK7 _ _ ?_
    refine ct ?_
    refine wp_skip ?_
    refine hK6 _ _ ?_
    refine wp_block ?_
    refine wp_seq_k ?_
    intro K8 hK8
    refine rg [0, 1, 2] ?_
    refine sq ?_
    refine .mv ?_
    refine sq ?_
    intro K hK
    go_big_op
    go_fit (rleastP HP.out hn2 hmb)
    rintro e w_5 ⟨rfl, e_5⟩
    (first | rw [e_5] | rw [← e_5]); clear e_5 w_5
    refine hK _ _ rfl trivial ?_
    clear hK K
    refine sq ?_
    refine .mv ?_
    apply wpSq_end
    refine hK8 _ _ ?_
    refine wp_seq_k ?_
    intro K9 hK9
    refine rg [0, 1, 2] ?_
    refine sq ?_
    refine .mv ?_
    refine sq ?_
    intro K hK
    go_big_op
    go_fit (HV.out _)
    rintro e w_6 ⟨o_V, c_V, xs_V, rfl, L_V, d_V, hb_6⟩
    replace hs := hs.la hb_6 L_V
    refine hK _ _ rfl trivial ?_
    clear hK K
    refine sq ?_
    refine .mv ?_
    apply wpSq_end
    refine hK9 _ _ ?_
    refine wp_seq_k ?_
    intro K10 hK10
    refine wp_seq_k ?_
    intro K11 hK11
    refine rg [0] ?_
    refine sq ?_
    refine .mv ?_
    apply wpSq_end
    refine hK11 _ _ ?_
    refine wp_block ?_
    have HO := ‹∀ (a' : Act) (w' : World), Handed _ _ a' w' → _›
    obtain ⟨g1, hg1⟩ : ∃ g, gk = g := ⟨_, rfl⟩
    have k0_1 := kb hb_6
    replace d := d.k k0_1
    replace a1 := a1.k k0_1
    replace a2 := a2.k k0_1
    have hd7 := hs.2.1
    go_loopg [6, 11] (pOv p).length (fun k s6 s11 wr => ∃ (j N : Nat) (o : Option Addr) (c : Nat) (xs : List Value) (L : List (Int × Int)) (X Y : Int) (an1 an2 : Bool) (ao1 ao2 : Option Addr) (ak1 ac1 ak2 ac2 : Nat), s6 = .slice o N c ∧ s11 = .int .i64 (j : Int) ∧ j + k = (pOv p).length ∧ N ≤ N0 ∧ Hid ((D.flatMap pOv ++ (pOv p).take j).foldl rfS ([], (x, y)) = (L, (X, Y)) ∧ FrZ N0 L X Y N) ∧ GD wr xs L ∧ GD wr xs_V (pOv p) ∧ ZN wr (.agg #[.bool an1, .slice ao1 ak1 ac1]) X lg ∧ ZN wr (.agg #[.bool an2, .slice ao2 ak2 ac2]) Y lg ∧
      St w [ls w.heap.size 26 4 (.slice o_V (pOv p).length c_V) (pOv p).length xs_V, ls w.heap.size 26 4 (.slice o N c) N xs, bx p_b2 #[.bool an1, .slice ao1 ak1 ac1, .bool an2, .slice ao2 ak2 ac2] 26] wr)
    case atStart => exact ⟨0, N, o, c, xs, L, X, Y, _, _, _, _, _, _, _, _, rfl, rfl, by omega, hN0, hide (by rw [List.take_zero, List.append_nil]; exact HJ0.out), d, d_V, a1, a2, hs⟩
    case round =>
    clear a1 a2 d d_V hs
    obtain ⟨j, M, o2, c2, xs2, L2, X2, Y2, bn1, bn2, bo1, bo2, bk1, bc1, bk2, bc2, rfl, rfl, hjk, hM, HJ, d2, dV, b1, b2, hs⟩ := hrel
    by_cases hj : j < (pOv p).length
    · obtain ⟨q, hq⟩ : ∃ q, (pOv p)[j] = q := ⟨_, rfl⟩
      have hqm : q ∈ pOv p := hq ▸ List.getElem_mem hj
      have HQ := hide (And.intro (pOv_norm HPP.out hqm) (pOv_small HPP.out (by omega) hqm))
      have HTj := hide (show (pOv p).take (j + 1) = (pOv p).take j ++ [q] from by rw [List.take_add_one, List.getElem?_eq_getElem hj, hq]; rfl)
      have HJ2 := hide (show (D.flatMap pOv ++ (pOv p).take (j + 1)).foldl rfS ([], (x, y)) = rfS (L2, (X2, Y2)) q ∧ FrZ N0 L2 X2 Y2 M from ⟨by rw [HTj.out, ← List.append_assoc, List.foldl_append, HJ.out.1]; rfl, HJ.out.2⟩)
      have HQe := hide hq
      clear HJ hq hqm
      refine wp_seq_k ?_
      intro K12 hK12
      refine wp_seq_k ?_
      intro K13 hK13
      refine rg [0, 1, 2, 3] ?_
      refine sq ?_
      refine .mv ?_
      refine sq ?_
      refine .mv ?_
      refine sq ?_
      refine .r0 ?_
      refine sq ?_
      refine .r0 ?_
      apply wpSq_end
      refine hK13 _ _ ?_
      refine ct ?_
      refine wp_skip ?_
      refine hK12 _ _ ?_
      refine wp_seq_k ?_
      intro K14 hK14
      refine wp_block ?_
      refine wp_block ?_
      have HO2 := ‹∀ (a' : Act) (w' : World), Handed _ _ a' w' → _›
      obtain ⟨g2, hg2⟩ : ∃ g, gk = g := ⟨_, rfl⟩
      have hd8 := hs.2.1
      go_loopg [6] (gN X2 Y2).toNat (fun k s6 wr => ∃ (N : Nat) (o : Option Addr) (c : Nat) (xs : List Value) (L : List (Int × Int)) (X Y : Int) (an1 an2 : Bool) (ao1 ao2 : Option Addr) (ak1 ac1 ak2 ac2 : Nat), s6 = .slice o N c ∧ N ≤ N0 ∧ Hid ((D.flatMap pOv ++ (pOv p).take (j + 1)).foldl rfS ([], (x, y)) = rfS (L, (X, Y)) q ∧ FrZ N0 L X Y N ∧ (gN X Y).toNat ≤ k) ∧ GD wr xs L ∧ GD wr xs_V (pOv p) ∧ ZN wr (.agg #[.bool an1, .slice ao1 ak1 ac1]) X lg ∧ ZN wr (.agg #[.bool an2, .slice ao2 ak2 ac2]) Y lg ∧
        St w [ls w.heap.size 26 4 (.slice o_V (pOv p).length c_V) (pOv p).length xs_V, ls w.heap.size 26 4 (.slice o N c) N xs, bx p_b2 #[.bool an1, .slice ao1 ak1 ac1, .bool an2, .slice ao2 ak2 ac2] 26] wr)
      case atStart => exact ⟨M, o2, c2, xs2, L2, X2, Y2, _, _, _, _, _, _, _, _, rfl, hM, hide ⟨HJ2.out.1, HJ2.out.2, Nat.le_refl _⟩, d2, dV, b1, b2, hs⟩
      case round =>
      clear HJ2
      clear b1 b2 dV d2 hs
      obtain ⟨K9, o3, c3, xs3, L3, X3, Y3, en1, en2, eo1, eo2, ek1, ec1, ek2, ec2, rfl, hK9, HK, d3, dV, f1, f2, hs⟩ := hrel
      obtain ⟨n1, o1, k1, q1, n2, o4, k2, q2, e5, e2, e3, e4, z1, z2⟩ := dV.at hj
      rw [HQe.out] at z1 z2
      have Lz1 := hide (zlen_small6 HQ.out.2.1)
      have Lz2 := hide (zlen_small6 HQ.out.2.2)
      obtain ⟨gv, curv, rfl, xv, hcv⟩ := (hs.1.1.1).box (by omega)
      replace e5 := hide (hcv _ _ e5)
      replace e2 := hide (hcv _ _ e2)
      replace e3 := hide (hcv _ _ e3)
      replace e4 := hide (hcv _ _ e4)
      clear hcv
      by_cases hd : gDv X3 Y3 q.1 q.2
      · have HS := HK.out.2.1.step HQ.out.1 HQ.out.2 hd
        have hNs : K9 + 1 ≤ N0 := by have := HS.1.2.1; have := gN_nonneg (gD1 X3 Y3 q.1 q.2) (gD2 X3 Y3 q.1 q.2); omega
        have hg3 : 1 ≤ gk ∧ (gN (gD1 X3 Y3 q.1 q.2) (gD2 X3 Y3 q.1 q.2)).toNat ≤ gk - 1 := by have := HS.2; have := HK.out.2.2; omega
        have hgk1 := hg3.1
        have HK2 := hide (show (D.flatMap pOv ++ (pOv p).take (j + 1)).foldl rfS ([], (x, y)) = rfS (L3 ++ [q], (gD1 X3 Y3 q.1 q.2, gD2 X3 Y3 q.1 q.2)) q ∧ FrZ N0 (L3 ++ [q]) (gD1 X3 Y3 q.1 q.2) (gD2 X3 Y3 q.1 q.2) (K9 + 1) ∧ (gN (gD1 X3 Y3 q.1 q.2) (gD2 X3 Y3 q.1 q.2)).toNat ≤ gk - 1 from ⟨by rw [HK.out.1, rfS_yes HQ.out.1 HK.out.2.1.1 hd], HS.1, hg3.2⟩)
        have HLn := hide (len_of_norm (x := gD1 X3 Y3 q.1 q.2) (y := gD2 X3 Y3 q.1 q.2) (by have := HS.1.2.1; omega))
        have HD := hide hd
        clear HK HS hd hg3
        refine wp_block ?_
        refine wp_seq_k ?_
        intro K15 hK15
        refine wp_region_f4 [(0, false), (1, false), (2, false), (3, false), (4, false), (5, true), (6, false), (7, false), (8, false)] [10, 11] [9] (fun j => (.cells #[.bool false, .slice none 0 0, .bool false, .slice none 0 0] 26)) [0, 99, 99, 99, 1, 99, 99, 99, 99, 99, 99, 99] [] (.c hs.g2 (.c xv .n)) (fm fn) fun w_9 n9 => ?_
        replace xv := xv.bl n9; replace hs := hs.bl n9
        have hlB := hs.lt; have hkB := hs.k
        refine f4 ?_
        refine fmv ?_
        refine fmv ?_
        refine f0 ?_
        apply wpFl_ld rfl rfl; (case h1 => intro w' hC K hK; have c0 := Bs.cell hC ((j * 4)) e5.out; have c1 := Bs.cell hC ((j * 4) + 1) e2.out; have c2 := Bs.cell hC ((j * 4) + 2) e3.out; have c3 := Bs.cell hC ((j * 4) + 3) e4.out; go_big_op; exact hK); iterate 4 kernel_rfl
        refine fl fun w_10 n10 => ?_
        replace xv := xv.bl n10; replace hs := hs.bl n10
        intro K hK
        have k0_2 := (kb n9).b n10
        replace f1 := f1.k k0_2
        replace f2 := f2.k k0_2
        replace z1 := z1.k k0_2
        replace z2 := z2.k k0_2
        go_big_op
        go_fit (rgexact_yes (.mk' f1 f2) (.mk' (z1.zn Lz1.out) (z2.zn Lz2.out)) (by omega) (by omega) (by decide) (by decide) (by have := HQ.out.1; omega) HD.out)
        rintro e w_11 ⟨_, rfl, ⟨n_ra, o_ra, k_ra, c_ra, n_rb, o_rb, k_rb, c_rb, rfl, r1, r2⟩, hb_11⟩
        replace xv := xv.bl hb_11; replace hs := hs.bl hb_11
        have Lr1 := hide (r1.lenOf (HLn.out.1))
        have Lr2 := hide (r2.lenOf (HLn.out.2))
        refine hK _ _ rfl ⟨hb_11, (And.intro hs.g2 (And.intro xv trivial))⟩ ?_
        clear hK K
        refine fmv ?_
        refine f0 ?_
        refine f0 ?_
        refine e1 hs hlB hkB ?_; clear hs hlB hkB; intro w_12 p_b3 hs n12 kb_b3
        replace xv := xv.bl n12
        refine tl ?_
        refine .s4o hs.g0 (fun _ => hs.u0 kb_b3) ?_ (e := fun _ hs hO => (And.intro hs.g3 (And.intro (xv.frame hO (hs.ne 1 0)) True.intro))); clear hs; intro w_13 hs hd13 ho13
        replace xv := xv.frame ho13 (hs.ne 1 0)
        refine tl ?_
        refine .mv ?_ (e := (And.intro hs.g3 (And.intro xv True.intro)))
        apply wpTail_end
        refine hK15 _ _ ?_
        refine wp_seq_k ?_
        intro K16 hK16
        refine wp_seq_k ?_
        intro K17 hK17
        refine rg [0, 1] ?_
        refine sq ?_
        refine .mv ?_
        refine sq ?_
        refine .r0 ?_
        apply wpSq_end
        refine hK17 _ _ ?_
        refine cf ?_
        refine wp_skip ?_
        refine hK16 _ _ ?_
        refine wp_seq_k ?_
        intro K18 hK18
        refine rg [0, 1] ?_
        refine sq ?_
        refine .r4 hs.g0.f4 ?_
        refine sq ?_
        refine .s4 hs.g3 (fun _ => hs.u3 kb_b2) ?_; clear hs; intro w_14 hs hd14 ho14
        replace xv := xv.frame ho14 (hs.ne 1 3)
        apply wpSq_end
        refine hK18 _ _ ?_
        refine rg [0, 1, 2, 3, 4, 5, 6, 7] ?_
        refine sq ?_
        refine .mv ?_
        refine sq ?_
        refine .mv ?_
        refine sq ?_
        refine .mv ?_
        refine sq ?_
        refine .r0 ?_
        refine sq ?_
        refine .r4 ⟨xv.cell _ e5.out, xv.cell _ e2.out, xv.cell _ e3.out, xv.cell _ e4.out⟩ ?_
        refine sq ?_
        refine .al hs ?_; clear hs; intro p_b4 w_15 hs n15 kb_b4
        replace xv := xv.bl n15
        refine sq ?_
        have k2_7 := ((((kb hb_11).b n12).o hd13 ho13).o hd14 ho14).b n15
        replace z1 := z1.k k2_7
        replace z2 := z2.k k2_7
        have k0_7 := ((((k0_2.b hb_11).b n12).o hd13 ho13).o hd14 ho14).b n15
        replace d3 := d3.k k0_7
        replace d3 := d3.snoc (.mk' z1 z2)
        refine .ap 3 hs hs.g0 ?_; clear hs; intro o_F_16 c_F_16 w_16 hs kp16 hw16; simp only [List.set_cons_succ, List.set_cons_zero] at hs
        clear xv
        refine sq ?_
        refine .mv ?_
        apply wpSq_end
        have k7_8 := kp16
        replace d3 := d3.k k7_8
        have k0_8 := k0_7.t kp16
        replace dV := dV.k k0_8
        have k3_8 := ((((kb n12).o hd13 ho13).o hd14 ho14).b n15).t kp16
        replace r1 := r1.k k3_8
        replace r2 := r2.k k3_8
        refine ‹∀ (a' : Act) (w' : World), Handed _ _ a' w' → _› _ _ ?_
        go_roundg (gk - 1)
        case rel => exact ⟨K9 + 1, _, _, _, _, _, _, _, _, _, _, _, _, _, _, by rfl, hNs, HK2, d3, dV, r1.zn (Nat.le_trans HLn.out.1 hlg), r2.zn (Nat.le_trans HLn.out.2 hlg), hs.sub (.cons _ (.cons _ (List.Sublist.refl _)))⟩
        case measure => omega
      · have HK2 := hide (show (D.flatMap pOv ++ (pOv p).take (j + 1)).foldl rfS ([], (x, y)) = (L3, (X3, Y3)) ∧ FrZ N0 L3 X3 Y3 K9 from ⟨by rw [HK.out.1, rfS_no hd], HK.out.2.1⟩)
        have HD := hide hd
        clear HK hd
        refine wp_block ?_
        refine wp_seq_k ?_
        intro K15 hK15
        refine wp_region_f4 [(0, false), (1, false), (2, false), (3, false), (4, false), (5, true), (6, false), (7, false), (8, false)] [10, 11] [9] (fun j => (.cells #[.bool false, .slice none 0 0, .bool false, .slice none 0 0] 26)) [0, 99, 99, 99, 1, 99, 99, 99, 99, 99, 99, 99] [] (.c hs.g2 (.c xv .n)) (fm fn) fun w_9 n9 => ?_
        replace xv := xv.bl n9; replace hs := hs.bl n9
        have hlB := hs.lt; have hkB := hs.k
        refine f4 ?_
        refine fmv ?_
        refine fmv ?_
        refine f0 ?_
        apply wpFl_ld rfl rfl; (case h1 => intro w' hC K hK; have c0 := Bs.cell hC ((j * 4)) e5.out; have c1 := Bs.cell hC ((j * 4) + 1) e2.out; have c2 := Bs.cell hC ((j * 4) + 2) e3.out; have c3 := Bs.cell hC ((j * 4) + 3) e4.out; go_big_op; exact hK); iterate 4 kernel_rfl
        refine fl fun w_10 n10 => ?_
        replace xv := xv.bl n10; replace hs := hs.bl n10
        intro K hK
        have k0_2 := (kb n9).b n10
        replace f1 := f1.k k0_2
        replace f2 := f2.k k0_2
        replace z1 := z1.k k0_2
        replace z2 := z2.k k0_2
        go_big_op
        go_fit (rgexact_no (.mk' f1 f2) (.mk' (z1.zn Lz1.out) (z2.zn Lz2.out)) (by omega) (by omega) (by decide) (by decide) (by have := HQ.out.1; omega) HD.out)
        rintro e w_11 ⟨_, rfl, ⟨n_ra, o_ra, k_ra, c_ra, n_rb, o_rb, k_rb, c_rb, rfl, r1, r2⟩, hb_11⟩
        replace xv := xv.bl hb_11; replace hs := hs.bl hb_11
        refine hK _ _ rfl ⟨hb_11, (And.intro hs.g2 (And.intro xv trivial))⟩ ?_
        clear hK K
        refine fmv ?_
        refine f0 ?_
        refine f0 ?_
        refine e1 hs hlB hkB ?_; clear hs hlB hkB; intro w_12 p_b3 hs n12 kb_b3
        replace xv := xv.bl n12
        refine tl ?_
        refine .s4o hs.g0 (fun _ => hs.u0 kb_b3) ?_ (e := fun _ hs hO => (And.intro hs.g3 (And.intro (xv.frame hO (hs.ne 1 0)) True.intro))); clear hs; intro w_13 hs hd13 ho13
        replace xv := xv.frame ho13 (hs.ne 1 0)
        refine tl ?_
        refine .mv ?_ (e := (And.intro hs.g3 (And.intro xv True.intro)))
        apply wpTail_end
        refine hK15 _ _ ?_
        refine wp_seq_k ?_
        intro K16 hK16
        refine wp_seq_k ?_
        intro K17 hK17
        refine rg [0, 1] ?_
        refine sq ?_
        refine .mv ?_
        refine sq ?_
        refine .r0 ?_
        apply wpSq_end
        refine hK17 _ _ ?_
        refine ct ?_
        refine wp_exit ?_
        refine hK14 _ _ ?_
        refine rg [0, 1, 2] ?_
        refine sq ?_
        refine .mv ?_
        refine sq ?_
        refine .r0 ?_
        refine sq ?_
        refine .mv ?_
        apply wpSq_end
        have k0_5 := ((k0_2.b hb_11).b n12).o hd13 ho13
        replace d3 := d3.k k0_5
        replace dV := dV.k k0_5
        have k2_5 := ((kb hb_11).b n12).o hd13 ho13
        replace f1 := f1.k k2_5
        replace f2 := f2.k k2_5
        refine HO2 _ _ ?_
        go_roundg (g2 - 1)
        case rel => exact ⟨j + 1, K9, _, _, _, _, _, _, _, _, _, _, _, _, _, _, by rfl, by rfl, by omega, hK9, HK2, d3, dV, f1, f2, hs.sub (.cons _ (List.Sublist.refl _))⟩
        case measure => omega
    · have HI' := hide (show L0 = (D ++ [p]) ++ R ∧ PF m2 R ∧ ((D ++ [p]).flatMap pOv).foldl rfS ([], (x, y)) = (L2, (X2, Y2)) ∧ FrZ N0 L2 X2 Y2 M from by
        have := HJ.out
        rw [show (pOv p).take j = pOv p from List.take_of_length_le (by omega)] at this
        refine ⟨HI2.out.1, HI2.out.2, ?_, this.2⟩
        rw [List.flatMap_append, List.flatMap_cons, List.flatMap_nil, List.append_nil]
        exact this.1)
      clear HJ
      have hm20 : 0 < m2 := PF.pos HI2.out.2
      refine wp_seq_k ?_
      intro K12 hK12
      refine wp_seq_k ?_
      intro K13 hK13
      refine rg [0, 1, 2, 3] ?_
      refine sq ?_
      refine .mv ?_
      refine sq ?_
      refine .mv ?_
      refine sq ?_
      refine .r0 ?_
      refine sq ?_
      refine .r0 ?_
      apply wpSq_end
      refine hK13 _ _ ?_
      refine cf ?_
      refine wp_exit ?_
      refine hK10 _ _ ?_
      refine wp_block ?_
      have hd8 := hs.2.1
      go_loopg [8] m (fun k s8 wr => ∃ q : Nat, s8 = .int .i64 (q : Int) ∧ q ≤ k ∧ q ≤ m ∧ Hid (∃ e, q = p ^ e * m2) ∧ GD wr xs2 L2 ∧ ZN wr (.agg #[.bool bn1, .slice bo1 bk1 bc1]) X2 lg ∧ ZN wr (.agg #[.bool bn2, .slice bo2 bk2 bc2]) Y2 lg ∧ St w [ls w.heap.size 26 4 (.slice o2 M c2) M xs2, bx p_b2 #[.bool bn1, .slice bo1 bk1 bc1, .bool bn2, .slice bo2 bk2 bc2] 26] wr)
      case atStart => exact ⟨m, rfl, Nat.le_refl _, Nat.le_refl _, hide HM.out.1, d2, b1, b2, hs.sub (.cons _ (List.Sublist.refl _))⟩
      case round =>
      clear b1 b2 dV d2 hs
      obtain ⟨q, rfl, hqk, hqn, HE, d2, b1, b2, hs⟩ := hrel
      have hp0 : ((p : Int) == 0) = false := by rw [beq_eq_false_iff_ne]; omega
      by_cases hd : q % p = 0
      · have hmo : Int.tmod (q : Int) (p : Int) = 0 := by rw [← Int.ofNat_tmod, hd]; rfl
        have hdi : Int.tdiv (q : Int) (p : Int) = ((q / p : Nat) : Int) := by rw [← Int.ofNat_tdiv]
        have hd2 : q / p < q ∧ ∃ e, q / p = p ^ e * m2 := by
          obtain ⟨e, he⟩ := HE.out
          have hpq : p ∣ q := Nat.dvd_of_mod_eq_zero hd
          cases e with
          | zero => rw [Nat.pow_zero, Nat.one_mul] at he; rw [he] at hpq; exact absurd hpq HM.out.2
          | succ e =>
            have h5 : q = p * (p ^ e * m2) := by rw [he, Nat.pow_succ, Nat.mul_comm (p ^ e) p, Nat.mul_assoc]
            have h6 : q / p = p ^ e * m2 := by rw [h5, Nat.mul_div_cancel_left _ (by omega)]
            refine ⟨Nat.div_lt_self ?_ (by omega), e, h6⟩
            rw [h5]; exact Nat.mul_pos (by omega) (Nat.mul_pos (Nat.pow_pos (by omega)) hm20)
        have HE2 := hide hd2.2
        have hlt := hd2.1
        clear hd hd2 HE
        generalize q / p = r at *
        refine wp_seq_k ?_
        intro K14 hK14
        refine wp_seq_k ?_
        intro K15 hK15
        refine rg [0, 1, 2, 3] ?_
        refine sq ?_
        refine .mv ?_
        refine sq ?_
        refine .mv ?_
        refine sq ?_
        refine .r0 ?_
        refine sq ?_
        refine .r0 ?_
        apply wpSq_end
        refine hK15 _ _ ?_
        refine ct ?_
        refine wp_skip ?_
        refine hK14 _ _ ?_
        refine wp_block ?_
        refine rg [0, 1, 2, 3] ?_
        refine sq ?_
        refine .mv ?_
        refine sq ?_
        refine .mv ?_
        refine sq ?_
        refine .r0 ?_
        refine sq ?_
        refine .mv ?_
        apply wpSq_end
        refine ‹∀ (a' : Act) (w' : World), Handed _ _ a' w' → _› _ _ ?_
        go_roundg (gk - 1)
        case rel => exact ⟨r, by rfl, by omega, by omega, HE2, d2, b1, b2, hs⟩
        case measure => omega
      · have hmo : Int.tmod (q : Int) (p : Int) = ((q % p : Nat) : Int) := by rw [Int.ofNat_tmod]
        have hqm : q = m2 := by
          obtain ⟨e, he⟩ := HE.out
          cases e with
          | zero => rw [he, Nat.pow_zero, Nat.one_mul]
          | succ e => exact absurd (Nat.mod_eq_zero_of_dvd ⟨p ^ e * m2, by rw [he, Nat.pow_succ, Nat.mul_comm (p ^ e) p, Nat.mul_assoc]⟩) hd
        subst hqm
        clear HE
        generalize q % p = r at *
        have hr0 : ((r : Int) == 0) = false := by rw [beq_eq_false_iff_ne]; omega
        refine wp_seq_k ?_
        intro K14 hK14
        refine wp_seq_k ?_
        intro K15 hK15
        refine rg [0, 1, 2, 3] ?_
        refine sq ?_
        refine .mv ?_
        refine sq ?_
        refine .mv ?_
        refine sq ?_
        refine .r0 ?_
        refine sq ?_
        refine .r0 ?_
        apply wpSq_end
        refine hK15 _ _ ?_
        refine cf ?_
        refine wp_exit ?_
        refine HO _ _ ?_
        go_roundg (g1 - 1)
        case rel => exact ⟨q, M, _, _, _, _, _, _, _, _, _, _, _, _, _, _, _, _, by rfl, by rfl, by omega, by omega, hM, HI', d2, b1, b2, hs⟩
        case measure => omega
end
end Go.Proofs.YthlhekkcjficdaaGreat


/- Factor's answer and the reference's, told side by side; where a factor stands in the reference's list. -/
namespace Go.Proofs.YthlhekkcjficdaaGreat
open Go Go.RowKit Dig
set_option linter.unusedVariables false
theorem rf_ex {x y : Int} (h0 : gN x y ≠ 0) (hN : gN x y < 4294967296) : ∃ (ps : List (Int × Int × Int)) (k : Int), FaOk x y k ps ∧ (∀ (w : World) (va : Value) (lg : Nat), PN w va x lg y lg → 1 ≤ lg → lg ≤ 10000000 →
    Calls Tryz.prog 4 #[va] w fun e w' => ∃ (o : Option Addr) (c : Nat) (xs : List Value), e = .returned (.tuple #[.int .i64 k, .slice o ps.length c, .int .i64 0]) ∧ Lst w' w.heap.size 39 5 (.slice o ps.length c) ps.length xs ∧ FacL w' xs ps ∧ Below w.heap.size w w') ∧
    ∀ (w : World) (va : Value) (lg : Nat), PN w va x lg y lg → 1 ≤ lg → lg ≤ 2000000 →
    Calls Tryz.prog 8 #[va, .int .i64 (((gN x y).toNat : Nat) : Int)] w fun e w' => ∃ (o : Option Addr) (c : Nat) (xs : List Value), e = .returned (.tuple #[.int .i64 k, .slice o (expd ps).length c]) ∧ Lst w' w.heap.size 26 4 (.slice o (expd ps).length c) (expd ps).length xs ∧ GD w' xs (expd ps) ∧ Below w.heap.size w w' := by
  have h1 := gN_nonneg x y
  obtain ⟨N0, hN0⟩ : ∃ N0 : Nat, gN x y = (N0 : Int) := ⟨(gN x y).toNat, by omega⟩
  have hN1 : (gN x y).toNat = N0 := by rw [hN0]; rfl
  obtain ⟨L0, hL⟩ := pf_ex N0 (by omega)
  obtain ⟨T, Z, hT⟩ : ∃ T Z, (L0.flatMap pOv).foldl fcS ([], (x, y)) = (T, Z) := ⟨_, _, rfl⟩
  obtain ⟨U, V⟩ := Z
  obtain ⟨ps, hp, hr⟩ := ris_ex hL hT
  have hok := factor_ok hN0 (by omega) (by omega) hL hT hp hr
  have el : (expd ps).length = (expd T).length := (hp.flatMap_right _).length_eq
  have hfew := expd_few hok hN
  rw [hN1]
  refine ⟨ps, _, hok, fun w va lg ha hlg hlm => (gfactor_any ha hlg hlm hN0 (by omega) (by omega) hL hT).mono ?_, fun w va lg ha hlg hlm => (rfactor_any ha hlg hlm hN0 (by omega) (by omega) hL hT (by omega)).mono ?_⟩
  · rintro e w' ⟨o, c, qs, rfl, hq, hs, hl, hc, hb⟩
    have hd : (T.map Pr).Nodup := by have := fc_nodup (z := (x, y)) hL; rw [hT] at this; exact this
    have e1 : qs.map Pw.val = ps := List.Perm.eq_of_pairwise (le := FLt) (fun a b _ _ h1 h2 => (flt_anti h1 h2).elim) (List.pairwise_map.2 (ris_strict hs hq hd)) hr (hq.trans hp.symm)
    have e2 : ps.length = T.length := hp.length_eq
    rw [← e2] at hl
    exact ⟨o, c, _, by rw [e2], hl, ⟨qs, rfl, e1, hc⟩, hb⟩
  · rintro e w' ⟨o, c, rfl, _, ⟨xs, hl, hd⟩, hb⟩
    rw [srt_expd hp hr (Nat.le_succ _)] at hd
    rw [← el] at hl
    exact ⟨o, c, xs, by rw [el], hl, hd, hb⟩
theorem expd_take {ps : List (Int × Int × Int)} {i : Nat} (hi : i < ps.length) : expd (ps.take (i + 1)) = expd (ps.take i) ++ List.replicate ps[i].2.2.toNat (Pr ps[i]) := by
  rw [List.take_add_one, List.getElem?_eq_getElem hi]
  unfold expd
  rw [List.flatMap_append]
  simp
theorem expd_split (ps : List (Int × Int × Int)) (i : Nat) : expd ps = expd (ps.take i) ++ expd (ps.drop i) := by
  unfold expd
  rw [← List.flatMap_append, List.take_append_drop]
theorem expd_le (ps : List (Int × Int × Int)) (i : Nat) : (expd (ps.take i)).length ≤ (expd ps).length := by
  rw [expd_split ps i, List.length_append]; exact Nat.le_add_right _ _
theorem expd_lens {ps : List (Int × Int × Int)} {i : Nat} (hi : i < ps.length) : (expd (ps.take (i + 1))).length = (expd (ps.take i)).length + ps[i].2.2.toNat := by
  rw [expd_take hi, List.length_append, List.length_replicate]
theorem expd_at {ps : List (Int × Int × Int)} {i n : Nat} (hi : i < ps.length) (hn : n < ps[i].2.2.toNat) (hb : (expd (ps.take i)).length + n < (expd ps).length) : (expd ps)[(expd (ps.take i)).length + n] = Pr ps[i] := by
  have h : (expd ps)[(expd (ps.take i)).length + n]? = some (Pr ps[i]) := by
    rw [expd_split ps (i + 1), expd_take hi, List.append_assoc, List.getElem?_append_right (Nat.le_add_right _ _), Nat.add_sub_cancel_left, List.getElem?_append_left (by rw [List.length_replicate]; exact hn), List.getElem?_replicate, if_pos hn]
  rw [List.getElem?_eq_getElem hb] at h
  exact Option.some.inj h
/-- Behind the last of one factor stands the next. -/
theorem expd_next {ps : List (Int × Int × Int)} {i : Nat} (hi : i < ps.length) (h1 : ∀ t ∈ ps, 1 ≤ t.2.2) (hr : ps.Pairwise FLt) (hb : (expd (ps.take (i + 1))).length < (expd ps).length) :
    ¬ ((expd ps)[(expd (ps.take (i + 1))).length].1 = ps[i].1 ∧ (expd ps)[(expd (ps.take (i + 1))).length].2 = ps[i].2.1) := by
  have hi2 : i + 1 < ps.length := by
    rcases Nat.lt_or_ge (i + 1) ps.length with h | h
    · exact h
    · rw [List.take_of_length_le h] at hb; exact absurd hb (Nat.lt_irrefl _)
  have hn := h1 _ (List.getElem_mem hi2)
  have h := expd_at (n := 0) hi2 (by omega) (by rw [Nat.add_zero]; exact hb)
  have h' : (expd ps)[(expd (ps.take (i + 1))).length] = Pr ps[i + 1] := h
  rw [h']
  rintro ⟨e1, e2⟩
  have h2 := List.pairwise_iff_getElem.1 hr i (i + 1) hi hi2 (by omega)
  unfold Pr at e1 e2
  dsimp only at e1 e2
  have h3 : FLt ps[i + 1] ps[i] := by
    unfold FLt at h2 ⊢
    rw [e1, e2] at h2 ⊢
    exact h2
  exact flt_anti h2 h3
end Go.Proofs.YthlhekkcjficdaaGreat


/- gprime.Factor's ways out. -/
namespace Go.Proofs.YthlhekkcjficdaaGreat
open Go Go.RowKit Dig
set_option linter.unusedVariables false
section
variable {w : World} {va : Value} {x y : Int} {l m : Nat}
set_option maxHeartbeats 4000000 in
set_option maxRecDepth 20000 in
theorem gfactor_big (ha : PN w va x l y m) (hl : l ≤ 20000000) (hm : m ≤ 20000000) (hn : 4294967296 ≤ gN x y) :
    Calls Tryz.prog 4 #[va] w fun e w' => e = .returned (.tuple #[.int .i64 0, .slice none 0 0, .int .i64 12]) ∧ Below w.heap.size w w' := by
  have HN := hide hn
  clear hn
  obtain ⟨n_0a, o_0a, k_0a, c_0a, n_0b, o_0b, k_0b, c_0b, rfl, ha1, ha2⟩ := ha
  go_enter Tryz.func4, Tryz.ntmps4
  have hs := St.nil w
  refine wp_seq_k ?_
  intro K1 hK1
  refine rg [0, 1, 2, 3] ?_
  refine sq ?_
  refine .al hs ?_; clear hs; intro p_b1 w_1 hs n1 kb_b1
  refine sq ?_
  refine .mv ?_
  refine sq ?_
  refine .mv ?_
  refine sq ?_
  refine .mv ?_
  apply wpSq_end
  refine hK1 _ _ ?_
  refine wp_seq_k ?_
  intro K2 hK2
  refine rg [0, 1, 2, 3, 4, 5, 6] ?_
  refine sq ?_
  refine .r4 hs.g0.f4 ?_
  refine sq ?_
  intro K hK
  have k0_1 := kb n1
  replace ha1 := ha1.k k0_1
  replace ha2 := ha2.k k0_1
  go_big_op
  go_fit (normOf_big (.mk' ha1 ha2) (by omega) (by omega) HN.out)
  rintro e w_2 ⟨rfl, hb_2⟩
  replace hs := hs.bl hb_2
  refine hK _ _ rfl trivial ?_
  clear hK K
  refine sq ?_
  refine .mv ?_
  refine sq ?_
  refine .r0 ?_
  refine sq ?_
  refine .r0 ?_
  refine sq ?_
  refine .mv ?_
  refine sq ?_
  refine .mv ?_
  apply wpSq_end
  refine hK2 _ _ ?_
  refine wp_seq_k ?_
  intro K3 hK3
  refine wp_seq_k ?_
  intro K4 hK4
  refine rg [0, 1] ?_
  refine sq ?_
  refine .mv ?_
  refine sq ?_
  refine .r0 ?_
  apply wpSq_end
  refine hK4 _ _ ?_
  refine ct ?_
  refine wp_seq_k ?_
  intro K5 hK5
  refine rg [0, 1, 2, 3] ?_
  refine sq ?_
  refine .mv ?_
  refine sq ?_
  refine .mv ?_
  refine sq ?_
  refine .mv ?_
  refine sq ?_
  refine .mv ?_
  apply wpSq_end
  refine hK5 _ _ ?_
  refine wp_ret ?_
  try dsimp only [Exit.then, Exit.inBlock]
  refine bodyPost_ret (v := (.tuple #[.int .i64 0, .slice none 0 0, .int .i64 12])) (by simp [results, Tryz.results4, go_sem]) rfl ?_
  exact ⟨rfl, hs.b⟩
set_option maxHeartbeats 4000000 in
set_option maxRecDepth 20000 in
theorem gfactor_zero (ha : PN w va x l y m) (hl : l ≤ 20000000) (hm : m ≤ 20000000) (hn : gN x y = 0) :
    Calls Tryz.prog 4 #[va] w fun e w' => e = .returned (.tuple #[.int .i64 0, .slice none 0 0, .int .i64 5]) ∧ Below w.heap.size w w' := by
  have HN := hide (show gN x y = ((0 : Nat) : Int) from hn)
  clear hn
  obtain ⟨n_0a, o_0a, k_0a, c_0a, n_0b, o_0b, k_0b, c_0b, rfl, ha1, ha2⟩ := ha
  go_enter Tryz.func4, Tryz.ntmps4
  have hs := St.nil w
  refine wp_seq_k ?_
  intro K1 hK1
  refine rg [0, 1, 2, 3] ?_
  refine sq ?_
  refine .al hs ?_; clear hs; intro p_b1 w_1 hs n1 kb_b1
  refine sq ?_
  refine .mv ?_
  refine sq ?_
  refine .mv ?_
  refine sq ?_
  refine .mv ?_
  apply wpSq_end
  refine hK1 _ _ ?_
  refine wp_seq_k ?_
  intro K2 hK2
  refine rg [0, 1, 2, 3, 4, 5, 6] ?_
  refine sq ?_
  refine .r4 hs.g0.f4 ?_
  refine sq ?_
  intro K hK
  have k0_1 := kb n1
  replace ha1 := ha1.k k0_1
  replace ha2 := ha2.k k0_1
  go_big_op
  go_fit (normOf_any 0 (.mk' ha1 ha2) (by omega) (by omega) HN.out (by decide))
  rintro e w_2 ⟨rfl, hb_2⟩
  replace hs := hs.bl hb_2
  refine hK _ _ rfl trivial ?_
  clear hK K
  refine sq ?_
  refine .mv ?_
  refine sq ?_
  refine .r0 ?_
  refine sq ?_
  refine .r0 ?_
  refine sq ?_
  refine .mv ?_
  refine sq ?_
  refine .mv ?_
  apply wpSq_end
  refine hK2 _ _ ?_
  refine wp_seq_k ?_
  intro K3 hK3
  refine wp_seq_k ?_
  intro K4 hK4
  refine rg [0, 1] ?_
  refine sq ?_
  refine .mv ?_
  refine sq ?_
  refine .r0 ?_
  apply wpSq_end
  refine hK4 _ _ ?_
  refine cf ?_
  refine wp_skip ?_
  refine hK3 _ _ ?_
  refine wp_seq_k ?_
  intro K5 hK5
  refine wp_seq_k ?_
  intro K6 hK6
  refine rg [0, 1] ?_
  refine sq ?_
  refine .mv ?_
  refine sq ?_
  refine .r0 ?_
  apply wpSq_end
  refine hK6 _ _ ?_
  refine ct ?_
  refine wp_seq_k ?_
  intro K7 hK7
  refine rg [0, 1, 2] ?_
  refine sq ?_
  refine .mv ?_
  refine sq ?_
  refine .mv ?_
  refine sq ?_
  refine .mv ?_
  apply wpSq_end
  refine hK7 _ _ ?_
  refine wp_ret ?_
  try dsimp only [Exit.then, Exit.inBlock]
  refine bodyPost_ret (v := (.tuple #[.int .i64 0, .slice none 0 0, .int .i64 5])) (by simp [results, Tryz.results4, go_sem]) rfl ?_
  exact ⟨rfl, hs.b⟩
end
end Go.Proofs.YthlhekkcjficdaaGreat


/- The law's count and all. -/
namespace Go.Proofs.YthlhekkcjficdaaGreat
open Go Go.RowKit Dig
set_option linter.unusedVariables false
section
variable {w : World} {vb : Value} {x y : Int} {o : Option Addr} {c : Nat} {ps : List (Int × Int × Int)}
end
end Go.Proofs.YthlhekkcjficdaaGreat

