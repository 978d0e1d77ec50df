/- GdetMakes: quotients by one number are summed; what makes a vector is one thing; the contracts, case by case. -/
import Derived.Test.YtcoodkdalblalaaGreatDoorE16ToC7
namespace Go.Proofs.YtcoodkdalblalaaGreatDoor
open Go Go.RowKit Dig
set_option linter.unusedVariables false
section
variable {w w0 : World} {pt pv pn n c h m W k l L : Nat} {odd : Bool} {o : Option Addr} {rs : List Rw} {bs : List En} {F M : Nat → Nat → Int × Int}
theorem pivot_yes (hst : St w0 (ls w0.heap.size 28 1 (.slice o n c) n (rs.map (·.v)) :: bx pt #[.slice o n c, .int .i64 (h : Int), .int .i64 (m : Int), .bool odd] 77 :: (bs ++ rs.map (Rw.e w0.heap.size))) w)
    (kb_bt : Hid (w0.heap.size ≤ pt)) (hd : RD w rs (mkM n W F)) (hh : h ≤ n) (hm : m ≤ W) (hk : k ≤ h) (hk2 : k ≤ m) (hn : n ≤ 1000) (hW : W ≤ 3000000) (hF : ∀ i, k ≤ i → i < h → ∀ j, k ≤ j → j < m → zl l (F i j)) (hl : l ≤ 20000000) (hex : ¬ ∀ i, k ≤ i → i < h → ∀ j, k ≤ j → j < m → F i j = (0, 0)) :
    Calls Tryz.prog 41 #[.pointer (some ⟨pt, 0, none⟩), .int .i64 (k : Int)] w fun e w' => ∃ v rs' F' odd' p i j, e = .returned (.tuple #[v, .bool true]) ∧ PC w' v p.1 p.2 ∧ (k ≤ i ∧ i < h ∧ k ≤ j ∧ j < m ∧ F i j ≠ (0, 0) ∧ F' = (fun r c => F (swr i k r) (swr j k c)) ∧ odd' = xo odd i j k ∧ p = F i j) ∧ rs'.length = n ∧ RD w' rs' (mkM n W F') ∧
      St w0 (ls w0.heap.size 28 1 (.slice o n c) n (rs'.map (·.v)) :: bx pt #[.slice o n c, .int .i64 (h : Int), .int .i64 (m : Int), .bool odd'] 77 :: (bs ++ rs'.map (Rw.e w0.heap.size))) w' ∧ Kp w w' :=
  Calls.mono (pivot_any hst kb_bt hd hh hm hk hk2 hn hW hF hl) fun e w' ⟨v, fd, rs', F', odd', p, h1, h2, h3, h4, h5, h6, h7⟩ => by
    rcases h3 with ⟨rfl, i, j, h8⟩ | ⟨_, _, _, _, h8⟩
    · exact ⟨v, rs', F', odd', p, i, j, h1, h2, h8, h4, h5, h6, h7⟩
    · exact absurd h8 hex
theorem pivot_no (hst : St w0 (ls w0.heap.size 28 1 (.slice o n c) n (rs.map (·.v)) :: bx pt #[.slice o n c, .int .i64 (h : Int), .int .i64 (m : Int), .bool odd] 77 :: (bs ++ rs.map (Rw.e w0.heap.size))) w)
    (kb_bt : Hid (w0.heap.size ≤ pt)) (hd : RD w rs (mkM n W F)) (hh : h ≤ n) (hm : m ≤ W) (hk : k ≤ h) (hk2 : k ≤ m) (hn : n ≤ 1000) (hW : W ≤ 3000000) (hF : ∀ i, k ≤ i → i < h → ∀ j, k ≤ j → j < m → zl l (F i j)) (hl : l ≤ 20000000) (hex : ∀ i, k ≤ i → i < h → ∀ j, k ≤ j → j < m → F i j = (0, 0)) :
    Calls Tryz.prog 41 #[.pointer (some ⟨pt, 0, none⟩), .int .i64 (k : Int)] w fun e w' => ∃ v rs', e = .returned (.tuple #[v, .bool false]) ∧ PC w' v 0 0 ∧ rs'.length = n ∧ RD w' rs' (mkM n W F) ∧
      St w0 (ls w0.heap.size 28 1 (.slice o n c) n (rs'.map (·.v)) :: bx pt #[.slice o n c, .int .i64 (h : Int), .int .i64 (m : Int), .bool odd] 77 :: (bs ++ rs'.map (Rw.e w0.heap.size))) w' ∧ Kp w w' :=
  Calls.mono (pivot_any hst kb_bt hd hh hm hk hk2 hn hW hF hl) fun e w' ⟨v, fd, rs', F', odd', p, h1, h2, h3, h4, h5, h6, h7⟩ => by
    rcases h3 with ⟨rfl, i, j, a1, a2, a3, a4, a5, _⟩ | ⟨rfl, rfl, rfl, rfl, h8⟩
    · exact absurd (hex i a1 a2 j a3 a4) a5
    · exact ⟨v, rs', h1, h2, h4, h5, h6, h7⟩
/-- What the closure reads, in front. -/
theorem adj_front {A0 B C D : En} {bs bs' rr : List En} (hp : bs.Perm ([C, D] ++ bs')) : (A0 :: B :: (bs ++ rr)).Perm (A0 :: B :: C :: D :: (bs' ++ rr)) :=
  List.Perm.cons _ (List.Perm.cons _ (hp.append_right rr))
set_option maxHeartbeats 4000000 in
set_option maxRecDepth 20000 in
theorem pivS_adj (kb_bt : Hid (w0.heap.size ≤ pt)) (hn : n ≤ 64) (hB : MinB (n + n) (n + n) L (brd n M)) (hL : L ≤ 3300000) :
    PivS w0 40 #[] #[.pointer (some ⟨pv, 0, none⟩), .pointer (some ⟨pn, 0, none⟩)] o (n + n) c pt n n (n + n) (QA n M) (FinA n M) [bx pv #[.pointer (some ⟨pt, 0, none⟩)] 57, bx pn #[.int .i64 (n : Int)] 3] := by
  intro k w A F odd rs bs hes hQ hA hl hd hst
  obtain ⟨bs', hp⟩ := hes
  show Calls _ _ #[.int .i64 (k : Int), .pointer (some ⟨pv, 0, none⟩), .pointer (some ⟨pn, 0, none⟩)] w _
  have kk := KpF.r w
  have hst := hst.perm (adj_front hp)
  have HP := hide hp
  have hkn : k ≤ n := hQ.1
  have HB := hide (show ∀ i, k ≤ i → i < n → ∀ j, k ≤ j → j < n → zl L (F i j) from fun i h1 h2 j h3 h4 => by rw [hA i (by omega) j (by omega) h1 h3]; exact hQ.2.1.bd hB (by omega) (by omega) k i (by omega) j (by omega))
  have HA := hide hA
  have HQ := hide hQ
  clear hp hA hQ hB
  by_cases hex : ∀ i, k ≤ i → i < n → ∀ j, k ≤ j → j < n → F i j = (0, 0)
  · have HEX := hide hex
    clear hex
    by_cases hk1 : k + 1 = n
    · have t1 : ((k : Int) == (n : Int) - 1) = true := beq_iff_eq.2 (by omega)
      have HK1 := hide hk1
      clear hk1
      go_enter Tryz.func40, Tryz.ntmps40
      have hs := hst
      clear hst
      refine wp_seq_k ?_
      intro K1 hK1
      refine rg [0, 1] ?_
      refine sq ?_
      refine .al hs ?_; clear hs; intro p_b1 w_1 hs n1 kb_b1
      refine sq ?_
      refine .mv ?_
      apply wpSq_end
      refine hK1 _ _ ?_
      refine wp_seq_k ?_
      intro K2 hK2
      refine rg [0, 1, 2, 3, 4, 5, 6, 7, 8] ?_
      refine sq ?_
      refine .r1 hs.g3.f1 ?_
      refine sq ?_
      refine .mv ?_
      refine sq ?_
      intro K hK
      have k0_1 := kb n1
      replace hd := hd.k k0_1
      go_big_op
      go_fit (pivot_no (bs := bx p_b1 #[.bool false, .slice none 0 0, .bool false, .slice none 0 0] 26 :: bx pv #[.pointer (some ⟨pt, 0, none⟩)] 57 :: bx pn #[.int .i64 (n : Int)] 3 :: bs') (hs.perm ((List.Perm.swap _ _ _).trans (List.Perm.cons _ (List.Perm.swap _ _ _)))) kb_bt hd (by omega) (by omega) hkn hkn (by omega) (by omega) HB.out (by omega) HEX.out)
      have bb2 := hs.b
      rintro e w_2 ⟨_, rs2, rfl, ⟨n_pa, o_pa, k_pa, c_pa, n_pb, o_pb, k_pb, c_pb, rfl, p1, p2⟩, q1, hd2, hs', kp2⟩
      clear hs; have hs := hs'; clear hs'
      have bc2 := hs.b
      clear bb2 bc2
      refine hK _ _ rfl trivial ?_
      clear hK K
      refine sq ?_
      refine .mv ?_
      refine sq ?_
      refine .r0 ?_
      refine sq ?_
      refine .r0 ?_
      refine sq ?_
      refine .al hs ?_; clear hs; intro p_b2 w_3 hs n3 kb_b2
      refine sq ?_
      refine .s4 hs.g0 (fun _ => hs.u0 kb_b2) ?_; clear hs; intro w_4 hs hd4 ho4
      refine sq ?_
      refine .mv ?_
      apply wpSq_end
      refine hK2 _ _ ?_
      refine wp_seq_k ?_
      intro K3 hK3
      refine wp_region_f4 [(0, false), (1, false), (2, false), (3, false), (4, false), (5, false), (6, false), (7, false)] [8, 9] [] (fun _ => default) [0, 99, 99, 99, 1, 99, 99, 99, 99, 99] [] (.c hs.g0 (.c hs.g5 .n)) fn fun w_5 n5 => ?_
      replace hs := hs.bl n5
      refine f4 ?_
      refine fmv ?_
      refine fmv ?_
      refine fmv ?_
      refine f1 ?_
      refine f0 ?_
      refine f0 ?_
      refine f0 ?_
      refine e0 hs ?_; clear hs; intro w_6 hs n6
      refine tl ?_
      refine .s4 hs.g3 (fun _ => hs.u3 kb_b1) ?_ (e := fun _ hs => (And.intro hs.g0 (And.intro hs.g5 True.intro))); clear hs; intro w_7 hs hd7 ho7
      refine tl ?_
      refine .mv ?_ (e := (And.intro hs.g0 (And.intro hs.g5 True.intro)))
      apply wpTail_end
      refine hK3 _ _ ?_
      refine wp_ret ?_
      have k2_7 := ((((kb n3).o hd4 ho4).b n5).b n6).o hd7 ho7
      replace p1 := p1.k k2_7
      replace p2 := p2.k k2_7
      replace hd2 := hd2.k k2_7
      have k0_7 := (((((k0_1.t kp2).b n3).o hd4 ho4).b n5).b n6).o hd7 ho7
      replace kk := kk.k k0_7
      have hk9 := HK1.out
      try dsimp only [Exit.then, Exit.inBlock]
      obtain ⟨r0_0, r0_1, r0_2, r0_3⟩ := hs.g3.f4
      refine bodyPost_ret (v := (.tuple #[.agg #[.bool n_pa, .slice o_pa k_pa c_pa, .bool n_pb, .slice o_pb k_pb c_pb], .bool true])) (by simp [results, Tryz.results40, go_sem, r0_0, r0_1, r0_2, r0_3]) rfl ?_
      exact ⟨_, true, rs2, A, F, odd, (0, 0), rfl, .mk' p1 p2, .inl ⟨rfl, by omega, by omega, ⟨by omega, HQ.out.2.1, HQ.out.2.2.1, fun h => absurd h (by have := HK1.out; omega)⟩, HA.out, (by have h1 := HA.out k (by have := HK1.out; omega) k (by have := HK1.out; omega) (Nat.le_refl _) (Nat.le_refl _); rw [← h1]; exact (HEX.out k (Nat.le_refl _) (by have := HK1.out; omega) k (Nat.le_refl _) (by have := HK1.out; omega)).symm), (HQ.out.2.2.2 (by have := HK1.out; omega)).2.2.1, fun m _ => rfl⟩, q1, hd2, (hs.sub (.cons _ (.cons_cons _ (.cons_cons _ (.cons _ (List.Sublist.refl _)))))).perm (adj_front HP.out).symm, kk.kp⟩
    · have t1 : ((k : Int) == (n : Int) - 1) = false := beq_eq_false_iff_ne.2 (by omega)
      have HK1 := hide hk1
      clear hk1
      go_enter Tryz.func40, Tryz.ntmps40
      have hs := hst
      clear hst
      refine wp_seq_k ?_
      intro K1 hK1
      refine rg [0, 1] ?_
      refine sq ?_
      refine .al hs ?_; clear hs; intro p_b1 w_1 hs n1 kb_b1
      refine sq ?_
      refine .mv ?_
      apply wpSq_end
      refine hK1 _ _ ?_
      refine wp_seq_k ?_
      intro K2 hK2
      refine rg [0, 1, 2, 3, 4, 5, 6, 7, 8] ?_
      refine sq ?_
      refine .r1 hs.g3.f1 ?_
      refine sq ?_
      refine .mv ?_
      refine sq ?_
      intro K hK
      have k0_1 := kb n1
      replace hd := hd.k k0_1
      go_big_op
      go_fit (pivot_no (bs := bx p_b1 #[.bool false, .slice none 0 0, .bool false, .slice none 0 0] 26 :: bx pv #[.pointer (some ⟨pt, 0, none⟩)] 57 :: bx pn #[.int .i64 (n : Int)] 3 :: bs') (hs.perm ((List.Perm.swap _ _ _).trans (List.Perm.cons _ (List.Perm.swap _ _ _)))) kb_bt hd (by omega) (by omega) hkn hkn (by omega) (by omega) HB.out (by omega) HEX.out)
      have bb2 := hs.b
      rintro e w_2 ⟨_, rs2, rfl, ⟨n_pa, o_pa, k_pa, c_pa, n_pb, o_pb, k_pb, c_pb, rfl, p1, p2⟩, q1, hd2, hs', kp2⟩
      clear hs; have hs := hs'; clear hs'
      have bc2 := hs.b
      clear bb2 bc2
      refine hK _ _ rfl trivial ?_
      clear hK K
      refine sq ?_
      refine .mv ?_
      refine sq ?_
      refine .r0 ?_
      refine sq ?_
      refine .r0 ?_
      refine sq ?_
      refine .al hs ?_; clear hs; intro p_b2 w_3 hs n3 kb_b2
      refine sq ?_
      refine .s4 hs.g0 (fun _ => hs.u0 kb_b2) ?_; clear hs; intro w_4 hs hd4 ho4
      refine sq ?_
      refine .mv ?_
      apply wpSq_end
      refine hK2 _ _ ?_
      refine wp_seq_k ?_
      intro K3 hK3
      refine wp_region_f4 [(0, false), (1, false), (2, false), (3, false), (4, false), (5, false), (6, false), (7, false)] [8, 9] [] (fun _ => default) [0, 99, 99, 99, 1, 99, 99, 99, 99, 99] [] (.c hs.g0 (.c hs.g5 .n)) fn fun w_5 n5 => ?_
      replace hs := hs.bl n5
      refine f4 ?_
      refine fmv ?_
      refine fmv ?_
      refine fmv ?_
      refine f1 ?_
      refine f0 ?_
      refine f0 ?_
      refine f0 ?_
      refine e0 hs ?_; clear hs; intro w_6 hs n6
      refine tl ?_
      refine .s4 hs.g3 (fun _ => hs.u3 kb_b1) ?_ (e := fun _ hs => (And.intro hs.g0 (And.intro hs.g5 True.intro))); clear hs; intro w_7 hs hd7 ho7
      refine tl ?_
      refine .mv ?_ (e := (And.intro hs.g0 (And.intro hs.g5 True.intro)))
      apply wpTail_end
      refine hK3 _ _ ?_
      refine wp_ret ?_
      have k2_7 := ((((kb n3).o hd4 ho4).b n5).b n6).o hd7 ho7
      replace p1 := p1.k k2_7
      replace p2 := p2.k k2_7
      replace hd2 := hd2.k k2_7
      have k0_7 := (((((k0_1.t kp2).b n3).o hd4 ho4).b n5).b n6).o hd7 ho7
      replace kk := kk.k k0_7
      have hk9 := HK1.out
      try dsimp only [Exit.then, Exit.inBlock]
      obtain ⟨r0_0, r0_1, r0_2, r0_3⟩ := hs.g3.f4
      refine bodyPost_ret (v := (.tuple #[.agg #[.bool n_pa, .slice o_pa k_pa c_pa, .bool n_pb, .slice o_pb k_pb c_pb], .bool false])) (by simp [results, Tryz.results40, go_sem, r0_0, r0_1, r0_2, r0_3]) rfl ?_
      exact ⟨_, false, rs2, A, F, odd, (0, 0), rfl, .mk' p1 p2, .inr ⟨rfl, (by
        rcases Nat.eq_or_lt_of_le hkn with e | e
        · exact .inl e
        · exact .inr ⟨by have := HK1.out; omega, HQ.out.2.2.2 e, fun i h1 h2 j h3 h4 => by rw [← HA.out i (by omega) j (by omega) h1 h3]; exact HEX.out i h1 h2 j h3 h4⟩), rfl, rfl, rfl⟩, q1, hd2, (hs.sub (.cons _ (.cons_cons _ (.cons_cons _ (.cons _ (List.Sublist.refl _)))))).perm (adj_front HP.out).symm, kk.kp⟩
  · have HEX := hide hex
    clear hex
    go_enter Tryz.func40, Tryz.ntmps40
    have hs := hst
    clear hst
    refine wp_seq_k ?_
    intro K1 hK1
    refine rg [0, 1] ?_
    refine sq ?_
    refine .al hs ?_; clear hs; intro p_b1 w_1 hs n1 kb_b1
    refine sq ?_
    refine .mv ?_
    apply wpSq_end
    refine hK1 _ _ ?_
    refine wp_seq_k ?_
    intro K2 hK2
    refine rg [0, 1, 2, 3, 4, 5, 6, 7, 8] ?_
    refine sq ?_
    refine .r1 hs.g3.f1 ?_
    refine sq ?_
    refine .mv ?_
    refine sq ?_
    intro K hK
    have k0_1 := kb n1
    replace hd := hd.k k0_1
    go_big_op
    go_fit (pivot_yes (bs := bx p_b1 #[.bool false, .slice none 0 0, .bool false, .slice none 0 0] 26 :: bx pv #[.pointer (some ⟨pt, 0, none⟩)] 57 :: bx pn #[.int .i64 (n : Int)] 3 :: bs') (hs.perm ((List.Perm.swap _ _ _).trans (List.Perm.cons _ (List.Perm.swap _ _ _)))) kb_bt hd (by omega) (by omega) hkn hkn (by omega) (by omega) HB.out (by omega) HEX.out)
    have bb2 := hs.b
    rintro e w_2 ⟨_, rs2, F2, odd2, P, pi, pj, rfl, ⟨n_pa, o_pa, k_pa, c_pa, n_pb, o_pb, k_pb, c_pb, rfl, p1, p2⟩, HX, q1, hd2, hs', kp2⟩
    clear hs; have hs := hs'; clear hs'
    have bc2 := hs.b
    clear bb2 bc2
    refine hK _ _ rfl trivial ?_
    clear hK K
    refine sq ?_
    refine .mv ?_
    refine sq ?_
    refine .r0 ?_
    refine sq ?_
    refine .r0 ?_
    refine sq ?_
    refine .al hs ?_; clear hs; intro p_b2 w_3 hs n3 kb_b2
    refine sq ?_
    refine .s4 hs.g0 (fun _ => hs.u0 kb_b2) ?_; clear hs; intro w_4 hs hd4 ho4
    refine sq ?_
    refine .mv ?_
    apply wpSq_end
    refine hK2 _ _ ?_
    refine wp_seq_k ?_
    intro K3 hK3
    refine wp_region_f4 [(0, false), (1, false), (2, false), (3, false), (4, false), (5, false), (6, false), (7, false)] [8, 9] [] (fun _ => default) [0, 99, 99, 99, 1, 99, 99, 99, 99, 99] [] (.c hs.g0 (.c hs.g5 .n)) fn fun w_5 n5 => ?_
    replace hs := hs.bl n5
    refine f4 ?_
    refine fmv ?_
    refine fmv ?_
    refine fk ?_
    refine fk ?_
    refine fk ?_
    refine fk ?_
    refine f0 ?_
    refine e0 hs ?_; clear hs; intro w_6 hs n6
    refine tl ?_
    refine .s4 hs.g3 (fun _ => hs.u3 kb_b1) ?_ (e := fun _ hs => (And.intro hs.g0 (And.intro hs.g5 True.intro))); clear hs; intro w_7 hs hd7 ho7
    refine tl ?_
    refine .mv ?_ (e := (And.intro hs.g0 (And.intro hs.g5 True.intro)))
    apply wpTail_end
    refine hK3 _ _ ?_
    refine wp_ret ?_
    obtain ⟨hi, hi2, hj, hj2, h0, rfl, rfl, rfl⟩ := HX
    have k2_7 := ((((kb n3).o hd4 ho4).b n5).b n6).o hd7 ho7
    replace p1 := p1.k k2_7
    replace p2 := p2.k k2_7
    replace hd2 := hd2.k k2_7
    have k0_7 := (((((k0_1.t kp2).b n3).o hd4 ho4).b n5).b n6).o hd7 ho7
    replace kk := kk.k k0_7
    have e1 := HA.out pi (by omega) pj (by omega) hi hj
    have h9 : Dt.D k A pi pj ≠ 0 := by rw [← e1]; exact h0
    try dsimp only [Exit.then, Exit.inBlock]
    obtain ⟨r0_0, r0_1, r0_2, r0_3⟩ := hs.g3.f4
    refine bodyPost_ret (v := (.tuple #[.agg #[.bool n_pa, .slice o_pa k_pa c_pa, .bool n_pb, .slice o_pb k_pb c_pb], .bool true])) (by simp [results, Tryz.results40, go_sem, r0_0, r0_1, r0_2, r0_3]) rfl ?_
    exact ⟨_, true, rs2, (fun r c => A (swr pi k r) (swr pj k c)), _, _, F pi pj, rfl, .mk' p1 p2, .inl ⟨rfl, by omega, by omega, HQ.out.next hi hi2 hj hj2 h9, HA.out.next hi (by omega) hj (by omega), (by rw [D_swr hi hj, swr_k, swr_k]; exact e1), (by rw [det_swr hi hj (Nat.le_refl _)]; exact (HQ.out.2.2.2 (by omega)).2.2.1), fun s hs => det_swr hi hj hs⟩, q1, hd2, (hs.sub (.cons _ (.cons_cons _ (.cons_cons _ (.cons _ (List.Sublist.refl _)))))).perm (adj_front HP.out).symm, kk.kp⟩
set_option maxRecDepth 20000 in
theorem entP_adj : EntP 40 #[] #[.pointer (some ⟨pv, 0, none⟩), .pointer (some ⟨pn, 0, none⟩)] := fun _ _ => by kernel_rfl
end
section
variable {w0 w : World} {v u x : Value} {m n p q K J : Nat} {rs ts r1 r2 s1 s2 : List Rw} {Cs : List En} {xs xs' ys : List Value} {Ms Ns : List (List (Int × Int))}
theorem perm2a {α : Type} {a b : α} {cs ts rs : List α} : (a :: (cs ++ b :: (ts ++ rs))).Perm (b :: ((a :: (cs ++ rs)) ++ ts)) := by
  refine (List.Perm.cons _ List.perm_middle).trans ((List.Perm.swap _ _ _).trans (List.Perm.cons _ (List.Perm.cons _ ?_)))
  show (cs ++ (ts ++ rs)).Perm ((cs ++ rs) ++ ts)
  rw [List.append_assoc]
  exact List.Perm.append_left _ List.perm_append_comm
theorem perm2b {α : Type} {a b c : α} {cs ss rs : List α} : (c :: b :: ((a :: (cs ++ rs)) ++ ss)).Perm (a :: ((c :: b :: (cs ++ ss)) ++ rs)) := by
  refine (List.Perm.cons _ (List.Perm.swap _ _ _)).trans ((List.Perm.swap _ _ _).trans (List.Perm.cons _ (List.Perm.cons _ (List.Perm.cons _ ?_))))
  show ((cs ++ rs) ++ ss).Perm ((cs ++ ss) ++ rs)
  rw [List.append_assoc, List.append_assoc]
  exact List.Perm.append_left _ List.perm_append_comm
theorem St.row2c (hs : St w0 (ls w0.heap.size 28 1 v m (rs.map (·.v)) :: (Cs ++ ls w0.heap.size 28 1 u n (ts.map (·.v)) :: (ts.map (Rw.e w0.heap.size) ++ rs.map (Rw.e w0.heap.size)))) w)
    (hd : RD w rs Ms) (hp : p < Ms.length) (hK : Ms[p].length = K) (h0 : 0 < K) (he : RD w ts Ns) (hq : q < Ns.length) (hJ : Ns[q].length = J) (h1 : 0 < J) :
    ∃ r1 g c xs r2 s1 h d ys s2, rs = r1 ++ (⟨.slice (some ⟨g, 0, none⟩) K c, K, xs⟩ : Rw) :: r2 ∧ r1.length = p ∧ (rs.map (·.v))[p]? = some (.slice (some ⟨g, 0, none⟩) K c) ∧ GD w xs Ms[p] ∧
      ts = s1 ++ (⟨.slice (some ⟨h, 0, none⟩) J d, J, ys⟩ : Rw) :: s2 ∧ s1.length = q ∧ (ts.map (·.v))[q]? = some (.slice (some ⟨h, 0, none⟩) J d) ∧ GD w ys Ns[q] ∧
      St w0 (ls w0.heap.size 26 4 (.slice (some ⟨g, 0, none⟩) K c) K xs :: ls w0.heap.size 28 1 v m (rs.map (·.v)) :: ls w0.heap.size 26 4 (.slice (some ⟨h, 0, none⟩) J d) J ys :: ls w0.heap.size 28 1 u n (ts.map (·.v)) :: (Cs ++ (s1 ++ s2).map (Rw.e w0.heap.size) ++ (r1 ++ r2).map (Rw.e w0.heap.size))) w := by
  obtain ⟨s1, h, d, ys, s2, e1, e2, e3, e4, hs2⟩ := (hs.perm perm2a).row he hq hJ h1
  obtain ⟨r1, g, c, xs, r2, f1, f2, f3, f4, hs4⟩ := (hs2.perm perm2b).row hd hp hK h0
  exact ⟨r1, g, c, xs, r2, s1, h, d, ys, s2, f1, f2, f3, f4, e1, e2, e3, e4, hs4⟩
theorem St.unrow2c {y : Value} (hs : St w0 (ls w0.heap.size 26 4 x K xs' :: ls w0.heap.size 28 1 v m ((r1 ++ (⟨x, K, xs⟩ : Rw) :: r2).map (·.v)) :: ls w0.heap.size 26 4 y J ys :: ls w0.heap.size 28 1 u n ((s1 ++ (⟨y, J, ys⟩ : Rw) :: s2).map (·.v)) :: (Cs ++ (s1 ++ s2).map (Rw.e w0.heap.size) ++ (r1 ++ r2).map (Rw.e w0.heap.size))) w) :
    St w0 (ls w0.heap.size 28 1 v m ((r1 ++ (⟨x, K, xs'⟩ : Rw) :: r2).map (·.v)) :: (Cs ++ ls w0.heap.size 28 1 u n ((s1 ++ (⟨y, J, ys⟩ : Rw) :: s2).map (·.v)) :: ((s1 ++ (⟨y, J, ys⟩ : Rw) :: s2).map (Rw.e w0.heap.size) ++ (r1 ++ (⟨x, K, xs'⟩ : Rw) :: r2).map (Rw.e w0.heap.size)))) w := by
  have hs1 := St.unrow (bs := ls w0.heap.size 26 4 y J ys :: ls w0.heap.size 28 1 u n ((s1 ++ (⟨y, J, ys⟩ : Rw) :: s2).map (·.v)) :: (Cs ++ (s1 ++ s2).map (Rw.e w0.heap.size))) hs
  have hs3 := St.unrow (bs := ls w0.heap.size 28 1 v m ((r1 ++ (⟨x, K, xs'⟩ : Rw) :: r2).map (·.v)) :: (Cs ++ (r1 ++ (⟨x, K, xs'⟩ : Rw) :: r2).map (Rw.e w0.heap.size))) (hs1.perm perm2b.symm)
  exact hs3.perm perm2a.symm
end
/-- A block or a list of the call's own, of another type than ty0. -/
def Typ (ty0 : TypeId) (e : En) : Prop := (∃ p cs ty, e = bx p cs ty ∧ ty ≠ ty0) ∨ ∃ B ty sz v n xs, e = ls B ty sz v n xs ∧ ty ≠ ty0
def AllT (ty0 : TypeId) (bs : List En) : Prop := ∀ e ∈ bs, Typ ty0 e
section
variable {ty0 : TypeId} {bs cs : List En}
theorem AllT.bx {p : Nat} {xs : Array Value} {ty : TypeId} (h : AllT ty0 bs) (hn : ty ≠ ty0 := by decide) : AllT ty0 (Go.Proofs.YtcoodkdalblalaaGreatDoor.bx p xs ty :: bs) := fun e he => by
  rcases List.mem_cons.1 he with rfl | he
  · exact .inl ⟨_, _, _, rfl, hn⟩
  · exact h e he
theorem AllT.ls {B sz n : Nat} {v : Value} {xs : List Value} {ty : TypeId} (h : AllT ty0 bs) (hn : ty ≠ ty0 := by decide) : AllT ty0 (Go.Proofs.YtcoodkdalblalaaGreatDoor.ls B ty sz v n xs :: bs) := fun e he => by
  rcases List.mem_cons.1 he with rfl | he
  · exact .inr ⟨_, _, _, _, _, _, rfl, hn⟩
  · exact h e he
theorem AllT.app (h : AllT ty0 bs) (h2 : AllT ty0 cs) : AllT ty0 (bs ++ cs) := fun e he => (List.mem_append.1 he).elim (h e) (h2 e)
theorem AllT.rows {B : Nat} {rs : List Rw} (hn : 26 ≠ ty0 := by decide) : AllT ty0 (rs.map (Rw.e B)) := fun e he => by
  obtain ⟨r, _, rfl⟩ := List.mem_map.1 he
  exact .inr ⟨_, _, _, _, _, _, rfl, hn⟩
theorem Typ.blk {e : En} {w : World} {k : Nat} (h : Typ ty0 e) (x : Ok e w) (hk : e.1 = some k) : ∃ cur ty fz, w.heap[k]? = some (.cells cur ty fz) ∧ ty ≠ ty0 := by
  rcases h with ⟨p, cs, ty, rfl, hn⟩ | ⟨B, ty, sz, v, n, xs, rfl, hn⟩
  · obtain rfl : p = k := Option.some.inj hk
    have y : Bs w p cs ty := x.1
    exact ⟨_, _, _, y, hn⟩
  · have L : Lst w B ty sz v n xs := x.1
    rcases L.1.2 with ⟨rfl, _⟩ | ⟨g, cap, cur, rfl, _, hg, _⟩
    · cases hk
    · obtain rfl : g = k := Option.some.inj hk
      exact ⟨_, _, _, hg, hn⟩
end
section
variable {P : Program} {l : List Oper} {Q : Act → World → Prop} {a : Act} {w w0 : World} {o : Oper} {k : Nat} {C : World → Prop} {ob : Nat → Obj} {B : Nat} {Gs : List (World → Prop)} {CL : List Nat} {bad : List (Nat × Nat)} {bs : List En}
theorem e1t {j0 : Nat} {cs0 : Array Value} {ty0 : TypeId} {a' : Nat → Act} (hs : St w0 bs w) (hl : AllT ty0 bs) (hk : w0.heap.size ≤ B)
    (h : ∀ w' p0, St w0 (bx p0 cs0 ty0 :: bs) w' → Below w.heap.size w w' → Hid (w0.heap.size ≤ p0) → Q (a' p0) w')
    (ha : ∀ p0, putF l (fun j => some (p0)) [j0] a = a' p0 := by intro p0; simp only [putF, nthO, Act.put, ptr, List.setIfInBounds_toArray, List.set_cons_succ, List.set_cons_zero, if_true, if_false, eq_self, Nat.reduceEqDiff, reduceIte]; rfl) (ho0 : ob j0 = .cells cs0 ty0 := by rfl) (hnd : [j0].Nodup := by decide) : wpFl P l C Gs CL ob [j0] B Q [] a w := by
  refine wpFl_end (a' := fun pt => a' (pt j0)) (fun pt => ?_) fun w' pt hb _ hF hD => ?_
  · rw [← ha]
    refine putF_congr fun j hj => ?_
    simp only [List.mem_cons, List.not_mem_nil, or_false] at hj
    congr 1
    rw [hj]
  · have y0 : Bs w' (pt j0) cs0 ty0 := by have := (hF j0 (by simp)).2; rw [ho0] at this; exact this
    have hx : ∀ j ∈ [j0], ∀ f ∈ bs.map (·.1), ∀ k, some (pt j) = some k → f ≠ some k := fun j hj f hf k hk2 hc => by
      have ej : j = j0 := by simpa using hj
      subst ej
      obtain ⟨e, he, rfl⟩ := List.mem_map.1 hf
      have key : ∀ {l : List En}, AllE l w → ∀ e ∈ l, Ok e w := by
        intro l
        induction l with
        | nil => intro _ e he; cases he
        | cons a t ih => intro h e he; rcases List.mem_cons.1 he with rfl | he; exact h.1; exact ih h.2 e he
      obtain ⟨cur, ty, fz, h1, h2⟩ := (hl e he).blk (key hs.1 _ he) hc
      have h3 : w'.heap[k]? = some (.cells cur ty fz) := by rw [hb.block k (hs.lt _ (List.mem_map_of_mem he) k hc)]; exact h1
      obtain rfl : pt j = k := Option.some.inj hk2
      have h4 : w'.heap[pt j]? = some (.cells cs0 ty0 (0, 0)) := y0
      rw [h4] at h3
      simp only [Option.some.injEq, Obj.cells.injEq] at h3
      exact h2 h3.2.1.symm
    have k0 := Nat.le_trans hk (hF j0 (by simp)).1
    have s0 : St w0 (bx (pt j0) cs0 ty0 :: bs) w' := .cons (.bx y0) (hx j0 (by simp)) (hs.bl hb)
    exact h w' (pt j0) s0 hb k0
end
set_option linter.unusedSimpArgs false
theorem perm5 {α : Type} {a b c d e : α} {t z : List α} : (a :: b :: c :: d :: e :: (t ++ z)).Perm (c :: d :: a :: e :: b :: (z ++ t)) := by
  let f : Nat → α := fun i => if i = 0 then a else if i = 1 then b else if i = 2 then c else if i = 3 then d else e
  exact List.Perm.append (l₁ := [a, b, c, d, e]) (l₂ := [c, d, a, e, b]) ((show [0, 1, 2, 3, 4].Perm [2, 3, 0, 4, 1] by decide).map f) List.perm_append_comm
theorem perm5b {α : Type} {a b c d e : α} {t z : List α} : (a :: b :: c :: d :: e :: (t ++ z)).Perm (e :: b :: c :: d :: a :: (z ++ t)) := by
  let f : Nat → α := fun i => if i = 0 then a else if i = 1 then b else if i = 2 then c else if i = 3 then d else e
  exact List.Perm.append (l₁ := [a, b, c, d, e]) (l₂ := [e, b, c, d, a]) ((show [0, 1, 2, 3, 4].Perm [4, 1, 2, 3, 0] by decide).map f) List.perm_append_comm
theorem at2_one2 {n i j : Nat} (hi : i < n) (hj : j < n) : at2 (mkM n n one2) i j = Dt.one i j := by rw [at2_mkM hi hj]; rfl
section
variable {w : World} {la n L ca : Nat} {oa : Option Addr} {A : List (List (Int × Int))}
set_option maxHeartbeats 8000000 in
set_option maxRecDepth 20000 in
theorem adjugate_ok (ha : MN la w oa A) (hna : A.length = n) (h : gd A) (hk : wd A = n) (hB : MinB (n + n) (n + n) L (brd n (at2 A))) (hL : L ≤ 3300000) (hla : la ≤ 9000000) :
    Calls Tryz.prog 13 #[.slice oa n ca] w fun e w' => ∃ o c rs, e = .returned (.tuple #[.slice o n c, .int .i64 0]) ∧ rs.length = n ∧ St w (Mx w.heap.size (.slice o n c) rs) w' ∧ RD w' rs (mkM n n (adjE n (at2 A))) ∧ Below w.heap.size w w' := by
  have HA := hide ha
  have H := hide h
  have HK := hide hk
  have HB := hide hB
  have hn64 : n ≤ 64 := by have := h.1; omega
  have ES : decide (n = n) = true := decide_eq_true rfl
  have B1 := hide (show BdM (la + 1) (mkM n n one2) from bdM_mk fun i _ j _ => zl_one2 _ _ _)
  have HR1 := hide (show ∀ i, i < n → (rw_ (mkM n n one2) i).length = n from fun i hi => by simp [rw_, mkM, List.getD, hi])
  have HBD := hide (fun k B9 odd (hq : QA n (at2 A) k B9 odd) => fun m (_ : m ≤ k) i (hi : i < n + n) j (hj : j < n + n) => hq.2.1.bd hB (by omega) (by omega) m i hi j hj)
  have HAG := hide (show Agr (n + n) (n + n) 0 (brd n (at2 A)) (brd n (at2 A)) from fun i _ j _ _ _ => Dt.D_0.symm)
  have EB := hide (show mkM (n + n) (n + n) (brdG n n (at2 A) (at2 (mkM n n one2))) = mkM (n + n) (n + n) (brd n (at2 A)) from mkM_eq rfl rfl fun i hi j hj => by
    unfold brdG brd
    by_cases c : i < n
    · rw [if_pos c, if_pos c]
    · rw [if_neg c, if_neg c]
      by_cases e : j < n
      · rw [if_pos e, if_pos e, at2_one2 (by omega) e]
      · rw [if_neg e, if_neg e])
  clear ha h hk hB
  go_enter Tryz.func13, Tryz.ntmps13
  have hs := St.nil w
  refine wp_seq_k ?_
  intro K1 hK1
  refine rg [0, 1] ?_
  refine sq ?_
  refine .mv ?_
  refine sq ?_
  refine .mv ?_
  apply wpSq_end
  refine hK1 _ _ ?_
  refine wp_seq_k ?_
  intro K2 hK2
  refine wp_seq_k ?_
  intro K3 hK3
  refine rg [0, 1, 2] ?_
  refine sq ?_
  refine .mv ?_
  refine sq ?_
  intro K hK
  have hb := hs.b
  go_big_op
  go_fit (isSquare_ok (HA.out.bl stab_n hb) hna H.out HK.out)
  rintro e w_1 ⟨rfl, hb_1⟩
  clear hb
  replace hs := hs.bl hb_1
  rw [ES]
  refine hK _ _ rfl trivial ?_
  clear hK K
  refine sq ?_
  refine .r0 ?_
  apply wpSq_end
  refine hK3 _ _ ?_
  refine cf ?_
  refine wp_skip ?_
  refine hK2 _ _ ?_
  refine wp_seq_k ?_
  intro K4 hK4
  refine rg [0, 1, 2, 3] ?_
  refine sq ?_
  refine .mv ?_
  refine sq ?_
  refine .r0 ?_
  refine sq ?_
  refine .al hs ?_; clear hs; intro p_b1 w_2 hs n2 kb_b1
  refine sq ?_
  refine .s1 hs.g0 (fun _ => hs.u0 kb_b1) ?_; clear hs; intro w_3 hs hd3 ho3
  apply wpSq_end
  refine hK4 _ _ ?_
  refine wp_seq_k ?_
  intro K5 hK5
  refine rg [0, 1, 2, 3, 4, 5, 6] ?_
  refine sq ?_
  refine .r1 hs.g0.f1 ?_
  refine sq ?_
  intro K hK
  go_big_op
  go_fit (mIdent_ok hn64)
  rintro e w_4 ⟨o_I, c_I, rs_I, rfl, hl_I, hs_I, d_I, hb_4⟩
  replace hs := hs.mx hl_I hs_I; simp only [List.cons_append, List.nil_append] at hs
  refine hK _ _ rfl trivial ?_
  clear hK K
  refine sq ?_
  refine .mv ?_
  refine sq ?_
  refine .r0 ?_
  refine sq ?_
  refine .r0 ?_
  refine sq ?_
  refine .mv ?_
  refine sq ?_
  refine .mv ?_
  apply wpSq_end
  refine hK5 _ _ ?_
  refine wp_seq_k ?_
  intro K6 hK6
  refine wp_region_f4 [(0, false), (1, false), (3, false), (4, false), (2, true), (5, true)] [7, 8] [6] (fun j => (.cells #[.pointer none] 57)) [99, 99, 99, 0, 0, 99, 99, 99, 99] [] (.c hs.g1 .n) (fm fn) fun w_5 n5 => ?_
  replace hs := hs.bl n5
  have hlB := hs.lt; have hkB := hs.k
  refine fmv ?_
  refine fmv ?_
  refine f1 ?_
  refine f1 ?_
  refine fl fun w_6 n6 => ?_
  replace hs := hs.bl n6
  intro K hK
  have k4_6 := (kb n5).b n6
  replace d_I := d_I.k k4_6
  go_big_op
  go_fit (bordered_new (la := la) (lb := la + 1) (B := mkM n n one2) hs HA.out hna H.out HK.out ((MCof (c := c_I) hs (by simp) rfl (fun r hr ↦ by simp [List.mem_map_of_mem hr]) hl_I d_I).mn B1.out) len_mkM HR1.out (fun _ ↦ rfl) (by omega) (by omega) (by omega) (by omega))
  have bb7 := hs.b
  rintro e w_7 ⟨p_t, o_t, c_t, rs_t, rfl, kb_bt, hl_t, hd, HBL, hs', kp7⟩
  clear hs; have hs := hs'; clear hs'
  have bc7 := hs.b
  clear bb7 bc7
  rw [EB.out] at hd
  refine hK _ _ rfl ⟨HBL, (And.intro hs.g3 trivial)⟩ ?_
  clear hK K
  refine fl fun w_8 n8 => ?_
  replace hs := hs.bl n8
  intro K hK
  go_big_op
  go_fit (blank_any (r := n) (k := n) (by omega) (by omega))
  rintro e w_9 ⟨o_Z, c_Z, rs_Z, rfl, hl_Z, hs_Z, d_Z, hb_9⟩
  replace hs := hs.mx hl_Z hs_Z; simp only [List.cons_append, List.nil_append] at hs
  refine hK _ _ rfl ⟨hb_9, (And.intro hs.g4 trivial)⟩ ?_
  clear hK K
  refine e1t hs ((show AllT 57 _ from .ls (.ls (.bx (.ls (.bx (.app (.app .rows .rows) .rows))))))) hkB ?_; clear hs hlB hkB; intro w_10 p_b2 hs n10 kb_b2
  refine tl ?_
  refine .s1 hs.g0 (fun _ => hs.u0 kb_b2) ?_ (e := fun _ hs => (And.intro hs.g5 True.intro)); clear hs; intro w_11 hs hd11 ho11
  refine tl ?_
  refine .mv ?_ (e := (And.intro hs.g5 True.intro))
  apply wpTail_end
  refine hK6 _ _ ?_
  refine wp_seq_k ?_
  intro K7 hK7
  refine rg [0, 1, 2, 3, 4, 5, 6] ?_
  refine sq ?_
  refine .r1 hs.g0.f1 ?_
  refine sq ?_
  refine .r0 ?_
  refine sq ?_
  refine .r0 ?_
  refine sq ?_
  refine .r4 hs.g3.f4 ?_
  refine sq ?_
  refine .r0 ?_
  have hs : St w (ls w.heap.size 28 1 (.slice o_t (n + n) c_t) (n + n) (rs_t.map (·.v)) :: bx p_t #[.slice o_t (n + n) c_t, .int .i64 (n : Int), .int .i64 (n : Int), .bool false] 77 :: ((bx p_b2 #[.pointer (some ⟨p_t, 0, none⟩)] 57 :: bx p_b1 #[.int .i64 (n : Int)] 3 :: ls w.heap.size 28 1 (.slice o_Z n c_Z) n (rs_Z.map (·.v)) :: rs_Z.map (Rw.e w.heap.size)) ++ rs_t.map (Rw.e w.heap.size))) w_11 := (hs.sub (.cons_cons _ (.cons_cons _ (.cons_cons _ (.cons_cons _ (.cons _ (.cons_cons _ (List.Sublist.append (List.sublist_append_right _ _) (List.Sublist.refl _))))))))).perm perm5
  refine sq ?_
  intro K hK
  have k7_11 := (((kb n8).b hb_9).b n10).o hd11 ho11
  replace hd := hd.k k7_11
  go_big_op
  go_fit (eliminate_any (bs := bx p_b2 #[.pointer (some ⟨p_t, 0, none⟩)] 57 :: bx p_b1 #[.int .i64 (n : Int)] 3 :: ls w.heap.size 28 1 (.slice o_Z n c_Z) n (rs_Z.map (·.v)) :: rs_Z.map (Rw.e w.heap.size)) hs kb_bt entP_adj (pivS_adj kb_bt hn64 HB.out hL) ⟨_, List.Perm.refl _⟩ QA.zero HAG.out hl_t hd (by omega) (by omega) HBD.out hL)
  have bb12 := hs.b
  rintro e w_12 ⟨o9, c9, xs, r, A2, F2, odd2, rs2, rfl, hF, hQ, hL9, hA2, hl2, hd2, hs', kp12⟩
  clear hs; have hs := hs'; clear hs'
  have bc12 := hs.b
  clear bb12 bc12
  refine hK _ _ rfl trivial ?_
  clear hK K
  refine sq ?_
  refine .mv ?_
  apply wpSq_end
  refine hK7 _ _ ?_
  refine wp_seq_k ?_
  intro K8 hK8
  refine wp_seq_k ?_
  intro K9 hK9
  refine rg [0, 1, 2, 3] ?_
  refine sq ?_
  refine .mv ?_
  refine sq ?_
  refine .r0 ?_
  refine sq ?_
  refine .r1 hs.g4.f1 ?_
  refine sq ?_
  refine .r0 ?_
  apply wpSq_end
  refine hK9 _ _ ?_
  have HF := hide hF
  have HQ := hide hQ
  have HA2 := hide hA2
  have HADJ := hide (fun i j (hi : i < n) (hj : j < n) => hF.adj hQ hi hj)
  have hrn := hQ.1
  obtain ⟨G, hG⟩ : ∃ G, G = adjE n (at2 A) := ⟨_, rfl⟩
  rw [← hG] at HADJ
  have HG := hide hG
  clear hF hQ hA2
  by_cases hr : r = n
  · have HRN := hide hr
    have hge : n ≤ r := by omega
    clear hr hrn
    have HBF := hide (show ∀ i, i < n → ∀ j, j < n → zl L (F2 (n + i) (n + j)) from fun i hi j hj => by
      rw [HA2.out (n + i) (by omega) (n + j) (by omega) (by have := HRN.out; omega) (by have := HRN.out; omega)]
      exact HQ.out.2.1.bd HB.out (by omega) (by omega) _ _ (by omega) _ (by omega))
    have HGF := hide (show ∀ i, i < n → ∀ j, j < n → G i j = sgb odd2 (-(F2 (n + i) (n + j)).1, -(F2 (n + i) (n + j)).2) from fun i hi j hj => by
      have h1 := (HADJ.out i j hi hj).1 HRN.out
      rw [HA2.out (n + i) (by omega) (n + j) (by omega) (by have := HRN.out; omega) (by have := HRN.out; omega), HRN.out]
      exact h1)
    refine cf ?_
    refine wp_skip ?_
    refine hK8 _ _ ?_
    refine wp_seq_k ?_
    intro K10 hK10
    refine wp_seq_k ?_
    intro K11 hK11
    refine rg [0, 1, 2] ?_
    refine sq ?_
    refine .mv ?_
    refine sq ?_
    refine .r0 ?_
    refine sq ?_
    refine .mv ?_
    apply wpSq_end
    refine hK11 _ _ ?_
    refine wp_block ?_
    have k9_12 := ((kb n10).o hd11 ho11).t kp12
    replace d_Z := d_Z.k k9_12
    have hs := (hs.sub (.cons _ (List.Sublist.refl _))).perm (show List.Perm (_ :: _ :: _ :: _ :: _ :: (rs_Z.map (Rw.e w.heap.size) ++ rs2.map (Rw.e w.heap.size))) _ from perm5b)
    have hd13 := hs.2.1
    go_loopg [42] n (fun kz s42 wr => ∃ (i : Nat) (rs : List Rw), s42 = .int .i64 (i : Int) ∧ i + kz = n ∧ rs.length = n ∧ RD wr rs (mkM n n (fi G i 0)) ∧ RD wr rs2 (mkM (n + n) (n + n) F2) ∧ St w (ls w.heap.size 28 1 (.slice o_Z n c_Z) n (rs.map (·.v)) :: ((bx p_t #[.slice o_t (n + n) c_t, .int .i64 (n : Int), .int .i64 (n : Int), .bool odd2] 77 :: bx p_b2 #[.pointer (some ⟨p_t, 0, none⟩)] 57 :: bx p_b1 #[.int .i64 (n : Int)] 3 :: []) ++ ls w.heap.size 28 1 (.slice o_t (n + n) c_t) (n + n) (rs2.map (·.v)) :: (rs2.map (Rw.e w.heap.size) ++ rs.map (Rw.e w.heap.size)))) wr)
    case atStart => exact ⟨0, rs_Z, rfl, by omega, hl_Z, by rw [← fi_0]; exact d_Z, hd2, hs⟩
    case round =>
    clear hd d_Z hL9 hd2 d_I hs
    obtain ⟨i, rs, rfl, hin, hrl, hd, hd2, hs⟩ := hrel
    have HO := ‹∀ (a' : Act) (w' : World), Handed _ _ a' w' → _›
    obtain ⟨g1, hg1⟩ : ∃ g, gk = g := ⟨_, rfl⟩
    by_cases hi : i < n
    · have HI := hide hi
      have t3 : ((i : Int) < (n : Int)) = True := eq_true (by omega)
      obtain ⟨oi, ci, hvi⟩ := St.rowv (bs := (bx p_t #[.slice o_t (n + n) c_t, .int .i64 (n : Int), .int .i64 (n : Int), .bool odd2] 77 :: bx p_b2 #[.pointer (some ⟨p_t, 0, none⟩)] 57 :: bx p_b1 #[.int .i64 (n : Int)] 3 :: []) ++ ls w.heap.size 28 1 (.slice o_t (n + n) c_t) (n + n) (rs2.map (·.v)) :: rs2.map (Rw.e w.heap.size)) (by rw [List.append_assoc, List.cons_append]; exact hs) hd (p := i) (K := n) (by rw [len_mkM]; exact hi) (by rw [mkM_row hi]; simp)
      have LO : Lst wr w.heap.size 28 1 (.slice o_Z n c_Z) n _ := hs.1.1.1
      obtain ⟨gZ, curZ, rfl, xZ, hcZ⟩ := LO.box (by omega)
      have eI := hcZ _ _ hvi
      clear LO hcZ
      refine wp_seq_k ?_
      intro K12 hK12
      refine rg [0] ?_
      refine sq ?_
      refine .r0 ?_
      apply wpSq_end
      refine hK12 _ _ ?_
      refine wp_seq_k ?_
      intro K13 hK13
      refine ct ?_
      refine wp_skip ?_
      refine hK13 _ _ ?_
      refine wp_seq_k ?_
      intro K14 hK14
      refine wp_block ?_
      refine wp_seq_k ?_
      intro K15 hK15
      refine rg [0, 1, 2, 3, 4] ?_
      refine sq ?_
      refine .mv ?_
      refine sq ?_
      refine .r0 ?_
      refine sq ?_
      refine .r1 (xZ.cell _ eI) ?_
      refine sq ?_
      refine .mv ?_
      refine sq ?_
      refine .mv ?_
      apply wpSq_end
      refine hK15 _ _ ?_
      refine wp_seq_k ?_
      intro K16 hK16
      refine rg [0, 1, 2] ?_
      refine sq ?_
      refine .mv ?_
      refine sq ?_
      refine .r0 ?_
      refine sq ?_
      refine .mv ?_
      apply wpSq_end
      refine hK16 _ _ ?_
      refine wp_block ?_
      have hd14 := hs.2.1
      go_loopg [49] n (fun kz s49 wr => ∃ (j : Nat) (rs : List Rw), s49 = .int .i64 (j : Int) ∧ j + kz = n ∧ rs.length = n ∧ RD wr rs (mkM n n (fi G i j)) ∧ (rs.map (·.v))[i]? = some (.slice oi n ci) ∧ RD wr rs2 (mkM (n + n) (n + n) F2) ∧ St w (ls w.heap.size 28 1 (.slice (some ⟨gZ, 0, none⟩) n c_Z) n (rs.map (·.v)) :: ((bx p_t #[.slice o_t (n + n) c_t, .int .i64 (n : Int), .int .i64 (n : Int), .bool odd2] 77 :: bx p_b2 #[.pointer (some ⟨p_t, 0, none⟩)] 57 :: bx p_b1 #[.int .i64 (n : Int)] 3 :: []) ++ ls w.heap.size 28 1 (.slice o_t (n + n) c_t) (n + n) (rs2.map (·.v)) :: (rs2.map (Rw.e w.heap.size) ++ rs.map (Rw.e w.heap.size)))) wr)
      case atStart => exact ⟨0, rs, rfl, by omega, hrl, hd, hvi, hd2, hs⟩
      case round =>
      clear hrl hvi
      clear hd hd2 xZ hs
      obtain ⟨j, rs, rfl, hjn, hrl, hd, hri, hd2, hs⟩ := hrel
      have HRI := hide hri
      clear hri
      by_cases hj : j < n
      · have HJ := hide hj
        have t4 : ((j : Int) < (n : Int)) = True := eq_true (by omega)
        obtain ⟨r1, gr, cr, ys, r2, s1, gs, cs, zs, s2, er, hr1, hrv, hx, es, hs1, hsv, hy, hs⟩ := hs.row2c (Cs := bx p_t #[.slice o_t (n + n) c_t, .int .i64 (n : Int), .int .i64 (n : Int), .bool odd2] 77 :: bx p_b2 #[.pointer (some ⟨p_t, 0, none⟩)] 57 :: bx p_b1 #[.int .i64 (n : Int)] 3 :: []) hd (p := i) (K := n) (by rw [len_mkM]; exact HI.out) (by rw [mkM_row HI.out]; simp) (by omega) hd2 (q := n + i) (J := n + n) (by rw [len_mkM]; have := HI.out; omega) (by rw [mkM_row (by have := HI.out; omega)]; simp) (by omega)
        have hri := HRI.out
        rw [hrv] at hri
        simp only [Option.some.injEq, Value.slice.injEq, true_and] at hri
        obtain ⟨rfl, rfl⟩ := hri
        have ES := hide es
        subst er
        have LT9 : Lst wr w.heap.size 28 1 (.slice o_t (n + n) c_t) (n + n) _ := hs.1.2.2.2.1.1
        obtain ⟨gT, curT, rfl, xT, hcT⟩ := LT9.box (by omega)
        have eT := hcT _ _ hsv
        have LS : Lst wr w.heap.size 26 4 (.slice (some ⟨gs, 0, none⟩) (n + n) cs) (n + n) zs := hs.1.2.2.1.1
        obtain ⟨gs', curS, eS, xS, hcS⟩ := LS.box (by omega)
        simp only [Option.some.injEq, Addr.mk.injEq, and_true] at eS
        obtain rfl : gs = gs' := eS
        rw [mkM_row (by have := HI.out; omega)] at hy
        obtain ⟨a1, a2, a3, a4, a5, a6, a7, a8, ee1, ee2, ee3, ee4, x1, x2⟩ := hy.els (n + j) (by simpa using hj)
        rw [show ((List.range (n + n)).map (F2 (n + i)))[n + j]'(by simpa using hj) = F2 (n + i) (n + j) by simp] at x1 x2
        replace ee1 := hcS _ _ ee1
        replace ee2 := hcS _ _ ee2
        replace ee3 := hcS _ _ ee3
        replace ee4 := hcS _ _ ee4
        have LX := hide (HBF.out i HI.out j hj)
        have HGE := hide (HGF.out i HI.out j hj)
        replace x1 := x1.zn LX.out.1
        replace x2 := x2.zn LX.out.2
        obtain ⟨X, hX⟩ : ∃ X, F2 (n + i) (n + j) = X := ⟨_, rfl⟩
        rw [hX] at x1 x2 LX HGE
        have LNG := hide (show zl L (-X.1, -X.2) from ⟨Nat.le_trans (Nat.le_of_eq (by rw [Int.natAbs_neg])) LX.out.1, Nat.le_trans (Nat.le_of_eq (by rw [Int.natAbs_neg])) LX.out.2⟩)
        clear LT9 hcT hsv LS hcS hy hrv hX es
        refine wp_seq_k ?_
        intro K17 hK17
        refine rg [0] ?_
        refine sq ?_
        refine .r0 ?_
        apply wpSq_end
        refine hK17 _ _ ?_
        refine wp_seq_k ?_
        intro K18 hK18
        refine ct ?_
        refine wp_skip ?_
        refine hK18 _ _ ?_
        refine wp_seq_k ?_
        intro K19 hK19
        refine wp_block ?_
        refine wp_seq_k ?_
        intro K20 hK20
        refine rg [0, 1] ?_
        refine sq ?_
        refine .mv ?_
        refine sq ?_
        refine .mv ?_
        apply wpSq_end
        refine hK20 _ _ ?_
        refine wp_region_f4 [(0, false), (1, false), (2, false), (3, false), (4, false), (5, false), (6, false), (7, false), (8, false), (9, false), (10, false), (11, false), (12, false), (13, false), (14, false), (15, false), (16, false), (17, true), (18, true), (19, false)] [20] [] (fun _ => default) [99, 99, 0, 0, 99, 99, 1, 2, 99, 99, 99, 3, 2, 99, 99, 99, 4, 99, 99, 99, 99] [] (.c hs.g5 (.c hs.g4 (.c hs.g6 (.c xT (.c xS .n))))) fn fun w_15 n15 => ?_
        replace xT := xT.bl n15; replace xS := xS.bl n15; replace hs := hs.bl n15
        refine fmv ?_
        refine fmv ?_
        refine f1 ?_
        refine f1 ?_
        refine f0 ?_
        refine f0 ?_
        refine f4 ?_
        refine f1 ?_
        refine fmv ?_
        refine f0 ?_
        refine f0 ?_
        apply wpFl_ld rfl rfl; (case h1 => intro w' hC K hK; have c0 := Bs.cell hC ((n + i)) eT; go_big_op; exact hK); iterate 4 kernel_rfl
        refine f1 ?_
        refine fmv ?_
        refine f0 ?_
        refine f0 ?_
        apply wpFl_ld rfl rfl; (case h1 => intro w' hC K hK; have c0 := Bs.cell hC (((n + j) * 4)) ee1; have c1 := Bs.cell hC (((n + j) * 4) + 1) ee2; have c2 := Bs.cell hC (((n + j) * 4) + 2) ee3; have c3 := Bs.cell hC (((n + j) * 4) + 3) ee4; go_big_op; exact hK); iterate 4 kernel_rfl
        refine fl fun w_16 n16 => ?_
        replace xT := xT.bl n16; replace xS := xS.bl n16; replace hs := hs.bl n16
        intro K hK
        have k0_2 := (kb n15).b n16
        replace x1 := x1.k k0_2
        replace x2 := x2.k k0_2
        go_big_op
        go_fit (gNeg_any (.mk' x1 x2) (by omega) (by omega))
        rintro e w_17 ⟨_, rfl, ⟨n_ga, o_ga, k_ga, c_ga, n_gb, o_gb, k_gb, c_gb, rfl, g1, g2⟩, hb_17⟩
        replace xT := xT.bl hb_17; replace xS := xS.bl hb_17; replace hs := hs.bl hb_17
        refine hK _ _ rfl ⟨hb_17, (And.intro hs.g5 (And.intro hs.g4 (And.intro hs.g6 (And.intro xT (And.intro xS trivial)))))⟩ ?_
        clear hK K
        refine fl fun w_18 n18 => ?_
        replace xT := xT.bl n18; replace xS := xS.bl n18; replace hs := hs.bl n18
        intro K hK
        have k3_4 := kb n18
        replace g1 := g1.k k3_4
        replace g2 := g2.k k3_4
        go_big_op
        go_fit (dsigned_any (L := L) hs.g4 (.mk' g1 g2) LNG.out hL)
        rintro e w_19 ⟨_, rfl, ⟨n_sa, o_sa, k_sa, c_sa, n_sb, o_sb, k_sb, c_sb, rfl, s1, s2⟩, hb_19⟩
        replace xT := xT.bl hb_19; replace xS := xS.bl hb_19; replace hs := hs.bl hb_19
        refine hK _ _ rfl ⟨hb_19, (And.intro hs.g5 (And.intro hs.g4 (And.intro hs.g6 (And.intro xT (And.intro xS trivial)))))⟩ ?_
        clear hK K
        refine f0 ?_
        refine e0 hs ?_; clear hs; intro w_20 hs n20
        replace xT := xT.bl n20; replace xS := xS.bl n20
        refine tl ?_
        refine .i4 0 hs (j := j) (by exact HJ.out) ?_ (e := fun _ hB hO => (And.intro (hs.g5.frame hO (hs.ne 5 0)) (And.intro (hs.g4.frame hO (hs.ne 4 0)) (And.intro (hs.g6.frame hO (hs.ne 6 0)) (And.intro (xT.frame hO (hs.ne 3 0)) (And.intro (xS.frame hO (hs.ne 2 0)) True.intro)))))); clear hs; intro w_21 hs kp21 hd21 ho21 hw21; simp only [List.set_cons_zero] at hs
        clear xT
        clear xS
        apply wpTail_end
        refine hK19 _ _ ?_
        refine rg [0, 1] ?_
        refine sq ?_
        refine .r0 ?_
        refine sq ?_
        refine .mv ?_
        apply wpSq_end
        have k0_7 := ((((k0_2.b hb_17).b n18).b hb_19).b n20).t kp21
        replace hd := hd.k k0_7
        replace hd2 := hd2.k k0_7
        replace hx := hx.k k0_7
        have k5_7 := (kb n20).t kp21
        replace s1 := s1.k k5_7
        replace s2 := s2.k k5_7
        refine ‹∀ (a' : Act) (w' : World), Handed _ _ a' w' → _› _ _ ?_
        have e9 := ES.out
        subst e9
        go_roundg (gk - 1)
        case rel => exact ⟨j + 1, _, by rfl, by omega, by simpa using hrl, RD.fi hd hr1 HI.out HJ.out hx (by rw [HGE.out]; exact s1) (by rw [HGE.out]; exact s2), (by rw [List.map_append, List.map_cons, List.getElem?_append_right (by simp [hr1])]; simp [hr1]), hd2, hs.unrow2c⟩
        case measure => omega
      · have HJ := hide (show j = n by omega)
        have t4 : ((j : Int) < (n : Int)) = False := eq_false (by omega)
        refine wp_seq_k ?_
        intro K17 hK17
        refine rg [0] ?_
        refine sq ?_
        refine .r0 ?_
        apply wpSq_end
        refine hK17 _ _ ?_
        refine wp_seq_k ?_
        intro K18 hK18
        refine cf ?_
        refine wp_exit ?_
        refine hK14 _ _ ?_
        refine rg [0, 1] ?_
        refine sq ?_
        refine .r0 ?_
        refine sq ?_
        refine .mv ?_
        apply wpSq_end
        have hd8 := hd
        rw [HJ.out, fi_row] at hd8
        refine HO _ _ ?_
        go_roundg (g1 - 1)
        case rel => exact ⟨i + 1, rs, by rfl, by omega, hrl, hd8, hd2, hs⟩
        case measure => omega
    · have HI := hide (show i = n by omega)
      have t3 : ((i : Int) < (n : Int)) = False := eq_false (by omega)
      refine wp_seq_k ?_
      intro K12 hK12
      refine rg [0] ?_
      refine sq ?_
      refine .r0 ?_
      apply wpSq_end
      refine hK12 _ _ ?_
      refine wp_seq_k ?_
      intro K13 hK13
      refine cf ?_
      refine wp_exit ?_
      refine hK10 _ _ ?_
      refine wp_seq_k ?_
      intro K14 hK14
      refine rg [0, 1, 2] ?_
      refine sq ?_
      refine .mv ?_
      refine sq ?_
      refine .mv ?_
      refine sq ?_
      refine .mv ?_
      apply wpSq_end
      refine hK14 _ _ ?_
      refine wp_ret ?_
      have hd8 := hd
      rw [HI.out, fi_end, HG.out] at hd8
      have hs9 := hs.sub (show List.Sublist (ls w.heap.size 28 1 (.slice o_Z n c_Z) n (rs.map (·.v)) :: rs.map (Rw.e w.heap.size)) (_ :: _ :: _ :: _ :: _ :: (rs2.map (Rw.e w.heap.size) ++ rs.map (Rw.e w.heap.size))) from .cons_cons _ (.cons _ (.cons _ (.cons _ (.cons _ (List.sublist_append_right _ _))))))
      try dsimp only [Exit.then, Exit.inBlock]
      refine bodyPost_ret (v := (.tuple #[(.slice o_Z n c_Z), (.int .i64 0)])) (by simp [results, Tryz.results13, go_sem]) rfl ?_
      exact ⟨_, _, rs, rfl, hrl, (by unfold Mx; rw [hrl]; exact hs9), hd8, hs.b⟩
  · have hlt : r < n := by omega
    have HR := hide hr
    clear hr
    refine ct ?_
    refine wp_seq_k ?_
    intro K10 hK10
    refine rg [0, 1, 2] ?_
    refine sq ?_
    refine .mv ?_
    refine sq ?_
    refine .mv ?_
    refine sq ?_
    refine .mv ?_
    apply wpSq_end
    refine hK10 _ _ ?_
    refine wp_ret ?_
    have k9_12 := ((kb n10).o hd11 ho11).t kp12
    replace d_Z := d_Z.k k9_12
    have hd9 : RD w_12 rs_Z (mkM n n (adjE n (at2 A))) := by
      rw [← HG.out, ← show mkM n n (fun _ _ => ((0 : Int), (0 : Int))) = mkM n n G from mkM_eq rfl rfl fun i hi j hj => ((HADJ.out i j hi hj).2 HR.out).symm]
      exact d_Z
    have hs9 := hs.sub (show List.Sublist (ls w.heap.size 28 1 (.slice o_Z n c_Z) n (rs_Z.map (·.v)) :: rs_Z.map (Rw.e w.heap.size)) (_ :: _ :: _ :: _ :: _ :: _ :: (rs_Z.map (Rw.e w.heap.size) ++ rs2.map (Rw.e w.heap.size))) from .cons _ (.cons _ (.cons _ (.cons _ (.cons _ (.cons_cons _ (List.sublist_append_left _ _)))))))
    try dsimp only [Exit.then, Exit.inBlock]
    refine bodyPost_ret (v := (.tuple #[(.slice o_Z n c_Z), (.int .i64 0)])) (by simp [results, Tryz.results13, go_sem]) rfl ?_
    exact ⟨_, _, rs_Z, rfl, hl_Z, (by unfold Mx; rw [hl_Z]; exact hs9), hd9, hs.b⟩
end
section
variable {w : World} {va vb : Value} {x y u v : Int} {l m k n : Nat}
theorem bits_zero {n : Nat} : bitsN n = 0 ↔ n = 0 := bitsN_zero
theorem bits_one {n : Nat} : bitsN n = 1 ↔ n = 1 := by
  constructor
  · intro h
    have h1 := bitsN_lt n
    rw [h] at h1
    have h2 : n ≠ 0 := fun c => by rw [bits_zero.2 c] at h; omega
    omega
  · rintro rfl; rfl
theorem bits_bd {A l : Nat} (h : A < pw l) : bitsN A ≤ 32 * l := by
  rcases Nat.eq_zero_or_pos A with h0 | h0
  · rw [h0]; exact Nat.zero_le _
  · have h3 := bitsN_le (Nat.ne_of_gt h0)
    rw [pw_eq] at h
    have h4 := (Nat.pow_lt_pow_iff_right (by decide : 1 < 2)).1 (Nat.lt_of_le_of_lt h3 h)
    omega
theorem unit_bits (x y : Int) : (bitsN x.natAbs + bitsN y.natAbs = 1) ↔ gN x y = 1 := by
  have ex : x * x = ((x.natAbs * x.natAbs : Nat) : Int) := (Int.natAbs_mul_self).symm
  have ey : y * y = ((y.natAbs * y.natAbs : Nat) : Int) := (Int.natAbs_mul_self).symm
  unfold gN
  rw [ex, ey]
  generalize x.natAbs = a
  generalize y.natAbs = b
  constructor
  · intro h
    rcases (show (bitsN a = 0 ∧ bitsN b = 1) ∨ (bitsN a = 1 ∧ bitsN b = 0) by omega) with ⟨h1, h2⟩ | ⟨h1, h2⟩
    · rw [bits_zero.1 h1, bits_one.1 h2]; rfl
    · rw [bits_one.1 h1, bits_zero.1 h2]; rfl
  · intro h
    have h' : a * a + b * b = 1 := by exact_mod_cast h
    have ha : a ≤ 1 := by
      rcases Nat.lt_or_ge 1 a with c | c
      · have := Nat.mul_le_mul c c; omega
      · exact c
    have hb : b ≤ 1 := by
      rcases Nat.lt_or_ge 1 b with c | c
      · have := Nat.mul_le_mul c c; omega
      · exact c
    rcases (show a = 0 ∨ a = 1 by omega) with rfl | rfl <;> rcases (show b = 0 ∨ b = 1 by omega) with rfl | rfl
    · exact absurd h' (by decide)
    · rfl
    · rfl
    · exact absurd h' (by decide)
set_option maxHeartbeats 4000000 in
set_option maxRecDepth 20000 in
theorem gUnit_yes (ha : PN w va x l y m) (hl : l ≤ 10000000) (hm : m ≤ 10000000) (h : gN x y = 1) :
    Calls Tryz.prog 45 #[va] w fun e w' => e = .returned (.bool true) ∧ Below w.heap.size w w' := by
  have h1 := bits_bd (Nat.lt_of_lt_of_le (lt_pw_dig x.natAbs) (pw_mono ha.len1))
  have h2 := bits_bd (Nat.lt_of_lt_of_le (lt_pw_dig y.natAbs) (pw_mono ha.len2))
  rw [← unit_bits] at h
  obtain ⟨A, hA⟩ : ∃ A, bitsN x.natAbs = A := ⟨_, rfl⟩
  obtain ⟨B, hB⟩ : ∃ B, bitsN y.natAbs = B := ⟨_, rfl⟩
  rw [hA] at h h1
  rw [hB] at h h2
  have HA := hide hA
  have HB := hide hB
  have hw : wrap64 ((A : Int) + (B : Int)) = ((A + B : Nat) : Int) := by unfold wrap64; omega
  have hw2 : IntKind.i64.wrap ((A : Int) + (B : Int)) = ((A + B : Nat) : Int) := by rw [IntKind.wrap_i64]; omega
  have hz : (((A + B : Nat) : Int) == 1) = true := by rw [h]; rfl
  generalize A + B = C at *
  clear hA hB h h1 h2
  obtain ⟨n_0a, o_0a, k_0a, c_0a, n_0b, o_0b, k_0b, c_0b, rfl, ha1, ha2⟩ := ha
  go_enter Tryz.func45, Tryz.ntmps45
  have hs := St.nil w
  refine wp_seq_k ?_
  intro K1 hK1
  refine rg [0, 1] ?_
  refine sq ?_
  refine .al hs ?_; clear hs; intro p_b1 w_1 hs n1 kb_b1
  refine sq ?_
  refine .mv ?_
  apply wpSq_end
  refine hK1 _ _ ?_
  refine wp_seq_k ?_
  intro K2 hK2
  refine wp_region_f4 [(0, false), (1, false), (3, false), (4, false), (2, true), (5, true), (6, false), (7, false), (8, false)] [] [] (fun _ => default) [99, 0, 99, 99, 0, 99, 99, 99, 99] [] (.c hs.g0 .n) fn fun w_2 n2 => ?_
  replace hs := hs.bl n2
  refine f0 ?_
  refine f4 ?_
  refine f0 ?_
  refine f4 ?_
  refine fl fun w_3 n3 => ?_
  replace hs := hs.bl n3
  intro K hK
  have k0_3 := ((kb n1).b n2).b n3
  replace ha1 := ha1.k k0_3
  go_big_op
  go_fit (zbits_any ha1 (by omega) )
  rintro e w_4 ⟨rfl, hb_4⟩
  replace hs := hs.bl hb_4
  rw [HA.out]
  refine hK _ _ rfl ⟨hb_4, (And.intro hs.g0 trivial)⟩ ?_
  clear hK K
  refine fl fun w_5 n5 => ?_
  replace hs := hs.bl n5
  intro K hK
  have k0_5 := (k0_3.b hb_4).b n5
  replace ha2 := ha2.k k0_5
  go_big_op
  go_fit (zbits_any ha2 (by omega) )
  rintro e w_6 ⟨rfl, hb_6⟩
  replace hs := hs.bl hb_6
  rw [HB.out]
  refine hK _ _ rfl ⟨hb_6, (And.intro hs.g0 trivial)⟩ ?_
  clear hK K
  refine f0 ?_
  refine f0 ?_
  refine fmv ?_
  refine e0 hs ?_; clear hs; intro w_7 hs n7
  apply wpTail_end
  refine hK2 _ _ ?_
  refine wp_ret ?_
  try dsimp only [Exit.then, Exit.inBlock]
  refine bodyPost_ret (v := (.bool true)) (by simp [results, Tryz.results45, go_sem]) rfl ?_
  have hb := hs.b
  exact ⟨rfl, hb⟩
set_option maxHeartbeats 4000000 in
set_option maxRecDepth 20000 in
theorem gUnit_no (ha : PN w va x l y m) (hl : l ≤ 10000000) (hm : m ≤ 10000000) (h : ¬ gN x y = 1) :
    Calls Tryz.prog 45 #[va] w fun e w' => e = .returned (.bool false) ∧ Below w.heap.size w w' := by
  have h1 := bits_bd (Nat.lt_of_lt_of_le (lt_pw_dig x.natAbs) (pw_mono ha.len1))
  have h2 := bits_bd (Nat.lt_of_lt_of_le (lt_pw_dig y.natAbs) (pw_mono ha.len2))
  rw [← unit_bits] at h
  obtain ⟨A, hA⟩ : ∃ A, bitsN x.natAbs = A := ⟨_, rfl⟩
  obtain ⟨B, hB⟩ : ∃ B, bitsN y.natAbs = B := ⟨_, rfl⟩
  rw [hA] at h h1
  rw [hB] at h h2
  have HA := hide hA
  have HB := hide hB
  have hw : wrap64 ((A : Int) + (B : Int)) = ((A + B : Nat) : Int) := by unfold wrap64; omega
  have hw2 : IntKind.i64.wrap ((A : Int) + (B : Int)) = ((A + B : Nat) : Int) := by rw [IntKind.wrap_i64]; omega
  have hz : (((A + B : Nat) : Int) == 1) = false := by rw [beq_eq_false_iff_ne]; omega
  generalize A + B = C at *
  clear hA hB h h1 h2
  obtain ⟨n_0a, o_0a, k_0a, c_0a, n_0b, o_0b, k_0b, c_0b, rfl, ha1, ha2⟩ := ha
  go_enter Tryz.func45, Tryz.ntmps45
  have hs := St.nil w
  refine wp_seq_k ?_
  intro K1 hK1
  refine rg [0, 1] ?_
  refine sq ?_
  refine .al hs ?_; clear hs; intro p_b1 w_1 hs n1 kb_b1
  refine sq ?_
  refine .mv ?_
  apply wpSq_end
  refine hK1 _ _ ?_
  refine wp_seq_k ?_
  intro K2 hK2
  refine wp_region_f4 [(0, false), (1, false), (3, false), (4, false), (2, true), (5, true), (6, false), (7, false), (8, false)] [] [] (fun _ => default) [99, 0, 99, 99, 0, 99, 99, 99, 99] [] (.c hs.g0 .n) fn fun w_2 n2 => ?_
  replace hs := hs.bl n2
  refine f0 ?_
  refine f4 ?_
  refine f0 ?_
  refine f4 ?_
  refine fl fun w_3 n3 => ?_
  replace hs := hs.bl n3
  intro K hK
  have k0_3 := ((kb n1).b n2).b n3
  replace ha1 := ha1.k k0_3
  go_big_op
  go_fit (zbits_any ha1 (by omega) )
  rintro e w_4 ⟨rfl, hb_4⟩
  replace hs := hs.bl hb_4
  rw [HA.out]
  refine hK _ _ rfl ⟨hb_4, (And.intro hs.g0 trivial)⟩ ?_
  clear hK K
  refine fl fun w_5 n5 => ?_
  replace hs := hs.bl n5
  intro K hK
  have k0_5 := (k0_3.b hb_4).b n5
  replace ha2 := ha2.k k0_5
  go_big_op
  go_fit (zbits_any ha2 (by omega) )
  rintro e w_6 ⟨rfl, hb_6⟩
  replace hs := hs.bl hb_6
  rw [HB.out]
  refine hK _ _ rfl ⟨hb_6, (And.intro hs.g0 trivial)⟩ ?_
  clear hK K
  refine f0 ?_
  refine f0 ?_
  refine fmv ?_
  refine e0 hs ?_; clear hs; intro w_7 hs n7
  apply wpTail_end
  refine hK2 _ _ ?_
  refine wp_ret ?_
  try dsimp only [Exit.then, Exit.inBlock]
  refine bodyPost_ret (v := (.bool false)) (by simp [results, Tryz.results45, go_sem]) rfl ?_
  have hb := hs.b
  exact ⟨rfl, hb⟩
theorem gUnit_any (ha : PN w va x l y m) (hl : l ≤ 10000000) (hm : m ≤ 10000000) :
    Calls Tryz.prog 45 #[va] w fun e w' => e = .returned (.bool (decide (gN x y = 1))) ∧ Below w.heap.size w w' := by
  by_cases h : gN x y = 1
  · rw [decide_eq_true h]; exact gUnit_yes ha hl hm h
  · rw [decide_eq_false h]; exact gUnit_no ha hl hm h
end
theorem Tot.brd {T n : Nat} {Ms : List (List (Int × Int))} (h : Tot T Ms) (hn : Ms.length = n) (h64 : n ≤ 64) : MinB (n + n) (n + n) (T + 64 + 2001) (Go.Proofs.YtcoodkdalblalaaGreatDoor.brd n (at2 Ms)) := by
  subst hn
  obtain ⟨b, hT, hb⟩ := h
  rw [brd_G]
  refine minB_brd (b := b) (d := fun _ => 1) (D := 64) (by omega) hT (by rw [sN_one]; omega) (fun i hi q hq => ?_) (fun i _ q _ => zl_one i q)
  have h0 : rw_ Ms i = Ms[i] := by simp [rw_, List.getD, hi]
  unfold at2
  rw [h0]
  rcases Nat.lt_or_ge q Ms[i].length with c | c
  · have : at1 Ms[i] q = Ms[i][q] := by simp [at1, List.getD, c]
    rw [this]; exact hb i hi _ (List.getElem_mem c)
  · have : at1 Ms[i] q = (0, 0) := by simp [at1, List.getD, c]
    rw [this]; exact zl_0 _
theorem zl_adjE {n L i j : Nat} {M : Nat → Nat → Int × Int} (hB : MinB (n + n) (n + n) L (brd n M)) (hi : i < n) (hj : j < n) : zl L (adjE n M i j) := by
  have h := (hB.D n (n + i) (by omega) (n + j) (by omega))
  rw [brd_D hi hj] at h
  have h1 : zl L (-(adjE n M i j).1, -(adjE n M i j).2) := h
  exact ⟨Nat.le_trans (Nat.le_of_eq (by rw [Int.natAbs_neg])) h1.1, Nat.le_trans (Nat.le_of_eq (by rw [Int.natAbs_neg])) h1.2⟩
/-- The adjugate times the determinant's conjugate. -/
def invE (n : Nat) (M : Nat → Nat → Int × Int) (i j : Nat) : Int × Int := mP (adjE n M i j) ((Dt.det n M).1, -(Dt.det n M).2)
theorem mkM_invE {n : Nat} {M : Nat → Nat → Int × Int} : (mkM n n fun i j => mP (at2 (mkM n n (adjE n M)) i j) ((Dt.det n M).1, -(Dt.det n M).2)) = mkM n n (invE n M) := mkM_eq rfl rfl fun i hi j hj => by rw [at2_mkM hi hj]; rfl
section
variable {w : World} {la n L ca r l : Nat} {oa : Option Addr} {A : List (List (Int × Int))}
set_option maxHeartbeats 4000000 in
set_option maxRecDepth 20000 in
theorem inverse_none (ha : MN la w oa A) (hna : A.length = n) (h : gd A) (hk : wd A = n) (hB : MinB n n L (at2 A)) (hL : L ≤ 3300000) (hla : la ≤ 20000000) (hu : gN (Dt.det n (at2 A)).1 (Dt.det n (at2 A)).2 ≠ 1) :
    Calls Tryz.prog 14 #[.slice oa n ca] w fun e w' => e = .returned (.tuple #[.slice none 0 0, .int .i64 10]) ∧ Below w.heap.size w w' := by
  have HA := hide ha
  have H := hide h
  have HK := hide hk
  have HB := hide hB
  have HU := hide hu
  have LD := hide (show zl L (Dt.det n (at2 A)) from hB n id id (fun r hr => ⟨hr, hr⟩) (fun r q h _ => by simp only [id]; omega))
  clear ha h hk hB hu
  go_enter Tryz.func14, Tryz.ntmps14
  have hs := St.nil w
  refine wp_seq_k ?_
  intro K1 hK1
  refine rg [0, 1] ?_
  refine sq ?_
  refine .mv ?_
  refine sq ?_
  refine .mv ?_
  apply wpSq_end
  refine hK1 _ _ ?_
  refine wp_seq_k ?_
  intro K2 hK2
  refine rg [0, 1, 2, 3, 4, 5, 6, 7] ?_
  refine sq ?_
  refine .mv ?_
  refine sq ?_
  intro K hK
  have hb := hs.b
  go_big_op
  go_fit (det_ok (HA.out.bl stab_n hb) hna H.out HK.out HB.out hL hla)
  rintro e w_1 ⟨_, rfl, ⟨n_da, o_da, k_da, c_da, n_db, o_db, k_db, c_db, rfl, d1, d2⟩, hb_1⟩
  clear hb
  replace hs := hs.bl hb_1
  have Ld1 := hide (d1.lenOf (LD.out.1))
  have Ld2 := hide (d2.lenOf (LD.out.2))
  refine hK _ _ rfl trivial ?_
  clear hK K
  refine sq ?_
  refine .mv ?_
  refine sq ?_
  refine .r0 ?_
  refine sq ?_
  refine .r0 ?_
  refine sq ?_
  refine .al hs ?_; clear hs; intro p_b1 w_2 hs n2 kb_b1
  refine sq ?_
  refine .s4 hs.g0 (fun _ => hs.u0 kb_b1) ?_; clear hs; intro w_3 hs hd3 ho3
  refine sq ?_
  refine .mv ?_
  apply wpSq_end
  refine hK2 _ _ ?_
  refine wp_seq_k ?_
  intro K3 hK3
  refine wp_seq_k ?_
  intro K4 hK4
  refine rg [0, 1] ?_
  refine sq ?_
  refine .mv ?_
  refine sq ?_
  refine .r0 ?_
  apply wpSq_end
  refine hK4 _ _ ?_
  refine cf ?_
  refine wp_skip ?_
  refine hK3 _ _ ?_
  refine wp_seq_k ?_
  intro K5 hK5
  refine wp_seq_k ?_
  intro K6 hK6
  refine rg [0, 1, 2] ?_
  refine sq ?_
  refine .r4 hs.g0.f4 ?_
  refine sq ?_
  intro K hK
  have k1_3 := (kb n2).o hd3 ho3
  replace d1 := d1.k k1_3
  replace d2 := d2.k k1_3
  go_big_op
  go_fit (gUnit_any (.mk' (d1.zn Ld1.out) (d2.zn Ld2.out)) (by omega) (by omega))
  rintro e w_4 ⟨rfl, hb_4⟩
  replace hs := hs.bl hb_4
  rw [decide_eq_false HU.out]
  refine hK _ _ rfl trivial ?_
  clear hK K
  refine sq ?_
  refine .r0 ?_
  apply wpSq_end
  refine hK6 _ _ ?_
  refine ct ?_
  refine wp_seq_k ?_
  intro K7 hK7
  refine rg [0, 1] ?_
  refine sq ?_
  refine .mv ?_
  refine sq ?_
  refine .mv ?_
  apply wpSq_end
  refine hK7 _ _ ?_
  refine wp_ret ?_
  try dsimp only [Exit.then, Exit.inBlock]
  refine bodyPost_ret (v := (.tuple #[(.slice none 0 0), (.int .i64 10)])) (by simp [results, Tryz.results14, go_sem]) rfl ?_
  exact ⟨rfl, hs.b⟩
set_option maxHeartbeats 4000000 in
set_option maxRecDepth 20000 in
theorem inverse_ok (ha : MN la w oa A) (hna : A.length = n) (h : gd A) (hk : wd A = n) (hB : MinB n n L (at2 A)) (hC : MinB (n + n) (n + n) L (brd n (at2 A))) (hL : L ≤ 3300000) (hla : la ≤ 9000000) (hu : gN (Dt.det n (at2 A)).1 (Dt.det n (at2 A)).2 = 1) :
    Calls Tryz.prog 14 #[.slice oa n ca] w fun e w' => ∃ o c rs, e = .returned (.tuple #[.slice o n c, .int .i64 0]) ∧ rs.length = n ∧ St w (Mx w.heap.size (.slice o n c) rs) w' ∧ RD w' rs (mkM n n (invE n (at2 A))) ∧ Below w.heap.size w w' := by
  have HA := hide ha
  have H := hide h
  have HK := hide hk
  have HB := hide hB
  have HC := hide hC
  have HU := hide hu
  have hn64 : n ≤ 64 := by have := h.1; omega
  have LD := hide (show zl L (Dt.det n (at2 A)) from hB n id id (fun r hr => ⟨hr, hr⟩) (fun r q h _ => by simp only [id]; omega))
  have BJ := hide (show BdM L (mkM n n (adjE n (at2 A))) from bdM_mk fun i hi j hj => zl_adjE hC hi hj)
  have GJ := hide (show gd (mkM n n (adjE n (at2 A))) from gd_mkM hn64 hn64)
  have WJ := hide (show wd (mkM n n (adjE n (at2 A))) = n from wd_mkM (by omega))
  have LE := hide (show L ≤ 40000000 by omega)
  clear ha h hk hB hC hu
  go_enter Tryz.func14, Tryz.ntmps14
  have hs := St.nil w
  refine wp_seq_k ?_
  intro K1 hK1
  refine rg [0, 1] ?_
  refine sq ?_
  refine .mv ?_
  refine sq ?_
  refine .mv ?_
  apply wpSq_end
  refine hK1 _ _ ?_
  refine wp_seq_k ?_
  intro K2 hK2
  refine rg [0, 1, 2, 3, 4, 5, 6, 7] ?_
  refine sq ?_
  refine .mv ?_
  refine sq ?_
  intro K hK
  have hb := hs.b
  go_big_op
  go_fit (det_ok (HA.out.bl stab_n hb) hna H.out HK.out HB.out hL (by omega))
  rintro e w_1 ⟨_, rfl, ⟨n_da, o_da, k_da, c_da, n_db, o_db, k_db, c_db, rfl, d1, d2⟩, hb_1⟩
  clear hb
  replace hs := hs.bl hb_1
  have Ld1 := hide (d1.lenOf (LD.out.1))
  have Ld2 := hide (d2.lenOf (LD.out.2))
  refine hK _ _ rfl trivial ?_
  clear hK K
  refine sq ?_
  refine .mv ?_
  refine sq ?_
  refine .r0 ?_
  refine sq ?_
  refine .r0 ?_
  refine sq ?_
  refine .al hs ?_; clear hs; intro p_b1 w_2 hs n2 kb_b1
  refine sq ?_
  refine .s4 hs.g0 (fun _ => hs.u0 kb_b1) ?_; clear hs; intro w_3 hs hd3 ho3
  refine sq ?_
  refine .mv ?_
  apply wpSq_end
  refine hK2 _ _ ?_
  refine wp_seq_k ?_
  intro K3 hK3
  refine wp_seq_k ?_
  intro K4 hK4
  refine rg [0, 1] ?_
  refine sq ?_
  refine .mv ?_
  refine sq ?_
  refine .r0 ?_
  apply wpSq_end
  refine hK4 _ _ ?_
  refine cf ?_
  refine wp_skip ?_
  refine hK3 _ _ ?_
  refine wp_seq_k ?_
  intro K5 hK5
  refine wp_seq_k ?_
  intro K6 hK6
  refine rg [0, 1, 2] ?_
  refine sq ?_
  refine .r4 hs.g0.f4 ?_
  refine sq ?_
  intro K hK
  have k1_3 := (kb n2).o hd3 ho3
  replace d1 := d1.k k1_3
  replace d2 := d2.k k1_3
  go_big_op
  go_fit (gUnit_any (.mk' (d1.zn Ld1.out) (d2.zn Ld2.out)) (by omega) (by omega))
  rintro e w_4 ⟨rfl, hb_4⟩
  replace hs := hs.bl hb_4
  rw [decide_eq_true HU.out]
  refine hK _ _ rfl trivial ?_
  clear hK K
  refine sq ?_
  refine .r0 ?_
  apply wpSq_end
  refine hK6 _ _ ?_
  refine cf ?_
  refine wp_skip ?_
  refine hK5 _ _ ?_
  refine wp_seq_k ?_
  intro K7 hK7
  refine rg [0, 1, 2, 3, 4, 5, 6] ?_
  refine sq ?_
  refine .mv ?_
  refine sq ?_
  intro K hK
  have hb := hs.b
  go_big_op
  go_fit (adjugate_ok (HA.out.bl stab_n hb) hna H.out HK.out HC.out hL hla)
  rintro e w_5 ⟨o_J, c_J, rs_J, rfl, hl_J, hs_J, d_J, hb_5⟩
  clear hb
  replace hs := hs.mx hl_J hs_J; simp only [List.cons_append, List.nil_append] at hs
  refine hK _ _ rfl trivial ?_
  clear hK K
  refine sq ?_
  refine .mv ?_
  refine sq ?_
  refine .r0 ?_
  refine sq ?_
  refine .r0 ?_
  refine sq ?_
  refine .mv ?_
  refine sq ?_
  refine .mv ?_
  apply wpSq_end
  refine hK7 _ _ ?_
  refine wp_seq_k ?_
  intro K8 hK8
  refine rg [0, 1, 2, 3, 4, 5, 6, 7] ?_
  refine sq ?_
  refine .mv ?_
  refine sq ?_
  refine .r4 hs.g1.f4 ?_
  refine sq ?_
  intro K hK
  have k3_5 := (kb hb_4).b hb_5
  replace d1 := d1.k k3_5
  replace d2 := d2.k k3_5
  go_big_op
  go_fit (gConj_any (.mk' (d1.zn Ld1.out) (d2.zn Ld2.out)) (by omega) (by omega))
  rintro e w_6 ⟨_, rfl, ⟨n_e5a, o_e5a, k_e5a, c_e5a, n_e5b, o_e5b, k_e5b, c_e5b, rfl, e51, e52⟩, hb_6⟩
  replace hs := hs.bl hb_6
  have Le51 := hide (e51.lenOf (Ld1.out))
  have Le52 := hide (e52.lenOf (zlen_neg Ld2.out))
  refine hK _ _ rfl trivial ?_
  clear hK K
  refine sq ?_
  intro K hK
  have k5_6 := kb hb_6
  replace d_J := d_J.k k5_6
  go_big_op
  go_fit (mScale_ok ((MCof (c := c_J) hs (by simp) rfl (fun r hr ↦ by simp [List.mem_map_of_mem hr]) hl_J d_J).mn BJ.out) (.mk' (e51.zn Le51.out) (e52.zn Le52.out)) len_mkM GJ.out LE.out LE.out)
  rintro e w_7 ⟨o_S, c_S, rs_S, rfl, hl_S, hs_S, d_S, hb_7⟩
  replace hs := hs.mx hl_S hs_S; simp only [List.cons_append, List.nil_append] at hs
  rw [WJ.out, mkM_invE] at d_S
  refine hK _ _ rfl trivial ?_
  clear hK K
  refine sq ?_
  refine .r0 ?_
  refine sq ?_
  refine .r0 ?_
  refine sq ?_
  refine .mv ?_
  refine sq ?_
  refine .mv ?_
  apply wpSq_end
  refine hK8 _ _ ?_
  refine wp_ret ?_
  try dsimp only [Exit.then, Exit.inBlock]
  refine bodyPost_ret (v := (.tuple #[(.slice o_S n c_S), (.int .i64 0)])) (by simp [results, Tryz.results14, go_sem]) rfl ?_
  exact ⟨_, _, rs_S, rfl, hl_S, (by unfold Mx; rw [hl_S]; exact hs.sub (.cons_cons _ (.cons _ (.cons _ (List.sublist_append_right _ _))))), d_S, hs.b⟩
end
/-- A list of whole numbers that can be read. -/
def LZ (w : World) (o : Option Addr) (zs : List Int) : Prop :=
  zs = [] ∨ ∃ g off cur ty fz, o = some ⟨g, off, none⟩ ∧ Bs w g cur ty fz ∧ ∀ i (hi : i < zs.length), ∃ n o k c, cur[off + i * 2]? = some (.bool n) ∧ cur[off + i * 2 + 1]? = some (.slice o k c) ∧ ZC w (.agg #[.bool n, .slice o k c]) zs[i]
theorem LZ.of {w : World} {B n c : Nat} {o : Option Addr} {ty : TypeId} {xs : List Value} {zs : List Int} (h : Lst w B ty 2 (.slice o n c) n xs) (hz : ZL w xs zs) (hn : zs.length = n) : LZ w o zs := by
  rcases Nat.eq_zero_or_pos n with h0 | h0
  · exact .inl (List.eq_nil_of_length_eq_zero (by omega))
  · obtain ⟨g, cur, rfl, x, hc⟩ := h.box h0
    refine .inr ⟨g, 0, cur, _, _, rfl, x, fun i hi => ?_⟩
    obtain ⟨n, o, k, c, e1, e2, e3⟩ := hz.els i hi
    exact ⟨n, o, k, c, by rw [Nat.zero_add]; exact hc _ _ e1, by rw [Nat.zero_add]; exact hc _ _ e2, e3⟩
theorem LZ.bl {w w' : World} {o : Option Addr} {zs : List Int} (h : LZ w o zs) (hb : Below w.heap.size w w') : LZ w' o zs := by
  rcases h with h | ⟨g, off, cur, ty, fz, rfl, x, d⟩
  · exact .inl h
  · refine .inr ⟨g, off, cur, ty, fz, rfl, x.bl hb, fun i hi => ?_⟩
    obtain ⟨n, o, k, c, e1, e2, e3⟩ := d i hi
    exact ⟨n, o, k, c, e1, e2, e3.bl hb⟩
theorem minors_lz {w : World} {a : Array Value} {K n : Nat} {zs : List Int} (hz : zs.length = n + 1) (h : Calls Tryz.prog K a w fun e w' => ∃ o c xs, e = .returned (.tuple #[.slice o (n + 1) c, .int .i64 0]) ∧ Lst w' w.heap.size 24 2 (.slice o (n + 1) c) (n + 1) xs ∧ ZL w' xs zs ∧ Below w.heap.size w w') :
    Calls Tryz.prog K a w fun e w' => ∃ o c, e = .returned (.tuple #[.slice o (n + 1) c, .int .i64 0]) ∧ LZ w' o zs ∧ Below w.heap.size w w' :=
  Calls.mono h fun e w' ⟨o, c, xs, h1, h2, h3, h4⟩ => ⟨o, c, h1, LZ.of h2 h3 hz, h4⟩
theorem mins_len {n W : Nat} {M : Nat → Nat → Int × Int} : (mins n W M).length = n + 1 := by simp [mins]
def kS : List (List (Int × Int)) := [[(1, 0), (2, 0)], [(0, 1), (0, 0)]]
def kH : List (List (Int × Int)) := [[(1, 0), (0, 1)], [(0, 1), (-1, 0)]]
def kI : List (List (Int × Int)) := [[(1, 0), (1, 0)], [(0, 0), (0, 1)]]
def kR : List (List (Int × Int)) := [[(1, 0), (1, 0)]]
def kC : List (List (Int × Int)) := [[(1, 0)], [(1, 0)]]
theorem two_of {P : Nat → Prop} (h0 : P 0) (h1 : P 1) : ∀ i, i < 2 → P i := fun i hi => by
  rcases (show i = 0 ∨ i = 1 by omega) with rfl | rfl
  · exact h0
  · exact h1
theorem one_of {P : Nat → Prop} (h0 : P 0) : ∀ i, i < 1 → P i := fun i hi => by
  obtain rfl : i = 0 := by omega
  exact h0
theorem rk_nil : Dt.Rk 0 0 (at2 []) 0 := Dt.rk_of (Nat.le_refl _) (Nat.le_refl _) one_ne fun i hi => absurd hi (Nat.not_lt_zero _)
theorem rk_S : Dt.Rk 2 2 (at2 kS) 2 := Dt.rk_full one_ne (by decide +kernel)
theorem rk_H : Dt.Rk 2 2 (at2 kH) 1 := Dt.rk_of (by decide) (by decide) (by decide +kernel) (two_of (two_of (by decide +kernel) (by decide +kernel)) (two_of (by decide +kernel) (by decide +kernel)))
theorem rk_R : Dt.Rk 1 2 (at2 kR) 1 := Dt.rk_of (by decide) (by decide) (by decide +kernel) (one_of (two_of (by decide +kernel) (by decide +kernel)))
theorem rk_C : Dt.Rk 2 1 (at2 kC) 1 := Dt.rk_of (by decide) (by decide) (by decide +kernel) (two_of (one_of (by decide +kernel)) (one_of (by decide +kernel)))
theorem gd_S : gd kS := ⟨by decide, by decide, by decide⟩
theorem gd_H : gd kH := ⟨by decide, by decide, by decide⟩
theorem gd_I : gd kI := ⟨by decide, by decide, by decide⟩
theorem gd_R : gd kR := ⟨by decide, by decide, by decide⟩
theorem gd_C : gd kC := ⟨by decide, by decide, by decide⟩
theorem gd_0 : gd [] := ⟨by decide, by decide, by decide⟩
theorem mins_S : mins 2 2 (at2 kS) = [1, 5, 4] := by decide +kernel
theorem mins_H : mins 2 2 (at2 kH) = [1, 2, 0] := by decide +kernel
theorem mins_0 : mins 0 0 (at2 []) = [1] := by decide +kernel
theorem adj_S : mkM 2 2 (adjE 2 (at2 kS)) = [[(0, 0), (-2, 0)], [(0, -1), (1, 0)]] := by decide +kernel
theorem inv_I : mkM 2 2 (invE 2 (at2 kI)) = [[(1, 0), (0, 1)], [(0, 0), (0, -1)]] := by decide +kernel
theorem u_S : gN (Dt.det 2 (at2 kS)).1 (Dt.det 2 (at2 kS)).2 ≠ 1 := by decide +kernel
theorem u_I : gN (Dt.det 2 (at2 kI)).1 (Dt.det 2 (at2 kI)).2 = 1 := by decide +kernel
theorem sol_S : Sol 2 2 (at2 kS) (at1 [(1, 0), (1, 0)]) (2, 0) (fun i => if i = 0 then (1, 0) else (0, -1)) := ⟨by decide, two_of (by decide +kernel) (by decide +kernel)⟩
theorem ql_S : QL 2 2 (at2 kS) (at1 [(1, 0), (1, 0)]) = [(mkRat 1 2, 0), (0, mkRat (-1) 2)] := by decide +kernel
theorem sol_R : ∀ p x, ¬ Sol 1 2 (at2 kR) (at1 [(1, 0), (2, 0)]) p x := fun p x h => h.1 (by
  have h0 : p * (1, 0) = x 0 * (1, 0) := (h.2 0 (by decide)).trans (by show (0 : Int × Int) + x 0 * (1, 0) = _; grind)
  have h1 : p * (2, 0) = x 0 * (1, 0) := (h.2 1 (by decide)).trans (by show (0 : Int × Int) + x 0 * (1, 0) = _; grind)
  obtain ⟨p1, p2⟩ := p
  have e1 : p1 * 1 - p2 * 0 = p1 * 2 - p2 * 0 := congrArg Prod.fst (h0.trans h1.symm)
  have e2 : p1 * 0 + p2 * 1 = p1 * 0 + p2 * 2 := congrArg Prod.snd (h0.trans h1.symm)
  exact Prod.ext (by show p1 = 0; omega) (by show p2 = 0; omega))
theorem tot_small {Ms : List (List (Int × Int))} (hl : Ms.length ≤ 64) (h : BdM 1 Ms) : Tot 1048576 Ms :=
  ⟨fun _ => 1, by rw [sN_one]; omega, fun i hi => h _ (List.getElem_mem _)⟩
theorem dets_S : Dt.det 2 (gG 2 (at2 kS)) ≠ 0 := by decide +kernel
theorem minB_H : MinB 2 2 67 (at2 kH) := minB_of (T := 2) (b := fun _ => 1) (by decide) (by decide) fun i hi q hq => (bd_small (by decide)).at2
theorem minB_0 : MinB 0 0 65 (at2 []) := minB_of (T := 0) (b := fun _ => 1) (by decide) (by decide) fun i hi q hq => absurd hi (Nat.not_lt_zero _)
theorem minG_S : MinB 2 2 67 (gG 2 (at2 kS)) := minB_of (T := 2) (b := fun _ => 1) (by decide) (by decide) (two_of (two_of (by unfold zl; decide +kernel) (by unfold zl; decide +kernel)) (two_of (by unfold zl; decide +kernel) (by unfold zl; decide +kernel)))
theorem minG_H : MinB 2 2 67 (gG 2 (at2 kH)) := minB_of (T := 2) (b := fun _ => 1) (by decide) (by decide) (two_of (two_of (by unfold zl; decide +kernel) (by unfold zl; decide +kernel)) (two_of (by unfold zl; decide +kernel) (by unfold zl; decide +kernel)))
theorem minG_0 : MinB 0 0 65 (gG 0 (at2 [])) := minB_of (T := 0) (b := fun _ => 1) (by decide) (by decide) fun i hi q hq => absurd hi (Nat.not_lt_zero _)
theorem bd_S : BdM 1 kS := bd_small (by decide)
theorem bd_H : BdM 1 kH := bd_small (by decide)
theorem bd_I : BdM 1 kI := bd_small (by decide)
theorem bd_R : BdM 1 kR := bd_small (by decide)
theorem bd_C : BdM 1 kC := bd_small (by decide)
theorem bd_mil {Ms : List (List (Int × Int))} (h : BdM 1 Ms) : BdM 1048576 Ms := fun r hr p hp => zl_up (h r hr p hp) (by decide)
theorem minT {A : List (List (Int × Int))} {n : Nat} (h : BdM 1 A) (hn : A.length = n) (h64 : n ≤ 64) : MinB n n 1050641 (at2 A) := fun s f g h1 h2 => zl_up ((tot_small (by omega) h).minB (W := n) hn h64 s f g h1 h2) (by omega)
theorem minT2 {A : List (List (Int × Int))} {n : Nat} (h : BdM 1 A) (hn : A.length = n) (h64 : n ≤ 64) : MinB (n + n) (n + n) 1050641 (brd n (at2 A)) := (tot_small (by omega) h).brd hn h64
section
variable {w : World} {m L c1 c2 : Nat} {o1 o2 : Option Addr} {zs : List Int}
set_option maxHeartbeats 4000000 in
set_option maxRecDepth 20000 in
theorem whole_yes (h1 : LZ w o1 zs) (h2 : LZ w o2 zs) (hn : zs.length = m) (hm : m ≤ 1000000) (hB : ∀ z ∈ zs, (dig z.natAbs).length ≤ L) (hL : L ≤ 80000000) :
    Calls Tryz.prog 11 #[.slice o1 m c1, .slice o2 m c2] w fun e w' => e = .returned (.bool true) ∧ Below w.heap.size w w' := by
  have H1 := hide h1
  have H2 := hide h2
  have HB := hide hB
  have t0 : ((m : Int) != (m : Int)) = false := by simp
  clear h1 h2 hB
  go_enter Tryz.func11, Tryz.ntmps11
  have hs := St.nil w
  refine wp_seq_k ?_
  intro K1 hK1
  refine rg [0] ?_
  refine sq ?_
  refine .mv ?_
  apply wpSq_end
  refine hK1 _ _ ?_
  refine wp_seq_k ?_
  intro K2 hK2
  refine wp_seq_k ?_
  intro K3 hK3
  refine rg [0, 1, 2, 3, 4] ?_
  refine sq ?_
  refine .mv ?_
  refine sq ?_
  refine .r0 ?_
  refine sq ?_
  refine .mv ?_
  refine sq ?_
  refine .r0 ?_
  refine sq ?_
  refine .r0 ?_
  apply wpSq_end
  refine hK3 _ _ ?_
  refine cf ?_
  refine wp_skip ?_
  refine hK2 _ _ ?_
  refine wp_seq_k ?_
  intro K4 hK4
  refine wp_seq_k ?_
  intro K5 hK5
  refine rg [0] ?_
  refine sq ?_
  refine .mv ?_
  apply wpSq_end
  refine hK5 _ _ ?_
  refine wp_block ?_
  have hd1 := hs.2.1
  go_loopg [5] m (fun kz s5 wr => ∃ (i : Nat), s5 = .int .i64 (i : Int) ∧ i + kz = m ∧ St w [] wr)
  case atStart => exact ⟨0, rfl, by omega, hs⟩
  case round =>
  clear hs
  obtain ⟨i, rfl, him, hs⟩ := hrel
  by_cases hi : i < m
  · have HI := hide hi
    have t1 : ((i : Int) < (m : Int)) = True := eq_true (by omega)
    have hz : i < zs.length := by omega
    obtain ⟨g1, f1', u1, y1, z1, rfl, x1, d1⟩ := H1.out.resolve_left (fun h => by rw [h] at hz; exact absurd hz (Nat.not_lt_zero _))
    obtain ⟨g2, f2', u2, y2, z2, rfl, x2, d2⟩ := H2.out.resolve_left (fun h => by rw [h] at hz; exact absurd hz (Nat.not_lt_zero _))
    obtain ⟨n1, p1, k1, q1, ea1, ea2, za⟩ := d1 i hz
    obtain ⟨n2, p2, k2, q2, eb1, eb2, zb⟩ := d2 i hz
    obtain ⟨Z, hZ⟩ : ∃ Z, zs[i] = Z := ⟨_, rfl⟩
    have LZZ := hide (show (dig Z.natAbs).length ≤ L by rw [← hZ]; exact HB.out _ (List.getElem_mem hz))
    rw [hZ] at za zb
    have zaa := za.bl hs.b
    have zbb := (zb.bl hs.b).zn LZZ.out
    replace x1 := x1.bl hs.b
    replace x2 := x2.bl hs.b
    clear d1 d2 hZ za zb
    refine wp_seq_k ?_
    intro K6 hK6
    refine wp_seq_k ?_
    intro K7 hK7
    refine rg [0, 1, 2, 3] ?_
    refine sq ?_
    refine .mv ?_
    refine sq ?_
    refine .mv ?_
    refine sq ?_
    refine .r0 ?_
    refine sq ?_
    refine .r0 ?_
    apply wpSq_end
    refine hK7 _ _ ?_
    refine ct ?_
    refine wp_skip ?_
    refine hK6 _ _ ?_
    refine wp_seq_k ?_
    intro K8 hK8
    refine wp_block ?_
    refine wp_seq_k ?_
    intro K9 hK9
    refine wp_region_f4 [(0, false), (1, false), (2, false), (3, false), (4, false), (5, false), (6, false), (7, false), (8, true), (9, false)] [] [] (fun _ => default) [99, 99, 99, 0, 99, 99, 99, 1, 99, 99] [] (.c x1 (.c x2 .n)) fn fun w_2 n2 => ?_
    replace x1 := x1.bl n2; replace x2 := x2.bl n2; replace hs := hs.bl n2
    refine fmv ?_
    refine fmv ?_
    refine f0 ?_
    apply wpFl_ld rfl rfl; (case h1 => intro w' hC K hK; have c0 := Bs.cell hC ((f1' + i * 2)) ea1; have c1 := Bs.cell hC ((f1' + i * 2) + 1) ea2; go_big_op; exact hK); iterate 4 kernel_rfl
    refine fmv ?_
    refine fmv ?_
    refine f0 ?_
    apply wpFl_ld rfl rfl; (case h1 => intro w' hC K hK; have c0 := Bs.cell hC ((f2' + i * 2)) eb1; have c1 := Bs.cell hC ((f2' + i * 2) + 1) eb2; go_big_op; exact hK); iterate 4 kernel_rfl
    have Lzaa := LZZ
    refine fl fun w_3 n3 => ?_
    replace x1 := x1.bl n3; replace x2 := x2.bl n3; replace hs := hs.bl n3
    intro K hK
    have k0_2 := (kb n2).b n3
    replace zaa := zaa.k k0_2
    replace zbb := zbb.k k0_2
    go_big_op
    go_fit (rsame_zz zaa zbb (by omega) )
    rintro e w_4 ⟨rfl, hb_4⟩
    replace x1 := x1.bl hb_4; replace x2 := x2.bl hb_4; replace hs := hs.bl hb_4
    refine hK _ _ rfl ⟨hb_4, (And.intro x1 (And.intro x2 trivial))⟩ ?_
    clear hK K
    refine f0 ?_
    refine e0 hs ?_; clear hs; intro w_5 hs n5
    replace x1 := x1.bl n5; replace x2 := x2.bl n5
    apply wpTail_end
    refine hK9 _ _ ?_
    refine cf ?_
    refine wp_skip ?_
    refine hK8 _ _ ?_
    refine rg [0, 1, 2] ?_
    refine sq ?_
    refine .mv ?_
    refine sq ?_
    refine .r0 ?_
    refine sq ?_
    refine .mv ?_
    apply wpSq_end
    refine ‹∀ (a' : Act) (w' : World), Handed _ _ a' w' → _› _ _ ?_
    go_roundg (gk - 1)
    case rel => exact ⟨i + 1, by rfl, by omega, hs⟩
    case measure => omega
  · have HI := hide (show i = m by omega)
    have t1 : ((i : Int) < (m : Int)) = False := eq_false (by omega)
    refine wp_seq_k ?_
    intro K6 hK6
    refine wp_seq_k ?_
    intro K7 hK7
    refine rg [0, 1, 2, 3] ?_
    refine sq ?_
    refine .mv ?_
    refine sq ?_
    refine .mv ?_
    refine sq ?_
    refine .r0 ?_
    refine sq ?_
    refine .r0 ?_
    apply wpSq_end
    refine hK7 _ _ ?_
    refine cf ?_
    refine wp_exit ?_
    refine hK4 _ _ ?_
    refine wp_seq_k ?_
    intro K8 hK8
    refine rg [0] ?_
    refine sq ?_
    refine .mv ?_
    apply wpSq_end
    refine hK8 _ _ ?_
    refine wp_ret ?_
    try dsimp only [Exit.then, Exit.inBlock]
    refine bodyPost_ret (v := (.bool true)) (by simp [results, Tryz.results11, go_sem]) rfl ?_
    exact ⟨rfl, hs.b⟩
end
end Go.Proofs.YtcoodkdalblalaaGreatDoor
