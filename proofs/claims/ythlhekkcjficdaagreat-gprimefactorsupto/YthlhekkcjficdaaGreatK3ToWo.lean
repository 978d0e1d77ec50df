/- The reference's Sorted. -/
import Derived.Test.YthlhekkcjficdaaGreatSo5ToK2
import Derived.Test.YthlhekkcjficdaaGreatZaToJ6
import Derived.Test.YthlhekkcjficdaaGreatT1ToG7
import Derived.Test.YthlhekkcjficdaaGreatK19ToShelfS
import Derived.Test.YthlhekkcjficdaaGreatK6ToJ9
import Derived.Test.YthlhekkcjficdaaGreatK1ToK12
import Derived.Test.YthlhekkcjficdaaGreatWkToG2

namespace Go.Proofs.YthlhekkcjficdaaGreat
open Go Go.RowKit Dig
set_option linter.unusedVariables false

section
set_option maxHeartbeats 4000000 in
set_option maxRecDepth 20000 in
theorem sorted_short {w : World} {o : Option Addr} {N c : Nat} (h2 : N < 2) :
    Calls Tryz.prog 28 #[.slice o N c] w fun e w' => e = .returned (.slice o N c) ∧ Below w.heap.size w w' := by
  go_enter Tryz.func28, Tryz.ntmps28
  have hs := St.nil w
  refine wp_seq_k ?_
  intro K1 hK1
  refine rg [0] ?_
  refine sq ?_
  refine .mv ?_
  apply wpSq_end
  refine hK1 _ _ ?_
  refine wp_seq_k ?_
  intro K2 hK2
  refine wp_seq_k ?_
  intro K3 hK3
  refine rg [0, 1, 2] ?_
  refine sq ?_
  refine .mv ?_
  refine sq ?_
  refine .r0 ?_
  refine sq ?_
  refine .r0 ?_
  apply wpSq_end
  refine hK3 _ _ ?_
  refine ct ?_
  refine wp_seq_k ?_
  intro K4 hK4
  refine rg [0, 1] ?_
  refine sq ?_
  refine .mv ?_
  refine sq ?_
  refine .mv ?_
  apply wpSq_end
  refine hK4 _ _ ?_
  refine wp_ret ?_
  try dsimp only [Exit.then, Exit.inBlock]
  refine bodyPost_ret (v := (.slice o N c)) (by simp [results, Tryz.results28, go_sem]) rfl ?_
  exact ⟨rfl, hs.b⟩
/-- What a call of Sorted does. -/
def Sd (f : Nat) (w : World) (o : Option Addr) (c : Nat) (ps : List (Int × Int)) : Prop :=
  Calls Tryz.prog 28 #[.slice o ps.length c] w fun e w' => ∃ o' c', e = .returned (.slice o' ps.length c') ∧ ps.length ≤ c' ∧ SG w' o' (srt f ps) ∧ Below w.heap.size w w'
set_option maxHeartbeats 4000000 in
set_option maxRecDepth 20000 in
theorem sorted_long {f : Nat} {w : World} {g off N c h : Nat} {ps : List (Int × Int)} (ih1 : ∀ w', Below w.heap.size w w' → Sd f w' (some ⟨g, off, none⟩) c (ps.take h)) (ih2 : ∀ w', Below w.heap.size w w' → Sd f w' (some ⟨g, off + h * 4, none⟩) (c - h) (ps.drop h))
    (hN : ps.length = N) (h2 : 2 ≤ N) (hh : N / 2 = h) (hc : N ≤ c) (hn : N ≤ 1000000) (hcc : c ≤ 9223372036854775807) (hl : ∀ p ∈ ps, (dig p.1.natAbs).length ≤ 20000000 ∧ (dig p.2.natAbs).length ≤ 20000000) :
    Calls Tryz.prog 28 #[.slice (some ⟨g, off, none⟩) N c] w fun e w' => ∃ o' c' xs, e = .returned (.slice o' N c') ∧ Lst w' w.heap.size 26 4 (.slice o' N c') N xs ∧ GD w' xs (srt (f + 1) ps) ∧ Below w.heap.size w w' := by
  have hq : Int.tdiv (N : Int) 2 = (h : Int) := by rw [Int.tdiv_eq_ediv_of_nonneg (by omega)]; omega
  have IH1 := hide ih1
  have IH2 := hide ih2
  have l1 : (ps.take h).length = h := by rw [List.length_take]; omega
  have l2 : (ps.drop h).length = N - h := by rw [List.length_drop]; omega
  unfold Sd at IH1 IH2
  rw [l1] at IH1
  rw [l2] at IH2
  have HS := hide (show srt (f + 1) ps = mrg (srt f (ps.take h)) (srt f (ps.drop h)) from by rw [srt, if_neg (by omega), hN, hh])
  have HL := hide (And.intro (fun p (hp : p ∈ srt f (ps.take h)) => hl p (List.mem_of_mem_take (srt_mem hp))) (fun p (hp : p ∈ srt f (ps.drop h)) => hl p (List.mem_of_mem_drop (srt_mem hp))))
  have hu := srt_len f (ps.take h)
  have hv := srt_len f (ps.drop h)
  rw [l1] at hu
  rw [l2] at hv
  have hh1 : 1 ≤ h := by omega
  have hh2 : h < N := by omega
  clear ih1 ih2 l1 l2 hl hh hN
  go_enter Tryz.func28, Tryz.ntmps28
  have hs := St.nil w
  refine wp_seq_k ?_
  intro K1 hK1
  refine rg [0] ?_
  refine sq ?_
  refine .mv ?_
  apply wpSq_end
  refine hK1 _ _ ?_
  refine wp_seq_k ?_
  intro K2 hK2
  refine wp_seq_k ?_
  intro K3 hK3
  refine rg [0, 1, 2] ?_
  refine sq ?_
  refine .mv ?_
  refine sq ?_
  refine .r0 ?_
  refine sq ?_
  refine .r0 ?_
  apply wpSq_end
  refine hK3 _ _ ?_
  refine cf ?_
  refine wp_skip ?_
  refine hK2 _ _ ?_
  refine wp_seq_k ?_
  intro K4 hK4
  refine rg [0, 1, 2, 3, 4, 5, 6] ?_
  refine sq ?_
  refine .mv ?_
  refine sq ?_
  refine .mv ?_
  refine sq ?_
  refine .r0 ?_
  refine sq ?_
  refine .r0 ?_
  refine sq ?_
  refine .r0 ?_
  refine sq ?_
  intro K hK
  go_big_op
  go_fit (IH1.out _ hs.b)
  rintro e w_1 ⟨o_a, c_a, rfl, H_a, S_a, hb_1⟩
  replace hs := hs.bl hb_1
  refine hK _ _ rfl trivial ?_
  clear hK K
  refine sq ?_
  refine .mv ?_
  apply wpSq_end
  refine hK4 _ _ ?_
  refine wp_seq_k ?_
  intro K5 hK5
  refine rg [0, 1, 2, 3, 4, 5, 6] ?_
  refine sq ?_
  refine .mv ?_
  refine sq ?_
  refine .mv ?_
  refine sq ?_
  refine .r0 ?_
  refine sq ?_
  refine .r0 ?_
  refine sq ?_
  refine .r0 ?_
  refine sq ?_
  intro K hK
  go_big_op
  go_fit (IH2.out _ hs.b)
  rintro e w_2 ⟨o_b, c_b, rfl, H_b, S_b, hb_2⟩
  replace S_a := S_a.bl hb_2; replace hs := hs.bl hb_2
  refine hK _ _ rfl trivial ?_
  clear hK K
  refine sq ?_
  refine .mv ?_
  apply wpSq_end
  refine hK5 _ _ ?_
  refine wp_seq_k ?_
  intro K6 hK6
  refine rg [0] ?_
  refine sq ?_
  refine .mv ?_
  apply wpSq_end
  refine hK6 _ _ ?_
  refine wp_seq_k ?_
  intro K7 hK7
  refine rg [0] ?_
  refine sq ?_
  refine .mv ?_
  apply wpSq_end
  refine hK7 _ _ ?_
  refine wp_seq_k ?_
  intro K8 hK8
  refine rg [0] ?_
  refine sq ?_
  refine .mv ?_
  apply wpSq_end
  refine hK8 _ _ ?_
  refine wp_seq_k ?_
  intro K9 hK9
  refine wp_block ?_
  have HB0 := hide hs.b
  clear IH1 IH2
  generalize srt f (ps.take h) = U at *
  generalize srt f (ps.drop h) = V at *
  obtain ⟨ga, offa, cura, XA, rfl, xa, da, ha⟩ := S_a.open (by omega)
  obtain ⟨gb, offb, curb, XB, rfl, xb, db, hb2⟩ := S_b.open (by omega)
  have HA := hide ha
  have HB := hide hb2
  have lta := xa.lt
  have ltb := xb.lt
  clear ha hb2
  have hd3 := hs.2.1
  go_loopg [5, 6, 7] N (fun k s5 s6 s7 wr => ∃ (i j M : Nat) (o : Option Addr) (c : Nat) (xs : List Value) (L : List (Int × Int)), s5 = .slice o M c ∧ s6 = .int .i64 (i : Int) ∧ s7 = .int .i64 (j : Int) ∧ i ≤ h ∧ j ≤ N - h ∧ i + j + k = N ∧ M = i + j ∧ Hid (mrg U V = L ++ mrg (U.drop i) (V.drop j)) ∧ GD wr xs L ∧ Bs wr ga cura 26 ∧ Bs wr gb curb 26 ∧ GD wr XA U ∧ GD wr XB V ∧ St w_2 [ls w_2.heap.size 26 4 (.slice o M c) M xs] wr)
  case atStart => exact ⟨0, 0, 0, none, 0, [], [], rfl, rfl, rfl, by omega, by omega, by omega, rfl, hide rfl, GD.nil _, xa, xb, da, db, (St.nil _).l0 _ _⟩
  case round =>
  clear S_a S_b hs
  obtain ⟨i, j, M, o, c, xs, L, rfl, rfl, rfl, hi, hj, hijk, rfl, HI, d, xa, xb, da, db, hs⟩ := hrel
  rcases Nat.lt_or_ge i h with hi2 | hi2
  · have hiu : i < U.length := by omega
    obtain ⟨n1, o1, k1, q1, n2, o2, k2, q2, e1, e2, e3, e4, z1, z2⟩ := da.at hiu
    replace e1 : Hid (cura[offa + i * 4]? = some (.bool n1)) := hide (HA.out (i * 4) 0 _ e1); replace e2 := hide (HA.out (i * 4) 1 _ e2); replace e3 := hide (HA.out (i * 4) 2 _ e3); replace e4 := hide (HA.out (i * 4) 3 _ e4)
    have Lz1 := hide (HL.out.1 _ (List.getElem_mem hiu)).1
    have Lz2 := hide (HL.out.1 _ (List.getElem_mem hiu)).2
    rcases Nat.lt_or_ge j (N - h) with hj2 | hj2
    · have hjv : j < V.length := by omega
      obtain ⟨n3, o3, k3, q3, n4, o4, k4, q4, e5, e6, e7, e8, z3, z4⟩ := db.at hjv
      replace e5 : Hid (curb[offb + j * 4]? = some (.bool n3)) := hide (HB.out (j * 4) 0 _ e5); replace e6 := hide (HB.out (j * 4) 1 _ e6); replace e7 := hide (HB.out (j * 4) 2 _ e7); replace e8 := hide (HB.out (j * 4) 3 _ e8)
      have Lz3 := hide (HL.out.2 _ (List.getElem_mem hjv)).1
      have Lz4 := hide (HL.out.2 _ (List.getElem_mem hjv)).2
      have h5 : ((i : Int) < (h : Int)) = True := by simp; omega
      have h6 : ((j : Int) == ((N - h : Nat) : Int)) = false := by rw [beq_eq_false_iff_ne]; omega
      obtain ⟨C, hC⟩ : ∃ C, gcmp U[i].1 U[i].2 V[j].1 V[j].2 = C := ⟨_, rfl⟩
      have HC := hide hC
      by_cases hg : C ≤ 0
      · have HM := hide (mrg_left (us := U) (vs := V) (i := i) (j := j) hiu (fun _ => by unfold gle; rw [hC]; exact hg))
        have HI' := hide (show mrg U V = (L ++ [U[i]]) ++ mrg (U.drop (i + 1)) (V.drop j) from by rw [HI.out, HM.out, List.append_assoc]; rfl)
        clear HI HM hC
        refine wp_seq_k ?_
        intro K10 hK10
        refine wp_seq_k ?_
        intro K11 hK11
        refine rg [0, 1, 2, 3, 4, 5, 6, 7, 8, 9] ?_
        refine sq ?_
        refine .mv ?_
        refine sq ?_
        refine .mv ?_
        refine sq ?_
        refine .r0 ?_
        refine sq ?_
        refine .r0 ?_
        refine sq ?_
        refine .mv ?_
        refine sk ?_
        refine sk ?_
        refine sk ?_
        refine sk ?_
        refine sq ?_
        refine .r0 ?_
        apply wpSq_end
        refine hK11 _ _ ?_
        refine ct ?_
        refine wp_skip ?_
        refine hK10 _ _ ?_
        refine wp_block ?_
        refine wp_seq_k ?_
        intro K12 hK12
        refine wp_region_f4 [(0, false), (1, false), (2, false), (3, false), (4, false), (5, false), (6, false), (7, false), (8, false), (9, false), (10, false), (11, false), (12, false), (13, false), (14, false), (15, false), (16, false), (17, false), (18, true), (19, false), (20, false), (21, false)] [] [] (fun _ => default) [99, 99, 99, 99, 99, 99, 99, 99, 99, 99, 99, 99, 99, 0, 99, 99, 99, 1, 99, 99, 99, 99] [] (.c xa (.c xb .n)) fn fun w_4 n4 => ?_
        replace xa := xa.bl n4; replace xb := xb.bl n4; replace hs := hs.bl n4
        refine fmv ?_
        refine fmv ?_
        refine fb ?_
        refine f0 ?_
        refine fmv ?_
        refine fmv ?_
        refine fmv ?_
        refine fb ?_
        refine f0 ?_
        refine fmv ?_
        refine fmv ?_
        refine fmv ?_
        refine f0 ?_
        apply wpFl_ld rfl rfl; (case h1 => intro w' hC K hK; have c0 := Bs.cell hC ((offa + i * 4)) e1.out; have c1 := Bs.cell hC ((offa + i * 4) + 1) e2.out; have c2 := Bs.cell hC ((offa + i * 4) + 2) e3.out; have c3 := Bs.cell hC ((offa + i * 4) + 3) e4.out; go_big_op; exact hK); iterate 4 kernel_rfl
        refine fmv ?_
        refine fmv ?_
        refine f0 ?_
        apply wpFl_ld rfl rfl; (case h1 => intro w' hC K hK; have c0 := Bs.cell hC ((offb + j * 4)) e5.out; have c1 := Bs.cell hC ((offb + j * 4) + 1) e6.out; have c2 := Bs.cell hC ((offb + j * 4) + 2) e7.out; have c3 := Bs.cell hC ((offb + j * 4) + 3) e8.out; go_big_op; exact hK); iterate 4 kernel_rfl
        refine fl fun w_5 n5 => ?_
        replace xa := xa.bl n5; replace xb := xb.bl n5; replace hs := hs.bl n5
        intro K hK
        have k0_2 := (kb n4).b n5
        replace z1 := z1.k k0_2
        replace z2 := z2.k k0_2
        replace z3 := z3.k k0_2
        replace z4 := z4.k k0_2
        go_big_op
        go_fit (rgCmp_any (PN.mk' (z1.zn Lz1.out) (z2.zn Lz2.out)) (PN.mk' (z3.zn Lz3.out) (z4.zn Lz4.out)) (by omega) (by omega) (by omega) (by omega) )
        rintro e w_6 ⟨rfl, hb_6⟩
        replace xa := xa.bl hb_6; replace xb := xb.bl hb_6; replace hs := hs.bl hb_6
        rw [HC.out]
        refine hK _ _ rfl ⟨hb_6, (And.intro xa (And.intro xb trivial))⟩ ?_
        clear hK K
        refine f0 ?_
        refine f0 ?_
        refine f0 ?_
        refine e0 hs ?_; clear hs; intro w_7 hs n7
        replace xa := xa.bl n7; replace xb := xb.bl n7
        apply wpTail_end
        refine hK12 _ _ ?_
        refine ct ?_
        refine wp_seq_k ?_
        intro K13 hK13
        refine rg [0, 1, 2, 3, 4, 5, 6, 7] ?_
        refine sq ?_
        refine .mv ?_
        refine sq ?_
        refine .mv ?_
        refine sq ?_
        refine .mv ?_
        refine sq ?_
        refine .r0 ?_
        refine sq ?_
        refine .r4 ⟨xa.cell _ e1.out, xa.cell _ e2.out, xa.cell _ e3.out, xa.cell _ e4.out⟩ ?_
        refine sq ?_
        refine .al hs ?_; clear hs; intro p_b1 w_8 hs n8 kb_b1
        replace xa := xa.bl n8; replace xb := xb.bl n8
        refine sq ?_
        have k2_5 := ((kb hb_6).b n7).b n8
        replace z1 := z1.k k2_5
        replace z2 := z2.k k2_5
        have k0_5 := ((k0_2.b hb_6).b n7).b n8
        replace d := d.k k0_5
        replace d := d.snoc (.mk' z1 z2)
        refine .ap 1 hs hs.g0 ?_; clear hs; intro o_L_9 c_L_9 w_9 hs kp9 hw9; simp only [List.set_cons_succ, List.set_cons_zero] at hs
        replace xa := xa.lo lta hw9
        replace xb := xb.lo ltb hw9
        refine sq ?_
        refine .mv ?_
        apply wpSq_end
        refine hK13 _ _ ?_
        refine rg [0, 1, 2] ?_
        refine sq ?_
        refine .mv ?_
        refine sq ?_
        refine .r0 ?_
        refine sq ?_
        refine .mv ?_
        apply wpSq_end
        have k5_6 := kp9
        replace d := d.k k5_6
        have k0_6 := k0_5.t kp9
        replace da := da.k k0_6
        replace db := db.k k0_6
        refine ‹∀ (a' : Act) (w' : World), Handed _ _ a' w' → _› _ _ ?_
        go_roundg (gk - 1)
        case rel => exact ⟨i + 1, j, i + j + 1, _, _, _, _, by rfl, by rfl, by rfl, by omega, by omega, by omega, by omega, HI', d, xa, xb, da, db, hs.sub (.cons _ (.cons_cons _ .slnil))⟩
        case measure => omega
      · have HM := hide (mrg_right (us := U) (vs := V) (i := i) (j := j) hjv (fun _ => by unfold gle; rw [hC]; exact hg))
        have HI' := hide (show mrg U V = (L ++ [V[j]]) ++ mrg (U.drop i) (V.drop (j + 1)) from by rw [HI.out, HM.out, List.append_assoc]; rfl)
        clear HI HM hC
        refine wp_seq_k ?_
        intro K10 hK10
        refine wp_seq_k ?_
        intro K11 hK11
        refine rg [0, 1, 2, 3, 4, 5, 6, 7, 8, 9] ?_
        refine sq ?_
        refine .mv ?_
        refine sq ?_
        refine .mv ?_
        refine sq ?_
        refine .r0 ?_
        refine sq ?_
        refine .r0 ?_
        refine sq ?_
        refine .mv ?_
        refine sk ?_
        refine sk ?_
        refine sk ?_
        refine sk ?_
        refine sq ?_
        refine .r0 ?_
        apply wpSq_end
        refine hK11 _ _ ?_
        refine ct ?_
        refine wp_skip ?_
        refine hK10 _ _ ?_
        refine wp_block ?_
        refine wp_seq_k ?_
        intro K12 hK12
        refine wp_region_f4 [(0, false), (1, false), (2, false), (3, false), (4, false), (5, false), (6, false), (7, false), (8, false), (9, false), (10, false), (11, false), (12, false), (13, false), (14, false), (15, false), (16, false), (17, false), (18, true), (19, false), (20, false), (21, false)] [] [] (fun _ => default) [99, 99, 99, 99, 99, 99, 99, 99, 99, 99, 99, 99, 99, 0, 99, 99, 99, 1, 99, 99, 99, 99] [] (.c xa (.c xb .n)) fn fun w_4 n4 => ?_
        replace xa := xa.bl n4; replace xb := xb.bl n4; replace hs := hs.bl n4
        refine fmv ?_
        refine fmv ?_
        refine fb ?_
        refine f0 ?_
        refine fmv ?_
        refine fmv ?_
        refine fmv ?_
        refine fb ?_
        refine f0 ?_
        refine fmv ?_
        refine fmv ?_
        refine fmv ?_
        refine f0 ?_
        apply wpFl_ld rfl rfl; (case h1 => intro w' hC K hK; have c0 := Bs.cell hC ((offa + i * 4)) e1.out; have c1 := Bs.cell hC ((offa + i * 4) + 1) e2.out; have c2 := Bs.cell hC ((offa + i * 4) + 2) e3.out; have c3 := Bs.cell hC ((offa + i * 4) + 3) e4.out; go_big_op; exact hK); iterate 4 kernel_rfl
        refine fmv ?_
        refine fmv ?_
        refine f0 ?_
        apply wpFl_ld rfl rfl; (case h1 => intro w' hC K hK; have c0 := Bs.cell hC ((offb + j * 4)) e5.out; have c1 := Bs.cell hC ((offb + j * 4) + 1) e6.out; have c2 := Bs.cell hC ((offb + j * 4) + 2) e7.out; have c3 := Bs.cell hC ((offb + j * 4) + 3) e8.out; go_big_op; exact hK); iterate 4 kernel_rfl
        refine fl fun w_5 n5 => ?_
        replace xa := xa.bl n5; replace xb := xb.bl n5; replace hs := hs.bl n5
        intro K hK
        have k0_2 := (kb n4).b n5
        replace z1 := z1.k k0_2
        replace z2 := z2.k k0_2
        replace z3 := z3.k k0_2
        replace z4 := z4.k k0_2
        go_big_op
        go_fit (rgCmp_any (PN.mk' (z1.zn Lz1.out) (z2.zn Lz2.out)) (PN.mk' (z3.zn Lz3.out) (z4.zn Lz4.out)) (by omega) (by omega) (by omega) (by omega) )
        rintro e w_6 ⟨rfl, hb_6⟩
        replace xa := xa.bl hb_6; replace xb := xb.bl hb_6; replace hs := hs.bl hb_6
        rw [HC.out]
        refine hK _ _ rfl ⟨hb_6, (And.intro xa (And.intro xb trivial))⟩ ?_
        clear hK K
        refine f0 ?_
        refine f0 ?_
        refine f0 ?_
        refine e0 hs ?_; clear hs; intro w_7 hs n7
        replace xa := xa.bl n7; replace xb := xb.bl n7
        apply wpTail_end
        refine hK12 _ _ ?_
        refine cf ?_
        refine wp_seq_k ?_
        intro K13 hK13
        refine rg [0, 1, 2, 3, 4, 5, 6, 7] ?_
        refine sq ?_
        refine .mv ?_
        refine sq ?_
        refine .mv ?_
        refine sq ?_
        refine .mv ?_
        refine sq ?_
        refine .r0 ?_
        refine sq ?_
        refine .r4 ⟨xb.cell _ e5.out, xb.cell _ e6.out, xb.cell _ e7.out, xb.cell _ e8.out⟩ ?_
        refine sq ?_
        refine .al hs ?_; clear hs; intro p_b1 w_8 hs n8 kb_b1
        replace xa := xa.bl n8; replace xb := xb.bl n8
        refine sq ?_
        have k2_5 := ((kb hb_6).b n7).b n8
        replace z3 := z3.k k2_5
        replace z4 := z4.k k2_5
        have k0_5 := ((k0_2.b hb_6).b n7).b n8
        replace d := d.k k0_5
        replace d := d.snoc (.mk' z3 z4)
        refine .ap 1 hs hs.g0 ?_; clear hs; intro o_L_9 c_L_9 w_9 hs kp9 hw9; simp only [List.set_cons_succ, List.set_cons_zero] at hs
        replace xa := xa.lo lta hw9
        replace xb := xb.lo ltb hw9
        refine sq ?_
        refine .mv ?_
        apply wpSq_end
        refine hK13 _ _ ?_
        refine rg [0, 1, 2] ?_
        refine sq ?_
        refine .mv ?_
        refine sq ?_
        refine .r0 ?_
        refine sq ?_
        refine .mv ?_
        apply wpSq_end
        have k5_6 := kp9
        replace d := d.k k5_6
        have k0_6 := k0_5.t kp9
        replace da := da.k k0_6
        replace db := db.k k0_6
        refine ‹∀ (a' : Act) (w' : World), Handed _ _ a' w' → _› _ _ ?_
        go_roundg (gk - 1)
        case rel => exact ⟨i, j + 1, i + j + 1, _, _, _, _, by rfl, by rfl, by rfl, by omega, by omega, by omega, by omega, HI', d, xa, xb, da, db, hs.sub (.cons _ (.cons_cons _ .slnil))⟩
        case measure => omega
    · have HM := hide (mrg_left (us := U) (vs := V) (i := i) (j := j) hiu (fun hc => absurd hc (by omega)))
      have HI' := hide (show mrg U V = (L ++ [U[i]]) ++ mrg (U.drop (i + 1)) (V.drop j) from by rw [HI.out, HM.out, List.append_assoc]; rfl)
      clear HI HM
      have h5 : ((i : Int) < (h : Int)) = True := by simp; omega
      have h6 : ((j : Int) == ((N - h : Nat) : Int)) = true := by simp only [beq_iff_eq]; omega
      refine wp_seq_k ?_
      intro K10 hK10
      refine wp_seq_k ?_
      intro K11 hK11
      refine rg [0, 1, 2, 3, 4, 5, 6, 7, 8, 9] ?_
      refine sq ?_
      refine .mv ?_
      refine sq ?_
      refine .mv ?_
      refine sq ?_
      refine .r0 ?_
      refine sq ?_
      refine .r0 ?_
      refine sq ?_
      refine .mv ?_
      refine sk ?_
      refine sk ?_
      refine sk ?_
      refine sk ?_
      refine sq ?_
      refine .r0 ?_
      apply wpSq_end
      refine hK11 _ _ ?_
      refine ct ?_
      refine wp_skip ?_
      refine hK10 _ _ ?_
      refine wp_block ?_
      refine wp_seq_k ?_
      intro K12 hK12
      refine wp_region_f4 [(0, false), (1, false), (2, false), (3, false), (4, false), (5, false), (6, false), (7, false), (8, false), (9, false), (10, false), (11, false), (12, false), (13, false), (14, false), (15, false), (16, false), (17, false), (18, true), (19, false), (20, false), (21, false)] [] [] (fun _ => default) [99, 99, 99, 99, 99, 99, 99, 99, 99, 99, 99, 99, 99, 0, 99, 99, 99, 1, 99, 99, 99, 99] [] (.c xa (.c xb .n)) fn fun w_4 n4 => ?_
      replace xa := xa.bl n4; replace xb := xb.bl n4; replace hs := hs.bl n4
      refine fmv ?_
      refine fmv ?_
      refine fb ?_
      refine f0 ?_
      refine fmv ?_
      refine fk ?_
      refine fk ?_
      refine fk ?_
      refine fk ?_
      refine fk ?_
      refine fk ?_
      refine fk ?_
      refine fk ?_
      refine fk ?_
      refine fk ?_
      refine fk ?_
      refine fk ?_
      refine fk ?_
      refine fkc ?_
      refine fk ?_
      refine fk ?_
      refine f0 ?_
      refine e0 hs ?_; clear hs; intro w_5 hs n5
      replace xa := xa.bl n5; replace xb := xb.bl n5
      apply wpTail_end
      refine hK12 _ _ ?_
      refine ct ?_
      refine wp_seq_k ?_
      intro K13 hK13
      refine rg [0, 1, 2, 3, 4, 5, 6, 7] ?_
      refine sq ?_
      refine .mv ?_
      refine sq ?_
      refine .mv ?_
      refine sq ?_
      refine .mv ?_
      refine sq ?_
      refine .r0 ?_
      refine sq ?_
      refine .r4 ⟨xa.cell _ e1.out, xa.cell _ e2.out, xa.cell _ e3.out, xa.cell _ e4.out⟩ ?_
      refine sq ?_
      refine .al hs ?_; clear hs; intro p_b1 w_6 hs n6 kb_b1
      replace xa := xa.bl n6; replace xb := xb.bl n6
      refine sq ?_
      have k0_3 := ((kb n4).b n5).b n6
      replace z1 := z1.k k0_3
      replace z2 := z2.k k0_3
      replace d := d.k k0_3
      replace d := d.snoc (.mk' z1 z2)
      refine .ap 1 hs hs.g0 ?_; clear hs; intro o_L_7 c_L_7 w_7 hs kp7 hw7; simp only [List.set_cons_succ, List.set_cons_zero] at hs
      replace xa := xa.lo lta hw7
      replace xb := xb.lo ltb hw7
      refine sq ?_
      refine .mv ?_
      apply wpSq_end
      refine hK13 _ _ ?_
      refine rg [0, 1, 2] ?_
      refine sq ?_
      refine .mv ?_
      refine sq ?_
      refine .r0 ?_
      refine sq ?_
      refine .mv ?_
      apply wpSq_end
      have k3_4 := kp7
      replace d := d.k k3_4
      have k0_4 := k0_3.t kp7
      replace da := da.k k0_4
      replace db := db.k k0_4
      refine ‹∀ (a' : Act) (w' : World), Handed _ _ a' w' → _› _ _ ?_
      go_roundg (gk - 1)
      case rel => exact ⟨i + 1, j, i + j + 1, _, _, _, _, by rfl, by rfl, by rfl, by omega, by omega, by omega, by omega, HI', d, xa, xb, da, db, hs.sub (.cons _ (.cons_cons _ .slnil))⟩
      case measure => omega
  · have h5 : ((i : Int) < (h : Int)) = False := by simp; omega
    rcases Nat.lt_or_ge j (N - h) with hj2 | hj2
    · have hjv : j < V.length := by omega
      obtain ⟨n3, o3, k3, q3, n4, o4, k4, q4, e5, e6, e7, e8, z3, z4⟩ := db.at hjv
      replace e5 : Hid (curb[offb + j * 4]? = some (.bool n3)) := hide (HB.out (j * 4) 0 _ e5); replace e6 := hide (HB.out (j * 4) 1 _ e6); replace e7 := hide (HB.out (j * 4) 2 _ e7); replace e8 := hide (HB.out (j * 4) 3 _ e8)
      have HM := hide (mrg_right (us := U) (vs := V) (i := i) (j := j) hjv (fun hc => absurd hc (by omega)))
      have HI' := hide (show mrg U V = (L ++ [V[j]]) ++ mrg (U.drop i) (V.drop (j + 1)) from by rw [HI.out, HM.out, List.append_assoc]; rfl)
      clear HI HM
      have h6 : ((j : Int) == ((N - h : Nat) : Int)) = false := by rw [beq_eq_false_iff_ne]; omega
      have h7 : ((j : Int) < ((N - h : Nat) : Int)) = True := by simp only [eq_iff_iff, iff_true]; omega
      refine wp_seq_k ?_
      intro K10 hK10
      refine wp_seq_k ?_
      intro K11 hK11
      refine rg [0, 1, 2, 3, 4, 5, 6, 7, 8, 9] ?_
      refine sq ?_
      refine .mv ?_
      refine sq ?_
      refine .mv ?_
      refine sq ?_
      refine .r0 ?_
      refine sq ?_
      refine .r0 ?_
      refine sq ?_
      refine .mv ?_
      refine sq ?_
      refine .mv ?_
      refine sq ?_
      refine .mv ?_
      refine sq ?_
      refine .r0 ?_
      refine sq ?_
      refine .r0 ?_
      refine sq ?_
      refine .r0 ?_
      apply wpSq_end
      refine hK11 _ _ ?_
      refine ct ?_
      refine wp_skip ?_
      refine hK10 _ _ ?_
      refine wp_block ?_
      refine wp_seq_k ?_
      intro K12 hK12
      refine wp_region_f4 [(0, false), (1, false), (2, false), (3, false), (4, false), (5, false), (6, false), (7, false), (8, false), (9, false), (10, false), (11, false), (12, false), (13, false), (14, false), (15, false), (16, false), (17, false), (18, true), (19, false), (20, false), (21, false)] [] [] (fun _ => default) [99, 99, 99, 99, 99, 99, 99, 99, 99, 99, 99, 99, 99, 0, 99, 99, 99, 1, 99, 99, 99, 99] [] (.c xa (.c xb .n)) fn fun w_4 n4 => ?_
      replace xa := xa.bl n4; replace xb := xb.bl n4; replace hs := hs.bl n4
      refine fmv ?_
      refine fmv ?_
      refine fb ?_
      refine f0 ?_
      refine fmv ?_
      refine fmv ?_
      refine fmv ?_
      refine fb ?_
      refine f0 ?_
      refine fmv ?_
      refine fk ?_
      refine fk ?_
      refine fk ?_
      refine fk ?_
      refine fk ?_
      refine fk ?_
      refine fk ?_
      refine fk ?_
      refine fkc ?_
      refine fk ?_
      refine f0 ?_
      refine f0 ?_
      refine e0 hs ?_; clear hs; intro w_5 hs n5
      replace xa := xa.bl n5; replace xb := xb.bl n5
      apply wpTail_end
      refine hK12 _ _ ?_
      refine cf ?_
      refine wp_seq_k ?_
      intro K13 hK13
      refine rg [0, 1, 2, 3, 4, 5, 6, 7] ?_
      refine sq ?_
      refine .mv ?_
      refine sq ?_
      refine .mv ?_
      refine sq ?_
      refine .mv ?_
      refine sq ?_
      refine .r0 ?_
      refine sq ?_
      refine .r4 ⟨xb.cell _ e5.out, xb.cell _ e6.out, xb.cell _ e7.out, xb.cell _ e8.out⟩ ?_
      refine sq ?_
      refine .al hs ?_; clear hs; intro p_b1 w_6 hs n6 kb_b1
      replace xa := xa.bl n6; replace xb := xb.bl n6
      refine sq ?_
      have k0_3 := ((kb n4).b n5).b n6
      replace z3 := z3.k k0_3
      replace z4 := z4.k k0_3
      replace d := d.k k0_3
      replace d := d.snoc (.mk' z3 z4)
      refine .ap 1 hs hs.g0 ?_; clear hs; intro o_L_7 c_L_7 w_7 hs kp7 hw7; simp only [List.set_cons_succ, List.set_cons_zero] at hs
      replace xa := xa.lo lta hw7
      replace xb := xb.lo ltb hw7
      refine sq ?_
      refine .mv ?_
      apply wpSq_end
      refine hK13 _ _ ?_
      refine rg [0, 1, 2] ?_
      refine sq ?_
      refine .mv ?_
      refine sq ?_
      refine .r0 ?_
      refine sq ?_
      refine .mv ?_
      apply wpSq_end
      have k3_4 := kp7
      replace d := d.k k3_4
      have k0_4 := k0_3.t kp7
      replace da := da.k k0_4
      replace db := db.k k0_4
      refine ‹∀ (a' : Act) (w' : World), Handed _ _ a' w' → _› _ _ ?_
      go_roundg (gk - 1)
      case rel => exact ⟨i, j + 1, i + j + 1, _, _, _, _, by rfl, by rfl, by rfl, by omega, by omega, by omega, by omega, HI', d, xa, xb, da, db, hs.sub (.cons _ (.cons_cons _ .slnil))⟩
      case measure => omega
    · have hi3 : i = h := by omega
      have hj3 : j = N - h := by omega
      have h7 : ((j : Int) < ((N - h : Nat) : Int)) = False := by simp only [eq_iff_iff, iff_false]; omega
      have HE := hide (show mrg U V = L from by rw [HI.out, List.drop_eq_nil_of_le (by omega), List.drop_eq_nil_of_le (by omega), mrg, List.append_nil])
      clear HI hi3 hj3
      refine wp_seq_k ?_
      intro K10 hK10
      refine wp_seq_k ?_
      intro K11 hK11
      refine rg [0, 1, 2, 3, 4, 5, 6, 7, 8, 9] ?_
      refine sq ?_
      refine .mv ?_
      refine sq ?_
      refine .mv ?_
      refine sq ?_
      refine .r0 ?_
      refine sq ?_
      refine .r0 ?_
      refine sq ?_
      refine .mv ?_
      refine sq ?_
      refine .mv ?_
      refine sq ?_
      refine .mv ?_
      refine sq ?_
      refine .r0 ?_
      refine sq ?_
      refine .r0 ?_
      refine sq ?_
      refine .r0 ?_
      apply wpSq_end
      refine hK11 _ _ ?_
      refine cf ?_
      refine wp_exit ?_
      refine hK9 _ _ ?_
      refine wp_seq_k ?_
      intro K12 hK12
      refine rg [0, 1] ?_
      refine sq ?_
      refine .mv ?_
      refine sq ?_
      refine .mv ?_
      apply wpSq_end
      refine hK12 _ _ ?_
      refine wp_ret ?_
      try dsimp only [Exit.then, Exit.inBlock]
      refine bodyPost_ret (v := (.slice o (i + j) c)) (by simp [results, Tryz.results28, go_sem]) rfl ?_
      have hN : i + j = N := (by omega); subst hN; rw [HS.out, HE.out]; exact ⟨_, _, _, rfl, (hs.1.1.1).mono HB0.out.size, d, tm HB0.out hs.b⟩
theorem sorted_any : ∀ (f : Nat) {w : World} {o : Option Addr} {c : Nat} {ps : List (Int × Int)}, SG w o ps → ps.length ≤ f → ps.length ≤ c → ps.length ≤ 1000000 → c ≤ 9223372036854775807 → (∀ p ∈ ps, (dig p.1.natAbs).length ≤ 20000000 ∧ (dig p.2.natAbs).length ≤ 20000000) → Sd f w o c ps := by
  intro f
  induction f with
  | zero =>
    intro w o c ps S hf hc hn hcc hl
    have h0 : ps.length < 2 := by omega
    exact (sorted_short h0).mono fun e w' ⟨h1, h2⟩ => ⟨_, _, h1, hc, S.bl h2, h2⟩
  | succ f ih =>
    intro w o c ps S hf hc hn hcc hl
    rcases Nat.lt_or_ge ps.length 2 with h2 | h2
    · refine (sorted_short h2).mono fun e w' ⟨h3, h4⟩ => ⟨_, _, h3, hc, ?_, h4⟩
      rw [srt, if_pos h2]; exact S.bl h4
    · rcases S with rfl | ⟨g, off, cur, rfl, x, d⟩
      · simp at h2
      · have S : SG w (some ⟨g, off, none⟩) ps := .inr ⟨g, off, cur, rfl, x, d⟩
        refine (sorted_long (f := f) (h := ps.length / 2)
          (fun w' hb => ih ((S.left (ps.length / 2) (by omega)).bl hb) (by rw [List.length_take]; omega) (by rw [List.length_take]; omega) (by rw [List.length_take]; omega) hcc (fun p hp => hl p (List.mem_of_mem_take hp)))
          (fun w' hb => ih ((S.right (ps.length / 2) (by omega)).bl hb) (by rw [List.length_drop]; omega) (by rw [List.length_drop]; omega) (by rw [List.length_drop]; omega) (by omega) (fun p hp => hl p (List.mem_of_mem_drop hp)))
          rfl h2 rfl hc hn hcc hl).mono fun e w' ⟨o', c', xs, h1, h3, h4, h5⟩ => ⟨o', c', h1, (SG.of h3 h4).2.1, (SG.of h3 h4).2.2, h5⟩
/-- The list that Sorted tells is a new one, or its own. -/
theorem sorted_own (f : Nat) {B : Nat} {w : World} {o : Option Addr} {c : Nat} {ps : List (Int × Int)} {xs : List Value} (L : Lst w B 26 4 (.slice o ps.length c) ps.length xs) (d : GD w xs ps) (hB : B ≤ w.heap.size) (hf : ps.length ≤ f) (hn : ps.length ≤ 1000000) (hcc : c ≤ 9223372036854775807) (hl : ∀ p ∈ ps, (dig p.1.natAbs).length ≤ 20000000 ∧ (dig p.2.natAbs).length ≤ 20000000) :
    Calls Tryz.prog 28 #[.slice o ps.length c] w fun e w' => ∃ o' c', e = .returned (.slice o' ps.length c') ∧ ps.length ≤ c' ∧ (∃ xs', Lst w' B 26 4 (.slice o' ps.length c') ps.length xs' ∧ GD w' xs' (srt f ps)) ∧ Below w.heap.size w w' := by
  have hc := (SG.of L d).2.1
  rcases Nat.lt_or_ge ps.length 2 with h2 | h2
  · refine (sorted_short h2).mono fun e w' ⟨h3, h4⟩ => ⟨_, _, h3, hc, ⟨_, L.below h4, ?_⟩, h4⟩
    cases f with
    | zero => rw [srt]; exact d.k (kb h4)
    | succ f => rw [srt, if_pos h2]; exact d.k (kb h4)
  · cases f with
    | zero => omega
    | succ f =>
      have S := (SG.of L d).2.2
      rcases S with rfl | ⟨g, off, cur, rfl, x, d2⟩
      · simp at h2
      · have S : SG w (some ⟨g, off, none⟩) ps := .inr ⟨g, off, cur, rfl, x, d2⟩
        refine (sorted_long (f := f) (h := ps.length / 2)
          (fun w' hb => sorted_any f ((S.left (ps.length / 2) (by omega)).bl hb) (by rw [List.length_take]; omega) (by rw [List.length_take]; omega) (by rw [List.length_take]; omega) hcc (fun p hp => hl p (List.mem_of_mem_take hp)))
          (fun w' hb => sorted_any f ((S.right (ps.length / 2) (by omega)).bl hb) (by rw [List.length_drop]; omega) (by rw [List.length_drop]; omega) (by rw [List.length_drop]; omega) (by omega) (fun p hp => hl p (List.mem_of_mem_drop hp)))
          rfl h2 rfl hc hn hcc hl).mono fun e w' ⟨o', c', xs', h1, h3, h4, h5⟩ => ⟨o', c', h1, (SG.of h3 h4).2.1, ⟨xs', h3.mono hB, h4⟩, h5⟩
end
end Go.Proofs.YthlhekkcjficdaaGreat


/- A list in which each factor stands as often as it is in the number; sorting it. -/
namespace Go.Proofs.YthlhekkcjficdaaGreat
open Go Go.RowKit Dig
set_option linter.unusedVariables false
theorem mrg_perm : ∀ us vs : List (Int × Int), (mrg us vs).Perm (us ++ vs)
  | [], vs => by rw [mrg, List.nil_append]
  | a :: us, [] => by rw [mrg_nil, List.append_nil]
  | a :: us, b :: vs => by
    rw [mrg]
    split
    · exact (mrg_perm us (b :: vs)).cons a
    · exact ((mrg_perm (a :: us) vs).cons b).trans (List.perm_middle.symm)
theorem srt_perm : ∀ (n : Nat) (l : List (Int × Int)), (srt n l).Perm l
  | 0, l => by rw [srt]
  | n + 1, l => by
    rw [srt]
    split
    · exact List.Perm.refl _
    · have h := (mrg_perm (srt n (l.take (l.length / 2))) (srt n (l.drop (l.length / 2)))).trans ((srt_perm n _).append (srt_perm n _))
      rwa [List.take_append_drop] at h
theorem gle_iff (a b : Int × Int) : gle a b ↔ gN a.1 a.2 < gN b.1 b.2 ∨ (gN a.1 a.2 = gN b.1 b.2 ∧ (a.1 < b.1 ∨ (a.1 = b.1 ∧ a.2 ≤ b.2))) := by
  unfold gle gcmp or3 zcmp
  generalize gN a.1 a.2 = p
  generalize gN b.1 b.2 = q
  (repeat' split) <;> omega
theorem gle_trans {a b c : Int × Int} (h1 : gle a b) (h2 : gle b c) : gle a c := by
  rw [gle_iff] at *
  generalize gN a.1 a.2 = p at *
  generalize gN b.1 b.2 = q at *
  generalize gN c.1 c.2 = r at *
  omega
theorem gle_total {a b : Int × Int} (h : ¬ gle a b) : gle b a := by
  rw [gle_iff] at *
  generalize gN a.1 a.2 = p at *
  generalize gN b.1 b.2 = q at *
  omega
theorem gle_anti {a b : Int × Int} (h1 : gle a b) (h2 : gle b a) : a = b := by
  rw [gle_iff] at *
  generalize gN a.1 a.2 = p at *
  generalize gN b.1 b.2 = q at *
  exact Prod.ext (by omega) (by omega)
theorem gle_refl (a : Int × Int) : gle a a := by rw [gle_iff]; omega
theorem mrg_sorted : ∀ {us vs : List (Int × Int)}, us.Pairwise gle → vs.Pairwise gle → (mrg us vs).Pairwise gle
  | [], vs, _, h => by rwa [mrg]
  | a :: us, [], h, _ => by rwa [mrg_nil]
  | a :: us, b :: vs, h1, h2 => by
    have c1 := List.pairwise_cons.1 h1
    have c2 := List.pairwise_cons.1 h2
    rw [mrg]
    split
    · rename_i hab
      refine List.pairwise_cons.2 ⟨fun x hx => ?_, mrg_sorted c1.2 h2⟩
      rcases mrg_mem hx with hx | hx
      · exact c1.1 x hx
      · rcases List.mem_cons.1 hx with rfl | hx
        · exact hab
        · exact gle_trans hab (c2.1 x hx)
    · rename_i hab
      have hba := gle_total hab
      refine List.pairwise_cons.2 ⟨fun x hx => ?_, mrg_sorted h1 c2.2⟩
      rcases mrg_mem hx with hx | hx
      · rcases List.mem_cons.1 hx with rfl | hx
        · exact hba
        · exact gle_trans hba (c1.1 x hx)
      · exact c2.1 x hx
theorem srt_sorted : ∀ (n : Nat) (l : List (Int × Int)), l.length ≤ n + 1 → (srt n l).Pairwise gle
  | 0, l, h => by
    rw [srt]
    match l, h with
    | [], _ => exact List.Pairwise.nil
    | [a], _ => exact List.pairwise_singleton _ _
  | n + 1, l, h => by
    rw [srt]
    split
    · rename_i h2
      match l, h2 with
      | [], _ => exact List.Pairwise.nil
      | [a], _ => exact List.pairwise_singleton _ _
    · exact mrg_sorted (srt_sorted n _ (by rw [List.length_take]; omega)) (srt_sorted n _ (by rw [List.length_drop]; omega))
theorem expd_sorted : ∀ {ps : List (Int × Int × Int)}, ps.Pairwise FLt → (expd ps).Pairwise gle
  | [], _ => List.Pairwise.nil
  | t :: ps, h => by
    rw [List.pairwise_cons] at h
    rw [show expd (t :: ps) = List.replicate t.2.2.toNat (Pr t) ++ expd ps from List.flatMap_cons, List.pairwise_append]
    refine ⟨List.pairwise_replicate.2 (.inr (gle_refl _)), expd_sorted h.2, fun a ha b hb => ?_⟩
    rw [(List.mem_replicate.1 ha).2]
    obtain ⟨s, hs, hb⟩ := List.mem_flatMap.1 hb
    rw [(List.mem_replicate.1 hb).2]
    have := h.1 s hs
    unfold FLt at this
    unfold gle Pr
    dsimp only
    omega
/-- The reference's list, sorted, is the list of the factors. -/
theorem srt_expd {ps T : List (Int × Int × Int)} (hp : ps.Perm T) (hr : ps.Pairwise FLt) {n : Nat} (hn : (expd T).length ≤ n + 1) : srt n (expd T) = expd ps :=
  List.Perm.eq_of_pairwise (le := gle) (fun a b _ _ h1 h2 => gle_anti h1 h2) (srt_sorted n _ hn) (expd_sorted hr) ((srt_perm n _).trans (hp.symm.flatMap_right _))
/-- There are few. -/
theorem expd_len {ps : List (Int × Int × Int)} (h : AllPr ps) : ((2 ^ (expd ps).length : Nat) : Int) ≤ gN (gPs ps).1 (gPs ps).2 := by
  induction ps with
  | nil => decide
  | cons t ps ih =>
    obtain ⟨⟨r, hr, ht⟩, h1⟩ := h t List.mem_cons_self
    have h2 := ih fun s hs => h s (List.mem_cons_of_mem _ hs)
    have h3 := two_pow_le (pOv_norm hr ht) t.2.2.toNat
    rw [gPs_cons, gP_norm, gPw_norm, show expd (t :: ps) = List.replicate t.2.2.toNat (Pr t) ++ expd ps from List.flatMap_cons, List.length_append, List.length_replicate, Nat.pow_add, Int.natCast_mul]
    exact Int.mul_le_mul h3 h2 (Int.natCast_nonneg _) (Int.le_trans (Int.natCast_nonneg _) h3)
theorem expd_few {x y k : Int} {ps : List (Int × Int × Int)} (h : FaOk x y k ps) (hN : gN x y < 4294967296) : (expd ps).length < 32 := by
  have h1 := expd_len h.all
  have h2 := h.2.1
  have h3 : gN x y = gN (gPs ps).1 (gPs ps).2 := by
    have := gP_norm (turn k.toNat (1, 0)) (gPs ps)
    rw [h2, unit_norm h.1, Int.one_mul] at this
    exact this
  rw [← h3] at h1
  rcases Nat.lt_or_ge (expd ps).length 32 with h4 | h4
  · exact h4
  · have := Nat.pow_le_pow_right (n := 2) (by decide) h4
    have e : (2 : Nat) ^ 32 = 4294967296 := by decide
    omega
end Go.Proofs.YthlhekkcjficdaaGreat


/- The reference's Exact: whether it divides, and the quotient where it does. -/
namespace Go.Proofs.YthlhekkcjficdaaGreat
open Go Go.RowKit Dig
set_option linter.unusedVariables false
section
variable {w : World} {va vb : Value} {x y u v : Int} {l m k n : Nat}
set_option maxHeartbeats 4000000 in
set_option maxRecDepth 20000 in
theorem rgexact_all (ha : PN w va x l y m) (hq : PN w vb u k v n) (hl : l ≤ 2000000) (hm : m ≤ 2000000) (hk : k ≤ 2000000) (hn : n ≤ 2000000) (h0 : gN u v ≠ 0) {B : Bool} (hB : decide (gR1 x y u v = 0 ∧ gR2 x y u v = 0) = B) :
    Calls Tryz.prog 26 #[va, vb] w fun e w' => ∃ r, e = .returned (.tuple #[r, .bool B]) ∧ PC w' r (gQ1 x y u v) (gQ2 x y u v) ∧ Below w.heap.size w w' := by
  have H0 := hide h0
  have HB := hide hB
  clear h0 hB
  obtain ⟨n_0a, o_0a, k_0a, c_0a, n_0b, o_0b, k_0b, c_0b, rfl, ha1, ha2⟩ := ha
  obtain ⟨n_1a, o_1a, k_1a, c_1a, n_1b, o_1b, k_1b, c_1b, rfl, hq1, hq2⟩ := hq
  go_enter Tryz.func26, Tryz.ntmps26
  have hs := St.nil w
  refine wp_seq_k ?_
  intro K1 hK1
  refine rg [0, 1, 2, 3] ?_
  refine sq ?_
  refine .al hs ?_; clear hs; intro p_b1 w_1 hs n1 kb_b1
  refine sq ?_
  refine .al hs ?_; clear hs; intro p_b2 w_2 hs n2 kb_b2
  refine sq ?_
  refine .al hs ?_; clear hs; intro p_b3 w_3 hs n3 kb_b3
  refine sq ?_
  refine .mv ?_
  apply wpSq_end
  refine hK1 _ _ ?_
  refine wp_seq_k ?_
  intro K2 hK2
  refine rg [0, 1, 2, 3, 4, 5, 6, 7, 8, 9] ?_
  refine sq ?_
  refine .r4 hs.g2.f4 ?_
  refine sq ?_
  refine .r4 hs.g1.f4 ?_
  refine sq ?_
  intro K hK
  have k0_3 := ((kb n1).b n2).b n3
  replace ha1 := ha1.k k0_3
  replace ha2 := ha2.k k0_3
  replace hq1 := hq1.k k0_3
  replace hq2 := hq2.k k0_3
  go_big_op
  go_fit (rgRound_any (PN.mk' ha1 ha2) (PN.mk' hq1 hq2) (by omega) (by omega) (by omega) (by omega) H0.out)
  rintro e w_4 ⟨_, _, rfl, ⟨n_q1a, o_q1a, k_q1a, c_q1a, n_q1b, o_q1b, k_q1b, c_q1b, rfl, q11, q12⟩, ⟨n_q2a, o_q2a, k_q2a, c_q2a, n_q2b, o_q2b, k_q2b, c_q2b, rfl, q21, q22⟩, hb_4⟩
  replace hs := hs.bl hb_4
  have Lq11 := hide (q11.lenOf (rnd_len (H0.out) (zlen_gT1 (ha1.len) (ha2.len) (hq1.len) (hq2.len))))
  have Lq12 := hide (q12.lenOf (rnd_len (H0.out) (zlen_gT2 (ha1.len) (ha2.len) (hq1.len) (hq2.len))))
  have Lq21 := hide (q21.lenOf (zlen_gR1 (ha1.len) (ha2.len) (hq1.len) (hq2.len) (H0.out)))
  have Lq22 := hide (q22.lenOf (zlen_gR2 (ha1.len) (ha2.len) (hq1.len) (hq2.len) (H0.out)))
  refine hK _ _ rfl trivial ?_
  clear hK K
  refine sq ?_
  refine .mv ?_
  refine sq ?_
  refine .r0 ?_
  refine sq ?_
  refine .r0 ?_
  refine sq ?_
  refine .al hs ?_; clear hs; intro p_b4 w_5 hs n5 kb_b4
  refine sq ?_
  refine .al hs ?_; clear hs; intro p_b5 w_6 hs n6 kb_b5
  refine sq ?_
  refine .s4 hs.g1 (fun _ => hs.u1 kb_b4) ?_; clear hs; intro w_7 hs hd7 ho7
  refine sq ?_
  refine .s4 hs.g0 (fun _ => hs.u0 kb_b5) ?_; clear hs; intro w_8 hs hd8 ho8
  apply wpSq_end
  refine hK2 _ _ ?_
  refine wp_seq_k ?_
  intro K3 hK3
  refine wp_region_f4 [(0, false), (1, false), (2, true)] [3, 4] [] (fun _ => default) [0, 1, 99, 99, 99] [] (.c hs.g1 (.c hs.g0 .n)) fn fun w_9 n9 => ?_
  replace hs := hs.bl n9
  refine f4 ?_
  refine f4 ?_
  refine fl fun w_10 n10 => ?_
  replace hs := hs.bl n10
  intro K hK
  have k4_10 := (((((kb n5).b n6).o hd7 ho7).o hd8 ho8).b n9).b n10
  replace q21 := q21.k k4_10
  replace q22 := q22.k k4_10
  go_big_op
  go_fit (rgNull_any (PN.mk' (q21.zn Lq21.out) (q22.zn Lq22.out)) (by omega) (by omega) )
  rintro e w_11 ⟨rfl, hb_11⟩
  replace hs := hs.bl hb_11
  rw [HB.out]
  refine hK _ _ rfl ⟨hb_11, (And.intro hs.g1 (And.intro hs.g0 trivial))⟩ ?_
  clear hK K
  refine e0 hs ?_; clear hs; intro w_12 hs n12
  refine tl ?_
  refine .s4 hs.g2 (fun _ => hs.u2 kb_b3) ?_ (e := fun _ hs => (And.intro hs.g1 (And.intro hs.g0 True.intro))); clear hs; intro w_13 hs hd13 ho13
  refine tl ?_
  refine .mv ?_ (e := (And.intro hs.g1 (And.intro hs.g0 True.intro)))
  apply wpTail_end
  refine hK3 _ _ ?_
  refine wp_ret ?_
  try dsimp only [Exit.then, Exit.inBlock]
  obtain ⟨r0_0, r0_1, r0_2, r0_3⟩ := hs.g2.f4
  refine bodyPost_ret (v := (.tuple #[(.agg #[.bool n_q1a, .slice o_q1a k_q1a c_q1a, .bool n_q1b, .slice o_q1b k_q1b c_q1b]), .bool B])) (by simp [results, Tryz.results26, go_sem, r0_0, r0_1, r0_2, r0_3]) rfl ?_
  have k4_13 := ((k4_10.b hb_11).b n12).o hd13 ho13
  replace q11 := q11.k k4_13
  replace q12 := q12.k k4_13
  exact ⟨_, rfl, .mk' q11 q12, hs.b⟩
theorem rgexact_yes (ha : PN w va x l y m) (hq : PN w vb u k v n) (hl : l ≤ 2000000) (hm : m ≤ 2000000) (hk : k ≤ 2000000) (hn : n ≤ 2000000) (h0 : gN u v ≠ 0) (h : gDv x y u v) :
    Calls Tryz.prog 26 #[va, vb] w fun e w' => ∃ r, e = .returned (.tuple #[r, .bool true]) ∧ PC w' r (gD1 x y u v) (gD2 x y u v) ∧ Below w.heap.size w w' := by
  refine (rgexact_all ha hq hl hm hk hn h0 (decide_eq_true ((gR_zero h0).2 h))).mono ?_
  rintro e w' ⟨r, rfl, hr, hb⟩
  have e1 := gQ_exact h0 h.1 h.2
  refine ⟨r, rfl, ?_, hb⟩
  unfold gD1 gD2
  rw [e1.1, e1.2]
  exact hr
theorem rgexact_no (ha : PN w va x l y m) (hq : PN w vb u k v n) (hl : l ≤ 2000000) (hm : m ≤ 2000000) (hk : k ≤ 2000000) (hn : n ≤ 2000000) (h0 : gN u v ≠ 0) (h : ¬ gDv x y u v) :
    Calls Tryz.prog 26 #[va, vb] w fun e w' => ∃ r, e = .returned (.tuple #[r, .bool false]) ∧ PC w' r (gQ1 x y u v) (gQ2 x y u v) ∧ Below w.heap.size w w' := by
  refine (rgexact_all ha hq hl hm hk hn h0 (decide_eq_false (fun c => h ((gR_zero h0).1 c)))).mono ?_
  rintro e w' ⟨r, rfl, hr, hb⟩
  exact ⟨r, rfl, hr, hb⟩
end
end Go.Proofs.YthlhekkcjficdaaGreat


/- The reference's Over; the law's list of any two lists that are read. -/
namespace Go.Proofs.YthlhekkcjficdaaGreat
open Go Go.RowKit Dig
set_option linter.unusedVariables false

section
variable {w : World} {va vb : Value} {x y z : Int} {l m : Nat}
set_option maxHeartbeats 4000000 in
set_option maxRecDepth 20000 in
theorem rover_3b (p : Nat) (hp : p < 4294967296) (h3 : p % 4 = 3) : TG 25 #[.int .i64 (p : Int)] w [((p : Int), 0)] := by
  have hm : Int.tmod (p : Int) 4 = 3 := by rw [show ((4 : Int)) = ((4 : Nat) : Int) from rfl, ← Int.ofNat_tmod, h3]; rfl
  clear h3
  unfold TG
  go_enter Tryz.func25, Tryz.ntmps25
  have hs := St.nil w
  refine wp_seq_k ?_
  intro K1 hK1
  refine rg [0] ?_
  refine sq ?_
  refine .mv ?_
  apply wpSq_end
  refine hK1 _ _ ?_
  refine wp_seq_k ?_
  intro K2 hK2
  refine wp_seq_k ?_
  intro K3 hK3
  refine rg [0, 1, 2] ?_
  refine sq ?_
  refine .mv ?_
  refine sq ?_
  refine .r0 ?_
  refine sq ?_
  refine .r0 ?_
  apply wpSq_end
  refine hK3 _ _ ?_
  refine ct ?_
  refine wp_seq_k ?_
  intro K4 hK4
  refine rg [0, 1, 2, 3] ?_
  refine sq ?_
  refine .mv ?_
  refine sq ?_
  intro K hK
  go_big_op
  go_fit (rgI_any (p : Int) 0 _ (by omega) (by omega) (by decide) (by decide))
  rintro e w_1 ⟨_, rfl, ⟨n_ea, o_ea, k_ea, c_ea, n_eb, o_eb, k_eb, c_eb, rfl, e1, e2⟩, hb_1⟩
  replace hs := hs.bl hb_1
  refine hK _ _ rfl trivial ?_
  clear hK K
  refine sq ?_
  refine .al hs ?_; clear hs; intro p_b1 w_2 hs n2 kb_b1
  refine sq ?_
  refine .mv ?_
  apply wpSq_end
  refine hK4 _ _ ?_
  refine wp_ret ?_
  try dsimp only [Exit.then, Exit.inBlock]
  refine bodyPost_ret (v := (.slice (some ⟨p_b1, 0, none⟩) 1 1)) (by simp [results, Tryz.results25, go_sem]) rfl ?_
  have k1_2 := kb n2
  replace e1 := e1.k k1_2
  replace e2 := e2.k k1_2
  have hE := Lst.ofBs (n := 1) (sz := 4) hs.g0 kb_b1; exact ⟨_, _, _, rfl, hE, GD.snoc (GD.nil _) (.mk' e1 e2), hs.b⟩
theorem gD_len {w : World} {B n c : Nat} {o : Option Addr} {xs : List Value} (L : Lst w B 26 4 (.slice o n c) n xs) : c ≤ 9223372036854775807 := by
  rcases L.1.2 with ⟨e, h0⟩ | ⟨g, cap, cur, e, hb, hg, hnc, hcm, hcs, htake⟩
  · simp only [Value.slice.injEq] at e; omega
  · simp only [Value.slice.injEq] at e
    obtain ⟨rfl, _, rfl⟩ := e
    unfold maxLen at hcm
    omega
set_option maxHeartbeats 4000000 in
set_option maxRecDepth 20000 in
theorem rover_anyb {n f : Nat} {ps : List (Int × Int)} (hn : n < 4294967296) (h3 : n % 4 ≠ 3) (hfin : ∀ k, n ≤ (k + 1) * (k + 1) → ovs n k = ps) (hf : ps.length ≤ f) (hp : ps.length ≤ 1000) (hlen : ∀ p ∈ ps, (dig p.1.natAbs).length ≤ 20000000 ∧ (dig p.2.natAbs).length ≤ 20000000) (hsr : srt f ps = ps) : TG 25 #[.int .i64 (n : Int)] w ps := by
  have hm : Int.tmod (n : Int) 4 = ((n % 4 : Nat) : Int) := by rw [show ((4 : Int)) = ((4 : Nat) : Int) from rfl, Int.ofNat_tmod]
  have hm3 : (((n % 4 : Nat) : Int) == 3) = false := by rw [beq_eq_false_iff_ne]; omega
  have HF := hide (And.intro hfin (And.intro hlen hsr))
  clear hfin hlen hsr h3
  generalize n % 4 = n4 at *
  unfold TG
  go_enter Tryz.func25, Tryz.ntmps25
  have hs := St.nil w
  refine wp_seq_k ?_
  intro K1 hK1
  refine rg [0] ?_
  refine sq ?_
  refine .mv ?_
  apply wpSq_end
  refine hK1 _ _ ?_
  refine wp_seq_k ?_
  intro K2 hK2
  refine wp_seq_k ?_
  intro K3 hK3
  refine rg [0, 1, 2] ?_
  refine sq ?_
  refine .mv ?_
  refine sq ?_
  refine .r0 ?_
  refine sq ?_
  refine .r0 ?_
  apply wpSq_end
  refine hK3 _ _ ?_
  refine cf ?_
  refine wp_skip ?_
  refine hK2 _ _ ?_
  refine wp_seq_k ?_
  intro K4 hK4
  refine rg [0] ?_
  refine sq ?_
  refine .mv ?_
  apply wpSq_end
  refine hK4 _ _ ?_
  refine wp_seq_k ?_
  intro K5 hK5
  refine wp_seq_k ?_
  intro K6 hK6
  refine rg [0] ?_
  refine sq ?_
  refine .mv ?_
  apply wpSq_end
  refine hK6 _ _ ?_
  refine wp_block ?_
  have hd1 := hs.2.1
  go_loopg [3, 4] 65537 (fun k s3 s4 wr => ∃ (r N : Nat) (o : Option Addr) (c : Nat) (xs : List Value) (L : List (Int × Int)), s4 = .int .i64 ((r + 1 : Nat) : Int) ∧ s3 = .slice o N c ∧ r + k = 65537 ∧ N ≤ r ∧ Hid (L = ovs n r ∧ N = L.length) ∧ GD wr xs L ∧ St w [ls w.heap.size 26 4 (.slice o N c) N xs] wr)
  case atStart => exact ⟨0, 0, none, 0, [], [], rfl, rfl, rfl, by omega, hide ⟨rfl, rfl⟩, GD.nil _, hs.l0 _ _⟩
  case round =>
  clear hm3 hm
  clear hs
  obtain ⟨r0, N, o, c, xs, L, rfl, rfl, hrk, hN, HI, d, hs⟩ := hrel
  obtain ⟨r, hr⟩ : ∃ r, r0 + 1 = r := ⟨_, rfl⟩
  rw [hr]
  have hp1 : (r : Int) * (r : Int) = ((r * r : Nat) : Int) := by simp
  have hb1 : r * r ≤ 4295229444 := Nat.mul_le_mul (show r ≤ 65538 by omega) (show r ≤ 65538 by omega)
  by_cases h1 : r * r < n
  · have hr65 : r ≤ 65535 := by
      rcases Nat.lt_or_ge r 65536 with h | h
      · omega
      · have := Nat.mul_le_mul h h; omega
    have hov : ovs n r = ovs n r0 ++ (ovAt n r).toList := by rw [← hr]; rfl
    by_cases h3 : r * r + rt (n - r * r) * rt (n - r * r) = n
    · have HI' := hide (show L ++ [((r : Int), ((rt (n - r * r) : Nat) : Int))] = ovs n r ∧ N + 1 = (L ++ [((r : Int), ((rt (n - r * r) : Nat) : Int))]).length from ⟨by rw [hov, ← HI.out.1]; unfold ovAt; rw [if_pos h3]; rfl, by rw [List.length_append, HI.out.2]; rfl⟩)
      have HR := hide (fun w => root_any (n - r * r) w (by omega))
      have hb256 : rt (n - r * r) ≤ 65536 := by
        rcases Nat.lt_or_ge (rt (n - r * r)) 65536 with h | h
        · omega
        · have := Nat.mul_le_mul h h; omega
      clear HI hov
      generalize rt (n - r * r) = b at *
      have hp4 : (b : Int) * (b : Int) = ((b * b : Nat) : Int) := by simp
      obtain ⟨q3, hq3⟩ : ∃ q, b * b = q := ⟨_, rfl⟩
      rw [hq3] at h3 hp4
      have hsub : (n : Int) - ((r * r : Nat) : Int) = ((n - r * r : Nat) : Int) := by omega
      obtain ⟨q1, hq1⟩ : ∃ q, r * r = q := ⟨_, rfl⟩
      rw [hq1] at h3 hp1 hsub HR h1 hb1
      clear hq1 hq3
      have h5 : ((q1 : Int) < (n : Int)) = True := by simp; omega
      have h7 : ((q1 : Int) + (q3 : Int) == (n : Int)) = true := by simp; omega
      refine wp_seq_k ?_
      intro K7 hK7
      refine wp_seq_k ?_
      intro K8 hK8
      refine rg [0, 1, 2, 3, 4] ?_
      refine sq ?_
      refine .mv ?_
      refine sq ?_
      refine .mv ?_
      refine sq ?_
      refine .r0 ?_
      refine sq ?_
      refine .mv ?_
      refine sq ?_
      refine .r0 ?_
      apply wpSq_end
      refine hK8 _ _ ?_
      refine ct ?_
      refine wp_skip ?_
      refine hK7 _ _ ?_
      refine wp_seq_k ?_
      intro K9 hK9
      refine wp_block ?_
      refine wp_seq_k ?_
      intro K10 hK10
      refine rg [0, 1, 2, 3, 4, 5, 6] ?_
      refine sq ?_
      refine .mv ?_
      refine sq ?_
      refine .mv ?_
      refine sq ?_
      refine .mv ?_
      refine sq ?_
      refine .r0 ?_
      refine sq ?_
      refine .r0 ?_
      refine sq ?_
      intro K hK
      go_big_op
      go_fit (HR.out _)
      rintro e w_2 ⟨rfl, e_2⟩
      (first | rw [e_2] | rw [← e_2]); clear e_2 w_2
      refine hK _ _ rfl trivial ?_
      clear hK K
      refine sq ?_
      refine .mv ?_
      apply wpSq_end
      refine hK10 _ _ ?_
      refine wp_seq_k ?_
      intro K11 hK11
      refine rg [0, 1, 2, 3, 4, 5, 6, 7, 8] ?_
      refine sq ?_
      refine .mv ?_
      refine sq ?_
      refine .mv ?_
      refine sq ?_
      refine .r0 ?_
      refine sq ?_
      refine .mv ?_
      refine sq ?_
      refine .mv ?_
      refine sq ?_
      refine .r0 ?_
      refine sq ?_
      refine .r0 ?_
      refine sq ?_
      refine .mv ?_
      refine sq ?_
      refine .r0 ?_
      apply wpSq_end
      refine hK11 _ _ ?_
      refine ct ?_
      refine rg [0, 1, 2, 3, 4, 5, 6] ?_
      refine sq ?_
      refine .mv ?_
      refine sq ?_
      refine .mv ?_
      refine sq ?_
      refine .mv ?_
      refine sq ?_
      intro K hK
      go_big_op
      go_fit (rgI_any (r : Int) (b : Int) _ (by omega) (by omega) (by omega) (by omega))
      rintro e w_3 ⟨_, rfl, ⟨n_ea, o_ea, k_ea, c_ea, n_eb, o_eb, k_eb, c_eb, rfl, e1, e2⟩, hb_3⟩
      replace hs := hs.bl hb_3
      refine hK _ _ rfl trivial ?_
      clear hK K
      refine sq ?_
      refine .al hs ?_; clear hs; intro p_b1 w_4 hs n4 kb_b1
      refine sq ?_
      have k1_2 := kb n4
      replace e1 := e1.k k1_2
      replace e2 := e2.k k1_2
      have k0_2 := (kb hb_3).b n4
      replace d := d.k k0_2
      replace d := d.snoc (.mk' e1 e2)
      refine .ap 1 hs hs.g0 ?_; clear hs; intro o_L_5 c_L_5 w_5 hs kp5 hw5; simp only [List.set_cons_succ, List.set_cons_zero] at hs
      refine sq ?_
      refine .mv ?_
      apply wpSq_end
      refine hK9 _ _ ?_
      refine rg [0, 1, 2] ?_
      refine sq ?_
      refine .mv ?_
      refine sq ?_
      refine .r0 ?_
      refine sq ?_
      refine .mv ?_
      apply wpSq_end
      have k2_3 := kp5
      replace d := d.k k2_3
      refine ‹∀ (a' : Act) (w' : World), Handed _ _ a' w' → _› _ _ ?_
      go_roundg (gk - 1)
      case rel => exact ⟨r, N + 1, _, _, _, _, by rfl, by rfl, by omega, by omega, HI', d, hs.sub (.cons _ (.cons_cons _ .slnil))⟩
      case measure => omega
    · have HI' := hide (show L = ovs n r ∧ N = L.length from ⟨by rw [hov, ← HI.out.1]; unfold ovAt; rw [if_neg h3]; simp, HI.out.2⟩)
      have HR := hide (fun w => root_any (n - r * r) w (by omega))
      have hbb := (rt_spec (n - r * r)).1
      clear HI hov
      generalize rt (n - r * r) = b at *
      have hp4 : (b : Int) * (b : Int) = ((b * b : Nat) : Int) := by simp
      obtain ⟨q3, hq3⟩ : ∃ q, b * b = q := ⟨_, rfl⟩
      rw [hq3] at h3 hp4 hbb
      have hsub : (n : Int) - ((r * r : Nat) : Int) = ((n - r * r : Nat) : Int) := by omega
      obtain ⟨q1, hq1⟩ : ∃ q, r * r = q := ⟨_, rfl⟩
      rw [hq1] at h3 hp1 hsub HR h1 hb1 hbb
      clear hq1 hq3
      have h5 : ((q1 : Int) < (n : Int)) = True := by simp; omega
      have h7 : ((q1 : Int) + (q3 : Int) == (n : Int)) = false := by rw [beq_eq_false_iff_ne]; omega
      refine wp_seq_k ?_
      intro K7 hK7
      refine wp_seq_k ?_
      intro K8 hK8
      refine rg [0, 1, 2, 3, 4] ?_
      refine sq ?_
      refine .mv ?_
      refine sq ?_
      refine .mv ?_
      refine sq ?_
      refine .r0 ?_
      refine sq ?_
      refine .mv ?_
      refine sq ?_
      refine .r0 ?_
      apply wpSq_end
      refine hK8 _ _ ?_
      refine ct ?_
      refine wp_skip ?_
      refine hK7 _ _ ?_
      refine wp_seq_k ?_
      intro K9 hK9
      refine wp_block ?_
      refine wp_seq_k ?_
      intro K10 hK10
      refine rg [0, 1, 2, 3, 4, 5, 6] ?_
      refine sq ?_
      refine .mv ?_
      refine sq ?_
      refine .mv ?_
      refine sq ?_
      refine .mv ?_
      refine sq ?_
      refine .r0 ?_
      refine sq ?_
      refine .r0 ?_
      refine sq ?_
      intro K hK
      go_big_op
      go_fit (HR.out _)
      rintro e w_2 ⟨rfl, e_2⟩
      (first | rw [e_2] | rw [← e_2]); clear e_2 w_2
      refine hK _ _ rfl trivial ?_
      clear hK K
      refine sq ?_
      refine .mv ?_
      apply wpSq_end
      refine hK10 _ _ ?_
      refine wp_seq_k ?_
      intro K11 hK11
      refine rg [0, 1, 2, 3, 4, 5, 6, 7, 8] ?_
      refine sq ?_
      refine .mv ?_
      refine sq ?_
      refine .mv ?_
      refine sq ?_
      refine .r0 ?_
      refine sq ?_
      refine .mv ?_
      refine sq ?_
      refine .mv ?_
      refine sq ?_
      refine .r0 ?_
      refine sq ?_
      refine .r0 ?_
      refine sq ?_
      refine .mv ?_
      refine sq ?_
      refine .r0 ?_
      apply wpSq_end
      refine hK11 _ _ ?_
      refine cf ?_
      refine wp_skip ?_
      refine hK9 _ _ ?_
      refine rg [0, 1, 2] ?_
      refine sq ?_
      refine .mv ?_
      refine sq ?_
      refine .r0 ?_
      refine sq ?_
      refine .mv ?_
      apply wpSq_end
      refine ‹∀ (a' : Act) (w' : World), Handed _ _ a' w' → _› _ _ ?_
      go_roundg (gk - 1)
      case rel => exact ⟨r, N, o, c, xs, L, by rfl, by rfl, by omega, by omega, HI', d, hs⟩
      case measure => omega
  · have hE := HF.out.1 r0 (by rw [hr]; omega)
    obtain ⟨rfl, rfl⟩ : L = ps ∧ N = ps.length := ⟨HI.out.1.trans hE, by rw [HI.out.2, HI.out.1, hE]⟩
    clear HI hE
    generalize r * r = q1 at *
    have h5 : ((q1 : Int) < (n : Int)) = False := by simp; omega
    refine wp_seq_k ?_
    intro K7 hK7
    refine wp_seq_k ?_
    intro K8 hK8
    refine rg [0, 1, 2, 3, 4] ?_
    refine sq ?_
    refine .mv ?_
    refine sq ?_
    refine .mv ?_
    refine sq ?_
    refine .r0 ?_
    refine sq ?_
    refine .mv ?_
    refine sq ?_
    refine .r0 ?_
    apply wpSq_end
    refine hK8 _ _ ?_
    refine cf ?_
    refine wp_exit ?_
    refine hK5 _ _ ?_
    refine wp_seq_k ?_
    intro K9 hK9
    refine rg [0, 1, 2] ?_
    refine sq ?_
    refine .mv ?_
    have hsg := SG.of hs.1.1.1 d
    have hcl := gD_len hs.1.1.1
    refine sq ?_
    intro K hK
    go_big_op
    go_fit (sorted_own f hs.1.1.1 d hs.b.size hf (by omega) hcl HF.out.2.1)
    rintro e w_2 ⟨o_s, c_s, rfl, H_s, S_s, hb_2⟩
    replace hs := hs.bl hb_2
    refine hK _ _ rfl trivial ?_
    clear hK K
    refine sq ?_
    refine .mv ?_
    apply wpSq_end
    refine hK9 _ _ ?_
    refine wp_ret ?_
    try dsimp only [Exit.then, Exit.inBlock]
    refine bodyPost_ret (v := (.slice o_s L.length c_s)) (by simp [results, Tryz.results25, go_sem]) rfl ?_
    obtain ⟨x9, L9, d9⟩ := S_s; rw [HF.out.2.2] at d9; exact ⟨_, _, _, rfl, L9, d9, hs.b⟩
end
end Go.Proofs.YthlhekkcjficdaaGreat


/- The reference's Over at every prime number below 2^32: pOv, as a new list. -/
namespace Go.Proofs.YthlhekkcjficdaaGreat
open Go Go.RowKit Dig
set_option linter.unusedVariables false
theorem over_smallb {p x y : Nat} (hp : p < 4294967296) (hx : x * x + y * y = p) : ∀ q ∈ [((y : Int), (x : Int)), ((x : Int), (y : Int))], (dig q.1.natAbs).length ≤ 20000000 ∧ (dig q.2.natAbs).length ≤ 20000000 := by
  have key : ∀ c : Nat, c * c ≤ p → (dig ((c : Int)).natAbs).length ≤ 20000000 := fun c hc => by
    have h : c < 65536 := by
      rcases Nat.lt_or_ge c 65536 with h | h
      · exact h
      · have := Nat.mul_le_mul h h; omega
    exact Nat.le_trans (zlen_small6 (z := (c : Int)) (by omega)) (by decide)
  intro q hq
  simp only [List.mem_cons, List.not_mem_nil, or_false] at hq
  rcases hq with rfl | rfl
  · exact ⟨key y (by omega), key x (by omega)⟩
  · exact ⟨key x (by omega), key y (by omega)⟩
theorem srt_twob {a b : Int × Int} (h : gle a b) : srt (1 + 1) [a, b] = [a, b] := by
  rw [srt, if_neg (by simp)]
  rw [show [a, b].length / 2 = 1 by simp, show List.take 1 [a, b] = [a] from rfl, show List.drop 1 [a, b] = [b] from rfl]
  have e : ∀ x : Int × Int, srt 1 [x] = [x] := fun x => by rw [srt, if_pos (by simp)]
  rw [e, e, mrg, if_pos h, mrg]
theorem ovs2b : ∀ k, ovs 2 (k + 1) = [(1, 1)]
  | 0 => over2.2
  | k + 1 => by
    have h : ovAt 2 (k + 1 + 1) = none := by
      unfold ovAt
      rw [if_neg]
      intro hc
      have : (k + 1 + 1) * (k + 1 + 1) = k * k + 4 * k + 4 := by grind
      omega
    rw [ovs, h, ovs2b k]; rfl
theorem rover_pov {w : World} {p : Nat} (hp : IsLf p p) (hn : p < 4294967296) : TG 25 #[.int .i64 (p : Int)] w (pOv p) := by
  unfold pOv
  by_cases h2 : p = 2
  · subst h2
    rw [if_pos rfl]
    refine rover_anyb (n := 2) (f := 1) hn (by decide) (fun k hk => ?_) (by simp) (by simp) (fun q hq => ?_) rfl
    · obtain ⟨j, rfl⟩ : ∃ j, k = j + 1 := ⟨k - 1, by
        rcases Nat.eq_zero_or_pos k with h | h
        · subst h; simp at hk
        · omega⟩
      exact ovs2b j
    · obtain rfl : q = (1, 1) := by simpa using hq
      exact ⟨Nat.le_trans (zlen_small6 (z := 1) (by decide)) (by decide), Nat.le_trans (zlen_small6 (z := 1) (by decide)) (by decide)⟩
  · rw [if_neg h2]
    rcases lf_4 hp h2 with h | h
    · rw [if_neg (by omega)]
      obtain ⟨x, y, hy, hyx, hs, ha, hf⟩ := over1 hp h
      rw [ha]
      refine rover_anyb (f := 2) hn (by omega) hf (by simp) (by simp) (over_smallb hn hs) ?_
      have hg : gle ((y : Int), (x : Int)) ((x : Int), (y : Int)) := by
        unfold gle gcmp
        have e1 : gN (y : Int) (x : Int) = gN (x : Int) (y : Int) := by unfold gN; exact Int.add_comm _ _
        rw [e1]
        have e2 : ∀ a : Int, zcmp a a = 0 := fun a => by unfold zcmp; simp
        have e3 : zcmp (y : Int) (x : Int) = -1 := by unfold zcmp; split <;> (try split) <;> omega
        rw [e2, e3]; unfold or3; simp
      exact srt_twob hg
    · rw [if_pos h]
      exact rover_3b p hn h
end Go.Proofs.YthlhekkcjficdaaGreat


/- Stores in a region that draws, beside lists that are read: what else is asked may lean on what was left alone. -/
namespace Go.Proofs.YthlhekkcjficdaaGreat
open Go Go.RowKit Dig
set_option linter.unusedVariables false
section
variable {P : Program} {o : Oper} {a : Act} {w w0 : World} {B : Exit → Act → World → Prop} {E : World → Prop} {G : Act → World → Prop} {bs bs' : List En}
theorem Stp.s4o {b : Nat} {d0 d1 d2 d3 c0 c1 c2 c3 : Value} {ty : TypeId} {a' : Act} (x : Bs w b #[d0, d1, d2, d3] ty) (hu : ∀ w', Bs w' b #[c0, c1, c2, c3] ty → Only b w w' → St w0 bs' w')
    (h : ∀ w', St w0 bs' w' → NoD w b → Only b w w' → G a' w')
    (h1 : w.cell? ⟨b, 0, none⟩ = some d0 → w.cell? ⟨b, 1, none⟩ = some d1 → w.cell? ⟨b, 2, none⟩ = some d2 → w.cell? ⟨b, 3, none⟩ = some d3 → w.frozen? ⟨b, 0, none⟩ = false → w.frozen? ⟨b, 1, none⟩ = false → w.frozen? ⟨b, 2, none⟩ = false → w.frozen? ⟨b, 3, none⟩ = false → ∀ K : Act → World → Prop, K a' ((((w.setCell ⟨b, 0, none⟩ c0).setCell ⟨b, 1, none⟩ c1).setCell ⟨b, 2, none⟩ c2).setCell ⟨b, 3, none⟩ c3) → o.wp P a w K B := by intro d0 d1 d2 d3 f0 f1 f2 f3 K hK; go_big_op; exact hK)
    (e : ∀ w', St w0 bs' w' → Only b w w' → E w') (hd : a'.defers = a.defers := by rfl) (hn : (#[d0, d1, d2, d3] : Array Value).toList.all nd = true := by rfl) (ht : (ty == 82) = false := by rfl) : Stp P o a w B E G := fun K hK => by
  obtain ⟨v, rfl, h2, h3⟩ := x.set4 c0 c1 c2 c3
  exact h1 (x.cell 0 rfl) (x.cell 1 rfl) (x.cell 2 rfl) (x.cell 3 rfl) (x.free 0) (x.free 1) (x.free 2) (x.free 3) K (hK _ _ hd (e _ (hu _ h2 h3) h3) (h _ (hu _ h2 h3) (x.nod hn ht) h3))
end
end Go.Proofs.YthlhekkcjficdaaGreat

