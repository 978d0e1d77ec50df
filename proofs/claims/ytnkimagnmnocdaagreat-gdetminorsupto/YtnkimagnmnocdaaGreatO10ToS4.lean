/- The reference's Adj. -/
import Derived.Test.YtnkimagnmnocdaaGreatO5ToO9
import Derived.Test.YtnkimagnmnocdaaGreatI5ToDp

namespace Go.Proofs.YtnkimagnmnocdaaGreat
open Go Go.RowKit Dig
set_option linter.unusedVariables false
section
variable {G : Nat → Nat → Int × Int} {i j n k : Nat}
theorem St.rowv {w0 w : World} {v : Value} {m p K : Nat} {rs : List Rw} {bs : List En} {Ms : List (List (Int × Int))} (hs : St w0 (ls w0.heap.size 52 1 v m (rs.map (·.v)) :: (bs ++ rs.map (Rw.e w0.heap.size))) w) (hd : RD w rs Ms) (hp : p < Ms.length) (hK : Ms[p].length = K) :
    ∃ o c, (rs.map (·.v))[p]? = some (.slice o K c) := by
  obtain ⟨r1, r, r2, rfl, h1, h2, h3⟩ := hd.at' hp
  have h4 : (ls w0.heap.size 52 1 v m ((r1 ++ r :: r2).map (·.v)) :: (bs ++ (r1 ++ r :: r2).map (Rw.e w0.heap.size)))[1 + (bs.length + p)]? = some (r.e w0.heap.size) := by
    rw [Nat.add_comm 1, List.getElem?_cons_succ, List.getElem?_append_right (by omega), show bs.length + p - bs.length = p by omega, List.getElem?_map, List.getElem?_append_right (by omega)]
    simp [h1]
  have L : Lst w w0.heap.size 28 4 r.v r.n r.xs := (hs.1.at h4).1
  obtain ⟨o, c, e⟩ := L.shape
  exact ⟨o, c, by rw [List.map_append, List.map_cons, List.getElem?_append_right (by simp [h1])]; simp [h1, e, h2, hK]⟩
end
section
variable {w : World} {l n k cm : Nat} {om : Option Addr} {M : List (List (Int × Int))}
end
end Go.Proofs.YtnkimagnmnocdaaGreat

/- GmatAlong: what its calls tell. -/
namespace Go.Proofs.YtnkimagnmnocdaaGreat
open Go Go.RowKit Dig
set_option linter.unusedVariables false
section
variable {w : World} {l la lb lv n k na nb ca cb c : Nat} {oa ob ov : Option Addr} {A B : List (List (Int × Int))} {V : List (Int × Int)}
end
end Go.Proofs.YtnkimagnmnocdaaGreat

/- GmatSingle: what its calls tell. -/
namespace Go.Proofs.YtnkimagnmnocdaaGreat
open Go Go.RowKit Dig
set_option linter.unusedVariables false
section
variable {w : World} {l lb n k c : Nat} {o : Option Addr} {A : List (List (Int × Int))} {vg : Value} {u v : Int}
end
end Go.Proofs.YtnkimagnmnocdaaGreat

/- Rows of own matrices written anew, number by number; exchanged; replaced. -/
namespace Go.Proofs.YtnkimagnmnocdaaGreat
open Go Go.RowKit Dig
set_option linter.unusedVariables false
def rowed (F : Nat → Nat → Int × Int) (p : Nat) (g : Nat → Int × Int) : Nat → Nat → Int × Int := fun i j => if i = p then g j else F i j
def swr (i j r : Nat) : Nat := if r = i then j else if r = j then i else r
section
variable {F : Nat → Nat → Int × Int} {g : Nat → Int × Int} {i j n k p : Nat}
theorem mkM_setrow (hp : p < n) : (mkM n k F).set p ((List.range k).map g) = mkM n k (rowed F p g) := by
  refine List.ext_getElem (by simp [mkM]) fun i h1 h2 => ?_
  simp only [mkM, List.getElem_set, List.getElem_map, List.getElem_range]
  by_cases e : p = i
  · subst e; simp [rowed]
  · rw [if_neg e]; simp [rowed, Ne.symm e]
theorem mkM_swap (hi : i < n) (hj : j < n) : ((mkM n k F).set i ((List.range k).map (F j))).set j ((List.range k).map (F i)) = mkM n k (fun r => F (swr i j r)) := by
  refine List.ext_getElem (by simp [mkM]) fun r h1 h2 => ?_
  simp only [mkM, List.getElem_set, List.getElem_map, List.getElem_range]
  unfold swr
  by_cases e : j = r
  · subst e
    by_cases e2 : j = i
    · subst e2; simp
    · simp [e2]
  · rw [if_neg e]
    by_cases e2 : i = r
    · subst e2; simp
    · rw [if_neg e2, if_neg (Ne.symm e2), if_neg (Ne.symm e)]
end
theorem RD.set1 {w : World} {r : Rw} {m : List (Int × Int)} (hn : r.n = m.length) (hg : GD w r.xs m) : ∀ {rs : List Rw} {Ms : List (List (Int × Int))} {p : Nat}, RD w rs Ms → RD w (rs.set p r) (Ms.set p m)
  | [], [], p, h => h
  | _ :: _, _ :: _, 0, h => ⟨⟨hn, hg⟩, h.2⟩
  | _ :: _, _ :: _, p + 1, h => ⟨h.1, RD.set1 hn hg h.2⟩
theorem RD.swap {w : World} {rs : List Rw} {n k i j : Nat} {F : Nat → Nat → Int × Int} {vi vj : Value} (hd : RD w rs (mkM n k F)) (hi : i < n) (hj : j < n) (ei : (rs.map (·.v))[i]? = some vi) (ej : (rs.map (·.v))[j]? = some vj) :
    ∃ rs', rs'.length = rs.length ∧ rs'.Perm rs ∧ rs'.map (·.v) = ((rs.map (·.v)).set i vj).set j vi ∧ RD w rs' (mkM n k fun r => F (swr i j r)) := by
  have hl : rs.length = n := by rw [hd.len]; exact len_mkM
  obtain ⟨ri, e1, h1, g1⟩ := hd.get i (by rw [len_mkM]; exact hi)
  obtain ⟨rj, e2, h2, g2⟩ := hd.get j (by rw [len_mkM]; exact hj)
  rw [mkM_row hi] at h1 g1
  rw [mkM_row hj] at h2 g2
  rw [List.getElem?_map, e1] at ei
  rw [List.getElem?_map, e2] at ej
  injection ei with ei
  injection ej with ej
  have q1 : rs[i] = ri := by rw [List.getElem?_eq_getElem (by omega)] at e1; exact Option.some.inj e1
  have q2 : rs[j] = rj := by rw [List.getElem?_eq_getElem (by omega)] at e2; exact Option.some.inj e2
  refine ⟨(rs.set i rj).set j ri, by simp, ?_, by rw [List.map_set, List.map_set, ← ej, ← ei], ?_⟩
  · rw [← q1, ← q2]; exact List.set_set_perm (by omega) (by omega)
  · rw [← mkM_swap hi hj]
    exact RD.set1 h1 g1 (RD.set1 h2 g2 hd)
theorem St.swap {w0 w : World} {v : Value} {n : Nat} {rs rs' : List Rw} {bs : List En} {vs : List Value} (hs : St w0 (ls w0.heap.size 52 1 v n vs :: (bs ++ rs.map (Rw.e w0.heap.size))) w) (hp : rs'.Perm rs) (hv : rs'.map (·.v) = vs) :
    St w0 (ls w0.heap.size 52 1 v n (rs'.map (·.v)) :: (bs ++ rs'.map (Rw.e w0.heap.size))) w := by
  rw [hv]
  exact hs.perm (List.Perm.cons _ (List.Perm.append_left _ (hp.symm.map _)))
theorem St.newrow {w0 w : World} {x v : Value} {n K p : Nat} {xs : List Value} {rs : List Rw} {bs : List En} (hs : St w0 (ls w0.heap.size 28 4 x K xs :: ls w0.heap.size 52 1 v n ((rs.map (·.v)).set p x) :: (bs ++ rs.map (Rw.e w0.heap.size))) w) (hp : p < rs.length) :
    St w0 (ls w0.heap.size 52 1 v n ((rs.set p (⟨x, K, xs⟩ : Rw)).map (·.v)) :: (bs ++ (rs.set p (⟨x, K, xs⟩ : Rw)).map (Rw.e w0.heap.size))) w := by
  rw [List.map_set]
  refine St.perm ?_ (hs.sub (show List.Sublist (ls w0.heap.size 28 4 x K xs :: ls w0.heap.size 52 1 v n ((rs.map (·.v)).set p x) :: (bs ++ (rs.eraseIdx p).map (Rw.e w0.heap.size))) _ from .cons_cons _ (.cons_cons _ (List.Sublist.append_left ((List.eraseIdx_sublist _ _).map _) _))))
  refine (List.Perm.swap _ _ _).trans (List.Perm.cons _ ?_)
  refine (List.perm_middle.symm).trans (List.Perm.append_left _ ?_)
  have : (rs.set p (⟨x, K, xs⟩ : Rw)).Perm ((⟨x, K, xs⟩ : Rw) :: rs.eraseIdx p) := by
    rw [List.set_eq_take_append_cons_drop, if_pos hp, List.eraseIdx_eq_take_drop_succ]
    exact List.perm_middle
  exact (this.map (Rw.e w0.heap.size)).symm
end Go.Proofs.YtnkimagnmnocdaaGreat

/- gmat: AddRow, Swap, Turn. -/
namespace Go.Proofs.YtnkimagnmnocdaaGreat
open Go Go.RowKit Dig
set_option linter.unusedVariables false
section
variable {w : World} {la lq na ca i j k : Nat} {oa : Option Addr} {A : List (List (Int × Int))} {vq : Value} {u v : Int}
end
end Go.Proofs.YtnkimagnmnocdaaGreat

/- gmat.Turn; the reference's Vector, Copy. -/
namespace Go.Proofs.YtnkimagnmnocdaaGreat
open Go Go.RowKit Dig
set_option maxHeartbeats 4000000
set_option maxRecDepth 20000
set_option linter.unusedVariables false
theorem fi_rowed {A : List (List (Int × Int))} {i n k : Nat} (hi : i < n) : (mkM n k (fi (at2 A) i 0)).set i ((List.range k).map (at1 (rw_ A i))) = mkM n k (fi (at2 A) i k) := by
  rw [mkM_setrow hi]
  refine mkM_eq rfl rfl fun p _ q hq => ?_
  unfold rowed fi
  by_cases h : p = i
  · rw [if_pos h, if_pos (by omega), h]; rfl
  · rw [if_neg h]
    by_cases h2 : p < i
    · rw [if_pos (by omega), if_pos (by omega)]
    · rw [if_neg (by omega), if_neg (by omega)]
section
variable {w : World} {l la na ca n c i k : Nat} {o oa : Option Addr} {A : List (List (Int × Int))} {ps : List (Int × Int)}
theorem rVector_any (h1 : SN l w o ps) (hn : ps.length = n) (hl : n ≤ 1000000000) (hl1 : l ≤ 20000000) :
    Calls Tryz.prog 178 #[.slice o n c] w fun e w' => ∃ o c xs, e = .returned (.slice o n c) ∧ Lst w' w.heap.size 28 4 (.slice o n c) n xs ∧ GD w' xs ((List.range n).map (at1 ps)) ∧ Below w.heap.size w w' := by
  have H1 := hide h1
  clear h1
  go_enter Tryz.func178, Tryz.ntmps178
  have hs := St.nil w
  refine wp_seq_k ?_
  intro K1 hK1
  refine rg [0] ?_
  refine sq ?_
  refine .mv ?_
  apply wpSq_end
  refine hK1 _ _ ?_
  refine wp_seq_k ?_
  intro K2 hK2
  refine rg [0] ?_
  refine sq ?_
  refine .mv ?_
  apply wpSq_end
  refine hK2 _ _ ?_
  refine wp_seq_k ?_
  intro K3 hK3
  refine wp_seq_k ?_
  intro K4 hK4
  refine rg [0] ?_
  refine sq ?_
  refine .mv ?_
  apply wpSq_end
  refine hK4 _ _ ?_
  refine wp_block ?_
  have hd1 := hs.2.1
  go_loopg [3, 4] n (fun kk s3 s4 wr => ∃ (i : Nat) (o : Option Addr) (c : Nat) (xs : List Value), s4 = .int .i64 (i : Int) ∧ s3 = .slice o i c ∧ i + kk = n ∧ GD wr xs ((List.range i).map (at1 ps)) ∧
    St w [ls w.heap.size 28 4 (.slice o i c) i xs] wr)
  case atStart => exact ⟨0, none, 0, [], rfl, rfl, by omega, GD.nil _, hs.l0 _ _⟩
  case round =>
  clear hs
  obtain ⟨i, ow, cw, xs, rfl, rfl, hik, d, hs⟩ := hrel
  by_cases hi : i < n
  · obtain ⟨g1, off1, cur1, ty1, fz1, a1, a2, a3, a4, a5, a6, a7, a8, rfl, x1, e1, e2, e3, e4, z1, z2⟩ := H1.out.op (j := i) (by omega)
    replace z1 : ZN wr (.agg #[.bool a1, .slice a2 a3 a4]) (at1 ps i).1 l := z1.bl hs.b
    replace z2 : ZN wr (.agg #[.bool a5, .slice a6 a7 a8]) (at1 ps i).2 l := z2.bl hs.b
    have lt_kA := x1.lt
    replace x1 := x1.bl hs.b
    have E1 := hide (mapr_succ (at1 ps) i)
    generalize at1 ps i = p at *
    refine wp_seq_k ?_
    intro K5 hK5
    refine wp_seq_k ?_
    intro K6 hK6
    refine rg [0, 1, 2, 3] ?_
    refine sq ?_
    refine .mv ?_
    refine sq ?_
    refine .mv ?_
    refine sq ?_
    refine .r0 ?_
    refine sq ?_
    refine .r0 ?_
    apply wpSq_end
    refine hK6 _ _ ?_
    refine ct ?_
    refine wp_skip ?_
    refine hK5 _ _ ?_
    refine wp_seq_k ?_
    intro K7 hK7
    refine wp_block ?_
    refine rg [0, 1, 2, 3, 4, 5, 6, 7, 8] ?_
    refine sq ?_
    refine .mv ?_
    refine sq ?_
    refine .mv ?_
    refine sq ?_
    refine .mv ?_
    refine sq ?_
    refine .r0 ?_
    refine sq ?_
    refine .r4 ⟨x1.cell _ e1, x1.cell _ e2, x1.cell _ e3, x1.cell _ e4⟩ ?_
    refine sq ?_
    intro K hK
    go_big_op
    go_fit (rgCanonical_any (.mk' z1 z2) (by omega) (by omega))
    rintro e w_2 ⟨_, rfl, ⟨n_ta, o_ta, k_ta, c_ta, n_tb, o_tb, k_tb, c_tb, rfl, t1, t2⟩, hb_2⟩
    replace x1 := x1.bl hb_2; replace hs := hs.bl hb_2
    refine hK _ _ rfl trivial ?_
    clear hK K
    refine sq ?_
    refine .al hs ?_; clear hs; intro p_b1 w_3 hs n3 kb_b1
    replace x1 := x1.bl n3
    refine sq ?_
    have k1_2 := kb n3
    replace t1 := t1.k k1_2
    replace t2 := t2.k k1_2
    have k0_2 := (kb hb_2).b n3
    replace d := d.k k0_2
    replace d := d.snoc (.mk' t1 t2)
    refine .ap 1 hs hs.g0 ?_; clear hs; intro o_L_4 c_L_4 w_4 hs kp4 hw4; simp only [List.set_cons_succ, List.set_cons_zero] at hs
    replace x1 := x1.lo lt_kA hw4
    refine sq ?_
    refine .mv ?_
    apply wpSq_end
    refine hK7 _ _ ?_
    refine rg [0, 1, 2] ?_
    refine sq ?_
    refine .mv ?_
    refine sq ?_
    refine .r0 ?_
    refine sq ?_
    refine .mv ?_
    apply wpSq_end
    have k2_3 := kp4
    replace d := d.k k2_3
    refine ‹∀ (a' : Act) (w' : World), Handed _ _ a' w' → _› _ _ ?_
    go_roundg (gk - 1)
    case rel => exact ⟨i + 1, _, _, _, by rfl, by rfl, by omega, by rw [E1.out]; exact d, hs.sub (.cons _ (List.Sublist.refl _))⟩
    case measure => omega
  · obtain rfl : i = n := by omega
    clear hi
    refine wp_seq_k ?_
    intro K5 hK5
    refine wp_seq_k ?_
    intro K6 hK6
    refine rg [0, 1, 2, 3] ?_
    refine sq ?_
    refine .mv ?_
    refine sq ?_
    refine .mv ?_
    refine sq ?_
    refine .r0 ?_
    refine sq ?_
    refine .r0 ?_
    apply wpSq_end
    refine hK6 _ _ ?_
    refine cf ?_
    refine wp_exit ?_
    refine hK3 _ _ ?_
    refine wp_seq_k ?_
    intro K7 hK7
    refine rg [0, 1] ?_
    refine sq ?_
    refine .mv ?_
    refine sq ?_
    refine .mv ?_
    apply wpSq_end
    refine hK7 _ _ ?_
    refine wp_ret ?_
    try dsimp only [Exit.then, Exit.inBlock]
    refine bodyPost_ret (v := (.slice ow i cw)) (by simp [results, Tryz.results178, go_sem]) rfl ?_
    exact ⟨_, _, _, rfl, hs.1.1.1, d, hs.b⟩
theorem rCopy_any (ha : MN la w oa A) (hna : A.length = na) (h : gd A) (hk : wd A = k) (hla : la ≤ 20000000) :
    Calls Tryz.prog 118 #[.slice oa na ca] w fun e w' => ∃ o c rs, e = .returned (.slice o na c) ∧ rs.length = na ∧ St w (Mx w.heap.size (.slice o na c) rs) w' ∧ RD w' rs (mkM na k (at2 A)) ∧ Below w.heap.size w w' := by
  have HA := hide ha
  have hn64 : na ≤ 64 := by have := h.1; omega
  have hk64 : k ≤ 64 := by have := h.2.1; omega
  have HR := hide (show ∀ i, i < na → (rw_ A i).length = k from fun i hi => by rw [gd_row h (by omega)]; exact hk)
  clear ha h
  go_enter Tryz.func118, Tryz.ntmps118
  have hs := St.nil w
  refine wp_seq_k ?_
  intro K1 hK1
  refine rg [0] ?_
  refine sq ?_
  refine .mv ?_
  apply wpSq_end
  refine hK1 _ _ ?_
  refine wp_seq_k ?_
  intro K2 hK2
  refine rg [0, 1, 2, 3, 4, 5] ?_
  refine sq ?_
  refine .mv ?_
  refine sq ?_
  refine .r0 ?_
  refine sq ?_
  refine .mv ?_
  refine sq ?_
  intro K hK
  have hb := hs.b
  go_big_op
  go_fit (rCols_any (HA.out.bl stab_n hb) hna hk)
  rintro e w_1 ⟨rfl, hb_1⟩
  clear hb
  replace hs := hs.bl hb_1
  refine hK _ _ rfl trivial ?_
  clear hK K
  refine sq ?_
  intro K hK
  go_big_op
  go_fit (rNew_any (r := na) (k := k) (by omega) (by omega))
  rintro e w_2 ⟨o_O, c_O, rs_O, rfl, hl_O, hs_O, d_O, hb_2⟩
  replace hs := hs.mx hl_O hs_O; simp only [List.nil_append] at hs
  refine hK _ _ rfl trivial ?_
  clear hK K
  refine sq ?_
  refine .mv ?_
  apply wpSq_end
  refine hK2 _ _ ?_
  refine wp_seq_k ?_
  intro K3 hK3
  refine wp_seq_k ?_
  intro K4 hK4
  refine rg [0] ?_
  refine sq ?_
  refine .mv ?_
  apply wpSq_end
  refine hK4 _ _ ?_
  refine wp_block ?_
  have hd3 := hs.2.1
  go_loopg [4] na (fun kk s4 wr => ∃ (i : Nat) (rs : List Rw), s4 = .int .i64 (i : Int) ∧ i + kk = na ∧ rs.length = na ∧ RD wr rs (mkM na k (fi (at2 A) i 0)) ∧
    St w (ls w.heap.size 52 1 (.slice o_O na c_O) na (rs.map (·.v)) :: ([] ++ rs.map (Rw.e w.heap.size))) wr)
  case atStart => exact ⟨0, rs_O, rfl, by omega, hl_O, by rw [← fi_0]; exact d_O, hs⟩
  case round =>
  clear d_O hs
  obtain ⟨i, rs, rfl, hik, hrl, hd, hs⟩ := hrel
  by_cases hi : i < na
  · have HX := hide hi
    obtain ⟨gm, offm, curm, tym, fzm, oi, ci, rfl, x1, e5, s2⟩ := HA.out.row (i := i) (by omega)
    have HL := hide (HR.out i hi)
    rw [HL.out] at e5
    have HS := hide s2
    have lt_kA := x1.lt
    have x1z := x1
    replace x1 := x1.bl hs.b
    clear s2
    have LO : Lst wr w.heap.size 52 1 (.slice o_O na c_O) na _ := hs.1.1.1
    obtain ⟨gO, curO, rfl, xO, hcO⟩ := LO.box (by omega)
    clear LO hcO xO
    refine wp_seq_k ?_
    intro K5 hK5
    refine wp_seq_k ?_
    intro K6 hK6
    refine rg [0, 1, 2, 3] ?_
    refine sq ?_
    refine .mv ?_
    refine sq ?_
    refine .mv ?_
    refine sq ?_
    refine .r0 ?_
    refine sq ?_
    refine .r0 ?_
    apply wpSq_end
    refine hK6 _ _ ?_
    refine ct ?_
    refine wp_skip ?_
    refine hK5 _ _ ?_
    refine wp_seq_k ?_
    intro K7 hK7
    refine wp_block ?_
    refine rg [0, 1, 2, 3, 4, 5, 6, 7, 8] ?_
    refine sq ?_
    refine .mv ?_
    refine sq ?_
    refine .mv ?_
    refine sq ?_
    refine .mv ?_
    refine sq ?_
    refine .mv ?_
    refine sq ?_
    refine .r0 ?_
    refine sq ?_
    refine .r1 (x1.cell _ e5) ?_
    refine sq ?_
    intro K hK
    have hb := hs.b
    go_big_op
    go_fit (rVector_any (HS.out.bl stab_n hb) HL.out (by omega) (by omega))
    rintro e w_4 ⟨o_r, c_r, xs_r, rfl, L_r, d_r, hb_4⟩
    clear hb
    replace x1 := x1.bl hb_4
    replace hs := hs.la hb_4 L_r
    refine hK _ _ rfl trivial ?_
    clear hK K
    refine sq ?_
    refine .r0 ?_
    refine sq ?_
    refine .i1 1 hs (j := i) (by omega) ?_; clear hs; intro w_5 hs kp5 hd5 ho5 hw5; simp only [List.set_cons_succ, List.set_cons_zero] at hs
    replace x1 := x1.lo lt_kA hw5
    apply wpSq_end
    refine hK7 _ _ ?_
    refine rg [0, 1, 2] ?_
    refine sq ?_
    refine .mv ?_
    refine sq ?_
    refine .r0 ?_
    refine sq ?_
    refine .mv ?_
    apply wpSq_end
    have k1_2 := kp5
    replace d_r := d_r.k k1_2
    have k0_2 := (kb hb_4).t kp5
    replace hd := hd.k k0_2
    refine ‹∀ (a' : Act) (w' : World), Handed _ _ a' w' → _› _ _ ?_
    have hs := hs.newrow (bs := []) (by omega)
    go_roundg (gk - 1)
    case rel => exact ⟨i + 1, _, by rfl, by omega, by simpa using hrl, by rw [← fi_row, ← fi_rowed HX.out]; exact RD.set1 (by simp) d_r hd, hs⟩
    case measure => omega
  · obtain rfl : na = i := by omega
    have HX := hide hi
    refine wp_seq_k ?_
    intro K5 hK5
    refine wp_seq_k ?_
    intro K6 hK6
    refine rg [0, 1, 2, 3] ?_
    refine sq ?_
    refine .mv ?_
    refine sq ?_
    refine .mv ?_
    refine sq ?_
    refine .r0 ?_
    refine sq ?_
    refine .r0 ?_
    apply wpSq_end
    refine hK6 _ _ ?_
    refine cf ?_
    refine wp_exit ?_
    refine hK3 _ _ ?_
    refine wp_seq_k ?_
    intro K7 hK7
    refine rg [0, 1] ?_
    refine sq ?_
    refine .mv ?_
    refine sq ?_
    refine .mv ?_
    apply wpSq_end
    refine hK7 _ _ ?_
    refine wp_ret ?_
    try dsimp only [Exit.then, Exit.inBlock]
    refine bodyPost_ret (v := (.slice o_O na c_O)) (by simp [results, Tryz.results118, go_sem]) rfl ?_
    exact ⟨_, _, rs, rfl, hrl, (by unfold Mx; rw [hrl]; exact hs), by rw [← fi_end]; exact hd, hs.b⟩
end
end Go.Proofs.YtnkimagnmnocdaaGreat
