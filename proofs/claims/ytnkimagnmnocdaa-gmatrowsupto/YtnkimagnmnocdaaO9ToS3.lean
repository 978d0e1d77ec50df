/- The reference's Trans. -/
import Derived.Test.YtnkimagnmnocdaaO3ToO8
import Derived.Test.YtnkimagnmnocdaaI5ToO2

namespace Go.Proofs.Ytnkimagnmnocdaa
open Go Go.RowKit Dig
set_option linter.unusedVariables false
section
variable {G F : Nat → Nat → Int × Int} {i j n k p q : Nat}
/-- A number put in its place. -/
theorem RD.upd {w : World} {r1 r2 : List Rw} {r : Rw} {x : Value} {xs : List Value} {n1 n2 : Bool} {o1 o2 : Option Addr} {k1 c1 k2 c2 : Nat} {y : Int × Int} (hd : RD w (r1 ++ r :: r2) (mkM n k F)) (hr : r1.length = p) (hp : p < n) (hq : q < k)
    (hx : GD w xs ((mkM n k F)[p]'(by rw [len_mkM]; exact hp))) (h1 : ZC w (.agg #[.bool n1, .slice o1 k1 c1]) y.1) (h2 : ZC w (.agg #[.bool n2, .slice o2 k2 c2]) y.2) :
    RD w (r1 ++ (⟨x, k, setL xs [(q * 4, .bool n1), (q * 4 + 1, .slice o1 k1 c1), (q * 4 + 2, .bool n2), (q * 4 + 3, .slice o2 k2 c2)]⟩ : Rw) :: r2) (mkM n k (Go.Proofs.Ytnkimagnmnocdaa.upd F p q y)) := by
  rw [mkM_row hp] at hx
  have := RD.set' (v := x) (n := k) (by simp) (GD.put h1 h2 hx (q := q) (by simpa using hq)) hd hr
  rw [mkM_set hp, show ((y.1, y.2) : Int × Int) = y from rfl] at this
  exact this
end
section
variable {w : World} {l n k cm : Nat} {om : Option Addr} {M : List (List (Int × Int))}
end
end Go.Proofs.Ytnkimagnmnocdaa


/- The reference's Adj. -/
namespace Go.Proofs.Ytnkimagnmnocdaa
open Go Go.RowKit Dig
set_option linter.unusedVariables false
section
variable {G : Nat → Nat → Int × Int} {i j n k : Nat}
theorem St.rowv {w0 w : World} {v : Value} {m p K : Nat} {rs : List Rw} {bs : List En} {Ms : List (List (Int × Int))} (hs : St w0 (ls w0.heap.size 39 1 v m (rs.map (·.v)) :: (bs ++ rs.map (Rw.e w0.heap.size))) w) (hd : RD w rs Ms) (hp : p < Ms.length) (hK : Ms[p].length = K) :
    ∃ o c, (rs.map (·.v))[p]? = some (.slice o K c) := by
  obtain ⟨r1, r, r2, rfl, h1, h2, h3⟩ := hd.at' hp
  have h4 : (ls w0.heap.size 39 1 v m ((r1 ++ r :: r2).map (·.v)) :: (bs ++ (r1 ++ r :: r2).map (Rw.e w0.heap.size)))[1 + (bs.length + p)]? = some (r.e w0.heap.size) := by
    rw [Nat.add_comm 1, List.getElem?_cons_succ, List.getElem?_append_right (by omega), show bs.length + p - bs.length = p by omega, List.getElem?_map, List.getElem?_append_right (by omega)]
    simp [h1]
  have L : Lst w w0.heap.size 41 4 r.v r.n r.xs := (hs.1.at h4).1
  obtain ⟨o, c, e⟩ := L.shape
  exact ⟨o, c, by rw [List.map_append, List.map_cons, List.getElem?_append_right (by simp [h1])]; simp [h1, e, h2, hK]⟩
end
section
variable {w : World} {l n k cm : Nat} {om : Option Addr} {M : List (List (Int × Int))}
end
end Go.Proofs.Ytnkimagnmnocdaa


/- GmatAlong: what its calls tell. -/
namespace Go.Proofs.Ytnkimagnmnocdaa
open Go Go.RowKit Dig
set_option linter.unusedVariables false
section
variable {w : World} {l la lb lv n k na nb ca cb c : Nat} {oa ob ov : Option Addr} {A B : List (List (Int × Int))} {V : List (Int × Int)}
end
end Go.Proofs.Ytnkimagnmnocdaa


/- GmatSingle: what its calls tell. -/
namespace Go.Proofs.Ytnkimagnmnocdaa
open Go Go.RowKit Dig
set_option linter.unusedVariables false
theorem mkM_rl {R K : Nat} {F : Nat → Nat → Int × Int} (h : K ≤ 64) : ∀ r ∈ mkM R K F, r.length ≤ 1000000000 := fun r hr => by
  obtain ⟨i, _, rfl⟩ := List.mem_map.1 hr
  simp only [List.length_map, List.length_range]; omega
section
variable {w : World} {l lb n k c : Nat} {o : Option Addr} {A : List (List (Int × Int))} {vg : Value} {u v : Int}
end
end Go.Proofs.Ytnkimagnmnocdaa


/- Rows of own matrices written anew, number by number; exchanged; replaced. -/
namespace Go.Proofs.Ytnkimagnmnocdaa
open Go Go.RowKit Dig
set_option linter.unusedVariables false
/-- Row p as told, the others as they were. -/
def rowed (F : Nat → Nat → Int × Int) (p : Nat) (g : Nat → Int × Int) : Nat → Nat → Int × Int := fun i j => if i = p then g j else F i j
/-- Row i's first j numbers as told. -/
def pr (F : Nat → Nat → Int × Int) (i j : Nat) (g : Nat → Int × Int) : Nat → Nat → Int × Int := fun p q => if p = i ∧ q < j then g q else F p q
/-- Rows i and j exchanged. -/
def swr (i j r : Nat) : Nat := if r = i then j else if r = j then i else r
section
variable {F : Nat → Nat → Int × Int} {g : Nat → Int × Int} {i j n k p : Nat}
theorem pr_0 : mkM n k F = mkM n k (pr F i 0 g) := mkM_eq rfl rfl fun p _ q _ => by unfold pr; rw [if_neg (by omega)]
theorem pr_here : pr F i j g i j = F i j := by unfold pr; rw [if_neg (by omega)]
theorem pr_step : upd (pr F i j g) i j (g j) = pr F i (j + 1) g := by
  funext p q
  unfold upd pr
  by_cases h : p = i ∧ q = j
  · rw [if_pos h, if_pos (by omega), h.2]
  · rw [if_neg h]
    by_cases h2 : p = i ∧ q < j
    · rw [if_pos h2, if_pos (by omega)]
    · rw [if_neg h2, if_neg (by omega)]
theorem pr_end : mkM n k (pr F i k g) = mkM n k (rowed F i g) := mkM_eq rfl rfl fun p _ q hq => by
  unfold pr rowed
  by_cases h : p = i
  · rw [if_pos ⟨h, hq⟩, if_pos h]
  · rw [if_neg (by omega), if_neg h]
theorem mkM_setrow (hp : p < n) : (mkM n k F).set p ((List.range k).map g) = mkM n k (rowed F p g) := by
  refine List.ext_getElem (by simp [mkM]) fun i h1 h2 => ?_
  simp only [mkM, List.getElem_set, List.getElem_map, List.getElem_range]
  by_cases e : p = i
  · subst e; simp [rowed]
  · rw [if_neg e]; simp [rowed, Ne.symm e]
theorem mkM_swap (hi : i < n) (hj : j < n) : ((mkM n k F).set i ((List.range k).map (F j))).set j ((List.range k).map (F i)) = mkM n k (fun r => F (swr i j r)) := by
  refine List.ext_getElem (by simp [mkM]) fun r h1 h2 => ?_
  simp only [mkM, List.getElem_set, List.getElem_map, List.getElem_range]
  unfold swr
  by_cases e : j = r
  · subst e
    by_cases e2 : j = i
    · subst e2; simp
    · simp [e2]
  · rw [if_neg e]
    by_cases e2 : i = r
    · subst e2; simp
    · rw [if_neg e2, if_neg (Ne.symm e2), if_neg (Ne.symm e)]
end
theorem RD.set1 {w : World} {r : Rw} {m : List (Int × Int)} (hn : r.n = m.length) (hg : GD w r.xs m) : ∀ {rs : List Rw} {Ms : List (List (Int × Int))} {p : Nat}, RD w rs Ms → RD w (rs.set p r) (Ms.set p m)
  | [], [], p, h => h
  | _ :: _, _ :: _, 0, h => ⟨⟨hn, hg⟩, h.2⟩
  | _ :: _, _ :: _, p + 1, h => ⟨h.1, RD.set1 hn hg h.2⟩
theorem RD.swap {w : World} {rs : List Rw} {n k i j : Nat} {F : Nat → Nat → Int × Int} {vi vj : Value} (hd : RD w rs (mkM n k F)) (hi : i < n) (hj : j < n) (ei : (rs.map (·.v))[i]? = some vi) (ej : (rs.map (·.v))[j]? = some vj) :
    ∃ rs', rs'.length = rs.length ∧ rs'.Perm rs ∧ rs'.map (·.v) = ((rs.map (·.v)).set i vj).set j vi ∧ RD w rs' (mkM n k fun r => F (swr i j r)) := by
  have hl : rs.length = n := by rw [hd.len]; exact len_mkM
  obtain ⟨ri, e1, h1, g1⟩ := hd.get i (by rw [len_mkM]; exact hi)
  obtain ⟨rj, e2, h2, g2⟩ := hd.get j (by rw [len_mkM]; exact hj)
  rw [mkM_row hi] at h1 g1
  rw [mkM_row hj] at h2 g2
  rw [List.getElem?_map, e1] at ei
  rw [List.getElem?_map, e2] at ej
  injection ei with ei
  injection ej with ej
  have q1 : rs[i] = ri := by rw [List.getElem?_eq_getElem (by omega)] at e1; exact Option.some.inj e1
  have q2 : rs[j] = rj := by rw [List.getElem?_eq_getElem (by omega)] at e2; exact Option.some.inj e2
  refine ⟨(rs.set i rj).set j ri, by simp, ?_, by rw [List.map_set, List.map_set, ← ej, ← ei], ?_⟩
  · rw [← q1, ← q2]; exact List.set_set_perm (by omega) (by omega)
  · rw [← mkM_swap hi hj]
    exact RD.set1 h1 g1 (RD.set1 h2 g2 hd)
theorem St.swap {w0 w : World} {v : Value} {n : Nat} {rs rs' : List Rw} {bs : List En} {vs : List Value} (hs : St w0 (ls w0.heap.size 39 1 v n vs :: (bs ++ rs.map (Rw.e w0.heap.size))) w) (hp : rs'.Perm rs) (hv : rs'.map (·.v) = vs) :
    St w0 (ls w0.heap.size 39 1 v n (rs'.map (·.v)) :: (bs ++ rs'.map (Rw.e w0.heap.size))) w := by
  rw [hv]
  exact hs.perm (List.Perm.cons _ (List.Perm.append_left _ (hp.symm.map _)))
/-- A new row in the place of an elder one. -/
theorem St.newrow {w0 w : World} {x v : Value} {n K p : Nat} {xs : List Value} {rs : List Rw} {bs : List En} (hs : St w0 (ls w0.heap.size 41 4 x K xs :: ls w0.heap.size 39 1 v n ((rs.map (·.v)).set p x) :: (bs ++ rs.map (Rw.e w0.heap.size))) w) (hp : p < rs.length) :
    St w0 (ls w0.heap.size 39 1 v n ((rs.set p (⟨x, K, xs⟩ : Rw)).map (·.v)) :: (bs ++ (rs.set p (⟨x, K, xs⟩ : Rw)).map (Rw.e w0.heap.size))) w := by
  rw [List.map_set]
  refine St.perm ?_ (hs.sub (show List.Sublist (ls w0.heap.size 41 4 x K xs :: ls w0.heap.size 39 1 v n ((rs.map (·.v)).set p x) :: (bs ++ (rs.eraseIdx p).map (Rw.e w0.heap.size))) _ from .cons_cons _ (.cons_cons _ (List.Sublist.append_left ((List.eraseIdx_sublist _ _).map _) _))))
  refine (List.Perm.swap _ _ _).trans (List.Perm.cons _ ?_)
  refine (List.perm_middle.symm).trans (List.Perm.append_left _ ?_)
  have : (rs.set p (⟨x, K, xs⟩ : Rw)).Perm ((⟨x, K, xs⟩ : Rw) :: rs.eraseIdx p) := by
    rw [List.set_eq_take_append_cons_drop, if_pos hp, List.eraseIdx_eq_take_drop_succ]
    exact List.perm_middle
  exact (this.map (Rw.e w0.heap.size)).symm
theorem PL2 {w : World} {p : Nat} {a b : Int} {ty : TypeId} {fz : Nat × Nat} (x : Bs w p #[.int .i64 a, .int .i64 b] ty fz) : PL w (some ⟨p, 0, none⟩) [a, b] :=
  ⟨p, _, ty, fz, rfl, x, fun i hi => match i, hi with
    | 0, _ => rfl
    | 1, _ => rfl⟩
theorem PL1 {w : World} {p : Nat} {a : Int} {ty : TypeId} {fz : Nat × Nat} (x : Bs w p #[.int .i64 a] ty fz) : PL w (some ⟨p, 0, none⟩) [a] :=
  ⟨p, _, ty, fz, rfl, x, fun i hi => match i, hi with
    | 0, _ => rfl⟩
end Go.Proofs.Ytnkimagnmnocdaa


/- gmat: AddRow, Swap, Turn. -/
namespace Go.Proofs.Ytnkimagnmnocdaa
open Go Go.RowKit Dig
set_option linter.unusedVariables false
section
variable {w : World} {la lq na ca i j k : Nat} {oa : Option Addr} {A : List (List (Int × Int))} {vq : Value} {u v : Int}
set_option maxHeartbeats 4000000 in
set_option maxRecDepth 20000 in
theorem mAddRow_ok (ha : MN la w oa A) (hq : PN w vq u lq v lq) (hna : A.length = na) (h : gd A) (hk : wd A = k) (hi : i < na) (hj : j < na) (hij : i ≠ j) (hla : la ≤ 20000000) (hlq : lq ≤ 20000000) :
    Calls Try.prog 16 #[.slice oa na ca, .int .i64 (i : Int), .int .i64 (j : Int), vq] w fun e w' => ∃ o c rs, e = .returned (.tuple #[.slice o na c, .int .i64 0]) ∧ rs.length = na ∧ St w (Mx w.heap.size (.slice o na c) rs) w' ∧ RD w' rs (mkM na k (rowed (at2 A) i fun q => aP (at2 A i q) (mP (u, v) (at2 A j q)))) ∧ Below w.heap.size w w' := by
  obtain ⟨G, hG⟩ : ∃ G : Nat → Int × Int, G = fun q => aP (at2 A i q) (mP (u, v) (at2 A j q)) := ⟨_, rfl⟩
  rw [← hG]
  have HG := hide (fun q => congrFun hG q)
  have t1 : ((i : Int) == (j : Int)) = false := beq_eq_false_iff_ne.2 (by omega)
  have HA := hide ha
  have H := hide h
  have HK := hide hk
  have HB := hide ha.bd
  have HI := hide hi
  have HJ := hide hj
  have hn64 : na ≤ 64 := by have := h.1; omega
  have hk64 : k ≤ 64 := by have := h.2.1; omega
  obtain ⟨gm, offm, curm, tym, fzm, oj, cj, rfl, xm, em, sj⟩ := ha.row (i := j) (by omega)
  rw [show (rw_ A j).length = k by rw [gd_row h (by omega)]; exact hk] at em
  have HS := hide sj
  have HL := hide (show (rw_ A j).length = k by rw [gd_row h (by omega)]; exact hk)
  clear ha h hk hG hij sj
  obtain ⟨n_3a, o_3a, k_3a, c_3a, n_3b, o_3b, k_3b, c_3b, rfl, hq1, hq2⟩ := hq
  go_enter Try.func16, Try.ntmps16
  have hs := St.nil w
  have lt_kA := xm.lt
  have xmz := xm
  refine wp_seq_k ?_
  intro K1 hK1
  refine rg [0, 1, 2] ?_
  refine sq ?_
  refine .al hs ?_; clear hs; intro p_b1 w_1 hs n1 kb_b1
  replace xm := xm.bl n1
  refine sq ?_
  refine .mv ?_
  refine sq ?_
  refine .mv ?_
  apply wpSq_end
  refine hK1 _ _ ?_
  refine wp_seq_k ?_
  intro K2 hK2
  refine rg [0, 1, 2, 3, 4, 5, 6, 7, 8, 9] ?_
  refine sq ?_
  refine .mv ?_
  refine sq ?_
  refine .mv ?_
  refine sq ?_
  refine .mv ?_
  refine sq ?_
  refine .al hs ?_; clear hs; intro p_b2 w_2 hs n2 kb_b2
  replace xm := xm.bl n2
  refine sq ?_
  intro K hK
  have hb := hs.b
  go_big_op
  go_fit (copied_ok (HA.out.bl stab_n hb) (PL2 hs.g0) rfl hna H.out HK.out (by simp) (by omega) (by have := HI.out; have := HJ.out; simp; omega))
  rintro e w_3 ⟨o_O, c_O, rs_O, rfl, hl_O, hs_O, d_O, hb_3⟩
  clear hb
  replace xm := xm.bl hb_3
  replace hs := hs.mx hl_O hs_O; simp only [List.cons_append, List.nil_append] at hs
  refine hK _ _ rfl trivial ?_
  clear hK K
  refine sq ?_
  refine .mv ?_
  refine sq ?_
  refine .r0 ?_
  refine sq ?_
  refine .r0 ?_
  refine sq ?_
  refine .mv ?_
  refine sq ?_
  refine .mv ?_
  apply wpSq_end
  refine hK2 _ _ ?_
  refine wp_seq_k ?_
  intro K3 hK3
  refine wp_seq_k ?_
  intro K4 hK4
  refine rg [0, 1] ?_
  refine sq ?_
  refine .mv ?_
  refine sq ?_
  refine .r0 ?_
  apply wpSq_end
  refine hK4 _ _ ?_
  refine cf ?_
  refine wp_skip ?_
  refine hK3 _ _ ?_
  refine wp_seq_k ?_
  intro K5 hK5
  refine wp_seq_k ?_
  intro K6 hK6
  refine rg [0, 1, 2] ?_
  refine sq ?_
  refine .mv ?_
  refine sq ?_
  refine .mv ?_
  refine sq ?_
  refine .r0 ?_
  apply wpSq_end
  refine hK6 _ _ ?_
  refine cf ?_
  refine wp_skip ?_
  refine hK5 _ _ ?_
  refine wp_seq_k ?_
  intro K7 hK7
  refine wp_seq_k ?_
  intro K8 hK8
  refine rg [0, 1, 2, 3, 4, 5] ?_
  refine sq ?_
  refine .mv ?_
  refine sq ?_
  refine .mv ?_
  refine sq ?_
  refine .r0 ?_
  refine sq ?_
  refine .r1 (xm.cell _ em) ?_
  refine sq ?_
  refine .r0 ?_
  refine sq ?_
  refine .mv ?_
  apply wpSq_end
  refine hK8 _ _ ?_
  refine wp_block ?_
  have k0_3 := ((kb n1).b n2).b hb_3
  replace hq1 := hq1.k k0_3
  replace hq2 := hq2.k k0_3
  have hd4 := hs.2.1
  go_loopg [33] k (fun kk s33 wr => ∃ (q : Nat) (rs : List Rw), s33 = .int .i64 (q : Int) ∧ q + kk = k ∧ rs.length = na ∧ RD wr rs (mkM na k (pr (at2 A) i q G)) ∧ ZN wr (.agg #[.bool n_3a, .slice o_3a k_3a c_3a]) u lq ∧ ZN wr (.agg #[.bool n_3b, .slice o_3b k_3b c_3b]) v lq ∧
    St w (ls w.heap.size 39 1 (.slice o_O na c_O) na (rs.map (·.v)) :: ([bx p_b1 #[.bool n_3a, .slice o_3a k_3a c_3a, .bool n_3b, .slice o_3b k_3b c_3b] 41] ++ rs.map (Rw.e w.heap.size))) wr)
  case atStart => exact ⟨0, rs_O, rfl, by omega, hl_O, by rw [← pr_0]; exact d_O, hq1, hq2, hs.sub (.cons_cons _ (.cons _ (List.Sublist.refl _)))⟩
  case round =>
  clear hq1 hq2 xm d_O hs
  obtain ⟨q, rs, rfl, hqk, hrl, hd, z5, z6, hs⟩ := hrel
  by_cases hqk2 : q < k
  · have HQ := hide hqk2
    obtain ⟨g2, off2, cur2, ty2, fz2, d1, d2, d3, d4, d5, d6, d7, d8, rfl, x2, e5, e6, e7, e8, z3, z4⟩ := HS.out.op (j := q) (by rw [HL.out]; exact hqk2)
    replace z3 : ZN wr (.agg #[.bool d1, .slice d2 d3 d4]) (at2 A j q).1 la := z3.bl hs.b
    replace z4 : ZN wr (.agg #[.bool d5, .slice d6 d7 d8]) (at2 A j q).2 la := z4.bl hs.b
    have x2z := x2
    have lt_kRA := x2.lt
    replace x2 := x2.bl hs.b
    obtain ⟨r1, gr, cr, xs, r2, rfl, hr1, hrv, hx, hs⟩ := hs.row hd (p := i) (K := k) (by rw [len_mkM]; exact HI.out) (by rw [mkM_row HI.out]; simp) (by omega)
    have LO : Lst wr w.heap.size 39 1 (.slice o_O na c_O) na _ := hs.1.2.1.1
    obtain ⟨gO, curO, rfl, xO, hcO⟩ := LO.box (by omega)
    have eO := hcO _ _ hrv
    have LR : Lst wr w.heap.size 41 4 (.slice (some ⟨gr, 0, none⟩) k cr) k xs := hs.1.1.1
    obtain ⟨gr', curR, eR, xR, hcR⟩ := LR.box (by omega)
    simp only [Option.some.injEq, Addr.mk.injEq, and_true] at eR
    obtain rfl : gr = gr' := eR
    have hx2 := hx
    rw [mkM_row HI.out] at hx2
    obtain ⟨a1, a2, a3, a4, a5, a6, a7, a8, e1, e2, e3, e4, z1, z2⟩ := hx2.els q (by simpa using hqk2)
    rw [show ((List.range k).map (pr (at2 A) i q G i))[q]'(by simpa using hqk2) = at2 A i q by simp [pr_here]] at z1 z2
    have LB := hide (at2_bd (i := i) (j := q) HB.out)
    have LF := hide (show zl (lq + la + 1) (mP (u, v) (at2 A j q)) from zl_mP ⟨z5.len, z6.len⟩ (at2_bd HB.out))
    have Lz3 := hide z3.len
    have Lz4 := hide z4.len
    replace z1 := z1.zn LB.out.1
    replace z2 := z2.zn LB.out.2
    replace e1 := hcR _ _ e1
    replace e2 := hcR _ _ e2
    replace e3 := hcR _ _ e3
    replace e4 := hcR _ _ e4
    clear LO hcO hrv LR hcR hx2
    have HGq := hide (HG.out q)
    obtain ⟨P1, hP1⟩ : ∃ P1, at2 A i q = P1 := ⟨_, rfl⟩
    obtain ⟨P2, hP2⟩ : ∃ P2, at2 A j q = P2 := ⟨_, rfl⟩
    rw [hP1] at z1 z2 LB HGq
    rw [hP2] at z3 z4 LF HGq
    clear hP1 hP2
    refine wp_seq_k ?_
    intro K9 hK9
    refine rg [0] ?_
    refine sq ?_
    refine .r0 ?_
    apply wpSq_end
    refine hK9 _ _ ?_
    refine wp_seq_k ?_
    intro K10 hK10
    refine ct ?_
    refine wp_skip ?_
    refine hK10 _ _ ?_
    refine wp_seq_k ?_
    intro K11 hK11
    refine wp_block ?_
    refine wp_seq_k ?_
    intro K12 hK12
    refine rg [0, 1, 2, 3, 4, 5] ?_
    refine sq ?_
    refine .mv ?_
    refine sq ?_
    refine .r0 ?_
    refine sq ?_
    refine .r4 ⟨x2.cell _ e5, x2.cell _ e6, x2.cell _ e7, x2.cell _ e8⟩ ?_
    refine sq ?_
    refine .al hs ?_; clear hs; intro p_b3 w_5 hs n5 kb_b3
    replace x2 := x2.bl n5; replace xR := xR.bl n5; replace xO := xO.bl n5
    refine sq ?_
    refine .mv ?_
    refine sq ?_
    refine .s4 hs.g0 (fun _ => hs.u0 kb_b3) ?_; clear hs; intro w_6 hs hd6 ho6
    replace x2 := x2.frame ho6 (Nat.ne_of_lt (Nat.lt_of_lt_of_le lt_kRA kb_b3)); replace xR := xR.frame ho6 (hs.ne 1 0); replace xO := xO.frame ho6 (hs.ne 2 0)
    apply wpSq_end
    refine hK12 _ _ ?_
    refine wp_region_f4 [(0, false), (1, false), (2, false), (3, false), (4, false), (5, false), (6, false), (7, false), (8, false), (9, false), (10, false), (11, false), (12, false), (13, false), (14, true), (15, true), (16, false)] [17] [] (fun _ => default) [99, 99, 99, 0, 99, 99, 99, 99, 0, 99, 99, 1, 2, 3, 99, 99, 99, 99] [(17, 1)] (.c xO (.c xR (.c hs.g3 (.c hs.g0 .n)))) fn fun w_7 n7 => ?_
    replace x2 := x2.bl n7; replace xR := xR.bl n7; replace xO := xO.bl n7; replace hs := hs.bl n7
    refine fmv ?_
    refine fmv ?_
    refine f0 ?_
    apply wpFl_ld rfl rfl; (case h1 => intro w' hC K hK; have c0 := Bs.cell hC (i) eO; go_big_op; exact hK); iterate 4 kernel_rfl
    refine fmv ?_
    refine fmv ?_
    refine fmv ?_
    refine f0 ?_
    apply wpFl_ld rfl rfl; (case h1 => intro w' hC K hK; have c0 := Bs.cell hC (i) eO; go_big_op; exact hK); iterate 4 kernel_rfl
    refine fmv ?_
    refine f0 ?_
    apply wpFl_ld rfl rfl; (case h1 => intro w' hC K hK; have c0 := Bs.cell hC ((q * 4)) e1; have c1 := Bs.cell hC ((q * 4) + 1) e2; have c2 := Bs.cell hC ((q * 4) + 2) e3; have c3 := Bs.cell hC ((q * 4) + 3) e4; go_big_op; exact hK); iterate 4 kernel_rfl
    refine f4 ?_
    refine f4 ?_
    refine fl fun w_8 n8 => ?_
    replace x2 := x2.bl n8; replace xR := xR.bl n8; replace xO := xO.bl n8; replace hs := hs.bl n8
    intro K hK
    have k0_4 := (((kb n5).o hd6 ho6).b n7).b n8
    replace z5 := z5.k k0_4
    replace z6 := z6.k k0_4
    replace z3 := z3.k k0_4
    replace z4 := z4.k k0_4
    go_big_op
    go_fit (gMul_any (.mk' z5 z6) (.mk' z3 z4) (by omega) (by omega) (by omega) (by omega))
    rintro e w_9 ⟨_, rfl, ⟨n_fa, o_fa, k_fa, c_fa, n_fb, o_fb, k_fb, c_fb, rfl, f1, f2⟩, hb_9⟩
    replace x2 := x2.bl hb_9; replace xR := xR.bl hb_9; replace xO := xO.bl hb_9; replace hs := hs.bl hb_9
    have Lf1 := hide (f1.lenOf (LF.out.1))
    have Lf2 := hide (f2.lenOf (LF.out.2))
    refine hK _ _ rfl ⟨hb_9, (And.intro xO (And.intro xR (And.intro hs.g3 (And.intro hs.g0 trivial))))⟩ ?_
    clear hK K
    refine fl fun w_10 n10 => ?_
    replace x2 := x2.bl n10; replace xR := xR.bl n10; replace xO := xO.bl n10; replace hs := hs.bl n10
    intro K hK
    have k0_6 := (k0_4.b hb_9).b n10
    replace z1 := z1.k k0_6
    replace z2 := z2.k k0_6
    have k5_6 := kb n10
    replace f1 := f1.k k5_6
    replace f2 := f2.k k5_6
    go_big_op
    go_fit (gAdd_any (.mk' z1 z2) (.mk' (f1.zn Lf1.out) (f2.zn Lf2.out)) (by omega) (by omega) (by omega) (by omega))
    rintro e w_11 ⟨_, rfl, ⟨n_ta, o_ta, k_ta, c_ta, n_tb, o_tb, k_tb, c_tb, rfl, t1, t2⟩, hb_11⟩
    replace x2 := x2.bl hb_11; replace xR := xR.bl hb_11; replace xO := xO.bl hb_11; replace hs := hs.bl hb_11
    refine hK _ _ rfl ⟨hb_11, (And.intro xO (And.intro xR (And.intro hs.g3 (And.intro hs.g0 trivial))))⟩ ?_
    clear hK K
    refine f0 ?_
    refine e0 hs ?_; clear hs; intro w_12 hs n12
    replace x2 := x2.bl n12; replace xR := xR.bl n12; replace xO := xO.bl n12
    refine tl ?_
    refine .i4 1 hs (j := q) (by omega) ?_ (e := fun _ hB hO => (And.intro (xO.frame hO (hs.ne 2 1)) (And.intro True.intro (And.intro (hs.g3.frame hO (hs.ne 3 1)) (And.intro (hs.g0.frame hO (hs.ne 0 1)) True.intro))))); clear hs; intro w_13 hs kp13 hd13 ho13 hw13; simp only [List.set_cons_succ, List.set_cons_zero] at hs
    replace x2 := x2.lo lt_kRA hw13
    clear xR
    clear xO
    apply wpTail_end
    refine hK11 _ _ ?_
    refine rg [0, 1] ?_
    refine sq ?_
    refine .r0 ?_
    refine sq ?_
    refine .mv ?_
    apply wpSq_end
    have k0_9 := ((k0_6.b hb_11).b n12).t kp13
    replace hd := hd.k k0_9
    replace hx := hx.k k0_9
    have k7_9 := (kb n12).t kp13
    replace t1 := t1.k k7_9
    replace t2 := t2.k k7_9
    have k4_9 := ((((kb hb_9).b n10).b hb_11).b n12).t kp13
    replace z5 := z5.k k4_9
    replace z6 := z6.k k4_9
    refine ‹∀ (a' : Act) (w' : World), Handed _ _ a' w' → _› _ _ ?_
    go_roundg (gk - 1)
    case rel => exact ⟨q + 1, _, by rfl, by omega, by simpa using hrl, by rw [← pr_step, HGq.out]; exact hd.upd hr1 HI.out HQ.out hx t1 t2, z5, z6, (hs.sub (.cons _ (List.Sublist.refl _))).unrow (bs := [_])⟩
    case measure => omega
  · obtain rfl : k = q := by omega
    have HX := hide hqk2
    refine wp_seq_k ?_
    intro K9 hK9
    refine rg [0] ?_
    refine sq ?_
    refine .r0 ?_
    apply wpSq_end
    refine hK9 _ _ ?_
    refine wp_seq_k ?_
    intro K10 hK10
    refine cf ?_
    refine wp_exit ?_
    refine hK7 _ _ ?_
    refine wp_seq_k ?_
    intro K11 hK11
    refine rg [0, 1, 2] ?_
    refine sq ?_
    refine .mv ?_
    refine sq ?_
    refine .mv ?_
    refine sq ?_
    refine .mv ?_
    apply wpSq_end
    refine hK11 _ _ ?_
    refine wp_ret ?_
    try dsimp only [Exit.then, Exit.inBlock]
    refine bodyPost_ret (v := (.tuple #[(.slice o_O na c_O), (.int .i64 0)])) (by simp [results, Try.results16, go_sem]) rfl ?_
    exact ⟨_, _, rs, rfl, hrl, (by unfold Mx; rw [hrl]; exact hs.sub (.cons_cons _ (.cons _ (List.Sublist.refl _)))), by rw [← pr_end]; exact hd, hs.b⟩
set_option maxHeartbeats 4000000 in
set_option maxRecDepth 20000 in
theorem mAddRow_bad {i j : Int} (ha : MN la w oa A) (hq : PN w vq u lq v lq) (hna : A.length = na) (h : ¬ gd A) (hla : na ≤ 1000000000) :
    Calls Try.prog 16 #[.slice oa na ca, .int .i64 i, .int .i64 j, vq] w fun e w' => e = .returned (.tuple #[.slice none 0 0, .int .i64 4]) ∧ Below w.heap.size w w' := by
  have HA := hide ha
  have H := hide h
  clear ha h
  obtain ⟨n_3a, o_3a, k_3a, c_3a, n_3b, o_3b, k_3b, c_3b, rfl, hq1, hq2⟩ := hq
  go_enter Try.func16, Try.ntmps16
  have hs := St.nil w
  refine wp_seq_k ?_
  intro K1 hK1
  refine rg [0, 1, 2] ?_
  refine sq ?_
  refine .al hs ?_; clear hs; intro p_b1 w_1 hs n1 kb_b1
  refine sq ?_
  refine .mv ?_
  refine sq ?_
  refine .mv ?_
  apply wpSq_end
  refine hK1 _ _ ?_
  refine wp_seq_k ?_
  intro K2 hK2
  refine rg [0, 1, 2, 3, 4, 5, 6, 7, 8, 9] ?_
  refine sq ?_
  refine .mv ?_
  refine sq ?_
  refine .mv ?_
  refine sq ?_
  refine .mv ?_
  refine sq ?_
  refine .al hs ?_; clear hs; intro p_b2 w_2 hs n2 kb_b2
  refine sq ?_
  intro K hK
  have hb := hs.b
  go_big_op
  go_fit (copied_bad (HA.out.bl stab_n hb) hna H.out hla)
  rintro e w_3 ⟨rfl, hb_3⟩
  clear hb
  replace hs := hs.bl hb_3
  refine hK _ _ rfl trivial ?_
  clear hK K
  refine sq ?_
  refine .mv ?_
  refine sq ?_
  refine .r0 ?_
  refine sq ?_
  refine .r0 ?_
  refine sq ?_
  refine .mv ?_
  refine sq ?_
  refine .mv ?_
  apply wpSq_end
  refine hK2 _ _ ?_
  refine wp_seq_k ?_
  intro K3 hK3
  refine wp_seq_k ?_
  intro K4 hK4
  refine rg [0, 1] ?_
  refine sq ?_
  refine .mv ?_
  refine sq ?_
  refine .r0 ?_
  apply wpSq_end
  refine hK4 _ _ ?_
  refine ct ?_
  refine wp_seq_k ?_
  intro K5 hK5
  refine rg [0, 1, 2] ?_
  refine sq ?_
  refine .mv ?_
  refine sq ?_
  refine .mv ?_
  refine sq ?_
  refine .mv ?_
  apply wpSq_end
  refine hK5 _ _ ?_
  refine wp_ret ?_
  try dsimp only [Exit.then, Exit.inBlock]
  refine bodyPost_ret (v := (.tuple #[(.slice none 0 0), (.int .i64 4)])) (by simp [results, Try.results16, go_sem]) rfl ?_
  exact ⟨rfl, hs.b⟩
set_option maxHeartbeats 4000000 in
set_option maxRecDepth 20000 in
theorem mAddRow_arg {i j : Int} (ha : MN la w oa A) (hq : PN w vq u lq v lq) (hna : A.length = na) (h : gd A) (hla : la ≤ 40000000) (hij : ¬ ((0 ≤ i ∧ i < (na : Int)) ∧ (0 ≤ j ∧ j < (na : Int)))) :
    Calls Try.prog 16 #[.slice oa na ca, .int .i64 i, .int .i64 j, vq] w fun e w' => e = .returned (.tuple #[.slice none 0 0, .int .i64 9]) ∧ Below w.heap.size w w' := by
  have HA := hide ha
  have H := hide h
  have HZ := hide (show ¬ ∀ z ∈ [i, j], 0 ≤ z ∧ z < (na : Int) from fun c => hij ⟨c _ (by simp), c _ (by simp)⟩)
  clear ha h hij
  obtain ⟨n_3a, o_3a, k_3a, c_3a, n_3b, o_3b, k_3b, c_3b, rfl, hq1, hq2⟩ := hq
  go_enter Try.func16, Try.ntmps16
  have hs := St.nil w
  refine wp_seq_k ?_
  intro K1 hK1
  refine rg [0, 1, 2] ?_
  refine sq ?_
  refine .al hs ?_; clear hs; intro p_b1 w_1 hs n1 kb_b1
  refine sq ?_
  refine .mv ?_
  refine sq ?_
  refine .mv ?_
  apply wpSq_end
  refine hK1 _ _ ?_
  refine wp_seq_k ?_
  intro K2 hK2
  refine rg [0, 1, 2, 3, 4, 5, 6, 7, 8, 9] ?_
  refine sq ?_
  refine .mv ?_
  refine sq ?_
  refine .mv ?_
  refine sq ?_
  refine .mv ?_
  refine sq ?_
  refine .al hs ?_; clear hs; intro p_b2 w_2 hs n2 kb_b2
  refine sq ?_
  intro K hK
  have hb := hs.b
  go_big_op
  go_fit (copied_arg (HA.out.bl stab_n hb) (PL2 hs.g0) rfl hna H.out (by simp) hla HZ.out)
  rintro e w_3 ⟨rfl, hb_3⟩
  clear hb
  replace hs := hs.bl hb_3
  refine hK _ _ rfl trivial ?_
  clear hK K
  refine sq ?_
  refine .mv ?_
  refine sq ?_
  refine .r0 ?_
  refine sq ?_
  refine .r0 ?_
  refine sq ?_
  refine .mv ?_
  refine sq ?_
  refine .mv ?_
  apply wpSq_end
  refine hK2 _ _ ?_
  refine wp_seq_k ?_
  intro K3 hK3
  refine wp_seq_k ?_
  intro K4 hK4
  refine rg [0, 1] ?_
  refine sq ?_
  refine .mv ?_
  refine sq ?_
  refine .r0 ?_
  apply wpSq_end
  refine hK4 _ _ ?_
  refine ct ?_
  refine wp_seq_k ?_
  intro K5 hK5
  refine rg [0, 1, 2] ?_
  refine sq ?_
  refine .mv ?_
  refine sq ?_
  refine .mv ?_
  refine sq ?_
  refine .mv ?_
  apply wpSq_end
  refine hK5 _ _ ?_
  refine wp_ret ?_
  try dsimp only [Exit.then, Exit.inBlock]
  refine bodyPost_ret (v := (.tuple #[(.slice none 0 0), (.int .i64 9)])) (by simp [results, Try.results16, go_sem]) rfl ?_
  exact ⟨rfl, hs.b⟩
set_option maxHeartbeats 4000000 in
set_option maxRecDepth 20000 in
theorem mAddRow_same (ha : MN la w oa A) (hq : PN w vq u lq v lq) (hna : A.length = na) (h : gd A) (hk : wd A = k) (hi : i < na) (hla : la ≤ 20000000) :
    Calls Try.prog 16 #[.slice oa na ca, .int .i64 (i : Int), .int .i64 (i : Int), vq] w fun e w' => e = .returned (.tuple #[.slice none 0 0, .int .i64 9]) ∧ Below w.heap.size w w' := by
  have t1 : ((i : Int) == (i : Int)) = true := beq_self_eq_true _
  have HA := hide ha
  have H := hide h
  have HK := hide hk
  have HI := hide hi
  clear ha h hk
  obtain ⟨n_3a, o_3a, k_3a, c_3a, n_3b, o_3b, k_3b, c_3b, rfl, hq1, hq2⟩ := hq
  go_enter Try.func16, Try.ntmps16
  have hs := St.nil w
  refine wp_seq_k ?_
  intro K1 hK1
  refine rg [0, 1, 2] ?_
  refine sq ?_
  refine .al hs ?_; clear hs; intro p_b1 w_1 hs n1 kb_b1
  refine sq ?_
  refine .mv ?_
  refine sq ?_
  refine .mv ?_
  apply wpSq_end
  refine hK1 _ _ ?_
  refine wp_seq_k ?_
  intro K2 hK2
  refine rg [0, 1, 2, 3, 4, 5, 6, 7, 8, 9] ?_
  refine sq ?_
  refine .mv ?_
  refine sq ?_
  refine .mv ?_
  refine sq ?_
  refine .mv ?_
  refine sq ?_
  refine .al hs ?_; clear hs; intro p_b2 w_2 hs n2 kb_b2
  refine sq ?_
  intro K hK
  have hb := hs.b
  go_big_op
  go_fit (copied_ok (HA.out.bl stab_n hb) (PL2 hs.g0) rfl hna H.out HK.out (by simp) (by omega) (by have := HI.out; simp; omega))
  rintro e w_3 ⟨o_O, c_O, rs_O, rfl, hl_O, hs_O, d_O, hb_3⟩
  clear hb
  replace hs := hs.mx hl_O hs_O; simp only [List.cons_append, List.nil_append] at hs
  refine hK _ _ rfl trivial ?_
  clear hK K
  refine sq ?_
  refine .mv ?_
  refine sq ?_
  refine .r0 ?_
  refine sq ?_
  refine .r0 ?_
  refine sq ?_
  refine .mv ?_
  refine sq ?_
  refine .mv ?_
  apply wpSq_end
  refine hK2 _ _ ?_
  refine wp_seq_k ?_
  intro K3 hK3
  refine wp_seq_k ?_
  intro K4 hK4
  refine rg [0, 1] ?_
  refine sq ?_
  refine .mv ?_
  refine sq ?_
  refine .r0 ?_
  apply wpSq_end
  refine hK4 _ _ ?_
  refine cf ?_
  refine wp_skip ?_
  refine hK3 _ _ ?_
  refine wp_seq_k ?_
  intro K5 hK5
  refine wp_seq_k ?_
  intro K6 hK6
  refine rg [0, 1, 2] ?_
  refine sq ?_
  refine .mv ?_
  refine sq ?_
  refine .mv ?_
  refine sq ?_
  refine .r0 ?_
  apply wpSq_end
  refine hK6 _ _ ?_
  refine ct ?_
  refine wp_seq_k ?_
  intro K7 hK7
  refine rg [0, 1] ?_
  refine sq ?_
  refine .mv ?_
  refine sq ?_
  refine .mv ?_
  apply wpSq_end
  refine hK7 _ _ ?_
  refine wp_ret ?_
  try dsimp only [Exit.then, Exit.inBlock]
  refine bodyPost_ret (v := (.tuple #[(.slice none 0 0), (.int .i64 9)])) (by simp [results, Try.results16, go_sem]) rfl ?_
  exact ⟨rfl, hs.b⟩
set_option maxHeartbeats 4000000 in
set_option maxRecDepth 20000 in
theorem mSwap_bad {i j : Int} (ha : MN la w oa A) (hna : A.length = na) (h : ¬ gd A) (hla : na ≤ 1000000000) :
    Calls Try.prog 17 #[.slice oa na ca, .int .i64 i, .int .i64 j] w fun e w' => e = .returned (.tuple #[.slice none 0 0, .int .i64 4]) ∧ Below w.heap.size w w' := by
  have HA := hide ha
  have H := hide h
  clear ha h
  go_enter Try.func17, Try.ntmps17
  have hs := St.nil w
  refine wp_seq_k ?_
  intro K1 hK1
  refine rg [0, 1] ?_
  refine sq ?_
  refine .mv ?_
  refine sq ?_
  refine .mv ?_
  apply wpSq_end
  refine hK1 _ _ ?_
  refine wp_seq_k ?_
  intro K2 hK2
  refine rg [0, 1, 2, 3, 4, 5, 6, 7, 8, 9] ?_
  refine sq ?_
  refine .mv ?_
  refine sq ?_
  refine .mv ?_
  refine sq ?_
  refine .mv ?_
  refine sq ?_
  refine .al hs ?_; clear hs; intro p_b1 w_1 hs n1 kb_b1
  refine sq ?_
  intro K hK
  have hb := hs.b
  go_big_op
  go_fit (copied_bad (HA.out.bl stab_n hb) hna H.out hla)
  rintro e w_2 ⟨rfl, hb_2⟩
  clear hb
  replace hs := hs.bl hb_2
  refine hK _ _ rfl trivial ?_
  clear hK K
  refine sq ?_
  refine .mv ?_
  refine sq ?_
  refine .r0 ?_
  refine sq ?_
  refine .r0 ?_
  refine sq ?_
  refine .mv ?_
  refine sq ?_
  refine .mv ?_
  apply wpSq_end
  refine hK2 _ _ ?_
  refine wp_seq_k ?_
  intro K3 hK3
  refine wp_seq_k ?_
  intro K4 hK4
  refine rg [0, 1] ?_
  refine sq ?_
  refine .mv ?_
  refine sq ?_
  refine .r0 ?_
  apply wpSq_end
  refine hK4 _ _ ?_
  refine ct ?_
  refine wp_seq_k ?_
  intro K5 hK5
  refine rg [0, 1, 2] ?_
  refine sq ?_
  refine .mv ?_
  refine sq ?_
  refine .mv ?_
  refine sq ?_
  refine .mv ?_
  apply wpSq_end
  refine hK5 _ _ ?_
  refine wp_ret ?_
  try dsimp only [Exit.then, Exit.inBlock]
  refine bodyPost_ret (v := (.tuple #[(.slice none 0 0), (.int .i64 4)])) (by simp [results, Try.results17, go_sem]) rfl ?_
  exact ⟨rfl, hs.b⟩
set_option maxHeartbeats 4000000 in
set_option maxRecDepth 20000 in
theorem mSwap_arg {i j : Int} (ha : MN la w oa A) (hna : A.length = na) (h : gd A) (hla : la ≤ 40000000) (hij : ¬ ((0 ≤ i ∧ i < (na : Int)) ∧ (0 ≤ j ∧ j < (na : Int)))) :
    Calls Try.prog 17 #[.slice oa na ca, .int .i64 i, .int .i64 j] w fun e w' => e = .returned (.tuple #[.slice none 0 0, .int .i64 9]) ∧ Below w.heap.size w w' := by
  have HA := hide ha
  have H := hide h
  have HZ := hide (show ¬ ∀ z ∈ [i, j], 0 ≤ z ∧ z < (na : Int) from fun c => hij ⟨c _ (by simp), c _ (by simp)⟩)
  clear ha h hij
  go_enter Try.func17, Try.ntmps17
  have hs := St.nil w
  refine wp_seq_k ?_
  intro K1 hK1
  refine rg [0, 1] ?_
  refine sq ?_
  refine .mv ?_
  refine sq ?_
  refine .mv ?_
  apply wpSq_end
  refine hK1 _ _ ?_
  refine wp_seq_k ?_
  intro K2 hK2
  refine rg [0, 1, 2, 3, 4, 5, 6, 7, 8, 9] ?_
  refine sq ?_
  refine .mv ?_
  refine sq ?_
  refine .mv ?_
  refine sq ?_
  refine .mv ?_
  refine sq ?_
  refine .al hs ?_; clear hs; intro p_b1 w_1 hs n1 kb_b1
  refine sq ?_
  intro K hK
  have hb := hs.b
  go_big_op
  go_fit (copied_arg (HA.out.bl stab_n hb) (PL2 hs.g0) rfl hna H.out (by simp) hla HZ.out)
  rintro e w_2 ⟨rfl, hb_2⟩
  clear hb
  replace hs := hs.bl hb_2
  refine hK _ _ rfl trivial ?_
  clear hK K
  refine sq ?_
  refine .mv ?_
  refine sq ?_
  refine .r0 ?_
  refine sq ?_
  refine .r0 ?_
  refine sq ?_
  refine .mv ?_
  refine sq ?_
  refine .mv ?_
  apply wpSq_end
  refine hK2 _ _ ?_
  refine wp_seq_k ?_
  intro K3 hK3
  refine wp_seq_k ?_
  intro K4 hK4
  refine rg [0, 1] ?_
  refine sq ?_
  refine .mv ?_
  refine sq ?_
  refine .r0 ?_
  apply wpSq_end
  refine hK4 _ _ ?_
  refine ct ?_
  refine wp_seq_k ?_
  intro K5 hK5
  refine rg [0, 1, 2] ?_
  refine sq ?_
  refine .mv ?_
  refine sq ?_
  refine .mv ?_
  refine sq ?_
  refine .mv ?_
  apply wpSq_end
  refine hK5 _ _ ?_
  refine wp_ret ?_
  try dsimp only [Exit.then, Exit.inBlock]
  refine bodyPost_ret (v := (.tuple #[(.slice none 0 0), (.int .i64 9)])) (by simp [results, Try.results17, go_sem]) rfl ?_
  exact ⟨rfl, hs.b⟩
set_option maxHeartbeats 4000000 in
set_option maxRecDepth 20000 in
theorem mSwap_ok (ha : MN la w oa A) (hna : A.length = na) (h : gd A) (hk : wd A = k) (hi : i < na) (hj : j < na) (hla : la ≤ 40000000) :
    Calls Try.prog 17 #[.slice oa na ca, .int .i64 (i : Int), .int .i64 (j : Int)] w fun e w' => ∃ o c rs, e = .returned (.tuple #[.slice o na c, .int .i64 0]) ∧ rs.length = na ∧ St w (Mx w.heap.size (.slice o na c) rs) w' ∧ RD w' rs (mkM na k fun r => at2 A (swr i j r)) ∧ Below w.heap.size w w' := by
  have HA := hide ha
  have H := hide h
  have HK := hide hk
  have HI := hide hi
  have HJ := hide hj
  have hn64 : na ≤ 64 := by have := h.1; omega
  clear ha h hk
  go_enter Try.func17, Try.ntmps17
  have hs := St.nil w
  refine wp_seq_k ?_
  intro K1 hK1
  refine rg [0, 1] ?_
  refine sq ?_
  refine .mv ?_
  refine sq ?_
  refine .mv ?_
  apply wpSq_end
  refine hK1 _ _ ?_
  refine wp_seq_k ?_
  intro K2 hK2
  refine rg [0, 1, 2, 3, 4, 5, 6, 7, 8, 9] ?_
  refine sq ?_
  refine .mv ?_
  refine sq ?_
  refine .mv ?_
  refine sq ?_
  refine .mv ?_
  refine sq ?_
  refine .al hs ?_; clear hs; intro p_b1 w_1 hs n1 kb_b1
  refine sq ?_
  intro K hK
  have hb := hs.b
  go_big_op
  go_fit (copied_ok (HA.out.bl stab_n hb) (PL2 hs.g0) rfl hna H.out HK.out (by simp) (by omega) (by have := HI.out; have := HJ.out; simp; omega))
  rintro e w_2 ⟨o_O, c_O, rs_O, rfl, hl_O, hs_O, d_O, hb_2⟩
  clear hb
  replace hs := hs.mx hl_O hs_O; simp only [List.cons_append, List.nil_append] at hs
  refine hK _ _ rfl trivial ?_
  clear hK K
  refine sq ?_
  refine .mv ?_
  refine sq ?_
  refine .r0 ?_
  refine sq ?_
  refine .r0 ?_
  refine sq ?_
  refine .mv ?_
  refine sq ?_
  refine .mv ?_
  apply wpSq_end
  refine hK2 _ _ ?_
  refine wp_seq_k ?_
  intro K3 hK3
  refine wp_seq_k ?_
  intro K4 hK4
  refine rg [0, 1] ?_
  refine sq ?_
  refine .mv ?_
  refine sq ?_
  refine .r0 ?_
  apply wpSq_end
  refine hK4 _ _ ?_
  have LO : Lst w_2 w.heap.size 39 1 (.slice o_O na c_O) na _ := hs.1.1.1
  obtain ⟨gO, curO, rfl, xO, hcO⟩ := LO.box (by omega)
  have hs := hs.sub (.cons_cons _ (.cons _ (List.Sublist.refl _)))
  obtain ⟨oi, ci, hvi⟩ := hs.rowv (bs := []) d_O (p := i) (K := k) (by rw [len_mkM]; exact HI.out) (by rw [mkM_row HI.out]; simp)
  obtain ⟨oj, cj, hvj⟩ := hs.rowv (bs := []) d_O (p := j) (K := k) (by rw [len_mkM]; exact HJ.out) (by rw [mkM_row HJ.out]; simp)
  have eI := hcO _ _ hvi
  have eJ := hcO _ _ hvj
  clear LO hcO
  refine cf ?_
  refine wp_skip ?_
  refine hK3 _ _ ?_
  refine wp_seq_k ?_
  intro K5 hK5
  refine wp_region_f4 [(0, false), (1, false), (2, false), (3, false), (4, false), (5, false), (6, false), (7, false), (8, false), (9, false), (10, false), (11, false), (12, false)] [13, 14, 15] [] (fun _ => default) [99, 99, 99, 99, 99, 99, 99, 0, 99, 99, 99, 0, 99, 99, 99, 99] [(13, 0), (14, 0), (15, 0)] (.c xO .n) fn fun w_3 n3 => ?_
  replace xO := xO.bl n3; replace hs := hs.bl n3
  refine fmv ?_
  refine fmv ?_
  refine fmv ?_
  refine fmv ?_
  refine fmv ?_
  refine fmv ?_
  refine f0 ?_
  apply wpFl_ld rfl rfl; (case h1 => intro w' hC K hK; have c0 := Bs.cell hC (j) eJ; go_big_op; exact hK); iterate 4 kernel_rfl
  refine fmv ?_
  refine fmv ?_
  refine f0 ?_
  apply wpFl_ld rfl rfl; (case h1 => intro w' hC K hK; have c0 := Bs.cell hC (i) eI; go_big_op; exact hK); iterate 4 kernel_rfl
  refine f0 ?_
  refine e0 hs ?_; clear hs; intro w_4 hs n4
  replace xO := xO.bl n4
  refine tl ?_
  refine .i1 0 hs (j := i) (by omega) ?_ (e := fun _ hB hO => (And.intro True.intro True.intro)); clear hs; intro w_5 hs kp5 hd5 ho5 hw5; simp only [List.set_cons_zero] at hs
  clear xO
  refine tl ?_
  refine .r0 ?_ (e := (And.intro True.intro True.intro))
  refine tl ?_
  refine .i1 0 hs (j := j) (by omega) ?_ (e := fun _ hB hO => (And.intro True.intro True.intro)); clear hs; intro w_6 hs kp6 hd6 ho6 hw6; simp only [List.set_cons_zero] at hs
  apply wpTail_end
  refine hK5 _ _ ?_
  refine wp_seq_k ?_
  intro K6 hK6
  refine rg [0, 1, 2] ?_
  refine sq ?_
  refine .mv ?_
  refine sq ?_
  refine .mv ?_
  refine sq ?_
  refine .mv ?_
  apply wpSq_end
  refine hK6 _ _ ?_
  refine wp_ret ?_
  have k2_6 := (((kb n3).b n4).t kp5).t kp6
  replace d_O := d_O.k k2_6
  obtain ⟨rs', q1, q2, q3, q4⟩ := RD.swap d_O HI.out HJ.out hvi hvj
  have hs := hs.swap (bs := []) q2 q3
  try dsimp only [Exit.then, Exit.inBlock]
  refine bodyPost_ret (v := (.tuple #[(.slice (some ⟨gO, 0, none⟩) na c_O), (.int .i64 0)])) (by simp [results, Try.results17, go_sem]) rfl ?_
  exact ⟨_, _, rs', rfl, q1.trans hl_O, (by unfold Mx; rw [q1, hl_O]; exact hs), q4, hs.b⟩
end
end Go.Proofs.Ytnkimagnmnocdaa

