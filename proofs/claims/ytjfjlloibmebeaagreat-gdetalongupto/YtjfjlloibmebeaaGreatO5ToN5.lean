/- The reference's New. -/
import Derived.Test.YtjfjlloibmebeaaGreatDtToO3
import Derived.Test.YtjfjlloibmebeaaGreatI3ToN4

namespace Go.Proofs.YtjfjlloibmebeaaGreat
open Go Go.RowKit Dig
set_option linter.unusedVariables false
section
variable {w : World} {r k : Nat}
end
end Go.Proofs.YtjfjlloibmebeaaGreat


/- A row of an own matrix in front of the state, and back; a number of an own list set. -/
namespace Go.Proofs.YtjfjlloibmebeaaGreat
open Go Go.RowKit Dig
set_option linter.unusedVariables false
theorem GD.put {w : World} {n1 n2 : Bool} {o1 o2 : Option Addr} {k1 c1 k2 c2 : Nat} {x y : Int} (h1 : ZC w (.agg #[.bool n1, .slice o1 k1 c1]) x) (h2 : ZC w (.agg #[.bool n2, .slice o2 k2 c2]) y) :
    ∀ {xs : List Value} {ps : List (Int × Int)} {q : Nat}, GD w xs ps → q < ps.length →
    GD w (setL xs [(q * 4, .bool n1), (q * 4 + 1, .slice o1 k1 c1), (q * 4 + 2, .bool n2), (q * 4 + 3, .slice o2 k2 c2)]) (ps.set q (x, y)) := by
  intro xs
  induction hn : xs.length using Nat.strongRecOn generalizing xs with
  | _ n ih =>
    intro ps q hd hq
    have hl := hd.len
    match xs, ps, hd with
    | a :: b :: c :: d :: xs, p :: ps, hd =>
      cases q with
      | zero => exact ⟨.mk' h1 h2, hd.2⟩
      | succ q =>
        have := ih xs.length (by rw [← hn]; simp only [List.length_cons]; omega) rfl hd.2 (q := q) (by simpa using hq)
        simp only [setL, List.set_cons_succ, show (q + 1) * 4 = q * 4 + 1 + 1 + 1 + 1 by omega, List.set_cons_succ, show q * 4 + 1 + 1 + 1 + 1 + 1 = (q * 4 + 1) + 1 + 1 + 1 + 1 by omega, show q * 4 + 1 + 1 + 1 + 1 + 2 = (q * 4 + 2) + 1 + 1 + 1 + 1 by omega, show q * 4 + 1 + 1 + 1 + 1 + 3 = (q * 4 + 3) + 1 + 1 + 1 + 1 by omega]
        exact ⟨hd.1, this⟩
    | [], [], _ => exact absurd hq (Nat.not_lt_zero _)
theorem RD.at' {w : World} : ∀ {rs : List Rw} {Ms : List (List (Int × Int))} {p : Nat}, RD w rs Ms → (hp : p < Ms.length) → ∃ r1 r r2, rs = r1 ++ r :: r2 ∧ r1.length = p ∧ r.n = Ms[p].length ∧ GD w r.xs Ms[p]
  | [], [], p, _, hp => absurd hp (Nat.not_lt_zero _)
  | r :: rs, m :: Ms, 0, h, _ => ⟨[], r, rs, rfl, rfl, h.1⟩
  | r :: rs, m :: Ms, p + 1, h, hp => by
    obtain ⟨r1, r', r2, rfl, h1, h2⟩ := RD.at' (p := p) h.2 (by simpa using hp)
    exact ⟨r :: r1, r', r2, rfl, by simp [h1], by simpa using h2⟩
theorem RD.set' {w : World} {v : Value} {n : Nat} {xs : List Value} {m : List (Int × Int)} {r : Rw} {r2 : List Rw} (hn : n = m.length) (hg : GD w xs m) : ∀ {r1 : List Rw} {Ms : List (List (Int × Int))} {p : Nat}, RD w (r1 ++ r :: r2) Ms → r1.length = p → RD w (r1 ++ (⟨v, n, xs⟩ : Rw) :: r2) (Ms.set p m)
  | [], _ :: Ms, p, h, hp => by subst hp; exact ⟨⟨hn, hg⟩, h.2⟩
  | a :: r1, b :: Ms, p, h, hp => by subst hp; exact ⟨h.1, RD.set' hn hg h.2 rfl⟩
  | [], [], p, h, _ => h.elim
  | _ :: _, [], p, h, _ => h.elim
section
variable {w0 w : World} {v : Value} {n p K : Nat} {rs r1 r2 : List Rw} {bs : List En} {Ms : List (List (Int × Int))}
theorem St.row (hs : St w0 (ls w0.heap.size 51 1 v n (rs.map (·.v)) :: (bs ++ rs.map (Rw.e w0.heap.size))) w) (hd : RD w rs Ms) (hp : p < Ms.length) (hK : Ms[p].length = K) (h0 : 0 < K) :
    ∃ r1 g c xs r2, rs = r1 ++ (⟨.slice (some ⟨g, 0, none⟩) K c, K, xs⟩ : Rw) :: r2 ∧ r1.length = p ∧ (rs.map (·.v))[p]? = some (.slice (some ⟨g, 0, none⟩) K c) ∧ GD w xs Ms[p] ∧
      St w0 (ls w0.heap.size 38 4 (.slice (some ⟨g, 0, none⟩) K c) K xs :: ls w0.heap.size 51 1 v n (rs.map (·.v)) :: (bs ++ (r1 ++ r2).map (Rw.e w0.heap.size))) w := by
  obtain ⟨r1, r, r2, rfl, h1, h2, h3⟩ := hd.at' hp
  obtain ⟨rv, rn, xs⟩ := r
  simp only at h2 h3
  rw [hK] at h2
  subst h2
  have hs2 := hs.perm (cs := Rw.e w0.heap.size ⟨rv, rn, xs⟩ :: ls w0.heap.size 51 1 v n ((r1 ++ (⟨rv, rn, xs⟩ : Rw) :: r2).map (·.v)) :: (bs ++ (r1 ++ r2).map (Rw.e w0.heap.size))) (by
    refine (List.Perm.cons _ ?_).trans (List.Perm.swap _ _ _)
    rw [List.map_append, List.map_cons, List.map_append, ← List.append_assoc, ← List.append_assoc]
    exact List.perm_middle)
  have L : Lst w w0.heap.size 38 4 rv rn xs := hs2.1.1.1
  obtain ⟨o, c, rfl⟩ := L.shape
  obtain ⟨g, cur, rfl, _, _⟩ := L.box h0
  exact ⟨r1, g, c, xs, r2, rfl, h1, by rw [List.map_append, List.map_cons, List.getElem?_append_right (by simp [h1])]; simp [h1], h3, hs2⟩
theorem St.unrow {x : Value} {xs xs' : List Value} (hs : St w0 (ls w0.heap.size 38 4 x K xs' :: ls w0.heap.size 51 1 v n ((r1 ++ (⟨x, K, xs⟩ : Rw) :: r2).map (·.v)) :: (bs ++ (r1 ++ r2).map (Rw.e w0.heap.size))) w) :
    St w0 (ls w0.heap.size 51 1 v n ((r1 ++ (⟨x, K, xs'⟩ : Rw) :: r2).map (·.v)) :: (bs ++ (r1 ++ (⟨x, K, xs'⟩ : Rw) :: r2).map (Rw.e w0.heap.size))) w := by
  have e : (r1 ++ (⟨x, K, xs⟩ : Rw) :: r2).map (·.v) = (r1 ++ (⟨x, K, xs'⟩ : Rw) :: r2).map (·.v) := by simp
  rw [e] at hs
  refine hs.perm ?_
  refine (List.Perm.swap _ _ _).trans (List.Perm.cons _ ?_)
  rw [List.map_append, List.map_append, List.map_cons, ← List.append_assoc, ← List.append_assoc]
  exact List.perm_middle.symm
end
/-- A matrix's number at one place, and elsewhere as it was. -/
def upd (F : Nat → Nat → Int × Int) (p q : Nat) (x : Int × Int) : Nat → Nat → Int × Int := fun i j => if i = p ∧ j = q then x else F i j
theorem mkM_set {R K p q : Nat} {F : Nat → Nat → Int × Int} {x : Int × Int} (hp : p < R) : (mkM R K F).set p (((List.range K).map (F p)).set q x) = mkM R K (upd F p q x) := by
  refine List.ext_getElem (by simp [mkM]) fun i h1 h2 => ?_
  have hi : i < R := by simpa [mkM] using h2
  refine List.ext_getElem (by simp only [mkM, List.getElem_set, List.getElem_map, List.getElem_range]; split <;> simp) fun j h3 h4 => ?_
  simp only [mkM, List.getElem_set, List.getElem_map, List.getElem_range, upd]
  have hj : j < K := by simpa [mkM] using h4
  by_cases e : p = i
  · subst e
    by_cases e2 : q = j
    · subst e2; simp
    · simp [e2, Ne.symm e2]
  · simp [e, Ne.symm e]
theorem mkM_row {R K p : Nat} {F : Nat → Nat → Int × Int} (hp : p < R) : (mkM R K F)[p]'(by rw [len_mkM]; exact hp) = (List.range K).map (F p) := by simp [mkM]
end Go.Proofs.YtjfjlloibmebeaaGreat


/- gmat.copied. -/
namespace Go.Proofs.YtjfjlloibmebeaaGreat
open Go Go.RowKit Dig
set_option linter.unusedVariables false
section
variable {w : World} {la na np ca cp i j pa : Nat} {oa : Option Addr} {A : List (List (Int × Int))} {zs : List Int}
/-- These places can be read. -/
def PL (w : World) (o : Option Addr) (zs : List Int) : Prop := ∃ g cur ty fz, o = some ⟨g, 0, none⟩ ∧ Bs w g cur ty fz ∧ ∀ i (hi : i < zs.length), cur[i]? = some (.int .i64 zs[i])
set_option maxHeartbeats 4000000 in
set_option maxRecDepth 20000 in
theorem copied1 (xa : Bs w pa #[.slice oa na ca] 23) (ha : MN la w oa A) (hna : A.length = na) (hi : i < na) (hj : j < (rw_ A i).length) (hla : la ≤ 40000000) :
    Calls Tryz.prog 180 (#[.int .i64 (i : Int), .int .i64 (j : Int)] ++ #[.pointer (some ⟨pa, 0, none⟩)]) w fun e w' => ∃ r, e = .returned r ∧ PC w' r (at2 A i j).1 (at2 A i j).2 ∧ Below w.heap.size w w' := by
  show Calls _ _ #[.int .i64 (i : Int), .int .i64 (j : Int), .pointer (some ⟨pa, 0, none⟩)] w _
  obtain ⟨g, off, cur, ty, fz, g2, off2, cur2, ty2, fz2, ci, n1, o1, k1, c1, n2, o2, k2, c2, rfl, x, e, x2, e1, e2, e3, e4, z1, z2⟩ := ha.op (by omega) hj
  obtain ⟨ua, hua⟩ : ∃ ua, (rw_ A i).length = ua := ⟨_, rfl⟩
  rw [hua] at e hj
  clear ha hna hua
  generalize at2 A i j = p at *
  go_enter Tryz.func180, Tryz.ntmps180
  have hs := St.nil w
  have lt_ba := xa.lt
  have xaz := xa
  have lt_kA := x.lt
  have xz := x
  have lt_kRA := x2.lt
  have x2z := x2
  refine wp_seq_k ?_
  intro K1 hK1
  refine rg [0] ?_
  refine sq ?_
  refine .al hs ?_; clear hs; intro p_b1 w_1 hs n1 kb_b1
  replace xa := xa.bl n1; replace x := x.bl n1; replace x2 := x2.bl n1
  apply wpSq_end
  refine hK1 _ _ ?_
  refine wp_seq_k ?_
  intro K2 hK2
  refine rg [0, 1, 2, 3, 4, 5, 6, 7, 8] ?_
  refine sq ?_
  refine .r1 xa.f1 ?_
  refine sq ?_
  refine .mv ?_
  refine sq ?_
  refine .r0 ?_
  refine sq ?_
  refine .r1 (x.cell _ e) ?_
  refine sq ?_
  refine .mv ?_
  refine sq ?_
  refine .r0 ?_
  refine sq ?_
  refine .r4 ⟨x2.cell _ e1, x2.cell _ e2, x2.cell _ e3, x2.cell _ e4⟩ ?_
  refine sq ?_
  intro K hK
  have k0_1 := kb n1
  replace z1 := z1.k k0_1
  replace z2 := z2.k k0_1
  go_big_op
  go_fit (gfresh_any (.mk' z1 z2) (by omega))
  rintro e w_2 ⟨_, rfl, ⟨n_va, o_va, k_va, c_va, n_vb, o_vb, k_vb, c_vb, rfl, v1, v2⟩, hb_2⟩
  replace x := x.bl hb_2; replace x2 := x2.bl hb_2; replace hs := hs.bl hb_2
  refine hK _ _ rfl trivial ?_
  clear hK K
  refine sq ?_
  refine .s4 hs.g0 (fun _ => hs.u0 kb_b1) ?_; clear hs; intro w_3 hs hd3 ho3
  replace x := x.frame ho3 (Nat.ne_of_lt (Nat.lt_of_lt_of_le lt_kA kb_b1)); replace x2 := x2.frame ho3 (Nat.ne_of_lt (Nat.lt_of_lt_of_le lt_kRA kb_b1))
  apply wpSq_end
  refine hK2 _ _ ?_
  refine wp_ret ?_
  try dsimp only [Exit.then, Exit.inBlock]
  obtain ⟨r0_0, r0_1, r0_2, r0_3⟩ := hs.g0.f4
  refine bodyPost_ret (v := (.agg #[.bool n_va, .slice o_va k_va c_va, .bool n_vb, .slice o_vb k_vb c_vb])) (by simp [results, Tryz.results180, go_sem, r0_0, r0_1, r0_2, r0_3]) rfl ?_
  have k2_3 := ko hd3 ho3
  replace v1 := v1.k k2_3
  replace v2 := v2.k k2_3
  exact ⟨_, rfl, .mk' v1 v2, hs.b⟩
set_option maxHeartbeats 4000000 in
set_option maxRecDepth 20000 in
theorem copied_ok {op : Option Addr} (ha : MN la w oa A) (hp : PL w op zs) (hnp : zs.length = np) (hna : A.length = na) (h : gd A) {k : Nat} (hk : wd A = k) (hl : np ≤ 1000) (hla : la ≤ 40000000) (hz : ∀ z ∈ zs, 0 ≤ z ∧ z < (na : Int)) :
    Calls Tryz.prog 109 #[.slice oa na ca, .slice op np cp] w fun e w' => ∃ o c rs, e = .returned (.tuple #[.slice o na c, .int .i64 0]) ∧ rs.length = na ∧ St w (Mx w.heap.size (.slice o na c) rs) w' ∧ RD w' rs (mkM na k fun i j => at2 A i j) ∧ Below w.heap.size w w' := by
  obtain ⟨g, cur, ty, fz, rfl, x, hc⟩ := hp
  have HA := hide ha
  have H := hide h
  have hn64 : na ≤ 64 := by have := h.1; omega
  have hk64 : k ≤ 64 := by have := h.2.1; omega
  have HR := hide (show ∀ i, i < na → (rw_ A i).length = k from fun i hi => by rw [gd_row h (by omega)]; exact hk)
  have HC := hide (fun i (hi : i < np) => show ∃ z : Int, cur[i]? = some (.int .i64 z) ∧ 0 ≤ z ∧ z < (na : Int) from ⟨_, hc i (by omega), hz _ (List.getElem_mem (by omega))⟩)
  have HP := hide x
  clear ha h hc hz hnp x
  go_enter Tryz.func109, Tryz.ntmps109
  have hs := St.nil w
  refine wp_seq_k ?_
  intro K1 hK1
  refine rg [0, 1, 2] ?_
  refine sq ?_
  refine .al hs ?_; clear hs; intro p_b1 w_1 hs n1 kb_b1
  refine sq ?_
  refine .mv ?_
  refine sq ?_
  refine .mv ?_
  apply wpSq_end
  refine hK1 _ _ ?_
  refine wp_seq_k ?_
  intro K2 hK2
  refine wp_seq_k ?_
  intro K3 hK3
  refine rg [0, 1, 2] ?_
  refine sq ?_
  refine .r1 hs.g0.f1 ?_
  refine sq ?_
  intro K hK
  have hb := hs.b
  go_big_op
  go_fit (good_yes (HA.out.bl stab_n hb) hna (by omega) H.out)
  rintro e w_2 ⟨rfl, hb_2⟩
  clear hb
  replace hs := hs.bl hb_2
  refine hK _ _ rfl trivial ?_
  clear hK K
  refine sq ?_
  refine .r0 ?_
  apply wpSq_end
  refine hK3 _ _ ?_
  refine cf ?_
  refine wp_skip ?_
  refine hK2 _ _ ?_
  refine wp_seq_k ?_
  intro K4 hK4
  refine wp_seq_k ?_
  intro K5 hK5
  refine rg [0, 1, 2] ?_
  refine sq ?_
  refine .mv ?_
  refine sq ?_
  refine .r0 ?_
  refine sq ?_
  refine .mv ?_
  apply wpSq_end
  refine hK5 _ _ ?_
  refine wp_block ?_
  have hd3 := hs.2.1
  go_loopg [13] np (fun kk s13 wr => ∃ i : Nat, s13 = .int .i64 (i : Int) ∧ i + kk = np ∧ St w [bx p_b1 #[.slice oa na ca] 23] wr)
  case atStart => exact ⟨0, rfl, by omega, hs⟩
  case round =>
  clear hs
  obtain ⟨i, rfl, hik, hs⟩ := hrel
  by_cases hi : i < np
  · obtain ⟨z, e1, h1, h2⟩ := HC.out i hi
    have x := HP.out.bl hs.b
    have s1 : (z < 0) = False := eq_false (by omega)
    have s2 : ((na : Int) ≤ z) = False := eq_false (by omega)
    refine wp_seq_k ?_
    intro K6 hK6
    refine rg [0] ?_
    refine sq ?_
    refine .r0 ?_
    apply wpSq_end
    refine hK6 _ _ ?_
    refine wp_seq_k ?_
    intro K7 hK7
    refine ct ?_
    refine wp_skip ?_
    refine hK7 _ _ ?_
    refine wp_seq_k ?_
    intro K8 hK8
    refine wp_block ?_
    refine wp_seq_k ?_
    intro K9 hK9
    refine rg [0, 1, 2] ?_
    refine sq ?_
    refine .r0 ?_
    refine sq ?_
    refine .r1 (x.cell _ e1) ?_
    refine sq ?_
    refine .mv ?_
    apply wpSq_end
    refine hK9 _ _ ?_
    refine wp_seq_k ?_
    intro K10 hK10
    refine rg [0, 1, 2, 3, 4, 5, 6, 7] ?_
    refine sq ?_
    refine .mv ?_
    refine sq ?_
    refine .r0 ?_
    refine sq ?_
    refine .mv ?_
    refine sq ?_
    refine .mv ?_
    refine sq ?_
    refine .r1 hs.g0.f1 ?_
    refine sq ?_
    refine .r0 ?_
    refine sq ?_
    refine .r0 ?_
    refine sq ?_
    refine .r0 ?_
    apply wpSq_end
    refine hK10 _ _ ?_
    refine cf ?_
    refine wp_skip ?_
    refine hK8 _ _ ?_
    refine rg [0, 1] ?_
    refine sq ?_
    refine .r0 ?_
    refine sq ?_
    refine .mv ?_
    apply wpSq_end
    refine ‹∀ (a' : Act) (w' : World), Handed _ _ a' w' → _› _ _ ?_
    go_roundg (gk - 1)
    case rel => exact ⟨i + 1, by rfl, by omega, hs⟩
    case measure => omega
  · obtain rfl : np = i := by omega
    have HX := hide hi
    refine wp_seq_k ?_
    intro K6 hK6
    refine rg [0] ?_
    refine sq ?_
    refine .r0 ?_
    apply wpSq_end
    refine hK6 _ _ ?_
    refine wp_seq_k ?_
    intro K7 hK7
    refine cf ?_
    refine wp_exit ?_
    refine hK4 _ _ ?_
    refine wp_seq_k ?_
    intro K8 hK8
    refine wp_region_f4 [(0, false), (1, false), (2, false), (4, false), (3, true), (5, true), (6, false), (7, false)] [] [] (fun _ => default) [0, 99, 0, 99, 99, 99, 99, 99] [] (.c hs.g0 .n) fn fun w_4 n4 => ?_
    replace hs := hs.bl n4
    refine f1 ?_
    refine fb ?_
    refine f1 ?_
    refine f0 ?_
    refine fl fun w_5 n5 => ?_
    replace hs := hs.bl n5
    intro K hK
    have hb := hs.b
    go_big_op
    go_fit (width_any (HA.out.bl stab_n hb) hna hk)
    rintro e w_6 ⟨rfl, hb_6⟩
    clear hb
    replace hs := hs.bl hb_6
    refine hK _ _ rfl ⟨hb_6, (And.intro hs.g0 trivial)⟩ ?_
    clear hK K
    refine fl fun w_7 n7 => ?_
    replace hs := hs.bl n7
    intro K hK
    have hb := hs.b
    go_big_op
    go_fit (matrix_any (F := fun i j ↦ at2 A i j) (fun _ _ _ ↦ by kernel_rfl) (fun i j w1 hi hj h1 ↦ copied1 (hs.g0.bl h1) (HA.out.bl stab_n (hb.trans (h1.mono hb.size))) hna hi (by rw [HR.out i hi]; exact hj) hla) (by omega) (by omega))
    rintro e w_8 ⟨o_r, c_r, rs_r, rfl, hl_r, hs_r, d_r, hb_8⟩
    clear hb
    replace hs := hs.mx hl_r hs_r; simp only [List.cons_append, List.nil_append] at hs
    refine hK _ _ rfl ⟨hb_8, (And.intro hs.g1 trivial)⟩ ?_
    clear hK K
    refine fmv ?_
    refine fmv ?_
    refine e0 hs ?_; clear hs; intro w_9 hs n9
    apply wpTail_end
    refine hK8 _ _ ?_
    refine wp_ret ?_
    try dsimp only [Exit.then, Exit.inBlock]
    refine bodyPost_ret (v := (.tuple #[(.slice o_r na c_r), (.int .i64 0)])) (by simp [results, Tryz.results109, go_sem]) rfl ?_
    have k5_6 := kb n9
    replace d_r := d_r.k k5_6
    exact ⟨_, _, _, rfl, hl_r, (by unfold Mx; rw [hl_r]; exact hs.sub (.cons_cons _ (.cons _ (List.Sublist.refl _)))), d_r, hs.b⟩
set_option maxHeartbeats 4000000 in
set_option maxRecDepth 20000 in
theorem copied_arg {op : Option Addr} (ha : MN la w oa A) (hp : PL w op zs) (hnp : zs.length = np) (hna : A.length = na) (h : gd A) (hl : np ≤ 1000) (hla : la ≤ 40000000) (hz : ¬ ∀ z ∈ zs, 0 ≤ z ∧ z < (na : Int)) :
    Calls Tryz.prog 109 #[.slice oa na ca, .slice op np cp] w fun e w' => e = .returned (.tuple #[.slice none 0 0, .int .i64 9]) ∧ Below w.heap.size w w' := by
  obtain ⟨g, cur, ty, fz, rfl, x, hc⟩ := hp
  have HA := hide ha
  have H := hide h
  have hn64 : na ≤ 64 := by have := h.1; omega
  have HZ := hide (show ¬ ∀ i (hi : i < zs.length), 0 ≤ zs[i] ∧ zs[i] < (na : Int) from fun c => hz fun z hm => by
    obtain ⟨i, hi, rfl⟩ := List.getElem_of_mem hm
    exact c i hi)
  have HC := hide hc
  have HP := hide x
  have HN := hide hnp
  clear ha h hc hz x hnp
  go_enter Tryz.func109, Tryz.ntmps109
  have hs := St.nil w
  refine wp_seq_k ?_
  intro K1 hK1
  refine rg [0, 1, 2] ?_
  refine sq ?_
  refine .al hs ?_; clear hs; intro p_b1 w_1 hs n1 kb_b1
  refine sq ?_
  refine .mv ?_
  refine sq ?_
  refine .mv ?_
  apply wpSq_end
  refine hK1 _ _ ?_
  refine wp_seq_k ?_
  intro K2 hK2
  refine wp_seq_k ?_
  intro K3 hK3
  refine rg [0, 1, 2] ?_
  refine sq ?_
  refine .r1 hs.g0.f1 ?_
  refine sq ?_
  intro K hK
  have hb := hs.b
  go_big_op
  go_fit (good_yes (HA.out.bl stab_n hb) hna (by omega) H.out)
  rintro e w_2 ⟨rfl, hb_2⟩
  clear hb
  replace hs := hs.bl hb_2
  refine hK _ _ rfl trivial ?_
  clear hK K
  refine sq ?_
  refine .r0 ?_
  apply wpSq_end
  refine hK3 _ _ ?_
  refine cf ?_
  refine wp_skip ?_
  refine hK2 _ _ ?_
  refine wp_seq_k ?_
  intro K4 hK4
  refine wp_seq_k ?_
  intro K5 hK5
  refine rg [0, 1, 2] ?_
  refine sq ?_
  refine .mv ?_
  refine sq ?_
  refine .r0 ?_
  refine sq ?_
  refine .mv ?_
  apply wpSq_end
  refine hK5 _ _ ?_
  refine wp_block ?_
  have hd3 := hs.2.1
  go_loopg [13] np (fun kk s13 wr => ∃ i : Nat, s13 = .int .i64 (i : Int) ∧ i + kk = np ∧ Hid (∀ j, j < i → ∀ hj : j < zs.length, 0 ≤ zs[j] ∧ zs[j] < (na : Int)) ∧ St w [bx p_b1 #[.slice oa na ca] 23] wr)
  case atStart => exact ⟨0, rfl, by omega, hide (fun j hj => absurd hj (Nat.not_lt_zero _)), hs⟩
  case round =>
  clear hs
  obtain ⟨i, rfl, hik, HI, hs⟩ := hrel
  by_cases hi : i < np
  · have hzl : i < zs.length := by rw [HN.out]; exact hi
    have e1 := HC.out i hzl
    have x := HP.out.bl hs.b
    have HJ := hide (fun (c : 0 ≤ zs[i] ∧ zs[i] < (na : Int)) => show ∀ j, j < i + 1 → ∀ hj : j < zs.length, 0 ≤ zs[j] ∧ zs[j] < (na : Int) from fun j hj hl => by
      rcases Nat.lt_or_ge j i with h | h
      · exact HI.out j h hl
      · obtain rfl : j = i := by omega
        exact c)
    generalize zs[i] = z at *
    by_cases h1 : z < 0
    · have s1 : (z < 0) = True := eq_true h1
      have HX := hide h1
      clear h1
      refine wp_seq_k ?_
      intro K6 hK6
      refine rg [0] ?_
      refine sq ?_
      refine .r0 ?_
      apply wpSq_end
      refine hK6 _ _ ?_
      refine wp_seq_k ?_
      intro K7 hK7
      refine ct ?_
      refine wp_skip ?_
      refine hK7 _ _ ?_
      refine wp_seq_k ?_
      intro K8 hK8
      refine wp_block ?_
      refine wp_seq_k ?_
      intro K9 hK9
      refine rg [0, 1, 2] ?_
      refine sq ?_
      refine .r0 ?_
      refine sq ?_
      refine .r1 (x.cell _ e1) ?_
      refine sq ?_
      refine .mv ?_
      apply wpSq_end
      refine hK9 _ _ ?_
      refine wp_seq_k ?_
      intro K10 hK10
      refine rg [0, 1, 2, 3, 4, 5, 6, 7] ?_
      refine sq ?_
      refine .mv ?_
      refine sq ?_
      refine .r0 ?_
      refine sq ?_
      refine .mv ?_
      refine sk ?_
      refine sk ?_
      refine sk ?_
      refine sk ?_
      refine sq ?_
      refine .r0 ?_
      apply wpSq_end
      refine hK10 _ _ ?_
      refine ct ?_
      refine wp_seq_k ?_
      intro K11 hK11
      refine rg [0, 1] ?_
      refine sq ?_
      refine .mv ?_
      refine sq ?_
      refine .mv ?_
      apply wpSq_end
      refine hK11 _ _ ?_
      refine wp_ret ?_
      try dsimp only [Exit.then, Exit.inBlock]
      refine bodyPost_ret (v := (.tuple #[(.slice none 0 0), (.int .i64 9)])) (by simp [results, Tryz.results109, go_sem]) rfl ?_
      exact ⟨rfl, hs.b⟩
    · have s1 : (z < 0) = False := eq_false h1
      by_cases h2 : (na : Int) ≤ z
      · have s2 : ((na : Int) ≤ z) = True := eq_true h2
        have HX := hide h1
        clear h1 h2
        refine wp_seq_k ?_
        intro K6 hK6
        refine rg [0] ?_
        refine sq ?_
        refine .r0 ?_
        apply wpSq_end
        refine hK6 _ _ ?_
        refine wp_seq_k ?_
        intro K7 hK7
        refine ct ?_
        refine wp_skip ?_
        refine hK7 _ _ ?_
        refine wp_seq_k ?_
        intro K8 hK8
        refine wp_block ?_
        refine wp_seq_k ?_
        intro K9 hK9
        refine rg [0, 1, 2] ?_
        refine sq ?_
        refine .r0 ?_
        refine sq ?_
        refine .r1 (x.cell _ e1) ?_
        refine sq ?_
        refine .mv ?_
        apply wpSq_end
        refine hK9 _ _ ?_
        refine wp_seq_k ?_
        intro K10 hK10
        refine rg [0, 1, 2, 3, 4, 5, 6, 7] ?_
        refine sq ?_
        refine .mv ?_
        refine sq ?_
        refine .r0 ?_
        refine sq ?_
        refine .mv ?_
        refine sq ?_
        refine .mv ?_
        refine sq ?_
        refine .r1 hs.g0.f1 ?_
        refine sq ?_
        refine .r0 ?_
        refine sq ?_
        refine .r0 ?_
        refine sq ?_
        refine .r0 ?_
        apply wpSq_end
        refine hK10 _ _ ?_
        refine ct ?_
        refine wp_seq_k ?_
        intro K11 hK11
        refine rg [0, 1] ?_
        refine sq ?_
        refine .mv ?_
        refine sq ?_
        refine .mv ?_
        apply wpSq_end
        refine hK11 _ _ ?_
        refine wp_ret ?_
        try dsimp only [Exit.then, Exit.inBlock]
        refine bodyPost_ret (v := (.tuple #[(.slice none 0 0), (.int .i64 9)])) (by simp [results, Tryz.results109, go_sem]) rfl ?_
        exact ⟨rfl, hs.b⟩
      · have s2 : ((na : Int) ≤ z) = False := eq_false h2
        have HI' := hide (HJ.out ⟨by omega, by omega⟩)
        clear h1 h2 HJ
        refine wp_seq_k ?_
        intro K6 hK6
        refine rg [0] ?_
        refine sq ?_
        refine .r0 ?_
        apply wpSq_end
        refine hK6 _ _ ?_
        refine wp_seq_k ?_
        intro K7 hK7
        refine ct ?_
        refine wp_skip ?_
        refine hK7 _ _ ?_
        refine wp_seq_k ?_
        intro K8 hK8
        refine wp_block ?_
        refine wp_seq_k ?_
        intro K9 hK9
        refine rg [0, 1, 2] ?_
        refine sq ?_
        refine .r0 ?_
        refine sq ?_
        refine .r1 (x.cell _ e1) ?_
        refine sq ?_
        refine .mv ?_
        apply wpSq_end
        refine hK9 _ _ ?_
        refine wp_seq_k ?_
        intro K10 hK10
        refine rg [0, 1, 2, 3, 4, 5, 6, 7] ?_
        refine sq ?_
        refine .mv ?_
        refine sq ?_
        refine .r0 ?_
        refine sq ?_
        refine .mv ?_
        refine sq ?_
        refine .mv ?_
        refine sq ?_
        refine .r1 hs.g0.f1 ?_
        refine sq ?_
        refine .r0 ?_
        refine sq ?_
        refine .r0 ?_
        refine sq ?_
        refine .r0 ?_
        apply wpSq_end
        refine hK10 _ _ ?_
        refine cf ?_
        refine wp_skip ?_
        refine hK8 _ _ ?_
        refine rg [0, 1] ?_
        refine sq ?_
        refine .r0 ?_
        refine sq ?_
        refine .mv ?_
        apply wpSq_end
        refine ‹∀ (a' : Act) (w' : World), Handed _ _ a' w' → _› _ _ ?_
        go_roundg (gk - 1)
        case rel => exact ⟨i + 1, by rfl, by omega, HI', hs⟩
        case measure => omega
  · exact absurd (fun i hi => HI.out i (by have := HN.out; omega) hi) HZ.out
end
end Go.Proofs.YtjfjlloibmebeaaGreat


/- The reference's Scale. -/
namespace Go.Proofs.YtjfjlloibmebeaaGreat
open Go Go.RowKit Dig
set_option linter.unusedVariables false
/-- Filled, row by row, up to row i's number j. -/
def fi (G : Nat → Nat → Int × Int) (i j : Nat) : Nat → Nat → Int × Int := fun p q => if p < i ∨ (p = i ∧ q < j) then G p q else (0, 0)
section
variable {G : Nat → Nat → Int × Int} {i j n k : Nat}
theorem fi_0 : (mkM n k fun _ _ => (0, 0)) = mkM n k (fi G 0 0) := mkM_eq rfl rfl fun p _ q _ => by unfold fi; rw [if_neg (by omega)]
theorem fi_step : upd (fi G i j) i j (G i j) = fi G i (j + 1) := by
  funext p q
  unfold upd fi
  by_cases h : p = i ∧ q = j
  · rw [if_pos h, if_pos (by omega), h.1, h.2]
  · rw [if_neg h]
    by_cases h2 : p < i ∨ (p = i ∧ q < j)
    · rw [if_pos h2, if_pos (by omega)]
    · rw [if_neg h2, if_neg (by omega)]
theorem fi_row : mkM n k (fi G i k) = mkM n k (fi G (i + 1) 0) := mkM_eq rfl rfl fun p _ q hq => by
  unfold fi
  by_cases h : p < i + 1
  · rw [if_pos (by omega), if_pos (by omega)]
  · rw [if_neg (by omega), if_neg (by omega)]
theorem fi_end : mkM n k (fi G n 0) = mkM n k G := mkM_eq rfl rfl fun p hp q _ => by unfold fi; rw [if_pos (by omega)]
/-- A number put in its place. -/
theorem RD.fi {w : World} {r1 r2 : List Rw} {r : Rw} {x : Value} {xs : List Value} {n1 n2 : Bool} {o1 o2 : Option Addr} {k1 c1 k2 c2 : Nat} (hd : RD w (r1 ++ r :: r2) (mkM n k (Go.Proofs.YtjfjlloibmebeaaGreat.fi G i j))) (hr : r1.length = i) (hi : i < n) (hj : j < k)
    (hx : GD w xs ((mkM n k (Go.Proofs.YtjfjlloibmebeaaGreat.fi G i j))[i]'(by rw [len_mkM]; exact hi))) (h1 : ZC w (.agg #[.bool n1, .slice o1 k1 c1]) (G i j).1) (h2 : ZC w (.agg #[.bool n2, .slice o2 k2 c2]) (G i j).2) :
    RD w (r1 ++ (⟨x, k, setL xs [(j * 4, .bool n1), (j * 4 + 1, .slice o1 k1 c1), (j * 4 + 2, .bool n2), (j * 4 + 3, .slice o2 k2 c2)]⟩ : Rw) :: r2) (mkM n k (Go.Proofs.YtjfjlloibmebeaaGreat.fi G i (j + 1))) := by
  rw [mkM_row hi] at hx
  have := RD.set' (v := x) (n := k) (by simp) (GD.put h1 h2 hx (q := j) (by simpa using hj)) hd hr
  rw [mkM_set hi, show (((G i j).1, (G i j).2) : Int × Int) = G i j from rfl, fi_step] at this
  exact this
end
section
variable {w : World} {l r n k cm : Nat} {om : Option Addr} {M : List (List (Int × Int))} {vg : Value} {u v : Int}
end
end Go.Proofs.YtjfjlloibmebeaaGreat


/- The reference's Gram. -/
namespace Go.Proofs.YtjfjlloibmebeaaGreat
open Go Go.RowKit Dig
set_option linter.unusedVariables false
section
variable {w : World} {l n k cm : Nat} {om : Option Addr} {M : List (List (Int × Int))}
end
end Go.Proofs.YtjfjlloibmebeaaGreat


/- The reference's Trans. -/
namespace Go.Proofs.YtjfjlloibmebeaaGreat
open Go Go.RowKit Dig
set_option linter.unusedVariables false
section
variable {G F : Nat → Nat → Int × Int} {i j n k p q : Nat}
/-- A number put in its place. -/
theorem RD.upd {w : World} {r1 r2 : List Rw} {r : Rw} {x : Value} {xs : List Value} {n1 n2 : Bool} {o1 o2 : Option Addr} {k1 c1 k2 c2 : Nat} {y : Int × Int} (hd : RD w (r1 ++ r :: r2) (mkM n k F)) (hr : r1.length = p) (hp : p < n) (hq : q < k)
    (hx : GD w xs ((mkM n k F)[p]'(by rw [len_mkM]; exact hp))) (h1 : ZC w (.agg #[.bool n1, .slice o1 k1 c1]) y.1) (h2 : ZC w (.agg #[.bool n2, .slice o2 k2 c2]) y.2) :
    RD w (r1 ++ (⟨x, k, setL xs [(q * 4, .bool n1), (q * 4 + 1, .slice o1 k1 c1), (q * 4 + 2, .bool n2), (q * 4 + 3, .slice o2 k2 c2)]⟩ : Rw) :: r2) (mkM n k (Go.Proofs.YtjfjlloibmebeaaGreat.upd F p q y)) := by
  rw [mkM_row hp] at hx
  have := RD.set' (v := x) (n := k) (by simp) (GD.put h1 h2 hx (q := q) (by simpa using hq)) hd hr
  rw [mkM_set hp, show ((y.1, y.2) : Int × Int) = y from rfl] at this
  exact this
end
section
variable {w : World} {l n k cm : Nat} {om : Option Addr} {M : List (List (Int × Int))}
end
end Go.Proofs.YtjfjlloibmebeaaGreat


/- The reference's Adj. -/
namespace Go.Proofs.YtjfjlloibmebeaaGreat
open Go Go.RowKit Dig
set_option linter.unusedVariables false
section
variable {G : Nat → Nat → Int × Int} {i j n k : Nat}
theorem St.rowv {w0 w : World} {v : Value} {m p K : Nat} {rs : List Rw} {bs : List En} {Ms : List (List (Int × Int))} (hs : St w0 (ls w0.heap.size 51 1 v m (rs.map (·.v)) :: (bs ++ rs.map (Rw.e w0.heap.size))) w) (hd : RD w rs Ms) (hp : p < Ms.length) (hK : Ms[p].length = K) :
    ∃ o c, (rs.map (·.v))[p]? = some (.slice o K c) := by
  obtain ⟨r1, r, r2, rfl, h1, h2, h3⟩ := hd.at' hp
  have h4 : (ls w0.heap.size 51 1 v m ((r1 ++ r :: r2).map (·.v)) :: (bs ++ (r1 ++ r :: r2).map (Rw.e w0.heap.size)))[1 + (bs.length + p)]? = some (r.e w0.heap.size) := by
    rw [Nat.add_comm 1, List.getElem?_cons_succ, List.getElem?_append_right (by omega), show bs.length + p - bs.length = p by omega, List.getElem?_map, List.getElem?_append_right (by omega)]
    simp [h1]
  have L : Lst w w0.heap.size 38 4 r.v r.n r.xs := (hs.1.at h4).1
  obtain ⟨o, c, e⟩ := L.shape
  exact ⟨o, c, by rw [List.map_append, List.map_cons, List.getElem?_append_right (by simp [h1])]; simp [h1, e, h2, hK]⟩
end
section
variable {w : World} {l n k cm : Nat} {om : Option Addr} {M : List (List (Int × Int))}
end
end Go.Proofs.YtjfjlloibmebeaaGreat


/- GmatAlong: what its calls tell. -/
namespace Go.Proofs.YtjfjlloibmebeaaGreat
open Go Go.RowKit Dig
set_option linter.unusedVariables false
section
variable {w : World} {l la lb lv n k na nb ca cb c : Nat} {oa ob ov : Option Addr} {A B : List (List (Int × Int))} {V : List (Int × Int)}
end
end Go.Proofs.YtjfjlloibmebeaaGreat

