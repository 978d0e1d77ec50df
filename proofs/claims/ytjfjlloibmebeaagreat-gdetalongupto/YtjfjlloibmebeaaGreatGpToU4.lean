/- Gram matrices' leading determinants: real, not below 0; behind one that is 0 all are. -/
import Derived.Test.YtjfjlloibmebeaaGreatDtToO3
import Derived.Test.YtjfjlloibmebeaaGreatScToDt2
import Derived.Test.YtjfjlloibmebeaaGreatWkToM1
import Derived.Lib.AppendZerosOnto
import Derived.Deep.Upon

namespace Go.Proofs.YtjfjlloibmebeaaGreat
open Go Go.RowKit Dig
set_option linter.unusedVariables false
theorem sm_sumP (k : Nat) (f : Nat → Int × Int) : sumP k f = Dt.sm k f := by
  induction k with
  | zero => rfl
  | succ k ih => rw [sumP, Dt.sm, ih, aP_eq]
section
variable {W k : Nat} {M : Nat → Nat → Int × Int}
end
end Go.Proofs.YtjfjlloibmebeaaGreat


/- gdet: lists of whole numbers; the closures that divide by a whole number; times a whole number. -/
namespace Go.Proofs.YtjfjlloibmebeaaGreat
open Go Go.RowKit Dig
set_option linter.unusedVariables false
section
variable {w w0 : World} {l m k n : Nat} {va vb vq : Value} {x y u v q : Int} {bs : List En}
end
end Go.Proofs.YtjfjlloibmebeaaGreat


/- gdet: eliminate by whole pivots. -/
namespace Go.Proofs.YtjfjlloibmebeaaGreat
open Go Go.RowKit Dig
set_option linter.unusedVariables false
section
variable {w w0 : World} {f pt n c W L : Nat} {bnd caps : Array Value} {o : Option Addr} {rs : List Rw} {bs : List En} {A : Nat → Nat → Int × Int} {Fin : Nat → Prop}
end
end Go.Proofs.YtjfjlloibmebeaaGreat


/- gdet: the pivots of Minors. -/
namespace Go.Proofs.YtjfjlloibmebeaaGreat
open Go Go.RowKit Dig
set_option linter.unusedVariables false
section
variable {w w0 : World} {pt n c L : Nat} {o : Option Addr} {A : Nat → Nat → Int × Int}
end
end Go.Proofs.YtjfjlloibmebeaaGreat


/- append of many: a list of the call's own behind another; zeros (append of make). -/
namespace Go.Proofs.YtjfjlloibmebeaaGreat
open Go Go.RowKit Dig
set_option linter.unusedVariables false
section
variable {P : Program} {o : Oper} {a : Act} {w w0 : World} {B : Exit → Act → World → Prop} {E : World → Prop} {G : Act → World → Prop} {bs : List En}
theorem AllE.at_ : ∀ {bs : List En} {i : Nat} {en : En}, AllE bs w → bs[i]? = some en → Ok en w := by
  intro bs
  induction bs with
  | nil => intro i en _ hi; simp at hi
  | cons b t ih =>
    intro i en hA hi
    cases i with
    | zero => obtain rfl : b = en := by simpa using hi
              exact hA.1
    | succ i => exact ih hA.2 (by simpa using hi)
/-- What an append leaves: the state with the list grown. -/
theorem St.grew {v v' : Value} {n k sz i : Nat} {xs ys : List Value} {e : TypeId} {w' : World} (hs : St w0 bs w) (hi : bs[i]? = some (ls w0.heap.size e sz v n xs)) (h2 : Lst w' w0.heap.size e sz v' k ys) (h3 : w.grownBy w' v.ownBlock) (h4 : v'.ownBlock = v.ownBlock ∨ v'.ownBlock = some w.heap.size) (hu : (e == 99) = false) :
    St w0 (bs.set i (ls w0.heap.size e sz v' k ys)) w' ∧ Kp w w' ∧ Below w0.heap.size w w' := by
  have hL : Lst w w0.heap.size e sz v n xs := (AllE.at_ hs.1 hi).1
  refine ⟨?_, kp_grown h3 (hL.nod hu), ⟨h3.os, h3.tape, h3.output, h3.size, fun k hk => h3.block k (Nat.lt_of_lt_of_le hk hs.k) fun hc => Nat.lt_irrefl _ (Nat.lt_of_lt_of_le hk (hL.1.lt k hc.symm).1)⟩⟩
  refine hs.st i hi (fun k hk hne => h3.block k hk hne) h3.size (.ls h2) (fun k hk => ?_) ?_
  · rcases h4 with h5 | h5
    · exact .inl (h5.symm.trans hk)
    · right
      have h6 : some w.heap.size = some k := h5.symm.trans hk
      injection h6 with h6
      omega
  · refine ⟨h3.os.trans hs.b.os, h3.tape.trans hs.b.tape, h3.output.trans hs.b.output, Nat.le_trans hs.k h3.size, fun k hk => ?_⟩
    rw [h3.block k (Nat.lt_of_lt_of_le hk hs.k) fun hc => ?_]
    · exact hs.b.block k hk
    · have := (hL.1.lt k hc.symm).1
      omega
theorem grownBy_refl (w : World) (r : Option Nat) : w.grownBy w r := ⟨rfl, rfl, rfl, Nat.le_refl _, fun _ _ _ => rfl⟩
/-- One list of the call's own behind another. -/
theorem Stp.aps {v v2 z : Value} {n m sz : Nat} {xs ys : List Value} {e t : TypeId} {inf : TypeInfo} {sv xv : Operand} {a' : Value → Act} (i j : Nat) (hs : St w0 bs w) (h1 : ∀ u ∈ ys, u.oneCell' = true)
    (h : ∀ o' c' w', St w0 (bs.set i (ls w0.heap.size e sz (.slice o' (n + m) c') (n + m) (xs ++ ys))) w' → Kp w w' → Below w0.heap.size w w' → G (a' (.slice o' (n + m) c')) w')
    (hi : bs[i]? = some (ls w0.heap.size e sz v n xs) := by rfl) (hj : bs[j]? = some (ls w0.heap.size e sz v2 m ys) := by rfl) (hn : n + m ≤ 100000000000 := by omega)
    (ho : o.op = .call { callee := .builtin .append, args := #[sv, xv], argTypes := #[t, t] } := by rfl) (hsv : a.eval sv = v := by rfl) (hxv : a.eval xv = v2 := by rfl)
    (ht : P.underlying t = some (.slice e) := by rfl) (hinf : P.info? e = some inf := by rfl) (hz : inf.zero = some z := by rfl)
    (hsz : inf.size = sz := by rfl) (hzs : z.cells.size = sz := by rfl) (h0 : 0 < sz := by decide) (hzn : z.cells.toList.all nd = true := by rfl) (hby : inf.bytes ≤ 1000 := by decide)
    (hu : (e == 99) = false := by rfl)
    (hp : ∀ v', a.put o.dst v' = a' v' := by intro v'; unfold Act.put; simp only [List.setIfInBounds_toArray, List.set_cons_succ, List.set_cons_zero]; rfl)
    (eE : ∀ o' c' w', St w0 (bs.set i (ls w0.heap.size e sz (.slice o' (n + m) c') (n + m) (xs ++ ys))) w' → E w' := by exact fun _ _ _ _ => trivial) (hd : ∀ v', (a' v').defers = a.defers := by exact fun _ => rfl) : Stp P o a w B E G := fun K hK => by
  have hL : Lst w w0.heap.size e sz v n xs := (AllE.at_ hs.1 hi).1
  have hL2 : Lst w w0.heap.size e sz v2 m ys := (AllE.at_ hs.1 hj).1
  have key : ∃ v' w', (Builtin.append_ #[t, t] o.type #[v, v2]).run P w = .ok v' w' ∧ Lst w' w0.heap.size e sz v' (n + m) (xs ++ ys) ∧ w.grownBy w' v.ownBlock ∧ (v'.ownBlock = v.ownBlock ∨ v'.ownBlock = some w.heap.size) := by
    rcases Nat.eq_zero_or_pos m with hm | hm
    · subst hm
      have e0 : ys = [] := List.eq_nil_of_length_eq_zero (by rw [hL2.1.1, Nat.zero_mul])
      subst e0
      refine ⟨v, w, ?_, by simpa using hL, grownBy_refl _ _, .inl rfl⟩
      have hsrc : Src P inf.size t v2 0 [] w := by
        rcases hL2.1.2 with ⟨rfl, _⟩ | ⟨g, cap, cur, rfl, _⟩
        · exact Src.ofNil w ht _
        · exact Src.ofSlice w ht _ _ _ [] (by simp) (fun j u hj => by simp at hj) (fun u hu => by cases hu)
      rcases hL.1.2 with ⟨rfl, rfl⟩ | ⟨g, cap, cur, rfl, _, _, hnc, _⟩
      · exact run_append_nothing w t t o.type e inf ht hinf none 0 0 (Nat.le_refl _) v2 hsrc
      · exact run_append_nothing w t t o.type e inf ht hinf _ n cap hnc v2 hsrc
    · rcases hL2.1.2 with ⟨_, h9⟩ | ⟨g, cap, cur, rfl, hbg, hg, hnc, hcm, hcs, htake⟩
      · omega
      · have hnn : ys.all nd = true := by
          rw [← htake]
          have := hL2.2 g cur rfl hg
          rw [List.all_eq_true] at this ⊢
          exact fun x hx => this x (List.mem_of_mem_take hx)
        exact Lst.append (P := P) w0.heap.size t o.type e inf z sz inf.bytes ht hinf hz hsz rfl hzs h0 hzn v n xs hL ⟨g, 0, none⟩ m cap ys hm hL2.1.1 (hL2.1.cells (g := g) rfl) h1 hnn (by unfold maxLen; omega) (Nat.le_trans (Nat.mul_le_mul_left _ hby) (by omega)) hs.k
  obtain ⟨v', w', hr, h2, h3, h4⟩ := key
  obtain ⟨o', c', rfl⟩ := h2.shape
  obtain ⟨g1, g2, g3⟩ := St.grew hs hi h2 h3 h4 hu
  unfold Oper.wp execOp
  simp only [ho, resolve, invoke, builtin, Sem.run_bind, Sem.run_pure, Result.andThen_ok, List.map_toArray, List.map_cons, List.map_nil, hsv, hxv, hr]
  have h7 := hK (a' (.slice o' (n + m) c')) w' (hd _) (eE _ _ _ g1) (h _ _ _ g1 g2 g3)
  rw [← hp] at h7
  exact h7
end
end Go.Proofs.YtjfjlloibmebeaaGreat


/- gdet: matrices laid beside one another; the table. -/
namespace Go.Proofs.YtjfjlloibmebeaaGreat
open Go Go.RowKit Dig
set_option linter.unusedVariables false
/-- A list of matrices of n rows that can be read. -/
def SM (l n : Nat) (w : World) (o : Option Addr) (Mss : List (List (List (Int × Int)))) : Prop := ∃ g cur ty fz, o = some ⟨g, 0, none⟩ ∧ Bs w g cur ty fz ∧ ∀ i (hi : i < Mss.length), Mss[i].length = n ∧ ∃ oi ci, cur[i]? = some (.slice oi n ci) ∧ MN l w oi Mss[i]
/-- Row r of what is laid, up to matrix a's row i's number b. -/
def bzr (Mss : List (List (List (Int × Int)))) (a i b r : Nat) : List (Int × Int) :=
  (Mss.take a).flatMap (rw_ · r) ++ (if r < i then rw_ (Mss.getD a []) r else if r = i then (rw_ (Mss.getD a []) r).take b else [])
def bz (Mss : List (List (List (Int × Int)))) (n a i b : Nat) : List (List (Int × Int)) := (List.range n).map (bzr Mss a i b)
section
variable {Mss : List (List (List (Int × Int)))} {n a i b r : Nat}
theorem bz_len : (bz Mss n a i b).length = n := by simp [bz]
theorem bz_0 : bz Mss n 0 0 0 = List.replicate n [] := by
  refine List.eq_replicate_iff.2 ⟨by simp [bz], fun x hx => ?_⟩
  obtain ⟨r, _, rfl⟩ := List.mem_map.1 hx
  simp only [bzr, List.take_zero, List.flatMap_nil, List.nil_append]
  rw [if_neg (by omega)]; split <;> rfl
theorem bz_get (hr : r < n) : (bz Mss n a i b)[r]'(by simp [bz, hr]) = bzr Mss a i b r := by simp [bz]
theorem bz_set (hi : i < n) : (bz Mss n a i b).set i (bzr Mss a i (b + 1) i) = bz Mss n a i (b + 1) := by
  refine List.ext_getElem (by simp [bz]) fun r h1 h2 => ?_
  simp only [bz, List.getElem_set, List.getElem_map, List.getElem_range]
  by_cases e : i = r
  · rw [if_pos e, e]
  · rw [if_neg e]; unfold bzr
    by_cases e2 : r < i
    · rw [if_pos e2, if_pos e2]
    · rw [if_neg e2, if_neg e2, if_neg (Ne.symm e), if_neg (Ne.symm e)]
theorem bzr_snoc (hb : b < (rw_ (Mss.getD a []) i).length) : bzr Mss a i (b + 1) i = bzr Mss a i b i ++ [at1 (rw_ (Mss.getD a []) i) b] := by
  unfold bzr
  rw [if_neg (Nat.lt_irrefl _), if_pos rfl, if_neg (Nat.lt_irrefl _), if_pos rfl, List.append_assoc, List.take_succ_eq_append_getElem hb]
  generalize rw_ (Mss.getD a []) i = l at hb ⊢
  congr 2
  simp [at1, List.getD, hb]
theorem bz_row (hb : (rw_ (Mss.getD a []) i).length ≤ b) : bz Mss n a i b = bz Mss n a (i + 1) 0 := List.map_congr_left fun r _ => by
  unfold bzr
  by_cases e : r < i
  · rw [if_pos e, if_pos (by omega)]
  · rw [if_neg e]
    by_cases e2 : r = i
    · subst e2; rw [if_pos rfl, if_pos (by omega), List.take_of_length_le hb]
    · rw [if_neg e2, if_neg (by omega)]; split <;> simp
theorem bz_mat (ha : a < Mss.length) : bz Mss n a n 0 = bz Mss n (a + 1) 0 0 := List.map_congr_left fun r hr => by
  have hr : r < n := by simpa using hr
  unfold bzr
  rw [if_pos hr, if_neg (Nat.not_lt_zero _), List.take_succ_eq_append_getElem ha, List.flatMap_append]
  have : Mss.getD a [] = Mss[a] := by simp [List.getD, ha]
  rw [this]
  split <;> simp
theorem flat_len {Mss : List (List (List (Int × Int)))} (h : ∀ M ∈ Mss, ∀ i, (rw_ M i).length ≤ 1000) : (Mss.flatMap (rw_ · r)).length ≤ 1000 * Mss.length := by
  induction Mss with
  | nil => simp
  | cons M t ih =>
    have h1 := h M (List.mem_cons_self ..) r
    have h2 := ih fun N hN => h N (List.mem_cons_of_mem _ hN)
    simp only [List.flatMap_cons, List.length_append, List.length_cons]
    omega
theorem bzr_len (h : ∀ M ∈ Mss, ∀ i, (rw_ M i).length ≤ 1000) : (bzr Mss a i b r).length ≤ 1000 * Mss.length + 1000 := by
  have h1 := flat_len (r := r) (Mss := Mss.take a) fun M hM => h M (List.mem_of_mem_take hM)
  have h2 : (Mss.take a).length ≤ Mss.length := by rw [List.length_take]; omega
  have h3 : (rw_ (Mss.getD a []) r).length ≤ 1000 := by
    rcases Nat.lt_or_ge a Mss.length with c | c
    · have : Mss.getD a [] = Mss[a] := by simp [List.getD, c]
      rw [this]; exact h _ (List.getElem_mem _) r
    · have : Mss.getD a [] = [] := by simp [List.getD, c]
      rw [this]; simp [rw_]
  unfold bzr
  rw [List.length_append]
  split
  · omega
  · split
    · have : ((rw_ (Mss.getD a []) r).take b).length ≤ (rw_ (Mss.getD a []) r).length := by rw [List.length_take]; omega
      omega
    · rw [List.length_nil]; omega
theorem bz_all : bz Mss n Mss.length 0 0 = (List.range n).map fun r => Mss.flatMap (rw_ · r) := List.map_congr_left fun r _ => by
  unfold bzr
  rw [List.take_length, if_neg (Nat.not_lt_zero _)]
  split <;> simp
end
section
variable {w0 w : World} {v x : Value} {n p K : Nat} {rs r1 r2 : List Rw} {bs : List En} {Ms : List (List (Int × Int))} {xs : List Value}
theorem St.nils (hs : St w0 bs w) : ∀ m, St w0 (bs ++ (List.replicate m (⟨.slice none 0 0, 0, []⟩ : Rw)).map (Rw.e w0.heap.size)) w
  | 0 => by simpa using hs
  | m + 1 => by
    rw [List.replicate_succ, List.map_cons]
    exact ((hs.nils m).l0 38 4).perm List.perm_middle.symm
theorem RD.nils : ∀ m, RD w (List.replicate m (⟨.slice none 0 0, 0, []⟩ : Rw)) (List.replicate m [])
  | 0 => trivial
  | m + 1 => by rw [List.replicate_succ, List.replicate_succ]; exact ⟨⟨rfl, GD.nil _⟩, RD.nils m⟩
theorem made_one (u : Value) (n : Nat) : (madeCells #[u] (n * 1)).toList = List.replicate n u := by
  refine List.eq_replicate_iff.2 ⟨by simp [madeCells], fun y hy => ?_⟩
  unfold madeCells at hy
  simp only [Array.toList_map, List.mem_map] at hy
  obtain ⟨j, _, rfl⟩ := hy
  have : j % (#[u] : Array Value).size = 0 := by simp [Nat.mod_one]
  rw [this]; rfl
/-- A row in front of the state, be it empty. -/
theorem St.row0 (hs : St w0 (ls w0.heap.size 51 1 v n (rs.map (·.v)) :: (bs ++ rs.map (Rw.e w0.heap.size))) w) (hd : RD w rs Ms) (hp : p < Ms.length) :
    ∃ r1 o c xs r2, rs = r1 ++ (⟨.slice o Ms[p].length c, Ms[p].length, xs⟩ : Rw) :: r2 ∧ r1.length = p ∧ (rs.map (·.v))[p]? = some (.slice o Ms[p].length c) ∧ GD w xs Ms[p] ∧
      St w0 (ls w0.heap.size 38 4 (.slice o Ms[p].length c) Ms[p].length xs :: ls w0.heap.size 51 1 v n (rs.map (·.v)) :: (bs ++ (r1 ++ r2).map (Rw.e w0.heap.size))) w := by
  obtain ⟨r1, r, r2, rfl, h1, h2, h3⟩ := hd.at' hp
  obtain ⟨rv, rn, xs⟩ := r
  simp only at h2 h3
  subst h2
  have hs2 := hs.perm (cs := Rw.e w0.heap.size ⟨rv, Ms[p].length, xs⟩ :: ls w0.heap.size 51 1 v n ((r1 ++ (⟨rv, Ms[p].length, xs⟩ : Rw) :: r2).map (·.v)) :: (bs ++ (r1 ++ r2).map (Rw.e w0.heap.size))) (by
    refine (List.Perm.cons _ ?_).trans (List.Perm.swap _ _ _)
    rw [List.map_append, List.map_cons, List.map_append, ← List.append_assoc, ← List.append_assoc]
    exact List.perm_middle)
  have L : Lst w w0.heap.size 38 4 rv Ms[p].length xs := hs2.1.1.1
  obtain ⟨o, c, rfl⟩ := L.shape
  exact ⟨r1, o, c, xs, r2, rfl, h1, by rw [List.map_append, List.map_cons, List.getElem?_append_right (by simp [h1])]; simp [h1], h3, hs2⟩
/-- Back, the row written anew. -/
theorem St.unrow0 {K2 : Nat} {x' : Value} {xs' : List Value} (hs : St w0 (ls w0.heap.size 38 4 x' K2 xs' :: ls w0.heap.size 51 1 v n (((r1 ++ (⟨x, K, xs⟩ : Rw) :: r2).map (·.v)).set p x') :: (bs ++ (r1 ++ r2).map (Rw.e w0.heap.size))) w) (hp : r1.length = p) :
    St w0 (ls w0.heap.size 51 1 v n ((r1 ++ (⟨x', K2, xs'⟩ : Rw) :: r2).map (·.v)) :: (bs ++ (r1 ++ (⟨x', K2, xs'⟩ : Rw) :: r2).map (Rw.e w0.heap.size))) w := by
  have e : ((r1 ++ (⟨x, K, xs⟩ : Rw) :: r2).map (·.v)).set p x' = (r1 ++ (⟨x', K2, xs'⟩ : Rw) :: r2).map (·.v) := by
    rw [List.map_append, List.map_cons, List.map_append, List.map_cons, List.set_append_right _ _ (by simp [hp])]
    simp [hp]
  rw [e] at hs
  refine hs.perm ?_
  refine (List.Perm.swap _ _ _).trans (List.Perm.cons _ ?_)
  rw [List.map_append, List.map_append, List.map_cons, ← List.append_assoc, ← List.append_assoc]
  exact List.perm_middle.symm
end
section
variable {w0 w : World} {l n nm cm : Nat} {om : Option Addr} {bs : List En} {Mss : List (List (List (Int × Int)))}
set_option maxHeartbeats 4000000 in
set_option maxRecDepth 20000 in
theorem dbeside_any (hm : SM l n w om Mss) (hnm : Mss.length = nm) (h1 : 0 < nm) (hn : n ≤ 1000) (hR : ∀ M ∈ Mss, ∀ i, (rw_ M i).length ≤ 1000) (hnm2 : nm ≤ 1000) (hl : l ≤ 20000000) :
    Calls Tryz.prog 163 #[.slice om nm cm] w fun e w' => ∃ o c rs, e = .returned (.slice o n c) ∧ rs.length = n ∧ St w (Mx w.heap.size (.slice o n c) rs) w' ∧ RD w' rs ((List.range n).map fun r => Mss.flatMap (rw_ · r)) ∧ Below w.heap.size w w' := by
  have HM := hide hm
  have HR := hide hR
  obtain ⟨gm, curm, tym, fzm, rfl, xm, dm⟩ := hm
  obtain ⟨d1, o0, c0, d2, d3⟩ := dm 0 (by omega)
  have HD := hide dm
  clear dm hR d1 d3
  go_enter Tryz.func163, Tryz.ntmps163
  have hs := St.nil w
  have lt_kMS := xm.lt
  have xmz := xm
  refine wp_seq_k ?_
  intro K1 hK1
  refine rg [0] ?_
  refine sq ?_
  refine .mv ?_
  apply wpSq_end
  refine hK1 _ _ ?_
  refine wp_seq_k ?_
  intro K2 hK2
  refine rg [0, 1, 2, 3, 4, 5] ?_
  refine sq ?_
  refine .mv ?_
  refine sq ?_
  refine .r0 ?_
  refine sq ?_
  refine .r1 (xm.cell _ d2) ?_
  refine sq ?_
  refine .r0 ?_
  refine sq ?_
  refine .mk (n := n) hs ?_ (by first | rfl | omega) (by omega); clear hs; intro g_l xs_l w_1 hs e_l n1 kb_l
  replace xm := xm.bl n1
  refine sq ?_
  refine .mv ?_
  apply wpSq_end
  refine hK2 _ _ ?_
  refine wp_seq_k ?_
  intro K3 hK3
  refine wp_seq_k ?_
  intro K4 hK4
  refine rg [0, 1, 2] ?_
  refine sq ?_
  refine .mv ?_
  refine sq ?_
  refine .r0 ?_
  refine sq ?_
  refine .mv ?_
  apply wpSq_end
  refine hK4 _ _ ?_
  refine wp_block ?_
  replace e_l : xs_l = List.replicate n (Value.slice none 0 0) := e_l.trans (made_one (.slice none 0 0) n)
  have hs := hs.nils n
  rw [e_l, show List.replicate n (Value.slice none 0 0) = (List.replicate n (⟨.slice none 0 0, 0, []⟩ : Rw)).map (·.v) by simp] at hs
  clear e_l
  have hd2 := hs.2.1
  go_loopg [17] nm (fun kz s17 wr => ∃ (a : Nat) (rs : List Rw), s17 = .int .i64 (a : Int) ∧ a + kz = nm ∧ rs.length = n ∧ RD wr rs (bz Mss n a 0 0) ∧ St w (ls w.heap.size 51 1 (.slice (some ⟨g_l, 0, none⟩) n n) n (rs.map (·.v)) :: ([] ++ rs.map (Rw.e w.heap.size))) wr)
  case atStart => exact ⟨0, _, rfl, by omega, by simp, by rw [bz_0]; exact RD.nils n, hs⟩
  case round =>
  clear xm hs
  obtain ⟨a, rs, rfl, han, hrl, hd, hs⟩ := hrel
  have HO := ‹∀ (a' : Act) (w' : World), Handed _ _ a' w' → _›
  obtain ⟨g1, hg1⟩ : ∃ g, gk = g := ⟨_, rfl⟩
  by_cases ha : a < nm
  · have HA := hide (show a < Mss.length by omega)
    obtain ⟨f1, oa, ca, f2, f3⟩ := HD.out a HA.out
    obtain ⟨M, hM⟩ : ∃ M, Mss[a]'HA.out = M := ⟨_, rfl⟩
    have HMM := hide (show Mss.getD a [] = M by rw [← hM]; simp [List.getD, HA.out])
    have HRM := hide (show ∀ i, (rw_ M i).length ≤ 1000 from fun i => HR.out M (by rw [← hM]; exact List.getElem_mem _) i)
    rw [hM] at f1 f3
    have HF := hide f3
    have F1 := hide f1
    clear hM f3 f1
    have x1 := xmz.bl hs.b
    refine wp_seq_k ?_
    intro K5 hK5
    refine rg [0] ?_
    refine sq ?_
    refine .r0 ?_
    apply wpSq_end
    refine hK5 _ _ ?_
    refine wp_seq_k ?_
    intro K6 hK6
    refine ct ?_
    refine wp_skip ?_
    refine hK6 _ _ ?_
    refine wp_seq_k ?_
    intro K7 hK7
    refine wp_block ?_
    refine wp_seq_k ?_
    intro K8 hK8
    refine rg [0, 1, 2] ?_
    refine sq ?_
    refine .r0 ?_
    refine sq ?_
    refine .r1 (x1.cell _ f2) ?_
    refine sq ?_
    refine .mv ?_
    apply wpSq_end
    refine hK8 _ _ ?_
    refine wp_seq_k ?_
    intro K9 hK9
    refine rg [0, 1, 2] ?_
    refine sq ?_
    refine .mv ?_
    refine sq ?_
    refine .r0 ?_
    refine sq ?_
    refine .mv ?_
    apply wpSq_end
    refine hK9 _ _ ?_
    refine wp_block ?_
    have hd3 := hs.2.1
    go_loopg [23] n (fun kz s23 wr => ∃ (i : Nat) (rs : List Rw), s23 = .int .i64 (i : Int) ∧ i + kz = n ∧ rs.length = n ∧ RD wr rs (bz Mss n a i 0) ∧ St w (ls w.heap.size 51 1 (.slice (some ⟨g_l, 0, none⟩) n n) n (rs.map (·.v)) :: ([] ++ rs.map (Rw.e w.heap.size))) wr)
    case atStart => exact ⟨0, rs, rfl, by omega, hrl, hd, hs⟩
    case round =>
    clear hrl
    clear hd x1 hs
    obtain ⟨i, rs, rfl, hin, hrl, hd, hs⟩ := hrel
    have HO2 := ‹∀ (a' : Act) (w' : World), Handed _ _ a' w' → _›
    obtain ⟨g2, hg2⟩ : ∃ g, gk = g := ⟨_, rfl⟩
    by_cases hi : i < n
    · have HI := hide hi
      obtain ⟨gM, offM, curM, tyM, fzM, oi, ci, rfl, xM, eM, sM⟩ := HF.out.row (i := i) (by rw [F1.out]; exact hi)
      obtain ⟨Kx, hKx⟩ : ∃ Kx, (rw_ M i).length = Kx := ⟨_, rfl⟩
      have HK1 := hide (show Kx ≤ 1000 by rw [← hKx]; exact HRM.out i)
      rw [hKx] at eM
      have HKX := hide hKx
      have HS := hide sM
      clear hKx sM
      replace xM := xM.bl hs.b
      refine wp_seq_k ?_
      intro K10 hK10
      refine rg [0] ?_
      refine sq ?_
      refine .r0 ?_
      apply wpSq_end
      refine hK10 _ _ ?_
      refine wp_seq_k ?_
      intro K11 hK11
      refine ct ?_
      refine wp_skip ?_
      refine hK11 _ _ ?_
      refine wp_seq_k ?_
      intro K12 hK12
      refine wp_block ?_
      refine wp_seq_k ?_
      intro K13 hK13
      refine rg [0, 1, 2, 3, 4] ?_
      refine sq ?_
      refine .mv ?_
      refine sq ?_
      refine .r0 ?_
      refine sq ?_
      refine .r1 (xM.cell _ eM) ?_
      refine sq ?_
      refine .mv ?_
      refine sq ?_
      refine .mv ?_
      apply wpSq_end
      refine hK13 _ _ ?_
      refine wp_seq_k ?_
      intro K14 hK14
      refine rg [0, 1, 2] ?_
      refine sq ?_
      refine .mv ?_
      refine sq ?_
      refine .r0 ?_
      refine sq ?_
      refine .mv ?_
      apply wpSq_end
      refine hK14 _ _ ?_
      refine wp_block ?_
      have hd4 := hs.2.1
      go_loopg [30] Kx (fun kz s30 wr => ∃ (b : Nat) (rs : List Rw), s30 = .int .i64 (b : Int) ∧ b + kz = Kx ∧ rs.length = n ∧ RD wr rs (bz Mss n a i b) ∧ St w (ls w.heap.size 51 1 (.slice (some ⟨g_l, 0, none⟩) n n) n (rs.map (·.v)) :: ([] ++ rs.map (Rw.e w.heap.size))) wr)
      case atStart => exact ⟨0, rs, rfl, by omega, hrl, hd, hs⟩
      case round =>
      clear hrl
      clear hd xM hs
      obtain ⟨b, rs, rfl, hbk, hrl, hd, hs⟩ := hrel
      by_cases hb9 : b < Kx
      · have HB9 := hide hb9
        obtain ⟨g2', off2, cur2, ty2, fz2, a1, a2, a3, a4, a5, a6, a7, a8, rfl, x2, e1, e2, e3, e4, z1, z2⟩ := HS.out.op (j := b) (by rw [HKX.out]; exact hb9)
        have E1 := hide (bzr_snoc (Mss := Mss) (a := a) (i := i) (b := b) (by rw [HMM.out, HKX.out]; exact hb9))
        replace z1 : ZN wr (.agg #[.bool a1, .slice a2 a3 a4]) (at1 (rw_ M i) b).1 l := z1.bl hs.b
        replace z2 : ZN wr (.agg #[.bool a5, .slice a6 a7 a8]) (at1 (rw_ M i) b).2 l := z2.bl hs.b
        have x2z := x2
        have lt_kRM := x2.lt
        replace x2 := x2.bl hs.b
        obtain ⟨r1, oR, cR, xs, r2, rfl, hr1, hrv, hx, hs⟩ := hs.row0 (bs := []) hd (p := i) (by rw [bz_len]; exact HI.out)
        rw [bz_get HI.out] at hrv hx hs
        obtain ⟨KR, hKR⟩ : ∃ KR, (bzr Mss a i b i).length = KR := ⟨_, rfl⟩
        have HKR := hide hKR
        have hK1000 : Kx ≤ 1000 := HK1.out
        have HKB : KR ≤ 2000000 := by have := bzr_len (a := a) (i := i) (b := b) (r := i) HR.out; omega
        rw [hKR] at hrv hs
        have LO : Lst wr w.heap.size 51 1 (.slice (some ⟨g_l, 0, none⟩) n n) n _ := hs.1.2.1.1
        obtain ⟨gO', curO, eO', xO, hcO⟩ := LO.box (by have := HI.out; omega)
        simp only [Option.some.injEq, Addr.mk.injEq, and_true] at eO'
        obtain rfl : g_l = gO' := eO'
        have eO := hcO _ _ hrv
        obtain ⟨P, hP⟩ : ∃ P, at1 (rw_ M i) b = P := ⟨_, rfl⟩
        have HPE := hide hP
        rw [hP] at z1 z2
        clear LO hcO hP hrv
        refine wp_seq_k ?_
        intro K15 hK15
        refine rg [0] ?_
        refine sq ?_
        refine .r0 ?_
        apply wpSq_end
        refine hK15 _ _ ?_
        refine wp_seq_k ?_
        intro K16 hK16
        refine ct ?_
        refine wp_skip ?_
        refine hK16 _ _ ?_
        refine wp_seq_k ?_
        intro K17 hK17
        refine wp_block ?_
        refine wp_seq_k ?_
        intro K18 hK18
        refine rg [0, 1, 2, 3] ?_
        refine sq ?_
        refine .r0 ?_
        refine sq ?_
        refine .r4 ⟨x2.cell _ e1, x2.cell _ e2, x2.cell _ e3, x2.cell _ e4⟩ ?_
        refine sq ?_
        refine .al hs ?_; clear hs; intro p_b1 w_5 hs n5 kb_b1
        replace x2 := x2.bl n5; replace xO := xO.bl n5
        refine sq ?_
        refine .s4 hs.g0 (fun _ => hs.u0 kb_b1) ?_; clear hs; intro w_6 hs hd6 ho6
        replace x2 := x2.frame ho6 (Nat.ne_of_lt (Nat.lt_of_lt_of_le lt_kRM kb_b1)); replace xO := xO.frame ho6 (hs.ne 2 0)
        apply wpSq_end
        refine hK18 _ _ ?_
        refine wp_region_f4 [(0, false), (1, false), (2, false), (3, false), (4, false), (5, false), (6, false), (7, false), (8, true), (9, true)] [10, 11, 12] [] (fun _ => default) [99, 99, 99, 99, 99, 0, 1, 99, 99, 99, 99, 99, 99] [(10, 0), (11, 0), (12, 0)] (.c xO (.c hs.g0 .n)) fn fun w_7 n7 => ?_
        replace x2 := x2.bl n7; replace xO := xO.bl n7; replace hs := hs.bl n7
        refine fmv ?_
        refine fmv ?_
        refine fmv ?_
        refine fmv ?_
        refine f0 ?_
        apply wpFl_ld rfl rfl; (case h1 => intro w' hC K hK; have c0 := Bs.cell hC (i) eO; go_big_op; exact hK); iterate 4 kernel_rfl
        refine f4 ?_
        refine f0 ?_
        refine fl fun w_8 n8 => ?_
        replace x2 := x2.bl n8; replace xO := xO.bl n8; replace hs := hs.bl n8
        intro K hK
        have k0_4 := (((kb n5).o hd6 ho6).b n7).b n8
        replace z1 := z1.k k0_4
        replace z2 := z2.k k0_4
        go_big_op
        go_fit (gAdd_any (PN.mk' z1 z2) (PN.mk' ((zc_zero w_8).zn zlen_0) ((zc_zero w_8).zn zlen_0)) (by omega) (by omega) (by omega) (by omega) )
        rintro e w_9 ⟨_, rfl, ⟨n_ga, o_ga, k_ga, c_ga, n_gb, o_gb, k_gb, c_gb, rfl, g1, g2⟩, hb_9⟩
        replace x2 := x2.bl hb_9; replace xO := xO.bl hb_9; replace hs := hs.bl hb_9
        have Lg1 := hide (g1.lenOf (zlen_add (z1.len) (zlen_0)))
        have Lg2 := hide (g2.lenOf (zlen_add (z2.len) (zlen_0)))
        rw [Int.add_zero] at g1 g2
        refine hK _ _ rfl ⟨hb_9, (And.intro xO (And.intro hs.g0 trivial))⟩ ?_
        clear hK K
        refine fl fun w_10 n10 => ?_
        replace x2 := x2.bl n10; replace xO := xO.bl n10; replace hs := hs.bl n10
        refine .al hs ?_ (e := fun _ _ hs n => ⟨n, (And.intro (xO.bl n) (And.intro hs.g1 trivial))⟩); clear hs; intro p_b2 w_11 hs n11 kb_b2
        replace x2 := x2.bl n11; replace xO := xO.bl n11
        refine e0 hs ?_; clear hs; intro w_12 hs n12
        replace x2 := x2.bl n12; replace xO := xO.bl n12
        refine tl ?_
        have k0_8 := (((k0_4.b hb_9).b n10).b n11).b n12
        replace hx := hx.k k0_8
        have k5_8 := ((kb n10).b n11).b n12
        replace g1 := g1.k k5_8
        replace g2 := g2.k k5_8
        replace hx := hx.snoc (.mk' g1 g2)
        refine .apo 2 hs hs.g0 ?_ (eE := fun _ _ _ hs => (And.intro True.intro (And.intro hs.g1 True.intro))); clear hs; intro o_R_13 c_R_13 w_13 hs kp13 hw13; simp only [List.set_cons_succ, List.set_cons_zero] at hs
        replace x2 := x2.lo lt_kRM hw13
        clear xO
        refine tl ?_
        refine .r0 ?_ (e := (And.intro True.intro (And.intro hs.g1 True.intro)))
        refine tl ?_
        refine .i1 3 hs (j := i) (by exact HI.out) ?_ (e := fun _ hB hO => (And.intro True.intro (And.intro (hs.g1.frame hO (hs.ne 1 3)) True.intro))); clear hs; intro w_14 hs kp14 hd14 ho14 hw14; simp only [List.set_cons_succ, List.set_cons_zero] at hs
        replace x2 := x2.lo lt_kRM hw14
        apply wpTail_end
        refine hK17 _ _ ?_
        refine rg [0, 1] ?_
        refine sq ?_
        refine .r0 ?_
        refine sq ?_
        refine .mv ?_
        apply wpSq_end
        have k0_10 := (k0_8.t kp13).t kp14
        replace hd := hd.k k0_10
        have k8_10 := kp13.t kp14
        replace hx := hx.k k8_10
        refine ‹∀ (a' : Act) (w' : World), Handed _ _ a' w' → _› _ _ ?_
        have hs := (hs.sub (.cons _ (.cons _ (List.Sublist.refl _)))).unrow0 (bs := []) hr1
        have hd := RD.set' (n := KR + 1) (m := bzr Mss a i (b + 1) i) (v := .slice o_R_13 (KR + 1) c_R_13) (by rw [E1.out, List.length_append, HKR.out, List.length_singleton]) (by rw [E1.out, HMM.out, HPE.out]; exact hx) hd hr1
        rw [bz_set HI.out] at hd
        go_roundg (gk - 1)
        case rel => exact ⟨b + 1, _, by rfl, by omega, by simpa using hrl, hd, hs⟩
        case measure => omega
      · obtain rfl : Kx = b := by omega
        have HX := hide hb9
        refine wp_seq_k ?_
        intro K15 hK15
        refine rg [0] ?_
        refine sq ?_
        refine .r0 ?_
        apply wpSq_end
        refine hK15 _ _ ?_
        refine wp_seq_k ?_
        intro K16 hK16
        refine cf ?_
        refine wp_exit ?_
        refine hK12 _ _ ?_
        refine rg [0, 1] ?_
        refine sq ?_
        refine .r0 ?_
        refine sq ?_
        refine .mv ?_
        apply wpSq_end
        refine HO2 _ _ ?_
        go_roundg (g2 - 1)
        case rel => exact ⟨i + 1, rs, by rfl, by omega, hrl, by rw [← bz_row (b := Kx) (by rw [HMM.out, HKX.out]; exact Nat.le_refl _)]; exact hd, hs⟩
        case measure => omega
    · obtain rfl : n = i := by omega
      have HX := hide hi
      refine wp_seq_k ?_
      intro K10 hK10
      refine rg [0] ?_
      refine sq ?_
      refine .r0 ?_
      apply wpSq_end
      refine hK10 _ _ ?_
      refine wp_seq_k ?_
      intro K11 hK11
      refine cf ?_
      refine wp_exit ?_
      refine hK7 _ _ ?_
      refine rg [0, 1] ?_
      refine sq ?_
      refine .r0 ?_
      refine sq ?_
      refine .mv ?_
      apply wpSq_end
      refine HO _ _ ?_
      go_roundg (g1 - 1)
      case rel => exact ⟨a + 1, rs, by rfl, by omega, hrl, by rw [← bz_mat HA.out]; exact hd, hs⟩
      case measure => omega
  · obtain rfl : nm = a := by omega
    have HX := hide ha
    refine wp_seq_k ?_
    intro K5 hK5
    refine rg [0] ?_
    refine sq ?_
    refine .r0 ?_
    apply wpSq_end
    refine hK5 _ _ ?_
    refine wp_seq_k ?_
    intro K6 hK6
    refine cf ?_
    refine wp_exit ?_
    refine hK3 _ _ ?_
    refine wp_seq_k ?_
    intro K7 hK7
    refine rg [0, 1] ?_
    refine sq ?_
    refine .mv ?_
    refine sq ?_
    refine .mv ?_
    apply wpSq_end
    refine hK7 _ _ ?_
    refine wp_ret ?_
    try dsimp only [Exit.then, Exit.inBlock]
    refine bodyPost_ret (v := (.slice (some ⟨g_l, 0, none⟩) n n)) (by simp [results, Tryz.results163, go_sem]) rfl ?_
    exact ⟨_, _, rs, rfl, hrl, (by unfold Mx; rw [hrl]; exact hs), by rw [← bz_all, hnm]; exact hd, hs.b⟩
end
end Go.Proofs.YtjfjlloibmebeaaGreat


/- gdet: laid, Det, Rank, Independent. -/
namespace Go.Proofs.YtjfjlloibmebeaaGreat
open Go Go.RowKit Dig
set_option linter.unusedVariables false
theorem smOne {l n p ca : Nat} {w : World} {ty : TypeId} {fz : Nat × Nat} {oa : Option Addr} {A : List (List (Int × Int))} (x : Bs w p #[.slice oa n ca] ty fz) (ha : MN l w oa A) (hn : A.length = n) : SM l n w (some ⟨p, 0, none⟩) [A] :=
  ⟨p, _, ty, fz, rfl, x, fun i hi => match i, hi with
    | 0, _ => ⟨hn, oa, ca, rfl, ha⟩⟩
theorem one_cat {n k : Nat} {A : List (List (Int × Int))} (h : gd A) (hn : A.length = n) (hk : wd A = k) : ((List.range n).map fun r => [A].flatMap (rw_ · r)) = mkM n k (at2 A) := by
  refine List.map_congr_left fun r hr => ?_
  have hr : r < n := by simpa using hr
  have hl : (rw_ A r).length = k := by rw [gd_row h (by omega)]; exact hk
  simp only [List.flatMap_cons, List.flatMap_nil, List.append_nil]
  refine List.ext_getElem (by simp [hl]) fun j h1 h2 => ?_
  simp [at2, at1, List.getD, h1]
theorem rw_le {A : List (List (Int × Int))} (h : gd A) (i : Nat) : (rw_ A i).length ≤ 64 := by
  rcases Nat.lt_or_ge i A.length with c | c
  · rw [gd_row h c]; exact h.2.1
  · simp [rw_, List.getD, c]
section
variable {w w0 : World} {l la n k L ca : Nat} {oa : Option Addr} {bs : List En} {A : List (List (Int × Int))}
set_option maxHeartbeats 4000000 in
set_option maxRecDepth 20000 in
theorem laid_any (hst : St w0 bs w) (ha : MN la w0 oa A) (hna : A.length = n) (h : gd A) (hk : wd A = k) (hla : la ≤ 20000000) :
    Calls Tryz.prog 99 #[.slice oa n ca] w fun e w' => ∃ p o c rs, e = .returned (.pointer (some ⟨p, 0, none⟩)) ∧ Hid (w0.heap.size ≤ p) ∧ rs.length = n ∧ RD w' rs (mkM n k (at2 A)) ∧
      St w0 (ls w0.heap.size 51 1 (.slice o n c) n (rs.map (·.v)) :: bx p #[.slice o n c, .int .i64 (n : Int), .int .i64 (k : Int), .bool false] 105 :: (bs ++ rs.map (Rw.e w0.heap.size))) w' ∧ Kp w w' := by
  have HA := hide ha
  have H := hide h
  have HK := hide hk
  have HRL := hide (show ∀ M ∈ [A], ∀ i, (rw_ M i).length ≤ 1000 from fun M hM i => by rw [List.mem_singleton.1 hM]; exact Nat.le_trans (rw_le h i) (by decide))
  have hn64 : n ≤ 64 := by have := h.1; omega
  have kk := KpF.r w
  clear ha h hk
  go_enter Tryz.func99, Tryz.ntmps99
  have hs := hst
  clear hst
  refine wp_seq_k ?_
  intro K1 hK1
  refine rg [0] ?_
  refine sq ?_
  refine .mv ?_
  apply wpSq_end
  refine hK1 _ _ ?_
  refine wp_seq_k ?_
  intro K2 hK2
  refine rg [0, 1, 2, 3, 4, 5, 6, 7, 8] ?_
  refine sq ?_
  refine .mv ?_
  refine sq ?_
  intro K hK
  have hb := hs.b
  go_big_op
  go_fit (mSize_ok (HA.out.bl stab_n hb) hna H.out HK.out)
  rintro e w_1 ⟨rfl, hb_1⟩
  clear hb
  replace hs := hs.bl hb_1
  refine hK _ _ rfl trivial ?_
  clear hK K
  refine sq ?_
  refine .mv ?_
  refine sq ?_
  refine .r0 ?_
  refine sq ?_
  refine .r0 ?_
  refine sq ?_
  refine .r0 ?_
  refine sq ?_
  refine .mv ?_
  refine sq ?_
  refine .mv ?_
  refine sq ?_
  refine .mv ?_
  apply wpSq_end
  refine hK2 _ _ ?_
  refine wp_seq_k ?_
  intro K3 hK3
  refine rg [0, 1, 2, 3, 4, 5, 6, 7] ?_
  refine sq ?_
  refine .mv ?_
  refine sq ?_
  refine .al hs ?_; clear hs; intro p_b1 w_2 hs n2 kb_b1
  refine sq ?_
  intro K hK
  have hb := hs.b
  go_big_op
  go_fit (dbeside_any (l := la) (Mss := [A]) (smOne hs.g0 (HA.out.bl stab_n hb) hna) rfl (by omega) (by omega) HRL.out (by omega) hla)
  rintro e w_3 ⟨o_T, c_T, rs_T, rfl, hl_T, hs_T, d_T, hb_3⟩
  clear hb
  replace hs := hs.mx hl_T hs_T; simp only [List.cons_append] at hs
  rw [one_cat H.out hna HK.out] at d_T
  refine hK _ _ rfl trivial ?_
  clear hK K
  refine sq ?_
  refine .mv ?_
  refine sq ?_
  refine .mv ?_
  refine sq ?_
  refine .r0 ?_
  refine sq ?_
  refine .al hs ?_; clear hs; intro p_b2 w_4 hs n4 kb_b2
  refine sq ?_
  refine .mv ?_
  apply wpSq_end
  refine hK3 _ _ ?_
  refine wp_ret ?_
  have k3_4 := kb n4
  replace d_T := d_T.k k3_4
  have k0_4 := (((kb hb_1).b n2).b hb_3).b n4
  replace kk := kk.k k0_4
  try dsimp only [Exit.then, Exit.inBlock]
  refine bodyPost_ret (v := (.pointer (some ⟨p_b2, 0, none⟩))) (by simp [results, Tryz.results99, go_sem]) rfl ?_
  exact ⟨_, _, _, rs_T, rfl, kb_b2, hl_T, d_T, (hs.perm (List.Perm.swap _ _ _)).sub (.cons_cons _ (.cons_cons _ (.cons _ (List.Sublist.refl _)))), kk.kp⟩
set_option maxHeartbeats 4000000 in
set_option maxRecDepth 20000 in
theorem det_bad (ha : MN la w oa A) (hna : A.length = n) (h : ¬ (gd A ∧ wd A = n)) (hla : n ≤ 1000000000) :
    Calls Tryz.prog 25 #[.slice oa n ca] w fun e w' => e = .returned (.tuple #[.agg #[.bool false, .slice none 0 0, .bool false, .slice none 0 0], .int .i64 4]) ∧ Below w.heap.size w w' := by
  have HS := hide (show ∀ w1, Below w.heap.size w w1 → Calls Tryz.prog 79 #[.slice oa n ca] w1 fun e w' => e = .returned (.bool false) ∧ Below w1.heap.size w1 w' from fun w1 h1 => by
    by_cases hg : gd A
    · have := isSquare_ok (ca := ca) (ha.bl stab_n h1) hna hg rfl
      rw [decide_eq_false (fun c => h ⟨hg, c.symm⟩)] at this
      exact this
    · exact isSquare_bad (ha.bl stab_n h1) hna hg hla)
  clear ha h
  go_enter Tryz.func25, Tryz.ntmps25
  have hs := St.nil w
  refine wp_seq_k ?_
  intro K1 hK1
  refine rg [0, 1] ?_
  refine sq ?_
  refine .al hs ?_; clear hs; intro p_b1 w_1 hs n1 kb_b1
  refine sq ?_
  refine .mv ?_
  apply wpSq_end
  refine hK1 _ _ ?_
  refine wp_seq_k ?_
  intro K2 hK2
  refine wp_seq_k ?_
  intro K3 hK3
  refine rg [0, 1, 2] ?_
  refine sq ?_
  refine .mv ?_
  refine sq ?_
  intro K hK
  have hb := hs.b
  go_big_op
  go_fit (HS.out _ hb)
  rintro e w_2 ⟨rfl, hb_2⟩
  clear hb
  replace hs := hs.bl hb_2
  refine hK _ _ rfl trivial ?_
  clear hK K
  refine sq ?_
  refine .r0 ?_
  apply wpSq_end
  refine hK3 _ _ ?_
  refine ct ?_
  refine wp_seq_k ?_
  intro K4 hK4
  refine rg [0, 1, 2] ?_
  refine sq ?_
  refine .r0 ?_
  refine sq ?_
  refine .s4 hs.g0 (fun _ => hs.u0 kb_b1) ?_; clear hs; intro w_3 hs hd3 ho3
  refine sq ?_
  refine .mv ?_
  apply wpSq_end
  refine hK4 _ _ ?_
  refine wp_ret ?_
  try dsimp only [Exit.then, Exit.inBlock]
  obtain ⟨r0_0, r0_1, r0_2, r0_3⟩ := hs.g0.f4
  refine bodyPost_ret (v := (.tuple #[(.agg #[.bool false, .slice none 0 0, .bool false, .slice none 0 0]), (.int .i64 4)])) (by simp [results, Tryz.results25, go_sem, r0_0, r0_1, r0_2, r0_3]) rfl ?_
  exact ⟨rfl, hs.b⟩
set_option maxHeartbeats 4000000 in
set_option maxRecDepth 20000 in
theorem det_ok (ha : MN la w oa A) (hna : A.length = n) (h : gd A) (hk : wd A = n) (hB : MinB n n L (at2 A)) (hL : L ≤ 3000000) (hla : la ≤ 20000000) :
    Calls Tryz.prog 25 #[.slice oa n ca] w fun e w' => ∃ v, e = .returned (.tuple #[v, .int .i64 0]) ∧ PC w' v (Dt.det n (at2 A)).1 (Dt.det n (at2 A)).2 ∧ Below w.heap.size w w' := by
  have HA := hide ha
  have H := hide h
  have HK := hide hk
  have HB := hide hB
  have hn64 : n ≤ 64 := by have := h.1; omega
  have ES : decide (n = n) = true := decide_eq_true rfl
  clear ha h hk hB
  go_enter Tryz.func25, Tryz.ntmps25
  have hs := St.nil w
  refine wp_seq_k ?_
  intro K1 hK1
  refine rg [0, 1] ?_
  refine sq ?_
  refine .al hs ?_; clear hs; intro p_b1 w_1 hs n1 kb_b1
  refine sq ?_
  refine .mv ?_
  apply wpSq_end
  refine hK1 _ _ ?_
  refine wp_seq_k ?_
  intro K2 hK2
  refine wp_seq_k ?_
  intro K3 hK3
  refine rg [0, 1, 2] ?_
  refine sq ?_
  refine .mv ?_
  refine sq ?_
  intro K hK
  have hb := hs.b
  go_big_op
  go_fit (isSquare_ok (HA.out.bl stab_n hb) hna H.out HK.out)
  rintro e w_2 ⟨rfl, hb_2⟩
  clear hb
  replace hs := hs.bl hb_2
  rw [ES]
  refine hK _ _ rfl trivial ?_
  clear hK K
  refine sq ?_
  refine .r0 ?_
  apply wpSq_end
  refine hK3 _ _ ?_
  refine cf ?_
  refine wp_skip ?_
  refine hK2 _ _ ?_
  refine wp_seq_k ?_
  intro K4 hK4
  refine rg [0, 1, 2] ?_
  refine sq ?_
  refine .mv ?_
  refine sq ?_
  intro K hK
  go_big_op
  go_fit (laid_any hs HA.out hna H.out HK.out hla)
  have bb3 := hs.b
  rintro e w_3 ⟨p_t, o_t, c_t, rs_t, rfl, kb_bt, hl_t, hd, hs', kp3⟩
  clear hs; have hs := hs'; clear hs'
  have bc3 := hs.b
  clear bb3 bc3
  refine hK _ _ rfl trivial ?_
  clear hK K
  refine sq ?_
  refine .mv ?_
  apply wpSq_end
  refine hK4 _ _ ?_
  refine wp_seq_k ?_
  intro K5 hK5
  refine rg [0, 1, 2] ?_
  refine sq ?_
  refine .mv ?_
  refine sq ?_
  intro K hK
  go_big_op
  go_fit (pivots_any (bs := [bx p_b1 #[.bool false, .slice none 0 0, .bool false, .slice none 0 0] 38]) hs kb_bt hl_t hd (Nat.le_refl _) (Nat.le_refl _) (by omega) (by omega) HB.out hL)
  have bb4 := hs.b
  rintro e w_4 ⟨o9, c9, xs, r, A2, F2, odd2, rs2, rfl, hF, hL9, hA2, hl2, hd2, hs', kp4⟩
  clear hs; have hs := hs'; clear hs'
  have bc4 := hs.b
  clear bb4 bc4
  refine hK _ _ rfl trivial ?_
  clear hK K
  refine sq ?_
  refine .mv ?_
  apply wpSq_end
  refine hK5 _ _ ?_
  refine wp_seq_k ?_
  intro K6 hK6
  refine wp_block ?_
  refine wp_seq_k ?_
  intro K7 hK7
  refine rg [0, 1, 2, 3] ?_
  refine sq ?_
  refine .mv ?_
  refine sq ?_
  refine .r0 ?_
  refine sq ?_
  refine .r0 ?_
  refine sq ?_
  refine .mv ?_
  apply wpSq_end
  refine hK7 _ _ ?_
  by_cases h0 : n = 0
  · have t0 : ((n : Int) == 0) = true := by rw [h0]; rfl
    have E0 := hide (show Dt.det n (at2 A) = (1, 0) by rw [h0]; rfl)
    clear h0
    refine ct ?_
    refine wp_seq_k ?_
    intro K8 hK8
    refine rg [0, 1, 2] ?_
    refine sq ?_
    intro K hK
    go_big_op
    go_fit (gFrom_any 1 0 _ (by omega) (by omega) (by omega) (by omega))
    rintro e w_5 ⟨_, rfl, ⟨n_ga, o_ga, k_ga, c_ga, n_gb, o_gb, k_gb, c_gb, rfl, g1, g2⟩, hb_5⟩
    replace hs := hs.bl hb_5
    refine hK _ _ rfl trivial ?_
    clear hK K
    refine sq ?_
    refine .s4 hs.g3 (fun _ => hs.u3 kb_b1) ?_; clear hs; intro w_6 hs hd6 ho6
    refine sq ?_
    refine .mv ?_
    apply wpSq_end
    refine hK8 _ _ ?_
    refine wp_ret ?_
    have k5_6 := ko hd6 ho6
    replace g1 := g1.k k5_6
    replace g2 := g2.k k5_6
    try dsimp only [Exit.then, Exit.inBlock]
    obtain ⟨r0_0, r0_1, r0_2, r0_3⟩ := hs.g3.f4
    refine bodyPost_ret (v := (.tuple #[(.agg #[.bool n_ga, .slice o_ga k_ga c_ga, .bool n_gb, .slice o_gb k_gb c_gb]), (.int .i64 0)])) (by simp [results, Tryz.results25, go_sem, r0_0, r0_1, r0_2, r0_3]) rfl ?_
    exact ⟨_, rfl, .mk' (by rw [E0.out]; exact g1) (by rw [E0.out]; exact g2), hs.b⟩
  · have t0 : ((n : Int) == 0) = false := beq_eq_false_iff_ne.2 (by omega)
    have hrn := hF.1.1
    have HFD := hide hF.det
    have HFQ := hide hF.1
    clear hF
    refine cf ?_
    refine wp_seq_k ?_
    intro K8 hK8
    refine rg [0, 1, 2, 3, 4, 5] ?_
    refine sq ?_
    refine .mv ?_
    refine sq ?_
    refine .r0 ?_
    refine sq ?_
    refine .mv ?_
    refine sq ?_
    refine .r0 ?_
    refine sq ?_
    refine .r0 ?_
    refine sq ?_
    refine .mv ?_
    apply wpSq_end
    refine hK8 _ _ ?_
    by_cases hr : r < n
    · have E0 := hide (HFD.out.1 hr)
      refine ct ?_
      refine wp_seq_k ?_
      intro K9 hK9
      refine rg [0, 1, 2] ?_
      refine sq ?_
      refine .r0 ?_
      refine sq ?_
      refine .s4 hs.g3 (fun _ => hs.u3 kb_b1) ?_; clear hs; intro w_5 hs hd5 ho5
      refine sq ?_
      refine .mv ?_
      apply wpSq_end
      refine hK9 _ _ ?_
      refine wp_ret ?_
      try dsimp only [Exit.then, Exit.inBlock]
      obtain ⟨r0_0, r0_1, r0_2, r0_3⟩ := hs.g3.f4
      refine bodyPost_ret (v := (.tuple #[(.agg #[.bool false, .slice none 0 0, .bool false, .slice none 0 0]), (.int .i64 0)])) (by simp [results, Tryz.results25, go_sem, r0_0, r0_1, r0_2, r0_3]) rfl ?_
      exact ⟨_, rfl, .mk' (by rw [E0.out]; exact zc_zero _) (by rw [E0.out]; exact zc_zero _), hs.b⟩
    · obtain rfl : r = n := by omega
      have E0 := hide (HFD.out.2 rfl)
      have LV := hide (show zl L (Dt.det r A2) by
        have := HFQ.out.bd HB.out (Nat.le_refl _) (Nat.le_refl _) (r - 1) (by omega) (r - 1) (by omega) (r - 1) (by omega)
        rw [Dt.D_diag, show r - 1 + 1 = r by omega] at this
        exact this)
      have LL : Lst w_4 w.heap.size 38 4 (.slice o9 r c9) r xs := hs.1.1.1
      obtain ⟨gL, curL, rfl, xL, hcL⟩ := LL.box (by omega)
      obtain ⟨l1, l2, l3, l4, l5, l6, l7, l8, e1, e2, e3, e4, v1, v2⟩ := hL9.els (r - 1) (by rw [pvs_len]; omega)
      rw [show (pvs A2 r)[r - 1]'(by rw [pvs_len]; omega) = Dt.det r A2 by simp [pvs, show r - 1 + 1 = r by omega]] at v1 v2
      replace e1 := hcL _ _ e1
      replace e2 := hcL _ _ e2
      replace e3 := hcL _ _ e3
      replace e4 := hcL _ _ e4
      have EK : (r : Int) - 1 = ((r - 1 : Nat) : Int) := by omega
      clear LL hcL hr
      obtain ⟨r1, hr1⟩ : ∃ r1, r - 1 = r1 := ⟨_, rfl⟩
      rw [hr1] at e1 e2 e3 e4 EK
      clear hr1
      refine cf ?_
      refine wp_skip ?_
      refine hK6 _ _ ?_
      refine wp_seq_k ?_
      intro K9 hK9
      refine rg [0, 1, 2, 3, 4, 5, 6, 7, 8, 9] ?_
      refine sq ?_
      refine .mv ?_
      refine sq ?_
      refine .mv ?_
      refine sq ?_
      refine .mv ?_
      refine sq ?_
      refine .r0 ?_
      refine sq ?_
      refine .r0 ?_
      refine sq ?_
      refine .r0 ?_
      refine sq ?_
      refine .r4 ⟨xL.cell _ e1, xL.cell _ e2, xL.cell _ e3, xL.cell _ e4⟩ ?_
      refine sq ?_
      intro K hK
      go_big_op
      go_fit (dsigned_any (L := L) hs.g2 (.mk' v1 v2) LV.out hL)
      rintro e w_5 ⟨_, rfl, ⟨n_sa, o_sa, k_sa, c_sa, n_sb, o_sb, k_sb, c_sb, rfl, s1, s2⟩, hb_5⟩
      replace xL := xL.bl hb_5; replace hs := hs.bl hb_5
      refine hK _ _ rfl trivial ?_
      clear hK K
      refine sq ?_
      refine .s4 hs.g3 (fun _ => hs.u3 kb_b1) ?_; clear hs; intro w_6 hs hd6 ho6
      replace xL := xL.frame ho6 (hs.ne 0 3)
      refine sq ?_
      refine .mv ?_
      apply wpSq_end
      refine hK9 _ _ ?_
      refine wp_ret ?_
      have k5_6 := ko hd6 ho6
      replace s1 := s1.k k5_6
      replace s2 := s2.k k5_6
      try dsimp only [Exit.then, Exit.inBlock]
      obtain ⟨r0_0, r0_1, r0_2, r0_3⟩ := hs.g3.f4
      refine bodyPost_ret (v := (.tuple #[(.agg #[.bool n_sa, .slice o_sa k_sa c_sa, .bool n_sb, .slice o_sb k_sb c_sb]), (.int .i64 0)])) (by simp [results, Tryz.results25, go_sem, r0_0, r0_1, r0_2, r0_3]) rfl ?_
      exact ⟨_, rfl, .mk' (by rw [E0.out]; exact s1) (by rw [E0.out]; exact s2), hs.b⟩
end
end Go.Proofs.YtjfjlloibmebeaaGreat


/- gdet: Gram matrices' minors are no longer than their rows together; Minors. -/
namespace Go.Proofs.YtjfjlloibmebeaaGreat
open Go Go.RowKit Dig
set_option linter.unusedVariables false
theorem zl_nrm1 {b : Nat} {p : Int × Int} (h : zl b p) : nrm p ≤ 2 * pw b := by
  have h1 := Nat.lt_of_lt_of_le (lt_pw_dig p.1.natAbs) (pw_mono h.1)
  have h2 := Nat.lt_of_lt_of_le (lt_pw_dig p.2.natAbs) (pw_mono h.2)
  unfold nrm; omega
theorem nrm_sumP {X : Nat} {f : Nat → Int × Int} : ∀ {k : Nat}, (∀ q, q < k → nrm (f q) ≤ X) → nrm (sumP k f) ≤ k * X
  | 0, _ => by show nrm (0, 0) ≤ _; simp [nrm]
  | k + 1, h => by
    have h1 := nrm_sumP fun q hq => h q (Nat.lt_succ_of_lt hq)
    have h2 := h k (Nat.lt_succ_self k)
    have h3 := nrm_add (sumP k f) (f k)
    rw [sumP, aP_eq, Nat.add_mul k 1 X]; omega
section
variable {n W T : Nat} {M : Nat → Nat → Int × Int} {b : Nat → Nat}
theorem MinB.D {L : Nat} {A : Nat → Nat → Int × Int} (hB : MinB n W L A) : ∀ m, ∀ i, i < n → ∀ j, j < W → zl L (Dt.D m A i j) := by
  intro m i hi j hj
  by_cases h1 : i < m
  · rw [Dt.D_row0 h1]; exact zl_0 _
  · by_cases h2 : j < m
    · rw [Dt.D_col0 h2]; exact zl_0 _
    · exact hB (m + 1) (Dt.bord m i) (Dt.bord m j) (fun r hr => ⟨by unfold Dt.bord; split <;> omega, by unfold Dt.bord; split <;> omega⟩) fun r q h3 h4 h5 => by
        unfold Dt.bord at h5
        split at h5 <;> split at h5 <;> omega
end
end Go.Proofs.YtjfjlloibmebeaaGreat

