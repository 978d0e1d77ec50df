/- gdet: matrices laid beside one another; the table. -/
import Derived.Test.YtnkimagnmnocdaaGreatE15ToE8
import Derived.Test.YtnkimagnmnocdaaGreatE1ToO2
import Derived.Test.YtnkimagnmnocdaaGreatI5ToDp
import Derived.Test.YtnkimagnmnocdaaGreatE6ToE14

namespace Go.Proofs.YtnkimagnmnocdaaGreat
open Go Go.RowKit Dig
set_option linter.unusedVariables false
/-- A list of matrices of n rows that can be read. -/
def SM (l n : Nat) (w : World) (o : Option Addr) (Mss : List (List (List (Int × Int)))) : Prop := ∃ g cur ty fz, o = some ⟨g, 0, none⟩ ∧ Bs w g cur ty fz ∧ ∀ i (hi : i < Mss.length), Mss[i].length = n ∧ ∃ oi ci, cur[i]? = some (.slice oi n ci) ∧ MN l w oi Mss[i]
/-- Row r of what is laid, up to matrix a's row i's number b. -/
def bzr (Mss : List (List (List (Int × Int)))) (a i b r : Nat) : List (Int × Int) :=
  (Mss.take a).flatMap (rw_ · r) ++ (if r < i then rw_ (Mss.getD a []) r else if r = i then (rw_ (Mss.getD a []) r).take b else [])
def bz (Mss : List (List (List (Int × Int)))) (n a i b : Nat) : List (List (Int × Int)) := (List.range n).map (bzr Mss a i b)
section
variable {Mss : List (List (List (Int × Int)))} {n a i b r : Nat}
theorem bz_len : (bz Mss n a i b).length = n := by simp [bz]
theorem bz_0 : bz Mss n 0 0 0 = List.replicate n [] := by
  refine List.eq_replicate_iff.2 ⟨by simp [bz], fun x hx => ?_⟩
  obtain ⟨r, _, rfl⟩ := List.mem_map.1 hx
  simp only [bzr, List.take_zero, List.flatMap_nil, List.nil_append]
  rw [if_neg (by omega)]; split <;> rfl
theorem bz_get (hr : r < n) : (bz Mss n a i b)[r]'(by simp [bz, hr]) = bzr Mss a i b r := by simp [bz]
theorem bz_set (hi : i < n) : (bz Mss n a i b).set i (bzr Mss a i (b + 1) i) = bz Mss n a i (b + 1) := by
  refine List.ext_getElem (by simp [bz]) fun r h1 h2 => ?_
  simp only [bz, List.getElem_set, List.getElem_map, List.getElem_range]
  by_cases e : i = r
  · rw [if_pos e, e]
  · rw [if_neg e]; unfold bzr
    by_cases e2 : r < i
    · rw [if_pos e2, if_pos e2]
    · rw [if_neg e2, if_neg e2, if_neg (Ne.symm e), if_neg (Ne.symm e)]
theorem bzr_snoc (hb : b < (rw_ (Mss.getD a []) i).length) : bzr Mss a i (b + 1) i = bzr Mss a i b i ++ [at1 (rw_ (Mss.getD a []) i) b] := by
  unfold bzr
  rw [if_neg (Nat.lt_irrefl _), if_pos rfl, if_neg (Nat.lt_irrefl _), if_pos rfl, List.append_assoc, List.take_succ_eq_append_getElem hb]
  generalize rw_ (Mss.getD a []) i = l at hb ⊢
  congr 2
  simp [at1, List.getD, hb]
theorem bz_row (hb : (rw_ (Mss.getD a []) i).length ≤ b) : bz Mss n a i b = bz Mss n a (i + 1) 0 := List.map_congr_left fun r _ => by
  unfold bzr
  by_cases e : r < i
  · rw [if_pos e, if_pos (by omega)]
  · rw [if_neg e]
    by_cases e2 : r = i
    · subst e2; rw [if_pos rfl, if_pos (by omega), List.take_of_length_le hb]
    · rw [if_neg e2, if_neg (by omega)]; split <;> simp
theorem bz_mat (ha : a < Mss.length) : bz Mss n a n 0 = bz Mss n (a + 1) 0 0 := List.map_congr_left fun r hr => by
  have hr : r < n := by simpa using hr
  unfold bzr
  rw [if_pos hr, if_neg (Nat.not_lt_zero _), List.take_succ_eq_append_getElem ha, List.flatMap_append]
  have : Mss.getD a [] = Mss[a] := by simp [List.getD, ha]
  rw [this]
  split <;> simp
theorem flat_len {Mss : List (List (List (Int × Int)))} (h : ∀ M ∈ Mss, ∀ i, (rw_ M i).length ≤ 1000) : (Mss.flatMap (rw_ · r)).length ≤ 1000 * Mss.length := by
  induction Mss with
  | nil => simp
  | cons M t ih =>
    have h1 := h M (List.mem_cons_self ..) r
    have h2 := ih fun N hN => h N (List.mem_cons_of_mem _ hN)
    simp only [List.flatMap_cons, List.length_append, List.length_cons]
    omega
theorem bzr_len (h : ∀ M ∈ Mss, ∀ i, (rw_ M i).length ≤ 1000) : (bzr Mss a i b r).length ≤ 1000 * Mss.length + 1000 := by
  have h1 := flat_len (r := r) (Mss := Mss.take a) fun M hM => h M (List.mem_of_mem_take hM)
  have h2 : (Mss.take a).length ≤ Mss.length := by rw [List.length_take]; omega
  have h3 : (rw_ (Mss.getD a []) r).length ≤ 1000 := by
    rcases Nat.lt_or_ge a Mss.length with c | c
    · have : Mss.getD a [] = Mss[a] := by simp [List.getD, c]
      rw [this]; exact h _ (List.getElem_mem _) r
    · have : Mss.getD a [] = [] := by simp [List.getD, c]
      rw [this]; simp [rw_]
  unfold bzr
  rw [List.length_append]
  split
  · omega
  · split
    · have : ((rw_ (Mss.getD a []) r).take b).length ≤ (rw_ (Mss.getD a []) r).length := by rw [List.length_take]; omega
      omega
    · rw [List.length_nil]; omega
theorem bz_all : bz Mss n Mss.length 0 0 = (List.range n).map fun r => Mss.flatMap (rw_ · r) := List.map_congr_left fun r _ => by
  unfold bzr
  rw [List.take_length, if_neg (Nat.not_lt_zero _)]
  split <;> simp
end
section
variable {w0 w : World} {v x : Value} {n p K : Nat} {rs r1 r2 : List Rw} {bs : List En} {Ms : List (List (Int × Int))} {xs : List Value}
theorem St.nils (hs : St w0 bs w) : ∀ m, St w0 (bs ++ (List.replicate m (⟨.slice none 0 0, 0, []⟩ : Rw)).map (Rw.e w0.heap.size)) w
  | 0 => by simpa using hs
  | m + 1 => by
    rw [List.replicate_succ, List.map_cons]
    exact ((hs.nils m).l0 28 4).perm List.perm_middle.symm
theorem RD.nils : ∀ m, RD w (List.replicate m (⟨.slice none 0 0, 0, []⟩ : Rw)) (List.replicate m [])
  | 0 => trivial
  | m + 1 => by rw [List.replicate_succ, List.replicate_succ]; exact ⟨⟨rfl, GD.nil _⟩, RD.nils m⟩
theorem made_one (u : Value) (n : Nat) : (madeCells #[u] (n * 1)).toList = List.replicate n u := by
  refine List.eq_replicate_iff.2 ⟨by simp [madeCells], fun y hy => ?_⟩
  unfold madeCells at hy
  simp only [Array.toList_map, List.mem_map] at hy
  obtain ⟨j, _, rfl⟩ := hy
  have : j % (#[u] : Array Value).size = 0 := by simp [Nat.mod_one]
  rw [this]; rfl
/-- A row in front of the state, be it empty. -/
theorem St.row0 (hs : St w0 (ls w0.heap.size 52 1 v n (rs.map (·.v)) :: (bs ++ rs.map (Rw.e w0.heap.size))) w) (hd : RD w rs Ms) (hp : p < Ms.length) :
    ∃ r1 o c xs r2, rs = r1 ++ (⟨.slice o Ms[p].length c, Ms[p].length, xs⟩ : Rw) :: r2 ∧ r1.length = p ∧ (rs.map (·.v))[p]? = some (.slice o Ms[p].length c) ∧ GD w xs Ms[p] ∧
      St w0 (ls w0.heap.size 28 4 (.slice o Ms[p].length c) Ms[p].length xs :: ls w0.heap.size 52 1 v n (rs.map (·.v)) :: (bs ++ (r1 ++ r2).map (Rw.e w0.heap.size))) w := by
  obtain ⟨r1, r, r2, rfl, h1, h2, h3⟩ := hd.at' hp
  obtain ⟨rv, rn, xs⟩ := r
  simp only at h2 h3
  subst h2
  have hs2 := hs.perm (cs := Rw.e w0.heap.size ⟨rv, Ms[p].length, xs⟩ :: ls w0.heap.size 52 1 v n ((r1 ++ (⟨rv, Ms[p].length, xs⟩ : Rw) :: r2).map (·.v)) :: (bs ++ (r1 ++ r2).map (Rw.e w0.heap.size))) (by
    refine (List.Perm.cons _ ?_).trans (List.Perm.swap _ _ _)
    rw [List.map_append, List.map_cons, List.map_append, ← List.append_assoc, ← List.append_assoc]
    exact List.perm_middle)
  have L : Lst w w0.heap.size 28 4 rv Ms[p].length xs := hs2.1.1.1
  obtain ⟨o, c, rfl⟩ := L.shape
  exact ⟨r1, o, c, xs, r2, rfl, h1, by rw [List.map_append, List.map_cons, List.getElem?_append_right (by simp [h1])]; simp [h1], h3, hs2⟩
/-- Back, the row written anew. -/
theorem St.unrow0 {K2 : Nat} {x' : Value} {xs' : List Value} (hs : St w0 (ls w0.heap.size 28 4 x' K2 xs' :: ls w0.heap.size 52 1 v n (((r1 ++ (⟨x, K, xs⟩ : Rw) :: r2).map (·.v)).set p x') :: (bs ++ (r1 ++ r2).map (Rw.e w0.heap.size))) w) (hp : r1.length = p) :
    St w0 (ls w0.heap.size 52 1 v n ((r1 ++ (⟨x', K2, xs'⟩ : Rw) :: r2).map (·.v)) :: (bs ++ (r1 ++ (⟨x', K2, xs'⟩ : Rw) :: r2).map (Rw.e w0.heap.size))) w := by
  have e : ((r1 ++ (⟨x, K, xs⟩ : Rw) :: r2).map (·.v)).set p x' = (r1 ++ (⟨x', K2, xs'⟩ : Rw) :: r2).map (·.v) := by
    rw [List.map_append, List.map_cons, List.map_append, List.map_cons, List.set_append_right _ _ (by simp [hp])]
    simp [hp]
  rw [e] at hs
  refine hs.perm ?_
  refine (List.Perm.swap _ _ _).trans (List.Perm.cons _ ?_)
  rw [List.map_append, List.map_append, List.map_cons, ← List.append_assoc, ← List.append_assoc]
  exact List.perm_middle.symm
end
section
variable {w0 w : World} {l n nm cm : Nat} {om : Option Addr} {bs : List En} {Mss : List (List (List (Int × Int)))}
set_option maxHeartbeats 4000000 in
set_option maxRecDepth 20000 in
theorem dbeside_any (hm : SM l n w om Mss) (hnm : Mss.length = nm) (h1 : 0 < nm) (hn : n ≤ 1000) (hR : ∀ M ∈ Mss, ∀ i, (rw_ M i).length ≤ 1000) (hnm2 : nm ≤ 1000) (hl : l ≤ 20000000) :
    Calls Tryz.prog 116 #[.slice om nm cm] w fun e w' => ∃ o c rs, e = .returned (.slice o n c) ∧ rs.length = n ∧ St w (Mx w.heap.size (.slice o n c) rs) w' ∧ RD w' rs ((List.range n).map fun r => Mss.flatMap (rw_ · r)) ∧ Below w.heap.size w w' := by
  have HM := hide hm
  have HR := hide hR
  obtain ⟨gm, curm, tym, fzm, rfl, xm, dm⟩ := hm
  obtain ⟨d1, o0, c0, d2, d3⟩ := dm 0 (by omega)
  have HD := hide dm
  clear dm hR d1 d3
  go_enter Tryz.func116, Tryz.ntmps116
  have hs := St.nil w
  have lt_kMS := xm.lt
  have xmz := xm
  refine wp_seq_k ?_
  intro K1 hK1
  refine rg [0] ?_
  refine sq ?_
  refine .mv ?_
  apply wpSq_end
  refine hK1 _ _ ?_
  refine wp_seq_k ?_
  intro K2 hK2
  refine rg [0, 1, 2, 3, 4, 5] ?_
  refine sq ?_
  refine .mv ?_
  refine sq ?_
  refine .r0 ?_
  refine sq ?_
  refine .r1 (xm.cell _ d2) ?_
  refine sq ?_
  refine .r0 ?_
  refine sq ?_
  refine .mk (n := n) hs ?_ (by first | rfl | omega) (by omega); clear hs; intro g_l xs_l w_1 hs e_l n1 kb_l
  replace xm := xm.bl n1
  refine sq ?_
  refine .mv ?_
  apply wpSq_end
  refine hK2 _ _ ?_
  refine wp_seq_k ?_
  intro K3 hK3
  refine wp_seq_k ?_
  intro K4 hK4
  refine rg [0, 1, 2] ?_
  refine sq ?_
  refine .mv ?_
  refine sq ?_
  refine .r0 ?_
  refine sq ?_
  refine .mv ?_
  apply wpSq_end
  refine hK4 _ _ ?_
  refine wp_block ?_
  replace e_l : xs_l = List.replicate n (Value.slice none 0 0) := e_l.trans (made_one (.slice none 0 0) n)
  have hs := hs.nils n
  rw [e_l, show List.replicate n (Value.slice none 0 0) = (List.replicate n (⟨.slice none 0 0, 0, []⟩ : Rw)).map (·.v) by simp] at hs
  clear e_l
  have hd2 := hs.2.1
  go_loopg [17] nm (fun kz s17 wr => ∃ (a : Nat) (rs : List Rw), s17 = .int .i64 (a : Int) ∧ a + kz = nm ∧ rs.length = n ∧ RD wr rs (bz Mss n a 0 0) ∧ St w (ls w.heap.size 52 1 (.slice (some ⟨g_l, 0, none⟩) n n) n (rs.map (·.v)) :: ([] ++ rs.map (Rw.e w.heap.size))) wr)
  case atStart => exact ⟨0, _, rfl, by omega, by simp, by rw [bz_0]; exact RD.nils n, hs⟩
  case round =>
  clear xm hs
  obtain ⟨a, rs, rfl, han, hrl, hd, hs⟩ := hrel
  have HO := ‹∀ (a' : Act) (w' : World), Handed _ _ a' w' → _›
  obtain ⟨g1, hg1⟩ : ∃ g, gk = g := ⟨_, rfl⟩
  by_cases ha : a < nm
  · have HA := hide (show a < Mss.length by omega)
    obtain ⟨f1, oa, ca, f2, f3⟩ := HD.out a HA.out
    obtain ⟨M, hM⟩ : ∃ M, Mss[a]'HA.out = M := ⟨_, rfl⟩
    have HMM := hide (show Mss.getD a [] = M by rw [← hM]; simp [List.getD, HA.out])
    have HRM := hide (show ∀ i, (rw_ M i).length ≤ 1000 from fun i => HR.out M (by rw [← hM]; exact List.getElem_mem _) i)
    rw [hM] at f1 f3
    have HF := hide f3
    have F1 := hide f1
    clear hM f3 f1
    have x1 := xmz.bl hs.b
    refine wp_seq_k ?_
    intro K5 hK5
    refine rg [0] ?_
    refine sq ?_
    refine .r0 ?_
    apply wpSq_end
    refine hK5 _ _ ?_
    refine wp_seq_k ?_
    intro K6 hK6
    refine ct ?_
    refine wp_skip ?_
    refine hK6 _ _ ?_
    refine wp_seq_k ?_
    intro K7 hK7
    refine wp_block ?_
    refine wp_seq_k ?_
    intro K8 hK8
    refine rg [0, 1, 2] ?_
    refine sq ?_
    refine .r0 ?_
    refine sq ?_
    refine .r1 (x1.cell _ f2) ?_
    refine sq ?_
    refine .mv ?_
    apply wpSq_end
    refine hK8 _ _ ?_
    refine wp_seq_k ?_
    intro K9 hK9
    refine rg [0, 1, 2] ?_
    refine sq ?_
    refine .mv ?_
    refine sq ?_
    refine .r0 ?_
    refine sq ?_
    refine .mv ?_
    apply wpSq_end
    refine hK9 _ _ ?_
    refine wp_block ?_
    have hd3 := hs.2.1
    go_loopg [23] n (fun kz s23 wr => ∃ (i : Nat) (rs : List Rw), s23 = .int .i64 (i : Int) ∧ i + kz = n ∧ rs.length = n ∧ RD wr rs (bz Mss n a i 0) ∧ St w (ls w.heap.size 52 1 (.slice (some ⟨g_l, 0, none⟩) n n) n (rs.map (·.v)) :: ([] ++ rs.map (Rw.e w.heap.size))) wr)
    case atStart => exact ⟨0, rs, rfl, by omega, hrl, hd, hs⟩
    case round =>
    clear hrl
    clear hd x1 hs
    obtain ⟨i, rs, rfl, hin, hrl, hd, hs⟩ := hrel
    have HO2 := ‹∀ (a' : Act) (w' : World), Handed _ _ a' w' → _›
    obtain ⟨g2, hg2⟩ : ∃ g, gk = g := ⟨_, rfl⟩
    by_cases hi : i < n
    · have HI := hide hi
      obtain ⟨gM, offM, curM, tyM, fzM, oi, ci, rfl, xM, eM, sM⟩ := HF.out.row (i := i) (by rw [F1.out]; exact hi)
      obtain ⟨Kx, hKx⟩ : ∃ Kx, (rw_ M i).length = Kx := ⟨_, rfl⟩
      have HK1 := hide (show Kx ≤ 1000 by rw [← hKx]; exact HRM.out i)
      rw [hKx] at eM
      have HKX := hide hKx
      have HS := hide sM
      clear hKx sM
      replace xM := xM.bl hs.b
      refine wp_seq_k ?_
      intro K10 hK10
      refine rg [0] ?_
      refine sq ?_
      refine .r0 ?_
      apply wpSq_end
      refine hK10 _ _ ?_
      refine wp_seq_k ?_
      intro K11 hK11
      refine ct ?_
      refine wp_skip ?_
      refine hK11 _ _ ?_
      refine wp_seq_k ?_
      intro K12 hK12
      refine wp_block ?_
      refine wp_seq_k ?_
      intro K13 hK13
      refine rg [0, 1, 2, 3, 4] ?_
      refine sq ?_
      refine .mv ?_
      refine sq ?_
      refine .r0 ?_
      refine sq ?_
      refine .r1 (xM.cell _ eM) ?_
      refine sq ?_
      refine .mv ?_
      refine sq ?_
      refine .mv ?_
      apply wpSq_end
      refine hK13 _ _ ?_
      refine wp_seq_k ?_
      intro K14 hK14
      refine rg [0, 1, 2] ?_
      refine sq ?_
      refine .mv ?_
      refine sq ?_
      refine .r0 ?_
      refine sq ?_
      refine .mv ?_
      apply wpSq_end
      refine hK14 _ _ ?_
      refine wp_block ?_
      have hd4 := hs.2.1
      go_loopg [30] Kx (fun kz s30 wr => ∃ (b : Nat) (rs : List Rw), s30 = .int .i64 (b : Int) ∧ b + kz = Kx ∧ rs.length = n ∧ RD wr rs (bz Mss n a i b) ∧ St w (ls w.heap.size 52 1 (.slice (some ⟨g_l, 0, none⟩) n n) n (rs.map (·.v)) :: ([] ++ rs.map (Rw.e w.heap.size))) wr)
      case atStart => exact ⟨0, rs, rfl, by omega, hrl, hd, hs⟩
      case round =>
      clear hrl
      clear hd xM hs
      obtain ⟨b, rs, rfl, hbk, hrl, hd, hs⟩ := hrel
      by_cases hb9 : b < Kx
      · have HB9 := hide hb9
        obtain ⟨g2', off2, cur2, ty2, fz2, a1, a2, a3, a4, a5, a6, a7, a8, rfl, x2, e1, e2, e3, e4, z1, z2⟩ := HS.out.op (j := b) (by rw [HKX.out]; exact hb9)
        have E1 := hide (bzr_snoc (Mss := Mss) (a := a) (i := i) (b := b) (by rw [HMM.out, HKX.out]; exact hb9))
        replace z1 : ZN wr (.agg #[.bool a1, .slice a2 a3 a4]) (at1 (rw_ M i) b).1 l := z1.bl hs.b
        replace z2 : ZN wr (.agg #[.bool a5, .slice a6 a7 a8]) (at1 (rw_ M i) b).2 l := z2.bl hs.b
        have x2z := x2
        have lt_kRM := x2.lt
        replace x2 := x2.bl hs.b
        obtain ⟨r1, oR, cR, xs, r2, rfl, hr1, hrv, hx, hs⟩ := hs.row0 (bs := []) hd (p := i) (by rw [bz_len]; exact HI.out)
        rw [bz_get HI.out] at hrv hx hs
        obtain ⟨KR, hKR⟩ : ∃ KR, (bzr Mss a i b i).length = KR := ⟨_, rfl⟩
        have HKR := hide hKR
        have hK1000 : Kx ≤ 1000 := HK1.out
        have HKB : KR ≤ 2000000 := by have := bzr_len (a := a) (i := i) (b := b) (r := i) HR.out; omega
        rw [hKR] at hrv hs
        have LO : Lst wr w.heap.size 52 1 (.slice (some ⟨g_l, 0, none⟩) n n) n _ := hs.1.2.1.1
        obtain ⟨gO', curO, eO', xO, hcO⟩ := LO.box (by have := HI.out; omega)
        simp only [Option.some.injEq, Addr.mk.injEq, and_true] at eO'
        obtain rfl : g_l = gO' := eO'
        have eO := hcO _ _ hrv
        obtain ⟨P, hP⟩ : ∃ P, at1 (rw_ M i) b = P := ⟨_, rfl⟩
        have HPE := hide hP
        rw [hP] at z1 z2
        clear LO hcO hP hrv
        refine wp_seq_k ?_
        intro K15 hK15
        refine rg [0] ?_
        refine sq ?_
        refine .r0 ?_
        apply wpSq_end
        refine hK15 _ _ ?_
        refine wp_seq_k ?_
        intro K16 hK16
        refine ct ?_
        refine wp_skip ?_
        refine hK16 _ _ ?_
        refine wp_seq_k ?_
        intro K17 hK17
        refine wp_block ?_
        refine wp_seq_k ?_
        intro K18 hK18
        refine rg [0, 1, 2, 3] ?_
        refine sq ?_
        refine .r0 ?_
        refine sq ?_
        refine .r4 ⟨x2.cell _ e1, x2.cell _ e2, x2.cell _ e3, x2.cell _ e4⟩ ?_
        refine sq ?_
        refine .al hs ?_; clear hs; intro p_b1 w_5 hs n5 kb_b1
        replace x2 := x2.bl n5; replace xO := xO.bl n5
        refine sq ?_
        refine .s4 hs.g0 (fun _ => hs.u0 kb_b1) ?_; clear hs; intro w_6 hs hd6 ho6
        replace x2 := x2.frame ho6 (Nat.ne_of_lt (Nat.lt_of_lt_of_le lt_kRM kb_b1)); replace xO := xO.frame ho6 (hs.ne 2 0)
        apply wpSq_end
        refine hK18 _ _ ?_
        refine wp_region_f4 [(0, false), (1, false), (2, false), (3, false), (4, false), (5, false), (6, false), (7, false), (8, true), (9, true)] [10, 11, 12] [] (fun _ => default) [99, 99, 99, 99, 99, 0, 1, 99, 99, 99, 99, 99, 99] [(10, 0), (11, 0), (12, 0)] (.c xO (.c hs.g0 .n)) fn fun w_7 n7 => ?_
        replace x2 := x2.bl n7; replace xO := xO.bl n7; replace hs := hs.bl n7
        refine fmv ?_
        refine fmv ?_
        refine fmv ?_
        refine fmv ?_
        refine f0 ?_
        apply wpFl_ld rfl rfl; (case h1 => intro w' hC K hK; have c0 := Bs.cell hC (i) eO; go_big_op; exact hK); iterate 4 kernel_rfl
        refine f4 ?_
        refine f0 ?_
        refine fl fun w_8 n8 => ?_
        replace x2 := x2.bl n8; replace xO := xO.bl n8; replace hs := hs.bl n8
        intro K hK
        have k0_4 := (((kb n5).o hd6 ho6).b n7).b n8
        replace z1 := z1.k k0_4
        replace z2 := z2.k k0_4
        go_big_op
        go_fit (gAdd_any (PN.mk' z1 z2) (PN.mk' ((zc_zero w_8).zn zlen_0) ((zc_zero w_8).zn zlen_0)) (by omega) (by omega) (by omega) (by omega) )
        rintro e w_9 ⟨_, rfl, ⟨n_ga, o_ga, k_ga, c_ga, n_gb, o_gb, k_gb, c_gb, rfl, g1, g2⟩, hb_9⟩
        replace x2 := x2.bl hb_9; replace xO := xO.bl hb_9; replace hs := hs.bl hb_9
        have Lg1 := hide (g1.lenOf (zlen_add (z1.len) (zlen_0)))
        have Lg2 := hide (g2.lenOf (zlen_add (z2.len) (zlen_0)))
        rw [Int.add_zero] at g1 g2
        refine hK _ _ rfl ⟨hb_9, (And.intro xO (And.intro hs.g0 trivial))⟩ ?_
        clear hK K
        refine fl fun w_10 n10 => ?_
        replace x2 := x2.bl n10; replace xO := xO.bl n10; replace hs := hs.bl n10
        refine .al hs ?_ (e := fun _ _ hs n => ⟨n, (And.intro (xO.bl n) (And.intro hs.g1 trivial))⟩); clear hs; intro p_b2 w_11 hs n11 kb_b2
        replace x2 := x2.bl n11; replace xO := xO.bl n11
        refine e0 hs ?_; clear hs; intro w_12 hs n12
        replace x2 := x2.bl n12; replace xO := xO.bl n12
        refine tl ?_
        have k5_8 := ((kb n10).b n11).b n12
        replace g1 := g1.k k5_8
        replace g2 := g2.k k5_8
        have k0_8 := (((k0_4.b hb_9).b n10).b n11).b n12
        replace hx := hx.k k0_8
        replace hx := hx.snoc (.mk' g1 g2)
        refine .apo 2 hs hs.g0 ?_ (eE := fun _ _ _ hs => (And.intro True.intro (And.intro hs.g1 True.intro))); clear hs; intro o_R_13 c_R_13 w_13 hs kp13 hw13; simp only [List.set_cons_succ, List.set_cons_zero] at hs
        replace x2 := x2.lo lt_kRM hw13
        clear xO
        refine tl ?_
        refine .r0 ?_ (e := (And.intro True.intro (And.intro hs.g1 True.intro)))
        refine tl ?_
        refine .i1 3 hs (j := i) (by exact HI.out) ?_ (e := fun _ hB hO => (And.intro True.intro (And.intro (hs.g1.frame hO (hs.ne 1 3)) True.intro))); clear hs; intro w_14 hs kp14 hd14 ho14 hw14; simp only [List.set_cons_succ, List.set_cons_zero] at hs
        replace x2 := x2.lo lt_kRM hw14
        apply wpTail_end
        refine hK17 _ _ ?_
        refine rg [0, 1] ?_
        refine sq ?_
        refine .r0 ?_
        refine sq ?_
        refine .mv ?_
        apply wpSq_end
        have k0_10 := (k0_8.t kp13).t kp14
        replace hd := hd.k k0_10
        have k8_10 := kp13.t kp14
        replace hx := hx.k k8_10
        refine ‹∀ (a' : Act) (w' : World), Handed _ _ a' w' → _› _ _ ?_
        have hs := (hs.sub (.cons _ (.cons _ (List.Sublist.refl _)))).unrow0 (bs := []) hr1
        have hd := RD.set' (n := KR + 1) (m := bzr Mss a i (b + 1) i) (v := .slice o_R_13 (KR + 1) c_R_13) (by rw [E1.out, List.length_append, HKR.out, List.length_singleton]) (by rw [E1.out, HMM.out, HPE.out]; exact hx) hd hr1
        rw [bz_set HI.out] at hd
        go_roundg (gk - 1)
        case rel => exact ⟨b + 1, _, by rfl, by omega, by simpa using hrl, hd, hs⟩
        case measure => omega
      · obtain rfl : Kx = b := by omega
        have HX := hide hb9
        refine wp_seq_k ?_
        intro K15 hK15
        refine rg [0] ?_
        refine sq ?_
        refine .r0 ?_
        apply wpSq_end
        refine hK15 _ _ ?_
        refine wp_seq_k ?_
        intro K16 hK16
        refine cf ?_
        refine wp_exit ?_
        refine hK12 _ _ ?_
        refine rg [0, 1] ?_
        refine sq ?_
        refine .r0 ?_
        refine sq ?_
        refine .mv ?_
        apply wpSq_end
        refine HO2 _ _ ?_
        go_roundg (g2 - 1)
        case rel => exact ⟨i + 1, rs, by rfl, by omega, hrl, by rw [← bz_row (b := Kx) (by rw [HMM.out, HKX.out]; exact Nat.le_refl _)]; exact hd, hs⟩
        case measure => omega
    · obtain rfl : n = i := by omega
      have HX := hide hi
      refine wp_seq_k ?_
      intro K10 hK10
      refine rg [0] ?_
      refine sq ?_
      refine .r0 ?_
      apply wpSq_end
      refine hK10 _ _ ?_
      refine wp_seq_k ?_
      intro K11 hK11
      refine cf ?_
      refine wp_exit ?_
      refine hK7 _ _ ?_
      refine rg [0, 1] ?_
      refine sq ?_
      refine .r0 ?_
      refine sq ?_
      refine .mv ?_
      apply wpSq_end
      refine HO _ _ ?_
      go_roundg (g1 - 1)
      case rel => exact ⟨a + 1, rs, by rfl, by omega, hrl, by rw [← bz_mat HA.out]; exact hd, hs⟩
      case measure => omega
  · obtain rfl : nm = a := by omega
    have HX := hide ha
    refine wp_seq_k ?_
    intro K5 hK5
    refine rg [0] ?_
    refine sq ?_
    refine .r0 ?_
    apply wpSq_end
    refine hK5 _ _ ?_
    refine wp_seq_k ?_
    intro K6 hK6
    refine cf ?_
    refine wp_exit ?_
    refine hK3 _ _ ?_
    refine wp_seq_k ?_
    intro K7 hK7
    refine rg [0, 1] ?_
    refine sq ?_
    refine .mv ?_
    refine sq ?_
    refine .mv ?_
    apply wpSq_end
    refine hK7 _ _ ?_
    refine wp_ret ?_
    try dsimp only [Exit.then, Exit.inBlock]
    refine bodyPost_ret (v := (.slice (some ⟨g_l, 0, none⟩) n n)) (by simp [results, Tryz.results116, go_sem]) rfl ?_
    exact ⟨_, _, rs, rfl, hrl, (by unfold Mx; rw [hrl]; exact hs), by rw [← bz_all, hnm]; exact hd, hs.b⟩
end
end Go.Proofs.YtnkimagnmnocdaaGreat


/- gdet: laid, Det, Rank, Independent. -/
namespace Go.Proofs.YtnkimagnmnocdaaGreat
open Go Go.RowKit Dig
set_option linter.unusedVariables false
theorem smOne {l n p ca : Nat} {w : World} {ty : TypeId} {fz : Nat × Nat} {oa : Option Addr} {A : List (List (Int × Int))} (x : Bs w p #[.slice oa n ca] ty fz) (ha : MN l w oa A) (hn : A.length = n) : SM l n w (some ⟨p, 0, none⟩) [A] :=
  ⟨p, _, ty, fz, rfl, x, fun i hi => match i, hi with
    | 0, _ => ⟨hn, oa, ca, rfl, ha⟩⟩
theorem one_cat {n k : Nat} {A : List (List (Int × Int))} (h : gd A) (hn : A.length = n) (hk : wd A = k) : ((List.range n).map fun r => [A].flatMap (rw_ · r)) = mkM n k (at2 A) := by
  refine List.map_congr_left fun r hr => ?_
  have hr : r < n := by simpa using hr
  have hl : (rw_ A r).length = k := by rw [gd_row h (by omega)]; exact hk
  simp only [List.flatMap_cons, List.flatMap_nil, List.append_nil]
  refine List.ext_getElem (by simp [hl]) fun j h1 h2 => ?_
  simp [at2, at1, List.getD, h1]
theorem rw_le {A : List (List (Int × Int))} (h : gd A) (i : Nat) : (rw_ A i).length ≤ 64 := by
  rcases Nat.lt_or_ge i A.length with c | c
  · rw [gd_row h c]; exact h.2.1
  · simp [rw_, List.getD, c]
section
variable {w w0 : World} {l la n k L ca : Nat} {oa : Option Addr} {bs : List En} {A : List (List (Int × Int))}
set_option maxHeartbeats 4000000 in
set_option maxRecDepth 20000 in
theorem laid_any (hst : St w0 bs w) (ha : MN la w0 oa A) (hna : A.length = n) (h : gd A) (hk : wd A = k) (hla : la ≤ 20000000) :
    Calls Tryz.prog 46 #[.slice oa n ca] w fun e w' => ∃ p o c rs, e = .returned (.pointer (some ⟨p, 0, none⟩)) ∧ Hid (w0.heap.size ≤ p) ∧ rs.length = n ∧ RD w' rs (mkM n k (at2 A)) ∧
      St w0 (ls w0.heap.size 52 1 (.slice o n c) n (rs.map (·.v)) :: bx p #[.slice o n c, .int .i64 (n : Int), .int .i64 (k : Int), .bool false] 101 :: (bs ++ rs.map (Rw.e w0.heap.size))) w' ∧ Kp w w' := by
  have HA := hide ha
  have H := hide h
  have HK := hide hk
  have HRL := hide (show ∀ M ∈ [A], ∀ i, (rw_ M i).length ≤ 1000 from fun M hM i => by rw [List.mem_singleton.1 hM]; exact Nat.le_trans (rw_le h i) (by decide))
  have hn64 : n ≤ 64 := by have := h.1; omega
  have kk := KpF.r w
  clear ha h hk
  go_enter Tryz.func46, Tryz.ntmps46
  have hs := hst
  clear hst
  refine wp_seq_k ?_
  intro K1 hK1
  refine rg [0] ?_
  refine sq ?_
  refine .mv ?_
  apply wpSq_end
  refine hK1 _ _ ?_
  refine wp_seq_k ?_
  intro K2 hK2
  refine rg [0, 1, 2, 3, 4, 5, 6, 7, 8] ?_
  refine sq ?_
  refine .mv ?_
  refine sq ?_
  intro K hK
  have hb := hs.b
  go_big_op
  go_fit (mSize_ok (HA.out.bl stab_n hb) hna H.out HK.out)
  rintro e w_1 ⟨rfl, hb_1⟩
  clear hb
  replace hs := hs.bl hb_1
  refine hK _ _ rfl trivial ?_
  clear hK K
  refine sq ?_
  refine .mv ?_
  refine sq ?_
  refine .r0 ?_
  refine sq ?_
  refine .r0 ?_
  refine sq ?_
  refine .r0 ?_
  refine sq ?_
  refine .mv ?_
  refine sq ?_
  refine .mv ?_
  refine sq ?_
  refine .mv ?_
  apply wpSq_end
  refine hK2 _ _ ?_
  refine wp_seq_k ?_
  intro K3 hK3
  refine rg [0, 1, 2, 3, 4, 5, 6, 7] ?_
  refine sq ?_
  refine .mv ?_
  refine sq ?_
  refine .al hs ?_; clear hs; intro p_b1 w_2 hs n2 kb_b1
  refine sq ?_
  intro K hK
  have hb := hs.b
  go_big_op
  go_fit (dbeside_any (l := la) (Mss := [A]) (smOne hs.g0 (HA.out.bl stab_n hb) hna) rfl (by omega) (by omega) HRL.out (by omega) hla)
  rintro e w_3 ⟨o_T, c_T, rs_T, rfl, hl_T, hs_T, d_T, hb_3⟩
  clear hb
  replace hs := hs.mx hl_T hs_T; simp only [List.cons_append] at hs
  rw [one_cat H.out hna HK.out] at d_T
  refine hK _ _ rfl trivial ?_
  clear hK K
  refine sq ?_
  refine .mv ?_
  refine sq ?_
  refine .mv ?_
  refine sq ?_
  refine .r0 ?_
  refine sq ?_
  refine .al hs ?_; clear hs; intro p_b2 w_4 hs n4 kb_b2
  refine sq ?_
  refine .mv ?_
  apply wpSq_end
  refine hK3 _ _ ?_
  refine wp_ret ?_
  have k3_4 := kb n4
  replace d_T := d_T.k k3_4
  have k0_4 := (((kb hb_1).b n2).b hb_3).b n4
  replace kk := kk.k k0_4
  try dsimp only [Exit.then, Exit.inBlock]
  refine bodyPost_ret (v := (.pointer (some ⟨p_b2, 0, none⟩))) (by simp [results, Tryz.results46, go_sem]) rfl ?_
  exact ⟨_, _, _, rs_T, rfl, kb_b2, hl_T, d_T, (hs.perm (List.Perm.swap _ _ _)).sub (.cons_cons _ (.cons_cons _ (.cons _ (List.Sublist.refl _)))), kk.kp⟩
set_option maxHeartbeats 4000000 in
set_option maxRecDepth 20000 in
theorem det_bad (ha : MN la w oa A) (hna : A.length = n) (h : ¬ (gd A ∧ wd A = n)) (hla : n ≤ 1000000000) :
    Calls Tryz.prog 9 #[.slice oa n ca] w fun e w' => e = .returned (.tuple #[.agg #[.bool false, .slice none 0 0, .bool false, .slice none 0 0], .int .i64 4]) ∧ Below w.heap.size w w' := by
  have HS := hide (show ∀ w1, Below w.heap.size w w1 → Calls Tryz.prog 45 #[.slice oa n ca] w1 fun e w' => e = .returned (.bool false) ∧ Below w1.heap.size w1 w' from fun w1 h1 => by
    by_cases hg : gd A
    · have := isSquare_ok (ca := ca) (ha.bl stab_n h1) hna hg rfl
      rw [decide_eq_false (fun c => h ⟨hg, c.symm⟩)] at this
      exact this
    · exact isSquare_bad (ha.bl stab_n h1) hna hg hla)
  clear ha h
  go_enter Tryz.func9, Tryz.ntmps9
  have hs := St.nil w
  refine wp_seq_k ?_
  intro K1 hK1
  refine rg [0, 1] ?_
  refine sq ?_
  refine .al hs ?_; clear hs; intro p_b1 w_1 hs n1 kb_b1
  refine sq ?_
  refine .mv ?_
  apply wpSq_end
  refine hK1 _ _ ?_
  refine wp_seq_k ?_
  intro K2 hK2
  refine wp_seq_k ?_
  intro K3 hK3
  refine rg [0, 1, 2] ?_
  refine sq ?_
  refine .mv ?_
  refine sq ?_
  intro K hK
  have hb := hs.b
  go_big_op
  go_fit (HS.out _ hb)
  rintro e w_2 ⟨rfl, hb_2⟩
  clear hb
  replace hs := hs.bl hb_2
  refine hK _ _ rfl trivial ?_
  clear hK K
  refine sq ?_
  refine .r0 ?_
  apply wpSq_end
  refine hK3 _ _ ?_
  refine ct ?_
  refine wp_seq_k ?_
  intro K4 hK4
  refine rg [0, 1, 2] ?_
  refine sq ?_
  refine .r0 ?_
  refine sq ?_
  refine .s4 hs.g0 (fun _ => hs.u0 kb_b1) ?_; clear hs; intro w_3 hs hd3 ho3
  refine sq ?_
  refine .mv ?_
  apply wpSq_end
  refine hK4 _ _ ?_
  refine wp_ret ?_
  try dsimp only [Exit.then, Exit.inBlock]
  obtain ⟨r0_0, r0_1, r0_2, r0_3⟩ := hs.g0.f4
  refine bodyPost_ret (v := (.tuple #[(.agg #[.bool false, .slice none 0 0, .bool false, .slice none 0 0]), (.int .i64 4)])) (by simp [results, Tryz.results9, go_sem, r0_0, r0_1, r0_2, r0_3]) rfl ?_
  exact ⟨rfl, hs.b⟩
set_option maxHeartbeats 4000000 in
set_option maxRecDepth 20000 in
theorem det_ok (ha : MN la w oa A) (hna : A.length = n) (h : gd A) (hk : wd A = n) (hB : MinB n n L (at2 A)) (hL : L ≤ 3000000) (hla : la ≤ 20000000) :
    Calls Tryz.prog 9 #[.slice oa n ca] w fun e w' => ∃ v, e = .returned (.tuple #[v, .int .i64 0]) ∧ PC w' v (Dt.det n (at2 A)).1 (Dt.det n (at2 A)).2 ∧ Below w.heap.size w w' := by
  have HA := hide ha
  have H := hide h
  have HK := hide hk
  have HB := hide hB
  have hn64 : n ≤ 64 := by have := h.1; omega
  have ES : decide (n = n) = true := decide_eq_true rfl
  clear ha h hk hB
  go_enter Tryz.func9, Tryz.ntmps9
  have hs := St.nil w
  refine wp_seq_k ?_
  intro K1 hK1
  refine rg [0, 1] ?_
  refine sq ?_
  refine .al hs ?_; clear hs; intro p_b1 w_1 hs n1 kb_b1
  refine sq ?_
  refine .mv ?_
  apply wpSq_end
  refine hK1 _ _ ?_
  refine wp_seq_k ?_
  intro K2 hK2
  refine wp_seq_k ?_
  intro K3 hK3
  refine rg [0, 1, 2] ?_
  refine sq ?_
  refine .mv ?_
  refine sq ?_
  intro K hK
  have hb := hs.b
  go_big_op
  go_fit (isSquare_ok (HA.out.bl stab_n hb) hna H.out HK.out)
  rintro e w_2 ⟨rfl, hb_2⟩
  clear hb
  replace hs := hs.bl hb_2
  rw [ES]
  refine hK _ _ rfl trivial ?_
  clear hK K
  refine sq ?_
  refine .r0 ?_
  apply wpSq_end
  refine hK3 _ _ ?_
  refine cf ?_
  refine wp_skip ?_
  refine hK2 _ _ ?_
  refine wp_seq_k ?_
  intro K4 hK4
  refine rg [0, 1, 2] ?_
  refine sq ?_
  refine .mv ?_
  refine sq ?_
  intro K hK
  go_big_op
  go_fit (laid_any hs HA.out hna H.out HK.out hla)
  have bb3 := hs.b
  rintro e w_3 ⟨p_t, o_t, c_t, rs_t, rfl, kb_bt, hl_t, hd, hs', kp3⟩
  clear hs; have hs := hs'; clear hs'
  have bc3 := hs.b
  clear bb3 bc3
  refine hK _ _ rfl trivial ?_
  clear hK K
  refine sq ?_
  refine .mv ?_
  apply wpSq_end
  refine hK4 _ _ ?_
  refine wp_seq_k ?_
  intro K5 hK5
  refine rg [0, 1, 2] ?_
  refine sq ?_
  refine .mv ?_
  refine sq ?_
  intro K hK
  go_big_op
  go_fit (pivots_any (bs := [bx p_b1 #[.bool false, .slice none 0 0, .bool false, .slice none 0 0] 28]) hs kb_bt hl_t hd (Nat.le_refl _) (Nat.le_refl _) (by omega) (by omega) HB.out hL)
  have bb4 := hs.b
  rintro e w_4 ⟨o9, c9, xs, r, A2, F2, odd2, rs2, rfl, hF, hL9, hA2, hl2, hd2, hs', kp4⟩
  clear hs; have hs := hs'; clear hs'
  have bc4 := hs.b
  clear bb4 bc4
  refine hK _ _ rfl trivial ?_
  clear hK K
  refine sq ?_
  refine .mv ?_
  apply wpSq_end
  refine hK5 _ _ ?_
  refine wp_seq_k ?_
  intro K6 hK6
  refine wp_block ?_
  refine wp_seq_k ?_
  intro K7 hK7
  refine rg [0, 1, 2, 3] ?_
  refine sq ?_
  refine .mv ?_
  refine sq ?_
  refine .r0 ?_
  refine sq ?_
  refine .r0 ?_
  refine sq ?_
  refine .mv ?_
  apply wpSq_end
  refine hK7 _ _ ?_
  by_cases h0 : n = 0
  · have t0 : ((n : Int) == 0) = true := by rw [h0]; rfl
    have E0 := hide (show Dt.det n (at2 A) = (1, 0) by rw [h0]; rfl)
    clear h0
    refine ct ?_
    refine wp_seq_k ?_
    intro K8 hK8
    refine rg [0, 1, 2] ?_
    refine sq ?_
    intro K hK
    go_big_op
    go_fit (gFrom_any 1 0 _ (by omega) (by omega) (by omega) (by omega))
    rintro e w_5 ⟨_, rfl, ⟨n_ga, o_ga, k_ga, c_ga, n_gb, o_gb, k_gb, c_gb, rfl, g1, g2⟩, hb_5⟩
    replace hs := hs.bl hb_5
    refine hK _ _ rfl trivial ?_
    clear hK K
    refine sq ?_
    refine .s4 hs.g3 (fun _ => hs.u3 kb_b1) ?_; clear hs; intro w_6 hs hd6 ho6
    refine sq ?_
    refine .mv ?_
    apply wpSq_end
    refine hK8 _ _ ?_
    refine wp_ret ?_
    have k5_6 := ko hd6 ho6
    replace g1 := g1.k k5_6
    replace g2 := g2.k k5_6
    try dsimp only [Exit.then, Exit.inBlock]
    obtain ⟨r0_0, r0_1, r0_2, r0_3⟩ := hs.g3.f4
    refine bodyPost_ret (v := (.tuple #[(.agg #[.bool n_ga, .slice o_ga k_ga c_ga, .bool n_gb, .slice o_gb k_gb c_gb]), (.int .i64 0)])) (by simp [results, Tryz.results9, go_sem, r0_0, r0_1, r0_2, r0_3]) rfl ?_
    exact ⟨_, rfl, .mk' (by rw [E0.out]; exact g1) (by rw [E0.out]; exact g2), hs.b⟩
  · have t0 : ((n : Int) == 0) = false := beq_eq_false_iff_ne.2 (by omega)
    have hrn := hF.1.1
    have HFD := hide hF.det
    have HFQ := hide hF.1
    clear hF
    refine cf ?_
    refine wp_seq_k ?_
    intro K8 hK8
    refine rg [0, 1, 2, 3, 4, 5] ?_
    refine sq ?_
    refine .mv ?_
    refine sq ?_
    refine .r0 ?_
    refine sq ?_
    refine .mv ?_
    refine sq ?_
    refine .r0 ?_
    refine sq ?_
    refine .r0 ?_
    refine sq ?_
    refine .mv ?_
    apply wpSq_end
    refine hK8 _ _ ?_
    by_cases hr : r < n
    · have E0 := hide (HFD.out.1 hr)
      refine ct ?_
      refine wp_seq_k ?_
      intro K9 hK9
      refine rg [0, 1, 2] ?_
      refine sq ?_
      refine .r0 ?_
      refine sq ?_
      refine .s4 hs.g3 (fun _ => hs.u3 kb_b1) ?_; clear hs; intro w_5 hs hd5 ho5
      refine sq ?_
      refine .mv ?_
      apply wpSq_end
      refine hK9 _ _ ?_
      refine wp_ret ?_
      try dsimp only [Exit.then, Exit.inBlock]
      obtain ⟨r0_0, r0_1, r0_2, r0_3⟩ := hs.g3.f4
      refine bodyPost_ret (v := (.tuple #[(.agg #[.bool false, .slice none 0 0, .bool false, .slice none 0 0]), (.int .i64 0)])) (by simp [results, Tryz.results9, go_sem, r0_0, r0_1, r0_2, r0_3]) rfl ?_
      exact ⟨_, rfl, .mk' (by rw [E0.out]; exact zc_zero _) (by rw [E0.out]; exact zc_zero _), hs.b⟩
    · obtain rfl : r = n := by omega
      have E0 := hide (HFD.out.2 rfl)
      have LV := hide (show zl L (Dt.det r A2) by
        have := HFQ.out.bd HB.out (Nat.le_refl _) (Nat.le_refl _) (r - 1) (by omega) (r - 1) (by omega) (r - 1) (by omega)
        rw [Dt.D_diag, show r - 1 + 1 = r by omega] at this
        exact this)
      have LL : Lst w_4 w.heap.size 28 4 (.slice o9 r c9) r xs := hs.1.1.1
      obtain ⟨gL, curL, rfl, xL, hcL⟩ := LL.box (by omega)
      obtain ⟨l1, l2, l3, l4, l5, l6, l7, l8, e1, e2, e3, e4, v1, v2⟩ := hL9.els (r - 1) (by rw [pvs_len]; omega)
      rw [show (pvs A2 r)[r - 1]'(by rw [pvs_len]; omega) = Dt.det r A2 by simp [pvs, show r - 1 + 1 = r by omega]] at v1 v2
      replace e1 := hcL _ _ e1
      replace e2 := hcL _ _ e2
      replace e3 := hcL _ _ e3
      replace e4 := hcL _ _ e4
      have EK : (r : Int) - 1 = ((r - 1 : Nat) : Int) := by omega
      clear LL hcL hr
      obtain ⟨r1, hr1⟩ : ∃ r1, r - 1 = r1 := ⟨_, rfl⟩
      rw [hr1] at e1 e2 e3 e4 EK
      clear hr1
      refine cf ?_
      refine wp_skip ?_
      refine hK6 _ _ ?_
      refine wp_seq_k ?_
      intro K9 hK9
      refine rg [0, 1, 2, 3, 4, 5, 6, 7, 8, 9] ?_
      refine sq ?_
      refine .mv ?_
      refine sq ?_
      refine .mv ?_
      refine sq ?_
      refine .mv ?_
      refine sq ?_
      refine .r0 ?_
      refine sq ?_
      refine .r0 ?_
      refine sq ?_
      refine .r0 ?_
      refine sq ?_
      refine .r4 ⟨xL.cell _ e1, xL.cell _ e2, xL.cell _ e3, xL.cell _ e4⟩ ?_
      refine sq ?_
      intro K hK
      go_big_op
      go_fit (dsigned_any (L := L) hs.g2 (.mk' v1 v2) LV.out hL)
      rintro e w_5 ⟨_, rfl, ⟨n_sa, o_sa, k_sa, c_sa, n_sb, o_sb, k_sb, c_sb, rfl, s1, s2⟩, hb_5⟩
      replace xL := xL.bl hb_5; replace hs := hs.bl hb_5
      refine hK _ _ rfl trivial ?_
      clear hK K
      refine sq ?_
      refine .s4 hs.g3 (fun _ => hs.u3 kb_b1) ?_; clear hs; intro w_6 hs hd6 ho6
      replace xL := xL.frame ho6 (hs.ne 0 3)
      refine sq ?_
      refine .mv ?_
      apply wpSq_end
      refine hK9 _ _ ?_
      refine wp_ret ?_
      have k5_6 := ko hd6 ho6
      replace s1 := s1.k k5_6
      replace s2 := s2.k k5_6
      try dsimp only [Exit.then, Exit.inBlock]
      obtain ⟨r0_0, r0_1, r0_2, r0_3⟩ := hs.g3.f4
      refine bodyPost_ret (v := (.tuple #[(.agg #[.bool n_sa, .slice o_sa k_sa c_sa, .bool n_sb, .slice o_sb k_sb c_sb]), (.int .i64 0)])) (by simp [results, Tryz.results9, go_sem, r0_0, r0_1, r0_2, r0_3]) rfl ?_
      exact ⟨_, rfl, .mk' (by rw [E0.out]; exact s1) (by rw [E0.out]; exact s2), hs.b⟩
end
end Go.Proofs.YtnkimagnmnocdaaGreat


/- Ranks: there is one. -/
namespace Go.Proofs.YtnkimagnmnocdaaGreat
namespace Dt
open Lean.Grind
set_option linter.unusedVariables false
section
variable {R : Type} [CommRing R] {h w r s k : Nat} {A : Nat → Nat → R} {f g : Nat → Nat}
theorem minor_big (hs : h < s) (hf : ∀ i, i < s → f i < h) : det s (fun i j => A (f i) (g j)) = 0 := by
  have e := det_mul (n := s) (fun c j => if c < h then A c (g j) else 0) (fun i c => if c = f i then 1 else 0)
  rw [(alt_det (R := R) (n := s)).zero (A := fun c j => if c < h then A c (g j) else 0) (k := h) hs (fun c _ => if_neg (Nat.lt_irrefl _)),
    det_congr (A := mapr s _ _) (B := fun i j => A (f i) (g j)) fun i hi j hj => by
      unfold mapr
      rw [sm_one (k := f i) (by have := hf i hi; omega) fun c _ hne => by simp only [if_neg hne]; grind]
      simp only [if_true, if_pos (hf i hi)]; grind] at e
  rw [e]; grind
theorem rk_exists (h1 : (1 : R) ≠ 0) (h w : Nat) (A : Nat → Nat → R) : ∃ r, Rk h w A r := by
  have key : ∀ d r, h - r = d → (∃ f g : Nat → Nat, (∀ i, i < r → f i < h ∧ g i < w) ∧ det r (fun i j => A (f i) (g j)) ≠ 0) → ∃ r, Rk h w A r := by
    intro d
    induction d using Nat.strongRecOn with
    | _ d ih =>
      intro r hd hr
      by_cases hx : ∃ f g : Nat → Nat, (∀ i, i < r + 1 → f i < h ∧ g i < w) ∧ det (r + 1) (fun i j => A (f i) (g j)) ≠ 0
      · have hlt : r < h := by
          refine Nat.lt_of_not_le fun hle => ?_
          obtain ⟨f, g, hfg, hne⟩ := hx
          exact hne (minor_big (h := h) (by omega) fun i hi => (hfg i hi).1)
        exact ih (h - (r + 1)) (by omega) (r + 1) rfl hx
      · obtain ⟨f, g, hfg, hne⟩ := hr
        refine ⟨r, f, g, hfg, hne, fun i c => - cofc r (fun x y => A (if y < r then f y else i) (g x)) c r, det r (fun i j => A (f i) (g j)), hne, fun i hi j hj => ?_⟩
        have h0 : D r (fun x y => A (if x < r then f x else i) (if y < r then g y else j)) r r = 0 := by
          rw [D_diag]
          refine Classical.byContradiction fun hc => hx ⟨fun x => if x < r then f x else i, fun y => if y < r then g y else j, fun x hx => ?_, hc⟩
          by_cases e : x < r
          · simp only [if_pos e]; exact hfg x e
          · simp only [if_neg e]; exact ⟨hi, hj⟩
        rw [← D_tr, D_col, det_tr] at h0
        have h2 : (sm r fun c => - cofc r (fun x y => A (if y < r then f y else i) (g x)) c r * A (f c) j) = (-1 : R) * sm r fun c => A (if c < r then f c else i) (if r < r then g r else j) * cofc r (fun x y => A (if y < r then f y else i) (if x < r then g x else j)) c r := by
          rw [← sm_mul]
          refine sm_congr fun c hc => ?_
          have h3 : cofc r (fun x y => A (if y < r then f y else i) (g x)) c r = cofc r (fun x y => A (if y < r then f y else i) (if x < r then g x else j)) c r := by
            unfold cofc
            rw [det_congr fun x hx y _ => ?_]
            simp only [if_pos hx]
          rw [h3, if_pos hc, if_neg (Nat.lt_irrefl _)]; grind
        have h4 : det r (fun x y => A (if x < r then f x else i) (if y < r then g y else j)) = det r fun x y => A (f x) (g y) := det_congr fun x hx y hy => by rw [if_pos hx, if_pos hy]
        rw [h2]
        rw [h4] at h0
        simp only [Nat.lt_irrefl, if_false] at h0 ⊢
        grind
  exact key h 0 rfl ⟨id, id, fun i hi => absurd hi (Nat.not_lt_zero _), h1⟩
end
end Dt
end Go.Proofs.YtnkimagnmnocdaaGreat


/- gdet: Rank, Independent. -/
namespace Go.Proofs.YtnkimagnmnocdaaGreat
open Go Go.RowKit Dig
set_option linter.unusedVariables false
section
variable {w w0 : World} {l la n k L ca : Nat} {oa : Option Addr} {bs : List En} {A : List (List (Int × Int))}
set_option maxHeartbeats 4000000 in
set_option maxRecDepth 20000 in
theorem rank_bad (ha : MN la w oa A) (hna : A.length = n) (h : ¬ gd A) (hla : n ≤ 1000000000) :
    Calls Tryz.prog 10 #[.slice oa n ca] w fun e w' => e = .returned (.tuple #[.int .i64 0, .int .i64 4]) ∧ Below w.heap.size w w' := by
  have HA := hide ha
  have H := hide h
  clear ha h
  go_enter Tryz.func10, Tryz.ntmps10
  have hs := St.nil w
  refine wp_seq_k ?_
  intro K1 hK1
  refine rg [0, 1] ?_
  refine sq ?_
  refine .mv ?_
  refine sq ?_
  refine .mv ?_
  apply wpSq_end
  refine hK1 _ _ ?_
  refine wp_seq_k ?_
  intro K2 hK2
  refine wp_seq_k ?_
  intro K3 hK3
  refine rg [0, 1, 2] ?_
  refine sq ?_
  refine .mv ?_
  refine sq ?_
  intro K hK
  have hb := hs.b
  go_big_op
  go_fit (good_no (HA.out.bl stab_n hb) hna hla H.out)
  rintro e w_1 ⟨rfl, hb_1⟩
  clear hb
  replace hs := hs.bl hb_1
  refine hK _ _ rfl trivial ?_
  clear hK K
  refine sq ?_
  refine .r0 ?_
  apply wpSq_end
  refine hK3 _ _ ?_
  refine ct ?_
  refine wp_seq_k ?_
  intro K4 hK4
  refine rg [0, 1] ?_
  refine sq ?_
  refine .mv ?_
  refine sq ?_
  refine .mv ?_
  apply wpSq_end
  refine hK4 _ _ ?_
  refine wp_ret ?_
  try dsimp only [Exit.then, Exit.inBlock]
  refine bodyPost_ret (v := (.tuple #[(.int .i64 0), (.int .i64 4)])) (by simp [results, Tryz.results10, go_sem]) rfl ?_
  exact ⟨rfl, hs.b⟩
set_option maxHeartbeats 4000000 in
set_option maxRecDepth 20000 in
theorem rank_ok (ha : MN la w oa A) (hna : A.length = n) (h : gd A) (hk : wd A = k) (hB : MinB n k L (at2 A)) (hL : L ≤ 3000000) (hla : la ≤ 20000000) :
    Calls Tryz.prog 10 #[.slice oa n ca] w fun e w' => ∃ r : Nat, e = .returned (.tuple #[.int .i64 (r : Int), .int .i64 0]) ∧ Dt.Rk n k (at2 A) r ∧ Below w.heap.size w w' := by
  have HA := hide ha
  have H := hide h
  have HK := hide hk
  have HB := hide hB
  have hn64 : n ≤ 64 := by have := h.1; omega
  have hk64 : k ≤ 64 := by have := h.2.1; omega
  clear ha h hk hB
  go_enter Tryz.func10, Tryz.ntmps10
  have hs := St.nil w
  refine wp_seq_k ?_
  intro K1 hK1
  refine rg [0, 1] ?_
  refine sq ?_
  refine .mv ?_
  refine sq ?_
  refine .mv ?_
  apply wpSq_end
  refine hK1 _ _ ?_
  refine wp_seq_k ?_
  intro K2 hK2
  refine wp_seq_k ?_
  intro K3 hK3
  refine rg [0, 1, 2] ?_
  refine sq ?_
  refine .mv ?_
  refine sq ?_
  intro K hK
  have hb := hs.b
  go_big_op
  go_fit (good_yes (HA.out.bl stab_n hb) hna (by omega) H.out)
  rintro e w_1 ⟨rfl, hb_1⟩
  clear hb
  replace hs := hs.bl hb_1
  refine hK _ _ rfl trivial ?_
  clear hK K
  refine sq ?_
  refine .r0 ?_
  apply wpSq_end
  refine hK3 _ _ ?_
  refine cf ?_
  refine wp_skip ?_
  refine hK2 _ _ ?_
  refine wp_seq_k ?_
  intro K4 hK4
  refine rg [0, 1, 2, 3, 4, 5] ?_
  refine sq ?_
  refine .mv ?_
  refine sq ?_
  intro K hK
  go_big_op
  go_fit (laid_any hs HA.out hna H.out HK.out hla)
  have bb2 := hs.b
  rintro e w_2 ⟨p_t, o_t, c_t, rs_t, rfl, kb_bt, hl_t, hd, hs', kp2⟩
  clear hs; have hs := hs'; clear hs'
  have bc2 := hs.b
  clear bb2 bc2
  refine hK _ _ rfl trivial ?_
  clear hK K
  refine sq ?_
  intro K hK
  go_big_op
  go_fit (pivots_any (bs := []) hs kb_bt hl_t hd (Nat.le_refl _) (Nat.le_refl _) (by omega) (by omega) HB.out hL)
  have bb3 := hs.b
  rintro e w_3 ⟨o9, c9, xs, r, A2, F2, odd2, rs2, rfl, hF, hL9, hA2, hl2, hd2, hs', kp3⟩
  clear hs; have hs := hs'; clear hs'
  have bc3 := hs.b
  clear bb3 bc3
  have HRK := hide hF.rk
  clear hF
  refine hK _ _ rfl trivial ?_
  clear hK K
  refine sq ?_
  refine .r0 ?_
  refine sq ?_
  refine .mv ?_
  refine sq ?_
  refine .mv ?_
  apply wpSq_end
  refine hK4 _ _ ?_
  refine wp_ret ?_
  try dsimp only [Exit.then, Exit.inBlock]
  refine bodyPost_ret (v := (.tuple #[(.int .i64 ((r : Nat) : Int)), (.int .i64 0)])) (by simp [results, Tryz.results10, go_sem]) rfl ?_
  exact ⟨r, rfl, HRK.out, hs.b⟩
set_option maxHeartbeats 4000000 in
set_option maxRecDepth 20000 in
theorem independent_bad (ha : MN la w oa A) (hna : A.length = n) (h : ¬ gd A) (hla : n ≤ 1000000000) :
    Calls Tryz.prog 11 #[.slice oa n ca] w fun e w' => e = .returned (.tuple #[.bool false, .int .i64 4]) ∧ Below w.heap.size w w' := by
  have HA := hide ha
  have H := hide h
  clear ha h
  go_enter Tryz.func11, Tryz.ntmps11
  have hs := St.nil w
  refine wp_seq_k ?_
  intro K1 hK1
  refine rg [0, 1] ?_
  refine sq ?_
  refine .mv ?_
  refine sq ?_
  refine .mv ?_
  apply wpSq_end
  refine hK1 _ _ ?_
  refine wp_seq_k ?_
  intro K2 hK2
  refine rg [0, 1, 2, 3, 4, 5, 6] ?_
  refine sq ?_
  refine .mv ?_
  refine sq ?_
  intro K hK
  have hb := hs.b
  go_big_op
  go_fit (rank_bad (HA.out.bl stab_n hb) hna H.out hla)
  rintro e w_1 ⟨rfl, hb_1⟩
  clear hb
  replace hs := hs.bl hb_1
  refine hK _ _ rfl trivial ?_
  clear hK K
  refine sq ?_
  refine .mv ?_
  refine sq ?_
  refine .r0 ?_
  refine sq ?_
  refine .r0 ?_
  refine sq ?_
  refine .mv ?_
  refine sq ?_
  refine .mv ?_
  apply wpSq_end
  refine hK2 _ _ ?_
  refine wp_seq_k ?_
  intro K3 hK3
  refine rg [0, 1, 2, 3, 4, 5, 6, 7, 8, 9, 10] ?_
  refine sq ?_
  refine .mv ?_
  refine sq ?_
  refine .r0 ?_
  refine sq ?_
  refine .mv ?_
  refine sk ?_
  refine sk ?_
  refine sk ?_
  refine sk ?_
  refine sq ?_
  refine .r0 ?_
  refine sq ?_
  refine .mv ?_
  refine sq ?_
  refine .mv ?_
  refine sq ?_
  refine .mv ?_
  apply wpSq_end
  refine hK3 _ _ ?_
  refine wp_ret ?_
  try dsimp only [Exit.then, Exit.inBlock]
  refine bodyPost_ret (v := (.tuple #[(.bool false), (.int .i64 4)])) (by simp [results, Tryz.results11, go_sem]) rfl ?_
  exact ⟨rfl, hs.b⟩
/-- The rank, as a number. -/
theorem rank_is {r : Nat} (ha : MN la w oa A) (hna : A.length = n) (h : gd A) (hk : wd A = k) (hB : MinB n k L (at2 A)) (hL : L ≤ 3000000) (hla : la ≤ 20000000) (hr : Dt.Rk n k (at2 A) r) :
    Calls Tryz.prog 10 #[.slice oa n ca] w fun e w' => e = .returned (.tuple #[.int .i64 (r : Int), .int .i64 0]) ∧ Below w.heap.size w w' :=
  Calls.mono (rank_ok (ca := ca) ha hna h hk hB hL hla) fun e w' ⟨s, h1, h2, h3⟩ => by
    obtain rfl := Dt.Rk.eq noz one_ne h2 hr
    exact ⟨h1, h3⟩
set_option maxHeartbeats 4000000 in
set_option maxRecDepth 20000 in
theorem independent_is {r : Nat} (ha : MN la w oa A) (hna : A.length = n) (h : gd A) (hk : wd A = k) (hB : MinB n k L (at2 A)) (hL : L ≤ 3000000) (hla : la ≤ 20000000) (hr : Dt.Rk n k (at2 A) r) :
    Calls Tryz.prog 11 #[.slice oa n ca] w fun e w' => e = .returned (.tuple #[.bool (decide (r = n)), .int .i64 0]) ∧ Below w.heap.size w w' := by
  have HA := hide ha
  have H := hide h
  have HK := hide hk
  have HB := hide hB
  have HR := hide hr
  have E := hide (show ((r : Int) == (n : Int)) = decide (r = n) by by_cases h : r = n <;> simp [h]; omega)
  clear ha h hk hB hr
  go_enter Tryz.func11, Tryz.ntmps11
  have hs := St.nil w
  refine wp_seq_k ?_
  intro K1 hK1
  refine rg [0, 1] ?_
  refine sq ?_
  refine .mv ?_
  refine sq ?_
  refine .mv ?_
  apply wpSq_end
  refine hK1 _ _ ?_
  refine wp_seq_k ?_
  intro K2 hK2
  refine rg [0, 1, 2, 3, 4, 5, 6] ?_
  refine sq ?_
  refine .mv ?_
  refine sq ?_
  intro K hK
  have hb := hs.b
  go_big_op
  go_fit (rank_is (HA.out.bl stab_n hb) hna H.out HK.out HB.out hL hla HR.out)
  rintro e w_1 ⟨rfl, hb_1⟩
  clear hb
  replace hs := hs.bl hb_1
  refine hK _ _ rfl trivial ?_
  clear hK K
  refine sq ?_
  refine .mv ?_
  refine sq ?_
  refine .r0 ?_
  refine sq ?_
  refine .r0 ?_
  refine sq ?_
  refine .mv ?_
  refine sq ?_
  refine .mv ?_
  apply wpSq_end
  refine hK2 _ _ ?_
  refine wp_seq_k ?_
  intro K3 hK3
  refine rg [0, 1, 2, 3, 4, 5, 6, 7, 8, 9, 10] ?_
  refine sq ?_
  refine .mv ?_
  refine sq ?_
  refine .r0 ?_
  refine sq ?_
  refine .mv ?_
  refine sq ?_
  refine .mv ?_
  refine sq ?_
  refine .mv ?_
  refine sq ?_
  refine .r0 ?_
  refine sq ?_
  refine .r0 ?_
  refine sq ?_
  refine .r0 ?_
  refine sq ?_
  refine .mv ?_
  refine sq ?_
  refine .mv ?_
  refine sq ?_
  refine .mv ?_
  apply wpSq_end
  refine hK3 _ _ ?_
  refine wp_ret ?_
  try dsimp only [Exit.then, Exit.inBlock]
  refine bodyPost_ret (v := (.tuple #[.bool ((r : Int) == (n : Int)), .int .i64 0])) (by simp [results, Tryz.results11, go_sem]) rfl ?_
  exact ⟨by rw [E.out], hs.b⟩
end
end Go.Proofs.YtnkimagnmnocdaaGreat


/- The reference's Rank and Det. -/
namespace Go.Proofs.YtnkimagnmnocdaaGreat
open Go Go.RowKit Dig
set_option linter.unusedVariables false
section
variable {w : World} {la n W L ca r : Nat} {oa : Option Addr} {A : List (List (Int × Int))}
theorem relim_rk (ha : MN la w oa A) (hna : A.length = n) (h : gd A) (hk : wd A = W) (hB : MinB n W L (at2 A)) (hL : L ≤ 3000000) (hL1 : 1 ≤ L) (hla : la ≤ 20000000) (hr : Dt.Rk n W (at2 A) r) :
    Calls Tryz.prog 54 #[.slice oa n ca] w fun e w' => ∃ (o9 : Option Addr) (c9 : Nat) (z : Int) (p : Int × Int) (v1 v3 : Value), e = .returned (.tuple #[v1, .slice o9 r c9, v3, .int .i64 z]) ∧ (z = 1 ∨ z = -1) ∧ r ≤ n ∧ (n = W → r = n → Dt.det n (at2 A) = mP p (z, 0)) ∧ zl L p ∧ PC w' v3 p.1 p.2 ∧ Below w.heap.size w w' :=
  Calls.mono (relim_any (ca := ca) ha hna h hk hB hL hL1 hla) fun e w' ⟨v1, o9, c9, v3, k, z, p, h1, h2, h3, h4, h8, h5, h6, h7⟩ => by
    obtain rfl := Dt.Rk.eq noz one_ne h5 hr
    exact ⟨o9, c9, z, p, v1, v3, h1, h4, h8, h6, h3, h2, h7⟩
set_option maxHeartbeats 4000000 in
set_option maxRecDepth 20000 in
theorem rRank_any (ha : MN la w oa A) (hna : A.length = n) (h : gd A) (hk : wd A = W) (hB : MinB n W L (at2 A)) (hL : L ≤ 3000000) (hL1 : 1 ≤ L) (hla : la ≤ 20000000) (hr : Dt.Rk n W (at2 A) r) :
    Calls Tryz.prog 15 #[.slice oa n ca] w fun e w' => e = .returned (.int .i64 (r : Int)) ∧ Below w.heap.size w w' := by
  have HA := hide ha
  have H := hide h
  have HK := hide hk
  have HB := hide hB
  have HR := hide hr
  clear ha h hk hB hr
  go_enter Tryz.func15, Tryz.ntmps15
  have hs := St.nil w
  refine wp_seq_k ?_
  intro K1 hK1
  refine rg [0] ?_
  refine sq ?_
  refine .mv ?_
  apply wpSq_end
  refine hK1 _ _ ?_
  refine wp_seq_k ?_
  intro K2 hK2
  refine rg [0, 1, 2, 3, 4, 5, 6, 7, 8, 9, 10, 11] ?_
  refine sq ?_
  refine .mv ?_
  refine sq ?_
  intro K hK
  have hb := hs.b
  go_big_op
  go_fit (relim_rk (HA.out.bl stab_n hb) hna H.out HK.out HB.out hL hL1 hla HR.out)
  rintro e w_1 ⟨o9, c9, z, p, v, _, rfl, hz, hrn, hp, hlp, ⟨n_fa, o_fa, k_fa, c_fa, n_fb, o_fb, k_fb, c_fb, rfl, f1, f2⟩, hb_1⟩
  clear hb
  replace hs := hs.bl hb_1
  refine hK _ _ rfl trivial ?_
  clear hK K
  refine sq ?_
  refine .mv ?_
  refine sq ?_
  refine .r0 ?_
  refine sq ?_
  refine .r0 ?_
  refine sq ?_
  refine .r0 ?_
  refine sq ?_
  refine .r0 ?_
  refine sq ?_
  refine .al hs ?_; clear hs; intro p_b1 w_2 hs n2 kb_b1
  refine sq ?_
  refine .mv ?_
  refine sq ?_
  refine .mv ?_
  refine sq ?_
  refine .s4 hs.g0 (fun _ => hs.u0 kb_b1) ?_; clear hs; intro w_3 hs hd3 ho3
  refine sq ?_
  refine .mv ?_
  apply wpSq_end
  refine hK2 _ _ ?_
  refine wp_seq_k ?_
  intro K3 hK3
  refine rg [0, 1, 2] ?_
  refine sq ?_
  refine .mv ?_
  refine sq ?_
  refine .r0 ?_
  refine sq ?_
  refine .mv ?_
  apply wpSq_end
  refine hK3 _ _ ?_
  refine wp_ret ?_
  try dsimp only [Exit.then, Exit.inBlock]
  refine bodyPost_ret (v := (.int .i64 (r : Int))) (by simp [results, Tryz.results15, go_sem]) rfl ?_
  exact ⟨rfl, hs.b⟩
theorem rk_le {R : Type} [Lean.Grind.CommRing R] {h w r : Nat} {A : Nat → Nat → R} (hr : Dt.Rk h w A r) : r ≤ h := by
  obtain ⟨f, g, hfg, hne, _⟩ := hr
  exact Nat.le_of_not_lt fun c => hne (Dt.minor_big (h := h) c fun i hi => (hfg i hi).1)
set_option maxHeartbeats 4000000 in
set_option maxRecDepth 20000 in
theorem rDet_any (ha : MN la w oa A) (hna : A.length = n) (h : gd A) (hk : wd A = n) (hB : MinB n n L (at2 A)) (hL : L ≤ 3000000) (hL1 : 1 ≤ L) (hla : la ≤ 20000000) (hr : Dt.Rk n n (at2 A) r) :
    Calls Tryz.prog 17 #[.slice oa n ca] w fun e w' => ∃ v, e = .returned v ∧ PC w' v (Dt.det n (at2 A)).1 (Dt.det n (at2 A)).2 ∧ Below w.heap.size w w' := by
  have HA := hide ha
  have H := hide h
  have HK := hide hk
  have HB := hide hB
  have HR := hide hr
  have hn64 : n ≤ 64 := by have := h.1; omega
  have hrn := rk_le hr
  clear ha h hk hB hr
  by_cases hlt : r < n
  · have t1 : ((r : Int) < (n : Int)) = True := eq_true (by omega)
    have E0 := hide (Dt.Rk.det0 noz one_ne HR.out hlt)
    go_enter Tryz.func17, Tryz.ntmps17
    have hs := St.nil w
    refine wp_seq_k ?_
    intro K1 hK1
    refine rg [0] ?_
    refine sq ?_
    refine .al hs ?_; clear hs; intro p_b1 w_1 hs n1 kb_b1
    apply wpSq_end
    refine hK1 _ _ ?_
    refine wp_seq_k ?_
    intro K2 hK2
    refine rg [0, 1, 2, 3, 4, 5, 6, 7, 8, 9, 10, 11] ?_
    refine sq ?_
    refine .mv ?_
    refine sq ?_
    intro K hK
    have hb := hs.b
    go_big_op
    go_fit (relim_rk (HA.out.bl stab_n hb) hna H.out HK.out HB.out hL hL1 hla HR.out)
    rintro e w_2 ⟨o9, c9, z, p, v, _, rfl, hz, hrn, hp, hlp, ⟨n_fa, o_fa, k_fa, c_fa, n_fb, o_fb, k_fb, c_fb, rfl, f1, f2⟩, hb_2⟩
    clear hb
    replace hs := hs.bl hb_2
    refine hK _ _ rfl trivial ?_
    clear hK K
    refine sq ?_
    refine .mv ?_
    refine sq ?_
    refine .r0 ?_
    refine sq ?_
    refine .r0 ?_
    refine sq ?_
    refine .r0 ?_
    refine sq ?_
    refine .r0 ?_
    refine sq ?_
    refine .al hs ?_; clear hs; intro p_b2 w_3 hs n3 kb_b2
    refine sq ?_
    refine .mv ?_
    refine sq ?_
    refine .mv ?_
    refine sq ?_
    refine .s4 hs.g0 (fun _ => hs.u0 kb_b2) ?_; clear hs; intro w_4 hs hd4 ho4
    refine sq ?_
    refine .mv ?_
    apply wpSq_end
    refine hK2 _ _ ?_
    refine wp_seq_k ?_
    intro K3 hK3
    refine wp_seq_k ?_
    intro K4 hK4
    refine rg [0, 1, 2, 3, 4] ?_
    refine sq ?_
    refine .mv ?_
    refine sq ?_
    refine .r0 ?_
    refine sq ?_
    refine .mv ?_
    refine sq ?_
    refine .r0 ?_
    refine sq ?_
    refine .r0 ?_
    apply wpSq_end
    refine hK4 _ _ ?_
    refine ct ?_
    refine wp_seq_k ?_
    intro K5 hK5
    refine rg [0, 1] ?_
    refine sq ?_
    intro K hK
    go_big_op
    go_fit (rgI_any 0 0 _ (by decide) (by decide) (by decide) (by decide))
    rintro e w_5 ⟨_, rfl, ⟨n_ga, o_ga, k_ga, c_ga, n_gb, o_gb, k_gb, c_gb, rfl, g1, g2⟩, hb_5⟩
    replace hs := hs.bl hb_5
    refine hK _ _ rfl trivial ?_
    clear hK K
    refine sq ?_
    refine .s4 hs.g1 (fun _ => hs.u1 kb_b1) ?_; clear hs; intro w_6 hs hd6 ho6
    apply wpSq_end
    refine hK5 _ _ ?_
    refine wp_ret ?_
    have k5_6 := ko hd6 ho6
    replace g1 := g1.k k5_6
    replace g2 := g2.k k5_6
    try dsimp only [Exit.then, Exit.inBlock]
    obtain ⟨r0_0, r0_1, r0_2, r0_3⟩ := hs.g1.f4
    refine bodyPost_ret (v := (.agg #[.bool n_ga, .slice o_ga k_ga c_ga, .bool n_gb, .slice o_gb k_gb c_gb])) (by simp [results, Tryz.results17, go_sem, r0_0, r0_1, r0_2, r0_3]) rfl ?_
    exact ⟨_, rfl, .mk' (by rw [E0.out]; exact g1) (by rw [E0.out]; exact g2), hs.b⟩
  · obtain rfl : r = n := by omega
    have t1 : ((r : Int) < (r : Int)) = False := eq_false (by omega)
    have HL4 := hide (show L ≤ 40000000 by omega)
    go_enter Tryz.func17, Tryz.ntmps17
    have hs := St.nil w
    refine wp_seq_k ?_
    intro K1 hK1
    refine rg [0] ?_
    refine sq ?_
    refine .al hs ?_; clear hs; intro p_b1 w_1 hs n1 kb_b1
    apply wpSq_end
    refine hK1 _ _ ?_
    refine wp_seq_k ?_
    intro K2 hK2
    refine rg [0, 1, 2, 3, 4, 5, 6, 7, 8, 9, 10, 11] ?_
    refine sq ?_
    refine .mv ?_
    refine sq ?_
    intro K hK
    have hb := hs.b
    go_big_op
    go_fit (relim_rk (HA.out.bl stab_n hb) hna H.out HK.out HB.out hL hL1 hla HR.out)
    rintro e w_2 ⟨o9, c9, z, p, v, _, rfl, hz, hrn, hp, hlp, ⟨n_fa, o_fa, k_fa, c_fa, n_fb, o_fb, k_fb, c_fb, rfl, f1, f2⟩, hb_2⟩
    clear hb
    replace hs := hs.bl hb_2
    have Lf1 := hide (f1.lenOf (hlp.1))
    have Lf2 := hide (f2.lenOf (hlp.2))
    refine hK _ _ rfl trivial ?_
    clear hK K
    refine sq ?_
    refine .mv ?_
    refine sq ?_
    refine .r0 ?_
    refine sq ?_
    refine .r0 ?_
    refine sq ?_
    refine .r0 ?_
    refine sq ?_
    refine .r0 ?_
    refine sq ?_
    refine .al hs ?_; clear hs; intro p_b2 w_3 hs n3 kb_b2
    refine sq ?_
    refine .mv ?_
    refine sq ?_
    refine .mv ?_
    refine sq ?_
    refine .s4 hs.g0 (fun _ => hs.u0 kb_b2) ?_; clear hs; intro w_4 hs hd4 ho4
    refine sq ?_
    refine .mv ?_
    apply wpSq_end
    refine hK2 _ _ ?_
    refine wp_seq_k ?_
    intro K3 hK3
    refine wp_seq_k ?_
    intro K4 hK4
    refine rg [0, 1, 2, 3, 4] ?_
    refine sq ?_
    refine .mv ?_
    refine sq ?_
    refine .r0 ?_
    refine sq ?_
    refine .mv ?_
    refine sq ?_
    refine .r0 ?_
    refine sq ?_
    refine .r0 ?_
    apply wpSq_end
    refine hK4 _ _ ?_
    refine cf ?_
    refine wp_skip ?_
    refine hK3 _ _ ?_
    refine wp_seq_k ?_
    intro K5 hK5
    refine wp_region_f4 [(0, false), (1, false), (2, true), (3, true)] [4] [] (fun _ => default) [0, 99, 99, 99, 99] [] (.c hs.g0 .n) fn fun w_5 n5 => ?_
    replace hs := hs.bl n5
    refine f4 ?_
    refine fmv ?_
    refine fl fun w_6 n6 => ?_
    replace hs := hs.bl n6
    intro K hK
    go_big_op
    go_fit (rgI_any z 0 _ (by omega) (by omega) (by decide) (by decide))
    rintro e w_7 ⟨_, rfl, ⟨n_ia, o_ia, k_ia, c_ia, n_ib, o_ib, k_ib, c_ib, rfl, i1, i2⟩, hb_7⟩
    replace hs := hs.bl hb_7
    have Li1 := hide (i1.lenOf (zlen_small8 (z := z) (by omega)))
    have Li2 := hide (i2.lenOf (zlen_small8 (z := 0) (by decide)))
    refine hK _ _ rfl ⟨hb_7, (And.intro hs.g0 trivial)⟩ ?_
    clear hK K
    refine fl fun w_8 n8 => ?_
    replace hs := hs.bl n8
    intro K hK
    have k2_8 := (((((kb n3).o hd4 ho4).b n5).b n6).b hb_7).b n8
    replace f1 := f1.k k2_8
    replace f2 := f2.k k2_8
    have k7_8 := kb n8
    replace i1 := i1.k k7_8
    replace i2 := i2.k k7_8
    go_big_op
    go_fit (rgMul_any (.mk' (f1.zn Lf1.out) (f2.zn Lf2.out)) (.mk' (i1.zn Li1.out) (i2.zn Li2.out)) HL4.out HL4.out (by decide) (by decide))
    rintro e w_9 ⟨_, rfl, ⟨n_ga, o_ga, k_ga, c_ga, n_gb, o_gb, k_gb, c_gb, rfl, g1, g2⟩, hb_9⟩
    replace hs := hs.bl hb_9
    refine hK _ _ rfl ⟨hb_9, (And.intro hs.g0 trivial)⟩ ?_
    clear hK K
    refine e0 hs ?_; clear hs; intro w_10 hs n10
    refine tl ?_
    refine .s4 hs.g1 (fun _ => hs.u1 kb_b1) ?_ (e := fun _ hs => (And.intro hs.g0 True.intro)); clear hs; intro w_11 hs hd11 ho11
    apply wpTail_end
    refine hK5 _ _ ?_
    refine wp_ret ?_
    have k9_11 := (kb n10).o hd11 ho11
    replace g1 := g1.k k9_11
    replace g2 := g2.k k9_11
    try dsimp only [Exit.then, Exit.inBlock]
    obtain ⟨r0_0, r0_1, r0_2, r0_3⟩ := hs.g1.f4
    refine bodyPost_ret (v := (.agg #[.bool n_ga, .slice o_ga k_ga c_ga, .bool n_gb, .slice o_gb k_gb c_gb])) (by simp [results, Tryz.results17, go_sem, r0_0, r0_1, r0_2, r0_3]) rfl ?_
    exact ⟨_, rfl, .mk' (by rw [hp rfl rfl]; exact g1) (by rw [hp rfl rfl]; exact g2), hs.b⟩
end
end Go.Proofs.YtnkimagnmnocdaaGreat


/- Determinants are no longer than their rows together. -/
namespace Go.Proofs.YtnkimagnmnocdaaGreat
open Go Go.RowKit Dig
set_option linter.unusedVariables false
def sN : Nat → (Nat → Nat) → Nat
  | 0, _ => 0
  | n + 1, f => sN n f + f n
theorem sN_succ (n : Nat) (f : Nat → Nat) : sN (n + 1) f = sN n f + f n := rfl
theorem sN_congr {n : Nat} {f g : Nat → Nat} (h : ∀ i, i < n → f i = g i) : sN n f = sN n g := by
  induction n with
  | zero => rfl
  | succ n ih => rw [sN, sN, ih fun i hi => h i (by omega), h n (by omega)]
theorem sN_head (n : Nat) (f : Nat → Nat) : sN (n + 1) f = f 0 + sN n fun i => f (i + 1) := by
  induction n with
  | zero => simp [sN]
  | succ n ih => rw [sN, ih, sN]; omega
theorem sN_one (n c : Nat) : sN n (fun _ => c) = n * c := by
  induction n with
  | zero => simp [sN]
  | succ n ih => rw [sN, ih, Nat.succ_mul]
theorem sN_add (n : Nat) (f g : Nat → Nat) : sN n (fun i => f i + g i) = sN n f + sN n g := by
  induction n with
  | zero => rfl
  | succ n ih => simp only [sN]; rw [ih]; omega
theorem sN_upd {n k : Nat} (hk : k < n) (b : Nat → Nat) : sN n (fun i => if i = k then 0 else b i) + b k = sN n b := by
  induction n with
  | zero => omega
  | succ n ih =>
    rw [sN, sN]
    by_cases e : k = n
    · subst e
      rw [if_pos rfl, sN_congr (g := b) fun i hi => if_neg (by omega)]; omega
    · have := ih (by omega)
      rw [if_neg (by omega)]; omega
theorem sN_inj {s n : Nat} {f b : Nat → Nat} (hf : ∀ r, r < s → f r < n) (hi : ∀ r q, r < q → q < s → f r ≠ f q) : sN s (fun i => b (f i)) ≤ sN n b := by
  induction s generalizing b with
  | zero => exact Nat.zero_le _
  | succ s ih =>
    have h1 := ih (b := fun i => if i = f s then 0 else b i) (fun r hr => hf r (by omega)) (fun r q h h' => hi r q h (by omega))
    rw [sN_congr (g := fun i => b (f i)) fun i h => if_neg (hi i s h (by omega))] at h1
    have h2 := sN_upd (hf s (by omega)) b
    rw [sN]; omega
theorem sN_skip {n i : Nat} (h : i ≤ n) (e : Nat → Nat) : sN n (fun r => e (Dt.skip i r)) + e i = sN (n + 1) e := by
  induction n with
  | zero =>
    have e0 : i = 0 := by omega
    subst e0
    simp [sN]
  | succ n ih =>
    by_cases c : i = n + 1
    · subst c
      rw [sN_succ (n + 1), sN_congr (g := e) fun r hr => by rw [show Dt.skip (n + 1) r = r by unfold Dt.skip; rw [if_pos hr]]]
    · have h1 := ih (by omega)
      rw [sN_succ (n + 1), sN_succ n, show Dt.skip i n = n + 1 by unfold Dt.skip; rw [if_neg (by omega)]]
      omega
def nrm (p : Int × Int) : Nat := p.1.natAbs + p.2.natAbs
theorem nrm_add (p q : Int × Int) : nrm (p + q) ≤ nrm p + nrm q := by
  show (p.1 + q.1).natAbs + (p.2 + q.2).natAbs ≤ _
  unfold nrm; omega
theorem nrm_mul (p q : Int × Int) : nrm (p * q) ≤ nrm p * nrm q := by
  show (p.1 * q.1 - p.2 * q.2).natAbs + (p.1 * q.2 + p.2 * q.1).natAbs ≤ _
  have h1 : (p.1 * q.1 - p.2 * q.2).natAbs ≤ p.1.natAbs * q.1.natAbs + p.2.natAbs * q.2.natAbs := by rw [← Int.natAbs_mul, ← Int.natAbs_mul]; omega
  have h2 : (p.1 * q.2 + p.2 * q.1).natAbs ≤ p.1.natAbs * q.2.natAbs + p.2.natAbs * q.1.natAbs := by rw [← Int.natAbs_mul, ← Int.natAbs_mul]; omega
  unfold nrm
  rw [Nat.add_mul, Nat.mul_add, Nat.mul_add]; omega
theorem nrm_sg (n : Nat) (p : Int × Int) : nrm (Dt.sg n * p) = nrm p := by
  unfold Dt.sg
  split
  · rw [show (1 : Int × Int) * p = p by grind]
  · rw [show (-1 : Int × Int) * p = -p by grind]
    show (-p.1).natAbs + (-p.2).natAbs = _
    unfold nrm; omega
theorem nrm_sm {n T : Nat} {f : Nat → Int × Int} (h : ∀ i, i < n → 64 * nrm (f i) ≤ T) : 64 * nrm (Dt.sm n f) ≤ n * T := by
  induction n with
  | zero => show 64 * nrm (0, 0) ≤ _; simp [nrm]
  | succ n ih =>
    rw [Dt.sm]
    have h1 := ih fun i hi => h i (by omega)
    have h2 := h n (by omega)
    have h3 := nrm_add (Dt.sm n f) (f n)
    rw [Nat.succ_mul n T]; omega
theorem det_nrm {s : Nat} {M : Nat → Nat → Int × Int} {e : Nat → Nat} (hs : s ≤ 64) (h : ∀ i, i < s → ∀ j, j < s → 64 * nrm (M i j) ≤ pw (e i)) : nrm (Dt.det s M) ≤ pw (sN s e) := by
  induction s generalizing M e with
  | zero => show nrm (1, 0) ≤ pw 0; exact Nat.le_refl 1
  | succ s ih =>
    rw [Dt.det]
    have h1 := nrm_sm (n := s + 1) (T := pw (sN (s + 1) e)) (f := fun i => Dt.sg (i + s) * (M i s * Dt.det s fun r => M (Dt.skip i r))) fun i hi => by
      have hd := ih (M := fun r => M (Dt.skip i r)) (e := fun r => e (Dt.skip i r)) (by omega) fun r hr j hj => h _ (by unfold Dt.skip; split <;> omega) j (by omega)
      rw [nrm_sg]
      refine Nat.le_trans (Nat.mul_le_mul_left 64 (nrm_mul _ _)) ?_
      rw [← sN_skip (Nat.le_of_lt_succ hi) e, Nat.add_comm, pw_add, ← Nat.mul_assoc]
      exact Nat.mul_le_mul (h i hi s (by omega)) hd
    have h2 : (s + 1) * pw (sN (s + 1) e) ≤ 64 * pw (sN (s + 1) e) := Nat.mul_le_mul_right _ hs
    omega
theorem zl_nrm {b : Nat} {p : Int × Int} (h : zl b p) : 64 * nrm p ≤ pw (b + 1) := by
  have h1 := Nat.lt_of_lt_of_le (lt_pw_dig p.1.natAbs) (pw_mono h.1)
  have h2 := Nat.lt_of_lt_of_le (lt_pw_dig p.2.natAbs) (pw_mono h.2)
  rw [pw_add, show pw 1 = 4294967296 from rfl]
  unfold nrm; omega
theorem nrm_zl {b : Nat} {p : Int × Int} (h : nrm p < pw b) : zl b p := by
  unfold nrm at h
  exact ⟨dig_length_le (by omega), dig_length_le (by omega)⟩
theorem minB_of {n W T : Nat} {A : Nat → Nat → Int × Int} {b : Nat → Nat} (hn : n ≤ 64) (hT : sN n b ≤ T) (hA : ∀ i, i < n → ∀ q, q < W → zl (b i) (A i q)) : MinB n W (T + 65) A := by
  intro s f g hfg hi
  have hf : ∀ r, r < s → f r < n := fun r hr => (hfg r hr).1
  have h1 : s ≤ n := by
    have := sN_inj (b := fun _ => 1) hf hi
    rw [sN_one, sN_one] at this; omega
  have h2 := det_nrm (s := s) (M := fun i j => A (f i) (g j)) (e := fun i => b (f i) + 1) (by omega) fun i hi j hj => zl_nrm (hA _ (hf i hi) _ (hfg j hj).2)
  rw [sN_add, sN_one] at h2
  have h3 := sN_inj (b := b) hf hi
  refine nrm_zl (Nat.lt_of_le_of_lt (Nat.le_trans h2 (pw_mono (show _ ≤ T + 64 by omega))) ?_)
  rw [show T + 65 = T + 64 + 1 from rfl, pw_add (T + 64), show pw 1 = 4294967296 from rfl]
  have := pw_pos (T + 64)
  omega
/-- All its numbers' digits together. -/
def Tot (T : Nat) (Ms : List (List (Int × Int))) : Prop := ∃ b : Nat → Nat, sN Ms.length b ≤ T ∧ ∀ i (hi : i < Ms.length), Bd (b i) Ms[i]
theorem Tot.minB {T n W : Nat} {Ms : List (List (Int × Int))} (h : Tot T Ms) (hn : Ms.length = n) (h64 : n ≤ 64) : MinB n W (T + 65) (at2 Ms) := by
  subst hn
  obtain ⟨b, hT, hb⟩ := h
  refine minB_of h64 hT fun i hi q hq => ?_
  have h0 : rw_ Ms i = Ms[i] := by simp [rw_, List.getD, hi]
  unfold at2
  rw [h0]
  rcases Nat.lt_or_ge q Ms[i].length with c | c
  · have : at1 Ms[i] q = Ms[i][q] := by simp [at1, List.getD, c]
    rw [this]; exact hb i hi _ (List.getElem_mem c)
  · have : at1 Ms[i] q = (0, 0) := by simp [at1, List.getD, c]
    rw [this]; exact zl_0 _
end Go.Proofs.YtnkimagnmnocdaaGreat

