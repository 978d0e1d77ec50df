/- gdet: matrices laid beside one another; the table. -/
import Derived.Test.YtcoodkdalblalaaGreatDoorE5ToA5
import Derived.Lib.AppendZerosOnto
import Derived.Deep.Upon
namespace Go.Proofs.YtcoodkdalblalaaGreatDoor
open Go Go.RowKit Dig
set_option linter.unusedVariables false
/-- A list of matrices of n rows that can be read. -/
def SM (l n : Nat) (w : World) (o : Option Addr) (Mss : List (List (List (Int × Int)))) : Prop := ∃ g cur ty fz, o = some ⟨g, 0, none⟩ ∧ Bs w g cur ty fz ∧ ∀ i (hi : i < Mss.length), Mss[i].length = n ∧ ∃ oi ci, cur[i]? = some (.slice oi n ci) ∧ MN l w oi Mss[i]
/-- Row r of what is laid, up to matrix a's row i's number b. -/
def bzr (Mss : List (List (List (Int × Int)))) (a i b r : Nat) : List (Int × Int) :=
  (Mss.take a).flatMap (rw_ · r) ++ (if r < i then rw_ (Mss.getD a []) r else if r = i then (rw_ (Mss.getD a []) r).take b else [])
def bz (Mss : List (List (List (Int × Int)))) (n a i b : Nat) : List (List (Int × Int)) := (List.range n).map (bzr Mss a i b)
section
variable {Mss : List (List (List (Int × Int)))} {n a i b r : Nat}
theorem bz_len : (bz Mss n a i b).length = n := by simp [bz]
theorem bz_0 : bz Mss n 0 0 0 = List.replicate n [] := by
  refine List.eq_replicate_iff.2 ⟨by simp [bz], fun x hx => ?_⟩
  obtain ⟨r, _, rfl⟩ := List.mem_map.1 hx
  simp only [bzr, List.take_zero, List.flatMap_nil, List.nil_append]
  rw [if_neg (by omega)]; split <;> rfl
theorem bz_get (hr : r < n) : (bz Mss n a i b)[r]'(by simp [bz, hr]) = bzr Mss a i b r := by simp [bz]
theorem bz_set (hi : i < n) : (bz Mss n a i b).set i (bzr Mss a i (b + 1) i) = bz Mss n a i (b + 1) := by
  refine List.ext_getElem (by simp [bz]) fun r h1 h2 => ?_
  simp only [bz, List.getElem_set, List.getElem_map, List.getElem_range]
  by_cases e : i = r
  · rw [if_pos e, e]
  · rw [if_neg e]; unfold bzr
    by_cases e2 : r < i
    · rw [if_pos e2, if_pos e2]
    · rw [if_neg e2, if_neg e2, if_neg (Ne.symm e), if_neg (Ne.symm e)]
theorem bzr_snoc (hb : b < (rw_ (Mss.getD a []) i).length) : bzr Mss a i (b + 1) i = bzr Mss a i b i ++ [at1 (rw_ (Mss.getD a []) i) b] := by
  unfold bzr
  rw [if_neg (Nat.lt_irrefl _), if_pos rfl, if_neg (Nat.lt_irrefl _), if_pos rfl, List.append_assoc, List.take_succ_eq_append_getElem hb]
  generalize rw_ (Mss.getD a []) i = l at hb ⊢
  congr 2
  simp [at1, List.getD, hb]
theorem bz_row (hb : (rw_ (Mss.getD a []) i).length ≤ b) : bz Mss n a i b = bz Mss n a (i + 1) 0 := List.map_congr_left fun r _ => by
  unfold bzr
  by_cases e : r < i
  · rw [if_pos e, if_pos (by omega)]
  · rw [if_neg e]
    by_cases e2 : r = i
    · subst e2; rw [if_pos rfl, if_pos (by omega), List.take_of_length_le hb]
    · rw [if_neg e2, if_neg (by omega)]; split <;> simp
theorem bz_mat (ha : a < Mss.length) : bz Mss n a n 0 = bz Mss n (a + 1) 0 0 := List.map_congr_left fun r hr => by
  have hr : r < n := by simpa using hr
  unfold bzr
  rw [if_pos hr, if_neg (Nat.not_lt_zero _), List.take_succ_eq_append_getElem ha, List.flatMap_append]
  have : Mss.getD a [] = Mss[a] := by simp [List.getD, ha]
  rw [this]
  split <;> simp
theorem flat_len {Mss : List (List (List (Int × Int)))} (h : ∀ M ∈ Mss, ∀ i, (rw_ M i).length ≤ 3000000) : (Mss.flatMap (rw_ · r)).length ≤ 3000000 * Mss.length := by
  induction Mss with
  | nil => simp
  | cons M t ih =>
    have h1 := h M (List.mem_cons_self ..) r
    have h2 := ih fun N hN => h N (List.mem_cons_of_mem _ hN)
    simp only [List.flatMap_cons, List.length_append, List.length_cons]
    omega
theorem bzr_len (h : ∀ M ∈ Mss, ∀ i, (rw_ M i).length ≤ 3000000) : (bzr Mss a i b r).length ≤ 3000000 * Mss.length + 3000000 := by
  have h1 := flat_len (r := r) (Mss := Mss.take a) fun M hM => h M (List.mem_of_mem_take hM)
  have h2 : (Mss.take a).length ≤ Mss.length := by rw [List.length_take]; omega
  have h3 : (rw_ (Mss.getD a []) r).length ≤ 3000000 := by
    rcases Nat.lt_or_ge a Mss.length with c | c
    · have : Mss.getD a [] = Mss[a] := by simp [List.getD, c]
      rw [this]; exact h _ (List.getElem_mem _) r
    · have : Mss.getD a [] = [] := by simp [List.getD, c]
      rw [this]; simp [rw_]
  unfold bzr
  rw [List.length_append]
  split
  · omega
  · split
    · have : ((rw_ (Mss.getD a []) r).take b).length ≤ (rw_ (Mss.getD a []) r).length := by rw [List.length_take]; omega
      omega
    · rw [List.length_nil]; omega
theorem bz_all : bz Mss n Mss.length 0 0 = (List.range n).map fun r => Mss.flatMap (rw_ · r) := List.map_congr_left fun r _ => by
  unfold bzr
  rw [List.take_length, if_neg (Nat.not_lt_zero _)]
  split <;> simp
end
section
variable {w0 w : World} {v x : Value} {n p K : Nat} {rs r1 r2 : List Rw} {bs : List En} {Ms : List (List (Int × Int))} {xs : List Value}
theorem St.nils (hs : St w0 bs w) : ∀ m, St w0 (bs ++ (List.replicate m (⟨.slice none 0 0, 0, []⟩ : Rw)).map (Rw.e w0.heap.size)) w
  | 0 => by simpa using hs
  | m + 1 => by
    rw [List.replicate_succ, List.map_cons]
    exact ((hs.nils m).l0 26 4).perm List.perm_middle.symm
theorem RD.nils : ∀ m, RD w (List.replicate m (⟨.slice none 0 0, 0, []⟩ : Rw)) (List.replicate m [])
  | 0 => trivial
  | m + 1 => by rw [List.replicate_succ, List.replicate_succ]; exact ⟨⟨rfl, GD.nil _⟩, RD.nils m⟩
theorem made_one (u : Value) (n : Nat) : (madeCells #[u] (n * 1)).toList = List.replicate n u := by
  refine List.eq_replicate_iff.2 ⟨by simp [madeCells], fun y hy => ?_⟩
  unfold madeCells at hy
  simp only [Array.toList_map, List.mem_map] at hy
  obtain ⟨j, _, rfl⟩ := hy
  have : j % (#[u] : Array Value).size = 0 := by simp [Nat.mod_one]
  rw [this]; rfl
/-- A row in front of the state, be it empty. -/
theorem St.row0 (hs : St w0 (ls w0.heap.size 28 1 v n (rs.map (·.v)) :: (bs ++ rs.map (Rw.e w0.heap.size))) w) (hd : RD w rs Ms) (hp : p < Ms.length) :
    ∃ r1 o c xs r2, rs = r1 ++ (⟨.slice o Ms[p].length c, Ms[p].length, xs⟩ : Rw) :: r2 ∧ r1.length = p ∧ (rs.map (·.v))[p]? = some (.slice o Ms[p].length c) ∧ GD w xs Ms[p] ∧
      St w0 (ls w0.heap.size 26 4 (.slice o Ms[p].length c) Ms[p].length xs :: ls w0.heap.size 28 1 v n (rs.map (·.v)) :: (bs ++ (r1 ++ r2).map (Rw.e w0.heap.size))) w := by
  obtain ⟨r1, r, r2, rfl, h1, h2, h3⟩ := hd.at' hp
  obtain ⟨rv, rn, xs⟩ := r
  simp only at h2 h3
  subst h2
  have hs2 := hs.perm (cs := Rw.e w0.heap.size ⟨rv, Ms[p].length, xs⟩ :: ls w0.heap.size 28 1 v n ((r1 ++ (⟨rv, Ms[p].length, xs⟩ : Rw) :: r2).map (·.v)) :: (bs ++ (r1 ++ r2).map (Rw.e w0.heap.size))) (by
    refine (List.Perm.cons _ ?_).trans (List.Perm.swap _ _ _)
    rw [List.map_append, List.map_cons, List.map_append, ← List.append_assoc, ← List.append_assoc]
    exact List.perm_middle)
  have L : Lst w w0.heap.size 26 4 rv Ms[p].length xs := hs2.1.1.1
  obtain ⟨o, c, rfl⟩ := L.shape
  exact ⟨r1, o, c, xs, r2, rfl, h1, by rw [List.map_append, List.map_cons, List.getElem?_append_right (by simp [h1])]; simp [h1], h3, hs2⟩
/-- Back, the row written anew. -/
theorem St.unrow0 {K2 : Nat} {x' : Value} {xs' : List Value} (hs : St w0 (ls w0.heap.size 26 4 x' K2 xs' :: ls w0.heap.size 28 1 v n (((r1 ++ (⟨x, K, xs⟩ : Rw) :: r2).map (·.v)).set p x') :: (bs ++ (r1 ++ r2).map (Rw.e w0.heap.size))) w) (hp : r1.length = p) :
    St w0 (ls w0.heap.size 28 1 v n ((r1 ++ (⟨x', K2, xs'⟩ : Rw) :: r2).map (·.v)) :: (bs ++ (r1 ++ (⟨x', K2, xs'⟩ : Rw) :: r2).map (Rw.e w0.heap.size))) w := by
  have e : ((r1 ++ (⟨x, K, xs⟩ : Rw) :: r2).map (·.v)).set p x' = (r1 ++ (⟨x', K2, xs'⟩ : Rw) :: r2).map (·.v) := by
    rw [List.map_append, List.map_cons, List.map_append, List.map_cons, List.set_append_right _ _ (by simp [hp])]
    simp [hp]
  rw [e] at hs
  refine hs.perm ?_
  refine (List.Perm.swap _ _ _).trans (List.Perm.cons _ ?_)
  rw [List.map_append, List.map_append, List.map_cons, ← List.append_assoc, ← List.append_assoc]
  exact List.perm_middle.symm
end
section
variable {w0 w : World} {l n nm cm : Nat} {om : Option Addr} {bs : List En} {Mss : List (List (List (Int × Int)))}
set_option maxHeartbeats 4000000 in
set_option maxRecDepth 20000 in
theorem dbeside_any (hm : SM l n w om Mss) (hnm : Mss.length = nm) (h1 : 0 < nm) (hn : n ≤ 1000) (hR : ∀ M ∈ Mss, ∀ i, (rw_ M i).length ≤ 3000000) (hnm2 : nm ≤ 6) (hl : l ≤ 20000000) :
    Calls Tryz.prog 56 #[.slice om nm cm] w fun e w' => ∃ o c rs, e = .returned (.slice o n c) ∧ rs.length = n ∧ St w (Mx w.heap.size (.slice o n c) rs) w' ∧ RD w' rs ((List.range n).map fun r => Mss.flatMap (rw_ · r)) ∧ Below w.heap.size w w' := by
  have HM := hide hm
  have HR := hide hR
  obtain ⟨gm, curm, tym, fzm, rfl, xm, dm⟩ := hm
  obtain ⟨d1, o0, c0, d2, d3⟩ := dm 0 (by omega)
  have HD := hide dm
  clear dm hR d1 d3
  go_enter Tryz.func56, Tryz.ntmps56
  have hs := St.nil w
  have lt_kMS := xm.lt
  have xmz := xm
  refine wp_seq_k ?_
  intro K1 hK1
  refine rg [0] ?_
  refine sq ?_
  refine .mv ?_
  apply wpSq_end
  refine hK1 _ _ ?_
  refine wp_seq_k ?_
  intro K2 hK2
  refine rg [0, 1, 2, 3, 4, 5] ?_
  refine sq ?_
  refine .mv ?_
  refine sq ?_
  refine .r0 ?_
  refine sq ?_
  refine .r1 (xm.cell _ d2) ?_
  refine sq ?_
  refine .r0 ?_
  refine sq ?_
  refine .mk (n := n) hs ?_ (by first | rfl | omega) (by omega); clear hs; intro g_l xs_l w_1 hs e_l n1 kb_l
  replace xm := xm.bl n1
  refine sq ?_
  refine .mv ?_
  apply wpSq_end
  refine hK2 _ _ ?_
  refine wp_seq_k ?_
  intro K3 hK3
  refine wp_seq_k ?_
  intro K4 hK4
  refine rg [0, 1, 2] ?_
  refine sq ?_
  refine .mv ?_
  refine sq ?_
  refine .r0 ?_
  refine sq ?_
  refine .mv ?_
  apply wpSq_end
  refine hK4 _ _ ?_
  refine wp_block ?_
  replace e_l : xs_l = List.replicate n (Value.slice none 0 0) := e_l.trans (made_one (.slice none 0 0) n)
  have hs := hs.nils n
  rw [e_l, show List.replicate n (Value.slice none 0 0) = (List.replicate n (⟨.slice none 0 0, 0, []⟩ : Rw)).map (·.v) by simp] at hs
  clear e_l
  have hd2 := hs.2.1
  go_loopg [17] nm (fun kz s17 wr => ∃ (a : Nat) (rs : List Rw), s17 = .int .i64 (a : Int) ∧ a + kz = nm ∧ rs.length = n ∧ RD wr rs (bz Mss n a 0 0) ∧ St w (ls w.heap.size 28 1 (.slice (some ⟨g_l, 0, none⟩) n n) n (rs.map (·.v)) :: ([] ++ rs.map (Rw.e w.heap.size))) wr)
  case atStart => exact ⟨0, _, rfl, by omega, by simp, by rw [bz_0]; exact RD.nils n, hs⟩
  case round =>
  clear xm hs
  obtain ⟨a, rs, rfl, han, hrl, hd, hs⟩ := hrel
  have HO := ‹∀ (a' : Act) (w' : World), Handed _ _ a' w' → _›
  obtain ⟨g1, hg1⟩ : ∃ g, gk = g := ⟨_, rfl⟩
  by_cases ha : a < nm
  · have HA := hide (show a < Mss.length by omega)
    obtain ⟨f1, oa, ca, f2, f3⟩ := HD.out a HA.out
    obtain ⟨M, hM⟩ : ∃ M, Mss[a]'HA.out = M := ⟨_, rfl⟩
    have HMM := hide (show Mss.getD a [] = M by rw [← hM]; simp [List.getD, HA.out])
    have HRM := hide (show ∀ i, (rw_ M i).length ≤ 3000000 from fun i => HR.out M (by rw [← hM]; exact List.getElem_mem _) i)
    rw [hM] at f1 f3
    have HF := hide f3
    have F1 := hide f1
    clear hM f3 f1
    have x1 := xmz.bl hs.b
    refine wp_seq_k ?_
    intro K5 hK5
    refine rg [0] ?_
    refine sq ?_
    refine .r0 ?_
    apply wpSq_end
    refine hK5 _ _ ?_
    refine wp_seq_k ?_
    intro K6 hK6
    refine ct ?_
    refine wp_skip ?_
    refine hK6 _ _ ?_
    refine wp_seq_k ?_
    intro K7 hK7
    refine wp_block ?_
    refine wp_seq_k ?_
    intro K8 hK8
    refine rg [0, 1, 2] ?_
    refine sq ?_
    refine .r0 ?_
    refine sq ?_
    refine .r1 (x1.cell _ f2) ?_
    refine sq ?_
    refine .mv ?_
    apply wpSq_end
    refine hK8 _ _ ?_
    refine wp_seq_k ?_
    intro K9 hK9
    refine rg [0, 1, 2] ?_
    refine sq ?_
    refine .mv ?_
    refine sq ?_
    refine .r0 ?_
    refine sq ?_
    refine .mv ?_
    apply wpSq_end
    refine hK9 _ _ ?_
    refine wp_block ?_
    have hd3 := hs.2.1
    go_loopg [23] n (fun kz s23 wr => ∃ (i : Nat) (rs : List Rw), s23 = .int .i64 (i : Int) ∧ i + kz = n ∧ rs.length = n ∧ RD wr rs (bz Mss n a i 0) ∧ St w (ls w.heap.size 28 1 (.slice (some ⟨g_l, 0, none⟩) n n) n (rs.map (·.v)) :: ([] ++ rs.map (Rw.e w.heap.size))) wr)
    case atStart => exact ⟨0, rs, rfl, by omega, hrl, hd, hs⟩
    case round =>
    clear hrl
    clear hd x1 hs
    obtain ⟨i, rs, rfl, hin, hrl, hd, hs⟩ := hrel
    have HO2 := ‹∀ (a' : Act) (w' : World), Handed _ _ a' w' → _›
    obtain ⟨g2, hg2⟩ : ∃ g, gk = g := ⟨_, rfl⟩
    by_cases hi : i < n
    · have HI := hide hi
      obtain ⟨gM, offM, curM, tyM, fzM, oi, ci, rfl, xM, eM, sM⟩ := HF.out.row (i := i) (by rw [F1.out]; exact hi)
      obtain ⟨Kx, hKx⟩ : ∃ Kx, (rw_ M i).length = Kx := ⟨_, rfl⟩
      have HK1 := hide (show Kx ≤ 3000000 by rw [← hKx]; exact HRM.out i)
      rw [hKx] at eM
      have HKX := hide hKx
      have HS := hide sM
      clear hKx sM
      replace xM := xM.bl hs.b
      refine wp_seq_k ?_
      intro K10 hK10
      refine rg [0] ?_
      refine sq ?_
      refine .r0 ?_
      apply wpSq_end
      refine hK10 _ _ ?_
      refine wp_seq_k ?_
      intro K11 hK11
      refine ct ?_
      refine wp_skip ?_
      refine hK11 _ _ ?_
      refine wp_seq_k ?_
      intro K12 hK12
      refine wp_block ?_
      refine wp_seq_k ?_
      intro K13 hK13
      refine rg [0, 1, 2, 3, 4] ?_
      refine sq ?_
      refine .mv ?_
      refine sq ?_
      refine .r0 ?_
      refine sq ?_
      refine .r1 (xM.cell _ eM) ?_
      refine sq ?_
      refine .mv ?_
      refine sq ?_
      refine .mv ?_
      apply wpSq_end
      refine hK13 _ _ ?_
      refine wp_seq_k ?_
      intro K14 hK14
      refine rg [0, 1, 2] ?_
      refine sq ?_
      refine .mv ?_
      refine sq ?_
      refine .r0 ?_
      refine sq ?_
      refine .mv ?_
      apply wpSq_end
      refine hK14 _ _ ?_
      refine wp_block ?_
      have hd4 := hs.2.1
      go_loopg [30] Kx (fun kz s30 wr => ∃ (b : Nat) (rs : List Rw), s30 = .int .i64 (b : Int) ∧ b + kz = Kx ∧ rs.length = n ∧ RD wr rs (bz Mss n a i b) ∧ St w (ls w.heap.size 28 1 (.slice (some ⟨g_l, 0, none⟩) n n) n (rs.map (·.v)) :: ([] ++ rs.map (Rw.e w.heap.size))) wr)
      case atStart => exact ⟨0, rs, rfl, by omega, hrl, hd, hs⟩
      case round =>
      clear hrl
      clear hd xM hs
      obtain ⟨b, rs, rfl, hbk, hrl, hd, hs⟩ := hrel
      by_cases hb9 : b < Kx
      · have HB9 := hide hb9
        obtain ⟨g2', off2, cur2, ty2, fz2, a1, a2, a3, a4, a5, a6, a7, a8, rfl, x2, e1, e2, e3, e4, z1, z2⟩ := HS.out.op (j := b) (by rw [HKX.out]; exact hb9)
        have E1 := hide (bzr_snoc (Mss := Mss) (a := a) (i := i) (b := b) (by rw [HMM.out, HKX.out]; exact hb9))
        replace z1 : ZN wr (.agg #[.bool a1, .slice a2 a3 a4]) (at1 (rw_ M i) b).1 l := z1.bl hs.b
        replace z2 : ZN wr (.agg #[.bool a5, .slice a6 a7 a8]) (at1 (rw_ M i) b).2 l := z2.bl hs.b
        have x2z := x2
        have lt_kRM := x2.lt
        replace x2 := x2.bl hs.b
        obtain ⟨r1, oR, cR, xs, r2, rfl, hr1, hrv, hx, hs⟩ := hs.row0 (bs := []) hd (p := i) (by rw [bz_len]; exact HI.out)
        rw [bz_get HI.out] at hrv hx hs
        obtain ⟨KR, hKR⟩ : ∃ KR, (bzr Mss a i b i).length = KR := ⟨_, rfl⟩
        have HKR := hide hKR
        have hK1000 : Kx ≤ 3000000 := HK1.out
        have HKB : KR ≤ 30000000 := by have := bzr_len (a := a) (i := i) (b := b) (r := i) HR.out; omega
        rw [hKR] at hrv hs
        have LO : Lst wr w.heap.size 28 1 (.slice (some ⟨g_l, 0, none⟩) n n) n _ := hs.1.2.1.1
        obtain ⟨gO', curO, eO', xO, hcO⟩ := LO.box (by have := HI.out; omega)
        simp only [Option.some.injEq, Addr.mk.injEq, and_true] at eO'
        obtain rfl : g_l = gO' := eO'
        have eO := hcO _ _ hrv
        obtain ⟨P, hP⟩ : ∃ P, at1 (rw_ M i) b = P := ⟨_, rfl⟩
        have HPE := hide hP
        rw [hP] at z1 z2
        clear LO hcO hP hrv
        refine wp_seq_k ?_
        intro K15 hK15
        refine rg [0] ?_
        refine sq ?_
        refine .r0 ?_
        apply wpSq_end
        refine hK15 _ _ ?_
        refine wp_seq_k ?_
        intro K16 hK16
        refine ct ?_
        refine wp_skip ?_
        refine hK16 _ _ ?_
        refine wp_seq_k ?_
        intro K17 hK17
        refine wp_block ?_
        refine wp_seq_k ?_
        intro K18 hK18
        refine rg [0, 1, 2, 3] ?_
        refine sq ?_
        refine .r0 ?_
        refine sq ?_
        refine .r4 ⟨x2.cell _ e1, x2.cell _ e2, x2.cell _ e3, x2.cell _ e4⟩ ?_
        refine sq ?_
        refine .al hs ?_; clear hs; intro p_b1 w_5 hs n5 kb_b1
        replace x2 := x2.bl n5; replace xO := xO.bl n5
        refine sq ?_
        refine .s4 hs.g0 (fun _ => hs.u0 kb_b1) ?_; clear hs; intro w_6 hs hd6 ho6
        replace x2 := x2.frame ho6 (Nat.ne_of_lt (Nat.lt_of_lt_of_le lt_kRM kb_b1)); replace xO := xO.frame ho6 (hs.ne 2 0)
        apply wpSq_end
        refine hK18 _ _ ?_
        refine wp_region_f4 [(0, false), (1, false), (2, false), (3, false), (4, false), (5, false), (6, false), (7, false), (8, true), (9, true)] [10, 11, 12] [] (fun _ => default) [99, 99, 99, 99, 99, 0, 1, 99, 99, 99, 99, 99, 99] [(10, 0), (11, 0), (12, 0)] (.c xO (.c hs.g0 .n)) fn fun w_7 n7 => ?_
        replace x2 := x2.bl n7; replace xO := xO.bl n7; replace hs := hs.bl n7
        refine fmv ?_
        refine fmv ?_
        refine fmv ?_
        refine fmv ?_
        refine f0 ?_
        apply wpFl_ld rfl rfl; (case h1 => intro w' hC K hK; have c0 := Bs.cell hC (i) eO; go_big_op; exact hK); iterate 4 kernel_rfl
        refine f4 ?_
        refine f0 ?_
        refine fl fun w_8 n8 => ?_
        replace x2 := x2.bl n8; replace xO := xO.bl n8; replace hs := hs.bl n8
        intro K hK
        have k0_4 := (((kb n5).o hd6 ho6).b n7).b n8
        replace z1 := z1.k k0_4
        replace z2 := z2.k k0_4
        go_big_op
        go_fit (gAdd_any (PN.mk' z1 z2) (PN.mk' ((zc_zero w_8).zn zlen_0) ((zc_zero w_8).zn zlen_0)) (by omega) (by omega) (by omega) (by omega) )
        rintro e w_9 ⟨_, rfl, ⟨n_ga, o_ga, k_ga, c_ga, n_gb, o_gb, k_gb, c_gb, rfl, g1, g2⟩, hb_9⟩
        replace x2 := x2.bl hb_9; replace xO := xO.bl hb_9; replace hs := hs.bl hb_9
        have Lg1 := hide (g1.lenOf (zlen_add (z1.len) (zlen_0)))
        have Lg2 := hide (g2.lenOf (zlen_add (z2.len) (zlen_0)))
        rw [Int.add_zero] at g1 g2
        refine hK _ _ rfl ⟨hb_9, (And.intro xO (And.intro hs.g0 trivial))⟩ ?_
        clear hK K
        refine fl fun w_10 n10 => ?_
        replace x2 := x2.bl n10; replace xO := xO.bl n10; replace hs := hs.bl n10
        refine .al hs ?_ (e := fun _ _ hs n => ⟨n, (And.intro (xO.bl n) (And.intro hs.g1 trivial))⟩); clear hs; intro p_b2 w_11 hs n11 kb_b2
        replace x2 := x2.bl n11; replace xO := xO.bl n11
        refine e0 hs ?_; clear hs; intro w_12 hs n12
        replace x2 := x2.bl n12; replace xO := xO.bl n12
        refine tl ?_
        have k0_8 := (((k0_4.b hb_9).b n10).b n11).b n12
        replace hx := hx.k k0_8
        have k5_8 := ((kb n10).b n11).b n12
        replace g1 := g1.k k5_8
        replace g2 := g2.k k5_8
        replace hx := hx.snoc (.mk' g1 g2)
        refine .apo 2 hs hs.g0 ?_ (eE := fun _ _ _ hs => (And.intro True.intro (And.intro hs.g1 True.intro))); clear hs; intro o_R_13 c_R_13 w_13 hs kp13 hw13; simp only [List.set_cons_succ, List.set_cons_zero] at hs
        replace x2 := x2.lo lt_kRM hw13
        clear xO
        refine tl ?_
        refine .r0 ?_ (e := (And.intro True.intro (And.intro hs.g1 True.intro)))
        refine tl ?_
        refine .i1 3 hs (j := i) (by exact HI.out) ?_ (e := fun _ hB hO => (And.intro True.intro (And.intro (hs.g1.frame hO (hs.ne 1 3)) True.intro))); clear hs; intro w_14 hs kp14 hd14 ho14 hw14; simp only [List.set_cons_succ, List.set_cons_zero] at hs
        replace x2 := x2.lo lt_kRM hw14
        apply wpTail_end
        refine hK17 _ _ ?_
        refine rg [0, 1] ?_
        refine sq ?_
        refine .r0 ?_
        refine sq ?_
        refine .mv ?_
        apply wpSq_end
        have k0_10 := (k0_8.t kp13).t kp14
        replace hd := hd.k k0_10
        have k8_10 := kp13.t kp14
        replace hx := hx.k k8_10
        refine ‹∀ (a' : Act) (w' : World), Handed _ _ a' w' → _› _ _ ?_
        have hs := (hs.sub (.cons _ (.cons _ (List.Sublist.refl _)))).unrow0 (bs := []) hr1
        have hd := RD.set' (n := KR + 1) (m := bzr Mss a i (b + 1) i) (v := .slice o_R_13 (KR + 1) c_R_13) (by rw [E1.out, List.length_append, HKR.out, List.length_singleton]) (by rw [E1.out, HMM.out, HPE.out]; exact hx) hd hr1
        rw [bz_set HI.out] at hd
        go_roundg (gk - 1)
        case rel => exact ⟨b + 1, _, by rfl, by omega, by simpa using hrl, hd, hs⟩
        case measure => omega
      · obtain rfl : Kx = b := by omega
        have HX := hide hb9
        refine wp_seq_k ?_
        intro K15 hK15
        refine rg [0] ?_
        refine sq ?_
        refine .r0 ?_
        apply wpSq_end
        refine hK15 _ _ ?_
        refine wp_seq_k ?_
        intro K16 hK16
        refine cf ?_
        refine wp_exit ?_
        refine hK12 _ _ ?_
        refine rg [0, 1] ?_
        refine sq ?_
        refine .r0 ?_
        refine sq ?_
        refine .mv ?_
        apply wpSq_end
        refine HO2 _ _ ?_
        go_roundg (g2 - 1)
        case rel => exact ⟨i + 1, rs, by rfl, by omega, hrl, by rw [← bz_row (b := Kx) (by rw [HMM.out, HKX.out]; exact Nat.le_refl _)]; exact hd, hs⟩
        case measure => omega
    · obtain rfl : n = i := by omega
      have HX := hide hi
      refine wp_seq_k ?_
      intro K10 hK10
      refine rg [0] ?_
      refine sq ?_
      refine .r0 ?_
      apply wpSq_end
      refine hK10 _ _ ?_
      refine wp_seq_k ?_
      intro K11 hK11
      refine cf ?_
      refine wp_exit ?_
      refine hK7 _ _ ?_
      refine rg [0, 1] ?_
      refine sq ?_
      refine .r0 ?_
      refine sq ?_
      refine .mv ?_
      apply wpSq_end
      refine HO _ _ ?_
      go_roundg (g1 - 1)
      case rel => exact ⟨a + 1, rs, by rfl, by omega, hrl, by rw [← bz_mat HA.out]; exact hd, hs⟩
      case measure => omega
  · obtain rfl : nm = a := by omega
    have HX := hide ha
    refine wp_seq_k ?_
    intro K5 hK5
    refine rg [0] ?_
    refine sq ?_
    refine .r0 ?_
    apply wpSq_end
    refine hK5 _ _ ?_
    refine wp_seq_k ?_
    intro K6 hK6
    refine cf ?_
    refine wp_exit ?_
    refine hK3 _ _ ?_
    refine wp_seq_k ?_
    intro K7 hK7
    refine rg [0, 1] ?_
    refine sq ?_
    refine .mv ?_
    refine sq ?_
    refine .mv ?_
    apply wpSq_end
    refine hK7 _ _ ?_
    refine wp_ret ?_
    try dsimp only [Exit.then, Exit.inBlock]
    refine bodyPost_ret (v := (.slice (some ⟨g_l, 0, none⟩) n n)) (by simp [results, Tryz.results56, go_sem]) rfl ?_
    exact ⟨_, _, rs, rfl, hrl, (by unfold Mx; rw [hrl]; exact hs), by rw [← bz_all, hnm]; exact hd, hs.b⟩
end
theorem smOne {l n p ca : Nat} {w : World} {ty : TypeId} {fz : Nat × Nat} {oa : Option Addr} {A : List (List (Int × Int))} (x : Bs w p #[.slice oa n ca] ty fz) (ha : MN l w oa A) (hn : A.length = n) : SM l n w (some ⟨p, 0, none⟩) [A] :=
  ⟨p, _, ty, fz, rfl, x, fun i hi => match i, hi with
    | 0, _ => ⟨hn, oa, ca, rfl, ha⟩⟩
theorem one_cat {n k : Nat} {A : List (List (Int × Int))} (h : gd A) (hn : A.length = n) (hk : wd A = k) : ((List.range n).map fun r => [A].flatMap (rw_ · r)) = mkM n k (at2 A) := by
  refine List.map_congr_left fun r hr => ?_
  have hr : r < n := by simpa using hr
  have hl : (rw_ A r).length = k := by rw [gd_row h (by omega)]; exact hk
  simp only [List.flatMap_cons, List.flatMap_nil, List.append_nil]
  refine List.ext_getElem (by simp [hl]) fun j h1 h2 => ?_
  simp [at2, at1, List.getD, h1]
theorem rw_le {A : List (List (Int × Int))} (h : gd A) (i : Nat) : (rw_ A i).length ≤ 64 := by
  rcases Nat.lt_or_ge i A.length with c | c
  · rw [gd_row h c]; exact h.2.1
  · simp [rw_, List.getD, c]
section
variable {w w0 : World} {l la n k L ca : Nat} {oa : Option Addr} {bs : List En} {A : List (List (Int × Int))}
set_option maxHeartbeats 4000000 in
set_option maxRecDepth 20000 in
theorem laid_any (hst : St w0 bs w) (ha : MN la w0 oa A) (hna : A.length = n) (h : gd A) (hk : wd A = k) (hla : la ≤ 20000000) :
    Calls Tryz.prog 20 #[.slice oa n ca] w fun e w' => ∃ p o c rs, e = .returned (.pointer (some ⟨p, 0, none⟩)) ∧ Hid (w0.heap.size ≤ p) ∧ rs.length = n ∧ RD w' rs (mkM n k (at2 A)) ∧
      St w0 (ls w0.heap.size 28 1 (.slice o n c) n (rs.map (·.v)) :: bx p #[.slice o n c, .int .i64 (n : Int), .int .i64 (k : Int), .bool false] 77 :: (bs ++ rs.map (Rw.e w0.heap.size))) w' ∧ Kp w w' := by
  have HA := hide ha
  have H := hide h
  have HK := hide hk
  have HRL := hide (show ∀ M ∈ [A], ∀ i, (rw_ M i).length ≤ 3000000 from fun M hM i => by rw [List.mem_singleton.1 hM]; exact Nat.le_trans (rw_le h i) (by decide))
  have hn64 : n ≤ 64 := by have := h.1; omega
  have kk := KpF.r w
  clear ha h hk
  go_enter Tryz.func20, Tryz.ntmps20
  have hs := hst
  clear hst
  refine wp_seq_k ?_
  intro K1 hK1
  refine rg [0] ?_
  refine sq ?_
  refine .mv ?_
  apply wpSq_end
  refine hK1 _ _ ?_
  refine wp_seq_k ?_
  intro K2 hK2
  refine rg [0, 1, 2, 3, 4, 5, 6, 7, 8] ?_
  refine sq ?_
  refine .mv ?_
  refine sq ?_
  intro K hK
  have hb := hs.b
  go_big_op
  go_fit (mSize_ok (HA.out.bl stab_n hb) hna H.out HK.out)
  rintro e w_1 ⟨rfl, hb_1⟩
  clear hb
  replace hs := hs.bl hb_1
  refine hK _ _ rfl trivial ?_
  clear hK K
  refine sq ?_
  refine .mv ?_
  refine sq ?_
  refine .r0 ?_
  refine sq ?_
  refine .r0 ?_
  refine sq ?_
  refine .r0 ?_
  refine sq ?_
  refine .mv ?_
  refine sq ?_
  refine .mv ?_
  refine sq ?_
  refine .mv ?_
  apply wpSq_end
  refine hK2 _ _ ?_
  refine wp_seq_k ?_
  intro K3 hK3
  refine rg [0, 1, 2, 3, 4, 5, 6, 7] ?_
  refine sq ?_
  refine .mv ?_
  refine sq ?_
  refine .al hs ?_; clear hs; intro p_b1 w_2 hs n2 kb_b1
  refine sq ?_
  intro K hK
  have hb := hs.b
  go_big_op
  go_fit (dbeside_any (l := la) (Mss := [A]) (smOne hs.g0 (HA.out.bl stab_n hb) hna) rfl (by omega) (by omega) HRL.out (by omega) hla)
  rintro e w_3 ⟨o_T, c_T, rs_T, rfl, hl_T, hs_T, d_T, hb_3⟩
  clear hb
  replace hs := hs.mx hl_T hs_T; simp only [List.cons_append] at hs
  rw [one_cat H.out hna HK.out] at d_T
  refine hK _ _ rfl trivial ?_
  clear hK K
  refine sq ?_
  refine .mv ?_
  refine sq ?_
  refine .mv ?_
  refine sq ?_
  refine .r0 ?_
  refine sq ?_
  refine .al hs ?_; clear hs; intro p_b2 w_4 hs n4 kb_b2
  refine sq ?_
  refine .mv ?_
  apply wpSq_end
  refine hK3 _ _ ?_
  refine wp_ret ?_
  have k3_4 := kb n4
  replace d_T := d_T.k k3_4
  have k0_4 := (((kb hb_1).b n2).b hb_3).b n4
  replace kk := kk.k k0_4
  try dsimp only [Exit.then, Exit.inBlock]
  refine bodyPost_ret (v := (.pointer (some ⟨p_b2, 0, none⟩))) (by simp [results, Tryz.results20, go_sem]) rfl ?_
  exact ⟨_, _, _, rs_T, rfl, kb_b2, hl_T, d_T, (hs.perm (List.Perm.swap _ _ _)).sub (.cons_cons _ (.cons_cons _ (.cons _ (List.Sublist.refl _)))), kk.kp⟩
set_option maxHeartbeats 4000000 in
set_option maxRecDepth 20000 in
theorem det_bad (ha : MN la w oa A) (hna : A.length = n) (h : ¬ (gd A ∧ wd A = n)) (hla : n ≤ 1000000000) :
    Calls Tryz.prog 5 #[.slice oa n ca] w fun e w' => e = .returned (.tuple #[.agg #[.bool false, .slice none 0 0, .bool false, .slice none 0 0], .int .i64 4]) ∧ Below w.heap.size w w' := by
  have HS := hide (show ∀ w1, Below w.heap.size w w1 → Calls Tryz.prog 19 #[.slice oa n ca] w1 fun e w' => e = .returned (.bool false) ∧ Below w1.heap.size w1 w' from fun w1 h1 => by
    by_cases hg : gd A
    · have := isSquare_ok (ca := ca) (ha.bl stab_n h1) hna hg rfl
      rw [decide_eq_false (fun c => h ⟨hg, c.symm⟩)] at this
      exact this
    · exact isSquare_bad (ha.bl stab_n h1) hna hg hla)
  clear ha h
  go_enter Tryz.func5, Tryz.ntmps5
  have hs := St.nil w
  refine wp_seq_k ?_
  intro K1 hK1
  refine rg [0, 1] ?_
  refine sq ?_
  refine .al hs ?_; clear hs; intro p_b1 w_1 hs n1 kb_b1
  refine sq ?_
  refine .mv ?_
  apply wpSq_end
  refine hK1 _ _ ?_
  refine wp_seq_k ?_
  intro K2 hK2
  refine wp_seq_k ?_
  intro K3 hK3
  refine rg [0, 1, 2] ?_
  refine sq ?_
  refine .mv ?_
  refine sq ?_
  intro K hK
  have hb := hs.b
  go_big_op
  go_fit (HS.out _ hb)
  rintro e w_2 ⟨rfl, hb_2⟩
  clear hb
  replace hs := hs.bl hb_2
  refine hK _ _ rfl trivial ?_
  clear hK K
  refine sq ?_
  refine .r0 ?_
  apply wpSq_end
  refine hK3 _ _ ?_
  refine ct ?_
  refine wp_seq_k ?_
  intro K4 hK4
  refine rg [0, 1, 2] ?_
  refine sq ?_
  refine .r0 ?_
  refine sq ?_
  refine .s4 hs.g0 (fun _ => hs.u0 kb_b1) ?_; clear hs; intro w_3 hs hd3 ho3
  refine sq ?_
  refine .mv ?_
  apply wpSq_end
  refine hK4 _ _ ?_
  refine wp_ret ?_
  try dsimp only [Exit.then, Exit.inBlock]
  obtain ⟨r0_0, r0_1, r0_2, r0_3⟩ := hs.g0.f4
  refine bodyPost_ret (v := (.tuple #[(.agg #[.bool false, .slice none 0 0, .bool false, .slice none 0 0]), (.int .i64 4)])) (by simp [results, Tryz.results5, go_sem, r0_0, r0_1, r0_2, r0_3]) rfl ?_
  exact ⟨rfl, hs.b⟩
set_option maxHeartbeats 4000000 in
set_option maxRecDepth 20000 in
theorem det_ok (ha : MN la w oa A) (hna : A.length = n) (h : gd A) (hk : wd A = n) (hB : MinB n n L (at2 A)) (hL : L ≤ 3300000) (hla : la ≤ 20000000) :
    Calls Tryz.prog 5 #[.slice oa n ca] w fun e w' => ∃ v, e = .returned (.tuple #[v, .int .i64 0]) ∧ PC w' v (Dt.det n (at2 A)).1 (Dt.det n (at2 A)).2 ∧ Below w.heap.size w w' := by
  have HA := hide ha
  have H := hide h
  have HK := hide hk
  have HB := hide hB
  have hn64 : n ≤ 64 := by have := h.1; omega
  have ES : decide (n = n) = true := decide_eq_true rfl
  clear ha h hk hB
  go_enter Tryz.func5, Tryz.ntmps5
  have hs := St.nil w
  refine wp_seq_k ?_
  intro K1 hK1
  refine rg [0, 1] ?_
  refine sq ?_
  refine .al hs ?_; clear hs; intro p_b1 w_1 hs n1 kb_b1
  refine sq ?_
  refine .mv ?_
  apply wpSq_end
  refine hK1 _ _ ?_
  refine wp_seq_k ?_
  intro K2 hK2
  refine wp_seq_k ?_
  intro K3 hK3
  refine rg [0, 1, 2] ?_
  refine sq ?_
  refine .mv ?_
  refine sq ?_
  intro K hK
  have hb := hs.b
  go_big_op
  go_fit (isSquare_ok (HA.out.bl stab_n hb) hna H.out HK.out)
  rintro e w_2 ⟨rfl, hb_2⟩
  clear hb
  replace hs := hs.bl hb_2
  rw [ES]
  refine hK _ _ rfl trivial ?_
  clear hK K
  refine sq ?_
  refine .r0 ?_
  apply wpSq_end
  refine hK3 _ _ ?_
  refine cf ?_
  refine wp_skip ?_
  refine hK2 _ _ ?_
  refine wp_seq_k ?_
  intro K4 hK4
  refine rg [0, 1, 2] ?_
  refine sq ?_
  refine .mv ?_
  refine sq ?_
  intro K hK
  go_big_op
  go_fit (laid_any hs HA.out hna H.out HK.out hla)
  have bb3 := hs.b
  rintro e w_3 ⟨p_t, o_t, c_t, rs_t, rfl, kb_bt, hl_t, hd, hs', kp3⟩
  clear hs; have hs := hs'; clear hs'
  have bc3 := hs.b
  clear bb3 bc3
  refine hK _ _ rfl trivial ?_
  clear hK K
  refine sq ?_
  refine .mv ?_
  apply wpSq_end
  refine hK4 _ _ ?_
  refine wp_seq_k ?_
  intro K5 hK5
  refine rg [0, 1, 2] ?_
  refine sq ?_
  refine .mv ?_
  refine sq ?_
  intro K hK
  go_big_op
  go_fit (pivots_any (bs := [bx p_b1 #[.bool false, .slice none 0 0, .bool false, .slice none 0 0] 26]) hs kb_bt hl_t hd (Nat.le_refl _) (Nat.le_refl _) (by omega) (by omega) HB.out hL)
  have bb4 := hs.b
  rintro e w_4 ⟨o9, c9, xs, r, A2, F2, odd2, rs2, rfl, hF, hL9, hA2, hl2, hd2, hs', kp4⟩
  clear hs; have hs := hs'; clear hs'
  have bc4 := hs.b
  clear bb4 bc4
  refine hK _ _ rfl trivial ?_
  clear hK K
  refine sq ?_
  refine .mv ?_
  apply wpSq_end
  refine hK5 _ _ ?_
  refine wp_seq_k ?_
  intro K6 hK6
  refine wp_block ?_
  refine wp_seq_k ?_
  intro K7 hK7
  refine rg [0, 1, 2, 3] ?_
  refine sq ?_
  refine .mv ?_
  refine sq ?_
  refine .r0 ?_
  refine sq ?_
  refine .r0 ?_
  refine sq ?_
  refine .mv ?_
  apply wpSq_end
  refine hK7 _ _ ?_
  by_cases h0 : n = 0
  · have t0 : ((n : Int) == 0) = true := by rw [h0]; rfl
    have E0 := hide (show Dt.det n (at2 A) = (1, 0) by rw [h0]; rfl)
    clear h0
    refine ct ?_
    refine wp_seq_k ?_
    intro K8 hK8
    refine rg [0, 1, 2] ?_
    refine sq ?_
    intro K hK
    go_big_op
    go_fit (gFrom_any 1 0 _ (by omega) (by omega) (by omega) (by omega))
    rintro e w_5 ⟨_, rfl, ⟨n_ga, o_ga, k_ga, c_ga, n_gb, o_gb, k_gb, c_gb, rfl, g1, g2⟩, hb_5⟩
    replace hs := hs.bl hb_5
    refine hK _ _ rfl trivial ?_
    clear hK K
    refine sq ?_
    refine .s4 hs.g3 (fun _ => hs.u3 kb_b1) ?_; clear hs; intro w_6 hs hd6 ho6
    refine sq ?_
    refine .mv ?_
    apply wpSq_end
    refine hK8 _ _ ?_
    refine wp_ret ?_
    have k5_6 := ko hd6 ho6
    replace g1 := g1.k k5_6
    replace g2 := g2.k k5_6
    try dsimp only [Exit.then, Exit.inBlock]
    obtain ⟨r0_0, r0_1, r0_2, r0_3⟩ := hs.g3.f4
    refine bodyPost_ret (v := (.tuple #[(.agg #[.bool n_ga, .slice o_ga k_ga c_ga, .bool n_gb, .slice o_gb k_gb c_gb]), (.int .i64 0)])) (by simp [results, Tryz.results5, go_sem, r0_0, r0_1, r0_2, r0_3]) rfl ?_
    exact ⟨_, rfl, .mk' (by rw [E0.out]; exact g1) (by rw [E0.out]; exact g2), hs.b⟩
  · have t0 : ((n : Int) == 0) = false := beq_eq_false_iff_ne.2 (by omega)
    have hrn := hF.1.1
    have HFD := hide hF.det
    have HFQ := hide hF.1
    clear hF
    refine cf ?_
    refine wp_seq_k ?_
    intro K8 hK8
    refine rg [0, 1, 2, 3, 4, 5] ?_
    refine sq ?_
    refine .mv ?_
    refine sq ?_
    refine .r0 ?_
    refine sq ?_
    refine .mv ?_
    refine sq ?_
    refine .r0 ?_
    refine sq ?_
    refine .r0 ?_
    refine sq ?_
    refine .mv ?_
    apply wpSq_end
    refine hK8 _ _ ?_
    by_cases hr : r < n
    · have E0 := hide (HFD.out.1 hr)
      refine ct ?_
      refine wp_seq_k ?_
      intro K9 hK9
      refine rg [0, 1, 2] ?_
      refine sq ?_
      refine .r0 ?_
      refine sq ?_
      refine .s4 hs.g3 (fun _ => hs.u3 kb_b1) ?_; clear hs; intro w_5 hs hd5 ho5
      refine sq ?_
      refine .mv ?_
      apply wpSq_end
      refine hK9 _ _ ?_
      refine wp_ret ?_
      try dsimp only [Exit.then, Exit.inBlock]
      obtain ⟨r0_0, r0_1, r0_2, r0_3⟩ := hs.g3.f4
      refine bodyPost_ret (v := (.tuple #[(.agg #[.bool false, .slice none 0 0, .bool false, .slice none 0 0]), (.int .i64 0)])) (by simp [results, Tryz.results5, go_sem, r0_0, r0_1, r0_2, r0_3]) rfl ?_
      exact ⟨_, rfl, .mk' (by rw [E0.out]; exact zc_zero _) (by rw [E0.out]; exact zc_zero _), hs.b⟩
    · obtain rfl : r = n := by omega
      have E0 := hide (HFD.out.2 rfl)
      have LV := hide (show zl L (Dt.det r A2) by
        have := HFQ.out.bd HB.out (Nat.le_refl _) (Nat.le_refl _) (r - 1) (by omega) (r - 1) (by omega) (r - 1) (by omega)
        rw [Dt.D_diag, show r - 1 + 1 = r by omega] at this
        exact this)
      have LL : Lst w_4 w.heap.size 26 4 (.slice o9 r c9) r xs := hs.1.1.1
      obtain ⟨gL, curL, rfl, xL, hcL⟩ := LL.box (by omega)
      obtain ⟨l1, l2, l3, l4, l5, l6, l7, l8, e1, e2, e3, e4, v1, v2⟩ := hL9.els (r - 1) (by rw [pvs_len]; omega)
      rw [show (pvs A2 r)[r - 1]'(by rw [pvs_len]; omega) = Dt.det r A2 by simp [pvs, show r - 1 + 1 = r by omega]] at v1 v2
      replace e1 := hcL _ _ e1
      replace e2 := hcL _ _ e2
      replace e3 := hcL _ _ e3
      replace e4 := hcL _ _ e4
      have EK : (r : Int) - 1 = ((r - 1 : Nat) : Int) := by omega
      clear LL hcL hr
      obtain ⟨r1, hr1⟩ : ∃ r1, r - 1 = r1 := ⟨_, rfl⟩
      rw [hr1] at e1 e2 e3 e4 EK
      clear hr1
      refine cf ?_
      refine wp_skip ?_
      refine hK6 _ _ ?_
      refine wp_seq_k ?_
      intro K9 hK9
      refine rg [0, 1, 2, 3, 4, 5, 6, 7, 8, 9] ?_
      refine sq ?_
      refine .mv ?_
      refine sq ?_
      refine .mv ?_
      refine sq ?_
      refine .mv ?_
      refine sq ?_
      refine .r0 ?_
      refine sq ?_
      refine .r0 ?_
      refine sq ?_
      refine .r0 ?_
      refine sq ?_
      refine .r4 ⟨xL.cell _ e1, xL.cell _ e2, xL.cell _ e3, xL.cell _ e4⟩ ?_
      refine sq ?_
      intro K hK
      go_big_op
      go_fit (dsigned_any (L := L) hs.g2 (.mk' v1 v2) LV.out hL)
      rintro e w_5 ⟨_, rfl, ⟨n_sa, o_sa, k_sa, c_sa, n_sb, o_sb, k_sb, c_sb, rfl, s1, s2⟩, hb_5⟩
      replace xL := xL.bl hb_5; replace hs := hs.bl hb_5
      refine hK _ _ rfl trivial ?_
      clear hK K
      refine sq ?_
      refine .s4 hs.g3 (fun _ => hs.u3 kb_b1) ?_; clear hs; intro w_6 hs hd6 ho6
      replace xL := xL.frame ho6 (hs.ne 0 3)
      refine sq ?_
      refine .mv ?_
      apply wpSq_end
      refine hK9 _ _ ?_
      refine wp_ret ?_
      have k5_6 := ko hd6 ho6
      replace s1 := s1.k k5_6
      replace s2 := s2.k k5_6
      try dsimp only [Exit.then, Exit.inBlock]
      obtain ⟨r0_0, r0_1, r0_2, r0_3⟩ := hs.g3.f4
      refine bodyPost_ret (v := (.tuple #[(.agg #[.bool n_sa, .slice o_sa k_sa c_sa, .bool n_sb, .slice o_sb k_sb c_sb]), (.int .i64 0)])) (by simp [results, Tryz.results5, go_sem, r0_0, r0_1, r0_2, r0_3]) rfl ?_
      exact ⟨_, rfl, .mk' (by rw [E0.out]; exact s1) (by rw [E0.out]; exact s2), hs.b⟩
end
def zs_ (z : Array Value) (m : Nat) : List Value := (Builtin.zeroCells z m).toList
theorem run_append_room_zeros {P : Program} (w : World) (t tn ty e : TypeId) (i : TypeInfo) (z : Value) (kq kn : IntKind) (ht : P.underlying t = some (.slice e)) (htn : P.underlying tn = some (.int kn)) (hi : P.info? e = some i) (hz : i.zero = some z)
    (hzs : z.cells.size = i.size) (g sLen sCap : Nat) (cur : Array Value) (hg : w.heap[g]? = some (.cells cur e (0, 0))) (m : Nat) (h1 : ∀ u ∈ zs_ z.cells m, u.oneCell' = true) (hsz : 0 < i.size)
    (hroom : sLen + m ≤ sCap) (hfit : sLen * i.size + m * i.size ≤ cur.size) (h63 : (m : Int) ≤ 9223372036854775807) (h48 : m * i.bytes ≤ 281474976710656) :
    (Builtin.append_ #[t, tn] ty #[.slice (some ⟨g, 0, none⟩) sLen sCap, .int kq m]).run P w =
      .ok (.slice (some ⟨g, 0, none⟩) (sLen + m) sCap) (w.setRow g (cur.toList.take (sLen * i.size) ++ zs_ z.cells m ++ cur.toList.drop (sLen * i.size + (zs_ z.cells m).length)).toArray) := by
  have hl : (zs_ z.cells m).length = m * i.size := by unfold zs_; rw [Array.length_toList, size_zeroCells, hzs]
  have hst := run_storeCells_at P g (sLen * i.size) e (zs_ z.cells m) 0 cur w hg (by simpa [hl] using hfit) h1
  simp only [Nat.add_zero] at hst
  have hw : IntKind.i64.wrap (m : Int) = m := by rw [IntKind.wrap_i64]; omega
  have h48i : ¬ (281474976710656 < (m : Int) * (i.bytes : Int)) := by
    rw [← Int.natCast_mul]
    omega
  have hneg : ¬ ((m : Int) < 0) := by omega
  by_cases h0 : m = 0
  · subst h0
    have e0 : zs_ z.cells 0 = [] := List.eq_nil_of_length_eq_zero (by rw [hl]; simp)
    rw [e0] at hst ⊢
    have hr0 : sLen ≤ sCap := by omega
    have hw0 : IntKind.i64.wrap (0 : Int) = 0 := by rw [IntKind.wrap_i64]; omega
    simp [Builtin.append_, run_underlying ht, run_underlying htn, sizeOf, typeInfo, hi, asInt, asIntOf, hw0, hr0, Addr.add_lit, hst]
  · have hns : ¬ (m * i.size = 0) := Nat.mul_ne_zero h0 (by omega)
    unfold zs_ at hst ⊢
    simp [Builtin.append_, run_underlying ht, run_underlying htn, sizeOf, typeInfo, zeroValue, hi, hz, asInt, asIntOf, hw, hneg, hns, h48i, hroom, Addr.add_lit, hst]
theorem Lst.appendz {P : Program} {w : World} (base : Nat) (t tn ty e : TypeId) (i : TypeInfo) (z : Value) (size bytes : Nat) (kq kn : IntKind) (ht : P.underlying t = some (.slice e)) (htn : P.underlying tn = some (.int kn)) (hi : P.info? e = some i) (hz : i.zero = some z)
    (hsize : i.size = size) (hby : i.bytes = bytes) (hzs : z.cells.size = size) (hsz : 0 < size) (hzn : z.cells.toList.all nd = true) (hz1 : z.cells.toList.all Value.oneCell' = true)
    (v : Value) (n : Nat) (xs : List Value) (hown : Lst w base e size v n xs) (m : Nat)
    (h63 : n + m ≤ maxLen) (hbytes : (n + m) * bytes ≤ 140737488355328) (hbase : base ≤ w.heap.size) :
    ∃ v' w', (Builtin.append_ #[t, tn] ty #[v, .int kq m]).run P w = .ok v' w' ∧ Lst w' base e size v' (n + m) (xs ++ zs_ z.cells m) ∧ w.grownBy w' v.ownBlock ∧ (v'.ownBlock = v.ownBlock ∨ v'.ownBlock = some w.heap.size) := by
  subst hsize
  subst hby
  have hmx : n + m ≤ 9223372036854775807 := by simp only [maxLen] at h63; omega
  have hl : (zs_ z.cells m).length = m * i.size := by unfold zs_; rw [Array.length_toList, size_zeroCells, hzs]
  have hnn : (zs_ z.cells m).all nd = true := nd_zero hzn m
  have h1 : ∀ u ∈ zs_ z.cells m, u.oneCell' = true := fun u hu => by
    unfold zs_ Builtin.zeroCells at hu
    simp only [Array.mem_toList_iff, Array.mem_map, Array.mem_range] at hu
    obtain ⟨a, ha, rfl⟩ := hu
    have hp : 0 < z.cells.size := by omega
    rw [getElem!_pos z.cells _ (Nat.mod_lt a hp)]
    exact List.all_eq_true.1 hz1 _ (by simp)
  have hlen : (xs ++ zs_ z.cells m).length = (n + m) * i.size := by rw [List.length_append, hown.1.1, hl, Nat.add_mul]
  have hmb : m * i.bytes ≤ 140737488355328 := Nat.le_trans (Nat.mul_le_mul_right _ (by omega)) hbytes
  have hnx : xs.all nd = true := by
    rcases hown.1.2 with ⟨rfl, h0⟩ | ⟨g, cap, cur, rfl, hbg, hg, hnc, hcm, hcs, htake⟩
    · have := hown.1.1
      rw [h0, Nat.zero_mul] at this
      rw [List.eq_nil_of_length_eq_zero this]; rfl
    · rw [← htake]
      have := hown.2 g cur rfl hg
      rw [List.all_eq_true] at this ⊢
      exact fun x hx => this x (List.mem_of_mem_take hx)
  have grown : ∀ (old : Nat), old < n + m → ∀ (row : Option Nat),
      Lst (w.drew.alloc (.cells (xs.toArray ++ Builtin.zeroCells z.cells m ++ Builtin.zeroCells z.cells (grownCap w (n + m) old e - (n + m))) e)) base e i.size
        (.slice (some ⟨w.heap.size, 0, none⟩) (n + m) (grownCap w (n + m) old e)) (n + m) (xs ++ zs_ z.cells m) ∧
      w.grownBy (w.drew.alloc (.cells (xs.toArray ++ Builtin.zeroCells z.cells m ++ Builtin.zeroCells z.cells (grownCap w (n + m) old e - (n + m))) e)) row := by
    intro old ho row
    have hge := grownCap_ge w (n + m) old e
    have hcm : grownCap w (n + m) old e ≤ maxLen := grownCap_le_maxLen w (n + m) old e h63
    refine ⟨⟨⟨hlen, .inr ⟨w.heap.size, _, _, rfl, hbase, heap_alloc_new w.drew _, hge, hcm, ?_, ?_⟩⟩, ?_⟩, ⟨rfl, rfl, rfl, by simp, fun k hk _ => by first | exact _root_.Go.heap_alloc_old w.drew _ hk | exact _root_.Go.heap_alloc_old w.drew _ _ hk⟩⟩
    · simp only [Array.size_append, List.size_toArray, size_zeroCells, hzs, hown.1.1, ← Nat.add_mul]
      congr 1
      omega
    · simp only [Array.toList_append, List.append_assoc]
      rw [← List.append_assoc, ← hlen]
      exact List.take_left
    · intro k cur2 hk hc
      obtain rfl : w.heap.size = k := by simpa [Value.ownBlock] using hk
      rw [show (w.drew.alloc (.cells (xs.toArray ++ Builtin.zeroCells z.cells m ++ Builtin.zeroCells z.cells (grownCap w (n + m) old e - (n + m))) e)).heap[w.heap.size]? = _ from heap_alloc_new w.drew _] at hc
      injection hc with hc
      injection hc with hc
      rw [← hc, Array.toList_append, Array.toList_append, List.all_append, List.all_append, Bool.and_eq_true, Bool.and_eq_true]
      exact ⟨⟨hnx, hnn⟩, nd_zero hzn _⟩
  rcases hown.1.2 with ⟨rfl, rfl⟩ | ⟨g, cap, cur, rfl, hbg, hg, hnc, hcm, hcs, htake⟩
  · have hx : xs = [] := List.eq_nil_of_length_eq_zero (by simpa using hown.1.1)
    subst hx
    by_cases hm : m = 0
    · subst hm
      have e0 : zs_ z.cells 0 = [] := List.eq_nil_of_length_eq_zero (by rw [hl]; simp)
      refine ⟨.slice none 0 0, w, ?_, by rw [e0]; exact Lst.nil _ _ _ _, ⟨rfl, rfl, rfl, Nat.le_refl _, fun _ _ _ => rfl⟩, Or.inl rfl⟩
      have hw : IntKind.i64.wrap (0 : Int) = 0 := by rw [IntKind.wrap_i64]; omega
      simp [Builtin.append_, run_underlying ht, run_underlying htn, sizeOf, typeInfo, zeroValue, hi, hz, asInt, asIntOf, hw]
    · have hr := Lib.run_append_nil_zeros (P := P) w t tn ty e i z kq kn ht htn hi hz m (by omega) hsz (by omega) (by omega)
      have hgr := grown 0 (by omega) (Value.ownBlock (.slice none 0 0))
      simp only [Nat.zero_add, List.nil_append, Array.empty_append] at hgr ⊢
      exact ⟨_, _, hr, hgr.1, hgr.2, Or.inr rfl⟩
  · by_cases hroom : n + m ≤ cap
    · have hfit : n * i.size + m * i.size ≤ cur.size := by rw [hcs, ← Nat.add_mul]; exact Nat.mul_le_mul_right _ hroom
      have hr := run_append_room_zeros (P := P) w t tn ty e i z kq kn ht htn hi hz hzs g n cap cur hg m h1 hsz hroom hfit (by omega) (by omega)
      refine ⟨_, _, hr, ⟨⟨hlen, .inr ⟨g, cap, _, rfl, hbg, setRow_heap w g cur _ e _ hg, hroom, hcm, ?_, ?_⟩⟩, ?_⟩, ⟨rfl, rfl, rfl, by simp, fun k _ hk => setRow_other w g k _ (fun e => hk (by simp [Value.ownBlock, e]))⟩, Or.inl rfl⟩
      · simp only [List.size_toArray, List.length_append, List.length_take, List.length_drop, Array.length_toList]
        rw [hl]
        omega
      · rw [htake, ← hlen]
        exact List.take_left
      · intro k cur2 hk hc
        obtain rfl : g = k := by simpa [Value.ownBlock] using hk
        rw [setRow_heap w g cur _ e _ hg] at hc
        injection hc with hc
        injection hc with hc
        rw [← hc]
        have h6 := hown.2 g cur rfl hg
        rw [List.all_eq_true] at h6
        rw [List.all_append, List.all_append, hnn]
        simp only [Bool.and_eq_true, List.all_eq_true, and_true]
        exact ⟨fun x hx => h6 x (List.mem_of_mem_take hx), fun x hx => h6 x (List.mem_of_mem_drop hx)⟩
    · have holds : ∀ j u, xs[j]? = some u → w.cell? ((⟨g, 0, none⟩ : Addr).add j) = some u := hown.1.cells (g := g) rfl
      have hfc := run_firstCells_some (P := P) w.drew i.size n ⟨g, 0, none⟩ n cap xs hown.1.1 (fun j u hj => holds j u hj)
      have hr := Lib.run_append_grow_zeros (P := P) w t tn ty e i z kq kn ht htn hi hz (some ⟨g, 0, none⟩) n cap xs hfc m (by omega) hsz (by omega) (by omega) (by omega) (growslice_fits (by omega) hbytes)
      have hgr := grown cap (by omega) (Value.ownBlock (.slice (some ⟨g, 0, none⟩) n cap))
      exact ⟨_, _, hr, hgr.1, hgr.2, Or.inr rfl⟩
section
variable {P : Program} {o : Oper} {a : Act} {w w0 : World} {B : Exit → Act → World → Prop} {E : World → Prop} {G : Act → World → Prop} {bs : List En}
theorem AllE.at_ : ∀ {bs : List En} {i : Nat} {en : En}, AllE bs w → bs[i]? = some en → Ok en w := by
  intro bs
  induction bs with
  | nil => intro i en _ hi; simp at hi
  | cons b t ih =>
    intro i en hA hi
    cases i with
    | zero => obtain rfl : b = en := by simpa using hi
              exact hA.1
    | succ i => exact ih hA.2 (by simpa using hi)
/-- What an append leaves: the state with the list grown. -/
theorem St.grew {v v' : Value} {n k sz i : Nat} {xs ys : List Value} {e : TypeId} {w' : World} (hs : St w0 bs w) (hi : bs[i]? = some (ls w0.heap.size e sz v n xs)) (h2 : Lst w' w0.heap.size e sz v' k ys) (h3 : w.grownBy w' v.ownBlock) (h4 : v'.ownBlock = v.ownBlock ∨ v'.ownBlock = some w.heap.size) (hu : (e == 105) = false) :
    St w0 (bs.set i (ls w0.heap.size e sz v' k ys)) w' ∧ Kp w w' ∧ Below w0.heap.size w w' := by
  have hL : Lst w w0.heap.size e sz v n xs := (AllE.at_ hs.1 hi).1
  refine ⟨?_, kp_grown h3 (hL.nod hu), ⟨h3.os, h3.tape, h3.output, h3.size, fun k hk => h3.block k (Nat.lt_of_lt_of_le hk hs.k) fun hc => Nat.lt_irrefl _ (Nat.lt_of_lt_of_le hk (hL.1.lt k hc.symm).1)⟩⟩
  refine hs.st i hi (fun k hk hne => h3.block k hk hne) h3.size (.ls h2) (fun k hk => ?_) ?_
  · rcases h4 with h5 | h5
    · exact .inl (h5.symm.trans hk)
    · right
      have h6 : some w.heap.size = some k := h5.symm.trans hk
      injection h6 with h6
      omega
  · refine ⟨h3.os.trans hs.b.os, h3.tape.trans hs.b.tape, h3.output.trans hs.b.output, Nat.le_trans hs.k h3.size, fun k hk => ?_⟩
    rw [h3.block k (Nat.lt_of_lt_of_le hk hs.k) fun hc => ?_]
    · exact hs.b.block k hk
    · have := (hL.1.lt k hc.symm).1
      omega
theorem grownBy_refl (w : World) (r : Option Nat) : w.grownBy w r := ⟨rfl, rfl, rfl, Nat.le_refl _, fun _ _ _ => rfl⟩
/-- One list of the call's own behind another. -/
theorem Stp.aps {v v2 z : Value} {n m sz : Nat} {xs ys : List Value} {e t : TypeId} {inf : TypeInfo} {sv xv : Operand} {a' : Value → Act} (i j : Nat) (hs : St w0 bs w) (h1 : ∀ u ∈ ys, u.oneCell' = true)
    (h : ∀ o' c' w', St w0 (bs.set i (ls w0.heap.size e sz (.slice o' (n + m) c') (n + m) (xs ++ ys))) w' → Kp w w' → Below w0.heap.size w w' → G (a' (.slice o' (n + m) c')) w')
    (hi : bs[i]? = some (ls w0.heap.size e sz v n xs) := by rfl) (hj : bs[j]? = some (ls w0.heap.size e sz v2 m ys) := by rfl) (hn : n + m ≤ 100000000000 := by omega)
    (ho : o.op = .call { callee := .builtin .append, args := #[sv, xv], argTypes := #[t, t] } := by rfl) (hsv : a.eval sv = v := by rfl) (hxv : a.eval xv = v2 := by rfl)
    (ht : P.underlying t = some (.slice e) := by rfl) (hinf : P.info? e = some inf := by rfl) (hz : inf.zero = some z := by rfl)
    (hsz : inf.size = sz := by rfl) (hzs : z.cells.size = sz := by rfl) (h0 : 0 < sz := by decide) (hzn : z.cells.toList.all nd = true := by rfl) (hby : inf.bytes ≤ 1000 := by decide)
    (hu : (e == 105) = false := by rfl)
    (hp : ∀ v', a.put o.dst v' = a' v' := by intro v'; unfold Act.put; simp only [List.setIfInBounds_toArray, List.set_cons_succ, List.set_cons_zero]; rfl)
    (eE : ∀ o' c' w', St w0 (bs.set i (ls w0.heap.size e sz (.slice o' (n + m) c') (n + m) (xs ++ ys))) w' → E w' := by exact fun _ _ _ _ => trivial) (hd : ∀ v', (a' v').defers = a.defers := by exact fun _ => rfl) : Stp P o a w B E G := fun K hK => by
  have hL : Lst w w0.heap.size e sz v n xs := (AllE.at_ hs.1 hi).1
  have hL2 : Lst w w0.heap.size e sz v2 m ys := (AllE.at_ hs.1 hj).1
  have key : ∃ v' w', (Builtin.append_ #[t, t] o.type #[v, v2]).run P w = .ok v' w' ∧ Lst w' w0.heap.size e sz v' (n + m) (xs ++ ys) ∧ w.grownBy w' v.ownBlock ∧ (v'.ownBlock = v.ownBlock ∨ v'.ownBlock = some w.heap.size) := by
    rcases Nat.eq_zero_or_pos m with hm | hm
    · subst hm
      have e0 : ys = [] := List.eq_nil_of_length_eq_zero (by rw [hL2.1.1, Nat.zero_mul])
      subst e0
      refine ⟨v, w, ?_, by simpa using hL, grownBy_refl _ _, .inl rfl⟩
      have hsrc : Src P inf.size t v2 0 [] w := by
        rcases hL2.1.2 with ⟨rfl, _⟩ | ⟨g, cap, cur, rfl, _⟩
        · exact Src.ofNil w ht _
        · exact Src.ofSlice w ht _ _ _ [] (by simp) (fun j u hj => by simp at hj) (fun u hu => by cases hu)
      rcases hL.1.2 with ⟨rfl, rfl⟩ | ⟨g, cap, cur, rfl, _, _, hnc, _⟩
      · exact run_append_nothing w t t o.type e inf ht hinf none 0 0 (Nat.le_refl _) v2 hsrc
      · exact run_append_nothing w t t o.type e inf ht hinf _ n cap hnc v2 hsrc
    · rcases hL2.1.2 with ⟨_, h9⟩ | ⟨g, cap, cur, rfl, hbg, hg, hnc, hcm, hcs, htake⟩
      · omega
      · have hnn : ys.all nd = true := by
          rw [← htake]
          have := hL2.2 g cur rfl hg
          rw [List.all_eq_true] at this ⊢
          exact fun x hx => this x (List.mem_of_mem_take hx)
        exact Lst.append (P := P) w0.heap.size t o.type e inf z sz inf.bytes ht hinf hz hsz rfl hzs h0 hzn v n xs hL ⟨g, 0, none⟩ m cap ys hm hL2.1.1 (hL2.1.cells (g := g) rfl) h1 hnn (by unfold maxLen; omega) (Nat.le_trans (Nat.mul_le_mul_left _ hby) (by omega)) hs.k
  obtain ⟨v', w', hr, h2, h3, h4⟩ := key
  obtain ⟨o', c', rfl⟩ := h2.shape
  obtain ⟨g1, g2, g3⟩ := St.grew hs hi h2 h3 h4 hu
  unfold Oper.wp execOp
  simp only [ho, resolve, invoke, builtin, Sem.run_bind, Sem.run_pure, Result.andThen_ok, List.map_toArray, List.map_cons, List.map_nil, hsv, hxv, hr]
  have h7 := hK (a' (.slice o' (n + m) c')) w' (hd _) (eE _ _ _ g1) (h _ _ _ g1 g2 g3)
  rw [← hp] at h7
  exact h7
/-- Zeros behind a list (append of make). -/
theorem Stp.apz {v z : Value} {n sz : Nat} {xs : List Value} {e t tn : TypeId} {inf : TypeInfo} {sv xv : Operand} {kq kn : IntKind} {zc : Array Value} {q : Int} {a' : Value → Act} (i : Nat) (m : Nat) (hq : q = (m : Nat)) (hs : St w0 bs w)
    (h : ∀ o' c' w', St w0 (bs.set i (ls w0.heap.size e sz (.slice o' (n + m) c') (n + m) (xs ++ zs_ zc m))) w' → Kp w w' → Below w0.heap.size w w' → G (a' (.slice o' (n + m) c')) w')
    (hi : bs[i]? = some (ls w0.heap.size e sz v n xs) := by rfl) (hn : n + m ≤ 100000000000 := by omega)
    (ho : o.op = .call { callee := .builtin .append, args := #[sv, xv], argTypes := #[t, tn] } := by rfl) (hsv : a.eval sv = v := by rfl) (hxv : a.eval xv = .int kq q := by rfl)
    (ht : P.underlying t = some (.slice e) := by rfl) (htn : P.underlying tn = some (.int kn) := by rfl) (hinf : P.info? e = some inf := by rfl) (hz : inf.zero = some z := by rfl)
    (hzc : z.cells = zc := by rfl) (hsz : inf.size = sz := by rfl) (hzs : z.cells.size = sz := by rfl) (h0 : 0 < sz := by decide) (hzn : z.cells.toList.all nd = true := by rfl) (hz1 : z.cells.toList.all Value.oneCell' = true := by rfl) (hby : inf.bytes ≤ 1000 := by decide)
    (hu : (e == 105) = false := by rfl)
    (hp : ∀ v', a.put o.dst v' = a' v' := by intro v'; unfold Act.put; simp only [List.setIfInBounds_toArray, List.set_cons_succ, List.set_cons_zero]; rfl)
    (eE : ∀ o' c' w', St w0 (bs.set i (ls w0.heap.size e sz (.slice o' (n + m) c') (n + m) (xs ++ zs_ zc m))) w' → E w' := by exact fun _ _ _ _ => trivial) (hd : ∀ v', (a' v').defers = a.defers := by exact fun _ => rfl) : Stp P o a w B E G := fun K hK => by
  subst hq
  subst hzc
  have hL : Lst w w0.heap.size e sz v n xs := (AllE.at_ hs.1 hi).1
  obtain ⟨v', w', hr, h2, h3, h4⟩ := Lst.appendz (P := P) w0.heap.size t tn o.type e inf z sz inf.bytes kq kn ht htn hinf hz hsz rfl hzs h0 hzn hz1 v n xs hL m (by unfold maxLen; omega) (Nat.le_trans (Nat.mul_le_mul_left _ hby) (by omega)) hs.k
  obtain ⟨o', c', rfl⟩ := h2.shape
  obtain ⟨g1, g2, g3⟩ := St.grew hs hi h2 h3 h4 hu
  unfold Oper.wp execOp
  simp only [ho, resolve, invoke, builtin, Sem.run_bind, Sem.run_pure, Result.andThen_ok, List.map_toArray, List.map_cons, List.map_nil, hsv, hxv, hr]
  have h7 := hK (a' (.slice o' (n + m) c')) w' (hd _) (eE _ _ _ g1) (h _ _ _ g1 g2 g3)
  rw [← hp] at h7
  exact h7
/-- A block laid out whole, as a list. -/
theorem St.lsOf {p n sz : Nat} {cs : List Value} {ty : TypeId} (hs : St w0 (bx p cs.toArray ty :: bs) w) (hB : Hid (w0.heap.size ≤ p)) (hn : cs.length = n * sz) (hnd : cs.all nd = true) (hm : n ≤ maxLen) : St w0 (ls w0.heap.size ty sz (.slice (some ⟨p, 0, none⟩) n n) n cs :: bs) w := by
  obtain ⟨⟨h1, h2⟩, h3, h4⟩ := hs
  exact ⟨⟨.ls (Lst.ofBs h1.1 hB hn hnd hm), h2⟩, h3, h4⟩
end
theorem gd_made (w : World) : ∀ k, GD w (madeCells #[.bool false, .slice none 0 0, .bool false, .slice none 0 0] (k * 4)).toList (List.replicate k (0, 0)) := by
  have key : ∀ n, (madeCells #[.bool false, .slice none 0 0, .bool false, .slice none 0 0] n).toList = (List.range n).map fun j => if j % 2 = 0 then Value.bool false else .slice none 0 0 := fun n => by
    unfold madeCells
    rw [Array.toList_map, Array.toList_range]
    refine List.map_congr_left fun j _ => ?_
    show (#[Value.bool false, .slice none 0 0, .bool false, .slice none 0 0] : Array Value)[j % 4]! = _
    have h : j % 4 = 0 ∨ j % 4 = 1 ∨ j % 4 = 2 ∨ j % 4 = 3 := by omega
    rcases h with h | h | h | h <;> rw [h]
    · rw [if_pos (by omega)]; rfl
    · rw [if_neg (by omega)]; rfl
    · rw [if_pos (by omega)]; rfl
    · rw [if_neg (by omega)]; rfl
  intro k
  induction k with
  | zero => rw [key]; trivial
  | succ k ih =>
    rw [key] at ih ⊢
    rw [List.replicate_succ, show (k + 1) * 4 = k * 4 + 1 + 1 + 1 + 1 by omega, List.range_succ_eq_map, List.range_succ_eq_map, List.range_succ_eq_map, List.range_succ_eq_map]
    simp only [List.map_cons, List.map_map]
    refine ⟨.mk' (zc_zero w) (zc_zero w), ?_⟩
    have e : (fun j => if j % 2 = 0 then Value.bool false else .slice none 0 0) ∘ Nat.succ ∘ Nat.succ ∘ Nat.succ ∘ Nat.succ = fun j => if j % 2 = 0 then Value.bool false else .slice none 0 0 := by
      funext j
      simp only [Function.comp, Nat.succ_eq_add_one]
      by_cases h : j % 2 = 0
      · rw [if_pos h, if_pos (by omega)]
      · rw [if_neg h, if_neg (by omega)]
    rw [e]; exact ih
theorem rows_one {w0 w : World} {es : List En} {rs : List Rw} (hs : St w0 es w) (hr : ∀ r ∈ rs, r.e w0.heap.size ∈ es) : ∀ u ∈ rs.map (·.v), u.oneCell' = true := by
  have key : ∀ {l : List En}, AllE l w → ∀ e ∈ l, Ok e w := by
    intro l
    induction l with
    | nil => intro _ e he; cases he
    | cons a t ih => intro h e he; rcases List.mem_cons.1 he with rfl | he; exact h.1; exact ih h.2 e he
  intro u hu
  obtain ⟨r, h1, rfl⟩ := List.mem_map.1 hu
  have L : Lst w w0.heap.size 26 4 r.v r.n r.xs := (key hs.1 _ (hr r h1)).1
  obtain ⟨o, c, e⟩ := L.shape
  rw [e]; rfl
/-- The first i rows are made. -/
def bk (r k i : Nat) : List (List (Int × Int)) := (List.range r).map fun p => if p < i then List.replicate k (0, 0) else []
section
variable {r k i : Nat}
theorem bk_0 : bk r k 0 = List.replicate r [] := by
  refine List.eq_replicate_iff.2 ⟨by simp [bk], fun x hx => ?_⟩
  obtain ⟨p, _, rfl⟩ := List.mem_map.1 hx
  rw [if_neg (Nat.not_lt_zero _)]
theorem bk_get (hi : i < r) : (bk r k i)[i]'(by simp [bk, hi]) = [] := by simp [bk]
theorem bk_set (hi : i < r) : (bk r k i).set i (List.replicate k (0, 0)) = bk r k (i + 1) := by
  refine List.ext_getElem (by simp [bk]) fun p h1 h2 => ?_
  simp only [bk, List.getElem_set, List.getElem_map, List.getElem_range]
  by_cases e : i = p
  · rw [if_pos e, if_pos (by omega)]
  · rw [if_neg e]
    by_cases e2 : p < i
    · rw [if_pos e2, if_pos (by omega)]
    · rw [if_neg e2, if_neg (by omega)]
theorem bk_end : bk r k r = mkM r k fun _ _ => (0, 0) := List.map_congr_left fun p hp => by
  rw [if_pos (List.mem_range.1 hp)]
  exact (List.eq_replicate_iff.2 ⟨by simp, fun x hx => by obtain ⟨_, _, rfl⟩ := List.mem_map.1 hx; rfl⟩).symm
end
section
variable {w : World} {r k : Nat}
set_option maxHeartbeats 4000000 in
set_option maxRecDepth 20000 in
theorem blank_any (hr : r ≤ 1000) (hk : k ≤ 1000) :
    Calls Tryz.prog 38 #[.int .i64 (r : Int), .int .i64 (k : Int)] w fun e w' => ∃ o c rs, e = .returned (.slice o r c) ∧ rs.length = r ∧ St w (Mx w.heap.size (.slice o r c) rs) w' ∧ RD w' rs (mkM r k fun _ _ => (0, 0)) ∧ Below w.heap.size w w' := by
  go_enter Tryz.func38, Tryz.ntmps38
  have hs := St.nil w
  refine wp_seq_k ?_
  intro K1 hK1
  refine rg [0] ?_
  refine sq ?_
  refine .mv ?_
  apply wpSq_end
  refine hK1 _ _ ?_
  refine wp_seq_k ?_
  intro K2 hK2
  refine rg [0, 1, 2] ?_
  refine sq ?_
  refine .mv ?_
  refine sq ?_
  refine .mk (n := r) hs ?_ (by first | rfl | omega) (by omega); clear hs; intro g_l xs_l w_1 hs e_l n1 kb_l
  refine sq ?_
  refine .mv ?_
  apply wpSq_end
  refine hK2 _ _ ?_
  refine wp_seq_k ?_
  intro K3 hK3
  refine wp_seq_k ?_
  intro K4 hK4
  refine rg [0, 1, 2] ?_
  refine sq ?_
  refine .mv ?_
  refine sq ?_
  refine .r0 ?_
  refine sq ?_
  refine .mv ?_
  apply wpSq_end
  refine hK4 _ _ ?_
  refine wp_block ?_
  replace e_l : xs_l = List.replicate r (Value.slice none 0 0) := e_l.trans (made_one (.slice none 0 0) r)
  have hs := hs.nils r
  rw [e_l, show List.replicate r (Value.slice none 0 0) = (List.replicate r (⟨.slice none 0 0, 0, []⟩ : Rw)).map (·.v) by simp] at hs
  clear e_l
  have hd2 := hs.2.1
  go_loopg [11] r (fun kz s11 wr => ∃ (i : Nat) (rs : List Rw), s11 = .int .i64 (i : Int) ∧ i + kz = r ∧ rs.length = r ∧ RD wr rs (bk r k i) ∧ St w (ls w.heap.size 28 1 (.slice (some ⟨g_l, 0, none⟩) r r) r (rs.map (·.v)) :: ([] ++ rs.map (Rw.e w.heap.size))) wr)
  case atStart => exact ⟨0, _, rfl, by omega, by simp, by rw [bk_0]; exact RD.nils r, hs⟩
  case round =>
  clear hs
  obtain ⟨i, rs, rfl, hir, hrl, hd, hs⟩ := hrel
  by_cases hi : i < r
  · have HI := hide hi
    obtain ⟨r1, oR, cR, xs, r2, rfl, hr1, hrv, hx, hs⟩ := hs.row0 (bs := []) hd (p := i) (by simp [bk]; exact HI.out)
    replace hs := hs.sub (.cons _ (List.Sublist.refl _))
    simp only [bk_get HI.out, List.length_nil] at hs
    refine wp_seq_k ?_
    intro K5 hK5
    refine rg [0] ?_
    refine sq ?_
    refine .r0 ?_
    apply wpSq_end
    refine hK5 _ _ ?_
    refine wp_seq_k ?_
    intro K6 hK6
    refine ct ?_
    refine wp_skip ?_
    refine hK6 _ _ ?_
    refine wp_seq_k ?_
    intro K7 hK7
    refine wp_block ?_
    refine wp_seq_k ?_
    intro K8 hK8
    refine rg [0, 1] ?_
    refine sq ?_
    refine .mv ?_
    refine sq ?_
    refine .mv ?_
    apply wpSq_end
    refine hK8 _ _ ?_
    refine rg [0, 1, 2, 3, 4, 5] ?_
    refine sq ?_
    refine .mv ?_
    refine sq ?_
    refine .mv ?_
    refine sq ?_
    refine .mv ?_
    refine sq ?_
    refine .mk (n := k) hs ?_ (by first | rfl | omega) (by omega); clear hs; intro g_z xs_z w_3 hs e_z n3 kb_z
    refine sq ?_
    refine .r0 ?_
    refine sq ?_
    refine .i1 1 hs (j := i) (by exact HI.out) ?_; clear hs; intro w_4 hs kp4 hd4 ho4 hw4; simp only [List.set_cons_succ, List.set_cons_zero] at hs
    apply wpSq_end
    refine hK7 _ _ ?_
    refine rg [0, 1] ?_
    refine sq ?_
    refine .r0 ?_
    refine sq ?_
    refine .mv ?_
    apply wpSq_end
    have k0_2 := (kb n3).t kp4
    replace hd := hd.k k0_2
    refine ‹∀ (a' : Act) (w' : World), Handed _ _ a' w' → _› _ _ ?_
    have hz : GD w_4 xs_z (List.replicate k (0, 0)) := by rw [show xs_z = _ from e_z]; exact gd_made _ k
    have hs := St.unrow0 (bs := []) hs hr1
    have hd := RD.set' (n := k) (m := List.replicate k (0, 0)) (v := .slice (some ⟨g_z, 0, none⟩) k k) (by simp) hz hd hr1
    rw [bk_set HI.out] at hd
    go_roundg (gk - 1)
    case rel => exact ⟨i + 1, _, by rfl, by omega, by simpa using hrl, hd, hs⟩
    case measure => omega
  · obtain rfl : r = i := by omega
    have HX := hide hi
    refine wp_seq_k ?_
    intro K5 hK5
    refine rg [0] ?_
    refine sq ?_
    refine .r0 ?_
    apply wpSq_end
    refine hK5 _ _ ?_
    refine wp_seq_k ?_
    intro K6 hK6
    refine cf ?_
    refine wp_exit ?_
    refine hK3 _ _ ?_
    refine wp_seq_k ?_
    intro K7 hK7
    refine rg [0, 1] ?_
    refine sq ?_
    refine .mv ?_
    refine sq ?_
    refine .mv ?_
    apply wpSq_end
    refine hK7 _ _ ?_
    refine wp_ret ?_
    try dsimp only [Exit.then, Exit.inBlock]
    refine bodyPost_ret (v := (.slice (some ⟨g_l, 0, none⟩) r r)) (by simp [results, Tryz.results38, go_sem]) rfl ?_
    exact ⟨_, _, rs, rfl, hrl, (by unfold Mx; rw [hrl]; exact hs), by rw [← bk_end]; exact hd, hs.b⟩
end
/-- An own matrix that stands among the state's entries can be read. -/
theorem MCof {w0 w : World} {es : List En} {n c : Nat} {o : Option Addr} {rs : List Rw} {vs : List Value} {Ms : List (List (Int × Int))} (hs : St w0 es w) (hm : ls w0.heap.size 28 1 (.slice o n c) n vs ∈ es) (hv : rs.map (·.v) = vs) (hr : ∀ r ∈ rs, r.e w0.heap.size ∈ es) (hn : rs.length = n) (hd : RD w rs Ms) : MC w o Ms := by
  have key : ∀ {l : List En}, AllE l w → ∀ e ∈ l, Ok e w := by
    intro l
    induction l with
    | nil => intro _ e he; cases he
    | cons a t ih => intro h e he; rcases List.mem_cons.1 he with rfl | he; exact h.1; exact ih h.2 e he
  have hM : AllE (rs.map (Rw.e w0.heap.size)) w := by
    have : ∀ {rs : List Rw}, (∀ r ∈ rs, Ok (r.e w0.heap.size) w) → AllE (rs.map (Rw.e w0.heap.size)) w := by
      intro rs
      induction rs with
      | nil => intro _; trivial
      | cons a t ih => intro h; exact ⟨h a (List.mem_cons_self ..), ih fun r hr => h r (List.mem_cons_of_mem _ hr)⟩
    exact this fun r h => key hs.1 _ (hr r h)
  subst hv hn
  have L : Lst w w0.heap.size 28 1 (.slice o rs.length c) rs.length (rs.map (·.v)) := (key hs.1 _ hm).1
  have hn := hd.len
  rcases Nat.eq_zero_or_pos rs.length with h0 | h0
  · exact .inl (List.eq_nil_of_length_eq_zero (by omega))
  · obtain ⟨g, cur, rfl, x, hc⟩ := L.box h0
    refine .inr ⟨g, 0, cur, _, _, rfl, x, fun i hi => ?_⟩
    obtain ⟨r, h1, h2, h3⟩ := hd.get i hi
    have h4 : (rs.map (Rw.e w0.heap.size))[i]? = some (r.e w0.heap.size) := by rw [List.getElem?_map, h1]; rfl
    have L2 : Lst w w0.heap.size 26 4 r.v r.n r.xs := (hM.at h4).1
    obtain ⟨o2, c2, e⟩ := L2.shape
    have h5 : (rs.map (·.v))[i]? = some r.v := by rw [List.getElem?_map, h1]; rfl
    have := hc _ _ h5
    rw [e] at L2
    exact ⟨o2, c2, by rw [Nat.zero_add, this, e, h2], (L2.sc h3).2⟩
theorem RD.app {w : World} {ts : List Rw} {Ns : List (List (Int × Int))} (h2 : RD w ts Ns) : ∀ {rs : List Rw} {Ms : List (List (Int × Int))}, RD w rs Ms → RD w (rs ++ ts) (Ms ++ Ns)
  | [], [], _ => h2
  | _ :: _, _ :: _, h => ⟨h.1, RD.app h2 h.2⟩
section
variable {n k K nb : Nat} {F : Nat → Nat → Int × Int} {B : List (List (Int × Int))}
theorem brd_top (hK : 0 < n → K = k) : ((List.range n).map fun r => [mkM n k F, mkM n n one2].flatMap (rw_ · r)) = mkM n (K + n) (brdG n K F (at2 B)) := by
  refine List.map_congr_left fun r hr => ?_
  have hr : r < n := List.mem_range.1 hr
  obtain rfl := hK (by omega)
  have e : ∀ {W : Nat} {G : Nat → Nat → Int × Int}, rw_ (mkM n W G) r = (List.range W).map (G r) := by
    intro W G; simp [rw_, mkM, List.getD, hr]
  simp only [List.flatMap_cons, List.flatMap_nil, List.append_nil, e]
  refine List.ext_getElem (by simp) fun j h1 h2 => ?_
  have hj : j < K + n := by simpa using h2
  simp only [List.getElem_map, List.getElem_range]
  unfold brdG
  rw [if_pos hr]
  by_cases c : j < K
  · rw [List.getElem_append_left (by simp [c]), if_pos c]; simp
  · rw [List.getElem_append_right (by simp; omega), if_neg c]
    simp only [List.length_map, List.length_range, List.getElem_map, List.getElem_range]
    rfl
theorem brd_low (hB : B.length = nb) (hK : ∀ i, i < nb → (rw_ B i).length = K) : ((List.range nb).map fun r => [B, mkM nb n fun _ _ => (0, 0)].flatMap (rw_ · r)) = (List.range nb).map fun r => (List.range (K + n)).map (brdG n K F (at2 B) (n + r)) := by
  refine List.map_congr_left fun r hr => ?_
  have hr : r < nb := List.mem_range.1 hr
  have e : rw_ (mkM nb n fun _ _ => ((0 : Int), (0 : Int))) r = (List.range n).map fun _ => (0, 0) := by simp [rw_, mkM, List.getD, hr]
  have hl := hK r hr
  simp only [List.flatMap_cons, List.flatMap_nil, List.append_nil, e]
  refine List.ext_getElem (by simp [hl]) fun j h1 h2 => ?_
  have hj : j < K + n := by simpa using h2
  simp only [List.getElem_map, List.getElem_range]
  unfold brdG
  rw [if_neg (by omega), Nat.add_sub_cancel_left]
  by_cases c : j < K
  · rw [List.getElem_append_left (by omega), if_pos c]
    simp [at2, at1, List.getD, hl, c]
  · rw [List.getElem_append_right (by omega), if_neg c]
    simp only [List.getElem_map]
    rfl
theorem mkM_app {W : Nat} {G : Nat → Nat → Int × Int} : mkM n W G ++ ((List.range nb).map fun r => (List.range W).map (G (n + r))) = mkM (n + nb) W G := by
  unfold mkM
  rw [List.range_add, List.map_append, List.map_map]
  rfl
end
theorem smTwo {l n p c1 c2 : Nat} {w : World} {ty : TypeId} {fz : Nat × Nat} {o1 o2 : Option Addr} {A B : List (List (Int × Int))} (x : Bs w p #[.slice o1 n c1, .slice o2 n c2] ty fz) (h1 : MN l w o1 A) (h2 : MN l w o2 B) (e1 : A.length = n) (e2 : B.length = n) : SM l n w (some ⟨p, 0, none⟩) [A, B] :=
  ⟨p, _, ty, fz, rfl, x, fun i hi => match i, hi with
    | 0, _ => ⟨e1, o1, c1, rfl, h1⟩
    | 1, _ => ⟨e2, o2, c2, rfl, h2⟩⟩
theorem bdM_mk {l r k : Nat} {F : Nat → Nat → Int × Int} (h : ∀ i, i < r → ∀ j, j < k → zl l (F i j)) : BdM l (mkM r k F) := fun q hq p hp => by
  obtain ⟨i, hi, rfl⟩ := List.mem_map.1 hq
  obtain ⟨j, hj, rfl⟩ := List.mem_map.1 hp
  exact h i (List.mem_range.1 hi) j (List.mem_range.1 hj)
theorem zl_one2 (l i j : Nat) : zl (l + 1) (one2 i j) := zl_up (zl_one i j) (by omega)
theorem mkM_wid {r k i : Nat} {F : Nat → Nat → Int × Int} : (rw_ (mkM r k F) i).length ≤ k := by
  rcases Nat.lt_or_ge i r with h | h
  · simp [rw_, mkM, List.getD, h]
  · simp [rw_, mkM, List.getD, h]
section
variable {w w0 : World} {la lb n k K nb ca cb : Nat} {oa ob : Option Addr} {bs : List En} {A B : List (List (Int × Int))}
set_option maxHeartbeats 4000000 in
set_option maxRecDepth 20000 in
theorem bordered_any (hst : St w0 bs w) (ha : MN la w0 oa A) (hna : A.length = n) (h : gd A) (hk : wd A = k) (hb' : ∀ w', St w0 bs w' → Kp w w' → MN lb w' ob B) (hnb : B.length = nb) (hK : ∀ i, i < nb → (rw_ B i).length = K) (hKk : 0 < n → K = k) (hKl : K ≤ 2000000) (hnb2 : nb ≤ 100) (hla : la ≤ 10000000) (hlb : lb ≤ 10000000) :
    Calls Tryz.prog 37 #[.slice oa n ca, .slice ob nb cb] w fun e w' => ∃ p o c rs, e = .returned (.pointer (some ⟨p, 0, none⟩)) ∧ Hid (w0.heap.size ≤ p) ∧ rs.length = n + nb ∧ RD w' rs (mkM (n + nb) (K + n) (brdG n K (at2 A) (at2 B))) ∧
      St w0 (ls w0.heap.size 28 1 (.slice o (n + nb) c) (n + nb) (rs.map (·.v)) :: bx p #[.slice o (n + nb) c, .int .i64 (n : Int), .int .i64 (k : Int), .bool false] 77 :: (bs ++ rs.map (Rw.e w0.heap.size))) w' ∧ Kp w w' := by
  have HA := hide ha
  have H := hide h
  have HK := hide hk
  have HB := hide hb'
  have HKK := hide hKk
  have HKB := hide hK
  have hn64 : n ≤ 64 := by have := h.1; omega
  have hk64 : k ≤ 64 := by have := h.2.1; omega
  have BT := hide (show BdM (la + 1) (mkM n k (at2 A)) from bdM_mk fun i _ j _ => zl_up (at2_bd ha.bd) (by omega))
  have B1 := hide (show BdM (la + 1) (mkM n n one2) from bdM_mk fun i _ j _ => zl_one2 _ _ _)
  have B0 := hide (show BdM lb (mkM nb n fun _ _ => (0, 0)) from bdM_mk fun i _ j _ => zl_0 _)
  have HR1 := hide (show ∀ M ∈ [mkM n k (at2 A), mkM n n one2], ∀ i, (rw_ M i).length ≤ 3000000 from fun M hM i => by
    simp only [List.mem_cons, List.not_mem_nil, or_false] at hM
    rcases hM with rfl | rfl <;> exact Nat.le_trans mkM_wid (by omega))
  have HR2 := hide (show ∀ M ∈ [B, mkM nb n fun _ _ => (0, 0)], ∀ i, (rw_ M i).length ≤ 3000000 from fun M hM i => by
    simp only [List.mem_cons, List.not_mem_nil, or_false] at hM
    rcases hM with rfl | rfl
    · rcases Nat.lt_or_ge i nb with c | c
      · rw [hK i c]; omega
      · simp [rw_, List.getD, show M.length ≤ i by omega]
    · exact Nat.le_trans mkM_wid (by omega))
  have kk := KpF.r w
  clear ha h hk hb' hKk hK
  go_enter Tryz.func37, Tryz.ntmps37
  have hs := hst
  clear hst
  refine wp_seq_k ?_
  intro K1 hK1
  refine rg [0] ?_
  refine sq ?_
  refine .mv ?_
  apply wpSq_end
  refine hK1 _ _ ?_
  refine wp_seq_k ?_
  intro K2 hK2
  refine rg [0, 1, 2] ?_
  refine sq ?_
  refine .mv ?_
  refine sq ?_
  intro K hK
  go_big_op
  go_fit (laid_any hs HA.out hna H.out HK.out (by omega))
  have bb1 := hs.b
  rintro e w_1 ⟨p_t, o_t, c_t, rs_t, rfl, kb_bt, hl_t, hd, hs', kp1⟩
  clear hs; have hs := hs'; clear hs'
  have bc1 := hs.b
  clear bb1 bc1
  refine hK _ _ rfl trivial ?_
  clear hK K
  refine sq ?_
  refine .mv ?_
  apply wpSq_end
  refine hK2 _ _ ?_
  refine wp_seq_k ?_
  intro K3 hK3
  refine rg [0, 1, 2, 3, 4, 5, 6, 7, 8, 9] ?_
  refine sq ?_
  refine .mv ?_
  refine sq ?_
  refine .r0 ?_
  refine sq ?_
  refine .r0 ?_
  refine sq ?_
  refine .r4 hs.g1.f4 ?_
  refine sq ?_
  intro K hK
  go_big_op
  go_fit (mIdent_ok hn64)
  rintro e w_2 ⟨o_I, c_I, rs_I, rfl, hl_I, hs_I, d_I, hb_2⟩
  replace hs := hs.mx hl_I hs_I; simp only [List.cons_append] at hs
  refine hK _ _ rfl trivial ?_
  clear hK K
  refine sq ?_
  refine .mv ?_
  refine sq ?_
  refine .r0 ?_
  refine sq ?_
  refine .r0 ?_
  refine sq ?_
  refine .mv ?_
  refine sq ?_
  refine .mv ?_
  apply wpSq_end
  refine hK3 _ _ ?_
  refine wp_seq_k ?_
  intro K4 hK4
  refine wp_region_f4 [(0, false), (1, false), (2, false), (3, false), (4, false), (5, false), (8, false), (9, false), (10, false), (11, false), (12, false), (13, false), (14, false), (6, true), (7, true), (15, true), (16, true), (17, true)] [18, 19, 20, 21] [] (fun _ => default) [99, 99, 99, 99, 0, 99, 99, 99, 99, 99, 99, 99, 99, 99, 0, 99, 99, 99, 99, 99, 99, 99] [(21, 0)] (.c hs.g2 .n) fn fun w_3 n3 => ?_
  replace hs := hs.bl n3
  refine fmv ?_
  refine fmv ?_
  refine f0 ?_
  refine f0 ?_
  refine f4 ?_
  refine fmv ?_
  refine fmv ?_
  refine fmv ?_
  refine fb ?_
  refine fmv ?_
  refine f0 ?_
  refine f0 ?_
  refine f4 ?_
  refine fl fun w_4 n4 => ?_
  replace hs := hs.bl n4
  refine .al hs ?_ (e := fun _ _ hs n => ⟨n, (And.intro hs.g3 trivial)⟩); clear hs; intro p_b1 w_5 hs n5 kb_b1
  refine fl fun w_6 n6 => ?_
  replace hs := hs.bl n6
  intro K hK
  have k1_6 := ((((kb hb_2).b n3).b n4).b n5).b n6
  replace hd := hd.k k1_6
  have k2_6 := (((kb n3).b n4).b n5).b n6
  replace d_I := d_I.k k2_6
  go_big_op
  go_fit (dbeside_any (l := la + 1) (Mss := [mkM n k (at2 A), mkM n n one2]) (smTwo hs.g0 ((MCof (c := c_t) hs (by simp) rfl (fun r hr ↦ by simp [List.mem_map_of_mem hr]) hl_t hd).mn BT.out) ((MCof (c := c_I) hs (by simp) rfl (fun r hr ↦ by simp [List.mem_map_of_mem hr]) hl_I d_I).mn B1.out) len_mkM len_mkM) rfl (by decide) (by omega) HR1.out (by decide) (by omega))
  rintro e w_7 ⟨o_X, c_X, rs_X, rfl, hl_X, hs_X, d_X, hb_7⟩
  replace hs := hs.mx hl_X hs_X; simp only [List.cons_append] at hs
  rw [brd_top (B := B) HKK.out] at d_X
  refine hK _ _ rfl ⟨hb_7, (And.intro hs.g4 trivial)⟩ ?_
  clear hK K
  refine fl fun w_8 n8 => ?_
  replace hs := hs.bl n8
  intro K hK
  go_big_op
  go_fit (blank_any (r := nb) (k := n) (by omega) (by omega))
  rintro e w_9 ⟨o_Z, c_Z, rs_Z, rfl, hl_Z, hs_Z, d_Z, hb_9⟩
  replace hs := hs.mx hl_Z hs_Z; simp only [List.cons_append] at hs
  refine hK _ _ rfl ⟨hb_9, (And.intro hs.g5 trivial)⟩ ?_
  clear hK K
  refine fl fun w_10 n10 => ?_
  replace hs := hs.bl n10
  refine .al hs ?_ (e := fun _ _ hs n => ⟨n, (And.intro hs.g6 trivial)⟩); clear hs; intro p_b2 w_11 hs n11 kb_b2
  refine fl fun w_12 n12 => ?_
  replace hs := hs.bl n12
  intro K hK
  have k0_12 := ((((((((((kp1.b hb_2).b n3).b n4).b n5).b n6).b hb_7).b n8).b hb_9).b n10).b n11).b n12
  replace kk := kk.k k0_12
  have k9_12 := ((kb n10).b n11).b n12
  replace d_Z := d_Z.k k9_12
  go_big_op
  go_fit (dbeside_any (l := lb) (Mss := [B, mkM nb n fun _ _ ↦ (0, 0)]) (smTwo hs.g0 (HB.out _ (hs.sub (.cons _ (.cons _ (.cons _ (.cons _ (.cons _ (.cons _ (.cons _ ((((List.sublist_append_left bs _).trans (List.sublist_append_left _ _)).trans (List.sublist_append_left _ _)).trans (List.sublist_append_left _ _)))))))))) kk.kp) ((MCof (c := c_Z) hs (by simp) rfl (fun r hr ↦ by simp [List.mem_map_of_mem hr]) hl_Z d_Z).mn B0.out) hnb len_mkM) rfl (by decide) (by omega) HR2.out (by decide) (by omega))
  rintro e w_13 ⟨o_Y, c_Y, rs_Y, rfl, hl_Y, hs_Y, d_Y, hb_13⟩
  replace hs := hs.mx hl_Y hs_Y; simp only [List.cons_append] at hs
  rw [brd_low (F := at2 A) hnb HKB.out] at d_Y
  refine hK _ _ rfl ⟨hb_13, (And.intro hs.g7 trivial)⟩ ?_
  clear hK K
  refine e0 hs ?_; clear hs; intro w_14 hs n14
  refine tl ?_
  have k7_14 := ((((((kb n8).b hb_9).b n10).b n11).b n12).b hb_13).b n14
  replace d_X := d_X.k k7_14
  have k13_14 := kb n14
  replace d_Y := d_Y.k k13_14
  have ho15 := rows_one hs (rs := rs_Y) (fun r hr => by simp [List.mem_map_of_mem hr])
  refine .aps 3 0 hs ho15 ?_ (eE := fun _ _ _ hs => (And.intro hs.g7 True.intro)); clear hs ho15; intro o_X_15 c_X_15 w_15 hs kp15 hw15; simp only [List.set_cons_succ, List.set_cons_zero] at hs
  refine tl ?_
  refine .r0 ?_ (e := (And.intro hs.g7 True.intro))
  refine tl ?_
  refine .r0 ?_ (e := (And.intro hs.g7 True.intro))
  refine tl ?_
  intro K hK
  have xs := hs.g7
  obtain ⟨d0, d1, d2, d3⟩ := hs.g7.f4
  have f0 := xs.free 0
  go_big_op
  have hd16 := xs.nod rfl rfl
  obtain ⟨w_16, eW, xs', ho16⟩ : ∃ w', (w_15.setCell ⟨p_t, 0, none⟩ ((.slice o_X_15 (n + nb) c_X_15))) = w' ∧ Bs w' p_t #[(.slice o_X_15 (n + nb) c_X_15), .int .i64 (n : Int), .int .i64 (k : Int), .bool false] 77 ∧ Only p_t w_15 w' := xs.setN [(0, (.slice o_X_15 (n + nb) c_X_15))]
  rw [eW]; clear eW d0 d1 d2 d3 f0 xs
  replace hs := hs.u7 kb_bt xs' ho16; clear xs'
  refine hK _ _ rfl (And.intro True.intro True.intro) ?_; clear hK K
  apply wpTail_end
  refine hK4 _ _ ?_
  refine wp_seq_k ?_
  intro K5 hK5
  refine rg [0, 1] ?_
  refine sq ?_
  refine .mv ?_
  refine sq ?_
  refine .mv ?_
  apply wpSq_end
  refine hK5 _ _ ?_
  refine wp_ret ?_
  have k14_16 := kp15.o hd16 ho16
  replace d_X := d_X.k k14_16
  replace d_Y := d_Y.k k14_16
  have k12_16 := (((kb hb_13).b n14).t kp15).o hd16 ho16
  replace kk := kk.k k12_16
  try dsimp only [Exit.then, Exit.inBlock]
  refine bodyPost_ret (v := (.pointer (some ⟨p_t, 0, none⟩))) (by simp [results, Tryz.results37, go_sem]) rfl ?_
  exact ⟨_, _, _, rs_X ++ rs_Y, rfl, kb_bt, by rw [List.length_append, hl_X, hl_Y], by rw [← mkM_app]; exact RD.app d_Y d_X, hs.sub (by
    rw [List.map_append, List.map_append, ← List.append_assoc]
    exact .cons _ (.cons _ (.cons _ (.cons_cons _ (.cons _ (.cons _ (.cons _ (.cons_cons _ (List.Sublist.append (((List.Sublist.append ((List.sublist_append_left bs _).trans (List.sublist_append_left _ _)) (List.Sublist.refl _)).trans (List.sublist_append_left _ _))) (List.Sublist.refl _)))))))))), kk.kp⟩
theorem St.mxb {w0 w w' : World} {bs : List En} {v : Value} {rs : List Rw} {n p : Nat} {cs : Array Value} {ty : TypeId} (hs : St w0 bs w) (hn : rs.length = n) (h : St w (ls w.heap.size 28 1 v n (rs.map (·.v)) :: bx p cs ty :: ([] ++ rs.map (Rw.e w.heap.size))) w') (hp : Hid (w.heap.size ≤ p)) :
    St w0 (ls w0.heap.size 28 1 v n (rs.map (·.v)) :: bx p cs ty :: (bs ++ rs.map (Rw.e w0.heap.size))) w' := by
  rw [List.nil_append] at h
  have hge : ∀ {rs : List Rw}, AllE (rs.map (Rw.e w.heap.size)) w' → AllE (rs.map (Rw.e w0.heap.size)) w' ∧ (rs.map (Rw.e w0.heap.size)).map (·.1) = (rs.map (Rw.e w.heap.size)).map (·.1) ∧ ∀ e ∈ rs.map (Rw.e w.heap.size), ∀ k, e.1 = some k → w.heap.size ≤ k := by
    intro rs
    induction rs with
    | nil => exact fun _ => ⟨trivial, rfl, fun e he => by cases he⟩
    | cons r t ih =>
      intro ha
      obtain ⟨h1, h2, h3⟩ := ih ha.2
      refine ⟨⟨ls_mono ha.1 hs.k, h1⟩, by simp only [List.map_cons, List.cons.injEq]; exact ⟨rfl, h2⟩, fun e he k hk => ?_⟩
      rcases List.mem_cons.1 he with rfl | he
      · have h9 : Lst w' w.heap.size 26 4 r.v r.n r.xs := ha.1.1
        exact (h9.1.lt k hk).1
      · exact h3 e he k hk
  obtain ⟨h1, h2, h3⟩ := hge h.1.2.2
  have h0 : Ok (ls w0.heap.size 28 1 v n (rs.map (·.v))) w' := ls_mono h.1.1 hs.k
  have st : St w0 ((ls w0.heap.size 28 1 v n (rs.map (·.v)) :: bx p cs ty :: rs.map (Rw.e w0.heap.size)) ++ bs) w' := by
    have hb := hs.bl h.b
    refine ⟨?_, ?_, hb.b⟩
    · refine ⟨h0, h.1.2.1, ?_⟩
      have : ∀ {es : List En}, AllE es w' → AllE (es ++ bs) w' := by
        intro es
        induction es with
        | nil => exact fun _ => hb.1
        | cons e t ih => exact fun h => ⟨h.1, ih h.2⟩
      exact this h1
    · rw [List.map_append]
      have hfd : FD ((ls w0.heap.size 28 1 v n (rs.map (·.v)) :: bx p cs ty :: rs.map (Rw.e w0.heap.size)).map (·.1)) := by
        rw [List.map_cons, List.map_cons, h2]; exact h.2.1
      refine List.pairwise_append.2 ⟨hfd, hb.2.1, fun a ha b hb' k hk1 hk2 => ?_⟩
      have h4 := hs.lt b hb' k hk2
      obtain ⟨e, he, rfl⟩ := List.mem_map.1 ha
      rcases List.mem_cons.1 he with rfl | he
      · have h9 : Lst w' w.heap.size 28 1 v n (rs.map (·.v)) := h.1.1.1
        have := (h9.1.lt k hk1).1
        omega
      · rcases List.mem_cons.1 he with rfl | he
        · obtain rfl : p = k := Option.some.inj hk1
          have := hp.out
          omega
        · have h5 : e.1 ∈ (rs.map (Rw.e w.heap.size)).map (·.1) := by rw [← h2]; exact List.mem_map.2 ⟨e, he, rfl⟩
          obtain ⟨e', he', h6⟩ := List.mem_map.1 h5
          have := h3 e' he' k (h6.trans hk1)
          omega
  exact st.perm (List.Perm.cons _ (List.Perm.cons _ List.perm_append_comm))
/-- The same; and nothing that was there is written. -/
theorem bordered_new (hst : St w0 bs w) (ha : MN la w0 oa A) (hna : A.length = n) (h : gd A) (hk : wd A = k) (hb' : MN lb w ob B) (hnb : B.length = nb) (hK : ∀ i, i < nb → (rw_ B i).length = K) (hKk : 0 < n → K = k) (hKl : K ≤ 2000000) (hnb2 : nb ≤ 100) (hla : la ≤ 10000000) (hlb : lb ≤ 10000000) :
    Calls Tryz.prog 37 #[.slice oa n ca, .slice ob nb cb] w fun e w' => ∃ p o c rs, e = .returned (.pointer (some ⟨p, 0, none⟩)) ∧ Hid (w0.heap.size ≤ p) ∧ rs.length = n + nb ∧ RD w' rs (mkM (n + nb) (K + n) (brdG n K (at2 A) (at2 B))) ∧ Below w.heap.size w w' ∧
      St w0 (ls w0.heap.size 28 1 (.slice o (n + nb) c) (n + nb) (rs.map (·.v)) :: bx p #[.slice o (n + nb) c, .int .i64 (n : Int), .int .i64 (k : Int), .bool false] 77 :: (bs ++ rs.map (Rw.e w0.heap.size))) w' ∧ Kp w w' :=
  Calls.mono (bordered_any (St.nil w) (ha.bl stab_n hst.b) hna h hk (fun w' hw _ => hb'.bl stab_n hw.b) hnb hK hKk hKl hnb2 hla hlb) fun e w' ⟨p, o, c, rs, h1, h2, h3, h4, h5, h6⟩ =>
    ⟨p, o, c, rs, h1, hide (Nat.le_trans hst.k h2.out), h3, h4, h5.b, hst.mxb h3 h5 h2, h6⟩
end
/-- What both parts of a rational are divided by. -/
def qg (x y : Int) : Int := if y < 0 then -(Int.gcd x y : Int) else (Int.gcd x y : Int)
def qN (x y : Int) : Int := x.fdiv (qg x y)
def qD (x y : Int) : Int := y.fdiv (qg x y)
theorem gcd_ne {x y : Int} (h : y ≠ 0) : (Int.gcd x y : Int) ≠ 0 := by
  intro h0
  have := Int.gcd_eq_zero_iff.1 (by exact_mod_cast h0)
  exact h this.2
theorem qg_ne {x y : Int} (h : y ≠ 0) : qg x y ≠ 0 := by
  have := gcd_ne (x := x) h
  unfold qg; split <;> omega
theorem qg_dvd (x y : Int) : qg x y ∣ x ∧ qg x y ∣ y := by
  unfold qg; split
  · exact ⟨Int.neg_dvd.2 (Int.gcd_dvd_left x y), Int.neg_dvd.2 (Int.gcd_dvd_right x y)⟩
  · exact ⟨Int.gcd_dvd_left x y, Int.gcd_dvd_right x y⟩
theorem fmod_dvd {x g : Int} (h : g ∣ x) : x.fmod g = 0 := Int.fmod_eq_zero_of_dvd h
theorem qN_eq {x y : Int} : x = qN x y * qg x y := by
  have := fmod_eq x (qg x y)
  rw [fmod_dvd (qg_dvd x y).1, Int.add_zero] at this
  exact this
theorem qD_eq {x y : Int} : y = qD x y * qg x y := by
  have := fmod_eq y (qg x y)
  rw [fmod_dvd (qg_dvd x y).2, Int.add_zero] at this
  exact this
theorem qD_pos {x y : Int} (h : y ≠ 0) : 0 < qD x y := by
  have h1 := qD_eq (x := x) (y := y)
  have h2 := gcd_ne (x := x) h
  generalize qD x y = d at *
  unfold qg at h1
  have h3 : 0 ≤ (Int.gcd x y : Int) := by omega
  split at h1
  · rename_i hy
    by_cases hd : 0 < d
    · exact hd
    · exfalso
      have := Int.mul_nonneg (show 0 ≤ -d by omega) h3
      rw [Int.mul_neg] at h1
      rw [Int.neg_mul] at this
      omega
  · rename_i hy
    by_cases hd : 0 < d
    · exact hd
    · exfalso
      have := Int.mul_nonneg (show 0 ≤ -d by omega) h3
      rw [Int.neg_mul] at this
      omega
theorem zlen_qg {x y : Int} {l m : Nat} (hx : (dig x.natAbs).length ≤ l) (hy : (dig y.natAbs).length ≤ m) : (dig (qg x y).natAbs).length ≤ l + m := by
  unfold qg; split
  · exact zlen_neg (zlen_gcd hx hy)
  · exact zlen_gcd hx hy
set_option maxHeartbeats 4000000 in
set_option maxRecDepth 20000 in
theorem fmake_pos {w : World} {va vb : Value} {x y : Int} {l m : Nat} (ha : ZN w va x l) (hq : ZN w vb y m) (hl : l ≤ 100000000) (hm : m ≤ 100000000) (h0 : 0 < y) :
    Calls Tryz.prog 90 #[va, vb] w fun e w' => ∃ v, e = .returned (.tuple #[v, .int .i64 0]) ∧ PC w' v (qN x y) (qD x y) ∧ Below w.heap.size w w' := by
  have hg : qg x y = (Int.gcd x y : Int) := by unfold qg; rw [if_neg (by omega)]
  have HG := hide (qg_ne (x := x) (y := y) (by omega))
  have HX := hide (fmod_dvd (qg_dvd x y).1)
  have HY := hide (fmod_dvd (qg_dvd x y).2)
  have HS := hide (show y.sign = 1 from Int.sign_eq_one_of_pos h0)
  have EG := hide hg
  clear hg
  obtain ⟨n_0, o_0, k_0, c_0, rfl⟩ := ha.open2
  obtain ⟨n_1, o_1, k_1, c_1, rfl⟩ := hq.open2
  go_enter Tryz.func90, Tryz.ntmps90
  have hs := St.nil w
  refine wp_seq_k ?_
  intro K1 hK1
  refine rg [0, 1, 2, 3] ?_
  refine sq ?_
  refine .al hs ?_; clear hs; intro p_b1 w_1 hs n1 kb_b1
  refine sq ?_
  refine .al hs ?_; clear hs; intro p_b2 w_2 hs n2 kb_b2
  refine sq ?_
  refine .al hs ?_; clear hs; intro p_b3 w_3 hs n3 kb_b3
  refine sq ?_
  refine .mv ?_
  apply wpSq_end
  refine hK1 _ _ ?_
  refine wp_seq_k ?_
  intro K2 hK2
  refine wp_seq_k ?_
  intro K3 hK3
  refine rg [0, 1, 2] ?_
  refine sq ?_
  refine .r2 hs.g1.f2 ?_
  refine sq ?_
  intro K hK
  have k0_3 := ((kb n1).b n2).b n3
  replace hq := hq.k k0_3
  go_big_op
  go_fit (zsign_any hq (by omega) )
  rintro e w_4 ⟨rfl, hb_4⟩
  replace hs := hs.bl hb_4
  rw [HS.out]
  refine hK _ _ rfl trivial ?_
  clear hK K
  refine sq ?_
  refine .r0 ?_
  apply wpSq_end
  refine hK3 _ _ ?_
  refine cf ?_
  refine wp_skip ?_
  refine hK2 _ _ ?_
  refine wp_seq_k ?_
  intro K4 hK4
  refine rg [0, 1, 2, 3, 4] ?_
  refine sq ?_
  refine .r2 hs.g2.f2 ?_
  refine sq ?_
  refine .r2 hs.g1.f2 ?_
  refine sq ?_
  intro K hK
  have k0_4 := k0_3.b hb_4
  replace ha := ha.k k0_4
  have k3_4 := kb hb_4
  replace hq := hq.k k3_4
  go_big_op
  go_fit (zgcd_any ha hq (by omega) (by omega) )
  rintro e w_5 ⟨v_g1, rfl, g1, hb_5⟩
  replace hs := hs.bl hb_5
  replace g1 := g1.rd
  obtain ⟨n_g1, o_g1, k_g1, c_g1, rfl⟩ := g1.open2
  have Lg1 := hide (g1.lenOf (zlen_gcd (ha.len) (hq.len)))
  rw [← EG.out] at g1
  refine hK _ _ rfl trivial ?_
  clear hK K
  refine sq ?_
  refine .al hs ?_; clear hs; intro p_b4 w_6 hs n6 kb_b4
  refine sq ?_
  refine .s2 hs.g0 (fun _ => hs.u0 kb_b4) ?_; clear hs; intro w_7 hs hd7 ho7
  apply wpSq_end
  refine hK4 _ _ ?_
  refine wp_seq_k ?_
  intro K5 hK5
  refine wp_seq_k ?_
  intro K6 hK6
  refine rg [0, 1, 2] ?_
  refine sq ?_
  refine .r2 hs.g2.f2 ?_
  have Lg1 := hide (g1.lenOf (zlen_qg ha.len hq.len))
  refine sq ?_
  intro K hK
  have k4_7 := ((kb hb_5).b n6).o hd7 ho7
  replace hq := hq.k k4_7
  go_big_op
  go_fit (zsign_any hq (by omega) )
  rintro e w_8 ⟨rfl, hb_8⟩
  replace hs := hs.bl hb_8
  rw [HS.out]
  refine hK _ _ rfl trivial ?_
  clear hK K
  refine sq ?_
  refine .r0 ?_
  apply wpSq_end
  refine hK6 _ _ ?_
  refine cf ?_
  refine wp_skip ?_
  refine hK5 _ _ ?_
  refine wp_seq_k ?_
  intro K7 hK7
  refine rg [0, 1, 2, 3, 4, 5, 6, 7, 8] ?_
  refine sq ?_
  refine .r2 hs.g3.f2 ?_
  refine sq ?_
  refine .r2 hs.g0.f2 ?_
  refine sq ?_
  intro K hK
  have k4_8 := k4_7.b hb_8
  replace ha := ha.k k4_8
  have k5_8 := ((kb n6).o hd7 ho7).b hb_8
  replace g1 := g1.k k5_8
  go_big_op
  go_fit (exact_any ha (g1.zn Lg1.out) (by omega) (by omega) HG.out HX.out)
  rintro e w_9 ⟨v_g2, rfl, g2, hb_9⟩
  replace hs := hs.bl hb_9
  replace g2 := g2.rd
  obtain ⟨n_g2, o_g2, k_g2, c_g2, rfl⟩ := g2.open2
  have Lg2 := hide (g2.lenOf (fdiv_len (HG.out) (ha.len)))
  refine hK _ _ rfl trivial ?_
  clear hK K
  refine sq ?_
  refine .mv ?_
  refine sq ?_
  refine .r0 ?_
  refine sq ?_
  refine .r0 ?_
  refine sq ?_
  refine .al hs ?_; clear hs; intro p_b5 w_10 hs n10 kb_b5
  refine sq ?_
  refine .s2 hs.g0 (fun _ => hs.u0 kb_b5) ?_; clear hs; intro w_11 hs hd11 ho11
  refine sq ?_
  refine .mv ?_
  apply wpSq_end
  refine hK7 _ _ ?_
  refine wp_seq_k ?_
  intro K8 hK8
  refine rg [0, 1, 2, 3, 4, 5, 6, 7, 8] ?_
  refine sq ?_
  refine .r2 hs.g3.f2 ?_
  refine sq ?_
  refine .r2 hs.g1.f2 ?_
  refine sq ?_
  intro K hK
  have k7_11 := (((kb hb_8).b hb_9).b n10).o hd11 ho11
  replace hq := hq.k k7_11
  have k8_11 := ((kb hb_9).b n10).o hd11 ho11
  replace g1 := g1.k k8_11
  go_big_op
  go_fit (exact_any hq (g1.zn Lg1.out) (by omega) (by omega) HG.out HY.out)
  rintro e w_12 ⟨v_g3, rfl, g3, hb_12⟩
  replace hs := hs.bl hb_12
  replace g3 := g3.rd
  obtain ⟨n_g3, o_g3, k_g3, c_g3, rfl⟩ := g3.open2
  have Lg3 := hide (g3.lenOf (fdiv_len (HG.out) (hq.len)))
  refine hK _ _ rfl trivial ?_
  clear hK K
  refine sq ?_
  refine .mv ?_
  refine sq ?_
  refine .r0 ?_
  refine sq ?_
  refine .r0 ?_
  refine sq ?_
  refine .al hs ?_; clear hs; intro p_b6 w_13 hs n13 kb_b6
  refine sq ?_
  refine .s2 hs.g0 (fun _ => hs.u0 kb_b6) ?_; clear hs; intro w_14 hs hd14 ho14
  refine sq ?_
  refine .mv ?_
  apply wpSq_end
  refine hK8 _ _ ?_
  refine wp_seq_k ?_
  intro K9 hK9
  refine rg [0, 1, 2, 3, 4] ?_
  refine sq ?_
  refine .r2 hs.g1.f2 ?_
  refine sq ?_
  refine .r2 hs.g0.f2 ?_
  refine sq ?_
  refine .r0 ?_
  refine sq ?_
  refine .s4 hs.g3 (fun _ => hs.u3 kb_b3) ?_; clear hs; intro w_15 hs hd15 ho15
  refine sq ?_
  refine .mv ?_
  apply wpSq_end
  refine hK9 _ _ ?_
  refine wp_ret ?_
  try dsimp only [Exit.then, Exit.inBlock]
  obtain ⟨r0_0, r0_1, r0_2, r0_3⟩ := hs.g3.f4
  refine bodyPost_ret (v := (.tuple #[(.agg #[.bool n_g2, .slice o_g2 k_g2 c_g2, .bool n_g3, .slice o_g3 k_g3 c_g3]), (.int .i64 0)])) (by simp [results, Tryz.results90, go_sem, r0_0, r0_1, r0_2, r0_3]) rfl ?_
  have k9_15 := (((((kb n10).o hd11 ho11).b hb_12).b n13).o hd14 ho14).o hd15 ho15
  replace g2 := g2.k k9_15
  have k12_15 := ((kb n13).o hd14 ho14).o hd15 ho15
  replace g3 := g3.k k12_15
  exact ⟨_, rfl, .mk' g2 g3, hs.b⟩
set_option maxHeartbeats 4000000 in
set_option maxRecDepth 20000 in
theorem fmake_neg {w : World} {va vb : Value} {x y : Int} {l m : Nat} (ha : ZN w va x l) (hq : ZN w vb y m) (hl : l ≤ 100000000) (hm : m ≤ 100000000) (h0 : y < 0) :
    Calls Tryz.prog 90 #[va, vb] w fun e w' => ∃ v, e = .returned (.tuple #[v, .int .i64 0]) ∧ PC w' v (qN x y) (qD x y) ∧ Below w.heap.size w w' := by
  have hg : qg x y = -(Int.gcd x y : Int) := by unfold qg; rw [if_pos h0]
  have HG := hide (qg_ne (x := x) (y := y) (by omega))
  have HX := hide (fmod_dvd (qg_dvd x y).1)
  have HY := hide (fmod_dvd (qg_dvd x y).2)
  have HS := hide (show y.sign = -1 from Int.sign_eq_neg_one_of_neg h0)
  have EG := hide hg
  clear hg
  obtain ⟨n_0, o_0, k_0, c_0, rfl⟩ := ha.open2
  obtain ⟨n_1, o_1, k_1, c_1, rfl⟩ := hq.open2
  go_enter Tryz.func90, Tryz.ntmps90
  have hs := St.nil w
  refine wp_seq_k ?_
  intro K1 hK1
  refine rg [0, 1, 2, 3] ?_
  refine sq ?_
  refine .al hs ?_; clear hs; intro p_b1 w_1 hs n1 kb_b1
  refine sq ?_
  refine .al hs ?_; clear hs; intro p_b2 w_2 hs n2 kb_b2
  refine sq ?_
  refine .al hs ?_; clear hs; intro p_b3 w_3 hs n3 kb_b3
  refine sq ?_
  refine .mv ?_
  apply wpSq_end
  refine hK1 _ _ ?_
  refine wp_seq_k ?_
  intro K2 hK2
  refine wp_seq_k ?_
  intro K3 hK3
  refine rg [0, 1, 2] ?_
  refine sq ?_
  refine .r2 hs.g1.f2 ?_
  refine sq ?_
  intro K hK
  have k0_3 := ((kb n1).b n2).b n3
  replace hq := hq.k k0_3
  go_big_op
  go_fit (zsign_any hq (by omega) )
  rintro e w_4 ⟨rfl, hb_4⟩
  replace hs := hs.bl hb_4
  rw [HS.out]
  refine hK _ _ rfl trivial ?_
  clear hK K
  refine sq ?_
  refine .r0 ?_
  apply wpSq_end
  refine hK3 _ _ ?_
  refine cf ?_
  refine wp_skip ?_
  refine hK2 _ _ ?_
  refine wp_seq_k ?_
  intro K4 hK4
  refine rg [0, 1, 2, 3, 4] ?_
  refine sq ?_
  refine .r2 hs.g2.f2 ?_
  refine sq ?_
  refine .r2 hs.g1.f2 ?_
  refine sq ?_
  intro K hK
  have k0_4 := k0_3.b hb_4
  replace ha := ha.k k0_4
  have k3_4 := kb hb_4
  replace hq := hq.k k3_4
  go_big_op
  go_fit (zgcd_any ha hq (by omega) (by omega) )
  rintro e w_5 ⟨v_g1, rfl, g1, hb_5⟩
  replace hs := hs.bl hb_5
  replace g1 := g1.rd
  obtain ⟨n_g1, o_g1, k_g1, c_g1, rfl⟩ := g1.open2
  have Lg1 := hide (g1.lenOf (zlen_gcd (ha.len) (hq.len)))
  refine hK _ _ rfl trivial ?_
  clear hK K
  refine sq ?_
  refine .al hs ?_; clear hs; intro p_b4 w_6 hs n6 kb_b4
  refine sq ?_
  refine .s2 hs.g0 (fun _ => hs.u0 kb_b4) ?_; clear hs; intro w_7 hs hd7 ho7
  apply wpSq_end
  refine hK4 _ _ ?_
  refine wp_seq_k ?_
  intro K5 hK5
  refine wp_seq_k ?_
  intro K6 hK6
  refine rg [0, 1, 2] ?_
  refine sq ?_
  refine .r2 hs.g2.f2 ?_
  refine sq ?_
  intro K hK
  have k4_7 := ((kb hb_5).b n6).o hd7 ho7
  replace hq := hq.k k4_7
  go_big_op
  go_fit (zsign_any hq (by omega) )
  rintro e w_8 ⟨rfl, hb_8⟩
  replace hs := hs.bl hb_8
  rw [HS.out]
  refine hK _ _ rfl trivial ?_
  clear hK K
  refine sq ?_
  refine .r0 ?_
  apply wpSq_end
  refine hK6 _ _ ?_
  refine ct ?_
  refine rg [0, 1, 2] ?_
  refine sq ?_
  refine .r2 hs.g0.f2 ?_
  refine sq ?_
  intro K hK
  have k5_8 := ((kb n6).o hd7 ho7).b hb_8
  replace g1 := g1.k k5_8
  go_big_op
  go_fit (zneg_any (g1.zn Lg1.out) (by omega) )
  rintro e w_9 ⟨v_g4, rfl, g4, hb_9⟩
  replace hs := hs.bl hb_9
  replace g4 := g4.rd
  obtain ⟨n_g4, o_g4, k_g4, c_g4, rfl⟩ := g4.open2
  have Lg4 := hide (g4.lenOf (zlen_neg (Lg1.out)))
  rw [← EG.out] at g4
  refine hK _ _ rfl trivial ?_
  clear hK K
  refine sq ?_
  refine .s2 hs.g0 (fun _ => hs.u0 kb_b4) ?_; clear hs; intro w_10 hs hd10 ho10
  apply wpSq_end
  refine hK5 _ _ ?_
  refine wp_seq_k ?_
  intro K7 hK7
  refine rg [0, 1, 2, 3, 4, 5, 6, 7, 8] ?_
  refine sq ?_
  refine .r2 hs.g3.f2 ?_
  refine sq ?_
  refine .r2 hs.g0.f2 ?_
  have Lg4 := hide (g4.lenOf (zlen_qg ha.len hq.len))
  refine sq ?_
  intro K hK
  have k4_10 := ((k4_7.b hb_8).b hb_9).o hd10 ho10
  replace ha := ha.k k4_10
  have k9_10 := ko hd10 ho10
  replace g4 := g4.k k9_10
  go_big_op
  go_fit (exact_any ha (g4.zn Lg4.out) (by omega) (by omega) HG.out HX.out)
  rintro e w_11 ⟨v_g2, rfl, g2, hb_11⟩
  replace hs := hs.bl hb_11
  replace g2 := g2.rd
  obtain ⟨n_g2, o_g2, k_g2, c_g2, rfl⟩ := g2.open2
  have Lg2 := hide (g2.lenOf (fdiv_len (HG.out) (ha.len)))
  refine hK _ _ rfl trivial ?_
  clear hK K
  refine sq ?_
  refine .mv ?_
  refine sq ?_
  refine .r0 ?_
  refine sq ?_
  refine .r0 ?_
  refine sq ?_
  refine .al hs ?_; clear hs; intro p_b5 w_12 hs n12 kb_b5
  refine sq ?_
  refine .s2 hs.g0 (fun _ => hs.u0 kb_b5) ?_; clear hs; intro w_13 hs hd13 ho13
  refine sq ?_
  refine .mv ?_
  apply wpSq_end
  refine hK7 _ _ ?_
  refine wp_seq_k ?_
  intro K8 hK8
  refine rg [0, 1, 2, 3, 4, 5, 6, 7, 8] ?_
  refine sq ?_
  refine .r2 hs.g3.f2 ?_
  refine sq ?_
  refine .r2 hs.g1.f2 ?_
  refine sq ?_
  intro K hK
  have k7_13 := (((((kb hb_8).b hb_9).o hd10 ho10).b hb_11).b n12).o hd13 ho13
  replace hq := hq.k k7_13
  have k10_13 := ((kb hb_11).b n12).o hd13 ho13
  replace g4 := g4.k k10_13
  go_big_op
  go_fit (exact_any hq (g4.zn Lg4.out) (by omega) (by omega) HG.out HY.out)
  rintro e w_14 ⟨v_g3, rfl, g3, hb_14⟩
  replace hs := hs.bl hb_14
  replace g3 := g3.rd
  obtain ⟨n_g3, o_g3, k_g3, c_g3, rfl⟩ := g3.open2
  have Lg3 := hide (g3.lenOf (fdiv_len (HG.out) (hq.len)))
  refine hK _ _ rfl trivial ?_
  clear hK K
  refine sq ?_
  refine .mv ?_
  refine sq ?_
  refine .r0 ?_
  refine sq ?_
  refine .r0 ?_
  refine sq ?_
  refine .al hs ?_; clear hs; intro p_b6 w_15 hs n15 kb_b6
  refine sq ?_
  refine .s2 hs.g0 (fun _ => hs.u0 kb_b6) ?_; clear hs; intro w_16 hs hd16 ho16
  refine sq ?_
  refine .mv ?_
  apply wpSq_end
  refine hK8 _ _ ?_
  refine wp_seq_k ?_
  intro K9 hK9
  refine rg [0, 1, 2, 3, 4] ?_
  refine sq ?_
  refine .r2 hs.g1.f2 ?_
  refine sq ?_
  refine .r2 hs.g0.f2 ?_
  refine sq ?_
  refine .r0 ?_
  refine sq ?_
  refine .s4 hs.g3 (fun _ => hs.u3 kb_b3) ?_; clear hs; intro w_17 hs hd17 ho17
  refine sq ?_
  refine .mv ?_
  apply wpSq_end
  refine hK9 _ _ ?_
  refine wp_ret ?_
  try dsimp only [Exit.then, Exit.inBlock]
  obtain ⟨r0_0, r0_1, r0_2, r0_3⟩ := hs.g3.f4
  refine bodyPost_ret (v := (.tuple #[(.agg #[.bool n_g2, .slice o_g2 k_g2 c_g2, .bool n_g3, .slice o_g3 k_g3 c_g3]), (.int .i64 0)])) (by simp [results, Tryz.results90, go_sem, r0_0, r0_1, r0_2, r0_3]) rfl ?_
  have k11_17 := (((((kb n12).o hd13 ho13).b hb_14).b n15).o hd16 ho16).o hd17 ho17
  replace g2 := g2.k k11_17
  have k14_17 := ((kb n15).o hd16 ho16).o hd17 ho17
  replace g3 := g3.k k14_17
  exact ⟨_, rfl, .mk' g2 g3, hs.b⟩
theorem fmake_any {w : World} {va vb : Value} {x y : Int} {l m : Nat} (ha : ZN w va x l) (hq : ZN w vb y m) (hl : l ≤ 100000000) (hm : m ≤ 100000000) (h0 : y ≠ 0) :
    Calls Tryz.prog 90 #[va, vb] w fun e w' => ∃ v, e = .returned (.tuple #[v, .int .i64 0]) ∧ PC w' v (qN x y) (qD x y) ∧ Below w.heap.size w w' := by
  by_cases h : 0 < y
  · exact fmake_pos ha hq hl hm h
  · exact fmake_neg ha hq hl hm (by omega)
theorem qN_len {x y : Int} {l : Nat} (h0 : y ≠ 0) (h : (dig x.natAbs).length ≤ l) : (dig (qN x y).natAbs).length ≤ l := fdiv_len (qg_ne h0) h
theorem qD_len {x y : Int} {l : Nat} (h0 : y ≠ 0) (h : (dig y.natAbs).length ≤ l) : (dig (qD x y).natAbs).length ≤ l := fdiv_len (qg_ne h0) h
section
variable {w : World} {va vb : Value} {x y u v : Int} {l m k n : Nat}
/-- What is in lowest terms is its own lowest terms. -/
def low (x y : Int) : Prop := 0 < y ∧ Int.gcd x y = 1
theorem low_q {x y : Int} (h0 : y ≠ 0) : low (qN x y) (qD x y) := by
  refine ⟨qD_pos h0, ?_⟩
  have h1 := qN_eq (x := x) (y := y)
  have h2 := qD_eq (x := x) (y := y)
  have hg : (qg x y).natAbs = Int.gcd x y := by
    unfold qg; split
    · rw [Int.natAbs_neg]; exact Int.natAbs_natCast _
    · exact Int.natAbs_natCast _
  have h3 := Int.gcd_mul_right (qN x y) (qg x y) (qD x y)
  rw [← h1, ← h2] at h3
  rw [hg] at h3
  have h4 : 0 < Int.gcd x y := by have := gcd_ne (x := x) h0; omega
  exact Nat.eq_of_mul_eq_mul_right h4 (by rw [Nat.one_mul]; exact h3.symm)
end
end Go.Proofs.YtcoodkdalblalaaGreatDoor
