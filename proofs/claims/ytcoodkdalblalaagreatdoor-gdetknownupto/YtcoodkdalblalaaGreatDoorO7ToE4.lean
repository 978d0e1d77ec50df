/- The reference's Scale. -/
import Derived.Test.YtcoodkdalblalaaGreatDoorN4ToS1
namespace Go.Proofs.YtcoodkdalblalaaGreatDoor
open Go Go.RowKit Dig
set_option linter.unusedVariables false
/-- Filled, row by row, up to row i's number j. -/
def fi (G : Nat → Nat → Int × Int) (i j : Nat) : Nat → Nat → Int × Int := fun p q => if p < i ∨ (p = i ∧ q < j) then G p q else (0, 0)
section
variable {G : Nat → Nat → Int × Int} {i j n k : Nat}
theorem fi_0 : (mkM n k fun _ _ => (0, 0)) = mkM n k (fi G 0 0) := mkM_eq rfl rfl fun p _ q _ => by unfold fi; rw [if_neg (by omega)]
theorem fi_step : upd (fi G i j) i j (G i j) = fi G i (j + 1) := by
  funext p q
  unfold upd fi
  by_cases h : p = i ∧ q = j
  · rw [if_pos h, if_pos (by omega), h.1, h.2]
  · rw [if_neg h]
    by_cases h2 : p < i ∨ (p = i ∧ q < j)
    · rw [if_pos h2, if_pos (by omega)]
    · rw [if_neg h2, if_neg (by omega)]
theorem fi_row : mkM n k (fi G i k) = mkM n k (fi G (i + 1) 0) := mkM_eq rfl rfl fun p _ q hq => by
  unfold fi
  by_cases h : p < i + 1
  · rw [if_pos (by omega), if_pos (by omega)]
  · rw [if_neg (by omega), if_neg (by omega)]
theorem fi_end : mkM n k (fi G n 0) = mkM n k G := mkM_eq rfl rfl fun p hp q _ => by unfold fi; rw [if_pos (by omega)]
/-- A number put in its place. -/
theorem RD.fi {w : World} {r1 r2 : List Rw} {r : Rw} {x : Value} {xs : List Value} {n1 n2 : Bool} {o1 o2 : Option Addr} {k1 c1 k2 c2 : Nat} (hd : RD w (r1 ++ r :: r2) (mkM n k (Go.Proofs.YtcoodkdalblalaaGreatDoor.fi G i j))) (hr : r1.length = i) (hi : i < n) (hj : j < k)
    (hx : GD w xs ((mkM n k (Go.Proofs.YtcoodkdalblalaaGreatDoor.fi G i j))[i]'(by rw [len_mkM]; exact hi))) (h1 : ZC w (.agg #[.bool n1, .slice o1 k1 c1]) (G i j).1) (h2 : ZC w (.agg #[.bool n2, .slice o2 k2 c2]) (G i j).2) :
    RD w (r1 ++ (⟨x, k, setL xs [(j * 4, .bool n1), (j * 4 + 1, .slice o1 k1 c1), (j * 4 + 2, .bool n2), (j * 4 + 3, .slice o2 k2 c2)]⟩ : Rw) :: r2) (mkM n k (Go.Proofs.YtcoodkdalblalaaGreatDoor.fi G i (j + 1))) := by
  rw [mkM_row hi] at hx
  have := RD.set' (v := x) (n := k) (by simp) (GD.put h1 h2 hx (q := j) (by simpa using hj)) hd hr
  rw [mkM_set hi, show (((G i j).1, (G i j).2) : Int × Int) = G i j from rfl, fi_step] at this
  exact this
end
section
variable {G : Nat → Nat → Int × Int} {i j n k : Nat}
theorem St.rowv {w0 w : World} {v : Value} {m p K : Nat} {rs : List Rw} {bs : List En} {Ms : List (List (Int × Int))} (hs : St w0 (ls w0.heap.size 28 1 v m (rs.map (·.v)) :: (bs ++ rs.map (Rw.e w0.heap.size))) w) (hd : RD w rs Ms) (hp : p < Ms.length) (hK : Ms[p].length = K) :
    ∃ o c, (rs.map (·.v))[p]? = some (.slice o K c) := by
  obtain ⟨r1, r, r2, rfl, h1, h2, h3⟩ := hd.at' hp
  have h4 : (ls w0.heap.size 28 1 v m ((r1 ++ r :: r2).map (·.v)) :: (bs ++ (r1 ++ r :: r2).map (Rw.e w0.heap.size)))[1 + (bs.length + p)]? = some (r.e w0.heap.size) := by
    rw [Nat.add_comm 1, List.getElem?_cons_succ, List.getElem?_append_right (by omega), show bs.length + p - bs.length = p by omega, List.getElem?_map, List.getElem?_append_right (by omega)]
    simp [h1]
  have L : Lst w w0.heap.size 26 4 r.v r.n r.xs := (hs.1.at h4).1
  obtain ⟨o, c, e⟩ := L.shape
  exact ⟨o, c, by rw [List.map_append, List.map_cons, List.getElem?_append_right (by simp [h1])]; simp [h1, e, h2, hK]⟩
end
/-- Row p as told, the others as they were. -/
def rowed (F : Nat → Nat → Int × Int) (p : Nat) (g : Nat → Int × Int) : Nat → Nat → Int × Int := fun i j => if i = p then g j else F i j
/-- Rows i and j exchanged. -/
def swr (i j r : Nat) : Nat := if r = i then j else if r = j then i else r
section
variable {F : Nat → Nat → Int × Int} {g : Nat → Int × Int} {i j n k p : Nat}
theorem mkM_setrow (hp : p < n) : (mkM n k F).set p ((List.range k).map g) = mkM n k (rowed F p g) := by
  refine List.ext_getElem (by simp [mkM]) fun i h1 h2 => ?_
  simp only [mkM, List.getElem_set, List.getElem_map, List.getElem_range]
  by_cases e : p = i
  · subst e; simp [rowed]
  · rw [if_neg e]; simp [rowed, Ne.symm e]
theorem mkM_swap (hi : i < n) (hj : j < n) : ((mkM n k F).set i ((List.range k).map (F j))).set j ((List.range k).map (F i)) = mkM n k (fun r => F (swr i j r)) := by
  refine List.ext_getElem (by simp [mkM]) fun r h1 h2 => ?_
  simp only [mkM, List.getElem_set, List.getElem_map, List.getElem_range]
  unfold swr
  by_cases e : j = r
  · subst e
    by_cases e2 : j = i
    · subst e2; simp
    · simp [e2]
  · rw [if_neg e]
    by_cases e2 : i = r
    · subst e2; simp
    · rw [if_neg e2, if_neg (Ne.symm e2), if_neg (Ne.symm e)]
end
theorem RD.set1 {w : World} {r : Rw} {m : List (Int × Int)} (hn : r.n = m.length) (hg : GD w r.xs m) : ∀ {rs : List Rw} {Ms : List (List (Int × Int))} {p : Nat}, RD w rs Ms → RD w (rs.set p r) (Ms.set p m)
  | [], [], p, h => h
  | _ :: _, _ :: _, 0, h => ⟨⟨hn, hg⟩, h.2⟩
  | _ :: _, _ :: _, p + 1, h => ⟨h.1, RD.set1 hn hg h.2⟩
theorem RD.swap {w : World} {rs : List Rw} {n k i j : Nat} {F : Nat → Nat → Int × Int} {vi vj : Value} (hd : RD w rs (mkM n k F)) (hi : i < n) (hj : j < n) (ei : (rs.map (·.v))[i]? = some vi) (ej : (rs.map (·.v))[j]? = some vj) :
    ∃ rs', rs'.length = rs.length ∧ rs'.Perm rs ∧ rs'.map (·.v) = ((rs.map (·.v)).set i vj).set j vi ∧ RD w rs' (mkM n k fun r => F (swr i j r)) := by
  have hl : rs.length = n := by rw [hd.len]; exact len_mkM
  obtain ⟨ri, e1, h1, g1⟩ := hd.get i (by rw [len_mkM]; exact hi)
  obtain ⟨rj, e2, h2, g2⟩ := hd.get j (by rw [len_mkM]; exact hj)
  rw [mkM_row hi] at h1 g1
  rw [mkM_row hj] at h2 g2
  rw [List.getElem?_map, e1] at ei
  rw [List.getElem?_map, e2] at ej
  injection ei with ei
  injection ej with ej
  have q1 : rs[i] = ri := by rw [List.getElem?_eq_getElem (by omega)] at e1; exact Option.some.inj e1
  have q2 : rs[j] = rj := by rw [List.getElem?_eq_getElem (by omega)] at e2; exact Option.some.inj e2
  refine ⟨(rs.set i rj).set j ri, by simp, ?_, by rw [List.map_set, List.map_set, ← ej, ← ei], ?_⟩
  · rw [← q1, ← q2]; exact List.set_set_perm (by omega) (by omega)
  · rw [← mkM_swap hi hj]
    exact RD.set1 h1 g1 (RD.set1 h2 g2 hd)
theorem St.swap {w0 w : World} {v : Value} {n : Nat} {rs rs' : List Rw} {bs : List En} {vs : List Value} (hs : St w0 (ls w0.heap.size 28 1 v n vs :: (bs ++ rs.map (Rw.e w0.heap.size))) w) (hp : rs'.Perm rs) (hv : rs'.map (·.v) = vs) :
    St w0 (ls w0.heap.size 28 1 v n (rs'.map (·.v)) :: (bs ++ rs'.map (Rw.e w0.heap.size))) w := by
  rw [hv]
  exact hs.perm (List.Perm.cons _ (List.Perm.append_left _ (hp.symm.map _)))
theorem PL1 {w : World} {p : Nat} {a : Int} {ty : TypeId} {fz : Nat × Nat} (x : Bs w p #[.int .i64 a] ty fz) : PL w (some ⟨p, 0, none⟩) [a] :=
  ⟨p, _, ty, fz, rfl, x, fun i hi => match i, hi with
    | 0, _ => rfl⟩
theorem map_swap {g : Nat → Int × Int} {j k W : Nat} (hj : j < W) (hk : k < W) : (((List.range W).map g).set j (g k)).set k (g j) = (List.range W).map fun c => g (swr j k c) := by
  refine List.ext_getElem (by simp) fun r h1 h2 => ?_
  simp only [List.getElem_set, List.getElem_map, List.getElem_range]
  unfold swr
  by_cases e : k = r
  · subst e
    by_cases e2 : k = j
    · subst e2; simp
    · simp [e2]
  · rw [if_neg e]
    by_cases e2 : j = r
    · subst e2; simp
    · rw [if_neg e2, if_neg (Ne.symm e2), if_neg (Ne.symm e)]
/-- The first q rows with columns j and k exchanged. -/
def cx (F : Nat → Nat → Int × Int) (j k q : Nat) : Nat → Nat → Int × Int := fun r c => if r < q then F r (swr j k c) else F r c
section
variable {F : Nat → Nat → Int × Int} {j k q n W : Nat}
theorem cx_0 : mkM n W F = mkM n W (cx F j k 0) := mkM_eq rfl rfl fun p _ c _ => by unfold cx; rw [if_neg (by omega)]
theorem cx_row : cx F j k q q = F q := by funext c; unfold cx; rw [if_neg (by omega)]
theorem cx_step (hq : q < n) : (mkM n W (cx F j k q)).set q ((List.range W).map fun c => F q (swr j k c)) = mkM n W (cx F j k (q + 1)) := by
  rw [mkM_setrow hq]
  refine mkM_eq rfl rfl fun p _ c _ => ?_
  unfold rowed cx
  by_cases h : p = q
  · rw [if_pos h, if_pos (by omega), h]
  · rw [if_neg h]
    by_cases h2 : p < q
    · rw [if_pos h2, if_pos (by omega)]
    · rw [if_neg h2, if_neg (by omega)]
theorem cx_end : mkM n W (cx F j k n) = mkM n W fun r c => F r (swr j k c) := mkM_eq rfl rfl fun p hp c _ => by unfold cx; rw [if_pos hp]
end
/-- Whether exchanges were odd in number, with one more (of rows i and k, of columns j and k). -/
def xo (odd : Bool) (i j k : Nat) : Bool := (odd != ((i : Int) != (k : Int))) != ((j : Int) != (k : Int))
section
variable {w w0 : World} {pt n c h m W i j k : Nat} {odd : Bool} {o : Option Addr} {rs : List Rw} {bs : List En} {F : Nat → Nat → Int × Int}
set_option maxHeartbeats 4000000 in
set_option maxRecDepth 20000 in
theorem exchange_any (hst : St w0 (ls w0.heap.size 28 1 (.slice o n c) n (rs.map (·.v)) :: bx pt #[.slice o n c, .int .i64 (h : Int), .int .i64 (m : Int), .bool odd] 77 :: (bs ++ rs.map (Rw.e w0.heap.size))) w)
    (kb_bt : Hid (w0.heap.size ≤ pt)) (hd : RD w rs (mkM n W F)) (hi : i < n) (hk : k < n) (hj : j < W) (hk2 : k < W) (hn : n ≤ 1000) (hW : W ≤ 3000000) :
    Calls Tryz.prog 75 #[.pointer (some ⟨pt, 0, none⟩), .int .i64 (i : Int), .int .i64 (j : Int), .int .i64 (k : Int)] w fun e w' => ∃ rs', e = .returned (.tuple #[]) ∧ rs'.length = n ∧ RD w' rs' (mkM n W fun r q => F (swr i k r) (swr j k q)) ∧
      St w0 (ls w0.heap.size 28 1 (.slice o n c) n (rs'.map (·.v)) :: bx pt #[.slice o n c, .int .i64 (h : Int), .int .i64 (m : Int), .bool (xo odd i j k)] 77 :: (bs ++ rs'.map (Rw.e w0.heap.size))) w' ∧ Kp w w' := by
  have hl : rs.length = n := by rw [hd.len]; exact len_mkM
  have kk := KpF.r w
  have LO : Lst w w0.heap.size 28 1 (.slice o n c) n _ := hst.1.1.1
  obtain ⟨gO, curO, rfl, xO, hcO⟩ := LO.box (by omega)
  obtain ⟨oi, ci, hvi⟩ := hst.rowv (bs := bx pt #[.slice (some ⟨gO, 0, none⟩) n c, .int .i64 (h : Int), .int .i64 (m : Int), .bool odd] 77 :: bs) hd (p := i) (K := W) (by rw [len_mkM]; exact hi) (by rw [mkM_row hi]; simp)
  obtain ⟨ok, ck, hvk⟩ := hst.rowv (bs := bx pt #[.slice (some ⟨gO, 0, none⟩) n c, .int .i64 (h : Int), .int .i64 (m : Int), .bool odd] 77 :: bs) hd (p := k) (K := W) (by rw [len_mkM]; exact hk) (by rw [mkM_row hk]; simp)
  have eI := hcO _ _ hvi
  have eK := hcO _ _ hvk
  have HI := hide hi
  have HK := hide hk
  have HJ := hide hj
  have HK2 := hide hk2
  clear LO hcO
  go_enter Tryz.func75, Tryz.ntmps75
  have hs := hst
  clear hst
  have lt_kO := xO.lt
  have xOz := xO
  refine wp_seq_k ?_
  intro K1 hK1
  refine wp_region_f4 [(0, false), (1, false), (2, false), (3, false), (4, false), (5, false), (6, false), (7, false), (8, false), (9, false), (10, false), (11, false), (12, false), (13, false), (14, false), (15, false), (16, false), (17, false), (18, false), (19, false), (20, false), (21, false), (22, false), (23, false), (24, false)] [25, 26, 27] [] (fun _ => default) [99, 99, 99, 0, 99, 99, 99, 99, 0, 99, 99, 99, 99, 0, 99, 99, 1, 99, 99, 99, 0, 99, 99, 1, 99, 99, 99, 99] [(25, 1), (26, 1), (27, 1)] (.c hs.g1 (.c xO .n)) fn fun w_1 n1 => ?_
  replace xO := xO.bl n1; replace hs := hs.bl n1
  refine fmv ?_
  refine f0 ?_
  refine f0 ?_
  refine f4 ?_
  refine fmv ?_
  refine fmv ?_
  refine f0 ?_
  refine f0 ?_
  refine f4 ?_
  refine fmv ?_
  refine fmv ?_
  refine f0 ?_
  refine f0 ?_
  refine f4 ?_
  refine fmv ?_
  refine f0 ?_
  apply wpFl_ld rfl rfl; (case h1 => intro w' hC K hK; have c0 := Bs.cell hC (k) eK; go_big_op; exact hK); iterate 4 kernel_rfl
  refine fmv ?_
  refine f0 ?_
  refine f0 ?_
  refine f4 ?_
  refine fmv ?_
  refine f0 ?_
  apply wpFl_ld rfl rfl; (case h1 => intro w' hC K hK; have c0 := Bs.cell hC (i) eI; go_big_op; exact hK); iterate 4 kernel_rfl
  refine f0 ?_
  refine e0 hs ?_; clear hs; intro w_2 hs n2
  replace xO := xO.bl n2
  refine tl ?_
  refine .i1 0 hs (j := i) (by exact HI.out) ?_ (e := fun _ hB hO => (And.intro (hs.g1.frame hO (hs.ne 1 0)) (And.intro True.intro True.intro))); clear hs; intro w_3 hs kp3 hd3 ho3 hw3; simp only [List.set_cons_zero] at hs
  clear xO
  refine tl ?_
  refine .r0 ?_ (e := (And.intro hs.g1 (And.intro True.intro True.intro)))
  refine tl ?_
  refine .i1 0 hs (j := k) (by exact HK.out) ?_ (e := fun _ hB hO => (And.intro (hs.g1.frame hO (hs.ne 1 0)) (And.intro True.intro True.intro))); clear hs; intro w_4 hs kp4 hd4 ho4 hw4; simp only [List.set_cons_zero] at hs
  apply wpTail_end
  refine hK1 _ _ ?_
  refine wp_seq_k ?_
  intro K2 hK2
  refine wp_seq_k ?_
  intro K3 hK3
  refine rg [0, 1, 2, 3, 4, 5] ?_
  refine sq ?_
  refine .mv ?_
  refine sq ?_
  refine .r0 ?_
  refine sq ?_
  refine .r0 ?_
  refine sq ?_
  refine .r4 hs.g1.f4 ?_
  refine sq ?_
  refine .r0 ?_
  refine sq ?_
  refine .mv ?_
  apply wpSq_end
  refine hK3 _ _ ?_
  refine wp_block ?_
  have k0_4 := (((kb n1).b n2).t kp3).t kp4
  replace hd := hd.k k0_4
  obtain ⟨rs1, q1, q2, q3, q4⟩ := RD.swap hd HI.out HK.out hvi hvk
  have hs := hs.swap (bs := bx pt #[.slice (some ⟨gO, 0, none⟩) n c, .int .i64 (h : Int), .int .i64 (m : Int), .bool odd] 77 :: bs) q2 q3
  replace kk := kk.k k0_4
  have hd5 := hs.2.1
  go_loopg [41] n (fun kz s41 wr => ∃ (q : Nat) (rs : List Rw), s41 = .int .i64 (q : Int) ∧ q + kz = n ∧ rs.length = n ∧ RD wr rs (mkM n W (cx (fun r => F (swr i k r)) j k q)) ∧ KpF w wr ∧
    St w0 (ls w0.heap.size 28 1 (.slice (some ⟨gO, 0, none⟩) n c) n (rs.map (·.v)) :: bx pt #[.slice (some ⟨gO, 0, none⟩) n c, .int .i64 (h : Int), .int .i64 (m : Int), .bool odd] 77 :: (bs ++ rs.map (Rw.e w0.heap.size))) wr)
  case atStart => exact ⟨0, rs1, rfl, by omega, q1.trans hl, by rw [← cx_0]; exact q4, kk, hs⟩
  case round =>
  clear kk hd hs
  obtain ⟨q, rs, rfl, hqn, hrl, hd, kk, hs⟩ := hrel
  by_cases hq : q < n
  · have HQ := hide hq
    obtain ⟨r1, gr, cr, xs, r2, rfl, hr1, hrv, hx, hs⟩ := hs.row (bs := bx pt #[.slice (some ⟨gO, 0, none⟩) n c, .int .i64 (h : Int), .int .i64 (m : Int), .bool odd] 77 :: bs) hd (p := q) (K := W) (by rw [len_mkM]; exact hq) (by rw [mkM_row hq]; simp) (by have := HJ.out; omega)
    have LO : Lst wr w0.heap.size 28 1 (.slice (some ⟨gO, 0, none⟩) n c) n _ := hs.1.2.1.1
    obtain ⟨gO', curO, eO', xO, hcO⟩ := LO.box (by omega)
    simp only [Option.some.injEq, Addr.mk.injEq, and_true] at eO'
    obtain rfl : gO = gO' := eO'
    have eO := hcO _ _ hrv
    have LR : Lst wr w0.heap.size 26 4 (.slice (some ⟨gr, 0, none⟩) W cr) W xs := hs.1.1.1
    obtain ⟨gr', curR, eR, xR, hcR⟩ := LR.box (by have := HJ.out; omega)
    simp only [Option.some.injEq, Addr.mk.injEq, and_true] at eR
    obtain rfl : gr = gr' := eR
    have hx2 := hx
    rw [mkM_row hq] at hx2
    obtain ⟨a1, a2, a3, a4, a5, a6, a7, a8, e1, e2, e3, e4, z1, z2⟩ := hx2.els k (by simpa using HK2.out)
    obtain ⟨b1, b2, b3, b4, b5, b6, b7, b8, e5, e6, e7, e8, z3, z4⟩ := hx2.els j (by simpa using HJ.out)
    rw [show ((List.range W).map (cx (fun r => F (swr i k r)) j k q q))[k]'(by simpa using HK2.out) = F (swr i k q) k by simp [cx_row]] at z1 z2
    rw [show ((List.range W).map (cx (fun r => F (swr i k r)) j k q q))[j]'(by simpa using HJ.out) = F (swr i k q) j by simp [cx_row]] at z3 z4
    replace e1 := hcR _ _ e1
    replace e2 := hcR _ _ e2
    replace e3 := hcR _ _ e3
    replace e4 := hcR _ _ e4
    replace e5 := hcR _ _ e5
    replace e6 := hcR _ _ e6
    replace e7 := hcR _ _ e7
    replace e8 := hcR _ _ e8
    clear LO hcO hrv LR hcR hx2
    refine wp_seq_k ?_
    intro K4 hK4
    refine rg [0] ?_
    refine sq ?_
    refine .r0 ?_
    apply wpSq_end
    refine hK4 _ _ ?_
    refine wp_seq_k ?_
    intro K5 hK5
    refine ct ?_
    refine wp_skip ?_
    refine hK5 _ _ ?_
    refine wp_seq_k ?_
    intro K6 hK6
    refine wp_block ?_
    refine wp_seq_k ?_
    intro K7 hK7
    refine rg [0, 1, 2] ?_
    refine sq ?_
    refine .r0 ?_
    refine sq ?_
    refine .r1 (xO.cell _ eO) ?_
    refine sq ?_
    refine .mv ?_
    apply wpSq_end
    refine hK7 _ _ ?_
    refine wp_region_f4 [(0, false), (1, false), (2, false), (3, false), (4, false), (5, false), (6, false), (7, false), (8, false), (9, false), (10, false), (11, false), (12, false)] [13, 14, 15] [] (fun _ => default) [99, 99, 99, 99, 99, 99, 99, 0, 99, 99, 99, 0, 99, 99, 99, 99] [(13, 0), (14, 0), (15, 0)] (.c xR .n) fn fun w_6 n6 => ?_
    replace xO := xO.bl n6; replace xR := xR.bl n6; replace hs := hs.bl n6
    refine fmv ?_
    refine fmv ?_
    refine fmv ?_
    refine fmv ?_
    refine fmv ?_
    refine fmv ?_
    refine f0 ?_
    apply wpFl_ld rfl rfl; (case h1 => intro w' hC K hK; have c0 := Bs.cell hC ((k * 4)) e1; have c1 := Bs.cell hC ((k * 4) + 1) e2; have c2 := Bs.cell hC ((k * 4) + 2) e3; have c3 := Bs.cell hC ((k * 4) + 3) e4; go_big_op; exact hK); iterate 4 kernel_rfl
    refine fmv ?_
    refine fmv ?_
    refine f0 ?_
    apply wpFl_ld rfl rfl; (case h1 => intro w' hC K hK; have c0 := Bs.cell hC ((j * 4)) e5; have c1 := Bs.cell hC ((j * 4) + 1) e6; have c2 := Bs.cell hC ((j * 4) + 2) e7; have c3 := Bs.cell hC ((j * 4) + 3) e8; go_big_op; exact hK); iterate 4 kernel_rfl
    refine f0 ?_
    refine e0 hs ?_; clear hs; intro w_7 hs n7
    replace xO := xO.bl n7; replace xR := xR.bl n7
    refine tl ?_
    refine .i4 0 hs (j := j) (by exact HJ.out) ?_ (e := fun _ hB hO => (And.intro True.intro True.intro)); clear hs; intro w_8 hs kp8 hd8 ho8 hw8; simp only [List.set_cons_zero] at hs
    clear xO
    clear xR
    refine tl ?_
    refine .r0 ?_ (e := (And.intro True.intro True.intro))
    refine tl ?_
    refine .i4 0 hs (j := k) (by exact HK2.out) ?_ (e := fun _ hB hO => (And.intro True.intro True.intro)); clear hs; intro w_9 hs kp9 hd9 ho9 hw9; simp only [List.set_cons_zero] at hs
    apply wpTail_end
    refine hK6 _ _ ?_
    refine rg [0, 1] ?_
    refine sq ?_
    refine .r0 ?_
    refine sq ?_
    refine .mv ?_
    apply wpSq_end
    have k0_4 := (((kb n6).b n7).t kp8).t kp9
    replace z1 := z1.k k0_4
    replace z2 := z2.k k0_4
    replace z3 := z3.k k0_4
    replace z4 := z4.k k0_4
    replace hx := hx.k k0_4
    replace hd := hd.k k0_4
    replace kk := kk.k k0_4
    refine ‹∀ (a' : Act) (w' : World), Handed _ _ a' w' → _› _ _ ?_
    rw [mkM_row HQ.out, cx_row] at hx
    have hy := GD.put z3 z4 (q := k) (GD.put z1 z2 (q := j) hx (by simpa using HJ.out)) (by simpa using HK2.out)
    rw [show ((F (swr i k q) k).1, (F (swr i k q) k).2) = F (swr i k q) k from rfl, show ((F (swr i k q) j).1, (F (swr i k q) j).2) = F (swr i k q) j from rfl, map_swap (g := F (swr i k q)) HJ.out HK2.out] at hy
    have hd := RD.set' (v := .slice (some ⟨gr, 0, none⟩) W cr) (n := W) (by simp) hy hd hr1
    rw [cx_step (F := fun r => F (swr i k r)) HQ.out] at hd
    go_roundg (gk - 1)
    case rel => exact ⟨q + 1, _, by rfl, by omega, by simpa using hrl, hd, kk, hs.unrow (bs := bx pt #[.slice (some ⟨gO, 0, none⟩) n c, .int .i64 (h : Int), .int .i64 (m : Int), .bool odd] 77 :: bs)⟩
    case measure => omega
  · obtain rfl : n = q := by omega
    have HX := hide hq
    refine wp_seq_k ?_
    intro K4 hK4
    refine rg [0] ?_
    refine sq ?_
    refine .r0 ?_
    apply wpSq_end
    refine hK4 _ _ ?_
    refine wp_seq_k ?_
    intro K5 hK5
    refine cf ?_
    refine wp_exit ?_
    refine hK2 _ _ ?_
    refine rg [0, 1, 2, 3, 4, 5, 6, 7, 8, 9, 10, 11, 12, 13, 14, 15] ?_
    refine sq ?_
    refine .mv ?_
    refine sq ?_
    refine .mv ?_
    refine sq ?_
    refine .r0 ?_
    refine sq ?_
    refine .r0 ?_
    refine sq ?_
    refine .r4 hs.g1.f4 ?_
    refine sq ?_
    refine .mv ?_
    refine sq ?_
    refine .mv ?_
    refine sq ?_
    refine .r0 ?_
    refine sq ?_
    refine .r0 ?_
    refine sq ?_
    refine .mv ?_
    refine sq ?_
    refine .mv ?_
    refine sq ?_
    refine .r0 ?_
    refine sq ?_
    refine .r0 ?_
    refine sq ?_
    refine .r0 ?_
    refine sq ?_
    refine .r0 ?_
    refine sq ?_
    intro K hK
    have xs := hs.g1
    obtain ⟨d0, d1, d2, d3⟩ := hs.g1.f4
    have f0 := xs.free 3
    go_big_op
    have hd6 := xs.nod rfl rfl
    obtain ⟨w_6, eW, xs', ho6⟩ : ∃ w', (wr.setCell ⟨pt, 3, none⟩ (.bool (!((!(odd == ((i : Int) != (k : Int)))) == ((j : Int) != (k : Int)))))) = w' ∧ Bs w' pt #[(.slice (some ⟨gO, 0, none⟩) n c), .int .i64 (h : Int), .int .i64 (m : Int), .bool (!((!(odd == ((i : Int) != (k : Int)))) == ((j : Int) != (k : Int))))] 77 ∧ Only pt wr w' := xs.setN [(3, .bool (!((!(odd == ((i : Int) != (k : Int)))) == ((j : Int) != (k : Int)))))]
    rw [eW]; clear eW d0 d1 d2 d3 f0 xs
    replace hs := hs.u1 kb_bt xs' ho6; clear xs'
    refine hK _ _ rfl trivial ?_; clear hK K
    apply wpSq_end
    try simp only [Exit.then, Exit.inBlock, if_true]
    refine bodyPost_end (results_none rfl _ _ _) rfl ?_
    have k0_1 := ko hd6 ho6
    replace hd := hd.k k0_1
    replace kk := kk.k k0_1
    exact ⟨rs, rfl, hrl, by rw [← cx_end]; exact hd, hs, kk.kp⟩
end
theorem swr_k {i k : Nat} : swr i k k = i := by
  unfold swr
  split
  · rename_i h; exact h
  · rw [if_pos rfl]
/-- What pivot(k) tells: the first number that is not 0, brought to row and column k; or that there is none. -/
def PvPost (k h m : Nat) (F : Nat → Nat → Int × Int) (odd fd : Bool) (F' : Nat → Nat → Int × Int) (odd' : Bool) (p : Int × Int) : Prop :=
  (fd = true ∧ ∃ i j, k ≤ i ∧ i < h ∧ k ≤ j ∧ j < m ∧ F i j ≠ (0, 0) ∧ F' = (fun r c => F (swr i k r) (swr j k c)) ∧ odd' = xo odd i j k ∧ p = F i j) ∨
  (fd = false ∧ F' = F ∧ odd' = odd ∧ p = (0, 0) ∧ ∀ i, k ≤ i → i < h → ∀ j, k ≤ j → j < m → F i j = (0, 0))
section
variable {w w0 : World} {pt n c h m W k l : Nat} {odd : Bool} {o : Option Addr} {rs : List Rw} {bs : List En} {F : Nat → Nat → Int × Int}
set_option maxHeartbeats 4000000 in
set_option maxRecDepth 20000 in
theorem pivot_any (hst : St w0 (ls w0.heap.size 28 1 (.slice o n c) n (rs.map (·.v)) :: bx pt #[.slice o n c, .int .i64 (h : Int), .int .i64 (m : Int), .bool odd] 77 :: (bs ++ rs.map (Rw.e w0.heap.size))) w)
    (kb_bt : Hid (w0.heap.size ≤ pt)) (hd : RD w rs (mkM n W F)) (hh : h ≤ n) (hm : m ≤ W) (hk : k ≤ h) (hk2 : k ≤ m) (hn : n ≤ 1000) (hW : W ≤ 3000000) (hF : ∀ i, k ≤ i → i < h → ∀ j, k ≤ j → j < m → zl l (F i j)) (hl : l ≤ 20000000) :
    Calls Tryz.prog 41 #[.pointer (some ⟨pt, 0, none⟩), .int .i64 (k : Int)] w fun e w' => ∃ v fd rs' F' odd' p, e = .returned (.tuple #[v, .bool fd]) ∧ PC w' v p.1 p.2 ∧ PvPost k h m F odd fd F' odd' p ∧ rs'.length = n ∧ RD w' rs' (mkM n W F') ∧
      St w0 (ls w0.heap.size 28 1 (.slice o n c) n (rs'.map (·.v)) :: bx pt #[.slice o n c, .int .i64 (h : Int), .int .i64 (m : Int), .bool odd'] 77 :: (bs ++ rs'.map (Rw.e w0.heap.size))) w' ∧ Kp w w' := by
  have hrl0 : rs.length = n := by rw [hd.len]; exact len_mkM
  have kk := KpF.r w
  have HF := hide hF
  have HH := hide hh
  have HM := hide hm
  have HK1 := hide hk
  have HK2 := hide hk2
  clear hF
  go_enter Tryz.func41, Tryz.ntmps41
  have hs := hst
  clear hst
  refine wp_seq_k ?_
  intro K1 hK1
  refine rg [0, 1] ?_
  refine sq ?_
  refine .al hs ?_; clear hs; intro p_b1 w_1 hs n1 kb_b1
  refine sq ?_
  refine .mv ?_
  apply wpSq_end
  refine hK1 _ _ ?_
  refine wp_seq_k ?_
  intro K2 hK2
  refine wp_seq_k ?_
  intro K3 hK3
  refine rg [0, 1] ?_
  refine sq ?_
  refine .mv ?_
  refine sq ?_
  refine .mv ?_
  apply wpSq_end
  refine hK3 _ _ ?_
  refine wp_block ?_
  have hs := hs.perm ((List.Perm.swap _ _ _).trans (List.Perm.cons _ (List.Perm.swap _ _ _)))
  have k0_1 := kb n1
  replace hd := hd.k k0_1
  replace kk := kk.k k0_1
  have hd2 := hs.2.1
  go_loopg [6] (h - k) (fun kz s6 wr => ∃ i : Nat, s6 = .int .i64 (i : Int) ∧ i + kz = h ∧ k ≤ i ∧ Hid (∀ r, k ≤ r → r < i → ∀ q, k ≤ q → q < m → F r q = (0, 0)) ∧ RD wr rs (mkM n W F) ∧ KpF w wr ∧
    St w0 (ls w0.heap.size 28 1 (.slice o n c) n (rs.map (·.v)) :: bx pt #[.slice o n c, .int .i64 (h : Int), .int .i64 (m : Int), .bool odd] 77 :: bx p_b1 #[.bool false, .slice none 0 0, .bool false, .slice none 0 0] 26 :: (bs ++ rs.map (Rw.e w0.heap.size))) wr)
  case atStart => exact ⟨k, rfl, by omega, Nat.le_refl _, hide (fun r h1 h2 => absurd h1 (by omega)), hd, kk, hs⟩
  case round =>
  clear kk hd hs
  obtain ⟨i, rfl, hih, hki, HZ, hd, kk, hs⟩ := hrel
  have HO := ‹∀ (a' : Act) (w' : World), Handed _ _ a' w' → _›
  obtain ⟨g1, hg1⟩ : ∃ g, gk = g := ⟨_, rfl⟩
  by_cases hi : i < h
  · have HI := hide hi
    have HIN := hide (show i < n by omega)
    refine wp_seq_k ?_
    intro K4 hK4
    refine wp_seq_k ?_
    intro K5 hK5
    refine rg [0, 1, 2, 3, 4, 5] ?_
    refine sq ?_
    refine .mv ?_
    refine sq ?_
    refine .mv ?_
    refine sq ?_
    refine .r0 ?_
    refine sq ?_
    refine .r0 ?_
    refine sq ?_
    refine .r4 hs.g1.f4 ?_
    refine sq ?_
    refine .r0 ?_
    apply wpSq_end
    refine hK5 _ _ ?_
    refine ct ?_
    refine wp_skip ?_
    refine hK4 _ _ ?_
    refine wp_seq_k ?_
    intro K6 hK6
    refine wp_block ?_
    refine wp_seq_k ?_
    intro K7 hK7
    refine rg [0, 1] ?_
    refine sq ?_
    refine .mv ?_
    refine sq ?_
    refine .mv ?_
    apply wpSq_end
    refine hK7 _ _ ?_
    refine wp_block ?_
    have hd3 := hs.2.1
    go_loopg [7] (m - k) (fun kz s7 wr => ∃ j : Nat, s7 = .int .i64 (j : Int) ∧ j + kz = m ∧ k ≤ j ∧ Hid (∀ q, k ≤ q → q < j → F i q = (0, 0)) ∧ RD wr rs (mkM n W F) ∧ KpF w wr ∧
      St w0 (ls w0.heap.size 28 1 (.slice o n c) n (rs.map (·.v)) :: bx pt #[.slice o n c, .int .i64 (h : Int), .int .i64 (m : Int), .bool odd] 77 :: bx p_b1 #[.bool false, .slice none 0 0, .bool false, .slice none 0 0] 26 :: (bs ++ rs.map (Rw.e w0.heap.size))) wr)
    case atStart => exact ⟨k, rfl, by have := HK2.out; omega, Nat.le_refl _, hide (fun q h1 h2 => absurd h1 (by omega)), hd, kk, hs⟩
    case round =>
    clear hd kk hs
    obtain ⟨j, rfl, hjm, hkj, HZJ, hd, kk, hs⟩ := hrel
    by_cases hj : j < m
    · have HJ := hide hj
      have HJW := hide (show j < W by have := HM.out; omega)
      obtain ⟨r1, gr, cr, xs, r2, er, hr1, hrv, hx, hs⟩ := hs.row (bs := bx pt #[.slice o n c, .int .i64 (h : Int), .int .i64 (m : Int), .bool odd] 77 :: bx p_b1 #[.bool false, .slice none 0 0, .bool false, .slice none 0 0] 26 :: bs) hd (p := i) (K := W) (by rw [len_mkM]; exact HIN.out) (by rw [mkM_row HIN.out]; simp) (by have := HJW.out; omega)
      have ER := hide er
      clear er
      have LO : Lst wr w0.heap.size 28 1 (.slice o n c) n _ := hs.1.2.1.1
      obtain ⟨gO, curO, rfl, xO, hcO⟩ := LO.box (by have := HIN.out; omega)
      have eO := hcO _ _ hrv
      have LR : Lst wr w0.heap.size 26 4 (.slice (some ⟨gr, 0, none⟩) W cr) W xs := hs.1.1.1
      obtain ⟨gr', curR, eR, xR, hcR⟩ := LR.box (by have := HJW.out; omega)
      simp only [Option.some.injEq, Addr.mk.injEq, and_true] at eR
      obtain rfl : gr = gr' := eR
      rw [mkM_row HIN.out] at hx
      obtain ⟨a1, a2, a3, a4, a5, a6, a7, a8, e1, e2, e3, e4, z1, z2⟩ := hx.els j (by simpa using HJW.out)
      rw [show ((List.range W).map (F i))[j]'(by simpa using HJW.out) = F i j by simp] at z1 z2
      replace e1 := hcR _ _ e1
      replace e2 := hcR _ _ e2
      replace e3 := hcR _ _ e3
      replace e4 := hcR _ _ e4
      have LB := hide (HF.out i hki HI.out j hkj hj)
      replace z1 := z1.zn LB.out.1
      replace z2 := z2.zn LB.out.2
      have HP := hide (show (F i j = (0, 0)) = ((F i j).1 = 0 ∧ (F i j).2 = 0) by rw [Prod.ext_iff])
      obtain ⟨P, hP⟩ : ∃ P, F i j = P := ⟨_, rfl⟩
      have HPE := hide hP
      rw [hP] at z1 z2 HP LB
      clear LO hcO hrv LR hcR hx hP
      by_cases h0 : P.1 = 0 ∧ P.2 = 0
      · have HD := hide (decide_eq_true h0)
        have HY := hide (HPE.out.trans (Eq.mpr HP.out h0))
        clear h0
        refine wp_seq_k ?_
        intro K8 hK8
        refine wp_seq_k ?_
        intro K9 hK9
        refine rg [0, 1, 2, 3, 4, 5] ?_
        refine sq ?_
        refine .mv ?_
        refine sq ?_
        refine .mv ?_
        refine sq ?_
        refine .r0 ?_
        refine sq ?_
        refine .r0 ?_
        refine sq ?_
        refine .r4 hs.g2.f4 ?_
        refine sq ?_
        refine .r0 ?_
        apply wpSq_end
        refine hK9 _ _ ?_
        refine ct ?_
        refine wp_skip ?_
        refine hK8 _ _ ?_
        refine wp_seq_k ?_
        intro K10 hK10
        refine wp_block ?_
        refine wp_seq_k ?_
        intro K11 hK11
        refine rg [0, 1, 2, 3, 4, 5, 6, 7, 8, 9, 10, 11] ?_
        refine sq ?_
        refine .mv ?_
        refine sq ?_
        refine .r0 ?_
        refine sq ?_
        refine .r0 ?_
        refine sq ?_
        refine .r4 hs.g2.f4 ?_
        refine sq ?_
        refine .mv ?_
        refine sq ?_
        refine .r0 ?_
        refine sq ?_
        refine .r1 (xO.cell _ eO) ?_
        refine sq ?_
        refine .mv ?_
        refine sq ?_
        refine .r0 ?_
        refine sq ?_
        refine .r4 ⟨xR.cell _ e1, xR.cell _ e2, xR.cell _ e3, xR.cell _ e4⟩ ?_
        refine sq ?_
        intro K hK
        go_big_op
        go_fit (isZero_any (.mk' z1 z2) (by omega) (by omega))
        rintro e w_4 ⟨rfl, hb_4⟩
        replace xO := xO.bl hb_4; replace xR := xR.bl hb_4; replace hs := hs.bl hb_4
        rw [HD.out]
        refine hK _ _ rfl trivial ?_
        clear hK K
        refine sq ?_
        refine .r0 ?_
        apply wpSq_end
        refine hK11 _ _ ?_
        refine cf ?_
        refine wp_skip ?_
        refine hK10 _ _ ?_
        refine rg [0, 1, 2] ?_
        refine sq ?_
        refine .mv ?_
        refine sq ?_
        refine .r0 ?_
        refine sq ?_
        refine .mv ?_
        apply wpSq_end
        have k0_1 := kb hb_4
        replace hd := hd.k k0_1
        replace kk := kk.k k0_1
        refine ‹∀ (a' : Act) (w' : World), Handed _ _ a' w' → _› _ _ ?_
        have e9 := ER.out
        subst e9
        have hs := hs.unrow (bs := bx pt #[.slice (some ⟨gO, 0, none⟩) n c, .int .i64 (h : Int), .int .i64 (m : Int), .bool odd] 77 :: bx p_b1 #[.bool false, .slice none 0 0, .bool false, .slice none 0 0] 26 :: bs)
        go_roundg (gk - 1)
        case rel => exact ⟨j + 1, by rfl, by omega, by omega, hide (fun q h1 h2 => by
          rcases Nat.lt_or_ge q j with h3 | h3
          · exact HZJ.out q h1 h3
          · obtain rfl : q = j := by omega
            exact HY.out), hd, kk, hs⟩
        case measure => omega
      · have HD := hide (decide_eq_false h0)
        have HNZ := hide (show F i j ≠ (0, 0) from fun c => h0 (Eq.mp HP.out (HPE.out.symm.trans c)))
        clear h0
        refine wp_seq_k ?_
        intro K8 hK8
        refine wp_seq_k ?_
        intro K9 hK9
        refine rg [0, 1, 2, 3, 4, 5] ?_
        refine sq ?_
        refine .mv ?_
        refine sq ?_
        refine .mv ?_
        refine sq ?_
        refine .r0 ?_
        refine sq ?_
        refine .r0 ?_
        refine sq ?_
        refine .r4 hs.g2.f4 ?_
        refine sq ?_
        refine .r0 ?_
        apply wpSq_end
        refine hK9 _ _ ?_
        refine ct ?_
        refine wp_skip ?_
        refine hK8 _ _ ?_
        refine wp_seq_k ?_
        intro K10 hK10
        refine wp_block ?_
        refine wp_seq_k ?_
        intro K11 hK11
        refine rg [0, 1, 2, 3, 4, 5, 6, 7, 8, 9, 10, 11] ?_
        refine sq ?_
        refine .mv ?_
        refine sq ?_
        refine .r0 ?_
        refine sq ?_
        refine .r0 ?_
        refine sq ?_
        refine .r4 hs.g2.f4 ?_
        refine sq ?_
        refine .mv ?_
        refine sq ?_
        refine .r0 ?_
        refine sq ?_
        refine .r1 (xO.cell _ eO) ?_
        refine sq ?_
        refine .mv ?_
        refine sq ?_
        refine .r0 ?_
        refine sq ?_
        refine .r4 ⟨xR.cell _ e1, xR.cell _ e2, xR.cell _ e3, xR.cell _ e4⟩ ?_
        refine sq ?_
        intro K hK
        go_big_op
        go_fit (isZero_any (.mk' z1 z2) (by omega) (by omega))
        rintro e w_4 ⟨rfl, hb_4⟩
        replace xO := xO.bl hb_4; replace xR := xR.bl hb_4; replace hs := hs.bl hb_4
        rw [HD.out]
        refine hK _ _ rfl trivial ?_
        clear hK K
        refine sq ?_
        refine .r0 ?_
        apply wpSq_end
        refine hK11 _ _ ?_
        refine ct ?_
        refine wp_seq_k ?_
        intro K12 hK12
        refine rg [0, 1, 2, 3, 4] ?_
        refine sq ?_
        refine .mv ?_
        refine sq ?_
        refine .mv ?_
        refine sq ?_
        refine .mv ?_
        refine sq ?_
        refine .mv ?_
        have k0_1 := kb hb_4
        replace hd := hd.k k0_1
        have e9 := ER.out
        subst e9
        have hs := hs.unrow (bs := bx pt #[.slice (some ⟨gO, 0, none⟩) n c, .int .i64 (h : Int), .int .i64 (m : Int), .bool odd] 77 :: bx p_b1 #[.bool false, .slice none 0 0, .bool false, .slice none 0 0] 26 :: bs)
        have HKN := hide (show k < n by have := HI.out; omega)
        have HKW := hide (show k < W by have := HJW.out; omega)
        refine sq ?_
        intro K hK
        go_big_op
        go_fit (exchange_any hs kb_bt hd HIN.out HKN.out HJW.out HKW.out hn hW)
        have bb5 := hs.b
        rintro e w_5 ⟨rs2, rfl, q1, hd2, hs', kp5⟩
        clear hs; have hs := hs'; clear hs'
        have bc5 := hs.b
        clear xO
        clear xR
        clear bb5 bc5
        obtain ⟨r3, g3, c3, xs3, r4, rfl, hr3, hrv, hx, hs⟩ := hs.row (bs := bx pt #[.slice (some ⟨gO, 0, none⟩) n c, .int .i64 (h : Int), .int .i64 (m : Int), .bool (xo odd i j k)] 77 :: bx p_b1 #[.bool false, .slice none 0 0, .bool false, .slice none 0 0] 26 :: bs) hd2 (p := k) (K := W) (by rw [len_mkM]; exact HKN.out) (by rw [mkM_row HKN.out]; simp) (by have := HKW.out; omega)
        have LO : Lst w_5 w0.heap.size 28 1 (.slice (some ⟨gO, 0, none⟩) n c) n _ := hs.1.2.1.1
        obtain ⟨gO', curO', eO', xO, hcO⟩ := LO.box (by have := HKN.out; omega)
        simp only [Option.some.injEq, Addr.mk.injEq, and_true] at eO'
        obtain rfl : gO = gO' := eO'
        have eO2 := hcO _ _ hrv
        have LR : Lst w_5 w0.heap.size 26 4 (.slice (some ⟨g3, 0, none⟩) W c3) W xs3 := hs.1.1.1
        obtain ⟨g4, curR', eR', xR, hcR⟩ := LR.box (by have := HKW.out; omega)
        simp only [Option.some.injEq, Addr.mk.injEq, and_true] at eR'
        obtain rfl : g3 = g4 := eR'
        rw [mkM_row HKN.out] at hx
        obtain ⟨b1, b2, b3, b4, b5, b6, b7, b8, e5, e6, e7, e8, z3, z4⟩ := hx.els k (by simpa using HKW.out)
        rw [show ((List.range W).map (fun q => F (swr i k k) (swr j k q)))[k]'(by simpa using HKW.out) = F i j by simp [swr_k]] at z3 z4
        replace e5 := hcR _ _ e5
        replace e6 := hcR _ _ e6
        replace e7 := hcR _ _ e7
        replace e8 := hcR _ _ e8
        clear LO hcO LR hcR hx
        refine hK _ _ rfl trivial ?_
        clear hK K
        apply wpSq_end
        refine hK12 _ _ ?_
        refine wp_seq_k ?_
        intro K13 hK13
        refine rg [0, 1, 2, 3, 4, 5, 6, 7, 8, 9, 10, 11] ?_
        refine sq ?_
        refine .mv ?_
        refine sq ?_
        refine .r0 ?_
        refine sq ?_
        refine .r0 ?_
        refine sq ?_
        refine .r4 hs.g2.f4 ?_
        refine sq ?_
        refine .mv ?_
        refine sq ?_
        refine .r0 ?_
        refine sq ?_
        refine .r1 (xO.cell _ eO2) ?_
        refine sq ?_
        refine .mv ?_
        refine sq ?_
        refine .r0 ?_
        refine sq ?_
        refine .r4 ⟨xR.cell _ e5, xR.cell _ e6, xR.cell _ e7, xR.cell _ e8⟩ ?_
        refine sq ?_
        refine .s4 hs.g3 (fun _ => hs.u3 kb_b1) ?_; clear hs; intro w_6 hs hd6 ho6
        replace xO := xO.frame ho6 (hs.ne 1 3); replace xR := xR.frame ho6 (hs.ne 0 3)
        refine sq ?_
        refine .mv ?_
        apply wpSq_end
        refine hK13 _ _ ?_
        refine wp_ret ?_
        have k2_3 := ko hd6 ho6
        replace hd2 := hd2.k k2_3
        have k0_3 := (k0_1.t kp5).o hd6 ho6
        replace kk := kk.k k0_3
        replace z3 := z3.k k2_3
        replace z4 := z4.k k2_3
        try dsimp only [Exit.then, Exit.inBlock]
        obtain ⟨r0_0, r0_1, r0_2, r0_3⟩ := hs.g3.f4
        refine bodyPost_ret (v := (.tuple #[(.agg #[.bool b1, .slice b2 b3 b4, .bool b5, .slice b6 b7 b8]), (.bool true)])) (by simp [results, Tryz.results41, go_sem, r0_0, r0_1, r0_2, r0_3]) rfl ?_
        exact ⟨_, true, _, _, _, F i j, rfl, .mk' z3 z4, .inl ⟨rfl, i, j, hki, HI.out, hkj, HJ.out, HNZ.out, rfl, rfl, rfl⟩, q1, hd2, (hs.unrow (bs := _ :: _ :: bs)).sub (.cons_cons _ (.cons_cons _ (.cons _ (List.Sublist.refl _)))), kk.kp⟩
    · obtain rfl : m = j := by omega
      have HX := hide hj
      refine wp_seq_k ?_
      intro K8 hK8
      refine wp_seq_k ?_
      intro K9 hK9
      refine rg [0, 1, 2, 3, 4, 5] ?_
      refine sq ?_
      refine .mv ?_
      refine sq ?_
      refine .mv ?_
      refine sq ?_
      refine .r0 ?_
      refine sq ?_
      refine .r0 ?_
      refine sq ?_
      refine .r4 hs.g1.f4 ?_
      refine sq ?_
      refine .r0 ?_
      apply wpSq_end
      refine hK9 _ _ ?_
      refine cf ?_
      refine wp_exit ?_
      refine hK6 _ _ ?_
      refine rg [0, 1, 2] ?_
      refine sq ?_
      refine .mv ?_
      refine sq ?_
      refine .r0 ?_
      refine sq ?_
      refine .mv ?_
      apply wpSq_end
      refine HO _ _ ?_
      go_roundg (g1 - 1)
      case rel => exact ⟨i + 1, by rfl, by omega, by omega, hide (fun r h1 h2 q h3 h4 => by
        rcases Nat.lt_or_ge r i with h5 | h5
        · exact HZ.out r h1 h5 q h3 h4
        · obtain rfl : r = i := by omega
          exact HZJ.out q h3 h4), hd, kk, hs⟩
      case measure => omega
  · obtain rfl : h = i := by omega
    have HX := hide hi
    refine wp_seq_k ?_
    intro K4 hK4
    refine wp_seq_k ?_
    intro K5 hK5
    refine rg [0, 1, 2, 3, 4, 5] ?_
    refine sq ?_
    refine .mv ?_
    refine sq ?_
    refine .mv ?_
    refine sq ?_
    refine .r0 ?_
    refine sq ?_
    refine .r0 ?_
    refine sq ?_
    refine .r4 hs.g1.f4 ?_
    refine sq ?_
    refine .r0 ?_
    apply wpSq_end
    refine hK5 _ _ ?_
    refine cf ?_
    refine wp_exit ?_
    refine hK2 _ _ ?_
    refine wp_seq_k ?_
    intro K6 hK6
    refine rg [0, 1, 2] ?_
    refine sq ?_
    refine .r0 ?_
    refine sq ?_
    refine .s4 hs.g2 (fun _ => hs.u2 kb_b1) ?_; clear hs; intro w_3 hs hd3 ho3
    refine sq ?_
    refine .mv ?_
    apply wpSq_end
    refine hK6 _ _ ?_
    refine wp_ret ?_
    have k0_1 := ko hd3 ho3
    replace hd := hd.k k0_1
    replace kk := kk.k k0_1
    try dsimp only [Exit.then, Exit.inBlock]
    obtain ⟨r0_0, r0_1, r0_2, r0_3⟩ := hs.g2.f4
    refine bodyPost_ret (v := (.tuple #[(.agg #[.bool false, .slice none 0 0, .bool false, .slice none 0 0]), (.bool false)])) (by simp [results, Tryz.results41, go_sem, r0_0, r0_1, r0_2, r0_3]) rfl ?_
    exact ⟨_, false, rs, F, odd, (0, 0), rfl, .mk' (zc_zero _) (zc_zero _), .inr ⟨rfl, rfl, rfl, rfl, fun r h1 h2 q h3 h4 => HZ.out r h1 h2 q h3 h4⟩, hrl0, hd, hs.sub (.cons_cons _ (.cons_cons _ (.cons _ (List.Sublist.refl _)))), kk.kp⟩
end
end Go.Proofs.YtcoodkdalblalaaGreatDoor
