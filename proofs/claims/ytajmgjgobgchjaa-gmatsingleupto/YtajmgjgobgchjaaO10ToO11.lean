/- The reference's Adj. -/
import Derived.Test.YtajmgjgobgchjaaO3ToO9
import Derived.Test.YtajmgjgobgchjaaI5ToO2

namespace Go.Proofs.Ytajmgjgobgchjaa
open Go Go.RowKit Dig
set_option linter.unusedVariables false
/-- Conjugated, row by row, up to row i's number j. -/
def cf_ (G : Nat → Nat → Int × Int) (i j : Nat) : Nat → Nat → Int × Int := fun p q => if p < i ∨ (p = i ∧ q < j) then cP (G p q) else G p q
section
variable {G : Nat → Nat → Int × Int} {i j n k : Nat}
theorem cf_0 : mkM k n G = mkM k n (cf_ G 0 0) := mkM_eq rfl rfl fun p _ q _ => by unfold cf_; rw [if_neg (by omega)]
theorem cf_here : cf_ G i j i j = G i j := by unfold cf_; rw [if_neg (by omega)]
theorem cf_step : upd (cf_ G i j) i j (cP (G i j)) = cf_ G i (j + 1) := by
  funext p q
  unfold upd cf_
  by_cases h : p = i ∧ q = j
  · rw [if_pos h, if_pos (by omega), h.1, h.2]
  · rw [if_neg h]
    by_cases h2 : p < i ∨ (p = i ∧ q < j)
    · rw [if_pos h2, if_pos (by omega)]
    · rw [if_neg h2, if_neg (by omega)]
theorem cf_row : mkM k n (cf_ G i n) = mkM k n (cf_ G (i + 1) 0) := mkM_eq rfl rfl fun p _ q hq => by
  unfold cf_
  by_cases h : p < i + 1
  · rw [if_pos (by omega), if_pos (by omega)]
  · rw [if_neg (by omega), if_neg (by omega)]
theorem cf_end : mkM k n (cf_ G k 0) = mkM k n fun p q => cP (G p q) := mkM_eq rfl rfl fun p hp q _ => by unfold cf_; rw [if_pos (by omega)]
theorem St.rowv {w0 w : World} {v : Value} {m p K : Nat} {rs : List Rw} {bs : List En} {Ms : List (List (Int × Int))} (hs : St w0 (ls w0.heap.size 51 1 v m (rs.map (·.v)) :: (bs ++ rs.map (Rw.e w0.heap.size))) w) (hd : RD w rs Ms) (hp : p < Ms.length) (hK : Ms[p].length = K) :
    ∃ o c, (rs.map (·.v))[p]? = some (.slice o K c) := by
  obtain ⟨r1, r, r2, rfl, h1, h2, h3⟩ := hd.at' hp
  have h4 : (ls w0.heap.size 51 1 v m ((r1 ++ r :: r2).map (·.v)) :: (bs ++ (r1 ++ r :: r2).map (Rw.e w0.heap.size)))[1 + (bs.length + p)]? = some (r.e w0.heap.size) := by
    rw [Nat.add_comm 1, List.getElem?_cons_succ, List.getElem?_append_right (by omega), show bs.length + p - bs.length = p by omega, List.getElem?_map, List.getElem?_append_right (by omega)]
    simp [h1]
  have L : Lst w w0.heap.size 43 4 r.v r.n r.xs := (hs.1.at h4).1
  obtain ⟨o, c, e⟩ := L.shape
  exact ⟨o, c, by rw [List.map_append, List.map_cons, List.getElem?_append_right (by simp [h1])]; simp [h1, e, h2, hK]⟩
end
section
variable {w : World} {l n k cm : Nat} {om : Option Addr} {M : List (List (Int × Int))}
set_option maxHeartbeats 4000000 in
set_option maxRecDepth 20000 in
theorem rAdj_any (hm : MN l w om M) (hn : M.length = n) (h : gd M) (hk : wd M = k) (hl1 : l ≤ 100000000) :
    Calls Try.prog 30 #[.slice om n cm] w fun e w' => ∃ o c rs, e = .returned (.slice o k c) ∧ rs.length = k ∧ St w (Mx w.heap.size (.slice o k c) rs) w' ∧ RD w' rs (mkM k n fun i j => cP (at2 M j i)) ∧ Below w.heap.size w w' := by
  obtain ⟨G, hG⟩ : ∃ G : Nat → Nat → Int × Int, G = fun i j => at2 M j i := ⟨_, rfl⟩
  have HF := hide (show (mkM k n fun i j => cP (at2 M j i)) = mkM k n fun i j => cP (G i j) by rw [hG])
  have HG := hide (fun i j => congrFun (congrFun hG i) j)
  have HM := hide hm
  have HB := hide hm.bd
  have hn64 : n ≤ 64 := by have := h.1; omega
  have hk64 : k ≤ 64 := by have := h.2.1; omega
  have H1 := hide h
  clear hm h
  go_enter Try.func30, Try.ntmps30
  have hs := St.nil w
  refine wp_seq_k ?_
  intro K1 hK1
  refine rg [0] ?_
  refine sq ?_
  refine .mv ?_
  apply wpSq_end
  refine hK1 _ _ ?_
  refine wp_seq_k ?_
  intro K2 hK2
  refine rg [0, 1, 2] ?_
  refine sq ?_
  refine .mv ?_
  refine sq ?_
  intro K hK
  have hb := hs.b
  go_big_op
  go_fit (rTrans_any (HM.out.bl stab_n hb) hn H1.out hk hl1)
  rintro e w_1 ⟨o_O, c_O, rs_O, rfl, hl_O, hs_O, d_O, hb_1⟩
  clear hb
  replace hs := hs.mx hl_O hs_O; simp only [List.nil_append] at hs
  refine hK _ _ rfl trivial ?_
  clear hK K
  refine sq ?_
  refine .mv ?_
  apply wpSq_end
  refine hK2 _ _ ?_
  refine wp_seq_k ?_
  intro K3 hK3
  refine wp_seq_k ?_
  intro K4 hK4
  refine rg [0] ?_
  refine sq ?_
  refine .mv ?_
  apply wpSq_end
  refine hK4 _ _ ?_
  refine wp_block ?_
  rw [← hG] at d_O
  clear hG
  have hd2 := hs.2.1
  go_loopg [4] k (fun kk s4 wr => ∃ (i : Nat) (rs : List Rw), s4 = .int .i64 (i : Int) ∧ i + kk = k ∧ rs.length = k ∧ RD wr rs (mkM k n (cf_ G i 0)) ∧
    St w (ls w.heap.size 51 1 (.slice o_O k c_O) k (rs.map (·.v)) :: ([] ++ rs.map (Rw.e w.heap.size))) wr)
  case atStart => exact ⟨0, rs_O, rfl, by omega, hl_O, by rw [← cf_0]; exact d_O, hs⟩
  case round =>
  clear d_O hs
  obtain ⟨i, rs, rfl, hik, hrl, hd, hs⟩ := hrel
  have HO := ‹∀ (a' : Act) (w' : World), Handed _ _ a' w' → _›
  obtain ⟨g1, hg1⟩ : ∃ g, gk = g := ⟨_, rfl⟩
  by_cases hi : i < k
  · have HX := hide hi
    refine wp_seq_k ?_
    intro K5 hK5
    refine wp_seq_k ?_
    intro K6 hK6
    refine rg [0, 1, 2, 3] ?_
    refine sq ?_
    refine .mv ?_
    refine sq ?_
    refine .mv ?_
    refine sq ?_
    refine .r0 ?_
    refine sq ?_
    refine .r0 ?_
    apply wpSq_end
    refine hK6 _ _ ?_
    refine ct ?_
    refine wp_skip ?_
    refine hK5 _ _ ?_
    refine wp_seq_k ?_
    intro K7 hK7
    refine wp_block ?_
    refine wp_seq_k ?_
    intro K8 hK8
    refine rg [0] ?_
    refine sq ?_
    refine .mv ?_
    apply wpSq_end
    refine hK8 _ _ ?_
    refine wp_block ?_
    have hd3 := hs.2.1
    go_loopg [5] n (fun kk s5 wr => ∃ (j : Nat) (rs : List Rw), s5 = .int .i64 (j : Int) ∧ j + kk = n ∧ rs.length = k ∧ RD wr rs (mkM k n (cf_ G i j)) ∧
      St w (ls w.heap.size 51 1 (.slice o_O k c_O) k (rs.map (·.v)) :: ([] ++ rs.map (Rw.e w.heap.size))) wr)
    case atStart => exact ⟨0, rs, rfl, by omega, hrl, hd, hs⟩
    case round =>
    clear hd hs
    clear hrl
    obtain ⟨j, rs, rfl, hjk, hrl, hd, hs⟩ := hrel
    by_cases hj : j < n
    · have HJ := hide hj
      obtain ⟨r1, gr, cr, xs, r2, rfl, hr1, hrv, hx, hs⟩ := hs.row (bs := []) hd (p := i) (K := n) (by rw [len_mkM]; exact HX.out) (by rw [mkM_row HX.out]; simp) (by omega)
      have LO : Lst wr w.heap.size 51 1 (.slice o_O k c_O) k _ := hs.1.2.1.1
      obtain ⟨gO, curO, rfl, xO, hcO⟩ := LO.box (by omega)
      have eO := hcO _ _ hrv
      have LR : Lst wr w.heap.size 43 4 (.slice (some ⟨gr, 0, none⟩) n cr) n xs := hs.1.1.1
      obtain ⟨gr', curR, eR, xR, hcR⟩ := LR.box (by omega)
      simp only [Option.some.injEq, Addr.mk.injEq, and_true] at eR
      obtain rfl : gr = gr' := eR
      have hx2 := hx
      rw [mkM_row HX.out] at hx2
      obtain ⟨a1, a2, a3, a4, a5, a6, a7, a8, e1, e2, e3, e4, z1, z2⟩ := hx2.els j (by simpa using hj)
      rw [show ((List.range n).map (cf_ G i j i))[j]'(by simpa using hj) = at2 M j i by simp [cf_here, HG.out]] at z1 z2
      have LB := hide (at2_bd (i := j) (j := i) HB.out)
      replace e1 := hcR _ _ e1
      replace e2 := hcR _ _ e2
      replace e3 := hcR _ _ e3
      replace e4 := hcR _ _ e4
      clear LO hcO hrv LR hcR hx2
      have hi' := HX.out
      refine wp_seq_k ?_
      intro K9 hK9
      refine wp_seq_k ?_
      intro K10 hK10
      refine rg [0, 1, 2, 3, 4, 5, 6] ?_
      refine sq ?_
      refine .mv ?_
      refine sq ?_
      refine .mv ?_
      refine sq ?_
      refine .mv ?_
      refine sq ?_
      refine .r0 ?_
      refine sq ?_
      refine .r1 (xO.cell _ eO) ?_
      refine sq ?_
      refine .r0 ?_
      refine sq ?_
      refine .r0 ?_
      apply wpSq_end
      refine hK10 _ _ ?_
      refine ct ?_
      refine wp_skip ?_
      refine hK9 _ _ ?_
      refine wp_seq_k ?_
      intro K11 hK11
      refine wp_block ?_
      refine wp_region_f4 [(0, false), (1, false), (2, false), (3, false), (4, false), (5, false), (6, false), (7, false), (8, false), (9, false), (10, false), (11, false), (12, true), (13, false)] [14] [] (fun _ => default) [99, 99, 99, 0, 99, 99, 99, 99, 0, 99, 99, 1, 99, 99, 99] [(14, 1)] (.c xO (.c xR .n)) fn fun w_4 n4 => ?_
      replace xR := xR.bl n4; replace xO := xO.bl n4; replace hs := hs.bl n4
      refine fmv ?_
      refine fmv ?_
      refine f0 ?_
      apply wpFl_ld rfl rfl; (case h1 => intro w' hC K hK; have c0 := Bs.cell hC (i) eO; go_big_op; exact hK); iterate 4 kernel_rfl
      refine fmv ?_
      refine fmv ?_
      refine fmv ?_
      refine f0 ?_
      apply wpFl_ld rfl rfl; (case h1 => intro w' hC K hK; have c0 := Bs.cell hC (i) eO; go_big_op; exact hK); iterate 4 kernel_rfl
      refine fmv ?_
      refine f0 ?_
      apply wpFl_ld rfl rfl; (case h1 => intro w' hC K hK; have c0 := Bs.cell hC ((j * 4)) e1; have c1 := Bs.cell hC ((j * 4) + 1) e2; have c2 := Bs.cell hC ((j * 4) + 2) e3; have c3 := Bs.cell hC ((j * 4) + 3) e4; go_big_op; exact hK); iterate 4 kernel_rfl
      refine fl fun w_5 n5 => ?_
      replace xR := xR.bl n5; replace xO := xO.bl n5; replace hs := hs.bl n5
      intro K hK
      have k0_2 := (kb n4).b n5
      replace z1 := z1.k k0_2
      replace z2 := z2.k k0_2
      go_big_op
      go_fit (rgConj_any (.mk' (z1.zn LB.out.1) (z2.zn LB.out.2)) (by omega) (by omega))
      rintro e w_6 ⟨_, rfl, ⟨n_fa, o_fa, k_fa, c_fa, n_fb, o_fb, k_fb, c_fb, rfl, f1, f2⟩, hb_6⟩
      replace xR := xR.bl hb_6; replace xO := xO.bl hb_6; replace hs := hs.bl hb_6
      refine hK _ _ rfl ⟨hb_6, (And.intro xO (And.intro xR trivial))⟩ ?_
      clear hK K
      refine f0 ?_
      refine e0 hs ?_; clear hs; intro w_7 hs n7
      replace xR := xR.bl n7; replace xO := xO.bl n7
      refine tl ?_
      refine .i4 0 hs (j := j) (by omega) ?_ (e := fun _ hB hO => (And.intro (xO.frame hO (hs.ne 1 0)) (And.intro True.intro True.intro))); clear hs; intro w_8 hs kp8 hd8 ho8 hw8; simp only [List.set_cons_zero] at hs
      clear xR
      clear xO
      apply wpTail_end
      refine hK11 _ _ ?_
      refine rg [0, 1, 2] ?_
      refine sq ?_
      refine .mv ?_
      refine sq ?_
      refine .r0 ?_
      refine sq ?_
      refine .mv ?_
      apply wpSq_end
      have k0_5 := ((k0_2.b hb_6).b n7).t kp8
      replace hd := hd.k k0_5
      replace hx := hx.k k0_5
      have k3_5 := (kb n7).t kp8
      replace f1 := f1.k k3_5
      replace f2 := f2.k k3_5
      refine ‹∀ (a' : Act) (w' : World), Handed _ _ a' w' → _› _ _ ?_
      go_roundg (gk - 1)
      case rel => exact ⟨j + 1, _, by rfl, by omega, by simpa using hrl, by rw [← cf_step, HG.out]; exact hd.upd hr1 hi' HJ.out hx f1 f2, hs.unrow (bs := [])⟩
      case measure => omega
    · obtain rfl : n = j := by omega
      have HJ := hide hj
      obtain ⟨oi, ci, hrv⟩ := hs.rowv (bs := []) hd (p := i) (K := n) (by rw [len_mkM]; exact HX.out) (by rw [mkM_row HX.out]; simp)
      have LO : Lst wr w.heap.size 51 1 (.slice o_O k c_O) k _ := hs.1.1.1
      obtain ⟨gO, curO, rfl, xO, hcO⟩ := LO.box (by omega)
      have eO := hcO _ _ hrv
      clear LO hcO hrv
      refine wp_seq_k ?_
      intro K9 hK9
      refine wp_seq_k ?_
      intro K10 hK10
      refine rg [0, 1, 2, 3, 4, 5, 6] ?_
      refine sq ?_
      refine .mv ?_
      refine sq ?_
      refine .mv ?_
      refine sq ?_
      refine .mv ?_
      refine sq ?_
      refine .r0 ?_
      refine sq ?_
      refine .r1 (xO.cell _ eO) ?_
      refine sq ?_
      refine .r0 ?_
      refine sq ?_
      refine .r0 ?_
      apply wpSq_end
      refine hK10 _ _ ?_
      refine cf ?_
      refine wp_exit ?_
      refine hK7 _ _ ?_
      refine rg [0, 1, 2] ?_
      refine sq ?_
      refine .mv ?_
      refine sq ?_
      refine .r0 ?_
      refine sq ?_
      refine .mv ?_
      apply wpSq_end
      refine HO _ _ ?_
      go_roundg (g1 - 1)
      case rel => exact ⟨i + 1, rs, by rfl, by omega, hrl, by rw [← cf_row]; exact hd, hs⟩
      case measure => omega
  · obtain rfl : k = i := by omega
    have HX := hide hi
    refine wp_seq_k ?_
    intro K5 hK5
    refine wp_seq_k ?_
    intro K6 hK6
    refine rg [0, 1, 2, 3] ?_
    refine sq ?_
    refine .mv ?_
    refine sq ?_
    refine .mv ?_
    refine sq ?_
    refine .r0 ?_
    refine sq ?_
    refine .r0 ?_
    apply wpSq_end
    refine hK6 _ _ ?_
    refine cf ?_
    refine wp_exit ?_
    refine hK3 _ _ ?_
    refine wp_seq_k ?_
    intro K7 hK7
    refine rg [0, 1] ?_
    refine sq ?_
    refine .mv ?_
    refine sq ?_
    refine .mv ?_
    apply wpSq_end
    refine hK7 _ _ ?_
    refine wp_ret ?_
    try dsimp only [Exit.then, Exit.inBlock]
    refine bodyPost_ret (v := (.slice o_O k c_O)) (by simp [results, Try.results30, go_sem]) rfl ?_
    exact ⟨_, _, rs, rfl, hrl, (by unfold Mx; rw [hrl]; exact hs), by rw [HF.out, ← cf_end]; exact hd, hs.b⟩
end
end Go.Proofs.Ytajmgjgobgchjaa


/- GmatAlong: what its calls tell. -/
namespace Go.Proofs.Ytajmgjgobgchjaa
open Go Go.RowKit Dig
set_option linter.unusedVariables false
section
variable {w : World} {l la lb lv n k na nb ca cb c : Nat} {oa ob ov : Option Addr} {A B : List (List (Int × Int))} {V : List (Int × Int)}
theorem lAdj (ha : MN la w oa A) (hna : A.length = na) (h : gd A) (hla : la ≤ 100000000) (hk : wd A = k) :
    Calls Try.prog 26 #[.slice oa na ca] w fun e w' => ∃ o c, e = .returned (.tuple #[.slice o k c, .int .i64 0]) ∧ MC w' o (adjM A) ∧ Below w.heap.size w w' := by
  have := mxmc (mAdj_ok (ca := ca) ha hna h hla hk)
  subst hk hna
  exact this
theorem lGram (ha : MN la w oa A) (hna : A.length = na) (h : gd A) (h1 : la ≤ 10000000) :
    Calls Try.prog 27 #[.slice oa na ca] w fun e w' => ∃ o c, e = .returned (.tuple #[.slice o na c, .int .i64 0]) ∧ MC w' o (gramM A) ∧ Below w.heap.size w w' := by
  have := mxmc (mGram_ok (ca := ca) ha hna h rfl h1)
  subst hna
  exact this
end
end Go.Proofs.Ytajmgjgobgchjaa


/- GmatSingle: what its calls tell. -/
namespace Go.Proofs.Ytajmgjgobgchjaa
open Go Go.RowKit Dig
set_option linter.unusedVariables false
theorem mxmc2 {K n : Nat} {a : Array Value} {w : World} {M : List (List (Int × Int))} (h : Calls Try.prog K a w fun e w' => ∃ o c rs, e = .returned (.slice o n c) ∧ rs.length = n ∧ St w (Mx w.heap.size (.slice o n c) rs) w' ∧ RD w' rs M ∧ Below w.heap.size w w') :
    Calls Try.prog K a w fun e w' => ∃ o c, e = .returned (.slice o n c) ∧ MC w' o M ∧ Below w.heap.size w w' :=
  Calls.mono h fun e w' ⟨o, c, rs, h1, h2, h3, h4, h5⟩ => ⟨o, c, h1, Mx.mc0 h3 h2 h4, h5⟩
/-- The rows' multiples; rows to columns. -/
def scM (A : List (List (Int × Int))) (g : Int × Int) : List (List (Int × Int)) := mkM A.length (wd A) fun i j => mP (at2 A i j) g
def trM (A : List (List (Int × Int))) : List (List (Int × Int)) := mkM (wd A) A.length fun i j => at2 A j i
theorem mkM_rl {R K : Nat} {F : Nat → Nat → Int × Int} (h : K ≤ 64) : ∀ r ∈ mkM R K F, r.length ≤ 1000000000 := fun r hr => by
  obtain ⟨i, _, rfl⟩ := List.mem_map.1 hr
  simp only [List.length_map, List.length_range]; omega
section
variable {w : World} {l lb n k c : Nat} {o : Option Addr} {A : List (List (Int × Int))} {vg : Value} {u v : Int}
theorem lScale (ha : MN l w o A) (hg : PN w vg u lb v lb) (hn : A.length = n) (h : gd A) (hla : l ≤ 20000000) (hlb : lb ≤ 20000000) :
    Calls Try.prog 24 #[.slice o n c, vg] w fun e w' => ∃ o c, e = .returned (.tuple #[.slice o n c, .int .i64 0]) ∧ MC w' o (scM A (u, v)) ∧ Below w.heap.size w w' := by
  have := mxmc (mScale_ok (ca := c) ha hg hn h (by omega) (by omega))
  subst hn; exact this
theorem lTrans (ha : MN l w o A) (hn : A.length = n) (h : gd A) (hla : l ≤ 100000000) (hk : wd A = k) :
    Calls Try.prog 25 #[.slice o n c] w fun e w' => ∃ o c, e = .returned (.tuple #[.slice o k c, .int .i64 0]) ∧ MC w' o (trM A) ∧ Below w.heap.size w w' := by
  have := mxmc (mTrans_ok (ca := c) ha hn h hla hk)
  subst hn hk; exact this
theorem rScale8 (ha : MN l w o A) (hg : PN w vg u lb v lb) (hn : A.length = n) (h : gd A) (hla : l ≤ 20000000) (hlb : lb ≤ 20000000) :
    Calls Try.prog 28 #[.slice o n c, vg] w fun e w' => ∃ o c, e = .returned (.slice o n c) ∧ MC w' o (scM A (u, v)) ∧ Below w.heap.size w w' := by
  have := mxmc2 (rScale_any (cm := c) ha hg hn h rfl hla hlb)
  subst hn; exact this
theorem rTrans8 (ha : MN l w o A) (hn : A.length = n) (h : gd A) (hla : l ≤ 100000000) (hk : wd A = k) :
    Calls Try.prog 29 #[.slice o n c] w fun e w' => ∃ o c, e = .returned (.slice o k c) ∧ MC w' o (trM A) ∧ Below w.heap.size w w' := by
  have := mxmc2 (rTrans_any (cm := c) ha hn h hk hla)
  subst hn hk; exact this
theorem rAdj8 (ha : MN l w o A) (hn : A.length = n) (h : gd A) (hla : l ≤ 100000000) (hk : wd A = k) :
    Calls Try.prog 30 #[.slice o n c] w fun e w' => ∃ o c, e = .returned (.slice o k c) ∧ MC w' o (adjM A) ∧ Below w.heap.size w w' := by
  have := mxmc2 (rAdj_any (cm := c) ha hn h hk hla)
  subst hn hk; exact this
theorem rGram8 (ha : MN l w o A) (hn : A.length = n) (h : gd A) (hla : l ≤ 9000000) :
    Calls Try.prog 31 #[.slice o n c] w fun e w' => ∃ o c, e = .returned (.slice o n c) ∧ MC w' o (gramM A) ∧ Below w.heap.size w w' := by
  have := mxmc2 (rGram_any (cm := c) ha hn h rfl hla)
  subst hn; exact this
theorem bd_scM (ha : BdM l A) (h1 : (dig u.natAbs).length ≤ lb) (h2 : (dig v.natAbs).length ≤ lb) : BdM (l + lb + 1) (scM A (u, v)) := bd_mkM fun i _ j _ => zl_mP (at2_bd ha) ⟨h1, h2⟩
theorem bd_trM (ha : BdM l A) : BdM l (trM A) := bd_mkM fun i _ j _ => at2_bd ha
end
end Go.Proofs.Ytajmgjgobgchjaa

