/- The reference's Exact, where it divides. -/
import Derived.Test.YtjfjlloibmebeaaRtToH2a
import Derived.Test.YtjfjlloibmebeaaG1ToG2
import Derived.Test.YtjfjlloibmebeaaE1ToO3
import Derived.Test.YtjfjlloibmebeaaE7ToDt2
import Derived.Test.YtjfjlloibmebeaaGpToU4
import Derived.Test.YtjfjlloibmebeaaI5ToDp

namespace Go.Proofs.Ytjfjlloibmebeaa
open Go Go.RowKit Dig
set_option linter.unusedVariables false
section
variable {w : World} {va vb : Value} {x y u v : Int} {l m k n : Nat} {q z : Int × Int}
end
end Go.Proofs.Ytjfjlloibmebeaa


/- The reference's elimination: what stands from column to column. -/
namespace Go.Proofs.Ytjfjlloibmebeaa
open Go Go.RowKit Dig
set_option linter.unusedVariables false
section
variable {n W c k p i j : Nat} {A0 A F : Nat → Nat → Int × Int} {g : Nat → Nat} {odd : Bool}
/-- Rows exchanged. -/
def Pmr (n : Nat) (A0 A : Nat → Nat → Int × Int) : Prop := ∃ u u' : Nat → Nat, (∀ i j, A i j = A0 (u i) j) ∧ ∀ i, (i < n → u i < n ∧ u' i < n) ∧ u (u' i) = i ∧ u' (u i) = i
theorem Pmr.swr (hp : Pmr n A0 A) (hi : i < n) (hk : k < n) : Pmr n A0 (fun r q => A (swr i k r) q) := by
  obtain ⟨u, u', hA, hu⟩ := hp
  refine ⟨fun r => u (Go.Proofs.Ytjfjlloibmebeaa.swr i k r), fun r => Go.Proofs.Ytjfjlloibmebeaa.swr i k (u' r), fun r q => hA _ _, fun r => ⟨fun hr => ⟨((hu _).1 (swr_lt hi hk hr)).1, swr_lt hi hk ((hu r).1 hr).2⟩, ?_, ?_⟩⟩
  · simp only [swr_inv]; exact (hu r).2.1
  · simp only [(hu _).2.2, swr_inv]
structure EInv (n W : Nat) (A0 : Nat → Nat → Int × Int) (c k : Nat) (A F : Nat → Nat → Int × Int) (g : Nat → Nat) (odd : Bool) : Prop where
  kn : k ≤ n
  kc : k ≤ c
  cW : c ≤ W
  mono : ∀ x, x < k → g x < c ∧ ∀ y, y < x → g y < g x
  dne : Dt.det k (fun r x => A r (g x)) ≠ 0
  pm : Pmr n A0 A
  sgn : Dt.det n A = sgb odd (Dt.det n A0)
  low : ∀ q, q < c → ∀ r, r < n → Dt.Dg k A g r q = 0
  tab : ∀ r, k ≤ r → r < n → ∀ q, c ≤ q → q < W → F r q = Dt.Dg k A g r q
theorem EInv.skip (h : EInv n W A0 c k A F g odd) (hc : c < W) (hz : ∀ r, k ≤ r → r < n → F r c = (0, 0)) : EInv n W A0 (c + 1) k A F g odd :=
  ⟨h.kn, by have := h.kc; omega, hc, fun x hx => ⟨by have := (h.mono x hx).1; omega, (h.mono x hx).2⟩, h.dne, h.pm, h.sgn, fun q hq r hr => by
    rcases Nat.lt_or_ge q c with e | e
    · exact h.low q e r hr
    · obtain rfl : q = c := by omega
      by_cases e2 : r < k
      · exact Dt.Dg_row0 e2
      · rw [← h.tab r (by omega) hr q (Nat.le_refl _) hc]; exact hz r (by omega) hr,
    fun r h1 h2 q h3 h4 => h.tab r h1 h2 q (by omega) h4⟩
theorem Dg_col0 {x r : Nat} (hx : x < k) : Dt.Dg k A g r (g x) = 0 := by
  unfold Dt.Dg Dt.D
  refine Dt.det_coleq (c1 := x) (c2 := k) hx (by omega) fun i _ => ?_
  have e1 : Dt.gx k g (g x) (Dt.bord k k x) = g x := by unfold Dt.gx Dt.bord; rw [if_pos hx, if_pos hx]
  have e2 : Dt.gx k g (g x) (Dt.bord k k k) = g x := by unfold Dt.gx Dt.bord; rw [if_neg (Nat.lt_irrefl _), if_neg (Nat.lt_irrefl _)]
  show A _ _ = A _ _
  rw [e1, e2]
/-- The step at column c, done up to row i's number j. -/
def Gel (k c : Nat) (A : Nat → Nat → Int × Int) (g : Nat → Nat) (F : Nat → Nat → Int × Int) (i j : Nat) : Nat → Nat → Int × Int := fun p q =>
  if k < p ∧ ((p < i ∧ c ≤ q) ∨ (p = i ∧ c < q ∧ q < j)) then (if q = c then (0, 0) else Dt.Dg (k + 1) A g p q) else F p q
/-- With the pivot in its place: the numbers that the step starts from. -/
structure EMid (n W : Nat) (A0 : Nat → Nat → Int × Int) (c k : Nat) (A F : Nat → Nat → Int × Int) (g : Nat → Nat) (odd : Bool) : Prop where
  kn : k < n
  kc : k ≤ c
  cW : c < W
  mono : ∀ x, x < k → g x < c ∧ ∀ y, y < x → g y < g x
  gk : g k = c
  dne : Dt.det k (fun r x => A r (g x)) ≠ 0
  pne : F k c ≠ (0, 0)
  pm : Pmr n A0 A
  sgn : Dt.det n A = sgb odd (Dt.det n A0)
  low : ∀ q, q < c → ∀ r, r < n → Dt.Dg k A g r q = 0
  tab : ∀ r, k ≤ r → r < n → ∀ q, c ≤ q → q < W → F r q = Dt.Dg k A g r q
theorem EMid.last (h : EMid n W A0 c k A F g odd) : Dt.det (k + 1) (fun r x => A r (g x)) = F k c := by
  rw [← Dt.Dg_diag, h.gk, ← h.tab k (Nat.le_refl _) h.kn c (Nat.le_refl _) h.cW]
theorem EMid.next (h : EMid n W A0 c k A F g odd) : EInv n W A0 (c + 1) (k + 1) A (Gel k c A g F n (c + 1)) g odd := by
  refine ⟨h.kn, by have := h.kc; omega, h.cW, fun x hx => ?_, by rw [h.last]; exact h.pne, h.pm, h.sgn, fun q hq r hr => ?_, fun r h1 h2 q h3 h4 => by unfold Gel; rw [if_pos (by omega), if_neg (by omega)]⟩
  · by_cases e : x = k
    · subst e; rw [h.gk]; exact ⟨by omega, fun y hy => (h.mono y hy).1⟩
    · have := h.mono x (by omega); exact ⟨by omega, this.2⟩
  · rcases Nat.lt_or_ge q c with e | e
    · exact Dt.Dg_zero noz (h := n - 1) h.dne (fun i hi => h.low q e i (by have := h.kn; omega)) (by have := h.kn; omega) (by omega)
    · obtain rfl : q = g k := by rw [h.gk]; omega
      exact Dg_col0 (Nat.lt_succ_self k)
/-- At the end: the rank; the determinant. -/
theorem EInv.rk (h : EInv n W A0 c k A F g odd) (he : c = W ∨ k = n) : Dt.Rk n W A0 k := by
  obtain ⟨u, u', hA, hu⟩ := h.pm
  have := Dt.rk_ofG (h := n) (w := W) h.kn (fun x hx => by have := (h.mono x hx).1; have := h.cW; omega) h.dne fun i hi j hj => by
    rcases he with e | e
    · exact h.low j (by omega) i hi
    · exact Dt.Dg_row0 (by omega)
  exact this.perm (u := u) (u' := u') (v := id) (v' := id) (fun i _ j _ => hA i j) (fun i hi => ⟨((hu i).1 hi).1, ((hu i).1 hi).2, (hu i).2.1⟩) (fun i hi => ⟨hi, hi, rfl⟩)
theorem mono_id (hm : ∀ x, x < n → g x < n ∧ ∀ y, y < x → g y < g x) : ∀ x, x < n → g x = x := by
  have lo : ∀ x, x < n → x ≤ g x := by
    intro x
    induction x with
    | zero => intro _; omega
    | succ x ih => intro hx; have := ih (by omega); have := (hm (x + 1) hx).2 x (by omega); omega
  have hi : ∀ d x, x + d + 1 = n → g x ≤ x := by
    intro d
    induction d with
    | zero => intro x hx; have := (hm x (by omega)).1; omega
    | succ d ih => intro x hx; have := ih (x + 1) (by omega); have := (hm (x + 1) (by omega)).2 x (by omega); omega
  exact fun x hx => Nat.le_antisymm (hi (n - x - 1) x (by omega)) (lo x hx)
theorem EInv.det (h : EInv n n A0 c k A F g odd) (hk : k = n) : Dt.det n A0 = sgb odd (Dt.det k fun r x => A r (g x)) := by
  subst hk
  have e : Dt.det k (fun r x => A r (g x)) = Dt.det k A := Dt.det_congr fun r _ x hx => by
    rw [mono_id (n := k) (fun x hx => ⟨by have := (h.mono x hx).1; have := h.cW; omega, (h.mono x hx).2⟩) x hx]
  rw [e, h.sgn]
  cases odd <;> simp [sgb]
/-- Bounds. -/
theorem EInv.bd {L : Nat} (hB : MinB n W L A0) (hp : Pmr n A0 A) {s : Nat} (hg : ∀ x, x < s → g x < W) {i j : Nat} (hi : i < n) (hs : s ≤ n) (hj : j < W) : zl L (Dt.Dg s A g i j) := by
  obtain ⟨u, u', hA, hu⟩ := hp
  by_cases e : i < s
  · rw [Dt.Dg_row0 e]; exact zl_0 _
  · have e2 : Dt.Dg s A g i j = Dt.det (s + 1) fun r x => A0 (u (Dt.bord s i r)) (Dt.gx s g j (Dt.bord s s x)) := Dt.det_congr fun r _ x _ => hA _ _
    rw [e2]
    refine hB (s + 1) (fun r => u (Dt.bord s i r)) (fun x => Dt.gx s g j (Dt.bord s s x)) (fun r hr => ⟨((hu _).1 (by unfold Dt.bord; split <;> omega)).1, ?_⟩) fun r q h1 h2 h3 => ?_
    · unfold Dt.gx
      split
      · exact hg _ (by assumption)
      · exact hj
    · have h4 := congrArg u' h3
      rw [(hu _).2.2, (hu _).2.2] at h4
      unfold Dt.bord at h4
      split at h4 <;> split at h4 <;> omega
end
end Go.Proofs.Ytjfjlloibmebeaa


/- The reference's elimination: its walk. -/
namespace Go.Proofs.Ytjfjlloibmebeaa
open Go Go.RowKit Dig
set_option linter.unusedVariables false
section
variable {n W c k p : Nat} {A0 A F : Nat → Nat → Int × Int} {g : Nat → Nat} {odd : Bool}
end
section
variable {w : World} {la n W L ca : Nat} {oa : Option Addr} {A : List (List (Int × Int))}
end
end Go.Proofs.Ytjfjlloibmebeaa


/- gdet: Rank, Independent. -/
namespace Go.Proofs.Ytjfjlloibmebeaa
open Go Go.RowKit Dig
set_option linter.unusedVariables false
section
variable {w w0 : World} {l la n k L ca : Nat} {oa : Option Addr} {bs : List En} {A : List (List (Int × Int))}
set_option maxHeartbeats 4000000 in
set_option maxRecDepth 20000 in
theorem rank_ok (ha : MN la w oa A) (hna : A.length = n) (h : gd A) (hk : wd A = k) (hB : MinB n k L (at2 A)) (hL : L ≤ 3000000) (hla : la ≤ 20000000) :
    Calls Try.prog 24 #[.slice oa n ca] w fun e w' => ∃ r : Nat, e = .returned (.tuple #[.int .i64 (r : Int), .int .i64 0]) ∧ Dt.Rk n k (at2 A) r ∧ Below w.heap.size w w' := by
  have HA := hide ha
  have H := hide h
  have HK := hide hk
  have HB := hide hB
  have hn64 : n ≤ 64 := by have := h.1; omega
  have hk64 : k ≤ 64 := by have := h.2.1; omega
  clear ha h hk hB
  go_enter Try.func24, Try.ntmps24
  have hs := St.nil w
  refine wp_seq_k ?_
  intro K1 hK1
  refine rg [0, 1] ?_
  refine sq ?_
  refine .mv ?_
  refine sq ?_
  refine .mv ?_
  apply wpSq_end
  refine hK1 _ _ ?_
  refine wp_seq_k ?_
  intro K2 hK2
  refine wp_seq_k ?_
  intro K3 hK3
  refine rg [0, 1, 2] ?_
  refine sq ?_
  refine .mv ?_
  refine sq ?_
  intro K hK
  have hb := hs.b
  go_big_op
  go_fit (good_yes (HA.out.bl stab_n hb) hna (by omega) H.out)
  rintro e w_1 ⟨rfl, hb_1⟩
  clear hb
  replace hs := hs.bl hb_1
  refine hK _ _ rfl trivial ?_
  clear hK K
  refine sq ?_
  refine .r0 ?_
  apply wpSq_end
  refine hK3 _ _ ?_
  refine cf ?_
  refine wp_skip ?_
  refine hK2 _ _ ?_
  refine wp_seq_k ?_
  intro K4 hK4
  refine rg [0, 1, 2, 3, 4, 5] ?_
  refine sq ?_
  refine .mv ?_
  refine sq ?_
  intro K hK
  go_big_op
  go_fit (laid_any hs HA.out hna H.out HK.out hla)
  have bb2 := hs.b
  rintro e w_2 ⟨p_t, o_t, c_t, rs_t, rfl, kb_bt, hl_t, hd, hs', kp2⟩
  clear hs; have hs := hs'; clear hs'
  have bc2 := hs.b
  clear bb2 bc2
  refine hK _ _ rfl trivial ?_
  clear hK K
  refine sq ?_
  intro K hK
  go_big_op
  go_fit (pivots_any (bs := []) hs kb_bt hl_t hd (Nat.le_refl _) (Nat.le_refl _) (by omega) (by omega) HB.out hL)
  have bb3 := hs.b
  rintro e w_3 ⟨o9, c9, xs, r, A2, F2, odd2, rs2, rfl, hF, hL9, hA2, hl2, hd2, hs', kp3⟩
  clear hs; have hs := hs'; clear hs'
  have bc3 := hs.b
  clear bb3 bc3
  have HRK := hide hF.rk
  clear hF
  refine hK _ _ rfl trivial ?_
  clear hK K
  refine sq ?_
  refine .r0 ?_
  refine sq ?_
  refine .mv ?_
  refine sq ?_
  refine .mv ?_
  apply wpSq_end
  refine hK4 _ _ ?_
  refine wp_ret ?_
  try dsimp only [Exit.then, Exit.inBlock]
  refine bodyPost_ret (v := (.tuple #[(.int .i64 ((r : Nat) : Int)), (.int .i64 0)])) (by simp [results, Try.results24, go_sem]) rfl ?_
  exact ⟨r, rfl, HRK.out, hs.b⟩
/-- The rank, as a number. -/
theorem rank_is {r : Nat} (ha : MN la w oa A) (hna : A.length = n) (h : gd A) (hk : wd A = k) (hB : MinB n k L (at2 A)) (hL : L ≤ 3000000) (hla : la ≤ 20000000) (hr : Dt.Rk n k (at2 A) r) :
    Calls Try.prog 24 #[.slice oa n ca] w fun e w' => e = .returned (.tuple #[.int .i64 (r : Int), .int .i64 0]) ∧ Below w.heap.size w w' :=
  Calls.mono (rank_ok (ca := ca) ha hna h hk hB hL hla) fun e w' ⟨s, h1, h2, h3⟩ => by
    obtain rfl := Dt.Rk.eq noz one_ne h2 hr
    exact ⟨h1, h3⟩
set_option maxHeartbeats 4000000 in
set_option maxRecDepth 20000 in
theorem independent_is {r : Nat} (ha : MN la w oa A) (hna : A.length = n) (h : gd A) (hk : wd A = k) (hB : MinB n k L (at2 A)) (hL : L ≤ 3000000) (hla : la ≤ 20000000) (hr : Dt.Rk n k (at2 A) r) :
    Calls Try.prog 6 #[.slice oa n ca] w fun e w' => e = .returned (.tuple #[.bool (decide (r = n)), .int .i64 0]) ∧ Below w.heap.size w w' := by
  have HA := hide ha
  have H := hide h
  have HK := hide hk
  have HB := hide hB
  have HR := hide hr
  have E := hide (show ((r : Int) == (n : Int)) = decide (r = n) by by_cases h : r = n <;> simp [h]; omega)
  clear ha h hk hB hr
  go_enter Try.func6, Try.ntmps6
  have hs := St.nil w
  refine wp_seq_k ?_
  intro K1 hK1
  refine rg [0, 1] ?_
  refine sq ?_
  refine .mv ?_
  refine sq ?_
  refine .mv ?_
  apply wpSq_end
  refine hK1 _ _ ?_
  refine wp_seq_k ?_
  intro K2 hK2
  refine rg [0, 1, 2, 3, 4, 5, 6] ?_
  refine sq ?_
  refine .mv ?_
  refine sq ?_
  intro K hK
  have hb := hs.b
  go_big_op
  go_fit (rank_is (HA.out.bl stab_n hb) hna H.out HK.out HB.out hL hla HR.out)
  rintro e w_1 ⟨rfl, hb_1⟩
  clear hb
  replace hs := hs.bl hb_1
  refine hK _ _ rfl trivial ?_
  clear hK K
  refine sq ?_
  refine .mv ?_
  refine sq ?_
  refine .r0 ?_
  refine sq ?_
  refine .r0 ?_
  refine sq ?_
  refine .mv ?_
  refine sq ?_
  refine .mv ?_
  apply wpSq_end
  refine hK2 _ _ ?_
  refine wp_seq_k ?_
  intro K3 hK3
  refine rg [0, 1, 2, 3, 4, 5, 6, 7, 8, 9, 10] ?_
  refine sq ?_
  refine .mv ?_
  refine sq ?_
  refine .r0 ?_
  refine sq ?_
  refine .mv ?_
  refine sq ?_
  refine .mv ?_
  refine sq ?_
  refine .mv ?_
  refine sq ?_
  refine .r0 ?_
  refine sq ?_
  refine .r0 ?_
  refine sq ?_
  refine .r0 ?_
  refine sq ?_
  refine .mv ?_
  refine sq ?_
  refine .mv ?_
  refine sq ?_
  refine .mv ?_
  apply wpSq_end
  refine hK3 _ _ ?_
  refine wp_ret ?_
  try dsimp only [Exit.then, Exit.inBlock]
  refine bodyPost_ret (v := (.tuple #[.bool ((r : Int) == (n : Int)), .int .i64 0])) (by simp [results, Try.results6, go_sem]) rfl ?_
  exact ⟨by rw [E.out], hs.b⟩
end
end Go.Proofs.Ytjfjlloibmebeaa


/- The reference's Rank and Det. -/
namespace Go.Proofs.Ytjfjlloibmebeaa
open Go Go.RowKit Dig
set_option linter.unusedVariables false
section
variable {w : World} {la n W L ca r : Nat} {oa : Option Addr} {A : List (List (Int × Int))}
end
end Go.Proofs.Ytjfjlloibmebeaa


/- The law's g, simple, told, awake (gdet). -/
namespace Go.Proofs.Ytjfjlloibmebeaa
open Go Go.RowKit Dig
set_option linter.unusedVariables false
set_option maxHeartbeats 4000000 in
set_option maxRecDepth 20000 in
theorem g9_any (a b : Int) (w : World) (h1 : -9223372036854775808 ≤ a) (h2 : a ≤ 9223372036854775807) (h3 : -9223372036854775808 ≤ b) (h4 : b ≤ 9223372036854775807) :
    Calls Try.prog 16 #[.int .i64 a, .int .i64 b] w fun e w' => ∃ r, e = .returned r ∧ PC w' r a b ∧ Below w.heap.size w w' := by
  go_enter Try.func16, Try.ntmps16
  have hs := St.nil w
  refine wp_seq_k ?_
  intro K1 hK1
  refine rg [0] ?_
  refine sq ?_
  refine .al hs ?_; clear hs; intro p_b1 w_1 hs n1 kb_b1
  apply wpSq_end
  refine hK1 _ _ ?_
  refine wp_seq_k ?_
  intro K2 hK2
  refine rg [0, 1, 2, 3] ?_
  refine sq ?_
  refine .mv ?_
  refine sq ?_
  refine .mv ?_
  refine sq ?_
  intro K hK
  go_big_op
  go_fit (rgI_any a b _ h1 h2 h3 h4)
  rintro e w_2 ⟨_, rfl, ⟨n_ra, o_ra, k_ra, c_ra, n_rb, o_rb, k_rb, c_rb, rfl, r1, r2⟩, hb_2⟩
  replace hs := hs.bl hb_2
  refine hK _ _ rfl trivial ?_
  clear hK K
  refine sq ?_
  refine .s4 hs.g0 (fun _ => hs.u0 kb_b1) ?_; clear hs; intro w_3 hs hd3 ho3
  apply wpSq_end
  refine hK2 _ _ ?_
  refine wp_ret ?_
  try dsimp only [Exit.then, Exit.inBlock]
  obtain ⟨r0_0, r0_1, r0_2, r0_3⟩ := hs.g0.f4
  refine bodyPost_ret (v := (.agg #[.bool n_ra, .slice o_ra k_ra c_ra, .bool n_rb, .slice o_rb k_rb c_rb])) (by simp [results, Try.results16, go_sem, r0_0, r0_1, r0_2, r0_3]) rfl ?_
  have k2_3 := ko hd3 ho3
  replace r1 := r1.k k2_3
  replace r2 := r2.k k2_3
  exact ⟨_, rfl, .mk' r1 r2, hs.b⟩
set_option maxHeartbeats 4000000 in
set_option maxRecDepth 20000 in
theorem simple9_any (w : World) :
    Calls Try.prog 14 #[] w fun e w' => ∃ o c, e = .returned (.slice o 2 c) ∧ MC w' o [[(1, 0), (2, 0)], [(0, 1), (0, 0)]] ∧ Below w.heap.size w w' := by
  go_enter Try.func14, Try.ntmps14
  have hs := St.nil w
  refine wp_seq_k ?_
  intro K1 hK1
  refine rg [0] ?_
  refine sq ?_
  refine .mv ?_
  apply wpSq_end
  refine hK1 _ _ ?_
  refine wp_seq_k ?_
  intro K2 hK2
  refine rg [0, 1, 2, 3, 4, 5, 6, 7] ?_
  refine sq ?_
  intro K hK
  go_big_op
  go_fit (g9_any 1 0 _ (by decide) (by decide) (by decide) (by decide))
  rintro e w_1 ⟨_, rfl, ⟨n_aa, o_aa, k_aa, c_aa, n_ab, o_ab, k_ab, c_ab, rfl, a1, a2⟩, hb_1⟩
  replace hs := hs.bl hb_1
  have La1 := hide (a1.lenOf (zlen_small8 (z := 1) (by decide)))
  have La2 := hide (a2.lenOf (zlen_small8 (z := 0) (by decide)))
  refine hK _ _ rfl trivial ?_
  clear hK K
  refine sq ?_
  intro K hK
  go_big_op
  go_fit (g9_any 2 0 _ (by decide) (by decide) (by decide) (by decide))
  rintro e w_2 ⟨_, rfl, ⟨n_ba, o_ba, k_ba, c_ba, n_bb, o_bb, k_bb, c_bb, rfl, b1, b2⟩, hb_2⟩
  replace hs := hs.bl hb_2
  have Lb1 := hide (b1.lenOf (zlen_small8 (z := 2) (by decide)))
  have Lb2 := hide (b2.lenOf (zlen_small8 (z := 0) (by decide)))
  refine hK _ _ rfl trivial ?_
  clear hK K
  refine sq ?_
  refine .al hs ?_; clear hs; intro p_b1 w_3 hs n3 kb_b1
  refine sq ?_
  intro K hK
  go_big_op
  go_fit (g9_any 0 1 _ (by decide) (by decide) (by decide) (by decide))
  rintro e w_4 ⟨_, rfl, ⟨n_ca, o_ca, k_ca, c_ca, n_cb, o_cb, k_cb, c_cb, rfl, c1, c2⟩, hb_4⟩
  replace hs := hs.bl hb_4
  have Lc1 := hide (c1.lenOf (zlen_small8 (z := 0) (by decide)))
  have Lc2 := hide (c2.lenOf (zlen_small8 (z := 1) (by decide)))
  refine hK _ _ rfl trivial ?_
  clear hK K
  refine sq ?_
  intro K hK
  go_big_op
  go_fit (g9_any 0 0 _ (by decide) (by decide) (by decide) (by decide))
  rintro e w_5 ⟨_, rfl, ⟨n_da, o_da, k_da, c_da, n_db, o_db, k_db, c_db, rfl, d1, d2⟩, hb_5⟩
  replace hs := hs.bl hb_5
  have Ld1 := hide (d1.lenOf (zlen_small8 (z := 0) (by decide)))
  have Ld2 := hide (d2.lenOf (zlen_small8 (z := 0) (by decide)))
  refine hK _ _ rfl trivial ?_
  clear hK K
  refine sq ?_
  refine .al hs ?_; clear hs; intro p_b2 w_6 hs n6 kb_b2
  refine sq ?_
  refine .al hs ?_; clear hs; intro p_b3 w_7 hs n7 kb_b3
  refine sq ?_
  refine .mv ?_
  apply wpSq_end
  refine hK2 _ _ ?_
  refine wp_ret ?_
  have k1_7 := (((((kb hb_2).b n3).b hb_4).b hb_5).b n6).b n7
  replace a1 := a1.k k1_7
  replace a2 := a2.k k1_7
  have k2_7 := ((((kb n3).b hb_4).b hb_5).b n6).b n7
  replace b1 := b1.k k2_7
  replace b2 := b2.k k2_7
  have k4_7 := ((kb hb_5).b n6).b n7
  replace c1 := c1.k k4_7
  replace c2 := c2.k k4_7
  have k5_7 := (kb n6).b n7
  replace d1 := d1.k k5_7
  replace d2 := d2.k k5_7
  try dsimp only [Exit.then, Exit.inBlock]
  refine bodyPost_ret (v := (.slice (some ⟨p_b3, 0, none⟩) 2 2)) (by simp [results, Try.results14, go_sem]) rfl ?_
  exact ⟨_, _, rfl, mc2 hs.g0 (sc2 hs.g2 a1 a2 b1 b2) (sc2 hs.g1 c1 c2 d1 d2), hs.b⟩
section
variable {w : World} {va vb : Value} {x y : Int} {l m : Nat}
set_option maxHeartbeats 4000000 in
set_option maxRecDepth 20000 in
theorem told9_yes (ha : PC w va x y) (hq : PN w vb x l y m) (hl : l ≤ 80000000) (hm : m ≤ 80000000) :
    Calls Try.prog 15 #[va, .int .i64 0, vb, .int .i64 0] w fun e w' => e = .returned (.bool true) ∧ Below w.heap.size w w' := by
  obtain ⟨n_0a, o_0a, k_0a, c_0a, n_0b, o_0b, k_0b, c_0b, rfl, ha1, ha2⟩ := ha
  obtain ⟨n_2a, o_2a, k_2a, c_2a, n_2b, o_2b, k_2b, c_2b, rfl, hq1, hq2⟩ := hq
  go_enter Try.func15, Try.ntmps15
  have hs := St.nil w
  refine wp_seq_k ?_
  intro K1 hK1
  refine rg [0, 1, 2] ?_
  refine sq ?_
  refine .al hs ?_; clear hs; intro p_b1 w_1 hs n1 kb_b1
  refine sq ?_
  refine .al hs ?_; clear hs; intro p_b2 w_2 hs n2 kb_b2
  refine sq ?_
  refine .mv ?_
  apply wpSq_end
  refine hK1 _ _ ?_
  refine wp_seq_k ?_
  intro K2 hK2
  refine wp_seq_k ?_
  intro K3 hK3
  refine rg [0, 1] ?_
  refine sq ?_
  refine .mv ?_
  refine sq ?_
  refine .r0 ?_
  apply wpSq_end
  refine hK3 _ _ ?_
  refine cf ?_
  refine wp_skip ?_
  refine hK2 _ _ ?_
  refine wp_seq_k ?_
  intro K4 hK4
  refine rg [0, 1, 2, 3, 4, 5, 6, 7] ?_
  refine sq ?_
  refine .mv ?_
  refine sq ?_
  refine .r0 ?_
  refine sq ?_
  refine .mv ?_
  refine sq ?_
  refine .r4 hs.g1.f4 ?_
  refine sq ?_
  refine .r4 hs.g0.f4 ?_
  refine sq ?_
  intro K hK
  have k0_2 := (kb n1).b n2
  replace ha1 := ha1.k k0_2
  replace ha2 := ha2.k k0_2
  replace hq1 := hq1.k k0_2
  replace hq2 := hq2.k k0_2
  go_big_op
  go_fit (rgSame_any (PC.mk' ha1 ha2) (PN.mk' hq1 hq2) (by omega) (by omega) )
  rintro e w_3 ⟨rfl, hb_3⟩
  replace hs := hs.bl hb_3
  refine hK _ _ rfl trivial ?_
  clear hK K
  refine sq ?_
  refine .r0 ?_
  refine sq ?_
  refine .mv ?_
  apply wpSq_end
  refine hK4 _ _ ?_
  refine wp_ret ?_
  try dsimp only [Exit.then, Exit.inBlock]
  refine bodyPost_ret (v := (.bool true)) (by simp [results, Try.results15, go_sem]) rfl ?_
  have hb := hs.b
  exact ⟨rfl, hb⟩
end
theorem det_simple : Dt.det 2 (at2 [[(1, 0), (2, 0)], [(0, 1), (0, 0)]]) = ((0, -2) : Int × Int) := by decide +kernel
theorem minB_simple : MinB 2 2 67 (at2 [[(1, 0), (2, 0)], [(0, 1), (0, 0)]]) :=
  minB_of (T := 2) (b := fun _ => 1) (by decide) (by decide) fun i hi q hq => (bd_small (by decide)).at2
set_option maxHeartbeats 4000000 in
set_option maxRecDepth 20000 in
theorem awake9_any (w : World) :
    Calls Try.prog 4 #[] w fun e w' => e = .returned (.bool true) ∧ Below w.heap.size w w' := by
  go_enter Try.func4, Try.ntmps4
  have hs := St.nil w
  refine wp_seq_k ?_
  intro K1 hK1
  refine rg [0] ?_
  refine sq ?_
  refine .mv ?_
  apply wpSq_end
  refine hK1 _ _ ?_
  refine wp_seq_k ?_
  intro K2 hK2
  refine rg [0, 1, 2, 3, 4, 5, 6, 7] ?_
  refine sq ?_
  intro K hK
  go_big_op
  go_fit (simple9_any _)
  rintro e w_1 ⟨o_S, c_S, rfl, m_S, hb_1⟩
  replace hs := hs.bl hb_1
  refine hK _ _ rfl trivial ?_
  clear hK K
  refine sq ?_
  intro K hK
  go_big_op
  go_fit (det_ok (m_S.mn (bd_small (by decide))) rfl gd_simple rfl minB_simple (by decide) (by decide))
  rintro e w_2 ⟨_, rfl, ⟨n_da, o_da, k_da, c_da, n_db, o_db, k_db, c_db, rfl, d1, d2⟩, hb_2⟩
  replace m_S := m_S.bl hb_2; replace hs := hs.bl hb_2
  rw [det_simple] at d1 d2
  refine hK _ _ rfl trivial ?_
  clear hK K
  refine sq ?_
  refine .mv ?_
  refine sq ?_
  refine .r0 ?_
  refine sq ?_
  refine .r0 ?_
  refine sq ?_
  refine .al hs ?_; clear hs; intro p_b1 w_3 hs n3 kb_b1
  refine sq ?_
  refine .s4 hs.g0 (fun _ => hs.u0 kb_b1) ?_; clear hs; intro w_4 hs hd4 ho4
  refine sq ?_
  refine .mv ?_
  apply wpSq_end
  refine hK2 _ _ ?_
  refine wp_seq_k ?_
  intro K3 hK3
  refine wp_region_f4 [(0, false), (1, false), (2, true), (3, true), (4, false)] [] [] (fun _ => default) [0, 99, 99, 99, 99] [] (.c hs.g0 .n) fn fun w_5 n5 => ?_
  replace hs := hs.bl n5
  refine f4 ?_
  refine fmv ?_
  refine fl fun w_6 n6 => ?_
  replace hs := hs.bl n6
  intro K hK
  go_big_op
  go_fit (g9_any 0 (-2) _ (by decide) (by decide) (by decide) (by decide))
  rintro e w_7 ⟨_, rfl, ⟨n_aa, o_aa, k_aa, c_aa, n_ab, o_ab, k_ab, c_ab, rfl, a1, a2⟩, hb_7⟩
  replace hs := hs.bl hb_7
  have La1 := hide (a1.lenOf (zlen_small8 (z := 0) (by decide)))
  have La2 := hide (a2.lenOf (zlen_small8 (z := -2) (by decide)))
  refine hK _ _ rfl ⟨hb_7, (And.intro hs.g0 trivial)⟩ ?_
  clear hK K
  refine fl fun w_8 n8 => ?_
  replace hs := hs.bl n8
  intro K hK
  have k2_8 := (((((kb n3).o hd4 ho4).b n5).b n6).b hb_7).b n8
  replace d1 := d1.k k2_8
  replace d2 := d2.k k2_8
  have k7_8 := kb n8
  replace a1 := a1.k k7_8
  replace a2 := a2.k k7_8
  go_big_op
  go_fit (told9_yes (.mk' d1 d2) (.mk' (a1.zn La1.out) (a2.zn La2.out)) (by decide) (by decide))
  rintro e w_9 ⟨rfl, hb_9⟩
  replace hs := hs.bl hb_9
  refine hK _ _ rfl ⟨hb_9, (And.intro hs.g0 trivial)⟩ ?_
  clear hK K
  refine fmv ?_
  refine e0 hs ?_; clear hs; intro w_10 hs n10
  apply wpTail_end
  refine hK3 _ _ ?_
  refine wp_ret ?_
  try dsimp only [Exit.then, Exit.inBlock]
  refine bodyPost_ret (v := (.bool true)) (by simp [results, Try.results4, go_sem]) rfl ?_
  exact ⟨rfl, hs.b⟩
end Go.Proofs.Ytjfjlloibmebeaa

