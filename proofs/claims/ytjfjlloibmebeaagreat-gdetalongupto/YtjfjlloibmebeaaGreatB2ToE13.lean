/- gdet: determinants of products, of rows exchanged, of a multiple added; how long their minors are. -/
import Derived.Test.YtjfjlloibmebeaaGreatScToDt2
import Derived.Test.YtjfjlloibmebeaaGreatGpToU4
import Derived.Test.YtjfjlloibmebeaaGreatO11ToE5
import Derived.Test.YtjfjlloibmebeaaGreatWkToM1
import Derived.Test.YtjfjlloibmebeaaGreatY8
import Derived.Test.YtjfjlloibmebeaaGreatM2ToG2
import Derived.Test.YtjfjlloibmebeaaGreatDtToO3

namespace Go.Proofs.YtjfjlloibmebeaaGreat
open Go Go.RowKit Dig
set_option linter.unusedVariables false
def prodN : Nat → (Nat → Nat) → Nat
  | 0, _ => 1
  | k + 1, f => prodN k f * f k
theorem prodN_pw {s : Nat} {f b : Nat → Nat} (h : ∀ i, i < s → f i ≤ pw (b i)) : prodN s f ≤ pw (sN s b) := by
  induction s with
  | zero => exact Nat.le_refl 1
  | succ s ih =>
    rw [prodN, sN, pw_add]
    exact Nat.mul_le_mul (ih fun i hi => h i (by omega)) (h s (by omega))
theorem nrm_smN {k X : Nat} {f : Nat → Int × Int} (h : ∀ q, q < k → nrm (f q) ≤ X) : nrm (Dt.sm k f) ≤ k * X := by rw [← sm_sumP]; exact nrm_sumP h
section
variable {s n X : Nat} {a M : Nat → Nat → Int × Int} {w : Nat → Nat}
theorem prod_nrm (hw : ∀ i, i < s → ∀ q, q < n → nrm (a i q) ≤ w i) (hX : ∀ φ : Nat → Nat, (∀ i, i < s → φ i < n) → nrm (Dt.det s fun i c => M (φ i) c) ≤ X) (hn : 0 < n) :
    nrm (Dt.det s fun i c => Dt.sm n fun q => a i q * M q c) ≤ prodN s (fun i => n * w i) * X := by
  have key : ∀ d, d ≤ s → ∀ φ : Nat → Nat, (∀ i, i < s → φ i < n) → nrm (Dt.det s fun i c => if i < d then Dt.sm n fun q => a i q * M q c else M (φ i) c) ≤ prodN d (fun i => n * w i) * X := by
    intro d
    induction d with
    | zero =>
      intro _ φ hφ
      rw [prodN, Nat.one_mul]
      refine Nat.le_trans (Nat.le_of_eq ?_) (hX φ hφ)
      rw [Dt.det_congr fun i _ c _ => if_neg (Nat.not_lt_zero _)]
    | succ d ih =>
      intro hd φ hφ
      have e := (Dt.alt_det (R := Int × Int) (n := s)).sum (A := fun i c => if i < d then Dt.sm n fun q => a i q * M q c else M (φ i) c) (k := d) (m := n) (a := a d) (x := M) (by omega)
      rw [Dt.det_congr (B := Dt.upd (fun i c => if i < d then Dt.sm n fun q => a i q * M q c else M (φ i) c) d fun c => Dt.sm n fun q => a d q * M q c) fun i hi c _ => by
        unfold Dt.upd
        by_cases h1 : i = d
        · subst h1; rw [if_pos (by omega), if_pos rfl]
        · rw [if_neg h1]
          by_cases h2 : i < d
          · rw [if_pos (by omega)]; simp only [if_pos h2]
          · rw [if_neg (by omega)]; simp only [if_neg h2], e]
      refine Nat.le_trans (nrm_smN (X := w d * (prodN d (fun i => n * w i) * X)) fun q hq => ?_) (Nat.le_of_eq ?_)
      · refine Nat.le_trans (nrm_mul _ _) (Nat.mul_le_mul (hw d (by omega) q hq) ?_)
        have h3 := ih (by omega) (fun i => if i = d then q else φ i) fun i hi => by
          by_cases h : i = d
          · simp only [if_pos h]; exact hq
          · simp only [if_neg h]; exact hφ i hi
        refine Nat.le_trans (Nat.le_of_eq (congrArg nrm ?_)) h3
        refine Dt.det_congr fun i hi c _ => ?_
        unfold Dt.upd
        by_cases h1 : i = d
        · subst h1; rw [if_pos rfl, if_neg (Nat.lt_irrefl _), if_pos rfl]
        · rw [if_neg h1, if_neg h1]
      · rw [prodN]; simp only [Nat.mul_assoc, Nat.mul_left_comm, Nat.mul_comm]
  have h := key s (Nat.le_refl s) (fun _ => 0) fun _ _ => hn
  refine Nat.le_trans (Nat.le_of_eq (congrArg nrm ?_)) h
  exact Dt.det_congr fun i hi c _ => by rw [if_pos hi]
end
section
variable {n L T LB : Nat} {A B : Nat → Nat → Int × Int} {b : Nat → Nat}
theorem prod_minB (hn : n ≤ 64) (hT : sN n b ≤ T) (hA : ∀ i, i < n → ∀ q, q < n → zl (b i) (A i q)) (hB : MinB n n LB B) : MinB n n (T + 64 + LB + 1) (fun i c => Dt.sm n fun q => A i q * B q c) := by
  intro s f g hfg hi
  have hf : ∀ r, r < s → f r < n := fun r hr => (hfg r hr).1
  have h1 : s ≤ n := by
    have := sN_inj (b := fun _ => 1) hf hi
    rw [sN_one, sN_one] at this; omega
  rcases Nat.eq_zero_or_pos n with h0 | h0
  · have : s = 0 := by omega
    subst this
    exact ⟨Nat.le_trans (zlen_small8 (z := 1) (by decide)) (by omega), Nat.le_trans (zlen_small8 (z := 0) (by decide)) (by omega)⟩
  have h2 := prod_nrm (s := s) (n := n) (X := 2 * pw LB) (a := fun i q => A (f i) q) (M := fun q c => B q (g c)) (w := fun i => 2 * pw (b (f i))) (fun i hi q hq => zl_nrm1 (hA _ (hf i hi) q hq)) (fun φ hφ => by
    by_cases hinj : ∀ r q, r < q → q < s → φ r ≠ φ q
    · exact zl_nrm1 (hB s φ g (fun r hr => ⟨hφ r hr, (hfg r hr).2⟩) hinj)
    · have : ∃ r q, r < q ∧ q < s ∧ φ r = φ q := Classical.byContradiction fun hc => hinj fun r q h1 h2 h3 => hc ⟨r, q, h1, h2, h3⟩
      obtain ⟨r, q, h5, h6, h7⟩ := this
      rw [Dt.det_eq h5 h6 fun c _ => by simp only [h7]]
      show nrm (0, 0) ≤ _; simp [nrm]) h0
  have h3 : prodN s (fun i => n * (2 * pw (b (f i)))) ≤ pw (sN s fun i => b (f i) + 1) := prodN_pw fun i hi => by
    rw [pw_add, show pw 1 = 4294967296 from rfl]
    have : n * (2 * pw (b (f i))) ≤ 64 * (2 * pw (b (f i))) := Nat.mul_le_mul_right _ hn
    omega
  rw [sN_add, sN_one] at h3
  have h4 := sN_inj (b := b) hf hi
  have h5 : pw (sN s (fun i => b (f i)) + s * 1) ≤ pw (T + 64) := pw_mono (by omega)
  refine nrm_zl (Nat.lt_of_le_of_lt (Nat.le_trans h2 (Nat.mul_le_mul_right _ (Nat.le_trans h3 h5))) ?_)
  rw [pw_add (T + 64 + LB), pw_add (T + 64) LB, show pw 1 = 4294967296 from rfl]
  have h6 : 0 < pw (T + 64) * pw LB := Nat.mul_pos (pw_pos _) (pw_pos _)
  have h7 : pw (T + 64) * (2 * pw LB) = 2 * (pw (T + 64) * pw LB) := by rw [Nat.mul_left_comm]
  rw [h7]; omega
theorem MinB.swr {W i j : Nat} (h : MinB n W L A) (hi : i < n) (hj : j < n) : MinB n W L (fun r => A (Go.Proofs.YtjfjlloibmebeaaGreat.swr i j r)) := fun s f g hfg hinj =>
  h s (fun r => Go.Proofs.YtjfjlloibmebeaaGreat.swr i j (f r)) g (fun r hr => ⟨swr_lt hi hj (hfg r hr).1, (hfg r hr).2⟩) fun r q h1 h2 h3 => hinj r q h1 h2 (by
    have := congrArg (Go.Proofs.YtjfjlloibmebeaaGreat.swr i j) h3
    rwa [swr_inv, swr_inv] at this)
theorem det_twin {R : Type} [Lean.Grind.CommRing R] {n i j : Nat} {A : Nat → Nat → R} (hij : i ≠ j) (hi : i < n) (hj : j < n) (h : ∀ c, c < n → A i c = A j c) : Dt.det n A = 0 := by
  rcases Nat.lt_or_gt_of_ne hij with h1 | h1
  · exact Dt.det_eq h1 hj h
  · exact Dt.det_eq h1 hi fun c hc => (h c hc).symm
theorem det_rowed {i j : Nat} {p : Int × Int} (hij : i ≠ j) (hi : i < n) (hj : j < n) : Dt.det n (rowed A i fun q => aP (A i q) (mP p (A j q))) = Dt.det n A := by
  rw [Dt.det_lin (A := rowed A i fun q => aP (A i q) (mP p (A j q))) (B := A) (C := fun r => if r = i then A j else A r) (k := i) (a := 1) (b := p) hi (fun c _ => by
    unfold rowed; rw [if_pos rfl, if_pos rfl]; show A i c + p * A j c = _; grind) (fun r _ hr c _ => by unfold rowed; rw [if_neg hr, if_neg hr]; exact ⟨rfl, rfl⟩),
    det_twin (A := fun r => if r = i then A j else A r) hij hi hj fun c _ => by rw [if_pos rfl, if_neg (Ne.symm hij)]]
  grind
theorem rowed_minB {W i j lq : Nat} {p : Int × Int} (h : MinB n W L A) (hij : i ≠ j) (hi : i < n) (hj : j < n) (hp : zl lq p) : MinB n W (lq + L + 2) (rowed A i fun q => aP (A i q) (mP p (A j q))) := by
  intro s f g hfg hinj
  by_cases hex : ∃ t, t < s ∧ f t = i
  · obtain ⟨t, ht, hft⟩ := hex
    have hne : ∀ r, r < s → r ≠ t → f r ≠ i := fun r hr hrt hc => by
      rcases Nat.lt_or_gt_of_ne hrt with h1 | h1
      · exact hinj r t h1 ht (hc.trans hft.symm)
      · exact hinj t r h1 hr (hft.trans hc.symm)
    rw [Dt.det_lin (A := fun a b => rowed A i (fun q => aP (A i q) (mP p (A j q))) (f a) (g b)) (B := fun a b => A (f a) (g b)) (C := fun a b => A (if a = t then j else f a) (g b)) (k := t) (a := 1) (b := p) ht (fun c _ => by
      unfold rowed; rw [if_pos hft, if_pos rfl, hft]; show A i (g c) + p * A j (g c) = _; grind) (fun r hr hrt c _ => by unfold rowed; rw [if_neg (hne r hr hrt), if_neg hrt]; exact ⟨rfl, rfl⟩)]
    have h1 := h s f g hfg hinj
    have h2 : zl L (Dt.det s fun a b => A (if a = t then j else f a) (g b)) := by
      by_cases hj2 : ∃ r, r < s ∧ r ≠ t ∧ f r = j
      · obtain ⟨r, hr, hrt, hfr⟩ := hj2
        rw [det_twin (i := t) (j := r) (Ne.symm hrt) ht hr fun c _ => by rw [if_pos rfl, if_neg hrt, hfr]]
        exact zl_0 _
      · refine h s (fun a => if a = t then j else f a) g (fun r hr => ⟨?_, (hfg r hr).2⟩) fun r q h3 h4 h5 => ?_
        · by_cases c : r = t
          · simp only [if_pos c]; exact hj
          · simp only [if_neg c]; exact (hfg r hr).1
        · by_cases c : r = t
          · have c2 : q ≠ t := by omega
            simp only [if_pos c, if_neg c2] at h5
            exact hj2 ⟨q, h4, c2, h5.symm⟩
          · by_cases c2 : q = t
            · simp only [if_neg c, if_pos c2] at h5
              exact hj2 ⟨r, by omega, c, h5⟩
            · simp only [if_neg c, if_neg c2] at h5
              exact hinj r q h3 h4 h5
    have h3 := zl_mP hp h2
    rw [mP_eq] at h3
    have e : (1 : Int × Int) * Dt.det s (fun a b => A (f a) (g b)) = Dt.det s fun a b => A (f a) (g b) := by grind
    rw [e]
    exact ⟨zlen_addM (Nat.le_trans h1.1 (by omega)) h3.1, zlen_addM (Nat.le_trans h1.2 (by omega)) h3.2⟩
  · rw [Dt.det_congr (B := fun a b => A (f a) (g b)) fun a ha b _ => by unfold rowed; rw [if_neg fun c => hex ⟨a, ha, c⟩]]
    exact zl_up (h s f g hfg hinj) (by omega)
end
section
variable {n : Nat} {A B : List (List (Int × Int))}
theorem at2_mulS {i j : Nat} (hA : A.length = n) (hB : B.length = n) (hw : wd B = n) (hi : i < n) (hj : j < n) : at2 (mulM A B) i j = Dt.sm n fun q => at2 A i q * at2 B q j := by
  rw [at2_mulM (by omega) (by omega), hB, sm_sumP]; exact Dt.sm_congr fun q _ => mP_eq _ _
theorem det_mulM (hA : A.length = n) (hB : B.length = n) (hw : wd B = n) : Dt.det n (at2 (mulM A B)) = Dt.det n (at2 A) * Dt.det n (at2 B) := by
  rw [Dt.det_congr (B := Dt.mapr n (at2 B) (at2 A)) fun i hi c hc => at2_mulS hA hB hw hi hc]
  exact Dt.det_mul _ _
theorem MinB.cong {n W L : Nat} {F G : Nat → Nat → Int × Int} (h : MinB n W L F) (e : ∀ i, i < n → ∀ j, j < W → G i j = F i j) : MinB n W L G := fun s f g hfg hi => by
  rw [Dt.det_congr (B := fun a b => F (f a) (g b)) fun a ha b hb => e _ (hfg a ha).1 _ (hfg b hb).2]
  exact h s f g hfg hi
theorem mulM_minB {T LB : Nat} (hT : Tot T A) (hA : A.length = n) (hn : n ≤ 64) (hB : B.length = n) (hw : wd B = n) (hBB : MinB n n LB (at2 B)) : MinB n n (T + 64 + LB + 1) (at2 (mulM A B)) := by
  obtain ⟨b, h1, h2⟩ := hT
  refine MinB.cong (prod_minB (A := at2 A) (b := b) hn (by rw [← hA]; exact h1) (fun i hi q hq => ?_) hBB) fun i hi j hj => at2_mulS hA hB hw hi hj
  have h0 : rw_ A i = A[i]'(by omega) := by simp [rw_, List.getD, show i < A.length by omega]
  unfold at2
  rw [h0]
  rcases Nat.lt_or_ge q (A[i]'(by omega)).length with c | c
  · have : at1 (A[i]'(by omega)) q = (A[i]'(by omega))[q] := by simp [at1, List.getD, c]
    rw [this]; exact h2 i (by omega) _ (List.getElem_mem c)
  · have : at1 (A[i]'(by omega)) q = (0, 0) := by simp [at1, List.getD, c]
    rw [this]; exact zl_0 _
end
end Go.Proofs.YtjfjlloibmebeaaGreat


/- gdet: blank; ones beside a matrix and others below it, as lists of rows. -/
namespace Go.Proofs.YtjfjlloibmebeaaGreat
open Go Go.RowKit Dig
set_option linter.unusedVariables false
theorem gd_made (w : World) : ∀ k, GD w (madeCells #[.bool false, .slice none 0 0, .bool false, .slice none 0 0] (k * 4)).toList (List.replicate k (0, 0)) := by
  have key : ∀ n, (madeCells #[.bool false, .slice none 0 0, .bool false, .slice none 0 0] n).toList = (List.range n).map fun j => if j % 2 = 0 then Value.bool false else .slice none 0 0 := fun n => by
    unfold madeCells
    rw [Array.toList_map, Array.toList_range]
    refine List.map_congr_left fun j _ => ?_
    show (#[Value.bool false, .slice none 0 0, .bool false, .slice none 0 0] : Array Value)[j % 4]! = _
    have h : j % 4 = 0 ∨ j % 4 = 1 ∨ j % 4 = 2 ∨ j % 4 = 3 := by omega
    rcases h with h | h | h | h <;> rw [h]
    · rw [if_pos (by omega)]; rfl
    · rw [if_neg (by omega)]; rfl
    · rw [if_pos (by omega)]; rfl
    · rw [if_neg (by omega)]; rfl
  intro k
  induction k with
  | zero => rw [key]; trivial
  | succ k ih =>
    rw [key] at ih ⊢
    rw [List.replicate_succ, show (k + 1) * 4 = k * 4 + 1 + 1 + 1 + 1 by omega, List.range_succ_eq_map, List.range_succ_eq_map, List.range_succ_eq_map, List.range_succ_eq_map]
    simp only [List.map_cons, List.map_map]
    refine ⟨.mk' (zc_zero w) (zc_zero w), ?_⟩
    have e : (fun j => if j % 2 = 0 then Value.bool false else .slice none 0 0) ∘ Nat.succ ∘ Nat.succ ∘ Nat.succ ∘ Nat.succ = fun j => if j % 2 = 0 then Value.bool false else .slice none 0 0 := by
      funext j
      simp only [Function.comp, Nat.succ_eq_add_one]
      by_cases h : j % 2 = 0
      · rw [if_pos h, if_pos (by omega)]
      · rw [if_neg h, if_neg (by omega)]
    rw [e]; exact ih
theorem rows_one {w0 w : World} {es : List En} {rs : List Rw} (hs : St w0 es w) (hr : ∀ r ∈ rs, r.e w0.heap.size ∈ es) : ∀ u ∈ rs.map (·.v), u.oneCell' = true := by
  have key : ∀ {l : List En}, AllE l w → ∀ e ∈ l, Ok e w := by
    intro l
    induction l with
    | nil => intro _ e he; cases he
    | cons a t ih => intro h e he; rcases List.mem_cons.1 he with rfl | he; exact h.1; exact ih h.2 e he
  intro u hu
  obtain ⟨r, h1, rfl⟩ := List.mem_map.1 hu
  have L : Lst w w0.heap.size 38 4 r.v r.n r.xs := (key hs.1 _ (hr r h1)).1
  obtain ⟨o, c, e⟩ := L.shape
  rw [e]; rfl
/-- The first i rows are made. -/
def bk (r k i : Nat) : List (List (Int × Int)) := (List.range r).map fun p => if p < i then List.replicate k (0, 0) else []
section
variable {r k i : Nat}
theorem bk_0 : bk r k 0 = List.replicate r [] := by
  refine List.eq_replicate_iff.2 ⟨by simp [bk], fun x hx => ?_⟩
  obtain ⟨p, _, rfl⟩ := List.mem_map.1 hx
  rw [if_neg (Nat.not_lt_zero _)]
theorem bk_get (hi : i < r) : (bk r k i)[i]'(by simp [bk, hi]) = [] := by simp [bk]
theorem bk_set (hi : i < r) : (bk r k i).set i (List.replicate k (0, 0)) = bk r k (i + 1) := by
  refine List.ext_getElem (by simp [bk]) fun p h1 h2 => ?_
  simp only [bk, List.getElem_set, List.getElem_map, List.getElem_range]
  by_cases e : i = p
  · rw [if_pos e, if_pos (by omega)]
  · rw [if_neg e]
    by_cases e2 : p < i
    · rw [if_pos e2, if_pos (by omega)]
    · rw [if_neg e2, if_neg (by omega)]
theorem bk_end : bk r k r = mkM r k fun _ _ => (0, 0) := List.map_congr_left fun p hp => by
  rw [if_pos (List.mem_range.1 hp)]
  exact (List.eq_replicate_iff.2 ⟨by simp, fun x hx => by obtain ⟨_, _, rfl⟩ := List.mem_map.1 hx; rfl⟩).symm
end
section
variable {w : World} {r k : Nat}
set_option maxHeartbeats 4000000 in
set_option maxRecDepth 20000 in
theorem blank_any (hr : r ≤ 1000) (hk : k ≤ 1000) :
    Calls Tryz.prog 81 #[.int .i64 (r : Int), .int .i64 (k : Int)] w fun e w' => ∃ o c rs, e = .returned (.slice o r c) ∧ rs.length = r ∧ St w (Mx w.heap.size (.slice o r c) rs) w' ∧ RD w' rs (mkM r k fun _ _ => (0, 0)) ∧ Below w.heap.size w w' := by
  go_enter Tryz.func81, Tryz.ntmps81
  have hs := St.nil w
  refine wp_seq_k ?_
  intro K1 hK1
  refine rg [0] ?_
  refine sq ?_
  refine .mv ?_
  apply wpSq_end
  refine hK1 _ _ ?_
  refine wp_seq_k ?_
  intro K2 hK2
  refine rg [0, 1, 2] ?_
  refine sq ?_
  refine .mv ?_
  refine sq ?_
  refine .mk (n := r) hs ?_ (by first | rfl | omega) (by omega); clear hs; intro g_l xs_l w_1 hs e_l n1 kb_l
  refine sq ?_
  refine .mv ?_
  apply wpSq_end
  refine hK2 _ _ ?_
  refine wp_seq_k ?_
  intro K3 hK3
  refine wp_seq_k ?_
  intro K4 hK4
  refine rg [0, 1, 2] ?_
  refine sq ?_
  refine .mv ?_
  refine sq ?_
  refine .r0 ?_
  refine sq ?_
  refine .mv ?_
  apply wpSq_end
  refine hK4 _ _ ?_
  refine wp_block ?_
  replace e_l : xs_l = List.replicate r (Value.slice none 0 0) := e_l.trans (made_one (.slice none 0 0) r)
  have hs := hs.nils r
  rw [e_l, show List.replicate r (Value.slice none 0 0) = (List.replicate r (⟨.slice none 0 0, 0, []⟩ : Rw)).map (·.v) by simp] at hs
  clear e_l
  have hd2 := hs.2.1
  go_loopg [11] r (fun kz s11 wr => ∃ (i : Nat) (rs : List Rw), s11 = .int .i64 (i : Int) ∧ i + kz = r ∧ rs.length = r ∧ RD wr rs (bk r k i) ∧ St w (ls w.heap.size 51 1 (.slice (some ⟨g_l, 0, none⟩) r r) r (rs.map (·.v)) :: ([] ++ rs.map (Rw.e w.heap.size))) wr)
  case atStart => exact ⟨0, _, rfl, by omega, by simp, by rw [bk_0]; exact RD.nils r, hs⟩
  case round =>
  clear hs
  obtain ⟨i, rs, rfl, hir, hrl, hd, hs⟩ := hrel
  by_cases hi : i < r
  · have HI := hide hi
    obtain ⟨r1, oR, cR, xs, r2, rfl, hr1, hrv, hx, hs⟩ := hs.row0 (bs := []) hd (p := i) (by simp [bk]; exact HI.out)
    replace hs := hs.sub (.cons _ (List.Sublist.refl _))
    simp only [bk_get HI.out, List.length_nil] at hs
    refine wp_seq_k ?_
    intro K5 hK5
    refine rg [0] ?_
    refine sq ?_
    refine .r0 ?_
    apply wpSq_end
    refine hK5 _ _ ?_
    refine wp_seq_k ?_
    intro K6 hK6
    refine ct ?_
    refine wp_skip ?_
    refine hK6 _ _ ?_
    refine wp_seq_k ?_
    intro K7 hK7
    refine wp_block ?_
    refine wp_seq_k ?_
    intro K8 hK8
    refine rg [0, 1] ?_
    refine sq ?_
    refine .mv ?_
    refine sq ?_
    refine .mv ?_
    apply wpSq_end
    refine hK8 _ _ ?_
    refine rg [0, 1, 2, 3, 4, 5] ?_
    refine sq ?_
    refine .mv ?_
    refine sq ?_
    refine .mv ?_
    refine sq ?_
    refine .mv ?_
    refine sq ?_
    refine .mk (n := k) hs ?_ (by first | rfl | omega) (by omega); clear hs; intro g_z xs_z w_3 hs e_z n3 kb_z
    refine sq ?_
    refine .r0 ?_
    refine sq ?_
    refine .i1 1 hs (j := i) (by exact HI.out) ?_; clear hs; intro w_4 hs kp4 hd4 ho4 hw4; simp only [List.set_cons_succ, List.set_cons_zero] at hs
    apply wpSq_end
    refine hK7 _ _ ?_
    refine rg [0, 1] ?_
    refine sq ?_
    refine .r0 ?_
    refine sq ?_
    refine .mv ?_
    apply wpSq_end
    have k0_2 := (kb n3).t kp4
    replace hd := hd.k k0_2
    refine ‹∀ (a' : Act) (w' : World), Handed _ _ a' w' → _› _ _ ?_
    have hz : GD w_4 xs_z (List.replicate k (0, 0)) := by rw [show xs_z = _ from e_z]; exact gd_made _ k
    have hs := St.unrow0 (bs := []) hs hr1
    have hd := RD.set' (n := k) (m := List.replicate k (0, 0)) (v := .slice (some ⟨g_z, 0, none⟩) k k) (by simp) hz hd hr1
    rw [bk_set HI.out] at hd
    go_roundg (gk - 1)
    case rel => exact ⟨i + 1, _, by rfl, by omega, by simpa using hrl, hd, hs⟩
    case measure => omega
  · obtain rfl : r = i := by omega
    have HX := hide hi
    refine wp_seq_k ?_
    intro K5 hK5
    refine rg [0] ?_
    refine sq ?_
    refine .r0 ?_
    apply wpSq_end
    refine hK5 _ _ ?_
    refine wp_seq_k ?_
    intro K6 hK6
    refine cf ?_
    refine wp_exit ?_
    refine hK3 _ _ ?_
    refine wp_seq_k ?_
    intro K7 hK7
    refine rg [0, 1] ?_
    refine sq ?_
    refine .mv ?_
    refine sq ?_
    refine .mv ?_
    apply wpSq_end
    refine hK7 _ _ ?_
    refine wp_ret ?_
    try dsimp only [Exit.then, Exit.inBlock]
    refine bodyPost_ret (v := (.slice (some ⟨g_l, 0, none⟩) r r)) (by simp [results, Tryz.results81, go_sem]) rfl ?_
    exact ⟨_, _, rs, rfl, hrl, (by unfold Mx; rw [hrl]; exact hs), by rw [← bk_end]; exact hd, hs.b⟩
end
end Go.Proofs.YtjfjlloibmebeaaGreat


/- gdet: bordered. -/
namespace Go.Proofs.YtjfjlloibmebeaaGreat
open Go Go.RowKit Dig
set_option linter.unusedVariables false
/-- An own matrix that stands among the state's entries can be read. -/
theorem MCof {w0 w : World} {es : List En} {n c : Nat} {o : Option Addr} {rs : List Rw} {vs : List Value} {Ms : List (List (Int × Int))} (hs : St w0 es w) (hm : ls w0.heap.size 51 1 (.slice o n c) n vs ∈ es) (hv : rs.map (·.v) = vs) (hr : ∀ r ∈ rs, r.e w0.heap.size ∈ es) (hn : rs.length = n) (hd : RD w rs Ms) : MC w o Ms := by
  have key : ∀ {l : List En}, AllE l w → ∀ e ∈ l, Ok e w := by
    intro l
    induction l with
    | nil => intro _ e he; cases he
    | cons a t ih => intro h e he; rcases List.mem_cons.1 he with rfl | he; exact h.1; exact ih h.2 e he
  have hM : AllE (rs.map (Rw.e w0.heap.size)) w := by
    have : ∀ {rs : List Rw}, (∀ r ∈ rs, Ok (r.e w0.heap.size) w) → AllE (rs.map (Rw.e w0.heap.size)) w := by
      intro rs
      induction rs with
      | nil => intro _; trivial
      | cons a t ih => intro h; exact ⟨h a (List.mem_cons_self ..), ih fun r hr => h r (List.mem_cons_of_mem _ hr)⟩
    exact this fun r h => key hs.1 _ (hr r h)
  subst hv hn
  have L : Lst w w0.heap.size 51 1 (.slice o rs.length c) rs.length (rs.map (·.v)) := (key hs.1 _ hm).1
  have hn := hd.len
  rcases Nat.eq_zero_or_pos rs.length with h0 | h0
  · exact .inl (List.eq_nil_of_length_eq_zero (by omega))
  · obtain ⟨g, cur, rfl, x, hc⟩ := L.box h0
    refine .inr ⟨g, 0, cur, _, _, rfl, x, fun i hi => ?_⟩
    obtain ⟨r, h1, h2, h3⟩ := hd.get i hi
    have h4 : (rs.map (Rw.e w0.heap.size))[i]? = some (r.e w0.heap.size) := by rw [List.getElem?_map, h1]; rfl
    have L2 : Lst w w0.heap.size 38 4 r.v r.n r.xs := (hM.at h4).1
    obtain ⟨o2, c2, e⟩ := L2.shape
    have h5 : (rs.map (·.v))[i]? = some r.v := by rw [List.getElem?_map, h1]; rfl
    have := hc _ _ h5
    rw [e] at L2
    exact ⟨o2, c2, by rw [Nat.zero_add, this, e, h2], (L2.sc h3).2⟩
theorem RD.app {w : World} {ts : List Rw} {Ns : List (List (Int × Int))} (h2 : RD w ts Ns) : ∀ {rs : List Rw} {Ms : List (List (Int × Int))}, RD w rs Ms → RD w (rs ++ ts) (Ms ++ Ns)
  | [], [], _ => h2
  | _ :: _, _ :: _, h => ⟨h.1, RD.app h2 h.2⟩
section
variable {n k K nb : Nat} {F : Nat → Nat → Int × Int} {B : List (List (Int × Int))}
theorem brd_top (hK : 0 < n → K = k) : ((List.range n).map fun r => [mkM n k F, mkM n n one2].flatMap (rw_ · r)) = mkM n (K + n) (brdG n K F (at2 B)) := by
  refine List.map_congr_left fun r hr => ?_
  have hr : r < n := List.mem_range.1 hr
  obtain rfl := hK (by omega)
  have e : ∀ {W : Nat} {G : Nat → Nat → Int × Int}, rw_ (mkM n W G) r = (List.range W).map (G r) := by
    intro W G; simp [rw_, mkM, List.getD, hr]
  simp only [List.flatMap_cons, List.flatMap_nil, List.append_nil, e]
  refine List.ext_getElem (by simp) fun j h1 h2 => ?_
  have hj : j < K + n := by simpa using h2
  simp only [List.getElem_map, List.getElem_range]
  unfold brdG
  rw [if_pos hr]
  by_cases c : j < K
  · rw [List.getElem_append_left (by simp [c]), if_pos c]; simp
  · rw [List.getElem_append_right (by simp; omega), if_neg c]
    simp only [List.length_map, List.length_range, List.getElem_map, List.getElem_range]
    rfl
theorem brd_low (hB : B.length = nb) (hK : ∀ i, i < nb → (rw_ B i).length = K) : ((List.range nb).map fun r => [B, mkM nb n fun _ _ => (0, 0)].flatMap (rw_ · r)) = (List.range nb).map fun r => (List.range (K + n)).map (brdG n K F (at2 B) (n + r)) := by
  refine List.map_congr_left fun r hr => ?_
  have hr : r < nb := List.mem_range.1 hr
  have e : rw_ (mkM nb n fun _ _ => ((0 : Int), (0 : Int))) r = (List.range n).map fun _ => (0, 0) := by simp [rw_, mkM, List.getD, hr]
  have hl := hK r hr
  simp only [List.flatMap_cons, List.flatMap_nil, List.append_nil, e]
  refine List.ext_getElem (by simp [hl]) fun j h1 h2 => ?_
  have hj : j < K + n := by simpa using h2
  simp only [List.getElem_map, List.getElem_range]
  unfold brdG
  rw [if_neg (by omega), Nat.add_sub_cancel_left]
  by_cases c : j < K
  · rw [List.getElem_append_left (by omega), if_pos c]
    simp [at2, at1, List.getD, hl, c]
  · rw [List.getElem_append_right (by omega), if_neg c]
    simp only [List.getElem_map]
    rfl
theorem mkM_app {W : Nat} {G : Nat → Nat → Int × Int} : mkM n W G ++ ((List.range nb).map fun r => (List.range W).map (G (n + r))) = mkM (n + nb) W G := by
  unfold mkM
  rw [List.range_add, List.map_append, List.map_map]
  rfl
end
theorem smTwo {l n p c1 c2 : Nat} {w : World} {ty : TypeId} {fz : Nat × Nat} {o1 o2 : Option Addr} {A B : List (List (Int × Int))} (x : Bs w p #[.slice o1 n c1, .slice o2 n c2] ty fz) (h1 : MN l w o1 A) (h2 : MN l w o2 B) (e1 : A.length = n) (e2 : B.length = n) : SM l n w (some ⟨p, 0, none⟩) [A, B] :=
  ⟨p, _, ty, fz, rfl, x, fun i hi => match i, hi with
    | 0, _ => ⟨e1, o1, c1, rfl, h1⟩
    | 1, _ => ⟨e2, o2, c2, rfl, h2⟩⟩
theorem bdM_mk {l r k : Nat} {F : Nat → Nat → Int × Int} (h : ∀ i, i < r → ∀ j, j < k → zl l (F i j)) : BdM l (mkM r k F) := fun q hq p hp => by
  obtain ⟨i, hi, rfl⟩ := List.mem_map.1 hq
  obtain ⟨j, hj, rfl⟩ := List.mem_map.1 hp
  exact h i (List.mem_range.1 hi) j (List.mem_range.1 hj)
theorem zl_one2 (l i j : Nat) : zl (l + 1) (one2 i j) := zl_up (zl_one i j) (by omega)
theorem mkM_wid {r k i : Nat} {F : Nat → Nat → Int × Int} : (rw_ (mkM r k F) i).length ≤ k := by
  rcases Nat.lt_or_ge i r with h | h
  · simp [rw_, mkM, List.getD, h]
  · simp [rw_, mkM, List.getD, h]
section
variable {w w0 : World} {la lb n k K nb ca cb : Nat} {oa ob : Option Addr} {bs : List En} {A B : List (List (Int × Int))}
set_option maxHeartbeats 4000000 in
set_option maxRecDepth 20000 in
theorem bordered_any (hst : St w0 bs w) (ha : MN la w0 oa A) (hna : A.length = n) (h : gd A) (hk : wd A = k) (hb' : ∀ w', St w0 bs w' → Kp w w' → MN lb w' ob B) (hnb : B.length = nb) (hK : ∀ i, i < nb → (rw_ B i).length = K) (hKk : 0 < n → K = k) (hKl : K ≤ 1000) (hnb2 : nb ≤ 100) (hla : la ≤ 10000000) (hlb : lb ≤ 10000000) :
    Calls Tryz.prog 80 #[.slice oa n ca, .slice ob nb cb] w fun e w' => ∃ p o c rs, e = .returned (.pointer (some ⟨p, 0, none⟩)) ∧ Hid (w0.heap.size ≤ p) ∧ rs.length = n + nb ∧ RD w' rs (mkM (n + nb) (K + n) (brdG n K (at2 A) (at2 B))) ∧
      St w0 (ls w0.heap.size 51 1 (.slice o (n + nb) c) (n + nb) (rs.map (·.v)) :: bx p #[.slice o (n + nb) c, .int .i64 (n : Int), .int .i64 (k : Int), .bool false] 105 :: (bs ++ rs.map (Rw.e w0.heap.size))) w' ∧ Kp w w' := by
  have HA := hide ha
  have H := hide h
  have HK := hide hk
  have HB := hide hb'
  have HKK := hide hKk
  have HKB := hide hK
  have hn64 : n ≤ 64 := by have := h.1; omega
  have hk64 : k ≤ 64 := by have := h.2.1; omega
  have BT := hide (show BdM (la + 1) (mkM n k (at2 A)) from bdM_mk fun i _ j _ => zl_up (at2_bd ha.bd) (by omega))
  have B1 := hide (show BdM (la + 1) (mkM n n one2) from bdM_mk fun i _ j _ => zl_one2 _ _ _)
  have B0 := hide (show BdM lb (mkM nb n fun _ _ => (0, 0)) from bdM_mk fun i _ j _ => zl_0 _)
  have HR1 := hide (show ∀ M ∈ [mkM n k (at2 A), mkM n n one2], ∀ i, (rw_ M i).length ≤ 1000 from fun M hM i => by
    simp only [List.mem_cons, List.not_mem_nil, or_false] at hM
    rcases hM with rfl | rfl <;> exact Nat.le_trans mkM_wid (by omega))
  have HR2 := hide (show ∀ M ∈ [B, mkM nb n fun _ _ => (0, 0)], ∀ i, (rw_ M i).length ≤ 1000 from fun M hM i => by
    simp only [List.mem_cons, List.not_mem_nil, or_false] at hM
    rcases hM with rfl | rfl
    · rcases Nat.lt_or_ge i nb with c | c
      · rw [hK i c]; exact hKl
      · simp [rw_, List.getD, show M.length ≤ i by omega]
    · exact Nat.le_trans mkM_wid (by omega))
  have kk := KpF.r w
  clear ha h hk hb' hKk hK
  go_enter Tryz.func80, Tryz.ntmps80
  have hs := hst
  clear hst
  refine wp_seq_k ?_
  intro K1 hK1
  refine rg [0] ?_
  refine sq ?_
  refine .mv ?_
  apply wpSq_end
  refine hK1 _ _ ?_
  refine wp_seq_k ?_
  intro K2 hK2
  refine rg [0, 1, 2] ?_
  refine sq ?_
  refine .mv ?_
  refine sq ?_
  intro K hK
  go_big_op
  go_fit (laid_any hs HA.out hna H.out HK.out (by omega))
  have bb1 := hs.b
  rintro e w_1 ⟨p_t, o_t, c_t, rs_t, rfl, kb_bt, hl_t, hd, hs', kp1⟩
  clear hs; have hs := hs'; clear hs'
  have bc1 := hs.b
  clear bb1 bc1
  refine hK _ _ rfl trivial ?_
  clear hK K
  refine sq ?_
  refine .mv ?_
  apply wpSq_end
  refine hK2 _ _ ?_
  refine wp_seq_k ?_
  intro K3 hK3
  refine rg [0, 1, 2, 3, 4, 5, 6, 7, 8, 9] ?_
  refine sq ?_
  refine .mv ?_
  refine sq ?_
  refine .r0 ?_
  refine sq ?_
  refine .r0 ?_
  refine sq ?_
  refine .r4 hs.g1.f4 ?_
  refine sq ?_
  intro K hK
  go_big_op
  go_fit (mIdent_ok hn64)
  rintro e w_2 ⟨o_I, c_I, rs_I, rfl, hl_I, hs_I, d_I, hb_2⟩
  replace hs := hs.mx hl_I hs_I; simp only [List.cons_append] at hs
  refine hK _ _ rfl trivial ?_
  clear hK K
  refine sq ?_
  refine .mv ?_
  refine sq ?_
  refine .r0 ?_
  refine sq ?_
  refine .r0 ?_
  refine sq ?_
  refine .mv ?_
  refine sq ?_
  refine .mv ?_
  apply wpSq_end
  refine hK3 _ _ ?_
  refine wp_seq_k ?_
  intro K4 hK4
  refine wp_region_f4 [(0, false), (1, false), (2, false), (3, false), (4, false), (5, false), (8, false), (9, false), (10, false), (11, false), (12, false), (13, false), (14, false), (6, true), (7, true), (15, true), (16, true), (17, true)] [18, 19, 20, 21] [] (fun _ => default) [99, 99, 99, 99, 0, 99, 99, 99, 99, 99, 99, 99, 99, 99, 0, 99, 99, 99, 99, 99, 99, 99] [(21, 0)] (.c hs.g2 .n) fn fun w_3 n3 => ?_
  replace hs := hs.bl n3
  refine fmv ?_
  refine fmv ?_
  refine f0 ?_
  refine f0 ?_
  refine f4 ?_
  refine fmv ?_
  refine fmv ?_
  refine fmv ?_
  refine fb ?_
  refine fmv ?_
  refine f0 ?_
  refine f0 ?_
  refine f4 ?_
  refine fl fun w_4 n4 => ?_
  replace hs := hs.bl n4
  refine .al hs ?_ (e := fun _ _ hs n => ⟨n, (And.intro hs.g3 trivial)⟩); clear hs; intro p_b1 w_5 hs n5 kb_b1
  refine fl fun w_6 n6 => ?_
  replace hs := hs.bl n6
  intro K hK
  have k1_6 := ((((kb hb_2).b n3).b n4).b n5).b n6
  replace hd := hd.k k1_6
  have k2_6 := (((kb n3).b n4).b n5).b n6
  replace d_I := d_I.k k2_6
  go_big_op
  go_fit (dbeside_any (l := la + 1) (Mss := [mkM n k (at2 A), mkM n n one2]) (smTwo hs.g0 ((MCof (c := c_t) hs (by simp) rfl (fun r hr ↦ by simp [List.mem_map_of_mem hr]) hl_t hd).mn BT.out) ((MCof (c := c_I) hs (by simp) rfl (fun r hr ↦ by simp [List.mem_map_of_mem hr]) hl_I d_I).mn B1.out) len_mkM len_mkM) rfl (by decide) (by omega) HR1.out (by decide) (by omega))
  rintro e w_7 ⟨o_X, c_X, rs_X, rfl, hl_X, hs_X, d_X, hb_7⟩
  replace hs := hs.mx hl_X hs_X; simp only [List.cons_append] at hs
  rw [brd_top (B := B) HKK.out] at d_X
  refine hK _ _ rfl ⟨hb_7, (And.intro hs.g4 trivial)⟩ ?_
  clear hK K
  refine fl fun w_8 n8 => ?_
  replace hs := hs.bl n8
  intro K hK
  go_big_op
  go_fit (blank_any (r := nb) (k := n) (by omega) (by omega))
  rintro e w_9 ⟨o_Z, c_Z, rs_Z, rfl, hl_Z, hs_Z, d_Z, hb_9⟩
  replace hs := hs.mx hl_Z hs_Z; simp only [List.cons_append] at hs
  refine hK _ _ rfl ⟨hb_9, (And.intro hs.g5 trivial)⟩ ?_
  clear hK K
  refine fl fun w_10 n10 => ?_
  replace hs := hs.bl n10
  refine .al hs ?_ (e := fun _ _ hs n => ⟨n, (And.intro hs.g6 trivial)⟩); clear hs; intro p_b2 w_11 hs n11 kb_b2
  refine fl fun w_12 n12 => ?_
  replace hs := hs.bl n12
  intro K hK
  have k0_12 := ((((((((((kp1.b hb_2).b n3).b n4).b n5).b n6).b hb_7).b n8).b hb_9).b n10).b n11).b n12
  replace kk := kk.k k0_12
  have k9_12 := ((kb n10).b n11).b n12
  replace d_Z := d_Z.k k9_12
  go_big_op
  go_fit (dbeside_any (l := lb) (Mss := [B, mkM nb n fun _ _ ↦ (0, 0)]) (smTwo hs.g0 (HB.out _ (hs.sub (.cons _ (.cons _ (.cons _ (.cons _ (.cons _ (.cons _ (.cons _ ((((List.sublist_append_left bs _).trans (List.sublist_append_left _ _)).trans (List.sublist_append_left _ _)).trans (List.sublist_append_left _ _)))))))))) kk.kp) ((MCof (c := c_Z) hs (by simp) rfl (fun r hr ↦ by simp [List.mem_map_of_mem hr]) hl_Z d_Z).mn B0.out) hnb len_mkM) rfl (by decide) (by omega) HR2.out (by decide) (by omega))
  rintro e w_13 ⟨o_Y, c_Y, rs_Y, rfl, hl_Y, hs_Y, d_Y, hb_13⟩
  replace hs := hs.mx hl_Y hs_Y; simp only [List.cons_append] at hs
  rw [brd_low (F := at2 A) hnb HKB.out] at d_Y
  refine hK _ _ rfl ⟨hb_13, (And.intro hs.g7 trivial)⟩ ?_
  clear hK K
  refine e0 hs ?_; clear hs; intro w_14 hs n14
  refine tl ?_
  have k7_14 := ((((((kb n8).b hb_9).b n10).b n11).b n12).b hb_13).b n14
  replace d_X := d_X.k k7_14
  have k13_14 := kb n14
  replace d_Y := d_Y.k k13_14
  have ho15 := rows_one hs (rs := rs_Y) (fun r hr => by simp [List.mem_map_of_mem hr])
  refine .aps 3 0 hs ho15 ?_ (eE := fun _ _ _ hs => (And.intro hs.g7 True.intro)); clear hs ho15; intro o_X_15 c_X_15 w_15 hs kp15 hw15; simp only [List.set_cons_succ, List.set_cons_zero] at hs
  refine tl ?_
  refine .r0 ?_ (e := (And.intro hs.g7 True.intro))
  refine tl ?_
  refine .r0 ?_ (e := (And.intro hs.g7 True.intro))
  refine tl ?_
  intro K hK
  have xs := hs.g7
  obtain ⟨d0, d1, d2, d3⟩ := hs.g7.f4
  have f0 := xs.free 0
  go_big_op
  have hd16 := xs.nod rfl rfl
  obtain ⟨w_16, eW, xs', ho16⟩ : ∃ w', (w_15.setCell ⟨p_t, 0, none⟩ ((.slice o_X_15 (n + nb) c_X_15))) = w' ∧ Bs w' p_t #[(.slice o_X_15 (n + nb) c_X_15), .int .i64 (n : Int), .int .i64 (k : Int), .bool false] 105 ∧ Only p_t w_15 w' := xs.setN [(0, (.slice o_X_15 (n + nb) c_X_15))]
  rw [eW]; clear eW d0 d1 d2 d3 f0 xs
  replace hs := hs.u7 kb_bt xs' ho16; clear xs'
  refine hK _ _ rfl (And.intro True.intro True.intro) ?_; clear hK K
  apply wpTail_end
  refine hK4 _ _ ?_
  refine wp_seq_k ?_
  intro K5 hK5
  refine rg [0, 1] ?_
  refine sq ?_
  refine .mv ?_
  refine sq ?_
  refine .mv ?_
  apply wpSq_end
  refine hK5 _ _ ?_
  refine wp_ret ?_
  have k14_16 := kp15.o hd16 ho16
  replace d_X := d_X.k k14_16
  replace d_Y := d_Y.k k14_16
  have k12_16 := (((kb hb_13).b n14).t kp15).o hd16 ho16
  replace kk := kk.k k12_16
  try dsimp only [Exit.then, Exit.inBlock]
  refine bodyPost_ret (v := (.pointer (some ⟨p_t, 0, none⟩))) (by simp [results, Tryz.results80, go_sem]) rfl ?_
  exact ⟨_, _, _, rs_X ++ rs_Y, rfl, kb_bt, by rw [List.length_append, hl_X, hl_Y], by rw [← mkM_app]; exact RD.app d_Y d_X, hs.sub (by
    rw [List.map_append, List.map_append, ← List.append_assoc]
    exact .cons _ (.cons _ (.cons _ (.cons_cons _ (.cons _ (.cons _ (.cons _ (.cons_cons _ (List.Sublist.append (((List.Sublist.append ((List.sublist_append_left bs _).trans (List.sublist_append_left _ _)) (List.Sublist.refl _)).trans (List.sublist_append_left _ _))) (List.Sublist.refl _)))))))))), kk.kp⟩
theorem St.mxb {w0 w w' : World} {bs : List En} {v : Value} {rs : List Rw} {n p : Nat} {cs : Array Value} {ty : TypeId} (hs : St w0 bs w) (hn : rs.length = n) (h : St w (ls w.heap.size 51 1 v n (rs.map (·.v)) :: bx p cs ty :: ([] ++ rs.map (Rw.e w.heap.size))) w') (hp : Hid (w.heap.size ≤ p)) :
    St w0 (ls w0.heap.size 51 1 v n (rs.map (·.v)) :: bx p cs ty :: (bs ++ rs.map (Rw.e w0.heap.size))) w' := by
  rw [List.nil_append] at h
  have hge : ∀ {rs : List Rw}, AllE (rs.map (Rw.e w.heap.size)) w' → AllE (rs.map (Rw.e w0.heap.size)) w' ∧ (rs.map (Rw.e w0.heap.size)).map (·.1) = (rs.map (Rw.e w.heap.size)).map (·.1) ∧ ∀ e ∈ rs.map (Rw.e w.heap.size), ∀ k, e.1 = some k → w.heap.size ≤ k := by
    intro rs
    induction rs with
    | nil => exact fun _ => ⟨trivial, rfl, fun e he => by cases he⟩
    | cons r t ih =>
      intro ha
      obtain ⟨h1, h2, h3⟩ := ih ha.2
      refine ⟨⟨ls_mono ha.1 hs.k, h1⟩, by simp only [List.map_cons, List.cons.injEq]; exact ⟨rfl, h2⟩, fun e he k hk => ?_⟩
      rcases List.mem_cons.1 he with rfl | he
      · have h9 : Lst w' w.heap.size 38 4 r.v r.n r.xs := ha.1.1
        exact (h9.1.lt k hk).1
      · exact h3 e he k hk
  obtain ⟨h1, h2, h3⟩ := hge h.1.2.2
  have h0 : Ok (ls w0.heap.size 51 1 v n (rs.map (·.v))) w' := ls_mono h.1.1 hs.k
  have st : St w0 ((ls w0.heap.size 51 1 v n (rs.map (·.v)) :: bx p cs ty :: rs.map (Rw.e w0.heap.size)) ++ bs) w' := by
    have hb := hs.bl h.b
    refine ⟨?_, ?_, hb.b⟩
    · refine ⟨h0, h.1.2.1, ?_⟩
      have : ∀ {es : List En}, AllE es w' → AllE (es ++ bs) w' := by
        intro es
        induction es with
        | nil => exact fun _ => hb.1
        | cons e t ih => exact fun h => ⟨h.1, ih h.2⟩
      exact this h1
    · rw [List.map_append]
      have hfd : FD ((ls w0.heap.size 51 1 v n (rs.map (·.v)) :: bx p cs ty :: rs.map (Rw.e w0.heap.size)).map (·.1)) := by
        rw [List.map_cons, List.map_cons, h2]; exact h.2.1
      refine List.pairwise_append.2 ⟨hfd, hb.2.1, fun a ha b hb' k hk1 hk2 => ?_⟩
      have h4 := hs.lt b hb' k hk2
      obtain ⟨e, he, rfl⟩ := List.mem_map.1 ha
      rcases List.mem_cons.1 he with rfl | he
      · have h9 : Lst w' w.heap.size 51 1 v n (rs.map (·.v)) := h.1.1.1
        have := (h9.1.lt k hk1).1
        omega
      · rcases List.mem_cons.1 he with rfl | he
        · obtain rfl : p = k := Option.some.inj hk1
          have := hp.out
          omega
        · have h5 : e.1 ∈ (rs.map (Rw.e w.heap.size)).map (·.1) := by rw [← h2]; exact List.mem_map.2 ⟨e, he, rfl⟩
          obtain ⟨e', he', h6⟩ := List.mem_map.1 h5
          have := h3 e' he' k (h6.trans hk1)
          omega
  exact st.perm (List.Perm.cons _ (List.Perm.cons _ List.perm_append_comm))
/-- The same; and nothing that was there is written. -/
theorem bordered_new (hst : St w0 bs w) (ha : MN la w0 oa A) (hna : A.length = n) (h : gd A) (hk : wd A = k) (hb' : MN lb w ob B) (hnb : B.length = nb) (hK : ∀ i, i < nb → (rw_ B i).length = K) (hKk : 0 < n → K = k) (hKl : K ≤ 1000) (hnb2 : nb ≤ 100) (hla : la ≤ 10000000) (hlb : lb ≤ 10000000) :
    Calls Tryz.prog 80 #[.slice oa n ca, .slice ob nb cb] w fun e w' => ∃ p o c rs, e = .returned (.pointer (some ⟨p, 0, none⟩)) ∧ Hid (w0.heap.size ≤ p) ∧ rs.length = n + nb ∧ RD w' rs (mkM (n + nb) (K + n) (brdG n K (at2 A) (at2 B))) ∧ Below w.heap.size w w' ∧
      St w0 (ls w0.heap.size 51 1 (.slice o (n + nb) c) (n + nb) (rs.map (·.v)) :: bx p #[.slice o (n + nb) c, .int .i64 (n : Int), .int .i64 (k : Int), .bool false] 105 :: (bs ++ rs.map (Rw.e w0.heap.size))) w' ∧ Kp w w' :=
  Calls.mono (bordered_any (St.nil w) (ha.bl stab_n hst.b) hna h hk (fun w' hw _ => hb'.bl stab_n hw.b) hnb hK hKk hKl hnb2 hla hlb) fun e w' ⟨p, o, c, rs, h1, h2, h3, h4, h5, h6⟩ =>
    ⟨p, o, c, rs, h1, hide (Nat.le_trans hst.k h2.out), h3, h4, h5.b, hst.mxb h3 h5 h2, h6⟩
end
end Go.Proofs.YtjfjlloibmebeaaGreat


/- gdet: the pivots of Adjugate. -/
namespace Go.Proofs.YtjfjlloibmebeaaGreat
open Go Go.RowKit Dig
set_option linter.unusedVariables false
section
variable {w w0 : World} {pt pv pn n c h m W k l L : Nat} {odd : Bool} {o : Option Addr} {rs : List Rw} {bs : List En} {F M : Nat → Nat → Int × Int}
theorem pivot_yes (hst : St w0 (ls w0.heap.size 51 1 (.slice o n c) n (rs.map (·.v)) :: bx pt #[.slice o n c, .int .i64 (h : Int), .int .i64 (m : Int), .bool odd] 105 :: (bs ++ rs.map (Rw.e w0.heap.size))) w)
    (kb_bt : Hid (w0.heap.size ≤ pt)) (hd : RD w rs (mkM n W F)) (hh : h ≤ n) (hm : m ≤ W) (hk : k ≤ h) (hk2 : k ≤ m) (hn : n ≤ 1000) (hW : W ≤ 1000) (hF : ∀ i, k ≤ i → i < h → ∀ j, k ≤ j → j < m → zl l (F i j)) (hl : l ≤ 20000000) (hex : ¬ ∀ i, k ≤ i → i < h → ∀ j, k ≤ j → j < m → F i j = (0, 0)) :
    Calls Tryz.prog 84 #[.pointer (some ⟨pt, 0, none⟩), .int .i64 (k : Int)] w fun e w' => ∃ v rs' F' odd' p i j, e = .returned (.tuple #[v, .bool true]) ∧ PC w' v p.1 p.2 ∧ (k ≤ i ∧ i < h ∧ k ≤ j ∧ j < m ∧ F i j ≠ (0, 0) ∧ F' = (fun r c => F (swr i k r) (swr j k c)) ∧ odd' = xo odd i j k ∧ p = F i j) ∧ rs'.length = n ∧ RD w' rs' (mkM n W F') ∧
      St w0 (ls w0.heap.size 51 1 (.slice o n c) n (rs'.map (·.v)) :: bx pt #[.slice o n c, .int .i64 (h : Int), .int .i64 (m : Int), .bool odd'] 105 :: (bs ++ rs'.map (Rw.e w0.heap.size))) w' ∧ Kp w w' :=
  Calls.mono (pivot_any hst kb_bt hd hh hm hk hk2 hn hW hF hl) fun e w' ⟨v, fd, rs', F', odd', p, h1, h2, h3, h4, h5, h6, h7⟩ => by
    rcases h3 with ⟨rfl, i, j, h8⟩ | ⟨_, _, _, _, h8⟩
    · exact ⟨v, rs', F', odd', p, i, j, h1, h2, h8, h4, h5, h6, h7⟩
    · exact absurd h8 hex
theorem pivot_no (hst : St w0 (ls w0.heap.size 51 1 (.slice o n c) n (rs.map (·.v)) :: bx pt #[.slice o n c, .int .i64 (h : Int), .int .i64 (m : Int), .bool odd] 105 :: (bs ++ rs.map (Rw.e w0.heap.size))) w)
    (kb_bt : Hid (w0.heap.size ≤ pt)) (hd : RD w rs (mkM n W F)) (hh : h ≤ n) (hm : m ≤ W) (hk : k ≤ h) (hk2 : k ≤ m) (hn : n ≤ 1000) (hW : W ≤ 1000) (hF : ∀ i, k ≤ i → i < h → ∀ j, k ≤ j → j < m → zl l (F i j)) (hl : l ≤ 20000000) (hex : ∀ i, k ≤ i → i < h → ∀ j, k ≤ j → j < m → F i j = (0, 0)) :
    Calls Tryz.prog 84 #[.pointer (some ⟨pt, 0, none⟩), .int .i64 (k : Int)] w fun e w' => ∃ v rs', e = .returned (.tuple #[v, .bool false]) ∧ PC w' v 0 0 ∧ rs'.length = n ∧ RD w' rs' (mkM n W F) ∧
      St w0 (ls w0.heap.size 51 1 (.slice o n c) n (rs'.map (·.v)) :: bx pt #[.slice o n c, .int .i64 (h : Int), .int .i64 (m : Int), .bool odd] 105 :: (bs ++ rs'.map (Rw.e w0.heap.size))) w' ∧ Kp w w' :=
  Calls.mono (pivot_any hst kb_bt hd hh hm hk hk2 hn hW hF hl) fun e w' ⟨v, fd, rs', F', odd', p, h1, h2, h3, h4, h5, h6, h7⟩ => by
    rcases h3 with ⟨rfl, i, j, a1, a2, a3, a4, a5, _⟩ | ⟨rfl, rfl, rfl, rfl, h8⟩
    · exact absurd (hex i a1 a2 j a3 a4) a5
    · exact ⟨v, rs', h1, h2, h4, h5, h6, h7⟩
/-- What the closure reads, in front. -/
theorem adj_front {A0 B C D : En} {bs bs' rr : List En} (hp : bs.Perm ([C, D] ++ bs')) : (A0 :: B :: (bs ++ rr)).Perm (A0 :: B :: C :: D :: (bs' ++ rr)) :=
  List.Perm.cons _ (List.Perm.cons _ (hp.append_right rr))
set_option maxHeartbeats 4000000 in
set_option maxRecDepth 20000 in
theorem pivS_adj (kb_bt : Hid (w0.heap.size ≤ pt)) (hn : n ≤ 64) (hB : MinB (n + n) (n + n) L (brd n M)) (hL : L ≤ 3000000) :
    PivS w0 83 #[] #[.pointer (some ⟨pv, 0, none⟩), .pointer (some ⟨pn, 0, none⟩)] o (n + n) c pt n n (n + n) (QA n M) (FinA n M) [bx pv #[.pointer (some ⟨pt, 0, none⟩)] 100, bx pn #[.int .i64 (n : Int)] 3] := by
  intro k w A F odd rs bs hes hQ hA hl hd hst
  obtain ⟨bs', hp⟩ := hes
  show Calls _ _ #[.int .i64 (k : Int), .pointer (some ⟨pv, 0, none⟩), .pointer (some ⟨pn, 0, none⟩)] w _
  have kk := KpF.r w
  have hst := hst.perm (adj_front hp)
  have HP := hide hp
  have hkn : k ≤ n := hQ.1
  have HB := hide (show ∀ i, k ≤ i → i < n → ∀ j, k ≤ j → j < n → zl L (F i j) from fun i h1 h2 j h3 h4 => by rw [hA i (by omega) j (by omega) h1 h3]; exact hQ.2.1.bd hB (by omega) (by omega) k i (by omega) j (by omega))
  have HA := hide hA
  have HQ := hide hQ
  clear hp hA hQ hB
  by_cases hex : ∀ i, k ≤ i → i < n → ∀ j, k ≤ j → j < n → F i j = (0, 0)
  · have HEX := hide hex
    clear hex
    by_cases hk1 : k + 1 = n
    · have t1 : ((k : Int) == (n : Int) - 1) = true := beq_iff_eq.2 (by omega)
      have HK1 := hide hk1
      clear hk1
      go_enter Tryz.func83, Tryz.ntmps83
      have hs := hst
      clear hst
      refine wp_seq_k ?_
      intro K1 hK1
      refine rg [0, 1] ?_
      refine sq ?_
      refine .al hs ?_; clear hs; intro p_b1 w_1 hs n1 kb_b1
      refine sq ?_
      refine .mv ?_
      apply wpSq_end
      refine hK1 _ _ ?_
      refine wp_seq_k ?_
      intro K2 hK2
      refine rg [0, 1, 2, 3, 4, 5, 6, 7, 8] ?_
      refine sq ?_
      refine .r1 hs.g3.f1 ?_
      refine sq ?_
      refine .mv ?_
      refine sq ?_
      intro K hK
      have k0_1 := kb n1
      replace hd := hd.k k0_1
      go_big_op
      go_fit (pivot_no (bs := bx p_b1 #[.bool false, .slice none 0 0, .bool false, .slice none 0 0] 38 :: bx pv #[.pointer (some ⟨pt, 0, none⟩)] 100 :: bx pn #[.int .i64 (n : Int)] 3 :: bs') (hs.perm ((List.Perm.swap _ _ _).trans (List.Perm.cons _ (List.Perm.swap _ _ _)))) kb_bt hd (by omega) (by omega) hkn hkn (by omega) (by omega) HB.out (by omega) HEX.out)
      have bb2 := hs.b
      rintro e w_2 ⟨_, rs2, rfl, ⟨n_pa, o_pa, k_pa, c_pa, n_pb, o_pb, k_pb, c_pb, rfl, p1, p2⟩, q1, hd2, hs', kp2⟩
      clear hs; have hs := hs'; clear hs'
      have bc2 := hs.b
      clear bb2 bc2
      refine hK _ _ rfl trivial ?_
      clear hK K
      refine sq ?_
      refine .mv ?_
      refine sq ?_
      refine .r0 ?_
      refine sq ?_
      refine .r0 ?_
      refine sq ?_
      refine .al hs ?_; clear hs; intro p_b2 w_3 hs n3 kb_b2
      refine sq ?_
      refine .s4 hs.g0 (fun _ => hs.u0 kb_b2) ?_; clear hs; intro w_4 hs hd4 ho4
      refine sq ?_
      refine .mv ?_
      apply wpSq_end
      refine hK2 _ _ ?_
      refine wp_seq_k ?_
      intro K3 hK3
      refine wp_region_f4 [(0, false), (1, false), (2, false), (3, false), (4, false), (5, false), (6, false), (7, false)] [8, 9] [] (fun _ => default) [0, 99, 99, 99, 1, 99, 99, 99, 99, 99] [] (.c hs.g0 (.c hs.g5 .n)) fn fun w_5 n5 => ?_
      replace hs := hs.bl n5
      refine f4 ?_
      refine fmv ?_
      refine fmv ?_
      refine fmv ?_
      refine f1 ?_
      refine f0 ?_
      refine f0 ?_
      refine f0 ?_
      refine e0 hs ?_; clear hs; intro w_6 hs n6
      refine tl ?_
      refine .s4 hs.g3 (fun _ => hs.u3 kb_b1) ?_ (e := fun _ hs => (And.intro hs.g0 (And.intro hs.g5 True.intro))); clear hs; intro w_7 hs hd7 ho7
      refine tl ?_
      refine .mv ?_ (e := (And.intro hs.g0 (And.intro hs.g5 True.intro)))
      apply wpTail_end
      refine hK3 _ _ ?_
      refine wp_ret ?_
      have k2_7 := ((((kb n3).o hd4 ho4).b n5).b n6).o hd7 ho7
      replace p1 := p1.k k2_7
      replace p2 := p2.k k2_7
      replace hd2 := hd2.k k2_7
      have k0_7 := (((((k0_1.t kp2).b n3).o hd4 ho4).b n5).b n6).o hd7 ho7
      replace kk := kk.k k0_7
      have hk9 := HK1.out
      try dsimp only [Exit.then, Exit.inBlock]
      obtain ⟨r0_0, r0_1, r0_2, r0_3⟩ := hs.g3.f4
      refine bodyPost_ret (v := (.tuple #[.agg #[.bool n_pa, .slice o_pa k_pa c_pa, .bool n_pb, .slice o_pb k_pb c_pb], .bool true])) (by simp [results, Tryz.results83, go_sem, r0_0, r0_1, r0_2, r0_3]) rfl ?_
      exact ⟨_, true, rs2, A, F, odd, (0, 0), rfl, .mk' p1 p2, .inl ⟨rfl, by omega, by omega, ⟨by omega, HQ.out.2.1, HQ.out.2.2.1, fun h => absurd h (by have := HK1.out; omega)⟩, HA.out, (by have h1 := HA.out k (by have := HK1.out; omega) k (by have := HK1.out; omega) (Nat.le_refl _) (Nat.le_refl _); rw [← h1]; exact (HEX.out k (Nat.le_refl _) (by have := HK1.out; omega) k (Nat.le_refl _) (by have := HK1.out; omega)).symm), (HQ.out.2.2.2 (by have := HK1.out; omega)).2.2.1, fun m _ => rfl⟩, q1, hd2, (hs.sub (.cons _ (.cons_cons _ (.cons_cons _ (.cons _ (List.Sublist.refl _)))))).perm (adj_front HP.out).symm, kk.kp⟩
    · have t1 : ((k : Int) == (n : Int) - 1) = false := beq_eq_false_iff_ne.2 (by omega)
      have HK1 := hide hk1
      clear hk1
      go_enter Tryz.func83, Tryz.ntmps83
      have hs := hst
      clear hst
      refine wp_seq_k ?_
      intro K1 hK1
      refine rg [0, 1] ?_
      refine sq ?_
      refine .al hs ?_; clear hs; intro p_b1 w_1 hs n1 kb_b1
      refine sq ?_
      refine .mv ?_
      apply wpSq_end
      refine hK1 _ _ ?_
      refine wp_seq_k ?_
      intro K2 hK2
      refine rg [0, 1, 2, 3, 4, 5, 6, 7, 8] ?_
      refine sq ?_
      refine .r1 hs.g3.f1 ?_
      refine sq ?_
      refine .mv ?_
      refine sq ?_
      intro K hK
      have k0_1 := kb n1
      replace hd := hd.k k0_1
      go_big_op
      go_fit (pivot_no (bs := bx p_b1 #[.bool false, .slice none 0 0, .bool false, .slice none 0 0] 38 :: bx pv #[.pointer (some ⟨pt, 0, none⟩)] 100 :: bx pn #[.int .i64 (n : Int)] 3 :: bs') (hs.perm ((List.Perm.swap _ _ _).trans (List.Perm.cons _ (List.Perm.swap _ _ _)))) kb_bt hd (by omega) (by omega) hkn hkn (by omega) (by omega) HB.out (by omega) HEX.out)
      have bb2 := hs.b
      rintro e w_2 ⟨_, rs2, rfl, ⟨n_pa, o_pa, k_pa, c_pa, n_pb, o_pb, k_pb, c_pb, rfl, p1, p2⟩, q1, hd2, hs', kp2⟩
      clear hs; have hs := hs'; clear hs'
      have bc2 := hs.b
      clear bb2 bc2
      refine hK _ _ rfl trivial ?_
      clear hK K
      refine sq ?_
      refine .mv ?_
      refine sq ?_
      refine .r0 ?_
      refine sq ?_
      refine .r0 ?_
      refine sq ?_
      refine .al hs ?_; clear hs; intro p_b2 w_3 hs n3 kb_b2
      refine sq ?_
      refine .s4 hs.g0 (fun _ => hs.u0 kb_b2) ?_; clear hs; intro w_4 hs hd4 ho4
      refine sq ?_
      refine .mv ?_
      apply wpSq_end
      refine hK2 _ _ ?_
      refine wp_seq_k ?_
      intro K3 hK3
      refine wp_region_f4 [(0, false), (1, false), (2, false), (3, false), (4, false), (5, false), (6, false), (7, false)] [8, 9] [] (fun _ => default) [0, 99, 99, 99, 1, 99, 99, 99, 99, 99] [] (.c hs.g0 (.c hs.g5 .n)) fn fun w_5 n5 => ?_
      replace hs := hs.bl n5
      refine f4 ?_
      refine fmv ?_
      refine fmv ?_
      refine fmv ?_
      refine f1 ?_
      refine f0 ?_
      refine f0 ?_
      refine f0 ?_
      refine e0 hs ?_; clear hs; intro w_6 hs n6
      refine tl ?_
      refine .s4 hs.g3 (fun _ => hs.u3 kb_b1) ?_ (e := fun _ hs => (And.intro hs.g0 (And.intro hs.g5 True.intro))); clear hs; intro w_7 hs hd7 ho7
      refine tl ?_
      refine .mv ?_ (e := (And.intro hs.g0 (And.intro hs.g5 True.intro)))
      apply wpTail_end
      refine hK3 _ _ ?_
      refine wp_ret ?_
      have k2_7 := ((((kb n3).o hd4 ho4).b n5).b n6).o hd7 ho7
      replace p1 := p1.k k2_7
      replace p2 := p2.k k2_7
      replace hd2 := hd2.k k2_7
      have k0_7 := (((((k0_1.t kp2).b n3).o hd4 ho4).b n5).b n6).o hd7 ho7
      replace kk := kk.k k0_7
      have hk9 := HK1.out
      try dsimp only [Exit.then, Exit.inBlock]
      obtain ⟨r0_0, r0_1, r0_2, r0_3⟩ := hs.g3.f4
      refine bodyPost_ret (v := (.tuple #[.agg #[.bool n_pa, .slice o_pa k_pa c_pa, .bool n_pb, .slice o_pb k_pb c_pb], .bool false])) (by simp [results, Tryz.results83, go_sem, r0_0, r0_1, r0_2, r0_3]) rfl ?_
      exact ⟨_, false, rs2, A, F, odd, (0, 0), rfl, .mk' p1 p2, .inr ⟨rfl, (by
        rcases Nat.eq_or_lt_of_le hkn with e | e
        · exact .inl e
        · exact .inr ⟨by have := HK1.out; omega, HQ.out.2.2.2 e, fun i h1 h2 j h3 h4 => by rw [← HA.out i (by omega) j (by omega) h1 h3]; exact HEX.out i h1 h2 j h3 h4⟩), rfl, rfl, rfl⟩, q1, hd2, (hs.sub (.cons _ (.cons_cons _ (.cons_cons _ (.cons _ (List.Sublist.refl _)))))).perm (adj_front HP.out).symm, kk.kp⟩
  · have HEX := hide hex
    clear hex
    go_enter Tryz.func83, Tryz.ntmps83
    have hs := hst
    clear hst
    refine wp_seq_k ?_
    intro K1 hK1
    refine rg [0, 1] ?_
    refine sq ?_
    refine .al hs ?_; clear hs; intro p_b1 w_1 hs n1 kb_b1
    refine sq ?_
    refine .mv ?_
    apply wpSq_end
    refine hK1 _ _ ?_
    refine wp_seq_k ?_
    intro K2 hK2
    refine rg [0, 1, 2, 3, 4, 5, 6, 7, 8] ?_
    refine sq ?_
    refine .r1 hs.g3.f1 ?_
    refine sq ?_
    refine .mv ?_
    refine sq ?_
    intro K hK
    have k0_1 := kb n1
    replace hd := hd.k k0_1
    go_big_op
    go_fit (pivot_yes (bs := bx p_b1 #[.bool false, .slice none 0 0, .bool false, .slice none 0 0] 38 :: bx pv #[.pointer (some ⟨pt, 0, none⟩)] 100 :: bx pn #[.int .i64 (n : Int)] 3 :: bs') (hs.perm ((List.Perm.swap _ _ _).trans (List.Perm.cons _ (List.Perm.swap _ _ _)))) kb_bt hd (by omega) (by omega) hkn hkn (by omega) (by omega) HB.out (by omega) HEX.out)
    have bb2 := hs.b
    rintro e w_2 ⟨_, rs2, F2, odd2, P, pi, pj, rfl, ⟨n_pa, o_pa, k_pa, c_pa, n_pb, o_pb, k_pb, c_pb, rfl, p1, p2⟩, HX, q1, hd2, hs', kp2⟩
    clear hs; have hs := hs'; clear hs'
    have bc2 := hs.b
    clear bb2 bc2
    refine hK _ _ rfl trivial ?_
    clear hK K
    refine sq ?_
    refine .mv ?_
    refine sq ?_
    refine .r0 ?_
    refine sq ?_
    refine .r0 ?_
    refine sq ?_
    refine .al hs ?_; clear hs; intro p_b2 w_3 hs n3 kb_b2
    refine sq ?_
    refine .s4 hs.g0 (fun _ => hs.u0 kb_b2) ?_; clear hs; intro w_4 hs hd4 ho4
    refine sq ?_
    refine .mv ?_
    apply wpSq_end
    refine hK2 _ _ ?_
    refine wp_seq_k ?_
    intro K3 hK3
    refine wp_region_f4 [(0, false), (1, false), (2, false), (3, false), (4, false), (5, false), (6, false), (7, false)] [8, 9] [] (fun _ => default) [0, 99, 99, 99, 1, 99, 99, 99, 99, 99] [] (.c hs.g0 (.c hs.g5 .n)) fn fun w_5 n5 => ?_
    replace hs := hs.bl n5
    refine f4 ?_
    refine fmv ?_
    refine fmv ?_
    refine fk ?_
    refine fk ?_
    refine fk ?_
    refine fk ?_
    refine f0 ?_
    refine e0 hs ?_; clear hs; intro w_6 hs n6
    refine tl ?_
    refine .s4 hs.g3 (fun _ => hs.u3 kb_b1) ?_ (e := fun _ hs => (And.intro hs.g0 (And.intro hs.g5 True.intro))); clear hs; intro w_7 hs hd7 ho7
    refine tl ?_
    refine .mv ?_ (e := (And.intro hs.g0 (And.intro hs.g5 True.intro)))
    apply wpTail_end
    refine hK3 _ _ ?_
    refine wp_ret ?_
    obtain ⟨hi, hi2, hj, hj2, h0, rfl, rfl, rfl⟩ := HX
    have k2_7 := ((((kb n3).o hd4 ho4).b n5).b n6).o hd7 ho7
    replace p1 := p1.k k2_7
    replace p2 := p2.k k2_7
    replace hd2 := hd2.k k2_7
    have k0_7 := (((((k0_1.t kp2).b n3).o hd4 ho4).b n5).b n6).o hd7 ho7
    replace kk := kk.k k0_7
    have e1 := HA.out pi (by omega) pj (by omega) hi hj
    have h9 : Dt.D k A pi pj ≠ 0 := by rw [← e1]; exact h0
    try dsimp only [Exit.then, Exit.inBlock]
    obtain ⟨r0_0, r0_1, r0_2, r0_3⟩ := hs.g3.f4
    refine bodyPost_ret (v := (.tuple #[.agg #[.bool n_pa, .slice o_pa k_pa c_pa, .bool n_pb, .slice o_pb k_pb c_pb], .bool true])) (by simp [results, Tryz.results83, go_sem, r0_0, r0_1, r0_2, r0_3]) rfl ?_
    exact ⟨_, true, rs2, (fun r c => A (swr pi k r) (swr pj k c)), _, _, F pi pj, rfl, .mk' p1 p2, .inl ⟨rfl, by omega, by omega, HQ.out.next hi hi2 hj hj2 h9, HA.out.next hi (by omega) hj (by omega), (by rw [D_swr hi hj, swr_k, swr_k]; exact e1), (by rw [det_swr hi hj (Nat.le_refl _)]; exact (HQ.out.2.2.2 (by omega)).2.2.1), fun s hs => det_swr hi hj hs⟩, q1, hd2, (hs.sub (.cons _ (.cons_cons _ (.cons_cons _ (.cons _ (List.Sublist.refl _)))))).perm (adj_front HP.out).symm, kk.kp⟩
set_option maxRecDepth 20000 in
theorem entP_adj : EntP 83 #[] #[.pointer (some ⟨pv, 0, none⟩), .pointer (some ⟨pn, 0, none⟩)] := fun _ _ => by kernel_rfl
end
end Go.Proofs.YtjfjlloibmebeaaGreat


/- gdet: a row of each of two own matrices in front of the state, whatever stands between. -/
namespace Go.Proofs.YtjfjlloibmebeaaGreat
open Go Go.RowKit Dig
set_option linter.unusedVariables false
section
variable {w0 w : World} {v u x : Value} {m n p q K J : Nat} {rs ts r1 r2 s1 s2 : List Rw} {Cs : List En} {xs xs' ys : List Value} {Ms Ns : List (List (Int × Int))}
theorem perm2a {α : Type} {a b : α} {cs ts rs : List α} : (a :: (cs ++ b :: (ts ++ rs))).Perm (b :: ((a :: (cs ++ rs)) ++ ts)) := by
  refine (List.Perm.cons _ List.perm_middle).trans ((List.Perm.swap _ _ _).trans (List.Perm.cons _ (List.Perm.cons _ ?_)))
  show (cs ++ (ts ++ rs)).Perm ((cs ++ rs) ++ ts)
  rw [List.append_assoc]
  exact List.Perm.append_left _ List.perm_append_comm
theorem perm2b {α : Type} {a b c : α} {cs ss rs : List α} : (c :: b :: ((a :: (cs ++ rs)) ++ ss)).Perm (a :: ((c :: b :: (cs ++ ss)) ++ rs)) := by
  refine (List.Perm.cons _ (List.Perm.swap _ _ _)).trans ((List.Perm.swap _ _ _).trans (List.Perm.cons _ (List.Perm.cons _ (List.Perm.cons _ ?_))))
  show ((cs ++ rs) ++ ss).Perm ((cs ++ ss) ++ rs)
  rw [List.append_assoc, List.append_assoc]
  exact List.Perm.append_left _ List.perm_append_comm
theorem St.row2c (hs : St w0 (ls w0.heap.size 51 1 v m (rs.map (·.v)) :: (Cs ++ ls w0.heap.size 51 1 u n (ts.map (·.v)) :: (ts.map (Rw.e w0.heap.size) ++ rs.map (Rw.e w0.heap.size)))) w)
    (hd : RD w rs Ms) (hp : p < Ms.length) (hK : Ms[p].length = K) (h0 : 0 < K) (he : RD w ts Ns) (hq : q < Ns.length) (hJ : Ns[q].length = J) (h1 : 0 < J) :
    ∃ r1 g c xs r2 s1 h d ys s2, rs = r1 ++ (⟨.slice (some ⟨g, 0, none⟩) K c, K, xs⟩ : Rw) :: r2 ∧ r1.length = p ∧ (rs.map (·.v))[p]? = some (.slice (some ⟨g, 0, none⟩) K c) ∧ GD w xs Ms[p] ∧
      ts = s1 ++ (⟨.slice (some ⟨h, 0, none⟩) J d, J, ys⟩ : Rw) :: s2 ∧ s1.length = q ∧ (ts.map (·.v))[q]? = some (.slice (some ⟨h, 0, none⟩) J d) ∧ GD w ys Ns[q] ∧
      St w0 (ls w0.heap.size 38 4 (.slice (some ⟨g, 0, none⟩) K c) K xs :: ls w0.heap.size 51 1 v m (rs.map (·.v)) :: ls w0.heap.size 38 4 (.slice (some ⟨h, 0, none⟩) J d) J ys :: ls w0.heap.size 51 1 u n (ts.map (·.v)) :: (Cs ++ (s1 ++ s2).map (Rw.e w0.heap.size) ++ (r1 ++ r2).map (Rw.e w0.heap.size))) w := by
  obtain ⟨s1, h, d, ys, s2, e1, e2, e3, e4, hs2⟩ := (hs.perm perm2a).row he hq hJ h1
  obtain ⟨r1, g, c, xs, r2, f1, f2, f3, f4, hs4⟩ := (hs2.perm perm2b).row hd hp hK h0
  exact ⟨r1, g, c, xs, r2, s1, h, d, ys, s2, f1, f2, f3, f4, e1, e2, e3, e4, hs4⟩
theorem St.unrow2c {y : Value} (hs : St w0 (ls w0.heap.size 38 4 x K xs' :: ls w0.heap.size 51 1 v m ((r1 ++ (⟨x, K, xs⟩ : Rw) :: r2).map (·.v)) :: ls w0.heap.size 38 4 y J ys :: ls w0.heap.size 51 1 u n ((s1 ++ (⟨y, J, ys⟩ : Rw) :: s2).map (·.v)) :: (Cs ++ (s1 ++ s2).map (Rw.e w0.heap.size) ++ (r1 ++ r2).map (Rw.e w0.heap.size))) w) :
    St w0 (ls w0.heap.size 51 1 v m ((r1 ++ (⟨x, K, xs'⟩ : Rw) :: r2).map (·.v)) :: (Cs ++ ls w0.heap.size 51 1 u n ((s1 ++ (⟨y, J, ys⟩ : Rw) :: s2).map (·.v)) :: ((s1 ++ (⟨y, J, ys⟩ : Rw) :: s2).map (Rw.e w0.heap.size) ++ (r1 ++ (⟨x, K, xs'⟩ : Rw) :: r2).map (Rw.e w0.heap.size)))) w := by
  have hs1 := St.unrow (bs := ls w0.heap.size 38 4 y J ys :: ls w0.heap.size 51 1 u n ((s1 ++ (⟨y, J, ys⟩ : Rw) :: s2).map (·.v)) :: (Cs ++ (s1 ++ s2).map (Rw.e w0.heap.size))) hs
  have hs3 := St.unrow (bs := ls w0.heap.size 51 1 v m ((r1 ++ (⟨x, K, xs'⟩ : Rw) :: r2).map (·.v)) :: (Cs ++ (r1 ++ (⟨x, K, xs'⟩ : Rw) :: r2).map (Rw.e w0.heap.size))) (hs1.perm perm2b.symm)
  exact hs3.perm perm2a.symm
end
end Go.Proofs.YtjfjlloibmebeaaGreat


/- A region at whose end a block is made, its calls having made others: it lies apart from these by its type. -/
namespace Go.Proofs.YtjfjlloibmebeaaGreat
open Go Go.RowKit Dig
set_option linter.unusedVariables false
/-- A block or a list of the call's own, of another type than ty0. -/
def Typ (ty0 : TypeId) (e : En) : Prop := (∃ p cs ty, e = bx p cs ty ∧ ty ≠ ty0) ∨ ∃ B ty sz v n xs, e = ls B ty sz v n xs ∧ ty ≠ ty0
def AllT (ty0 : TypeId) (bs : List En) : Prop := ∀ e ∈ bs, Typ ty0 e
section
variable {ty0 : TypeId} {bs cs : List En}
theorem AllT.bx {p : Nat} {xs : Array Value} {ty : TypeId} (h : AllT ty0 bs) (hn : ty ≠ ty0 := by decide) : AllT ty0 (Go.Proofs.YtjfjlloibmebeaaGreat.bx p xs ty :: bs) := fun e he => by
  rcases List.mem_cons.1 he with rfl | he
  · exact .inl ⟨_, _, _, rfl, hn⟩
  · exact h e he
theorem AllT.ls {B sz n : Nat} {v : Value} {xs : List Value} {ty : TypeId} (h : AllT ty0 bs) (hn : ty ≠ ty0 := by decide) : AllT ty0 (Go.Proofs.YtjfjlloibmebeaaGreat.ls B ty sz v n xs :: bs) := fun e he => by
  rcases List.mem_cons.1 he with rfl | he
  · exact .inr ⟨_, _, _, _, _, _, rfl, hn⟩
  · exact h e he
theorem AllT.app (h : AllT ty0 bs) (h2 : AllT ty0 cs) : AllT ty0 (bs ++ cs) := fun e he => (List.mem_append.1 he).elim (h e) (h2 e)
theorem AllT.rows {B : Nat} {rs : List Rw} (hn : 38 ≠ ty0 := by decide) : AllT ty0 (rs.map (Rw.e B)) := fun e he => by
  obtain ⟨r, _, rfl⟩ := List.mem_map.1 he
  exact .inr ⟨_, _, _, _, _, _, rfl, hn⟩
theorem Typ.blk {e : En} {w : World} {k : Nat} (h : Typ ty0 e) (x : Ok e w) (hk : e.1 = some k) : ∃ cur ty fz, w.heap[k]? = some (.cells cur ty fz) ∧ ty ≠ ty0 := by
  rcases h with ⟨p, cs, ty, rfl, hn⟩ | ⟨B, ty, sz, v, n, xs, rfl, hn⟩
  · obtain rfl : p = k := Option.some.inj hk
    have y : Bs w p cs ty := x.1
    exact ⟨_, _, _, y, hn⟩
  · have L : Lst w B ty sz v n xs := x.1
    rcases L.1.2 with ⟨rfl, _⟩ | ⟨g, cap, cur, rfl, _, hg, _⟩
    · cases hk
    · obtain rfl : g = k := Option.some.inj hk
      exact ⟨_, _, _, hg, hn⟩
end
section
variable {P : Program} {l : List Oper} {Q : Act → World → Prop} {a : Act} {w w0 : World} {o : Oper} {k : Nat} {C : World → Prop} {ob : Nat → Obj} {B : Nat} {Gs : List (World → Prop)} {CL : List Nat} {bad : List (Nat × Nat)} {bs : List En}
theorem e1t {j0 : Nat} {cs0 : Array Value} {ty0 : TypeId} {a' : Nat → Act} (hs : St w0 bs w) (hl : AllT ty0 bs) (hk : w0.heap.size ≤ B)
    (h : ∀ w' p0, St w0 (bx p0 cs0 ty0 :: bs) w' → Below w.heap.size w w' → Hid (w0.heap.size ≤ p0) → Q (a' p0) w')
    (ha : ∀ p0, putF l (fun j => some (p0)) [j0] a = a' p0 := by intro p0; simp only [putF, nthO, Act.put, ptr, List.setIfInBounds_toArray, List.set_cons_succ, List.set_cons_zero, if_true, if_false, eq_self, Nat.reduceEqDiff, reduceIte]; rfl) (ho0 : ob j0 = .cells cs0 ty0 := by rfl) (hnd : [j0].Nodup := by decide) : wpFl P l C Gs CL ob [j0] B Q [] a w := by
  refine wpFl_end (a' := fun pt => a' (pt j0)) (fun pt => ?_) fun w' pt hb _ hF hD => ?_
  · rw [← ha]
    refine putF_congr fun j hj => ?_
    simp only [List.mem_cons, List.not_mem_nil, or_false] at hj
    congr 1
    rw [hj]
  · have y0 : Bs w' (pt j0) cs0 ty0 := by have := (hF j0 (by simp)).2; rw [ho0] at this; exact this
    have hx : ∀ j ∈ [j0], ∀ f ∈ bs.map (·.1), ∀ k, some (pt j) = some k → f ≠ some k := fun j hj f hf k hk2 hc => by
      have ej : j = j0 := by simpa using hj
      subst ej
      obtain ⟨e, he, rfl⟩ := List.mem_map.1 hf
      have key : ∀ {l : List En}, AllE l w → ∀ e ∈ l, Ok e w := by
        intro l
        induction l with
        | nil => intro _ e he; cases he
        | cons a t ih => intro h e he; rcases List.mem_cons.1 he with rfl | he; exact h.1; exact ih h.2 e he
      obtain ⟨cur, ty, fz, h1, h2⟩ := (hl e he).blk (key hs.1 _ he) hc
      have h3 : w'.heap[k]? = some (.cells cur ty fz) := by rw [hb.block k (hs.lt _ (List.mem_map_of_mem he) k hc)]; exact h1
      obtain rfl : pt j = k := Option.some.inj hk2
      have h4 : w'.heap[pt j]? = some (.cells cs0 ty0 (0, 0)) := y0
      rw [h4] at h3
      simp only [Option.some.injEq, Obj.cells.injEq] at h3
      exact h2 h3.2.1.symm
    have k0 := Nat.le_trans hk (hF j0 (by simp)).1
    have s0 : St w0 (bx (pt j0) cs0 ty0 :: bs) w' := .cons (.bx y0) (hx j0 (by simp)) (hs.bl hb)
    exact h w' (pt j0) s0 hb k0
end
end Go.Proofs.YtjfjlloibmebeaaGreat


/- The reference's Round of longer numbers. -/
namespace Go.Proofs.YtjfjlloibmebeaaGreat
open Go Go.RowKit Dig
set_option linter.unusedVariables false

end Go.Proofs.YtjfjlloibmebeaaGreat


/- The reference's Exact, where it divides. -/
namespace Go.Proofs.YtjfjlloibmebeaaGreat
open Go Go.RowKit Dig
set_option linter.unusedVariables false
section
variable {w : World} {va vb : Value} {x y u v : Int} {l m k n : Nat} {q z : Int × Int}
end
end Go.Proofs.YtjfjlloibmebeaaGreat

