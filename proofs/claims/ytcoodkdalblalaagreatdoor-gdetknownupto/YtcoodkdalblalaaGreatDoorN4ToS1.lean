/- Matrices' mathematics: brackets, Adj of products, Gram, lengths. -/
import Derived.Test.YtcoodkdalblalaaGreatDoorItToI6
import Derived.Laws.EntriesVeiled
namespace Go.Proofs.YtcoodkdalblalaaGreatDoor
open Go Go.RowKit Dig
set_option linter.unusedVariables false
section
variable {a b c d : Int × Int} {f g : Nat → Int × Int} {k n r i j : Nat} {F G : Nat → Nat → Int × Int} {A B C : List (List (Int × Int))}
theorem mP_assoc : mP (mP a b) c = mP a (mP b c) := Prod.ext (by simp only [mP]; grind) (by simp only [mP]; grind)
theorem mP_comm : mP a b = mP b a := Prod.ext (by simp only [mP]; grind) (by simp only [mP]; grind)
theorem mP_addl : mP (aP a b) c = aP (mP a c) (mP b c) := Prod.ext (by simp only [mP, aP]; grind) (by simp only [mP, aP]; grind)
theorem mP_addr : mP a (aP b c) = aP (mP a b) (mP a c) := Prod.ext (by simp only [mP, aP]; grind) (by simp only [mP, aP]; grind)
theorem aP_four : aP (aP a b) (aP c d) = aP (aP a c) (aP b d) := Prod.ext (by simp only [aP]; grind) (by simp only [aP]; grind)
theorem cP_mP : cP (mP a b) = mP (cP a) (cP b) := Prod.ext (by simp only [mP, cP]; grind) (by simp only [mP, cP]; grind)
theorem cP_aP : cP (aP a b) = aP (cP a) (cP b) := Prod.ext rfl (by simp only [aP, cP]; grind)
theorem cP_cP : cP (cP a) = a := Prod.ext rfl (by simp only [cP]; grind)
theorem mP_0l : mP (0, 0) c = (0, 0) := Prod.ext (by simp only [mP]; grind) (by simp only [mP]; grind)
theorem mP_0r : mP c (0, 0) = (0, 0) := Prod.ext (by simp only [mP]; grind) (by simp only [mP]; grind)
theorem sumP_congr : ∀ {k : Nat}, (∀ i, i < k → f i = g i) → sumP k f = sumP k g
  | 0, _ => rfl
  | k + 1, h => by rw [sumP, sumP, sumP_congr fun i hi => h i (by omega), h k (by omega)]
theorem sumP_l : ∀ {k : Nat}, mP c (sumP k f) = sumP k fun i => mP c (f i)
  | 0 => mP_0r
  | k + 1 => by rw [sumP, sumP, mP_addr, sumP_l]
theorem sumP_r : ∀ {k : Nat}, mP (sumP k f) c = sumP k fun i => mP (f i) c
  | 0 => mP_0l
  | k + 1 => by rw [sumP, sumP, mP_addl, sumP_r]
theorem sumP_add : ∀ {k : Nat}, (sumP k fun i => aP (f i) (g i)) = aP (sumP k f) (sumP k g)
  | 0 => rfl
  | k + 1 => by rw [sumP, sumP, sumP, sumP_add, aP_four]
theorem sumP_0 : ∀ {k : Nat}, (sumP k fun _ => ((0 : Int), (0 : Int))) = (0, 0)
  | 0 => rfl
  | k + 1 => by rw [sumP, sumP_0]; rfl
theorem sumP_comm : ∀ {k n : Nat}, (sumP k fun i => sumP n fun j => F i j) = sumP n fun j => sumP k fun i => F i j
  | 0, n => sumP_0.symm
  | k + 1, n => by rw [sumP, sumP_comm, ← sumP_add]; rfl
theorem cP_sum : ∀ {k : Nat}, cP (sumP k f) = sumP k fun i => cP (f i)
  | 0 => rfl
  | k + 1 => by rw [sumP, sumP, cP_aP, cP_sum]
theorem dot_len : ∀ {k : Nat}, (sumP k fun i => mP (f i) (cP (f i))) = (lenS k fun i => nP (f i), 0)
  | 0 => rfl
  | k + 1 => by rw [sumP, dot_len]; exact Prod.ext (by simp only [aP, mP, cP, nP, lenS]; grind) (by simp only [aP, mP, cP]; grind)
theorem len_mkM : (mkM r k F).length = r := by simp [mkM]
theorem wd_mkM (h : 0 < r ∨ k = 0) : wd (mkM r k F) = k := by
  unfold wd mkM
  cases r with
  | zero => have : k = 0 := by omega
            subst this; rfl
  | succ r => rw [List.range_succ_eq_map]; simp
theorem at2_mkM (hi : i < r) (hj : j < k) : at2 (mkM r k F) i j = F i j := by simp [at2, rw_, at1, mkM, List.getD, hi, hj]
theorem gd_mkM (hr : r ≤ 64) (hk : k ≤ 64) : gd (mkM r k F) := by
  refine ⟨by rw [len_mkM]; exact hr, ?_, ?_⟩
  · rcases Nat.eq_zero_or_pos r with h | h
    · subst h; exact Nat.zero_le _
    · rw [wd_mkM (.inl h)]; exact hk
  · intro q hq
    have h : 0 < r := by
      rcases Nat.eq_zero_or_pos r with h | h
      · subst h; cases hq
      · exact h
    rw [wd_mkM (.inl h)]
    obtain ⟨i, hi, rfl⟩ := List.mem_map.1 hq
    simp
theorem mkM_eq {r' k' : Nat} (hr : r = r') (hk : k = k') (h : ∀ i, i < r → ∀ j, j < k → F i j = G i j) : mkM r k F = mkM r' k' G := by
  subst hr hk
  exact List.map_congr_left fun i hi => List.map_congr_left fun j hj => h i (List.mem_range.1 hi) j (List.mem_range.1 hj)
theorem at2_bd {l : Nat} (h : BdM l A) : zl l (at2 A i j) := by
  unfold at2 rw_
  rcases Nat.lt_or_ge i A.length with hi | hi
  · rw [List.getD, List.getElem?_eq_getElem hi]
    exact Bd.at1 (h _ (List.getElem_mem hi))
  · rw [List.getD, List.getElem?_eq_none hi]
    exact zl_0 _
end
namespace Dt
open Lean.Grind
set_option linter.unusedVariables false
variable {R : Type} [CommRing R]
/-- The sum of the first n. -/
def sm (n : Nat) (f : Nat → R) : R := match n with
  | 0 => 0
  | n + 1 => sm n f + f n
theorem sm_congr {n : Nat} {f g : Nat → R} (h : ∀ i, i < n → f i = g i) : sm n f = sm n g := by
  induction n with
  | zero => rfl
  | succ n ih => rw [sm, sm, ih (fun i hi => h i (by omega)), h n (by omega)]
theorem sm_zero {n : Nat} {f : Nat → R} (h : ∀ i, i < n → f i = 0) : sm n f = 0 := by
  induction n with
  | zero => rfl
  | succ n ih => rw [sm, ih (fun i hi => h i (by omega)), h n (by omega)]; grind
theorem sm_add {n : Nat} {f g : Nat → R} : sm n (fun i => f i + g i) = sm n f + sm n g := by
  induction n with
  | zero => simp only [sm]; grind
  | succ n ih => simp only [sm]; rw [ih]; grind
theorem sm_mul {n : Nat} {a : R} {f : Nat → R} : sm n (fun i => a * f i) = a * sm n f := by
  induction n with
  | zero => simp only [sm]; grind
  | succ n ih => simp only [sm]; rw [ih]; grind
/-- Two of them differ from nought. -/
theorem sm_one {n k : Nat} {f : Nat → R} (hk : k < n) (h : ∀ i, i < n → i ≠ k → f i = 0) : sm n f = f k := by
  induction n with
  | zero => omega
  | succ n ih =>
    rw [sm]
    by_cases e : k = n
    · subst e; rw [sm_zero fun i hi => h i (by omega) (by omega)]; grind
    · rw [ih (by omega) fun i hi => h i (by omega), h n (by omega) (by omega)]; grind
theorem sm_two {n k l : Nat} {f : Nat → R} (hk : k < l) (hl : l < n) (h : ∀ i, i < n → i ≠ k → i ≠ l → f i = 0) : sm n f = f k + f l := by
  induction n with
  | zero => omega
  | succ n ih =>
    rw [sm]
    by_cases e : l = n
    · subst e; rw [sm_one hk fun i hi h1 => h i (by omega) h1 (by omega)]
    · rw [ih (by omega) fun i hi => h i (by omega), h n (by omega) (by omega) (by omega)]; grind
/-- One, or one less than nought. -/
def sg (n : Nat) : R := if n % 2 = 0 then 1 else -1
def skip (i r : Nat) : Nat := if r < i then r else r + 1
/-- The determinant of the first n rows and columns, by the last column. -/
def det : Nat → (Nat → Nat → R) → R
  | 0, _ => 1
  | n + 1, A => sm (n + 1) fun i => sg (i + n) * (A i n * det n fun r => A (skip i r))
theorem det_congr {n : Nat} {A B : Nat → Nat → R} (h : ∀ i, i < n → ∀ c, c < n → A i c = B i c) : det n A = det n B := by
  induction n generalizing A B with
  | zero => rfl
  | succ n ih =>
    rw [det, det]
    refine sm_congr fun i hi => ?_
    rw [h i hi n (by omega), ih fun r hr c hc => h _ (by unfold skip; split <;> omega) c (by omega)]
def upd (A : Nat → Nat → R) (i : Nat) (x : Nat → R) : Nat → Nat → R := fun r => if r = i then x else A r
theorem det_lin {n : Nat} {A B C : Nat → Nat → R} {k : Nat} {a b : R} (hk : k < n) (h0 : ∀ c, c < n → A k c = a * B k c + b * C k c) (h1 : ∀ i, i < n → i ≠ k → ∀ c, c < n → A i c = B i c ∧ A i c = C i c) : det n A = a * det n B + b * det n C := by
  induction n generalizing A B C k with
  | zero => omega
  | succ n ih =>
    rw [det, det, det, ← sm_mul, ← sm_mul, ← sm_add]
    refine sm_congr fun i hi => ?_
    by_cases e : i = k
    · subst e
      rw [h0 n (by omega), det_congr (A := fun r => A (skip i r)) (B := fun r => B (skip i r)) fun r hr c hc => (h1 _ (by unfold skip; split <;> omega) (by unfold skip; split <;> omega) c (by omega)).1,
        det_congr (A := fun r => C (skip i r)) (B := fun r => B (skip i r)) fun r hr c hc => by rw [← (h1 _ (by unfold skip; split <;> omega) (by unfold skip; split <;> omega) c (by omega)).1, ← (h1 _ (by unfold skip; split <;> omega) (by unfold skip; split <;> omega) c (by omega)).2]]
      grind
    · have e2 := h1 i hi e n (by omega)
      have e3 : skip i (if k < i then k else k - 1) = k := by unfold skip; split <;> (try split) <;> omega
      rw [ih (A := fun r => A (skip i r)) (B := fun r => B (skip i r)) (C := fun r => C (skip i r)) (k := if k < i then k else k - 1) (by split <;> omega) (by simp only [e3]; exact fun c hc => h0 c (by omega))
        (fun r hr hne c hc => h1 _ (by unfold skip; split <;> omega) (fun h => hne (by unfold skip at h; split at h <;> split <;> omega)) c (by omega)), e2.2]
      have e4 : B i n = C i n := e2.1.symm.trans e2.2
      rw [e4]; grind
/-- Two rows side by side are one. -/
theorem det_adj {n : Nat} {A : Nat → Nat → R} {k : Nat} (hk : k + 1 < n) (h : ∀ c, c < n → A k c = A (k + 1) c) : det n A = 0 := by
  induction n generalizing A k with
  | zero => omega
  | succ n ih =>
    rw [det, sm_two (k := k) (l := k + 1) (by omega) (by omega)]
    · rw [h n (by omega), det_congr (A := fun r => A (skip k r)) (B := fun r => A (skip (k + 1) r)) fun r hr c hc => by
        unfold skip
        by_cases e : r = k
        · subst e; simp only [Nat.lt_irrefl, if_false, Nat.lt_succ_self, if_true]; exact (h c (by omega)).symm
        · by_cases e2 : r < k
          · rw [if_pos e2, if_pos (by omega)]
          · rw [if_neg e2, if_neg (by omega)]]
      have : (sg (k + 1 + n) : R) = - sg (k + n) := by
        unfold sg
        by_cases e : (k + n) % 2 = 0
        · rw [if_pos e, if_neg (by omega)]
        · rw [if_neg e, if_pos (by omega)]; grind
      rw [this]; grind
    · intro i hi h1 h2
      rw [ih (A := fun r => A (skip i r)) (k := if k < i then k else k - 1) (by split <;> omega)]
      · grind
      · intro c hc
        have e1 : skip i (if k < i then k else k - 1) = k := by unfold skip; split <;> (try split) <;> omega
        have e2 : skip i ((if k < i then k else k - 1) + 1) = k + 1 := by unfold skip; split <;> (try split) <;> omega
        simp only [e1, e2]; exact h c (by omega)
/-- Linear in each row, and nought where two are one. -/
structure Alt (n : Nat) (F : (Nat → Nat → R) → R) : Prop where
  congr : ∀ {A B : Nat → Nat → R}, (∀ i, i < n → ∀ c, c < n → A i c = B i c) → F A = F B
  lin : ∀ {A B C : Nat → Nat → R} {k : Nat} {a b : R}, k < n → (∀ c, c < n → A k c = a * B k c + b * C k c) → (∀ i, i < n → i ≠ k → ∀ c, c < n → A i c = B i c ∧ A i c = C i c) → F A = a * F B + b * F C
  alt : ∀ {A : Nat → Nat → R} {i j : Nat}, i < j → j < n → (∀ c, c < n → A i c = A j c) → F A = 0
/-- Two rows exchanged. -/
def swp (i j r : Nat) : Nat := if r = i then j else if r = j then i else r
theorem swp_swp {i j r : Nat} : swp i j (swp i j r) = r := by unfold swp; split <;> split <;> (try split) <;> omega
section
variable {n : Nat} {F : (Nat → Nat → R) → R}
theorem swap_of (h1 : ∀ {A B C : Nat → Nat → R} {k : Nat} {a b : R}, k < n → (∀ c, c < n → A k c = a * B k c + b * C k c) → (∀ i, i < n → i ≠ k → ∀ c, c < n → A i c = B i c ∧ A i c = C i c) → F A = a * F B + b * F C)
    {i j : Nat} (hij : i ≠ j) (hi : i < n) (hj : j < n) (h2 : ∀ {A : Nat → Nat → R}, (∀ c, c < n → A i c = A j c) → F A = 0) (A : Nat → Nat → R) : F (fun r => A (swp i j r)) = - F A := by
  let X (x y : Nat → R) : Nat → Nat → R := fun r => if r = i then x else if r = j then y else A r
  have e0 : X (A i) (A j) = A := by funext r; simp only [X]; split; · subst_vars; rfl
                                    split; · subst_vars; rfl
                                    rfl
  have e1 : X (A j) (A i) = fun r => A (swp i j r) := by funext r; simp only [X, swp]; split; · subst_vars; rfl
                                                         split; · subst_vars; rfl
                                                         rfl
  have hd : ∀ x, F (X x x) = 0 := fun x => h2 fun c _ => by simp [X, Ne.symm hij]
  have l1 : ∀ x y z, F (X (fun c => x c + y c) z) = F (X x z) + F (X y z) := fun x y z => by
    rw [h1 (A := X (fun c => x c + y c) z) (B := X x z) (C := X y z) (k := i) (a := 1) (b := 1) hi (fun c _ => by simp only [X, if_true]; grind) (fun r _ hr c _ => by simp [X, hr])]
    grind
  have l2 : ∀ x y z, F (X z (fun c => x c + y c)) = F (X z x) + F (X z y) := fun x y z => by
    rw [h1 (A := X z (fun c => x c + y c)) (B := X z x) (C := X z y) (k := j) (a := 1) (b := 1) hj (fun c _ => by simp only [X]; rw [if_neg (Ne.symm hij)]; simp only [if_true]; grind) (fun r _ hr c _ => by simp [X, hr])]
    grind
  have h := hd (fun c => A i c + A j c)
  rw [l1, l2, l2, hd, hd, e1, e0] at h
  grind
theorem Alt.swap (h : Alt n F) {i j : Nat} (hij : i ≠ j) (hi : i < n) (hj : j < n) (A : Nat → Nat → R) : F (fun r => A (swp i j r)) = - F A :=
  swap_of h.lin hij hi hj (fun {A} hA => (Nat.lt_or_gt_of_ne hij).elim (fun hl => h.alt hl hj hA) (fun hl => h.alt hl hi fun c hc => (hA c hc).symm)) A
end
theorem det_eq {n : Nat} {A : Nat → Nat → R} {i j : Nat} (hij : i < j) (hj : j < n) (h : ∀ c, c < n → A i c = A j c) : det n A = 0 := by
  obtain ⟨d, rfl⟩ : ∃ d, j = i + 1 + d := ⟨j - i - 1, by omega⟩
  induction d generalizing A with
  | zero => exact det_adj hj h
  | succ d ih =>
    have h2 := swap_of (n := n) (F := det n) (fun hk h0 h1 => det_lin hk h0 h1) (i := i + 1 + d) (j := i + 1 + d + 1) (by omega) (by omega) (by omega) (fun hA => det_adj (by omega) hA) A
    rw [ih (A := fun r => A (swp (i + 1 + d) (i + 1 + d + 1) r)) (by omega) (by omega) (fun c hc => by
      rw [show swp (i + 1 + d) (i + 1 + d + 1) i = i by unfold swp; rw [if_neg (by omega), if_neg (by omega)], show swp (i + 1 + d) (i + 1 + d + 1) (i + 1 + d) = i + 1 + d + 1 by unfold swp; rw [if_pos rfl]]
      exact h c hc)] at h2
    grind
theorem alt_det {n : Nat} : Alt n (det n (R := R)) := ⟨det_congr, det_lin, det_eq⟩
/-- The matrix of ones. -/
def one (i c : Nat) : R := if i = c then 1 else 0
section
variable {n : Nat} {F : (Nat → Nat → R) → R}
theorem Alt.zero (h : Alt n F) {A : Nat → Nat → R} {k : Nat} (hk : k < n) (h0 : ∀ c, c < n → A k c = 0) : F A = 0 := by
  have := h.lin (A := A) (B := A) (C := A) (k := k) (a := 0) (b := 0) hk (fun c hc => by rw [h0 c hc]; grind) (fun _ _ _ _ _ => ⟨rfl, rfl⟩)
  grind
theorem Alt.sum (h : Alt n F) {A : Nat → Nat → R} {k m : Nat} {a : Nat → R} {x : Nat → Nat → R} (hk : k < n) : F (upd A k fun c => sm m fun j => a j * x j c) = sm m fun j => a j * F (upd A k (x j)) := by
  induction m with
  | zero =>
    simp only [sm]
    exact h.zero hk fun c _ => by simp only [upd, if_true]
  | succ m ih =>
    simp only [sm]
    rw [← ih, h.lin (A := upd A k fun c => (sm m fun j => a j * x j c) + a m * x m c) (B := upd A k fun c => sm m fun j => a j * x j c) (C := upd A k (x m)) (k := k) (a := 1) (b := a m) hk
      (fun c _ => by simp only [upd, if_true]; grind) (fun i _ hi c _ => by simp only [upd, if_neg hi]; exact ⟨trivial, trivial⟩)]
    grind
/-- Rows of ones: sorted by exchanges. -/
theorem Alt.units (h : Alt n F) (h1 : F one = 0) : ∀ m, ∀ s : Nat → Nat, (∀ i, i < n → s i < n) → ((List.range n).filter fun i => s i ≠ i).length ≤ m → F (fun i => one (s i)) = 0 := by
  intro m
  induction m with
  | zero =>
    intro s hs hm
    rw [h.congr (B := one) fun i hi c hc => ?_, h1]
    have : (List.range n).filter (fun i => s i ≠ i) = [] := List.eq_nil_of_length_eq_zero (by omega)
    have h2 := List.filter_eq_nil_iff.1 this i (by simpa using hi)
    have : s i = i := by simpa using h2
    rw [this]
  | succ m ih =>
    intro s hs hm
    by_cases hf : ∀ i, i < n → s i = i
    · rw [h.congr (B := one) fun i hi c hc => by rw [hf i hi], h1]
    · obtain ⟨i, hi, hne⟩ : ∃ i, i < n ∧ s i ≠ i := by
        refine Classical.byContradiction fun hc => hf fun i hi => Classical.byContradiction fun h => hc ⟨i, hi, h⟩
      have hv := hs i hi
      by_cases e : s (s i) = s i
      · exact (Nat.lt_or_gt_of_ne hne).elim (fun hl => h.alt hl hi fun c _ => by rw [e]) (fun hl => h.alt hl hv fun c _ => by rw [e])
      · have hw := h.swap (i := i) (j := s i) (Ne.symm hne) hi hv (fun i => one (s i))
        have h2 := ih (fun r => s (swp i (s i) r)) (fun r hr => hs _ (by unfold swp; split <;> (try split) <;> assumption)) (by
          have hp : ((List.range n).filter fun r => s (swp i (s i) r) ≠ r).length < ((List.range n).filter fun r => s r ≠ r).length := by
            have key : ∀ r, s (swp i (s i) r) ≠ r → s r ≠ r := fun r hr => by
              by_cases e1 : r = i
              · subst e1; exact hne
              · by_cases e2 : r = s i
                · subst e2; exact e
                · simpa only [swp, if_neg e1, if_neg e2] using hr
            have sub : ((List.range n).filter fun r => s (swp i (s i) r) ≠ r) = (((List.range n).filter fun r => s r ≠ r).filter fun r => s (swp i (s i) r) ≠ r) := by
              rw [List.filter_filter]
              refine List.filter_congr fun r _ => ?_
              by_cases hr : s (swp i (s i) r) = r
              · simp [hr]
              · simp [hr, key r hr]
            rw [sub]
            refine List.length_filter_lt_length_iff_exists.2 ⟨s i, by simp [hv, e], ?_⟩
            simp only [swp, if_neg hne, if_true]
            simp
          omega)
        rw [h2] at hw
        grind
/-- A row, as a sum of ones. -/
theorem row_sum {x : Nat → R} {c : Nat} (hc : c < n) : x c = sm n fun j => x j * one j c := by
  rw [sm_one hc fun i _ hi => by unfold one; rw [if_neg hi]; grind]
  unfold one; rw [if_pos rfl]; grind
theorem Alt.nil (h : Alt n F) (h1 : F one = 0) : ∀ A, F A = 0 := by
  have : ∀ m, m ≤ n → ∀ (A : Nat → Nat → R) (s : Nat → Nat), (∀ i, i < n → s i < n) → (∀ i, m ≤ i → i < n → ∀ c, c < n → A i c = one (s i) c) → F A = 0 := by
    intro m
    induction m with
    | zero =>
      intro _ A s hs hA
      rw [h.congr (B := fun i => one (s i)) fun i hi c hc => hA i (Nat.zero_le _) hi c hc]
      exact h.units h1 n s hs (by refine Nat.le_trans (List.length_filter_le _ _) ?_; simp)
    | succ m ih =>
      intro hm A s hs hA
      rw [h.congr (B := upd A m fun c => sm n fun j => A m j * one j c) fun i hi c hc => by
        unfold upd
        by_cases e : i = m
        · rw [if_pos e, e]; exact row_sum hc
        · rw [if_neg e], h.sum (by omega)]
      refine sm_zero fun j hj => ?_
      rw [ih (by omega) (upd A m (one j)) (fun r => if r = m then j else s r) (fun i hi => by split <;> first | exact hj | exact hs i hi) fun i h1 h2 c hc => by
        unfold upd
        by_cases e : i = m
        · simp only [if_pos e]
        · simp only [if_neg e]; exact hA i (by omega) h2 c hc]
      grind
  exact fun A => this n (Nat.le_refl _) A id (fun i hi => hi) fun i h1 h2 => absurd h1 (by omega)
theorem det_one : det n (one (R := R)) = 1 := by
  induction n with
  | zero => rfl
  | succ n ih =>
    rw [det, sm_one (k := n) (by omega) fun i hi hne => by unfold one; rw [if_neg hne]; grind]
    rw [det_congr (A := fun r => one (skip n r)) (B := one) fun i hi c hc => by unfold skip; rw [if_pos hi], ih]
    have : (sg (n + n) : R) = 1 := by unfold sg; rw [if_pos (by omega)]
    rw [this]; unfold one; rw [if_pos rfl]; grind
/-- What is linear and alternating is a multiple of the determinant. -/
theorem Alt.eq (h : Alt n F) (A : Nat → Nat → R) : F A = F one * det n A := by
  have h2 : Alt n (fun A => F A + - (F one) * det n A) := by
    refine ⟨fun hA => by rw [h.congr hA, det_congr hA], fun hk h0 h1 => by rw [h.lin hk h0 h1, det_lin hk h0 h1]; grind, fun hij hj hA => by rw [h.alt hij hj hA, det_eq hij hj hA]; grind⟩
  have := h2.nil (by rw [det_one]; grind) A
  grind
/-- Each row goes through one linear map. -/
def mapr (n : Nat) (L : Nat → Nat → R) (A : Nat → Nat → R) : Nat → Nat → R := fun i c => sm n fun j => A i j * L j c
theorem det_mul (L A : Nat → Nat → R) : det n (mapr n L A) = det n A * det n L := by
  have h : Alt n (fun A : Nat → Nat → R => det n (mapr n L A)) := by
    refine ⟨fun hA => det_congr fun i hi c hc => sm_congr fun j hj => by rw [hA i hi j hj], fun {A B C k a b} hk h0 h1 => det_lin hk (fun c hc => ?_) (fun i hi hne c hc => ?_), fun hij hj hA => det_eq hij hj fun c hc => sm_congr fun j hj => by rw [hA j hj]⟩
    · unfold mapr
      rw [← sm_mul, ← sm_mul, ← sm_add]
      refine sm_congr fun j hj => ?_
      rw [h0 j hj]; grind
    · exact ⟨sm_congr fun j hj => by rw [(h1 i hi hne j hj).1], sm_congr fun j hj => by rw [(h1 i hi hne j hj).2]⟩
  rw [h.eq A, det_congr (A := mapr n L one) (B := L) fun i hi c hc => ?_]
  · grind
  · unfold mapr
    rw [sm_one hi fun j _ hne => by unfold one; rw [if_neg (Ne.symm hne)]; grind]
    unfold one; rw [if_pos rfl]; grind
end
section
variable {n : Nat} {A B C : Nat → Nat → R}
theorem det_L {L : Nat → Nat → R} (h : ∀ i, i < n → ∀ c, c < n → (sm n fun j => A i j * L j c) = B i c) : det n B = det n A * det n L := by
  rw [← det_mul]; exact (det_congr h).symm
theorem det_cols {i j : Nat} (hij : i ≠ j) (hi : i < n) (hj : j < n) : det n (fun r c => A r (swp i j c)) = - det n A := by
  have hs : ∀ c, c < n → swp i j c < n := fun c hc => by unfold swp; split <;> (try split) <;> assumption
  rw [det_L (A := A) (L := fun r c => one r (swp i j c)) (B := fun r c => A r (swp i j c)) fun r hr c hc => by
    rw [sm_one (hs c hc) fun q _ hne => by unfold one; rw [if_neg hne]; grind]
    unfold one; rw [if_pos rfl]; grind]
  have h := (alt_det (R := R) (n := n)).swap hij hi hj one
  rw [det_one] at h
  rw [det_congr (A := fun r c => one r (swp i j c)) (B := fun r => one (swp i j r)) fun r _ c _ => by
    unfold one
    by_cases e : r = swp i j c
    · rw [if_pos e, if_pos (by rw [e, swp_swp])]
    · rw [if_neg e, if_neg fun h => e (by rw [← h, swp_swp])], h]
  grind
theorem det_coleq {c1 c2 : Nat} (hc : c1 < c2) (h2 : c2 < n) (h : ∀ i, i < n → A i c1 = A i c2) : det n A = 0 := by
  have e := det_L (A := A) (B := A) (L := fun r c => if c = c2 then one r c1 else one r c) fun i hi c hc => by
    by_cases e : c = c2
    · subst e; simp only [if_true]; rw [← h i hi]; exact (row_sum (by omega)).symm
    · simp only [if_neg e]; exact (row_sum hc).symm
  rw [(alt_det (R := R) (n := n)).zero (A := fun r c => if c = c2 then one r c1 else one r c) h2 fun c _ => by
    split
    · unfold one; rw [if_neg (by omega)]
    · unfold one; rw [if_neg (by omega)]] at e
  grind
theorem det_lin_col {k : Nat} {a b : R} (hk : k < n) (h0 : ∀ i, i < n → A i k = a * B i k + b * C i k) (h1 : ∀ i, i < n → ∀ c, c < n → c ≠ k → A i c = B i c ∧ A i c = C i c) : det n A = a * det n B + b * det n C := by
  induction n generalizing A B C k with
  | zero => omega
  | succ n ih =>
    rw [det, det, det, ← sm_mul, ← sm_mul, ← sm_add]
    refine sm_congr fun i hi => ?_
    by_cases e : k = n
    · subst e
      rw [h0 i hi, det_congr (A := fun r => A (skip i r)) (B := fun r => B (skip i r)) fun r hr c hc => (h1 _ (by unfold skip; split <;> omega) c (by omega) (by omega)).1,
        det_congr (A := fun r => C (skip i r)) (B := fun r => B (skip i r)) fun r hr c hc => by rw [← (h1 _ (by unfold skip; split <;> omega) c (by omega) (by omega)).1, ← (h1 _ (by unfold skip; split <;> omega) c (by omega) (by omega)).2]]
      grind
    · have e2 := h1 i hi n (by omega) (Ne.symm e)
      rw [ih (A := fun r => A (skip i r)) (B := fun r => B (skip i r)) (C := fun r => C (skip i r)) (k := k) (by omega) (fun r hr => h0 _ (by unfold skip; split <;> omega)) (fun r hr c hc hne => h1 _ (by unfold skip; split <;> omega) c (by omega) hne), e2.2]
      have e4 : B i n = C i n := e2.1.symm.trans e2.2
      rw [e4]; grind
theorem det_tr : det n (fun i c => A c i) = det n A := by
  have h : Alt n (fun A : Nat → Nat → R => det n (fun i c => A c i)) := ⟨fun hA => det_congr fun i hi c hc => hA c hc i hi, fun hk h0 h1 => det_lin_col hk (fun i hi => h0 i hi) fun i hi c hc hne => h1 c hc hne i hi, fun hij hj hA => det_coleq hij hj fun i hi => hA i hi⟩
  rw [h.eq A, det_congr (A := fun i c => one c i) (B := one) fun i _ c _ => by unfold one; simp only [eq_comm], det_one (R := R)]
  grind
/-- By the last row. -/
theorem det_row : det (n + 1) A = sm (n + 1) fun j => sg (j + n) * (A n j * det n fun r c => A r (skip j c)) := by
  rw [← det_tr, det]
  refine sm_congr fun j _ => ?_
  rw [← det_tr (A := fun r c => A r (skip j c))]
def pwr (p : R) : Nat → R
  | 0 => 1
  | m + 1 => pwr p m * p
end
/-- A number's bordered minor: the first k rows and row i, the first k columns and column j. -/
def bord (k i r : Nat) : Nat := if r < k then r else i
def D (k : Nat) (A : Nat → Nat → R) (i j : Nat) : R := det (k + 1) fun r c => A (bord k i r) (bord k j c)
/-- What the bordered minors add to column j of column c. -/
def cofc (k : Nat) (A : Nat → Nat → R) (c j : Nat) : R := sg (c + k) * det k fun r c' => A r (bord k j (skip c c'))
section
variable {n k i j : Nat} {A : Nat → Nat → R}
theorem D_col : D k A i j = (sm k fun c => A i c * cofc k A c j) + A i j * det k A := by
  unfold D
  rw [det_row, sm]
  congr 1
  · refine sm_congr fun c hc => ?_
    rw [show bord k i k = i by unfold bord; rw [if_neg (Nat.lt_irrefl _)], show bord k j c = c by unfold bord; rw [if_pos hc]]
    unfold cofc
    rw [det_congr (A := fun r c' => A (bord k i r) (bord k j (skip c c'))) (B := fun r c' => A r (bord k j (skip c c'))) fun r hr c' _ => by rw [show bord k i r = r by unfold bord; rw [if_pos hr]]]
    grind
  · rw [show bord k i k = i by unfold bord; rw [if_neg (Nat.lt_irrefl _)], show bord k j k = j by unfold bord; rw [if_neg (Nat.lt_irrefl _)]]
    rw [det_congr (A := fun r c' => A (bord k i r) (bord k j (skip k c'))) (B := A) fun r hr c' hc => by
      rw [show bord k i r = r by unfold bord; rw [if_pos hr], show skip k c' = c' by unfold skip; rw [if_pos hc], show bord k j c' = c' by unfold bord; rw [if_pos hc]]]
    rw [show (sg (k + k) : R) = 1 by unfold sg; rw [if_pos (by omega)]]
    grind
theorem D_tr : D k (fun i j => A j i) i j = D k A j i := by unfold D; exact det_tr (A := fun r c => A (bord k j r) (bord k i c))
theorem D_row0 (hi : i < k) : D k A i j = 0 := by
  unfold D
  refine det_eq (i := i) (j := k) hi (by omega) fun c _ => ?_
  rw [show bord k i i = i by unfold bord; rw [if_pos hi], show bord k i k = i by unfold bord; rw [if_neg (Nat.lt_irrefl _)]]
theorem D_col0 (hj : j < k) : D k A i j = 0 := by rw [← D_tr]; exact D_row0 hj
/-- The columns from the k-th on become bordered minors. -/
def Lk (k : Nat) (A : Nat → Nat → R) (j c : Nat) : R := if c < k then one j c else if j < k then cofc k A j c else if j = c then det k A else 0
theorem mapr_Lk {c : Nat} (hc : c < n) (hk : k ≤ n) : (sm n fun j => A i j * Lk k A j c) = if c < k then A i c else D k A i c := by
  by_cases h : c < k
  · rw [if_pos h, row_sum (x := A i) hc]
    exact sm_congr fun j _ => by unfold Lk; rw [if_pos h]
  · rw [if_neg h, D_col]
    have : ∀ m, k ≤ m → m ≤ n → (sm m fun j => A i j * Lk k A j c) = (sm k fun j => A i j * cofc k A j c) + if c < m then A i c * det k A else 0 := by
      intro m h1
      induction m with
      | zero => intro _; obtain rfl : k = 0 := by omega
                simp only [sm, Nat.not_lt_zero, if_false]; grind
      | succ m ih =>
        intro h2
        by_cases e : k = m + 1
        · subst e
          rw [if_neg h, sm_congr (g := fun j => A i j * cofc (m + 1) A j c) fun j hj => by unfold Lk; rw [if_neg h, if_pos hj]]
          grind
        · rw [sm, ih (by omega) (by omega)]
          unfold Lk
          rw [if_neg h, if_neg (show ¬ m < k by omega)]
          by_cases e2 : m = c
          · subst e2; rw [if_pos rfl, if_neg (Nat.lt_irrefl _), if_pos (Nat.lt_succ_self _)]; grind
          · rw [if_neg e2]
            by_cases e3 : c < m
            · rw [if_pos e3, if_pos (by omega)]; grind
            · rw [if_neg e3, if_neg (by omega)]; grind
    rw [this n hk (Nat.le_refl _), if_pos hc]
theorem det_Lk {m : Nat} : det (k + m) (Lk k A) = pwr (det k A) m := by
  induction m with
  | zero =>
    rw [Nat.add_zero, det_congr (B := one) fun i hi c hc => by unfold Lk; rw [if_pos hc]]; exact det_one
  | succ m ih =>
    rw [show k + (m + 1) = (k + m) + 1 from rfl, det_row, sm_one (k := k + m) (by omega) fun c hc hne => by
      unfold Lk
      by_cases e : c < k
      · rw [if_pos e]; unfold one; rw [if_neg (by omega)]; grind
      · rw [if_neg e, if_neg (by omega), if_neg (by omega)]; grind]
    rw [det_congr (A := fun r c => Lk k A r (skip (k + m) c)) (B := Lk k A) fun r _ c hc => by rw [show skip (k + m) c = c by unfold skip; rw [if_pos hc]], ih]
    rw [show (sg (k + m + (k + m)) : R) = 1 by unfold sg; rw [if_pos (by omega)]]
    unfold Lk
    rw [if_neg (by omega), if_neg (by omega), if_pos rfl, pwr]
    grind
/-- One step without fractions: two minors' products, and the minor that both share. -/
theorem step0 (hd : ∀ x y : R, x * y = 0 → x = 0 ∨ y = 0) (hp : det k A ≠ 0) : det k A * det (k + 2) A = D k A k k * D k A (k + 1) (k + 1) - D k A (k + 1) k * D k A k (k + 1) := by
  have e := det_L (n := k + 2) (A := A) (B := fun i c => if c < k then A i c else D k A i c) (L := Lk k A) fun i _ c hc => mapr_Lk hc (by omega)
  rw [det_Lk] at e
  simp only [pwr] at e
  rw [det, sm_two (k := k) (l := k + 1) (by omega) (by omega) (fun i hi h1 h2 => by
    rw [if_neg (by omega), D_row0 (by omega)]; grind)] at e
  rw [det, sm_one (k := k) (by omega) fun i hi h1 => by
    rw [if_neg (by omega), show skip k i = i by unfold skip; rw [if_pos (by omega)], D_row0 (by omega)]; grind] at e
  rw [det, sm_one (k := k) (by omega) fun i hi h1 => by
    rw [if_neg (by omega), show skip (k + 1) i = i by unfold skip; rw [if_pos (by omega)], D_row0 (by omega)]; grind] at e
  simp only [Nat.lt_irrefl, if_false, show ¬ k + 1 < k by omega, show skip k k = k + 1 by unfold skip; rw [if_neg (Nat.lt_irrefl _)], show skip (k + 1) k = k by unfold skip; rw [if_pos (by omega)]] at e
  rw [det_congr (A := fun r c => if c < k then A (skip k (skip k r)) c else D k A (skip k (skip k r)) c) (B := A) fun r hr c hc => by
    rw [if_pos hc, show skip k r = r by unfold skip; rw [if_pos hr], show skip k r = r by unfold skip; rw [if_pos hr]],
    det_congr (A := fun r c => if c < k then A (skip (k + 1) (skip k r)) c else D k A (skip (k + 1) (skip k r)) c) (B := A) fun r hr c hc => by
    rw [if_pos hc, show skip k r = r by unfold skip; rw [if_pos hr], show skip (k + 1) r = r by unfold skip; rw [if_pos (by omega)]]] at e
  rw [show (sg (k + (k + 1)) : R) = -1 by unfold sg; rw [if_neg (by omega)], show (sg (k + k) : R) = 1 by unfold sg; rw [if_pos (by omega)], show (sg (k + 1 + (k + 1)) : R) = 1 by unfold sg; rw [if_pos (by omega)]] at e
  have h : det k A * (det k A * det (k + 2) A - (D k A k k * D k A (k + 1) (k + 1) - D k A (k + 1) k * D k A k (k + 1))) = 0 := by grind
  rcases hd _ _ h with h | h
  · exact absurd h hp
  · grind
theorem D_bord {k m i j u v : Nat} {A : Nat → Nat → R} (hk : k ≤ m) : D k (fun r c => A (bord m i r) (bord m j c)) u v = D k A (bord m i u) (bord m j v) := by
  unfold D
  refine det_congr fun r _ c _ => ?_
  have : ∀ i u r, bord m i (bord k u r) = bord k (bord m i u) r := fun i u r => by unfold bord; split <;> (try split) <;> (try split) <;> (first | rfl | omega)
  show A (bord m i (bord k u r)) (bord m j (bord k v c)) = _
  rw [this, this]
theorem det_bord {k m i j : Nat} {A : Nat → Nat → R} (hk : k ≤ m) : det k (fun r c => A (bord m i r) (bord m j c)) = det k A := det_congr fun r hr c hc => by
  rw [show bord m i r = r by unfold bord; rw [if_pos (by omega)], show bord m j c = c by unfold bord; rw [if_pos (by omega)]]
theorem step (hd : ∀ x y : R, x * y = 0 → x = 0 ∨ y = 0) (hp : det k A ≠ 0) : det k A * D (k + 1) A i j = D k A k k * D k A i j - D k A i k * D k A k j := by
  have h := step0 hd (k := k) (A := fun r c => A (bord (k + 1) i r) (bord (k + 1) j c)) (by rw [det_bord (by omega)]; exact hp)
  rw [det_bord (by omega), D_bord (by omega), D_bord (by omega), D_bord (by omega), D_bord (by omega)] at h
  rw [show bord (k + 1) i k = k by unfold bord; rw [if_pos (by omega)], show bord (k + 1) j k = k by unfold bord; rw [if_pos (by omega)], show bord (k + 1) i (k + 1) = i by unfold bord; rw [if_neg (by omega)], show bord (k + 1) j (k + 1) = j by unfold bord; rw [if_neg (by omega)]] at h
  exact h
theorem D_diag : D k A k k = det (k + 1) A := by
  unfold D
  refine det_congr fun r hr c hc => ?_
  have : ∀ r, r < k + 1 → bord k k r = r := fun r hr => by unfold bord; split <;> omega
  rw [this r hr, this c hc]
theorem D_0 : D 0 A i j = A i j := by rw [D_col]; simp only [sm, det]; grind
end
theorem sm_ext {r m : Nat} {f : Nat → R} (hr : r ≤ m) (h : ∀ i, r ≤ i → i < m → f i = 0) : sm m f = sm r f := by
  induction m with
  | zero => obtain rfl : r = 0 := by omega
            rfl
  | succ m ih =>
    by_cases e : r = m + 1
    · subst e; rfl
    · rw [sm, ih (by omega) fun i h1 h2 => h i h1 (by omega), h m (by omega) (by omega)]; grind
theorem det_scale {n : Nat} {p : R} {A : Nat → Nat → R} : det n (fun i j => p * A i j) = pwr p n * det n A := by
  induction n generalizing A with
  | zero => simp only [det, pwr]; grind
  | succ n ih =>
    rw [det, det, ← sm_mul]
    refine sm_congr fun i _ => ?_
    rw [ih (A := fun r => A (skip i r)), pwr]
    grind
theorem pwr_ne (hd : ∀ x y : R, x * y = 0 → x = 0 ∨ y = 0) (h1 : (1 : R) ≠ 0) {p : R} (hp : p ≠ 0) : ∀ n, pwr p n ≠ 0
  | 0 => h1
  | n + 1 => fun h => (hd _ _ h).elim (pwr_ne hd h1 hp n) hp
/-- The rank of the first h rows' and w columns' part: a minor of r rows that is not 0, and all rows are sums of these (times one number). -/
def Rk (h w : Nat) (A : Nat → Nat → R) (r : Nat) : Prop :=
  ∃ f g : Nat → Nat, (∀ i, i < r → f i < h ∧ g i < w) ∧ det r (fun i j => A (f i) (g j)) ≠ 0 ∧ ∃ (C : Nat → Nat → R) (p : R), p ≠ 0 ∧ ∀ i, i < h → ∀ j, j < w → p * A i j = sm r fun c => C i c * A (f c) j
section
variable {h w r s k : Nat} {A A0 : Nat → Nat → R}
theorem Rk.le (hd : ∀ x y : R, x * y = 0 → x = 0 ∨ y = 0) (h1 : (1 : R) ≠ 0) (hr : Rk h w A r) (hs : Rk h w A s) : s ≤ r := by
  refine Nat.le_of_not_lt fun hlt => ?_
  obtain ⟨f, g, hfg, _, C, p, hp, hC⟩ := hr
  obtain ⟨f', g', hfg', hne, _⟩ := hs
  have e := det_mul (n := s) (fun c j => if c < r then A (f c) (g' j) else 0) (fun i c => if c < r then C (f' i) c else 0)
  rw [(alt_det (R := R) (n := s)).zero (A := fun c j => if c < r then A (f c) (g' j) else 0) (k := r) hlt (fun c _ => if_neg (Nat.lt_irrefl _)),
    det_congr (A := mapr s _ _) (B := fun i j => p * A (f' i) (g' j)) fun i hi j hj => by
      unfold mapr
      rw [hC _ (hfg' i hi).1 _ (hfg' j hj).2, sm_ext (r := r) (by omega) fun c hc _ => by simp only [if_neg (show ¬ c < r by omega)]; grind]
      exact sm_congr fun c hc => by simp only [if_pos hc],
    det_scale] at e
  have : pwr p s * det s (fun i j => A (f' i) (g' j)) = 0 := by rw [e]; grind
  exact (hd _ _ this).elim (pwr_ne hd h1 hp s) hne
theorem Rk.eq (hd : ∀ x y : R, x * y = 0 → x = 0 ∨ y = 0) (h1 : (1 : R) ≠ 0) (hr : Rk h w A r) (hs : Rk h w A s) : r = s := Nat.le_antisymm (Rk.le hd h1 hs hr) (Rk.le hd h1 hr hs)
theorem Rk.perm {u u' v v' : Nat → Nat} (hA : ∀ i, i < h → ∀ j, j < w → A i j = A0 (u i) (v j)) (hu : ∀ i, i < h → u i < h ∧ u' i < h ∧ u (u' i) = i) (hv : ∀ i, i < w → v i < w ∧ v' i < w ∧ v (v' i) = i) (hr : Rk h w A r) : Rk h w A0 r := by
  obtain ⟨f, g, hfg, hne, C, p, hp, hC⟩ := hr
  refine ⟨fun i => u (f i), fun i => v (g i), fun i hi => ⟨(hu _ (hfg i hi).1).1, (hv _ (hfg i hi).2).1⟩, ?_, fun i c => C (u' i) c, p, hp, fun i hi j hj => ?_⟩
  · rw [det_congr (B := fun i j => A (f i) (g j)) fun i hi j hj => (hA _ (hfg i hi).1 _ (hfg j hj).2).symm]; exact hne
  · have h2 := hA (u' i) (hu i hi).2.1 (v' j) (hv j hj).2.1
    rw [(hu i hi).2.2, (hv j hj).2.2] at h2
    rw [← h2, hC _ (hu i hi).2.1 _ (hv j hj).2.1]
    refine sm_congr fun c hc => ?_
    rw [hA _ (hfg c hc).1 _ (hv j hj).2.1, (hv j hj).2.2]
theorem rk_full {n : Nat} (h1 : (1 : R) ≠ 0) (h0 : det n A ≠ 0) : Rk n n A n :=
  ⟨id, id, fun i hi => ⟨hi, hi⟩, h0, one, 1, h1, fun i hi j _ => by
    rw [sm_one hi fun c _ hne => by unfold one; rw [if_neg (Ne.symm hne)]; grind]
    unfold one; rw [if_pos rfl]; rfl⟩
theorem Rk.det0 {n : Nat} (hd : ∀ x y : R, x * y = 0 → x = 0 ∨ y = 0) (h1 : (1 : R) ≠ 0) (hr : Rk n n A r) (hlt : r < n) : det n A = 0 := Classical.byContradiction fun h => by
  have := hr.eq hd h1 (rk_full h1 h)
  omega
/-- All bordered minors are 0: that is the rank. -/
theorem rk_of (hr : k ≤ h) (hw : k ≤ w) (h0 : det k A ≠ 0) (hD : ∀ i, i < h → ∀ j, j < w → D k A i j = 0) : Rk h w A k :=
  ⟨id, id, fun i hi => ⟨by simp only [id]; omega, by simp only [id]; omega⟩, h0, fun i c => - cofc k (fun i j => A j i) c i, det k A, h0, fun i hi j hj => by
    have h2 := hD i hi j hj
    rw [← D_tr, D_col, det_tr] at h2
    have h3 : (sm k fun c => - cofc k (fun i j => A j i) c i * A (id c) j) = (-1 : R) * sm k fun c => A c j * cofc k (fun i j => A j i) c i := by
      rw [← sm_mul]; exact sm_congr fun c _ => by simp only [id]; grind
    rw [h3]; grind⟩
variable {g : Nat → Nat} {i j : Nat}
end
end Dt
def negP (p : Int × Int) : Int × Int := (-p.1, -p.2)
def powP (p : Int × Int) : Nat → Int × Int
  | 0 => (1, 0)
  | n + 1 => mP (powP p n) p
instance gring : Lean.Grind.CommRing (Int × Int) where
  add := aP
  mul := mP
  natCast := ⟨fun n => ((n : Int), 0)⟩
  ofNat n := ⟨((n : Int), 0)⟩
  nsmul := ⟨fun n p => mP ((n : Int), 0) p⟩
  npow := ⟨powP⟩
  neg := negP
  sub := sP
  intCast := ⟨fun n => (n, 0)⟩
  zsmul := ⟨fun n p => mP (n, 0) p⟩
  add_zero a := by show aP a (((0 : Nat) : Int), 0) = a; simp [aP]
  add_comm a b := by show aP a b = aP b a; simp only [aP, Prod.mk.injEq]; grind
  add_assoc a b c := by show aP (aP a b) c = aP a (aP b c); simp only [aP, Prod.mk.injEq]; grind
  mul_assoc a b c := by show mP (mP a b) c = mP a (mP b c); simp only [mP, Prod.mk.injEq]; grind
  mul_one a := by show mP a (((1 : Nat) : Int), 0) = a; simp [mP]
  one_mul a := by show mP (((1 : Nat) : Int), 0) a = a; simp [mP]
  left_distrib a b c := by show mP a (aP b c) = aP (mP a b) (mP a c); simp only [aP, mP, Prod.mk.injEq]; grind
  right_distrib a b c := by show mP (aP a b) c = aP (mP a c) (mP b c); simp only [aP, mP, Prod.mk.injEq]; grind
  zero_mul a := by show mP (((0 : Nat) : Int), 0) a = (((0 : Nat) : Int), 0); simp [mP]
  mul_zero a := by show mP a (((0 : Nat) : Int), 0) = (((0 : Nat) : Int), 0); simp [mP]
  pow_zero a := rfl
  pow_succ a n := rfl
  ofNat_succ n := by show (((n + 1 : Nat) : Int), (0 : Int)) = aP ((n : Int), 0) (((1 : Nat) : Int), 0); simp [aP]
  ofNat_eq_natCast n := rfl
  nsmul_eq_natCast_mul n a := rfl
  neg_add_cancel a := by show aP (negP a) a = (((0 : Nat) : Int), 0); simp only [aP, negP, Prod.mk.injEq]; grind
  sub_eq_add_neg a b := by show sP a b = aP a (negP b); simp only [aP, negP, sP, Prod.mk.injEq]; grind
  neg_zsmul i a := by show mP (-i, 0) a = negP (mP (i, 0) a); simp only [mP, negP, Prod.mk.injEq]; grind
  zsmul_natCast_eq_nsmul n a := rfl
  intCast_ofNat n := rfl
  intCast_neg i := by show ((-i, 0) : Int × Int) = negP (i, 0); simp [negP]
  mul_comm a b := by show mP a b = mP b a; simp only [mP, Prod.mk.injEq]; grind
theorem aP_eq (p q : Int × Int) : aP p q = p + q := rfl
theorem mP_eq (p q : Int × Int) : mP p q = p * q := rfl
theorem noz (x y : Int × Int) (h : x * y = 0) : x = 0 ∨ y = 0 := by
  have h1 : x.1 * y.1 - x.2 * y.2 = 0 := congrArg Prod.fst h
  have h2 : x.1 * y.2 + x.2 * y.1 = 0 := congrArg Prod.snd h
  have h3 : (x.1 * x.1 + x.2 * x.2) * (y.1 * y.1 + y.2 * y.2) = 0 := by grind
  have hs : ∀ a b : Int, a * a + b * b = 0 → a = 0 ∧ b = 0 := fun a b h => by
    have ha : 0 ≤ a * a := by rcases Int.le_total 0 a with h | h; exact Int.mul_nonneg h h; exact Int.mul_nonneg_of_nonpos_of_nonpos h h
    have hb : 0 ≤ b * b := by rcases Int.le_total 0 b with h | h; exact Int.mul_nonneg h h; exact Int.mul_nonneg_of_nonpos_of_nonpos h h
    constructor
    · have : a * a = 0 := by omega
      rcases Int.mul_eq_zero.1 this with h | h <;> exact h
    · have : b * b = 0 := by omega
      rcases Int.mul_eq_zero.1 this with h | h <;> exact h
  rcases Int.mul_eq_zero.1 h3 with h | h
  · exact .inl (Prod.ext (hs _ _ h).1 (hs _ _ h).2)
  · exact .inr (Prod.ext (hs _ _ h).1 (hs _ _ h).2)
section
variable {w : World} {l m k n na ca : Nat} {oa : Option Addr} {A : List (List (Int × Int))} {va vb : Value} {x y u v : Int}
set_option maxHeartbeats 4000000 in
set_option maxRecDepth 20000 in
theorem isSquare_bad (ha : MN l w oa A) (hna : A.length = na) (h : ¬ gd A) (hla : na ≤ 1000000000) :
    Calls Tryz.prog 19 #[.slice oa na ca] w fun e w' => e = .returned (.bool false) ∧ Below w.heap.size w w' := by
  have HA := hide ha
  have H := hide h
  clear ha h
  go_enter Tryz.func19, Tryz.ntmps19
  have hs := St.nil w
  refine wp_seq_k ?_
  intro K1 hK1
  refine rg [0] ?_
  refine sq ?_
  refine .mv ?_
  apply wpSq_end
  refine hK1 _ _ ?_
  refine wp_seq_k ?_
  intro K2 hK2
  refine rg [0, 1, 2, 3, 4, 5, 6, 7, 8] ?_
  refine sq ?_
  refine .mv ?_
  refine sq ?_
  intro K hK
  have hb := hs.b
  go_big_op
  go_fit (mSize_bad (HA.out.bl stab_n hb) hna H.out hla)
  rintro e w_1 ⟨rfl, hb_1⟩
  clear hb
  replace hs := hs.bl hb_1
  refine hK _ _ rfl trivial ?_
  clear hK K
  refine sq ?_
  refine .mv ?_
  refine sq ?_
  refine .r0 ?_
  refine sq ?_
  refine .r0 ?_
  refine sq ?_
  refine .r0 ?_
  refine sq ?_
  refine .mv ?_
  refine sq ?_
  refine .mv ?_
  refine sq ?_
  refine .mv ?_
  apply wpSq_end
  refine hK2 _ _ ?_
  refine wp_seq_k ?_
  intro K3 hK3
  refine rg [0, 1, 2, 3, 4, 5, 6, 7] ?_
  refine sq ?_
  refine .mv ?_
  refine sq ?_
  refine .r0 ?_
  refine sq ?_
  refine .mv ?_
  refine sk ?_
  refine sk ?_
  refine sk ?_
  refine sq ?_
  refine .r0 ?_
  refine sq ?_
  refine .mv ?_
  apply wpSq_end
  refine hK3 _ _ ?_
  refine wp_ret ?_
  try dsimp only [Exit.then, Exit.inBlock]
  refine bodyPost_ret (v := (.bool false)) (by simp [results, Tryz.results19, go_sem]) rfl ?_
  exact ⟨rfl, hs.b⟩
set_option maxHeartbeats 4000000 in
set_option maxRecDepth 20000 in
theorem isSquare_ok (ha : MN l w oa A) (hna : A.length = na) (h : gd A) (hk : wd A = k) :
    Calls Tryz.prog 19 #[.slice oa na ca] w fun e w' => e = .returned (.bool (decide (na = k))) ∧ Below w.heap.size w w' := by
  have HA := hide ha
  have H := hide h
  have HK := hide hk
  have E := hide (show ((na : Int) == (k : Int)) = decide (na = k) by by_cases h : na = k <;> simp [h]; omega)
  clear ha h hk
  go_enter Tryz.func19, Tryz.ntmps19
  have hs := St.nil w
  refine wp_seq_k ?_
  intro K1 hK1
  refine rg [0] ?_
  refine sq ?_
  refine .mv ?_
  apply wpSq_end
  refine hK1 _ _ ?_
  refine wp_seq_k ?_
  intro K2 hK2
  refine rg [0, 1, 2, 3, 4, 5, 6, 7, 8] ?_
  refine sq ?_
  refine .mv ?_
  refine sq ?_
  intro K hK
  have hb := hs.b
  go_big_op
  go_fit (mSize_ok (HA.out.bl stab_n hb) hna H.out HK.out)
  rintro e w_1 ⟨rfl, hb_1⟩
  clear hb
  replace hs := hs.bl hb_1
  refine hK _ _ rfl trivial ?_
  clear hK K
  refine sq ?_
  refine .mv ?_
  refine sq ?_
  refine .r0 ?_
  refine sq ?_
  refine .r0 ?_
  refine sq ?_
  refine .r0 ?_
  refine sq ?_
  refine .mv ?_
  refine sq ?_
  refine .mv ?_
  refine sq ?_
  refine .mv ?_
  apply wpSq_end
  refine hK2 _ _ ?_
  refine wp_seq_k ?_
  intro K3 hK3
  refine rg [0, 1, 2, 3, 4, 5, 6, 7] ?_
  refine sq ?_
  refine .mv ?_
  refine sq ?_
  refine .r0 ?_
  refine sq ?_
  refine .mv ?_
  refine sq ?_
  refine .mv ?_
  refine sq ?_
  refine .mv ?_
  refine sq ?_
  refine .r0 ?_
  refine sq ?_
  refine .r0 ?_
  refine sq ?_
  refine .mv ?_
  apply wpSq_end
  refine hK3 _ _ ?_
  refine wp_ret ?_
  try dsimp only [Exit.then, Exit.inBlock]
  refine bodyPost_ret (v := (.bool ((na : Int) == (k : Int)))) (by simp [results, Tryz.results19, go_sem]) rfl ?_
  exact ⟨by rw [E.out], hs.b⟩
set_option maxHeartbeats 4000000 in
set_option maxRecDepth 20000 in
theorem isZero_any (ha : PN w va x l y m) (hl : l ≤ 100000000) (hm : m ≤ 100000000) :
    Calls Tryz.prog 31 #[va] w fun e w' => e = .returned (.bool (decide (x = 0 ∧ y = 0))) ∧ Below w.heap.size w w' := by
  obtain ⟨B, hB⟩ : ∃ B, decide (x = 0 ∧ y = 0) = B := ⟨_, rfl⟩
  rw [hB]
  have HB := hide hB
  clear hB
  obtain ⟨n_0a, o_0a, k_0a, c_0a, n_0b, o_0b, k_0b, c_0b, rfl, ha1, ha2⟩ := ha
  go_enter Tryz.func31, Tryz.ntmps31
  have hs := St.nil w
  refine wp_seq_k ?_
  intro K1 hK1
  refine rg [0, 1] ?_
  refine sq ?_
  refine .al hs ?_; clear hs; intro p_b1 w_1 hs n1 kb_b1
  refine sq ?_
  refine .mv ?_
  apply wpSq_end
  refine hK1 _ _ ?_
  refine wp_seq_k ?_
  intro K2 hK2
  refine rg [0, 1, 2, 3] ?_
  refine sq ?_
  refine .r4 hs.g0.f4 ?_
  refine sq ?_
  refine .r0 ?_
  refine sq ?_
  intro K hK
  have k0_1 := kb n1
  replace ha1 := ha1.k k0_1
  replace ha2 := ha2.k k0_1
  go_big_op
  go_fit (gEqual_any (PN.mk' ha1 ha2) (PN.mk' ((zc_zero w_1).zn zlen_0) ((zc_zero w_1).zn zlen_0)) (by omega) (by omega) (by omega) (by omega) )
  rintro e w_2 ⟨rfl, hb_2⟩
  replace hs := hs.bl hb_2
  rw [HB.out]
  refine hK _ _ rfl trivial ?_
  clear hK K
  refine sq ?_
  refine .mv ?_
  apply wpSq_end
  refine hK2 _ _ ?_
  refine wp_ret ?_
  try dsimp only [Exit.then, Exit.inBlock]
  refine bodyPost_ret (v := (.bool B)) (by simp [results, Tryz.results31, go_sem]) rfl ?_
  exact ⟨rfl, hs.b⟩
set_option maxHeartbeats 4000000 in
set_option maxRecDepth 20000 in
theorem overWhole1 {p : Nat} {q1 : Bool} {q2 : Option Addr} {q3 q4 : Nat} (xq : Bs w p #[.bool q1, .slice q2 q3 q4] 24) (hq : ZN w (.agg #[.bool q1, .slice q2 q3 q4]) u k) (ha : PN w va (u * x) l (u * y) m) (hl : l ≤ 100000000) (hm : m ≤ 100000000) (hk : k ≤ 100000000) (h0 : u ≠ 0) :
    Calls Tryz.prog 68 (#[va] ++ #[.pointer (some ⟨p, 0, none⟩)]) w fun e w' => ∃ r, e = .returned r ∧ PC w' r x y ∧ Below w.heap.size w w' := by
  show Calls _ _ #[va, .pointer (some ⟨p, 0, none⟩)] w _
  have H0 := hide h0
  have E1 := hide (show (u * x).fmod u = 0 from Int.mul_fmod_right ..)
  have E2 := hide (show (u * y).fmod u = 0 from Int.mul_fmod_right ..)
  have E3 := hide (show (u * x).fdiv u = x from Int.mul_fdiv_cancel_left _ h0)
  have E4 := hide (show (u * y).fdiv u = y from Int.mul_fdiv_cancel_left _ h0)
  clear h0
  generalize u * x = a at *
  generalize u * y = b at *
  obtain ⟨n_0a, o_0a, k_0a, c_0a, n_0b, o_0b, k_0b, c_0b, rfl, ha1, ha2⟩ := ha
  go_enter Tryz.func68, Tryz.ntmps68
  have hs := St.nil w
  have lt_bq := xq.lt
  have xqz := xq
  refine wp_seq_k ?_
  intro K1 hK1
  refine rg [0, 1] ?_
  refine sq ?_
  refine .al hs ?_; clear hs; intro p_b1 w_1 hs n1 kb_b1
  replace xq := xq.bl n1
  refine sq ?_
  refine .al hs ?_; clear hs; intro p_b2 w_2 hs n2 kb_b2
  replace xq := xq.bl n2
  apply wpSq_end
  refine hK1 _ _ ?_
  refine wp_seq_k ?_
  intro K2 hK2
  refine rg [0, 1, 2, 3, 4, 5, 6, 7, 8, 9] ?_
  refine sq ?_
  refine .r0 ?_
  refine sq ?_
  refine .r4 hs.g1.f4 ?_
  refine sq ?_
  refine .r2 xq.f2 ?_
  refine sq ?_
  intro K hK
  have k0_2 := (kb n1).b n2
  replace ha1 := ha1.k k0_2
  replace hq := hq.k k0_2
  go_big_op
  go_fit (exact_any ha1 hq (by omega) (by omega) H0.out E1.out)
  rintro e w_3 ⟨v_g1, rfl, g1, hb_3⟩
  replace xq := xq.bl hb_3; replace hs := hs.bl hb_3
  replace g1 := g1.rd
  obtain ⟨n_g1, o_g1, k_g1, c_g1, rfl⟩ := g1.open2
  have Lg1 := hide (g1.lenOf (fdiv_len (H0.out) (ha1.len)))
  rw [E3.out] at g1
  refine hK _ _ rfl trivial ?_
  clear hK K
  refine sq ?_
  refine .mv ?_
  refine sq ?_
  refine .r0 ?_
  refine sq ?_
  refine .r0 ?_
  refine sq ?_
  refine .al hs ?_; clear hs; intro p_b3 w_4 hs n4 kb_b3
  replace xq := xq.bl n4
  refine sq ?_
  refine .s2 hs.g0 (fun _ => hs.u0 kb_b3) ?_; clear hs; intro w_5 hs hd5 ho5
  replace xq := xq.frame ho5 (Nat.ne_of_lt (Nat.lt_of_lt_of_le lt_bq kb_b3))
  refine sq ?_
  refine .mv ?_
  apply wpSq_end
  refine hK2 _ _ ?_
  refine wp_seq_k ?_
  intro K3 hK3
  refine rg [0, 1, 2, 3, 4, 5, 6, 7, 8, 9] ?_
  refine sq ?_
  refine .r0 ?_
  refine sq ?_
  refine .r4 hs.g2.f4 ?_
  refine sq ?_
  refine .r2 xq.f2 ?_
  refine sq ?_
  intro K hK
  have k0_5 := ((k0_2.b hb_3).b n4).o hd5 ho5
  replace ha2 := ha2.k k0_5
  have k2_5 := ((kb hb_3).b n4).o hd5 ho5
  replace hq := hq.k k2_5
  go_big_op
  go_fit (exact_any ha2 hq (by omega) (by omega) H0.out E2.out)
  rintro e w_6 ⟨v_g2, rfl, g2, hb_6⟩
  replace hs := hs.bl hb_6
  replace g2 := g2.rd
  obtain ⟨n_g2, o_g2, k_g2, c_g2, rfl⟩ := g2.open2
  have Lg2 := hide (g2.lenOf (fdiv_len (H0.out) (ha2.len)))
  rw [E4.out] at g2
  refine hK _ _ rfl trivial ?_
  clear hK K
  refine sq ?_
  refine .mv ?_
  refine sq ?_
  refine .r0 ?_
  refine sq ?_
  refine .r0 ?_
  refine sq ?_
  refine .al hs ?_; clear hs; intro p_b4 w_7 hs n7 kb_b4
  refine sq ?_
  refine .s2 hs.g0 (fun _ => hs.u0 kb_b4) ?_; clear hs; intro w_8 hs hd8 ho8
  refine sq ?_
  refine .mv ?_
  apply wpSq_end
  refine hK3 _ _ ?_
  refine wp_seq_k ?_
  intro K4 hK4
  refine rg [0, 1, 2, 3] ?_
  refine sq ?_
  refine .r2 hs.g1.f2 ?_
  refine sq ?_
  refine .r2 hs.g0.f2 ?_
  refine sq ?_
  refine .r0 ?_
  refine sq ?_
  refine .s4 hs.g2 (fun _ => hs.u2 kb_b2) ?_; clear hs; intro w_9 hs hd9 ho9
  apply wpSq_end
  refine hK4 _ _ ?_
  refine wp_ret ?_
  try dsimp only [Exit.then, Exit.inBlock]
  obtain ⟨r0_0, r0_1, r0_2, r0_3⟩ := hs.g2.f4
  refine bodyPost_ret (v := (.agg #[.bool n_g1, .slice o_g1 k_g1 c_g1, .bool n_g2, .slice o_g2 k_g2 c_g2])) (by simp [results, Tryz.results68, go_sem, r0_0, r0_1, r0_2, r0_3]) rfl ?_
  have k3_9 := (((((kb n4).o hd5 ho5).b hb_6).b n7).o hd8 ho8).o hd9 ho9
  replace g1 := g1.k k3_9
  have k6_9 := ((kb n7).o hd8 ho8).o hd9 ho9
  replace g2 := g2.k k6_9
  exact ⟨_, rfl, .mk' g1 g2, hs.b⟩
end
theorem Bs.ty {w : World} {p : Nat} {cs ds : Array Value} {ty t2 : TypeId} {fz f2 : Nat × Nat} (h : Bs w p cs ty fz) (h2 : Bs w p ds t2 f2) : ty = t2 := by
  have e1 : w.heap[p]? = _ := h
  have e2 : w.heap[p]? = _ := h2
  rw [e1] at e2
  simp only [Option.some.injEq, Obj.cells.injEq] at e2
  exact e2.2.1
/-- A block that lies apart, by its type and its age, joins the state. -/
theorem St.adopt2 {w0 w : World} {bs : List En} {p q r n : Nat} {cs ds es : Array Value} {ty t2 t3 : TypeId} (hs : St w0 (bx q ds t2 :: bx r es t3 :: bs) w) (x : Bs w p cs ty) (h2 : ty ≠ t2) (h3 : ty ≠ t3) (hl : ∀ f ∈ bs.map (·.1), ∀ k, f = some k → k < n) (hn : n ≤ p) :
    St w0 (bx p cs ty :: bx q ds t2 :: bx r es t3 :: bs) w := by
  refine St.cons (.bx x) (fun f hf k hk hc => ?_) hs
  obtain rfl : p = k := Option.some.inj hk
  rcases List.mem_cons.1 hf with rfl | hf
  · obtain rfl : q = p := Option.some.inj hc
    exact h2 (x.ty hs.1.1.1)
  · rcases List.mem_cons.1 hf with rfl | hf
    · obtain rfl : r = p := Option.some.inj hc
      exact h3 (x.ty hs.1.2.1.1)
    · have := hl f hf p hc
      omega
/-- Digits lie as they lay: carried along. -/
structure KpF (w W : World) : Prop where
  kp : Kp w W
theorem KpF.k {w W W' : World} (h : KpF w W) (k : Kp W W') : KpF w W' := ⟨h.kp.t k⟩
theorem KpF.r (w : World) : KpF w w := ⟨kb (Below.refl w.heap.size w)⟩
/-- A closure that divides by q without a rest: the identity (q = 1), or overNumber's. -/
def DivF (w : World) (f : Nat) (caps : Array Value) (ds : List En) (q : Int × Int) : Prop :=
  (f = 74 ∧ caps = #[] ∧ ds = [] ∧ q = (1, 0)) ∨
  (f = 79 ∧ ∃ pa pb pc n1 o1 k1 c1 n2 o2 k2 c2 n3 o3 k3 c3, caps = #[.pointer (some ⟨pb, 0, none⟩), .pointer (some ⟨pa, 0, none⟩)] ∧
    ds = [bx pb #[.func (.func 68) #[] #[.pointer (some ⟨pc, 0, none⟩)]] 61, bx pa #[.bool n1, .slice o1 k1 c1, .bool n2, .slice o2 k2 c2] 26, bx pc #[.bool n3, .slice o3 k3 c3] 24] ∧
    ZN w (.agg #[.bool n1, .slice o1 k1 c1]) q.1 10000000 ∧ ZN w (.agg #[.bool n2, .slice o2 k2 c2]) (-q.2) 10000000 ∧ ZN w (.agg #[.bool n3, .slice o3 k3 c3]) (gN q.1 q.2) 50000000 ∧ gN q.1 q.2 ≠ 0)
theorem DivF.k {w w' : World} {f : Nat} {caps : Array Value} {ds : List En} {q : Int × Int} (h : DivF w f caps ds q) (k : Kp w w') : DivF w' f caps ds q := by
  rcases h with h | ⟨h1, pa, pb, pc, n1, o1, k1, c1, n2, o2, k2, c2, n3, o3, k3, c3, h2, h3, h4, h5, h6, h7⟩
  · exact .inl h
  · exact .inr ⟨h1, pa, pb, pc, n1, o1, k1, c1, n2, o2, k2, c2, n3, o3, k3, c3, h2, h3, h4.k k, h5.k k, h6.k k, h7⟩
theorem conj_mul {q z : Int × Int} : mP (mP q z) (q.1, -q.2) = (gN q.1 q.2 * z.1, gN q.1 q.2 * z.2) := by
  unfold mP gN
  exact Prod.ext (by simp only []; grind) (by simp only []; grind)
section
variable {w w0 : World} {l m k n : Nat} {va vq : Value} {x y u v : Int} {bs : List En}
set_option maxHeartbeats 4000000 in
set_option maxRecDepth 20000 in
theorem ident1G (ha : PC w va x y) : Calls Tryz.prog 74 (#[va] ++ #[]) w fun e w' => ∃ r, e = .returned r ∧ PC w' r x y ∧ Below w.heap.size w w' := by
  show Calls _ _ #[va] w _
  obtain ⟨n_0a, o_0a, k_0a, c_0a, n_0b, o_0b, k_0b, c_0b, rfl, ha1, ha2⟩ := ha
  go_enter Tryz.func74, Tryz.ntmps74
  have hs := St.nil w
  refine wp_seq_k ?_
  intro K1 hK1
  refine rg [0, 1] ?_
  refine sq ?_
  refine .al hs ?_; clear hs; intro p_b1 w_1 hs n1 kb_b1
  refine sq ?_
  refine .al hs ?_; clear hs; intro p_b2 w_2 hs n2 kb_b2
  apply wpSq_end
  refine hK1 _ _ ?_
  refine wp_seq_k ?_
  intro K2 hK2
  refine rg [0, 1] ?_
  refine sq ?_
  refine .r4 hs.g1.f4 ?_
  refine sq ?_
  refine .s4 hs.g0 (fun _ => hs.u0 kb_b2) ?_; clear hs; intro w_3 hs hd3 ho3
  apply wpSq_end
  refine hK2 _ _ ?_
  refine wp_ret ?_
  try dsimp only [Exit.then, Exit.inBlock]
  obtain ⟨r0_0, r0_1, r0_2, r0_3⟩ := hs.g0.f4
  refine bodyPost_ret (v := (.agg #[.bool n_0a, .slice o_0a k_0a c_0a, .bool n_0b, .slice o_0b k_0b c_0b])) (by simp [results, Tryz.results74, go_sem, r0_0, r0_1, r0_2, r0_3]) rfl ?_
  have k0_3 := ((kb n1).b n2).o hd3 ho3
  replace ha1 := ha1.k k0_3
  replace ha2 := ha2.k k0_3
  exact ⟨_, rfl, .mk' ha1 ha2, hs.b⟩
set_option maxHeartbeats 4000000 in
set_option maxRecDepth 20000 in
theorem overNumber1 {pa pb pc : Nat} {n1 n2 n3 : Bool} {o1 o2 o3 : Option Addr} {k1 c1 k2 c2 k3 c3 : Nat} {q z : Int × Int} (xb : Bs w pb #[.func (.func 68) #[] #[.pointer (some ⟨pc, 0, none⟩)]] 61) (xa : Bs w pa #[.bool n1, .slice o1 k1 c1, .bool n2, .slice o2 k2 c2] 26) (xc : Bs w pc #[.bool n3, .slice o3 k3 c3] 24)
    (h1 : ZN w (.agg #[.bool n1, .slice o1 k1 c1]) q.1 10000000) (h2 : ZN w (.agg #[.bool n2, .slice o2 k2 c2]) (-q.2) 10000000) (h3 : ZN w (.agg #[.bool n3, .slice o3 k3 c3]) (gN q.1 q.2) 50000000) (h0 : gN q.1 q.2 ≠ 0)
    (ha : PN w va (mP q z).1 l (mP q z).2 m) (hl : l ≤ 20000000) (hm : m ≤ 20000000) :
    Calls Tryz.prog 79 (#[va] ++ #[.pointer (some ⟨pb, 0, none⟩), .pointer (some ⟨pa, 0, none⟩)]) w fun e w' => ∃ r, e = .returned r ∧ PC w' r z.1 z.2 ∧ Below w.heap.size w w' := by
  show Calls _ _ #[va, .pointer (some ⟨pb, 0, none⟩), .pointer (some ⟨pa, 0, none⟩)] w _
  have E := hide (conj_mul (q := q) (z := z))
  have H0 := hide h0
  have XC := hide xc
  have H3 := hide h3
  obtain ⟨a, b⟩ := q
  obtain ⟨c, d⟩ := z
  obtain ⟨X, hX⟩ : ∃ X, (mP (a, b) (c, d)).1 = X := ⟨_, rfl⟩
  obtain ⟨Y, hY⟩ : ∃ Y, (mP (a, b) (c, d)).2 = Y := ⟨_, rfl⟩
  rw [hX, hY] at ha
  have EX := hide (show X * a - Y * (-b) = gN a b * c by have := congrArg Prod.fst E.out; simp only [] at this; rw [← this, ← hX, ← hY]; rfl)
  have EY := hide (show X * (-b) + Y * a = gN a b * d by have := congrArg Prod.snd E.out; simp only [] at this; rw [← this, ← hX, ← hY]; rfl)
  clear hX hY E h0 xc h3
  simp only [] at h1 h2 H0 H3 EX EY ⊢
  obtain ⟨N, hN⟩ : ∃ N, gN a b = N := ⟨_, rfl⟩
  rw [hN] at H0 H3 EX EY
  clear hN
  obtain ⟨n_0a, o_0a, k_0a, c_0a, n_0b, o_0b, k_0b, c_0b, rfl, ha1, ha2⟩ := ha
  go_enter Tryz.func79, Tryz.ntmps79
  have hs := St.nil w
  have lt_bb := xb.lt
  have xbz := xb
  have lt_ba := xa.lt
  have xaz := xa
  refine wp_seq_k ?_
  intro K1 hK1
  refine rg [0, 1] ?_
  refine sq ?_
  refine .al hs ?_; clear hs; intro p_b1 w_1 hs n1 kb_b1
  replace xb := xb.bl n1; replace xa := xa.bl n1
  refine sq ?_
  refine .al hs ?_; clear hs; intro p_b2 w_2 hs n2 kb_b2
  replace xb := xb.bl n2; replace xa := xa.bl n2
  apply wpSq_end
  refine hK1 _ _ ?_
  refine wp_seq_k ?_
  intro K2 hK2
  refine wp_region_f4 [(0, false), (1, false), (2, false), (3, true), (4, true)] [5] [] (fun _ => default) [0, 1, 2, 99, 99, 99] [] (.c xb (.c hs.g1 (.c xa .n))) fn fun w_3 n3 => ?_
  replace xb := xb.bl n3; replace xa := xa.bl n3; replace hs := hs.bl n3
  refine f1 ?_
  refine f4 ?_
  refine f4 ?_
  refine fl fun w_4 n4 => ?_
  replace xb := xb.bl n4; replace xa := xa.bl n4; replace hs := hs.bl n4
  intro K hK
  have k0_4 := (((kb n1).b n2).b n3).b n4
  replace ha1 := ha1.k k0_4
  replace ha2 := ha2.k k0_4
  replace h1 := h1.k k0_4
  replace h2 := h2.k k0_4
  go_big_op
  go_fit (gMul_any (PN.mk' ha1 ha2) (PN.mk' h1 h2) (by omega) (by omega) (by omega) (by omega) )
  rintro e w_5 ⟨_, rfl, ⟨n_ga, o_ga, k_ga, c_ga, n_gb, o_gb, k_gb, c_gb, rfl, g1, g2⟩, hb_5⟩
  replace xb := xb.bl hb_5; replace xa := xa.bl hb_5; replace hs := hs.bl hb_5
  have Lg1 := hide (g1.lenOf (zlen_sub (zlen_mul (ha1.len) (h1.len)) (zlen_mul (ha2.len) (h2.len))))
  have Lg2 := hide (g2.lenOf (zlen_add (zlen_mul (ha1.len) (h2.len)) (zlen_mul (ha2.len) (h1.len))))
  rw [EX.out] at g1
  rw [EY.out] at g2
  refine hK _ _ rfl ⟨hb_5, (And.intro xb (And.intro hs.g1 (And.intro xa trivial)))⟩ ?_
  clear hK K
  have k4_5 := kb hb_5
  replace ha1 := ha1.k k4_5
  replace h1 := h1.k k4_5
  replace ha2 := ha2.k k4_5
  replace h2 := h2.k k4_5
  have L1 := hide (show (dig (N * c).natAbs).length ≤ 70000000 by rw [← EX.out]; exact Nat.le_trans (zlen_sub (zlen_mul ha1.len h1.len) (zlen_mul ha2.len h2.len)) (by omega))
  have L2 := hide (show (dig (N * d).natAbs).length ≤ 70000000 by rw [← EY.out]; exact Nat.le_trans (zlen_add (zlen_mul ha1.len h2.len) (zlen_mul ha2.len h1.len)) (by omega))
  refine fl fun w_6 n6 => ?_
  replace xb := xb.bl n6; replace xa := xa.bl n6; replace hs := hs.bl n6
  intro K hK
  have hb := hs.b
  have k5_6 := kb n6
  replace g1 := g1.k k5_6
  replace g2 := g2.k k5_6
  go_big_op
  go_fit (overWhole1 (XC.out.bl hb) (H3.out.bl hb) (.mk' (g1.zn L1.out) (g2.zn L2.out)) (by omega) (by omega) (by omega) H0.out)
  rintro e w_7 ⟨_, rfl, ⟨n_ra, o_ra, k_ra, c_ra, n_rb, o_rb, k_rb, c_rb, rfl, r1, r2⟩, hb_7⟩
  clear hb
  replace xb := xb.bl hb_7; replace xa := xa.bl hb_7; replace hs := hs.bl hb_7
  refine hK _ _ rfl ⟨hb_7, (And.intro xb (And.intro hs.g1 (And.intro xa trivial)))⟩ ?_
  clear hK K
  refine e0 hs ?_; clear hs; intro w_8 hs n8
  replace xb := xb.bl n8; replace xa := xa.bl n8
  refine tl ?_
  refine .s4 hs.g0 (fun _ => hs.u0 kb_b2) ?_ (e := fun _ hs => (And.intro (xbz.bl hs.b) (And.intro hs.g1 (And.intro (xaz.bl hs.b) True.intro)))); clear hs; intro w_9 hs hd9 ho9
  replace xb := xb.frame ho9 (Nat.ne_of_lt (Nat.lt_of_lt_of_le lt_bb kb_b2)); replace xa := xa.frame ho9 (Nat.ne_of_lt (Nat.lt_of_lt_of_le lt_ba kb_b2))
  apply wpTail_end
  refine hK2 _ _ ?_
  refine wp_ret ?_
  try dsimp only [Exit.then, Exit.inBlock]
  obtain ⟨r0_0, r0_1, r0_2, r0_3⟩ := hs.g0.f4
  refine bodyPost_ret (v := (.agg #[.bool n_ra, .slice o_ra k_ra c_ra, .bool n_rb, .slice o_rb k_rb c_rb])) (by simp [results, Tryz.results79, go_sem, r0_0, r0_1, r0_2, r0_3]) rfl ?_
  have k7_9 := (kb n8).o hd9 ho9
  replace r1 := r1.k k7_9
  replace r2 := r2.k k7_9
  exact ⟨_, rfl, .mk' r1 r2, hs.b⟩
set_option maxRecDepth 20000 in
theorem DivF.ent {w1 : World} {f : Nat} {caps : Array Value} {ds : List En} {q : Int × Int} (h : DivF w1 f caps ds q) : Ent1 f caps := by
  rcases h with ⟨rfl, rfl, rfl, rfl⟩ | ⟨rfl, pa, pb, pc, n1, o1, k1, c1, n2, o2, k2, c2, n3, o3, k3, c3, rfl, rfl, h4, h5, h6, h7⟩
  · exact fun _ _ => by kernel_rfl
  · exact fun _ _ => by kernel_rfl
/-- What divides, called. -/
theorem DivF.call {w1 : World} {f : Nat} {caps : Array Value} {ds : List En} {q z : Int × Int} (h : DivF w1 f caps ds q) (hd : AllE ds w1) (ha : PC w1 va (mP q z).1 (mP q z).2) (hz : zl l (mP q z)) (hl : l ≤ 20000000) :
    Calls Tryz.prog f (#[va] ++ caps) w1 fun e w' => ∃ r, e = .returned r ∧ PC w' r z.1 z.2 ∧ Below w1.heap.size w1 w' := by
  rcases h with ⟨rfl, rfl, rfl, rfl⟩ | ⟨rfl, pa, pb, pc, n1, o1, k1, c1, n2, o2, k2, c2, n3, o3, k3, c3, rfl, rfl, h4, h5, h6, h7⟩
  · have e : mP (1, 0) z = z := Prod.ext (by simp [mP]) (by simp [mP])
    rw [e] at ha
    exact ident1G ha
  · exact overNumber1 (hd.1.1) (hd.2.1.1) (hd.2.2.1.1) h4 h5 h6 h7 (ha.pn hz.1 hz.2) hl hl
set_option maxHeartbeats 4000000 in
set_option maxRecDepth 20000 in
theorem overWhole_any {n1 : Bool} {o1 : Option Addr} {k1 c1 : Nat} (ha : ZN w (.agg #[.bool n1, .slice o1 k1 c1]) x l) :
    Calls Tryz.prog 33 #[.agg #[.bool n1, .slice o1 k1 c1]] w fun e w' => ∃ p, e = .returned (.func (.func 68) #[] #[.pointer (some ⟨p, 0, none⟩)]) ∧ Hid (w.heap.size ≤ p) ∧ Bs w' p #[.bool n1, .slice o1 k1 c1] 24 ∧ Below w.heap.size w w' := by
  go_enter Tryz.func33, Tryz.ntmps33
  have hs := St.nil w
  refine wp_seq_k ?_
  intro K1 hK1
  refine rg [0, 1] ?_
  refine sq ?_
  refine .al hs ?_; clear hs; intro p_b1 w_1 hs n1 kb_b1
  refine sq ?_
  refine .mv ?_
  apply wpSq_end
  refine hK1 _ _ ?_
  refine wp_seq_k ?_
  intro K2 hK2
  refine rg [0, 1] ?_
  refine sq ?_
  refine .r0 ?_
  refine sq ?_
  refine .mv ?_
  apply wpSq_end
  refine hK2 _ _ ?_
  refine wp_ret ?_
  try dsimp only [Exit.then, Exit.inBlock]
  refine bodyPost_ret (v := (.func (.func 68) #[] #[(.pointer (some ⟨p_b1, 0, none⟩))])) (by simp [results, Tryz.results33, go_sem]) rfl ?_
  exact ⟨_, rfl, kb_b1, hs.g0, hs.b⟩
set_option maxHeartbeats 4000000 in
set_option maxRecDepth 20000 in
theorem overNumber_any (hst : St w0 bs w) (hq : PN w vq u l v m) (hl : l ≤ 10000000) (hm : m ≤ 10000000) (h0 : gN u v ≠ 0) :
    Calls Tryz.prog 43 #[vq] w fun e w' => ∃ f caps ds, e = .returned (.func (.func f) #[] caps) ∧ DivF w' f caps ds (u, v) ∧ St w0 (ds ++ bs) w' ∧ Kp w w' := by
  have H0 := hide h0
  clear h0
  have kk := KpF.r w
  obtain ⟨n_0a, o_0a, k_0a, c_0a, n_0b, o_0b, k_0b, c_0b, rfl, hq1, hq2⟩ := hq
  go_enter Tryz.func43, Tryz.ntmps43
  have hs := hst
  clear hst
  refine wp_seq_k ?_
  intro K1 hK1
  refine rg [0, 1] ?_
  refine sq ?_
  refine .al hs ?_; clear hs; intro p_b1 w_1 hs n1 kb_b1
  refine sq ?_
  refine .mv ?_
  apply wpSq_end
  refine hK1 _ _ ?_
  refine wp_seq_k ?_
  intro K2 hK2
  refine wp_region_f4 [(0, false), (2, false), (1, true), (3, true), (4, true)] [7, 8] [5, 6] (fun j => if j = 5 then (.cells #[.bool false, .slice none 0 0, .bool false, .slice none 0 0] 26) else (.cells #[.nilFunc] 61)) [0, 99, 0, 99, 99, 99, 99, 99, 99] [] (.c hs.g0 .n) (fm (fm fn)) fun w_2 n2 => ?_
  replace hs := hs.bl n2
  have hlB := hs.lt; have hkB := hs.k
  refine f4 ?_
  refine f4 ?_
  refine fl fun w_3 n3 => ?_
  replace hs := hs.bl n3
  intro K hK
  have k0_3 := ((kb n1).b n2).b n3
  replace hq1 := hq1.k k0_3
  replace hq2 := hq2.k k0_3
  go_big_op
  go_fit (gConj_any (PN.mk' hq1 hq2) (by omega) (by omega) )
  rintro e w_4 ⟨_, rfl, ⟨n_ga, o_ga, k_ga, c_ga, n_gb, o_gb, k_gb, c_gb, rfl, g1, g2⟩, hb_4⟩
  replace hs := hs.bl hb_4
  have Lg1 := hide (g1.lenOf ((hq1.len)))
  have Lg2 := hide (g2.lenOf (zlen_neg (hq2.len)))
  refine hK _ _ rfl ⟨hb_4, (And.intro hs.g0 trivial)⟩ ?_
  clear hK K
  refine fl fun w_5 n5 => ?_
  replace hs := hs.bl n5
  intro K hK
  have k3_5 := (kb hb_4).b n5
  replace hq1 := hq1.k k3_5
  replace hq2 := hq2.k k3_5
  go_big_op
  go_fit (gNorm_any (PN.mk' hq1 hq2) (by omega) (by omega) )
  rintro e w_6 ⟨v_N, rfl, N, hb_6⟩
  replace hs := hs.bl hb_6
  obtain ⟨n_N, o_N, k_N, c_N, rfl⟩ := N.open2
  have LN := hide (N.lenOf (zlen_add (zlen_mul (hq1.len) (hq1.len)) (zlen_mul (hq2.len) (hq2.len))))
  refine hK _ _ rfl ⟨hb_6, (And.intro hs.g0 trivial)⟩ ?_
  clear hK K
  have HLB := hide hs.lt
  refine fl fun w_7 n7 => ?_
  replace hs := hs.bl n7
  intro K hK
  have k6_7 := kb n7
  replace N := N.k k6_7
  go_big_op
  go_fit (overWhole_any (N.zn LN.out))
  rintro e w_8 ⟨p_Wa, rfl, kb_Wa, x_Wa, hb_8⟩
  replace hs := hs.bl hb_8
  refine hK _ _ rfl ⟨hb_8, (And.intro hs.g0 trivial)⟩ ?_
  clear hK K
  refine e2 hs hlB hkB ?_; clear hs hlB hkB; intro w_9 p_b2 p_b3 hs n9 kb_b2 kb_b3
  replace x_Wa := x_Wa.bl n9
  have hs := hs.adopt2 x_Wa (by decide) (by decide) HLB.out (Nat.le_trans n7.size kb_Wa)
  clear x_Wa
  refine tl ?_
  refine .s4 hs.g1 (fun _ => hs.u1 kb_b2) ?_ (e := fun _ hs => (And.intro hs.g3 True.intro)); clear hs; intro w_10 hs hd10 ho10
  refine tl ?_
  refine .s1 hs.g2 (fun _ => hs.u2 kb_b3) ?_ (e := fun _ hs => (And.intro hs.g3 True.intro)); clear hs; intro w_11 hs hd11 ho11
  apply wpTail_end
  refine hK2 _ _ ?_
  refine wp_seq_k ?_
  intro K3 hK3
  refine rg [0, 1] ?_
  refine sq ?_
  refine .r0 ?_
  refine sq ?_
  refine .mv ?_
  apply wpSq_end
  refine hK3 _ _ ?_
  refine wp_ret ?_
  have k4_11 := ((((((kb n5).b hb_6).b n7).b hb_8).b n9).o hd10 ho10).o hd11 ho11
  replace g1 := g1.k k4_11
  replace g2 := g2.k k4_11
  have k7_11 := (((kb hb_8).b n9).o hd10 ho10).o hd11 ho11
  replace N := N.k k7_11
  have k0_11 := (((((((k0_3.b hb_4).b n5).b hb_6).b n7).b hb_8).b n9).o hd10 ho10).o hd11 ho11
  replace kk := kk.k k0_11
  try dsimp only [Exit.then, Exit.inBlock]
  refine bodyPost_ret (v := (.func (.func 79) #[] #[(.pointer (some ⟨p_b3, 0, none⟩)), (.pointer (some ⟨p_b2, 0, none⟩))])) (by simp [results, Tryz.results43, go_sem]) rfl ?_
  exact ⟨_, _, _, rfl, .inr ⟨rfl, _, _, _, _, _, _, _, _, _, _, _, _, _, _, _, rfl, rfl, (g1.zn Lg1.out).up hl, (g2.zn Lg2.out).up hm, (N.zn LN.out).up (by omega), H0.out⟩, (hs.sub (.cons_cons _ (.cons_cons _ (.cons_cons _ (.cons _ (List.Sublist.refl _)))))).perm ((List.Perm.swap _ _ _).trans ((List.Perm.cons _ (List.Perm.swap _ _ _)).trans (List.Perm.swap _ _ _))), kk.kp⟩
end
section
variable {P : Program} {o : Oper} {a : Act} {w w0 : World} {B : Exit → Act → World → Prop} {E : World → Prop} {G : Act → World → Prop} {bs : List En}
/-- One element is appended, in a region that draws: what else is asked may lean on the state behind it. -/
theorem Stp.apo {v z : Value} {n sz q c : Nat} {xs news : List Value} {e t ety : TypeId} {inf : TypeInfo} {sv xv : Operand} {a' : Value → Act} (i : Nat) (hs : St w0 bs w) (x : Bs w q news.toArray ety)
    (h : ∀ o' c' w', St w0 (bs.set i (ls w0.heap.size e sz (.slice o' (n + 1) c') (n + 1) (xs ++ news))) w' → Kp w w' → Below w0.heap.size w w' → G (a' (.slice o' (n + 1) c')) w')
    (hi : bs[i]? = some (ls w0.heap.size e sz v n xs) := by rfl) (hn : n ≤ 100000000000 := by omega)
    (ho : o.op = .call { callee := .builtin .append, args := #[sv, xv], argTypes := #[t, t] } := by rfl) (hsv : a.eval sv = v := by rfl) (hxv : a.eval xv = .slice (some ⟨q, 0, none⟩) 1 c := by rfl)
    (ht : P.underlying t = some (.slice e) := by rfl) (hinf : P.info? e = some inf := by rfl) (hz : inf.zero = some z := by rfl)
    (hsz : inf.size = sz := by rfl) (hzs : z.cells.size = sz := by rfl) (h0 : 0 < sz := by decide) (hzn : z.cells.toList.all nd = true := by rfl) (hby : inf.bytes ≤ 1000 := by decide) (hlen : news.length = sz := by rfl)
    (h1 : news.all Value.oneCell' = true := by rfl) (hnn : news.all nd = true := by rfl) (hu : (e == 105) = false := by rfl)
    (hp : ∀ v', a.put o.dst v' = a' v' := by intro v'; unfold Act.put; simp only [List.setIfInBounds_toArray, List.set_cons_succ, List.set_cons_zero]; rfl)
    (eE : ∀ o' c' w', St w0 (bs.set i (ls w0.heap.size e sz (.slice o' (n + 1) c') (n + 1) (xs ++ news))) w' → E w') (hd : ∀ v', (a' v').defers = a.defers := by exact fun _ => rfl) : Stp P o a w B E G := fun K hK => by
  have hL : Lst w w0.heap.size e sz v n xs := by
    have h2 := hs.1
    have : ∀ {bs : List En} {i : Nat} {en : En}, AllE bs w → bs[i]? = some en → Ok en w := by
      intro bs
      induction bs with
      | nil => intro i en _ hi; simp at hi
      | cons b t ih =>
        intro i en hA hi
        cases i with
        | zero => obtain rfl : b = en := by simpa using hi
                  exact hA.1
        | succ i => exact ih hA.2 (by simpa using hi)
    exact (this h2 hi).1
  have hnews : ∀ j u, news[j]? = some u → w.cell? ((⟨q, 0, none⟩ : Addr).add j) = some u := fun j u hj => by
    rw [addr_add0]
    exact x.cell j (c := u) (by simpa using hj)
  obtain ⟨v', w', hr, h2, h3, h4⟩ := Lst.append (P := P) w0.heap.size t o.type e inf z sz inf.bytes ht hinf hz hsz rfl hzs h0 hzn v n xs hL ⟨q, 0, none⟩ 1 c news (by decide) (by rw [hlen, Nat.one_mul]) hnews (List.all_eq_true.1 h1) hnn (by unfold maxLen; omega) (Nat.le_trans (Nat.mul_le_mul_left _ hby) (by omega)) hs.k
  obtain ⟨o', c', rfl⟩ := h2.shape
  have hst : St w0 (bs.set i (ls w0.heap.size e sz (.slice o' (n + 1) c') (n + 1) (xs ++ news))) w' := by
    refine hs.st i hi (fun k hk hne => h3.block k hk hne) h3.size (.ls h2) (fun k hk => ?_) ?_
    · rcases h4 with h5 | h5
      · exact .inl (h5.symm.trans hk)
      · right
        have h6 : some w.heap.size = some k := h5.symm.trans hk
        injection h6 with h6
        omega
    · refine ⟨h3.os.trans hs.b.os, h3.tape.trans hs.b.tape, h3.output.trans hs.b.output, Nat.le_trans hs.k h3.size, fun k hk => ?_⟩
      rw [h3.block k (Nat.lt_of_lt_of_le hk hs.k) fun hc => ?_]
      · exact hs.b.block k hk
      · have := (hL.1.lt k hc.symm).1
        omega
  unfold Oper.wp execOp
  simp only [ho, resolve, invoke, builtin, Sem.run_bind, Sem.run_pure, Result.andThen_ok, List.map_toArray, List.map_cons, List.map_nil, hsv, hxv, hr]
  have h7 := hK (a' (.slice o' (n + 1) c')) w' (hd _) (eE _ _ _ hst) (h _ _ _ hst (kp_grown h3 (hL.nod hu)) ⟨h3.os, h3.tape, h3.output, h3.size, fun k hk => h3.block k (Nat.lt_of_lt_of_le hk hs.k) fun hc => Nat.lt_irrefl _ (Nat.lt_of_lt_of_le hk (hL.1.lt k hc.symm).1)⟩)
  rw [← hp] at h7
  exact h7
end
theorem GD.put {w : World} {n1 n2 : Bool} {o1 o2 : Option Addr} {k1 c1 k2 c2 : Nat} {x y : Int} (h1 : ZC w (.agg #[.bool n1, .slice o1 k1 c1]) x) (h2 : ZC w (.agg #[.bool n2, .slice o2 k2 c2]) y) :
    ∀ {xs : List Value} {ps : List (Int × Int)} {q : Nat}, GD w xs ps → q < ps.length →
    GD w (setL xs [(q * 4, .bool n1), (q * 4 + 1, .slice o1 k1 c1), (q * 4 + 2, .bool n2), (q * 4 + 3, .slice o2 k2 c2)]) (ps.set q (x, y)) := by
  intro xs
  induction hn : xs.length using Nat.strongRecOn generalizing xs with
  | _ n ih =>
    intro ps q hd hq
    have hl := hd.len
    match xs, ps, hd with
    | a :: b :: c :: d :: xs, p :: ps, hd =>
      cases q with
      | zero => exact ⟨.mk' h1 h2, hd.2⟩
      | succ q =>
        have := ih xs.length (by rw [← hn]; simp only [List.length_cons]; omega) rfl hd.2 (q := q) (by simpa using hq)
        simp only [setL, List.set_cons_succ, show (q + 1) * 4 = q * 4 + 1 + 1 + 1 + 1 by omega, List.set_cons_succ, show q * 4 + 1 + 1 + 1 + 1 + 1 = (q * 4 + 1) + 1 + 1 + 1 + 1 by omega, show q * 4 + 1 + 1 + 1 + 1 + 2 = (q * 4 + 2) + 1 + 1 + 1 + 1 by omega, show q * 4 + 1 + 1 + 1 + 1 + 3 = (q * 4 + 3) + 1 + 1 + 1 + 1 by omega]
        exact ⟨hd.1, this⟩
    | [], [], _ => exact absurd hq (Nat.not_lt_zero _)
theorem RD.at' {w : World} : ∀ {rs : List Rw} {Ms : List (List (Int × Int))} {p : Nat}, RD w rs Ms → (hp : p < Ms.length) → ∃ r1 r r2, rs = r1 ++ r :: r2 ∧ r1.length = p ∧ r.n = Ms[p].length ∧ GD w r.xs Ms[p]
  | [], [], p, _, hp => absurd hp (Nat.not_lt_zero _)
  | r :: rs, m :: Ms, 0, h, _ => ⟨[], r, rs, rfl, rfl, h.1⟩
  | r :: rs, m :: Ms, p + 1, h, hp => by
    obtain ⟨r1, r', r2, rfl, h1, h2⟩ := RD.at' (p := p) h.2 (by simpa using hp)
    exact ⟨r :: r1, r', r2, rfl, by simp [h1], by simpa using h2⟩
theorem RD.set' {w : World} {v : Value} {n : Nat} {xs : List Value} {m : List (Int × Int)} {r : Rw} {r2 : List Rw} (hn : n = m.length) (hg : GD w xs m) : ∀ {r1 : List Rw} {Ms : List (List (Int × Int))} {p : Nat}, RD w (r1 ++ r :: r2) Ms → r1.length = p → RD w (r1 ++ (⟨v, n, xs⟩ : Rw) :: r2) (Ms.set p m)
  | [], _ :: Ms, p, h, hp => by subst hp; exact ⟨⟨hn, hg⟩, h.2⟩
  | a :: r1, b :: Ms, p, h, hp => by subst hp; exact ⟨h.1, RD.set' hn hg h.2 rfl⟩
  | [], [], p, h, _ => h.elim
  | _ :: _, [], p, h, _ => h.elim
section
variable {w0 w : World} {v : Value} {n p K : Nat} {rs r1 r2 : List Rw} {bs : List En} {Ms : List (List (Int × Int))}
theorem St.row (hs : St w0 (ls w0.heap.size 28 1 v n (rs.map (·.v)) :: (bs ++ rs.map (Rw.e w0.heap.size))) w) (hd : RD w rs Ms) (hp : p < Ms.length) (hK : Ms[p].length = K) (h0 : 0 < K) :
    ∃ r1 g c xs r2, rs = r1 ++ (⟨.slice (some ⟨g, 0, none⟩) K c, K, xs⟩ : Rw) :: r2 ∧ r1.length = p ∧ (rs.map (·.v))[p]? = some (.slice (some ⟨g, 0, none⟩) K c) ∧ GD w xs Ms[p] ∧
      St w0 (ls w0.heap.size 26 4 (.slice (some ⟨g, 0, none⟩) K c) K xs :: ls w0.heap.size 28 1 v n (rs.map (·.v)) :: (bs ++ (r1 ++ r2).map (Rw.e w0.heap.size))) w := by
  obtain ⟨r1, r, r2, rfl, h1, h2, h3⟩ := hd.at' hp
  obtain ⟨rv, rn, xs⟩ := r
  simp only at h2 h3
  rw [hK] at h2
  subst h2
  have hs2 := hs.perm (cs := Rw.e w0.heap.size ⟨rv, rn, xs⟩ :: ls w0.heap.size 28 1 v n ((r1 ++ (⟨rv, rn, xs⟩ : Rw) :: r2).map (·.v)) :: (bs ++ (r1 ++ r2).map (Rw.e w0.heap.size))) (by
    refine (List.Perm.cons _ ?_).trans (List.Perm.swap _ _ _)
    rw [List.map_append, List.map_cons, List.map_append, ← List.append_assoc, ← List.append_assoc]
    exact List.perm_middle)
  have L : Lst w w0.heap.size 26 4 rv rn xs := hs2.1.1.1
  obtain ⟨o, c, rfl⟩ := L.shape
  obtain ⟨g, cur, rfl, _, _⟩ := L.box h0
  exact ⟨r1, g, c, xs, r2, rfl, h1, by rw [List.map_append, List.map_cons, List.getElem?_append_right (by simp [h1])]; simp [h1], h3, hs2⟩
theorem St.unrow {x : Value} {xs xs' : List Value} (hs : St w0 (ls w0.heap.size 26 4 x K xs' :: ls w0.heap.size 28 1 v n ((r1 ++ (⟨x, K, xs⟩ : Rw) :: r2).map (·.v)) :: (bs ++ (r1 ++ r2).map (Rw.e w0.heap.size))) w) :
    St w0 (ls w0.heap.size 28 1 v n ((r1 ++ (⟨x, K, xs'⟩ : Rw) :: r2).map (·.v)) :: (bs ++ (r1 ++ (⟨x, K, xs'⟩ : Rw) :: r2).map (Rw.e w0.heap.size))) w := by
  have e : (r1 ++ (⟨x, K, xs⟩ : Rw) :: r2).map (·.v) = (r1 ++ (⟨x, K, xs'⟩ : Rw) :: r2).map (·.v) := by simp
  rw [e] at hs
  refine hs.perm ?_
  refine (List.Perm.swap _ _ _).trans (List.Perm.cons _ ?_)
  rw [List.map_append, List.map_append, List.map_cons, ← List.append_assoc, ← List.append_assoc]
  exact List.perm_middle.symm
end
/-- A matrix's number at one place, and elsewhere as it was. -/
def upd (F : Nat → Nat → Int × Int) (p q : Nat) (x : Int × Int) : Nat → Nat → Int × Int := fun i j => if i = p ∧ j = q then x else F i j
theorem mkM_set {R K p q : Nat} {F : Nat → Nat → Int × Int} {x : Int × Int} (hp : p < R) : (mkM R K F).set p (((List.range K).map (F p)).set q x) = mkM R K (upd F p q x) := by
  refine List.ext_getElem (by simp [mkM]) fun i h1 h2 => ?_
  have hi : i < R := by simpa [mkM] using h2
  refine List.ext_getElem (by simp only [mkM, List.getElem_set, List.getElem_map, List.getElem_range]; split <;> simp) fun j h3 h4 => ?_
  simp only [mkM, List.getElem_set, List.getElem_map, List.getElem_range, upd]
  have hj : j < K := by simpa [mkM] using h4
  by_cases e : p = i
  · subst e
    by_cases e2 : q = j
    · subst e2; simp
    · simp [e2, Ne.symm e2]
  · simp [e, Ne.symm e]
theorem mkM_row {R K p : Nat} {F : Nat → Nat → Int × Int} (hp : p < R) : (mkM R K F)[p]'(by rw [len_mkM]; exact hp) = (List.range K).map (F p) := by simp [mkM]
section
variable {w : World} {la na np ca cp i j pa : Nat} {oa : Option Addr} {A : List (List (Int × Int))} {zs : List Int}
/-- These places can be read. -/
def PL (w : World) (o : Option Addr) (zs : List Int) : Prop := ∃ g cur ty fz, o = some ⟨g, 0, none⟩ ∧ Bs w g cur ty fz ∧ ∀ i (hi : i < zs.length), cur[i]? = some (.int .i64 zs[i])
end
end Go.Proofs.YtcoodkdalblalaaGreatDoor
