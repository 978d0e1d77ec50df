/- gdet: tables whose rows and columns were exchanged; the determinant's sign, the rank. -/
import Derived.Test.YtjfjlloibmebeaaE3ToE6
import Derived.Test.YtjfjlloibmebeaaI5ToDp

namespace Go.Proofs.Ytjfjlloibmebeaa
open Go Go.RowKit Dig
set_option linter.unusedVariables false
open Dt in
/-- What an odd number of exchanges does. -/
def sgb (odd : Bool) (p : Int × Int) : Int × Int := if odd then (-p.1, -p.2) else p
theorem sgb_eq (odd : Bool) (p : Int × Int) : sgb odd p = if odd then -p else p := rfl
theorem swr_swp : swr = Dt.swp := rfl
theorem swr_lt {i k r m : Nat} (hi : i < m) (hk : k < m) (hr : r < m) : swr i k r < m := by unfold swr; split <;> (try split) <;> assumption
theorem swr_low {i k r : Nat} (hi : k ≤ i) (hr : r < k) : swr i k r = r := by unfold swr; rw [if_neg (by omega), if_neg (by omega)]
section
variable {k i j n W h m : Nat} {A A0 F : Nat → Nat → Int × Int} {odd : Bool}
theorem D_swr (hi : k ≤ i) (hj : k ≤ j) {r c : Nat} : Dt.D k (fun r c => A (swr i k r) (swr j k c)) r c = Dt.D k A (swr i k r) (swr j k c) := by
  unfold Dt.D
  refine Dt.det_congr fun x _ y _ => ?_
  have key : ∀ {i r x : Nat}, k ≤ i → swr i k (Dt.bord k r x) = Dt.bord k (swr i k r) x := fun {i r x} hi => by
    unfold Dt.bord
    by_cases h : x < k
    · rw [if_pos h, if_pos h, swr_low hi h]
    · rw [if_neg h, if_neg h]
  show A (swr i k (Dt.bord k r x)) (swr j k (Dt.bord k c y)) = _
  rw [key hi, key hj]
theorem det_swr (hi : k ≤ i) (hj : k ≤ j) {s : Nat} (hs : s ≤ k) : Dt.det s (fun r c => A (swr i k r) (swr j k c)) = Dt.det s A := Dt.det_congr fun x hx y hy => by
  rw [swr_low hi (by omega), swr_low hj (by omega)]
theorem det_swr2 (hi : i < n) (hj : j < n) (hk : k < n) (h : Dt.det n A = sgb odd (Dt.det n A0)) : Dt.det n (fun r c => A (swr i k r) (swr j k c)) = sgb (xo odd i j k) (Dt.det n A0) := by
  have e1 : Dt.det n (fun r c => A (swr i k r) (swr j k c)) = if j = k then Dt.det n (fun r c => A (swr i k r) c) else - Dt.det n (fun r c => A (swr i k r) c) := by
    by_cases e : j = k
    · subst e
      rw [if_pos rfl]
      refine Dt.det_congr fun r _ c _ => ?_
      have : swr j j c = c := by unfold swr; split <;> omega
      rw [this]
    · rw [if_neg e]; exact Dt.det_cols (A := fun r c => A (swr i k r) c) e hj hk
  have e2 : Dt.det n (fun r c => A (swr i k r) c) = if i = k then Dt.det n A else - Dt.det n A := by
    by_cases e : i = k
    · subst e
      rw [if_pos rfl]
      refine Dt.det_congr fun r _ c _ => ?_
      have : swr i i r = r := by unfold swr; split <;> omega
      rw [this]
    · rw [if_neg e]; exact (Dt.alt_det (R := Int × Int) (n := n)).swap e hi hk A
  rw [e1, e2, h]
  unfold xo
  simp only [sgb_eq]
  by_cases h1 : i = k <;> by_cases h2 : j = k <;> cases odd <;> simp [h1, h2] <;> grind
/-- A table at step k: rows and columns of A0 exchanged. -/
def Pmd (h m : Nat) (A0 A : Nat → Nat → Int × Int) : Prop := ∃ u u' v v' : Nat → Nat, (∀ i j, A i j = A0 (u i) (v j)) ∧ (∀ i, (i < h → u i < h ∧ u' i < h) ∧ (h ≤ i → u i = i) ∧ u (u' i) = i ∧ u' (u i) = i) ∧ ∀ i, (i < m → v i < m ∧ v' i < m) ∧ (m ≤ i → v i = i) ∧ v (v' i) = i ∧ v' (v i) = i
def QP (h m : Nat) (A0 : Nat → Nat → Int × Int) (k : Nat) (A : Nat → Nat → Int × Int) (odd : Bool) : Prop :=
  k ≤ h ∧ k ≤ m ∧ Dt.det k A ≠ 0 ∧ Pmd h m A0 A ∧ (h = m → Dt.det h A = sgb odd (Dt.det h A0))
def FinP (h m : Nat) (A0 : Nat → Nat → Int × Int) (k : Nat) (A : Nat → Nat → Int × Int) (odd : Bool) : Prop :=
  QP h m A0 k A odd ∧ ∀ i, k ≤ i → i < h → ∀ j, k ≤ j → j < m → Dt.D k A i j = 0
theorem swr_inv {i k r : Nat} : swr i k (swr i k r) = r := by rw [swr_swp]; exact Dt.swp_swp
theorem Pmd.swr (hp : Pmd h m A0 A) (hi : i < h) (hk : k < h) (hj : j < m) (hk2 : k < m) : Pmd h m A0 (fun r c => A (swr i k r) (swr j k c)) := by
  obtain ⟨u, u', v, v', hA, hu, hv⟩ := hp
  refine ⟨fun r => u (Go.Proofs.Ytjfjlloibmebeaa.swr i k r), fun r => Go.Proofs.Ytjfjlloibmebeaa.swr i k (u' r), fun c => v (Go.Proofs.Ytjfjlloibmebeaa.swr j k c), fun c => Go.Proofs.Ytjfjlloibmebeaa.swr j k (v' c), fun r c => hA _ _, fun r => ⟨fun hr => ⟨((hu _).1 (swr_lt hi hk hr)).1, swr_lt hi hk ((hu r).1 hr).2⟩, fun hr => ?_, ?_, ?_⟩, fun r => ⟨fun hr => ⟨((hv _).1 (swr_lt hj hk2 hr)).1, swr_lt hj hk2 ((hv r).1 hr).2⟩, fun hr => ?_, ?_, ?_⟩⟩
  · have : Go.Proofs.Ytjfjlloibmebeaa.swr i k r = r := by unfold Go.Proofs.Ytjfjlloibmebeaa.swr; rw [if_neg (by omega), if_neg (by omega)]
    simp only [this]; exact (hu r).2.1 hr
  · simp only [swr_inv]; exact (hu r).2.2.1
  · simp only [(hu _).2.2.2, swr_inv]
  · have : Go.Proofs.Ytjfjlloibmebeaa.swr j k r = r := by unfold Go.Proofs.Ytjfjlloibmebeaa.swr; rw [if_neg (by omega), if_neg (by omega)]
    simp only [this]; exact (hv r).2.1 hr
  · simp only [swr_inv]; exact (hv r).2.2.1
  · simp only [(hv _).2.2.2, swr_inv]
theorem one_ne : (1 : Int × Int) ≠ 0 := by decide
theorem QP.zero : QP h m A0 0 A0 false := ⟨Nat.zero_le _, Nat.zero_le _, one_ne, ⟨id, id, id, id, fun _ _ => rfl, fun i => ⟨fun h => ⟨h, h⟩, fun _ => rfl, rfl, rfl⟩, fun i => ⟨fun h => ⟨h, h⟩, fun _ => rfl, rfl, rfl⟩⟩, fun _ => rfl⟩
/-- A pivot brought to its place. -/
theorem QP.next (hq : QP h m A0 k A odd) (hi : k ≤ i) (hi2 : i < h) (hj : k ≤ j) (hj2 : j < m) (h0 : Dt.D k A i j ≠ 0) : QP h m A0 (k + 1) (fun r c => A (swr i k r) (swr j k c)) (xo odd i j k) := by
  obtain ⟨h1, h2, h3, h4, h5⟩ := hq
  refine ⟨by omega, by omega, ?_, h4.swr hi2 (by omega) hj2 (by omega), fun e => ?_⟩
  · rw [← Dt.D_diag, D_swr hi hj, swr_k, swr_k]; exact h0
  · subst e; exact det_swr2 hi2 hj2 (by omega) (h5 rfl)
theorem Agr.next (ha : Agr n W k A F) (hi : k ≤ i) (hi2 : i < n) (hj : k ≤ j) (hj2 : j < W) : Agr n W k (fun r c => A (swr i k r) (swr j k c)) (fun r c => F (swr i k r) (swr j k c)) := fun r hr c hc h1 h2 => by
  have g : ∀ {i r : Nat}, k ≤ i → k ≤ r → k ≤ swr i k r := fun {i r} hi hr => by unfold swr; split <;> (try split) <;> omega
  rw [D_swr hi hj]
  exact ha _ (swr_lt hi2 (by omega) hr) _ (swr_lt hj2 (by omega) hc) (g hi h1) (g hj h2)
/-- The table's rank, where no pivot is left. -/
theorem FinP.rk (hf : FinP h m A0 k A odd) : Dt.Rk h m A0 k := by
  obtain ⟨⟨h1, h2, h3, ⟨u, u', v, v', hA, hu, hv⟩, h5⟩, h6⟩ := hf
  have := Dt.rk_of (h := h) (w := m) h1 h2 h3 fun i hi j hj => by
    by_cases e : i < k
    · exact Dt.D_row0 e
    · by_cases e2 : j < k
      · exact Dt.D_col0 e2
      · exact h6 i (by omega) hi j (by omega) hj
  exact this.perm (u := u) (u' := u') (v := v) (v' := v') (fun i _ j _ => hA i j) (fun i hi => ⟨((hu i).1 hi).1, ((hu i).1 hi).2, (hu i).2.2.1⟩) (fun i hi => ⟨((hv i).1 hi).1, ((hv i).1 hi).2, (hv i).2.2.1⟩)
/-- A square one's determinant. -/
theorem FinP.det (hf : FinP n n A0 k A odd) : (k < n → Dt.det n A0 = 0) ∧ (k = n → Dt.det n A0 = sgb odd (Dt.det n A)) := by
  refine ⟨fun h => (FinP.rk hf).det0 noz one_ne h, fun e => ?_⟩
  have := hf.1.2.2.2.2 rfl
  rw [this]
  cases odd <;> simp [sgb]
/-- Bounds of minors of A0, and of the table's. -/
def MinB (n W L : Nat) (A : Nat → Nat → Int × Int) : Prop := ∀ (s : Nat) (f g : Nat → Nat), (∀ r, r < s → f r < n ∧ g r < W) → (∀ r q, r < q → q < s → f r ≠ f q) → zl L (Dt.det s fun i j => A (f i) (g j))
theorem Pmd.bd {L : Nat} (hB : MinB n W L A0) (hh : h ≤ n) (hm : m ≤ W) (hq : Pmd h m A0 A) : ∀ s i, i < n → ∀ j, j < W → zl L (Dt.D s A i j) := by
  obtain ⟨u, u', v, v', hA, hu, hv⟩ := hq
  intro s i hi j hj
  by_cases e : i < s
  · rw [Dt.D_row0 e]; exact zl_0 _
  by_cases e9 : j < s
  · rw [Dt.D_col0 e9]; exact zl_0 _
  · have hun : ∀ r, r < n → u r < n := fun r hr => by
      by_cases c : r < h
      · have := ((hu r).1 c).1; omega
      · rw [(hu r).2.1 (by omega)]; exact hr
    have hvn : ∀ r, r < W → v r < W := fun r hr => by
      by_cases c : r < m
      · have := ((hv r).1 c).1; omega
      · rw [(hv r).2.1 (by omega)]; exact hr
    have e2 : Dt.D s A i j = Dt.det (s + 1) fun r c => A0 (u (Dt.bord s i r)) (v (Dt.bord s j c)) := Dt.det_congr fun r _ c _ => hA _ _
    rw [e2]
    refine hB (s + 1) (fun r => u (Dt.bord s i r)) (fun c => v (Dt.bord s j c)) (fun r hr => ⟨hun _ (by unfold Dt.bord; split <;> omega), hvn _ (by unfold Dt.bord; split <;> omega)⟩) fun r q h1 h2 h3 => ?_
    have h4 := congrArg u' h3
    rw [(hu _).2.2.2, (hu _).2.2.2] at h4
    unfold Dt.bord at h4
    split at h4 <;> split at h4 <;> omega
theorem QP.bd {L : Nat} (hB : MinB n W L A0) (hh : h ≤ n) (hm : m ≤ W) (hq : QP h m A0 k A odd) : ∀ s, s ≤ k → ∀ i, i < n → ∀ j, j < W → zl L (Dt.D s A i j) := fun s _ => hq.2.2.2.1.bd hB hh hm s
end
end Go.Proofs.Ytjfjlloibmebeaa


/- Determinants are no longer than their rows together. -/
namespace Go.Proofs.Ytjfjlloibmebeaa
open Go Go.RowKit Dig
set_option linter.unusedVariables false
def sN : Nat → (Nat → Nat) → Nat
  | 0, _ => 0
  | n + 1, f => sN n f + f n
theorem sN_succ (n : Nat) (f : Nat → Nat) : sN (n + 1) f = sN n f + f n := rfl
theorem sN_congr {n : Nat} {f g : Nat → Nat} (h : ∀ i, i < n → f i = g i) : sN n f = sN n g := by
  induction n with
  | zero => rfl
  | succ n ih => rw [sN, sN, ih fun i hi => h i (by omega), h n (by omega)]
theorem sN_head (n : Nat) (f : Nat → Nat) : sN (n + 1) f = f 0 + sN n fun i => f (i + 1) := by
  induction n with
  | zero => simp [sN]
  | succ n ih => rw [sN, ih, sN]; omega
theorem sN_one (n c : Nat) : sN n (fun _ => c) = n * c := by
  induction n with
  | zero => simp [sN]
  | succ n ih => rw [sN, ih, Nat.succ_mul]
theorem sN_add (n : Nat) (f g : Nat → Nat) : sN n (fun i => f i + g i) = sN n f + sN n g := by
  induction n with
  | zero => rfl
  | succ n ih => simp only [sN]; rw [ih]; omega
theorem sN_upd {n k : Nat} (hk : k < n) (b : Nat → Nat) : sN n (fun i => if i = k then 0 else b i) + b k = sN n b := by
  induction n with
  | zero => omega
  | succ n ih =>
    rw [sN, sN]
    by_cases e : k = n
    · subst e
      rw [if_pos rfl, sN_congr (g := b) fun i hi => if_neg (by omega)]; omega
    · have := ih (by omega)
      rw [if_neg (by omega)]; omega
theorem sN_inj {s n : Nat} {f b : Nat → Nat} (hf : ∀ r, r < s → f r < n) (hi : ∀ r q, r < q → q < s → f r ≠ f q) : sN s (fun i => b (f i)) ≤ sN n b := by
  induction s generalizing b with
  | zero => exact Nat.zero_le _
  | succ s ih =>
    have h1 := ih (b := fun i => if i = f s then 0 else b i) (fun r hr => hf r (by omega)) (fun r q h h' => hi r q h (by omega))
    rw [sN_congr (g := fun i => b (f i)) fun i h => if_neg (hi i s h (by omega))] at h1
    have h2 := sN_upd (hf s (by omega)) b
    rw [sN]; omega
theorem sN_skip {n i : Nat} (h : i ≤ n) (e : Nat → Nat) : sN n (fun r => e (Dt.skip i r)) + e i = sN (n + 1) e := by
  induction n with
  | zero =>
    have e0 : i = 0 := by omega
    subst e0
    simp [sN]
  | succ n ih =>
    by_cases c : i = n + 1
    · subst c
      rw [sN_succ (n + 1), sN_congr (g := e) fun r hr => by rw [show Dt.skip (n + 1) r = r by unfold Dt.skip; rw [if_pos hr]]]
    · have h1 := ih (by omega)
      rw [sN_succ (n + 1), sN_succ n, show Dt.skip i n = n + 1 by unfold Dt.skip; rw [if_neg (by omega)]]
      omega
def nrm (p : Int × Int) : Nat := p.1.natAbs + p.2.natAbs
theorem nrm_add (p q : Int × Int) : nrm (p + q) ≤ nrm p + nrm q := by
  show (p.1 + q.1).natAbs + (p.2 + q.2).natAbs ≤ _
  unfold nrm; omega
theorem nrm_mul (p q : Int × Int) : nrm (p * q) ≤ nrm p * nrm q := by
  show (p.1 * q.1 - p.2 * q.2).natAbs + (p.1 * q.2 + p.2 * q.1).natAbs ≤ _
  have h1 : (p.1 * q.1 - p.2 * q.2).natAbs ≤ p.1.natAbs * q.1.natAbs + p.2.natAbs * q.2.natAbs := by rw [← Int.natAbs_mul, ← Int.natAbs_mul]; omega
  have h2 : (p.1 * q.2 + p.2 * q.1).natAbs ≤ p.1.natAbs * q.2.natAbs + p.2.natAbs * q.1.natAbs := by rw [← Int.natAbs_mul, ← Int.natAbs_mul]; omega
  unfold nrm
  rw [Nat.add_mul, Nat.mul_add, Nat.mul_add]; omega
theorem nrm_sg (n : Nat) (p : Int × Int) : nrm (Dt.sg n * p) = nrm p := by
  unfold Dt.sg
  split
  · rw [show (1 : Int × Int) * p = p by grind]
  · rw [show (-1 : Int × Int) * p = -p by grind]
    show (-p.1).natAbs + (-p.2).natAbs = _
    unfold nrm; omega
theorem nrm_sm {n T : Nat} {f : Nat → Int × Int} (h : ∀ i, i < n → 64 * nrm (f i) ≤ T) : 64 * nrm (Dt.sm n f) ≤ n * T := by
  induction n with
  | zero => show 64 * nrm (0, 0) ≤ _; simp [nrm]
  | succ n ih =>
    rw [Dt.sm]
    have h1 := ih fun i hi => h i (by omega)
    have h2 := h n (by omega)
    have h3 := nrm_add (Dt.sm n f) (f n)
    rw [Nat.succ_mul n T]; omega
theorem det_nrm {s : Nat} {M : Nat → Nat → Int × Int} {e : Nat → Nat} (hs : s ≤ 64) (h : ∀ i, i < s → ∀ j, j < s → 64 * nrm (M i j) ≤ pw (e i)) : nrm (Dt.det s M) ≤ pw (sN s e) := by
  induction s generalizing M e with
  | zero => show nrm (1, 0) ≤ pw 0; exact Nat.le_refl 1
  | succ s ih =>
    rw [Dt.det]
    have h1 := nrm_sm (n := s + 1) (T := pw (sN (s + 1) e)) (f := fun i => Dt.sg (i + s) * (M i s * Dt.det s fun r => M (Dt.skip i r))) fun i hi => by
      have hd := ih (M := fun r => M (Dt.skip i r)) (e := fun r => e (Dt.skip i r)) (by omega) fun r hr j hj => h _ (by unfold Dt.skip; split <;> omega) j (by omega)
      rw [nrm_sg]
      refine Nat.le_trans (Nat.mul_le_mul_left 64 (nrm_mul _ _)) ?_
      rw [← sN_skip (Nat.le_of_lt_succ hi) e, Nat.add_comm, pw_add, ← Nat.mul_assoc]
      exact Nat.mul_le_mul (h i hi s (by omega)) hd
    have h2 : (s + 1) * pw (sN (s + 1) e) ≤ 64 * pw (sN (s + 1) e) := Nat.mul_le_mul_right _ hs
    omega
theorem zl_nrm {b : Nat} {p : Int × Int} (h : zl b p) : 64 * nrm p ≤ pw (b + 1) := by
  have h1 := Nat.lt_of_lt_of_le (lt_pw_dig p.1.natAbs) (pw_mono h.1)
  have h2 := Nat.lt_of_lt_of_le (lt_pw_dig p.2.natAbs) (pw_mono h.2)
  rw [pw_add, show pw 1 = 4294967296 from rfl]
  unfold nrm; omega
theorem nrm_zl {b : Nat} {p : Int × Int} (h : nrm p < pw b) : zl b p := by
  unfold nrm at h
  exact ⟨dig_length_le (by omega), dig_length_le (by omega)⟩
theorem minB_of {n W T : Nat} {A : Nat → Nat → Int × Int} {b : Nat → Nat} (hn : n ≤ 64) (hT : sN n b ≤ T) (hA : ∀ i, i < n → ∀ q, q < W → zl (b i) (A i q)) : MinB n W (T + 65) A := by
  intro s f g hfg hi
  have hf : ∀ r, r < s → f r < n := fun r hr => (hfg r hr).1
  have h1 : s ≤ n := by
    have := sN_inj (b := fun _ => 1) hf hi
    rw [sN_one, sN_one] at this; omega
  have h2 := det_nrm (s := s) (M := fun i j => A (f i) (g j)) (e := fun i => b (f i) + 1) (by omega) fun i hi j hj => zl_nrm (hA _ (hf i hi) _ (hfg j hj).2)
  rw [sN_add, sN_one] at h2
  have h3 := sN_inj (b := b) hf hi
  refine nrm_zl (Nat.lt_of_le_of_lt (Nat.le_trans h2 (pw_mono (show _ ≤ T + 64 by omega))) ?_)
  rw [show T + 65 = T + 64 + 1 from rfl, pw_add (T + 64), show pw 1 = 4294967296 from rfl]
  have := pw_pos (T + 64)
  omega
/-- All its numbers' digits together. -/
def Tot (T : Nat) (Ms : List (List (Int × Int))) : Prop := ∃ b : Nat → Nat, sN Ms.length b ≤ T ∧ ∀ i (hi : i < Ms.length), Bd (b i) Ms[i]
theorem Tot.minB {T n W : Nat} {Ms : List (List (Int × Int))} (h : Tot T Ms) (hn : Ms.length = n) (h64 : n ≤ 64) : MinB n W (T + 65) (at2 Ms) := by
  subst hn
  obtain ⟨b, hT, hb⟩ := h
  refine minB_of h64 hT fun i hi q hq => ?_
  have h0 : rw_ Ms i = Ms[i] := by simp [rw_, List.getD, hi]
  unfold at2
  rw [h0]
  rcases Nat.lt_or_ge q Ms[i].length with c | c
  · have : at1 Ms[i] q = Ms[i][q] := by simp [at1, List.getD, c]
    rw [this]; exact hb i hi _ (List.getElem_mem c)
  · have : at1 Ms[i] q = (0, 0) := by simp [at1, List.getD, c]
    rw [this]; exact zl_0 _
end Go.Proofs.Ytjfjlloibmebeaa


/- gdet: lists of whole numbers; the closures that divide by a whole number; times a whole number. -/
namespace Go.Proofs.Ytjfjlloibmebeaa
open Go Go.RowKit Dig
set_option linter.unusedVariables false
/-- A list's cells hold these whole numbers. -/
def ZL (w : World) : List Value → List Int → Prop
  | [], [] => True
  | c1 :: c2 :: xs, z :: zs => ZC w (.agg #[c1, c2]) z ∧ ZL w xs zs
  | _, _ => False
theorem ZL.nil (w : World) : ZL w [] [] := trivial
theorem ZL.k' {w w' : World} (k : Kp w w') : ∀ {xs : List Value} {zs : List Int}, ZL w xs zs → ZL w' xs zs
  | [], [], _ => trivial
  | _ :: _ :: _, _ :: _, h => ⟨h.1.k k, ZL.k' k h.2⟩
  | [], _ :: _, h => h.elim
  | [_], [], h => h.elim
  | [_], _ :: _, h => h.elim
  | _ :: _ :: _, [], h => h.elim
theorem ZL.k {w w' : World} {xs : List Value} {zs : List Int} (h : ZL w xs zs) (k : Kp w w') : ZL w' xs zs := ZL.k' k h
theorem ZL.snoc {w : World} {c1 c2 : Value} {z : Int} : ∀ {xs : List Value} {zs : List Int}, ZL w xs zs → ZC w (.agg #[c1, c2]) z → ZL w (xs ++ [c1, c2]) (zs ++ [z])
  | [], [], _, h2 => ⟨h2, trivial⟩
  | _ :: _ :: _, _ :: _, h, h2 => ⟨h.1, ZL.snoc h.2 h2⟩
  | [], _ :: _, h, _ => h.elim
  | [_], [], h, _ => h.elim
  | [_], _ :: _, h, _ => h.elim
  | _ :: _ :: _, [], h, _ => h.elim
theorem ZL.len {w : World} : ∀ {xs : List Value} {zs : List Int}, ZL w xs zs → xs.length = zs.length * 2
  | [], [], _ => rfl
  | _ :: _ :: _, _ :: _, h => by have := ZL.len h.2; simp only [List.length_cons]; omega
  | [], _ :: _, h => h.elim
  | [_], [], h => h.elim
  | [_], _ :: _, h => h.elim
  | _ :: _ :: _, [], h => h.elim
theorem ZL.els {w : World} : ∀ {xs : List Value} {zs : List Int}, ZL w xs zs → ∀ i (hi : i < zs.length), ∃ n o k c, xs[i * 2]? = some (.bool n) ∧ xs[i * 2 + 1]? = some (.slice o k c) ∧ ZC w (.agg #[.bool n, .slice o k c]) zs[i]
  | _ :: _ :: _, _ :: _, h, 0, _ => by
    obtain ⟨n, o, k, c, e⟩ := h.1.open2
    simp only [Value.agg.injEq] at e
    have e1 := congrArg (·[0]?) e
    have e2 := congrArg (·[1]?) e
    simp only [List.getElem?_toArray, List.getElem?_cons_zero, List.getElem?_cons_succ, Option.some.injEq] at e1 e2
    subst e1 e2
    exact ⟨n, o, k, c, rfl, rfl, h.1⟩
  | _ :: _ :: _, _ :: _, h, i + 1, hi => by
    obtain ⟨n, o, k, c, h1, h2, h3⟩ := ZL.els h.2 i (by simpa using hi)
    refine ⟨n, o, k, c, ?_, ?_, by simpa using h3⟩
    · rw [show (i + 1) * 2 = i * 2 + 1 + 1 by omega]; simpa using h1
    · rw [show (i + 1) * 2 + 1 = i * 2 + 1 + 1 + 1 by omega]; simpa using h2
  | [], _ :: _, h, _, _ => h.elim
  | [_], _ :: _, h, _, _ => h.elim
/-- A closure that divides by a whole number without a rest: the identity (q = 1), or overWhole's. -/
def DivZ (w : World) (f : Nat) (caps : Array Value) (ds : List En) (q : Int) : Prop :=
  (f = 47 ∧ caps = #[] ∧ ds = [] ∧ q = 1) ∨
  (f = 51 ∧ ∃ p n1 o1 k1 c1, caps = #[.pointer (some ⟨p, 0, none⟩)] ∧ ds = [bx p #[.bool n1, .slice o1 k1 c1] 34] ∧ ZN w (.agg #[.bool n1, .slice o1 k1 c1]) q 10000000 ∧ q ≠ 0)
theorem DivZ.k {w w' : World} {f : Nat} {caps : Array Value} {ds : List En} {q : Int} (h : DivZ w f caps ds q) (k : Kp w w') : DivZ w' f caps ds q := by
  rcases h with h | ⟨h1, p, n1, o1, k1, c1, h2, h3, h4, h5⟩
  · exact .inl h
  · exact .inr ⟨h1, p, n1, o1, k1, c1, h2, h3, h4.k k, h5⟩
section
variable {w w0 : World} {l m k n : Nat} {va vb vq : Value} {x y u v q : Int} {bs : List En}
set_option maxHeartbeats 4000000 in
set_option maxRecDepth 20000 in
theorem ident1Z (ha : PC w va x y) : Calls Try.prog 47 (#[va] ++ #[]) w fun e w' => ∃ r, e = .returned r ∧ PC w' r x y ∧ Below w.heap.size w w' := by
  show Calls _ _ #[va] w _
  obtain ⟨n_0a, o_0a, k_0a, c_0a, n_0b, o_0b, k_0b, c_0b, rfl, ha1, ha2⟩ := ha
  go_enter Try.func47, Try.ntmps47
  have hs := St.nil w
  refine wp_seq_k ?_
  intro K1 hK1
  refine rg [0, 1] ?_
  refine sq ?_
  refine .al hs ?_; clear hs; intro p_b1 w_1 hs n1 kb_b1
  refine sq ?_
  refine .al hs ?_; clear hs; intro p_b2 w_2 hs n2 kb_b2
  apply wpSq_end
  refine hK1 _ _ ?_
  refine wp_seq_k ?_
  intro K2 hK2
  refine rg [0, 1] ?_
  refine sq ?_
  refine .r4 hs.g1.f4 ?_
  refine sq ?_
  refine .s4 hs.g0 (fun _ => hs.u0 kb_b2) ?_; clear hs; intro w_3 hs hd3 ho3
  apply wpSq_end
  refine hK2 _ _ ?_
  refine wp_ret ?_
  try dsimp only [Exit.then, Exit.inBlock]
  obtain ⟨r0_0, r0_1, r0_2, r0_3⟩ := hs.g0.f4
  refine bodyPost_ret (v := (.agg #[.bool n_0a, .slice o_0a k_0a c_0a, .bool n_0b, .slice o_0b k_0b c_0b])) (by simp [results, Try.results47, go_sem, r0_0, r0_1, r0_2, r0_3]) rfl ?_
  have k0_3 := ((kb n1).b n2).o hd3 ho3
  replace ha1 := ha1.k k0_3
  replace ha2 := ha2.k k0_3
  exact ⟨_, rfl, .mk' ha1 ha2, hs.b⟩
set_option maxRecDepth 20000 in
theorem DivZ.ent {w1 : World} {f : Nat} {caps : Array Value} {ds : List En} {q : Int} (h : DivZ w1 f caps ds q) : Ent1 f caps := by
  rcases h with ⟨rfl, rfl, rfl, rfl⟩ | ⟨rfl, p, n1, o1, k1, c1, rfl, rfl, h4, h5⟩
  · exact fun _ _ => by kernel_rfl
  · exact fun _ _ => by kernel_rfl
theorem DivZ.call {w1 : World} {f : Nat} {caps : Array Value} {ds : List En} {q x y : Int} (h : DivZ w1 f caps ds q) (hd : AllE ds w1) (ha : PC w1 va (q * x) (q * y)) (hz : zl l (q * x, q * y)) (hl : l ≤ 20000000) :
    Calls Try.prog f (#[va] ++ caps) w1 fun e w' => ∃ r, e = .returned r ∧ PC w' r x y ∧ Below w1.heap.size w1 w' := by
  rcases h with ⟨rfl, rfl, rfl, rfl⟩ | ⟨rfl, p, n1, o1, k1, c1, rfl, rfl, h4, h5⟩
  · rw [Int.one_mul, Int.one_mul] at ha
    exact ident1Z ha
  · exact overWhole1 (hd.1.1) h4 (ha.pn hz.1 hz.2) (by omega) (by omega) (by omega) h5
set_option maxHeartbeats 4000000 in
set_option maxRecDepth 20000 in
theorem overWholeS (hst : St w0 bs w) (hq : ZN w vq q l) (hl : l ≤ 10000000) (h0 : q ≠ 0) :
    Calls Try.prog 23 #[vq] w fun e w' => ∃ f caps ds, e = .returned (.func (.func f) #[] caps) ∧ DivZ w' f caps ds q ∧ St w0 (ds ++ bs) w' ∧ Kp w w' := by
  have H0 := hide h0
  clear h0
  have kk := KpF.r w
  obtain ⟨n_0, o_0, k_0, c_0, rfl⟩ := hq.open2
  go_enter Try.func23, Try.ntmps23
  have hs := hst
  clear hst
  refine wp_seq_k ?_
  intro K1 hK1
  refine rg [0, 1] ?_
  refine sq ?_
  refine .al hs ?_; clear hs; intro p_b1 w_1 hs n1 kb_b1
  refine sq ?_
  refine .mv ?_
  apply wpSq_end
  refine hK1 _ _ ?_
  refine wp_seq_k ?_
  intro K2 hK2
  refine rg [0, 1] ?_
  refine sq ?_
  refine .r0 ?_
  refine sq ?_
  refine .mv ?_
  apply wpSq_end
  refine hK2 _ _ ?_
  refine wp_ret ?_
  have k0_1 := kb n1
  replace hq := hq.k k0_1
  replace kk := kk.k k0_1
  try dsimp only [Exit.then, Exit.inBlock]
  refine bodyPost_ret (v := (.func (.func 51) #[] #[(.pointer (some ⟨p_b1, 0, none⟩))])) (by simp [results, Try.results23, go_sem]) rfl ?_
  exact ⟨_, _, _, rfl, .inr ⟨rfl, _, _, _, _, _, rfl, rfl, hq.up hl, H0.out⟩, hs, kk.kp⟩
set_option maxHeartbeats 4000000 in
set_option maxRecDepth 20000 in
theorem timesWhole_any (ha : PN w va x l y m) (hq : ZN w vb q k) (hl : l ≤ 40000000) (hm : m ≤ 40000000) (hk : k ≤ 40000000) :
    Calls Try.prog 22 #[va, vb] w fun e w' => ∃ r, e = .returned r ∧ PC w' r (x * q) (y * q) ∧ Below w.heap.size w w' := by
  obtain ⟨n_0a, o_0a, k_0a, c_0a, n_0b, o_0b, k_0b, c_0b, rfl, ha1, ha2⟩ := ha
  obtain ⟨n_1, o_1, k_1, c_1, rfl⟩ := hq.open2
  go_enter Try.func22, Try.ntmps22
  have hs := St.nil w
  refine wp_seq_k ?_
  intro K1 hK1
  refine rg [0, 1, 2] ?_
  refine sq ?_
  refine .al hs ?_; clear hs; intro p_b1 w_1 hs n1 kb_b1
  refine sq ?_
  refine .al hs ?_; clear hs; intro p_b2 w_2 hs n2 kb_b2
  refine sq ?_
  refine .al hs ?_; clear hs; intro p_b3 w_3 hs n3 kb_b3
  apply wpSq_end
  refine hK1 _ _ ?_
  refine wp_seq_k ?_
  intro K2 hK2
  refine wp_region_f4 [(0, false), (1, false), (2, false), (4, false), (5, false), (6, false), (3, true), (7, true), (8, false)] [9] [] (fun _ => default) [99, 0, 1, 99, 99, 0, 1, 99, 99, 99] [] (.c hs.g2 (.c hs.g1 .n)) fn fun w_4 n4 => ?_
  replace hs := hs.bl n4
  refine f0 ?_
  refine f4 ?_
  refine f2 ?_
  refine f0 ?_
  refine f4 ?_
  refine f2 ?_
  refine fl fun w_5 n5 => ?_
  replace hs := hs.bl n5
  intro K hK
  have k0_5 := ((((kb n1).b n2).b n3).b n4).b n5
  replace ha1 := ha1.k k0_5
  replace hq := hq.k k0_5
  go_big_op
  go_fit (zmul_any ha1 hq (by omega) (by omega) )
  rintro e w_6 ⟨v_f, rfl, f, hb_6⟩
  replace hs := hs.bl hb_6
  replace f := f.rd
  obtain ⟨n_f, o_f, k_f, c_f, rfl⟩ := f.open2
  have Lf := hide (f.lenOf (zlen_mul (ha1.len) (hq.len)))
  refine hK _ _ rfl ⟨hb_6, (And.intro hs.g2 (And.intro hs.g1 trivial))⟩ ?_
  clear hK K
  refine fl fun w_7 n7 => ?_
  replace hs := hs.bl n7
  intro K hK
  have k0_7 := (k0_5.b hb_6).b n7
  replace ha2 := ha2.k k0_7
  have k5_7 := (kb hb_6).b n7
  replace hq := hq.k k5_7
  go_big_op
  go_fit (zmul_any ha2 hq (by omega) (by omega) )
  rintro e w_8 ⟨v_g, rfl, g, hb_8⟩
  replace hs := hs.bl hb_8
  replace g := g.rd
  obtain ⟨n_g, o_g, k_g, c_g, rfl⟩ := g.open2
  have Lg := hide (g.lenOf (zlen_mul (ha2.len) (hq.len)))
  refine hK _ _ rfl ⟨hb_8, (And.intro hs.g2 (And.intro hs.g1 trivial))⟩ ?_
  clear hK K
  refine f0 ?_
  refine e0 hs ?_; clear hs; intro w_9 hs n9
  refine tl ?_
  refine .s4 hs.g0 (fun _ => hs.u0 kb_b3) ?_ (e := fun _ hs => (And.intro hs.g2 (And.intro hs.g1 True.intro))); clear hs; intro w_10 hs hd10 ho10
  apply wpTail_end
  refine hK2 _ _ ?_
  refine wp_ret ?_
  have k6_10 := (((kb n7).b hb_8).b n9).o hd10 ho10
  replace f := f.k k6_10
  have k8_10 := (kb n9).o hd10 ho10
  replace g := g.k k8_10
  try dsimp only [Exit.then, Exit.inBlock]
  obtain ⟨r0_0, r0_1, r0_2, r0_3⟩ := hs.g0.f4
  refine bodyPost_ret (v := (.agg #[.bool n_f, .slice o_f k_f c_f, .bool n_g, .slice o_g k_g c_g])) (by simp [results, Try.results22, go_sem, r0_0, r0_1, r0_2, r0_3]) rfl ?_
  exact ⟨_, rfl, .mk' f g, hs.b⟩
end
end Go.Proofs.Ytjfjlloibmebeaa


/- gdet: eliminate by whole pivots. -/
namespace Go.Proofs.Ytjfjlloibmebeaa
open Go Go.RowKit Dig
set_option linter.unusedVariables false
def pvz (A : Nat → Nat → Int × Int) (k : Nat) : List Int := (List.range k).map fun m => (Dt.det (m + 1) A).1
theorem pvz_succ {A : Nat → Nat → Int × Int} {k : Nat} : pvz A (k + 1) = pvz A k ++ [(Dt.det (k + 1) A).1] := by unfold pvz; rw [List.range_succ, List.map_append]; rfl
theorem pvz_len {A : Nat → Nat → Int × Int} {k : Nat} : (pvz A k).length = k := by simp [pvz]
/-- A closure that tells a table's pivots as they stand. -/
def PivZ (w0 : World) (f : Nat) (bnd caps : Array Value) (o : Option Addr) (n c pt W : Nat) (A : Nat → Nat → Int × Int) (Fin : Nat → Prop) : Prop :=
  ∀ (k : Nat) (w : World) (F : Nat → Nat → Int × Int) (rs : List Rw) (bs : List En), k ≤ n → Agr n W k A F → (∀ m, m ≤ k → Dt.det m A ≠ 0) → rs.length = n → RD w rs (mkM n W F) →
    St w0 (ls w0.heap.size 39 1 (.slice o n c) n (rs.map (·.v)) :: bx pt #[.slice o n c] 23 :: (bs ++ rs.map (Rw.e w0.heap.size))) w →
    Calls Try.prog f (bnd.push (.int .i64 (k : Int)) ++ caps) w fun e w' => ∃ v fd p, e = .returned (.tuple #[v, .bool fd]) ∧ ZC w' v p ∧
      ((fd = true ∧ k < n ∧ k < W ∧ (p, 0) = Dt.D k A k k ∧ p ≠ 0) ∨ (fd = false ∧ Fin k)) ∧ RD w' rs (mkM n W F) ∧
      St w0 (ls w0.heap.size 39 1 (.slice o n c) n (rs.map (·.v)) :: bx pt #[.slice o n c] 23 :: (bs ++ rs.map (Rw.e w0.heap.size))) w' ∧ Kp w w'
section
variable {w w0 : World} {f pt n c W L : Nat} {bnd caps : Array Value} {o : Option Addr} {rs : List Rw} {bs : List En} {A : Nat → Nat → Int × Int} {Fin : Nat → Prop}
set_option maxHeartbeats 8000000 in
set_option maxRecDepth 20000 in
theorem elimZ_any (hst : St w0 (ls w0.heap.size 39 1 (.slice o n c) n (rs.map (·.v)) :: bx pt #[.slice o n c] 23 :: (bs ++ rs.map (Rw.e w0.heap.size))) w)
    (kb_bt : Hid (w0.heap.size ≤ pt)) (hf : EntP f bnd caps) (hpv : PivZ w0 f bnd caps o n c pt W A Fin) (hrl : rs.length = n) (hd : RD w rs (mkM n W A)) (hn : n ≤ 1000) (hW : W ≤ 1000) (hre : ∀ k, (Dt.det k A).2 = 0)
    (hB : ∀ m, ∀ i, i < n → ∀ j, j < W → zl L (Dt.D m A i j)) (hL : L ≤ 3000000) :
    Calls Try.prog 19 #[.slice o n c, .func (.func f) bnd caps, .func (.func 22) #[] #[], .func (.func 23) #[] #[]] w fun e w' => ∃ o9 c9 xs r F' rs', e = .returned (.slice o9 r c9) ∧ r ≤ n ∧ Fin r ∧ (∀ m, m ≤ r → Dt.det m A ≠ 0) ∧ ZL w' xs (pvz A r) ∧ rs'.length = n ∧ RD w' rs' (mkM n W F') ∧
      St w0 (ls w0.heap.size 34 2 (.slice o9 r c9) r xs :: ls w0.heap.size 39 1 (.slice o n c) n (rs'.map (·.v)) :: bx pt #[.slice o n c] 23 :: (bs ++ rs'.map (Rw.e w0.heap.size))) w' ∧ Kp w w' := by
  have kk := KpF.r w
  have HPV := hide hpv
  have HL4 := hide (show L ≤ 40000000 by omega)
  have HL5 := hide (show L + L + 1 ≤ 100000000 by omega)
  have HL6 := hide (show L + L + 2 ≤ 20000000 by omega)
  have HBD := hide hB
  have HRE := hide hre
  have HQ0 := hide (show ∀ m, m ≤ 0 → Dt.det m A ≠ 0 from fun m hm => by rw [Nat.le_zero.1 hm]; exact (by decide : ((1, 0) : Int × Int) ≠ 0))
  have HA0 := hide (show Agr n W 0 A A from fun i _ j _ _ _ => Dt.D_0.symm)
  clear hpv hB hre
  unfold EntP at hf
  go_enter Try.func19, Try.ntmps19
  have hs := hst
  clear hst
  refine wp_seq_k ?_
  intro K1 hK1
  refine rg [0] ?_
  refine sq ?_
  refine .mv ?_
  apply wpSq_end
  refine hK1 _ _ ?_
  refine wp_scope_k 9 ?_
  intro S hSr hSn hSg
  refine wp_seq_k ?_
  intro K2 hK2
  refine rg [0] ?_
  refine sq ?_
  refine .mv ?_
  apply wpSq_end
  refine hK2 _ _ ?_
  refine wp_seq_k ?_
  intro K3 hK3
  refine rg [0] ?_
  refine sq ?_
  refine .r0 ?_
  apply wpSq_end
  refine hK3 _ _ ?_
  refine wp_seq_k ?_
  intro K4 hK4
  refine wp_label ?_
  refine hK4 _ _ ?_
  refine wp_seq_k ?_
  intro K5 hK5
  refine wp_seq_k ?_
  intro K6 hK6
  refine rg [0] ?_
  refine sq ?_
  refine .mv ?_
  apply wpSq_end
  refine hK6 _ _ ?_
  refine wp_block ?_
  have hd1 := hs.2.1
  go_loopg [9, 10, 11] n (fun kz s9 s10 s11 wr => ∃ (k : Nat) (F : Nat → Nat → Int × Int) (rs : List Rw) (fz2 : Nat) (caps2 : Array Value) (o9 : Option Addr) (c9 : Nat) (xs : List Value), s11 = .int .i64 (k : Int) ∧ s10 = .func (.func fz2) #[] caps2 ∧ s9 = .slice o9 k c9 ∧ k + kz = n ∧ Hid (k = 0 → fz2 = 47 ∧ caps2 = #[]) ∧ Hid (∀ m, m ≤ k → Dt.det m A ≠ 0) ∧ Hid (Agr n W k A F) ∧ rs.length = n ∧ RD wr rs (mkM n W F) ∧ ZL wr xs (pvz A k) ∧ KpF w wr ∧
    St w0 (ls w0.heap.size 39 1 (.slice o n c) n (rs.map (·.v)) :: bx pt #[.slice o n c] 23 :: ls w0.heap.size 34 2 (.slice o9 k c9) k xs :: (bs ++ rs.map (Rw.e w0.heap.size))) wr)
  case atStart => exact ⟨0, A, rs, 47, #[], none, 0, [], rfl, rfl, rfl, by omega, hide (fun _ => ⟨rfl, rfl⟩), HQ0, HA0, hrl, hd, ZL.nil _, kk, (hs.l0 _ _).perm ((List.Perm.swap _ _ _).trans (List.Perm.cons _ (List.Perm.swap _ _ _)))⟩
  case round =>
  clear HQ0 HA0 hrl
  clear kk hd hs
  obtain ⟨k, F, rs, fz2, caps2, o9, c9, xs, rfl, rfl, rfl, hkn, HID, HQ, HA, hrl, hd, hL9, kk, hs⟩ := hrel
  have HO := ‹∀ (a' : Act) (w' : World), Handed _ _ a' w' → _›
  obtain ⟨g1, hg1⟩ : ∃ g, gk = g := ⟨_, rfl⟩
  refine wp_seq_k ?_
  intro K7 hK7
  refine wp_block ?_
  refine wp_seq_k ?_
  intro K8 hK8
  refine rg [0, 1, 2, 3, 4, 5, 6, 7, 8] ?_
  refine sq ?_
  refine .mv ?_
  refine sq ?_
  refine .mv ?_
  refine sq ?_
  intro K hK
  go_big_op
  go_fit (HPV.out k _ F rs (ls w0.heap.size 34 2 (.slice o9 k c9) k xs :: bs) (by omega) HA.out HQ.out hrl hd hs)
  have bb2 := hs.b
  rintro e w_2 ⟨v_p, fd, P, rfl, p, HP, hd2, hs', kp2⟩
  clear hs; have hs := hs'; clear hs'
  have bc2 := hs.b
  clear bb2 bc2
  obtain ⟨n_p, o_p, k_p, c_p, rfl⟩ := p.open2
  refine hK _ _ rfl trivial ?_
  clear hK K
  refine sq ?_
  refine .mv ?_
  refine sq ?_
  refine .r0 ?_
  refine sq ?_
  refine .r0 ?_
  refine sq ?_
  refine .al hs ?_; clear hs; intro p_b1 w_3 hs n3 kb_b1
  refine sq ?_
  refine .s2 hs.g0 (fun _ => hs.u0 kb_b1) ?_; clear hs; intro w_4 hs hd4 ho4
  refine sq ?_
  refine .mv ?_
  apply wpSq_end
  refine hK8 _ _ ?_
  refine wp_seq_k ?_
  intro K9 hK9
  refine wp_block ?_
  refine wp_seq_k ?_
  intro K10 hK10
  refine rg [0, 1, 2] ?_
  refine sq ?_
  refine .mv ?_
  refine sq ?_
  refine .r0 ?_
  refine sq ?_
  refine .mv ?_
  apply wpSq_end
  refine hK10 _ _ ?_
  rcases HP with ⟨rfl, hkn2, hkW, hP, hP0⟩ | ⟨rfl, hFin⟩
  · have HDT := hide (HQ.out k (Nat.le_refl _))
    have HKN := hide hkn2
    have HKW := hide hkW
    have HPE := hide hP
    have HQ2 := hide (show ∀ m, m ≤ k + 1 → Dt.det m A ≠ 0 from fun m hm => by
      rcases Nat.lt_or_ge k m with c | c
      · obtain rfl : m = k + 1 := by omega
        rw [← Dt.D_diag, ← hP]; exact fun h => hP0 (congrArg Prod.fst h)
      · exact HQ.out m c)
    have LP := hide (show (dig P.natAbs).length ≤ L by
      have := (HBD.out k k hkn2 k hkW).1
      rw [← hP] at this; exact this)
    clear hP hP0
    refine cf ?_
    refine wp_seq_k ?_
    intro K11 hK11
    refine rg [0, 1, 2] ?_
    refine sq ?_
    refine .mv ?_
    refine sq ?_
    refine .r0 ?_
    refine sq ?_
    refine .mv ?_
    apply wpSq_end
    refine hK11 _ _ ?_
    by_cases hk0 : k = 0
    · have t1 : k < 1 := by omega
      have hdv : DivZ w_4 fz2 caps2 [] (Dt.det k A).1 := by
        obtain ⟨e1, e2⟩ := HID.out hk0
        exact .inl ⟨e1, e2, rfl, by rw [hk0]; rfl⟩
      clear hk0
      refine cf ?_
      refine wp_skip ?_
      refine hK9 _ _ ?_
      refine wp_seq_k ?_
      intro K12 hK12
      refine wp_seq_k ?_
      intro K13 hK13
      refine rg [0, 1, 2, 3, 4, 5] ?_
      refine sq ?_
      refine .mv ?_
      refine sq ?_
      refine .mv ?_
      refine sq ?_
      refine .r0 ?_
      refine sq ?_
      refine .r0 ?_
      refine sq ?_
      refine .r0 ?_
      refine sq ?_
      refine .mv ?_
      apply wpSq_end
      refine hK13 _ _ ?_
      refine wp_block ?_
      generalize hoT : (@ite (Option Addr) (c = k + 1) _ o _) = oT
      have HT := hide hoT
      clear hoT
      have hs := hs.perm ((List.Perm.swap _ _ _).trans (List.Perm.cons _ ((List.Perm.swap _ _ _).trans (List.Perm.cons _ (List.Perm.swap _ _ _)))))
      have k1_3 := (kb n3).o hd4 ho4
      replace hd2 := hd2.k k1_3
      replace p := p.k k1_3
      have k0_3 := (kp2.b n3).o hd4 ho4
      replace hL9 := hL9.k k0_3
      replace kk := kk.k k0_3
      have hd5 := hs.2.1
      go_loopg [43] (n - (k + 1)) (fun kz s43 wr => ∃ (q : Nat) (rs : List Rw), s43 = .int .i64 (q : Int) ∧ q + kz = n - (k + 1) ∧ rs.length = n ∧ RD wr rs (mkM n W (Elm k A F (k + 1 + q) (k + 1))) ∧ ZC wr (.agg #[.bool n_p, .slice o_p k_p c_p]) P ∧ ZL wr xs (pvz A k) ∧ DivZ wr fz2 caps2 ([] : List En) (Dt.det k A).1 ∧ KpF w wr ∧
        St w0 (ls w0.heap.size 39 1 (.slice o n c) n (rs.map (·.v)) :: bx pt #[.slice o n c] 23 :: ls w0.heap.size 34 2 (.slice o9 k c9) k xs :: bx p_b1 #[.bool n_p, .slice o_p k_p c_p] 34 :: ((([] : List En) ++ bs) ++ rs.map (Rw.e w0.heap.size))) wr)
      case atStart => exact ⟨0, rs, rfl, by omega, hrl, by rw [Nat.add_zero, ← Elm_0]; exact hd2, p, hL9, hdv, kk, hs⟩
      case round =>
      clear hL9 hd kk p hd2 hdv hs
      obtain ⟨q, rs, rfl, hqn, hrl, hd, z5, hL9, hdv, kk, hs⟩ := hrel
      have HO2 := ‹∀ (a' : Act) (w' : World), Handed _ _ a' w' → _›
      obtain ⟨g2, hg2⟩ : ∃ g, gk = g := ⟨_, rfl⟩
      have Lz5 := hide LP.out
      by_cases hq : q < n - (k + 1)
      · have HQQ := hide hq
        have HI := hide (show k + 1 + q < n by omega)
        obtain ⟨oi, ci, hvi⟩ := hs.rowv (bs := bx pt #[.slice o n c] 23 :: ls w0.heap.size 34 2 (.slice o9 k c9) k xs :: bx p_b1 #[.bool n_p, .slice o_p k_p c_p] 34 :: (([] : List En) ++ bs)) hd (p := k + 1 + q) (K := W) (by rw [len_mkM]; omega) (by rw [mkM_row (by omega)]; simp)
        have LO : Lst wr w0.heap.size 39 1 (.slice o n c) n _ := hs.1.1.1
        obtain ⟨gO, curO, rfl, xO, hcO⟩ := LO.box (by omega)
        have eI := hcO _ _ hvi
        have hcap := LO.capn
        obtain rfl : oT = some ⟨gO, k + 1, none⟩ := by
          have := HT.out
          rw [if_neg (by omega)] at this
          rw [← this]; simp
        clear LO hcO HT
        refine wp_seq_k ?_
        intro K14 hK14
        refine rg [0] ?_
        refine sq ?_
        refine .r0 ?_
        apply wpSq_end
        refine hK14 _ _ ?_
        refine wp_seq_k ?_
        intro K15 hK15
        refine ct ?_
        refine wp_skip ?_
        refine hK15 _ _ ?_
        refine wp_seq_k ?_
        intro K16 hK16
        refine wp_block ?_
        refine wp_seq_k ?_
        intro K17 hK17
        refine rg [0, 1, 2] ?_
        refine sq ?_
        refine .r0 ?_
        refine sq ?_
        refine .r1 (xO.cell _ eI) ?_
        refine sq ?_
        refine .mv ?_
        apply wpSq_end
        refine hK17 _ _ ?_
        refine wp_seq_k ?_
        intro K18 hK18
        refine rg [0, 1, 2] ?_
        refine sq ?_
        refine .mv ?_
        refine sq ?_
        refine .r0 ?_
        refine sq ?_
        refine .mv ?_
        apply wpSq_end
        refine hK18 _ _ ?_
        refine wp_block ?_
        have hd6 := hs.2.1
        go_loopg [16] (W - (k + 1)) (fun kz s16 wr => ∃ (j : Nat) (rs : List Rw), s16 = .int .i64 (j : Int) ∧ j + kz = W ∧ k + 1 ≤ j ∧ rs.length = n ∧ RD wr rs (mkM n W (Elm k A F (k + 1 + q) j)) ∧ (rs.map (·.v))[k + 1 + q]? = some (.slice oi W ci) ∧ ZC wr (.agg #[.bool n_p, .slice o_p k_p c_p]) P ∧ ZL wr xs (pvz A k) ∧ DivZ wr fz2 caps2 ([] : List En) (Dt.det k A).1 ∧ KpF w wr ∧
          St w0 (ls w0.heap.size 39 1 (.slice (some ⟨gO, 0, none⟩) n c) n (rs.map (·.v)) :: bx pt #[.slice (some ⟨gO, 0, none⟩) n c] 23 :: ls w0.heap.size 34 2 (.slice o9 k c9) k xs :: bx p_b1 #[.bool n_p, .slice o_p k_p c_p] 34 :: ((([] : List En) ++ bs) ++ rs.map (Rw.e w0.heap.size))) wr)
        case atStart => exact ⟨k + 1, rs, by rfl, by omega, Nat.le_refl _, hrl, hd, hvi, z5, hL9, hdv, kk, hs⟩
        case round =>
        clear hrl hvi
        clear z5 hL9 hd kk hdv xO hs
        obtain ⟨j, rs, rfl, hjW, hkj, hrl, hd, hri, z5, hL9, hdv, kk, hs⟩ := hrel
        have HRI := hide hri
        clear hri
        have Lz5 := hide LP.out
        by_cases hj : j < W
        · have HJ := hide hj
          obtain ⟨a, gp, cp, xp, b, gq, cq, xq, r2, rfl, hab, hvp, hvq, hxp, hxq, hs⟩ := hs.rows2 (bs := bx pt #[.slice (some ⟨gO, 0, none⟩) n c] 23 :: ls w0.heap.size 34 2 (.slice o9 k c9) k xs :: bx p_b1 #[.bool n_p, .slice o_p k_p c_p] 34 :: (([] : List En) ++ bs)) hd (p := k) (q := k + 1 + q) (K := W) (by omega) (by rw [len_mkM]; exact HI.out) (by rw [mkM_row HKN.out]; simp) (by rw [mkM_row HI.out]; simp) (by omega)
          have hri := HRI.out
          rw [hvq] at hri
          simp only [Option.some.injEq, Value.slice.injEq, true_and] at hri
          obtain ⟨rfl, rfl⟩ := hri
          have LO : Lst wr w0.heap.size 39 1 (.slice (some ⟨gO, 0, none⟩) n c) n _ := hs.1.2.2.1.1
          obtain ⟨gO', curO, eO', xO, hcO⟩ := LO.box (by have := HI.out; omega)
          simp only [Option.some.injEq, Addr.mk.injEq, and_true] at eO'
          obtain rfl : gO = gO' := eO'
          have eK := hcO _ _ hvp
          have LQ : Lst wr w0.heap.size 41 4 (.slice (some ⟨gq, 0, none⟩) W cq) W xq := hs.1.1.1
          obtain ⟨gq', curQ, eQ, xQ, hcQ⟩ := LQ.box (by omega)
          simp only [Option.some.injEq, Addr.mk.injEq, and_true] at eQ
          obtain rfl : gq = gq' := eQ
          have LPr : Lst wr w0.heap.size 41 4 (.slice (some ⟨gp, 0, none⟩) W cp) W xp := hs.1.2.1.1
          obtain ⟨gp', curP, eP, xP, hcP⟩ := LPr.box (by omega)
          simp only [Option.some.injEq, Addr.mk.injEq, and_true] at eP
          obtain rfl : gp = gp' := eP
          have hxq2 := hxq
          rw [mkM_row HI.out] at hxq2
          rw [mkM_row HKN.out] at hxp
          obtain ⟨a1, a2, a3, a4, a5, a6, a7, a8, e1, e2, e3, e4, x1, x2⟩ := hxq2.els j (by simpa using hj)
          obtain ⟨b1, b2, b3, b4, b5, b6, b7, b8, e5, e6, e7, e8, y1, y2⟩ := hxq2.els k (by simpa using HKW.out)
          obtain ⟨d1, d2, d3, d4, d5, d6, d7, d8, e9, e10, e11, e12, y3, y4⟩ := hxp.els j (by simpa using hj)
          rw [show ((List.range W).map (Elm k A F (k + 1 + q) j (k + 1 + q)))[j]'(by simpa using hj) = F (k + 1 + q) j by simp [Elm_here]] at x1 x2
          rw [show ((List.range W).map (Elm k A F (k + 1 + q) j (k + 1 + q)))[k]'(by simpa using HKW.out) = F (k + 1 + q) k by simp [Elm_k]] at y1 y2
          rw [show ((List.range W).map (Elm k A F (k + 1 + q) j k))[j]'(by simpa using hj) = F k j by simp [Elm_up]] at y3 y4
          have EE := hide (Elm_div HA.out HI.out hj (by omega) (by omega) HKN.out HKW.out HDT.out)
          have LX : zl L (F (k + 1 + q) j) := by rw [HA.out _ HI.out j hj (by omega) (by omega)]; exact HBD.out k _ HI.out j hj
          have LY : zl L (F (k + 1 + q) k) := by rw [HA.out _ HI.out k HKW.out (by omega) (by omega)]; exact HBD.out k _ HI.out k HKW.out
          have LU : zl L (F k j) := by rw [HA.out k HKN.out j hj (by omega) (by omega)]; exact HBD.out k k HKN.out j hj
          replace x1 := x1.zn LX.1
          replace x2 := x2.zn LX.2
          replace y1 := y1.zn LY.1
          replace y2 := y2.zn LY.2
          replace y3 := y3.zn LU.1
          replace y4 := y4.zn LU.2
          replace e1 := hcQ _ _ e1
          replace e2 := hcQ _ _ e2
          replace e3 := hcQ _ _ e3
          replace e4 := hcQ _ _ e4
          replace e5 := hcQ _ _ e5
          replace e6 := hcQ _ _ e6
          replace e7 := hcQ _ _ e7
          replace e8 := hcQ _ _ e8
          replace e9 := hcP _ _ e9
          replace e10 := hcP _ _ e10
          replace e11 := hcP _ _ e11
          replace e12 := hcP _ _ e12
          obtain ⟨X, hX⟩ : ∃ X, F (k + 1 + q) j = X := ⟨_, rfl⟩
          obtain ⟨Y, hY⟩ : ∃ Y, F (k + 1 + q) k = Y := ⟨_, rfl⟩
          obtain ⟨U, hU⟩ : ∃ U, F k j = U := ⟨_, rfl⟩
          obtain ⟨V, hV⟩ : ∃ V : Int, Dt.det k A = (V, 0) := ⟨_, Prod.ext rfl (HRE.out k)⟩
          have HT := hide (Elm_step (k := k) (A := A) (F := F) (i := k + 1 + q) (j := j) (by omega) (by omega))
          have HTZ := hide (show True from trivial)
          obtain ⟨Z, hZ⟩ : ∃ Z, Dt.D (k + 1) A (k + 1 + q) j = Z := ⟨_, rfl⟩
          have E3 := EE.out
          rw [← HPE.out, hX, hY, hU, hV, hZ] at E3
          rw [hX] at x1 x2 LX
          rw [hY] at y1 y2 LY
          rw [hU] at y3 y4 LU
          rw [show (Dt.det k A).1 = V by rw [hV]] at hdv
          have HTS := HT.out
          rw [hZ] at HTS
          have HS := hide HTS
          have HV := hide hV
          have E1 := hide (show X.1 * P - (Y.1 * U.1 - Y.2 * U.2) = V * Z.1 by have := congrArg Prod.fst E3; simp only [sP, mP] at this; grind)
          have E2 := hide (show X.2 * P - (Y.1 * U.2 + Y.2 * U.1) = V * Z.2 by have := congrArg Prod.snd E3; simp only [sP, mP] at this; grind)
          have LM := hide (show zl (L + L + 1) (X.1 * P, X.2 * P) from ⟨Nat.le_trans (zlen_mul LX.1 LP.out) (by omega), Nat.le_trans (zlen_mul LX.2 LP.out) (by omega)⟩)
          have LN := hide (show zl (L + L + 1) (mP Y U) from zl_mP LY LU)
          have LZ := hide (show zl (L + L + 2) (V * Z.1, V * Z.2) by rw [← E1.out, ← E2.out]; exact zl_sPx LM.out LN.out)
          have hent := hdv.ent
          unfold Ent1 at hent
          clear LO hcO hvp hvq LQ hcQ hxq2 LPr hcP hxp hX hY hU hV hZ EE HT E3 LX LY LU HTS HRI
          refine wp_seq_k ?_
          intro K19 hK19
          refine wp_seq_k ?_
          intro K20 hK20
          refine rg [0, 1, 2, 3] ?_
          refine sq ?_
          refine .mv ?_
          refine sq ?_
          refine .mv ?_
          refine sq ?_
          refine .r0 ?_
          refine sq ?_
          refine .r0 ?_
          apply wpSq_end
          refine hK20 _ _ ?_
          refine ct ?_
          refine wp_skip ?_
          refine hK19 _ _ ?_
          refine wp_seq_k ?_
          intro K21 hK21
          refine wp_block ?_
          refine wp_region_f4 [(0, false), (1, false), (2, false), (3, false), (4, false), (5, false), (6, false), (7, false), (8, false), (10, false), (11, false), (12, false), (13, false), (14, false), (15, false), (16, false), (17, false), (18, false), (19, false), (20, false), (9, true), (21, true), (22, true), (23, true), (24, false)] [25] [] (fun _ => default) [99, 99, 99, 99, 99, 99, 99, 0, 1, 99, 99, 99, 99, 0, 99, 99, 99, 2, 99, 99, 3, 99, 99, 99, 99, 99] [(25, 0)] (.c xQ (.c hs.g5 (.c xO (.c xP .n)))) fn fun w_7 n7 => ?_
          replace xO := xO.bl n7; replace xQ := xQ.bl n7; replace xP := xP.bl n7; replace hs := hs.bl n7
          refine fmv ?_
          refine fmv ?_
          refine fmv ?_
          refine fmv ?_
          refine fmv ?_
          refine fmv ?_
          refine f0 ?_
          apply wpFl_ld rfl rfl; (case h1 => intro w' hC K hK; have c0 := Bs.cell hC ((j * 4)) e1; have c1 := Bs.cell hC ((j * 4) + 1) e2; have c2 := Bs.cell hC ((j * 4) + 2) e3; have c3 := Bs.cell hC ((j * 4) + 3) e4; go_big_op; exact hK); iterate 4 kernel_rfl
          refine f2 ?_
          refine fmv ?_
          refine fmv ?_
          refine f0 ?_
          apply wpFl_ld rfl rfl; (case h1 => intro w' hC K hK; have c0 := Bs.cell hC ((k * 4)) e5; have c1 := Bs.cell hC ((k * 4) + 1) e6; have c2 := Bs.cell hC ((k * 4) + 2) e7; have c3 := Bs.cell hC ((k * 4) + 3) e8; go_big_op; exact hK); iterate 4 kernel_rfl
          refine fmv ?_
          refine fmv ?_
          refine f0 ?_
          apply wpFl_ld rfl rfl; (case h1 => intro w' hC K hK; have c0 := Bs.cell hC (k) eK; go_big_op; exact hK); iterate 4 kernel_rfl
          refine fmv ?_
          refine f0 ?_
          apply wpFl_ld rfl rfl; (case h1 => intro w' hC K hK; have c0 := Bs.cell hC ((j * 4)) e9; have c1 := Bs.cell hC ((j * 4) + 1) e10; have c2 := Bs.cell hC ((j * 4) + 2) e11; have c3 := Bs.cell hC ((j * 4) + 3) e12; go_big_op; exact hK); iterate 4 kernel_rfl
          refine fl fun w_8 n8 => ?_
          replace xO := xO.bl n8; replace xQ := xQ.bl n8; replace xP := xP.bl n8; replace hs := hs.bl n8
          intro K hK
          have k0_2 := (kb n7).b n8
          replace x1 := x1.k k0_2
          replace x2 := x2.k k0_2
          replace z5 := z5.k k0_2
          go_big_op
          go_fit (timesWhole_any (.mk' x1 x2) (z5.zn Lz5.out) HL4.out HL4.out HL4.out)
          rintro e w_9 ⟨_, rfl, ⟨n_fa, o_fa, k_fa, c_fa, n_fb, o_fb, k_fb, c_fb, rfl, f1, f2⟩, hb_9⟩
          replace xO := xO.bl hb_9; replace xQ := xQ.bl hb_9; replace xP := xP.bl hb_9; replace hs := hs.bl hb_9
          have Lf1 := hide (f1.lenOf (LM.out.1))
          have Lf2 := hide (f2.lenOf (LM.out.2))
          refine hK _ _ rfl ⟨hb_9, (And.intro xQ (And.intro hs.g5 (And.intro xO (And.intro xP trivial))))⟩ ?_
          clear hK K
          refine fl fun w_10 n10 => ?_
          replace xO := xO.bl n10; replace xQ := xQ.bl n10; replace xP := xP.bl n10; replace hs := hs.bl n10
          intro K hK
          have k0_4 := (k0_2.b hb_9).b n10
          replace y1 := y1.k k0_4
          replace y2 := y2.k k0_4
          replace y3 := y3.k k0_4
          replace y4 := y4.k k0_4
          go_big_op
          go_fit (gMul_any (.mk' y1 y2) (.mk' y3 y4) HL4.out HL4.out HL4.out HL4.out)
          rintro e w_11 ⟨_, rfl, ⟨n_ga, o_ga, k_ga, c_ga, n_gb, o_gb, k_gb, c_gb, rfl, g1, g2⟩, hb_11⟩
          replace xO := xO.bl hb_11; replace xQ := xQ.bl hb_11; replace xP := xP.bl hb_11; replace hs := hs.bl hb_11
          have Lg1 := hide (g1.lenOf (LN.out.1))
          have Lg2 := hide (g2.lenOf (LN.out.2))
          refine hK _ _ rfl ⟨hb_11, (And.intro xQ (And.intro hs.g5 (And.intro xO (And.intro xP trivial))))⟩ ?_
          clear hK K
          refine fl fun w_12 n12 => ?_
          replace xO := xO.bl n12; replace xQ := xQ.bl n12; replace xP := xP.bl n12; replace hs := hs.bl n12
          intro K hK
          have k3_6 := ((kb n10).b hb_11).b n12
          replace f1 := f1.k k3_6
          replace f2 := f2.k k3_6
          have k5_6 := kb n12
          replace g1 := g1.k k5_6
          replace g2 := g2.k k5_6
          go_big_op
          go_fit (gSub_any (.mk' (f1.zn Lf1.out) (f2.zn Lf2.out)) (.mk' (g1.zn Lg1.out) (g2.zn Lg2.out)) HL5.out HL5.out HL5.out HL5.out)
          rintro e w_13 ⟨_, rfl, ⟨n_sa, o_sa, k_sa, c_sa, n_sb, o_sb, k_sb, c_sb, rfl, s1, s2⟩, hb_13⟩
          replace xO := xO.bl hb_13; replace xQ := xQ.bl hb_13; replace xP := xP.bl hb_13; replace hs := hs.bl hb_13
          rw [E1.out] at s1
          rw [E2.out] at s2
          refine hK _ _ rfl ⟨hb_13, (And.intro xQ (And.intro hs.g5 (And.intro xO (And.intro xP trivial))))⟩ ?_
          clear hK K
          refine fl fun w_14 n14 => ?_
          replace xO := xO.bl n14; replace xQ := xQ.bl n14; replace xP := xP.bl n14; replace hs := hs.bl n14
          intro K hK
          have k0_8 := (((k0_4.b hb_11).b n12).b hb_13).b n14
          replace hdv := hdv.k k0_8
          have k7_8 := kb n14
          replace s1 := s1.k k7_8
          replace s2 := s2.k k7_8
          go_big_op
          go_fit (hdv.call (hs.sub (.cons _ (.cons _ (.cons _ (.cons _ (.cons _ (.cons _ ((List.sublist_append_left ([] : List En) bs).trans (List.sublist_append_left _ _))))))))).1 (.mk' s1 s2) LZ.out HL6.out)
          rintro e w_15 ⟨_, rfl, ⟨n_ta, o_ta, k_ta, c_ta, n_tb, o_tb, k_tb, c_tb, rfl, t1, t2⟩, hb_15⟩
          replace xO := xO.bl hb_15; replace xQ := xQ.bl hb_15; replace xP := xP.bl hb_15; replace hs := hs.bl hb_15
          refine hK _ _ rfl ⟨hb_15, (And.intro xQ (And.intro hs.g5 (And.intro xO (And.intro xP trivial))))⟩ ?_
          clear hK K
          refine f0 ?_
          refine e0 hs ?_; clear hs; intro w_16 hs n16
          clear f1 f2 g1 g2 s1 s2
          replace xO := xO.bl n16; replace xQ := xQ.bl n16; replace xP := xP.bl n16
          refine tl ?_
          refine .i4 0 hs (j := j) (by exact HJ.out) ?_ (e := fun _ hB hO => (And.intro True.intro (And.intro (hs.g5.frame hO (hs.ne 5 0)) (And.intro (xO.frame hO (hs.ne 2 0)) (And.intro (xP.frame hO (hs.ne 1 0)) True.intro))))); clear hs; intro w_17 hs kp17 hd17 ho17 hw17; simp only [List.set_cons_zero] at hs
          clear xO
          clear xQ
          clear xP
          apply wpTail_end
          refine hK21 _ _ ?_
          refine rg [0, 1, 2] ?_
          refine sq ?_
          refine .mv ?_
          refine sq ?_
          refine .r0 ?_
          refine sq ?_
          refine .mv ?_
          apply wpSq_end
          have k0_11 := ((k0_8.b hb_15).b n16).t kp17
          replace hd := hd.k k0_11
          replace hxq := hxq.k k0_11
          have k9_11 := (kb n16).t kp17
          replace t1 := t1.k k9_11
          replace t2 := t2.k k9_11
          have k2_11 := ((((((((kb hb_9).b n10).b hb_11).b n12).b hb_13).b n14).b hb_15).b n16).t kp17
          replace z5 := z5.k k2_11
          replace hL9 := hL9.k k0_11
          have k8_11 := ((kb hb_15).b n16).t kp17
          replace hdv := hdv.k k8_11
          replace kk := kk.k k0_11
          refine ‹∀ (a' : Act) (w' : World), Handed _ _ a' w' → _› _ _ ?_
          have hs := hs.unrows2 (bs := bx pt #[.slice (some ⟨gO, 0, none⟩) n c] 23 :: ls w0.heap.size 34 2 (.slice o9 k c9) k xs :: bx p_b1 #[.bool n_p, .slice o_p k_p c_p] 34 :: (([] : List En) ++ bs))
          rw [mkM_row HI.out] at hxq
          have hd := RD.set' (r1 := a ++ (⟨.slice (some ⟨gp, 0, none⟩) W cp, W, xp⟩ : Rw) :: b) (v := .slice (some ⟨gq, 0, none⟩) W cq) (n := W) (by simp) (GD.put t1 t2 hxq (q := j) (by simpa using HJ.out)) (by simpa using hd) hab
          rw [show ((Z.1, Z.2) : Int × Int) = Z from rfl, mkM_set HI.out, HS.out] at hd
          rw [show V = (Dt.det k A).1 by rw [HV.out]] at hdv
          go_roundg (gk - 1)
          case rel => exact ⟨j + 1, _, by rfl, by omega, by omega, by simpa using hrl, by simpa using hd, by rw [List.map_append, List.map_cons, List.map_append, List.map_cons, ← List.cons_append, ← List.append_assoc, List.getElem?_append_right (by simpa using Nat.le_of_eq hab)]; simp at hab ⊢; simp [← hab], z5, hL9, hdv, kk, hs⟩
          case measure => omega
        · obtain rfl : W = j := by omega
          have HX := hide hj
          refine wp_seq_k ?_
          intro K19 hK19
          refine wp_seq_k ?_
          intro K20 hK20
          refine rg [0, 1, 2, 3] ?_
          refine sq ?_
          refine .mv ?_
          refine sq ?_
          refine .mv ?_
          refine sq ?_
          refine .r0 ?_
          refine sq ?_
          refine .r0 ?_
          apply wpSq_end
          refine hK20 _ _ ?_
          refine cf ?_
          refine wp_exit ?_
          refine hK16 _ _ ?_
          refine rg [0, 1] ?_
          refine sq ?_
          refine .r0 ?_
          refine sq ?_
          refine .mv ?_
          apply wpSq_end
          refine HO2 _ _ ?_
          go_roundg (g2 - 1)
          case rel => exact ⟨q + 1, rs, by rfl, by omega, hrl, by rw [show k + 1 + (q + 1) = k + 1 + q + 1 from rfl, ← Elm_row]; exact hd, z5, hL9, hdv, kk, hs⟩
          case measure => omega
      · have hqe : k + 1 + q = n := by omega
        have HX := hide hq
        have HE := hide hqe
        clear hqe
        refine wp_seq_k ?_
        intro K14 hK14
        refine rg [0] ?_
        refine sq ?_
        refine .r0 ?_
        apply wpSq_end
        refine hK14 _ _ ?_
        refine wp_seq_k ?_
        intro K15 hK15
        refine cf ?_
        refine wp_exit ?_
        refine hK12 _ _ ?_
        refine rg [0, 1, 2, 3, 4] ?_
        refine sq ?_
        refine .mv ?_
        refine sq ?_
        refine .r2 hs.g3.f2 ?_
        refine sq ?_
        refine .al hs ?_; clear hs; intro p_b2 w_6 hs n6 kb_b2
        refine sq ?_
        have k0_1 := kb n6
        replace hL9 := hL9.k k0_1
        replace z5 := z5.k k0_1
        replace hL9 := hL9.snoc z5
        refine .ap 3 hs hs.g0 ?_; clear hs; intro o_L_7 c_L_7 w_7 hs kp7 hw7; simp only [List.set_cons_succ, List.set_cons_zero] at hs
        refine sq ?_
        refine .mv ?_
        apply wpSq_end
        refine hK7 _ _ ?_
        refine rg [0, 1, 2] ?_
        refine sq ?_
        refine .mv ?_
        refine sq ?_
        refine .r0 ?_
        refine sq ?_
        refine .mv ?_
        apply wpSq_end
        have k0_2 := k0_1.t kp7
        replace hd := hd.k k0_2
        have k1_2 := kp7
        replace hL9 := hL9.k k1_2
        replace kk := kk.k k0_2
        refine HO _ _ ?_
        have hs := hs.sub (show List.Sublist (ls w0.heap.size 39 1 (.slice o n c) n (rs.map (·.v)) :: bx pt #[.slice o n c] 23 :: _ :: (bs ++ rs.map (Rw.e w0.heap.size))) _ from .cons _ (.cons_cons _ (.cons_cons _ (.cons_cons _ (.cons _ (List.Sublist.append_right (List.sublist_append_right ([] : List En) bs) _))))))
        go_roundg (g1 - 1)
        case rel => exact ⟨k + 1, Elm k A F n (k + 1), rs, fz2, caps2, _, _, _, by rfl, rfl, by rfl, by omega, hide (fun h => absurd h (by omega)), HQ2, hide Elm_end, hrl, by rw [← HE.out] at hd ⊢; exact hd, by rw [pvz_succ, ← Dt.D_diag, ← HPE.out]; exact hL9, kk, hs⟩
        case measure => omega
    · have t1 : 0 < k := by omega
      obtain ⟨k1, hk1⟩ : ∃ k1, k = k1 + 1 := ⟨k - 1, by omega⟩
      have HK1 := hide hk1
      have LL : Lst w_4 w0.heap.size 34 2 (.slice o9 k c9) k xs := (hs.1.at (i := 3) rfl).1
      obtain ⟨gL, curL, rfl, xL, hcL⟩ := LL.box t1
      have k0_3 := (kp2.b n3).o hd4 ho4
      replace hL9 := hL9.k k0_3
      obtain ⟨l1, l2, l3, l4, e1, e2, v1⟩ := hL9.els k1 (by rw [pvz_len]; omega)
      rw [show (pvz A k)[k1]'(by rw [pvz_len]; omega) = (Dt.det k A).1 by simp [pvz, hk1]] at v1
      replace e1 := hcL _ _ e1
      replace e2 := hcL _ _ e2
      have LV : zl L (Dt.det k A) := by rw [hk1, ← Dt.D_diag]; exact HBD.out k1 k1 (by omega) k1 (by omega)
      replace v1 := v1.zn LV.1
      have HN0 := hide (show (Dt.det k A).1 ≠ 0 from fun c => HDT.out (Prod.ext c (HRE.out k)))
      have HLL := hide (show L ≤ 10000000 by omega)
      have EK1 : (k : Int) - 1 = (k1 : Int) := by omega
      clear LL hcL hk0 LV hk1
      refine ct ?_
      refine rg [0, 1, 2, 3, 4, 5, 6, 7] ?_
      refine sq ?_
      refine .mv ?_
      refine sq ?_
      refine .mv ?_
      refine sq ?_
      refine .mv ?_
      refine sq ?_
      refine .r0 ?_
      refine sq ?_
      refine .r0 ?_
      refine sq ?_
      refine .r2 ⟨xL.cell _ e1, xL.cell _ e2⟩ ?_
      refine sq ?_
      intro K hK
      go_big_op
      go_fit (overWholeS hs v1 HLL.out HN0.out)
      have bb5 := hs.b
      rintro e w_5 ⟨f3, caps3, ds3, rfl, hdv, hs', kp5⟩
      clear hs; have hs := hs'; clear hs'
      have bc5 := hs.b
      clear xL
      clear bb5 bc5
      have k0_4 := k0_3.t kp5
      replace hd := hd.k k0_4
      replace hs := hs.perm (perm_in (hd := [_, _, _, _]))
      refine hK _ _ rfl trivial ?_
      clear hK K
      refine sq ?_
      refine .mv ?_
      apply wpSq_end
      refine hK9 _ _ ?_
      refine wp_seq_k ?_
      intro K12 hK12
      refine wp_seq_k ?_
      intro K13 hK13
      refine rg [0, 1, 2, 3, 4, 5] ?_
      refine sq ?_
      refine .mv ?_
      refine sq ?_
      refine .mv ?_
      refine sq ?_
      refine .r0 ?_
      refine sq ?_
      refine .r0 ?_
      refine sq ?_
      refine .r0 ?_
      refine sq ?_
      refine .mv ?_
      apply wpSq_end
      refine hK13 _ _ ?_
      refine wp_block ?_
      generalize hoT : (@ite (Option Addr) (c = k + 1) _ o _) = oT
      have HT := hide hoT
      clear hoT
      have hs := hs.perm ((List.Perm.swap _ _ _).trans (List.Perm.cons _ ((List.Perm.swap _ _ _).trans (List.Perm.cons _ (List.Perm.swap _ _ _)))))
      have k1_4 := ((kb n3).o hd4 ho4).t kp5
      replace hd2 := hd2.k k1_4
      replace p := p.k k1_4
      have k3_4 := kp5
      replace hL9 := hL9.k k3_4
      replace kk := kk.k k0_4
      have hd6 := hs.2.1
      go_loopg [43] (n - (k + 1)) (fun kz s43 wr => ∃ (q : Nat) (rs : List Rw), s43 = .int .i64 (q : Int) ∧ q + kz = n - (k + 1) ∧ rs.length = n ∧ RD wr rs (mkM n W (Elm k A F (k + 1 + q) (k + 1))) ∧ ZC wr (.agg #[.bool n_p, .slice o_p k_p c_p]) P ∧ ZL wr xs (pvz A k) ∧ DivZ wr f3 caps3 ds3 (Dt.det k A).1 ∧ KpF w wr ∧
        St w0 (ls w0.heap.size 39 1 (.slice o n c) n (rs.map (·.v)) :: bx pt #[.slice o n c] 23 :: ls w0.heap.size 34 2 (.slice (some ⟨gL, 0, none⟩) k c9) k xs :: bx p_b1 #[.bool n_p, .slice o_p k_p c_p] 34 :: ((ds3 ++ bs) ++ rs.map (Rw.e w0.heap.size))) wr)
      case atStart => exact ⟨0, rs, rfl, by omega, hrl, by rw [Nat.add_zero, ← Elm_0]; exact hd2, p, hL9, hdv, kk, hs⟩
      case round =>
      clear hL9 hd kk p hd2 v1 hdv hs
      obtain ⟨q, rs, rfl, hqn, hrl, hd, z5, hL9, hdv, kk, hs⟩ := hrel
      have HO2 := ‹∀ (a' : Act) (w' : World), Handed _ _ a' w' → _›
      obtain ⟨g2, hg2⟩ : ∃ g, gk = g := ⟨_, rfl⟩
      have Lz5 := hide LP.out
      by_cases hq : q < n - (k + 1)
      · have HQQ := hide hq
        have HI := hide (show k + 1 + q < n by omega)
        obtain ⟨oi, ci, hvi⟩ := hs.rowv (bs := bx pt #[.slice o n c] 23 :: ls w0.heap.size 34 2 (.slice (some ⟨gL, 0, none⟩) k c9) k xs :: bx p_b1 #[.bool n_p, .slice o_p k_p c_p] 34 :: (ds3 ++ bs)) hd (p := k + 1 + q) (K := W) (by rw [len_mkM]; omega) (by rw [mkM_row (by omega)]; simp)
        have LO : Lst wr w0.heap.size 39 1 (.slice o n c) n _ := hs.1.1.1
        obtain ⟨gO, curO, rfl, xO, hcO⟩ := LO.box (by omega)
        have eI := hcO _ _ hvi
        have hcap := LO.capn
        obtain rfl : oT = some ⟨gO, k + 1, none⟩ := by
          have := HT.out
          rw [if_neg (by omega)] at this
          rw [← this]; simp
        clear LO hcO HT
        refine wp_seq_k ?_
        intro K14 hK14
        refine rg [0] ?_
        refine sq ?_
        refine .r0 ?_
        apply wpSq_end
        refine hK14 _ _ ?_
        refine wp_seq_k ?_
        intro K15 hK15
        refine ct ?_
        refine wp_skip ?_
        refine hK15 _ _ ?_
        refine wp_seq_k ?_
        intro K16 hK16
        refine wp_block ?_
        refine wp_seq_k ?_
        intro K17 hK17
        refine rg [0, 1, 2] ?_
        refine sq ?_
        refine .r0 ?_
        refine sq ?_
        refine .r1 (xO.cell _ eI) ?_
        refine sq ?_
        refine .mv ?_
        apply wpSq_end
        refine hK17 _ _ ?_
        refine wp_seq_k ?_
        intro K18 hK18
        refine rg [0, 1, 2] ?_
        refine sq ?_
        refine .mv ?_
        refine sq ?_
        refine .r0 ?_
        refine sq ?_
        refine .mv ?_
        apply wpSq_end
        refine hK18 _ _ ?_
        refine wp_block ?_
        have hd7 := hs.2.1
        go_loopg [16] (W - (k + 1)) (fun kz s16 wr => ∃ (j : Nat) (rs : List Rw), s16 = .int .i64 (j : Int) ∧ j + kz = W ∧ k + 1 ≤ j ∧ rs.length = n ∧ RD wr rs (mkM n W (Elm k A F (k + 1 + q) j)) ∧ (rs.map (·.v))[k + 1 + q]? = some (.slice oi W ci) ∧ ZC wr (.agg #[.bool n_p, .slice o_p k_p c_p]) P ∧ ZL wr xs (pvz A k) ∧ DivZ wr f3 caps3 ds3 (Dt.det k A).1 ∧ KpF w wr ∧
          St w0 (ls w0.heap.size 39 1 (.slice (some ⟨gO, 0, none⟩) n c) n (rs.map (·.v)) :: bx pt #[.slice (some ⟨gO, 0, none⟩) n c] 23 :: ls w0.heap.size 34 2 (.slice (some ⟨gL, 0, none⟩) k c9) k xs :: bx p_b1 #[.bool n_p, .slice o_p k_p c_p] 34 :: ((ds3 ++ bs) ++ rs.map (Rw.e w0.heap.size))) wr)
        case atStart => exact ⟨k + 1, rs, by rfl, by omega, Nat.le_refl _, hrl, hd, hvi, z5, hL9, hdv, kk, hs⟩
        case round =>
        clear hrl hvi
        clear z5 hL9 hd kk hdv xO hs
        obtain ⟨j, rs, rfl, hjW, hkj, hrl, hd, hri, z5, hL9, hdv, kk, hs⟩ := hrel
        have HRI := hide hri
        clear hri
        have Lz5 := hide LP.out
        by_cases hj : j < W
        · have HJ := hide hj
          obtain ⟨a, gp, cp, xp, b, gq, cq, xq, r2, rfl, hab, hvp, hvq, hxp, hxq, hs⟩ := hs.rows2 (bs := bx pt #[.slice (some ⟨gO, 0, none⟩) n c] 23 :: ls w0.heap.size 34 2 (.slice (some ⟨gL, 0, none⟩) k c9) k xs :: bx p_b1 #[.bool n_p, .slice o_p k_p c_p] 34 :: (ds3 ++ bs)) hd (p := k) (q := k + 1 + q) (K := W) (by omega) (by rw [len_mkM]; exact HI.out) (by rw [mkM_row HKN.out]; simp) (by rw [mkM_row HI.out]; simp) (by omega)
          have hri := HRI.out
          rw [hvq] at hri
          simp only [Option.some.injEq, Value.slice.injEq, true_and] at hri
          obtain ⟨rfl, rfl⟩ := hri
          have LO : Lst wr w0.heap.size 39 1 (.slice (some ⟨gO, 0, none⟩) n c) n _ := hs.1.2.2.1.1
          obtain ⟨gO', curO, eO', xO, hcO⟩ := LO.box (by have := HI.out; omega)
          simp only [Option.some.injEq, Addr.mk.injEq, and_true] at eO'
          obtain rfl : gO = gO' := eO'
          have eK := hcO _ _ hvp
          have LQ : Lst wr w0.heap.size 41 4 (.slice (some ⟨gq, 0, none⟩) W cq) W xq := hs.1.1.1
          obtain ⟨gq', curQ, eQ, xQ, hcQ⟩ := LQ.box (by omega)
          simp only [Option.some.injEq, Addr.mk.injEq, and_true] at eQ
          obtain rfl : gq = gq' := eQ
          have LPr : Lst wr w0.heap.size 41 4 (.slice (some ⟨gp, 0, none⟩) W cp) W xp := hs.1.2.1.1
          obtain ⟨gp', curP, eP, xP, hcP⟩ := LPr.box (by omega)
          simp only [Option.some.injEq, Addr.mk.injEq, and_true] at eP
          obtain rfl : gp = gp' := eP
          have hxq2 := hxq
          rw [mkM_row HI.out] at hxq2
          rw [mkM_row HKN.out] at hxp
          obtain ⟨a1, a2, a3, a4, a5, a6, a7, a8, e1, e2, e3, e4, x1, x2⟩ := hxq2.els j (by simpa using hj)
          obtain ⟨b1, b2, b3, b4, b5, b6, b7, b8, e5, e6, e7, e8, y1, y2⟩ := hxq2.els k (by simpa using HKW.out)
          obtain ⟨d1, d2, d3, d4, d5, d6, d7, d8, e9, e10, e11, e12, y3, y4⟩ := hxp.els j (by simpa using hj)
          rw [show ((List.range W).map (Elm k A F (k + 1 + q) j (k + 1 + q)))[j]'(by simpa using hj) = F (k + 1 + q) j by simp [Elm_here]] at x1 x2
          rw [show ((List.range W).map (Elm k A F (k + 1 + q) j (k + 1 + q)))[k]'(by simpa using HKW.out) = F (k + 1 + q) k by simp [Elm_k]] at y1 y2
          rw [show ((List.range W).map (Elm k A F (k + 1 + q) j k))[j]'(by simpa using hj) = F k j by simp [Elm_up]] at y3 y4
          have EE := hide (Elm_div HA.out HI.out hj (by omega) (by omega) HKN.out HKW.out HDT.out)
          have LX : zl L (F (k + 1 + q) j) := by rw [HA.out _ HI.out j hj (by omega) (by omega)]; exact HBD.out k _ HI.out j hj
          have LY : zl L (F (k + 1 + q) k) := by rw [HA.out _ HI.out k HKW.out (by omega) (by omega)]; exact HBD.out k _ HI.out k HKW.out
          have LU : zl L (F k j) := by rw [HA.out k HKN.out j hj (by omega) (by omega)]; exact HBD.out k k HKN.out j hj
          replace x1 := x1.zn LX.1
          replace x2 := x2.zn LX.2
          replace y1 := y1.zn LY.1
          replace y2 := y2.zn LY.2
          replace y3 := y3.zn LU.1
          replace y4 := y4.zn LU.2
          replace e1 := hcQ _ _ e1
          replace e2 := hcQ _ _ e2
          replace e3 := hcQ _ _ e3
          replace e4 := hcQ _ _ e4
          replace e5 := hcQ _ _ e5
          replace e6 := hcQ _ _ e6
          replace e7 := hcQ _ _ e7
          replace e8 := hcQ _ _ e8
          replace e9 := hcP _ _ e9
          replace e10 := hcP _ _ e10
          replace e11 := hcP _ _ e11
          replace e12 := hcP _ _ e12
          obtain ⟨X, hX⟩ : ∃ X, F (k + 1 + q) j = X := ⟨_, rfl⟩
          obtain ⟨Y, hY⟩ : ∃ Y, F (k + 1 + q) k = Y := ⟨_, rfl⟩
          obtain ⟨U, hU⟩ : ∃ U, F k j = U := ⟨_, rfl⟩
          obtain ⟨V, hV⟩ : ∃ V : Int, Dt.det k A = (V, 0) := ⟨_, Prod.ext rfl (HRE.out k)⟩
          have HT := hide (Elm_step (k := k) (A := A) (F := F) (i := k + 1 + q) (j := j) (by omega) (by omega))
          have HTZ := hide (show True from trivial)
          obtain ⟨Z, hZ⟩ : ∃ Z, Dt.D (k + 1) A (k + 1 + q) j = Z := ⟨_, rfl⟩
          have E3 := EE.out
          rw [← HPE.out, hX, hY, hU, hV, hZ] at E3
          rw [hX] at x1 x2 LX
          rw [hY] at y1 y2 LY
          rw [hU] at y3 y4 LU
          rw [show (Dt.det k A).1 = V by rw [hV]] at hdv
          have HTS := HT.out
          rw [hZ] at HTS
          have HS := hide HTS
          have HV := hide hV
          have E1 := hide (show X.1 * P - (Y.1 * U.1 - Y.2 * U.2) = V * Z.1 by have := congrArg Prod.fst E3; simp only [sP, mP] at this; grind)
          have E2 := hide (show X.2 * P - (Y.1 * U.2 + Y.2 * U.1) = V * Z.2 by have := congrArg Prod.snd E3; simp only [sP, mP] at this; grind)
          have LM := hide (show zl (L + L + 1) (X.1 * P, X.2 * P) from ⟨Nat.le_trans (zlen_mul LX.1 LP.out) (by omega), Nat.le_trans (zlen_mul LX.2 LP.out) (by omega)⟩)
          have LN := hide (show zl (L + L + 1) (mP Y U) from zl_mP LY LU)
          have LZ := hide (show zl (L + L + 2) (V * Z.1, V * Z.2) by rw [← E1.out, ← E2.out]; exact zl_sPx LM.out LN.out)
          have hent := hdv.ent
          unfold Ent1 at hent
          clear LO hcO hvp hvq LQ hcQ hxq2 LPr hcP hxp hX hY hU hV hZ EE HT E3 LX LY LU HTS HRI
          refine wp_seq_k ?_
          intro K19 hK19
          refine wp_seq_k ?_
          intro K20 hK20
          refine rg [0, 1, 2, 3] ?_
          refine sq ?_
          refine .mv ?_
          refine sq ?_
          refine .mv ?_
          refine sq ?_
          refine .r0 ?_
          refine sq ?_
          refine .r0 ?_
          apply wpSq_end
          refine hK20 _ _ ?_
          refine ct ?_
          refine wp_skip ?_
          refine hK19 _ _ ?_
          refine wp_seq_k ?_
          intro K21 hK21
          refine wp_block ?_
          refine wp_region_f4 [(0, false), (1, false), (2, false), (3, false), (4, false), (5, false), (6, false), (7, false), (8, false), (10, false), (11, false), (12, false), (13, false), (14, false), (15, false), (16, false), (17, false), (18, false), (19, false), (20, false), (9, true), (21, true), (22, true), (23, true), (24, false)] [25] [] (fun _ => default) [99, 99, 99, 99, 99, 99, 99, 0, 1, 99, 99, 99, 99, 0, 99, 99, 99, 2, 99, 99, 3, 99, 99, 99, 99, 99] [(25, 0)] (.c xQ (.c hs.g5 (.c xO (.c xP .n)))) fn fun w_8 n8 => ?_
          replace xO := xO.bl n8; replace xQ := xQ.bl n8; replace xP := xP.bl n8; replace hs := hs.bl n8
          refine fmv ?_
          refine fmv ?_
          refine fmv ?_
          refine fmv ?_
          refine fmv ?_
          refine fmv ?_
          refine f0 ?_
          apply wpFl_ld rfl rfl; (case h1 => intro w' hC K hK; have c0 := Bs.cell hC ((j * 4)) e1; have c1 := Bs.cell hC ((j * 4) + 1) e2; have c2 := Bs.cell hC ((j * 4) + 2) e3; have c3 := Bs.cell hC ((j * 4) + 3) e4; go_big_op; exact hK); iterate 4 kernel_rfl
          refine f2 ?_
          refine fmv ?_
          refine fmv ?_
          refine f0 ?_
          apply wpFl_ld rfl rfl; (case h1 => intro w' hC K hK; have c0 := Bs.cell hC ((k * 4)) e5; have c1 := Bs.cell hC ((k * 4) + 1) e6; have c2 := Bs.cell hC ((k * 4) + 2) e7; have c3 := Bs.cell hC ((k * 4) + 3) e8; go_big_op; exact hK); iterate 4 kernel_rfl
          refine fmv ?_
          refine fmv ?_
          refine f0 ?_
          apply wpFl_ld rfl rfl; (case h1 => intro w' hC K hK; have c0 := Bs.cell hC (k) eK; go_big_op; exact hK); iterate 4 kernel_rfl
          refine fmv ?_
          refine f0 ?_
          apply wpFl_ld rfl rfl; (case h1 => intro w' hC K hK; have c0 := Bs.cell hC ((j * 4)) e9; have c1 := Bs.cell hC ((j * 4) + 1) e10; have c2 := Bs.cell hC ((j * 4) + 2) e11; have c3 := Bs.cell hC ((j * 4) + 3) e12; go_big_op; exact hK); iterate 4 kernel_rfl
          refine fl fun w_9 n9 => ?_
          replace xO := xO.bl n9; replace xQ := xQ.bl n9; replace xP := xP.bl n9; replace hs := hs.bl n9
          intro K hK
          have k0_2 := (kb n8).b n9
          replace x1 := x1.k k0_2
          replace x2 := x2.k k0_2
          replace z5 := z5.k k0_2
          go_big_op
          go_fit (timesWhole_any (.mk' x1 x2) (z5.zn Lz5.out) HL4.out HL4.out HL4.out)
          rintro e w_10 ⟨_, rfl, ⟨n_fa, o_fa, k_fa, c_fa, n_fb, o_fb, k_fb, c_fb, rfl, f1, f2⟩, hb_10⟩
          replace xO := xO.bl hb_10; replace xQ := xQ.bl hb_10; replace xP := xP.bl hb_10; replace hs := hs.bl hb_10
          have Lf1 := hide (f1.lenOf (LM.out.1))
          have Lf2 := hide (f2.lenOf (LM.out.2))
          refine hK _ _ rfl ⟨hb_10, (And.intro xQ (And.intro hs.g5 (And.intro xO (And.intro xP trivial))))⟩ ?_
          clear hK K
          refine fl fun w_11 n11 => ?_
          replace xO := xO.bl n11; replace xQ := xQ.bl n11; replace xP := xP.bl n11; replace hs := hs.bl n11
          intro K hK
          have k0_4 := (k0_2.b hb_10).b n11
          replace y1 := y1.k k0_4
          replace y2 := y2.k k0_4
          replace y3 := y3.k k0_4
          replace y4 := y4.k k0_4
          go_big_op
          go_fit (gMul_any (.mk' y1 y2) (.mk' y3 y4) HL4.out HL4.out HL4.out HL4.out)
          rintro e w_12 ⟨_, rfl, ⟨n_ga, o_ga, k_ga, c_ga, n_gb, o_gb, k_gb, c_gb, rfl, g1, g2⟩, hb_12⟩
          replace xO := xO.bl hb_12; replace xQ := xQ.bl hb_12; replace xP := xP.bl hb_12; replace hs := hs.bl hb_12
          have Lg1 := hide (g1.lenOf (LN.out.1))
          have Lg2 := hide (g2.lenOf (LN.out.2))
          refine hK _ _ rfl ⟨hb_12, (And.intro xQ (And.intro hs.g5 (And.intro xO (And.intro xP trivial))))⟩ ?_
          clear hK K
          refine fl fun w_13 n13 => ?_
          replace xO := xO.bl n13; replace xQ := xQ.bl n13; replace xP := xP.bl n13; replace hs := hs.bl n13
          intro K hK
          have k3_6 := ((kb n11).b hb_12).b n13
          replace f1 := f1.k k3_6
          replace f2 := f2.k k3_6
          have k5_6 := kb n13
          replace g1 := g1.k k5_6
          replace g2 := g2.k k5_6
          go_big_op
          go_fit (gSub_any (.mk' (f1.zn Lf1.out) (f2.zn Lf2.out)) (.mk' (g1.zn Lg1.out) (g2.zn Lg2.out)) HL5.out HL5.out HL5.out HL5.out)
          rintro e w_14 ⟨_, rfl, ⟨n_sa, o_sa, k_sa, c_sa, n_sb, o_sb, k_sb, c_sb, rfl, s1, s2⟩, hb_14⟩
          replace xO := xO.bl hb_14; replace xQ := xQ.bl hb_14; replace xP := xP.bl hb_14; replace hs := hs.bl hb_14
          rw [E1.out] at s1
          rw [E2.out] at s2
          refine hK _ _ rfl ⟨hb_14, (And.intro xQ (And.intro hs.g5 (And.intro xO (And.intro xP trivial))))⟩ ?_
          clear hK K
          refine fl fun w_15 n15 => ?_
          replace xO := xO.bl n15; replace xQ := xQ.bl n15; replace xP := xP.bl n15; replace hs := hs.bl n15
          intro K hK
          have k0_8 := (((k0_4.b hb_12).b n13).b hb_14).b n15
          replace hdv := hdv.k k0_8
          have k7_8 := kb n15
          replace s1 := s1.k k7_8
          replace s2 := s2.k k7_8
          go_big_op
          go_fit (hdv.call (hs.sub (.cons _ (.cons _ (.cons _ (.cons _ (.cons _ (.cons _ ((List.sublist_append_left ds3 bs).trans (List.sublist_append_left _ _))))))))).1 (.mk' s1 s2) LZ.out HL6.out)
          rintro e w_16 ⟨_, rfl, ⟨n_ta, o_ta, k_ta, c_ta, n_tb, o_tb, k_tb, c_tb, rfl, t1, t2⟩, hb_16⟩
          replace xO := xO.bl hb_16; replace xQ := xQ.bl hb_16; replace xP := xP.bl hb_16; replace hs := hs.bl hb_16
          refine hK _ _ rfl ⟨hb_16, (And.intro xQ (And.intro hs.g5 (And.intro xO (And.intro xP trivial))))⟩ ?_
          clear hK K
          refine f0 ?_
          refine e0 hs ?_; clear hs; intro w_17 hs n17
          clear f1 f2 g1 g2 s1 s2
          replace xO := xO.bl n17; replace xQ := xQ.bl n17; replace xP := xP.bl n17
          refine tl ?_
          refine .i4 0 hs (j := j) (by exact HJ.out) ?_ (e := fun _ hB hO => (And.intro True.intro (And.intro (hs.g5.frame hO (hs.ne 5 0)) (And.intro (xO.frame hO (hs.ne 2 0)) (And.intro (xP.frame hO (hs.ne 1 0)) True.intro))))); clear hs; intro w_18 hs kp18 hd18 ho18 hw18; simp only [List.set_cons_zero] at hs
          clear xO
          clear xQ
          clear xP
          apply wpTail_end
          refine hK21 _ _ ?_
          refine rg [0, 1, 2] ?_
          refine sq ?_
          refine .mv ?_
          refine sq ?_
          refine .r0 ?_
          refine sq ?_
          refine .mv ?_
          apply wpSq_end
          have k0_11 := ((k0_8.b hb_16).b n17).t kp18
          replace hd := hd.k k0_11
          replace hxq := hxq.k k0_11
          have k9_11 := (kb n17).t kp18
          replace t1 := t1.k k9_11
          replace t2 := t2.k k9_11
          have k2_11 := ((((((((kb hb_10).b n11).b hb_12).b n13).b hb_14).b n15).b hb_16).b n17).t kp18
          replace z5 := z5.k k2_11
          replace hL9 := hL9.k k0_11
          have k8_11 := ((kb hb_16).b n17).t kp18
          replace hdv := hdv.k k8_11
          replace kk := kk.k k0_11
          refine ‹∀ (a' : Act) (w' : World), Handed _ _ a' w' → _› _ _ ?_
          have hs := hs.unrows2 (bs := bx pt #[.slice (some ⟨gO, 0, none⟩) n c] 23 :: ls w0.heap.size 34 2 (.slice (some ⟨gL, 0, none⟩) k c9) k xs :: bx p_b1 #[.bool n_p, .slice o_p k_p c_p] 34 :: (ds3 ++ bs))
          rw [mkM_row HI.out] at hxq
          have hd := RD.set' (r1 := a ++ (⟨.slice (some ⟨gp, 0, none⟩) W cp, W, xp⟩ : Rw) :: b) (v := .slice (some ⟨gq, 0, none⟩) W cq) (n := W) (by simp) (GD.put t1 t2 hxq (q := j) (by simpa using HJ.out)) (by simpa using hd) hab
          rw [show ((Z.1, Z.2) : Int × Int) = Z from rfl, mkM_set HI.out, HS.out] at hd
          rw [show V = (Dt.det k A).1 by rw [HV.out]] at hdv
          go_roundg (gk - 1)
          case rel => exact ⟨j + 1, _, by rfl, by omega, by omega, by simpa using hrl, by simpa using hd, by rw [List.map_append, List.map_cons, List.map_append, List.map_cons, ← List.cons_append, ← List.append_assoc, List.getElem?_append_right (by simpa using Nat.le_of_eq hab)]; simp at hab ⊢; simp [← hab], z5, hL9, hdv, kk, hs⟩
          case measure => omega
        · obtain rfl : W = j := by omega
          have HX := hide hj
          refine wp_seq_k ?_
          intro K19 hK19
          refine wp_seq_k ?_
          intro K20 hK20
          refine rg [0, 1, 2, 3] ?_
          refine sq ?_
          refine .mv ?_
          refine sq ?_
          refine .mv ?_
          refine sq ?_
          refine .r0 ?_
          refine sq ?_
          refine .r0 ?_
          apply wpSq_end
          refine hK20 _ _ ?_
          refine cf ?_
          refine wp_exit ?_
          refine hK16 _ _ ?_
          refine rg [0, 1] ?_
          refine sq ?_
          refine .r0 ?_
          refine sq ?_
          refine .mv ?_
          apply wpSq_end
          refine HO2 _ _ ?_
          go_roundg (g2 - 1)
          case rel => exact ⟨q + 1, rs, by rfl, by omega, hrl, by rw [show k + 1 + (q + 1) = k + 1 + q + 1 from rfl, ← Elm_row]; exact hd, z5, hL9, hdv, kk, hs⟩
          case measure => omega
      · have hqe : k + 1 + q = n := by omega
        have HX := hide hq
        have HE := hide hqe
        clear hqe
        refine wp_seq_k ?_
        intro K14 hK14
        refine rg [0] ?_
        refine sq ?_
        refine .r0 ?_
        apply wpSq_end
        refine hK14 _ _ ?_
        refine wp_seq_k ?_
        intro K15 hK15
        refine cf ?_
        refine wp_exit ?_
        refine hK12 _ _ ?_
        refine rg [0, 1, 2, 3, 4] ?_
        refine sq ?_
        refine .mv ?_
        refine sq ?_
        refine .r2 hs.g3.f2 ?_
        refine sq ?_
        refine .al hs ?_; clear hs; intro p_b2 w_7 hs n7 kb_b2
        refine sq ?_
        have k0_1 := kb n7
        replace hL9 := hL9.k k0_1
        replace z5 := z5.k k0_1
        replace hL9 := hL9.snoc z5
        refine .ap 3 hs hs.g0 ?_; clear hs; intro o_L_8 c_L_8 w_8 hs kp8 hw8; simp only [List.set_cons_succ, List.set_cons_zero] at hs
        refine sq ?_
        refine .mv ?_
        apply wpSq_end
        refine hK7 _ _ ?_
        refine rg [0, 1, 2] ?_
        refine sq ?_
        refine .mv ?_
        refine sq ?_
        refine .r0 ?_
        refine sq ?_
        refine .mv ?_
        apply wpSq_end
        have k0_2 := k0_1.t kp8
        replace hd := hd.k k0_2
        have k1_2 := kp8
        replace hL9 := hL9.k k1_2
        replace kk := kk.k k0_2
        refine HO _ _ ?_
        have hs := hs.sub (show List.Sublist (ls w0.heap.size 39 1 (.slice o n c) n (rs.map (·.v)) :: bx pt #[.slice o n c] 23 :: _ :: (bs ++ rs.map (Rw.e w0.heap.size))) _ from .cons _ (.cons_cons _ (.cons_cons _ (.cons_cons _ (.cons _ (List.Sublist.append_right (List.sublist_append_right ds3 bs) _))))))
        go_roundg (g1 - 1)
        case rel => exact ⟨k + 1, Elm k A F n (k + 1), rs, f3, caps3, _, _, _, by rfl, rfl, by rfl, by omega, hide (fun h => absurd h (by omega)), HQ2, hide Elm_end, hrl, by rw [← HE.out] at hd ⊢; exact hd, by rw [pvz_succ, ← Dt.D_diag, ← HPE.out]; exact hL9, kk, hs⟩
        case measure => omega
  · have HFin := hide hFin
    refine ct ?_
    refine wp_exit ?_
    refine hK5 _ _ ?_
    refine wp_seq_k ?_
    intro K11 hK11
    refine rg [0, 1] ?_
    refine sq ?_
    refine .mv ?_
    refine sq ?_
    refine .mv ?_
    apply wpSq_end
    refine hK11 _ _ ?_
    refine wp_ret ?_
    refine hSr _ _ _ ?_
    have k1_3 := (kb n3).o hd4 ho4
    replace hd2 := hd2.k k1_3
    have k0_3 := (kp2.b n3).o hd4 ho4
    replace hL9 := hL9.k k0_3
    replace kk := kk.k k0_3
    try dsimp only [Exit.then, Exit.inBlock]
    refine bodyPost_ret (v := (.slice o9 k c9)) (by simp [results, Try.results19, go_sem]) rfl ?_
    exact ⟨_, _, xs, k, _, rs, rfl, by omega, HFin.out, HQ.out, hL9, hrl, hd2, (hs.sub (.cons _ (List.Sublist.refl _))).perm ((List.Perm.cons _ (List.Perm.swap _ _ _)).trans (List.Perm.swap _ _ _)), kk.kp⟩
end
end Go.Proofs.Ytjfjlloibmebeaa


/- gdet: the pivots of Minors. -/
namespace Go.Proofs.Ytjfjlloibmebeaa
open Go Go.RowKit Dig
set_option linter.unusedVariables false
section
variable {w w0 : World} {pt n c L : Nat} {o : Option Addr} {A : Nat → Nat → Int × Int}
set_option maxHeartbeats 4000000 in
set_option maxRecDepth 20000 in
theorem pivZ_minors (kb_bt : Hid (w0.heap.size ≤ pt)) (hn : n ≤ 1000) (hB : ∀ m, ∀ i, i < n → ∀ j, j < n → zl L (Dt.D m A i j)) (hL : L ≤ 3000000) (hre : ∀ k, (Dt.det k A).2 = 0) :
    PivZ w0 20 #[] #[.pointer (some ⟨pt, 0, none⟩)] o n c pt n A (fun r => r = n ∨ Dt.det (r + 1) A = 0) := by
  intro k w F rs bs hkn hA hQ hl hd hst
  show Calls _ _ #[.int .i64 (k : Int), .pointer (some ⟨pt, 0, none⟩)] w _
  have kk := KpF.r w
  by_cases hk : k < n
  · have HK := hide hk
    have hFD := hA k hk k hk (Nat.le_refl _) (Nat.le_refl _)
    have t1 : ((k : Int) == (n : Int)) = false := beq_eq_false_iff_ne.2 (by omega)
    obtain ⟨r1, gr, cr, ys, r2, er, hr1, hrv, hx, hst⟩ := hst.row (bs := bx pt #[.slice o n c] 23 :: bs) hd (p := k) (K := n) (by rw [len_mkM]; exact hk) (by rw [mkM_row hk]; simp) (by omega)
    have ER := hide er
    clear er
    have LO : Lst w w0.heap.size 39 1 (.slice o n c) n _ := hst.1.2.1.1
    obtain ⟨gO, curO, rfl, xO, hcO⟩ := LO.box (by omega)
    have eO := hcO _ _ hrv
    have LR : Lst w w0.heap.size 41 4 (.slice (some ⟨gr, 0, none⟩) n cr) n ys := hst.1.1.1
    obtain ⟨gr', curR, eR, xR, hcR⟩ := LR.box (by omega)
    simp only [Option.some.injEq, Addr.mk.injEq, and_true] at eR
    obtain rfl : gr = gr' := eR
    rw [mkM_row hk] at hx
    obtain ⟨a1, a2, a3, a4, a5, a6, a7, a8, ee1, ee2, ee3, ee4, x1, x2⟩ := hx.els k (by simpa using hk)
    rw [show ((List.range n).map (F k))[k]'(by simpa using hk) = Dt.D k A k k by simp [hFD]] at x1 x2
    replace ee1 := hcR _ _ ee1
    replace ee2 := hcR _ _ ee2
    replace ee3 := hcR _ _ ee3
    replace ee4 := hcR _ _ ee4
    have LB := hide (hB k k hk k hk)
    have HIM := hide (show Dt.D k A k k = ((Dt.det (k + 1) A).1, 0) by rw [Dt.D_diag]; exact Prod.ext rfl (hre _))
    rw [HIM.out] at x1 x2
    have HL5 := hide (show L ≤ 100000000 by omega)
    obtain ⟨P, hP⟩ : ∃ P, (Dt.det (k + 1) A).1 = P := ⟨_, rfl⟩
    have HP := hide hP
    have LP := hide (show (dig P.natAbs).length ≤ L by rw [← hP, ← Dt.D_diag]; exact LB.out.1)
    have L0 := hide (show (dig (0 : Int).natAbs).length ≤ L from Nat.le_trans (Nat.le_of_eq (by decide)) (Nat.zero_le _))
    have HQ := hide hQ
    rw [hP] at x1
    clear LO hcO LR hcR hx hP hrv hB hre hA hFD hQ
    by_cases h0 : P = 0
    · have HD := hide (show decide (P = 0 ∧ (0 : Int) = 0) = true by simp [h0])
      have H0 := hide (show Dt.det (k + 1) A = 0 from by
        have := HIM.out
        rw [Dt.D_diag, HP.out, h0] at this; exact this)
      clear h0
      go_enter Try.func20, Try.ntmps20
      have hs := hst
      clear hst
      have lt_kO := xO.lt
      have xOz := xO
      have lt_kRK := xR.lt
      have xRz := xR
      refine wp_seq_k ?_
      intro K1 hK1
      refine rg [0, 1] ?_
      refine sq ?_
      refine .al hs ?_; clear hs; intro p_b1 w_1 hs n1 kb_b1
      replace xO := xO.bl n1; replace xR := xR.bl n1
      refine sq ?_
      refine .mv ?_
      apply wpSq_end
      refine hK1 _ _ ?_
      refine wp_seq_k ?_
      intro K2 hK2
      refine wp_seq_k ?_
      intro K3 hK3
      refine rg [0, 1, 2, 3, 4, 5, 6, 7, 8, 9, 10, 11, 12, 13] ?_
      refine sq ?_
      refine .mv ?_
      refine sq ?_
      refine .r1 hs.g3.f1 ?_
      refine sq ?_
      refine .r0 ?_
      refine sq ?_
      refine .r0 ?_
      refine sq ?_
      refine .mv ?_
      refine sq ?_
      refine .r1 hs.g3.f1 ?_
      refine sq ?_
      refine .mv ?_
      refine sq ?_
      refine .r0 ?_
      refine sq ?_
      refine .r1 (xO.cell _ eO) ?_
      refine sq ?_
      refine .mv ?_
      refine sq ?_
      refine .r0 ?_
      refine sq ?_
      refine .r4 ⟨xR.cell _ ee1, xR.cell _ ee2, xR.cell _ ee3, xR.cell _ ee4⟩ ?_
      refine sq ?_
      intro K hK
      have k0_1 := kb n1
      replace x1 := x1.k k0_1
      replace x2 := x2.k k0_1
      go_big_op
      go_fit (isZero_any (.mk' (x1.zn LP.out) (x2.zn L0.out)) HL5.out HL5.out)
      rintro e w_2 ⟨rfl, hb_2⟩
      replace xO := xO.bl hb_2; replace xR := xR.bl hb_2; replace hs := hs.bl hb_2
      rw [HD.out]
      refine hK _ _ rfl trivial ?_
      clear hK K
      refine sq ?_
      refine .r0 ?_
      apply wpSq_end
      refine hK3 _ _ ?_
      refine ct ?_
      refine wp_seq_k ?_
      intro K4 hK4
      refine rg [0, 1, 2] ?_
      refine sq ?_
      refine .r0 ?_
      refine sq ?_
      refine .s2 hs.g0 (fun _ => hs.u0 kb_b1) ?_; clear hs; intro w_3 hs hd3 ho3
      replace xO := xO.frame ho3 (hs.ne 2 0); replace xR := xR.frame ho3 (hs.ne 1 0)
      refine sq ?_
      refine .mv ?_
      apply wpSq_end
      refine hK4 _ _ ?_
      refine wp_ret ?_
      have k0_3 := (k0_1.b hb_2).o hd3 ho3
      replace hd := hd.k k0_3
      replace kk := kk.k k0_3
      have e9 := ER.out
      subst e9
      try dsimp only [Exit.then, Exit.inBlock]
      obtain ⟨r0_0, r0_1⟩ := hs.g0.f2
      refine bodyPost_ret (v := (.tuple #[(.agg #[.bool false, .slice none 0 0]), (.bool false)])) (by simp [results, Try.results20, go_sem, r0_0, r0_1]) rfl ?_
      exact ⟨_, false, 0, rfl, zc_zero _, .inr ⟨rfl, .inr H0.out⟩, hd, (hs.sub (.cons _ (List.Sublist.refl _))).unrow (bs := bx pt #[.slice (some ⟨gO, 0, none⟩) n c] 23 :: bs), kk.kp⟩
    · have HD := hide (show decide (P = 0 ∧ (0 : Int) = 0) = false by simp [h0])
      have H0 := hide h0
      have HPE := hide (show (P, 0) = Dt.D k A k k by rw [HIM.out, HP.out])
      clear h0
      go_enter Try.func20, Try.ntmps20
      have hs := hst
      clear hst
      have lt_kO := xO.lt
      have xOz := xO
      have lt_kRK := xR.lt
      have xRz := xR
      refine wp_seq_k ?_
      intro K1 hK1
      refine rg [0, 1] ?_
      refine sq ?_
      refine .al hs ?_; clear hs; intro p_b1 w_1 hs n1 kb_b1
      replace xO := xO.bl n1; replace xR := xR.bl n1
      refine sq ?_
      refine .mv ?_
      apply wpSq_end
      refine hK1 _ _ ?_
      refine wp_seq_k ?_
      intro K2 hK2
      refine wp_seq_k ?_
      intro K3 hK3
      refine rg [0, 1, 2, 3, 4, 5, 6, 7, 8, 9, 10, 11, 12, 13] ?_
      refine sq ?_
      refine .mv ?_
      refine sq ?_
      refine .r1 hs.g3.f1 ?_
      refine sq ?_
      refine .r0 ?_
      refine sq ?_
      refine .r0 ?_
      refine sq ?_
      refine .mv ?_
      refine sq ?_
      refine .r1 hs.g3.f1 ?_
      refine sq ?_
      refine .mv ?_
      refine sq ?_
      refine .r0 ?_
      refine sq ?_
      refine .r1 (xO.cell _ eO) ?_
      refine sq ?_
      refine .mv ?_
      refine sq ?_
      refine .r0 ?_
      refine sq ?_
      refine .r4 ⟨xR.cell _ ee1, xR.cell _ ee2, xR.cell _ ee3, xR.cell _ ee4⟩ ?_
      refine sq ?_
      intro K hK
      have k0_1 := kb n1
      replace x1 := x1.k k0_1
      replace x2 := x2.k k0_1
      go_big_op
      go_fit (isZero_any (.mk' (x1.zn LP.out) (x2.zn L0.out)) HL5.out HL5.out)
      rintro e w_2 ⟨rfl, hb_2⟩
      replace xO := xO.bl hb_2; replace xR := xR.bl hb_2; replace hs := hs.bl hb_2
      rw [HD.out]
      refine hK _ _ rfl trivial ?_
      clear hK K
      refine sq ?_
      refine .r0 ?_
      apply wpSq_end
      refine hK3 _ _ ?_
      refine cf ?_
      refine wp_skip ?_
      refine hK2 _ _ ?_
      refine wp_seq_k ?_
      intro K4 hK4
      refine rg [0, 1, 2, 3, 4, 5, 6, 7, 8, 9] ?_
      refine sq ?_
      refine .r1 hs.g3.f1 ?_
      refine sq ?_
      refine .mv ?_
      refine sq ?_
      refine .r0 ?_
      refine sq ?_
      refine .r1 (xO.cell _ eO) ?_
      refine sq ?_
      refine .mv ?_
      refine sq ?_
      refine .r0 ?_
      refine sq ?_
      refine .r0 ?_
      refine sq ?_
      refine .r2 ⟨xR.cell _ ee1, xR.cell _ ee2⟩ ?_
      refine sq ?_
      refine .s2 hs.g0 (fun _ => hs.u0 kb_b1) ?_; clear hs; intro w_3 hs hd3 ho3
      replace xO := xO.frame ho3 (hs.ne 2 0); replace xR := xR.frame ho3 (hs.ne 1 0)
      refine sq ?_
      refine .mv ?_
      apply wpSq_end
      refine hK4 _ _ ?_
      refine wp_ret ?_
      have k0_3 := (k0_1.b hb_2).o hd3 ho3
      replace hd := hd.k k0_3
      replace kk := kk.k k0_3
      have k1_3 := (kb hb_2).o hd3 ho3
      replace x1 := x1.k k1_3
      have e9 := ER.out
      subst e9
      try dsimp only [Exit.then, Exit.inBlock]
      obtain ⟨r0_0, r0_1⟩ := hs.g0.f2
      refine bodyPost_ret (v := (.tuple #[(.agg #[.bool a1, .slice a2 a3 a4]), (.bool true)])) (by simp [results, Try.results20, go_sem, r0_0, r0_1]) rfl ?_
      exact ⟨_, true, P, rfl, x1, .inl ⟨rfl, HK.out, HK.out, HPE.out, H0.out⟩, hd, (hs.sub (.cons _ (List.Sublist.refl _))).unrow (bs := bx pt #[.slice (some ⟨gO, 0, none⟩) n c] 23 :: bs), kk.kp⟩
  · obtain rfl : k = n := by omega
    have t1 : ((k : Int) == (k : Int)) = true := by simp
    clear hA hQ hB hre
    go_enter Try.func20, Try.ntmps20
    have hs := hst
    clear hst
    refine wp_seq_k ?_
    intro K1 hK1
    refine rg [0, 1] ?_
    refine sq ?_
    refine .al hs ?_; clear hs; intro p_b1 w_1 hs n1 kb_b1
    refine sq ?_
    refine .mv ?_
    apply wpSq_end
    refine hK1 _ _ ?_
    refine wp_seq_k ?_
    intro K2 hK2
    refine wp_seq_k ?_
    intro K3 hK3
    refine rg [0, 1, 2, 3, 4, 5, 6, 7, 8, 9, 10, 11, 12, 13] ?_
    refine sq ?_
    refine .mv ?_
    refine sq ?_
    refine .r1 hs.g2.f1 ?_
    refine sq ?_
    refine .r0 ?_
    refine sq ?_
    refine .r0 ?_
    refine sq ?_
    refine .mv ?_
    refine sk ?_
    refine sk ?_
    refine sk ?_
    refine sk ?_
    refine sk ?_
    refine sk ?_
    refine sk ?_
    refine sk ?_
    refine sq ?_
    refine .r0 ?_
    apply wpSq_end
    refine hK3 _ _ ?_
    refine ct ?_
    refine wp_seq_k ?_
    intro K4 hK4
    refine rg [0, 1, 2] ?_
    refine sq ?_
    refine .r0 ?_
    refine sq ?_
    refine .s2 hs.g0 (fun _ => hs.u0 kb_b1) ?_; clear hs; intro w_2 hs hd2 ho2
    refine sq ?_
    refine .mv ?_
    apply wpSq_end
    refine hK4 _ _ ?_
    refine wp_ret ?_
    have k0_2 := (kb n1).o hd2 ho2
    replace hd := hd.k k0_2
    replace kk := kk.k k0_2
    try dsimp only [Exit.then, Exit.inBlock]
    obtain ⟨r0_0, r0_1⟩ := hs.g0.f2
    refine bodyPost_ret (v := (.tuple #[(.agg #[.bool false, .slice none 0 0]), (.bool false)])) (by simp [results, Try.results20, go_sem, r0_0, r0_1]) rfl ?_
    exact ⟨_, false, 0, rfl, zc_zero _, .inr ⟨rfl, .inl trivial⟩, hd, hs.sub (.cons _ (List.Sublist.refl _)), kk.kp⟩
set_option maxRecDepth 20000 in
theorem entP_minors : EntP 20 #[] #[.pointer (some ⟨pt, 0, none⟩)] := fun _ _ => by kernel_rfl
end
end Go.Proofs.Ytjfjlloibmebeaa


/- Ranks: there is one. -/
namespace Go.Proofs.Ytjfjlloibmebeaa
namespace Dt
open Lean.Grind
set_option linter.unusedVariables false
section
variable {R : Type} [CommRing R] {h w r s k : Nat} {A : Nat → Nat → R} {f g : Nat → Nat}
theorem minor_big (hs : h < s) (hf : ∀ i, i < s → f i < h) : det s (fun i j => A (f i) (g j)) = 0 := by
  have e := det_mul (n := s) (fun c j => if c < h then A c (g j) else 0) (fun i c => if c = f i then 1 else 0)
  rw [(alt_det (R := R) (n := s)).zero (A := fun c j => if c < h then A c (g j) else 0) (k := h) hs (fun c _ => if_neg (Nat.lt_irrefl _)),
    det_congr (A := mapr s _ _) (B := fun i j => A (f i) (g j)) fun i hi j hj => by
      unfold mapr
      rw [sm_one (k := f i) (by have := hf i hi; omega) fun c _ hne => by simp only [if_neg hne]; grind]
      simp only [if_true, if_pos (hf i hi)]; grind] at e
  rw [e]; grind
theorem rk_exists (h1 : (1 : R) ≠ 0) (h w : Nat) (A : Nat → Nat → R) : ∃ r, Rk h w A r := by
  have key : ∀ d r, h - r = d → (∃ f g : Nat → Nat, (∀ i, i < r → f i < h ∧ g i < w) ∧ det r (fun i j => A (f i) (g j)) ≠ 0) → ∃ r, Rk h w A r := by
    intro d
    induction d using Nat.strongRecOn with
    | _ d ih =>
      intro r hd hr
      by_cases hx : ∃ f g : Nat → Nat, (∀ i, i < r + 1 → f i < h ∧ g i < w) ∧ det (r + 1) (fun i j => A (f i) (g j)) ≠ 0
      · have hlt : r < h := by
          refine Nat.lt_of_not_le fun hle => ?_
          obtain ⟨f, g, hfg, hne⟩ := hx
          exact hne (minor_big (h := h) (by omega) fun i hi => (hfg i hi).1)
        exact ih (h - (r + 1)) (by omega) (r + 1) rfl hx
      · obtain ⟨f, g, hfg, hne⟩ := hr
        refine ⟨r, f, g, hfg, hne, fun i c => - cofc r (fun x y => A (if y < r then f y else i) (g x)) c r, det r (fun i j => A (f i) (g j)), hne, fun i hi j hj => ?_⟩
        have h0 : D r (fun x y => A (if x < r then f x else i) (if y < r then g y else j)) r r = 0 := by
          rw [D_diag]
          refine Classical.byContradiction fun hc => hx ⟨fun x => if x < r then f x else i, fun y => if y < r then g y else j, fun x hx => ?_, hc⟩
          by_cases e : x < r
          · simp only [if_pos e]; exact hfg x e
          · simp only [if_neg e]; exact ⟨hi, hj⟩
        rw [← D_tr, D_col, det_tr] at h0
        have h2 : (sm r fun c => - cofc r (fun x y => A (if y < r then f y else i) (g x)) c r * A (f c) j) = (-1 : R) * sm r fun c => A (if c < r then f c else i) (if r < r then g r else j) * cofc r (fun x y => A (if y < r then f y else i) (if x < r then g x else j)) c r := by
          rw [← sm_mul]
          refine sm_congr fun c hc => ?_
          have h3 : cofc r (fun x y => A (if y < r then f y else i) (g x)) c r = cofc r (fun x y => A (if y < r then f y else i) (if x < r then g x else j)) c r := by
            unfold cofc
            rw [det_congr fun x hx y _ => ?_]
            simp only [if_pos hx]
          rw [h3, if_pos hc, if_neg (Nat.lt_irrefl _)]; grind
        have h4 : det r (fun x y => A (if x < r then f x else i) (if y < r then g y else j)) = det r fun x y => A (f x) (g y) := det_congr fun x hx y hy => by rw [if_pos hx, if_pos hy]
        rw [h2]
        rw [h4] at h0
        simp only [Nat.lt_irrefl, if_false] at h0 ⊢
        grind
  exact key h 0 rfl ⟨id, id, fun i hi => absurd hi (Nat.not_lt_zero _), h1⟩
end
end Dt
end Go.Proofs.Ytjfjlloibmebeaa

