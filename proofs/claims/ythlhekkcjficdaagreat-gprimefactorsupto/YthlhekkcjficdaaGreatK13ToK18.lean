/- A prime number that divides a norm: one of the primes over it divides the number. -/
import Derived.Test.YthlhekkcjficdaaGreatK1ToK12

namespace Go.Proofs.YthlhekkcjficdaaGreat
open Go Go.RowKit Dig
set_option linter.unusedVariables false
theorem lf_imul {p : Nat} (hp : IsLf p p) {a b : Int} (h : (p : Int) ∣ a * b) : (p : Int) ∣ a ∨ (p : Int) ∣ b := by
  have h1 : p ∣ a.natAbs * b.natAbs := by
    have := Int.natAbs_dvd_natAbs.2 h
    rwa [Int.natAbs_natCast, Int.natAbs_mul] at this
  rcases hp.euclid h1 with h2 | h2
  · exact .inl (Int.dvd_natAbs.1 (Int.natCast_dvd_natCast.2 h2))
  · exact .inr (Int.dvd_natAbs.1 (Int.natCast_dvd_natCast.2 h2))
theorem gDv_of {x y u v : Int} (h1 : gN u v ∣ gT1 x y u v) (h2 : gN u v ∣ gT2 x y u v) : gDv x y u v := ⟨Int.fmod_eq_zero_of_dvd h1, Int.fmod_eq_zero_of_dvd h2⟩
theorem t_norm (x y u v : Int) : gT1 x y u v * gT1 x y u v + gT2 x y u v * gT2 x y u v = gN x y * gN u v := by
  unfold gT1 gT2 gN
  grind
/-- One of the two parts divisible by the prime norm, the other is so too. -/
theorem t_both {p : Nat} (hp : IsLf p p) {x y u v : Int} (hn : gN u v = (p : Int)) (hd : (p : Int) ∣ gN x y) (h : (p : Int) ∣ gT1 x y u v ∨ (p : Int) ∣ gT2 x y u v) : gDv x y u v := by
  have e := t_norm x y u v
  obtain ⟨m, hm⟩ := hd
  rw [hn, hm] at e
  have hb : (p : Int) ∣ gT1 x y u v ∧ (p : Int) ∣ gT2 x y u v := by
    rcases h with h | h
    · refine ⟨h, ?_⟩
      have h3 : (p : Int) ∣ gT2 x y u v * gT2 x y u v := by
        have h4 : gT2 x y u v * gT2 x y u v = (p : Int) * (m * p) - gT1 x y u v * gT1 x y u v := by grind
        rw [h4]
        exact Int.dvd_sub ⟨_, rfl⟩ (Int.dvd_mul_of_dvd_left h)
      exact (lf_imul hp h3).elim id id
    · refine ⟨?_, h⟩
      have h3 : (p : Int) ∣ gT1 x y u v * gT1 x y u v := by
        have h4 : gT1 x y u v * gT1 x y u v = (p : Int) * (m * p) - gT2 x y u v * gT2 x y u v := by grind
        rw [h4]
        exact Int.dvd_sub ⟨_, rfl⟩ (Int.dvd_mul_of_dvd_left h)
      exact (lf_imul hp h3).elim id id
  exact gDv_of (hn ▸ hb.1) (hn ▸ hb.2)
/-- A prime 1 mod 4: one of both. -/
theorem over_1 {p a b : Nat} (hp : IsLf p p) (hs : a * a + b * b = p) {x y : Int} (hd : (p : Int) ∣ gN x y) : gDv x y (b : Int) (a : Int) ∨ gDv x y (a : Int) (b : Int) := by
  have hc : ((a : Int) * a + (b : Int) * b) = (p : Int) := by rw [← hs]; simp
  have h1 : (p : Int) ∣ (x * a - y * b) * (x * a + y * b) := by
    obtain ⟨m, hm⟩ := hd
    refine ⟨x * x - (b : Int) * b * m, ?_⟩
    unfold gN at hm
    have h3 : x * x * ((a : Int) * a + (b : Int) * b) = x * x * p := by rw [hc]
    grind
  rcases lf_imul hp h1 with h | h
  · left
    refine t_both hp (by unfold gN; omega) hd (.inr ?_)
    have : gT2 x y (b : Int) (a : Int) = -(x * a - y * b) := by unfold gT2; grind
    rw [this]
    exact Int.dvd_neg.2 h
  · right
    refine t_both hp (by unfold gN; omega) hd (.inl ?_)
    have : gT1 x y (a : Int) (b : Int) = x * a + y * b := by unfold gT1; grind
    rw [this]
    exact h
/-- Two. -/
theorem over_2 {x y : Int} (hd : (2 : Int) ∣ gN x y) : gDv x y 1 1 := by
  have h2 : IsLf 2 2 := ⟨Nat.dvd_refl 2, Nat.le_refl 2, fun d h _ => h⟩
  have h1 : (2 : Int) ∣ (x + y) * (x + y) := by
    obtain ⟨m, hm⟩ := hd
    refine ⟨m + x * y, ?_⟩
    unfold gN at hm
    grind
  refine t_both (p := 2) h2 rfl hd (.inl ?_)
  have : gT1 x y 1 1 = x + y := by unfold gT1; grind
  rw [this]
  exact (lf_imul (p := 2) h2 h1).elim id id
end Go.Proofs.YthlhekkcjficdaaGreat


/- A prime number 3 mod 4 that divides a sum of two squares divides both. -/
namespace Go.Proofs.YthlhekkcjficdaaGreat
open Go Go.RowKit Dig
set_option linter.unusedVariables false
theorem lf3_ex : ∀ n : Nat, n % 4 = 3 → ∃ q, IsLf q q ∧ q % 4 = 3 ∧ q ∣ n := by
  intro n
  induction n using Nat.strongRecOn with
  | ind n ih =>
    intro h
    obtain ⟨r, hr⟩ := lf_ex (n := n) (by omega)
    obtain ⟨k, hk⟩ := hr.1
    have hr2 := hr.2.1
    rcases lf_4 hr.self (fun h2 => by subst h2; omega) with h1 | h1
    · have hk0 : 0 < k := Nat.pos_of_ne_zero fun e => by subst e; omega
      have hkn : k < n := by have := Nat.mul_le_mul_right k hr2; omega
      have hk3 : k % 4 = 3 := by
        have := Nat.mul_mod r k 4
        rw [← hk, h, h1, Nat.one_mul] at this
        omega
      obtain ⟨q, h3, h4, h5⟩ := ih k hkn hk3
      exact ⟨q, h3, h4, hk ▸ Nat.dvd_mul_left_of_dvd h5 r⟩
    · exact ⟨r, hr.self, h1, hr.1⟩
theorem sq_mod48 (c : Nat) : (c * c) % 4 = 0 ∧ c % 2 = 0 ∨ (c * c) % 8 = 1 ∧ c % 2 = 1 := by
  have h := Nat.mul_mod c c 8
  have h4 : (c * c) % 4 = (c * c) % 8 % 4 := by omega
  have : c % 8 < 8 := Nat.mod_lt _ (by omega)
  generalize hq : c % 8 = e at *
  have : e = 0 ∨ e = 1 ∨ e = 2 ∨ e = 3 ∨ e = 4 ∨ e = 5 ∨ e = 6 ∨ e = 7 := by omega
  rcases this with rfl | rfl | rfl | rfl | rfl | rfl | rfl | rfl <;> simp at h <;> omega
def Sum3 (p : Nat) : Prop := ∀ c d : Nat, p ∣ c * c + d * d → p ∣ c ∧ p ∣ d
theorem sum3_core {p : Nat} (ih : ∀ q, q < p → IsLf q q → q % 4 = 3 → Sum3 q) (hp : IsLf p p) (h3 : p % 4 = 3) (c d : Nat) (hg : Nat.gcd c d = 1) (hc : 2 * c ≤ p) (hd : 2 * d ≤ p) : ¬ p ∣ c * c + d * d := by
  intro hdv
  obtain ⟨m, hm⟩ := hdv
  have hp2 := hp.2.1
  have h1 : 2 * c * (2 * c) ≤ p * p := Nat.mul_le_mul hc hc
  have h2 : 2 * d * (2 * d) ≤ p * p := Nat.mul_le_mul hd hd
  have h4 : 4 * (p * m) ≤ 2 * (p * p) := by
    rw [← hm]
    have e1 : 2 * c * (2 * c) = 4 * (c * c) := by grind
    have e2 : 2 * d * (2 * d) = 4 * (d * d) := by grind
    omega
  have hmp : m < p := by
    refine Nat.lt_of_not_le fun hc2 => ?_
    have := Nat.mul_le_mul_left p hc2
    have : 0 < p * p := Nat.mul_pos (by omega) (by omega)
    omega
  have hm0 : 0 < m := by
    refine Nat.pos_of_ne_zero fun e => ?_
    rw [e, Nat.mul_zero] at hm
    have hc0 : c = 0 := by
      rcases Nat.eq_zero_or_pos c with h | h
      · exact h
      · have := Nat.mul_pos h h; omega
    have hd0 : d = 0 := by
      rcases Nat.eq_zero_or_pos d with h | h
      · exact h
      · have := Nat.mul_pos h h; omega
    rw [hc0, hd0] at hg
    cases hg
  have hq : ∃ q, IsLf q q ∧ q % 4 = 3 ∧ q ∣ m := by
    have hpm := Nat.mul_mod p m 4
    rw [h3] at hpm
    rcases sq_mod48 c with ⟨a1, a2⟩ | ⟨a1, a2⟩ <;> rcases sq_mod48 d with ⟨b1, b2⟩ | ⟨b1, b2⟩
    · have : 2 ∣ Nat.gcd c d := Nat.dvd_gcd (Nat.dvd_of_mod_eq_zero a2) (Nat.dvd_of_mod_eq_zero b2)
      rw [hg] at this
      have := Nat.le_of_dvd (by omega) this
      omega
    · exact lf3_ex m (by omega)
    · exact lf3_ex m (by omega)
    · have hs : (p * m) % 8 = 2 := by omega
      have hm2 : m % 2 = 0 := by omega
      obtain ⟨k, rfl⟩ := Nat.dvd_of_mod_eq_zero hm2
      have e : p * (2 * k) = 2 * (p * k) := by grind
      rw [e] at hs
      have hk := Nat.mul_mod p k 4
      rw [h3] at hk
      obtain ⟨q, q1, q2, q3⟩ := lf3_ex k (by omega)
      exact ⟨q, q1, q2, Nat.dvd_mul_left_of_dvd q3 2⟩
  obtain ⟨q, q1, q2, q3⟩ := hq
  have h5 := ih q (Nat.lt_of_le_of_lt (Nat.le_of_dvd hm0 q3) hmp) q1 q2 c d (hm ▸ Nat.dvd_mul_left_of_dvd q3 p)
  have h6 := Nat.dvd_gcd h5.1 h5.2
  rw [hg] at h6
  have := Nat.le_of_dvd (by omega) h6
  have := q1.2.1
  omega
/-- The least residue, its sign aside. -/
theorem res_half {p : Nat} (hp : 0 < p) (c : Nat) : ∃ r : Nat, 2 * r ≤ p ∧ (p ∣ r → p ∣ c) ∧ (r = 0 → p ∣ c) ∧ ∃ k : Int, (c : Int) * c = (r : Int) * r + p * k := by
  have hlt := Nat.mod_lt c hp
  have hdm := Nat.div_add_mod c p
  generalize c / p = t at *
  generalize hr : c % p = r at *
  have hz : p ∣ r → p ∣ c := fun h => hdm ▸ Nat.dvd_add ⟨t, rfl⟩ h
  rcases Nat.lt_or_ge p (2 * r) with h | h
  · refine ⟨p - r, by omega, fun hd => hz ?_, fun h0 => by omega, ?_⟩
    · have h2 : p - (p - r) = r := by omega
      rw [← h2]
      exact Nat.dvd_sub (Nat.dvd_refl p) hd
    · refine ⟨(p : Int) * t * t + 2 * t * r + 2 * r - p, ?_⟩
      have e : ((p - r : Nat) : Int) = (p : Int) - r := by omega
      have e2 : (c : Int) = p * t + r := by rw [← hdm]; simp
      rw [e, e2]
      grind
  · refine ⟨r, h, hz, fun h0 => hz (by rw [h0]; exact Nat.dvd_zero p), ?_⟩
    refine ⟨(p : Int) * t * t + 2 * t * r, ?_⟩
    have e2 : (c : Int) = p * t + r := by rw [← hdm]; simp
    rw [e2]
    grind
theorem sum3 : ∀ p : Nat, IsLf p p → p % 4 = 3 → Sum3 p := by
  intro p
  induction p using Nat.strongRecOn with
  | ind p ih =>
    intro hp h3 c d hdv
    have hp2 := hp.2.1
    obtain ⟨r, r1, r2, _, kr, hr⟩ := res_half (p := p) (by omega) c
    obtain ⟨s, s1, s2, _, ks, hs⟩ := res_half (p := p) (by omega) d
    have hrs : p ∣ r * r + s * s := by
      have h1 : (p : Int) ∣ ((r * r + s * s : Nat) : Int) := by
        obtain ⟨m, hm⟩ := hdv
        refine ⟨(m : Int) - kr - ks, ?_⟩
        have e : ((c : Int) * c + (d : Int) * d) = p * m := by rw [← Int.natCast_mul, ← Int.natCast_mul, ← Int.natCast_add, hm, Int.natCast_mul]
        rw [Int.natCast_add, Int.natCast_mul, Int.natCast_mul]
        grind
      exact Int.natCast_dvd_natCast.1 h1
    suffices h : p ∣ r ∧ p ∣ s from ⟨r2 h.1, s2 h.2⟩
    rcases Nat.eq_zero_or_pos (Nat.gcd r s) with hg | hg
    · rw [Nat.eq_zero_of_gcd_eq_zero_left hg, Nat.eq_zero_of_gcd_eq_zero_right hg]
      exact ⟨Nat.dvd_zero p, Nat.dvd_zero p⟩
    · by_cases hpg : p ∣ Nat.gcd r s
      · exact ⟨Nat.dvd_trans hpg (Nat.gcd_dvd_left r s), Nat.dvd_trans hpg (Nat.gcd_dvd_right r s)⟩
      · exfalso
        obtain ⟨r', er⟩ := Nat.gcd_dvd_left r s
        obtain ⟨s', es⟩ := Nat.gcd_dvd_right r s
        obtain ⟨g, hgd⟩ : ∃ g, Nat.gcd r s = g := ⟨_, rfl⟩
        rw [hgd] at er es hg hpg
        subst er es
        rw [Nat.gcd_mul_left] at hgd
        have hco : Nat.gcd r' s' = 1 := Nat.eq_of_mul_eq_mul_left hg (hgd.trans (Nat.mul_one g).symm)
        have hrl : r' ≤ g * r' := Nat.le_mul_of_pos_left r' hg
        have hsl : s' ≤ g * s' := Nat.le_mul_of_pos_left s' hg
        refine sum3_core ih hp h3 r' s' hco (by omega) (by omega) ?_
        have e : g * r' * (g * r') + g * s' * (g * s') = g * (g * (r' * r' + s' * s')) := by grind
        rw [e] at hrs
        rcases hp.euclid hrs with h | h
        · exact absurd h hpg
        · exact (hp.euclid h).resolve_left hpg
/-- A prime 3 mod 4. -/
theorem over_3 {p : Nat} (hp : IsLf p p) (h3 : p % 4 = 3) {x y : Int} (hd : (p : Int) ∣ gN x y) : gDv x y (p : Int) 0 := by
  have h1 : p ∣ x.natAbs * x.natAbs + y.natAbs * y.natAbs := by
    have e : ((x.natAbs * x.natAbs + y.natAbs * y.natAbs : Nat) : Int) = gN x y := by
      rw [Int.natCast_add, Int.natCast_mul, Int.natCast_mul, Int.natAbs_mul_self', Int.natAbs_mul_self']
      rfl
    exact Int.natCast_dvd_natCast.1 (e ▸ hd)
  have h2 := sum3 p hp h3 _ _ h1
  obtain ⟨a, ha⟩ := Int.dvd_natAbs.1 (Int.natCast_dvd_natCast.2 h2.1)
  obtain ⟨b, hb⟩ := Int.dvd_natAbs.1 (Int.natCast_dvd_natCast.2 h2.2)
  refine gDv_of ⟨a, ?_⟩ ⟨b, ?_⟩
  · unfold gN gT1
    rw [ha]
    grind
  · unfold gN gT2
    rw [hb]
    grind
/-- A prime number that divides a norm: one of the primes over it divides the number. -/
theorem over_dv {p : Nat} (hp : IsLf p p) {x y : Int} (hd : (p : Int) ∣ gN x y) : ∃ q ∈ pOv p, gDv x y q.1 q.2 := by
  unfold pOv
  by_cases h2 : p = 2
  · subst h2
    rw [if_pos rfl]
    exact ⟨(1, 1), by simp, over_2 hd⟩
  · rw [if_neg h2]
    rcases lf_4 hp h2 with h | h
    · rw [if_neg (by omega)]
      obtain ⟨a, b, _, hyx, hs, ha, _⟩ := over1 hp h
      rw [ha]
      rcases over_1 hp hs hd with h5 | h5
      · exact ⟨((b : Int), (a : Int)), by simp, h5⟩
      · exact ⟨((a : Int), (b : Int)), by simp, h5⟩
    · rw [if_pos h]
      exact ⟨((p : Int), 0), by simp, over_3 hp h hd⟩
end Go.Proofs.YthlhekkcjficdaaGreat


/- Behind all primes the rest is a unit. -/
namespace Go.Proofs.YthlhekkcjficdaaGreat
open Go Go.RowKit Dig
set_option linter.unusedVariables false
theorem gDv_iff {x y u v : Int} (h0 : gN u v ≠ 0) : gDv x y u v ↔ ∃ D, (x, y) = gP D (u, v) := by
  constructor
  · intro h
    have := gD_eq h0 h
    exact ⟨(gD1 x y u v, gD2 x y u v), by unfold gP; dsimp only; rw [← this.1, ← this.2]⟩
  · rintro ⟨D, hD⟩
    unfold gP at hD
    simp only [Prod.mk.injEq] at hD
    refine gDv_of ⟨D.1, ?_⟩ ⟨D.2, ?_⟩
    · unfold gN gT1
      rw [hD.1, hD.2]
      grind
    · unfold gN gT2
      rw [hD.1, hD.2]
      grind
theorem fc_part (Q : List (Int × Int)) (hQ : ∀ q ∈ Q, 2 ≤ gN q.1 q.2) : ∀ (ps : List (Int × Int × Int)) (X Y : Int), gN X Y ≠ 0 → gN (Q.foldl fcS (ps, (X, Y))).2.1 (Q.foldl fcS (ps, (X, Y))).2.2 ≠ 0 ∧ ∃ D, (X, Y) = gP D (Q.foldl fcS (ps, (X, Y))).2 := by
  induction Q with
  | nil => intro ps X Y h; exact ⟨h, (1, 0), (gP_one _).symm⟩
  | cons q Q ih =>
    intro ps X Y h
    have h2 := hQ q List.mem_cons_self
    have h6 := tkF_norm h2 h
    have hp := tkF_prod h2 h
    have hi := ih (fun a ha => hQ a (List.mem_cons_of_mem _ ha)) (fcS (ps, (X, Y)) q).1 (tkF q.1 q.2 X Y).2.1 (tkF q.1 q.2 X Y).2.2 h6.1
    obtain ⟨D, hD⟩ := hi.2
    rw [List.foldl_cons]
    refine ⟨hi.1, gP (gPw (q.1, q.2) (tkF q.1 q.2 X Y).1) D, ?_⟩
    rw [gP_assoc]
    have e : gP D (Q.foldl fcS (fcS (ps, (X, Y)) q)).2 = (tkF q.1 q.2 X Y).2 := hD.symm
    rw [e, hp]
/-- None of the primes divides what is left. -/
theorem fc_rest (Q : List (Int × Int)) (hQ : ∀ q ∈ Q, 2 ≤ gN q.1 q.2) : ∀ (ps : List (Int × Int × Int)) (X Y : Int), gN X Y ≠ 0 → ∀ q ∈ Q, ¬ gDv (Q.foldl fcS (ps, (X, Y))).2.1 (Q.foldl fcS (ps, (X, Y))).2.2 q.1 q.2 := by
  induction Q with
  | nil => intro ps X Y _ q hq; exact nomatch hq
  | cons r Q ih =>
    intro ps X Y h q hq
    have h2 := hQ r List.mem_cons_self
    have h6 := tkF_norm h2 h
    rw [List.foldl_cons]
    rcases List.mem_cons.1 hq with rfl | hq
    · intro hd
      have hr := tkF_rest h2 _ X Y h (Nat.le_refl _)
      refine hr ?_
      have hp := fc_part Q (fun a ha => hQ a (List.mem_cons_of_mem _ ha)) (fcS (ps, (X, Y)) q).1 (tkF q.1 q.2 X Y).2.1 (tkF q.1 q.2 X Y).2.2 h6.1
      obtain ⟨D, hD⟩ := hp.2
      have h0 : gN q.1 q.2 ≠ 0 := by omega
      obtain ⟨E, hE⟩ := (gDv_iff h0).1 hd
      refine (gDv_iff h0).2 ⟨gP D E, ?_⟩
      rw [gP_assoc, ← hE]
      exact hD
    · exact ih (fun a ha => hQ a (List.mem_cons_of_mem _ ha)) (fcS (ps, (X, Y)) r).1 (tkF r.1 r.2 X Y).2.1 (tkF r.1 r.2 X Y).2.2 h6.1 q hq
theorem lf_pow {p q : Nat} (hp : IsLf p p) : ∀ e : Nat, p ∣ q ^ e → p ∣ q
  | 0, h => by
    rw [Nat.pow_zero] at h
    have := Nat.le_of_dvd (by omega) h
    have := hp.2.1
    omega
  | e + 1, h => by
    rw [Nat.pow_succ] at h
    rcases hp.euclid h with h | h
    · exact lf_pow hp e h
    · exact h
/-- All prime numbers that divide it are among them. -/
theorem PF.all : ∀ {n : Nat} {L : List Nat}, PF n L → ∀ p, IsLf p p → p ∣ n → p ∈ L
  | n, [], h, p, hp, hd => by
    rw [show n = 1 from h] at hd
    have := Nat.le_of_dvd (by omega) hd
    have := hp.2.1
    omega
  | n, q :: L, h, p, hp, hd => by
    obtain ⟨h1, m, ⟨⟨e, he⟩, h2⟩, h3⟩ := h
    rw [he] at hd
    rcases hp.euclid hd with hd | hd
    · have h4 := lf_pow hp e hd
      have h5 := h1.self.2.2 p hp.2.1 h4
      have h6 := Nat.le_of_dvd (by have := h1.2.1; omega) h4
      rw [show p = q by omega]
      exact List.mem_cons_self
    · exact List.mem_cons_of_mem _ (PF.all h3 p hp hd)
/-- THE REST IS A UNIT. -/
theorem fc_unit {x y : Int} {N0 : Nat} {L0 : List Nat} {T : List (Int × Int × Int)} {U V : Int} (hn : gN x y = (N0 : Int)) (h0 : N0 ≠ 0) (hL : PF N0 L0) (hT : (L0.flatMap pOv).foldl fcS ([], (x, y)) = (T, (U, V))) : gN U V = 1 := by
  have hQ : ∀ q ∈ L0.flatMap pOv, 2 ≤ gN q.1 q.2 := fun q hq => by
    obtain ⟨p, hp, hq⟩ := List.mem_flatMap.1 hq
    exact pOv_norm (hL.mem p hp).1 hq
  have hx : gN x y ≠ 0 := by omega
  have h1 := fc_part _ hQ [] x y hx
  have h2 := fc_rest _ hQ [] x y hx
  rw [hT] at h1 h2
  obtain ⟨D, hD⟩ := h1.2
  have hg := gN_nonneg U V
  have hne : gN U V ≠ 0 := h1.1
  refine Int.le_antisymm (Int.not_lt.1 fun hlt => ?_) (by omega)
  obtain ⟨p, hp⟩ := lf_ex (n := (gN U V).toNat) (by omega)
  have hpu : (p : Int) ∣ gN U V := by
    have := Int.natCast_dvd_natCast.2 hp.1
    rwa [Int.toNat_of_nonneg hg] at this
  have hpn : p ∣ N0 := by
    have e : gN x y = gN D.1 D.2 * gN U V := by
      have := gP_norm D (U, V)
      rw [← hD] at this
      exact this
    have h5 : (p : Int) ∣ (N0 : Int) := by
      rw [← hn, e]
      exact Int.dvd_mul_of_dvd_right hpu
    exact Int.natCast_dvd_natCast.1 h5
  obtain ⟨q, hq, hd⟩ := over_dv hp.self hpu
  exact h2 q (List.mem_flatMap.2 ⟨p, hL.all p hp.self hpn, hq⟩) hd
end Go.Proofs.YthlhekkcjficdaaGreat


/- How often a factor comes; the product in any order. -/
namespace Go.Proofs.YthlhekkcjficdaaGreat
open Go Go.RowKit Dig
set_option linter.unusedVariables false
theorem gPs_perm {ps qs : List (Int × Int × Int)} (h : ps.Perm qs) : gPs ps = gPs qs := by
  unfold gPs
  refine h.foldl_eq' (fun a _ b _ z => ?_) _
  rw [gP_assoc, gP_assoc, gP_comm (gPw _ _) (gPw _ _)]
theorem two_pow_le {a : Int} (h : 2 ≤ a) : ∀ n : Nat, ((2 ^ n : Nat) : Int) ≤ a ^ n
  | 0 => by simp
  | n + 1 => by
    have h1 := two_pow_le h n
    rw [Int.pow_succ, Nat.pow_succ, Int.natCast_mul]
    have h0 : (0 : Int) ≤ ((2 ^ n : Nat) : Int) := Int.natCast_nonneg _
    exact Int.mul_le_mul h1 (by simpa using h) (by decide) (Int.le_trans h0 h1)
theorem tkF_count {u v x y : Int} (h2 : 2 ≤ gN u v) (h : gN x y ≠ 0) (hn : gN x y < 4294967296) : (tkF u v x y).1 < 32 := by
  have hp := tkF_prod h2 h
  have h6 := (tkF_norm h2 h).1
  have h7 := gN_nonneg (tkF u v x y).2.1 (tkF u v x y).2.2
  have e := gP_norm (gPw (u, v) (tkF u v x y).1) (tkF u v x y).2
  rw [hp, gPw_norm] at e
  dsimp only at e
  refine Nat.lt_of_not_le fun hc => ?_
  have h8 := two_pow_le h2 (tkF u v x y).1
  have h9 : (2 : Nat) ^ 32 ≤ 2 ^ (tkF u v x y).1 := Nat.pow_le_pow_right (by decide) hc
  have h10 : (4294967296 : Int) ≤ ((2 ^ (tkF u v x y).1 : Nat) : Int) := by
    rw [show (2 : Nat) ^ 32 = 4294967296 by decide] at h9
    omega
  generalize ((2 ^ (tkF u v x y).1 : Nat) : Int) = B at *
  generalize gN u v ^ (tkF u v x y).1 = A at *
  generalize gN (tkF u v x y).2.1 (tkF u v x y).2.2 = C at *
  have h11 : A * 1 ≤ A * C := Int.mul_le_mul_of_nonneg_left (by omega) (by omega)
  omega
theorem fc_counts (Q : List (Int × Int)) (hQ : ∀ q ∈ Q, 2 ≤ gN q.1 q.2) : ∀ (ps : List (Int × Int × Int)) (X Y : Int), gN X Y ≠ 0 → gN X Y < 4294967296 → (∀ t ∈ ps, 1 ≤ t.2.2 ∧ t.2.2 ≤ 31) → ∀ t ∈ (Q.foldl fcS (ps, (X, Y))).1, 1 ≤ t.2.2 ∧ t.2.2 ≤ 31 := by
  induction Q with
  | nil => intro ps X Y _ _ h; exact h
  | cons q Q ih =>
    intro ps X Y h hb hps
    have h2 := hQ q List.mem_cons_self
    have h6 := tkF_norm h2 h
    have hc := tkF_count h2 h hb
    rw [List.foldl_cons]
    refine ih (fun a ha => hQ a (List.mem_cons_of_mem _ ha)) (fcS (ps, (X, Y)) q).1 (tkF q.1 q.2 X Y).2.1 (tkF q.1 q.2 X Y).2.2 h6.1 (Int.lt_of_le_of_lt h6.2 hb) (fun t ht => ?_)
    unfold fcS at ht
    dsimp only at ht
    by_cases h0 : 0 < (tkF q.1 q.2 X Y).1
    · rw [if_pos h0] at ht
      rcases List.mem_append.1 ht with ht | ht
      · exact hps t ht
      · obtain rfl := List.mem_singleton.1 ht
        dsimp only
        omega
    · rw [if_neg h0] at ht
      exact hps t ht
end Go.Proofs.YthlhekkcjficdaaGreat


/- No prime comes twice. -/
namespace Go.Proofs.YthlhekkcjficdaaGreat
open Go Go.RowKit Dig
set_option linter.unusedVariables false
def Pr (t : Int × Int × Int) : Int × Int := (t.1, t.2.1)
theorem fc_sub (Q : List (Int × Int)) : ∀ (ps : List (Int × Int × Int)) (z : Int × Int), ((Q.foldl fcS (ps, z)).1.map Pr).Sublist (ps.map Pr ++ Q) := by
  induction Q with
  | nil => intro ps z; rw [List.append_nil]; exact List.Sublist.refl _
  | cons q Q ih =>
    intro ps z
    rw [List.foldl_cons]
    refine (ih (fcS (ps, z) q).1 (fcS (ps, z) q).2).trans ?_
    unfold fcS
    dsimp only
    split
    · rw [List.map_append, List.append_assoc]
      exact List.Sublist.refl _
    · exact List.Sublist.append (List.Sublist.refl _) (.cons _ (List.Sublist.refl _))
theorem PF.nodup : ∀ {n : Nat} {L : List Nat}, PF n L → L.Nodup
  | n, [], h => List.nodup_nil
  | n, q :: L, h => by
    obtain ⟨h1, m, h2, h3⟩ := h
    have hd : ∀ {n : Nat} {L : List Nat}, PF n L → ∀ p ∈ L, p ∣ n := by
      intro n L
      induction L generalizing n with
      | nil => intro _ p hp; exact nomatch hp
      | cons r L ih =>
        intro h p hp
        obtain ⟨k1, k, ⟨⟨e, he⟩, _⟩, k3⟩ := h
        rcases List.mem_cons.1 hp with rfl | hp
        · exact k1.1
        · rw [he]; exact Nat.dvd_mul_left_of_dvd (ih k3 p hp) _
    exact List.nodup_cons.2 ⟨fun hm => h2.2 (hd h3 q hm), PF.nodup h3⟩
/-- The norm of a prime over p: p, or p times p. -/
theorem pOv_is {p : Nat} (hp : IsLf p p) {q : Int × Int} (hq : q ∈ pOv p) : gN q.1 q.2 = p ∨ gN q.1 q.2 = (p : Int) * p := by
  unfold pOv at hq
  by_cases h2 : p = 2
  · rw [if_pos h2] at hq
    obtain rfl : q = (1, 1) := by simpa using hq
    subst h2
    exact .inl rfl
  · rw [if_neg h2] at hq
    rcases lf_4 hp h2 with h | h
    · rw [if_neg (by omega)] at hq
      obtain ⟨x, y, _, hyx, hs, ha, _⟩ := over1 hp h
      rw [ha] at hq
      have hc : ((x : Int) * x + (y : Int) * y) = (p : Int) := by rw [← hs]; simp
      have hq2 : q = ((y : Int), (x : Int)) ∨ q = ((x : Int), (y : Int)) := by simpa using hq
      left
      rcases hq2 with rfl | rfl <;> unfold gN <;> simp only <;> omega
    · rw [if_pos h] at hq
      obtain rfl : q = ((p : Int), 0) := by simpa using hq
      right
      unfold gN
      simp
theorem pOv_nodup {p : Nat} (hp : IsLf p p) : (pOv p).Nodup := by
  unfold pOv
  by_cases h2 : p = 2
  · rw [if_pos h2]; decide
  · rw [if_neg h2]
    rcases lf_4 hp h2 with h | h
    · rw [if_neg (by omega)]
      obtain ⟨x, y, _, hyx, hs, ha, _⟩ := over1 hp h
      rw [ha]
      have e : ([((x : Int), (y : Int))] : List (Int × Int)).flatMap (fun q => [(q.2, q.1), q]) = [((y : Int), (x : Int)), ((x : Int), (y : Int))] := rfl
      rw [e]
      simp only [List.nodup_cons, List.mem_singleton, Prod.mk.injEq, List.not_mem_nil, not_false_eq_true, List.nodup_nil, and_true]
      omega
    · rw [if_pos h]
      simp
theorem pOv_apart {p r : Nat} (hp : IsLf p p) (hr : IsLf r r) {q : Int × Int} (h1 : q ∈ pOv p) (h2 : q ∈ pOv r) : p = r := by
  have key : ∀ {a b : Nat}, IsLf a a → IsLf b b → b * b = a → False := fun ha hb e => prime_nsq ha _ e
  have sq : ∀ {a b : Nat}, a * a = b * b → a = b := fun e => Nat.mul_self_inj.1 e
  rcases pOv_is hp h1 with a | a <;> rcases pOv_is hr h2 with b | b
  · have := a.symm.trans b
    omega
  · have e : ((p : Nat) : Int) = ((r * r : Nat) : Int) := by rw [Int.natCast_mul]; exact a.symm.trans b
    exact (key hp hr (by omega)).elim
  · have e : ((p * p : Nat) : Int) = ((r : Nat) : Int) := by rw [Int.natCast_mul]; exact a.symm.trans b
    exact (key hr hp (by omega)).elim
  · have e : ((p * p : Nat) : Int) = ((r * r : Nat) : Int) := by rw [Int.natCast_mul, Int.natCast_mul]; exact a.symm.trans b
    exact sq (by omega)
theorem prs_nodup {n : Nat} : ∀ {L : List Nat}, (∀ p ∈ L, IsLf p p) → L.Nodup → (L.flatMap pOv).Nodup
  | [], _, _ => List.nodup_nil
  | p :: L, h, hd => by
    obtain ⟨h1, h2⟩ := List.nodup_cons.1 hd
    rw [List.flatMap_cons, List.nodup_append]
    refine ⟨pOv_nodup (h p List.mem_cons_self), prs_nodup (n := n) (fun r hr => h r (List.mem_cons_of_mem _ hr)) h2, fun a ha b hb e => ?_⟩
    subst e
    obtain ⟨r, hr, hb⟩ := List.mem_flatMap.1 hb
    exact h1 (pOv_apart (h p List.mem_cons_self) (h r (List.mem_cons_of_mem _ hr)) ha hb ▸ hr)
/-- NO PRIME COMES TWICE. -/
theorem fc_nodup {N0 : Nat} {L0 : List Nat} {z : Int × Int} (hL : PF N0 L0) : (((L0.flatMap pOv).foldl fcS ([], z)).1.map Pr).Nodup :=
  List.Nodup.sublist (fc_sub _ [] z) (by rw [List.map_nil, List.nil_append]; exact prs_nodup (n := 0) (fun p hp => (hL.mem p hp).1) hL.nodup)
end Go.Proofs.YthlhekkcjficdaaGreat


/- The factors: no greater than the number, prime, canonical. -/
namespace Go.Proofs.YthlhekkcjficdaaGreat
open Go Go.RowKit Dig
set_option linter.unusedVariables false
theorem tkF_dv {u v x y : Int} (h : 0 < (tkF u v x y).1) : gDv x y u v := by
  by_cases hd : gDv x y u v
  · exact hd
  · rw [tkF_no hd] at h
    exact absurd h (Nat.lt_irrefl 0)
theorem gDv_le {u v x y : Int} (h2 : 2 ≤ gN u v) (h0 : gN x y ≠ 0) (h : gDv x y u v) : gN u v ≤ gN x y := by
  have e := gD_norm (by omega) h
  have hs := gD_small h2 h0 h
  have h3 := gN_nonneg (gD1 x y u v) (gD2 x y u v)
  rw [e]
  have := Int.mul_le_mul_of_nonneg_right (show 1 ≤ gN (gD1 x y u v) (gD2 x y u v) by omega) (show 0 ≤ gN u v by omega)
  omega
theorem fc_le (Q : List (Int × Int)) (hQ : ∀ q ∈ Q, 2 ≤ gN q.1 q.2) (B : Int) : ∀ (ps : List (Int × Int × Int)) (X Y : Int), gN X Y ≠ 0 → gN X Y ≤ B → (∀ t ∈ ps, gN t.1 t.2.1 ≤ B) → ∀ t ∈ (Q.foldl fcS (ps, (X, Y))).1, gN t.1 t.2.1 ≤ B := by
  induction Q with
  | nil => intro ps X Y _ _ h; exact h
  | cons q Q ih =>
    intro ps X Y h hb hps
    have h2 := hQ q List.mem_cons_self
    have h6 := tkF_norm h2 h
    rw [List.foldl_cons]
    refine ih (fun a ha => hQ a (List.mem_cons_of_mem _ ha)) (fcS (ps, (X, Y)) q).1 (tkF q.1 q.2 X Y).2.1 (tkF q.1 q.2 X Y).2.2 h6.1 (Int.le_trans h6.2 hb) (fun t ht => ?_)
    unfold fcS at ht
    dsimp only at ht
    by_cases h0 : 0 < (tkF q.1 q.2 X Y).1
    · rw [if_pos h0] at ht
      rcases List.mem_append.1 ht with ht | ht
      · exact hps t ht
      · obtain rfl := List.mem_singleton.1 ht
        exact Int.le_trans (gDv_le h2 h (tkF_dv h0)) hb
    · rw [if_neg h0] at ht
      exact hps t ht
/-- A prime over p is canonical. -/
theorem pOv_canon {p : Nat} (hp : IsLf p p) {q : Int × Int} (hq : q ∈ pOv p) : kq q.1 q.2 = 0 := by
  have h2' := hp.2.1
  unfold pOv at hq
  have key : ∀ a b : Int, 0 < a → 0 ≤ b → kq a b = 0 := fun a b ha hb => by unfold kq; (repeat' split) <;> omega
  by_cases h2 : p = 2
  · rw [if_pos h2] at hq
    obtain rfl : q = (1, 1) := by simpa using hq
    rfl
  · rw [if_neg h2] at hq
    rcases lf_4 hp h2 with h | h
    · rw [if_neg (by omega)] at hq
      obtain ⟨x, y, hy0, hyx, hs, ha, _⟩ := over1 hp h
      rw [ha] at hq
      have hq2 : q = ((y : Int), (x : Int)) ∨ q = ((x : Int), (y : Int)) := by simpa using hq
      rcases hq2 with rfl | rfl
      · exact key _ _ (by omega) (by omega)
      · exact key _ _ (by omega) (by omega)
    · rw [if_pos h] at hq
      obtain rfl : q = ((p : Int), 0) := by simpa using hq
      exact key _ _ (by omega) (Int.le_refl _)
theorem lf_sq {p : Nat} (hp : IsLf p p) : IsLf (p * p) p := ⟨⟨p, rfl⟩, hp.2.1, fun d h2 hd => by
  obtain ⟨r, hr⟩ := lf_ex h2
  have h3 : r ∣ p * p := Nat.dvd_trans hr.1 hd
  have h4 : r ∣ p := (hr.self.euclid h3).elim id id
  have h5 := hp.2.2 r hr.2.1 h4
  have h6 := Nat.le_of_dvd (by omega) hr.1
  omega⟩
/-- .. and a prime, as IsPrime tells. -/
theorem pOv_prime {p : Nat} (hp : IsLf p p) {q : Int × Int} (hq : q ∈ pOv p) : primeB (gN q.1 q.2).toNat = true := by
  have h2' := hp.2.1
  rcases pOv_is hp hq with h | h
  · rw [h, Int.toNat_natCast, primeB_eq hp hp.2.1]
    simp
  · have h3 : p % 4 = 3 := by
      unfold pOv at hq
      by_cases h2 : p = 2
      · rw [if_pos h2] at hq
        obtain rfl : q = (1, 1) := by simpa using hq
        subst h2
        exact absurd h (by decide)
      · rw [if_neg h2] at hq
        rcases lf_4 hp h2 with h4 | h4
        · rw [if_neg (by omega)] at hq
          obtain ⟨x, y, _, hyx, hs, ha, _⟩ := over1 hp h4
          rw [ha] at hq
          have hc : ((x : Int) * x + (y : Int) * y) = (p : Int) := by rw [← hs]; simp
          have hg : gN q.1 q.2 = p := by
            have hq2 : q = ((y : Int), (x : Int)) ∨ q = ((x : Int), (y : Int)) := by simpa using hq
            rcases hq2 with rfl | rfl <;> unfold gN <;> simp only <;> omega
          have e : ((p * p : Nat) : Int) = ((p : Nat) : Int) := by rw [Int.natCast_mul, ← h, hg]
          have e2 : p * p = p := by omega
          exact absurd e2 (prime_nsq hp p)
        · exact h4
    have e : (gN q.1 q.2).toNat = p * p := by rw [h, ← Int.natCast_mul, Int.toNat_natCast]
    have h5 : 2 ≤ p * p := by have := Nat.mul_le_mul h2' h2'; omega
    rw [e, primeB_eq (lf_sq hp) h5]
    simp [h3]
end Go.Proofs.YthlhekkcjficdaaGreat

