/- A prime number that divides a norm: one of the primes over it divides the number. -/
import Derived.Test.YthlhekkcjficdaaK1ToK12

namespace Go.Proofs.Ythlhekkcjficdaa
open Go Go.RowKit Dig
set_option linter.unusedVariables false
end Go.Proofs.Ythlhekkcjficdaa


/- A prime number 3 mod 4 that divides a sum of two squares divides both. -/
namespace Go.Proofs.Ythlhekkcjficdaa
open Go Go.RowKit Dig
set_option linter.unusedVariables false
end Go.Proofs.Ythlhekkcjficdaa


/- Behind all primes the rest is a unit. -/
namespace Go.Proofs.Ythlhekkcjficdaa
open Go Go.RowKit Dig
set_option linter.unusedVariables false
end Go.Proofs.Ythlhekkcjficdaa


/- How often a factor comes; the product in any order. -/
namespace Go.Proofs.Ythlhekkcjficdaa
open Go Go.RowKit Dig
set_option linter.unusedVariables false
end Go.Proofs.Ythlhekkcjficdaa


/- No prime comes twice. -/
namespace Go.Proofs.Ythlhekkcjficdaa
open Go Go.RowKit Dig
set_option linter.unusedVariables false
def Pr (t : Int × Int × Int) : Int × Int := (t.1, t.2.1)
theorem fc_sub (Q : List (Int × Int)) : ∀ (ps : List (Int × Int × Int)) (z : Int × Int), ((Q.foldl fcS (ps, z)).1.map Pr).Sublist (ps.map Pr ++ Q) := by
  induction Q with
  | nil => intro ps z; rw [List.append_nil]; exact List.Sublist.refl _
  | cons q Q ih =>
    intro ps z
    rw [List.foldl_cons]
    refine (ih (fcS (ps, z) q).1 (fcS (ps, z) q).2).trans ?_
    unfold fcS
    dsimp only
    split
    · rw [List.map_append, List.append_assoc]
      exact List.Sublist.refl _
    · exact List.Sublist.append (List.Sublist.refl _) (.cons _ (List.Sublist.refl _))
theorem PF.nodup : ∀ {n : Nat} {L : List Nat}, PF n L → L.Nodup
  | n, [], h => List.nodup_nil
  | n, q :: L, h => by
    obtain ⟨h1, m, h2, h3⟩ := h
    have hd : ∀ {n : Nat} {L : List Nat}, PF n L → ∀ p ∈ L, p ∣ n := by
      intro n L
      induction L generalizing n with
      | nil => intro _ p hp; exact nomatch hp
      | cons r L ih =>
        intro h p hp
        obtain ⟨k1, k, ⟨⟨e, he⟩, _⟩, k3⟩ := h
        rcases List.mem_cons.1 hp with rfl | hp
        · exact k1.1
        · rw [he]; exact Nat.dvd_mul_left_of_dvd (ih k3 p hp) _
    exact List.nodup_cons.2 ⟨fun hm => h2.2 (hd h3 q hm), PF.nodup h3⟩
/-- The norm of a prime over p: p, or p times p. -/
theorem pOv_is {p : Nat} (hp : IsLf p p) {q : Int × Int} (hq : q ∈ pOv p) : gN q.1 q.2 = p ∨ gN q.1 q.2 = (p : Int) * p := by
  unfold pOv at hq
  by_cases h2 : p = 2
  · rw [if_pos h2] at hq
    obtain rfl : q = (1, 1) := by simpa using hq
    subst h2
    exact .inl rfl
  · rw [if_neg h2] at hq
    rcases lf_4 hp h2 with h | h
    · rw [if_neg (by omega)] at hq
      obtain ⟨x, y, _, hyx, hs, ha, _⟩ := over1 hp h
      rw [ha] at hq
      have hc : ((x : Int) * x + (y : Int) * y) = (p : Int) := by rw [← hs]; simp
      have hq2 : q = ((y : Int), (x : Int)) ∨ q = ((x : Int), (y : Int)) := by simpa using hq
      left
      rcases hq2 with rfl | rfl <;> unfold gN <;> simp only <;> omega
    · rw [if_pos h] at hq
      obtain rfl : q = ((p : Int), 0) := by simpa using hq
      right
      unfold gN
      simp
theorem pOv_nodup {p : Nat} (hp : IsLf p p) : (pOv p).Nodup := by
  unfold pOv
  by_cases h2 : p = 2
  · rw [if_pos h2]; decide
  · rw [if_neg h2]
    rcases lf_4 hp h2 with h | h
    · rw [if_neg (by omega)]
      obtain ⟨x, y, _, hyx, hs, ha, _⟩ := over1 hp h
      rw [ha]
      have e : ([((x : Int), (y : Int))] : List (Int × Int)).flatMap (fun q => [(q.2, q.1), q]) = [((y : Int), (x : Int)), ((x : Int), (y : Int))] := rfl
      rw [e]
      simp only [List.nodup_cons, List.mem_singleton, Prod.mk.injEq, List.not_mem_nil, not_false_eq_true, List.nodup_nil, and_true]
      omega
    · rw [if_pos h]
      simp
theorem pOv_apart {p r : Nat} (hp : IsLf p p) (hr : IsLf r r) {q : Int × Int} (h1 : q ∈ pOv p) (h2 : q ∈ pOv r) : p = r := by
  have key : ∀ {a b : Nat}, IsLf a a → IsLf b b → b * b = a → False := fun ha hb e => prime_nsq ha _ e
  have sq : ∀ {a b : Nat}, a * a = b * b → a = b := fun e => Nat.mul_self_inj.1 e
  rcases pOv_is hp h1 with a | a <;> rcases pOv_is hr h2 with b | b
  · have := a.symm.trans b
    omega
  · have e : ((p : Nat) : Int) = ((r * r : Nat) : Int) := by rw [Int.natCast_mul]; exact a.symm.trans b
    exact (key hp hr (by omega)).elim
  · have e : ((p * p : Nat) : Int) = ((r : Nat) : Int) := by rw [Int.natCast_mul]; exact a.symm.trans b
    exact (key hr hp (by omega)).elim
  · have e : ((p * p : Nat) : Int) = ((r * r : Nat) : Int) := by rw [Int.natCast_mul, Int.natCast_mul]; exact a.symm.trans b
    exact sq (by omega)
theorem prs_nodup {n : Nat} : ∀ {L : List Nat}, (∀ p ∈ L, IsLf p p) → L.Nodup → (L.flatMap pOv).Nodup
  | [], _, _ => List.nodup_nil
  | p :: L, h, hd => by
    obtain ⟨h1, h2⟩ := List.nodup_cons.1 hd
    rw [List.flatMap_cons, List.nodup_append]
    refine ⟨pOv_nodup (h p List.mem_cons_self), prs_nodup (n := n) (fun r hr => h r (List.mem_cons_of_mem _ hr)) h2, fun a ha b hb e => ?_⟩
    subst e
    obtain ⟨r, hr, hb⟩ := List.mem_flatMap.1 hb
    exact h1 (pOv_apart (h p List.mem_cons_self) (h r (List.mem_cons_of_mem _ hr)) ha hb ▸ hr)
/-- NO PRIME COMES TWICE. -/
theorem fc_nodup {N0 : Nat} {L0 : List Nat} {z : Int × Int} (hL : PF N0 L0) : (((L0.flatMap pOv).foldl fcS ([], z)).1.map Pr).Nodup :=
  List.Nodup.sublist (fc_sub _ [] z) (by rw [List.map_nil, List.nil_append]; exact prs_nodup (n := 0) (fun p hp => (hL.mem p hp).1) hL.nodup)
end Go.Proofs.Ythlhekkcjficdaa


/- The factors: no greater than the number, prime, canonical. -/
namespace Go.Proofs.Ythlhekkcjficdaa
open Go Go.RowKit Dig
set_option linter.unusedVariables false
end Go.Proofs.Ythlhekkcjficdaa

