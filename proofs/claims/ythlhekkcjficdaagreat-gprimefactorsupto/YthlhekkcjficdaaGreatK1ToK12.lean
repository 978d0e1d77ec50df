/- Prime numbers as sums of two squares: which, and in how many ways. -/
import Derived.Test.YthlhekkcjficdaaGreatK6ToJ9
import Derived.Test.YthlhekkcjficdaaGreatG3ToR10
import Derived.Test.YthlhekkcjficdaaGreatWkToG2
import Derived.Test.YthlhekkcjficdaaGreatZaToJ6

namespace Go.Proofs.YthlhekkcjficdaaGreat
open Go Go.RowKit Dig
set_option linter.unusedVariables false

/-- A list that an involution without fixed points maps to itself has an even length. -/
theorem even_inv {α : Type} [DecidableEq α] (f : α → α) : ∀ (n : Nat) (L : List α), L.length = n → L.Nodup → (∀ a ∈ L, f a ∈ L ∧ f (f a) = a ∧ f a ≠ a) → n % 2 = 0 := by
  intro n
  induction n using Nat.strongRecOn with
  | ind n ih =>
    intro L hn hd h
    match L, hn, hd, h with
    | [], hn, _, _ => simp at hn; omega
    | a :: t, hn, hd, h =>
      obtain ⟨h1, h2, h3⟩ := h a (List.mem_cons_self ..)
      have hat := (List.nodup_cons.1 hd).1
      have htn := (List.nodup_cons.1 hd).2
      have hbt : f a ∈ t := (List.mem_cons.1 h1).resolve_left h3
      have hlen := List.length_erase_of_mem hbt
      have hpos := List.length_pos_of_mem hbt
      simp only [List.length_cons] at hn
      have := ih (n - 2) (by omega) (t.erase (f a)) (by omega) (htn.erase _) (fun c hc => by
        obtain ⟨hc1, hc2⟩ := htn.mem_erase_iff.1 hc
        obtain ⟨h4, h5, h6⟩ := h c (List.mem_cons_of_mem _ hc2)
        have hca : f c ≠ a := fun e => hc1 (by rw [← e, h5])
        have hcb : f c ≠ f a := fun e => hat (by rw [← h2, ← e, h5]; exact hc2)
        exact ⟨htn.mem_erase_iff.2 ⟨hcb, (List.mem_cons.1 h4).resolve_left hca⟩, h5, h6⟩)
      omega
/-- The same with just one fixed point: odd. -/
theorem odd_inv {α : Type} [DecidableEq α] (f : α → α) (L : List α) (hd : L.Nodup) (a0 : α) (h0 : a0 ∈ L) (hf : f a0 = a0) (h : ∀ a ∈ L, f a ∈ L ∧ f (f a) = a ∧ (f a = a → a = a0)) : L.length % 2 = 1 := by
  have hlen := List.length_erase_of_mem h0
  have hpos := List.length_pos_of_mem h0
  have := even_inv f (L.length - 1) (L.erase a0) hlen (hd.erase _) (fun c hc => by
    obtain ⟨hc1, hc2⟩ := hd.mem_erase_iff.1 hc
    obtain ⟨h4, h5, h6⟩ := h c hc2
    exact ⟨hd.mem_erase_iff.2 ⟨fun e => hc1 (by rw [← h5, e, hf]), h4⟩, h5, fun e => hc1 (h6 e)⟩)
  omega
def zz : Nat × Nat × Nat → Nat × Nat × Nat := fun (x, y, z) => if x + z < y then (x + 2 * z, z, y - x - z) else if x < 2 * y then (2 * y - x, y, x + z - y) else (x - 2 * y, x + z - y, y)
/-- All triples with x^2 + 4 y z = p. -/
def zL (p : Nat) : List (Nat × Nat × Nat) := (List.range (p + 1)).flatMap fun x => (List.range (p + 1)).flatMap fun y => ((List.range (p + 1)).filter fun z => x * x + 4 * y * z = p).map fun z => (x, y, z)
theorem zL_nodup (p : Nat) : (zL p).Nodup := by
  unfold zL List.Nodup
  refine List.pairwise_flatMap.2 ⟨fun x _ => List.pairwise_flatMap.2 ⟨fun y _ => ?_, ?_⟩, ?_⟩
  · refine List.Pairwise.map _ (fun a b h e => h ?_) (List.Pairwise.filter _ (List.nodup_range (n := p + 1)))
    simpa using e
  · refine List.Pairwise.imp (fun {a b} h => ?_) (List.nodup_range (n := p + 1))
    intro s hs t ht e
    obtain ⟨_, _, rfl⟩ := List.mem_map.1 hs
    obtain ⟨_, _, rfl⟩ := List.mem_map.1 ht
    exact h (by simpa using (congrArg (fun q => q.2.1) e))
  · refine List.Pairwise.imp (fun {a b} h => ?_) (List.nodup_range (n := p + 1))
    intro s hs t ht e
    obtain ⟨_, _, hs⟩ := List.mem_flatMap.1 hs
    obtain ⟨_, _, ht⟩ := List.mem_flatMap.1 ht
    obtain ⟨_, _, rfl⟩ := List.mem_map.1 hs
    obtain ⟨_, _, rfl⟩ := List.mem_map.1 ht
    exact h (by simpa using (congrArg (fun q => q.1) e))
theorem zL_mem {p x y z : Nat} (hp : ∀ a, a * a ≠ p) (h1 : x * x + 4 * y * z = p) : (x, y, z) ∈ zL p := by
  have hyz : 0 < y * z := by
    rcases Nat.eq_zero_or_pos (y * z) with h | h
    · rw [Nat.mul_assoc, h, Nat.mul_zero, Nat.add_zero] at h1; exact absurd h1 (hp x)
    · exact h
  have hy : 0 < y := Nat.pos_of_ne_zero fun e => by rw [e, Nat.zero_mul] at hyz; omega
  have hz : 0 < z := Nat.pos_of_ne_zero fun e => by rw [e, Nat.mul_zero] at hyz; omega
  have h2 : y ≤ y * z := Nat.le_mul_of_pos_right y hz
  have h3 : z ≤ y * z := Nat.le_mul_of_pos_left z hy
  have h4 : x ≤ x * x := Nat.le_mul_self x
  rw [Nat.mul_assoc] at h1
  unfold zL
  simp only [List.mem_flatMap, List.mem_map, List.mem_filter, List.mem_range, decide_eq_true_eq]
  exact ⟨x, by omega, y, by omega, z, ⟨by omega, by rw [Nat.mul_assoc]; exact h1⟩, rfl⟩
theorem zL_of {p : Nat} {t : Nat × Nat × Nat} (h : t ∈ zL p) : t.1 * t.1 + 4 * t.2.1 * t.2.2 = p := by
  unfold zL at h
  simp only [List.mem_flatMap, List.mem_map, List.mem_filter, List.mem_range, decide_eq_true_eq] at h
  obtain ⟨x, _, y, _, z, ⟨_, h⟩, rfl⟩ := h
  exact h
theorem prime_nsq {p : Nat} (hp : IsLf p p) (a : Nat) : a * a ≠ p := fun e => by
  have h2 := hp.2.1
  have ha : 2 ≤ a := by
    rcases Nat.lt_or_ge a 2 with h | h
    · have : a = 0 ∨ a = 1 := by omega
      rcases this with rfl | rfl <;> simp at e <;> omega
    · exact h
  have h3 := hp.2.2 a ha ⟨a, e.symm⟩
  have h4 := Nat.mul_le_mul_left a ha
  omega
theorem two_sq {p : Nat} (hp : IsLf p p) (h4 : p % 4 = 1) : ∃ a b : Nat, a * a + b * b = p := by
  have hns := prime_nsq hp
  have h2 := hp.2.1
  -- the members are above 0
  have pos : ∀ {x y z : Nat}, x * x + 4 * y * z = p → 0 < x ∧ 0 < y ∧ 0 < z := fun {x y z} h => by
    refine ⟨Nat.pos_of_ne_zero fun e => ?_, Nat.pos_of_ne_zero fun e => ?_, Nat.pos_of_ne_zero fun e => ?_⟩
    · subst e; rw [Nat.mul_assoc] at h; omega
    · subst e; simp at h; exact hns x h
    · subst e; simp at h; exact hns x h
  have hodd : (zL p).length % 2 = 1 := by
    refine odd_inv zz (zL p) (zL_nodup p) (1, 1, p / 4) (zL_mem hns (by omega)) (by unfold zz; simp) ?_
    rintro ⟨x, y, z⟩ hm
    have h := zL_of hm
    simp only at h
    obtain ⟨hx, hy, hz⟩ := pos h
    by_cases c1 : x + z < y
    · obtain ⟨d, rfl⟩ : ∃ d, y = x + z + d := ⟨y - (x + z), by omega⟩
      have e1 : zz (x, x + z + d, z) = (x + 2 * z, z, d) := by unfold zz; simp only; rw [if_pos c1]; congr 2; omega
      rw [e1]
      have hd : 0 < d := by omega
      refine ⟨zL_mem hns (by rw [← h]; grind), ?_, ?_⟩
      · unfold zz; simp only
        rw [if_neg (by omega), if_neg (by omega)]
        congr 1
        · omega
        · congr 1; omega
      · intro e; simp at e; omega
    · by_cases c2 : x < 2 * y
      · have c3 : x + z ≠ y := fun e => hns (y + z) (by rw [← h, ← e]; grind)
        obtain ⟨d, hd⟩ : ∃ d, x + z = y + d := ⟨x + z - y, by omega⟩
        obtain ⟨f, hf⟩ : ∃ f, 2 * y = x + f := ⟨2 * y - x, by omega⟩
        have e1 : zz (x, y, z) = (f, y, d) := by unfold zz; simp only; rw [if_neg c1, if_pos c2]; congr 1; · omega
                                                 congr 1; omega
        rw [e1]
        have hz2 : z = y + d - x := by omega
        refine ⟨zL_mem hns ?_, ?_, ?_⟩
        · rw [← h]
          have hfi : (f : Int) = 2 * y - x := by omega
          have hdi : (d : Int) = x + z - y := by omega
          have : ((f * f + 4 * y * d : Nat) : Int) = ((x * x + 4 * y * z : Nat) : Int) := by
            simp only [Int.natCast_add, Int.natCast_mul, hfi, hdi]; grind
          exact Int.ofNat_inj.1 this
        · unfold zz; simp only
          rw [if_neg (by omega), if_pos (by omega)]
          congr 1
          · omega
          · congr 1; omega
        · intro e
          simp only [Prod.mk.injEq] at e
          obtain rfl : x = y := by omega
          have hxp : x ∣ p := ⟨x + 4 * z, by rw [← h]; grind⟩
          have hx1 : x = 1 := by
            rcases Nat.lt_or_ge x 2 with h5 | h5
            · omega
            · have h6 := hp.2.2 x h5 hxp
              have h7 := Nat.mul_le_mul_left x h5
              have : 0 < 4 * x * z := Nat.mul_pos (Nat.mul_pos (by omega) hx) hz
              omega
          subst hx1
          congr 2
          omega
      · have c3 : x ≠ 2 * y := fun e => by
          rw [e, Nat.mul_assoc] at h
          have : 2 * (y * (2 * y)) + 4 * y * z = p := h
          have h5 : 4 * y * z = 4 * (y * z) := Nat.mul_assoc _ _ _
          have h6 : 2 * (y * (2 * y)) = 4 * (y * y) := by grind
          omega
        obtain ⟨d, hd⟩ : ∃ d, x = 2 * y + d := ⟨x - 2 * y, by omega⟩
        have e1 : zz (x, y, z) = (d, x + z - y, y) := by unfold zz; simp only; rw [if_neg c1, if_neg c2]; congr 1; omega
        rw [e1]
        subst hd
        refine ⟨zL_mem hns ?_, ?_, ?_⟩
        · rw [← h, show 2 * y + d + z - y = y + d + z by omega]; grind
        · unfold zz; simp only
          rw [if_pos (by omega)]
          congr 1
          · omega
          · congr 1; omega
        · intro e
          simp only [Prod.mk.injEq] at e
          omega
  -- the second one
  have : ∃ t ∈ zL p, t.2.1 = t.2.2 := Classical.byContradiction fun hc => by
    have h5 := even_inv (fun t : Nat × Nat × Nat => (t.1, t.2.2, t.2.1)) _ (zL p) rfl (zL_nodup p) (fun t ht => by
      have h := zL_of ht
      refine ⟨zL_mem hns (by rw [← h]; grind), rfl, fun e => hc ⟨t, ht, ?_⟩⟩
      have := congrArg (fun q => q.2.1) e
      exact this.symm)
    omega
  obtain ⟨t, ht, e⟩ := this
  have h := zL_of ht
  rw [← e] at h
  exact ⟨t.1, 2 * t.2.1, by rw [← h]; grind⟩
theorem sq_inj {a b : Nat} (h : a * a = b * b) : a = b := Nat.mul_self_inj.1 h
/-- A prime number is the norm of just one number with Re not below Im. -/
theorem two_sq_one {p a b c d : Nat} (hp : IsLf p p) (h1 : a * a + b * b = p) (h2 : c * c + d * d = p) (hb : b ≤ a) (hd : d ≤ c) : a = c ∧ b = d := by
  have hns := prime_nsq hp
  have hp2 := hp.2.1
  have pos : ∀ {x y : Nat}, x * x + y * y = p → 0 < x ∧ 0 < y := fun {x y} h => by
    refine ⟨Nat.pos_of_ne_zero fun e => ?_, Nat.pos_of_ne_zero fun e => ?_⟩
    · subst e; simp at h; exact hns y h
    · subst e; simp at h; exact hns x h
  obtain ⟨ha0, hb0⟩ := pos h1
  obtain ⟨hc0, hd0⟩ := pos h2
  have e1 : (a * d + b * c) * (a * d + b * c) + ((a : Int) * c - b * d).natAbs * ((a : Int) * c - b * d).natAbs = p * p := by
    have : (((a * d + b * c) * (a * d + b * c) + ((a : Int) * c - b * d).natAbs * ((a : Int) * c - b * d).natAbs : Nat) : Int) = ((p * p : Nat) : Int) := by
      rw [Int.natCast_add, Int.natAbs_mul_self, ← h1]
      have h3 : ((c * c + d * d : Nat) : Int) = ((a * a + b * b : Nat) : Int) := by rw [h1, h2]
      simp only [Int.natCast_add, Int.natCast_mul] at h3 ⊢
      grind
    exact Int.ofNat_inj.1 this
  have e2 : ((a : Int) * d - b * c).natAbs * ((a : Int) * d - b * c).natAbs + (a * c + b * d) * (a * c + b * d) = p * p := by
    have : ((((a : Int) * d - b * c).natAbs * ((a : Int) * d - b * c).natAbs + (a * c + b * d) * (a * c + b * d) : Nat) : Int) = ((p * p : Nat) : Int) := by
      rw [Int.natCast_add, Int.natAbs_mul_self, ← h1]
      have h3 : ((c * c + d * d : Nat) : Int) = ((a * a + b * b : Nat) : Int) := by rw [h1, h2]
      simp only [Int.natCast_add, Int.natCast_mul] at h3 ⊢
      grind
    exact Int.ofNat_inj.1 this
  have hdv : p ∣ ((a : Int) * d - b * c).natAbs * (a * d + b * c) := by
    have : (p : Int) ∣ ((a : Int) * d - b * c) * ((a * d + b * c : Nat) : Int) := by
      refine ⟨(d : Int) * d - b * b, ?_⟩
      have h3 : ((c * c + d * d : Nat) : Int) = (p : Int) := by rw [h2]
      have h4 : ((a * a + b * b : Nat) : Int) = (p : Int) := by rw [h1]
      simp only [Int.natCast_add, Int.natCast_mul] at h3 h4 ⊢
      grind
    have := Int.natAbs_dvd_natAbs.2 this
    rwa [Int.natAbs_mul, Int.natAbs_natCast, Int.natAbs_natCast] at this
  rcases hp.euclid hdv with h | h
  · have hlt : ((a : Int) * d - b * c).natAbs < p := by
      rcases Nat.lt_or_ge ((a : Int) * d - b * c).natAbs p with h5 | h5
      · exact h5
      · have := Nat.mul_le_mul h5 h5
        have : 0 < a * c := Nat.mul_pos ha0 hc0
        have := Nat.mul_pos (show 0 < a * c + b * d by omega) (show 0 < a * c + b * d by omega)
        omega
    have h0 : ((a : Int) * d - b * c).natAbs = 0 := by
      rcases Nat.eq_zero_or_pos ((a : Int) * d - b * c).natAbs with h5 | h5
      · exact h5
      · have := Nat.le_of_dvd h5 h; omega
    have h6 : a * d = b * c := by
      have : ((a * d : Nat) : Int) = ((b * c : Nat) : Int) := by simp only [Int.natCast_mul]; omega
      exact Int.ofNat_inj.1 this
    have h7 : p * (a * a) = p * (c * c) := by
      have : a * a * (d * d) = b * b * (c * c) := by
        have : a * d * (a * d) = b * c * (b * c) := by rw [h6]
        grind
      grind
    have h8 := sq_inj (Nat.eq_of_mul_eq_mul_left (by omega) h7)
    subst h8
    exact ⟨rfl, sq_inj (by omega)⟩
  · have h3 : a * d + b * c ≤ p := by
      rcases Nat.lt_or_ge p (a * d + b * c) with h5 | h5
      · have := Nat.mul_lt_mul'' h5 h5; omega
      · exact h5
    have h4 := Nat.le_of_dvd (Nat.lt_of_lt_of_le (Nat.mul_pos ha0 hd0) (Nat.le_add_right _ _)) h
    have h5 : a * d + b * c = p := by omega
    rw [h5] at e1
    have h6 : ((a : Int) * c - b * d).natAbs = 0 := by
      rcases Nat.eq_zero_or_pos ((a : Int) * c - b * d).natAbs with h | h
      · exact h
      · have := Nat.mul_pos h h; omega
    have h7 : a * c = b * d := by
      have : ((a * c : Nat) : Int) = ((b * d : Nat) : Int) := by simp only [Int.natCast_mul]; omega
      exact Int.ofNat_inj.1 this
    have h8 : b * d ≤ a * d := Nat.mul_le_mul_right d hb
    have h9 : a * d ≤ a * c := Nat.mul_le_mul_left a hd
    have h10 : d = c := Nat.eq_of_mul_eq_mul_left ha0 (by omega)
    subst h10
    have h11 : a = b := Nat.eq_of_mul_eq_mul_right hd0 (by omega)
    subst h11
    have h12 : a = d := sq_inj (by omega)
    exact ⟨h12, h12⟩
/-- The reference's list over a prime number. -/
def ovAt (n a : Nat) : Option (Int × Int) := if a * a + rt (n - a * a) * rt (n - a * a) = n then some ((a : Int), (rt (n - a * a) : Int)) else none
def ovs (n : Nat) : Nat → List (Int × Int)
  | 0 => []
  | k + 1 => ovs n k ++ (ovAt n (k + 1)).toList
theorem ovAt_of {n a b : Nat} (h : a * a + b * b = n) : ovAt n a = some ((a : Int), (b : Int)) := by
  have h1 : n - a * a = b * b := by omega
  unfold ovAt
  rw [h1, rt_sq, if_pos h]
theorem ovAt_get {n a : Nat} {q : Int × Int} (h : ovAt n a = some q) : ∃ b : Nat, q = ((a : Int), (b : Int)) ∧ a * a + b * b = n := by
  unfold ovAt at h
  split at h
  · rename_i hc
    injection h with h
    exact ⟨_, h.symm, hc⟩
  · cases h
theorem over3 {p : Nat} (h3 : p % 4 = 3) : sqAll p = [] := by
  have key : ∀ k, sqs p k = [] := by
    intro k
    induction k with
    | zero => rfl
    | succ k ih =>
      cases e : sqAt p k with
      | none => rw [sqs_none e, ih]
      | some q =>
        obtain ⟨b, _, hb, _⟩ := sqAt_get e
        have h1 := sq_mod4 k
        have h2 := sq_mod4 b
        omega
  exact key _
theorem over2 : sqAll 2 = [(1, 1)] ∧ ovs 2 1 = [(1, 1)] := by decide
theorem over1 {p : Nat} (hp : IsLf p p) (h1 : p % 4 = 1) : ∃ x y : Nat, 0 < y ∧ y < x ∧ x * x + y * y = p ∧ sqAll p = [((x : Int), (y : Int))] ∧ ∀ k, p ≤ (k + 1) * (k + 1) → ovs p k = [((y : Int), (x : Int)), ((x : Int), (y : Int))] := by
  have hns := prime_nsq hp
  have hex : ∃ x y : Nat, y ≤ x ∧ x * x + y * y = p := by
    obtain ⟨a, b, h⟩ := two_sq hp h1
    rcases Nat.le_total b a with hl | hl
    · exact ⟨a, b, hl, h⟩
    · exact ⟨b, a, hl, by omega⟩
  obtain ⟨x, y, hyx, h⟩ := hex
  have hy : 0 < y := Nat.pos_of_ne_zero fun e => by subst e; exact hns x (by omega)
  have hlt : y < x := by
    rcases Nat.lt_or_ge y x with h2 | h2
    · exact h2
    · obtain rfl : x = y := by omega
      omega
  refine ⟨x, y, hy, hlt, h, ?_, ?_⟩
  · have key : ∀ k, sqs p k = if x < k then [((x : Int), (y : Int))] else [] := by
      intro k
      induction k with
      | zero => rfl
      | succ k ih =>
        cases e : sqAt p k with
        | none =>
          have hk : k ≠ x := fun hc => by rw [hc, sqAt_of h hyx] at e; cases e
          rw [sqs_none e, ih]
          split <;> split <;> first | rfl | omega
        | some q =>
          obtain ⟨b, rfl, hb, hbk⟩ := sqAt_get e
          obtain ⟨rfl, rfl⟩ := two_sq_one hp hb h hbk hyx
          rw [sqs_some e, ih, if_neg (by omega), if_pos (by omega)]; rfl
    have h2 := (rt_spec p).2
    have h3 := sq_lt (show x * x < (rt p + 1) * (rt p + 1) by omega)
    unfold sqAll
    rw [key, if_pos h3]
  · have key : ∀ k, ovs p k = (if y ≤ k then [((y : Int), (x : Int))] else []) ++ (if x ≤ k then [((x : Int), (y : Int))] else []) := by
      intro k
      induction k with
      | zero => rw [if_neg (by omega), if_neg (by omega)]; rfl
      | succ k ih =>
        rw [ovs, ih]
        cases e : ovAt p (k + 1) with
        | none =>
          have hk : k + 1 ≠ x := fun hc => by rw [hc, ovAt_of h] at e; cases e
          have hk2 : k + 1 ≠ y := fun hc => by rw [hc, ovAt_of (show y * y + x * x = p by omega)] at e; cases e
          by_cases c1 : y ≤ k <;> by_cases c2 : x ≤ k
          · rw [if_pos c1, if_pos c2, if_pos (by omega), if_pos (by omega)]; rfl
          · rw [if_pos c1, if_neg c2, if_pos (by omega), if_neg (by omega)]; rfl
          · omega
          · rw [if_neg c1, if_neg c2, if_neg (by omega), if_neg (by omega)]; rfl
        | some q =>
          obtain ⟨b, rfl, hb⟩ := ovAt_get e
          rcases Nat.le_total b (k + 1) with hl | hl
          · obtain ⟨h4, h5⟩ := two_sq_one hp hb h hl hyx
            rw [if_pos (show y ≤ k by omega), if_neg (show ¬ x ≤ k by omega), if_pos (show y ≤ k + 1 by omega), if_pos (show x ≤ k + 1 by omega), ← h4, ← h5]; rfl
          · obtain ⟨h4, h5⟩ := two_sq_one hp (show b * b + (k + 1) * (k + 1) = p by omega) h hl hyx
            rw [if_neg (show ¬ y ≤ k by omega), if_neg (show ¬ x ≤ k by omega), if_pos (show y ≤ k + 1 by omega), if_neg (show ¬ x ≤ k + 1 by omega), ← h4, ← h5]; rfl
    intro k hk
    have h3 := sq_lt (show x * x < (k + 1) * (k + 1) by have := Nat.mul_pos hy hy; omega)
    rw [key, if_pos (by omega), if_pos (by omega)]; rfl
end Go.Proofs.YthlhekkcjficdaaGreat


/- gprime.primesOver, Over. -/
namespace Go.Proofs.YthlhekkcjficdaaGreat
open Go Go.RowKit Dig
set_option linter.unusedVariables false

section
variable {w : World} {va : Value} {z : Int} {l : Nat}
/-- What a list of these numbers is, told by a call. -/
def TG (K : Nat) (a : Array Value) (w : World) (ps : List (Int × Int)) : Prop :=
  Calls Tryz.prog K a w fun e w' => ∃ o c xs, e = .returned (.slice o ps.length c) ∧ Lst w' w.heap.size 26 4 (.slice o ps.length c) ps.length xs ∧ GD w' xs ps ∧ Below w.heap.size w w'
theorem squares_is {n : Nat} {ps : List (Int × Int)} (hn : n < 4294967296) (h : sqAll n = ps) : TG 35 #[.int .u64 (n : Int)] w ps := by
  have := squares_any (w := w) n hn
  rw [h] at this; exact this
set_option maxHeartbeats 4000000 in
set_option maxRecDepth 20000 in
theorem pover_0w (p : Nat) (hp : p < 4294967296) (h : sqAll p = []) : TG 13 #[.int .u64 (p : Int)] w [((p : Int), 0)] := by
  have HS := hide (fun w => squares_is (w := w) (by omega) h)
  clear h
  unfold TG at *
  go_enter Tryz.func13, Tryz.ntmps13
  have hs := St.nil w
  refine wp_seq_k ?_
  intro K1 hK1
  refine rg [0] ?_
  refine sq ?_
  refine .mv ?_
  apply wpSq_end
  refine hK1 _ _ ?_
  refine wp_seq_k ?_
  intro K2 hK2
  refine rg [0, 1, 2] ?_
  refine sq ?_
  refine .mv ?_
  refine sq ?_
  intro K hK
  go_big_op
  go_fit (HS.out _)
  rintro e w_1 ⟨o_L, c_L, xs_L, rfl, L_L, d_L, hb_1⟩
  replace hs := hs.la hb_1 L_L
  refine hK _ _ rfl trivial ?_
  clear hK K
  refine sq ?_
  refine .mv ?_
  apply wpSq_end
  refine hK2 _ _ ?_
  refine wp_seq_k ?_
  intro K3 hK3
  refine wp_seq_k ?_
  intro K4 hK4
  refine rg [0, 1, 2] ?_
  refine sq ?_
  refine .mv ?_
  refine sq ?_
  refine .r0 ?_
  refine sq ?_
  refine .r0 ?_
  apply wpSq_end
  refine hK4 _ _ ?_
  refine ct ?_
  refine wp_seq_k ?_
  intro K5 hK5
  refine rg [0, 1, 2, 3, 4] ?_
  refine sq ?_
  refine .mv ?_
  refine sq ?_
  refine .r0 ?_
  refine sq ?_
  intro K hK
  go_big_op
  go_fit (gFrom_any (p : Int) 0 _ (by omega) (by omega) (by decide) (by decide))
  rintro e w_2 ⟨_, rfl, ⟨n_ea, o_ea, k_ea, c_ea, n_eb, o_eb, k_eb, c_eb, rfl, e1, e2⟩, hb_2⟩
  replace hs := hs.bl hb_2
  refine hK _ _ rfl trivial ?_
  clear hK K
  refine sq ?_
  refine .al hs ?_; clear hs; intro p_b1 w_3 hs n3 kb_b1
  refine sq ?_
  refine .mv ?_
  apply wpSq_end
  refine hK5 _ _ ?_
  refine wp_ret ?_
  try dsimp only [Exit.then, Exit.inBlock]
  refine bodyPost_ret (v := (.slice (some ⟨p_b1, 0, none⟩) 1 1)) (by simp [results, Tryz.results13, go_sem]) rfl ?_
  have k2_3 := kb n3
  replace e1 := e1.k k2_3
  replace e2 := e2.k k2_3
  exact ⟨_, _, _, rfl, .ofBs hs.g0 kb_b1, GD.snoc (GD.nil _) (.mk' e1 e2), hs.b⟩
set_option maxHeartbeats 4000000 in
set_option maxRecDepth 20000 in
theorem pover_2 : TG 13 #[.int .u64 2] w [(1, 1)] := by
  have HS := hide (fun w => squares_is (w := w) (n := 2) (by decide) over2.1)
  have L1 := hide (zlen_small6 (z := 1) (by decide))
  have HT := hide (show (turn ((1 : Int) % 4).toNat ((1 : Int), -(1 : Int))).1 = 1 ∧ (turn ((1 : Int) % 4).toNat ((1 : Int), -(1 : Int))).2 = 1 from by decide)
  unfold TG at *
  go_enter Tryz.func13, Tryz.ntmps13
  have hs := St.nil w
  refine wp_seq_k ?_
  intro K1 hK1
  refine rg [0] ?_
  refine sq ?_
  refine .mv ?_
  apply wpSq_end
  refine hK1 _ _ ?_
  refine wp_seq_k ?_
  intro K2 hK2
  refine rg [0, 1, 2] ?_
  refine sq ?_
  refine .mv ?_
  refine sq ?_
  intro K hK
  go_big_op
  go_fit (HS.out _)
  rintro e w_1 ⟨o_L, c_L, xs_L, rfl, L_L, d_L, hb_1⟩
  replace hs := hs.la hb_1 L_L
  refine hK _ _ rfl trivial ?_
  clear hK K
  refine sq ?_
  refine .mv ?_
  apply wpSq_end
  refine hK2 _ _ ?_
  refine wp_seq_k ?_
  intro K3 hK3
  refine wp_seq_k ?_
  intro K4 hK4
  refine rg [0, 1, 2] ?_
  refine sq ?_
  refine .mv ?_
  refine sq ?_
  refine .r0 ?_
  refine sq ?_
  refine .r0 ?_
  apply wpSq_end
  refine hK4 _ _ ?_
  obtain ⟨n1, o1, k1, q1, n2, o2, k2, q2, rfl, z1, z2⟩ := d_L.one
  obtain ⟨gl, curl, rfl, xl, hcur⟩ := (hs.1.1.1).box Nat.zero_lt_one
  have e1 := hide (hcur 0 _ rfl); have e2 := hide (hcur 1 _ rfl); have e3 := hide (hcur 2 _ rfl); have e4 := hide (hcur 3 _ rfl)
  clear hcur
  have Lz1 := L1
  have Lz2 := L1
  refine cf ?_
  refine wp_skip ?_
  refine hK3 _ _ ?_
  refine wp_seq_k ?_
  intro K5 hK5
  refine rg [0, 1, 2, 3, 4] ?_
  refine sq ?_
  refine .mv ?_
  refine sq ?_
  refine .r0 ?_
  refine sq ?_
  refine .r4 ⟨xl.cell _ e1.out, xl.cell _ e2.out, xl.cell _ e3.out, xl.cell _ e4.out⟩ ?_
  refine sq ?_
  refine .al hs ?_; clear hs; intro p_b1 w_2 hs n2 kb_b1
  replace xl := xl.bl n2
  refine sq ?_
  refine .s4 hs.g0 (fun _ => hs.u0 kb_b1) ?_; clear hs; intro w_3 hs hd3 ho3
  replace xl := xl.frame ho3 (hs.ne 1 0)
  apply wpSq_end
  refine hK5 _ _ ?_
  refine wp_seq_k ?_
  intro K6 hK6
  refine rg [0, 1, 2, 3, 4] ?_
  refine sq ?_
  refine .r4 hs.g0.f4 ?_
  refine sq ?_
  intro K hK
  have k1_3 := (kb n2).o hd3 ho3
  replace z1 := z1.k k1_3
  replace z2 := z2.k k1_3
  go_big_op
  go_fit (gConj_any (PN.mk' (z1.zn Lz1.out) (z2.zn Lz2.out)) (by omega) (by omega) )
  rintro e w_4 ⟨_, rfl, ⟨n_ga, o_ga, k_ga, c_ga, n_gb, o_gb, k_gb, c_gb, rfl, g1, g2⟩, hb_4⟩
  replace xl := xl.bl hb_4; replace hs := hs.bl hb_4
  have Lg1 := hide (g1.lenOf ((Lz1.out)))
  have Lg2 := hide (g2.lenOf (zlen_neg (Lz2.out)))
  refine hK _ _ rfl trivial ?_
  clear hK K
  refine sq ?_
  intro K hK
  go_big_op
  go_fit (gTurn_any 1 (.mk' (g1.zn Lg1.out) (g2.zn Lg2.out)) (by omega) (by omega))
  rintro e w_5 ⟨_, rfl, ⟨n_ta, o_ta, k_ta, c_ta, n_tb, o_tb, k_tb, c_tb, rfl, t1, t2⟩, hb_5⟩
  replace xl := xl.bl hb_5; replace hs := hs.bl hb_5
  rw [HT.out.1] at t1
  rw [HT.out.2] at t2
  refine hK _ _ rfl trivial ?_
  clear hK K
  refine sq ?_
  refine .al hs ?_; clear hs; intro p_b2 w_6 hs n6 kb_b2
  replace xl := xl.bl n6
  refine sq ?_
  refine .s4 hs.g0 (fun _ => hs.u0 kb_b2) ?_; clear hs; intro w_7 hs hd7 ho7
  replace xl := xl.frame ho7 (hs.ne 2 0)
  apply wpSq_end
  refine hK6 _ _ ?_
  refine wp_seq_k ?_
  intro K7 hK7
  refine wp_seq_k ?_
  intro K8 hK8
  refine rg [0, 1, 2] ?_
  refine sq ?_
  refine .r4 hs.g1.f4 ?_
  refine sq ?_
  refine .r4 hs.g0.f4 ?_
  have Lt1 := hide (t1.lenOf (L1.out))
  have Lt2 := hide (t2.lenOf (L1.out))
  refine sq ?_
  intro K hK
  have k3_7 := (((kb hb_4).b hb_5).b n6).o hd7 ho7
  replace z1 := z1.k k3_7
  replace z2 := z2.k k3_7
  have k5_7 := (kb n6).o hd7 ho7
  replace t1 := t1.k k5_7
  replace t2 := t2.k k5_7
  go_big_op
  go_fit (gEqual_any (.mk' (z1.zn Lz1.out) (z2.zn Lz2.out)) (.mk' (t1.zn Lt1.out) (t2.zn Lt2.out)) (by omega) (by omega) (by omega) (by omega))
  rintro e w_8 ⟨rfl, hb_8⟩
  replace xl := xl.bl hb_8; replace hs := hs.bl hb_8
  refine hK _ _ rfl trivial ?_
  clear hK K
  apply wpSq_end
  refine hK8 _ _ ?_
  refine ct ?_
  refine wp_seq_k ?_
  intro K9 hK9
  refine rg [0, 1] ?_
  refine sq ?_
  refine .mv ?_
  refine sq ?_
  refine .mv ?_
  apply wpSq_end
  refine hK9 _ _ ?_
  refine wp_ret ?_
  try dsimp only [Exit.then, Exit.inBlock]
  refine bodyPost_ret (v := (.slice (some ⟨gl, 0, none⟩) 1 c_L)) (by simp [results, Tryz.results13, go_sem]) rfl ?_
  have k1_8 := ((((k1_3.b hb_4).b hb_5).b n6).o hd7 ho7).b hb_8
  replace d_L := d_L.k k1_8
  exact ⟨_, _, _, rfl, hs.1.2.2.1.1, d_L, hs.b⟩
set_option maxHeartbeats 4000000 in
set_option maxRecDepth 20000 in
theorem pover_1w {p x y : Nat} (hp : p < 4294967296) (hxy : y < x) (hx : x * x + y * y = p) (h : sqAll p = [((x : Int), (y : Int))]) : TG 13 #[.int .u64 (p : Int)] w [((y : Int), (x : Int)), ((x : Int), (y : Int))] := by
  have HS := hide (fun w => squares_is (w := w) (by omega) h)
  have hx256 : x < 65536 := sq_lt (by omega)
  have L1 := hide (zlen_small6 (z := (x : Int)) (by omega))
  have L2 := hide (zlen_small6 (z := (y : Int)) (by omega))
  have HT := hide (show (turn ((1 : Int) % 4).toNat ((x : Int), -(y : Int))).1 = (y : Int) ∧ (turn ((1 : Int) % 4).toNat ((x : Int), -(y : Int))).2 = (x : Int) from ⟨by show -(-(y : Int)) = _; omega, rfl⟩)
  have HE := hide (decide_eq_false (p := (x : Int) = (y : Int) ∧ (y : Int) = (x : Int)) (fun hc => by omega))
  clear h hx
  unfold TG at *
  go_enter Tryz.func13, Tryz.ntmps13
  have hs := St.nil w
  refine wp_seq_k ?_
  intro K1 hK1
  refine rg [0] ?_
  refine sq ?_
  refine .mv ?_
  apply wpSq_end
  refine hK1 _ _ ?_
  refine wp_seq_k ?_
  intro K2 hK2
  refine rg [0, 1, 2] ?_
  refine sq ?_
  refine .mv ?_
  refine sq ?_
  intro K hK
  go_big_op
  go_fit (HS.out _)
  rintro e w_1 ⟨o_L, c_L, xs_L, rfl, L_L, d_L, hb_1⟩
  replace hs := hs.la hb_1 L_L
  refine hK _ _ rfl trivial ?_
  clear hK K
  refine sq ?_
  refine .mv ?_
  apply wpSq_end
  refine hK2 _ _ ?_
  refine wp_seq_k ?_
  intro K3 hK3
  refine wp_seq_k ?_
  intro K4 hK4
  refine rg [0, 1, 2] ?_
  refine sq ?_
  refine .mv ?_
  refine sq ?_
  refine .r0 ?_
  refine sq ?_
  refine .r0 ?_
  apply wpSq_end
  refine hK4 _ _ ?_
  obtain ⟨n1, o1, k1, q1, n2, o2, k2, q2, rfl, z1, z2⟩ := d_L.one
  obtain ⟨gl, curl, rfl, xl, hcur⟩ := (hs.1.1.1).box Nat.zero_lt_one
  have e1 := hide (hcur 0 _ rfl); have e2 := hide (hcur 1 _ rfl); have e3 := hide (hcur 2 _ rfl); have e4 := hide (hcur 3 _ rfl)
  clear hcur
  have Lz1 := L1
  have Lz2 := L2
  refine cf ?_
  refine wp_skip ?_
  refine hK3 _ _ ?_
  refine wp_seq_k ?_
  intro K5 hK5
  refine rg [0, 1, 2, 3, 4] ?_
  refine sq ?_
  refine .mv ?_
  refine sq ?_
  refine .r0 ?_
  refine sq ?_
  refine .r4 ⟨xl.cell _ e1.out, xl.cell _ e2.out, xl.cell _ e3.out, xl.cell _ e4.out⟩ ?_
  refine sq ?_
  refine .al hs ?_; clear hs; intro p_b1 w_2 hs n2 kb_b1
  replace xl := xl.bl n2
  refine sq ?_
  refine .s4 hs.g0 (fun _ => hs.u0 kb_b1) ?_; clear hs; intro w_3 hs hd3 ho3
  replace xl := xl.frame ho3 (hs.ne 1 0)
  apply wpSq_end
  refine hK5 _ _ ?_
  refine wp_seq_k ?_
  intro K6 hK6
  refine rg [0, 1, 2, 3, 4] ?_
  refine sq ?_
  refine .r4 hs.g0.f4 ?_
  refine sq ?_
  intro K hK
  have k1_3 := (kb n2).o hd3 ho3
  replace z1 := z1.k k1_3
  replace z2 := z2.k k1_3
  go_big_op
  go_fit (gConj_any (PN.mk' (z1.zn Lz1.out) (z2.zn Lz2.out)) (by omega) (by omega) )
  rintro e w_4 ⟨_, rfl, ⟨n_ga, o_ga, k_ga, c_ga, n_gb, o_gb, k_gb, c_gb, rfl, g1, g2⟩, hb_4⟩
  replace xl := xl.bl hb_4; replace hs := hs.bl hb_4
  have Lg1 := hide (g1.lenOf ((Lz1.out)))
  have Lg2 := hide (g2.lenOf (zlen_neg (Lz2.out)))
  refine hK _ _ rfl trivial ?_
  clear hK K
  refine sq ?_
  intro K hK
  go_big_op
  go_fit (gTurn_any 1 (.mk' (g1.zn Lg1.out) (g2.zn Lg2.out)) (by omega) (by omega))
  rintro e w_5 ⟨_, rfl, ⟨n_ta, o_ta, k_ta, c_ta, n_tb, o_tb, k_tb, c_tb, rfl, t1, t2⟩, hb_5⟩
  replace xl := xl.bl hb_5; replace hs := hs.bl hb_5
  rw [HT.out.1] at t1
  rw [HT.out.2] at t2
  refine hK _ _ rfl trivial ?_
  clear hK K
  refine sq ?_
  refine .al hs ?_; clear hs; intro p_b2 w_6 hs n6 kb_b2
  replace xl := xl.bl n6
  refine sq ?_
  refine .s4 hs.g0 (fun _ => hs.u0 kb_b2) ?_; clear hs; intro w_7 hs hd7 ho7
  replace xl := xl.frame ho7 (hs.ne 2 0)
  apply wpSq_end
  refine hK6 _ _ ?_
  refine wp_seq_k ?_
  intro K7 hK7
  refine wp_seq_k ?_
  intro K8 hK8
  refine rg [0, 1, 2] ?_
  refine sq ?_
  refine .r4 hs.g1.f4 ?_
  refine sq ?_
  refine .r4 hs.g0.f4 ?_
  have Lt1 := hide (t1.lenOf (L2.out))
  have Lt2 := hide (t2.lenOf (L1.out))
  refine sq ?_
  intro K hK
  have k3_7 := (((kb hb_4).b hb_5).b n6).o hd7 ho7
  replace z1 := z1.k k3_7
  replace z2 := z2.k k3_7
  have k5_7 := (kb n6).o hd7 ho7
  replace t1 := t1.k k5_7
  replace t2 := t2.k k5_7
  go_big_op
  go_fit (gEqual_any (.mk' (z1.zn Lz1.out) (z2.zn Lz2.out)) (.mk' (t1.zn Lt1.out) (t2.zn Lt2.out)) (by omega) (by omega) (by omega) (by omega))
  rintro e w_8 ⟨rfl, hb_8⟩
  replace xl := xl.bl hb_8; replace hs := hs.bl hb_8
  rw [HE.out]
  refine hK _ _ rfl trivial ?_
  clear hK K
  apply wpSq_end
  refine hK8 _ _ ?_
  refine cf ?_
  refine wp_skip ?_
  refine hK7 _ _ ?_
  refine wp_seq_k ?_
  intro K9 hK9
  refine rg [0, 1, 2, 3] ?_
  refine sq ?_
  refine .r4 hs.g0.f4 ?_
  refine sq ?_
  refine .r4 hs.g1.f4 ?_
  refine sq ?_
  refine .al hs ?_; clear hs; intro p_b3 w_9 hs n9 kb_b3
  replace xl := xl.bl n9
  refine sq ?_
  refine .mv ?_
  apply wpSq_end
  refine hK9 _ _ ?_
  refine wp_ret ?_
  try dsimp only [Exit.then, Exit.inBlock]
  refine bodyPost_ret (v := (.slice (some ⟨p_b3, 0, none⟩) 2 2)) (by simp [results, Tryz.results13, go_sem]) rfl ?_
  have k7_9 := (kb hb_8).b n9
  replace t1 := t1.k k7_9
  replace t2 := t2.k k7_9
  replace z1 := z1.k k7_9
  replace z2 := z2.k k7_9
  exact ⟨_, _, _, rfl, .ofBs (n := 2) hs.g0 kb_b3, (⟨.mk' t1 t2, .mk' z1 z2, trivial⟩ : GD _ [_, _, _, _, _, _, _, _] [_, _]), hs.b⟩
end
end Go.Proofs.YthlhekkcjficdaaGreat


/- The primes over a prime number, at all numbers that Factor meets. -/
namespace Go.Proofs.YthlhekkcjficdaaGreat
open Go Go.RowKit Dig
set_option linter.unusedVariables false
/-- The primes over the prime number p, in Over's order. -/
def pOv (p : Nat) : List (Int × Int) := if p = 2 then [(1, 1)] else if p % 4 = 3 then [((p : Int), 0)] else (sqAll p).flatMap fun q => [(q.2, q.1), q]
theorem lf_4 {p : Nat} (hp : IsLf p p) (h2 : p ≠ 2) : p % 4 = 1 ∨ p % 4 = 3 := by
  have := hp.2.1
  rcases Nat.mod_two_eq_zero_or_one p with h | h
  · have := hp.2.2 2 (Nat.le_refl _) (Nat.dvd_of_mod_eq_zero h)
    omega
  · omega
theorem pover_any {w : World} {p : Nat} (hp : IsLf p p) (hb : p < 4294967296) : TG 13 #[.int .u64 (p : Int)] w (pOv p) := by
  unfold pOv
  by_cases h2 : p = 2
  · subst h2
    rw [if_pos rfl]
    exact pover_2
  · rw [if_neg h2]
    rcases lf_4 hp h2 with h | h
    · rw [if_neg (by omega)]
      obtain ⟨x, y, _, hyx, hs, ha, _⟩ := over1 hp h
      rw [ha]
      exact pover_1w hb hyx hs ha
    · rw [if_pos h]
      exact pover_0w p hb (over3 h)
/-- Their norms. -/
theorem pOv_norm {p : Nat} (hp : IsLf p p) {q : Int × Int} (hq : q ∈ pOv p) : 2 ≤ gN q.1 q.2 := by
  have h2' := hp.2.1
  unfold pOv at hq
  by_cases h2 : p = 2
  · rw [if_pos h2] at hq
    obtain rfl : q = (1, 1) := by simpa using hq
    decide
  · rw [if_neg h2] at hq
    rcases lf_4 hp h2 with h | h
    · rw [if_neg (by omega)] at hq
      obtain ⟨x, y, _, hyx, hs, ha, _⟩ := over1 hp h
      rw [ha] at hq
      have hc : ((x : Int) * x + (y : Int) * y) = (p : Int) := by rw [← hs]; simp
      have hq2 : q = ((y : Int), (x : Int)) ∨ q = ((x : Int), (y : Int)) := by simpa using hq
      rcases hq2 with rfl | rfl <;> unfold gN <;> simp only <;> omega
    · rw [if_pos h] at hq
      obtain rfl : q = ((p : Int), 0) := by simpa using hq
      have : (2 : Int) * 2 ≤ (p : Int) * p := Int.mul_le_mul (by omega) (by omega) (by omega) (by omega)
      unfold gN
      simp only
      omega
end Go.Proofs.YthlhekkcjficdaaGreat


/- The prime numbers of a number: gprime.primeNumbersOf. -/
namespace Go.Proofs.YthlhekkcjficdaaGreat
open Go Go.RowKit Dig
set_option linter.unusedVariables false

/-- n without its factors p is m. -/
def Stp1 (n p m : Nat) : Prop := (∃ e, n = p ^ e * m) ∧ ¬ p ∣ m
/-- The prime numbers that divide n, rising. -/
def PF : Nat → List Nat → Prop
  | n, [] => n = 1
  | n, p :: L => IsLf n p ∧ ∃ m, Stp1 n p m ∧ PF m L
theorem stp_ex {p : Nat} (hp : 2 ≤ p) : ∀ n, 0 < n → ∃ m, Stp1 n p m ∧ 0 < m := by
  intro n
  induction n using Nat.strongRecOn with
  | ind n ih =>
    intro hn
    by_cases hd : p ∣ n
    · obtain ⟨q, rfl⟩ := hd
      have hq : 0 < q := Nat.pos_of_ne_zero fun e => by rw [e, Nat.mul_zero] at hn; omega
      have hlt : q < p * q := by have := Nat.mul_le_mul_right q hp; omega
      obtain ⟨m, ⟨⟨e, he⟩, h2⟩, h3⟩ := ih q hlt hq
      exact ⟨m, ⟨⟨e + 1, by rw [he, Nat.pow_succ, Nat.mul_comm (p ^ e) p, Nat.mul_assoc]⟩, h2⟩, h3⟩
    · exact ⟨n, ⟨⟨0, by rw [Nat.pow_zero, Nat.one_mul]⟩, hd⟩, hn⟩
theorem Stp1.lt {n p m : Nat} (h : Stp1 n p m) (hd : p ∣ n) (hp : 2 ≤ p) (hm : 0 < m) : m < n := by
  obtain ⟨⟨e, he⟩, h2⟩ := h
  cases e with
  | zero => rw [Nat.pow_zero, Nat.one_mul] at he; rw [he] at hd; exact absurd hd h2
  | succ e =>
    have h3 : p ≤ p ^ (e + 1) := by
      rw [Nat.pow_succ]; exact Nat.le_mul_of_pos_left p (Nat.pow_pos (by omega))
    have h4 := Nat.mul_le_mul_right m (Nat.le_trans hp h3)
    omega
theorem pf_ex : ∀ n, 0 < n → ∃ L, PF n L := by
  intro n
  induction n using Nat.strongRecOn with
  | ind n ih =>
    intro hn
    rcases Nat.lt_or_ge n 2 with h | h
    · exact ⟨[], by show n = 1; omega⟩
    · obtain ⟨p, hp⟩ := lf_ex h
      obtain ⟨m, hm, hm0⟩ := stp_ex hp.2.1 n hn
      obtain ⟨L, hL⟩ := ih m (hm.lt hp.1 hp.2.1 hm0) hm0
      exact ⟨p :: L, hp, m, hm, hL⟩
theorem PF.pos {n : Nat} {L : List Nat} (h : PF n L) : 0 < n := by
  cases L with
  | nil => rw [show n = 1 from h]; omega
  | cons p L =>
    obtain ⟨h1, m, ⟨⟨e, he⟩, h2⟩, h3⟩ := h
    rcases Nat.eq_zero_or_pos n with h0 | h0
    · have := h1.2.1
      have hm : m ≠ 0 := fun hc => h2 (by rw [hc]; exact Nat.dvd_zero p)
      have := Nat.mul_pos (Nat.pow_pos (n := e) (show 0 < p by omega)) (Nat.pos_of_ne_zero hm)
      omega
    · exact h0
def enc64 (p : Nat) : Value := .int .u64 (p : Int)
section
variable {w : World}
set_option maxHeartbeats 4000000 in
set_option maxRecDepth 20000 in
theorem pnums_any {n0 : Nat} {L0 : List Nat} (h : PF n0 L0) (hn : n0 < 4294967296) :
    Calls Tryz.prog 12 #[.int .u64 (n0 : Int)] w fun e w' => ∃ o c, e = .returned (.slice o L0.length c) ∧ Lst w' w.heap.size 41 1 (.slice o L0.length c) L0.length (L0.map enc64) ∧ Below w.heap.size w w' := by
  have H0 := hide h
  clear h
  go_enter Tryz.func12, Tryz.ntmps12
  have hs := St.nil w
  refine wp_seq_k ?_
  intro K1 hK1
  refine rg [0] ?_
  refine sq ?_
  refine .mv ?_
  apply wpSq_end
  refine hK1 _ _ ?_
  refine wp_seq_k ?_
  intro K2 hK2
  refine rg [0] ?_
  refine sq ?_
  refine .mv ?_
  apply wpSq_end
  refine hK2 _ _ ?_
  refine wp_seq_k ?_
  intro K3 hK3
  refine wp_block ?_
  have hd1 := hs.2.1
  go_loopg [0, 3] n0 (fun k s0 s3 wr => ∃ (n N : Nat) (o : Option Addr) (c : Nat) (xs : List Value) (D R : List Nat), s0 = .int .u64 (n : Int) ∧ s3 = .slice o N c ∧ n ≤ k ∧ N + n ≤ n0 ∧ Hid (L0 = D ++ R ∧ PF n R ∧ xs = D.map enc64 ∧ N = D.length) ∧ St w [ls w.heap.size 41 1 (.slice o N c) N xs] wr)
  case atStart => exact ⟨n0, 0, none, 0, [], [], L0, rfl, rfl, Nat.le_refl _, by omega, hide ⟨rfl, H0.out, rfl, rfl⟩, hs.l0 _ _⟩
  case round =>
  clear hs
  obtain ⟨n, N, o, c, xs, D, R, rfl, rfl, hnk, hN, HI, hs⟩ := hrel
  cases R with
  | nil =>
    have h1 : n = 1 := HI.out.2.1
    subst h1
    have HI' := hide (show L0 = D ∧ xs = D.map enc64 ∧ N = D.length from ⟨by rw [HI.out.1, List.append_nil], HI.out.2.2.1, HI.out.2.2.2⟩)
    clear HI
    refine wp_seq_k ?_
    intro K4 hK4
    refine wp_seq_k ?_
    intro K5 hK5
    refine rg [0, 1] ?_
    refine sq ?_
    refine .mv ?_
    refine sq ?_
    refine .r0 ?_
    apply wpSq_end
    refine hK5 _ _ ?_
    refine cf ?_
    refine wp_exit ?_
    refine hK3 _ _ ?_
    refine wp_seq_k ?_
    intro K6 hK6
    refine rg [0, 1] ?_
    refine sq ?_
    refine .mv ?_
    refine sq ?_
    refine .mv ?_
    apply wpSq_end
    refine hK6 _ _ ?_
    refine wp_ret ?_
    try dsimp only [Exit.then, Exit.inBlock]
    refine bodyPost_ret (v := (.slice o N c)) (by simp [results, Tryz.results12, go_sem]) rfl ?_
    obtain ⟨rfl, rfl, rfl⟩ := HI'.out; exact ⟨_, _, rfl, hs.1.1.1, hs.b⟩
  | cons p R =>
    obtain ⟨hp, m, hm, hR⟩ := HI.out.2.1
    have hp2 := hp.2.1
    have hn2 : 2 ≤ n := Nat.le_trans hp2 (Nat.le_of_dvd (PF.pos HI.out.2.1) hp.1)
    have hpn := hp.le hn2
    have hmn := hm.lt hp.1 hp2 hR.pos
    have HP := hide hp
    have HM := hide hm
    have HI' := hide (show L0 = (D ++ [p]) ++ R ∧ PF m R ∧ xs ++ [enc64 p] = (D ++ [p]).map enc64 ∧ N + 1 = (D ++ [p]).length from ⟨by rw [HI.out.1, List.append_assoc]; rfl, hR, by rw [HI.out.2.2.1, List.map_append]; rfl, by rw [List.length_append, HI.out.2.2.2]; rfl⟩)
    have hnb : n < 4294967296 := by omega
    clear hp hm hR HI
    refine wp_seq_k ?_
    intro K4 hK4
    refine wp_seq_k ?_
    intro K5 hK5
    refine rg [0, 1] ?_
    refine sq ?_
    refine .mv ?_
    refine sq ?_
    refine .r0 ?_
    apply wpSq_end
    refine hK5 _ _ ?_
    refine ct ?_
    refine wp_skip ?_
    refine hK4 _ _ ?_
    refine wp_block ?_
    refine wp_seq_k ?_
    intro K6 hK6
    refine rg [0, 1, 2] ?_
    refine sq ?_
    refine .mv ?_
    refine sq ?_
    intro K hK
    go_big_op
    go_fit (leastP HP.out hn2 hnb)
    rintro e w_2 ⟨rfl, e_2⟩
    (first | rw [e_2] | rw [← e_2]); clear e_2 w_2
    refine hK _ _ rfl trivial ?_
    clear hK K
    refine sq ?_
    refine .mv ?_
    apply wpSq_end
    refine hK6 _ _ ?_
    refine wp_seq_k ?_
    intro K7 hK7
    refine rg [0, 1, 2, 3, 4] ?_
    refine sq ?_
    refine .mv ?_
    refine sq ?_
    refine .mv ?_
    refine sq ?_
    refine .al hs ?_; clear hs; intro p_b1 w_3 hs n3 kb_b1
    refine sq ?_
    refine .ap 1 hs hs.g0 ?_; clear hs; intro o_L_4 c_L_4 w_4 hs kp4 hw4; simp only [List.set_cons_succ, List.set_cons_zero] at hs
    refine sq ?_
    refine .mv ?_
    apply wpSq_end
    refine hK7 _ _ ?_
    refine wp_block ?_
    have HO := ‹∀ (a' : Act) (w' : World), Handed _ _ a' w' → _›
    obtain ⟨g1, hg1⟩ : ∃ g, gk = g := ⟨_, rfl⟩
    have hm0 : 0 < m := PF.pos HI'.out.2.1
    have hd5 := hs.2.1
    go_loopg [0] n (fun k s0 wr => ∃ q : Nat, s0 = .int .u64 (q : Int) ∧ q ≤ k ∧ q ≤ n ∧ Hid (∃ e, q = p ^ e * m) ∧ St w [ls w.heap.size 41 1 (.slice o_L_4 (N + 1) c_L_4) (N + 1) (xs ++ [.int .u64 (p : Int)])] wr)
    case atStart => exact ⟨n, rfl, Nat.le_refl _, Nat.le_refl _, hide HM.out.1, hs.sub (.cons _ (List.Sublist.refl _))⟩
    case round =>
    clear hs
    obtain ⟨q, rfl, hqk, hqn, HE, hs⟩ := hrel
    have hp0 : ((p : Int) == 0) = false := by rw [beq_eq_false_iff_ne]; omega
    by_cases hd : q % p = 0
    · have hmo : Int.tmod (q : Int) (p : Int) = 0 := by rw [← Int.ofNat_tmod, hd]; rfl
      have hdi : Int.tdiv (q : Int) (p : Int) = ((q / p : Nat) : Int) := by rw [← Int.ofNat_tdiv]
      have hd2 : q / p < q ∧ ∃ e, q / p = p ^ e * m := by
        obtain ⟨e, he⟩ := HE.out
        have hpq : p ∣ q := Nat.dvd_of_mod_eq_zero hd
        cases e with
        | zero => rw [Nat.pow_zero, Nat.one_mul] at he; rw [he] at hpq; exact absurd hpq HM.out.2
        | succ e =>
          have h5 : q = p * (p ^ e * m) := by rw [he, Nat.pow_succ, Nat.mul_comm (p ^ e) p, Nat.mul_assoc]
          have h6 : q / p = p ^ e * m := by rw [h5, Nat.mul_div_cancel_left _ (by omega)]
          refine ⟨Nat.div_lt_self ?_ (by omega), e, h6⟩
          rw [h5]; exact Nat.mul_pos (by omega) (Nat.mul_pos (Nat.pow_pos (by omega)) hm0)
      have HE2 := hide hd2.2
      have hlt := hd2.1
      clear hd hd2 HE
      generalize q / p = r at *
      refine wp_seq_k ?_
      intro K8 hK8
      refine wp_seq_k ?_
      intro K9 hK9
      refine rg [0, 1, 2, 3] ?_
      refine sq ?_
      refine .mv ?_
      refine sq ?_
      refine .mv ?_
      refine sq ?_
      refine .r0 ?_
      refine sq ?_
      refine .r0 ?_
      apply wpSq_end
      refine hK9 _ _ ?_
      refine ct ?_
      refine wp_skip ?_
      refine hK8 _ _ ?_
      refine wp_block ?_
      refine rg [0, 1, 2, 3] ?_
      refine sq ?_
      refine .mv ?_
      refine sq ?_
      refine .mv ?_
      refine sq ?_
      refine .r0 ?_
      refine sq ?_
      refine .mv ?_
      apply wpSq_end
      refine ‹∀ (a' : Act) (w' : World), Handed _ _ a' w' → _› _ _ ?_
      go_roundg (gk - 1)
      case rel => exact ⟨r, by rfl, by omega, by omega, HE2, hs⟩
      case measure => omega
    · have hmo : Int.tmod (q : Int) (p : Int) = ((q % p : Nat) : Int) := by rw [Int.ofNat_tmod]
      have hqm : q = m := by
        obtain ⟨e, he⟩ := HE.out
        cases e with
        | zero => rw [he, Nat.pow_zero, Nat.one_mul]
        | succ e => exact absurd (Nat.mod_eq_zero_of_dvd ⟨p ^ e * m, by rw [he, Nat.pow_succ, Nat.mul_comm (p ^ e) p, Nat.mul_assoc]⟩) hd
      subst hqm
      clear HE
      generalize q % p = r at *
      have hr0 : ((r : Int) == 0) = false := by rw [beq_eq_false_iff_ne]; omega
      refine wp_seq_k ?_
      intro K8 hK8
      refine wp_seq_k ?_
      intro K9 hK9
      refine rg [0, 1, 2, 3] ?_
      refine sq ?_
      refine .mv ?_
      refine sq ?_
      refine .mv ?_
      refine sq ?_
      refine .r0 ?_
      refine sq ?_
      refine .r0 ?_
      apply wpSq_end
      refine hK9 _ _ ?_
      refine cf ?_
      refine wp_exit ?_
      refine HO _ _ ?_
      go_roundg (g1 - 1)
      case rel => exact ⟨q, N + 1, _, _, _, _, _, by rfl, by rfl, by omega, by omega, HI', hs⟩
      case measure => omega
end
end Go.Proofs.YthlhekkcjficdaaGreat


/- gprime.Factor. -/
namespace Go.Proofs.YthlhekkcjficdaaGreat
open Go Go.RowKit Dig
set_option linter.unusedVariables false

theorem pOv_len (p : Nat) (hp : IsLf p p) : (pOv p).length ≤ 2 := by
  unfold pOv
  by_cases h2 : p = 2
  · rw [if_pos h2]; decide
  · rw [if_neg h2]
    rcases lf_4 hp h2 with h | h
    · rw [if_neg (by omega)]
      obtain ⟨x, y, _, hyx, hs, ha, _⟩ := over1 hp h
      rw [ha]; exact Nat.le_refl _
    · rw [if_pos h]; exact Nat.le_succ _
theorem pOv_small {p : Nat} (hp : IsLf p p) (hb : p < 4294967296) {q : Int × Int} (hq : q ∈ pOv p) : q.1.natAbs < 4294967296 ∧ q.2.natAbs < 4294967296 := by
  unfold pOv at hq
  by_cases h2 : p = 2
  · rw [if_pos h2] at hq
    obtain rfl : q = (1, 1) := by simpa using hq
    decide
  · rw [if_neg h2] at hq
    rcases lf_4 hp h2 with h | h
    · rw [if_neg (by omega)] at hq
      obtain ⟨x, y, _, hyx, hs, ha, _⟩ := over1 hp h
      rw [ha] at hq
      have hx : x < 65536 := sq_lt (by omega)
      have hq2 : q = ((y : Int), (x : Int)) ∨ q = ((x : Int), (y : Int)) := by simpa using hq
      rcases hq2 with rfl | rfl <;> simp only <;> omega
    · rw [if_pos h] at hq
      obtain rfl : q = ((p : Int), 0) := by simpa using hq
      simp only
      omega
theorem PF.mem : ∀ {n : Nat} {L : List Nat}, PF n L → ∀ p ∈ L, IsLf p p ∧ p ≤ n
  | n, [], _, p, hp => nomatch hp
  | n, q :: L, h, p, hp => by
    have hn := h.pos
    obtain ⟨h1, m, h2, h3⟩ := h
    have hmn := h2.lt h1.1 h1.2.1 h3.pos
    rcases List.mem_cons.1 hp with rfl | hp
    · exact ⟨h1.self, Nat.le_of_dvd hn h1.1⟩
    · have := PF.mem h3 p hp
      exact ⟨this.1, by omega⟩
theorem PF.len : ∀ {n : Nat} {L : List Nat}, PF n L → L.length < n + 1
  | n, [], _ => Nat.succ_pos _
  | n, q :: L, h => by
    obtain ⟨h1, m, h2, h3⟩ := h
    have hmn := h2.lt h1.1 h1.2.1 h3.pos
    have := PF.len h3
    simp only [List.length_cons]
    omega
/-- How Factor stands behind some primes. -/
def FcI (x y : Int) (Q : List (Int × Int)) (ps : List (Int × Int × Int)) (X Y : Int) (N : Nat) : Prop := Q.foldl fcS ([], (x, y)) = (ps, (X, Y)) ∧ gN X Y ≠ 0 ∧ gN X Y < 4294967296 ∧ N = ps.length ∧ ∀ t ∈ ps, t.1.natAbs < 4294967296 ∧ t.2.1.natAbs < 4294967296
theorem FcI.yes {x y : Int} {Q : List (Int × Int)} {ps : List (Int × Int × Int)} {X Y : Int} {N : Nat} (h : FcI x y Q ps X Y N) {q : Int × Int} (h2 : 2 ≤ gN q.1 q.2) (hs : q.1.natAbs < 4294967296 ∧ q.2.natAbs < 4294967296) (ht : 0 < (tkF q.1 q.2 X Y).1) : FcI x y (Q ++ [q]) (ps ++ [(q.1, q.2, ((tkF q.1 q.2 X Y).1 : Int))]) (tkF q.1 q.2 X Y).2.1 (tkF q.1 q.2 X Y).2.2 (N + 1) := by
  obtain ⟨h1, h3, h4, h5, h7⟩ := h
  have h6 := tkF_norm h2 h3
  refine ⟨?_, h6.1, Int.lt_of_le_of_lt h6.2 h4, by rw [List.length_append, h5]; rfl, fun t hm => ?_⟩
  · rw [List.foldl_append, h1]
    show fcS _ _ = _
    unfold fcS
    dsimp only
    rw [if_pos ht]
  · rcases List.mem_append.1 hm with hm | hm
    · exact h7 t hm
    · obtain rfl := List.mem_singleton.1 hm
      exact hs
theorem FcI.no {x y : Int} {Q : List (Int × Int)} {ps : List (Int × Int × Int)} {X Y : Int} {N : Nat} (h : FcI x y Q ps X Y N) {q : Int × Int} (h2 : 2 ≤ gN q.1 q.2) (ht : ¬ 0 < (tkF q.1 q.2 X Y).1) : FcI x y (Q ++ [q]) ps (tkF q.1 q.2 X Y).2.1 (tkF q.1 q.2 X Y).2.2 N := by
  obtain ⟨h1, h3, h4, h5, h7⟩ := h
  have h6 := tkF_norm h2 h3
  refine ⟨?_, h6.1, Int.lt_of_le_of_lt h6.2 h4, h5, h7⟩
  rw [List.foldl_append, h1]
  show fcS _ _ = _
  unfold fcS
  dsimp only
  rw [if_neg ht]
/-- Canonical factors. -/
def Cns (w : World) (qs : List Pw) : Prop := ∀ q ∈ qs, PC w (.agg #[.bool q.n1, .slice q.o1 q.k1 q.c1, .bool q.n2, .slice q.o2 q.k2 q.c2]) q.x q.y
theorem Cns.k {w w' : World} {qs : List Pw} (h : Cns w qs) (k : Kp w w') : Cns w' qs := fun q hq => (h q hq).k k
def Pw.val (q : Pw) : Int × Int × Int := (q.x, q.y, q.n)
theorem Cns.ok {w : World} {qs : List Pw} {ps : List (Int × Int × Int)} (h : Cns w qs) (hm : qs.map Pw.val = ps) (hs : ∀ t ∈ ps, t.1.natAbs < 4294967296 ∧ t.2.1.natAbs < 4294967296) : ∀ p ∈ qs, p.ok w := fun p hp =>
  have h1 := hs (p.x, p.y, p.n) (hm ▸ List.mem_map_of_mem (f := Pw.val) hp)
  (h p hp).pn (Nat.le_trans (zlen_small6 h1.1) (by omega)) (Nat.le_trans (zlen_small6 h1.2) (by omega))
end Go.Proofs.YthlhekkcjficdaaGreat


/- What Factor takes out, multiplied: the number again. -/
namespace Go.Proofs.YthlhekkcjficdaaGreat
open Go Go.RowKit Dig
set_option linter.unusedVariables false
/-- The product of Gaussian integers; powers; the product of factors. -/
def gP (p q : Int × Int) : Int × Int := (p.1 * q.1 - p.2 * q.2, p.1 * q.2 + p.2 * q.1)
def gPw (q : Int × Int) : Nat → Int × Int
  | 0 => (1, 0)
  | n + 1 => gP (gPw q n) q
theorem gP_assoc (a b c : Int × Int) : gP (gP a b) c = gP a (gP b c) := by
  unfold gP
  simp only [Prod.mk.injEq]
  constructor <;> grind
theorem gP_comm (a b : Int × Int) : gP a b = gP b a := by
  unfold gP
  simp only [Prod.mk.injEq]
  constructor <;> grind
theorem gP_one (a : Int × Int) : gP (1, 0) a = a := by
  unfold gP
  ext <;> simp
theorem gP_norm (a b : Int × Int) : gN (gP a b).1 (gP a b).2 = gN a.1 a.2 * gN b.1 b.2 := by
  unfold gP gN
  grind
theorem tkO_prod {u v : Int} (h2 : 2 ≤ gN u v) : ∀ (f : Nat) (x y : Int), gN x y ≠ 0 → gP (gPw (u, v) (tkO u v f x y).1) (tkO u v f x y).2 = (x, y) := by
  intro f
  induction f with
  | zero => intro x y h; exact gP_one _
  | succ f ih =>
    intro x y h
    unfold tkO
    split
    · rename_i hd
      have hs := gD_small h2 h hd
      have hi := ih _ _ hs.1
      have he := gD_eq (by omega) hd
      show gP (gP (gPw (u, v) _) (u, v)) _ = _
      rw [gP_assoc, gP_comm (u, v), ← gP_assoc, hi]
      unfold gP
      dsimp only
      rw [← he.1, ← he.2]
    · exact gP_one _
theorem tkF_prod {u v x y : Int} (h2 : 2 ≤ gN u v) (h : gN x y ≠ 0) : gP (gPw (u, v) (tkF u v x y).1) (tkF u v x y).2 = (x, y) := tkO_prod h2 _ _ _ h
theorem gPw_norm (q : Int × Int) : ∀ n : Nat, gN (gPw q n).1 (gPw q n).2 = gN q.1 q.2 ^ n
  | 0 => by show gN 1 0 = gN q.1 q.2 ^ 0; rw [Int.pow_zero]; rfl
  | n + 1 => by rw [show gPw q (n + 1) = gP (gPw q n) q from rfl, gP_norm, gPw_norm q n, Int.pow_succ]
/-- What is left is not divisible any more. -/
theorem tkF_rest {u v : Int} (h2 : 2 ≤ gN u v) : ∀ (n : Nat) (x y : Int), gN x y ≠ 0 → (gN x y).toNat ≤ n → ¬ gDv (tkF u v x y).2.1 (tkF u v x y).2.2 u v := by
  intro n
  induction n using Nat.strongRecOn with
  | ind n ih =>
    intro x y h0 hn
    by_cases hd : gDv x y u v
    · rw [tkF_yes h2 h0 hd]
      have hs := gD_small h2 h0 hd
      have h3 := gN_nonneg (gD1 x y u v) (gD2 x y u v)
      exact ih (gN (gD1 x y u v) (gD2 x y u v)).toNat (by omega) _ _ hs.1 (Nat.le_refl _)
    · rw [tkF_no hd]
      exact hd
/-- The product of a list of factors. -/
def gPs (ps : List (Int × Int × Int)) : Int × Int := ps.foldl (fun a t => gP a (gPw (t.1, t.2.1) t.2.2.toNat)) (1, 0)
theorem fc_prod (Q : List (Int × Int)) (hQ : ∀ q ∈ Q, 2 ≤ gN q.1 q.2) : ∀ (ps : List (Int × Int × Int)) (X Y : Int), gN X Y ≠ 0 → gP (gPs (Q.foldl fcS (ps, (X, Y))).1) (Q.foldl fcS (ps, (X, Y))).2 = gP (gPs ps) (X, Y) := by
  induction Q with
  | nil => intro ps X Y _; rfl
  | cons q Q ih =>
    intro ps X Y h
    rw [List.foldl_cons]
    have h2 := hQ q List.mem_cons_self
    have h6 := tkF_norm h2 h
    have hp := tkF_prod h2 h
    by_cases ht : 0 < (tkF q.1 q.2 X Y).1
    · rw [show fcS (ps, (X, Y)) q = (ps ++ [(q.1, q.2, ((tkF q.1 q.2 X Y).1 : Int))], ((tkF q.1 q.2 X Y).2.1, (tkF q.1 q.2 X Y).2.2)) from by unfold fcS; dsimp only; rw [if_pos ht]]
      rw [ih (fun a ha => hQ a (List.mem_cons_of_mem _ ha)) _ _ _ h6.1]
      unfold gPs
      rw [List.foldl_append]
      show gP (gP _ (gPw (q.1, q.2) (Int.toNat ((tkF q.1 q.2 X Y).1 : Int)))) (tkF q.1 q.2 X Y).2 = _
      rw [gP_assoc, Int.toNat_natCast, hp]
    · rw [show fcS (ps, (X, Y)) q = (ps, ((tkF q.1 q.2 X Y).2.1, (tkF q.1 q.2 X Y).2.2)) from by unfold fcS; dsimp only; rw [if_neg ht]]
      rw [ih (fun a ha => hQ a (List.mem_cons_of_mem _ ha)) _ _ _ h6.1]
      have h0 : (tkF q.1 q.2 X Y).1 = 0 := by omega
      rw [h0] at hp
      have hp2 : (tkF q.1 q.2 X Y).2 = (X, Y) := (gP_one _).symm.trans hp
      show gP (gPs ps) (tkF q.1 q.2 X Y).2 = _
      rw [hp2]
end Go.Proofs.YthlhekkcjficdaaGreat

