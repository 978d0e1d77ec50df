/- The law's list, is; gprime.Squares; the reference's Squares. -/
import Derived.Test.YtbiiglcfdphmaaaJ7ToJ6
import Derived.Test.YtbiiglcfdphmaaaG3ToR10
import Derived.Test.YtbiiglcfdphmaaaT1ToG7
import Derived.Test.YtbiiglcfdphmaaaJ1ToJ4

namespace Go.Proofs.Ytbiiglcfdphmaaa
open Go Go.RowKit Dig
set_option linter.unusedVariables false

section
variable {w : World} {va vb : Value} {x y z : Int} {l m : Nat}
set_option maxHeartbeats 4000000 in
set_option maxRecDepth 20000 in
theorem g6is_any (ha : PC w va x y) (hq : PN w vb x l y m) (hl : l ≤ 100000000) (hm : m ≤ 100000000) :
    Calls Try.prog 13 #[va, vb] w fun e w' => e = .returned (.bool true) ∧ Below w.heap.size w w' := by
  obtain ⟨n_0a, o_0a, k_0a, c_0a, n_0b, o_0b, k_0b, c_0b, rfl, ha1, ha2⟩ := ha
  obtain ⟨n_1a, o_1a, k_1a, c_1a, n_1b, o_1b, k_1b, c_1b, rfl, hq1, hq2⟩ := hq
  go_enter Try.func13, Try.ntmps13
  have hs := St.nil w
  refine wp_seq_k ?_
  intro K1 hK1
  refine rg [0, 1, 2] ?_
  refine sq ?_
  refine .al hs ?_; clear hs; intro p_b1 w_1 hs n1 kb_b1
  refine sq ?_
  refine .al hs ?_; clear hs; intro p_b2 w_2 hs n2 kb_b2
  refine sq ?_
  refine .mv ?_
  apply wpSq_end
  refine hK1 _ _ ?_
  refine wp_seq_k ?_
  intro K2 hK2
  refine rg [0, 1, 2, 3] ?_
  refine sq ?_
  refine .r4 hs.g1.f4 ?_
  refine sq ?_
  refine .r4 hs.g0.f4 ?_
  refine sq ?_
  intro K hK
  have k0_2 := (kb n1).b n2
  replace ha1 := ha1.k k0_2
  replace ha2 := ha2.k k0_2
  replace hq1 := hq1.k k0_2
  replace hq2 := hq2.k k0_2
  go_big_op
  go_fit (rgSame_any (PC.mk' ha1 ha2) (PN.mk' hq1 hq2) (by omega) (by omega) )
  rintro e w_3 ⟨rfl, hb_3⟩
  replace hs := hs.bl hb_3
  refine hK _ _ rfl trivial ?_
  clear hK K
  refine sq ?_
  refine .mv ?_
  apply wpSq_end
  refine hK2 _ _ ?_
  refine wp_ret ?_
  try dsimp only [Exit.then, Exit.inBlock]
  refine bodyPost_ret (v := (.bool true)) (by simp [results, Try.results13, go_sem]) rfl ?_
  exact ⟨rfl, hs.b⟩
end
end Go.Proofs.Ytbiiglcfdphmaaa


/- Prime numbers as sums of two squares: which, and in how many ways. -/
namespace Go.Proofs.Ytbiiglcfdphmaaa
open Go Go.RowKit Dig
set_option linter.unusedVariables false

/-- A list that an involution without fixed points maps to itself has an even length. -/
theorem even_inv {α : Type} [DecidableEq α] (f : α → α) : ∀ (n : Nat) (L : List α), L.length = n → L.Nodup → (∀ a ∈ L, f a ∈ L ∧ f (f a) = a ∧ f a ≠ a) → n % 2 = 0 := by
  intro n
  induction n using Nat.strongRecOn with
  | ind n ih =>
    intro L hn hd h
    match L, hn, hd, h with
    | [], hn, _, _ => simp at hn; omega
    | a :: t, hn, hd, h =>
      obtain ⟨h1, h2, h3⟩ := h a (List.mem_cons_self ..)
      have hat := (List.nodup_cons.1 hd).1
      have htn := (List.nodup_cons.1 hd).2
      have hbt : f a ∈ t := (List.mem_cons.1 h1).resolve_left h3
      have hlen := List.length_erase_of_mem hbt
      have hpos := List.length_pos_of_mem hbt
      simp only [List.length_cons] at hn
      have := ih (n - 2) (by omega) (t.erase (f a)) (by omega) (htn.erase _) (fun c hc => by
        obtain ⟨hc1, hc2⟩ := htn.mem_erase_iff.1 hc
        obtain ⟨h4, h5, h6⟩ := h c (List.mem_cons_of_mem _ hc2)
        have hca : f c ≠ a := fun e => hc1 (by rw [← e, h5])
        have hcb : f c ≠ f a := fun e => hat (by rw [← h2, ← e, h5]; exact hc2)
        exact ⟨htn.mem_erase_iff.2 ⟨hcb, (List.mem_cons.1 h4).resolve_left hca⟩, h5, h6⟩)
      omega
/-- The same with just one fixed point: odd. -/
theorem odd_inv {α : Type} [DecidableEq α] (f : α → α) (L : List α) (hd : L.Nodup) (a0 : α) (h0 : a0 ∈ L) (hf : f a0 = a0) (h : ∀ a ∈ L, f a ∈ L ∧ f (f a) = a ∧ (f a = a → a = a0)) : L.length % 2 = 1 := by
  have hlen := List.length_erase_of_mem h0
  have hpos := List.length_pos_of_mem h0
  have := even_inv f (L.length - 1) (L.erase a0) hlen (hd.erase _) (fun c hc => by
    obtain ⟨hc1, hc2⟩ := hd.mem_erase_iff.1 hc
    obtain ⟨h4, h5, h6⟩ := h c hc2
    exact ⟨hd.mem_erase_iff.2 ⟨fun e => hc1 (by rw [← h5, e, hf]), h4⟩, h5, fun e => hc1 (h6 e)⟩)
  omega
def zz : Nat × Nat × Nat → Nat × Nat × Nat := fun (x, y, z) => if x + z < y then (x + 2 * z, z, y - x - z) else if x < 2 * y then (2 * y - x, y, x + z - y) else (x - 2 * y, x + z - y, y)
/-- All triples with x^2 + 4 y z = p. -/
def zL (p : Nat) : List (Nat × Nat × Nat) := (List.range (p + 1)).flatMap fun x => (List.range (p + 1)).flatMap fun y => ((List.range (p + 1)).filter fun z => x * x + 4 * y * z = p).map fun z => (x, y, z)
theorem zL_nodup (p : Nat) : (zL p).Nodup := by
  unfold zL List.Nodup
  refine List.pairwise_flatMap.2 ⟨fun x _ => List.pairwise_flatMap.2 ⟨fun y _ => ?_, ?_⟩, ?_⟩
  · refine List.Pairwise.map _ (fun a b h e => h ?_) (List.Pairwise.filter _ (List.nodup_range (n := p + 1)))
    simpa using e
  · refine List.Pairwise.imp (fun {a b} h => ?_) (List.nodup_range (n := p + 1))
    intro s hs t ht e
    obtain ⟨_, _, rfl⟩ := List.mem_map.1 hs
    obtain ⟨_, _, rfl⟩ := List.mem_map.1 ht
    exact h (by simpa using (congrArg (fun q => q.2.1) e))
  · refine List.Pairwise.imp (fun {a b} h => ?_) (List.nodup_range (n := p + 1))
    intro s hs t ht e
    obtain ⟨_, _, hs⟩ := List.mem_flatMap.1 hs
    obtain ⟨_, _, ht⟩ := List.mem_flatMap.1 ht
    obtain ⟨_, _, rfl⟩ := List.mem_map.1 hs
    obtain ⟨_, _, rfl⟩ := List.mem_map.1 ht
    exact h (by simpa using (congrArg (fun q => q.1) e))
theorem zL_mem {p x y z : Nat} (hp : ∀ a, a * a ≠ p) (h1 : x * x + 4 * y * z = p) : (x, y, z) ∈ zL p := by
  have hyz : 0 < y * z := by
    rcases Nat.eq_zero_or_pos (y * z) with h | h
    · rw [Nat.mul_assoc, h, Nat.mul_zero, Nat.add_zero] at h1; exact absurd h1 (hp x)
    · exact h
  have hy : 0 < y := Nat.pos_of_ne_zero fun e => by rw [e, Nat.zero_mul] at hyz; omega
  have hz : 0 < z := Nat.pos_of_ne_zero fun e => by rw [e, Nat.mul_zero] at hyz; omega
  have h2 : y ≤ y * z := Nat.le_mul_of_pos_right y hz
  have h3 : z ≤ y * z := Nat.le_mul_of_pos_left z hy
  have h4 : x ≤ x * x := Nat.le_mul_self x
  rw [Nat.mul_assoc] at h1
  unfold zL
  simp only [List.mem_flatMap, List.mem_map, List.mem_filter, List.mem_range, decide_eq_true_eq]
  exact ⟨x, by omega, y, by omega, z, ⟨by omega, by rw [Nat.mul_assoc]; exact h1⟩, rfl⟩
theorem zL_of {p : Nat} {t : Nat × Nat × Nat} (h : t ∈ zL p) : t.1 * t.1 + 4 * t.2.1 * t.2.2 = p := by
  unfold zL at h
  simp only [List.mem_flatMap, List.mem_map, List.mem_filter, List.mem_range, decide_eq_true_eq] at h
  obtain ⟨x, _, y, _, z, ⟨_, h⟩, rfl⟩ := h
  exact h
theorem prime_nsq {p : Nat} (hp : IsLf p p) (a : Nat) : a * a ≠ p := fun e => by
  have h2 := hp.2.1
  have ha : 2 ≤ a := by
    rcases Nat.lt_or_ge a 2 with h | h
    · have : a = 0 ∨ a = 1 := by omega
      rcases this with rfl | rfl <;> simp at e <;> omega
    · exact h
  have h3 := hp.2.2 a ha ⟨a, e.symm⟩
  have h4 := Nat.mul_le_mul_left a ha
  omega
theorem two_sq {p : Nat} (hp : IsLf p p) (h4 : p % 4 = 1) : ∃ a b : Nat, a * a + b * b = p := by
  have hns := prime_nsq hp
  have h2 := hp.2.1
  -- the members are above 0
  have pos : ∀ {x y z : Nat}, x * x + 4 * y * z = p → 0 < x ∧ 0 < y ∧ 0 < z := fun {x y z} h => by
    refine ⟨Nat.pos_of_ne_zero fun e => ?_, Nat.pos_of_ne_zero fun e => ?_, Nat.pos_of_ne_zero fun e => ?_⟩
    · subst e; rw [Nat.mul_assoc] at h; omega
    · subst e; simp at h; exact hns x h
    · subst e; simp at h; exact hns x h
  have hodd : (zL p).length % 2 = 1 := by
    refine odd_inv zz (zL p) (zL_nodup p) (1, 1, p / 4) (zL_mem hns (by omega)) (by unfold zz; simp) ?_
    rintro ⟨x, y, z⟩ hm
    have h := zL_of hm
    simp only at h
    obtain ⟨hx, hy, hz⟩ := pos h
    by_cases c1 : x + z < y
    · obtain ⟨d, rfl⟩ : ∃ d, y = x + z + d := ⟨y - (x + z), by omega⟩
      have e1 : zz (x, x + z + d, z) = (x + 2 * z, z, d) := by unfold zz; simp only; rw [if_pos c1]; congr 2; omega
      rw [e1]
      have hd : 0 < d := by omega
      refine ⟨zL_mem hns (by rw [← h]; grind), ?_, ?_⟩
      · unfold zz; simp only
        rw [if_neg (by omega), if_neg (by omega)]
        congr 1
        · omega
        · congr 1; omega
      · intro e; simp at e; omega
    · by_cases c2 : x < 2 * y
      · have c3 : x + z ≠ y := fun e => hns (y + z) (by rw [← h, ← e]; grind)
        obtain ⟨d, hd⟩ : ∃ d, x + z = y + d := ⟨x + z - y, by omega⟩
        obtain ⟨f, hf⟩ : ∃ f, 2 * y = x + f := ⟨2 * y - x, by omega⟩
        have e1 : zz (x, y, z) = (f, y, d) := by unfold zz; simp only; rw [if_neg c1, if_pos c2]; congr 1; · omega
                                                 congr 1; omega
        rw [e1]
        have hz2 : z = y + d - x := by omega
        refine ⟨zL_mem hns ?_, ?_, ?_⟩
        · rw [← h]
          have hfi : (f : Int) = 2 * y - x := by omega
          have hdi : (d : Int) = x + z - y := by omega
          have : ((f * f + 4 * y * d : Nat) : Int) = ((x * x + 4 * y * z : Nat) : Int) := by
            simp only [Int.natCast_add, Int.natCast_mul, hfi, hdi]; grind
          exact Int.ofNat_inj.1 this
        · unfold zz; simp only
          rw [if_neg (by omega), if_pos (by omega)]
          congr 1
          · omega
          · congr 1; omega
        · intro e
          simp only [Prod.mk.injEq] at e
          obtain rfl : x = y := by omega
          have hxp : x ∣ p := ⟨x + 4 * z, by rw [← h]; grind⟩
          have hx1 : x = 1 := by
            rcases Nat.lt_or_ge x 2 with h5 | h5
            · omega
            · have h6 := hp.2.2 x h5 hxp
              have h7 := Nat.mul_le_mul_left x h5
              have : 0 < 4 * x * z := Nat.mul_pos (Nat.mul_pos (by omega) hx) hz
              omega
          subst hx1
          congr 2
          omega
      · have c3 : x ≠ 2 * y := fun e => by
          rw [e, Nat.mul_assoc] at h
          have : 2 * (y * (2 * y)) + 4 * y * z = p := h
          have h5 : 4 * y * z = 4 * (y * z) := Nat.mul_assoc _ _ _
          have h6 : 2 * (y * (2 * y)) = 4 * (y * y) := by grind
          omega
        obtain ⟨d, hd⟩ : ∃ d, x = 2 * y + d := ⟨x - 2 * y, by omega⟩
        have e1 : zz (x, y, z) = (d, x + z - y, y) := by unfold zz; simp only; rw [if_neg c1, if_neg c2]; congr 1; omega
        rw [e1]
        subst hd
        refine ⟨zL_mem hns ?_, ?_, ?_⟩
        · rw [← h, show 2 * y + d + z - y = y + d + z by omega]; grind
        · unfold zz; simp only
          rw [if_pos (by omega)]
          congr 1
          · omega
          · congr 1; omega
        · intro e
          simp only [Prod.mk.injEq] at e
          omega
  -- the second one
  have : ∃ t ∈ zL p, t.2.1 = t.2.2 := Classical.byContradiction fun hc => by
    have h5 := even_inv (fun t : Nat × Nat × Nat => (t.1, t.2.2, t.2.1)) _ (zL p) rfl (zL_nodup p) (fun t ht => by
      have h := zL_of ht
      refine ⟨zL_mem hns (by rw [← h]; grind), rfl, fun e => hc ⟨t, ht, ?_⟩⟩
      have := congrArg (fun q => q.2.1) e
      exact this.symm)
    omega
  obtain ⟨t, ht, e⟩ := this
  have h := zL_of ht
  rw [← e] at h
  exact ⟨t.1, 2 * t.2.1, by rw [← h]; grind⟩
theorem sq_inj {a b : Nat} (h : a * a = b * b) : a = b := Nat.mul_self_inj.1 h
/-- A prime number is the norm of just one number with Re not below Im. -/
theorem two_sq_one {p a b c d : Nat} (hp : IsLf p p) (h1 : a * a + b * b = p) (h2 : c * c + d * d = p) (hb : b ≤ a) (hd : d ≤ c) : a = c ∧ b = d := by
  have hns := prime_nsq hp
  have hp2 := hp.2.1
  have pos : ∀ {x y : Nat}, x * x + y * y = p → 0 < x ∧ 0 < y := fun {x y} h => by
    refine ⟨Nat.pos_of_ne_zero fun e => ?_, Nat.pos_of_ne_zero fun e => ?_⟩
    · subst e; simp at h; exact hns y h
    · subst e; simp at h; exact hns x h
  obtain ⟨ha0, hb0⟩ := pos h1
  obtain ⟨hc0, hd0⟩ := pos h2
  have e1 : (a * d + b * c) * (a * d + b * c) + ((a : Int) * c - b * d).natAbs * ((a : Int) * c - b * d).natAbs = p * p := by
    have : (((a * d + b * c) * (a * d + b * c) + ((a : Int) * c - b * d).natAbs * ((a : Int) * c - b * d).natAbs : Nat) : Int) = ((p * p : Nat) : Int) := by
      rw [Int.natCast_add, Int.natAbs_mul_self, ← h1]
      have h3 : ((c * c + d * d : Nat) : Int) = ((a * a + b * b : Nat) : Int) := by rw [h1, h2]
      simp only [Int.natCast_add, Int.natCast_mul] at h3 ⊢
      grind
    exact Int.ofNat_inj.1 this
  have e2 : ((a : Int) * d - b * c).natAbs * ((a : Int) * d - b * c).natAbs + (a * c + b * d) * (a * c + b * d) = p * p := by
    have : ((((a : Int) * d - b * c).natAbs * ((a : Int) * d - b * c).natAbs + (a * c + b * d) * (a * c + b * d) : Nat) : Int) = ((p * p : Nat) : Int) := by
      rw [Int.natCast_add, Int.natAbs_mul_self, ← h1]
      have h3 : ((c * c + d * d : Nat) : Int) = ((a * a + b * b : Nat) : Int) := by rw [h1, h2]
      simp only [Int.natCast_add, Int.natCast_mul] at h3 ⊢
      grind
    exact Int.ofNat_inj.1 this
  have hdv : p ∣ ((a : Int) * d - b * c).natAbs * (a * d + b * c) := by
    have : (p : Int) ∣ ((a : Int) * d - b * c) * ((a * d + b * c : Nat) : Int) := by
      refine ⟨(d : Int) * d - b * b, ?_⟩
      have h3 : ((c * c + d * d : Nat) : Int) = (p : Int) := by rw [h2]
      have h4 : ((a * a + b * b : Nat) : Int) = (p : Int) := by rw [h1]
      simp only [Int.natCast_add, Int.natCast_mul] at h3 h4 ⊢
      grind
    have := Int.natAbs_dvd_natAbs.2 this
    rwa [Int.natAbs_mul, Int.natAbs_natCast, Int.natAbs_natCast] at this
  rcases hp.euclid hdv with h | h
  · have hlt : ((a : Int) * d - b * c).natAbs < p := by
      rcases Nat.lt_or_ge ((a : Int) * d - b * c).natAbs p with h5 | h5
      · exact h5
      · have := Nat.mul_le_mul h5 h5
        have : 0 < a * c := Nat.mul_pos ha0 hc0
        have := Nat.mul_pos (show 0 < a * c + b * d by omega) (show 0 < a * c + b * d by omega)
        omega
    have h0 : ((a : Int) * d - b * c).natAbs = 0 := by
      rcases Nat.eq_zero_or_pos ((a : Int) * d - b * c).natAbs with h5 | h5
      · exact h5
      · have := Nat.le_of_dvd h5 h; omega
    have h6 : a * d = b * c := by
      have : ((a * d : Nat) : Int) = ((b * c : Nat) : Int) := by simp only [Int.natCast_mul]; omega
      exact Int.ofNat_inj.1 this
    have h7 : p * (a * a) = p * (c * c) := by
      have : a * a * (d * d) = b * b * (c * c) := by
        have : a * d * (a * d) = b * c * (b * c) := by rw [h6]
        grind
      grind
    have h8 := sq_inj (Nat.eq_of_mul_eq_mul_left (by omega) h7)
    subst h8
    exact ⟨rfl, sq_inj (by omega)⟩
  · have h3 : a * d + b * c ≤ p := by
      rcases Nat.lt_or_ge p (a * d + b * c) with h5 | h5
      · have := Nat.mul_lt_mul'' h5 h5; omega
      · exact h5
    have h4 := Nat.le_of_dvd (Nat.lt_of_lt_of_le (Nat.mul_pos ha0 hd0) (Nat.le_add_right _ _)) h
    have h5 : a * d + b * c = p := by omega
    rw [h5] at e1
    have h6 : ((a : Int) * c - b * d).natAbs = 0 := by
      rcases Nat.eq_zero_or_pos ((a : Int) * c - b * d).natAbs with h | h
      · exact h
      · have := Nat.mul_pos h h; omega
    have h7 : a * c = b * d := by
      have : ((a * c : Nat) : Int) = ((b * d : Nat) : Int) := by simp only [Int.natCast_mul]; omega
      exact Int.ofNat_inj.1 this
    have h8 : b * d ≤ a * d := Nat.mul_le_mul_right d hb
    have h9 : a * d ≤ a * c := Nat.mul_le_mul_left a hd
    have h10 : d = c := Nat.eq_of_mul_eq_mul_left ha0 (by omega)
    subst h10
    have h11 : a = b := Nat.eq_of_mul_eq_mul_right hd0 (by omega)
    subst h11
    have h12 : a = d := sq_inj (by omega)
    exact ⟨h12, h12⟩
/-- The reference's list over a prime number. -/
def ovAt (n a : Nat) : Option (Int × Int) := if a * a + rt (n - a * a) * rt (n - a * a) = n then some ((a : Int), (rt (n - a * a) : Int)) else none
def ovs (n : Nat) : Nat → List (Int × Int)
  | 0 => []
  | k + 1 => ovs n k ++ (ovAt n (k + 1)).toList
theorem ovAt_of {n a b : Nat} (h : a * a + b * b = n) : ovAt n a = some ((a : Int), (b : Int)) := by
  have h1 : n - a * a = b * b := by omega
  unfold ovAt
  rw [h1, rt_sq, if_pos h]
theorem ovAt_get {n a : Nat} {q : Int × Int} (h : ovAt n a = some q) : ∃ b : Nat, q = ((a : Int), (b : Int)) ∧ a * a + b * b = n := by
  unfold ovAt at h
  split at h
  · rename_i hc
    injection h with h
    exact ⟨_, h.symm, hc⟩
  · cases h
theorem over3 {p : Nat} (h3 : p % 4 = 3) : sqAll p = [] := by
  have key : ∀ k, sqs p k = [] := by
    intro k
    induction k with
    | zero => rfl
    | succ k ih =>
      cases e : sqAt p k with
      | none => rw [sqs_none e, ih]
      | some q =>
        obtain ⟨b, _, hb, _⟩ := sqAt_get e
        have h1 := sq_mod4 k
        have h2 := sq_mod4 b
        omega
  exact key _
theorem over2 : sqAll 2 = [(1, 1)] ∧ ovs 2 1 = [(1, 1)] := by decide
theorem over1 {p : Nat} (hp : IsLf p p) (h1 : p % 4 = 1) : ∃ x y : Nat, 0 < y ∧ y < x ∧ x * x + y * y = p ∧ sqAll p = [((x : Int), (y : Int))] ∧ ∀ k, p ≤ (k + 1) * (k + 1) → ovs p k = [((y : Int), (x : Int)), ((x : Int), (y : Int))] := by
  have hns := prime_nsq hp
  have hex : ∃ x y : Nat, y ≤ x ∧ x * x + y * y = p := by
    obtain ⟨a, b, h⟩ := two_sq hp h1
    rcases Nat.le_total b a with hl | hl
    · exact ⟨a, b, hl, h⟩
    · exact ⟨b, a, hl, by omega⟩
  obtain ⟨x, y, hyx, h⟩ := hex
  have hy : 0 < y := Nat.pos_of_ne_zero fun e => by subst e; exact hns x (by omega)
  have hlt : y < x := by
    rcases Nat.lt_or_ge y x with h2 | h2
    · exact h2
    · obtain rfl : x = y := by omega
      omega
  refine ⟨x, y, hy, hlt, h, ?_, ?_⟩
  · have key : ∀ k, sqs p k = if x < k then [((x : Int), (y : Int))] else [] := by
      intro k
      induction k with
      | zero => rfl
      | succ k ih =>
        cases e : sqAt p k with
        | none =>
          have hk : k ≠ x := fun hc => by rw [hc, sqAt_of h hyx] at e; cases e
          rw [sqs_none e, ih]
          split <;> split <;> first | rfl | omega
        | some q =>
          obtain ⟨b, rfl, hb, hbk⟩ := sqAt_get e
          obtain ⟨rfl, rfl⟩ := two_sq_one hp hb h hbk hyx
          rw [sqs_some e, ih, if_neg (by omega), if_pos (by omega)]; rfl
    have h2 := (rt_spec p).2
    have h3 := sq_lt (show x * x < (rt p + 1) * (rt p + 1) by omega)
    unfold sqAll
    rw [key, if_pos h3]
  · have key : ∀ k, ovs p k = (if y ≤ k then [((y : Int), (x : Int))] else []) ++ (if x ≤ k then [((x : Int), (y : Int))] else []) := by
      intro k
      induction k with
      | zero => rw [if_neg (by omega), if_neg (by omega)]; rfl
      | succ k ih =>
        rw [ovs, ih]
        cases e : ovAt p (k + 1) with
        | none =>
          have hk : k + 1 ≠ x := fun hc => by rw [hc, ovAt_of h] at e; cases e
          have hk2 : k + 1 ≠ y := fun hc => by rw [hc, ovAt_of (show y * y + x * x = p by omega)] at e; cases e
          by_cases c1 : y ≤ k <;> by_cases c2 : x ≤ k
          · rw [if_pos c1, if_pos c2, if_pos (by omega), if_pos (by omega)]; rfl
          · rw [if_pos c1, if_neg c2, if_pos (by omega), if_neg (by omega)]; rfl
          · omega
          · rw [if_neg c1, if_neg c2, if_neg (by omega), if_neg (by omega)]; rfl
        | some q =>
          obtain ⟨b, rfl, hb⟩ := ovAt_get e
          rcases Nat.le_total b (k + 1) with hl | hl
          · obtain ⟨h4, h5⟩ := two_sq_one hp hb h hl hyx
            rw [if_pos (show y ≤ k by omega), if_neg (show ¬ x ≤ k by omega), if_pos (show y ≤ k + 1 by omega), if_pos (show x ≤ k + 1 by omega), ← h4, ← h5]; rfl
          · obtain ⟨h4, h5⟩ := two_sq_one hp (show b * b + (k + 1) * (k + 1) = p by omega) h hl hyx
            rw [if_neg (show ¬ y ≤ k by omega), if_neg (show ¬ x ≤ k by omega), if_pos (show y ≤ k + 1 by omega), if_neg (show ¬ x ≤ k + 1 by omega), ← h4, ← h5]; rfl
    intro k hk
    have h3 := sq_lt (show x * x < (k + 1) * (k + 1) by have := Nat.mul_pos hy hy; omega)
    rw [key, if_pos (by omega), if_pos (by omega)]; rfl
end Go.Proofs.Ytbiiglcfdphmaaa


/- gprime.primesOver, Over. -/
namespace Go.Proofs.Ytbiiglcfdphmaaa
open Go Go.RowKit Dig
set_option linter.unusedVariables false

section
variable {w : World} {va : Value} {z : Int} {l : Nat}
set_option maxHeartbeats 4000000 in
set_option maxRecDepth 20000 in
theorem isprime_low (n : Nat) (h : n < 2) :
    Calls Try.prog 47 #[.int .u64 (n : Int)] w fun e w' => e = .returned (.bool false) ∧ Below w.heap.size w w' := by
  have h5 : ((2 : Int) ≤ (n : Int)) = False := by simp; omega
  go_enter Try.func47, Try.ntmps47
  have hs := St.nil w
  refine wp_seq_k ?_
  intro K1 hK1
  refine rg [0] ?_
  refine sq ?_
  refine .mv ?_
  apply wpSq_end
  refine hK1 _ _ ?_
  refine wp_seq_k ?_
  intro K2 hK2
  refine rg [0, 1, 2, 3, 4, 5, 6, 7, 8] ?_
  refine sq ?_
  refine .mv ?_
  refine sq ?_
  refine .r0 ?_
  refine sq ?_
  refine .mv ?_
  refine sk ?_
  refine sk ?_
  refine sk ?_
  refine sk ?_
  refine sq ?_
  refine .r0 ?_
  refine sq ?_
  refine .mv ?_
  apply wpSq_end
  refine hK2 _ _ ?_
  refine wp_ret ?_
  try dsimp only [Exit.then, Exit.inBlock]
  refine bodyPost_ret (v := (.bool false)) (by simp [results, Try.results47, go_sem]) rfl ?_
  exact ⟨rfl, hs.b⟩
set_option maxHeartbeats 4000000 in
set_option maxRecDepth 20000 in
theorem isprime_any {n p : Nat} (hp : IsLf n p) (h2 : 2 ≤ n) (hn : n < 4294967296) :
    Calls Try.prog 47 #[.int .u64 (n : Int)] w fun e w' => e = .returned (.bool (decide (p = n))) ∧ Below w.heap.size w w' := by
  have HL := hide (leastP hp h2 hn (w := w))
  have heq := int_beq p n
  have h5 : ((2 : Int) ≤ (n : Int)) = True := by simp; omega
  clear hp
  go_enter Try.func47, Try.ntmps47
  have hs := St.nil w
  refine wp_seq_k ?_
  intro K1 hK1
  refine rg [0] ?_
  refine sq ?_
  refine .mv ?_
  apply wpSq_end
  refine hK1 _ _ ?_
  refine wp_seq_k ?_
  intro K2 hK2
  refine rg [0, 1, 2, 3, 4, 5, 6, 7, 8] ?_
  refine sq ?_
  refine .mv ?_
  refine sq ?_
  refine .r0 ?_
  refine sq ?_
  refine .mv ?_
  refine sq ?_
  refine .mv ?_
  refine sq ?_
  intro K hK
  go_big_op
  go_fit (HL.out)
  rintro e w_1 ⟨rfl, e_1⟩
  (first | rw [e_1] | rw [← e_1]); clear e_1 w_1
  refine hK _ _ rfl trivial ?_
  clear hK K
  refine sq ?_
  refine .mv ?_
  refine sq ?_
  refine .r0 ?_
  refine sq ?_
  refine .r0 ?_
  refine sq ?_
  refine .mv ?_
  apply wpSq_end
  refine hK2 _ _ ?_
  refine wp_ret ?_
  try dsimp only [Exit.then, Exit.inBlock]
  refine bodyPost_ret (v := (.bool (decide (p = n)))) (by simp [results, Try.results47, go_sem]) rfl ?_
  exact ⟨rfl, hs.b⟩
/-- What a list of these numbers is, told by a call. -/
def TG (K : Nat) (a : Array Value) (w : World) (ps : List (Int × Int)) : Prop :=
  Calls Try.prog K a w fun e w' => ∃ o c xs, e = .returned (.slice o ps.length c) ∧ Lst w' w.heap.size 29 4 (.slice o ps.length c) ps.length xs ∧ GD w' xs ps ∧ Below w.heap.size w w'
theorem squares_is {n : Nat} {ps : List (Int × Int)} (hn : n < 4294967296) (h : sqAll n = ps) : TG 49 #[.int .u64 (n : Int)] w ps := by
  have := squares_any (w := w) n hn
  rw [h] at this; exact this
set_option maxHeartbeats 4000000 in
set_option maxRecDepth 20000 in
theorem pover_0 (p : Nat) (hp : p < 65536) (h : sqAll p = []) : TG 39 #[.int .u64 (p : Int)] w [((p : Int), 0)] := by
  have HS := hide (fun w => squares_is (w := w) (by omega) h)
  clear h
  unfold TG at *
  go_enter Try.func39, Try.ntmps39
  have hs := St.nil w
  refine wp_seq_k ?_
  intro K1 hK1
  refine rg [0] ?_
  refine sq ?_
  refine .mv ?_
  apply wpSq_end
  refine hK1 _ _ ?_
  refine wp_seq_k ?_
  intro K2 hK2
  refine rg [0, 1, 2] ?_
  refine sq ?_
  refine .mv ?_
  refine sq ?_
  intro K hK
  go_big_op
  go_fit (HS.out _)
  rintro e w_1 ⟨o_L, c_L, xs_L, rfl, L_L, d_L, hb_1⟩
  replace hs := hs.la hb_1 L_L
  refine hK _ _ rfl trivial ?_
  clear hK K
  refine sq ?_
  refine .mv ?_
  apply wpSq_end
  refine hK2 _ _ ?_
  refine wp_seq_k ?_
  intro K3 hK3
  refine wp_seq_k ?_
  intro K4 hK4
  refine rg [0, 1, 2] ?_
  refine sq ?_
  refine .mv ?_
  refine sq ?_
  refine .r0 ?_
  refine sq ?_
  refine .r0 ?_
  apply wpSq_end
  refine hK4 _ _ ?_
  refine ct ?_
  refine wp_seq_k ?_
  intro K5 hK5
  refine rg [0, 1, 2, 3, 4] ?_
  refine sq ?_
  refine .mv ?_
  refine sq ?_
  refine .r0 ?_
  refine sq ?_
  intro K hK
  go_big_op
  go_fit (gFrom_any (p : Int) 0 _ (by omega) (by omega) (by decide) (by decide))
  rintro e w_2 ⟨_, rfl, ⟨n_ea, o_ea, k_ea, c_ea, n_eb, o_eb, k_eb, c_eb, rfl, e1, e2⟩, hb_2⟩
  replace hs := hs.bl hb_2
  refine hK _ _ rfl trivial ?_
  clear hK K
  refine sq ?_
  refine .al hs ?_; clear hs; intro p_b1 w_3 hs n3 kb_b1
  refine sq ?_
  refine .mv ?_
  apply wpSq_end
  refine hK5 _ _ ?_
  refine wp_ret ?_
  try dsimp only [Exit.then, Exit.inBlock]
  refine bodyPost_ret (v := (.slice (some ⟨p_b1, 0, none⟩) 1 1)) (by simp [results, Try.results39, go_sem]) rfl ?_
  have k2_3 := kb n3
  replace e1 := e1.k k2_3
  replace e2 := e2.k k2_3
  exact ⟨_, _, _, rfl, .ofBs hs.g0 kb_b1, GD.snoc (GD.nil _) (.mk' e1 e2), hs.b⟩
set_option maxHeartbeats 4000000 in
set_option maxRecDepth 20000 in
theorem pover_2 : TG 39 #[.int .u64 2] w [(1, 1)] := by
  have HS := hide (fun w => squares_is (w := w) (n := 2) (by decide) over2.1)
  have L1 := hide (zlen_small6 (z := 1) (by decide))
  have HT := hide (show (turn ((1 : Int) % 4).toNat ((1 : Int), -(1 : Int))).1 = 1 ∧ (turn ((1 : Int) % 4).toNat ((1 : Int), -(1 : Int))).2 = 1 from by decide)
  unfold TG at *
  go_enter Try.func39, Try.ntmps39
  have hs := St.nil w
  refine wp_seq_k ?_
  intro K1 hK1
  refine rg [0] ?_
  refine sq ?_
  refine .mv ?_
  apply wpSq_end
  refine hK1 _ _ ?_
  refine wp_seq_k ?_
  intro K2 hK2
  refine rg [0, 1, 2] ?_
  refine sq ?_
  refine .mv ?_
  refine sq ?_
  intro K hK
  go_big_op
  go_fit (HS.out _)
  rintro e w_1 ⟨o_L, c_L, xs_L, rfl, L_L, d_L, hb_1⟩
  replace hs := hs.la hb_1 L_L
  refine hK _ _ rfl trivial ?_
  clear hK K
  refine sq ?_
  refine .mv ?_
  apply wpSq_end
  refine hK2 _ _ ?_
  refine wp_seq_k ?_
  intro K3 hK3
  refine wp_seq_k ?_
  intro K4 hK4
  refine rg [0, 1, 2] ?_
  refine sq ?_
  refine .mv ?_
  refine sq ?_
  refine .r0 ?_
  refine sq ?_
  refine .r0 ?_
  apply wpSq_end
  refine hK4 _ _ ?_
  obtain ⟨n1, o1, k1, q1, n2, o2, k2, q2, rfl, z1, z2⟩ := d_L.one
  obtain ⟨gl, curl, rfl, xl, hcur⟩ := (hs.1.1.1).box Nat.zero_lt_one
  have e1 := hide (hcur 0 _ rfl); have e2 := hide (hcur 1 _ rfl); have e3 := hide (hcur 2 _ rfl); have e4 := hide (hcur 3 _ rfl)
  clear hcur
  have Lz1 := L1
  have Lz2 := L1
  refine cf ?_
  refine wp_skip ?_
  refine hK3 _ _ ?_
  refine wp_seq_k ?_
  intro K5 hK5
  refine rg [0, 1, 2, 3, 4] ?_
  refine sq ?_
  refine .mv ?_
  refine sq ?_
  refine .r0 ?_
  refine sq ?_
  refine .r4 ⟨xl.cell _ e1.out, xl.cell _ e2.out, xl.cell _ e3.out, xl.cell _ e4.out⟩ ?_
  refine sq ?_
  refine .al hs ?_; clear hs; intro p_b1 w_2 hs n2 kb_b1
  replace xl := xl.bl n2
  refine sq ?_
  refine .s4 hs.g0 (fun _ => hs.u0 kb_b1) ?_; clear hs; intro w_3 hs hd3 ho3
  replace xl := xl.frame ho3 (hs.ne 1 0)
  apply wpSq_end
  refine hK5 _ _ ?_
  refine wp_seq_k ?_
  intro K6 hK6
  refine rg [0, 1, 2, 3, 4] ?_
  refine sq ?_
  refine .r4 hs.g0.f4 ?_
  refine sq ?_
  intro K hK
  have k1_3 := (kb n2).o hd3 ho3
  replace z1 := z1.k k1_3
  replace z2 := z2.k k1_3
  go_big_op
  go_fit (gConj_any (PN.mk' (z1.zn Lz1.out) (z2.zn Lz2.out)) (by omega) (by omega) )
  rintro e w_4 ⟨_, rfl, ⟨n_ga, o_ga, k_ga, c_ga, n_gb, o_gb, k_gb, c_gb, rfl, g1, g2⟩, hb_4⟩
  replace xl := xl.bl hb_4; replace hs := hs.bl hb_4
  have Lg1 := hide (g1.lenOf ((Lz1.out)))
  have Lg2 := hide (g2.lenOf (zlen_neg (Lz2.out)))
  refine hK _ _ rfl trivial ?_
  clear hK K
  refine sq ?_
  intro K hK
  go_big_op
  go_fit (gTurn_any 1 (.mk' (g1.zn Lg1.out) (g2.zn Lg2.out)) (by omega) (by omega))
  rintro e w_5 ⟨_, rfl, ⟨n_ta, o_ta, k_ta, c_ta, n_tb, o_tb, k_tb, c_tb, rfl, t1, t2⟩, hb_5⟩
  replace xl := xl.bl hb_5; replace hs := hs.bl hb_5
  rw [HT.out.1] at t1
  rw [HT.out.2] at t2
  refine hK _ _ rfl trivial ?_
  clear hK K
  refine sq ?_
  refine .al hs ?_; clear hs; intro p_b2 w_6 hs n6 kb_b2
  replace xl := xl.bl n6
  refine sq ?_
  refine .s4 hs.g0 (fun _ => hs.u0 kb_b2) ?_; clear hs; intro w_7 hs hd7 ho7
  replace xl := xl.frame ho7 (hs.ne 2 0)
  apply wpSq_end
  refine hK6 _ _ ?_
  refine wp_seq_k ?_
  intro K7 hK7
  refine wp_seq_k ?_
  intro K8 hK8
  refine rg [0, 1, 2] ?_
  refine sq ?_
  refine .r4 hs.g1.f4 ?_
  refine sq ?_
  refine .r4 hs.g0.f4 ?_
  have Lt1 := hide (t1.lenOf (L1.out))
  have Lt2 := hide (t2.lenOf (L1.out))
  refine sq ?_
  intro K hK
  have k3_7 := (((kb hb_4).b hb_5).b n6).o hd7 ho7
  replace z1 := z1.k k3_7
  replace z2 := z2.k k3_7
  have k5_7 := (kb n6).o hd7 ho7
  replace t1 := t1.k k5_7
  replace t2 := t2.k k5_7
  go_big_op
  go_fit (gEqual_any (.mk' (z1.zn Lz1.out) (z2.zn Lz2.out)) (.mk' (t1.zn Lt1.out) (t2.zn Lt2.out)) (by omega) (by omega) (by omega) (by omega))
  rintro e w_8 ⟨rfl, hb_8⟩
  replace xl := xl.bl hb_8; replace hs := hs.bl hb_8
  refine hK _ _ rfl trivial ?_
  clear hK K
  apply wpSq_end
  refine hK8 _ _ ?_
  refine ct ?_
  refine wp_seq_k ?_
  intro K9 hK9
  refine rg [0, 1] ?_
  refine sq ?_
  refine .mv ?_
  refine sq ?_
  refine .mv ?_
  apply wpSq_end
  refine hK9 _ _ ?_
  refine wp_ret ?_
  try dsimp only [Exit.then, Exit.inBlock]
  refine bodyPost_ret (v := (.slice (some ⟨gl, 0, none⟩) 1 c_L)) (by simp [results, Try.results39, go_sem]) rfl ?_
  have k1_8 := ((((k1_3.b hb_4).b hb_5).b n6).o hd7 ho7).b hb_8
  replace d_L := d_L.k k1_8
  exact ⟨_, _, _, rfl, hs.1.2.2.1.1, d_L, hs.b⟩
set_option maxHeartbeats 4000000 in
set_option maxRecDepth 20000 in
theorem pover_1 {p x y : Nat} (hp : p < 65536) (hxy : y < x) (hx : x * x + y * y = p) (h : sqAll p = [((x : Int), (y : Int))]) : TG 39 #[.int .u64 (p : Int)] w [((y : Int), (x : Int)), ((x : Int), (y : Int))] := by
  have HS := hide (fun w => squares_is (w := w) (by omega) h)
  have hx256 : x < 256 := sq_lt (by omega)
  have L1 := hide (zlen_small6 (z := (x : Int)) (by omega))
  have L2 := hide (zlen_small6 (z := (y : Int)) (by omega))
  have HT := hide (show (turn ((1 : Int) % 4).toNat ((x : Int), -(y : Int))).1 = (y : Int) ∧ (turn ((1 : Int) % 4).toNat ((x : Int), -(y : Int))).2 = (x : Int) from ⟨by show -(-(y : Int)) = _; omega, rfl⟩)
  have HE := hide (decide_eq_false (p := (x : Int) = (y : Int) ∧ (y : Int) = (x : Int)) (fun hc => by omega))
  clear h hx
  unfold TG at *
  go_enter Try.func39, Try.ntmps39
  have hs := St.nil w
  refine wp_seq_k ?_
  intro K1 hK1
  refine rg [0] ?_
  refine sq ?_
  refine .mv ?_
  apply wpSq_end
  refine hK1 _ _ ?_
  refine wp_seq_k ?_
  intro K2 hK2
  refine rg [0, 1, 2] ?_
  refine sq ?_
  refine .mv ?_
  refine sq ?_
  intro K hK
  go_big_op
  go_fit (HS.out _)
  rintro e w_1 ⟨o_L, c_L, xs_L, rfl, L_L, d_L, hb_1⟩
  replace hs := hs.la hb_1 L_L
  refine hK _ _ rfl trivial ?_
  clear hK K
  refine sq ?_
  refine .mv ?_
  apply wpSq_end
  refine hK2 _ _ ?_
  refine wp_seq_k ?_
  intro K3 hK3
  refine wp_seq_k ?_
  intro K4 hK4
  refine rg [0, 1, 2] ?_
  refine sq ?_
  refine .mv ?_
  refine sq ?_
  refine .r0 ?_
  refine sq ?_
  refine .r0 ?_
  apply wpSq_end
  refine hK4 _ _ ?_
  obtain ⟨n1, o1, k1, q1, n2, o2, k2, q2, rfl, z1, z2⟩ := d_L.one
  obtain ⟨gl, curl, rfl, xl, hcur⟩ := (hs.1.1.1).box Nat.zero_lt_one
  have e1 := hide (hcur 0 _ rfl); have e2 := hide (hcur 1 _ rfl); have e3 := hide (hcur 2 _ rfl); have e4 := hide (hcur 3 _ rfl)
  clear hcur
  have Lz1 := L1
  have Lz2 := L2
  refine cf ?_
  refine wp_skip ?_
  refine hK3 _ _ ?_
  refine wp_seq_k ?_
  intro K5 hK5
  refine rg [0, 1, 2, 3, 4] ?_
  refine sq ?_
  refine .mv ?_
  refine sq ?_
  refine .r0 ?_
  refine sq ?_
  refine .r4 ⟨xl.cell _ e1.out, xl.cell _ e2.out, xl.cell _ e3.out, xl.cell _ e4.out⟩ ?_
  refine sq ?_
  refine .al hs ?_; clear hs; intro p_b1 w_2 hs n2 kb_b1
  replace xl := xl.bl n2
  refine sq ?_
  refine .s4 hs.g0 (fun _ => hs.u0 kb_b1) ?_; clear hs; intro w_3 hs hd3 ho3
  replace xl := xl.frame ho3 (hs.ne 1 0)
  apply wpSq_end
  refine hK5 _ _ ?_
  refine wp_seq_k ?_
  intro K6 hK6
  refine rg [0, 1, 2, 3, 4] ?_
  refine sq ?_
  refine .r4 hs.g0.f4 ?_
  refine sq ?_
  intro K hK
  have k1_3 := (kb n2).o hd3 ho3
  replace z1 := z1.k k1_3
  replace z2 := z2.k k1_3
  go_big_op
  go_fit (gConj_any (PN.mk' (z1.zn Lz1.out) (z2.zn Lz2.out)) (by omega) (by omega) )
  rintro e w_4 ⟨_, rfl, ⟨n_ga, o_ga, k_ga, c_ga, n_gb, o_gb, k_gb, c_gb, rfl, g1, g2⟩, hb_4⟩
  replace xl := xl.bl hb_4; replace hs := hs.bl hb_4
  have Lg1 := hide (g1.lenOf ((Lz1.out)))
  have Lg2 := hide (g2.lenOf (zlen_neg (Lz2.out)))
  refine hK _ _ rfl trivial ?_
  clear hK K
  refine sq ?_
  intro K hK
  go_big_op
  go_fit (gTurn_any 1 (.mk' (g1.zn Lg1.out) (g2.zn Lg2.out)) (by omega) (by omega))
  rintro e w_5 ⟨_, rfl, ⟨n_ta, o_ta, k_ta, c_ta, n_tb, o_tb, k_tb, c_tb, rfl, t1, t2⟩, hb_5⟩
  replace xl := xl.bl hb_5; replace hs := hs.bl hb_5
  rw [HT.out.1] at t1
  rw [HT.out.2] at t2
  refine hK _ _ rfl trivial ?_
  clear hK K
  refine sq ?_
  refine .al hs ?_; clear hs; intro p_b2 w_6 hs n6 kb_b2
  replace xl := xl.bl n6
  refine sq ?_
  refine .s4 hs.g0 (fun _ => hs.u0 kb_b2) ?_; clear hs; intro w_7 hs hd7 ho7
  replace xl := xl.frame ho7 (hs.ne 2 0)
  apply wpSq_end
  refine hK6 _ _ ?_
  refine wp_seq_k ?_
  intro K7 hK7
  refine wp_seq_k ?_
  intro K8 hK8
  refine rg [0, 1, 2] ?_
  refine sq ?_
  refine .r4 hs.g1.f4 ?_
  refine sq ?_
  refine .r4 hs.g0.f4 ?_
  have Lt1 := hide (t1.lenOf (L2.out))
  have Lt2 := hide (t2.lenOf (L1.out))
  refine sq ?_
  intro K hK
  have k3_7 := (((kb hb_4).b hb_5).b n6).o hd7 ho7
  replace z1 := z1.k k3_7
  replace z2 := z2.k k3_7
  have k5_7 := (kb n6).o hd7 ho7
  replace t1 := t1.k k5_7
  replace t2 := t2.k k5_7
  go_big_op
  go_fit (gEqual_any (.mk' (z1.zn Lz1.out) (z2.zn Lz2.out)) (.mk' (t1.zn Lt1.out) (t2.zn Lt2.out)) (by omega) (by omega) (by omega) (by omega))
  rintro e w_8 ⟨rfl, hb_8⟩
  replace xl := xl.bl hb_8; replace hs := hs.bl hb_8
  rw [HE.out]
  refine hK _ _ rfl trivial ?_
  clear hK K
  apply wpSq_end
  refine hK8 _ _ ?_
  refine cf ?_
  refine wp_skip ?_
  refine hK7 _ _ ?_
  refine wp_seq_k ?_
  intro K9 hK9
  refine rg [0, 1, 2, 3] ?_
  refine sq ?_
  refine .r4 hs.g0.f4 ?_
  refine sq ?_
  refine .r4 hs.g1.f4 ?_
  refine sq ?_
  refine .al hs ?_; clear hs; intro p_b3 w_9 hs n9 kb_b3
  replace xl := xl.bl n9
  refine sq ?_
  refine .mv ?_
  apply wpSq_end
  refine hK9 _ _ ?_
  refine wp_ret ?_
  try dsimp only [Exit.then, Exit.inBlock]
  refine bodyPost_ret (v := (.slice (some ⟨p_b3, 0, none⟩) 2 2)) (by simp [results, Try.results39, go_sem]) rfl ?_
  have k7_9 := (kb hb_8).b n9
  replace t1 := t1.k k7_9
  replace t2 := t2.k k7_9
  replace z1 := z1.k k7_9
  replace z2 := z2.k k7_9
  exact ⟨_, _, _, rfl, .ofBs (n := 2) hs.g0 kb_b3, (⟨.mk' t1 t2, .mk' z1 z2, trivial⟩ : GD _ [_, _, _, _, _, _, _, _] [_, _]), hs.b⟩
set_option maxHeartbeats 4000000 in
set_option maxRecDepth 20000 in
theorem gover_low (ha : ZN w va z l) (hl : l ≤ 20000000) (hz : z < 0) :
    Calls Try.prog 14 #[va] w fun e w' => e = .returned (.tuple #[.slice none 0 0, .int .i64 9]) ∧ Below w.heap.size w w' := by
  have hs1 := Int.sign_eq_neg_one_of_neg hz
  obtain ⟨n_0, o_0, k_0, c_0, rfl⟩ := ha.open2
  go_enter Try.func14, Try.ntmps14
  have hs := St.nil w
  refine wp_seq_k ?_
  intro K1 hK1
  refine rg [0, 1, 2] ?_
  refine sq ?_
  refine .al hs ?_; clear hs; intro p_b1 w_1 hs n1 kb_b1
  refine sq ?_
  refine .mv ?_
  refine sq ?_
  refine .mv ?_
  apply wpSq_end
  refine hK1 _ _ ?_
  refine wp_seq_k ?_
  intro K2 hK2
  refine wp_seq_k ?_
  intro K3 hK3
  refine rg [0, 1, 2] ?_
  refine sq ?_
  refine .r2 hs.g0.f2 ?_
  refine sq ?_
  intro K hK
  have k0_1 := kb n1
  replace ha := ha.k k0_1
  go_big_op
  go_fit (zsign_any ha (by omega) )
  rintro e w_2 ⟨rfl, hb_2⟩
  replace hs := hs.bl hb_2
  rw [hs1]
  refine hK _ _ rfl trivial ?_
  clear hK K
  refine sq ?_
  refine .r0 ?_
  apply wpSq_end
  refine hK3 _ _ ?_
  refine ct ?_
  refine wp_seq_k ?_
  intro K4 hK4
  refine rg [0, 1] ?_
  refine sq ?_
  refine .mv ?_
  refine sq ?_
  refine .mv ?_
  apply wpSq_end
  refine hK4 _ _ ?_
  refine wp_ret ?_
  try dsimp only [Exit.then, Exit.inBlock]
  refine bodyPost_ret (v := (.tuple #[(.slice none 0 0), (.int .i64 9)])) (by simp [results, Try.results14, go_sem]) rfl ?_
  exact ⟨rfl, hs.b⟩
set_option maxHeartbeats 4000000 in
set_option maxRecDepth 20000 in
theorem gover_high (ha : ZN w va z l) (hl : l ≤ 20000000) (hz : 65536 ≤ z) :
    Calls Try.prog 14 #[va] w fun e w' => e = .returned (.tuple #[.slice none 0 0, .int .i64 12]) ∧ Below w.heap.size w w' := by
  have hs1 : z.sign = 1 := Int.sign_eq_one_of_pos (by omega)
  have hbN : ¬ bitsN z.natAbs ≤ 16 := fun hc => by have := bits_16.1 hc; omega
  obtain ⟨n_0, o_0, k_0, c_0, rfl⟩ := ha.open2
  go_enter Try.func14, Try.ntmps14
  have hs := St.nil w
  refine wp_seq_k ?_
  intro K1 hK1
  refine rg [0, 1, 2] ?_
  refine sq ?_
  refine .al hs ?_; clear hs; intro p_b1 w_1 hs n1 kb_b1
  refine sq ?_
  refine .mv ?_
  refine sq ?_
  refine .mv ?_
  apply wpSq_end
  refine hK1 _ _ ?_
  refine wp_seq_k ?_
  intro K2 hK2
  refine wp_seq_k ?_
  intro K3 hK3
  refine rg [0, 1, 2] ?_
  refine sq ?_
  refine .r2 hs.g0.f2 ?_
  refine sq ?_
  intro K hK
  have k0_1 := kb n1
  replace ha := ha.k k0_1
  go_big_op
  go_fit (zsign_any ha (by omega) )
  rintro e w_2 ⟨rfl, hb_2⟩
  replace hs := hs.bl hb_2
  rw [hs1]
  refine hK _ _ rfl trivial ?_
  clear hK K
  refine sq ?_
  refine .r0 ?_
  apply wpSq_end
  refine hK3 _ _ ?_
  refine cf ?_
  refine wp_skip ?_
  refine hK2 _ _ ?_
  refine wp_seq_k ?_
  intro K4 hK4
  refine wp_seq_k ?_
  intro K5 hK5
  refine rg [0, 1, 2] ?_
  refine sq ?_
  refine .r2 hs.g0.f2 ?_
  refine sq ?_
  intro K hK
  have k1_2 := kb hb_2
  replace ha := ha.k k1_2
  go_big_op
  go_fit (zbits_any ha (by omega) )
  rintro e w_3 ⟨rfl, hb_3⟩
  replace hs := hs.bl hb_3
  refine hK _ _ rfl trivial ?_
  clear hK K
  refine sq ?_
  refine .r0 ?_
  apply wpSq_end
  refine hK5 _ _ ?_
  refine ct ?_
  refine wp_seq_k ?_
  intro K6 hK6
  refine rg [0, 1] ?_
  refine sq ?_
  refine .mv ?_
  refine sq ?_
  refine .mv ?_
  apply wpSq_end
  refine hK6 _ _ ?_
  refine wp_ret ?_
  try dsimp only [Exit.then, Exit.inBlock]
  refine bodyPost_ret (v := (.tuple #[(.slice none 0 0), (.int .i64 12)])) (by simp [results, Try.results14, go_sem]) rfl ?_
  exact ⟨rfl, hs.b⟩
set_option maxHeartbeats 4000000 in
set_option maxRecDepth 20000 in
theorem gover_no (N : Nat) (ha : ZN w va (N : Int) l) (hl : l ≤ 20000000) (hN : N < 65536) (hp : ¬ IsLf N N) :
    Calls Try.prog 14 #[va] w fun e w' => e = .returned (.tuple #[.slice none 0 0, .int .i64 9]) ∧ Below w.heap.size w w' := by
  have hs1 : ¬ ((N : Int).sign < 0) := by have := Int.sign_nonneg_iff.2 (show (0 : Int) ≤ (N : Int) by omega); omega
  have hbN := bits_16.2 hN
  have HP : Hid (∀ w, Calls Try.prog 47 #[.int .u64 (N : Int)] w fun e w' => e = .returned (.bool false) ∧ Below w.heap.size w w') := hide fun w => by
    rcases Nat.lt_or_ge N 2 with h | h
    · exact isprime_low N h
    · obtain ⟨q, hq⟩ := lf_ex h
      have := isprime_any (w := w) hq h (by omega)
      rwa [decide_eq_false (fun hc => hp (by rw [hc] at hq; exact hq))] at this
  clear hp
  obtain ⟨n_0, o_0, k_0, c_0, rfl⟩ := ha.open2
  go_enter Try.func14, Try.ntmps14
  have hs := St.nil w
  refine wp_seq_k ?_
  intro K1 hK1
  refine rg [0, 1, 2] ?_
  refine sq ?_
  refine .al hs ?_; clear hs; intro p_b1 w_1 hs n1 kb_b1
  refine sq ?_
  refine .mv ?_
  refine sq ?_
  refine .mv ?_
  apply wpSq_end
  refine hK1 _ _ ?_
  refine wp_seq_k ?_
  intro K2 hK2
  refine wp_seq_k ?_
  intro K3 hK3
  refine rg [0, 1, 2] ?_
  refine sq ?_
  refine .r2 hs.g0.f2 ?_
  refine sq ?_
  intro K hK
  have k0_1 := kb n1
  replace ha := ha.k k0_1
  go_big_op
  go_fit (zsign_any ha (by omega) )
  rintro e w_2 ⟨rfl, hb_2⟩
  replace hs := hs.bl hb_2
  refine hK _ _ rfl trivial ?_
  clear hK K
  refine sq ?_
  refine .r0 ?_
  apply wpSq_end
  refine hK3 _ _ ?_
  refine cf ?_
  refine wp_skip ?_
  refine hK2 _ _ ?_
  refine wp_seq_k ?_
  intro K4 hK4
  refine wp_seq_k ?_
  intro K5 hK5
  refine rg [0, 1, 2] ?_
  refine sq ?_
  refine .r2 hs.g0.f2 ?_
  refine sq ?_
  intro K hK
  have k1_2 := kb hb_2
  replace ha := ha.k k1_2
  go_big_op
  go_fit (zbits_any ha (by omega) )
  rintro e w_3 ⟨rfl, hb_3⟩
  replace hs := hs.bl hb_3
  rw [Int.natAbs_natCast]
  refine hK _ _ rfl trivial ?_
  clear hK K
  refine sq ?_
  refine .r0 ?_
  apply wpSq_end
  refine hK5 _ _ ?_
  refine cf ?_
  refine wp_skip ?_
  refine hK4 _ _ ?_
  refine wp_seq_k ?_
  intro K6 hK6
  refine rg [0, 1, 2] ?_
  refine sq ?_
  refine .r2 hs.g0.f2 ?_
  refine sq ?_
  intro K hK
  have k2_3 := kb hb_3
  replace ha := ha.k k2_3
  go_big_op
  go_fit (psmall_any N ha (by omega) (by omega))
  rintro e w_4 ⟨rfl, hb_4⟩
  replace hs := hs.bl hb_4
  refine hK _ _ rfl trivial ?_
  clear hK K
  refine sq ?_
  refine .mv ?_
  apply wpSq_end
  refine hK6 _ _ ?_
  refine wp_seq_k ?_
  intro K7 hK7
  refine wp_seq_k ?_
  intro K8 hK8
  refine rg [0, 1, 2] ?_
  refine sq ?_
  refine .mv ?_
  refine sq ?_
  intro K hK
  go_big_op
  go_fit (HP.out _)
  rintro e w_5 ⟨rfl, hb_5⟩
  replace hs := hs.bl hb_5
  refine hK _ _ rfl trivial ?_
  clear hK K
  refine sq ?_
  refine .r0 ?_
  apply wpSq_end
  refine hK8 _ _ ?_
  refine ct ?_
  refine wp_seq_k ?_
  intro K9 hK9
  refine rg [0, 1] ?_
  refine sq ?_
  refine .mv ?_
  refine sq ?_
  refine .mv ?_
  apply wpSq_end
  refine hK9 _ _ ?_
  refine wp_ret ?_
  try dsimp only [Exit.then, Exit.inBlock]
  refine bodyPost_ret (v := (.tuple #[(.slice none 0 0), (.int .i64 9)])) (by simp [results, Try.results14, go_sem]) rfl ?_
  exact ⟨rfl, hs.b⟩
set_option maxHeartbeats 4000000 in
set_option maxRecDepth 20000 in
theorem gover_any {ps : List (Int × Int)} (N : Nat) (ha : ZN w va (N : Int) l) (hl : l ≤ 20000000) (hN : N < 65536) (hp : IsLf N N) (hT : ∀ w, TG 39 #[.int .u64 (N : Int)] w ps) :
    Calls Try.prog 14 #[va] w fun e w' => ∃ o c xs, e = .returned (.tuple #[.slice o ps.length c, .int .i64 0]) ∧ Lst w' w.heap.size 29 4 (.slice o ps.length c) ps.length xs ∧ GD w' xs ps ∧ Below w.heap.size w w' := by
  have hs1 : ¬ ((N : Int).sign < 0) := by have := Int.sign_nonneg_iff.2 (show (0 : Int) ≤ (N : Int) by omega); omega
  have hbN := bits_16.2 hN
  have HP := hide (fun w => isprime_any (w := w) hp hp.2.1 (by omega))
  rw [decide_eq_true rfl] at HP
  have HT := hide hT
  unfold TG at HT
  clear hp hT
  obtain ⟨n_0, o_0, k_0, c_0, rfl⟩ := ha.open2
  go_enter Try.func14, Try.ntmps14
  have hs := St.nil w
  refine wp_seq_k ?_
  intro K1 hK1
  refine rg [0, 1, 2] ?_
  refine sq ?_
  refine .al hs ?_; clear hs; intro p_b1 w_1 hs n1 kb_b1
  refine sq ?_
  refine .mv ?_
  refine sq ?_
  refine .mv ?_
  apply wpSq_end
  refine hK1 _ _ ?_
  refine wp_seq_k ?_
  intro K2 hK2
  refine wp_seq_k ?_
  intro K3 hK3
  refine rg [0, 1, 2] ?_
  refine sq ?_
  refine .r2 hs.g0.f2 ?_
  refine sq ?_
  intro K hK
  have k0_1 := kb n1
  replace ha := ha.k k0_1
  go_big_op
  go_fit (zsign_any ha (by omega) )
  rintro e w_2 ⟨rfl, hb_2⟩
  replace hs := hs.bl hb_2
  refine hK _ _ rfl trivial ?_
  clear hK K
  refine sq ?_
  refine .r0 ?_
  apply wpSq_end
  refine hK3 _ _ ?_
  refine cf ?_
  refine wp_skip ?_
  refine hK2 _ _ ?_
  refine wp_seq_k ?_
  intro K4 hK4
  refine wp_seq_k ?_
  intro K5 hK5
  refine rg [0, 1, 2] ?_
  refine sq ?_
  refine .r2 hs.g0.f2 ?_
  refine sq ?_
  intro K hK
  have k1_2 := kb hb_2
  replace ha := ha.k k1_2
  go_big_op
  go_fit (zbits_any ha (by omega) )
  rintro e w_3 ⟨rfl, hb_3⟩
  replace hs := hs.bl hb_3
  rw [Int.natAbs_natCast]
  refine hK _ _ rfl trivial ?_
  clear hK K
  refine sq ?_
  refine .r0 ?_
  apply wpSq_end
  refine hK5 _ _ ?_
  refine cf ?_
  refine wp_skip ?_
  refine hK4 _ _ ?_
  refine wp_seq_k ?_
  intro K6 hK6
  refine rg [0, 1, 2] ?_
  refine sq ?_
  refine .r2 hs.g0.f2 ?_
  refine sq ?_
  intro K hK
  have k2_3 := kb hb_3
  replace ha := ha.k k2_3
  go_big_op
  go_fit (psmall_any N ha (by omega) (by omega))
  rintro e w_4 ⟨rfl, hb_4⟩
  replace hs := hs.bl hb_4
  refine hK _ _ rfl trivial ?_
  clear hK K
  refine sq ?_
  refine .mv ?_
  apply wpSq_end
  refine hK6 _ _ ?_
  refine wp_seq_k ?_
  intro K7 hK7
  refine wp_seq_k ?_
  intro K8 hK8
  refine rg [0, 1, 2] ?_
  refine sq ?_
  refine .mv ?_
  refine sq ?_
  intro K hK
  go_big_op
  go_fit (HP.out _)
  rintro e w_5 ⟨rfl, hb_5⟩
  replace hs := hs.bl hb_5
  refine hK _ _ rfl trivial ?_
  clear hK K
  refine sq ?_
  refine .r0 ?_
  apply wpSq_end
  refine hK8 _ _ ?_
  refine cf ?_
  refine wp_skip ?_
  refine hK7 _ _ ?_
  refine wp_seq_k ?_
  intro K9 hK9
  refine rg [0, 1, 2, 3] ?_
  refine sq ?_
  refine .mv ?_
  refine sq ?_
  intro K hK
  go_big_op
  go_fit (HT.out _)
  rintro e w_6 ⟨o_L, c_L, xs_L, rfl, L_L, d_L, hb_6⟩
  replace hs := hs.la hb_6 L_L
  refine hK _ _ rfl trivial ?_
  clear hK K
  refine sq ?_
  refine .mv ?_
  refine sq ?_
  refine .mv ?_
  apply wpSq_end
  refine hK9 _ _ ?_
  refine wp_ret ?_
  try dsimp only [Exit.then, Exit.inBlock]
  refine bodyPost_ret (v := (.tuple #[(.slice o_L ps.length c_L), (.int .i64 0)])) (by simp [results, Try.results14, go_sem]) rfl ?_
  exact ⟨_, _, _, rfl, hs.1.1.1, d_L, hs.b⟩
end
end Go.Proofs.Ytbiiglcfdphmaaa


/- Lists of Gaussian integers that are read; the reference's order of them: what Sorted tells. -/
namespace Go.Proofs.Ytbiiglcfdphmaaa
open Go Go.RowKit Dig
set_option linter.unusedVariables false

/-- These numbers, canonical, one behind the other, can be read from here. -/
def SG (w : World) (o : Option Addr) (ps : List (Int × Int)) : Prop :=
  ps = [] ∨ ∃ g off cur, o = some ⟨g, off, none⟩ ∧ Bs w g cur 29 ∧ GD w ((cur.toList.drop off).take (ps.length * 4)) ps
theorem SG.bl {w w' : World} {o : Option Addr} {ps : List (Int × Int)} (h : SG w o ps) (hb : Below w.heap.size w w') : SG w' o ps := by
  rcases h with h | ⟨g, off, cur, rfl, x, d⟩
  · exact .inl h
  · exact .inr ⟨g, off, cur, rfl, x.bl hb, d.k (kb hb)⟩
theorem SG.of {w : World} {B n c : Nat} {o : Option Addr} {xs : List Value} {ps : List (Int × Int)} (L : Lst w B 29 4 (.slice o n c) n xs) (d : GD w xs ps) : n = ps.length ∧ n ≤ c ∧ SG w o ps := by
  have h1 := d.len
  have h2 := L.1.1
  have hn : n = ps.length := by omega
  rcases L.1.2 with ⟨e, h0⟩ | ⟨g, cap, cur, e, hb, hg, hnc, hcm, hcs, htake⟩
  · refine ⟨hn, by omega, .inl (List.eq_nil_of_length_eq_zero (by omega))⟩
  · simp only [Value.slice.injEq] at e
    obtain ⟨rfl, _, rfl⟩ := e
    refine ⟨hn, hnc, .inr ⟨g, 0, cur, rfl, hg, ?_⟩⟩
    rw [List.drop_zero, ← hn, htake]; exact d
theorem GD.take {w : World} : ∀ {xs : List Value} {ps : List (Int × Int)} (k : Nat), GD w xs ps → GD w (xs.take (k * 4)) (ps.take k)
  | [], [], k, _ => by simp; exact trivial
  | _ :: _ :: _ :: _ :: _, _ :: _, 0, _ => by simp; exact trivial
  | c1 :: c2 :: c3 :: c4 :: xs, p :: ps, k + 1, h => by
    rw [show (k + 1) * 4 = k * 4 + 1 + 1 + 1 + 1 by omega]
    exact ⟨h.1, GD.take k h.2⟩
theorem GD.drop {w : World} : ∀ {xs : List Value} {ps : List (Int × Int)} (k : Nat), GD w xs ps → GD w (xs.drop (k * 4)) (ps.drop k)
  | [], [], k, _ => by simp; exact trivial
  | _ :: _ :: _ :: _ :: _, _ :: _, 0, h => by simpa using h
  | c1 :: c2 :: c3 :: c4 :: xs, p :: ps, k + 1, h => by
    rw [show (k + 1) * 4 = k * 4 + 1 + 1 + 1 + 1 by omega]
    exact GD.drop k h.2
theorem SG.left {w : World} {o : Option Addr} {ps : List (Int × Int)} (h : SG w o ps) (k : Nat) (hk : k ≤ ps.length) : SG w o (ps.take k) := by
  rcases h with rfl | ⟨g, off, cur, rfl, x, d⟩
  · exact .inl (by simp)
  · refine .inr ⟨g, off, cur, rfl, x, ?_⟩
    have := d.take k
    rw [List.take_take, Nat.min_eq_left (by omega)] at this
    rw [List.length_take, Nat.min_eq_left hk]
    exact this
theorem SG.right {w : World} {g off : Nat} {ps : List (Int × Int)} (h : SG w (some ⟨g, off, none⟩) ps) (k : Nat) (hk : k < ps.length) : SG w (some ⟨g, off + k * 4, none⟩) (ps.drop k) := by
  rcases h with rfl | ⟨g, off, cur, e, x, d⟩
  · simp at hk
  · simp only [Option.some.injEq, Addr.mk.injEq, and_true] at e
    obtain ⟨rfl, rfl⟩ := e
    refine .inr ⟨_, _, cur, rfl, x, ?_⟩
    have := d.drop k
    rw [List.drop_take, List.drop_drop] at this
    rw [List.length_drop, Nat.sub_mul]
    exact this
/-- What the reference's Sorted makes of two lists, and of one. -/
def gle (a b : Int × Int) : Prop := gcmp a.1 a.2 b.1 b.2 ≤ 0
instance (a b : Int × Int) : Decidable (gle a b) := inferInstanceAs (Decidable (_ ≤ _))
def mrg : List (Int × Int) → List (Int × Int) → List (Int × Int)
  | [], vs => vs
  | a :: us, [] => a :: us
  | a :: us, b :: vs => if gle a b then a :: mrg us (b :: vs) else b :: mrg (a :: us) vs
theorem mrg_nil (us : List (Int × Int)) : mrg us [] = us := by cases us <;> rw [mrg]
theorem mrg_len : ∀ us vs : List (Int × Int), (mrg us vs).length = us.length + vs.length
  | [], vs => by rw [mrg]; simp
  | a :: us, [] => by rw [mrg]; simp
  | a :: us, b :: vs => by
    rw [mrg]
    split
    · rw [List.length_cons, mrg_len us (b :: vs)]; simp only [List.length_cons]; omega
    · rw [List.length_cons, mrg_len (a :: us) vs]; simp only [List.length_cons]; omega
def srt : Nat → List (Int × Int) → List (Int × Int)
  | 0, l => l
  | n + 1, l => if l.length < 2 then l else mrg (srt n (l.take (l.length / 2))) (srt n (l.drop (l.length / 2)))
theorem srt_len : ∀ (n : Nat) (l : List (Int × Int)), (srt n l).length = l.length
  | 0, l => rfl
  | n + 1, l => by
    rw [srt]
    split
    · rfl
    · rw [mrg_len, srt_len n, srt_len n, List.length_take, List.length_drop]; omega
theorem mrg_mem {p : Int × Int} : ∀ {us vs : List (Int × Int)}, p ∈ mrg us vs → p ∈ us ∨ p ∈ vs
  | [], vs, h => .inr (by rwa [mrg] at h)
  | a :: us, [], h => .inl (by rwa [mrg] at h)
  | a :: us, b :: vs, h => by
    rw [mrg] at h
    split at h
    · rcases List.mem_cons.1 h with rfl | h
      · exact .inl (List.mem_cons_self ..)
      · rcases mrg_mem h with h | h
        · exact .inl (List.mem_cons_of_mem _ h)
        · exact .inr h
    · rcases List.mem_cons.1 h with rfl | h
      · exact .inr (List.mem_cons_self ..)
      · rcases mrg_mem h with h | h
        · exact .inl h
        · exact .inr (List.mem_cons_of_mem _ h)
theorem srt_mem {p : Int × Int} : ∀ {n : Nat} {l : List (Int × Int)}, p ∈ srt n l → p ∈ l
  | 0, l, h => h
  | n + 1, l, h => by
    rw [srt] at h
    split at h
    · exact h
    · rcases mrg_mem h with h | h
      · exact List.mem_of_mem_take (srt_mem h)
      · exact List.mem_of_mem_drop (srt_mem h)
/-- What a list that is read holds, by its block's cells. -/
theorem SG.open {w : World} {o : Option Addr} {ps : List (Int × Int)} (h : SG w o ps) (hn : 0 < ps.length) : ∃ g off cur X, o = some ⟨g, off, none⟩ ∧ Bs w g cur 29 ∧ GD w X ps ∧ ∀ (j k : Nat) (u : Value), X[j + k]? = some u → cur[off + j + k]? = some u := by
  rcases h with rfl | ⟨g, off, cur, rfl, x, d⟩
  · simp at hn
  · refine ⟨g, off, cur, _, rfl, x, d, fun j k u hj => ?_⟩
    have hlt : j + k < ps.length * 4 := by
      rcases Nat.lt_or_ge (j + k) (ps.length * 4) with h1 | h1
      · exact h1
      · rw [List.getElem?_eq_none (by rw [List.length_take]; omega)] at hj; cases hj
    rw [List.getElem?_take, if_pos hlt, List.getElem?_drop, Array.getElem?_toList] at hj
    rw [Nat.add_assoc]; exact hj
/-- One step of the merging. -/
theorem mrg_left {us vs : List (Int × Int)} {i j : Nat} (hi : i < us.length) (h : ∀ hj : j < vs.length, gle us[i] vs[j]) : mrg (us.drop i) (vs.drop j) = us[i] :: mrg (us.drop (i + 1)) (vs.drop j) := by
  rw [List.drop_eq_getElem_cons hi]
  rcases Nat.lt_or_ge j vs.length with hj | hj
  · rw [List.drop_eq_getElem_cons hj, mrg, if_pos (h hj)]
  · rw [List.drop_eq_nil_of_le hj, mrg_nil, mrg_nil]
theorem mrg_right {us vs : List (Int × Int)} {i j : Nat} (hj : j < vs.length) (h : ∀ hi : i < us.length, ¬ gle us[i] vs[j]) : mrg (us.drop i) (vs.drop j) = vs[j] :: mrg (us.drop i) (vs.drop (j + 1)) := by
  rw [List.drop_eq_getElem_cons hj]
  rcases Nat.lt_or_ge i us.length with hi | hi
  · rw [List.drop_eq_getElem_cons hi, mrg, if_neg (h hi)]
  · rw [List.drop_eq_nil_of_le hi, mrg, mrg]
end Go.Proofs.Ytbiiglcfdphmaaa


/- The reference's Sorted. -/
namespace Go.Proofs.Ytbiiglcfdphmaaa
open Go Go.RowKit Dig
set_option linter.unusedVariables false

section
set_option maxHeartbeats 4000000 in
set_option maxRecDepth 20000 in
theorem sorted_short {w : World} {o : Option Addr} {N c : Nat} (h2 : N < 2) :
    Calls Try.prog 56 #[.slice o N c] w fun e w' => e = .returned (.slice o N c) ∧ Below w.heap.size w w' := by
  go_enter Try.func56, Try.ntmps56
  have hs := St.nil w
  refine wp_seq_k ?_
  intro K1 hK1
  refine rg [0] ?_
  refine sq ?_
  refine .mv ?_
  apply wpSq_end
  refine hK1 _ _ ?_
  refine wp_seq_k ?_
  intro K2 hK2
  refine wp_seq_k ?_
  intro K3 hK3
  refine rg [0, 1, 2] ?_
  refine sq ?_
  refine .mv ?_
  refine sq ?_
  refine .r0 ?_
  refine sq ?_
  refine .r0 ?_
  apply wpSq_end
  refine hK3 _ _ ?_
  refine ct ?_
  refine wp_seq_k ?_
  intro K4 hK4
  refine rg [0, 1] ?_
  refine sq ?_
  refine .mv ?_
  refine sq ?_
  refine .mv ?_
  apply wpSq_end
  refine hK4 _ _ ?_
  refine wp_ret ?_
  try dsimp only [Exit.then, Exit.inBlock]
  refine bodyPost_ret (v := (.slice o N c)) (by simp [results, Try.results56, go_sem]) rfl ?_
  exact ⟨rfl, hs.b⟩
/-- What a call of Sorted does. -/
def Sd (f : Nat) (w : World) (o : Option Addr) (c : Nat) (ps : List (Int × Int)) : Prop :=
  Calls Try.prog 56 #[.slice o ps.length c] w fun e w' => ∃ o' c', e = .returned (.slice o' ps.length c') ∧ ps.length ≤ c' ∧ SG w' o' (srt f ps) ∧ Below w.heap.size w w'
set_option maxHeartbeats 4000000 in
set_option maxRecDepth 20000 in
theorem sorted_long {f : Nat} {w : World} {g off N c h : Nat} {ps : List (Int × Int)} (ih1 : ∀ w', Below w.heap.size w w' → Sd f w' (some ⟨g, off, none⟩) c (ps.take h)) (ih2 : ∀ w', Below w.heap.size w w' → Sd f w' (some ⟨g, off + h * 4, none⟩) (c - h) (ps.drop h))
    (hN : ps.length = N) (h2 : 2 ≤ N) (hh : N / 2 = h) (hc : N ≤ c) (hn : N ≤ 1000000) (hcc : c ≤ 9223372036854775807) (hl : ∀ p ∈ ps, (dig p.1.natAbs).length ≤ 20000000 ∧ (dig p.2.natAbs).length ≤ 20000000) :
    Calls Try.prog 56 #[.slice (some ⟨g, off, none⟩) N c] w fun e w' => ∃ o' c', e = .returned (.slice o' N c') ∧ N ≤ c' ∧ SG w' o' (srt (f + 1) ps) ∧ Below w.heap.size w w' := by
  have hq : Int.tdiv (N : Int) 2 = (h : Int) := by rw [Int.tdiv_eq_ediv_of_nonneg (by omega)]; omega
  have IH1 := hide ih1
  have IH2 := hide ih2
  have l1 : (ps.take h).length = h := by rw [List.length_take]; omega
  have l2 : (ps.drop h).length = N - h := by rw [List.length_drop]; omega
  unfold Sd at IH1 IH2
  rw [l1] at IH1
  rw [l2] at IH2
  have HS := hide (show srt (f + 1) ps = mrg (srt f (ps.take h)) (srt f (ps.drop h)) from by rw [srt, if_neg (by omega), hN, hh])
  have HL := hide (And.intro (fun p (hp : p ∈ srt f (ps.take h)) => hl p (List.mem_of_mem_take (srt_mem hp))) (fun p (hp : p ∈ srt f (ps.drop h)) => hl p (List.mem_of_mem_drop (srt_mem hp))))
  have hu := srt_len f (ps.take h)
  have hv := srt_len f (ps.drop h)
  rw [l1] at hu
  rw [l2] at hv
  have hh1 : 1 ≤ h := by omega
  have hh2 : h < N := by omega
  clear ih1 ih2 l1 l2 hl hh hN
  go_enter Try.func56, Try.ntmps56
  have hs := St.nil w
  refine wp_seq_k ?_
  intro K1 hK1
  refine rg [0] ?_
  refine sq ?_
  refine .mv ?_
  apply wpSq_end
  refine hK1 _ _ ?_
  refine wp_seq_k ?_
  intro K2 hK2
  refine wp_seq_k ?_
  intro K3 hK3
  refine rg [0, 1, 2] ?_
  refine sq ?_
  refine .mv ?_
  refine sq ?_
  refine .r0 ?_
  refine sq ?_
  refine .r0 ?_
  apply wpSq_end
  refine hK3 _ _ ?_
  refine cf ?_
  refine wp_skip ?_
  refine hK2 _ _ ?_
  refine wp_seq_k ?_
  intro K4 hK4
  refine rg [0, 1, 2, 3, 4, 5, 6] ?_
  refine sq ?_
  refine .mv ?_
  refine sq ?_
  refine .mv ?_
  refine sq ?_
  refine .r0 ?_
  refine sq ?_
  refine .r0 ?_
  refine sq ?_
  refine .r0 ?_
  refine sq ?_
  intro K hK
  go_big_op
  go_fit (IH1.out _ hs.b)
  rintro e w_1 ⟨o_a, c_a, rfl, H_a, S_a, hb_1⟩
  replace hs := hs.bl hb_1
  refine hK _ _ rfl trivial ?_
  clear hK K
  refine sq ?_
  refine .mv ?_
  apply wpSq_end
  refine hK4 _ _ ?_
  refine wp_seq_k ?_
  intro K5 hK5
  refine rg [0, 1, 2, 3, 4, 5, 6] ?_
  refine sq ?_
  refine .mv ?_
  refine sq ?_
  refine .mv ?_
  refine sq ?_
  refine .r0 ?_
  refine sq ?_
  refine .r0 ?_
  refine sq ?_
  refine .r0 ?_
  refine sq ?_
  intro K hK
  go_big_op
  go_fit (IH2.out _ hs.b)
  rintro e w_2 ⟨o_b, c_b, rfl, H_b, S_b, hb_2⟩
  replace S_a := S_a.bl hb_2; replace hs := hs.bl hb_2
  refine hK _ _ rfl trivial ?_
  clear hK K
  refine sq ?_
  refine .mv ?_
  apply wpSq_end
  refine hK5 _ _ ?_
  refine wp_seq_k ?_
  intro K6 hK6
  refine rg [0] ?_
  refine sq ?_
  refine .mv ?_
  apply wpSq_end
  refine hK6 _ _ ?_
  refine wp_seq_k ?_
  intro K7 hK7
  refine rg [0] ?_
  refine sq ?_
  refine .mv ?_
  apply wpSq_end
  refine hK7 _ _ ?_
  refine wp_seq_k ?_
  intro K8 hK8
  refine rg [0] ?_
  refine sq ?_
  refine .mv ?_
  apply wpSq_end
  refine hK8 _ _ ?_
  refine wp_seq_k ?_
  intro K9 hK9
  refine wp_block ?_
  have HB0 := hide hs.b
  clear IH1 IH2
  generalize srt f (ps.take h) = U at *
  generalize srt f (ps.drop h) = V at *
  obtain ⟨ga, offa, cura, XA, rfl, xa, da, ha⟩ := S_a.open (by omega)
  obtain ⟨gb, offb, curb, XB, rfl, xb, db, hb2⟩ := S_b.open (by omega)
  have HA := hide ha
  have HB := hide hb2
  have lta := xa.lt
  have ltb := xb.lt
  clear ha hb2
  have hd3 := hs.2.1
  go_loopg [5, 6, 7] N (fun k s5 s6 s7 wr => ∃ (i j M : Nat) (o : Option Addr) (c : Nat) (xs : List Value) (L : List (Int × Int)), s5 = .slice o M c ∧ s6 = .int .i64 (i : Int) ∧ s7 = .int .i64 (j : Int) ∧ i ≤ h ∧ j ≤ N - h ∧ i + j + k = N ∧ M = i + j ∧ Hid (mrg U V = L ++ mrg (U.drop i) (V.drop j)) ∧ GD wr xs L ∧ Bs wr ga cura 29 ∧ Bs wr gb curb 29 ∧ GD wr XA U ∧ GD wr XB V ∧ St w_2 [ls w_2.heap.size 29 4 (.slice o M c) M xs] wr)
  case atStart => exact ⟨0, 0, 0, none, 0, [], [], rfl, rfl, rfl, by omega, by omega, by omega, rfl, hide rfl, GD.nil _, xa, xb, da, db, (St.nil _).l0 _ _⟩
  case round =>
  clear S_a S_b hs
  obtain ⟨i, j, M, o, c, xs, L, rfl, rfl, rfl, hi, hj, hijk, rfl, HI, d, xa, xb, da, db, hs⟩ := hrel
  rcases Nat.lt_or_ge i h with hi2 | hi2
  · have hiu : i < U.length := by omega
    obtain ⟨n1, o1, k1, q1, n2, o2, k2, q2, e1, e2, e3, e4, z1, z2⟩ := da.at hiu
    replace e1 : Hid (cura[offa + i * 4]? = some (.bool n1)) := hide (HA.out (i * 4) 0 _ e1); replace e2 := hide (HA.out (i * 4) 1 _ e2); replace e3 := hide (HA.out (i * 4) 2 _ e3); replace e4 := hide (HA.out (i * 4) 3 _ e4)
    have Lz1 := hide (HL.out.1 _ (List.getElem_mem hiu)).1
    have Lz2 := hide (HL.out.1 _ (List.getElem_mem hiu)).2
    rcases Nat.lt_or_ge j (N - h) with hj2 | hj2
    · have hjv : j < V.length := by omega
      obtain ⟨n3, o3, k3, q3, n4, o4, k4, q4, e5, e6, e7, e8, z3, z4⟩ := db.at hjv
      replace e5 : Hid (curb[offb + j * 4]? = some (.bool n3)) := hide (HB.out (j * 4) 0 _ e5); replace e6 := hide (HB.out (j * 4) 1 _ e6); replace e7 := hide (HB.out (j * 4) 2 _ e7); replace e8 := hide (HB.out (j * 4) 3 _ e8)
      have Lz3 := hide (HL.out.2 _ (List.getElem_mem hjv)).1
      have Lz4 := hide (HL.out.2 _ (List.getElem_mem hjv)).2
      have h5 : ((i : Int) < (h : Int)) = True := by simp; omega
      have h6 : ((j : Int) == ((N - h : Nat) : Int)) = false := by rw [beq_eq_false_iff_ne]; omega
      obtain ⟨C, hC⟩ : ∃ C, gcmp U[i].1 U[i].2 V[j].1 V[j].2 = C := ⟨_, rfl⟩
      have HC := hide hC
      by_cases hg : C ≤ 0
      · have HM := hide (mrg_left (us := U) (vs := V) (i := i) (j := j) hiu (fun _ => by unfold gle; rw [hC]; exact hg))
        have HI' := hide (show mrg U V = (L ++ [U[i]]) ++ mrg (U.drop (i + 1)) (V.drop j) from by rw [HI.out, HM.out, List.append_assoc]; rfl)
        clear HI HM hC
        refine wp_seq_k ?_
        intro K10 hK10
        refine wp_seq_k ?_
        intro K11 hK11
        refine rg [0, 1, 2, 3, 4, 5, 6, 7, 8, 9] ?_
        refine sq ?_
        refine .mv ?_
        refine sq ?_
        refine .mv ?_
        refine sq ?_
        refine .r0 ?_
        refine sq ?_
        refine .r0 ?_
        refine sq ?_
        refine .mv ?_
        refine sk ?_
        refine sk ?_
        refine sk ?_
        refine sk ?_
        refine sq ?_
        refine .r0 ?_
        apply wpSq_end
        refine hK11 _ _ ?_
        refine ct ?_
        refine wp_skip ?_
        refine hK10 _ _ ?_
        refine wp_block ?_
        refine wp_seq_k ?_
        intro K12 hK12
        refine wp_region_f4 [(0, false), (1, false), (2, false), (3, false), (4, false), (5, false), (6, false), (7, false), (8, false), (9, false), (10, false), (11, false), (12, false), (13, false), (14, false), (15, false), (16, false), (17, false), (18, true), (19, false), (20, false), (21, false)] [] [] (fun _ => default) [99, 99, 99, 99, 99, 99, 99, 99, 99, 99, 99, 99, 99, 0, 99, 99, 99, 1, 99, 99, 99, 99] [] (.c xa (.c xb .n)) fn fun w_4 n4 => ?_
        replace xa := xa.bl n4; replace xb := xb.bl n4; replace hs := hs.bl n4
        refine fmv ?_
        refine fmv ?_
        refine fb ?_
        refine f0 ?_
        refine fmv ?_
        refine fmv ?_
        refine fmv ?_
        refine fb ?_
        refine f0 ?_
        refine fmv ?_
        refine fmv ?_
        refine fmv ?_
        refine f0 ?_
        apply wpFl_ld rfl rfl; (case h1 => intro w' hC K hK; have c0 := Bs.cell hC ((offa + i * 4)) e1.out; have c1 := Bs.cell hC ((offa + i * 4) + 1) e2.out; have c2 := Bs.cell hC ((offa + i * 4) + 2) e3.out; have c3 := Bs.cell hC ((offa + i * 4) + 3) e4.out; go_big_op; exact hK); iterate 4 kernel_rfl
        refine fmv ?_
        refine fmv ?_
        refine f0 ?_
        apply wpFl_ld rfl rfl; (case h1 => intro w' hC K hK; have c0 := Bs.cell hC ((offb + j * 4)) e5.out; have c1 := Bs.cell hC ((offb + j * 4) + 1) e6.out; have c2 := Bs.cell hC ((offb + j * 4) + 2) e7.out; have c3 := Bs.cell hC ((offb + j * 4) + 3) e8.out; go_big_op; exact hK); iterate 4 kernel_rfl
        refine fl fun w_5 n5 => ?_
        replace xa := xa.bl n5; replace xb := xb.bl n5; replace hs := hs.bl n5
        intro K hK
        have k0_2 := (kb n4).b n5
        replace z1 := z1.k k0_2
        replace z2 := z2.k k0_2
        replace z3 := z3.k k0_2
        replace z4 := z4.k k0_2
        go_big_op
        go_fit (rgCmp_any (PN.mk' (z1.zn Lz1.out) (z2.zn Lz2.out)) (PN.mk' (z3.zn Lz3.out) (z4.zn Lz4.out)) (by omega) (by omega) (by omega) (by omega) )
        rintro e w_6 ⟨rfl, hb_6⟩
        replace xa := xa.bl hb_6; replace xb := xb.bl hb_6; replace hs := hs.bl hb_6
        rw [HC.out]
        refine hK _ _ rfl ⟨hb_6, (And.intro xa (And.intro xb trivial))⟩ ?_
        clear hK K
        refine f0 ?_
        refine f0 ?_
        refine f0 ?_
        refine e0 hs ?_; clear hs; intro w_7 hs n7
        replace xa := xa.bl n7; replace xb := xb.bl n7
        apply wpTail_end
        refine hK12 _ _ ?_
        refine ct ?_
        refine wp_seq_k ?_
        intro K13 hK13
        refine rg [0, 1, 2, 3, 4, 5, 6, 7] ?_
        refine sq ?_
        refine .mv ?_
        refine sq ?_
        refine .mv ?_
        refine sq ?_
        refine .mv ?_
        refine sq ?_
        refine .r0 ?_
        refine sq ?_
        refine .r4 ⟨xa.cell _ e1.out, xa.cell _ e2.out, xa.cell _ e3.out, xa.cell _ e4.out⟩ ?_
        refine sq ?_
        refine .al hs ?_; clear hs; intro p_b1 w_8 hs n8 kb_b1
        replace xa := xa.bl n8; replace xb := xb.bl n8
        refine sq ?_
        have k2_5 := ((kb hb_6).b n7).b n8
        replace z1 := z1.k k2_5
        replace z2 := z2.k k2_5
        have k0_5 := ((k0_2.b hb_6).b n7).b n8
        replace d := d.k k0_5
        replace d := d.snoc (.mk' z1 z2)
        refine .ap 1 hs hs.g0 ?_; clear hs; intro o_L_9 c_L_9 w_9 hs kp9 hw9; simp only [List.set_cons_succ, List.set_cons_zero] at hs
        replace xa := xa.lo lta hw9
        replace xb := xb.lo ltb hw9
        refine sq ?_
        refine .mv ?_
        apply wpSq_end
        refine hK13 _ _ ?_
        refine rg [0, 1, 2] ?_
        refine sq ?_
        refine .mv ?_
        refine sq ?_
        refine .r0 ?_
        refine sq ?_
        refine .mv ?_
        apply wpSq_end
        have k5_6 := kp9
        replace d := d.k k5_6
        have k0_6 := k0_5.t kp9
        replace da := da.k k0_6
        replace db := db.k k0_6
        refine ‹∀ (a' : Act) (w' : World), Handed _ _ a' w' → _› _ _ ?_
        go_roundg (gk - 1)
        case rel => exact ⟨i + 1, j, i + j + 1, _, _, _, _, by rfl, by rfl, by rfl, by omega, by omega, by omega, by omega, HI', d, xa, xb, da, db, hs.sub (.cons _ (.cons_cons _ .slnil))⟩
        case measure => omega
      · have HM := hide (mrg_right (us := U) (vs := V) (i := i) (j := j) hjv (fun _ => by unfold gle; rw [hC]; exact hg))
        have HI' := hide (show mrg U V = (L ++ [V[j]]) ++ mrg (U.drop i) (V.drop (j + 1)) from by rw [HI.out, HM.out, List.append_assoc]; rfl)
        clear HI HM hC
        refine wp_seq_k ?_
        intro K10 hK10
        refine wp_seq_k ?_
        intro K11 hK11
        refine rg [0, 1, 2, 3, 4, 5, 6, 7, 8, 9] ?_
        refine sq ?_
        refine .mv ?_
        refine sq ?_
        refine .mv ?_
        refine sq ?_
        refine .r0 ?_
        refine sq ?_
        refine .r0 ?_
        refine sq ?_
        refine .mv ?_
        refine sk ?_
        refine sk ?_
        refine sk ?_
        refine sk ?_
        refine sq ?_
        refine .r0 ?_
        apply wpSq_end
        refine hK11 _ _ ?_
        refine ct ?_
        refine wp_skip ?_
        refine hK10 _ _ ?_
        refine wp_block ?_
        refine wp_seq_k ?_
        intro K12 hK12
        refine wp_region_f4 [(0, false), (1, false), (2, false), (3, false), (4, false), (5, false), (6, false), (7, false), (8, false), (9, false), (10, false), (11, false), (12, false), (13, false), (14, false), (15, false), (16, false), (17, false), (18, true), (19, false), (20, false), (21, false)] [] [] (fun _ => default) [99, 99, 99, 99, 99, 99, 99, 99, 99, 99, 99, 99, 99, 0, 99, 99, 99, 1, 99, 99, 99, 99] [] (.c xa (.c xb .n)) fn fun w_4 n4 => ?_
        replace xa := xa.bl n4; replace xb := xb.bl n4; replace hs := hs.bl n4
        refine fmv ?_
        refine fmv ?_
        refine fb ?_
        refine f0 ?_
        refine fmv ?_
        refine fmv ?_
        refine fmv ?_
        refine fb ?_
        refine f0 ?_
        refine fmv ?_
        refine fmv ?_
        refine fmv ?_
        refine f0 ?_
        apply wpFl_ld rfl rfl; (case h1 => intro w' hC K hK; have c0 := Bs.cell hC ((offa + i * 4)) e1.out; have c1 := Bs.cell hC ((offa + i * 4) + 1) e2.out; have c2 := Bs.cell hC ((offa + i * 4) + 2) e3.out; have c3 := Bs.cell hC ((offa + i * 4) + 3) e4.out; go_big_op; exact hK); iterate 4 kernel_rfl
        refine fmv ?_
        refine fmv ?_
        refine f0 ?_
        apply wpFl_ld rfl rfl; (case h1 => intro w' hC K hK; have c0 := Bs.cell hC ((offb + j * 4)) e5.out; have c1 := Bs.cell hC ((offb + j * 4) + 1) e6.out; have c2 := Bs.cell hC ((offb + j * 4) + 2) e7.out; have c3 := Bs.cell hC ((offb + j * 4) + 3) e8.out; go_big_op; exact hK); iterate 4 kernel_rfl
        refine fl fun w_5 n5 => ?_
        replace xa := xa.bl n5; replace xb := xb.bl n5; replace hs := hs.bl n5
        intro K hK
        have k0_2 := (kb n4).b n5
        replace z1 := z1.k k0_2
        replace z2 := z2.k k0_2
        replace z3 := z3.k k0_2
        replace z4 := z4.k k0_2
        go_big_op
        go_fit (rgCmp_any (PN.mk' (z1.zn Lz1.out) (z2.zn Lz2.out)) (PN.mk' (z3.zn Lz3.out) (z4.zn Lz4.out)) (by omega) (by omega) (by omega) (by omega) )
        rintro e w_6 ⟨rfl, hb_6⟩
        replace xa := xa.bl hb_6; replace xb := xb.bl hb_6; replace hs := hs.bl hb_6
        rw [HC.out]
        refine hK _ _ rfl ⟨hb_6, (And.intro xa (And.intro xb trivial))⟩ ?_
        clear hK K
        refine f0 ?_
        refine f0 ?_
        refine f0 ?_
        refine e0 hs ?_; clear hs; intro w_7 hs n7
        replace xa := xa.bl n7; replace xb := xb.bl n7
        apply wpTail_end
        refine hK12 _ _ ?_
        refine cf ?_
        refine wp_seq_k ?_
        intro K13 hK13
        refine rg [0, 1, 2, 3, 4, 5, 6, 7] ?_
        refine sq ?_
        refine .mv ?_
        refine sq ?_
        refine .mv ?_
        refine sq ?_
        refine .mv ?_
        refine sq ?_
        refine .r0 ?_
        refine sq ?_
        refine .r4 ⟨xb.cell _ e5.out, xb.cell _ e6.out, xb.cell _ e7.out, xb.cell _ e8.out⟩ ?_
        refine sq ?_
        refine .al hs ?_; clear hs; intro p_b1 w_8 hs n8 kb_b1
        replace xa := xa.bl n8; replace xb := xb.bl n8
        refine sq ?_
        have k2_5 := ((kb hb_6).b n7).b n8
        replace z3 := z3.k k2_5
        replace z4 := z4.k k2_5
        have k0_5 := ((k0_2.b hb_6).b n7).b n8
        replace d := d.k k0_5
        replace d := d.snoc (.mk' z3 z4)
        refine .ap 1 hs hs.g0 ?_; clear hs; intro o_L_9 c_L_9 w_9 hs kp9 hw9; simp only [List.set_cons_succ, List.set_cons_zero] at hs
        replace xa := xa.lo lta hw9
        replace xb := xb.lo ltb hw9
        refine sq ?_
        refine .mv ?_
        apply wpSq_end
        refine hK13 _ _ ?_
        refine rg [0, 1, 2] ?_
        refine sq ?_
        refine .mv ?_
        refine sq ?_
        refine .r0 ?_
        refine sq ?_
        refine .mv ?_
        apply wpSq_end
        have k5_6 := kp9
        replace d := d.k k5_6
        have k0_6 := k0_5.t kp9
        replace da := da.k k0_6
        replace db := db.k k0_6
        refine ‹∀ (a' : Act) (w' : World), Handed _ _ a' w' → _› _ _ ?_
        go_roundg (gk - 1)
        case rel => exact ⟨i, j + 1, i + j + 1, _, _, _, _, by rfl, by rfl, by rfl, by omega, by omega, by omega, by omega, HI', d, xa, xb, da, db, hs.sub (.cons _ (.cons_cons _ .slnil))⟩
        case measure => omega
    · have HM := hide (mrg_left (us := U) (vs := V) (i := i) (j := j) hiu (fun hc => absurd hc (by omega)))
      have HI' := hide (show mrg U V = (L ++ [U[i]]) ++ mrg (U.drop (i + 1)) (V.drop j) from by rw [HI.out, HM.out, List.append_assoc]; rfl)
      clear HI HM
      have h5 : ((i : Int) < (h : Int)) = True := by simp; omega
      have h6 : ((j : Int) == ((N - h : Nat) : Int)) = true := by simp only [beq_iff_eq]; omega
      refine wp_seq_k ?_
      intro K10 hK10
      refine wp_seq_k ?_
      intro K11 hK11
      refine rg [0, 1, 2, 3, 4, 5, 6, 7, 8, 9] ?_
      refine sq ?_
      refine .mv ?_
      refine sq ?_
      refine .mv ?_
      refine sq ?_
      refine .r0 ?_
      refine sq ?_
      refine .r0 ?_
      refine sq ?_
      refine .mv ?_
      refine sk ?_
      refine sk ?_
      refine sk ?_
      refine sk ?_
      refine sq ?_
      refine .r0 ?_
      apply wpSq_end
      refine hK11 _ _ ?_
      refine ct ?_
      refine wp_skip ?_
      refine hK10 _ _ ?_
      refine wp_block ?_
      refine wp_seq_k ?_
      intro K12 hK12
      refine wp_region_f4 [(0, false), (1, false), (2, false), (3, false), (4, false), (5, false), (6, false), (7, false), (8, false), (9, false), (10, false), (11, false), (12, false), (13, false), (14, false), (15, false), (16, false), (17, false), (18, true), (19, false), (20, false), (21, false)] [] [] (fun _ => default) [99, 99, 99, 99, 99, 99, 99, 99, 99, 99, 99, 99, 99, 0, 99, 99, 99, 1, 99, 99, 99, 99] [] (.c xa (.c xb .n)) fn fun w_4 n4 => ?_
      replace xa := xa.bl n4; replace xb := xb.bl n4; replace hs := hs.bl n4
      refine fmv ?_
      refine fmv ?_
      refine fb ?_
      refine f0 ?_
      refine fmv ?_
      refine fk ?_
      refine fk ?_
      refine fk ?_
      refine fk ?_
      refine fk ?_
      refine fk ?_
      refine fk ?_
      refine fk ?_
      refine fk ?_
      refine fk ?_
      refine fk ?_
      refine fk ?_
      refine fk ?_
      refine fkc ?_
      refine fk ?_
      refine fk ?_
      refine f0 ?_
      refine e0 hs ?_; clear hs; intro w_5 hs n5
      replace xa := xa.bl n5; replace xb := xb.bl n5
      apply wpTail_end
      refine hK12 _ _ ?_
      refine ct ?_
      refine wp_seq_k ?_
      intro K13 hK13
      refine rg [0, 1, 2, 3, 4, 5, 6, 7] ?_
      refine sq ?_
      refine .mv ?_
      refine sq ?_
      refine .mv ?_
      refine sq ?_
      refine .mv ?_
      refine sq ?_
      refine .r0 ?_
      refine sq ?_
      refine .r4 ⟨xa.cell _ e1.out, xa.cell _ e2.out, xa.cell _ e3.out, xa.cell _ e4.out⟩ ?_
      refine sq ?_
      refine .al hs ?_; clear hs; intro p_b1 w_6 hs n6 kb_b1
      replace xa := xa.bl n6; replace xb := xb.bl n6
      refine sq ?_
      have k0_3 := ((kb n4).b n5).b n6
      replace z1 := z1.k k0_3
      replace z2 := z2.k k0_3
      replace d := d.k k0_3
      replace d := d.snoc (.mk' z1 z2)
      refine .ap 1 hs hs.g0 ?_; clear hs; intro o_L_7 c_L_7 w_7 hs kp7 hw7; simp only [List.set_cons_succ, List.set_cons_zero] at hs
      replace xa := xa.lo lta hw7
      replace xb := xb.lo ltb hw7
      refine sq ?_
      refine .mv ?_
      apply wpSq_end
      refine hK13 _ _ ?_
      refine rg [0, 1, 2] ?_
      refine sq ?_
      refine .mv ?_
      refine sq ?_
      refine .r0 ?_
      refine sq ?_
      refine .mv ?_
      apply wpSq_end
      have k3_4 := kp7
      replace d := d.k k3_4
      have k0_4 := k0_3.t kp7
      replace da := da.k k0_4
      replace db := db.k k0_4
      refine ‹∀ (a' : Act) (w' : World), Handed _ _ a' w' → _› _ _ ?_
      go_roundg (gk - 1)
      case rel => exact ⟨i + 1, j, i + j + 1, _, _, _, _, by rfl, by rfl, by rfl, by omega, by omega, by omega, by omega, HI', d, xa, xb, da, db, hs.sub (.cons _ (.cons_cons _ .slnil))⟩
      case measure => omega
  · have h5 : ((i : Int) < (h : Int)) = False := by simp; omega
    rcases Nat.lt_or_ge j (N - h) with hj2 | hj2
    · have hjv : j < V.length := by omega
      obtain ⟨n3, o3, k3, q3, n4, o4, k4, q4, e5, e6, e7, e8, z3, z4⟩ := db.at hjv
      replace e5 : Hid (curb[offb + j * 4]? = some (.bool n3)) := hide (HB.out (j * 4) 0 _ e5); replace e6 := hide (HB.out (j * 4) 1 _ e6); replace e7 := hide (HB.out (j * 4) 2 _ e7); replace e8 := hide (HB.out (j * 4) 3 _ e8)
      have HM := hide (mrg_right (us := U) (vs := V) (i := i) (j := j) hjv (fun hc => absurd hc (by omega)))
      have HI' := hide (show mrg U V = (L ++ [V[j]]) ++ mrg (U.drop i) (V.drop (j + 1)) from by rw [HI.out, HM.out, List.append_assoc]; rfl)
      clear HI HM
      have h6 : ((j : Int) == ((N - h : Nat) : Int)) = false := by rw [beq_eq_false_iff_ne]; omega
      have h7 : ((j : Int) < ((N - h : Nat) : Int)) = True := by simp only [eq_iff_iff, iff_true]; omega
      refine wp_seq_k ?_
      intro K10 hK10
      refine wp_seq_k ?_
      intro K11 hK11
      refine rg [0, 1, 2, 3, 4, 5, 6, 7, 8, 9] ?_
      refine sq ?_
      refine .mv ?_
      refine sq ?_
      refine .mv ?_
      refine sq ?_
      refine .r0 ?_
      refine sq ?_
      refine .r0 ?_
      refine sq ?_
      refine .mv ?_
      refine sq ?_
      refine .mv ?_
      refine sq ?_
      refine .mv ?_
      refine sq ?_
      refine .r0 ?_
      refine sq ?_
      refine .r0 ?_
      refine sq ?_
      refine .r0 ?_
      apply wpSq_end
      refine hK11 _ _ ?_
      refine ct ?_
      refine wp_skip ?_
      refine hK10 _ _ ?_
      refine wp_block ?_
      refine wp_seq_k ?_
      intro K12 hK12
      refine wp_region_f4 [(0, false), (1, false), (2, false), (3, false), (4, false), (5, false), (6, false), (7, false), (8, false), (9, false), (10, false), (11, false), (12, false), (13, false), (14, false), (15, false), (16, false), (17, false), (18, true), (19, false), (20, false), (21, false)] [] [] (fun _ => default) [99, 99, 99, 99, 99, 99, 99, 99, 99, 99, 99, 99, 99, 0, 99, 99, 99, 1, 99, 99, 99, 99] [] (.c xa (.c xb .n)) fn fun w_4 n4 => ?_
      replace xa := xa.bl n4; replace xb := xb.bl n4; replace hs := hs.bl n4
      refine fmv ?_
      refine fmv ?_
      refine fb ?_
      refine f0 ?_
      refine fmv ?_
      refine fmv ?_
      refine fmv ?_
      refine fb ?_
      refine f0 ?_
      refine fmv ?_
      refine fk ?_
      refine fk ?_
      refine fk ?_
      refine fk ?_
      refine fk ?_
      refine fk ?_
      refine fk ?_
      refine fk ?_
      refine fkc ?_
      refine fk ?_
      refine f0 ?_
      refine f0 ?_
      refine e0 hs ?_; clear hs; intro w_5 hs n5
      replace xa := xa.bl n5; replace xb := xb.bl n5
      apply wpTail_end
      refine hK12 _ _ ?_
      refine cf ?_
      refine wp_seq_k ?_
      intro K13 hK13
      refine rg [0, 1, 2, 3, 4, 5, 6, 7] ?_
      refine sq ?_
      refine .mv ?_
      refine sq ?_
      refine .mv ?_
      refine sq ?_
      refine .mv ?_
      refine sq ?_
      refine .r0 ?_
      refine sq ?_
      refine .r4 ⟨xb.cell _ e5.out, xb.cell _ e6.out, xb.cell _ e7.out, xb.cell _ e8.out⟩ ?_
      refine sq ?_
      refine .al hs ?_; clear hs; intro p_b1 w_6 hs n6 kb_b1
      replace xa := xa.bl n6; replace xb := xb.bl n6
      refine sq ?_
      have k0_3 := ((kb n4).b n5).b n6
      replace z3 := z3.k k0_3
      replace z4 := z4.k k0_3
      replace d := d.k k0_3
      replace d := d.snoc (.mk' z3 z4)
      refine .ap 1 hs hs.g0 ?_; clear hs; intro o_L_7 c_L_7 w_7 hs kp7 hw7; simp only [List.set_cons_succ, List.set_cons_zero] at hs
      replace xa := xa.lo lta hw7
      replace xb := xb.lo ltb hw7
      refine sq ?_
      refine .mv ?_
      apply wpSq_end
      refine hK13 _ _ ?_
      refine rg [0, 1, 2] ?_
      refine sq ?_
      refine .mv ?_
      refine sq ?_
      refine .r0 ?_
      refine sq ?_
      refine .mv ?_
      apply wpSq_end
      have k3_4 := kp7
      replace d := d.k k3_4
      have k0_4 := k0_3.t kp7
      replace da := da.k k0_4
      replace db := db.k k0_4
      refine ‹∀ (a' : Act) (w' : World), Handed _ _ a' w' → _› _ _ ?_
      go_roundg (gk - 1)
      case rel => exact ⟨i, j + 1, i + j + 1, _, _, _, _, by rfl, by rfl, by rfl, by omega, by omega, by omega, by omega, HI', d, xa, xb, da, db, hs.sub (.cons _ (.cons_cons _ .slnil))⟩
      case measure => omega
    · have hi3 : i = h := by omega
      have hj3 : j = N - h := by omega
      have h7 : ((j : Int) < ((N - h : Nat) : Int)) = False := by simp only [eq_iff_iff, iff_false]; omega
      have HE := hide (show mrg U V = L from by rw [HI.out, List.drop_eq_nil_of_le (by omega), List.drop_eq_nil_of_le (by omega), mrg, List.append_nil])
      clear HI hi3 hj3
      refine wp_seq_k ?_
      intro K10 hK10
      refine wp_seq_k ?_
      intro K11 hK11
      refine rg [0, 1, 2, 3, 4, 5, 6, 7, 8, 9] ?_
      refine sq ?_
      refine .mv ?_
      refine sq ?_
      refine .mv ?_
      refine sq ?_
      refine .r0 ?_
      refine sq ?_
      refine .r0 ?_
      refine sq ?_
      refine .mv ?_
      refine sq ?_
      refine .mv ?_
      refine sq ?_
      refine .mv ?_
      refine sq ?_
      refine .r0 ?_
      refine sq ?_
      refine .r0 ?_
      refine sq ?_
      refine .r0 ?_
      apply wpSq_end
      refine hK11 _ _ ?_
      refine cf ?_
      refine wp_exit ?_
      refine hK9 _ _ ?_
      refine wp_seq_k ?_
      intro K12 hK12
      refine rg [0, 1] ?_
      refine sq ?_
      refine .mv ?_
      refine sq ?_
      refine .mv ?_
      apply wpSq_end
      refine hK12 _ _ ?_
      refine wp_ret ?_
      try dsimp only [Exit.then, Exit.inBlock]
      refine bodyPost_ret (v := (.slice o (i + j) c)) (by simp [results, Try.results56, go_sem]) rfl ?_
      have hN : i + j = N := (by omega); have hE := SG.of hs.1.1.1 d; rw [HS.out, HE.out]; exact ⟨_, _, by rw [← hN], by omega, hE.2.2, tm HB0.out hs.b⟩
theorem sorted_any : ∀ (f : Nat) {w : World} {o : Option Addr} {c : Nat} {ps : List (Int × Int)}, SG w o ps → ps.length ≤ f → ps.length ≤ c → ps.length ≤ 1000000 → c ≤ 9223372036854775807 → (∀ p ∈ ps, (dig p.1.natAbs).length ≤ 20000000 ∧ (dig p.2.natAbs).length ≤ 20000000) → Sd f w o c ps := by
  intro f
  induction f with
  | zero =>
    intro w o c ps S hf hc hn hcc hl
    have h0 : ps.length < 2 := by omega
    exact (sorted_short h0).mono fun e w' ⟨h1, h2⟩ => ⟨_, _, h1, hc, S.bl h2, h2⟩
  | succ f ih =>
    intro w o c ps S hf hc hn hcc hl
    rcases Nat.lt_or_ge ps.length 2 with h2 | h2
    · refine (sorted_short h2).mono fun e w' ⟨h3, h4⟩ => ⟨_, _, h3, hc, ?_, h4⟩
      rw [srt, if_pos h2]; exact S.bl h4
    · rcases S with rfl | ⟨g, off, cur, rfl, x, d⟩
      · simp at h2
      · have S : SG w (some ⟨g, off, none⟩) ps := .inr ⟨g, off, cur, rfl, x, d⟩
        exact sorted_long (f := f) (h := ps.length / 2)
          (fun w' hb => ih ((S.left (ps.length / 2) (by omega)).bl hb) (by rw [List.length_take]; omega) (by rw [List.length_take]; omega) (by rw [List.length_take]; omega) hcc (fun p hp => hl p (List.mem_of_mem_take hp)))
          (fun w' hb => ih ((S.right (ps.length / 2) (by omega)).bl hb) (by rw [List.length_drop]; omega) (by rw [List.length_drop]; omega) (by rw [List.length_drop]; omega) (by omega) (fun p hp => hl p (List.mem_of_mem_drop hp)))
          rfl h2 rfl hc hn hcc hl
theorem sorted_call (f : Nat) {w : World} {o : Option Addr} {c : Nat} {ps : List (Int × Int)} (h : SG w o ps) (hf : ps.length ≤ f) (hc : ps.length ≤ c) (hn : ps.length ≤ 1000000) (hcc : c ≤ 9223372036854775807) (hl : ∀ p ∈ ps, (dig p.1.natAbs).length ≤ 20000000 ∧ (dig p.2.natAbs).length ≤ 20000000) :
    Calls Try.prog 56 #[.slice o ps.length c] w fun e w' => ∃ o' c', e = .returned (.slice o' ps.length c') ∧ ps.length ≤ c' ∧ SG w' o' (srt f ps) ∧ Below w.heap.size w w' := sorted_any f h hf hc hn hcc hl
end
end Go.Proofs.Ytbiiglcfdphmaaa


/- The reference's Over; the law's list of any two lists that are read. -/
namespace Go.Proofs.Ytbiiglcfdphmaaa
open Go Go.RowKit Dig
set_option linter.unusedVariables false

section
variable {w : World} {va vb : Value} {x y z : Int} {l m : Nat}
set_option maxHeartbeats 4000000 in
set_option maxRecDepth 20000 in
theorem list6_sg {n c1 c2 : Nat} {o1 o2 : Option Addr} {ps : List (Int × Int)} (S1 : SG w o1 ps) (S2 : SG w o2 ps) (hn : ps.length = n) (hn2 : n ≤ 1000000000)
    (hl : ∀ p ∈ ps, (dig p.1.natAbs).length ≤ 100000000 ∧ (dig p.2.natAbs).length ≤ 100000000) :
    Calls Try.prog 16 #[.slice o1 n c1, .slice o2 n c2] w fun e w' => e = .returned (.bool true) ∧ Below w.heap.size w w' := by
  rcases Nat.eq_zero_or_pos n with h0 | h0
  · subst h0
    go_enter Try.func16, Try.ntmps16
    have hs := St.nil w
    refine wp_seq_k ?_
    intro K1 hK1
    refine rg [0] ?_
    refine sq ?_
    refine .mv ?_
    apply wpSq_end
    refine hK1 _ _ ?_
    refine wp_seq_k ?_
    intro K2 hK2
    refine wp_seq_k ?_
    intro K3 hK3
    refine rg [0, 1, 2, 3, 4] ?_
    refine sq ?_
    refine .mv ?_
    refine sq ?_
    refine .r0 ?_
    refine sq ?_
    refine .mv ?_
    refine sq ?_
    refine .r0 ?_
    refine sq ?_
    refine .r0 ?_
    apply wpSq_end
    refine hK3 _ _ ?_
    refine cf ?_
    refine wp_skip ?_
    refine hK2 _ _ ?_
    refine wp_seq_k ?_
    intro K4 hK4
    refine wp_seq_k ?_
    intro K5 hK5
    refine rg [0] ?_
    refine sq ?_
    refine .mv ?_
    apply wpSq_end
    refine hK5 _ _ ?_
    refine wp_block ?_
    have hd1 := hs.2.1
    go_loopg [5] 0 (fun k s5 wr => s5 = .int .i64 0 ∧ St w [] wr)
    case atStart => exact ⟨rfl, hs⟩
    case round =>
    clear hs
    obtain ⟨rfl, hs⟩ := hrel
    refine wp_seq_k ?_
    intro K6 hK6
    refine wp_seq_k ?_
    intro K7 hK7
    refine rg [0, 1, 2, 3] ?_
    refine sq ?_
    refine .mv ?_
    refine sq ?_
    refine .mv ?_
    refine sq ?_
    refine .r0 ?_
    refine sq ?_
    refine .r0 ?_
    apply wpSq_end
    refine hK7 _ _ ?_
    refine cf ?_
    refine wp_exit ?_
    refine hK4 _ _ ?_
    refine wp_seq_k ?_
    intro K8 hK8
    refine rg [0] ?_
    refine sq ?_
    refine .mv ?_
    apply wpSq_end
    refine hK8 _ _ ?_
    refine wp_ret ?_
    try dsimp only [Exit.then, Exit.inBlock]
    refine bodyPost_ret (v := (.bool true)) (by simp [results, Try.results16, go_sem]) rfl ?_
    exact ⟨rfl, hs.b⟩
  · obtain ⟨g1, off1, cur1, XA, rfl, x1, d1, h1⟩ := S1.open (by omega)
    obtain ⟨g2, off2, cur2, XB, rfl, x2, d2, h2⟩ := S2.open (by omega)
    clear S1 S2
    have HL := hide hl
    have HA := hide h1
    have HB := hide h2
    clear hl h1 h2
    go_enter Try.func16, Try.ntmps16
    have hs := St.nil w
    refine wp_seq_k ?_
    intro K1 hK1
    refine rg [0] ?_
    refine sq ?_
    refine .mv ?_
    apply wpSq_end
    refine hK1 _ _ ?_
    refine wp_seq_k ?_
    intro K2 hK2
    refine wp_seq_k ?_
    intro K3 hK3
    refine rg [0, 1, 2, 3, 4] ?_
    refine sq ?_
    refine .mv ?_
    refine sq ?_
    refine .r0 ?_
    refine sq ?_
    refine .mv ?_
    refine sq ?_
    refine .r0 ?_
    refine sq ?_
    refine .r0 ?_
    apply wpSq_end
    refine hK3 _ _ ?_
    refine cf ?_
    refine wp_skip ?_
    refine hK2 _ _ ?_
    refine wp_seq_k ?_
    intro K4 hK4
    refine wp_seq_k ?_
    intro K5 hK5
    refine rg [0] ?_
    refine sq ?_
    refine .mv ?_
    apply wpSq_end
    refine hK5 _ _ ?_
    refine wp_block ?_
    have hd1 := hs.2.1
    go_loopg [5] n (fun k s5 wr => ∃ i : Nat, s5 = .int .i64 (i : Int) ∧ i + k = n ∧ Bs wr g1 cur1 29 ∧ Bs wr g2 cur2 29 ∧ GD wr XA ps ∧ GD wr XB ps ∧ St w [] wr)
    case atStart => exact ⟨0, rfl, by omega, x1, x2, d1, d2, hs⟩
    case round =>
    clear d1 d2 x1 x2 hs
    obtain ⟨i, rfl, hik, x1, x2, d1, d2, hs⟩ := hrel
    by_cases hi : i < n
    · have hip : i < ps.length := by omega
      obtain ⟨n1, o1, k1, q1, n2, o2, k2, q2, e1, e2, e3, e4, z1, z2⟩ := d1.at hip
      obtain ⟨n3, o3, k3, q3, n4, o4, k4, q4, e5, e6, e7, e8, z3, z4⟩ := d2.at hip
      replace e1 : Hid (cur1[off1 + i * 4]? = some (.bool n1)) := hide (HA.out (i * 4) 0 _ e1); replace e2 := hide (HA.out (i * 4) 1 _ e2); replace e3 := hide (HA.out (i * 4) 2 _ e3); replace e4 := hide (HA.out (i * 4) 3 _ e4)
      replace e5 : Hid (cur2[off2 + i * 4]? = some (.bool n3)) := hide (HB.out (i * 4) 0 _ e5); replace e6 := hide (HB.out (i * 4) 1 _ e6); replace e7 := hide (HB.out (i * 4) 2 _ e7); replace e8 := hide (HB.out (i * 4) 3 _ e8)
      have Lz3 := hide (HL.out _ (List.getElem_mem hip)).1
      have Lz4 := hide (HL.out _ (List.getElem_mem hip)).2
      generalize ps[i].1 = P1 at *
      generalize ps[i].2 = P2 at *
      refine wp_seq_k ?_
      intro K6 hK6
      refine wp_seq_k ?_
      intro K7 hK7
      refine rg [0, 1, 2, 3] ?_
      refine sq ?_
      refine .mv ?_
      refine sq ?_
      refine .mv ?_
      refine sq ?_
      refine .r0 ?_
      refine sq ?_
      refine .r0 ?_
      apply wpSq_end
      refine hK7 _ _ ?_
      refine ct ?_
      refine wp_skip ?_
      refine hK6 _ _ ?_
      refine wp_seq_k ?_
      intro K8 hK8
      refine wp_block ?_
      refine wp_seq_k ?_
      intro K9 hK9
      refine wp_region_f4 [(0, false), (1, false), (2, false), (3, false), (4, false), (5, false), (6, false), (7, false), (8, true), (9, false)] [] [] (fun _ => default) [99, 99, 99, 0, 99, 99, 99, 1, 99, 99] [] (.c x1 (.c x2 .n)) fn fun w_2 n2 => ?_
      replace x1 := x1.bl n2; replace x2 := x2.bl n2; replace hs := hs.bl n2
      refine fmv ?_
      refine fmv ?_
      refine f0 ?_
      apply wpFl_ld rfl rfl; (case h1 => intro w' hC K hK; have c0 := Bs.cell hC ((off1 + i * 4)) e1.out; have c1 := Bs.cell hC ((off1 + i * 4) + 1) e2.out; have c2 := Bs.cell hC ((off1 + i * 4) + 2) e3.out; have c3 := Bs.cell hC ((off1 + i * 4) + 3) e4.out; go_big_op; exact hK); iterate 4 kernel_rfl
      refine fmv ?_
      refine fmv ?_
      refine f0 ?_
      apply wpFl_ld rfl rfl; (case h1 => intro w' hC K hK; have c0 := Bs.cell hC ((off2 + i * 4)) e5.out; have c1 := Bs.cell hC ((off2 + i * 4) + 1) e6.out; have c2 := Bs.cell hC ((off2 + i * 4) + 2) e7.out; have c3 := Bs.cell hC ((off2 + i * 4) + 3) e8.out; go_big_op; exact hK); iterate 4 kernel_rfl
      refine fl fun w_3 n3 => ?_
      replace x1 := x1.bl n3; replace x2 := x2.bl n3; replace hs := hs.bl n3
      intro K hK
      have k0_2 := (kb n2).b n3
      replace z1 := z1.k k0_2
      replace z2 := z2.k k0_2
      replace z3 := z3.k k0_2
      replace z4 := z4.k k0_2
      go_big_op
      go_fit (g6is_any (PC.mk' z1 z2) (PN.mk' (z3.zn Lz3.out) (z4.zn Lz4.out)) (by omega) (by omega) )
      rintro e w_4 ⟨rfl, hb_4⟩
      replace x1 := x1.bl hb_4; replace x2 := x2.bl hb_4; replace hs := hs.bl hb_4
      refine hK _ _ rfl ⟨hb_4, (And.intro x1 (And.intro x2 trivial))⟩ ?_
      clear hK K
      refine f0 ?_
      refine e0 hs ?_; clear hs; intro w_5 hs n5
      replace x1 := x1.bl n5; replace x2 := x2.bl n5
      apply wpTail_end
      refine hK9 _ _ ?_
      refine cf ?_
      refine wp_skip ?_
      refine hK8 _ _ ?_
      refine rg [0, 1, 2] ?_
      refine sq ?_
      refine .mv ?_
      refine sq ?_
      refine .r0 ?_
      refine sq ?_
      refine .mv ?_
      apply wpSq_end
      have k0_4 := (k0_2.b hb_4).b n5
      replace d1 := d1.k k0_4
      replace d2 := d2.k k0_4
      refine ‹∀ (a' : Act) (w' : World), Handed _ _ a' w' → _› _ _ ?_
      go_roundg (gk - 1)
      case rel => exact ⟨i + 1, by rfl, by omega, x1, x2, d1, d2, hs⟩
      case measure => omega
    · have HX := hide hi
      refine wp_seq_k ?_
      intro K6 hK6
      refine wp_seq_k ?_
      intro K7 hK7
      refine rg [0, 1, 2, 3] ?_
      refine sq ?_
      refine .mv ?_
      refine sq ?_
      refine .mv ?_
      refine sq ?_
      refine .r0 ?_
      refine sq ?_
      refine .r0 ?_
      apply wpSq_end
      refine hK7 _ _ ?_
      refine cf ?_
      refine wp_exit ?_
      refine hK4 _ _ ?_
      refine wp_seq_k ?_
      intro K8 hK8
      refine rg [0] ?_
      refine sq ?_
      refine .mv ?_
      apply wpSq_end
      refine hK8 _ _ ?_
      refine wp_ret ?_
      try dsimp only [Exit.then, Exit.inBlock]
      refine bodyPost_ret (v := (.bool true)) (by simp [results, Try.results16, go_sem]) rfl ?_
      exact ⟨rfl, hs.b⟩
/-- What a list of these numbers is, told by the reference. -/
def TS (K : Nat) (a : Array Value) (w : World) (ps : List (Int × Int)) : Prop :=
  Calls Try.prog K a w fun e w' => ∃ o c, e = .returned (.slice o ps.length c) ∧ ps.length ≤ c ∧ SG w' o ps ∧ Below w.heap.size w w'
set_option maxHeartbeats 4000000 in
set_option maxRecDepth 20000 in
theorem rover_3 (p : Nat) (hp : p < 65536) (h3 : p % 4 = 3) : TS 23 #[.int .i64 (p : Int)] w [((p : Int), 0)] := by
  have hm : Int.tmod (p : Int) 4 = 3 := by rw [show ((4 : Int)) = ((4 : Nat) : Int) from rfl, ← Int.ofNat_tmod, h3]; rfl
  clear h3
  unfold TS
  go_enter Try.func23, Try.ntmps23
  have hs := St.nil w
  refine wp_seq_k ?_
  intro K1 hK1
  refine rg [0] ?_
  refine sq ?_
  refine .mv ?_
  apply wpSq_end
  refine hK1 _ _ ?_
  refine wp_seq_k ?_
  intro K2 hK2
  refine wp_seq_k ?_
  intro K3 hK3
  refine rg [0, 1, 2] ?_
  refine sq ?_
  refine .mv ?_
  refine sq ?_
  refine .r0 ?_
  refine sq ?_
  refine .r0 ?_
  apply wpSq_end
  refine hK3 _ _ ?_
  refine ct ?_
  refine wp_seq_k ?_
  intro K4 hK4
  refine rg [0, 1, 2, 3] ?_
  refine sq ?_
  refine .mv ?_
  refine sq ?_
  intro K hK
  go_big_op
  go_fit (rgI_any (p : Int) 0 _ (by omega) (by omega) (by decide) (by decide))
  rintro e w_1 ⟨_, rfl, ⟨n_ea, o_ea, k_ea, c_ea, n_eb, o_eb, k_eb, c_eb, rfl, e1, e2⟩, hb_1⟩
  replace hs := hs.bl hb_1
  refine hK _ _ rfl trivial ?_
  clear hK K
  refine sq ?_
  refine .al hs ?_; clear hs; intro p_b1 w_2 hs n2 kb_b1
  refine sq ?_
  refine .mv ?_
  apply wpSq_end
  refine hK4 _ _ ?_
  refine wp_ret ?_
  try dsimp only [Exit.then, Exit.inBlock]
  refine bodyPost_ret (v := (.slice (some ⟨p_b1, 0, none⟩) 1 1)) (by simp [results, Try.results23, go_sem]) rfl ?_
  have k1_2 := kb n2
  replace e1 := e1.k k1_2
  replace e2 := e2.k k1_2
  have hE := SG.of (Lst.ofBs hs.g0 kb_b1) (GD.snoc (GD.nil _) (.mk' e1 e2)); exact ⟨_, _, rfl, hE.2.1, hE.2.2, hs.b⟩
theorem gD_len {w : World} {B n c : Nat} {o : Option Addr} {xs : List Value} (L : Lst w B 29 4 (.slice o n c) n xs) : c ≤ 9223372036854775807 := by
  rcases L.1.2 with ⟨e, h0⟩ | ⟨g, cap, cur, e, hb, hg, hnc, hcm, hcs, htake⟩
  · simp only [Value.slice.injEq] at e; omega
  · simp only [Value.slice.injEq] at e
    obtain ⟨rfl, _, rfl⟩ := e
    unfold maxLen at hcm
    omega
set_option maxHeartbeats 4000000 in
set_option maxRecDepth 20000 in
theorem rover_any {n f : Nat} {ps : List (Int × Int)} (hn : n < 65536) (h3 : n % 4 ≠ 3) (hfin : ∀ k, n ≤ (k + 1) * (k + 1) → ovs n k = ps) (hf : ps.length ≤ f) (hp : ps.length ≤ 1000) (hlen : ∀ p ∈ ps, (dig p.1.natAbs).length ≤ 20000000 ∧ (dig p.2.natAbs).length ≤ 20000000) (hsr : srt f ps = ps) : TS 23 #[.int .i64 (n : Int)] w ps := by
  have hm : Int.tmod (n : Int) 4 = ((n % 4 : Nat) : Int) := by rw [show ((4 : Int)) = ((4 : Nat) : Int) from rfl, Int.ofNat_tmod]
  have hm3 : (((n % 4 : Nat) : Int) == 3) = false := by rw [beq_eq_false_iff_ne]; omega
  have HF := hide (And.intro hfin (And.intro hlen hsr))
  clear hfin hlen hsr h3
  generalize n % 4 = n4 at *
  unfold TS
  go_enter Try.func23, Try.ntmps23
  have hs := St.nil w
  refine wp_seq_k ?_
  intro K1 hK1
  refine rg [0] ?_
  refine sq ?_
  refine .mv ?_
  apply wpSq_end
  refine hK1 _ _ ?_
  refine wp_seq_k ?_
  intro K2 hK2
  refine wp_seq_k ?_
  intro K3 hK3
  refine rg [0, 1, 2] ?_
  refine sq ?_
  refine .mv ?_
  refine sq ?_
  refine .r0 ?_
  refine sq ?_
  refine .r0 ?_
  apply wpSq_end
  refine hK3 _ _ ?_
  refine cf ?_
  refine wp_skip ?_
  refine hK2 _ _ ?_
  refine wp_seq_k ?_
  intro K4 hK4
  refine rg [0] ?_
  refine sq ?_
  refine .mv ?_
  apply wpSq_end
  refine hK4 _ _ ?_
  refine wp_seq_k ?_
  intro K5 hK5
  refine wp_seq_k ?_
  intro K6 hK6
  refine rg [0] ?_
  refine sq ?_
  refine .mv ?_
  apply wpSq_end
  refine hK6 _ _ ?_
  refine wp_block ?_
  have hd1 := hs.2.1
  go_loopg [3, 4] 65537 (fun k s3 s4 wr => ∃ (r N : Nat) (o : Option Addr) (c : Nat) (xs : List Value) (L : List (Int × Int)), s4 = .int .i64 ((r + 1 : Nat) : Int) ∧ s3 = .slice o N c ∧ r + k = 65537 ∧ N ≤ r ∧ Hid (L = ovs n r ∧ N = L.length) ∧ GD wr xs L ∧ St w [ls w.heap.size 29 4 (.slice o N c) N xs] wr)
  case atStart => exact ⟨0, 0, none, 0, [], [], rfl, rfl, rfl, by omega, hide ⟨rfl, rfl⟩, GD.nil _, hs.l0 _ _⟩
  case round =>
  clear hm3 hm
  clear hs
  obtain ⟨r0, N, o, c, xs, L, rfl, rfl, hrk, hN, HI, d, hs⟩ := hrel
  obtain ⟨r, hr⟩ : ∃ r, r0 + 1 = r := ⟨_, rfl⟩
  rw [hr]
  have hp1 : (r : Int) * (r : Int) = ((r * r : Nat) : Int) := by simp
  have hb1 : r * r ≤ 4295229444 := Nat.mul_le_mul (show r ≤ 65538 by omega) (show r ≤ 65538 by omega)
  by_cases h1 : r * r < n
  · have hr65 : r ≤ 255 := by
      rcases Nat.lt_or_ge r 256 with h | h
      · omega
      · have := Nat.mul_le_mul h h; omega
    have hov : ovs n r = ovs n r0 ++ (ovAt n r).toList := by rw [← hr]; rfl
    by_cases h3 : r * r + rt (n - r * r) * rt (n - r * r) = n
    · have HI' := hide (show L ++ [((r : Int), ((rt (n - r * r) : Nat) : Int))] = ovs n r ∧ N + 1 = (L ++ [((r : Int), ((rt (n - r * r) : Nat) : Int))]).length from ⟨by rw [hov, ← HI.out.1]; unfold ovAt; rw [if_pos h3]; rfl, by rw [List.length_append, HI.out.2]; rfl⟩)
      have HR := hide (fun w => root_any (n - r * r) w (by omega))
      have hb256 : rt (n - r * r) ≤ 65536 := by
        rcases Nat.lt_or_ge (rt (n - r * r)) 65536 with h | h
        · omega
        · have := Nat.mul_le_mul h h; omega
      clear HI hov
      generalize rt (n - r * r) = b at *
      have hp4 : (b : Int) * (b : Int) = ((b * b : Nat) : Int) := by simp
      obtain ⟨q3, hq3⟩ : ∃ q, b * b = q := ⟨_, rfl⟩
      rw [hq3] at h3 hp4
      have hsub : (n : Int) - ((r * r : Nat) : Int) = ((n - r * r : Nat) : Int) := by omega
      obtain ⟨q1, hq1⟩ : ∃ q, r * r = q := ⟨_, rfl⟩
      rw [hq1] at h3 hp1 hsub HR h1 hb1
      clear hq1 hq3
      have h5 : ((q1 : Int) < (n : Int)) = True := by simp; omega
      have h7 : ((q1 : Int) + (q3 : Int) == (n : Int)) = true := by simp; omega
      refine wp_seq_k ?_
      intro K7 hK7
      refine wp_seq_k ?_
      intro K8 hK8
      refine rg [0, 1, 2, 3, 4] ?_
      refine sq ?_
      refine .mv ?_
      refine sq ?_
      refine .mv ?_
      refine sq ?_
      refine .r0 ?_
      refine sq ?_
      refine .mv ?_
      refine sq ?_
      refine .r0 ?_
      apply wpSq_end
      refine hK8 _ _ ?_
      refine ct ?_
      refine wp_skip ?_
      refine hK7 _ _ ?_
      refine wp_seq_k ?_
      intro K9 hK9
      refine wp_block ?_
      refine wp_seq_k ?_
      intro K10 hK10
      refine rg [0, 1, 2, 3, 4, 5, 6] ?_
      refine sq ?_
      refine .mv ?_
      refine sq ?_
      refine .mv ?_
      refine sq ?_
      refine .mv ?_
      refine sq ?_
      refine .r0 ?_
      refine sq ?_
      refine .r0 ?_
      refine sq ?_
      intro K hK
      go_big_op
      go_fit (HR.out _)
      rintro e w_2 ⟨rfl, e_2⟩
      (first | rw [e_2] | rw [← e_2]); clear e_2 w_2
      refine hK _ _ rfl trivial ?_
      clear hK K
      refine sq ?_
      refine .mv ?_
      apply wpSq_end
      refine hK10 _ _ ?_
      refine wp_seq_k ?_
      intro K11 hK11
      refine rg [0, 1, 2, 3, 4, 5, 6, 7, 8] ?_
      refine sq ?_
      refine .mv ?_
      refine sq ?_
      refine .mv ?_
      refine sq ?_
      refine .r0 ?_
      refine sq ?_
      refine .mv ?_
      refine sq ?_
      refine .mv ?_
      refine sq ?_
      refine .r0 ?_
      refine sq ?_
      refine .r0 ?_
      refine sq ?_
      refine .mv ?_
      refine sq ?_
      refine .r0 ?_
      apply wpSq_end
      refine hK11 _ _ ?_
      refine ct ?_
      refine rg [0, 1, 2, 3, 4, 5, 6] ?_
      refine sq ?_
      refine .mv ?_
      refine sq ?_
      refine .mv ?_
      refine sq ?_
      refine .mv ?_
      refine sq ?_
      intro K hK
      go_big_op
      go_fit (rgI_any (r : Int) (b : Int) _ (by omega) (by omega) (by omega) (by omega))
      rintro e w_3 ⟨_, rfl, ⟨n_ea, o_ea, k_ea, c_ea, n_eb, o_eb, k_eb, c_eb, rfl, e1, e2⟩, hb_3⟩
      replace hs := hs.bl hb_3
      refine hK _ _ rfl trivial ?_
      clear hK K
      refine sq ?_
      refine .al hs ?_; clear hs; intro p_b1 w_4 hs n4 kb_b1
      refine sq ?_
      have k1_2 := kb n4
      replace e1 := e1.k k1_2
      replace e2 := e2.k k1_2
      have k0_2 := (kb hb_3).b n4
      replace d := d.k k0_2
      replace d := d.snoc (.mk' e1 e2)
      refine .ap 1 hs hs.g0 ?_; clear hs; intro o_L_5 c_L_5 w_5 hs kp5 hw5; simp only [List.set_cons_succ, List.set_cons_zero] at hs
      refine sq ?_
      refine .mv ?_
      apply wpSq_end
      refine hK9 _ _ ?_
      refine rg [0, 1, 2] ?_
      refine sq ?_
      refine .mv ?_
      refine sq ?_
      refine .r0 ?_
      refine sq ?_
      refine .mv ?_
      apply wpSq_end
      have k2_3 := kp5
      replace d := d.k k2_3
      refine ‹∀ (a' : Act) (w' : World), Handed _ _ a' w' → _› _ _ ?_
      go_roundg (gk - 1)
      case rel => exact ⟨r, N + 1, _, _, _, _, by rfl, by rfl, by omega, by omega, HI', d, hs.sub (.cons _ (.cons_cons _ .slnil))⟩
      case measure => omega
    · have HI' := hide (show L = ovs n r ∧ N = L.length from ⟨by rw [hov, ← HI.out.1]; unfold ovAt; rw [if_neg h3]; simp, HI.out.2⟩)
      have HR := hide (fun w => root_any (n - r * r) w (by omega))
      have hbb := (rt_spec (n - r * r)).1
      clear HI hov
      generalize rt (n - r * r) = b at *
      have hp4 : (b : Int) * (b : Int) = ((b * b : Nat) : Int) := by simp
      obtain ⟨q3, hq3⟩ : ∃ q, b * b = q := ⟨_, rfl⟩
      rw [hq3] at h3 hp4 hbb
      have hsub : (n : Int) - ((r * r : Nat) : Int) = ((n - r * r : Nat) : Int) := by omega
      obtain ⟨q1, hq1⟩ : ∃ q, r * r = q := ⟨_, rfl⟩
      rw [hq1] at h3 hp1 hsub HR h1 hb1 hbb
      clear hq1 hq3
      have h5 : ((q1 : Int) < (n : Int)) = True := by simp; omega
      have h7 : ((q1 : Int) + (q3 : Int) == (n : Int)) = false := by rw [beq_eq_false_iff_ne]; omega
      refine wp_seq_k ?_
      intro K7 hK7
      refine wp_seq_k ?_
      intro K8 hK8
      refine rg [0, 1, 2, 3, 4] ?_
      refine sq ?_
      refine .mv ?_
      refine sq ?_
      refine .mv ?_
      refine sq ?_
      refine .r0 ?_
      refine sq ?_
      refine .mv ?_
      refine sq ?_
      refine .r0 ?_
      apply wpSq_end
      refine hK8 _ _ ?_
      refine ct ?_
      refine wp_skip ?_
      refine hK7 _ _ ?_
      refine wp_seq_k ?_
      intro K9 hK9
      refine wp_block ?_
      refine wp_seq_k ?_
      intro K10 hK10
      refine rg [0, 1, 2, 3, 4, 5, 6] ?_
      refine sq ?_
      refine .mv ?_
      refine sq ?_
      refine .mv ?_
      refine sq ?_
      refine .mv ?_
      refine sq ?_
      refine .r0 ?_
      refine sq ?_
      refine .r0 ?_
      refine sq ?_
      intro K hK
      go_big_op
      go_fit (HR.out _)
      rintro e w_2 ⟨rfl, e_2⟩
      (first | rw [e_2] | rw [← e_2]); clear e_2 w_2
      refine hK _ _ rfl trivial ?_
      clear hK K
      refine sq ?_
      refine .mv ?_
      apply wpSq_end
      refine hK10 _ _ ?_
      refine wp_seq_k ?_
      intro K11 hK11
      refine rg [0, 1, 2, 3, 4, 5, 6, 7, 8] ?_
      refine sq ?_
      refine .mv ?_
      refine sq ?_
      refine .mv ?_
      refine sq ?_
      refine .r0 ?_
      refine sq ?_
      refine .mv ?_
      refine sq ?_
      refine .mv ?_
      refine sq ?_
      refine .r0 ?_
      refine sq ?_
      refine .r0 ?_
      refine sq ?_
      refine .mv ?_
      refine sq ?_
      refine .r0 ?_
      apply wpSq_end
      refine hK11 _ _ ?_
      refine cf ?_
      refine wp_skip ?_
      refine hK9 _ _ ?_
      refine rg [0, 1, 2] ?_
      refine sq ?_
      refine .mv ?_
      refine sq ?_
      refine .r0 ?_
      refine sq ?_
      refine .mv ?_
      apply wpSq_end
      refine ‹∀ (a' : Act) (w' : World), Handed _ _ a' w' → _› _ _ ?_
      go_roundg (gk - 1)
      case rel => exact ⟨r, N, o, c, xs, L, by rfl, by rfl, by omega, by omega, HI', d, hs⟩
      case measure => omega
  · have hE := HF.out.1 r0 (by rw [hr]; omega)
    obtain ⟨rfl, rfl⟩ : L = ps ∧ N = ps.length := ⟨HI.out.1.trans hE, by rw [HI.out.2, HI.out.1, hE]⟩
    clear HI hE
    generalize r * r = q1 at *
    have h5 : ((q1 : Int) < (n : Int)) = False := by simp; omega
    refine wp_seq_k ?_
    intro K7 hK7
    refine wp_seq_k ?_
    intro K8 hK8
    refine rg [0, 1, 2, 3, 4] ?_
    refine sq ?_
    refine .mv ?_
    refine sq ?_
    refine .mv ?_
    refine sq ?_
    refine .r0 ?_
    refine sq ?_
    refine .mv ?_
    refine sq ?_
    refine .r0 ?_
    apply wpSq_end
    refine hK8 _ _ ?_
    refine cf ?_
    refine wp_exit ?_
    refine hK5 _ _ ?_
    refine wp_seq_k ?_
    intro K9 hK9
    refine rg [0, 1, 2] ?_
    refine sq ?_
    refine .mv ?_
    have hsg := SG.of hs.1.1.1 d
    have hcl := gD_len hs.1.1.1
    refine sq ?_
    intro K hK
    go_big_op
    go_fit (sorted_call f hsg.2.2 hf hsg.2.1 (by omega) hcl HF.out.2.1)
    rintro e w_2 ⟨o_s, c_s, rfl, H_s, S_s, hb_2⟩
    replace hs := hs.bl hb_2
    refine hK _ _ rfl trivial ?_
    clear hK K
    refine sq ?_
    refine .mv ?_
    apply wpSq_end
    refine hK9 _ _ ?_
    refine wp_ret ?_
    try dsimp only [Exit.then, Exit.inBlock]
    refine bodyPost_ret (v := (.slice o_s L.length c_s)) (by simp [results, Try.results23, go_sem]) rfl ?_
    rw [HF.out.2.2] at S_s; exact ⟨_, _, rfl, H_s, S_s, hs.b⟩
end
end Go.Proofs.Ytbiiglcfdphmaaa

