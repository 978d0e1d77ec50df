/- A region that draws, at whose end two operations are ready at once: both orders (else as Rf). -/
import Derived.Test.YtnkimagnmnocdaaGreatWkToMt
import Derived.Test.YtnkimagnmnocdaaGreatGpToF4
import Derived.Test.YtnkimagnmnocdaaGreatI5ToDp
import Derived.Test.YtnkimagnmnocdaaGreatY8
import Derived.Test.YtnkimagnmnocdaaGreatG1ToG2
import Derived.Test.YtnkimagnmnocdaaGreatE1ToO3
import Derived.Test.YtnkimagnmnocdaaGreatE7ToDt2

namespace Go.Proofs.YtnkimagnmnocdaaGreat
open Go Go.RowKit Dig
set_option linter.unusedVariables false
section
variable {P : Program} {l : List Oper} {md : Region.Mode} {C : World → Prop}
def twoOK (md : Region.Mode) (ops : Array Oper) (listed : Array Bool) (j k : Nat) (rest : List Nat) : Bool :=
  (Region.ready md ops listed == [j, k]) && plan2OK md ops (listed.setIfInBounds j true) (k :: rest) && plan2OK md ops (listed.setIfInBounds k true) (j :: rest)
def wpTwo (P : Program) (l : List Oper) (Gs : List (World → Prop)) (bad : List (Nat × Nat)) (Q : Act → World → Prop) (j k : Nat) (rest : List Nat) (a : Act) (w : World) : Prop :=
  wpTail P l Gs bad Q (j :: k :: rest) a w ∧ wpTail P l Gs bad Q (k :: j :: rest) a w
theorem cOp_of_tail {Gs : List (World → Prop)} {bad : List (Nat × Nat)} {Q : Act → World → Prop} {i : Nat} {rest : List Nat} {listed : Array Bool} {a : Act} {w : World}
    (hp : plan2OK md l.toArray (listed.setIfInBounds i true) rest = true) (h : wpTail P l Gs bad Q (i :: rest) a w) : cOp P l.toArray (fun w' => Keeps Gs bad i w w') i (wpAnyX P md l.toArray Gs bad Q rest.length (listed.setIfInBounds i true)) a w := by
  obtain ⟨o, h0, h1⟩ := h
  unfold cOp
  rw [show l.toArray[i]? = some o by rw [← nthO_eq] at h0; simpa using h0]
  simp only
  split
  · rename_i hw
    simp only [hw, if_true] at h1
    exact h1.mono fun v w' ⟨c1, c2⟩ => ⟨c1, wpAnyX_of_tail rest _ _ _ hp c2⟩
  · rename_i hw
    simp only [hw] at h1
    exact wpAnyX_of_tail rest _ _ _ hp h1
theorem wpAnyX_of_two {Gs : List (World → Prop)} {bad : List (Nat × Nat)} {Q : Act → World → Prop} {j k : Nat} {rest : List Nat} {listed : Array Bool} {a : Act} {w : World}
    (hp : twoOK md l.toArray listed j k rest = true) (h : wpTwo P l Gs bad Q j k rest a w) : wpAnyX P md l.toArray Gs bad Q (rest.length + 2) listed a w := by
  simp only [twoOK, Bool.and_eq_true, beq_iff_eq] at hp
  obtain ⟨⟨h1, h2⟩, h3⟩ := hp
  refine ⟨fun h4 => (by rw [h4] at h1; cases h1), fun i hi => ?_⟩
  rw [h1] at hi
  rcases List.mem_cons.1 hi with rfl | hi
  · exact cOp_of_tail (rest := k :: rest) h2 h.1
  · obtain rfl : i = k := by simpa using hi
    exact cOp_of_tail (rest := j :: rest) h3 h.2
def flOKT (md : Region.Mode) (l : List Oper) (j2 k2 : Nat) (r2 : List Nat) : Nat → Array Bool → List (Nat × Bool) → List Nat → Bool
  | 0, listed, plan, F => plan.isEmpty && F.isEmpty && twoOK md l.toArray listed j2 k2 r2
  | n + 1, listed, [], F => !(Region.ready md l.toArray listed).isEmpty && (Region.ready md l.toArray listed).all (F.contains ·) && F.all fun j => !(Region.ready md l.toArray listed).contains j || flOKT md l j2 k2 r2 n (listed.setIfInBounds j true) [] (F.erase j)
  | n + 1, listed, (i, false) :: rest, F => Region.free md l.toArray listed i && (Region.ready md l.toArray listed).contains i && flOKT md l j2 k2 r2 n (listed.setIfInBounds i true) rest F
  | n + 1, listed, (k, true) :: rest, F => !(Region.ready md l.toArray listed).isEmpty && (Region.ready md l.toArray listed).all (fun i => i == k || F.contains i) && flOKT md l j2 k2 r2 n (listed.setIfInBounds k true) rest F &&
      F.all fun j => !(Region.ready md l.toArray listed).contains j || flOKT md l j2 k2 r2 n (listed.setIfInBounds j true) ((k, true) :: rest) (F.erase j)
theorem wpAnyC_of_flT {Gs : List (World → Prop)} {CL : List Nat} {bad : List (Nat × Nat)} {Q : Act → World → Prop} {ob : Nat → Obj} {F0 : List Nat} {B : Nat} {j2 k2 : Nat} {r2 : List Nat} (hns : Region.noSelect l.toArray = true) (hsu : sundry l F0 = true)
    (hl : ∀ j ∈ F0, Lays P l ob j) (hCa : ∀ w o, C w → C (w.alloc o)) (hCG : ∀ w, C w → ∀ G ∈ Gs, G w) (_hF : ∀ j ∈ F0, ∀ g, bad.contains (j, g) = false) :
    ∀ (n : Nat) (plan : List (Nat × Bool)) (F : List Nat) (listed : Array Bool) (pt : Nat → Option Nat) (a : Act) (w w' : World), flOKT md l j2 k2 r2 n listed plan F = true → planApart l F0 plan = true → waits md l CL bad plan = true → (∀ k ∈ plan, ∀ g, bad.contains (k.1, g) = false) → F.Nodup →
      (∀ j ∈ F, j ∈ F0) → (∀ j ∈ F0, pt j = none ↔ j ∈ F) → (∀ j ∈ F0, ∀ p, pt j = some p → B ≤ p ∧ p < w'.heap.size ∧ w'.heap[p]? = some (ob j)) → (∀ i ∈ F0, ∀ j ∈ F0, ∀ p, pt i = some p → pt j = some p → i = j) →
      B ≤ w'.heap.size → Below w.heap.size w w' → C w' → wpFl P l C Gs CL ob F0 B (wpTwo P l Gs bad Q j2 k2 r2) plan a w → wpAnyX P md l.toArray Gs bad Q (n + (r2.length + 2)) listed (putF l pt F0 a) w' := by
  have hsel := fun (j : Nat) (o : Oper) cs b (h : nthO l j = some o) => Region.noSelect_spec hns j o cs b (by rw [← nthO_eq] at h; simpa using h)
  -- a block is laid
  have hfl : ∀ (n : Nat) (plan : List (Nat × Bool)) (F : List Nat) (listed : Array Bool) (pt : Nat → Option Nat) (a : Act) (w w' : World),
      (∀ (F : List Nat) (listed : Array Bool) (pt : Nat → Option Nat) (w' : World), flOKT md l j2 k2 r2 n listed plan F = true → F.Nodup →
        (∀ j ∈ F, j ∈ F0) → (∀ j ∈ F0, pt j = none ↔ j ∈ F) → (∀ j ∈ F0, ∀ p, pt j = some p → B ≤ p ∧ p < w'.heap.size ∧ w'.heap[p]? = some (ob j)) → (∀ i ∈ F0, ∀ j ∈ F0, ∀ p, pt i = some p → pt j = some p → i = j) →
        B ≤ w'.heap.size → Below w.heap.size w w' → C w' → wpAnyX P md l.toArray Gs bad Q (n + (r2.length + 2)) listed (putF l pt F0 a) w') →
      ∀ j ∈ F, flOKT md l j2 k2 r2 n (listed.setIfInBounds j true) plan (F.erase j) = true → F.Nodup →
      (∀ j ∈ F, j ∈ F0) → (∀ j ∈ F0, pt j = none ↔ j ∈ F) → (∀ j ∈ F0, ∀ p, pt j = some p → B ≤ p ∧ p < w'.heap.size ∧ w'.heap[p]? = some (ob j)) → (∀ i ∈ F0, ∀ j ∈ F0, ∀ p, pt i = some p → pt j = some p → i = j) →
      B ≤ w'.heap.size → Below w.heap.size w w' → C w' → cOp P l.toArray (fun w2 => Keeps Gs bad j w' w2) j (wpAnyX P md l.toArray Gs bad Q (n + (r2.length + 2)) (listed.setIfInBounds j true)) (putF l pt F0 a) w' := by
    intro n plan F listed pt a w w' ih j hj hok hnd hF' hnone hpt hinj hB hb hC
    obtain ⟨o, ho, hg, hrun⟩ := hl j (hF' j hj)
    unfold cOp
    rw [show l.toArray[j]? = some o by rw [← nthO_eq] at ho; simpa using ho]
    have hw : Region.wanted o (yielded l.toArray (putF l pt F0 a).tmps) = true := by unfold Region.wanted; rw [hg]
    simp only [hw, if_true]
    unfold Calm
    rw [hrun]
    refine ⟨fun g _ _ => nthG_all (hCG _ (hCa _ _ hC)) g, ?_⟩
    rw [putF_set ho ((hnone j (hF' j hj)).2 hj) (hF' j hj) hsu]
    have hsz : (w'.alloc (ob j)).heap.size = w'.heap.size + 1 := by simp
    have hold : ∀ p, p < w'.heap.size → (w'.alloc (ob j)).heap[p]? = w'.heap[p]? := fun p hp => Below.heap_alloc _ _ _ hp
    have hnew : (w'.alloc (ob j)).heap[w'.heap.size]? = some (ob j) := by
      show (w'.heap.push _)[w'.heap.size]? = _
      simp
    refine ih (F.erase j) _ _ _ hok (hnd.erase _) (fun i hi => hF' i (List.mem_of_mem_erase hi)) ?_ ?_ ?_ (by omega) (hb.alloc hb.size _) (hCa _ _ hC)
    · intro i hi
      unfold setP
      split
      · rename_i e; subst e; simp [hnd.mem_erase_iff]
      · rename_i e; rw [hnone i hi, hnd.mem_erase_iff]; simp [e]
    · intro i hi p hp
      unfold setP at hp
      split at hp
      · rename_i e
        subst e
        obtain rfl : w'.heap.size = p := by simpa using hp
        exact ⟨hB, by omega, hnew⟩
      · obtain ⟨h1, h2, h3⟩ := hpt i hi p hp
        exact ⟨h1, by omega, by rw [hold p h2]; exact h3⟩
    · intro i hi k hk p hp hq
      unfold setP at hp hq
      split at hp <;> split at hq
      · rename_i e1 e2; rw [e1, e2]
      · have h1 : w'.heap.size = p := by simpa using hp
        have h2 := (hpt k hk p hq).2.1
        omega
      · have h1 : w'.heap.size = p := by simpa using hq
        have h2 := (hpt i hi p hp).2.1
        omega
      · exact hinj i hi k hk p hp hq
  intro n
  induction n with
  | zero =>
    intro plan F listed pt a w w' hok hpa hwt hnb hnd hF' hnone hpt hinj hB hb hC h
    simp only [flOKT, Bool.and_eq_true, List.isEmpty_iff] at hok
    obtain ⟨⟨rfl, rfl⟩, hp2⟩ := hok
    have hall : ∀ j ∈ F0, ∃ p, pt j = some p := fun j hj => by
      cases hp : pt j with
      | none => exact absurd ((hnone j hj).1 hp) (by simp)
      | some p => exact ⟨p, rfl⟩
    have hget : ∀ j ∈ F0, pt j = some ((pt j).getD 0) := fun j hj => by obtain ⟨p, hp⟩ := hall j hj; rw [hp]; rfl
    have h2 := h w' (fun j => (pt j).getD 0) hb hC (fun j hj => by
      obtain ⟨p, hp⟩ := hall j hj
      have := hpt j hj p hp
      rw [hp]
      exact ⟨this.1, this.2.2⟩) (fun i hi j hj hne he => hne (by
      obtain ⟨p, hp⟩ := hall i hi
      obtain ⟨q, hq⟩ := hall j hj
      rw [hp, hq] at he
      obtain rfl : p = q := by simpa using he
      exact hinj i hi j hj p hp hq))
    rw [putF_congr (pt' := fun j => some ((pt j).getD 0)) hget, Nat.zero_add]
    exact wpAnyX_of_two hp2 h2
  | succ n ih =>
    intro plan F listed pt a w w' hok hpa hwt hnb hnd hF' hnone hpt hinj hB hb hC h
    rw [show n + 1 + (r2.length + 2) = (n + (r2.length + 2)) + 1 by omega]
    match plan, hok, hpa, hwt, hnb, h with
    | [], hok, hpa, hwt, hnb, h =>
      simp only [flOKT, Bool.and_eq_true, List.all_eq_true, Bool.or_eq_true, Bool.not_eq_true', List.contains_eq_mem, decide_eq_true_eq, decide_eq_false_iff_not] at hok
      obtain ⟨⟨hne, hin⟩, hall⟩ := hok
      refine ⟨fun h0 => (by rw [h0] at hne; simp at hne), fun j hj => ?_⟩
      refine hfl n [] F listed pt a w w' (fun F' listed' pt' w2 h1 h2 h3 h4 h5 h6 h7 h8 h9 => ih [] F' listed' pt' a w w2 h1 hpa hwt hnb h2 h3 h4 h5 h6 h7 h8 h9 h) j (hin j hj) ?_ hnd hF' hnone hpt hinj hB hb hC
      rcases hall j (hin j hj) with h1 | h1
      · exact absurd hj h1
      · exact h1
    | (i, false) :: rest, hok, hpa, hwt, hnb, h =>
      simp only [flOKT, Bool.and_eq_true, List.contains_eq_mem, decide_eq_true_eq] at hok
      obtain ⟨⟨hfr, hrd⟩, hok⟩ := hok
      obtain ⟨o, v, ho, hst, h1⟩ := h
      simp only [planApart, List.all_cons, Bool.and_eq_true] at hpa
      rw [ho] at hpa
      have ho' : l.toArray[i]? = some o := by have := ho; rw [← nthO_eq] at this; simpa using this
      rw [waits, List.all_cons, Bool.and_eq_true] at hwt
      obtain ⟨hwt1, hwt⟩ := hwt
      have hgo := fun h1 => ih rest F (listed.setIfInBounds i true) pt (a.put o.dst v) w w' hok hpa.2 hwt (fun k hk => hnb k (List.mem_cons_of_mem _ hk)) hnd hF' hnone hpt hinj hB hb hC h1
      rw [putF_put hpa.1] at hgo
      have hst' := hst.of_same (a' := putF l pt F0 a) (putF_exec (fun cs b => hsel i o cs b ho) hpa.1) (putF_wanted hpa.1)
      refine wpAnyX_first ho' (Region.noSelect_spec hns) (fun k ok hok hne => ?_) _ _ _ _ (nthG_all (hCG _ hC) _) (Region.free_spec ho' hfr) hrd hst' (hgo h1)
      cases hk : bad.contains (k, CL.getD i 99) with
      | false => rfl
      | true =>
        exfalso
        simp only [Bool.false_or] at hwt1
        have h5 := List.all_eq_true.1 hwt1 (k, CL.getD i 99) (by simpa using hk)
        simp only [bne_self_eq_false, Bool.false_or] at h5
        rw [show nthO l k = some ok by rw [← nthO_eq]; simpa using hok] at h5
        obtain ⟨e, he, h6⟩ := Array.any_eq_true'.1 h5
        simp only [Bool.and_eq_true, beq_iff_eq] at h6
        exact hne e he h6.1 h6.2
    | (k, true) :: rest, hok, hpa, hwt, hnb, h =>
      have hpa0 := hpa
      have hwt0 := hwt
      simp only [waits, List.all_cons, Bool.true_or, Bool.true_and] at hwt
      have h0 := h
      simp only [flOKT, Bool.and_eq_true, List.all_eq_true, Bool.or_eq_true, Bool.not_eq_true', List.contains_eq_mem, decide_eq_true_eq, decide_eq_false_iff_not, beq_iff_eq] at hok
      obtain ⟨⟨⟨hne, hin⟩, hokk⟩, hall⟩ := hok
      obtain ⟨o, ho, h1⟩ := h
      simp only [planApart, List.all_cons, Bool.and_eq_true] at hpa
      rw [ho] at hpa
      have ho' : l.toArray[k]? = some o := by have := ho; rw [← nthO_eq] at this; simpa using this
      refine ⟨fun h0 => (by rw [h0] at hne; simp at hne), fun j hj => ?_⟩
      by_cases hjk : j = k
      · subst hjk
        unfold cOp
        rw [ho']
        simp only
        rw [putF_wanted hpa.1]
        split
        · rename_i hw
          simp only [hw, if_true] at h1
          have h2 := h1 w' hb hC
          unfold Calm at h2 ⊢
          rw [putF_exec (fun cs b => hsel j o cs b ho) hpa.1]
          have h3 : Calm P o a w' (fun v w'' => Keeps Gs bad j w' w'' ∧ wpAnyX P md l.toArray Gs bad Q (n + (r2.length + 2)) (listed.setIfInBounds j true) ((putF l pt F0 a).put o.dst v) w'') := by
            refine (show Calm P o a w' _ from h2).mono ?_
            rintro v w'' ⟨hb2, hC2, h4⟩
            refine ⟨fun g _ _ => nthG_all (hCG _ hC2) g, ?_⟩
            rw [← putF_put hpa.1]
            exact ih rest F _ pt _ w'' w'' hokk hpa.2 hwt (fun k hk => hnb k (List.mem_cons_of_mem _ hk)) hnd hF' hnone (fun i hi p hp => by
              obtain ⟨e1, e2, e3⟩ := hpt i hi p hp
              exact ⟨e1, Nat.lt_of_lt_of_le e2 hb2.size, by rw [hb2.block p e2]; exact e3⟩) hinj (Nat.le_trans hB hb2.size) (Below.refl _ _) hC2 h4
          exact h3
        · rename_i hw
          simp only [hw] at h1
          rw [← putF_put hpa.1]
          exact ih rest F _ pt _ w w' hokk hpa.2 hwt (fun k hk => hnb k (List.mem_cons_of_mem _ hk)) hnd hF' hnone hpt hinj hB hb hC h1
      · have hjF : j ∈ F := (hin j hj).resolve_left hjk
        refine hfl n ((k, true) :: rest) F listed pt a w w' (fun F' listed' pt' w2 h1 h2 h3 h4 h5 h6 h7 h8 h9 => ih ((k, true) :: rest) F' listed' pt' a w w2 h1 hpa0 hwt0 hnb h2 h3 h4 h5 h6 h7 h8 h9 h0) j hjF ?_ hnd hF' hnone hpt hinj hB hb hC
        rcases hall j hjF with h1 | h1
        · exact absurd hj h1
        · exact h1
theorem wpX_region_flT {Q : Act → World → Prop} {a : Act} {w : World} (plan1 : List (Nat × Bool)) (j2 k2 : Nat) (r2 : List Nat) (F0 : List Nat) (ob : Nat → Obj) (CL : List Nat) (bad : List (Nat × Nat)) (C : World → Prop) (Gs : List (World → Prop)) (hs : Region.noSelect l.toArray = true)
    (hlen : plan1.length + F0.length + (r2.length + 2) = l.length) (hok : flOKT .any l j2 k2 r2 (plan1.length + F0.length) (Array.replicate l.length false) plan1 F0 = true) (hpa : planApart l F0 plan1 = true) (hwt : waits .any l CL bad plan1 = true) (hnb : notBad bad plan1 F0 = true) (hsu : sundry l F0 = true) (hnd : F0.Nodup)
    (hl : ∀ j ∈ F0, Lays P l ob j) (hCa : ∀ w o, C w → C (w.alloc o)) (hCG : ∀ w, C w → ∀ G ∈ Gs, G w) (hC : C w.drew) (h : wpFl P l C Gs CL ob F0 w.drew.heap.size (wpTwo P l Gs bad Q j2 k2 r2) plan1 a w.drew) : wpAnyX P .any l.toArray Gs bad Q l.toArray.size (Array.replicate l.toArray.size false) a w.drew := by
  have hF0 : ∀ {F : List Nat} {a : Act}, putF l (fun _ => none) F a = a := by
    intro F
    induction F with
    | nil => intro a; rfl
    | cons j F ih =>
      intro a
      unfold putF
      split
      · rename_i h; cases h
      · exact ih
  have hb1 : ∀ k ∈ plan1, ∀ g, bad.contains (k.1, g) = false := fun k hk g => by
    cases h : bad.contains (k.1, g) with
    | false => rfl
    | true =>
      have h2 := List.all_eq_true.1 hnb (k.1, g) (by simpa using h)
      simp only [Bool.and_eq_true] at h2
      have h3 := List.all_eq_true.1 h2.1 k hk
      simp at h3
  have hb2 : ∀ j ∈ F0, ∀ g, bad.contains (j, g) = false := fun j hj g => by
    cases h : bad.contains (j, g) with
    | false => rfl
    | true =>
      have h2 := List.all_eq_true.1 hnb (j, g) (by simpa using h)
      simp only [Bool.and_eq_true, Bool.not_eq_true', List.contains_eq_mem, decide_eq_false_iff_not] at h2
      exact absurd hj h2.2
  have h1 := wpAnyC_of_flT (md := .any) hs hsu hl hCa hCG hb2 (plan1.length + F0.length) plan1 F0 (Array.replicate l.length false) (fun _ => none) a w.drew w.drew hok hpa hwt hb1 hnd (fun j hj => hj) (fun j hj => by simp [hj]) (fun j hj p hp => by cases hp) (fun i hi j hj p hp => by cases hp)
    (Nat.le_refl _) (Below.refl _ _) hC h
  rw [hF0] at h1
  rw [hlen] at h1
  simpa using h1
theorem wp_region_flT {id : Nat} {Q : Exit → Act → World → Prop} {a : Act} {w : World} (plan1 : List (Nat × Bool)) (j2 k2 : Nat) (r2 : List Nat) (F0 : List Nat) (ob : Nat → Obj) (CL : List Nat) (bad : List (Nat × Nat)) (C : World → Prop) (Gs : List (World → Prop)) (hm : P.follows .mixedOrders = true) (hs : Region.noSelect l.toArray = true)
    (hlen : plan1.length + F0.length + (r2.length + 2) = l.length) (hok : flOKT .any l j2 k2 r2 (plan1.length + F0.length) (Array.replicate l.length false) plan1 F0 = true) (hpa : planApart l F0 plan1 = true) (hwt : waits .any l CL bad plan1 = true) (hnb : notBad bad plan1 F0 = true) (hsu : sundry l F0 = true) (hnd : F0.Nodup)
    (hl : ∀ j ∈ F0, Lays P l ob j) (hCa : ∀ w o, C w → C (w.alloc o)) (hCG : ∀ w, C w → ∀ G ∈ Gs, G w) (hC : C w.drew) (h : wpFl P l C Gs CL ob F0 w.drew.heap.size (wpTwo P l Gs bad (Q .normal) j2 k2 r2) plan1 a w.drew) : (Code.region id l.toArray true).wp P Q a w :=
  (wpIn_wide (n := 0)).1 (show (Code.region id l.toArray true).wpIn (FW none) 0 P Q a w from wpIn_region_any hm (wpAnyIn_of_x (fun _ _ hq => hq) _ _ _ _ (wpX_region_flT plan1 j2 k2 r2 F0 ob CL bad C Gs hs hlen hok hpa hwt hnb hsu hnd hl hCa hCG hC h)))
end
section
variable {P : Program} {l : List Oper} {a : Act} {w : World}
theorem wp_region_f4T {id : Nat} {Q : Exit → Act → World → Prop} (plan1 : List (Nat × Bool)) (j2 k2 : Nat) (r2 : List Nat) (F0 : List Nat) (ob : Nat → Obj) (CL : List Nat) (bad : List (Nat × Nat)) {bs : List BkT} (hC : AllB bs w) (hl : ∀ j ∈ F0, Lays P l ob j)
    (h : ∀ w', Below w.heap.size w w' → wpFl P l (AllB bs) (bs.map BG) CL ob F0 w'.heap.size (wpTwo P l (bs.map BG) bad (Q .normal) j2 k2 r2) plan1 a w')
    (hm : P.follows .mixedOrders = true := by kernel_rfl) (hs : Region.noSelect l.toArray = true := by kernel_rfl)
    (hlen : plan1.length + F0.length + (r2.length + 2) = l.length := by kernel_rfl) (hok : flOKT .any l j2 k2 r2 (plan1.length + F0.length) (Array.replicate l.length false) plan1 F0 = true := by kernel_rfl) (hpa : planApart l F0 plan1 = true := by kernel_rfl) (hwt : waits .any l CL bad plan1 = true := by kernel_rfl) (hnb : notBad bad plan1 F0 = true := by kernel_rfl) (hsu : sundry l F0 = true := by kernel_rfl) (hnd : F0.Nodup := by decide) : (Code.region id l.toArray true).wp P Q a w :=
  wp_region_flT plan1 j2 k2 r2 F0 ob CL bad (AllB bs) (bs.map BG) hm hs hlen hok hpa hwt hnb hsu hnd hl (fun _ _ hC => hC.alloc) (fun _ hC => hC.get) (hC.bl (Below.refl _ _).drew) (h _ (Below.refl _ _).drew)
end
end Go.Proofs.YtnkimagnmnocdaaGreat

/- gdet: Minors. -/
namespace Go.Proofs.YtnkimagnmnocdaaGreat
open Go Go.RowKit Dig
set_option maxHeartbeats 4000000
set_option maxRecDepth 20000
set_option linter.unusedVariables false
set_option linter.unusedSimpArgs false
def mins (n W : Nat) (M : Nat → Nat → Int × Int) : List Int := (List.range (n + 1)).map fun k => (Dt.det k (gG W M)).1
theorem mins_pvz {n W r : Nat} {M : Nat → Nat → Int × Int} (hr : r ≤ n) (h0 : r = n ∨ Dt.det (r + 1) (gG W M) = 0) : ([1] ++ pvz (gG W M) r) ++ List.replicate (n - r) 0 = mins n W M := by
  unfold mins pvz
  refine List.ext_getElem (by simp; omega) fun i h1 h2 => ?_
  have hi : i ≤ n := by simp at h2; omega
  simp only [List.getElem_map, List.getElem_range]
  by_cases c : i ≤ r
  · rw [List.getElem_append_left (by simp; omega)]
    cases i with
    | zero => simp; rfl
    | succ i => simp
  · rw [List.getElem_append_right (by simp; omega)]
    simp only [List.getElem_replicate]
    rcases h0 with h0 | h0
    · omega
    · rw [gram_0s h0 (by omega)]; rfl
section
variable {w : World} {la n k L ca : Nat} {oa : Option Addr} {A : List (List (Int × Int))}
theorem minors_bad (ha : MN la w oa A) (hna : A.length = n) (h : ¬ gd A) (hla : n ≤ 1000000000) :
    Calls Tryz.prog 18 #[.slice oa n ca] w fun e w' => e = .returned (.tuple #[.slice none 0 0, .int .i64 4]) ∧ Below w.heap.size w w' := by
  have HA := hide ha
  have H := hide h
  clear ha h
  go_enter Tryz.func18, Tryz.ntmps18
  have hs := St.nil w
  refine wp_seq_k ?_
  intro K1 hK1
  refine rg [0, 1] ?_
  refine sq ?_
  refine .mv ?_
  refine sq ?_
  refine .mv ?_
  apply wpSq_end
  refine hK1 _ _ ?_
  refine wp_seq_k ?_
  intro K2 hK2
  refine rg [0, 1, 2, 3, 4, 5, 6, 7] ?_
  refine sq ?_
  refine .mv ?_
  refine sq ?_
  intro K hK
  have hb := hs.b
  go_big_op
  go_fit (mGram_bad (HA.out.bl stab_n hb) hna H.out hla)
  rintro e w_1 ⟨rfl, hb_1⟩
  clear hb
  replace hs := hs.bl hb_1
  refine hK _ _ rfl trivial ?_
  clear hK K
  refine sq ?_
  refine .mv ?_
  refine sq ?_
  refine .r0 ?_
  refine sq ?_
  refine .r0 ?_
  refine sq ?_
  refine .al hs ?_; clear hs; intro p_b1 w_2 hs n2 kb_b1
  refine sq ?_
  refine .s1 hs.g0 (fun _ => hs.u0 kb_b1) ?_; clear hs; intro w_3 hs hd3 ho3
  refine sq ?_
  refine .mv ?_
  apply wpSq_end
  refine hK2 _ _ ?_
  refine wp_seq_k ?_
  intro K3 hK3
  refine wp_seq_k ?_
  intro K4 hK4
  refine rg [0, 1] ?_
  refine sq ?_
  refine .mv ?_
  refine sq ?_
  refine .r0 ?_
  apply wpSq_end
  refine hK4 _ _ ?_
  refine ct ?_
  refine wp_seq_k ?_
  intro K5 hK5
  refine rg [0, 1, 2] ?_
  refine sq ?_
  refine .mv ?_
  refine sq ?_
  refine .mv ?_
  refine sq ?_
  refine .mv ?_
  apply wpSq_end
  refine hK5 _ _ ?_
  refine wp_ret ?_
  try dsimp only [Exit.then, Exit.inBlock]
  refine bodyPost_ret (v := (.tuple #[(.slice none 0 0), (.int .i64 4)])) (by simp [results, Tryz.results18, go_sem]) rfl ?_
  exact ⟨rfl, hs.b⟩
theorem minors_ok (ha : MN la w oa A) (hna : A.length = n) (h : gd A) (hk : wd A = k) (hB : MinB n n L (gG k (at2 A))) (hL : L ≤ 3000000) (hla : la ≤ 10000000) :
    Calls Tryz.prog 18 #[.slice oa n ca] w fun e w' => ∃ o c xs, e = .returned (.tuple #[.slice o (n + 1) c, .int .i64 0]) ∧ Lst w' w.heap.size 26 2 (.slice o (n + 1) c) (n + 1) xs ∧ ZL w' xs (mins n k (at2 A)) ∧ Below w.heap.size w w' := by
  have HA := hide ha
  have H := hide h
  have HK := hide hk
  have HB := hide hB.D
  have HRE := hide (fun m => real_2 (gG_real (W := k) (M := at2 A) m))
  have hn64 : n ≤ 64 := by have := h.1; omega
  clear ha h hk hB
  go_enter Tryz.func18, Tryz.ntmps18
  have hs := St.nil w
  refine wp_seq_k ?_
  intro K1 hK1
  refine rg [0, 1] ?_
  refine sq ?_
  refine .mv ?_
  refine sq ?_
  refine .mv ?_
  apply wpSq_end
  refine hK1 _ _ ?_
  refine wp_seq_k ?_
  intro K2 hK2
  refine rg [0, 1, 2, 3, 4, 5, 6, 7] ?_
  refine sq ?_
  refine .mv ?_
  refine sq ?_
  intro K hK
  have hb := hs.b
  go_big_op
  go_fit (mGram_ok (HA.out.bl stab_n hb) hna H.out HK.out hla)
  rintro e w_1 ⟨o_G, c_G, rs_G, rfl, hl_G, hs_G, d_G, hb_1⟩
  clear hb
  replace hs := hs.mx hl_G hs_G; simp only [List.nil_append] at hs
  refine hK _ _ rfl trivial ?_
  clear hK K
  refine sq ?_
  refine .mv ?_
  refine sq ?_
  refine .r0 ?_
  refine sq ?_
  refine .r0 ?_
  refine sq ?_
  refine .al hs ?_; clear hs; intro p_b1 w_2 hs n2 kb_b1
  refine sq ?_
  refine .s1 hs.g0 (fun _ => hs.u0 kb_b1) ?_; clear hs; intro w_3 hs hd3 ho3
  refine sq ?_
  refine .mv ?_
  apply wpSq_end
  refine hK2 _ _ ?_
  refine wp_seq_k ?_
  intro K3 hK3
  refine wp_seq_k ?_
  intro K4 hK4
  refine rg [0, 1] ?_
  refine sq ?_
  refine .mv ?_
  refine sq ?_
  refine .r0 ?_
  apply wpSq_end
  refine hK4 _ _ ?_
  refine cf ?_
  refine wp_skip ?_
  refine hK3 _ _ ?_
  refine wp_seq_k ?_
  intro K5 hK5
  refine wp_region_f4T [(2, false), (3, false), (0, true)] 1 4 [5, 6] [] (fun _ => default) [99, 99, 0, 99, 99, 99, 99] [] (.c hs.g0 .n) fn fun w_4 n4 => ?_
  replace hs := hs.bl n4
  refine f1 ?_
  refine f0 ?_
  refine fl fun w_5 n5 => ?_
  replace hs := hs.bl n5
  intro K hK
  go_big_op
  go_fit (from_any 1 _ (by decide) (by decide))
  rintro e w_6 ⟨v_u, rfl, u, hb_6⟩
  replace hs := hs.bl hb_6
  replace u := u.rd
  obtain ⟨n_u, o_u, k_u, c_u, rfl⟩ := u.open2
  refine hK _ _ rfl ⟨hb_6, (And.intro hs.g0 trivial)⟩ ?_
  clear hK K
  refine e0 hs ?_; clear hs; intro w_7 hs n7
  refine And.intro ?_ ?_
  · have HZ := True.intro
    refine tl ?_
    refine .al hs ?_ (e := fun _ _ hs _ => (And.intro hs.g1 True.intro)); clear hs; intro p_b2 w_8 hs n8 kb_b2
    have k6_8 := (kb n7).b n8
    replace u := u.k k6_8
    have hM : ZL w_8 [.bool n_u, .slice o_u k_u c_u] [1] := ⟨u, trivial⟩
    refine tl ?_
    intro K hK
    have k1_8 := ((((((kb n2).o hd3 ho3).b n4).b n5).b hb_6).b n7).b n8
    replace d_G := d_G.k k1_8
    go_big_op
    go_fit (elimZ_any (bs := [ls w.heap.size 26 2 (.slice (some ⟨p_b2, 0, none⟩) 1 1) 1 [.bool n_u, .slice o_u k_u c_u]]) ((St.lsOf (n := 1) (sz := 2) hs kb_b2 rfl rfl (by decide)).perm ((List.Perm.swap _ _ _).trans ((List.Perm.cons _ (List.Perm.swap _ _ _)).trans (List.Perm.swap _ _ _)))) kb_b1 entP_minors (pivZ_minors kb_b1 (by omega) HB.out hL HRE.out) hl_G d_G (by omega) (by omega) HRE.out HB.out hL)
    have bb9 := hs.b
    rintro e w_9 ⟨o9, c9, xs, r, F2, rs2, rfl, hrn, hF, hne, hL9, hl2, hd2, hs', kp9⟩
    clear hs; have hs := hs'; clear hs'
    have bc9 := hs.b
    clear bb9 bc9
    simp only [List.cons_append] at hs
    refine hK _ _ rfl (And.intro hs.g2 True.intro) ?_
    clear hK K
    refine tl ?_
    have k8_9 := kp9
    replace hM := hM.k k8_9
    have ho10 := hL9.one
    replace hM := hM.app hL9
    refine .aps 3 0 hs ho10 ?_ (eE := fun _ _ _ hs => (And.intro hs.g2 True.intro)); clear hs ho10; intro o_M_10 c_M_10 w_10 hs kp10 hw10; simp only [List.set_cons_succ, List.set_cons_zero] at hs
    refine tl ?_
    refine .mv ?_ (e := (And.intro hs.g2 True.intro))
    apply wpTail_end
    refine hK5 _ _ ?_
    refine wp_seq_k ?_
    intro K6 hK6
    refine rg [0, 1, 2, 3, 4, 5, 6, 7, 8, 9] ?_
    refine sq ?_
    refine .mv ?_
    refine sq ?_
    refine .r1 hs.g2.f1 ?_
    refine sq ?_
    refine .r0 ?_
    refine sq ?_
    refine .r0 ?_
    refine sq ?_
    refine .mv ?_
    refine sq ?_
    refine .r0 ?_
    refine sq ?_
    refine .r0 ?_
    refine sq ?_
    have k9_10 := kp10
    replace hM := hM.k k9_10
    replace hM := hM.app (ZL.zeros w_10 (n - r))
    refine .apz (zc := #[.bool false, .slice none 0 0]) (q := ((n : Int) + 1 - ((1 + r : Nat) : Int))) 3 (n - r) (by omega) hs ?_; clear hs; intro o_M_11 c_M_11 w_11 hs kp11 hw11; simp only [List.set_cons_succ, List.set_cons_zero] at hs
    refine sq ?_
    refine .mv ?_
    refine sq ?_
    refine .mv ?_
    apply wpSq_end
    refine hK6 _ _ ?_
    refine wp_ret ?_
    have HN := hide (show 1 + r + (n - r) = n + 1 by omega)
    have k10_11 := kp11
    replace hM := hM.k k10_11
    rw [mins_pvz hrn hF] at hM
    rw [← HN.out]
    try dsimp only [Exit.then, Exit.inBlock]
    refine bodyPost_ret (v := (.tuple #[(.slice o_M_11 ((1 + r) + (n - r)) c_M_11), (.int .i64 0)])) (by simp [results, Tryz.results18, go_sem]) rfl ?_
    exact ⟨_, _, _, rfl, hs.1.2.2.2.1.1, hM, hs.b⟩
  · have HZ := True.intro
    refine tl ?_
    intro K hK
    have k1_7 := (((((kb n2).o hd3 ho3).b n4).b n5).b hb_6).b n7
    replace d_G := d_G.k k1_7
    go_big_op
    go_fit (elimZ_any (bs := []) (hs.perm (List.Perm.swap _ _ _)) kb_b1 entP_minors (pivZ_minors kb_b1 (by omega) HB.out hL HRE.out) hl_G d_G (by omega) (by omega) HRE.out HB.out hL)
    have bb8 := hs.b
    rintro e w_8 ⟨o9, c9, xs, r, F2, rs2, rfl, hrn, hF, hne, hL9, hl2, hd2, hs', kp8⟩
    clear hs; have hs := hs'; clear hs'
    have bc8 := hs.b
    clear bb8 bc8
    refine hK _ _ rfl (And.intro hs.g2 True.intro) ?_
    clear hK K
    refine tl ?_
    refine .al hs ?_ (e := fun _ _ hs _ => (And.intro hs.g3 True.intro)); clear hs; intro p_b2 w_9 hs n9 kb_b2
    have k6_9 := ((kb n7).t kp8).b n9
    replace u := u.k k6_9
    have hM : ZL w_9 [.bool n_u, .slice o_u k_u c_u] [1] := ⟨u, trivial⟩
    replace hs := St.lsOf (n := 1) (sz := 2) hs kb_b2 rfl rfl (by decide)
    refine tl ?_
    have k8_9 := kb n9
    replace hL9 := hL9.k k8_9
    have ho10 := hL9.one
    replace hM := hM.app hL9
    refine .aps 0 1 hs ho10 ?_ (eE := fun _ _ _ hs => (And.intro hs.g3 True.intro)); clear hs ho10; intro o_M_10 c_M_10 w_10 hs kp10 hw10; simp only [List.set_cons_succ, List.set_cons_zero] at hs
    refine tl ?_
    refine .mv ?_ (e := (And.intro hs.g3 True.intro))
    apply wpTail_end
    refine hK5 _ _ ?_
    refine wp_seq_k ?_
    intro K6 hK6
    refine rg [0, 1, 2, 3, 4, 5, 6, 7, 8, 9] ?_
    refine sq ?_
    refine .mv ?_
    refine sq ?_
    refine .r1 hs.g3.f1 ?_
    refine sq ?_
    refine .r0 ?_
    refine sq ?_
    refine .r0 ?_
    refine sq ?_
    refine .mv ?_
    refine sq ?_
    refine .r0 ?_
    refine sq ?_
    refine .r0 ?_
    refine sq ?_
    have k9_10 := kp10
    replace hM := hM.k k9_10
    replace hM := hM.app (ZL.zeros w_10 (n - r))
    refine .apz (zc := #[.bool false, .slice none 0 0]) (q := ((n : Int) + 1 - ((1 + r : Nat) : Int))) 0 (n - r) (by omega) hs ?_; clear hs; intro o_M_11 c_M_11 w_11 hs kp11 hw11; simp only [List.set_cons_succ, List.set_cons_zero] at hs
    refine sq ?_
    refine .mv ?_
    refine sq ?_
    refine .mv ?_
    apply wpSq_end
    refine hK6 _ _ ?_
    refine wp_ret ?_
    have HN := hide (show 1 + r + (n - r) = n + 1 by omega)
    have k10_11 := kp11
    replace hM := hM.k k10_11
    rw [mins_pvz hrn hF] at hM
    rw [← HN.out]
    try dsimp only [Exit.then, Exit.inBlock]
    refine bodyPost_ret (v := (.tuple #[(.slice o_M_11 ((1 + r) + (n - r)) c_M_11), (.int .i64 0)])) (by simp [results, Tryz.results18, go_sem]) rfl ?_
    exact ⟨_, _, _, rfl, hs.1.1.1, hM, hs.b⟩
end
end Go.Proofs.YtnkimagnmnocdaaGreat

/- The reference's Round of longer numbers. -/
namespace Go.Proofs.YtnkimagnmnocdaaGreat
open Go Go.RowKit Dig
set_option linter.unusedVariables false
set_option maxHeartbeats 4000000 in
set_option maxRecDepth 20000 in
theorem rround_big {w : World} {va vb : Value} {x y : Int} {l m : Nat} (ha : ZN w va x l) (hb' : ZN w vb y m) (hl : l ≤ 40000000) (hm : m ≤ 20000000) (h0 : y ≠ 0) :
    Calls Tryz.prog 205 #[va, vb] w fun e w' => ∃ v1 v2, e = .returned (.tuple #[v1, v2]) ∧ ZC w' v1 (rnd x y) ∧ ZC w' v2 (x - rnd x y * y) ∧ Below w.heap.size w w' := by
  have LX2 := hide (zlen_add ha.len ha.len)
  have LS := hide (show (dig (x + x + y).natAbs).length ≤ l + 1 + m + 1 from zlen_add (show (dig (x + x).natAbs).length ≤ l + 1 by
    have := add_len x.natAbs
    rw [val_dig] at this
    rw [show (x + x).natAbs = x.natAbs + x.natAbs by omega]
    have := ha.len
    omega) hb'.len)
  have LY := hide (show (dig (y + y).natAbs).length ≤ m + 1 by
    have := add_len y.natAbs
    rw [val_dig] at this
    rw [show (y + y).natAbs = y.natAbs + y.natAbs by omega]
    have := hb'.len
    omega)
  have LN := hide (rnd_len h0 ha.len)
  have LM := hide (zlen_mul LN.out hb'.len)
  have EN := hide (show (x + x + y).fdiv (y + y) = rnd x y by unfold rnd; rw [show x + x + y = 2 * x + y by omega, show y + y = 2 * y by omega])
  have H0 := hide (show y + y ≠ 0 by omega)
  clear h0
  obtain ⟨na, oa, ca, xs, rfl, hca, _, _, hxl⟩ := ha.open_
  obtain ⟨nb, ob, cb, ys, rfl, hcb, _, _, hyl⟩ := hb'.open_
  go_enter Tryz.func205, Tryz.ntmps205
  have hb := Below.refl w.heap.size w
  have hp := Bk.new w na (.slice oa xs.length ca)
  replace ha := ha.alloc (.cells #[.bool na, (.slice oa xs.length ca)] 26)
  replace hb' := hb'.alloc (.cells #[.bool na, (.slice oa xs.length ca)] 26)
  replace hb := hb.alloc hb.size (.cells #[.bool na, (.slice oa xs.length ca)] 26)
  have hq := Bk.new (w.alloc (.cells #[.bool na, (.slice oa xs.length ca)] 26)) nb (.slice ob ys.length cb)
  simp only [Bk.size_alloc] at hq
  replace ha := ha.alloc (.cells #[.bool nb, (.slice ob ys.length cb)] 26)
  replace hb' := hb'.alloc (.cells #[.bool nb, (.slice ob ys.length cb)] 26)
  replace hp := hp.alloc (.cells #[.bool nb, (.slice ob ys.length cb)] 26)
  replace hb := hb.alloc hb.size (.cells #[.bool nb, (.slice ob ys.length cb)] 26)
  have hz1 := Bk.new ((w.alloc (.cells #[.bool na, (.slice oa xs.length ca)] 26)).alloc (.cells #[.bool nb, (.slice ob ys.length cb)] 26)) false (.slice none 0 0)
  simp only [Bk.size_alloc] at hz1
  replace ha := ha.alloc (.cells #[.bool false, (.slice none 0 0)] 26)
  replace hb' := hb'.alloc (.cells #[.bool false, (.slice none 0 0)] 26)
  replace hp := hp.alloc (.cells #[.bool false, (.slice none 0 0)] 26)
  replace hq := hq.alloc (.cells #[.bool false, (.slice none 0 0)] 26)
  replace hb := hb.alloc hb.size (.cells #[.bool false, (.slice none 0 0)] 26)
  have hz2 := Bk.new (((w.alloc (.cells #[.bool na, (.slice oa xs.length ca)] 26)).alloc (.cells #[.bool nb, (.slice ob ys.length cb)] 26)).alloc (.cells #[.bool false, (.slice none 0 0)] 26)) false (.slice none 0 0)
  simp only [Bk.size_alloc] at hz2
  replace ha := ha.alloc (.cells #[.bool false, (.slice none 0 0)] 26)
  replace hb' := hb'.alloc (.cells #[.bool false, (.slice none 0 0)] 26)
  replace hp := hp.alloc (.cells #[.bool false, (.slice none 0 0)] 26)
  replace hq := hq.alloc (.cells #[.bool false, (.slice none 0 0)] 26)
  replace hz1 := hz1.alloc (.cells #[.bool false, (.slice none 0 0)] 26)
  replace hb := hb.alloc hb.size (.cells #[.bool false, (.slice none 0 0)] 26)
  replace ha := ha.drew
  replace hb' := hb'.drew
  replace hp := hp.drew
  replace hq := hq.drew
  replace hz1 := hz1.drew
  replace hz2 := hz2.drew
  replace hb := hb.drew
  have lt_hp := hp.lt
  have lt_hq := hq.lt
  have lt_hz1 := hz1.lt
  have lt_hz2 := hz2.lt
  have kb0 := hb.size
  go_wp2_with fail
  refine wp_region_fl [(0, false), (2, false), (4, false), (1, true), (3, true), (5, true), (6, true), (7, false), (8, false), (9, false)] [12, 13] [10, 11] (fun _ => obZ) [0, 99, 1, 99, 1, 99, 99, 99, 99, 99, 99, 99, 99, 99] [] (fun w' => w'.cell? ⟨w.heap.size, 0, none⟩ = some (.bool na) ∧ w'.cell? ⟨w.heap.size, 1, none⟩ = some (.slice oa xs.length ca) ∧ w'.cell? ⟨w.heap.size + 1, 0, none⟩ = some (.bool nb) ∧ w'.cell? ⟨w.heap.size + 1, 1, none⟩ = some (.slice ob ys.length cb)) [fun w' => w'.cell? ⟨w.heap.size, 0, none⟩ = some (.bool na) ∧ w'.cell? ⟨w.heap.size, 1, none⟩ = some (.slice oa xs.length ca), fun w' => w'.cell? ⟨w.heap.size + 1, 0, none⟩ = some (.bool nb) ∧ w'.cell? ⟨w.heap.size + 1, 1, none⟩ = some (.slice ob ys.length cb)] (by kernel_rfl) (by kernel_rfl) (by kernel_rfl) (by kernel_rfl) (by kernel_rfl) (by kernel_rfl) (by kernel_rfl) (by kernel_rfl) (by decide) (by intro j hj; simp only [List.mem_cons, List.not_mem_nil, or_false] at hj; rcases hj with rfl | rfl; all_goals exact ⟨_, rfl, rfl, fun ρ w => run_alloc_z w⟩) (by intro w' o hC; obtain ⟨c0, c1, c2, c3⟩ := hC; exact ⟨cell_alloc c0 o, cell_alloc c1 o, cell_alloc c2 o, cell_alloc c3 o⟩) (by intro w' hC G hG; obtain ⟨c0, c1, c2, c3⟩ := hC; simp only [List.mem_cons, List.not_mem_nil, or_false] at hG; rcases hG with rfl | rfl <;> first | exact ⟨c0, c1⟩ | exact ⟨c2, c3⟩) ⟨hp.facts.1, hp.facts.2.1, hq.facts.1, hq.facts.2.1⟩ ?_
  apply wpFl_ld
  case hG => rfl
  case hi => rfl
  case h1 => intro w' hC K hK; obtain ⟨c0, c1⟩ := hC; (first | go_big_move | go_big_op); exact hK
  case hw => kernel_rfl
  case hv => kernel_rfl
  case hb => kernel_rfl
  case hp => kernel_rfl
  apply wpFl_ld
  case hG => rfl
  case hi => rfl
  case h1 => intro w' hC K hK; obtain ⟨c0, c1⟩ := hC; (first | go_big_move | go_big_op); exact hK
  case hw => kernel_rfl
  case hv => kernel_rfl
  case hb => kernel_rfl
  case hp => kernel_rfl
  apply wpFl_ld
  case hG => rfl
  case hi => rfl
  case h1 => intro w' hC K hK; obtain ⟨c0, c1⟩ := hC; (first | go_big_move | go_big_op); exact hK
  case hw => kernel_rfl
  case hv => kernel_rfl
  case hb => kernel_rfl
  case hp => kernel_rfl
  apply wpFl_call
  case hi => rfl
  case hw => kernel_rfl
  case h =>
  intro w_1 hn hC
  clear hC
  replace ha := ha.below hn (Nat.le_refl _)
  replace hb' := hb'.below hn (Nat.le_refl _)
  replace hp := hp.below hn (Nat.le_refl _)
  replace hq := hq.below hn (Nat.le_refl _)
  replace hz1 := hz1.below hn (Nat.le_refl _)
  replace hz2 := hz2.below hn (Nat.le_refl _)
  replace hb := tmm hb hn
  clear hn
  intro K hK
  have kb_2 := hb.size
  go_big_op
  go_fit (twice_any ha (by omega))
  rintro e w_2 ⟨v1, rfl, g1, hb_2⟩
  replace ha := ha.below hb_2 (Nat.le_refl _)
  replace hb' := hb'.below hb_2 (Nat.le_refl _)
  replace hp := hp.below hb_2 (Nat.le_refl _)
  replace hq := hq.below hb_2 (Nat.le_refl _)
  replace hz1 := hz1.below hb_2 (Nat.le_refl _)
  replace hz2 := hz2.below hb_2 (Nat.le_refl _)
  replace hb := tmm hb hb_2
  refine hK _ _ rfl hb_2 ⟨hp.facts.1, hp.facts.2.1, hq.facts.1, hq.facts.2.1⟩ ?_
  clear hK K hb_2
  apply wpFl_call
  case hi => rfl
  case hw => kernel_rfl
  case h =>
  intro w_3 hn hC
  clear hC
  replace ha := ha.below hn (Nat.le_refl _)
  replace hb' := hb'.below hn (Nat.le_refl _)
  replace hp := hp.below hn (Nat.le_refl _)
  replace hq := hq.below hn (Nat.le_refl _)
  replace hz1 := hz1.below hn (Nat.le_refl _)
  replace hz2 := hz2.below hn (Nat.le_refl _)
  replace g1 := g1.below hn (Nat.le_refl _)
  replace hb := tmm hb hn
  clear hn
  intro K hK
  have kb_4 := hb.size
  go_big_op
  go_fit (rzadd_any (g1.zn LX2.out) hb' (by omega) (by omega))
  rintro e w_4 ⟨v2, rfl, g2, hb_4⟩
  replace ha := ha.below hb_4 (Nat.le_refl _)
  replace hb' := hb'.below hb_4 (Nat.le_refl _)
  replace hp := hp.below hb_4 (Nat.le_refl _)
  replace hq := hq.below hb_4 (Nat.le_refl _)
  replace hz1 := hz1.below hb_4 (Nat.le_refl _)
  replace hz2 := hz2.below hb_4 (Nat.le_refl _)
  replace g1 := g1.below hb_4 (Nat.le_refl _)
  replace hb := tmm hb hb_4
  refine hK _ _ rfl hb_4 ⟨hp.facts.1, hp.facts.2.1, hq.facts.1, hq.facts.2.1⟩ ?_
  clear hK K hb_4
  replace g2 := g2.rd
  clear g1
  apply wpFl_call
  case hi => rfl
  case hw => kernel_rfl
  case h =>
  intro w_5 hn hC
  clear hC
  replace ha := ha.below hn (Nat.le_refl _)
  replace hb' := hb'.below hn (Nat.le_refl _)
  replace hp := hp.below hn (Nat.le_refl _)
  replace hq := hq.below hn (Nat.le_refl _)
  replace hz1 := hz1.below hn (Nat.le_refl _)
  replace hz2 := hz2.below hn (Nat.le_refl _)
  replace g2 := g2.below hn (Nat.le_refl _)
  replace hb := tmm hb hn
  clear hn
  intro K hK
  have kb_6 := hb.size
  go_big_op
  go_fit (twice_any hb' (by omega))
  rintro e w_6 ⟨v3, rfl, g3, hb_6⟩
  replace ha := ha.below hb_6 (Nat.le_refl _)
  replace hb' := hb'.below hb_6 (Nat.le_refl _)
  replace hp := hp.below hb_6 (Nat.le_refl _)
  replace hq := hq.below hb_6 (Nat.le_refl _)
  replace hz1 := hz1.below hb_6 (Nat.le_refl _)
  replace hz2 := hz2.below hb_6 (Nat.le_refl _)
  replace g2 := g2.below hb_6 (Nat.le_refl _)
  replace hb := tmm hb hb_6
  refine hK _ _ rfl hb_6 ⟨hp.facts.1, hp.facts.2.1, hq.facts.1, hq.facts.2.1⟩ ?_
  clear hK K hb_6
  apply wpFl_call
  case hi => rfl
  case hw => kernel_rfl
  case h =>
  intro w_7 hn hC
  clear hC
  replace ha := ha.below hn (Nat.le_refl _)
  replace hb' := hb'.below hn (Nat.le_refl _)
  replace hp := hp.below hn (Nat.le_refl _)
  replace hq := hq.below hn (Nat.le_refl _)
  replace hz1 := hz1.below hn (Nat.le_refl _)
  replace hz2 := hz2.below hn (Nat.le_refl _)
  replace g2 := g2.below hn (Nat.le_refl _)
  replace g3 := g3.below hn (Nat.le_refl _)
  replace hb := tmm hb hn
  clear hn
  intro K hK
  have kb_8 := hb.size
  go_big_op
  go_fit (rfloor_any (g2.zn LS.out) (g3.zn LY.out) (by omega) (by omega) H0.out)
  rintro e w_8 ⟨v4, v5, rfl, g4, g5, hb_8⟩
  replace ha := ha.below hb_8 (Nat.le_refl _)
  replace hb' := hb'.below hb_8 (Nat.le_refl _)
  replace hp := hp.below hb_8 (Nat.le_refl _)
  replace hq := hq.below hb_8 (Nat.le_refl _)
  replace hz1 := hz1.below hb_8 (Nat.le_refl _)
  replace hz2 := hz2.below hb_8 (Nat.le_refl _)
  replace g2 := g2.below hb_8 (Nat.le_refl _)
  replace g3 := g3.below hb_8 (Nat.le_refl _)
  replace hb := tmm hb hb_8
  refine hK _ _ rfl hb_8 ⟨hp.facts.1, hp.facts.2.1, hq.facts.1, hq.facts.2.1⟩ ?_
  clear hK K hb_8
  rw [EN.out] at g4
  clear g2
  clear g3
  apply wpFl_ld
  case hG => rfl
  case hi => rfl
  case h1 => intro w' hC K hK; clear hC; (first | go_big_move | go_big_op); exact hK
  case hw => kernel_rfl
  case hv => kernel_rfl
  case hb => kernel_rfl
  case hp => kernel_rfl
  apply wpFl_ld
  case hG => rfl
  case hi => rfl
  case h1 => intro w' hC K hK; clear hC; (first | go_big_move | go_big_op); exact hK
  case hw => kernel_rfl
  case hv => kernel_rfl
  case hb => kernel_rfl
  case hp => kernel_rfl
  apply wpFl_ld
  case hG => rfl
  case hi => rfl
  case h1 => intro w' hC K hK; clear hC; (first | go_big_move | go_big_op); exact hK
  case hw => kernel_rfl
  case hv => kernel_rfl
  case hb => kernel_rfl
  case hp => kernel_rfl
  apply wpFl_end
  case ha => intro pt; simp only [putF, nthO, Act.put, ptr, List.setIfInBounds_toArray, List.set_cons_succ, List.set_cons_zero]; rfl
  case h =>
  intro w_9 pt hn hC hF hD
  clear hC
  replace ha := ha.below hn (Nat.le_refl _)
  replace hb' := hb'.below hn (Nat.le_refl _)
  replace hp := hp.below hn (Nat.le_refl _)
  replace hq := hq.below hn (Nat.le_refl _)
  replace hz1 := hz1.below hn (Nat.le_refl _)
  replace hz2 := hz2.below hn (Nat.le_refl _)
  replace g4 := g4.below hn (Nat.le_refl _)
  replace g5 := g5.below hn (Nat.le_refl _)
  replace hb := tmm hb hn
  clear hn
  obtain ⟨kB_hz3, hz3⟩ := hF 10 (by decide)
  replace hz3 := obZ_bk hz3
  obtain ⟨kB_hz4, hz4⟩ := hF 11 (by decide)
  replace hz4 := obZ_bk hz4
  have ne_hz3_hz4 := hD 10 (by decide) 11 (by decide) (by decide)
  clear hF hD
  generalize pt 10 = p_hz3 at *
  generalize pt 11 = p_hz4 at *
  clear pt
  have kb_hz3 := Nat.le_trans kb0 kB_hz3
  have ne_hp_hz3 : w.heap.size ≠ p_hz3 := Nat.ne_of_lt (Nat.lt_of_lt_of_le lt_hp kB_hz3)
  have ne_hq_hz3 : w.heap.size + 1 ≠ p_hz3 := Nat.ne_of_lt (Nat.lt_of_lt_of_le lt_hq kB_hz3)
  have ne_hz1_hz3 : w.heap.size + 1 + 1 ≠ p_hz3 := Nat.ne_of_lt (Nat.lt_of_lt_of_le lt_hz1 kB_hz3)
  have ne_hz2_hz3 : w.heap.size + 1 + 1 + 1 ≠ p_hz3 := Nat.ne_of_lt (Nat.lt_of_lt_of_le lt_hz2 kB_hz3)
  clear kB_hz3
  have kb_hz4 := Nat.le_trans kb0 kB_hz4
  have ne_hp_hz4 : w.heap.size ≠ p_hz4 := Nat.ne_of_lt (Nat.lt_of_lt_of_le lt_hp kB_hz4)
  have ne_hq_hz4 : w.heap.size + 1 ≠ p_hz4 := Nat.ne_of_lt (Nat.lt_of_lt_of_le lt_hq kB_hz4)
  have ne_hz1_hz4 : w.heap.size + 1 + 1 ≠ p_hz4 := Nat.ne_of_lt (Nat.lt_of_lt_of_le lt_hz1 kB_hz4)
  have ne_hz2_hz4 : w.heap.size + 1 + 1 + 1 ≠ p_hz4 := Nat.ne_of_lt (Nat.lt_of_lt_of_le lt_hz2 kB_hz4)
  clear kB_hz4
  clear lt_hp
  clear lt_hq
  clear lt_hz1
  clear lt_hz2
  clear kb0
  obtain ⟨sb_hz3, o_hz3, n_hz3, c_hz3, rfl⟩ := g4.open2
  apply wpTail_call
  case hi => rfl
  case hw => kernel_rfl
  case h =>
  intro K hK
  have c9_ := hz3.facts
  go_big_op
  have ho := Bk.only w_9 (p_hz3) sb_hz3 (.slice o_hz3 n_hz3 c_hz3)
  have hbx_ := hz3.bx
  replace ha := ha.frame hbx_ ho
  replace hb' := hb'.frame hbx_ ho
  replace hp := hp.frame ho (by first | assumption | (apply Ne.symm; assumption) | (simp; done) | omega)
  replace hq := hq.frame ho (by first | assumption | (apply Ne.symm; assumption) | (simp; done) | omega)
  replace hz1 := hz1.frame ho (by first | assumption | (apply Ne.symm; assumption) | (simp; done) | omega)
  replace hz2 := hz2.frame ho (by first | assumption | (apply Ne.symm; assumption) | (simp; done) | omega)
  replace g4 := g4.frame hbx_ ho
  replace g5 := g5.frame hbx_ ho
  replace hz4 := hz4.frame ho (by first | assumption | (apply Ne.symm; assumption) | (simp; done) | omega)
  replace hz3 := hz3.store sb_hz3 (.slice o_hz3 n_hz3 c_hz3)
  replace hb := (hb.setCell (p := ⟨p_hz3, 0, none⟩) (show w.heap.size ≤ p_hz3 by first | assumption | (simp; done) | omega) (.bool sb_hz3)).setCell (p := ⟨p_hz3, 1, none⟩) (show w.heap.size ≤ p_hz3 by first | assumption | (simp; done) | omega) (.slice o_hz3 n_hz3 c_hz3)
  refine hK _ _ rfl (And.intro (And.intro hp.facts.1 hp.facts.2.1) (And.intro (And.intro hq.facts.1 hq.facts.2.1) True.intro)) ?_
  clear hK K hbx_ ho c9_
  obtain ⟨sb_hz4, o_hz4, n_hz4, c_hz4, rfl⟩ := g5.open2
  apply wpTail_call
  case hi => rfl
  case hw => kernel_rfl
  case h =>
  intro K hK
  have c9_ := hz4.facts
  go_big_op
  have ho := Bk.only ((w_9.setCell ⟨p_hz3, 0, none⟩ (.bool sb_hz3)).setCell ⟨p_hz3, 1, none⟩ (.slice o_hz3 n_hz3 c_hz3)) (p_hz4) sb_hz4 (.slice o_hz4 n_hz4 c_hz4)
  have hbx_ := hz4.bx
  replace ha := ha.frame hbx_ ho
  replace hb' := hb'.frame hbx_ ho
  replace hp := hp.frame ho (by first | assumption | (apply Ne.symm; assumption) | (simp; done) | omega)
  replace hq := hq.frame ho (by first | assumption | (apply Ne.symm; assumption) | (simp; done) | omega)
  replace hz1 := hz1.frame ho (by first | assumption | (apply Ne.symm; assumption) | (simp; done) | omega)
  replace hz2 := hz2.frame ho (by first | assumption | (apply Ne.symm; assumption) | (simp; done) | omega)
  replace g4 := g4.frame hbx_ ho
  replace g5 := g5.frame hbx_ ho
  replace hz3 := hz3.frame ho (by first | assumption | (apply Ne.symm; assumption) | (simp; done) | omega)
  replace hz4 := hz4.store sb_hz4 (.slice o_hz4 n_hz4 c_hz4)
  replace hb := (hb.setCell (p := ⟨p_hz4, 0, none⟩) (show w.heap.size ≤ p_hz4 by first | assumption | (simp; done) | omega) (.bool sb_hz4)).setCell (p := ⟨p_hz4, 1, none⟩) (show w.heap.size ≤ p_hz4 by first | assumption | (simp; done) | omega) (.slice o_hz4 n_hz4 c_hz4)
  refine hK _ _ rfl (And.intro (And.intro hp.facts.1 hp.facts.2.1) (And.intro (And.intro hq.facts.1 hq.facts.2.1) True.intro)) ?_
  clear hK K hbx_ ho c9_
  apply wpTail_end
  replace ha := ha.drew
  replace hb' := hb'.drew
  replace hp := hp.drew
  replace hq := hq.drew
  replace hz1 := hz1.drew
  replace hz2 := hz2.drew
  replace g4 := g4.drew
  replace g5 := g5.drew
  replace hz3 := hz3.drew
  replace hz4 := hz4.drew
  replace hb := hb.drew
  have lt_hp := hp.lt
  have lt_hq := hq.lt
  have lt_hz1 := hz1.lt
  have lt_hz2 := hz2.lt
  have lt_hz3 := hz3.lt
  have lt_hz4 := hz4.lt
  have kb0 := hb.size
  go_wp2_with fail
  refine wp_region_fl [(0, false), (1, false), (2, false), (3, false), (4, true), (5, true)] [6, 7] [] (fun _ => obZ) [2, 0, 2, 1, 99, 99, 99, 99] [] (fun w' => w'.cell? ⟨w.heap.size, 0, none⟩ = some (.bool na) ∧ w'.cell? ⟨w.heap.size, 1, none⟩ = some (.slice oa xs.length ca) ∧ w'.cell? ⟨w.heap.size + 1, 0, none⟩ = some (.bool nb) ∧ w'.cell? ⟨w.heap.size + 1, 1, none⟩ = some (.slice ob ys.length cb) ∧ w'.cell? ⟨p_hz3, 0, none⟩ = some (.bool sb_hz3) ∧ w'.cell? ⟨p_hz3, 1, none⟩ = some (.slice o_hz3 n_hz3 c_hz3)) [fun w' => w'.cell? ⟨w.heap.size, 0, none⟩ = some (.bool na) ∧ w'.cell? ⟨w.heap.size, 1, none⟩ = some (.slice oa xs.length ca), fun w' => w'.cell? ⟨w.heap.size + 1, 0, none⟩ = some (.bool nb) ∧ w'.cell? ⟨w.heap.size + 1, 1, none⟩ = some (.slice ob ys.length cb), fun w' => w'.cell? ⟨p_hz3, 0, none⟩ = some (.bool sb_hz3) ∧ w'.cell? ⟨p_hz3, 1, none⟩ = some (.slice o_hz3 n_hz3 c_hz3)] (by kernel_rfl) (by kernel_rfl) (by kernel_rfl) (by kernel_rfl) (by kernel_rfl) (by kernel_rfl) (by kernel_rfl) (by kernel_rfl) (by decide) (by intro j hj; cases hj) (by intro w' o hC; obtain ⟨c0, c1, c2, c3, c4, c5⟩ := hC; exact ⟨cell_alloc c0 o, cell_alloc c1 o, cell_alloc c2 o, cell_alloc c3 o, cell_alloc c4 o, cell_alloc c5 o⟩) (by intro w' hC G hG; obtain ⟨c0, c1, c2, c3, c4, c5⟩ := hC; simp only [List.mem_cons, List.not_mem_nil, or_false] at hG; rcases hG with rfl | rfl | rfl <;> first | exact ⟨c0, c1⟩ | exact ⟨c2, c3⟩ | exact ⟨c4, c5⟩) ⟨hp.facts.1, hp.facts.2.1, hq.facts.1, hq.facts.2.1, hz3.facts.1, hz3.facts.2.1⟩ ?_
  apply wpFl_ld
  case hG => rfl
  case hi => rfl
  case h1 => intro w' hC K hK; obtain ⟨c0, c1⟩ := hC; (first | go_big_move | go_big_op); exact hK
  case hw => kernel_rfl
  case hv => kernel_rfl
  case hb => kernel_rfl
  case hp => kernel_rfl
  apply wpFl_ld
  case hG => rfl
  case hi => rfl
  case h1 => intro w' hC K hK; obtain ⟨c0, c1⟩ := hC; (first | go_big_move | go_big_op); exact hK
  case hw => kernel_rfl
  case hv => kernel_rfl
  case hb => kernel_rfl
  case hp => kernel_rfl
  apply wpFl_ld
  case hG => rfl
  case hi => rfl
  case h1 => intro w' hC K hK; obtain ⟨c0, c1⟩ := hC; (first | go_big_move | go_big_op); exact hK
  case hw => kernel_rfl
  case hv => kernel_rfl
  case hb => kernel_rfl
  case hp => kernel_rfl
  apply wpFl_ld
  case hG => rfl
  case hi => rfl
  case h1 => intro w' hC K hK; obtain ⟨c0, c1⟩ := hC; (first | go_big_move | go_big_op); exact hK
  case hw => kernel_rfl
  case hv => kernel_rfl
  case hb => kernel_rfl
  case hp => kernel_rfl
  apply wpFl_call
  case hi => rfl
  case hw => kernel_rfl
  case h =>
  intro w_10 hn hC
  clear hC
  replace ha := ha.below hn (Nat.le_refl _)
  replace hb' := hb'.below hn (Nat.le_refl _)
  replace hp := hp.below hn (Nat.le_refl _)
  replace hq := hq.below hn (Nat.le_refl _)
  replace hz1 := hz1.below hn (Nat.le_refl _)
  replace hz2 := hz2.below hn (Nat.le_refl _)
  replace g4 := g4.below hn (Nat.le_refl _)
  replace g5 := g5.below hn (Nat.le_refl _)
  replace hz3 := hz3.below hn (Nat.le_refl _)
  replace hz4 := hz4.below hn (Nat.le_refl _)
  replace hb := tmm hb hn
  clear hn
  intro K hK
  have kb_11 := hb.size
  go_big_op
  go_fit (rzmul_any (g4.zn LN.out) hb' (by omega) (by omega))
  rintro e w_11 ⟨v6, rfl, g6, hb_11⟩
  replace ha := ha.below hb_11 (Nat.le_refl _)
  replace hb' := hb'.below hb_11 (Nat.le_refl _)
  replace hp := hp.below hb_11 (Nat.le_refl _)
  replace hq := hq.below hb_11 (Nat.le_refl _)
  replace hz1 := hz1.below hb_11 (Nat.le_refl _)
  replace hz2 := hz2.below hb_11 (Nat.le_refl _)
  replace g4 := g4.below hb_11 (Nat.le_refl _)
  replace g5 := g5.below hb_11 (Nat.le_refl _)
  replace hz3 := hz3.below hb_11 (Nat.le_refl _)
  replace hz4 := hz4.below hb_11 (Nat.le_refl _)
  replace hb := tmm hb hb_11
  refine hK _ _ rfl hb_11 ⟨hp.facts.1, hp.facts.2.1, hq.facts.1, hq.facts.2.1, hz3.facts.1, hz3.facts.2.1⟩ ?_
  clear hK K hb_11
  replace g6 := g6.rd
  apply wpFl_call
  case hi => rfl
  case hw => kernel_rfl
  case h =>
  intro w_12 hn hC
  clear hC
  replace ha := ha.below hn (Nat.le_refl _)
  replace hb' := hb'.below hn (Nat.le_refl _)
  replace hp := hp.below hn (Nat.le_refl _)
  replace hq := hq.below hn (Nat.le_refl _)
  replace hz1 := hz1.below hn (Nat.le_refl _)
  replace hz2 := hz2.below hn (Nat.le_refl _)
  replace g4 := g4.below hn (Nat.le_refl _)
  replace g5 := g5.below hn (Nat.le_refl _)
  replace hz3 := hz3.below hn (Nat.le_refl _)
  replace hz4 := hz4.below hn (Nat.le_refl _)
  replace g6 := g6.below hn (Nat.le_refl _)
  replace hb := tmm hb hn
  clear hn
  intro K hK
  have kb_13 := hb.size
  go_big_op
  go_fit (rzsub_any ha (g6.zn LM.out) (by omega) (by omega))
  rintro e w_13 ⟨v7, rfl, g7, hb_13⟩
  replace ha := ha.below hb_13 (Nat.le_refl _)
  replace hb' := hb'.below hb_13 (Nat.le_refl _)
  replace hp := hp.below hb_13 (Nat.le_refl _)
  replace hq := hq.below hb_13 (Nat.le_refl _)
  replace hz1 := hz1.below hb_13 (Nat.le_refl _)
  replace hz2 := hz2.below hb_13 (Nat.le_refl _)
  replace g4 := g4.below hb_13 (Nat.le_refl _)
  replace g5 := g5.below hb_13 (Nat.le_refl _)
  replace hz3 := hz3.below hb_13 (Nat.le_refl _)
  replace hz4 := hz4.below hb_13 (Nat.le_refl _)
  replace g6 := g6.below hb_13 (Nat.le_refl _)
  replace hb := tmm hb hb_13
  refine hK _ _ rfl hb_13 ⟨hp.facts.1, hp.facts.2.1, hq.facts.1, hq.facts.2.1, hz3.facts.1, hz3.facts.2.1⟩ ?_
  clear hK K hb_13
  replace g7 := g7.rd
  apply wpFl_end
  case ha => intro pt; simp only [putF]; rfl
  case h =>
  intro w_14 pt hn hC hF hD
  clear hC
  replace ha := ha.below hn (Nat.le_refl _)
  replace hb' := hb'.below hn (Nat.le_refl _)
  replace hp := hp.below hn (Nat.le_refl _)
  replace hq := hq.below hn (Nat.le_refl _)
  replace hz1 := hz1.below hn (Nat.le_refl _)
  replace hz2 := hz2.below hn (Nat.le_refl _)
  replace g4 := g4.below hn (Nat.le_refl _)
  replace g5 := g5.below hn (Nat.le_refl _)
  replace hz3 := hz3.below hn (Nat.le_refl _)
  replace hz4 := hz4.below hn (Nat.le_refl _)
  replace g6 := g6.below hn (Nat.le_refl _)
  replace g7 := g7.below hn (Nat.le_refl _)
  replace hb := tmm hb hn
  clear hn
  clear hF hD
  clear lt_hp
  clear lt_hq
  clear lt_hz1
  clear lt_hz2
  clear lt_hz3
  clear lt_hz4
  clear kb0
  apply wpTail_call
  case hi => rfl
  case hw => kernel_rfl
  case h =>
  intro K hK
  have c9_ := hz1.facts
  go_big_op
  have ho := Bk.only w_14 (w.heap.size + 1 + 1) sb_hz3 (.slice o_hz3 n_hz3 c_hz3)
  have hbx_ := hz1.bx
  replace ha := ha.frame hbx_ ho
  replace hb' := hb'.frame hbx_ ho
  replace hp := hp.frame ho (by first | assumption | (apply Ne.symm; assumption) | (simp; done) | omega)
  replace hq := hq.frame ho (by first | assumption | (apply Ne.symm; assumption) | (simp; done) | omega)
  replace hz2 := hz2.frame ho (by first | assumption | (apply Ne.symm; assumption) | (simp; done) | omega)
  replace g4 := g4.frame hbx_ ho
  replace g5 := g5.frame hbx_ ho
  replace hz3 := hz3.frame ho (by first | assumption | (apply Ne.symm; assumption) | (simp; done) | omega)
  replace hz4 := hz4.frame ho (by first | assumption | (apply Ne.symm; assumption) | (simp; done) | omega)
  replace g6 := g6.frame hbx_ ho
  replace g7 := g7.frame hbx_ ho
  replace hz1 := hz1.store sb_hz3 (.slice o_hz3 n_hz3 c_hz3)
  replace hb := (hb.setCell (p := ⟨w.heap.size + 1 + 1, 0, none⟩) (show w.heap.size ≤ w.heap.size + 1 + 1 by first | assumption | (simp; done) | omega) (.bool sb_hz3)).setCell (p := ⟨w.heap.size + 1 + 1, 1, none⟩) (show w.heap.size ≤ w.heap.size + 1 + 1 by first | assumption | (simp; done) | omega) (.slice o_hz3 n_hz3 c_hz3)
  refine hK _ _ rfl (And.intro (And.intro hp.facts.1 hp.facts.2.1) (And.intro (And.intro hq.facts.1 hq.facts.2.1) (And.intro (And.intro hz3.facts.1 hz3.facts.2.1) True.intro))) ?_
  clear hK K hbx_ ho c9_
  obtain ⟨sb_hz2, o_hz2, n_hz2, c_hz2, rfl⟩ := g7.open2
  apply wpTail_call
  case hi => rfl
  case hw => kernel_rfl
  case h =>
  intro K hK
  have c9_ := hz2.facts
  go_big_op
  have ho := Bk.only ((w_14.setCell ⟨w.heap.size + 1 + 1, 0, none⟩ (.bool sb_hz3)).setCell ⟨w.heap.size + 1 + 1, 1, none⟩ (.slice o_hz3 n_hz3 c_hz3)) (w.heap.size + 1 + 1 + 1) sb_hz2 (.slice o_hz2 n_hz2 c_hz2)
  have hbx_ := hz2.bx
  replace ha := ha.frame hbx_ ho
  replace hb' := hb'.frame hbx_ ho
  replace hp := hp.frame ho (by first | assumption | (apply Ne.symm; assumption) | (simp; done) | omega)
  replace hq := hq.frame ho (by first | assumption | (apply Ne.symm; assumption) | (simp; done) | omega)
  replace hz1 := hz1.frame ho (by first | assumption | (apply Ne.symm; assumption) | (simp; done) | omega)
  replace g4 := g4.frame hbx_ ho
  replace g5 := g5.frame hbx_ ho
  replace hz3 := hz3.frame ho (by first | assumption | (apply Ne.symm; assumption) | (simp; done) | omega)
  replace hz4 := hz4.frame ho (by first | assumption | (apply Ne.symm; assumption) | (simp; done) | omega)
  replace g6 := g6.frame hbx_ ho
  replace g7 := g7.frame hbx_ ho
  replace hz2 := hz2.store sb_hz2 (.slice o_hz2 n_hz2 c_hz2)
  replace hb := (hb.setCell (p := ⟨w.heap.size + 1 + 1 + 1, 0, none⟩) (show w.heap.size ≤ w.heap.size + 1 + 1 + 1 by first | assumption | (simp; done) | omega) (.bool sb_hz2)).setCell (p := ⟨w.heap.size + 1 + 1 + 1, 1, none⟩) (show w.heap.size ≤ w.heap.size + 1 + 1 + 1 by first | assumption | (simp; done) | omega) (.slice o_hz2 n_hz2 c_hz2)
  refine hK _ _ rfl (And.intro (And.intro hp.facts.1 hp.facts.2.1) (And.intro (And.intro hq.facts.1 hq.facts.2.1) (And.intro (And.intro hz3.facts.1 hz3.facts.2.1) True.intro))) ?_
  clear hK K hbx_ ho c9_
  apply wpTail_end
  have f1 := hz1.facts
  have f2 := hz2.facts
  go_wp2
  refine bodyPost_ret (v := .tuple #[.agg #[.bool sb_hz3, .slice o_hz3 n_hz3 c_hz3], .agg #[.bool sb_hz2, .slice o_hz2 n_hz2 c_hz2]]) (by simp [results, Tryz.results205, go_sem, f1.1, f1.2.1, f2.1, f2.2.1]) rfl ?_
  exact ⟨_, _, rfl, g4, g7, hb⟩
end Go.Proofs.YtnkimagnmnocdaaGreat

/- The reference's Exact, where it divides. -/
namespace Go.Proofs.YtnkimagnmnocdaaGreat
open Go Go.RowKit Dig
set_option maxHeartbeats 4000000
set_option maxRecDepth 20000
set_option linter.unusedVariables false
theorem rnd_mul {N z : Int} (h : 0 < N) : rnd (N * z) N = z := by
  unfold rnd
  have e : 2 * (N * z) + N = N + (2 * N) * z := by grind
  rw [e, Int.add_mul_fdiv_left _ _ (by omega), Int.fdiv_eq_ediv_of_nonneg _ (by omega), Int.ediv_eq_zero_of_lt (by omega) (by omega), Int.zero_add]
theorem gQ_div {q z : Int × Int} (h0 : gN q.1 q.2 ≠ 0) : gQ1 (mP q z).1 (mP q z).2 q.1 q.2 = z.1 ∧ gQ2 (mP q z).1 (mP q z).2 q.1 q.2 = z.2 := by
  have hp : 0 < gN q.1 q.2 := by have := gN_nonneg q.1 q.2; omega
  have e1 : gT1 (mP q z).1 (mP q z).2 q.1 q.2 = gN q.1 q.2 * z.1 := by unfold gT1 mP gN; grind
  have e2 : gT2 (mP q z).1 (mP q z).2 q.1 q.2 = gN q.1 q.2 * z.2 := by unfold gT2 mP gN; grind
  unfold gQ1 gQ2
  rw [e1, e2, rnd_mul hp, rnd_mul hp]
  exact ⟨rfl, rfl⟩
theorem gR_div {q z : Int × Int} (h0 : gN q.1 q.2 ≠ 0) : gR1 (mP q z).1 (mP q z).2 q.1 q.2 = 0 ∧ gR2 (mP q z).1 (mP q z).2 q.1 q.2 = 0 := by
  unfold gR1 gR2
  rw [(gQ_div h0).1, (gQ_div h0).2]
  unfold mP
  constructor <;> (simp only []; grind)
section
variable {w : World} {va vb : Value} {x y u v : Int} {l m k n : Nat} {q z : Int × Int}
theorem rgRoundX (ha : PN w va x l y m) (hq : PN w vb u k v n) (hl : l ≤ 9000000) (hm : m ≤ 9000000) (hk : k ≤ 4500000) (hn : n ≤ 4500000) (h0 : gN u v ≠ 0) :
    Calls Tryz.prog 180 #[va, vb] w fun e w' => ∃ r s, e = .returned (.tuple #[r, s]) ∧ PC w' r (gQ1 x y u v) (gQ2 x y u v) ∧ PC w' s (gR1 x y u v) (gR2 x y u v) ∧ Below w.heap.size w w' := by
  have H0 := hide h0
  clear h0
  unfold gR1 gR2 gQ1 gQ2 gT1 gT2
  obtain ⟨n_0a, o_0a, k_0a, c_0a, n_0b, o_0b, k_0b, c_0b, rfl, ha1, ha2⟩ := ha
  obtain ⟨n_1a, o_1a, k_1a, c_1a, n_1b, o_1b, k_1b, c_1b, rfl, hq1, hq2⟩ := hq
  go_enter Tryz.func180, Tryz.ntmps180
  have hs := St.nil w
  refine wp_seq_k ?_
  intro K1 hK1
  refine rg [0, 1, 2, 3] ?_
  refine sq ?_
  refine .al hs ?_; clear hs; intro p_b1 w_1 hs n1 kb_b1
  refine sq ?_
  refine .al hs ?_; clear hs; intro p_b2 w_2 hs n2 kb_b2
  refine sq ?_
  refine .al hs ?_; clear hs; intro p_b3 w_3 hs n3 kb_b3
  refine sq ?_
  refine .al hs ?_; clear hs; intro p_b4 w_4 hs n4 kb_b4
  apply wpSq_end
  refine hK1 _ _ ?_
  refine wp_seq_k ?_
  intro K2 hK2
  refine rg [0, 1, 2, 3] ?_
  refine sq ?_
  refine .r4 hs.g2.f4 ?_
  refine sq ?_
  intro K hK
  have k0_4 := (((kb n1).b n2).b n3).b n4
  replace hq1 := hq1.k k0_4
  replace hq2 := hq2.k k0_4
  go_big_op
  go_fit (rgNorm_any (PN.mk' hq1 hq2) (by omega) (by omega) )
  rintro e w_5 ⟨v_g2, rfl, g2, hb_5⟩
  replace hs := hs.bl hb_5
  obtain ⟨n_g2, o_g2, k_g2, c_g2, rfl⟩ := g2.open2
  have Lg2 := hide (g2.lenOf (zlen_add (zlen_mul (hq1.len) (hq1.len)) (zlen_mul (hq2.len) (hq2.len))))
  refine hK _ _ rfl trivial ?_
  clear hK K
  refine sq ?_
  refine .al hs ?_; clear hs; intro p_b5 w_6 hs n6 kb_b5
  refine sq ?_
  refine .s2 hs.g0 (fun _ => hs.u0 kb_b5) ?_; clear hs; intro w_7 hs hd7 ho7
  apply wpSq_end
  refine hK2 _ _ ?_
  refine wp_seq_k ?_
  intro K3 hK3
  refine wp_region_f4 [(0, false), (1, false), (2, true), (3, true)] [5] [4] (fun j => (.cells #[.bool false, .slice none 0 0, .bool false, .slice none 0 0] 28)) [0, 1, 99, 99, 99, 99] [] (.c hs.g4 (.c hs.g3 .n)) (fm fn) fun w_8 n8 => ?_
  replace hs := hs.bl n8
  have hlB := hs.lt; have hkB := hs.k
  refine f4 ?_
  refine f4 ?_
  refine fl fun w_9 n9 => ?_
  replace hs := hs.bl n9
  intro K hK
  have k4_9 := ((((kb hb_5).b n6).o hd7 ho7).b n8).b n9
  replace hq1 := hq1.k k4_9
  replace hq2 := hq2.k k4_9
  go_big_op
  go_fit (rgConj_any (PN.mk' hq1 hq2) (by omega) (by omega) )
  rintro e w_10 ⟨_, rfl, ⟨n_g1a, o_g1a, k_g1a, c_g1a, n_g1b, o_g1b, k_g1b, c_g1b, rfl, g11, g12⟩, hb_10⟩
  replace hs := hs.bl hb_10
  have Lg11 := hide (g11.lenOf ((hq1.len)))
  have Lg12 := hide (g12.lenOf (zlen_neg (hq2.len)))
  refine hK _ _ rfl ⟨hb_10, (And.intro hs.g4 (And.intro hs.g3 trivial))⟩ ?_
  clear hK K
  refine fl fun w_11 n11 => ?_
  replace hs := hs.bl n11
  intro K hK
  have k0_11 := ((((((k0_4.b hb_5).b n6).o hd7 ho7).b n8).b n9).b hb_10).b n11
  replace ha1 := ha1.k k0_11
  replace ha2 := ha2.k k0_11
  have k10_11 := kb n11
  replace g11 := g11.k k10_11
  replace g12 := g12.k k10_11
  go_big_op
  go_fit (rgMul_any (PN.mk' ha1 ha2) (PN.mk' (g11.zn Lg11.out) (g12.zn Lg12.out)) (by omega) (by omega) (by omega) (by omega) )
  rintro e w_12 ⟨_, rfl, ⟨n_g0a, o_g0a, k_g0a, c_g0a, n_g0b, o_g0b, k_g0b, c_g0b, rfl, g01, g02⟩, hb_12⟩
  replace hs := hs.bl hb_12
  have Lg01 := hide (g01.lenOf (zlen_sub (zlen_mul (ha1.len) (Lg11.out)) (zlen_mul (ha2.len) (Lg12.out))))
  have Lg02 := hide (g02.lenOf (zlen_add (zlen_mul (ha1.len) (Lg12.out)) (zlen_mul (ha2.len) (Lg11.out))))
  refine hK _ _ rfl ⟨hb_12, (And.intro hs.g4 (And.intro hs.g3 trivial))⟩ ?_
  clear hK K
  refine e1 hs hlB hkB ?_; clear hs hlB hkB; intro w_13 p_b6 hs n13 kb_b6
  refine tl ?_
  refine .s4 hs.g0 (fun _ => hs.u0 kb_b6) ?_ (e := fun _ hs => (And.intro hs.g5 (And.intro hs.g4 True.intro))); clear hs; intro w_14 hs hd14 ho14
  apply wpTail_end
  refine hK3 _ _ ?_
  refine wp_seq_k ?_
  intro K4 hK4
  refine rg [0, 1, 2, 3, 4, 5, 6, 7, 8, 9, 10] ?_
  refine sq ?_
  refine .r0 ?_
  refine sq ?_
  refine .r4 hs.g0.f4 ?_
  refine sq ?_
  refine .r2 hs.g1.f2 ?_
  refine sq ?_
  intro K hK
  have k12_14 := (kb n13).o hd14 ho14
  replace g01 := g01.k k12_14
  have k5_14 := ((((((((kb n6).o hd7 ho7).b n8).b n9).b hb_10).b n11).b hb_12).b n13).o hd14 ho14
  replace g2 := g2.k k5_14
  go_big_op
  go_fit (rround_big (g01.zn Lg01.out) (g2.zn Lg2.out) (by omega) (by omega) H0.out)
  rintro e w_15 ⟨v_g3, v_g4, rfl, g3, g4, hb_15⟩
  replace hs := hs.bl hb_15
  obtain ⟨n_g3, o_g3, k_g3, c_g3, rfl⟩ := g3.open2
  obtain ⟨n_g4, o_g4, k_g4, c_g4, rfl⟩ := g4.open2
  have Lg3 := hide (g3.lenOf (rnd_len (H0.out) (Lg01.out)))
  refine hK _ _ rfl trivial ?_
  clear hK K
  refine sq ?_
  refine .mv ?_
  refine sq ?_
  refine .r0 ?_
  refine sq ?_
  refine .r0 ?_
  refine sq ?_
  refine .al hs ?_; clear hs; intro p_b7 w_16 hs n16 kb_b7
  refine sq ?_
  refine .al hs ?_; clear hs; intro p_b8 w_17 hs n17 kb_b8
  refine sq ?_
  refine .s2 hs.g1 (fun _ => hs.u1 kb_b7) ?_; clear hs; intro w_18 hs hd18 ho18
  refine sq ?_
  refine .s2 hs.g0 (fun _ => hs.u0 kb_b8) ?_; clear hs; intro w_19 hs hd19 ho19
  apply wpSq_end
  refine hK4 _ _ ?_
  refine wp_seq_k ?_
  intro K5 hK5
  refine rg [0, 1, 2, 3, 4, 5, 6, 7, 8, 9, 10] ?_
  refine sq ?_
  refine .r0 ?_
  refine sq ?_
  refine .r4 hs.g2.f4 ?_
  refine sq ?_
  refine .r2 hs.g3.f2 ?_
  refine sq ?_
  intro K hK
  have k12_19 := ((((k12_14.b hb_15).b n16).b n17).o hd18 ho18).o hd19 ho19
  replace g02 := g02.k k12_19
  have k14_19 := ((((kb hb_15).b n16).b n17).o hd18 ho18).o hd19 ho19
  replace g2 := g2.k k14_19
  go_big_op
  go_fit (rround_big (g02.zn Lg02.out) (g2.zn Lg2.out) (by omega) (by omega) H0.out)
  rintro e w_20 ⟨v_g5, v_g6, rfl, g5, g6, hb_20⟩
  replace hs := hs.bl hb_20
  obtain ⟨n_g5, o_g5, k_g5, c_g5, rfl⟩ := g5.open2
  obtain ⟨n_g6, o_g6, k_g6, c_g6, rfl⟩ := g6.open2
  have Lg5 := hide (g5.lenOf (rnd_len (H0.out) (Lg02.out)))
  refine hK _ _ rfl trivial ?_
  clear hK K
  refine sq ?_
  refine .mv ?_
  refine sq ?_
  refine .r0 ?_
  refine sq ?_
  refine .r0 ?_
  refine sq ?_
  refine .al hs ?_; clear hs; intro p_b9 w_21 hs n21 kb_b9
  clear g11 g12 g01 g4 g2 g02
  refine sq ?_
  refine .al hs ?_; clear hs; intro p_b10 w_22 hs n22 kb_b10
  refine sq ?_
  refine .s2 hs.g1 (fun _ => hs.u1 kb_b9) ?_; clear hs; intro w_23 hs hd23 ho23
  refine sq ?_
  refine .s2 hs.g0 (fun _ => hs.u0 kb_b10) ?_; clear hs; intro w_24 hs hd24 ho24
  apply wpSq_end
  refine hK5 _ _ ?_
  refine wp_seq_k ?_
  intro K6 hK6
  refine rg [0, 1, 2, 3, 4] ?_
  refine sq ?_
  refine .r2 hs.g3.f2 ?_
  refine sq ?_
  refine .r2 hs.g1.f2 ?_
  refine sq ?_
  refine .r0 ?_
  refine sq ?_
  refine .al hs ?_; clear hs; intro p_b11 w_25 hs n25 kb_b11
  refine sq ?_
  refine .s4 hs.g0 (fun _ => hs.u0 kb_b11) ?_; clear hs; intro w_26 hs hd26 ho26
  apply wpSq_end
  refine hK6 _ _ ?_
  refine wp_seq_k ?_
  intro K7 hK7
  refine wp_region_f4 [(0, false), (1, false), (2, false), (3, false), (4, true), (5, true)] [6, 7] [] (fun _ => default) [0, 1, 0, 2, 99, 99, 99, 99] [] (.c hs.g0 (.c hs.g10 (.c hs.g9 .n))) fn fun w_27 n27 => ?_
  replace hs := hs.bl n27
  refine f4 ?_
  refine f4 ?_
  refine f4 ?_
  refine f4 ?_
  refine fl fun w_28 n28 => ?_
  replace hs := hs.bl n28
  intro K hK
  have k15_28 := ((((((((((((kb n16).b n17).o hd18 ho18).o hd19 ho19).b hb_20).b n21).b n22).o hd23 ho23).o hd24 ho24).b n25).o hd26 ho26).b n27).b n28
  replace g3 := g3.k k15_28
  have k20_28 := (((((((kb n21).b n22).o hd23 ho23).o hd24 ho24).b n25).o hd26 ho26).b n27).b n28
  replace g5 := g5.k k20_28
  have k9_28 := ((((((((((((((((((kb hb_10).b n11).b hb_12).b n13).o hd14 ho14).b hb_15).b n16).b n17).o hd18 ho18).o hd19 ho19).b hb_20).b n21).b n22).o hd23 ho23).o hd24 ho24).b n25).o hd26 ho26).b n27).b n28
  replace hq1 := hq1.k k9_28
  replace hq2 := hq2.k k9_28
  go_big_op
  go_fit (rgMul_any (PN.mk' (g3.zn Lg3.out) (g5.zn Lg5.out)) (PN.mk' hq1 hq2) (by omega) (by omega) (by omega) (by omega) )
  rintro e w_29 ⟨_, rfl, ⟨n_g7a, o_g7a, k_g7a, c_g7a, n_g7b, o_g7b, k_g7b, c_g7b, rfl, g71, g72⟩, hb_29⟩
  replace hs := hs.bl hb_29
  have Lg71 := hide (g71.lenOf (zlen_sub (zlen_mul (Lg3.out) (hq1.len)) (zlen_mul (Lg5.out) (hq2.len))))
  have Lg72 := hide (g72.lenOf (zlen_add (zlen_mul (Lg3.out) (hq2.len)) (zlen_mul (Lg5.out) (hq1.len))))
  refine hK _ _ rfl ⟨hb_29, (And.intro hs.g0 (And.intro hs.g10 (And.intro hs.g9 trivial)))⟩ ?_
  clear hK K
  refine fl fun w_30 n30 => ?_
  replace hs := hs.bl n30
  intro K hK
  have k11_30 := ((((((((((((((((((kb hb_12).b n13).o hd14 ho14).b hb_15).b n16).b n17).o hd18 ho18).o hd19 ho19).b hb_20).b n21).b n22).o hd23 ho23).o hd24 ho24).b n25).o hd26 ho26).b n27).b n28).b hb_29).b n30
  replace ha1 := ha1.k k11_30
  replace ha2 := ha2.k k11_30
  have k29_30 := kb n30
  replace g71 := g71.k k29_30
  replace g72 := g72.k k29_30
  go_big_op
  go_fit (rgSub_any (PN.mk' ha1 ha2) (PN.mk' (g71.zn Lg71.out) (g72.zn Lg72.out)) (by omega) (by omega) (by omega) (by omega) )
  rintro e w_31 ⟨_, rfl, ⟨n_g8a, o_g8a, k_g8a, c_g8a, n_g8b, o_g8b, k_g8b, c_g8b, rfl, g81, g82⟩, hb_31⟩
  replace hs := hs.bl hb_31
  refine hK _ _ rfl ⟨hb_31, (And.intro hs.g0 (And.intro hs.g10 (And.intro hs.g9 trivial)))⟩ ?_
  clear hK K
  refine e0 hs ?_; clear hs; intro w_32 hs n32
  refine tl ?_
  refine .s4 hs.g8 (fun _ => hs.u8 kb_b3) ?_ (e := fun _ hs => (And.intro hs.g0 (And.intro hs.g10 (And.intro hs.g9 True.intro)))); clear hs; intro w_33 hs hd33 ho33
  refine tl ?_
  refine .s4 hs.g7 (fun _ => hs.u7 kb_b4) ?_ (e := fun _ hs => (And.intro hs.g0 (And.intro hs.g10 (And.intro hs.g9 True.intro)))); clear hs; intro w_34 hs hd34 ho34
  apply wpTail_end
  refine hK7 _ _ ?_
  refine wp_ret ?_
  try dsimp only [Exit.then, Exit.inBlock]
  obtain ⟨r0_0, r0_1, r0_2, r0_3⟩ := hs.g8.f4
  obtain ⟨r4_0, r4_1, r4_2, r4_3⟩ := hs.g7.f4
  refine bodyPost_ret (v := (.tuple #[(.agg #[.bool n_g3, .slice o_g3 k_g3 c_g3, .bool n_g5, .slice o_g5 k_g5 c_g5]), (.agg #[.bool n_g8a, .slice o_g8a k_g8a c_g8a, .bool n_g8b, .slice o_g8b k_g8b c_g8b])])) (by simp [results, Tryz.results180, go_sem, r0_0, r0_1, r0_2, r0_3, r4_0, r4_1, r4_2, r4_3]) rfl ?_
  have k28_34 := (((((kb hb_29).b n30).b hb_31).b n32).o hd33 ho33).o hd34 ho34
  replace g3 := g3.k k28_34
  replace g5 := g5.k k28_34
  have k31_34 := ((kb n32).o hd33 ho33).o hd34 ho34
  replace g81 := g81.k k31_34
  replace g82 := g82.k k31_34
  exact ⟨_, _, rfl, .mk' g3 g5, .mk' g81 g82, hs.b⟩
theorem rgRound_div (ha : PN w va (mP q z).1 l (mP q z).2 m) (hq : PN w vb q.1 k q.2 n) (hl : l ≤ 9000000) (hm : m ≤ 9000000) (hk : k ≤ 4500000) (hn : n ≤ 4500000) (h0 : gN q.1 q.2 ≠ 0) :
    Calls Tryz.prog 180 #[va, vb] w fun e w' => ∃ r s, e = .returned (.tuple #[r, s]) ∧ PC w' r z.1 z.2 ∧ PC w' s 0 0 ∧ Below w.heap.size w w' := by
  have := rgRoundX ha hq hl hm hk hn h0
  rw [(gQ_div h0).1, (gQ_div h0).2, (gR_div h0).1, (gR_div h0).2] at this
  exact this
theorem rgExact_div (ha : PN w va (mP q z).1 l (mP q z).2 m) (hq : PN w vb q.1 k q.2 n) (hl : l ≤ 9000000) (hm : m ≤ 9000000) (hk : k ≤ 4500000) (hn : n ≤ 4500000) (h0 : gN q.1 q.2 ≠ 0) :
    Calls Tryz.prog 121 #[va, vb] w fun e w' => ∃ r, e = .returned (.tuple #[r, .bool true]) ∧ PC w' r z.1 z.2 ∧ Below w.heap.size w w' := by
  have HC := hide (fun (w1 : World) (va : Value) (h1 : PN w1 va (mP q z).1 l (mP q z).2 m) (vb : Value) (h2 : PN w1 vb q.1 k q.2 n) => rgRound_div h1 h2 hl hm hk hn h0)
  clear h0
  obtain ⟨X, hX⟩ : ∃ X, (mP q z).1 = X := ⟨_, rfl⟩
  obtain ⟨Y, hY⟩ : ∃ Y, (mP q z).2 = Y := ⟨_, rfl⟩
  obtain ⟨U, hU⟩ : ∃ U, q.1 = U := ⟨_, rfl⟩
  obtain ⟨V, hV⟩ : ∃ V, q.2 = V := ⟨_, rfl⟩
  rw [hX, hY] at ha HC
  rw [hU, hV] at hq HC
  clear hX hY hU hV
  obtain ⟨n_0a, o_0a, k_0a, c_0a, n_0b, o_0b, k_0b, c_0b, rfl, ha1, ha2⟩ := ha
  obtain ⟨n_1a, o_1a, k_1a, c_1a, n_1b, o_1b, k_1b, c_1b, rfl, hq1, hq2⟩ := hq
  go_enter Tryz.func121, Tryz.ntmps121
  have hs := St.nil w
  refine wp_seq_k ?_
  intro K1 hK1
  refine rg [0, 1, 2, 3] ?_
  refine sq ?_
  refine .al hs ?_; clear hs; intro p_b1 w_1 hs n1 kb_b1
  refine sq ?_
  refine .al hs ?_; clear hs; intro p_b2 w_2 hs n2 kb_b2
  refine sq ?_
  refine .al hs ?_; clear hs; intro p_b3 w_3 hs n3 kb_b3
  refine sq ?_
  refine .mv ?_
  apply wpSq_end
  refine hK1 _ _ ?_
  refine wp_seq_k ?_
  intro K2 hK2
  refine rg [0, 1, 2, 3, 4, 5, 6, 7, 8, 9] ?_
  refine sq ?_
  refine .r4 hs.g2.f4 ?_
  refine sq ?_
  refine .r4 hs.g1.f4 ?_
  refine sq ?_
  intro K hK
  have k0_3 := ((kb n1).b n2).b n3
  replace ha1 := ha1.k k0_3
  replace ha2 := ha2.k k0_3
  replace hq1 := hq1.k k0_3
  replace hq2 := hq2.k k0_3
  go_big_op
  go_fit (HC.out _ _ (.mk' ha1 ha2) _ (.mk' hq1 hq2))
  rintro e w_4 ⟨_, _, rfl, ⟨n_ra, o_ra, k_ra, c_ra, n_rb, o_rb, k_rb, c_rb, rfl, r1, r2⟩, ⟨n_sa, o_sa, k_sa, c_sa, n_sb, o_sb, k_sb, c_sb, rfl, s1, s2⟩, hb_4⟩
  replace hs := hs.bl hb_4
  have Ls1 := hide (s1.lenOf (zlen_0))
  have Ls2 := hide (s2.lenOf (zlen_0))
  refine hK _ _ rfl trivial ?_
  clear hK K
  refine sq ?_
  refine .mv ?_
  refine sq ?_
  refine .r0 ?_
  refine sq ?_
  refine .r0 ?_
  refine sq ?_
  refine .al hs ?_; clear hs; intro p_b4 w_5 hs n5 kb_b4
  refine sq ?_
  refine .al hs ?_; clear hs; intro p_b5 w_6 hs n6 kb_b5
  refine sq ?_
  refine .s4 hs.g1 (fun _ => hs.u1 kb_b4) ?_; clear hs; intro w_7 hs hd7 ho7
  refine sq ?_
  refine .s4 hs.g0 (fun _ => hs.u0 kb_b5) ?_; clear hs; intro w_8 hs hd8 ho8
  apply wpSq_end
  refine hK2 _ _ ?_
  refine wp_seq_k ?_
  intro K3 hK3
  refine wp_region_f4 [(0, false), (1, false), (2, true)] [3, 4] [] (fun _ => default) [0, 1, 99, 99, 99] [] (.c hs.g1 (.c hs.g0 .n)) fn fun w_9 n9 => ?_
  replace hs := hs.bl n9
  refine f4 ?_
  refine f4 ?_
  refine fl fun w_10 n10 => ?_
  replace hs := hs.bl n10
  intro K hK
  have k4_10 := (((((kb n5).b n6).o hd7 ho7).o hd8 ho8).b n9).b n10
  replace s1 := s1.k k4_10
  replace s2 := s2.k k4_10
  go_big_op
  go_fit (rgNull_yes (.mk' (s1.zn Ls1.out) (s2.zn Ls2.out)) (by decide) (by decide))
  rintro e w_11 ⟨rfl, hb_11⟩
  replace hs := hs.bl hb_11
  refine hK _ _ rfl ⟨hb_11, (And.intro hs.g1 (And.intro hs.g0 trivial))⟩ ?_
  clear hK K
  refine e0 hs ?_; clear hs; intro w_12 hs n12
  refine tl ?_
  refine .s4 hs.g2 (fun _ => hs.u2 kb_b3) ?_ (e := fun _ hs => (And.intro hs.g1 (And.intro hs.g0 True.intro))); clear hs; intro w_13 hs hd13 ho13
  refine tl ?_
  refine .mv ?_ (e := (And.intro hs.g1 (And.intro hs.g0 True.intro)))
  apply wpTail_end
  refine hK3 _ _ ?_
  refine wp_ret ?_
  try dsimp only [Exit.then, Exit.inBlock]
  obtain ⟨r0_0, r0_1, r0_2, r0_3⟩ := hs.g2.f4
  refine bodyPost_ret (v := (.tuple #[(.agg #[.bool n_ra, .slice o_ra k_ra c_ra, .bool n_rb, .slice o_rb k_rb c_rb]), (.bool true)])) (by simp [results, Tryz.results121, go_sem, r0_0, r0_1, r0_2, r0_3]) rfl ?_
  have k4_13 := ((k4_10.b hb_11).b n12).o hd13 ho13
  replace r1 := r1.k k4_13
  replace r2 := r2.k k4_13
  exact ⟨_, rfl, .mk' r1 r2, hs.b⟩
end
end Go.Proofs.YtnkimagnmnocdaaGreat

/- The reference's elimination: what stands from column to column. -/
namespace Go.Proofs.YtnkimagnmnocdaaGreat
open Go Go.RowKit Dig
set_option linter.unusedVariables false
section
variable {n W c k p i j : Nat} {A0 A F : Nat → Nat → Int × Int} {g : Nat → Nat} {odd : Bool}
def Pmr (n : Nat) (A0 A : Nat → Nat → Int × Int) : Prop := ∃ u u' : Nat → Nat, (∀ i j, A i j = A0 (u i) j) ∧ ∀ i, (i < n → u i < n ∧ u' i < n) ∧ u (u' i) = i ∧ u' (u i) = i
theorem Pmr.swr (hp : Pmr n A0 A) (hi : i < n) (hk : k < n) : Pmr n A0 (fun r q => A (swr i k r) q) := by
  obtain ⟨u, u', hA, hu⟩ := hp
  refine ⟨fun r => u (Go.Proofs.YtnkimagnmnocdaaGreat.swr i k r), fun r => Go.Proofs.YtnkimagnmnocdaaGreat.swr i k (u' r), fun r q => hA _ _, fun r => ⟨fun hr => ⟨((hu _).1 (swr_lt hi hk hr)).1, swr_lt hi hk ((hu r).1 hr).2⟩, ?_, ?_⟩⟩
  · simp only [swr_inv]; exact (hu r).2.1
  · simp only [(hu _).2.2, swr_inv]
structure EInv (n W : Nat) (A0 : Nat → Nat → Int × Int) (c k : Nat) (A F : Nat → Nat → Int × Int) (g : Nat → Nat) (odd : Bool) : Prop where
  kn : k ≤ n
  kc : k ≤ c
  cW : c ≤ W
  mono : ∀ x, x < k → g x < c ∧ ∀ y, y < x → g y < g x
  dne : Dt.det k (fun r x => A r (g x)) ≠ 0
  pm : Pmr n A0 A
  sgn : Dt.det n A = sgb odd (Dt.det n A0)
  low : ∀ q, q < c → ∀ r, r < n → Dt.Dg k A g r q = 0
  tab : ∀ r, k ≤ r → r < n → ∀ q, c ≤ q → q < W → F r q = Dt.Dg k A g r q
theorem EInv.start : EInv n W A0 0 0 A0 A0 id false :=
  ⟨Nat.zero_le _, Nat.le_refl _, Nat.zero_le _, fun x hx => absurd hx (Nat.not_lt_zero _), one_ne, ⟨id, id, fun _ _ => rfl, fun i => ⟨fun h => ⟨h, h⟩, rfl, rfl⟩⟩, rfl, fun q hq => absurd hq (Nat.not_lt_zero _), fun r _ _ q _ _ => Dt.Dg_0.symm⟩
theorem EInv.skip (h : EInv n W A0 c k A F g odd) (hc : c < W) (hz : ∀ r, k ≤ r → r < n → F r c = (0, 0)) : EInv n W A0 (c + 1) k A F g odd :=
  ⟨h.kn, by have := h.kc; omega, hc, fun x hx => ⟨by have := (h.mono x hx).1; omega, (h.mono x hx).2⟩, h.dne, h.pm, h.sgn, fun q hq r hr => by
    rcases Nat.lt_or_ge q c with e | e
    · exact h.low q e r hr
    · obtain rfl : q = c := by omega
      by_cases e2 : r < k
      · exact Dt.Dg_row0 e2
      · rw [← h.tab r (by omega) hr q (Nat.le_refl _) hc]; exact hz r (by omega) hr,
    fun r h1 h2 q h3 h4 => h.tab r h1 h2 q (by omega) h4⟩
def gup (g : Nat → Nat) (k c x : Nat) : Nat := if x = k then c else g x
theorem gup_k : gup g k c k = c := by unfold gup; rw [if_pos rfl]
theorem gup_lt {x : Nat} (hx : x < k) : gup g k c x = g x := by unfold gup; rw [if_neg (by omega)]
theorem Dg_gup {r q : Nat} : Dt.Dg k A (gup g k c) r q = Dt.Dg k A g r q := by
  unfold Dt.Dg Dt.D
  refine Dt.det_congr fun x _ y hy => ?_
  have : Dt.gx k (gup g k c) q (Dt.bord k k y) = Dt.gx k g q (Dt.bord k k y) := by
    unfold Dt.gx
    split
    · rename_i h; rw [gup_lt h]
    · rfl
  show A _ _ = A _ _
  rw [this]
theorem Dg_swr (hp : k ≤ p) {r q : Nat} : Dt.Dg k (fun r q => A (swr p k r) q) g r q = Dt.Dg k A g (swr p k r) q := by
  unfold Dt.Dg Dt.D
  refine Dt.det_congr fun x _ y _ => ?_
  show A (swr p k (Dt.bord k r x)) _ = A (Dt.bord k (swr p k r) x) _
  congr 1
  unfold Dt.bord
  by_cases h : x < k
  · rw [if_pos h, if_pos h, swr_low hp h]
  · rw [if_neg h, if_neg h]
theorem Dg_col0 {x r : Nat} (hx : x < k) : Dt.Dg k A g r (g x) = 0 := by
  unfold Dt.Dg Dt.D
  refine Dt.det_coleq (c1 := x) (c2 := k) hx (by omega) fun i _ => ?_
  have e1 : Dt.gx k g (g x) (Dt.bord k k x) = g x := by unfold Dt.gx Dt.bord; rw [if_pos hx, if_pos hx]
  have e2 : Dt.gx k g (g x) (Dt.bord k k k) = g x := by unfold Dt.gx Dt.bord; rw [if_neg (Nat.lt_irrefl _), if_neg (Nat.lt_irrefl _)]
  show A _ _ = A _ _
  rw [e1, e2]
def Gel (k c : Nat) (A : Nat → Nat → Int × Int) (g : Nat → Nat) (F : Nat → Nat → Int × Int) (i j : Nat) : Nat → Nat → Int × Int := fun p q =>
  if k < p ∧ ((p < i ∧ c ≤ q) ∨ (p = i ∧ c < q ∧ q < j)) then (if q = c then (0, 0) else Dt.Dg (k + 1) A g p q) else F p q
theorem Gel_0 {n W : Nat} : mkM n W F = mkM n W (Gel k c A g F (k + 1) (c + 1)) := mkM_eq rfl rfl fun p _ q _ => by unfold Gel; rw [if_neg (by omega)]
theorem Gel_here : Gel k c A g F i j i j = F i j := by unfold Gel; rw [if_neg (by omega)]
theorem Gel_c : Gel k c A g F i j i c = F i c := by unfold Gel; rw [if_neg (by omega)]
theorem Gel_up {q : Nat} : Gel k c A g F i j k q = F k q := by unfold Gel; rw [if_neg (by omega)]
theorem Gel_step (hi : k < i) (hj : c < j) : upd (Gel k c A g F i j) i j (Dt.Dg (k + 1) A g i j) = Gel k c A g F i (j + 1) := by
  funext p q
  unfold upd Gel
  by_cases h : p = i ∧ q = j
  · rw [if_pos h, if_pos (by omega), if_neg (by omega), h.1, h.2]
  · rw [if_neg h]
    by_cases h2 : k < p ∧ ((p < i ∧ c ≤ q) ∨ (p = i ∧ c < q ∧ q < j))
    · have h3 : k < p ∧ ((p < i ∧ c ≤ q) ∨ (p = i ∧ c < q ∧ q < j + 1)) := by omega
      rw [if_pos h2, if_pos h3]
    · rw [if_neg h2, if_neg (by omega)]
theorem Gel_row {n W : Nat} (hi : k < i) : mkM n W (upd (Gel k c A g F i W) i c (0, 0)) = mkM n W (Gel k c A g F (i + 1) (c + 1)) := mkM_eq rfl rfl fun p _ q hq => by
  unfold upd Gel
  by_cases h : p = i ∧ q = c
  · rw [if_pos h, if_pos (by omega), if_pos h.2]
  · rw [if_neg h]
    by_cases h2 : k < p ∧ ((p < i ∧ c ≤ q) ∨ (p = i ∧ c < q ∧ q < W))
    · have h3 : k < p ∧ ((p < i + 1 ∧ c ≤ q) ∨ (p = i + 1 ∧ c < q ∧ q < c + 1)) := by omega
      rw [if_pos h2, if_pos h3]
    · rw [if_neg h2, if_neg (by omega)]
theorem det_row_swr (hi : i < n) (hk : k < n) (h : Dt.det n A = sgb odd (Dt.det n A0)) : Dt.det n (fun r q => A (swr i k r) q) = sgb (odd != decide (i ≠ k)) (Dt.det n A0) := by
  by_cases e : i = k
  · subst e
    have e2 : Dt.det n (fun r q => A (swr i i r) q) = Dt.det n A := Dt.det_congr fun r _ q _ => by
      have : swr i i r = r := by unfold swr; split <;> omega
      rw [this]
    rw [e2, h]; cases odd <;> simp
  · rw [show Dt.det n (fun r q => A (swr i k r) q) = - Dt.det n A from (Dt.alt_det (R := Int × Int) (n := n)).swap e hi hk A, h]
    simp only [sgb_eq]
    cases odd <;> simp [e] <;> grind
structure EMid (n W : Nat) (A0 : Nat → Nat → Int × Int) (c k : Nat) (A F : Nat → Nat → Int × Int) (g : Nat → Nat) (odd : Bool) : Prop where
  kn : k < n
  kc : k ≤ c
  cW : c < W
  mono : ∀ x, x < k → g x < c ∧ ∀ y, y < x → g y < g x
  gk : g k = c
  dne : Dt.det k (fun r x => A r (g x)) ≠ 0
  pne : F k c ≠ (0, 0)
  pm : Pmr n A0 A
  sgn : Dt.det n A = sgb odd (Dt.det n A0)
  low : ∀ q, q < c → ∀ r, r < n → Dt.Dg k A g r q = 0
  tab : ∀ r, k ≤ r → r < n → ∀ q, c ≤ q → q < W → F r q = Dt.Dg k A g r q
theorem EInv.mid (h : EInv n W A0 c k A F g odd) (hc : c < W) (hp : k ≤ p) (hpn : p < n) (hne : F p c ≠ (0, 0)) : EMid n W A0 c k (fun r q => A (swr p k r) q) (fun r q => F (swr p k r) q) (gup g k c) (odd != decide (p ≠ k)) := by
  have hd : Dt.det k (fun r x => A (swr p k r) (gup g k c x)) = Dt.det k (fun r x => A r (g x)) := Dt.det_congr fun r hr x hx => by rw [swr_low hp hr, gup_lt hx]
  refine ⟨by omega, h.kc, hc, fun x hx => ?_, gup_k, by rw [hd]; exact h.dne, by rw [swr_k]; exact hne, h.pm.swr hpn (by omega), det_row_swr hpn (by omega) h.sgn, fun q hq r hr => ?_, fun r h1 h2 q h3 h4 => ?_⟩
  · rw [gup_lt hx]; exact ⟨(h.mono x hx).1, fun y hy => by rw [gup_lt (by omega)]; exact (h.mono x hx).2 y hy⟩
  · rw [Dg_gup, Dg_swr hp]; exact h.low q hq _ (swr_lt hpn (by omega) hr)
  · rw [Dg_gup, Dg_swr hp]
    exact h.tab _ (by unfold swr; split <;> (try split) <;> omega) (swr_lt hpn (by omega) h2) q h3 h4
theorem EMid.div (h : EMid n W A0 c k A F g odd) (hi : k < i) (hin : i < n) (hj : c < j) (hjW : j < W) : sP (mP (F i j) (F k c)) (mP (F i c) (F k j)) = mP (Dt.det k fun r x => A r (g x)) (Dt.Dg (k + 1) A g i j) := by
  have h2 := Dt.stepG noz (k := k) (A := A) (g := g) (i := i) (j := j) h.dne
  rw [h.gk, ← h.tab k (Nat.le_refl _) h.kn c (Nat.le_refl _) h.cW, ← h.tab i (by omega) hin j (by omega) hjW, ← h.tab i (by omega) hin c (Nat.le_refl _) h.cW, ← h.tab k (Nat.le_refl _) h.kn j (by omega) hjW] at h2
  show F i j * F k c - F i c * F k j = Dt.det k (fun r x => A r (g x)) * Dt.Dg (k + 1) A g i j
  rw [h2]; grind
theorem EMid.last (h : EMid n W A0 c k A F g odd) : Dt.det (k + 1) (fun r x => A r (g x)) = F k c := by
  rw [← Dt.Dg_diag, h.gk, ← h.tab k (Nat.le_refl _) h.kn c (Nat.le_refl _) h.cW]
theorem EMid.next (h : EMid n W A0 c k A F g odd) : EInv n W A0 (c + 1) (k + 1) A (Gel k c A g F n (c + 1)) g odd := by
  refine ⟨h.kn, by have := h.kc; omega, h.cW, fun x hx => ?_, by rw [h.last]; exact h.pne, h.pm, h.sgn, fun q hq r hr => ?_, fun r h1 h2 q h3 h4 => by unfold Gel; rw [if_pos (by omega), if_neg (by omega)]⟩
  · by_cases e : x = k
    · subst e; rw [h.gk]; exact ⟨by omega, fun y hy => (h.mono y hy).1⟩
    · have := h.mono x (by omega); exact ⟨by omega, this.2⟩
  · rcases Nat.lt_or_ge q c with e | e
    · exact Dt.Dg_zero noz (h := n - 1) h.dne (fun i hi => h.low q e i (by have := h.kn; omega)) (by have := h.kn; omega) (by omega)
    · obtain rfl : q = g k := by rw [h.gk]; omega
      exact Dg_col0 (Nat.lt_succ_self k)
theorem EInv.rk (h : EInv n W A0 c k A F g odd) (he : c = W ∨ k = n) : Dt.Rk n W A0 k := by
  obtain ⟨u, u', hA, hu⟩ := h.pm
  have := Dt.rk_ofG (h := n) (w := W) h.kn (fun x hx => by have := (h.mono x hx).1; have := h.cW; omega) h.dne fun i hi j hj => by
    rcases he with e | e
    · exact h.low j (by omega) i hi
    · exact Dt.Dg_row0 (by omega)
  exact this.perm (u := u) (u' := u') (v := id) (v' := id) (fun i _ j _ => hA i j) (fun i hi => ⟨((hu i).1 hi).1, ((hu i).1 hi).2, (hu i).2.1⟩) (fun i hi => ⟨hi, hi, rfl⟩)
theorem mono_id (hm : ∀ x, x < n → g x < n ∧ ∀ y, y < x → g y < g x) : ∀ x, x < n → g x = x := by
  have lo : ∀ x, x < n → x ≤ g x := by
    intro x
    induction x with
    | zero => intro _; omega
    | succ x ih => intro hx; have := ih (by omega); have := (hm (x + 1) hx).2 x (by omega); omega
  have hi : ∀ d x, x + d + 1 = n → g x ≤ x := by
    intro d
    induction d with
    | zero => intro x hx; have := (hm x (by omega)).1; omega
    | succ d ih => intro x hx; have := ih (x + 1) (by omega); have := (hm (x + 1) (by omega)).2 x (by omega); omega
  exact fun x hx => Nat.le_antisymm (hi (n - x - 1) x (by omega)) (lo x hx)
theorem EInv.det (h : EInv n n A0 c k A F g odd) (hk : k = n) : Dt.det n A0 = sgb odd (Dt.det k fun r x => A r (g x)) := by
  subst hk
  have e : Dt.det k (fun r x => A r (g x)) = Dt.det k A := Dt.det_congr fun r _ x hx => by
    rw [mono_id (n := k) (fun x hx => ⟨by have := (h.mono x hx).1; have := h.cW; omega, (h.mono x hx).2⟩) x hx]
  rw [e, h.sgn]
  cases odd <;> simp [sgb]
theorem EInv.bd {L : Nat} (hB : MinB n W L A0) (hp : Pmr n A0 A) {s : Nat} (hg : ∀ x, x < s → g x < W) {i j : Nat} (hi : i < n) (hs : s ≤ n) (hj : j < W) : zl L (Dt.Dg s A g i j) := by
  obtain ⟨u, u', hA, hu⟩ := hp
  by_cases e : i < s
  · rw [Dt.Dg_row0 e]; exact zl_0 _
  · have e2 : Dt.Dg s A g i j = Dt.det (s + 1) fun r x => A0 (u (Dt.bord s i r)) (Dt.gx s g j (Dt.bord s s x)) := Dt.det_congr fun r _ x _ => hA _ _
    rw [e2]
    refine hB (s + 1) (fun r => u (Dt.bord s i r)) (fun x => Dt.gx s g j (Dt.bord s s x)) (fun r hr => ⟨((hu _).1 (by unfold Dt.bord; split <;> omega)).1, ?_⟩) fun r q h1 h2 h3 => ?_
    · unfold Dt.gx
      split
      · exact hg _ (by assumption)
      · exact hj
    · have h4 := congrArg u' h3
      rw [(hu _).2.2, (hu _).2.2] at h4
      unfold Dt.bord at h4
      split at h4 <;> split at h4 <;> omega
end
end Go.Proofs.YtnkimagnmnocdaaGreat
