/- A region that draws, at whose end two operations are ready at once: both orders (else as Rf). -/
import Derived.Test.YtjfjlloibmebeaaWkToMt
import Derived.Test.YtjfjlloibmebeaaGpToU4
import Derived.Test.YtjfjlloibmebeaaI5ToDp
import Derived.Test.YtjfjlloibmebeaaE7ToDt2
import Derived.Test.YtjfjlloibmebeaaY8

namespace Go.Proofs.Ytjfjlloibmebeaa
open Go Go.RowKit Dig
set_option linter.unusedVariables false
section
variable {P : Program} {l : List Oper} {md : Region.Mode} {C : World → Prop}
/-- Either of two operations comes first, then the other, then the rest. -/
def twoOK (md : Region.Mode) (ops : Array Oper) (listed : Array Bool) (j k : Nat) (rest : List Nat) : Bool :=
  (Region.ready md ops listed == [j, k]) && plan2OK md ops (listed.setIfInBounds j true) (k :: rest) && plan2OK md ops (listed.setIfInBounds k true) (j :: rest)
def wpTwo (P : Program) (l : List Oper) (Gs : List (World → Prop)) (bad : List (Nat × Nat)) (Q : Act → World → Prop) (j k : Nat) (rest : List Nat) (a : Act) (w : World) : Prop :=
  wpTail P l Gs bad Q (j :: k :: rest) a w ∧ wpTail P l Gs bad Q (k :: j :: rest) a w
theorem cOp_of_tail {Gs : List (World → Prop)} {bad : List (Nat × Nat)} {Q : Act → World → Prop} {i : Nat} {rest : List Nat} {listed : Array Bool} {a : Act} {w : World}
    (hp : plan2OK md l.toArray (listed.setIfInBounds i true) rest = true) (h : wpTail P l Gs bad Q (i :: rest) a w) : cOp P l.toArray (fun w' => Keeps Gs bad i w w') i (wpAnyX P md l.toArray Gs bad Q rest.length (listed.setIfInBounds i true)) a w := by
  obtain ⟨o, h0, h1⟩ := h
  unfold cOp
  rw [show l.toArray[i]? = some o by rw [← nthO_eq] at h0; simpa using h0]
  simp only
  split
  · rename_i hw
    simp only [hw, if_true] at h1
    exact h1.mono fun v w' ⟨c1, c2⟩ => ⟨c1, wpAnyX_of_tail rest _ _ _ hp c2⟩
  · rename_i hw
    simp only [hw] at h1
    exact wpAnyX_of_tail rest _ _ _ hp h1
theorem wpAnyX_of_two {Gs : List (World → Prop)} {bad : List (Nat × Nat)} {Q : Act → World → Prop} {j k : Nat} {rest : List Nat} {listed : Array Bool} {a : Act} {w : World}
    (hp : twoOK md l.toArray listed j k rest = true) (h : wpTwo P l Gs bad Q j k rest a w) : wpAnyX P md l.toArray Gs bad Q (rest.length + 2) listed a w := by
  simp only [twoOK, Bool.and_eq_true, beq_iff_eq] at hp
  obtain ⟨⟨h1, h2⟩, h3⟩ := hp
  refine ⟨fun h4 => (by rw [h4] at h1; cases h1), fun i hi => ?_⟩
  rw [h1] at hi
  rcases List.mem_cons.1 hi with rfl | hi
  · exact cOp_of_tail (rest := k :: rest) h2 h.1
  · obtain rfl : i = k := by simpa using hi
    exact cOp_of_tail (rest := j :: rest) h3 h.2
def flOKT (md : Region.Mode) (l : List Oper) (j2 k2 : Nat) (r2 : List Nat) : Nat → Array Bool → List (Nat × Bool) → List Nat → Bool
  | 0, listed, plan, F => plan.isEmpty && F.isEmpty && twoOK md l.toArray listed j2 k2 r2
  | n + 1, listed, [], F => !(Region.ready md l.toArray listed).isEmpty && (Region.ready md l.toArray listed).all (F.contains ·) && F.all fun j => !(Region.ready md l.toArray listed).contains j || flOKT md l j2 k2 r2 n (listed.setIfInBounds j true) [] (F.erase j)
  | n + 1, listed, (i, false) :: rest, F => Region.free md l.toArray listed i && (Region.ready md l.toArray listed).contains i && flOKT md l j2 k2 r2 n (listed.setIfInBounds i true) rest F
  | n + 1, listed, (k, true) :: rest, F => !(Region.ready md l.toArray listed).isEmpty && (Region.ready md l.toArray listed).all (fun i => i == k || F.contains i) && flOKT md l j2 k2 r2 n (listed.setIfInBounds k true) rest F &&
      F.all fun j => !(Region.ready md l.toArray listed).contains j || flOKT md l j2 k2 r2 n (listed.setIfInBounds j true) ((k, true) :: rest) (F.erase j)
theorem wpAnyC_of_flT {Gs : List (World → Prop)} {CL : List Nat} {bad : List (Nat × Nat)} {Q : Act → World → Prop} {ob : Nat → Obj} {F0 : List Nat} {B : Nat} {j2 k2 : Nat} {r2 : List Nat} (hns : Region.noSelect l.toArray = true) (hsu : sundry l F0 = true)
    (hl : ∀ j ∈ F0, Lays P l ob j) (hCa : ∀ w o, C w → C (w.alloc o)) (hCG : ∀ w, C w → ∀ G ∈ Gs, G w) (_hF : ∀ j ∈ F0, ∀ g, bad.contains (j, g) = false) :
    ∀ (n : Nat) (plan : List (Nat × Bool)) (F : List Nat) (listed : Array Bool) (pt : Nat → Option Nat) (a : Act) (w w' : World), flOKT md l j2 k2 r2 n listed plan F = true → planApart l F0 plan = true → waits md l CL bad plan = true → (∀ k ∈ plan, ∀ g, bad.contains (k.1, g) = false) → F.Nodup →
      (∀ j ∈ F, j ∈ F0) → (∀ j ∈ F0, pt j = none ↔ j ∈ F) → (∀ j ∈ F0, ∀ p, pt j = some p → B ≤ p ∧ p < w'.heap.size ∧ w'.heap[p]? = some (ob j)) → (∀ i ∈ F0, ∀ j ∈ F0, ∀ p, pt i = some p → pt j = some p → i = j) →
      B ≤ w'.heap.size → Below w.heap.size w w' → C w' → wpFl P l C Gs CL ob F0 B (wpTwo P l Gs bad Q j2 k2 r2) plan a w → wpAnyX P md l.toArray Gs bad Q (n + (r2.length + 2)) listed (putF l pt F0 a) w' := by
  have hsel := fun (j : Nat) (o : Oper) cs b (h : nthO l j = some o) => Region.noSelect_spec hns j o cs b (by rw [← nthO_eq] at h; simpa using h)
  -- a block is laid
  have hfl : ∀ (n : Nat) (plan : List (Nat × Bool)) (F : List Nat) (listed : Array Bool) (pt : Nat → Option Nat) (a : Act) (w w' : World),
      (∀ (F : List Nat) (listed : Array Bool) (pt : Nat → Option Nat) (w' : World), flOKT md l j2 k2 r2 n listed plan F = true → F.Nodup →
        (∀ j ∈ F, j ∈ F0) → (∀ j ∈ F0, pt j = none ↔ j ∈ F) → (∀ j ∈ F0, ∀ p, pt j = some p → B ≤ p ∧ p < w'.heap.size ∧ w'.heap[p]? = some (ob j)) → (∀ i ∈ F0, ∀ j ∈ F0, ∀ p, pt i = some p → pt j = some p → i = j) →
        B ≤ w'.heap.size → Below w.heap.size w w' → C w' → wpAnyX P md l.toArray Gs bad Q (n + (r2.length + 2)) listed (putF l pt F0 a) w') →
      ∀ j ∈ F, flOKT md l j2 k2 r2 n (listed.setIfInBounds j true) plan (F.erase j) = true → F.Nodup →
      (∀ j ∈ F, j ∈ F0) → (∀ j ∈ F0, pt j = none ↔ j ∈ F) → (∀ j ∈ F0, ∀ p, pt j = some p → B ≤ p ∧ p < w'.heap.size ∧ w'.heap[p]? = some (ob j)) → (∀ i ∈ F0, ∀ j ∈ F0, ∀ p, pt i = some p → pt j = some p → i = j) →
      B ≤ w'.heap.size → Below w.heap.size w w' → C w' → cOp P l.toArray (fun w2 => Keeps Gs bad j w' w2) j (wpAnyX P md l.toArray Gs bad Q (n + (r2.length + 2)) (listed.setIfInBounds j true)) (putF l pt F0 a) w' := by
    intro n plan F listed pt a w w' ih j hj hok hnd hF' hnone hpt hinj hB hb hC
    obtain ⟨o, ho, hg, hrun⟩ := hl j (hF' j hj)
    unfold cOp
    rw [show l.toArray[j]? = some o by rw [← nthO_eq] at ho; simpa using ho]
    have hw : Region.wanted o (yielded l.toArray (putF l pt F0 a).tmps) = true := by unfold Region.wanted; rw [hg]
    simp only [hw, if_true]
    unfold Calm
    rw [hrun]
    refine ⟨fun g _ _ => nthG_all (hCG _ (hCa _ _ hC)) g, ?_⟩
    rw [putF_set ho ((hnone j (hF' j hj)).2 hj) (hF' j hj) hsu]
    have hsz : (w'.alloc (ob j)).heap.size = w'.heap.size + 1 := by simp
    have hold : ∀ p, p < w'.heap.size → (w'.alloc (ob j)).heap[p]? = w'.heap[p]? := fun p hp => Below.heap_alloc _ _ _ hp
    have hnew : (w'.alloc (ob j)).heap[w'.heap.size]? = some (ob j) := by
      show (w'.heap.push _)[w'.heap.size]? = _
      simp
    refine ih (F.erase j) _ _ _ hok (hnd.erase _) (fun i hi => hF' i (List.mem_of_mem_erase hi)) ?_ ?_ ?_ (by omega) (hb.alloc hb.size _) (hCa _ _ hC)
    · intro i hi
      unfold setP
      split
      · rename_i e; subst e; simp [hnd.mem_erase_iff]
      · rename_i e; rw [hnone i hi, hnd.mem_erase_iff]; simp [e]
    · intro i hi p hp
      unfold setP at hp
      split at hp
      · rename_i e
        subst e
        obtain rfl : w'.heap.size = p := by simpa using hp
        exact ⟨hB, by omega, hnew⟩
      · obtain ⟨h1, h2, h3⟩ := hpt i hi p hp
        exact ⟨h1, by omega, by rw [hold p h2]; exact h3⟩
    · intro i hi k hk p hp hq
      unfold setP at hp hq
      split at hp <;> split at hq
      · rename_i e1 e2; rw [e1, e2]
      · have h1 : w'.heap.size = p := by simpa using hp
        have h2 := (hpt k hk p hq).2.1
        omega
      · have h1 : w'.heap.size = p := by simpa using hq
        have h2 := (hpt i hi p hp).2.1
        omega
      · exact hinj i hi k hk p hp hq
  intro n
  induction n with
  | zero =>
    intro plan F listed pt a w w' hok hpa hwt hnb hnd hF' hnone hpt hinj hB hb hC h
    simp only [flOKT, Bool.and_eq_true, List.isEmpty_iff] at hok
    obtain ⟨⟨rfl, rfl⟩, hp2⟩ := hok
    have hall : ∀ j ∈ F0, ∃ p, pt j = some p := fun j hj => by
      cases hp : pt j with
      | none => exact absurd ((hnone j hj).1 hp) (by simp)
      | some p => exact ⟨p, rfl⟩
    have hget : ∀ j ∈ F0, pt j = some ((pt j).getD 0) := fun j hj => by obtain ⟨p, hp⟩ := hall j hj; rw [hp]; rfl
    have h2 := h w' (fun j => (pt j).getD 0) hb hC (fun j hj => by
      obtain ⟨p, hp⟩ := hall j hj
      have := hpt j hj p hp
      rw [hp]
      exact ⟨this.1, this.2.2⟩) (fun i hi j hj hne he => hne (by
      obtain ⟨p, hp⟩ := hall i hi
      obtain ⟨q, hq⟩ := hall j hj
      rw [hp, hq] at he
      obtain rfl : p = q := by simpa using he
      exact hinj i hi j hj p hp hq))
    rw [putF_congr (pt' := fun j => some ((pt j).getD 0)) hget, Nat.zero_add]
    exact wpAnyX_of_two hp2 h2
  | succ n ih =>
    intro plan F listed pt a w w' hok hpa hwt hnb hnd hF' hnone hpt hinj hB hb hC h
    rw [show n + 1 + (r2.length + 2) = (n + (r2.length + 2)) + 1 by omega]
    match plan, hok, hpa, hwt, hnb, h with
    | [], hok, hpa, hwt, hnb, h =>
      simp only [flOKT, Bool.and_eq_true, List.all_eq_true, Bool.or_eq_true, Bool.not_eq_true', List.contains_eq_mem, decide_eq_true_eq, decide_eq_false_iff_not] at hok
      obtain ⟨⟨hne, hin⟩, hall⟩ := hok
      refine ⟨fun h0 => (by rw [h0] at hne; simp at hne), fun j hj => ?_⟩
      refine hfl n [] F listed pt a w w' (fun F' listed' pt' w2 h1 h2 h3 h4 h5 h6 h7 h8 h9 => ih [] F' listed' pt' a w w2 h1 hpa hwt hnb h2 h3 h4 h5 h6 h7 h8 h9 h) j (hin j hj) ?_ hnd hF' hnone hpt hinj hB hb hC
      rcases hall j (hin j hj) with h1 | h1
      · exact absurd hj h1
      · exact h1
    | (i, false) :: rest, hok, hpa, hwt, hnb, h =>
      simp only [flOKT, Bool.and_eq_true, List.contains_eq_mem, decide_eq_true_eq] at hok
      obtain ⟨⟨hfr, hrd⟩, hok⟩ := hok
      obtain ⟨o, v, ho, hst, h1⟩ := h
      simp only [planApart, List.all_cons, Bool.and_eq_true] at hpa
      rw [ho] at hpa
      have ho' : l.toArray[i]? = some o := by have := ho; rw [← nthO_eq] at this; simpa using this
      rw [waits, List.all_cons, Bool.and_eq_true] at hwt
      obtain ⟨hwt1, hwt⟩ := hwt
      have hgo := fun h1 => ih rest F (listed.setIfInBounds i true) pt (a.put o.dst v) w w' hok hpa.2 hwt (fun k hk => hnb k (List.mem_cons_of_mem _ hk)) hnd hF' hnone hpt hinj hB hb hC h1
      rw [putF_put hpa.1] at hgo
      have hst' := hst.of_same (a' := putF l pt F0 a) (putF_exec (fun cs b => hsel i o cs b ho) hpa.1) (putF_wanted hpa.1)
      refine wpAnyX_first ho' (Region.noSelect_spec hns) (fun k ok hok hne => ?_) _ _ _ _ (nthG_all (hCG _ hC) _) (Region.free_spec ho' hfr) hrd hst' (hgo h1)
      cases hk : bad.contains (k, CL.getD i 99) with
      | false => rfl
      | true =>
        exfalso
        simp only [Bool.false_or] at hwt1
        have h5 := List.all_eq_true.1 hwt1 (k, CL.getD i 99) (by simpa using hk)
        simp only [bne_self_eq_false, Bool.false_or] at h5
        rw [show nthO l k = some ok by rw [← nthO_eq]; simpa using hok] at h5
        obtain ⟨e, he, h6⟩ := Array.any_eq_true'.1 h5
        simp only [Bool.and_eq_true, beq_iff_eq] at h6
        exact hne e he h6.1 h6.2
    | (k, true) :: rest, hok, hpa, hwt, hnb, h =>
      have hpa0 := hpa
      have hwt0 := hwt
      simp only [waits, List.all_cons, Bool.true_or, Bool.true_and] at hwt
      have h0 := h
      simp only [flOKT, Bool.and_eq_true, List.all_eq_true, Bool.or_eq_true, Bool.not_eq_true', List.contains_eq_mem, decide_eq_true_eq, decide_eq_false_iff_not, beq_iff_eq] at hok
      obtain ⟨⟨⟨hne, hin⟩, hokk⟩, hall⟩ := hok
      obtain ⟨o, ho, h1⟩ := h
      simp only [planApart, List.all_cons, Bool.and_eq_true] at hpa
      rw [ho] at hpa
      have ho' : l.toArray[k]? = some o := by have := ho; rw [← nthO_eq] at this; simpa using this
      refine ⟨fun h0 => (by rw [h0] at hne; simp at hne), fun j hj => ?_⟩
      by_cases hjk : j = k
      · subst hjk
        unfold cOp
        rw [ho']
        simp only
        rw [putF_wanted hpa.1]
        split
        · rename_i hw
          simp only [hw, if_true] at h1
          have h2 := h1 w' hb hC
          unfold Calm at h2 ⊢
          rw [putF_exec (fun cs b => hsel j o cs b ho) hpa.1]
          have h3 : Calm P o a w' (fun v w'' => Keeps Gs bad j w' w'' ∧ wpAnyX P md l.toArray Gs bad Q (n + (r2.length + 2)) (listed.setIfInBounds j true) ((putF l pt F0 a).put o.dst v) w'') := by
            refine (show Calm P o a w' _ from h2).mono ?_
            rintro v w'' ⟨hb2, hC2, h4⟩
            refine ⟨fun g _ _ => nthG_all (hCG _ hC2) g, ?_⟩
            rw [← putF_put hpa.1]
            exact ih rest F _ pt _ w'' w'' hokk hpa.2 hwt (fun k hk => hnb k (List.mem_cons_of_mem _ hk)) hnd hF' hnone (fun i hi p hp => by
              obtain ⟨e1, e2, e3⟩ := hpt i hi p hp
              exact ⟨e1, Nat.lt_of_lt_of_le e2 hb2.size, by rw [hb2.block p e2]; exact e3⟩) hinj (Nat.le_trans hB hb2.size) (Below.refl _ _) hC2 h4
          exact h3
        · rename_i hw
          simp only [hw] at h1
          rw [← putF_put hpa.1]
          exact ih rest F _ pt _ w w' hokk hpa.2 hwt (fun k hk => hnb k (List.mem_cons_of_mem _ hk)) hnd hF' hnone hpt hinj hB hb hC h1
      · have hjF : j ∈ F := (hin j hj).resolve_left hjk
        refine hfl n ((k, true) :: rest) F listed pt a w w' (fun F' listed' pt' w2 h1 h2 h3 h4 h5 h6 h7 h8 h9 => ih ((k, true) :: rest) F' listed' pt' a w w2 h1 hpa0 hwt0 hnb h2 h3 h4 h5 h6 h7 h8 h9 h0) j hjF ?_ hnd hF' hnone hpt hinj hB hb hC
        rcases hall j hjF with h1 | h1
        · exact absurd hj h1
        · exact h1
theorem wpX_region_flT {Q : Act → World → Prop} {a : Act} {w : World} (plan1 : List (Nat × Bool)) (j2 k2 : Nat) (r2 : List Nat) (F0 : List Nat) (ob : Nat → Obj) (CL : List Nat) (bad : List (Nat × Nat)) (C : World → Prop) (Gs : List (World → Prop)) (hs : Region.noSelect l.toArray = true)
    (hlen : plan1.length + F0.length + (r2.length + 2) = l.length) (hok : flOKT .any l j2 k2 r2 (plan1.length + F0.length) (Array.replicate l.length false) plan1 F0 = true) (hpa : planApart l F0 plan1 = true) (hwt : waits .any l CL bad plan1 = true) (hnb : notBad bad plan1 F0 = true) (hsu : sundry l F0 = true) (hnd : F0.Nodup)
    (hl : ∀ j ∈ F0, Lays P l ob j) (hCa : ∀ w o, C w → C (w.alloc o)) (hCG : ∀ w, C w → ∀ G ∈ Gs, G w) (hC : C w.drew) (h : wpFl P l C Gs CL ob F0 w.drew.heap.size (wpTwo P l Gs bad Q j2 k2 r2) plan1 a w.drew) : wpAnyX P .any l.toArray Gs bad Q l.toArray.size (Array.replicate l.toArray.size false) a w.drew := by
  have hF0 : ∀ {F : List Nat} {a : Act}, putF l (fun _ => none) F a = a := by
    intro F
    induction F with
    | nil => intro a; rfl
    | cons j F ih =>
      intro a
      unfold putF
      split
      · rename_i h; cases h
      · exact ih
  have hb1 : ∀ k ∈ plan1, ∀ g, bad.contains (k.1, g) = false := fun k hk g => by
    cases h : bad.contains (k.1, g) with
    | false => rfl
    | true =>
      have h2 := List.all_eq_true.1 hnb (k.1, g) (by simpa using h)
      simp only [Bool.and_eq_true] at h2
      have h3 := List.all_eq_true.1 h2.1 k hk
      simp at h3
  have hb2 : ∀ j ∈ F0, ∀ g, bad.contains (j, g) = false := fun j hj g => by
    cases h : bad.contains (j, g) with
    | false => rfl
    | true =>
      have h2 := List.all_eq_true.1 hnb (j, g) (by simpa using h)
      simp only [Bool.and_eq_true, Bool.not_eq_true', List.contains_eq_mem, decide_eq_false_iff_not] at h2
      exact absurd hj h2.2
  have h1 := wpAnyC_of_flT (md := .any) hs hsu hl hCa hCG hb2 (plan1.length + F0.length) plan1 F0 (Array.replicate l.length false) (fun _ => none) a w.drew w.drew hok hpa hwt hb1 hnd (fun j hj => hj) (fun j hj => by simp [hj]) (fun j hj p hp => by cases hp) (fun i hi j hj p hp => by cases hp)
    (Nat.le_refl _) (Below.refl _ _) hC h
  rw [hF0] at h1
  rw [hlen] at h1
  simpa using h1
theorem wp_region_flT {id : Nat} {Q : Exit → Act → World → Prop} {a : Act} {w : World} (plan1 : List (Nat × Bool)) (j2 k2 : Nat) (r2 : List Nat) (F0 : List Nat) (ob : Nat → Obj) (CL : List Nat) (bad : List (Nat × Nat)) (C : World → Prop) (Gs : List (World → Prop)) (hm : P.follows .mixedOrders = true) (hs : Region.noSelect l.toArray = true)
    (hlen : plan1.length + F0.length + (r2.length + 2) = l.length) (hok : flOKT .any l j2 k2 r2 (plan1.length + F0.length) (Array.replicate l.length false) plan1 F0 = true) (hpa : planApart l F0 plan1 = true) (hwt : waits .any l CL bad plan1 = true) (hnb : notBad bad plan1 F0 = true) (hsu : sundry l F0 = true) (hnd : F0.Nodup)
    (hl : ∀ j ∈ F0, Lays P l ob j) (hCa : ∀ w o, C w → C (w.alloc o)) (hCG : ∀ w, C w → ∀ G ∈ Gs, G w) (hC : C w.drew) (h : wpFl P l C Gs CL ob F0 w.drew.heap.size (wpTwo P l Gs bad (Q .normal) j2 k2 r2) plan1 a w.drew) : (Code.region id l.toArray true).wp P Q a w :=
  (wpIn_wide (n := 0)).1 (show (Code.region id l.toArray true).wpIn (FW none) 0 P Q a w from wpIn_region_any hm (wpAnyIn_of_x (fun _ _ hq => hq) _ _ _ _ (wpX_region_flT plan1 j2 k2 r2 F0 ob CL bad C Gs hs hlen hok hpa hwt hnb hsu hnd hl hCa hCG hC h)))
end
section
variable {P : Program} {l : List Oper} {a : Act} {w : World}
theorem wp_region_f4T {id : Nat} {Q : Exit → Act → World → Prop} (plan1 : List (Nat × Bool)) (j2 k2 : Nat) (r2 : List Nat) (F0 : List Nat) (ob : Nat → Obj) (CL : List Nat) (bad : List (Nat × Nat)) {bs : List BkT} (hC : AllB bs w) (hl : ∀ j ∈ F0, Lays P l ob j)
    (h : ∀ w', Below w.heap.size w w' → wpFl P l (AllB bs) (bs.map BG) CL ob F0 w'.heap.size (wpTwo P l (bs.map BG) bad (Q .normal) j2 k2 r2) plan1 a w')
    (hm : P.follows .mixedOrders = true := by kernel_rfl) (hs : Region.noSelect l.toArray = true := by kernel_rfl)
    (hlen : plan1.length + F0.length + (r2.length + 2) = l.length := by kernel_rfl) (hok : flOKT .any l j2 k2 r2 (plan1.length + F0.length) (Array.replicate l.length false) plan1 F0 = true := by kernel_rfl) (hpa : planApart l F0 plan1 = true := by kernel_rfl) (hwt : waits .any l CL bad plan1 = true := by kernel_rfl) (hnb : notBad bad plan1 F0 = true := by kernel_rfl) (hsu : sundry l F0 = true := by kernel_rfl) (hnd : F0.Nodup := by decide) : (Code.region id l.toArray true).wp P Q a w :=
  wp_region_flT plan1 j2 k2 r2 F0 ob CL bad (AllB bs) (bs.map BG) hm hs hlen hok hpa hwt hnb hsu hnd hl (fun _ _ hC => hC.alloc) (fun _ hC => hC.get) (hC.bl (Below.refl _ _).drew) (h _ (Below.refl _ _).drew)
end
end Go.Proofs.Ytjfjlloibmebeaa


/- gdet: Minors. -/
namespace Go.Proofs.Ytjfjlloibmebeaa
open Go Go.RowKit Dig
set_option linter.unusedVariables false
set_option linter.unusedSimpArgs false
/-- The leading determinants of the Gram matrix. -/
def mins (n W : Nat) (M : Nat → Nat → Int × Int) : List Int := (List.range (n + 1)).map fun k => (Dt.det k (gG W M)).1
theorem mins_pvz {n W r : Nat} {M : Nat → Nat → Int × Int} (hr : r ≤ n) (h0 : r = n ∨ Dt.det (r + 1) (gG W M) = 0) : ([1] ++ pvz (gG W M) r) ++ List.replicate (n - r) 0 = mins n W M := by
  unfold mins pvz
  refine List.ext_getElem (by simp; omega) fun i h1 h2 => ?_
  have hi : i ≤ n := by simp at h2; omega
  simp only [List.getElem_map, List.getElem_range]
  by_cases c : i ≤ r
  · rw [List.getElem_append_left (by simp; omega)]
    cases i with
    | zero => simp; rfl
    | succ i => simp
  · rw [List.getElem_append_right (by simp; omega)]
    simp only [List.getElem_replicate]
    rcases h0 with h0 | h0
    · omega
    · rw [gram_0s h0 (by omega)]; rfl
section
variable {w : World} {la n k L ca : Nat} {oa : Option Addr} {A : List (List (Int × Int))}
set_option maxHeartbeats 4000000 in
set_option maxRecDepth 20000 in
theorem minors_bad (ha : MN la w oa A) (hna : A.length = n) (h : ¬ gd A) (hla : n ≤ 1000000000) :
    Calls Try.prog 5 #[.slice oa n ca] w fun e w' => e = .returned (.tuple #[.slice none 0 0, .int .i64 4]) ∧ Below w.heap.size w w' := by
  have HA := hide ha
  have H := hide h
  clear ha h
  go_enter Try.func5, Try.ntmps5
  have hs := St.nil w
  refine wp_seq_k ?_
  intro K1 hK1
  refine rg [0, 1] ?_
  refine sq ?_
  refine .mv ?_
  refine sq ?_
  refine .mv ?_
  apply wpSq_end
  refine hK1 _ _ ?_
  refine wp_seq_k ?_
  intro K2 hK2
  refine rg [0, 1, 2, 3, 4, 5, 6, 7] ?_
  refine sq ?_
  refine .mv ?_
  refine sq ?_
  intro K hK
  have hb := hs.b
  go_big_op
  go_fit (mGram_bad (HA.out.bl stab_n hb) hna H.out hla)
  rintro e w_1 ⟨rfl, hb_1⟩
  clear hb
  replace hs := hs.bl hb_1
  refine hK _ _ rfl trivial ?_
  clear hK K
  refine sq ?_
  refine .mv ?_
  refine sq ?_
  refine .r0 ?_
  refine sq ?_
  refine .r0 ?_
  refine sq ?_
  refine .al hs ?_; clear hs; intro p_b1 w_2 hs n2 kb_b1
  refine sq ?_
  refine .s1 hs.g0 (fun _ => hs.u0 kb_b1) ?_; clear hs; intro w_3 hs hd3 ho3
  refine sq ?_
  refine .mv ?_
  apply wpSq_end
  refine hK2 _ _ ?_
  refine wp_seq_k ?_
  intro K3 hK3
  refine wp_seq_k ?_
  intro K4 hK4
  refine rg [0, 1] ?_
  refine sq ?_
  refine .mv ?_
  refine sq ?_
  refine .r0 ?_
  apply wpSq_end
  refine hK4 _ _ ?_
  refine ct ?_
  refine wp_seq_k ?_
  intro K5 hK5
  refine rg [0, 1, 2] ?_
  refine sq ?_
  refine .mv ?_
  refine sq ?_
  refine .mv ?_
  refine sq ?_
  refine .mv ?_
  apply wpSq_end
  refine hK5 _ _ ?_
  refine wp_ret ?_
  try dsimp only [Exit.then, Exit.inBlock]
  refine bodyPost_ret (v := (.tuple #[(.slice none 0 0), (.int .i64 4)])) (by simp [results, Try.results5, go_sem]) rfl ?_
  exact ⟨rfl, hs.b⟩
set_option maxHeartbeats 4000000 in
set_option maxRecDepth 20000 in
theorem minors_ok (ha : MN la w oa A) (hna : A.length = n) (h : gd A) (hk : wd A = k) (hB : MinB n n L (gG k (at2 A))) (hL : L ≤ 3000000) (hla : la ≤ 10000000) :
    Calls Try.prog 5 #[.slice oa n ca] w fun e w' => ∃ o c xs, e = .returned (.tuple #[.slice o (n + 1) c, .int .i64 0]) ∧ Lst w' w.heap.size 34 2 (.slice o (n + 1) c) (n + 1) xs ∧ ZL w' xs (mins n k (at2 A)) ∧ Below w.heap.size w w' := by
  have HA := hide ha
  have H := hide h
  have HK := hide hk
  have HB := hide hB.D
  have HRE := hide (fun m => real_2 (gG_real (W := k) (M := at2 A) m))
  have hn64 : n ≤ 64 := by have := h.1; omega
  clear ha h hk hB
  go_enter Try.func5, Try.ntmps5
  have hs := St.nil w
  refine wp_seq_k ?_
  intro K1 hK1
  refine rg [0, 1] ?_
  refine sq ?_
  refine .mv ?_
  refine sq ?_
  refine .mv ?_
  apply wpSq_end
  refine hK1 _ _ ?_
  refine wp_seq_k ?_
  intro K2 hK2
  refine rg [0, 1, 2, 3, 4, 5, 6, 7] ?_
  refine sq ?_
  refine .mv ?_
  refine sq ?_
  intro K hK
  have hb := hs.b
  go_big_op
  go_fit (mGram_ok (HA.out.bl stab_n hb) hna H.out HK.out hla)
  rintro e w_1 ⟨o_G, c_G, rs_G, rfl, hl_G, hs_G, d_G, hb_1⟩
  clear hb
  replace hs := hs.mx hl_G hs_G; simp only [List.nil_append] at hs
  refine hK _ _ rfl trivial ?_
  clear hK K
  refine sq ?_
  refine .mv ?_
  refine sq ?_
  refine .r0 ?_
  refine sq ?_
  refine .r0 ?_
  refine sq ?_
  refine .al hs ?_; clear hs; intro p_b1 w_2 hs n2 kb_b1
  refine sq ?_
  refine .s1 hs.g0 (fun _ => hs.u0 kb_b1) ?_; clear hs; intro w_3 hs hd3 ho3
  refine sq ?_
  refine .mv ?_
  apply wpSq_end
  refine hK2 _ _ ?_
  refine wp_seq_k ?_
  intro K3 hK3
  refine wp_seq_k ?_
  intro K4 hK4
  refine rg [0, 1] ?_
  refine sq ?_
  refine .mv ?_
  refine sq ?_
  refine .r0 ?_
  apply wpSq_end
  refine hK4 _ _ ?_
  refine cf ?_
  refine wp_skip ?_
  refine hK3 _ _ ?_
  refine wp_seq_k ?_
  intro K5 hK5
  refine wp_region_f4T [(2, false), (3, false), (0, true)] 1 4 [5, 6] [] (fun _ => default) [99, 99, 0, 99, 99, 99, 99] [] (.c hs.g0 .n) fn fun w_4 n4 => ?_
  replace hs := hs.bl n4
  refine f1 ?_
  refine f0 ?_
  refine fl fun w_5 n5 => ?_
  replace hs := hs.bl n5
  intro K hK
  go_big_op
  go_fit (from_any 1 _ (by decide) (by decide))
  rintro e w_6 ⟨v_u, rfl, u, hb_6⟩
  replace hs := hs.bl hb_6
  replace u := u.rd
  obtain ⟨n_u, o_u, k_u, c_u, rfl⟩ := u.open2
  refine hK _ _ rfl ⟨hb_6, (And.intro hs.g0 trivial)⟩ ?_
  clear hK K
  refine e0 hs ?_; clear hs; intro w_7 hs n7
  refine And.intro ?_ ?_
  · have HZ := True.intro
    refine tl ?_
    refine .al hs ?_ (e := fun _ _ hs _ => (And.intro hs.g1 True.intro)); clear hs; intro p_b2 w_8 hs n8 kb_b2
    have k6_8 := (kb n7).b n8
    replace u := u.k k6_8
    have hM : ZL w_8 [.bool n_u, .slice o_u k_u c_u] [1] := ⟨u, trivial⟩
    refine tl ?_
    intro K hK
    have k1_8 := ((((((kb n2).o hd3 ho3).b n4).b n5).b hb_6).b n7).b n8
    replace d_G := d_G.k k1_8
    go_big_op
    go_fit (elimZ_any (bs := [ls w.heap.size 34 2 (.slice (some ⟨p_b2, 0, none⟩) 1 1) 1 [.bool n_u, .slice o_u k_u c_u]]) ((St.lsOf (n := 1) (sz := 2) hs kb_b2 rfl rfl (by decide)).perm ((List.Perm.swap _ _ _).trans ((List.Perm.cons _ (List.Perm.swap _ _ _)).trans (List.Perm.swap _ _ _)))) kb_b1 entP_minors (pivZ_minors kb_b1 (by omega) HB.out hL HRE.out) hl_G d_G (by omega) (by omega) HRE.out HB.out hL)
    have bb9 := hs.b
    rintro e w_9 ⟨o9, c9, xs, r, F2, rs2, rfl, hrn, hF, hne, hL9, hl2, hd2, hs', kp9⟩
    clear hs; have hs := hs'; clear hs'
    have bc9 := hs.b
    clear bb9 bc9
    simp only [List.cons_append] at hs
    refine hK _ _ rfl (And.intro hs.g2 True.intro) ?_
    clear hK K
    refine tl ?_
    have k8_9 := kp9
    replace hM := hM.k k8_9
    have ho10 := hL9.one
    replace hM := hM.app hL9
    refine .aps 3 0 hs ho10 ?_ (eE := fun _ _ _ hs => (And.intro hs.g2 True.intro)); clear hs ho10; intro o_M_10 c_M_10 w_10 hs kp10 hw10; simp only [List.set_cons_succ, List.set_cons_zero] at hs
    refine tl ?_
    refine .mv ?_ (e := (And.intro hs.g2 True.intro))
    apply wpTail_end
    refine hK5 _ _ ?_
    refine wp_seq_k ?_
    intro K6 hK6
    refine rg [0, 1, 2, 3, 4, 5, 6, 7, 8, 9] ?_
    refine sq ?_
    refine .mv ?_
    refine sq ?_
    refine .r1 hs.g2.f1 ?_
    refine sq ?_
    refine .r0 ?_
    refine sq ?_
    refine .r0 ?_
    refine sq ?_
    refine .mv ?_
    refine sq ?_
    refine .r0 ?_
    refine sq ?_
    refine .r0 ?_
    refine sq ?_
    have k9_10 := kp10
    replace hM := hM.k k9_10
    replace hM := hM.app (ZL.zeros w_10 (n - r))
    refine .apz (zc := #[.bool false, .slice none 0 0]) (q := ((n : Int) + 1 - ((1 + r : Nat) : Int))) 3 (n - r) (by omega) hs ?_; clear hs; intro o_M_11 c_M_11 w_11 hs kp11 hw11; simp only [List.set_cons_succ, List.set_cons_zero] at hs
    refine sq ?_
    refine .mv ?_
    refine sq ?_
    refine .mv ?_
    apply wpSq_end
    refine hK6 _ _ ?_
    refine wp_ret ?_
    have HN := hide (show 1 + r + (n - r) = n + 1 by omega)
    have k10_11 := kp11
    replace hM := hM.k k10_11
    rw [mins_pvz hrn hF] at hM
    rw [← HN.out]
    try dsimp only [Exit.then, Exit.inBlock]
    refine bodyPost_ret (v := (.tuple #[(.slice o_M_11 ((1 + r) + (n - r)) c_M_11), (.int .i64 0)])) (by simp [results, Try.results5, go_sem]) rfl ?_
    exact ⟨_, _, _, rfl, hs.1.2.2.2.1.1, hM, hs.b⟩
  · have HZ := True.intro
    refine tl ?_
    intro K hK
    have k1_7 := (((((kb n2).o hd3 ho3).b n4).b n5).b hb_6).b n7
    replace d_G := d_G.k k1_7
    go_big_op
    go_fit (elimZ_any (bs := []) (hs.perm (List.Perm.swap _ _ _)) kb_b1 entP_minors (pivZ_minors kb_b1 (by omega) HB.out hL HRE.out) hl_G d_G (by omega) (by omega) HRE.out HB.out hL)
    have bb8 := hs.b
    rintro e w_8 ⟨o9, c9, xs, r, F2, rs2, rfl, hrn, hF, hne, hL9, hl2, hd2, hs', kp8⟩
    clear hs; have hs := hs'; clear hs'
    have bc8 := hs.b
    clear bb8 bc8
    refine hK _ _ rfl (And.intro hs.g2 True.intro) ?_
    clear hK K
    refine tl ?_
    refine .al hs ?_ (e := fun _ _ hs _ => (And.intro hs.g3 True.intro)); clear hs; intro p_b2 w_9 hs n9 kb_b2
    have k6_9 := ((kb n7).t kp8).b n9
    replace u := u.k k6_9
    have hM : ZL w_9 [.bool n_u, .slice o_u k_u c_u] [1] := ⟨u, trivial⟩
    replace hs := St.lsOf (n := 1) (sz := 2) hs kb_b2 rfl rfl (by decide)
    refine tl ?_
    have k8_9 := kb n9
    replace hL9 := hL9.k k8_9
    have ho10 := hL9.one
    replace hM := hM.app hL9
    refine .aps 0 1 hs ho10 ?_ (eE := fun _ _ _ hs => (And.intro hs.g3 True.intro)); clear hs ho10; intro o_M_10 c_M_10 w_10 hs kp10 hw10; simp only [List.set_cons_succ, List.set_cons_zero] at hs
    refine tl ?_
    refine .mv ?_ (e := (And.intro hs.g3 True.intro))
    apply wpTail_end
    refine hK5 _ _ ?_
    refine wp_seq_k ?_
    intro K6 hK6
    refine rg [0, 1, 2, 3, 4, 5, 6, 7, 8, 9] ?_
    refine sq ?_
    refine .mv ?_
    refine sq ?_
    refine .r1 hs.g3.f1 ?_
    refine sq ?_
    refine .r0 ?_
    refine sq ?_
    refine .r0 ?_
    refine sq ?_
    refine .mv ?_
    refine sq ?_
    refine .r0 ?_
    refine sq ?_
    refine .r0 ?_
    refine sq ?_
    have k9_10 := kp10
    replace hM := hM.k k9_10
    replace hM := hM.app (ZL.zeros w_10 (n - r))
    refine .apz (zc := #[.bool false, .slice none 0 0]) (q := ((n : Int) + 1 - ((1 + r : Nat) : Int))) 0 (n - r) (by omega) hs ?_; clear hs; intro o_M_11 c_M_11 w_11 hs kp11 hw11; simp only [List.set_cons_succ, List.set_cons_zero] at hs
    refine sq ?_
    refine .mv ?_
    refine sq ?_
    refine .mv ?_
    apply wpSq_end
    refine hK6 _ _ ?_
    refine wp_ret ?_
    have HN := hide (show 1 + r + (n - r) = n + 1 by omega)
    have k10_11 := kp11
    replace hM := hM.k k10_11
    rw [mins_pvz hrn hF] at hM
    rw [← HN.out]
    try dsimp only [Exit.then, Exit.inBlock]
    refine bodyPost_ret (v := (.tuple #[(.slice o_M_11 ((1 + r) + (n - r)) c_M_11), (.int .i64 0)])) (by simp [results, Try.results5, go_sem]) rfl ?_
    exact ⟨_, _, _, rfl, hs.1.1.1, hM, hs.b⟩
end
end Go.Proofs.Ytjfjlloibmebeaa


/- gdet: lists of whole numbers that can be read; Minors' answer so. -/
namespace Go.Proofs.Ytjfjlloibmebeaa
open Go Go.RowKit Dig
set_option linter.unusedVariables false
set_option linter.unusedSimpArgs false
/-- A list of whole numbers that can be read. -/
def LZ (w : World) (o : Option Addr) (zs : List Int) : Prop :=
  zs = [] ∨ ∃ g off cur ty fz, o = some ⟨g, off, none⟩ ∧ Bs w g cur ty fz ∧ ∀ i (hi : i < zs.length), ∃ n o k c, cur[off + i * 2]? = some (.bool n) ∧ cur[off + i * 2 + 1]? = some (.slice o k c) ∧ ZC w (.agg #[.bool n, .slice o k c]) zs[i]
theorem LZ.of {w : World} {B n c : Nat} {o : Option Addr} {ty : TypeId} {xs : List Value} {zs : List Int} (h : Lst w B ty 2 (.slice o n c) n xs) (hz : ZL w xs zs) (hn : zs.length = n) : LZ w o zs := by
  rcases Nat.eq_zero_or_pos n with h0 | h0
  · exact .inl (List.eq_nil_of_length_eq_zero (by omega))
  · obtain ⟨g, cur, rfl, x, hc⟩ := h.box h0
    refine .inr ⟨g, 0, cur, _, _, rfl, x, fun i hi => ?_⟩
    obtain ⟨n, o, k, c, e1, e2, e3⟩ := hz.els i hi
    exact ⟨n, o, k, c, by rw [Nat.zero_add]; exact hc _ _ e1, by rw [Nat.zero_add]; exact hc _ _ e2, e3⟩
theorem LZ.bl {w w' : World} {o : Option Addr} {zs : List Int} (h : LZ w o zs) (hb : Below w.heap.size w w') : LZ w' o zs := by
  rcases h with h | ⟨g, off, cur, ty, fz, rfl, x, d⟩
  · exact .inl h
  · refine .inr ⟨g, off, cur, ty, fz, rfl, x.bl hb, fun i hi => ?_⟩
    obtain ⟨n, o, k, c, e1, e2, e3⟩ := d i hi
    exact ⟨n, o, k, c, e1, e2, e3.bl hb⟩
theorem minors_lz {w : World} {a : Array Value} {K n : Nat} {zs : List Int} (hz : zs.length = n + 1) (h : Calls Try.prog K a w fun e w' => ∃ o c xs, e = .returned (.tuple #[.slice o (n + 1) c, .int .i64 0]) ∧ Lst w' w.heap.size 34 2 (.slice o (n + 1) c) (n + 1) xs ∧ ZL w' xs zs ∧ Below w.heap.size w w') :
    Calls Try.prog K a w fun e w' => ∃ o c, e = .returned (.tuple #[.slice o (n + 1) c, .int .i64 0]) ∧ LZ w' o zs ∧ Below w.heap.size w w' :=
  Calls.mono h fun e w' ⟨o, c, xs, h1, h2, h3, h4⟩ => ⟨o, c, h1, LZ.of h2 h3 hz, h4⟩
theorem mins_len {n W : Nat} {M : Nat → Nat → Int × Int} : (mins n W M).length = n + 1 := by simp [mins]
theorem LZ.op {w : World} {o : Option Addr} {zs : List Int} {i : Nat} (h : LZ w o zs) (hi : i < zs.length) : ∃ g off cur ty fz n o1 k c, o = some ⟨g, off, none⟩ ∧ Bs w g cur ty fz ∧ cur[off + i * 2]? = some (.bool n) ∧ cur[off + i * 2 + 1]? = some (.slice o1 k c) ∧ ZC w (.agg #[.bool n, .slice o1 k c]) zs[i] := by
  obtain ⟨g, off, cur, ty, fz, rfl, x, d⟩ := h.resolve_left (fun h => by rw [h] at hi; exact absurd hi (Nat.not_lt_zero _))
  obtain ⟨n, o1, k, c, h1, h2, h3⟩ := d i hi
  exact ⟨g, off, cur, ty, fz, n, o1, k, c, rfl, x, h1, h2, h3⟩
end Go.Proofs.Ytjfjlloibmebeaa


/- Gram matrices: their last determinant tells whether the rows are independent; of a square one it is the norm. -/
namespace Go.Proofs.Ytjfjlloibmebeaa
open Go Go.RowKit Dig
set_option linter.unusedVariables false
section
variable {n W r : Nat} {M : Nat → Nat → Int × Int}
theorem gram_square : Dt.det n (gG n M) = (nP (Dt.det n M), 0) := by
  have h1 := Dt.det_mul (n := n) (fun j c => cP (M c j)) M
  have h2 : Dt.det n (fun j c => cP (M c j)) = cP (Dt.det n M) := by
    rw [cP_det]; exact Dt.det_tr (A := fun i j => cP (M i j))
  rw [h2] at h1
  have h3 : Dt.det n (gG n M) = Dt.det n (Dt.mapr n (fun j c => cP (M c j)) M) := Dt.det_congr fun i _ j _ => by
    unfold gG Dt.mapr
    rw [sm_sumP]; rfl
  rw [h3, h1]
  show mP (Dt.det n M) (cP (Dt.det n M)) = _
  exact Prod.ext (by simp only [mP, cP, nP]; grind) (by simp only [mP, cP]; grind)
/-- Fewer rows make all: then the Gram matrix's determinant is 0. -/
theorem gram_low (hr : Dt.Rk n W M r) (hlt : r < n) : Dt.det n (gG W M) = 0 := by
  obtain ⟨f, g, hfg, _, C, p, hp, hC⟩ := hr
  have e := Dt.det_mul (n := n) (fun c j => if c < r then gG W M (f c) j else 0) (fun i c => if c < r then C i c else 0)
  rw [(Dt.alt_det (R := Int × Int) (n := n)).zero (A := fun c j => if c < r then gG W M (f c) j else 0) (k := r) hlt (fun c _ => if_neg (Nat.lt_irrefl _)),
    Dt.det_congr (A := Dt.mapr n _ _) (B := fun i j => p * gG W M i j) fun i hi j hj => by
      unfold Dt.mapr
      rw [Dt.sm_ext (r := r) (Nat.le_of_lt hlt) fun c hc _ => by simp only [if_neg (show ¬ c < r by omega)]; grind]
      have h1 : p * gG W M i j = sumP W fun q => mP (p * M i q) (cP (M j q)) := by
        rw [← mP_eq]
        unfold gG
        rw [sumP_l]
        exact sumP_congr fun q _ => by rw [← mP_assoc]; rfl
      rw [h1, sumP_congr (g := fun q => sumP r fun c => mP (C i c) (mP (M (f c) q) (cP (M j q)))) fun q hq => by
        rw [hC i hi q hq, ← sm_sumP, sumP_r]
        exact sumP_congr fun c _ => mP_assoc]
      rw [sumP_comm, sm_sumP]
      refine Dt.sm_congr fun c hc => ?_
      simp only [if_pos hc]
      show mP (C i c) (gG W M (f c) j) = _
      unfold gG
      rw [sumP_l],
    Dt.det_scale] at e
  have h2 : Dt.pwr p n * Dt.det n (gG W M) = 0 := by rw [e]; grind
  exact (noz _ _ h2).resolve_left (Dt.pwr_ne noz one_ne hp n)
/-- Rows that are independent: it is not. -/
theorem gram_full (hr : Dt.Rk n W M n) : Dt.det n (gG W M) ≠ 0 := fun h0 => by
  obtain ⟨k, hk, h1, h2⟩ : ∃ k, k < n ∧ Dt.det k (gG W M) ≠ 0 ∧ Dt.det (k + 1) (gG W M) = 0 := by
    have : ∀ m, Dt.det m (gG W M) = 0 → ∃ k, k < m ∧ Dt.det k (gG W M) ≠ 0 ∧ Dt.det (k + 1) (gG W M) = 0 := by
      intro m
      induction m with
      | zero => exact fun h => absurd h one_ne
      | succ m ih =>
        intro h
        by_cases c : Dt.det m (gG W M) = 0
        · obtain ⟨k, e1, e2⟩ := ih c; exact ⟨k, by omega, e2⟩
        · exact ⟨m, by omega, c, h⟩
    exact this n h0
  have h3 := gram_sq (W := W) (M := M) (k := k)
  rw [h2, show ((0 : Int × Int)).1 = 0 from rfl, Int.mul_zero] at h3
  have h4 := lenS_0 (fun q => nP_nn _) h3
  have h5 : ∀ q, q < W → Dt.det k (gG W M) * M k q = Dt.sm k fun c => - gcf W M k c * M c q := fun q hq => by
    have h6 := nP_0 (h4 q hq)
    unfold gU at h6
    rw [sumP, sm_sumP, aP_eq, gcf, if_neg (Nat.lt_irrefl _), mP_eq] at h6
    have h7 : (Dt.sm k fun c => - gcf W M k c * M c q) = (-1 : Int × Int) * Dt.sm k fun c => mP (gcf W M k c) (M c q) := by
      rw [← Dt.sm_mul]; exact Dt.sm_congr fun c _ => by rw [mP_eq]; grind
    rw [h7]
    have h8 : (Dt.sm k fun c => mP (gcf W M k c) (M c q)) + Dt.det k (gG W M) * M k q = 0 := h6
    grind
  obtain ⟨f, g, hfg, hne, _⟩ := hr
  obtain ⟨d, hd⟩ : ∃ d, Dt.det k (gG W M) = d := ⟨_, rfl⟩
  rw [hd] at h1 h5
  have e := Dt.det_mul (n := n) (fun c j => if c = k then 0 else M c (g j)) (fun i c => if f i = k then (if c < k then - gcf W M k c else 0) else if c = f i then d else 0)
  rw [(Dt.alt_det (R := Int × Int) (n := n)).zero (A := fun c j => if c = k then 0 else M c (g j)) (k := k) hk (fun c _ => if_pos rfl),
    Dt.det_congr (A := Dt.mapr n _ _) (B := fun i j => d * M (f i) (g j)) fun i hi j hj => by
      unfold Dt.mapr
      by_cases c : f i = k
      · simp only [if_pos c]
        rw [Dt.sm_ext (r := k) (Nat.le_of_lt hk) fun c hc _ => by simp only [if_neg (show ¬ c < k by omega)]; grind, c, h5 _ (hfg j hj).2]
        exact Dt.sm_congr fun c hc => by simp only [if_pos hc, if_neg (show ¬ c = k by omega)]
      · simp only [if_neg c]
        rw [Dt.sm_one (k := f i) (hfg i hi).1 fun x _ hne => by simp only [if_neg hne]; grind]
        simp only [if_true, if_neg c],
    Dt.det_scale] at e
  have h9 : Dt.pwr d n * Dt.det n (fun i j => M (f i) (g j)) = 0 := by rw [e]; grind
  exact (noz _ _ h9).elim (Dt.pwr_ne noz one_ne h1 n) hne
theorem gram_rk (hr : Dt.Rk n W M r) : r = n ↔ Dt.det n (gG W M) ≠ 0 := by
  have hle : r ≤ n := by
    obtain ⟨f, g, hfg, hne, _⟩ := hr
    exact Nat.le_of_not_lt fun c => hne (Dt.minor_big (h := n) c fun i hi => (hfg i hi).1)
  constructor
  · rintro rfl; exact gram_full hr
  · intro h
    exact Nat.le_antisymm hle (Nat.le_of_not_lt fun c => h (gram_low hr c))
end
end Go.Proofs.Ytjfjlloibmebeaa


/- gdet: what GdetPositive asks of the leading determinants. -/
namespace Go.Proofs.Ytjfjlloibmebeaa
open Go Go.RowKit Dig
set_option linter.unusedVariables false
def zM (k : Nat) (M : Nat → Nat → Int × Int) (i : Nat) : Int := (Dt.det i (gG k M)).1
def posB (z : Nat → Int) : Nat → Bool
  | 0 => true
  | i + 1 => posB z i && decide (0 < z i)
theorem posB_iff {z : Nat → Int} : ∀ {n : Nat}, posB z n = true ↔ ∀ j, j < n → 0 < z j
  | 0 => ⟨fun _ j hj => absurd hj (Nat.not_lt_zero _), fun _ => rfl⟩
  | n + 1 => by
    unfold posB
    rw [Bool.and_eq_true, posB_iff, decide_eq_true_eq]
    constructor
    · intro ⟨h1, h2⟩ j hj
      by_cases e : j = n
      · rw [e]; exact h2
      · exact h1 j (by omega)
    · intro h
      exact ⟨fun j hj => h j (by omega), h n (by omega)⟩
section
variable {n k r : Nat} {M : Nat → Nat → Int × Int}
theorem zM_last (hr : Dt.Rk n k M r) : 0 < zM k M n ↔ r = n := by
  rw [gram_rk hr]
  have h1 := gram_pos (W := k) (M := M) n
  have h2 := gram_real (W := k) (M := M) n
  constructor
  · intro h h0
    unfold zM at h
    rw [h0] at h
    exact absurd h (by decide)
  · intro h
    unfold zM
    rcases Int.lt_or_eq_of_le h1 with h3 | h3
    · exact h3
    · exfalso; apply h
      rw [h2, ← h3]; rfl
theorem zM_all (hr : Dt.Rk n k M r) : posB (zM k M) (n + 1) = decide (r = n) := by
  have hl := zM_last hr
  by_cases e : r = n
  · rw [decide_eq_true e, posB_iff]
    intro j hj
    rcases Int.lt_or_eq_of_le (gram_pos (W := k) (M := M) j) with h3 | h3
    · exact h3
    · exfalso
      have h2 := gram_real (W := k) (M := M) j
      have h4 : Dt.det j (gG k M) = 0 := by rw [h2, ← h3]; rfl
      have h5 := gram_0s h4 (show j ≤ n by omega)
      exact (gram_rk hr).1 e h5
  · rw [decide_eq_false e]
    cases hp : posB (zM k M) (n + 1) with
    | false => rfl
    | true => exact absurd (hl.1 (posB_iff.1 hp n (by omega))) e
theorem zM_1 : zM k M 1 = lenS k fun q => nP (M 0 q) := by
  unfold zM
  rw [← Dt.D_diag (k := 0), Dt.D_0]
  unfold gG
  rw [dot_len]
theorem zM_sq : zM n M n = nP (Dt.det n M) := by unfold zM; rw [gram_square]
end
theorem zM_bd {n W L i : Nat} {M : Nat → Nat → Int × Int} (hB : MinB n n L (gG W M)) (hi : i ≤ n) : (dig (zM W M i).natAbs).length ≤ L :=
  (hB i id id (fun r hr => ⟨by simp only [id]; omega, by simp only [id]; omega⟩) (fun r q h _ => by simp only [id]; omega)).1
theorem zcmp_self (x : Int) : zcmp x x = 0 := by unfold zcmp; rw [if_neg (by omega), if_pos rfl]
end Go.Proofs.Ytjfjlloibmebeaa


/- The reference's Round of longer numbers. -/
namespace Go.Proofs.Ytjfjlloibmebeaa
open Go Go.RowKit Dig
set_option linter.unusedVariables false
end Go.Proofs.Ytjfjlloibmebeaa

