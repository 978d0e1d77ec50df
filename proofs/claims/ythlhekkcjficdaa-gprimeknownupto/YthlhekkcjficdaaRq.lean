/- A region that draws, of many operations: its order is checked by a mask, operation by operation (flOK's array of marks costs too much above some fifty). -/
import Derived.Test.YthlhekkcjficdaaWkToG2
namespace Go.Proofs.Ythlhekkcjficdaa
open Go Go.RowKit Dig
set_option linter.unusedVariables false
def rdy (md : Region.Mode) (n m : Nat) (o : Oper) (i : Nat) : Bool := !m.testBit i && o.after.all fun e => !Region.binds md e || (Nat.blt e.on n && m.testBit e.on)
def frA (md : Region.Mode) (l : List Oper) (m : Nat) (oi : Oper) (i : Nat) : List Oper → Nat → Bool
  | [], _ => true
  | oj :: t, j => (j == i || m.testBit j || oj.after.any (fun e => Region.binds md e && e.on == i) || oi.apart l.toArray oj) && frA md l m oi i t (j + 1)
def rdA (md : Region.Mode) (n m k : Nat) : List Oper → Nat → Bool
  | [], _ => true
  | o :: t, j => (j == k || !rdy md n m o j) && rdA md n m k t (j + 1)
def fqOK (md : Region.Mode) (l : List Oper) (n : Nat) : Nat → Nat → List (Nat × Bool) → Bool
  | 0, m, plan => plan.isEmpty && rdA md n m n l 0
  | _ + 1, _, [] => false
  | f + 1, m, (i, c) :: rest => (match nthO l i with
      | none => false
      | some o => rdy md n m o i && (if c then rdA md n m i l 0 else frA md l m o i l 0)) && fqOK md l n f (m ||| (1 <<< i)) rest
theorem frA_at {md : Region.Mode} {l : List Oper} {m i : Nat} {oi : Oper} : ∀ (t : List Oper) (j : Nat), frA md l m oi i t j = true → ∀ k oj, t[k]? = some oj →
    (j + k == i || m.testBit (j + k) || oj.after.any (fun e => Region.binds md e && e.on == i) || oi.apart l.toArray oj) = true
  | [], j, _, k, oj, hk => by simp at hk
  | o :: t, j, h, k, oj, hk => by
    rw [frA, Bool.and_eq_true] at h
    cases k with
    | zero => cases hk; exact h.1
    | succ k => have := frA_at t (j + 1) h.2 k oj (by simpa using hk); rwa [show j + 1 + k = j + (k + 1) by omega] at this
theorem rdA_at {md : Region.Mode} {n m k : Nat} : ∀ (t : List Oper) (j : Nat), rdA md n m k t j = true → ∀ q o, t[q]? = some o → (j + q == k || !rdy md n m o (j + q)) = true
  | [], j, _, q, o, hq => by simp at hq
  | o' :: t, j, h, q, o, hq => by
    rw [rdA, Bool.and_eq_true] at h
    cases q with
    | zero => cases hq; exact h.1
    | succ q => have := rdA_at t (j + 1) h.2 q o (by simpa using hq); rwa [show j + 1 + q = j + (q + 1) by omega] at this
/-- The marks are the mask's bits. -/
def MB (n : Nat) (a : Array Bool) (m : Nat) : Prop := a.size = n ∧ ∀ j, j < n → a[j]? = some (m.testBit j)
theorem MB.getT {n m j : Nat} {a : Array Bool} (h : MB n a m) (hj : j < n) : a.getD j true = m.testBit j := by
  simp [Array.getD_eq_getD_getElem?, h.2 j hj]
theorem MB.getF {n m j : Nat} {a : Array Bool} (h : MB n a m) : a.getD j false = (Nat.blt j n && m.testBit j) := by
  rcases Nat.lt_or_ge j n with hj | hj
  · have hb : Nat.blt j n = true := by simp [Nat.blt_eq, hj]
    simp [Array.getD_eq_getD_getElem?, h.2 j hj, hb]
  · have hb : Nat.blt j n = false := by rw [Bool.eq_false_iff]; intro hc; rw [Nat.blt_eq] at hc; omega
    have h0 : a[j]? = none := Array.getElem?_eq_none (by rw [h.1]; exact hj)
    simp [Array.getD_eq_getD_getElem?, h0, hb]
theorem MB.set {n m i : Nat} {a : Array Bool} (h : MB n a m) (hi : i < n) : MB n (a.setIfInBounds i true) (m ||| (1 <<< i)) := by
  refine ⟨by rw [Array.size_setIfInBounds]; exact h.1, fun j hj => ?_⟩
  rw [Array.getElem?_setIfInBounds, h.2 j hj, Nat.testBit_or, Nat.one_shiftLeft, Nat.testBit_two_pow]
  by_cases e : i = j
  · subst e; simp [h.1, hi]
  · simp [e]
theorem MB.zero (n : Nat) : MB n (Array.replicate n false) 0 := ⟨by simp, fun j hj => by simp [hj]⟩
theorem MB.rdy {md : Region.Mode} {l : List Oper} {m i : Nat} {a : Array Bool} (h : MB l.length a m) : i ∈ Region.ready md l.toArray a ↔ ∃ o, l[i]? = some o ∧ rdy md l.length m o i = true := by
  unfold Region.ready
  rw [List.mem_filter, List.mem_range, List.size_toArray]
  constructor
  · rintro ⟨hi, h1⟩
    rw [List.getElem?_toArray, List.getElem?_eq_getElem hi, h.getT hi] at h1
    refine ⟨l[i], List.getElem?_eq_getElem hi, ?_⟩
    simp only [h.getF] at h1
    exact h1
  · rintro ⟨o, ho, h1⟩
    have hi : i < l.length := (List.getElem?_eq_some_iff.1 ho).1
    refine ⟨hi, ?_⟩
    rw [List.getElem?_toArray, ho, h.getT hi]
    simp only [h.getF]
    exact h1
theorem MB.none {md : Region.Mode} {l : List Oper} {m k : Nat} {a : Array Bool} (h : MB l.length a m) (hr : rdA md l.length m k l 0 = true) : ∀ i ∈ Region.ready md l.toArray a, i = k := by
  intro i hi
  obtain ⟨o, ho, h1⟩ := h.rdy.1 hi
  have := rdA_at l 0 hr i o ho
  rw [Nat.zero_add, h1] at this
  simpa using this
theorem fq_fl {md : Region.Mode} {l : List Oper} : ∀ (f m : Nat) (a : Array Bool) (plan : List (Nat × Bool)), MB l.length a m → fqOK md l l.length f m plan = true → flOK md l [] f a plan [] = true
  | 0, m, a, plan, h, hk => by
    rw [fqOK, Bool.and_eq_true] at hk
    have h0 : Region.ready md l.toArray a = [] := by
      cases hc : Region.ready md l.toArray a with
      | nil => rfl
      | cons i t =>
        have hi : i ∈ Region.ready md l.toArray a := by rw [hc]; exact List.mem_cons_self
        obtain ⟨o, ho, _⟩ := h.rdy.1 hi
        have := (List.getElem?_eq_some_iff.1 ho).1
        exact absurd (h.none hk.2 i hi) (by omega)
    rw [flOK, plan2OK, hk.1, h0]; rfl
  | f + 1, m, a, [], h, hk => by rw [fqOK] at hk; cases hk
  | f + 1, m, a, (i, c) :: rest, h, hk => by
    rw [fqOK, Bool.and_eq_true] at hk
    obtain ⟨h1, h2⟩ := hk
    cases ho : nthO l i with
    | none => rw [ho] at h1; cases h1
    | some o =>
      rw [ho] at h1
      have ho' : l[i]? = some o := by rw [nthO_eq]; exact ho
      have hi : i < l.length := (List.getElem?_eq_some_iff.1 ho').1
      have h3 := Bool.and_eq_true _ _ |>.mp h1
      have hr : i ∈ Region.ready md l.toArray a := h.rdy.2 ⟨o, ho', h3.1⟩
      have ih := fq_fl f (m ||| (1 <<< i)) (a.setIfInBounds i true) rest (h.set hi) h2
      cases c with
      | false =>
        have hf : Region.free md l.toArray a i = true := by
          unfold Region.free
          rw [List.getElem?_toArray, ho']
          simp only [List.all_eq_true, List.mem_range, List.size_toArray]
          intro j hj
          have hjo : l[j]? = some l[j] := List.getElem?_eq_getElem hj
          rw [List.getElem?_toArray, hjo, h.getT hj]
          have := frA_at l 0 h3.2 j l[j] hjo
          rw [Nat.zero_add] at this
          simp only [Bool.or_eq_true] at this ⊢
          rcases this with ((h4 | h4) | h4) | h4
          · exact .inl (.inl h4)
          · exact .inl (.inr h4)
          · exact .inr (.inl h4)
          · exact .inr (.inr h4)
        rw [flOK, hf, ih, List.contains_iff_mem.2 hr]; rfl
      | true =>
        have hn := h.none h3.2
        have e1 : (Region.ready md l.toArray a).isEmpty = false := by
          cases hc : Region.ready md l.toArray a with
          | nil => rw [hc] at hr; cases hr
          | cons x t => rfl
        have e2 : (Region.ready md l.toArray a).all (fun q => q == i || ([] : List Nat).contains q) = true := by
          rw [List.all_eq_true]; intro x hx; rw [hn x hx]; simp
        rw [flOK, e1, e2, ih]; rfl
section
variable {P : Program} {l : List Oper} {a : Act} {w : World}
theorem wp_region_f5 {id : Nat} {Q : Exit → Act → World → Prop} (plan1 : List (Nat × Bool)) (ob : Nat → Obj) (CL : List Nat) (bad : List (Nat × Nat)) {bs : List (Nat × Array Value × TypeId)} (hC : AllB bs w) (hl : ∀ j ∈ ([] : List Nat), Lays P l ob j)
    (h : ∀ w', Below w.heap.size w w' → wpFl P l (AllB bs) (bs.map BG) CL ob [] w'.heap.size (wpTail P l (bs.map BG) bad (Q .normal) []) plan1 a w')
    (hok : fqOK .any l l.length plan1.length 0 plan1 = true := by kernel_rfl) (hm : P.follows .mixedOrders = true := by kernel_rfl) (hs : Region.noSelect l.toArray = true := by kernel_rfl)
    (hlen : plan1.length = l.length := by kernel_rfl) (hpa : planApart l [] plan1 = true := by kernel_rfl) (hwt : waits .any l CL bad plan1 = true := by kernel_rfl) (hnb : notBad bad plan1 [] = true := by kernel_rfl) (hsu : sundry l [] = true := by kernel_rfl) : (Code.region id l.toArray true).wp P Q a w :=
  wp_region_f4 plan1 [] [] ob CL bad hC hl h hm hs hlen (fq_fl _ _ _ _ (MB.zero _) hok) hpa hwt hnb hsu List.nodup_nil
end
end Go.Proofs.Ythlhekkcjficdaa

