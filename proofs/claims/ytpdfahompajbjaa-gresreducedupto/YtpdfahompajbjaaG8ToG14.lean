/- gint: Canon; the reference's. -/
import Derived.Test.YtpdfahompajbjaaG10ToG13
import Derived.Test.YtpdfahompajbjaaWkToG2

namespace Go.Proofs.Ytpdfahompajbjaa
open Go Go.RowKit Dig
set_option linter.unusedVariables false
section
variable {w : World} {va vb : Value} {x y u v : Int} {l m k n : Nat}
end
end Go.Proofs.Ytpdfahompajbjaa

/- What Xgcd tells. -/
namespace Go.Proofs.Ytpdfahompajbjaa
open Go Go.RowKit Dig
set_option linter.unusedVariables false
end Go.Proofs.Ytpdfahompajbjaa

/- Residues by a Gaussian modulus: plain mathematics. -/
namespace Go.Proofs.Ytpdfahompajbjaa
open Go Go.RowKit Dig
set_option linter.unusedVariables false
def gCg (u v x y x' y' : Int) : Prop := ∃ c d : Int, x' = x + (c * u - d * v) ∧ y' = y + (c * v + d * u)
theorem gCg.refl (u v x y : Int) : gCg u v x y x y := ⟨0, 0, by grind, by grind⟩
theorem gCg.symm {u v x y x' y' : Int} (h : gCg u v x y x' y') : gCg u v x' y' x y := by
  obtain ⟨c, d, h1, h2⟩ := h
  exact ⟨-c, -d, by grind, by grind⟩
theorem gCg.trans {u v x y x' y' x'' y'' : Int} (h : gCg u v x y x' y') (h' : gCg u v x' y' x'' y'') : gCg u v x y x'' y'' := by
  obtain ⟨c, d, h1, h2⟩ := h
  obtain ⟨c', d', h3, h4⟩ := h'
  exact ⟨c + c', d + d', by grind, by grind⟩
theorem gCg.mul {u v x y x' y' a b a' b' : Int} (h : gCg u v x y x' y') (h' : gCg u v a b a' b') : gCg u v (x * a - y * b) (x * b + y * a) (x' * a' - y' * b') (x' * b' + y' * a') := by
  obtain ⟨c, d, h1, h2⟩ := h
  obtain ⟨p, q, h3, h4⟩ := h'
  subst h1 h2 h3 h4
  exact ⟨x * p - y * q + (c * a - d * b) + (c * p - d * q) * u - (c * q + d * p) * v, x * q + y * p + (c * b + d * a) + (c * p - d * q) * v + (c * q + d * p) * u, by grind, by grind⟩
theorem gCg.res (x y u v : Int) : gCg u v (gR1 x y u v) (gR2 x y u v) x y := ⟨gQ1 x y u v, gQ2 x y u v, by unfold gR1; grind, by unfold gR2; grind⟩
theorem rnd_add {x y : Int} (c : Int) (h0 : y ≠ 0) : rnd (x + c * y) y = rnd x y + c := by
  unfold rnd
  rw [show 2 * (x + c * y) + y = 2 * x + y + c * (2 * y) by grind, Int.add_mul_fdiv_right _ _ (by omega)]
theorem gCg.one {u v x y x' y' : Int} (h : gCg u v x y x' y') (h0 : gN u v ≠ 0) : gR1 x' y' u v = gR1 x y u v ∧ gR2 x' y' u v = gR2 x y u v := by
  obtain ⟨c, d, h1, h2⟩ := h
  have e1 : gT1 x' y' u v = gT1 x y u v + c * gN u v := by subst h1 h2; unfold gT1 gN; grind
  have e2 : gT2 x' y' u v = gT2 x y u v + d * gN u v := by subst h1 h2; unfold gT2 gN; grind
  have q1 : gQ1 x' y' u v = gQ1 x y u v + c := by unfold gQ1; rw [e1, rnd_add c h0]
  have q2 : gQ2 x' y' u v = gQ2 x y u v + d := by unfold gQ2; rw [e2, rnd_add d h0]
  constructor
  · unfold gR1; rw [q1, q2]; grind
  · unfold gR2; rw [q1, q2]; grind
theorem gR_again {x y u v : Int} (h0 : gN u v ≠ 0) : gR1 (gR1 x y u v) (gR2 x y u v) u v = gR1 x y u v ∧ gR2 (gR1 x y u v) (gR2 x y u v) u v = gR2 x y u v := (gCg.res x y u v).symm.one h0
def gpw (x y : Int) : Nat → Int × Int
  | 0 => (1, 0)
  | n + 1 => ((gpw x y n).1 * x - (gpw x y n).2 * y, (gpw x y n).1 * y + (gpw x y n).2 * x)
theorem gpw_add (x y : Int) (n : Nat) : ∀ m, gpw x y (n + m) = ((gpw x y n).1 * (gpw x y m).1 - (gpw x y n).2 * (gpw x y m).2, (gpw x y n).1 * (gpw x y m).2 + (gpw x y n).2 * (gpw x y m).1)
  | 0 => by simp only [gpw, Nat.add_zero]; ext <;> simp only <;> grind
  | m + 1 => by
    show gpw x y (n + m + 1) = _
    simp only [gpw]
    rw [gpw_add x y n m]
    ext <;> simp only <;> grind
theorem gpw_dbl (x y : Int) (n : Nat) : gpw x y (2 * n) = ((gpw x y n).1 * (gpw x y n).1 - (gpw x y n).2 * (gpw x y n).2, (gpw x y n).1 * (gpw x y n).2 + (gpw x y n).2 * (gpw x y n).1) := by
  rw [show 2 * n = n + n by omega, gpw_add]
theorem gpw_cg {u v x y x' y' : Int} (h : gCg u v x y x' y') : ∀ n, gCg u v (gpw x y n).1 (gpw x y n).2 (gpw x' y' n).1 (gpw x' y' n).2
  | 0 => gCg.refl _ _ _ _
  | n + 1 => (gpw_cg h n).mul h
end Go.Proofs.Ytpdfahompajbjaa

/- Two residues as one: plain mathematics; how long sums and products are. -/
namespace Go.Proofs.Ytpdfahompajbjaa
open Go Go.RowKit Dig
set_option linter.unusedVariables false
theorem gCg.eq {u v x y x' y' X Y X' Y' : Int} (h : gCg u v x y x' y') (h1 : x = X) (h2 : y = Y) (h3 : x' = X') (h4 : y' = Y') : gCg u v X Y X' Y' := by rw [← h1, ← h2, ← h3, ← h4]; exact h
end Go.Proofs.Ytpdfahompajbjaa

/- Regions in which a call or an operation may panic: the walks of Rg, Rh, Rf, Wk once more, with what a panic must meet. -/
namespace Go.Proofs.Ytpdfahompajbjaa.Pn
open Go Go.RowKit Dig
set_option linter.unusedVariables false
class PX where
  X : List PanicEntry → World → Prop
def botX [PX] : Exit → Act → World → Prop
  | .panic ch, _, w => PX.X ch w
  | _, _, _ => False
theorem put_defers (a : Act) (d : Option Tmp) (v : Value) : (a.put d v).defers = a.defers := by unfold Act.put; split <;> rfl
section
variable [PX] {P : Program} {ops : Array Oper} {md : Region.Mode} {C : World → Prop}
def CalmE (next : Value → World → Prop) : Ending → World → Prop
  | .returned v, w => next v w
  | .panicked ch, w => PX.X ch w
  | .outgrown, _ => False
theorem CalmE.mono {K K' : Value → World → Prop} (h : ∀ v w, K v w → K' v w) : ∀ {e : Ending} {w : World}, CalmE K e w → CalmE K' e w
  | .returned _, _, hh => h _ _ hh
  | .panicked _, _, hh => hh
  | .outgrown, _, hh => hh.elim
def Calm (P : Program) (o : Oper) (a : Act) (w : World) (next : Value → World → Prop) : Prop :=
  match (execOp a.eval o).run P w with
  | .ok (.value v) w' => next v w'
  | .ok .skip w' => next undef w'
  | .ok (.enter f args) w' => Calls P f args w' (CalmE next)
  | .ok (.row row args) w' => Rows P row args w' next
  | .halt (.panic v) w' => PX.X [{ v, recovered := false }] w'
  | _ => False
theorem Calm.mono {o : Oper} {a : Act} {w : World} {K K' : Value → World → Prop} (h : ∀ v w, K v w → K' v w) (hh : Calm P o a w K) : Calm P o a w K' := by
  unfold Calm at *
  generalize (execOp a.eval o).run P w = r at *
  cases r with
  | ok n w' =>
    cases n <;> simp only at hh ⊢
    case value => exact h _ _ hh
    case skip => exact h _ _ hh
    case enter => exact Calls.mono hh fun e w'' h2 => CalmE.mono h h2
    case row => exact Rows.mono hh fun v w'' h2 => h _ _ h2
  | halt x w' =>
    cases x <;> simp only at hh ⊢
    case panic => exact hh
theorem Calm.wp {o : Oper} {a : Act} {w : World} {K : Act → World → Prop} {Q' : Exit → Act → World → Prop} (hX : ∀ ch w', PX.X ch w' → Q' (.panic ch) a w') (hh : Calm P o a w fun v w' => K (a.put o.dst v) w') : o.wp P a w K Q' := by
  unfold Calm at hh
  unfold Oper.wp
  generalize (execOp a.eval o).run P w = r at *
  cases r with
  | ok n w' =>
    cases n <;> simp only at hh <;> simp only [Oper.upon]
    case value => exact hh
    case skip => exact hh
    case enter =>
      refine Calls.mono hh fun e w'' he => ?_
      cases e with
      | returned v => exact he
      | panicked c => exact hX _ _ he
      | outgrown => exact he.elim
    case row => exact hh
  | halt x w' =>
    cases x <;> simp only at hh <;> simp only [Oper.upon]
    case panic => exact hX _ _ hh
def cOp (P : Program) (ops : Array Oper) (C : World → Prop) (i : Nat) (K : Act → World → Prop) (a : Act) (w : World) : Prop :=
  match ops[i]? with
  | none => K a w
  | some o => if Region.wanted o (yielded ops a.tmps) then Calm P o a w (fun v w' => C w' ∧ K (a.put o.dst v) w') else K (a.put o.dst undef) w
theorem wpOp_of_cOp {i : Nat} {a : Act} {w : World} {K K' : Act → World → Prop} {Q' : Exit → Act → World → Prop} (hX : ∀ ch w', PX.X ch w' → Q' (.panic ch) a w') (h : ∀ a' w, a'.defers = a.defers → K a' w → K' a' w) (hh : cOp P ops C i K a w) : wpOp P ops Q' i K' a w := by
  unfold cOp at hh
  unfold wpOp
  split
  · rename_i ho; simp only [ho] at hh; exact h _ _ rfl hh
  · rename_i o ho
    simp only [ho] at hh
    split
    · rename_i hw; simp only [hw, if_true] at hh; exact .inl (Calm.wp hX (hh.mono fun v w' h3 => h _ _ (put_defers _ _ _) h3.2))
    · rename_i hw; simp only [hw] at hh; exact h _ _ (put_defers _ _ _) hh
theorem cOp_mono {i : Nat} {a : Act} {w : World} {K K' : Act → World → Prop} (hw : C w) (h : ∀ a w, C w → K a w → K' a w) (hh : cOp P ops C i K a w) : cOp P ops C i K' a w := by
  unfold cOp at *
  split
  · rename_i ho; simp only [ho] at hh; exact h _ _ hw hh
  · rename_i o ho
    simp only [ho] at hh
    split
    · rename_i hwt; simp only [hwt, if_true] at hh; exact hh.mono fun v w' h3 => ⟨h3.1, h _ _ h3.1 h3.2⟩
    · rename_i hwt; simp only [hwt] at hh; exact h _ _ hw hh
end
section
variable [PX] {P : Program} {l : List Oper} {md : Region.Mode} {C : World → Prop}
variable {Q : Act → World → Prop} {a : Act} {w : World} {rest : List (Nat × Bool)} {o : Oper}
end
section
variable [PX] {P : Program} {l : List Oper} {md : Region.Mode} {C : World → Prop}
def wpAnyX (P : Program) (md : Region.Mode) (ops : Array Oper) (Gs : List (World → Prop)) (bad : List (Nat × Nat)) (Q : Act → World → Prop) : Nat → Array Bool → Act → World → Prop
  | 0, listed, a, w => Region.ready md ops listed = [] ∧ Q a w
  | fuel + 1, listed, a, w => (Region.ready md ops listed = [] → Q a w) ∧ ∀ i ∈ Region.ready md ops listed, cOp P ops (fun w' => Keeps Gs bad i w w') i (wpAnyX P md ops Gs bad Q fuel (listed.setIfInBounds i true)) a w
theorem wpAny_of_x {D : List Deferred} {ops : Array Oper} {Gs : List (World → Prop)} {bad : List (Nat × Nat)} {Q : Act → World → Prop} {Q' : Exit → Act → World → Prop} (hX : ∀ ch a w', a.defers = D → PX.X ch w' → Q' (.panic ch) a w') (hQ : ∀ a w, Q a w → Q' .normal a w) : ∀ (fuel : Nat) (listed : Array Bool) (a : Act) (w : World), a.defers = D →
    wpAnyX P md ops Gs bad Q fuel listed a w → wpAny P md ops Q' fuel listed a w
  | 0, _, _, _, _, h => ⟨h.1, hQ _ _ h.2⟩
  | fuel + 1, _, a, _, hd, h => ⟨fun h0 => hQ _ _ (h.1 h0), fun i hi => wpOp_of_cOp (fun ch w' => hX ch a w' hd) (fun a' w' hd' h3 => wpAny_of_x hX hQ fuel _ a' w' (hd'.trans hd) h3) (h.2 i hi)⟩
theorem cOp_put2 {ops : Array Oper} {C C2 : World → Prop} {j : Nat} {oi oj : Oper} {v : Value} (hj : ops[j]? = some oj) (hap : oi.apart ops oj = true)
    (hsi : ∀ cs b, oi.op ≠ .select cs b) (hsj : ∀ cs b, oj.op ≠ .select cs b) {K : Act → World → Prop} {a : Act} {w : World}
    (hy : Stable P ops C2 oi v a) (h : cOp P ops C j K (a.put oi.dst v) w) :
    cOp P ops C j (fun a' w' => Stable P ops C2 oi v a' ∧ K (a'.put oi.dst v) w') a w := by
  obtain ⟨h1, h2, h3⟩ := Oper.apart_spec hap
  have keep : ∀ (a : Act), Stable P ops C2 oi v a → ∀ u, Stable P ops C2 oi v (a.put oj.dst u) := fun a hy u =>
    hy.of_same (execOp_put oi hsi a oj.dst u h3) (wanted_put oi a oj.dst u h3)
  unfold cOp at *
  simp only [hj] at *
  rw [wanted_put oj a oi.dst v h1] at h
  split
  · rename_i hw
    simp only [hw, if_true] at h
    unfold Calm at h ⊢
    rw [execOp_put oj hsj a oi.dst v h1] at h
    have conv : ∀ u w', C w' ∧ K ((a.put oi.dst v).put oj.dst u) w' → C w' ∧ Stable P ops C2 oi v (a.put oj.dst u) ∧ K ((a.put oj.dst u).put oi.dst v) w' := fun u w' ⟨c1, c2⟩ =>
      ⟨c1, keep a hy u, by rw [← Act.put_comm a v u h2]; exact c2⟩
    generalize (execOp a.eval oj).run P w = r at *
    cases r with
    | ok n w' =>
      cases n <;> simp only at h ⊢
      case value => exact conv _ _ h
      case skip => exact conv _ _ h
      case enter => exact Calls.mono h fun e w'' h2 => CalmE.mono conv h2
      case row => exact Rows.mono h fun u w'' e2 => conv _ _ e2
    | halt x w' =>
      cases x <;> simp only at h ⊢
      case panic => exact h
  · rename_i hw
    simp only [hw] at h
    exact ⟨keep a hy _, by rw [← Act.put_comm a v undef h2]; exact h⟩
theorem stable_cOp2 {ops : Array Oper} {C C2 : World → Prop} {i : Nat} {o : Oper} {v : Value} {a : Act} {w : World} (hi : ops[i]? = some o) (hy : Stable P ops C2 o v a) (hC2 : C2 w) (hC : C w) {K : Act → World → Prop} (h : K (a.put o.dst v) w) : Go.Proofs.Ytpdfahompajbjaa.Pn.cOp P ops C i K a w := by
  unfold Go.Proofs.Ytpdfahompajbjaa.Pn.cOp
  simp only [hi]
  rcases hy with ⟨hw, hv⟩ | ⟨hw, rfl⟩
  · simp only [hw, if_true]
    unfold Calm
    rw [hv w hC2]
    exact ⟨hC, h⟩
  · simp only [hw, Bool.false_eq_true, if_false]; exact h
theorem wpAnyX_first {ops : Array Oper} {Gs : List (World → Prop)} {bad : List (Nat × Nat)} {g : Nat} {Q : Act → World → Prop} {i : Nat} {oi : Oper} {v : Value} (hi : ops[i]? = some oi) (hsel : ∀ (j : Nat) (o : Oper) cs b, ops[j]? = some o → o.op ≠ .select cs b)
    (hX : ∀ j oj, ops[j]? = some oj → (∀ e ∈ oj.after, Region.binds md e = true → e.on ≠ i) → bad.contains (j, g) = false) :
    ∀ (fuel : Nat) (listed : Array Bool) (a : Act) (w : World), nthG Gs g w →
      (∀ j oj, ops[j]? = some oj → j ≠ i → listed.getD j true = false → (∀ e ∈ oj.after, Region.binds md e = true → e.on ≠ i) → oi.apart ops oj = true) →
      i ∈ Region.ready md ops listed → Stable P ops (nthG Gs g) oi v a →
      wpAnyX P md ops Gs bad Q fuel (listed.setIfInBounds i true) (a.put oi.dst v) w → wpAnyX P md ops Gs bad Q (fuel + 1) listed a w := by
  intro fuel
  induction fuel with
  | zero =>
    intro listed a w hG _ hr hy H
    refine ⟨fun h => (by rw [h] at hr; cases hr), fun j hj => ?_⟩
    by_cases hji : j = i
    · subst hji; exact stable_cOp2 hi hy hG (Keeps.refl _ _ _ _) H
    · have := ready_mono hj hji
      rw [H.1] at this
      cases this
  | succ fuel ih =>
    intro listed a w hG hfree hr hy H
    refine ⟨fun h => (by rw [h] at hr; cases hr), fun j hj => ?_⟩
    by_cases hji : j = i
    · subst hji; exact stable_cOp2 hi hy hG (Keeps.refl _ _ _ _) H
    · have h1 := H.2 j (ready_mono hj hji)
      obtain ⟨hjun, oj, hoj, hall⟩ := mem_ready.1 hj
      have hnot : ∀ e ∈ oj.after, Region.binds md e = true → e.on ≠ i := fun e he hb heq => by
        have h1 := hall e he hb
        have h0 := (mem_ready.1 hr).1
        rw [heq] at h1
        rcases Nat.lt_or_ge i listed.size with h' | h'
        · simp [h'] at h0 h1; rw [h0] at h1; cases h1
        · simp [Array.getElem?_eq_none h'] at h1
      have h2 := cOp_put2 hoj (hfree j oj hoj hji hjun hnot) (fun cs b => hsel i oi cs b hi) (fun cs b => hsel j oj cs b hoj) hy h1
      have hfree' : ∀ k ok, ops[k]? = some ok → k ≠ i → (listed.setIfInBounds j true).getD k true = false →
          (∀ e ∈ ok.after, Region.binds md e = true → e.on ≠ i) → oi.apart ops ok = true := fun k ok hk hki hun hno => by
        refine hfree k ok hk hki ?_ hno
        by_cases hjk : j = k
        · subst hjk; exact hjun
        · rw [getD_set_ne true hjk] at hun; exact hun
      refine cOp_mono (C := fun w' => Keeps Gs bad j w w') (Keeps.refl _ _ _ _) (fun a' w' hCl h3 => ih (listed.setIfInBounds j true) a' w' (hCl g (hX j oj hoj hnot) hG) hfree' (ready_mono hr (Ne.symm hji)) h3.1 ?_) h2
      rw [Array.setIfInBounds_comm _ _ hji]
      exact h3.2
def wpTail (P : Program) (l : List Oper) (Gs : List (World → Prop)) (bad : List (Nat × Nat)) (Q : Act → World → Prop) : List Nat → Act → World → Prop
  | [], a, w => Q a w
  | k :: rest, a, w => ∃ o, nthO l k = some o ∧ if Region.wanted o (yielded l.toArray a.tmps) then Calm P o a w (fun v w' => Keeps Gs bad k w w' ∧ wpTail P l Gs bad Q rest (a.put o.dst v) w') else wpTail P l Gs bad Q rest (a.put o.dst undef) w
theorem wpAnyX_of_tail {Gs : List (World → Prop)} {bad : List (Nat × Nat)} {Q : Act → World → Prop} : ∀ (plan : List Nat) (listed : Array Bool) (a : Act) (w : World),
    plan2OK md l.toArray listed plan = true → wpTail P l Gs bad Q plan a w → wpAnyX P md l.toArray Gs bad Q plan.length listed a w
  | [], listed, a, w, hp, h => by
    simp only [plan2OK, List.isEmpty_iff] at hp
    exact ⟨hp, h⟩
  | k :: rest, listed, a, w, hp, h => by
    simp only [plan2OK, Bool.and_eq_true, beq_iff_eq] at hp
    obtain ⟨o, h0, h1⟩ := h
    refine ⟨fun h3 => (by rw [h3] at hp; cases hp.1), fun i hi => ?_⟩
    rw [hp.1] at hi
    obtain rfl : i = k := by simpa using hi
    unfold cOp
    rw [show l.toArray[i]? = some o by rw [← nthO_eq] at h0; simpa using h0]
    simp only
    split
    · rename_i hw
      simp only [hw, if_true] at h1
      exact h1.mono fun v w' ⟨c1, c2⟩ => ⟨c1, wpAnyX_of_tail rest _ _ _ hp.2 c2⟩
    · rename_i hw
      simp only [hw] at h1
      exact wpAnyX_of_tail rest _ _ _ hp.2 h1
def wpFl (P : Program) (l : List Oper) (C : World → Prop) (Gs : List (World → Prop)) (CL : List Nat) (ob : Nat → Obj) (F0 : List Nat) (B : Nat) (Q : Act → World → Prop) : List (Nat × Bool) → Act → World → Prop
  | [], a, w => ∀ w' (pt : Nat → Nat), Below w.heap.size w w' → C w' → (∀ j ∈ F0, B ≤ pt j ∧ w'.heap[pt j]? = some (ob j)) → (∀ i ∈ F0, ∀ j ∈ F0, i ≠ j → pt i ≠ pt j) → Q (putF l (fun j => some (pt j)) F0 a) w'
  | (i, false) :: rest, a, w => ∃ o v, nthO l i = some o ∧ Stable P l.toArray (nthG Gs (CL.getD i 99)) o v a ∧ wpFl P l C Gs CL ob F0 B Q rest (a.put o.dst v) w
  | (k, true) :: rest, a, w => ∃ o, nthO l k = some o ∧ if Region.wanted o (yielded l.toArray a.tmps) then
      ∀ w', Below w.heap.size w w' → C w' → Calm P o a w' (fun v w'' => Below w'.heap.size w' w'' ∧ C w'' ∧ wpFl P l C Gs CL ob F0 B Q rest (a.put o.dst v) w'') else wpFl P l C Gs CL ob F0 B Q rest (a.put o.dst undef) w
theorem wpAnyC_of_fl {Gs : List (World → Prop)} {CL : List Nat} {bad : List (Nat × Nat)} {Q : Act → World → Prop} {ob : Nat → Obj} {F0 : List Nat} {B : Nat} {plan2 : List Nat} (hns : Region.noSelect l.toArray = true) (hsu : sundry l F0 = true)
    (hl : ∀ j ∈ F0, Lays P l ob j) (hCa : ∀ w o, C w → C (w.alloc o)) (hCG : ∀ w, C w → ∀ G ∈ Gs, G w) (_hF : ∀ j ∈ F0, ∀ g, bad.contains (j, g) = false) :
    ∀ (n : Nat) (plan : List (Nat × Bool)) (F : List Nat) (listed : Array Bool) (pt : Nat → Option Nat) (a : Act) (w w' : World), flOK md l plan2 n listed plan F = true → planApart l F0 plan = true → waits md l CL bad plan = true → (∀ k ∈ plan, ∀ g, bad.contains (k.1, g) = false) → F.Nodup →
      (∀ j ∈ F, j ∈ F0) → (∀ j ∈ F0, pt j = none ↔ j ∈ F) → (∀ j ∈ F0, ∀ p, pt j = some p → B ≤ p ∧ p < w'.heap.size ∧ w'.heap[p]? = some (ob j)) → (∀ i ∈ F0, ∀ j ∈ F0, ∀ p, pt i = some p → pt j = some p → i = j) →
      B ≤ w'.heap.size → Below w.heap.size w w' → C w' → wpFl P l C Gs CL ob F0 B (wpTail P l Gs bad Q plan2) plan a w → wpAnyX P md l.toArray Gs bad Q (n + plan2.length) listed (putF l pt F0 a) w' := by
  have hsel := fun (j : Nat) (o : Oper) cs b (h : nthO l j = some o) => Region.noSelect_spec hns j o cs b (by rw [← nthO_eq] at h; simpa using h)
  -- a block is laid
  have hfl : ∀ (n : Nat) (plan : List (Nat × Bool)) (F : List Nat) (listed : Array Bool) (pt : Nat → Option Nat) (a : Act) (w w' : World),
      (∀ (F : List Nat) (listed : Array Bool) (pt : Nat → Option Nat) (w' : World), flOK md l plan2 n listed plan F = true → F.Nodup →
        (∀ j ∈ F, j ∈ F0) → (∀ j ∈ F0, pt j = none ↔ j ∈ F) → (∀ j ∈ F0, ∀ p, pt j = some p → B ≤ p ∧ p < w'.heap.size ∧ w'.heap[p]? = some (ob j)) → (∀ i ∈ F0, ∀ j ∈ F0, ∀ p, pt i = some p → pt j = some p → i = j) →
        B ≤ w'.heap.size → Below w.heap.size w w' → C w' → wpAnyX P md l.toArray Gs bad Q (n + plan2.length) listed (putF l pt F0 a) w') →
      ∀ j ∈ F, flOK md l plan2 n (listed.setIfInBounds j true) plan (F.erase j) = true → F.Nodup →
      (∀ j ∈ F, j ∈ F0) → (∀ j ∈ F0, pt j = none ↔ j ∈ F) → (∀ j ∈ F0, ∀ p, pt j = some p → B ≤ p ∧ p < w'.heap.size ∧ w'.heap[p]? = some (ob j)) → (∀ i ∈ F0, ∀ j ∈ F0, ∀ p, pt i = some p → pt j = some p → i = j) →
      B ≤ w'.heap.size → Below w.heap.size w w' → C w' → cOp P l.toArray (fun w2 => Keeps Gs bad j w' w2) j (wpAnyX P md l.toArray Gs bad Q (n + plan2.length) (listed.setIfInBounds j true)) (putF l pt F0 a) w' := by
    intro n plan F listed pt a w w' ih j hj hok hnd hF' hnone hpt hinj hB hb hC
    obtain ⟨o, ho, hg, hrun⟩ := hl j (hF' j hj)
    unfold cOp
    rw [show l.toArray[j]? = some o by rw [← nthO_eq] at ho; simpa using ho]
    have hw : Region.wanted o (yielded l.toArray (putF l pt F0 a).tmps) = true := by unfold Region.wanted; rw [hg]
    simp only [hw, if_true]
    unfold Calm
    rw [hrun]
    refine ⟨fun g _ _ => nthG_all (hCG _ (hCa _ _ hC)) g, ?_⟩
    rw [putF_set ho ((hnone j (hF' j hj)).2 hj) (hF' j hj) hsu]
    have hsz : (w'.alloc (ob j)).heap.size = w'.heap.size + 1 := by simp
    have hold : ∀ p, p < w'.heap.size → (w'.alloc (ob j)).heap[p]? = w'.heap[p]? := fun p hp => Below.heap_alloc _ _ _ hp
    have hnew : (w'.alloc (ob j)).heap[w'.heap.size]? = some (ob j) := by
      show (w'.heap.push _)[w'.heap.size]? = _
      simp
    refine ih (F.erase j) _ _ _ hok (hnd.erase _) (fun i hi => hF' i (List.mem_of_mem_erase hi)) ?_ ?_ ?_ (by omega) (hb.alloc hb.size _) (hCa _ _ hC)
    · intro i hi
      unfold setP
      split
      · rename_i e; subst e; simp [hnd.mem_erase_iff]
      · rename_i e; rw [hnone i hi, hnd.mem_erase_iff]; simp [e]
    · intro i hi p hp
      unfold setP at hp
      split at hp
      · rename_i e
        subst e
        obtain rfl : w'.heap.size = p := by simpa using hp
        exact ⟨hB, by omega, hnew⟩
      · obtain ⟨h1, h2, h3⟩ := hpt i hi p hp
        exact ⟨h1, by omega, by rw [hold p h2]; exact h3⟩
    · intro i hi k hk p hp hq
      unfold setP at hp hq
      split at hp <;> split at hq
      · rename_i e1 e2; rw [e1, e2]
      · have h1 : w'.heap.size = p := by simpa using hp
        have h2 := (hpt k hk p hq).2.1
        omega
      · have h1 : w'.heap.size = p := by simpa using hq
        have h2 := (hpt i hi p hp).2.1
        omega
      · exact hinj i hi k hk p hp hq
  intro n
  induction n with
  | zero =>
    intro plan F listed pt a w w' hok hpa hwt hnb hnd hF' hnone hpt hinj hB hb hC h
    simp only [flOK, Bool.and_eq_true, List.isEmpty_iff] at hok
    obtain ⟨⟨rfl, rfl⟩, hp2⟩ := hok
    have hall : ∀ j ∈ F0, ∃ p, pt j = some p := fun j hj => by
      cases hp : pt j with
      | none => exact absurd ((hnone j hj).1 hp) (by simp)
      | some p => exact ⟨p, rfl⟩
    have hget : ∀ j ∈ F0, pt j = some ((pt j).getD 0) := fun j hj => by obtain ⟨p, hp⟩ := hall j hj; rw [hp]; rfl
    have h2 := h w' (fun j => (pt j).getD 0) hb hC (fun j hj => by
      obtain ⟨p, hp⟩ := hall j hj
      have := hpt j hj p hp
      rw [hp]
      exact ⟨this.1, this.2.2⟩) (fun i hi j hj hne he => hne (by
      obtain ⟨p, hp⟩ := hall i hi
      obtain ⟨q, hq⟩ := hall j hj
      rw [hp, hq] at he
      obtain rfl : p = q := by simpa using he
      exact hinj i hi j hj p hp hq))
    rw [putF_congr (pt' := fun j => some ((pt j).getD 0)) hget, Nat.zero_add]
    exact wpAnyX_of_tail _ _ _ _ hp2 h2
  | succ n ih =>
    intro plan F listed pt a w w' hok hpa hwt hnb hnd hF' hnone hpt hinj hB hb hC h
    rw [show n + 1 + plan2.length = (n + plan2.length) + 1 by omega]
    match plan, hok, hpa, hwt, hnb, h with
    | [], hok, hpa, hwt, hnb, h =>
      simp only [flOK, Bool.and_eq_true, List.all_eq_true, Bool.or_eq_true, Bool.not_eq_true', List.contains_eq_mem, decide_eq_true_eq, decide_eq_false_iff_not] at hok
      obtain ⟨⟨hne, hin⟩, hall⟩ := hok
      refine ⟨fun h0 => (by rw [h0] at hne; simp at hne), fun j hj => ?_⟩
      refine hfl n [] F listed pt a w w' (fun F' listed' pt' w2 h1 h2 h3 h4 h5 h6 h7 h8 h9 => ih [] F' listed' pt' a w w2 h1 hpa hwt hnb h2 h3 h4 h5 h6 h7 h8 h9 h) j (hin j hj) ?_ hnd hF' hnone hpt hinj hB hb hC
      rcases hall j (hin j hj) with h1 | h1
      · exact absurd hj h1
      · exact h1
    | (i, false) :: rest, hok, hpa, hwt, hnb, h =>
      simp only [flOK, Bool.and_eq_true, List.contains_eq_mem, decide_eq_true_eq] at hok
      obtain ⟨⟨hfr, hrd⟩, hok⟩ := hok
      obtain ⟨o, v, ho, hst, h1⟩ := h
      simp only [planApart, List.all_cons, Bool.and_eq_true] at hpa
      rw [ho] at hpa
      have ho' : l.toArray[i]? = some o := by have := ho; rw [← nthO_eq] at this; simpa using this
      rw [waits, List.all_cons, Bool.and_eq_true] at hwt
      obtain ⟨hwt1, hwt⟩ := hwt
      have hgo := fun h1 => ih rest F (listed.setIfInBounds i true) pt (a.put o.dst v) w w' hok hpa.2 hwt (fun k hk => hnb k (List.mem_cons_of_mem _ hk)) hnd hF' hnone hpt hinj hB hb hC h1
      rw [putF_put hpa.1] at hgo
      have hst' := hst.of_same (a' := putF l pt F0 a) (putF_exec (fun cs b => hsel i o cs b ho) hpa.1) (putF_wanted hpa.1)
      refine wpAnyX_first ho' (Region.noSelect_spec hns) (fun k ok hok hne => ?_) _ _ _ _ (nthG_all (hCG _ hC) _) (Region.free_spec ho' hfr) hrd hst' (hgo h1)
      cases hk : bad.contains (k, CL.getD i 99) with
      | false => rfl
      | true =>
        exfalso
        simp only [Bool.false_or] at hwt1
        have h5 := List.all_eq_true.1 hwt1 (k, CL.getD i 99) (by simpa using hk)
        simp only [bne_self_eq_false, Bool.false_or] at h5
        rw [show nthO l k = some ok by rw [← nthO_eq]; simpa using hok] at h5
        obtain ⟨e, he, h6⟩ := Array.any_eq_true'.1 h5
        simp only [Bool.and_eq_true, beq_iff_eq] at h6
        exact hne e he h6.1 h6.2
    | (k, true) :: rest, hok, hpa, hwt, hnb, h =>
      have hpa0 := hpa
      have hwt0 := hwt
      simp only [waits, List.all_cons, Bool.true_or, Bool.true_and] at hwt
      have h0 := h
      simp only [flOK, Bool.and_eq_true, List.all_eq_true, Bool.or_eq_true, Bool.not_eq_true', List.contains_eq_mem, decide_eq_true_eq, decide_eq_false_iff_not, beq_iff_eq] at hok
      obtain ⟨⟨⟨hne, hin⟩, hokk⟩, hall⟩ := hok
      obtain ⟨o, ho, h1⟩ := h
      simp only [planApart, List.all_cons, Bool.and_eq_true] at hpa
      rw [ho] at hpa
      have ho' : l.toArray[k]? = some o := by have := ho; rw [← nthO_eq] at this; simpa using this
      refine ⟨fun h0 => (by rw [h0] at hne; simp at hne), fun j hj => ?_⟩
      by_cases hjk : j = k
      · subst hjk
        unfold cOp
        rw [ho']
        simp only
        rw [putF_wanted hpa.1]
        split
        · rename_i hw
          simp only [hw, if_true] at h1
          have h2 := h1 w' hb hC
          unfold Calm at h2 ⊢
          rw [putF_exec (fun cs b => hsel j o cs b ho) hpa.1]
          have h3 : Calm P o a w' (fun v w'' => Keeps Gs bad j w' w'' ∧ wpAnyX P md l.toArray Gs bad Q (n + plan2.length) (listed.setIfInBounds j true) ((putF l pt F0 a).put o.dst v) w'') := by
            refine (show Calm P o a w' _ from h2).mono ?_
            rintro v w'' ⟨hb2, hC2, h4⟩
            refine ⟨fun g _ _ => nthG_all (hCG _ hC2) g, ?_⟩
            rw [← putF_put hpa.1]
            exact ih rest F _ pt _ w'' w'' hokk hpa.2 hwt (fun k hk => hnb k (List.mem_cons_of_mem _ hk)) hnd hF' hnone (fun i hi p hp => by
              obtain ⟨e1, e2, e3⟩ := hpt i hi p hp
              exact ⟨e1, Nat.lt_of_lt_of_le e2 hb2.size, by rw [hb2.block p e2]; exact e3⟩) hinj (Nat.le_trans hB hb2.size) (Below.refl _ _) hC2 h4
          exact h3
        · rename_i hw
          simp only [hw] at h1
          rw [← putF_put hpa.1]
          exact ih rest F _ pt _ w w' hokk hpa.2 hwt (fun k hk => hnb k (List.mem_cons_of_mem _ hk)) hnd hF' hnone hpt hinj hB hb hC h1
      · have hjF : j ∈ F := (hin j hj).resolve_left hjk
        refine hfl n ((k, true) :: rest) F listed pt a w w' (fun F' listed' pt' w2 h1 h2 h3 h4 h5 h6 h7 h8 h9 => ih ((k, true) :: rest) F' listed' pt' a w w2 h1 hpa0 hwt0 hnb h2 h3 h4 h5 h6 h7 h8 h9 h0) j hjF ?_ hnd hF' hnone hpt hinj hB hb hC
        rcases hall j hjF with h1 | h1
        · exact absurd hj h1
        · exact h1
theorem wp_region_fl {id : Nat} {Q : Exit → Act → World → Prop} {a : Act} {w : World} (plan1 : List (Nat × Bool)) (plan2 : List Nat) (F0 : List Nat) (ob : Nat → Obj) (CL : List Nat) (bad : List (Nat × Nat)) (C : World → Prop) (Gs : List (World → Prop)) (hX : ∀ ch a' w', a'.defers = a.defers → PX.X ch w' → Q (.panic ch) a' w') (hm : P.follows .mixedOrders = true) (hs : Region.noSelect l.toArray = true)
    (hlen : plan1.length + F0.length + plan2.length = l.length) (hok : flOK .any l plan2 (plan1.length + F0.length) (Array.replicate l.length false) plan1 F0 = true) (hpa : planApart l F0 plan1 = true) (hwt : waits .any l CL bad plan1 = true) (hnb : notBad bad plan1 F0 = true) (hsu : sundry l F0 = true) (hnd : F0.Nodup)
    (hl : ∀ j ∈ F0, Lays P l ob j) (hCa : ∀ w o, C w → C (w.alloc o)) (hCG : ∀ w, C w → ∀ G ∈ Gs, G w) (hC : C w.drew) (h : wpFl P l C Gs CL ob F0 w.drew.heap.size (wpTail P l Gs bad (Q .normal) plan2) plan1 a w.drew) : (Code.region id l.toArray true).wp P Q a w := by
  refine wp_region_any hm ?_
  have hF0 : ∀ {F : List Nat} {a : Act}, putF l (fun _ => none) F a = a := by
    intro F
    induction F with
    | nil => intro a; rfl
    | cons j F ih =>
      intro a
      unfold putF
      split
      · rename_i h; cases h
      · exact ih
  have hb1 : ∀ k ∈ plan1, ∀ g, bad.contains (k.1, g) = false := fun k hk g => by
    cases h : bad.contains (k.1, g) with
    | false => rfl
    | true =>
      have h2 := List.all_eq_true.1 hnb (k.1, g) (by simpa using h)
      simp only [Bool.and_eq_true] at h2
      have h3 := List.all_eq_true.1 h2.1 k hk
      simp at h3
  have hb2 : ∀ j ∈ F0, ∀ g, bad.contains (j, g) = false := fun j hj g => by
    cases h : bad.contains (j, g) with
    | false => rfl
    | true =>
      have h2 := List.all_eq_true.1 hnb (j, g) (by simpa using h)
      simp only [Bool.and_eq_true, Bool.not_eq_true', List.contains_eq_mem, decide_eq_false_iff_not] at h2
      exact absurd hj h2.2
  have h1 := wpAnyC_of_fl (md := .any) hs hsu hl hCa hCG hb2 (plan1.length + F0.length) plan1 F0 (Array.replicate l.length false) (fun _ => none) a w.drew w.drew hok hpa hwt hb1 hnd (fun j hj => hj) (fun j hj => by simp [hj]) (fun j hj p hp => by cases hp) (fun i hi j hj p hp => by cases hp)
    (Nat.le_refl _) (Below.refl _ _) hC h
  rw [hF0] at h1
  have h3 := wpAny_of_x (Q' := Q) hX (fun a w hq => hq) _ _ _ _ rfl h1
  rw [hlen] at h3
  simpa using h3
variable {Q : Act → World → Prop} {a : Act} {w : World} {rest : List (Nat × Bool)} {o : Oper} {ob : Nat → Obj} {F0 : List Nat} {B : Nat} {Gs : List (World → Prop)} {CL : List Nat} {bad : List (Nat × Nat)}
theorem wpFl_ld {i : Nat} {a' : Act} {G : World → Prop} (hG : nthG Gs (CL.getD i 99) = G) (hi : nthO l i = some o) (h1 : ∀ w', G w' → ∀ K : Act → World → Prop, K a' w' → o.wp P a w' K bot)
    (hw : Region.wanted o (yielded l.toArray a.tmps) = true) (hv : isV o = true) (hb : inB o.dst a = true) (hp : a.put o.dst (slotOf o.dst a') = a')
    (hn : wpFl P l C Gs CL ob F0 B Q rest a' w) : wpFl P l C Gs CL ob F0 B Q ((i, false) :: rest) a w := by
  subst hG
  refine ⟨o, slotOf o.dst a', hi, .inl ⟨hw, fun w' hC => ?_⟩, by rw [hp]; exact hn⟩
  have h := h1 w' hC (fun a2 w2 => a2 = a' ∧ w2 = w') ⟨rfl, rfl⟩
  unfold Oper.wp at h
  have hr := fun n w2 => isV_run (P := P) (ρ := a.eval) (n := n) (w := w') (w' := w2) hv
  generalize (execOp a.eval o).run P w' = r at *
  cases r with
  | ok n w2 =>
    obtain ⟨v, rfl⟩ := hr n w2 rfl
    simp only [Oper.upon] at h
    obtain ⟨h2, rfl⟩ := h
    rw [← h2, slotOf_put hb]
  | halt x w2 => cases x <;> simp only [Oper.upon, bot] at h
theorem wpFl_call {k : Nat} (hi : nthO l k = some o) (hw : Region.wanted o (yielded l.toArray a.tmps) = true)
    (h : ∀ w', Below w.heap.size w w' → C w' → ∀ K : Act → World → Prop, (∀ a' w'', a'.defers = a.defers → Below w'.heap.size w' w'' → C w'' → wpFl P l C Gs CL ob F0 B Q rest a' w'' → K a' w'') → o.wp P a w' K botX) :
    wpFl P l C Gs CL ob F0 B Q ((k, true) :: rest) a w := by
  refine ⟨o, hi, ?_⟩
  rw [if_pos hw]
  intro w' hb hC
  have h := h w' hb hC (fun a' w'' => a'.defers = a.defers ∧ Below w'.heap.size w' w'' ∧ C w'' ∧ wpFl P l C Gs CL ob F0 B Q rest a' w'') (fun a' w' h1 h2 h3 h4 => ⟨h1, h2, h3, h4⟩)
  unfold Oper.wp at h
  unfold Calm
  generalize (execOp a.eval o).run P w' = r at *
  cases r with
  | ok n w2 =>
    cases n <;> simp only [Oper.upon] at h ⊢
    case value => exact h.2
    case skip => exact h.2
    case defer =>
      have h1 := h.1
      unfold Act.put at h1
      split at h1 <;> simp at h1
    case enter =>
      refine h.mono fun e w'' he => ?_
      cases e with
      | returned v => exact he.2
      | panicked c => exact he
      | outgrown => obtain ⟨_, _, hf⟩ := he; exact hf.elim
    case row => exact Rows.mono h fun v w'' he => he.2
  | halt x w2 =>
    cases x <;> simp only [Oper.upon, botX] at h ⊢
    case panic => exact h
theorem wpTail_call {k : Nat} {rest : List Nat} (hi : nthO l k = some o) (hw : Region.wanted o (yielded l.toArray a.tmps) = true)
    (h : ∀ K : Act → World → Prop, (∀ a' w', a'.defers = a.defers → keepL bad k 0 Gs w' → wpTail P l Gs bad Q rest a' w' → K a' w') → o.wp P a w K botX) : wpTail P l Gs bad Q (k :: rest) a w := by
  refine ⟨o, hi, ?_⟩
  rw [if_pos hw]
  have h := h (fun a' w' => a'.defers = a.defers ∧ Keeps Gs bad k w w' ∧ wpTail P l Gs bad Q rest a' w') (fun a' w' h1 h2 h3 => ⟨h1, .of_l h2, h3⟩)
  unfold Oper.wp at h
  unfold Calm
  generalize (execOp a.eval o).run P w = r at *
  cases r with
  | ok n w2 =>
    cases n <;> simp only [Oper.upon] at h ⊢
    case value => exact h.2
    case skip => exact h.2
    case defer =>
      have h1 := h.1
      unfold Act.put at h1
      split at h1 <;> simp at h1
    case enter =>
      refine h.mono fun e w'' he => ?_
      cases e with
      | returned v => exact he.2
      | panicked c => exact he
      | outgrown => obtain ⟨_, _, hf⟩ := he; exact hf.elim
    case row => exact Rows.mono h fun v w'' he => he.2
  | halt x w2 =>
    cases x <;> simp only [Oper.upon, botX] at h ⊢
    case panic => exact h
theorem wpTail_end (h : Q a w) : wpTail P l Gs bad Q [] a w := h
theorem wpFl_end {a' : (Nat → Nat) → Act} (ha : ∀ pt : Nat → Nat, putF l (fun j => some (pt j)) F0 a = a' pt)
    (h : ∀ w' (pt : Nat → Nat), Below w.heap.size w w' → C w' → (∀ j ∈ F0, B ≤ pt j ∧ w'.heap[pt j]? = some (ob j)) → (∀ i ∈ F0, ∀ j ∈ F0, i ≠ j → pt i ≠ pt j) → Q (a' pt) w') : wpFl P l C Gs CL ob F0 B Q [] a w := by
  intro w' pt h1 h2 h3 h4
  rw [ha pt]
  exact h w' pt h1 h2 h3 h4
end
section
variable [PX] {P : Program} {l : List Oper} {Q : Act → World → Prop} {a : Act} {w : World} {o : Oper}
def wpSq (P : Program) (l : List Oper) (Q : Act → World → Prop) : List Nat → Act → World → Prop
  | [], a, w => Q a w
  | k :: rest, a, w => ∃ o, nthO l k = some o ∧ if Region.wanted o (yielded l.toArray a.tmps) then Calm P o a w (fun v w' => wpSq P l Q rest (a.put o.dst v) w') else wpSq P l Q rest (a.put o.dst undef) w
theorem wpOps_of_sq {D : List Deferred} {Q' : Exit → Act → World → Prop} (hX : ∀ ch a w', a.defers = D → PX.X ch w' → Q' (.panic ch) a w') (hQ : ∀ a w, Q a w → Q' .normal a w) : ∀ (plan : List Nat) (a : Act) (w : World), a.defers = D → wpSq P l Q plan a w → wpOps P l.toArray Q' plan a w
  | [], a, w, _, h => hQ _ _ h
  | k :: rest, a, w, hd, h => by
    obtain ⟨o, ho, h⟩ := h
    unfold wpOps
    rw [show l.toArray[k]? = some o by rw [← nthO_eq] at ho; simpa using ho]
    simp only
    split
    · rename_i hw
      simp only [hw, if_true] at h
      exact .inl (Calm.wp (fun ch w' => hX ch a w' hd) (h.mono fun v w' h3 => wpOps_of_sq hX hQ rest _ _ ((put_defers _ _ _).trans hd) h3))
    · rename_i hw
      simp only [hw] at h
      exact wpOps_of_sq hX hQ rest _ _ ((put_defers _ _ _).trans hd) h
theorem wp_region_sq {id : Nat} {Q : Exit → Act → World → Prop} (plan : List Nat) (hX : ∀ ch a' w', a'.defers = a.defers → PX.X ch w' → Q (.panic ch) a' w') (hp : List.range l.length = plan) (h : wpSq P l (Q .normal) plan a w) : (Code.region id l.toArray false).wp P Q a w := by
  refine wp_region ?_
  rw [show l.toArray.size = l.length by simp, hp]
  exact wpOps_of_sq hX (fun _ _ h => h) _ _ _ rfl h
theorem wpSq_call {k : Nat} {rest : List Nat} (hi : nthO l k = some o) (hw : Region.wanted o (yielded l.toArray a.tmps) = true)
    (h : ∀ K : Act → World → Prop, (∀ a' w', a'.defers = a.defers → wpSq P l Q rest a' w' → K a' w') → o.wp P a w K botX) : wpSq P l Q (k :: rest) a w := by
  refine ⟨o, hi, ?_⟩
  rw [if_pos hw]
  have h := h (fun a' w' => a'.defers = a.defers ∧ wpSq P l Q rest a' w') (fun a' w' h1 h2 => ⟨h1, h2⟩)
  unfold Oper.wp at h
  unfold Calm
  generalize (execOp a.eval o).run P w = r at *
  cases r with
  | ok n w2 =>
    cases n <;> simp only [Oper.upon] at h ⊢
    case value => exact h.2
    case skip => exact h.2
    case defer =>
      have h1 := h.1
      unfold Act.put at h1
      split at h1 <;> simp at h1
    case enter =>
      refine h.mono fun e w'' he => ?_
      cases e with
      | returned v => exact he.2
      | panicked c => exact he
      | outgrown => obtain ⟨_, _, hf⟩ := he; exact hf.elim
    case row => exact Rows.mono h fun v w'' he => he.2
  | halt x w2 =>
    cases x <;> simp only [Oper.upon, botX] at h ⊢
    case panic => exact h
theorem wpSq_end (h : Q a w) : wpSq P l Q [] a w := h
theorem wp_region_fl2 {id : Nat} {Q : Exit → Act → World → Prop} (plan1 : List (Nat × Bool)) (plan2 : List Nat) (F0 : List Nat) (ob : Nat → Obj) (CL : List Nat) (bad : List (Nat × Nat)) (C : World → Prop) (Gs : List (World → Prop)) (hX : ∀ ch a' w', a'.defers = a.defers → PX.X ch w' → Q (.panic ch) a' w') (hm : P.follows .mixedOrders = true) (hs : Region.noSelect l.toArray = true)
    (hlen : plan1.length + F0.length + plan2.length = l.length) (hok : flOK .any l plan2 (plan1.length + F0.length) (Array.replicate l.length false) plan1 F0 = true) (hpa : planApart l F0 plan1 = true) (hwt : waits .any l CL bad plan1 = true) (hnb : notBad bad plan1 F0 = true) (hsu : sundry l F0 = true) (hnd : F0.Nodup)
    (hl : ∀ j ∈ F0, Lays P l ob j) (hCa : ∀ w o, C w → C (w.alloc o)) (hCG : ∀ w, C w → ∀ G ∈ Gs, G w)
    (h : ∀ w', Below w.heap.size w w' → C w' ∧ wpFl P l C Gs CL ob F0 w'.heap.size (wpTail P l Gs bad (Q .normal) plan2) plan1 a w') : (Code.region id l.toArray true).wp P Q a w :=
  wp_region_fl plan1 plan2 F0 ob CL bad C Gs hX hm hs hlen hok hpa hwt hnb hsu hnd hl hCa hCG (h _ (Below.refl _ _).drew).1 (h _ (Below.refl _ _).drew).2
end
end Go.Proofs.Ytpdfahompajbjaa.Pn

/- gint.Xgcd. -/
namespace Go.Proofs.Ytpdfahompajbjaa
open Go Go.RowKit Dig
set_option linter.unusedVariables false
section
variable {w : World} {va vb : Value} {x y u v : Int} {l m k n : Nat}
end
end Go.Proofs.Ytpdfahompajbjaa
