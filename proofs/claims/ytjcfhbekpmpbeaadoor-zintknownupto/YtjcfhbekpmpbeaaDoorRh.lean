/- A region that draws its order, walked once along a plan (in which order its operations are taken: reads when they come up, each call when nothing else can); the frame stays written out. -/
import Derived.Test.YtjcfhbekpmpbeaaDoorRg
namespace Go.Proofs.YtjcfhbekpmpbeaaDoor
open Go

section
variable {P : Program} {l : List Oper} {md : Region.Mode} {C : World → Prop}

def nthO : List Oper → Nat → Option Oper
  | [], _ => none
  | o :: _, 0 => some o
  | _ :: l, n + 1 => nthO l n
theorem nthO_eq : ∀ (l : List Oper) (i : Nat), l[i]? = nthO l i
  | [], _ => by simp [nthO]
  | _ :: _, 0 => by simp [nthO]
  | _ :: l, n + 1 => by simp [nthO, nthO_eq l n]

/-- A plan that every order comes to: what only reads is free and ready; a call is the only one ready. -/
def planOK (md : Region.Mode) (ops : Array Oper) : Array Bool → List (Nat × Bool) → Bool
  | listed, [] => (Region.ready md ops listed).isEmpty
  | listed, (i, false) :: rest => Region.free md ops listed i && (Region.ready md ops listed).contains i && planOK md ops (listed.setIfInBounds i true) rest
  | listed, (k, true) :: rest => (Region.ready md ops listed == [k]) && planOK md ops (listed.setIfInBounds k true) rest

/-- The walk along a plan. -/
def wpPl (P : Program) (l : List Oper) (C : World → Prop) (Q : Act → World → Prop) : List (Nat × Bool) → Act → World → Prop
  | [], a, w => Q a w
  | (i, false) :: rest, a, w => ∃ o v, nthO l i = some o ∧ Stable P l.toArray C o v a ∧ wpPl P l C Q rest (a.put o.dst v) w
  | (k, true) :: rest, a, w => ∃ o, nthO l k = some o ∧ if Region.wanted o (yielded l.toArray a.tmps) then Calm P o a w (fun v w' => C w' ∧ wpPl P l C Q rest (a.put o.dst v) w') else wpPl P l C Q rest (a.put o.dst undef) w

theorem wpLx_of_pl {Q : Act → World → Prop} : ∀ (plan : List (Nat × Bool)) (listed : Array Bool) (a : Act) (w : World),
    planOK md l.toArray listed plan = true → wpPl P l C Q plan a w → wpLx P md l.toArray C Q plan.length listed a w
  | [], listed, a, w, hp, h => by
    simp only [planOK, List.isEmpty_iff] at hp
    exact ⟨hp, h⟩
  | (i, false) :: rest, listed, a, w, hp, h => by
    simp only [planOK, Bool.and_eq_true] at hp
    obtain ⟨o, v, h0, hst, h1⟩ := h
    exact .inl ⟨i, o, v, by rw [← h0, ← nthO_eq]; simp, hst, hp.1.1, hp.1.2, wpLx_of_pl rest _ _ _ hp.2 h1⟩
  | (k, true) :: rest, listed, a, w, hp, h => by
    simp only [planOK, Bool.and_eq_true, beq_iff_eq] at hp
    obtain ⟨o, h0, h1⟩ := h
    refine .inr ⟨k, o, by rw [← h0, ← nthO_eq]; simp, hp.1, ?_⟩
    split
    · rename_i hw
      simp only [hw, if_true] at h1
      exact h1.mono fun v w' ⟨c1, c2⟩ => ⟨c1, wpLx_of_pl rest _ _ _ hp.2 c2⟩
    · rename_i hw
      simp only [hw] at h1
      exact wpLx_of_pl rest _ _ _ hp.2 h1

/-- A region along a plan. -/
theorem wp_region_pl {id : Nat} {Q : Exit → Act → World → Prop} {a : Act} {w : World} (plan : List (Nat × Bool)) (C : World → Prop) (hm : P.follows .mixedOrders = true) (hs : Region.noSelect l.toArray = true)
    (hl : plan.length = l.length) (hp : planOK .any l.toArray (Array.replicate l.length false) plan = true) (hC : C w.drew) (h : wpPl P l C (Q .normal) plan a w.drew) : (Code.region id l.toArray true).wp P Q a w := by
  refine wp_region_lx C hm hs hC ?_
  rw [← hl]
  exact wpLx_of_pl plan _ _ _ (by rw [hl]; exact hp) h

def bot : Exit → Act → World → Prop := fun _ _ _ => False

/-- What yields a value in the world that it got. -/
def isV (o : Oper) : Bool :=
  match o.op with
  | .move _ | .assign _ | .pick .. | .load .. | .build .. | .fieldAddr .. | .field .. | .indexAddr .. | .index .. | .binOp .. | .unOp .. | .convert .. | .slice .. | .extract .. | .makeInterface .. => true
  | _ => false

theorem isV_value {ρ : Operand → Value} {o : Oper} (h : isV o = true) : ∃ s : Sem Value, execOp ρ o = (do pure (.value (← s))) := by
  unfold isV at h
  unfold execOp
  generalize o.op = p at *
  cases p
  case pick c a b => exact ⟨(fun t => if t = true then ρ a else ρ b) <$> asBool (ρ c), by simp⟩
  all_goals first | (exfalso; simp at h; done) | exact ⟨_, rfl⟩ | exact ⟨pure _, rfl⟩

theorem isV_run {ρ : Operand → Value} {o : Oper} (h : isV o = true) {n : Next} {w w' : World} (hr : (execOp ρ o).run P w = .ok n w') : ∃ v, n = .value v := by
  obtain ⟨s, hs⟩ := isV_value (ρ := ρ) h
  rw [hs] at hr
  rw [Sem.run_bind] at hr
  generalize s.run P w = r at hr
  cases r with
  | ok v w'' => simp only [Result.andThen, Sem.run_pure, Result.ok.injEq] at hr; exact ⟨v, hr.1.symm⟩
  | halt e w'' => simp only [Result.andThen, reduceCtorEq] at hr

/-- What a frame holds in an operation's slot. -/
def slotOf (d : Option Tmp) (a : Act) : Value := match d with | some d => a.tmps.getD d undef | none => undef
def inB (d : Option Tmp) (a : Act) : Bool := match d with | some d => decide (d < a.tmps.size) | none => false

theorem slotOf_put {d : Option Tmp} {a : Act} {v : Value} (h : inB d a = true) : slotOf d (a.put d v) = v := by
  cases d with
  | none => simp [inB] at h
  | some d =>
    simp only [inB, decide_eq_true_eq] at h
    simp [slotOf, Act.put, h]

variable {Q : Act → World → Prop} {a : Act} {w : World} {rest : List (Nat × Bool)} {o : Oper}

/-- An operation that reads: in every world of the class it leaves the same frame. -/
theorem wpPl_ld {i : Nat} {a' : Act} (hi : nthO l i = some o) (h1 : ∀ w', C w' → ∀ K : Act → World → Prop, K a' w' → o.wp P a w' K bot)
    (hw : Region.wanted o (yielded l.toArray a.tmps) = true) (hv : isV o = true) (hb : inB o.dst a = true) (hp : a.put o.dst (slotOf o.dst a') = a')
    (hn : wpPl P l C Q rest a' w) : wpPl P l C Q ((i, false) :: rest) a w := by
  refine ⟨o, slotOf o.dst a', hi, .inl ⟨hw, fun w' hC => ?_⟩, by rw [hp]; exact hn⟩
  have h := h1 w' hC (fun a2 w2 => a2 = a' ∧ w2 = w') ⟨rfl, rfl⟩
  unfold Oper.wp at h
  have hr := fun n w2 => isV_run (P := P) (ρ := a.eval) (n := n) (w := w') (w' := w2) hv
  generalize (execOp a.eval o).run P w' = r at *
  cases r with
  | ok n w2 =>
    obtain ⟨v, rfl⟩ := hr n w2 rfl
    simp only [Oper.upon] at h
    obtain ⟨h2, rfl⟩ := h
    rw [← h2, slotOf_put hb]
  | halt x w2 => cases x <;> simp only [Oper.upon, bot] at h

/-- One that its guard passes over. -/
theorem wpPl_skip {i : Nat} {a' : Act} (hi : nthO l i = some o) (hw : Region.wanted o (yielded l.toArray a.tmps) = false) (hp : a.put o.dst undef = a')
    (hn : wpPl P l C Q rest a' w) : wpPl P l C Q ((i, false) :: rest) a w :=
  ⟨o, undef, hi, .inr ⟨hw, rfl⟩, by rw [hp]; exact hn⟩
theorem wpPl_skipc {i : Nat} {a' : Act} (hi : nthO l i = some o) (hw : Region.wanted o (yielded l.toArray a.tmps) = false) (hp : a.put o.dst undef = a')
    (hn : wpPl P l C Q rest a' w) : wpPl P l C Q ((i, true) :: rest) a w :=
  ⟨o, hi, by rw [if_neg (by rw [hw]; exact Bool.false_ne_true), hp]; exact hn⟩

/-- A call. -/
theorem wpPl_call {k : Nat} (hi : nthO l k = some o) (hw : Region.wanted o (yielded l.toArray a.tmps) = true)
    (h : ∀ K : Act → World → Prop, (∀ a' w', a'.defers = a.defers → C w' → wpPl P l C Q rest a' w' → K a' w') → o.wp P a w K bot) : wpPl P l C Q ((k, true) :: rest) a w := by
  refine ⟨o, hi, ?_⟩
  rw [if_pos hw]
  have h := h (fun a' w' => a'.defers = a.defers ∧ C w' ∧ wpPl P l C Q rest a' w') (fun a' w' h1 h2 h3 => ⟨h1, h2, h3⟩)
  unfold Oper.wp at h
  unfold Calm
  have hd : ∀ (v : Value), (a.put o.dst v).defers = a.defers := fun v => by unfold Act.put; split <;> rfl
  generalize (execOp a.eval o).run P w = r at *
  cases r with
  | ok n w2 =>
    cases n <;> simp only [Oper.upon] at h ⊢
    case value => exact h.2
    case skip => exact h.2
    case defer =>
      have h1 := h.1
      unfold Act.put at h1
      split at h1 <;> simp at h1
    case enter =>
      refine h.mono fun e w'' he => ?_
      cases e with
      | returned v => exact ⟨v, rfl, he.2⟩
      | panicked c => exact he.elim
      | outgrown => obtain ⟨_, _, hf⟩ := he; exact hf.elim
    case row => exact Rows.mono h fun v w'' he => he.2
  | halt x w2 => cases x <;> simp only [Oper.upon, bot] at h

theorem wpPl_end (h : Q a w) : wpPl P l C Q [] a w := h
end
end Go.Proofs.YtjcfhbekpmpbeaaDoor
