/- A region that draws its order, with loads that read what nobody writes, and calls that wait for one another: one walk, in the order of the text, serves every order. -/
import Derived.WalkKit
import Derived.Still
import Derived.Deep.Draws
import Derived.Test.YtjcfhbekpmpbeaaDoorRows
namespace Go.Proofs.YtjcfhbekpmpbeaaDoor
open Go

section
variable {P : Program} {ops : Array Oper} {md : Region.Mode} {C : World → Prop}

/-- An operation that ends well: a value and a world. -/
def Calm (P : Program) (o : Oper) (a : Act) (w : World) (next : Value → World → Prop) : Prop :=
  match (execOp a.eval o).run P w with
  | .ok (.value v) w' => next v w'
  | .ok .skip w' => next undef w'
  | .ok (.enter f args) w' => Calls P f args w' fun e w'' => ∃ v, e = .returned v ∧ next v w''
  | .ok (.row row args) w' => Rows P row args w' next
  | _ => False

theorem Calm.mono {o : Oper} {a : Act} {w : World} {K K' : Value → World → Prop} (h : ∀ v w, K v w → K' v w) (hh : Calm P o a w K) : Calm P o a w K' := by
  unfold Calm at *
  generalize (execOp a.eval o).run P w = r at *
  cases r with
  | ok n w' =>
    cases n <;> simp only at hh ⊢
    case value => exact h _ _ hh
    case skip => exact h _ _ hh
    case enter => exact hh.mono fun e w'' ⟨v, h1, h2⟩ => ⟨v, h1, h _ _ h2⟩
    case row => exact Rows.mono hh fun v w'' h2 => h _ _ h2
  | halt x w' => simp only at hh

theorem Calm.wp {o : Oper} {a : Act} {w : World} {K : Act → World → Prop} {Q' : Exit → Act → World → Prop} (hh : Calm P o a w fun v w' => K (a.put o.dst v) w') : o.wp P a w K Q' := by
  unfold Calm at hh
  unfold Oper.wp
  generalize (execOp a.eval o).run P w = r at *
  cases r with
  | ok n w' =>
    cases n <;> simp only at hh <;> simp only [Oper.upon]
    case value => exact hh
    case skip => exact hh
    case enter => exact hh.mono fun e w'' ⟨v, h1, h2⟩ => by subst h1; exact h2
    case row => exact hh
  | halt x w' => simp only at hh

def cOp (P : Program) (ops : Array Oper) (C : World → Prop) (i : Nat) (K : Act → World → Prop) (a : Act) (w : World) : Prop :=
  match ops[i]? with
  | none => K a w
  | some o => if Region.wanted o (yielded ops a.tmps) then Calm P o a w (fun v w' => C w' ∧ K (a.put o.dst v) w') else K (a.put o.dst undef) w

def wpAnyC (P : Program) (md : Region.Mode) (ops : Array Oper) (C : World → Prop) (Q : Act → World → Prop) : Nat → Array Bool → Act → World → Prop
  | 0, listed, a, w => Region.ready md ops listed = [] ∧ Q a w
  | fuel + 1, listed, a, w => (Region.ready md ops listed = [] → Q a w) ∧ ∀ i ∈ Region.ready md ops listed, cOp P ops C i (wpAnyC P md ops C Q fuel (listed.setIfInBounds i true)) a w

theorem wpOp_of_cOp {i : Nat} {a : Act} {w : World} {K K' : Act → World → Prop} {Q' : Exit → Act → World → Prop} (h : ∀ a w, K a w → K' a w) (hh : cOp P ops C i K a w) : wpOp P ops Q' i K' a w := by
  unfold cOp at hh
  unfold wpOp
  split
  · rename_i ho; simp only [ho] at hh; exact h _ _ hh
  · rename_i o ho
    simp only [ho] at hh
    split
    · rename_i hw; simp only [hw, if_true] at hh; exact .inl (Calm.wp (hh.mono fun v w' h3 => h _ _ h3.2))
    · rename_i hw; simp only [hw] at hh; exact h _ _ hh

theorem wpAny_of_c {Q : Act → World → Prop} {Q' : Exit → Act → World → Prop} (hQ : ∀ a w, Q a w → Q' .normal a w) : ∀ (fuel : Nat) (listed : Array Bool) (a : Act) (w : World),
    wpAnyC P md ops C Q fuel listed a w → wpAny P md ops Q' fuel listed a w
  | 0, _, _, _, h => ⟨h.1, hQ _ _ h.2⟩
  | fuel + 1, _, _, _, h => ⟨fun h0 => hQ _ _ (h.1 h0), fun i hi => wpOp_of_cOp (fun a' w' h3 => wpAny_of_c hQ fuel _ a' w' h3) (h.2 i hi)⟩

theorem cOp_mono {i : Nat} {a : Act} {w : World} {K K' : Act → World → Prop} (hw : C w) (h : ∀ a w, C w → K a w → K' a w) (hh : cOp P ops C i K a w) : cOp P ops C i K' a w := by
  unfold cOp at *
  split
  · rename_i ho; simp only [ho] at hh; exact h _ _ hw hh
  · rename_i o ho
    simp only [ho] at hh
    split
    · rename_i hwt; simp only [hwt, if_true] at hh; exact hh.mono fun v w' h3 => ⟨h3.1, h _ _ h3.1 h3.2⟩
    · rename_i hwt; simp only [hwt] at hh; exact h _ _ hw hh

/-- In every world of the class this operation leaves v, and the world as it was. -/
def Stable (P : Program) (ops : Array Oper) (C : World → Prop) (o : Oper) (v : Value) (a : Act) : Prop :=
  (Region.wanted o (yielded ops a.tmps) = true ∧ ∀ w, C w → (execOp a.eval o).run P w = .ok (.value v) w) ∨
  (Region.wanted o (yielded ops a.tmps) = false ∧ v = undef)

theorem Stable.cOp {i : Nat} {o : Oper} {v : Value} {a : Act} {w : World} (hi : ops[i]? = some o) (hy : Stable P ops C o v a) (hC : C w) {K : Act → World → Prop} (h : K (a.put o.dst v) w) : cOp P ops C i K a w := by
  unfold Go.Proofs.YtjcfhbekpmpbeaaDoor.cOp
  simp only [hi]
  rcases hy with ⟨hw, hv⟩ | ⟨hw, rfl⟩
  · simp only [hw, if_true]
    unfold Calm
    rw [hv w hC]
    exact ⟨hC, h⟩
  · simp only [hw, Bool.false_eq_true, if_false]; exact h

theorem Stable.of_same {o : Oper} {v : Value} {a a' : Act} (hy : Stable P ops C o v a) (he : execOp a'.eval o = execOp a.eval o)
    (hw : Region.wanted o (yielded ops a'.tmps) = Region.wanted o (yielded ops a.tmps)) : Stable P ops C o v a' := by
  unfold Stable at *
  rw [he, hw]
  exact hy

theorem cOp_put {j : Nat} {oi oj : Oper} {v : Value} (hj : ops[j]? = some oj) (hap : oi.apart ops oj = true)
    (hsi : ∀ cs b, oi.op ≠ .select cs b) (hsj : ∀ cs b, oj.op ≠ .select cs b) {K : Act → World → Prop} {a : Act} {w : World}
    (hy : Stable P ops C oi v a) (h : cOp P ops C j K (a.put oi.dst v) w) :
    cOp P ops C j (fun a' w' => Stable P ops C oi v a' ∧ K (a'.put oi.dst v) w') a w := by
  obtain ⟨h1, h2, h3⟩ := Oper.apart_spec hap
  have keep : ∀ (a : Act), Stable P ops C oi v a → ∀ u, Stable P ops C oi v (a.put oj.dst u) := fun a hy u =>
    hy.of_same (execOp_put oi hsi a oj.dst u h3) (wanted_put oi a oj.dst u h3)
  unfold Go.Proofs.YtjcfhbekpmpbeaaDoor.cOp at *
  simp only [hj] at *
  rw [wanted_put oj a oi.dst v h1] at h
  split
  · rename_i hw
    simp only [hw, if_true] at h
    unfold Calm at h ⊢
    rw [execOp_put oj hsj a oi.dst v h1] at h
    have conv : ∀ u w', C w' ∧ K ((a.put oi.dst v).put oj.dst u) w' → C w' ∧ Stable P ops C oi v (a.put oj.dst u) ∧ K ((a.put oj.dst u).put oi.dst v) w' := fun u w' ⟨c1, c2⟩ =>
      ⟨c1, keep a hy u, by rw [← Act.put_comm a v u h2]; exact c2⟩
    generalize (execOp a.eval oj).run P w = r at *
    cases r with
    | ok n w' =>
      cases n <;> simp only at h ⊢
      case value => exact conv _ _ h
      case skip => exact conv _ _ h
      case enter => exact h.mono fun e w'' ⟨u, e1, e2⟩ => ⟨u, e1, conv _ _ e2⟩
      case row => exact Rows.mono h fun u w'' e2 => conv _ _ e2
    | halt x w' => simp only at h
  · rename_i hw
    simp only [hw] at h
    exact ⟨keep a hy _, by rw [← Act.put_comm a v undef h2]; exact h⟩

/-- A stable operation that may come up now may be taken first. -/
theorem wpAnyC_first {Q : Act → World → Prop} {i : Nat} {oi : Oper} {v : Value} (hi : ops[i]? = some oi) (hsel : ∀ (j : Nat) (o : Oper) cs b, ops[j]? = some o → o.op ≠ .select cs b) :
    ∀ (fuel : Nat) (listed : Array Bool) (a : Act) (w : World), C w →
      (∀ j oj, ops[j]? = some oj → j ≠ i → listed.getD j true = false → (∀ e ∈ oj.after, Region.binds md e = true → e.on ≠ i) → oi.apart ops oj = true) →
      i ∈ Region.ready md ops listed → Stable P ops C oi v a →
      wpAnyC P md ops C Q fuel (listed.setIfInBounds i true) (a.put oi.dst v) w → wpAnyC P md ops C Q (fuel + 1) listed a w := by
  intro fuel
  induction fuel with
  | zero =>
    intro listed a w hC _ hr hy H
    refine ⟨fun h => (by rw [h] at hr; cases hr), fun j hj => ?_⟩
    by_cases hji : j = i
    · subst hji; exact hy.cOp hi hC H
    · have := ready_mono hj hji
      rw [H.1] at this
      cases this
  | succ fuel ih =>
    intro listed a w hC hfree hr hy H
    refine ⟨fun h => (by rw [h] at hr; cases hr), fun j hj => ?_⟩
    by_cases hji : j = i
    · subst hji; exact hy.cOp hi hC H
    · have h1 := H.2 j (ready_mono hj hji)
      obtain ⟨hjun, oj, hoj, hall⟩ := mem_ready.1 hj
      have hnot : ∀ e ∈ oj.after, Region.binds md e = true → e.on ≠ i := fun e he hb heq => by
        have h1 := hall e he hb
        have h0 := (mem_ready.1 hr).1
        rw [heq] at h1
        rcases Nat.lt_or_ge i listed.size with h' | h'
        · simp [h'] at h0 h1; rw [h0] at h1; cases h1
        · simp [Array.getElem?_eq_none h'] at h1
      have h2 := cOp_put hoj (hfree j oj hoj hji hjun hnot) (fun cs b => hsel i oi cs b hi) (fun cs b => hsel j oj cs b hoj) hy h1
      have hfree' : ∀ k ok, ops[k]? = some ok → k ≠ i → (listed.setIfInBounds j true).getD k true = false →
          (∀ e ∈ ok.after, Region.binds md e = true → e.on ≠ i) → oi.apart ops ok = true := fun k ok hk hki hun hno => by
        refine hfree k ok hk hki ?_ hno
        by_cases hjk : j = k
        · subst hjk; exact hjun
        · rw [getD_set_ne true hjk] at hun; exact hun
      refine cOp_mono hC (fun a' w' hC' h3 => ih (listed.setIfInBounds j true) a' w' hC' hfree' (ready_mono hr (Ne.symm hji)) h3.1 ?_) h2
      rw [Array.setIfInBounds_comm _ _ hji]
      exact h3.2

/-- One walk: a stable operation that may come up; or the only one that may come up. -/
def wpLx (P : Program) (md : Region.Mode) (ops : Array Oper) (C : World → Prop) (Q : Act → World → Prop) : Nat → Array Bool → Act → World → Prop
  | 0, listed, a, w => Region.ready md ops listed = [] ∧ Q a w
  | fuel + 1, listed, a, w =>
    (∃ i o v, ops[i]? = some o ∧ Stable P ops C o v a ∧ Region.free md ops listed i = true ∧ (Region.ready md ops listed).contains i = true ∧ wpLx P md ops C Q fuel (listed.setIfInBounds i true) (a.put o.dst v) w) ∨
    (∃ k o, ops[k]? = some o ∧ Region.ready md ops listed = [k] ∧ if Region.wanted o (yielded ops a.tmps) then Calm P o a w (fun v w' => C w' ∧ wpLx P md ops C Q fuel (listed.setIfInBounds k true) (a.put o.dst v) w') else wpLx P md ops C Q fuel (listed.setIfInBounds k true) (a.put o.dst undef) w)

theorem wpLx_st {Q : Act → World → Prop} {o : Oper} (i : Nat) {fuel : Nat} {listed : Array Bool} {a : Act} {w : World} {v : Value} (hi : ops[i]? = some o) (h : ∀ w', C w' → (execOp a.eval o).run P w' = .ok (.value v) w')
    (hw : Region.wanted o (yielded ops a.tmps) = true) (hf : Region.free md ops listed i = true) (hr : (Region.ready md ops listed).contains i = true)
    (hn : wpLx P md ops C Q fuel (listed.setIfInBounds i true) (a.put o.dst v) w) : wpLx P md ops C Q (fuel + 1) listed a w :=
  .inl ⟨i, o, v, hi, .inl ⟨hw, h⟩, hf, hr, hn⟩
theorem wpLx_call {Q : Act → World → Prop} {o : Oper} (k : Nat) {fuel : Nat} {listed : Array Bool} {a : Act} {w : World} (hi : ops[k]? = some o)
    (hr : Region.ready md ops listed = [k]) (hw : Region.wanted o (yielded ops a.tmps) = true)
    (h : ∀ K : Value → World → Prop, (∀ v w', C w' → wpLx P md ops C Q fuel (listed.setIfInBounds k true) (a.put o.dst v) w' → K v w') → Calm P o a w K) : wpLx P md ops C Q (fuel + 1) listed a w :=
  .inr ⟨k, o, hi, hr, by rw [if_pos hw]; exact h _ (fun _ _ h1 h2 => ⟨h1, h2⟩)⟩
theorem wpLx_nil {Q : Act → World → Prop} {listed : Array Bool} {a : Act} {w : World} (hr : Region.ready md ops listed = []) (h : Q a w) : wpLx P md ops C Q 0 listed a w := ⟨hr, h⟩

theorem wpAnyC_of_lx {Q : Act → World → Prop} (hs : Region.noSelect ops = true) : ∀ (fuel : Nat) (listed : Array Bool) (a : Act) (w : World), C w →
    wpLx P md ops C Q fuel listed a w → wpAnyC P md ops C Q fuel listed a w
  | 0, _, _, _, _, h => h
  | fuel + 1, listed, a, w, hC, h => by
    rcases h with ⟨i, o, v, h0, hst, hf, hr, h⟩ | ⟨k, o, h0, hr, h⟩
    · exact wpAnyC_first h0 (Region.noSelect_spec hs) fuel listed a w hC (Region.free_spec h0 hf) (by simpa using hr) hst (wpAnyC_of_lx hs fuel _ _ w hC h)
    · refine ⟨fun h3 => (by rw [h3] at hr; cases hr), fun i hi => ?_⟩
      rw [hr] at hi
      obtain rfl : i = k := by simpa using hi
      unfold Go.Proofs.YtjcfhbekpmpbeaaDoor.cOp
      simp only [h0]
      split
      · rename_i hw
        simp only [hw, if_true] at h
        exact h.mono fun u w' ⟨c1, c2⟩ => ⟨c1, wpAnyC_of_lx hs fuel _ _ w' c1 c2⟩
      · rename_i hw
        simp only [hw] at h
        exact wpAnyC_of_lx hs fuel _ _ w hC h

/-- One walk serves every order. -/
theorem wp_region_lx {id : Nat} {Q : Exit → Act → World → Prop} {a : Act} {w : World} {l : List Oper} (C : World → Prop) (hm : P.follows .mixedOrders = true) (hs : Region.noSelect l.toArray = true) (hC : C w.drew)
    (h : wpLx P .any l.toArray C (Q .normal) l.length (Array.replicate l.length false) a w.drew) : (Code.region id l.toArray true).wp P Q a w := by
  refine wp_region_any hm ?_
  have := wpAnyC_of_lx (P := P) (md := .any) (C := C) (Q := Q .normal) hs l.length (Array.replicate l.length false) a w.drew hC h
  have h3 := wpAny_of_c (Q' := Q) (fun a w hq => hq) _ _ _ _ this
  simpa using h3
end
end Go.Proofs.YtjcfhbekpmpbeaaDoor
