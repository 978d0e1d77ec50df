/- A range over a function: a round's body walked by the same steps as everywhere; the loop's law, by a count of rounds. -/
import Derived.OrdersIn
import Derived.RangeFuncFrom
import Derived.RangeFuncNested
import Derived.RangeFuncBound
import Derived.Test.YtcoodkdalblalaaGreatDoorMxToN2
namespace Go.Proofs.YtcoodkdalblalaaGreatDoor
open Go Go.RowKit Dig
set_option linter.unusedVariables false
abbrev FR (lr : Nat) : Fence := FW (some lr)
section
variable {P : Program} {o : Oper} {a : Act} {w : World} {lr m : Nat} {l : List Oper}
theorem rgR {id : Nat} {Q : Exit → Act → World → Prop} (plan : List Nat) (h : wpSq P l (Q .normal) plan a w) (hp : List.range l.length = plan := by kernel_rfl) : (Code.region id l.toArray false).wpIn (FR lr) m P Q a w := wpIn_region_sq plan hp h
theorem wp_region_f4R {id : Nat} {Q : Exit → Act → World → Prop} (plan1 : List (Nat × Bool)) (plan2 : List Nat) (F0 : List Nat) (ob : Nat → Obj) (CL : List Nat) (bad : List (Nat × Nat)) {bs : List BkT} (hC : AllB bs w) (hl : ∀ j ∈ F0, Lays P l ob j)
    (h : ∀ w', Below w.heap.size w w' → wpFl P l (AllB bs) (bs.map BG) CL ob F0 w'.heap.size (wpTail P l (bs.map BG) bad (Q .normal) plan2) plan1 a w')
    (hm : P.follows .mixedOrders = true := by kernel_rfl) (hs : Region.noSelect l.toArray = true := by kernel_rfl)
    (hlen : plan1.length + F0.length + plan2.length = l.length := by kernel_rfl) (hok : flOK .any l plan2 (plan1.length + F0.length) (Array.replicate l.length false) plan1 F0 = true := by kernel_rfl) (hpa : planApart l F0 plan1 = true := by kernel_rfl) (hwt : waits .any l CL bad plan1 = true := by kernel_rfl) (hnb : notBad bad plan1 F0 = true := by kernel_rfl) (hsu : sundry l F0 = true := by kernel_rfl) (hnd : F0.Nodup := by decide) : (Code.region id l.toArray true).wpIn (FR lr) m P Q a w :=
  wpIn_region_any hm (wpAnyIn_of_x (fun _ _ hq => hq) _ _ _ _ (wpX_region_fl plan1 plan2 F0 ob CL bad (AllB bs) (bs.map BG) hs hlen hok hpa hwt hnb hsu hnd hl (fun _ _ hC => hC.alloc) (fun _ hC => hC.get) (hC.bl (Below.refl _ _).drew) (h _ (Below.refl _ _).drew)))
end
/-- All cells lie as they lay. -/
def Cm (w w' : World) : Prop := ∀ (p : Nat) (c : Array Value) (t : TypeId) (z : Nat × Nat), w.heap[p]? = some (Obj.cells c t z) → w'.heap[p]? = some (Obj.cells c t z)
theorem Cm.cell {w w' : World} (h : Cm w w') {p : Addr} {v : Value} (hv : w.cell? p = some v) : w'.cell? p = some v := by
  unfold World.cell? at hv ⊢
  split at hv
  · rename_i c t z hh
    rw [h _ _ _ _ hh]; exact hv
  · cases hv
theorem Cm.kp {w w' : World} (h : Cm w w') : Kp w w' := fun oa ds hc => by
  by_cases hne : ds = []
  · exact .inl hne
  · obtain ⟨c, off, e, hx⟩ := hc.resolve_left hne
    exact .inr ⟨c, off, e, fun i hi => h.cell (hx i hi)⟩
theorem Cm.of_below {w w' : World} (h : Below w.heap.size w w') : Cm w w' := fun p c t z hp => by
  rw [h.block p (by rcases Nat.lt_or_ge p w.heap.size with h1 | h1; exact h1; rw [Array.getElem?_eq_none h1] at hp; cases hp)]; exact hp
theorem Cm.po {w : World} {l : Nat} {o : Obj} (o' : Obj) (h : w.heap[l]? = some o) (ho : o.isCells = false) : Cm w (w.putObj l o') := fun p c t z hp => by
  rw [World.putObj_heap_other (fun e => by subst e; rw [h] at hp; cases hp; cases ho)]; exact hp
/-- An object that is no row of cells, as an entry of the state. -/
def ob (l : Nat) (o : Obj) : En := (some l, fun w => w.heap[l]? = some o)
theorem Ok.ob {w : World} {l : Nat} {o : Obj} (h : w.heap[l]? = some o) : Ok (Go.Proofs.YtcoodkdalblalaaGreatDoor.ob l o) w := by
  refine ⟨h, fun k hk => ?_, fun w' hk _ => ?_⟩
  · obtain rfl : l = k := by simpa [Go.Proofs.YtcoodkdalblalaaGreatDoor.ob] using hk
    exact (Array.getElem?_eq_some_iff.1 h).1
  · show w'.heap[l]? = _
    rw [hk l rfl]; exact h
section
variable {w0 w : World} {bs : List En} {l : Nat} {o : Obj} {e : En}
theorem St.at (h : St w0 bs w) {i : Nat} (hi : bs[i]? = some e) : Ok e w := by
  have key : ∀ {bs : List En} {i : Nat}, AllE bs w → bs[i]? = some e → Ok e w := by
    intro bs
    induction bs with
    | nil => intro i _ hi; simp at hi
    | cons b t ih =>
      intro i hA hi
      cases i with
      | zero => obtain rfl : b = e := by simpa using hi
                exact hA.1
      | succ i => exact ih hA.2 (by simpa using hi)
  exact key h.1 hi
theorem St.obj (h : St w0 bs w) (i : Nat) (hi : bs[i]? = some (ob l o) := by rfl) : w.heap[l]? = some o := (h.at hi).1
theorem St.po (h : St w0 bs w) (i : Nat) (o' : Obj) (hl : Hid (w0.heap.size ≤ l)) (hi : bs[i]? = some (ob l o) := by rfl) : St w0 (bs.set i (ob l o')) (w.putObj l o') := by
  have hlt : l < w.heap.size := (Array.getElem?_eq_some_iff.1 (h.obj i hi)).1
  refine h.st i hi (fun k _ hne => World.putObj_heap_other (fun e => hne (by rw [e]; rfl))) (by rw [World.putObj_size]; exact Nat.le_refl _) (Ok.ob (World.putObj_heap_same hlt)) (fun k hk => .inl hk) ?_
  refine ⟨h.b.os, h.b.tape, h.b.output, by rw [World.putObj_size]; exact h.k, fun k hk => ?_⟩
  rw [World.putObj_heap_other (fun e => by have : w0.heap.size ≤ l := hl; omega)]
  exact h.b.block k hk
theorem St.ao (h : St w0 bs w) (o : Obj) : St w0 (ob w.heap.size o :: bs) (w.alloc o) := by
  refine .cons (Ok.ob (World.alloc_heap_new w o)) (fun f hf k hk hc => ?_) (h.bl ((Below.refl _ w).alloc (Nat.le_refl _) o))
  have h1 := h.lt f hf k hc
  obtain rfl : w.heap.size = k := by simpa [ob] using hk
  exact Nat.lt_irrefl _ h1
end
/-- Two blocks that a call has laid join the state. -/
theorem St.app2 {w0 w w' : World} {bs : List En} {p q : Nat} {cs ds : Array Value} {ty t2 : TypeId} (hs : St w0 bs w) (h : St w [bx p cs ty, bx q ds t2] w') (k1 : Hid (w.heap.size ≤ p)) (k2 : Hid (w.heap.size ≤ q)) : St w0 (bx p cs ty :: bx q ds t2 :: bs) w' :=
  hs.app h fun e he k hk => by
    simp only [List.mem_cons, List.not_mem_nil, or_false] at he
    rcases he with rfl | rfl
    · obtain rfl : p = k := by simpa [bx] using hk
      exact k1
    · obtain rfl : q = k := by simpa [bx] using hk
      exact k2
/-- An iterator: it hands on n rows of values, one behind the other, to whatever body keeps what it reads (R); it may be stopped. -/
def ItN (P : Program) (gf : Nat) (lb : Array Value) (n : Nat) (encs : Nat → Array Value) (R : World → Prop) : Prop :=
  ∀ (l : Nat) (J Jx : Nat → World → Prop) (W : World), (∀ k A B, J k A → Below A.heap.size A B → J k B) → (∀ k A B, Jx k A → Below A.heap.size A B → Jx k B) → (∀ k W1, J k W1 → R W1) → (∀ k W1, Jx k W1 → R W1) →
    (∀ k W1, k < n → J k W1 → YieldAt Fence.wide 0 P l (encs k) W1 fun e W' => (e = .returned (.bool true) ∧ J (k + 1) W') ∨ (e = .returned (.bool false) ∧ Jx k W')) →
    J 0 W → Calls P gf (#[.func (.yield l) #[] #[]] ++ lb) W fun e W' => (∃ v, e = .returned v) ∧ (J n W' ∨ ∃ k, k < n ∧ Jx k W')
theorem er_none {P : Program} {w : World} {l : Nat} {r : Loop} (h : w.heap[l]? = some (.loop r)) : (Instr.endRound l none).run P w = .ok (.bool true) (w.putObj l (.loop { r with state := .ready, pending := none })) := run_endRound none h
theorem er_some {P : Program} {w : World} {l : Nat} {r : Loop} {c : Code} (h : w.heap[l]? = some (.loop r)) : (Instr.endRound l (some c)).run P w = .ok (.bool false) (w.putObj l (.loop { r with state := .done, pending := some c })) := run_endRound (some c) h
/-- What a round's body must come to. -/
def rPost {X : Type} (w0 : World) (bs : X → List En) (F : X → World → Prop) (I : Nat → X → Prop) (Ix : Code → Nat → X → Prop) (E : List En) (k : Nat) : Exit → Act → World → Prop
  | .normal, _, W => ∃ x, I (k + 1) x ∧ St w0 (E ++ bs x) W ∧ F x W
  | .ret, _, W => ∃ x, Ix .ret k x ∧ St w0 (E ++ bs x) W ∧ F x W
  | .exit id, _, W => ∃ x, Ix (.exit id) k x ∧ St w0 (E ++ bs x) W ∧ F x W
  | .goto t, _, W => ∃ x, Ix (.goto t) k x ∧ St w0 (E ++ bs x) W ∧ F x W
  | _, _, _ => False
section
variable {P : Program} {g : Operand} {ps : Array Tmp} {assign body : Code} {a : Act} {w w0 : World} {gf : Nat} {lb : Array Value} {n : Nat} {encs : Nat → Array Value} {R : World → Prop} {X : Type} {bs : X → List En} {F : X → World → Prop} {I : Nat → X → Prop} {Ix : Code → Nat → X → Prop}
/-- The rounds of a loop whose record is l, beside the entries E (the record is their first). -/
theorem rounds_ok {fn : FuncId} {l : Nat} {E : List En} {rd : LoopState → Option Code → Obj} {tm : Array Value} {df : Nat}
    (hrd : rd = fun st pe => .loop { state := st, pending := pe, fn, tmps := tm, params := ps, assign, body, defers := df }) (hl : Hid (w0.heap.size ≤ l))
    (hps : ∀ k, k < n → (encs k).size = ps.size) (hF : ∀ x A B, F x A → Cm A B → F x B)
    (hround : ∀ r k x W, k < n → I k x → St w0 (ob l (.loop r) :: E ++ bs x) W → F x W →
      assign.wpIn (FR l) 0 P (Exit.then (fun a1 w1 => ∃ bs1 i, St w0 bs1 w1 ∧ bs1[i]? = some (ob l (.loop r)) ∧ ∀ r' w2, St w0 (bs1.set i (ob l (.loop r'))) w2 → Cm w1 w2 → body.wpIn (FR l) 0 P (rPost w0 bs F I Ix (ob l (.loop r') :: E) k) a1 w2) (fun _ _ _ => False))
        { tmps := (ps.zip (encs k)).foldl (fun t (p, v) => t.setIfInBounds p v) tm, defers := [] } W) :
    ∀ k W1, k < n → (∃ x, I k x ∧ St w0 (ob l (rd .ready none) :: E ++ bs x) W1 ∧ F x W1) →
      YieldAt Fence.wide 0 P l (encs k) W1 fun e W' => (e = .returned (.bool true) ∧ ∃ x, I (k + 1) x ∧ St w0 (ob l (rd .ready none) :: E ++ bs x) W' ∧ F x W') ∨
        (e = .returned (.bool false) ∧ ∃ c x, Ix c k x ∧ St w0 (ob l (rd .done (some c)) :: E ++ bs x) W' ∧ F x W') := by
  subst hrd
  rintro k W1 hk ⟨x, hI, hs, hf⟩
  have hy := run_yield (P := P) (args := encs k) (hs.obj 0) (hps k hk)
  refine ⟨fn, _, assign, body, hy, roundIn_of_wpIn trivial ?_⟩
  refine wpIn_mono (hround _ k x W1 hk hI hs hf) ?_
  rintro e a1 w1 hq
  cases e with
  | normal =>
    obtain ⟨bs1, i, hs1, hi, hb⟩ := hq
    have ho := hs1.obj i hi
    refine ⟨_, run_beginRound ho rfl, ?_⟩
    refine wpIn_mono (hb _ _ (hs1.po i _ hl hi) (Cm.po _ ho rfl)) ?_
    rintro e a2 w2 hp
    cases e with
    | normal =>
      obtain ⟨x', hI', hs', hf'⟩ := hp
      have ho := hs'.obj 0
      exact ⟨_, _, er_none ho, .inl ⟨rfl, x', hI', hs'.po 0 (Obj.loop { state := .ready, pending := none, fn, tmps := tm, params := ps, assign, body, defers := df }) hl, hF _ _ _ hf' (Cm.po _ ho rfl)⟩⟩
    | ret =>
      obtain ⟨x', hI', hs', hf'⟩ := hp
      have ho := hs'.obj 0
      exact ⟨_, _, er_some ho, .inr ⟨rfl, .ret, x', hI', hs'.po 0 (Obj.loop { state := .done, pending := some (.ret), fn, tmps := tm, params := ps, assign, body, defers := df }) hl, hF _ _ _ hf' (Cm.po _ ho rfl)⟩⟩
    | exit id =>
      obtain ⟨x', hI', hs', hf'⟩ := hp
      have ho := hs'.obj 0
      exact ⟨_, _, er_some ho, .inr ⟨rfl, .exit id, x', hI', hs'.po 0 (Obj.loop { state := .done, pending := some (.exit id), fn, tmps := tm, params := ps, assign, body, defers := df }) hl, hF _ _ _ hf' (Cm.po _ ho rfl)⟩⟩
    | goto t =>
      obtain ⟨x', hI', hs', hf'⟩ := hp
      have ho := hs'.obj 0
      exact ⟨_, _, er_some ho, .inr ⟨rfl, .goto t, x', hI', hs'.po 0 (Obj.loop { state := .done, pending := some (.goto t), fn, tmps := tm, params := ps, assign, body, defers := df }) hl, hF _ _ _ hf' (Cm.po _ ho rfl)⟩⟩
    | panic c => exact hp.elim
    | outgrown => exact hp.elim
  | exit id => exact hq.elim
  | goto t => exact hq.elim
  | ret => exact hq.elim
  | panic c => exact hq.elim
  | outgrown => exact hq.elim
/-- The loop, in a function's own frame. D: the block for the rounds' deferred calls, r the loop's record (told no further). -/
theorem wp_rangeN {Q : Exit → Act → World → Prop} (I : Nat → X → Prop) (Ix : Code → Nat → X → Prop) (bs : X → List En) (F : X → World → Prop) (hit : ItN P gf lb n encs R) (x0 : X) (h0 : I 0 x0) (hs : St w0 (bs x0) w) (hf0 : F x0 w)
    (hR : ∀ x W, St w0 (bs x) W → F x W → R W) (hF : ∀ x A B, F x A → Cm A B → F x B)
    (hround : ∀ l D r d k x W, k < n → I k x → St w0 (ob l (.loop r) :: ob D d :: bs x) W → F x W →
      assign.wpIn (FR l) 0 P (Exit.then (fun a1 w1 => ∃ bs1 i, St w0 bs1 w1 ∧ bs1[i]? = some (ob l (.loop r)) ∧ ∀ r' w2, St w0 (bs1.set i (ob l (.loop r'))) w2 → Cm w1 w2 → body.wpIn (FR l) 0 P (rPost w0 bs F I Ix (ob l (.loop r') :: [ob D d]) k) a1 w2) (fun _ _ _ => False))
        { tmps := (ps.zip (encs k)).foldl (fun t (p, v) => t.setIfInBounds p v) a.tmps, defers := [] } W)
    (hdone : ∀ l D r x W, Hid (w0.heap.size ≤ D) → I n x → St w0 (ob l r :: ob D (.deferred (some [])) :: bs x) W → F x W → Q .normal { a with defers := { target := .collected D, args := #[] } :: a.defers } W)
    (hstop : ∀ l D r c k x W, k < n → Hid (w0.heap.size ≤ D) → Ix c k x → St w0 (ob l r :: ob D (.deferred (some [])) :: bs x) W → F x W → c.wp P Q { a with defers := { target := .collected D, args := #[] } :: a.defers } W)
    (hg : a.eval g = .func (.func gf) #[] lb := by rfl) (eg : ∀ args w, (callFunc gf args).run P w = .ok (.enter gf args) w := by exact fun _ _ => by kernel_rfl) (hps : ∀ k, k < n → (encs k).size = ps.size := by exact fun _ _ => rfl) :
    (Code.rangeFunc g ps assign body).wp P Q a w := by
  refine (wpIn_wide (n := 0)).1 (wpIn_rangeFunc ?_)
  intro fn _
  obtain ⟨rd, hrd⟩ : ∃ rd : LoopState → Option Code → Obj, rd = fun st pe => .loop { state := st, pending := pe, fn, tmps := a.tmps, params := ps, assign, body, defers := w.heap.size } := ⟨_, rfl⟩
  have s1 := (hs.ao (.deferred (some []))).ao (rd .ready none)
  rw [World.size_alloc] at s1
  have c1 : Cm w ((w.alloc (.deferred (some []))).alloc (rd .ready none)) := Cm.of_below (((Below.refl _ w).alloc (Nat.le_refl _) _).alloc (by simp) _)
  obtain ⟨W1, hW1⟩ : ∃ W1, (w.alloc (.deferred (some []))).alloc (rd .ready none) = W1 := ⟨_, rfl⟩
  rw [hW1] at s1 c1
  have hk := hs.k
  refine ⟨w.heap.size + 1, [{ target := .collected w.heap.size, args := #[] }], W1, { target := .fn (.func gf) lb, args := #[.func (.yield (w.heap.size + 1)) #[] #[]] }, W1, gf,
    #[.func (.yield (w.heap.size + 1)) #[] #[]] ++ lb, W1, ?_, ?_, fun _ _ => trivial, ?_, fun h => (by cases h), callsIn_wide.2 ?_⟩
  · rw [← hW1, hrd]; exact run_enterLoop_outer _ _ _ _ _
  · simp only [resolve, hg]
    simp [go_sem]
  · simp [invoke, go_sem, eg]
  · refine (hit (w.heap.size + 1)
      (fun k W => ∃ x, I k x ∧ St w0 (ob (w.heap.size + 1) (rd .ready none) :: [ob w.heap.size (.deferred (some []))] ++ bs x) W ∧ F x W)
      (fun k W => ∃ c x, Ix c k x ∧ St w0 (ob (w.heap.size + 1) (rd .done (some c)) :: [ob w.heap.size (.deferred (some []))] ++ bs x) W ∧ F x W) W1
      (fun k A B ⟨x, h1, h2, h3⟩ hb => ⟨x, h1, h2.bl hb, hF _ _ _ h3 (Cm.of_below hb)⟩)
      (fun k A B ⟨c, x, h1, h2, h3⟩ hb => ⟨c, x, h1, h2.bl hb, hF _ _ _ h3 (Cm.of_below hb)⟩)
      (fun k W ⟨x, h1, h2, h3⟩ => hR x W (h2.sub (List.sublist_append_right _ _)) h3) (fun k W ⟨c, x, h1, h2, h3⟩ => hR x W (h2.sub (List.sublist_append_right _ _)) h3)
      (rounds_ok hrd (show w0.heap.size ≤ _ by omega) hps hF fun r k x W hk hI hs hf => hround _ _ r _ k x W hk hI hs hf) ⟨x0, h0, s1, hF _ _ _ hf0 c1⟩).mono ?_
    rintro e W2 ⟨⟨v, rfl⟩, (⟨x, hI, hs2, hf2⟩ | ⟨k, hk, c, x, hI, hs2, hf2⟩)⟩
    · subst hrd
      have ho := hs2.obj 0
      exact ⟨none, _, run_endLoop ho (by simp), hdone _ _ _ x _ (show w0.heap.size ≤ w.heap.size from hs.k) hI (hs2.po 0 _ (show w0.heap.size ≤ _ by omega)) (hF _ _ _ hf2 (Cm.po _ ho rfl))⟩
    · subst hrd
      have ho := hs2.obj 0
      exact ⟨some c, _, run_endLoop ho (by simp), wpIn_wide.2 (hstop _ _ _ c k x _ hk (show w0.heap.size ≤ w.heap.size from hs.k) hI (hs2.po 0 _ (show w0.heap.size ≤ _ by omega)) (hF _ _ _ hf2 (Cm.po _ ho rfl)))⟩
end
/-- A function whose body holds such a loop. -/
theorem calls_of_marks {P : Program} {f : FuncId} {fn : Func} {c : Code} {args : Array Value} {w : World} {R : Ending → World → Prop} (hf : P.funcs[f]? = some fn) (hb : fn.body = some c)
    (h : c.wp P (bodyPostM Fence.wide 0 P fn R) { tmps := args ++ Array.replicate (fn.ntmps - args.size) undef, defers := [] } w) : Calls P f args w R :=
  (callsIn_wide (n := 0)).1 (callsIn_of_wp_marks hf hb trivial (wpIn_wide.2 h))
theorem ret_mark {P : Program} {fn : Func} {R : Ending → World → Prop} {tmps : Array Value} {w : World} {D : Nat} (hD : w.heap[D]? = some (.deferred (some []))) (h : ∀ w2, w.putObj D (.deferred none) = w2 → ∃ v, (results fn tmps).run P w2 = .ok v w2 ∧ R (.returned v) w2) :
    LeavesInM Fence.wide 0 P fn tmps R [{ target := .collected D, args := #[] }] .returning w :=
  ⟨by simp, .inl ⟨_, _, rfl, run_takeDeferred hD, h _ rfl⟩⟩
section
variable {P : Program} {l : List Oper} {o : Oper} {a : Act} {w : World} {Q : Act → World → Prop} {k : Nat} {rest : List Nat} {ly : Nat} {args : Array Value} {Gs : List (World → Prop)} {bad : List (Nat × Nat)}
theorem Calm.yield {next : Value → World → Prop} (h : YieldAt Fence.wide 0 P ly args w fun e w' => ∃ v, e = .returned v ∧ next v w') (ho : ∀ w, (execOp a.eval o).run P w = (Instr.yield ly args).run P w) : Calm P o a w next := by
  obtain ⟨fn, tmps, asg, bd, hy, hR⟩ := h
  unfold Calm
  rw [ho, hy]; exact hR
theorem tlY {a' : Value → Act} (h : YieldAt Fence.wide 0 P ly args w fun e w' => ∃ v, e = .returned v ∧ keepL bad k 0 Gs w' ∧ wpTail P l Gs bad Q rest (a' v) w') (ho : ∀ w, (execOp a.eval o).run P w = (Instr.yield ly args).run P w) (hi : nthO l k = some o := by rfl) (hw : Region.wanted o (yielded l.toArray a.tmps) = true := by kernel_rfl) (hp : ∀ v', a.put o.dst v' = a' v' := by intro v'; unfold Act.put; simp only [List.setIfInBounds_toArray, List.set_cons_succ, List.set_cons_zero]; rfl) : wpTail P l Gs bad Q (k :: rest) a w :=
  ⟨o, hi, by rw [if_pos hw]; exact Calm.yield (h.mono fun e w' ⟨v, h1, h2, h3⟩ => ⟨v, h1, .of_l h2, by rw [hp]; exact h3⟩) ho⟩
/-- What only reads keeps all. -/
theorem tlP (h : Stp P o a w bot (fun w' => w' = w) (wpTail P l Gs bad Q rest)) (hi : nthO l k = some o := by rfl) (hw : Region.wanted o (yielded l.toArray a.tmps) = true := by kernel_rfl) : wpTail P l Gs bad Q (k :: rest) a w := by
  refine ⟨o, hi, ?_⟩
  rw [if_pos hw]
  have h := h (fun a' w' => a'.defers = a.defers ∧ w' = w ∧ wpTail P l Gs bad Q rest a' w') (fun a' w' h1 h2 h3 => ⟨h1, h2, h3⟩)
  unfold Oper.wp at h
  unfold Calm
  generalize (execOp a.eval o).run P w = r at *
  have hk : ∀ w', w' = w → Keeps Gs bad k w w' := fun w' e => by subst e; exact Keeps.refl _ _ _ _
  cases r with
  | ok n w2 =>
    cases n <;> simp only [Oper.upon] at h ⊢
    case value => exact ⟨hk _ h.2.1, h.2.2⟩
    case skip => exact ⟨hk _ h.2.1, h.2.2⟩
    case defer =>
      have h1 := h.1
      unfold Act.put at h1
      split at h1 <;> simp at h1
    case enter =>
      refine h.mono fun e w'' he => ?_
      cases e with
      | returned v => exact ⟨v, rfl, hk _ he.2.1, he.2.2⟩
      | panicked c => exact he.elim
      | outgrown => obtain ⟨_, _, hf⟩ := he; exact hf.elim
    case row => exact Rows.mono h fun v w'' he => ⟨hk _ he.2.1, he.2.2⟩
  | halt x w2 => cases x <;> simp only [Oper.upon, bot] at h
end
/-- A cell of a block that is read. -/
def cg (cur : Array Value) (j : Nat) : Value := (cur[j]?).getD undef
theorem cg_eq {cur : Array Value} {j : Nat} {v : Value} (h : cur[j]? = some v) : cg cur j = v := by rw [cg, h]; rfl
def enG (cur : Array Value) (off i : Nat) : Value := .agg #[cg cur (off + i * 4), cg cur (off + i * 4 + 1), cg cur (off + i * 4 + 2), cg cur (off + i * 4 + 3)]
def IsG (cur : Array Value) (off n : Nat) : Prop := ∀ i, i < n → ∃ n1 o1 k1 c1 n2 o2 k2 c2, cur[off + i * 4]? = some (.bool n1) ∧ cur[off + i * 4 + 1]? = some (.slice o1 k1 c1) ∧ cur[off + i * 4 + 2]? = some (.bool n2) ∧ cur[off + i * 4 + 3]? = some (.slice o2 k2 c2)
section
variable {p1 p2 n m c1 c2 g1 g2 off1 off2 : Nat} {cur1 cur2 : Array Value} {t1 t2 t3 t4 : TypeId} {fz1 fz2 : Nat × Nat}
set_option maxHeartbeats 4000000 in
set_option maxRecDepth 20000 in
theorem besideGG (hn : 0 < n) (hl : n ≤ 1000000000) (hnm : n ≤ m) (i1 : IsG cur1 off1 n) (i2 : IsG cur2 off2 n) :
    ItN Tryz.prog 115 #[.pointer (some ⟨p1, 0, none⟩), .pointer (some ⟨p2, 0, none⟩)] n (fun i => #[enG cur1 off1 i, enG cur2 off2 i])
      fun W => Bs W p1 #[.slice (some ⟨g1, off1, none⟩) n c1] 28 ∧ Bs W p2 #[.slice (some ⟨g2, off2, none⟩) m c2] 28 ∧ Bs W g1 cur1 t1 fz1 ∧ Bs W g2 cur2 t2 fz2 := by
  intro l J Jx w hJ hJx hR hRx hY h0
  show Calls _ _ #[.func (.yield l) #[] #[], .pointer (some ⟨p1, 0, none⟩), .pointer (some ⟨p2, 0, none⟩)] w _
  obtain ⟨x1, x2, y1, y2⟩ := hR _ _ h0
  have HY := hide hY
  have HR := hide hR
  have HX := hide hRx
  have I1 := hide i1
  have I2 := hide i2
  have HJ := hide hJ
  clear hY hR hRx i1 i2 hJ
  go_enter Tryz.func115, Tryz.ntmps115
  have hs := St.nil w
  have lt_ba := x1.lt
  have x1z := x1
  have lt_bb := x2.lt
  have x2z := x2
  refine wp_seq_k ?_
  intro K1 hK1
  refine rg [0, 1, 2] ?_
  refine sq ?_
  refine .r1 x1.f1 ?_
  refine sq ?_
  refine .r0 ?_
  refine sq ?_
  refine .mv ?_
  apply wpSq_end
  refine hK1 _ _ ?_
  refine wp_block ?_
  have hb := hs.b
  have hd1 := hs.2.1
  go_loopg [8] n (fun kk s8 wr => ∃ i : Nat, s8 = .int .i64 (i : Int) ∧ i + kk = n ∧ J i wr)
  case atStart => exact ⟨0, rfl, by omega, HJ.out _ _ _ h0 hb⟩
  case round =>
  clear x1 x2 hb hs
  obtain ⟨i, rfl, hik, hJi⟩ := hrel
  have hs := St.nil wr
  by_cases hi : i < n
  · obtain ⟨x1, x2, y1, y2⟩ := HR.out _ _ hJi
    have lt_ba := x1.lt
    have lt_bb := x2.lt
    have lt_kA := y1.lt
    have lt_kB := y2.lt
    obtain ⟨n1, o1, k1, q1, n2, o2, k2, q2, e1, e2, e3, e4⟩ := I1.out i hi
    obtain ⟨n3, o3, k3, q3, n4, o4, k4, q4, e5, e6, e7, e8⟩ := I2.out i hi
    have HYi := hide (show ∀ W1, J i W1 → _ from fun W1 h => HY.out i W1 hi h)
    simp only [enG, cg_eq e1, cg_eq e2, cg_eq e3, cg_eq e4, cg_eq e5, cg_eq e6, cg_eq e7, cg_eq e8] at HYi
    have hi2 : i < m := by omega
    refine wp_seq_k ?_
    intro K2 hK2
    refine rg [0] ?_
    refine sq ?_
    refine .r0 ?_
    apply wpSq_end
    refine hK2 _ _ ?_
    refine wp_seq_k ?_
    intro K3 hK3
    refine ct ?_
    refine wp_skip ?_
    refine hK3 _ _ ?_
    refine wp_seq_k ?_
    intro K4 hK4
    refine wp_block ?_
    refine wp_seq_k ?_
    intro K5 hK5
    refine rg [0, 1, 2, 3, 4, 5] ?_
    refine sq ?_
    refine .mv ?_
    refine sq ?_
    refine .r0 ?_
    refine sq ?_
    refine .r4 ⟨y1.cell _ e1, y1.cell _ e2, y1.cell _ e3, y1.cell _ e4⟩ ?_
    refine sq ?_
    refine .al hs ?_; clear hs; intro p_b1 w_2 hs n2 kb_b1
    replace x1 := x1.bl n2; replace x2 := x2.bl n2; replace y1 := y1.bl n2; replace y2 := y2.bl n2
    refine sq ?_
    refine .mv ?_
    refine sq ?_
    refine .s4 hs.g0 (fun _ => hs.u0 kb_b1) ?_; clear hs; intro w_3 hs hd3 ho3
    replace x1 := x1.frame ho3 (Nat.ne_of_lt (Nat.lt_of_lt_of_le lt_ba kb_b1)); replace x2 := x2.frame ho3 (Nat.ne_of_lt (Nat.lt_of_lt_of_le lt_bb kb_b1)); replace y1 := y1.frame ho3 (Nat.ne_of_lt (Nat.lt_of_lt_of_le lt_kA kb_b1)); replace y2 := y2.frame ho3 (Nat.ne_of_lt (Nat.lt_of_lt_of_le lt_kB kb_b1))
    apply wpSq_end
    refine hK5 _ _ ?_
    refine wp_seq_k ?_
    intro K6 hK6
    refine wp_region_f4 [(0, false), (1, false), (2, false), (3, false), (4, false), (5, false)] [6, 7] [] (fun _ => default) [99, 0, 1, 99, 99, 2, 99, 99] [(6, 0)] (.c hs.g0 (.c x2 (.c y2 .n))) fn fun w_4 n4 => ?_
    replace x1 := x1.bl n4; replace x2 := x2.bl n4; replace y1 := y1.bl n4; replace y2 := y2.bl n4; replace hs := hs.bl n4
    refine fmv ?_
    refine f4 ?_
    refine f1 ?_
    refine fmv ?_
    refine f0 ?_
    apply wpFl_ld rfl rfl; (case h1 => intro w' hC K hK; have c0 := Bs.cell hC ((off2 + i * 4)) e5; have c1 := Bs.cell hC ((off2 + i * 4) + 1) e6; have c2 := Bs.cell hC ((off2 + i * 4) + 2) e7; have c3 := Bs.cell hC ((off2 + i * 4) + 3) e8; go_big_op; exact hK); iterate 4 kernel_rfl
    refine e0 hs ?_; clear hs; intro w_5 hs n5
    replace x1 := x1.bl n5; replace x2 := x2.bl n5; replace y1 := y1.bl n5; replace y2 := y2.bl n5
    have hb := hs.b
    refine tlY (YieldAt.mono ((HYi.out _ (HJ.out _ _ _ hJi hb))) fun e w_6 hY => ?_) (fun _ => by kernel_rfl)
    clear x1 x2 y1 y2 hb hs
    have hs := St.nil w_6
    rcases hY with ⟨rfl, hJ1⟩ | ⟨rfl, hx⟩
    · obtain ⟨x1, x2, y1, y2⟩ := HR.out _ _ hJ1
      refine ⟨_, rfl, (And.intro True.intro (And.intro x2 (And.intro y2 True.intro))), ?_⟩
      refine tlP ?_
      refine .r0 ?_ (e := rfl)
      apply wpTail_end
      refine hK6 _ _ ?_
      refine cf ?_
      refine wp_skip ?_
      refine hK4 _ _ ?_
      refine rg [0, 1] ?_
      refine sq ?_
      refine .r0 ?_
      refine sq ?_
      refine .mv ?_
      apply wpSq_end
      have hb := hs.b
      refine ‹∀ (a' : Act) (w' : World), Handed _ _ a' w' → _› _ _ ?_
      go_roundg (gk - 1)
      case rel => exact ⟨i + 1, by rfl, by omega, HJ.out _ _ _ hJ1 hb⟩
      case measure => omega
    · obtain ⟨x1, x2, y1, y2⟩ := HX.out _ _ hx
      refine ⟨_, rfl, (And.intro True.intro (And.intro x2 (And.intro y2 True.intro))), ?_⟩
      refine tlP ?_
      refine .r0 ?_ (e := rfl)
      apply wpTail_end
      refine hK6 _ _ ?_
      refine ct ?_
      refine wp_ret ?_
      try dsimp only [Exit.then, Exit.inBlock]
      refine bodyPost_ret (results_none rfl _ _ _) rfl ?_
      have hb := hs.b
      exact ⟨⟨_, rfl⟩, .inr ⟨i, hi, hJx _ _ _ hx hb⟩⟩
  · obtain rfl : n = i := by omega
    have HX := hide hi
    refine wp_seq_k ?_
    intro K2 hK2
    refine rg [0] ?_
    refine sq ?_
    refine .r0 ?_
    apply wpSq_end
    refine hK2 _ _ ?_
    refine wp_seq_k ?_
    intro K3 hK3
    refine cf ?_
    refine wp_exit ?_
    try simp only [Exit.then, Exit.inBlock, if_true]
    refine bodyPost_end (results_none rfl _ _ _) rfl ?_
    have hb := hs.b
    exact ⟨⟨_, rfl⟩, .inl (HJ.out _ _ _ hJi hb)⟩
end
section
variable {p1 p2 n m c1 c2 g1 g2 off1 off2 : Nat} {cur1 cur2 : Array Value} {t1 t2 t3 t4 : TypeId} {fz1 fz2 : Nat × Nat} {o1 o2 : Option Addr} {w : World} {encs : Nat → Array Value}
set_option maxHeartbeats 4000000 in
set_option maxRecDepth 20000 in
theorem beside0GG : ItN Tryz.prog 115 #[.pointer (some ⟨p1, 0, none⟩), .pointer (some ⟨p2, 0, none⟩)] 0 encs fun W => Bs W p1 #[.slice o1 0 c1] 28 := by
  intro l J Jx w hJ hJx hR hRx hY h0
  show Calls _ _ #[.func (.yield l) #[] #[], .pointer (some ⟨p1, 0, none⟩), .pointer (some ⟨p2, 0, none⟩)] w _
  have x1 := hR _ _ h0
  have HJ := hide hJ
  clear hY hR hRx hJ
  go_enter Tryz.func115, Tryz.ntmps115
  have hs := St.nil w
  have lt_ba := x1.lt
  have x1z := x1
  refine wp_seq_k ?_
  intro K1 hK1
  refine rg [0, 1, 2] ?_
  refine sq ?_
  refine .r1 x1.f1 ?_
  refine sq ?_
  refine .r0 ?_
  refine sq ?_
  refine .mv ?_
  apply wpSq_end
  refine hK1 _ _ ?_
  refine wp_block ?_
  have hb := hs.b
  have hd1 := hs.2.1
  go_loopg [8] 0 (fun kk s8 wr => s8 = .int .i64 0 ∧ J 0 wr)
  case atStart => exact ⟨rfl, HJ.out _ _ _ h0 hb⟩
  case round =>
  clear x1 hb hs
  obtain ⟨rfl, hJi⟩ := hrel
  have hs := St.nil wr
  refine wp_seq_k ?_
  intro K2 hK2
  refine rg [0] ?_
  refine sq ?_
  refine .r0 ?_
  apply wpSq_end
  refine hK2 _ _ ?_
  refine wp_seq_k ?_
  intro K3 hK3
  refine cf ?_
  refine wp_exit ?_
  try simp only [Exit.then, Exit.inBlock, if_true]
  refine bodyPost_end (results_none rfl _ _ _) rfl ?_
  have hb := hs.b
  exact ⟨⟨_, rfl⟩, .inl (HJ.out _ _ _ hJi hb)⟩
set_option maxHeartbeats 4000000 in
set_option maxRecDepth 20000 in
theorem mkBesideGG : Calls Tryz.prog 99 #[.slice o1 n c1, .slice o2 m c2] w fun e w' => ∃ p1 p2, e = .returned (.func (.func 115) #[] #[.pointer (some ⟨p1, 0, none⟩), .pointer (some ⟨p2, 0, none⟩)]) ∧ Hid (w.heap.size ≤ p1) ∧ Hid (w.heap.size ≤ p2) ∧
      St w [bx p1 #[.slice o1 n c1] 28, bx p2 #[.slice o2 m c2] 28] w' ∧ Below w.heap.size w w' := by
  go_enter Tryz.func99, Tryz.ntmps99
  have hs := St.nil w
  refine wp_seq_k ?_
  intro K1 hK1
  refine rg [0, 1, 2] ?_
  refine sq ?_
  refine .al hs ?_; clear hs; intro p_b1 w_1 hs n1 kb_b1
  refine sq ?_
  refine .al hs ?_; clear hs; intro p_b2 w_2 hs n2 kb_b2
  refine sq ?_
  refine .mv ?_
  apply wpSq_end
  refine hK1 _ _ ?_
  refine wp_seq_k ?_
  intro K2 hK2
  refine rg [0, 1] ?_
  refine sq ?_
  refine .r0 ?_
  refine sq ?_
  refine .mv ?_
  apply wpSq_end
  refine hK2 _ _ ?_
  refine wp_ret ?_
  try dsimp only [Exit.then, Exit.inBlock]
  refine bodyPost_ret (v := (.func (.func 115) #[] #[(.pointer (some ⟨p_b1, 0, none⟩)), (.pointer (some ⟨p_b2, 0, none⟩))])) (by simp [results, Tryz.results99, go_sem]) rfl ?_
  exact ⟨_, _, rfl, kb_b1, kb_b2, hs.perm (List.Perm.swap _ _ _), hs.b⟩
/-- A vector's block. -/
theorem SV.blk {l : Nat} {o : Option Addr} {ps : List (Int × Int)} (h : SN l w o ps) : ∃ g off cur ty fz, (0 < ps.length → o = some ⟨g, off, none⟩ ∧ Bs w g cur ty fz) ∧ Els (RN l) w cur off ps := by
  rcases Nat.eq_zero_or_pos ps.length with h0 | h0
  · exact ⟨0, 0, #[], 0, (0, 0), fun h => absurd h (by omega), fun i hi => absurd hi (by omega)⟩
  · obtain ⟨g, off, cur, ty, fz, e, x, d⟩ := h.box h0
    exact ⟨g, off, cur, ty, fz, fun _ => ⟨e, x⟩, d⟩
theorem Els.isG {l off : Nat} {cur : Array Value} {ps : List (Int × Int)} (h : Els (RN l) w cur off ps) : IsG cur off ps.length := fun i hi => by
  obtain ⟨n1, o1, k1, c1, n2, o2, k2, c2, e1, e2, e3, e4, _, _⟩ := h i hi
  exact ⟨n1, o1, k1, c1, n2, o2, k2, c2, e1, e2, e3, e4⟩
/-- Two lists side by side, of no elements too. -/
theorem itGG (hl : n ≤ 1000000000) (i1 : IsG cur1 off1 n) (i2 : IsG cur2 off2 n) (h1 : 0 < n → o1 = some ⟨g1, off1, none⟩) (h2 : 0 < n → o2 = some ⟨g2, off2, none⟩) :
    ItN Tryz.prog 115 #[.pointer (some ⟨p1, 0, none⟩), .pointer (some ⟨p2, 0, none⟩)] n (fun i => #[enG cur1 off1 i, enG cur2 off2 i])
      fun W => Bs W p1 #[.slice o1 n c1] 28 ∧ Bs W p2 #[.slice o2 n c2] 28 ∧ (0 < n → Bs W g1 cur1 t1 fz1 ∧ Bs W g2 cur2 t2 fz2) := by
  rcases Nat.eq_zero_or_pos n with h0 | h0
  · subst h0
    intro l J Jx w hJ hJx hR hRx hY hI
    exact beside0GG l J Jx w hJ hJx (fun k W h => (hR k W h).1) (fun k W h => (hRx k W h).1) hY hI
  · obtain rfl := h1 h0
    obtain rfl := h2 h0
    intro l J Jx w hJ hJx hR hRx hY hI
    exact besideGG h0 hl (Nat.le_refl _) i1 i2 l J Jx w hJ hJx (fun k W h => ⟨(hR k W h).1, (hR k W h).2.1, (hR k W h).2.2 h0⟩) (fun k W h => ⟨(hRx k W h).1, (hRx k W h).2.1, (hRx k W h).2.2 h0⟩) hY hI
end
section
variable {w : World} {l la lb i j n na nb cm ca cb pa pb pm pf pg k : Nat} {om oa ob : Option Addr} {Ms A B : List (List (Int × Int))} {va : Value} {x y u v : Int}
set_option maxHeartbeats 4000000 in
set_option maxRecDepth 20000 in
theorem scale1 (xa : Bs w pa #[.slice oa na ca] 30) {gn1 gn2 : Bool} {go1 go2 : Option Addr} {gk1 gk2 gc1 gc2 : Nat} (xg : Bs w pg #[.bool gn1, .slice go1 gk1 gc1, .bool gn2, .slice go2 gk2 gc2] 26) (ha : MN la w oa A)
    (hg1 : ZN w (.agg #[.bool gn1, .slice go1 gk1 gc1]) u lb) (hg2 : ZN w (.agg #[.bool gn2, .slice go2 gk2 gc2]) v lb)
    (hna : A.length = na) (hi : i < na) (hj : j < (rw_ A i).length) (hla : la ≤ 40000000) (hlb : lb ≤ 40000000) :
    Calls Tryz.prog 82 (#[.int .i64 (i : Int), .int .i64 (j : Int)] ++ #[.pointer (some ⟨pa, 0, none⟩), .pointer (some ⟨pg, 0, none⟩)]) w fun e w' => ∃ r, e = .returned r ∧ PC w' r (mP (at2 A i j) (u, v)).1 (mP (at2 A i j) (u, v)).2 ∧ Below w.heap.size w w' := by
  show Calls _ _ #[.int .i64 (i : Int), .int .i64 (j : Int), .pointer (some ⟨pa, 0, none⟩), .pointer (some ⟨pg, 0, none⟩)] w _
  obtain ⟨g, off, cur, ty, fz, g2, off2, cur2, ty2, fz2, ci, n1, o1, k1, c1, n2, o2, k2, c2, rfl, x, e, x2, e1, e2, e3, e4, z1, z2⟩ := ha.op (by omega) hj
  obtain ⟨ua, hua⟩ : ∃ ua, (rw_ A i).length = ua := ⟨_, rfl⟩
  rw [hua] at e hj
  clear ha hna hua
  generalize at2 A i j = p at *
  go_enter Tryz.func82, Tryz.ntmps82
  have hs := St.nil w
  have lt_ba := xa.lt
  have xaz := xa
  have lt_bg := xg.lt
  have xgz := xg
  have lt_kA := x.lt
  have xz := x
  have lt_kRA := x2.lt
  have x2z := x2
  refine wp_seq_k ?_
  intro K1 hK1
  refine rg [0] ?_
  refine sq ?_
  refine .al hs ?_; clear hs; intro p_b1 w_1 hs n1 kb_b1
  replace xa := xa.bl n1; replace xg := xg.bl n1; replace x := x.bl n1; replace x2 := x2.bl n1
  apply wpSq_end
  refine hK1 _ _ ?_
  refine wp_seq_k ?_
  intro K2 hK2
  refine wp_region_f4 [(0, false), (1, false), (2, false), (3, false), (4, false), (5, false), (6, false), (7, false), (8, true)] [9] [] (fun _ => default) [0, 99, 99, 1, 99, 99, 2, 3, 99, 99] [] (.c xa (.c x (.c x2 (.c xg .n)))) fn fun w_2 n2 => ?_
  replace xa := xa.bl n2; replace xg := xg.bl n2; replace x := x.bl n2; replace x2 := x2.bl n2; replace hs := hs.bl n2
  refine f1 ?_
  refine fmv ?_
  refine f0 ?_
  apply wpFl_ld rfl rfl; (case h1 => intro w' hC K hK; have c0 := Bs.cell hC ((off + i)) e; go_big_op; exact hK); iterate 4 kernel_rfl
  refine fmv ?_
  refine f0 ?_
  apply wpFl_ld rfl rfl; (case h1 => intro w' hC K hK; have c0 := Bs.cell hC ((off2 + j * 4)) e1; have c1 := Bs.cell hC ((off2 + j * 4) + 1) e2; have c2 := Bs.cell hC ((off2 + j * 4) + 2) e3; have c3 := Bs.cell hC ((off2 + j * 4) + 3) e4; go_big_op; exact hK); iterate 4 kernel_rfl
  refine f4 ?_
  refine fl fun w_3 n3 => ?_
  replace xa := xa.bl n3; replace xg := xg.bl n3; replace x := x.bl n3; replace x2 := x2.bl n3; replace hs := hs.bl n3
  intro K hK
  have k0_3 := ((kb n1).b n2).b n3
  replace z1 := z1.k k0_3
  replace z2 := z2.k k0_3
  replace hg1 := hg1.k k0_3
  replace hg2 := hg2.k k0_3
  go_big_op
  go_fit (gMul_any (PN.mk' z1 z2) (PN.mk' hg1 hg2) (by omega) (by omega) (by omega) (by omega) )
  rintro e w_4 ⟨_, rfl, ⟨n_va, o_va, k_va, c_va, n_vb, o_vb, k_vb, c_vb, rfl, v1, v2⟩, hb_4⟩
  replace xa := xa.bl hb_4; replace xg := xg.bl hb_4; replace x := x.bl hb_4; replace x2 := x2.bl hb_4; replace hs := hs.bl hb_4
  have Lv1 := hide (v1.lenOf (zlen_sub (zlen_mul (z1.len) (hg1.len)) (zlen_mul (z2.len) (hg2.len))))
  have Lv2 := hide (v2.lenOf (zlen_add (zlen_mul (z1.len) (hg2.len)) (zlen_mul (z2.len) (hg1.len))))
  refine hK _ _ rfl ⟨hb_4, (And.intro xa (And.intro x (And.intro x2 (And.intro xg trivial))))⟩ ?_
  clear hK K
  refine e0 hs ?_; clear hs; intro w_5 hs n5
  replace xa := xa.bl n5; replace xg := xg.bl n5; replace x := x.bl n5; replace x2 := x2.bl n5
  refine tl ?_
  refine .s4o hs.g0 (fun _ => hs.u0 kb_b1) ?_ (e := fun _ hs hO => (And.intro (xaz.bl hs.b) (And.intro (x.frame hO (Nat.ne_of_lt (Nat.lt_of_lt_of_le lt_kA kb_b1))) (And.intro (x2.frame hO (Nat.ne_of_lt (Nat.lt_of_lt_of_le lt_kRA kb_b1))) (And.intro (xgz.bl hs.b) True.intro))))); clear hs; intro w_6 hs hd6 ho6
  replace xa := xa.frame ho6 (Nat.ne_of_lt (Nat.lt_of_lt_of_le lt_ba kb_b1)); replace xg := xg.frame ho6 (Nat.ne_of_lt (Nat.lt_of_lt_of_le lt_bg kb_b1)); replace x := x.frame ho6 (Nat.ne_of_lt (Nat.lt_of_lt_of_le lt_kA kb_b1)); replace x2 := x2.frame ho6 (Nat.ne_of_lt (Nat.lt_of_lt_of_le lt_kRA kb_b1))
  apply wpTail_end
  refine hK2 _ _ ?_
  refine wp_ret ?_
  try dsimp only [Exit.then, Exit.inBlock]
  obtain ⟨r0_0, r0_1, r0_2, r0_3⟩ := hs.g0.f4
  refine bodyPost_ret (v := (.agg #[.bool n_va, .slice o_va k_va c_va, .bool n_vb, .slice o_vb k_vb c_vb])) (by simp [results, Tryz.results82, go_sem, r0_0, r0_1, r0_2, r0_3]) rfl ?_
  have k4_6 := (kb n5).o hd6 ho6
  replace v1 := v1.k k4_6
  replace v2 := v2.k k4_6
  exact ⟨_, rfl, .mk' v1 v2, hs.b⟩
end
theorem zlen_addM {x y : Int} {l : Nat} (hx : (dig x.natAbs).length ≤ l) (hy : (dig y.natAbs).length ≤ l) : (dig (x + y).natAbs).length ≤ l + 1 := by
  refine dig_length_le ?_
  have h1 := Nat.lt_of_lt_of_le (lt_pw_dig x.natAbs) (pw_mono hx)
  have h2 := Nat.lt_of_lt_of_le (lt_pw_dig y.natAbs) (pw_mono hy)
  have h3 : (x + y).natAbs ≤ x.natAbs + y.natAbs := Int.natAbs_add_le x y
  simp only [pw]; omega
theorem zlen_subM {x y : Int} {l : Nat} (hx : (dig x.natAbs).length ≤ l) (hy : (dig y.natAbs).length ≤ l) : (dig (x - y).natAbs).length ≤ l + 1 := by
  rw [Int.sub_eq_add_neg]
  exact zlen_addM hx (by rw [Int.natAbs_neg]; exact hy)
def sumP : Nat → (Nat → Int × Int) → Int × Int
  | 0, _ => (0, 0)
  | k + 1, f => aP (sumP k f) (f k)
def zl (l : Nat) (p : Int × Int) : Prop := (dig p.1.natAbs).length ≤ l ∧ (dig p.2.natAbs).length ≤ l
theorem zl_mP {p q : Int × Int} {l m : Nat} (hp : zl l p) (hq : zl m q) : zl (l + m + 1) (mP p q) :=
  ⟨zlen_subM (zlen_mul hp.1 hq.1) (zlen_mul hp.2 hq.2), zlen_addM (zlen_mul hp.1 hq.2) (zlen_mul hp.2 hq.1)⟩
theorem zl_cP {p : Int × Int} {l : Nat} (hp : zl l p) : zl l (cP p) := ⟨hp.1, by show (dig (-p.2).natAbs).length ≤ l; rw [Int.natAbs_neg]; exact hp.2⟩
theorem zl_up {p : Int × Int} {l m : Nat} (hp : zl l p) (h : l ≤ m) : zl m p := ⟨Nat.le_trans hp.1 h, Nat.le_trans hp.2 h⟩
theorem zl_aP {p q : Int × Int} {l : Nat} (hp : zl l p) (hq : zl l q) : zl (l + 1) (aP p q) := ⟨zlen_addM hp.1 hq.1, zlen_addM hp.2 hq.2⟩
theorem zl_0 (l : Nat) : zl l (0, 0) := by
  have : (dig (Int.natAbs 0)).length ≤ l := by rw [show dig (Int.natAbs 0) = [] from dig_eq_nil.2 rfl]; exact Nat.zero_le _
  exact ⟨this, this⟩
theorem zl_sum {f : Nat → Int × Int} {l : Nat} : ∀ {k : Nat}, (∀ i, i < k → zl l (f i)) → zl (l + k) (sumP k f)
  | 0, _ => zl_0 _
  | k + 1, h => zl_aP (l := l + k) (zl_sum fun i hi => h i (by omega)) (zl_up (h k (by omega)) (Nat.le_add_right l k))
theorem Bd.at1 {l i : Nat} {ps : List (Int × Int)} (h : Bd l ps) : zl l (at1 ps i) := by
  rcases Nat.lt_or_ge i ps.length with hi | hi
  · rw [at1_eq hi]; exact h _ (List.getElem_mem hi)
  · rw [Go.Proofs.YtcoodkdalblalaaGreatDoor.at1, List.getD, List.getElem?_eq_none hi]; exact zl_0 _
section
variable {w : World} {lu lv n cu cv : Nat} {ou ov : Option Addr} {U V : List (Int × Int)}
set_option maxHeartbeats 4000000 in
set_option maxRecDepth 20000 in
theorem product_any (hu : SN lu w ou U) (hv : SN lv w ov V) (hn : U.length = n) (hm : V.length = n) (hl : n ≤ 2000000) (h1 : lu ≤ 10000000) (h2 : lv ≤ 10000000) :
    Calls Tryz.prog 61 #[.slice ou n cu, .slice ov n cv] w fun e w' => ∃ r, e = .returned r ∧ PC w' r (sumP n fun i => mP (at1 U i) (cP (at1 V i))).1 (sumP n fun i => mP (at1 U i) (cP (at1 V i))).2 ∧ Below w.heap.size w w' := by
  obtain ⟨g1, off1, cur1, t1, z1, B1, D1⟩ := hu.blk
  obtain ⟨g2, off2, cur2, t2, z2, B2, D2⟩ := hv.blk
  rw [hn] at B1
  rw [hm] at B2
  have HB := hide (And.intro B1 B2)
  have I1 := D1.isG
  have I2 := D2.isG
  rw [hn] at I1
  rw [hm] at I2
  have HI := hide (And.intro I1 I2)
  have HD := hide (And.intro D1 D2)
  have HU := hide (And.intro hu.bd hv.bd)
  obtain ⟨f, hf⟩ : ∃ f : Nat → Int × Int, f = fun i => mP (at1 U i) (cP (at1 V i)) := ⟨_, rfl⟩
  rw [← hf]
  have HF := hide hf
  clear B1 B2 I1 I2 D1 D2 hu hv hf
  refine calls_of_marks Tryz.func61 rfl ?_
  simp only [Tryz.ntmps61, List.size_toArray, List.length_cons, List.length_nil, Nat.reduceAdd, Nat.reduceSub, Array.replicate_succ, Array.replicate_zero, List.push_toArray, List.append_toArray, List.nil_append, List.cons_append]
  have hs := St.nil w
  refine wp_seq_k ?_
  intro K1 hK1
  refine rg [0] ?_
  refine sq ?_
  refine .al hs ?_; clear hs; intro p_b1 w_1 hs n1 kb_b1
  apply wpSq_end
  refine hK1 _ _ ?_
  refine wp_seq_k ?_
  intro K2 hK2
  refine rg [0, 1, 2] ?_
  refine sq ?_
  refine .r0 ?_
  refine sq ?_
  refine .al hs ?_; clear hs; intro p_b2 w_2 hs n2 kb_b2
  refine sq ?_
  refine .s4 hs.g0 (fun _ => hs.u0 kb_b2) ?_; clear hs; intro w_3 hs hd3 ho3
  apply wpSq_end
  refine hK2 _ _ ?_
  refine wp_seq_k ?_
  intro K3 hK3
  refine wp_seq_k ?_
  intro K4 hK4
  refine rg [0, 1, 2] ?_
  refine sq ?_
  refine .mv ?_
  refine sq ?_
  refine .mv ?_
  refine sq ?_
  intro K hK
  go_big_op
  go_fit (mkBesideGG)
  rintro e w_4 ⟨p_ita, p_itb, rfl, kb_ita, kb_itb, hs_it, hb_4⟩
  have kz_it := hs.k; replace hs := hs.app2 hs_it kb_ita kb_itb; replace kb_ita := Nat.le_trans kz_it kb_ita; replace kb_itb := Nat.le_trans kz_it kb_itb
  refine hK _ _ rfl trivial ?_
  clear hK K
  apply wpSq_end
  refine hK4 _ _ ?_
  refine wp_block ?_
  refine wp_rangeN (X := Nat × Value × Value × Value × Value) (fun k x => x.1 = k) (fun _ _ _ => False) (fun x => [bx p_ita #[.slice ou n cu] 28, bx p_itb #[.slice ov n cv] 28, bx p_b2 #[x.2.1, x.2.2.1, x.2.2.2.1, x.2.2.2.2] 26, bx p_b1 #[.bool false, .slice none 0 0, .bool false, .slice none 0 0] 26])
    (fun x W => PC W (.agg #[x.2.1, x.2.2.1, x.2.2.2.1, x.2.2.2.2]) (sumP x.1 f).1 (sumP x.1 f).2) (itGG (c1 := cu) (c2 := cv) (t1 := t1) (t2 := t2) (fz1 := z1) (fz2 := z2) (by omega) HI.out.1 HI.out.2 (fun h => (HB.out.1 h).1) (fun h => (HB.out.2 h).1)) (0, .bool false, .slice none 0 0, .bool false, .slice none 0 0) rfl hs (.mk' (zc_zero _) (zc_zero _)) ?hR ?hF ?round ?done ?stop
  case hR => exact fun x W hst _ => ⟨hst.g0, hst.g1, fun h => ⟨(HB.out.1 h).2.bl hst.b, (HB.out.2 h).2.bl hst.b⟩⟩
  case hF => exact fun x A B h c => h.k c.kp
  case stop => exact fun l D r c k x W hk hD hI => hI.elim
  case round =>
    intro l D r d k x W hk hI hs hf
    obtain ⟨k', c0, c1, c2, c3⟩ := x
    obtain rfl : k' = k := hI
    obtain ⟨n1, o1, k1, q1, n2, o2, k2, q2, hcs, s1, s2⟩ := hf
    simp only [Value.agg.injEq, Array.mk.injEq, List.cons.injEq, and_true] at hcs
    obtain ⟨rfl, rfl, rfl, rfl⟩ := hcs
    obtain ⟨a1, a2, a3, a4, a5, a6, a7, a8, e1, e2, e3, e4, x1, x2⟩ := HD.out.1 k' (by omega)
    obtain ⟨d1, d2, d3, d4, d5, d6, d7, d8, e5, e6, e7, e8, y1, y2⟩ := HD.out.2 k' (by omega)
    simp only [enG, cg_eq e1, cg_eq e2, cg_eq e3, cg_eq e4, cg_eq e5, cg_eq e6, cg_eq e7, cg_eq e8, List.zip_toArray, List.zip_cons_cons, List.zip_nil_right, List.foldl_toArray', List.foldl_cons, List.foldl_nil, List.setIfInBounds_toArray, List.set_cons_succ, List.set_cons_zero]
    replace x1 : ZN W (.agg #[.bool a1, .slice a2 a3 a4]) (U[k']'(by omega)).1 lu := x1.bl hs.b
    replace x2 : ZN W (.agg #[.bool a5, .slice a6 a7 a8]) (U[k']'(by omega)).2 lu := x2.bl hs.b
    replace y1 : ZN W (.agg #[.bool d1, .slice d2 d3 d4]) (V[k']'(by omega)).1 lv := y1.bl hs.b
    replace y2 : ZN W (.agg #[.bool d5, .slice d6 d7 d8]) (V[k']'(by omega)).2 lv := y2.bl hs.b
    have ez : f k' = mP (U[k']'(by omega)) (cP (V[k']'(by omega))) := by rw [HF.out]; show mP (at1 U k') (cP (at1 V k')) = _; rw [at1_eq (ps := U) (by omega), at1_eq (ps := V) (by omega)]
    have hz : zl (lu + lv + 1 + k') (sumP k' f) := zl_sum fun i hi => by rw [HF.out]; exact zl_mP HU.out.1.at1 (zl_cP HU.out.2.at1)
    have Ls1 := hide hz.1
    have Ls2 := hide hz.2
    have HE := hide (show sumP (k' + 1) f = aP (sumP k' f) (f k') from rfl)
    rw [ez] at HE
    generalize U[k']'(by omega) = u at *
    generalize V[k']'(by omega) = v at *
    clear ez hz
    generalize sumP k' f = S at *
    refine wpIn_seq_k ?_
    intro K5 hK5
    refine rgR [0, 1] ?_
    refine sq ?_
    refine .al hs ?_; clear hs; intro p_b3 w_5 hs n5 kb_b3
    refine sq ?_
    refine .s4 hs.g0 (fun _ => hs.u0 kb_b3) ?_; clear hs; intro w_6 hs hd6 ho6
    apply wpSq_end
    refine hK5 _ _ ?_
    refine rgR [0, 1] ?_
    refine sq ?_
    refine .al hs ?_; clear hs; intro p_b4 w_7 hs n7 kb_b4
    refine sq ?_
    refine .s4 hs.g0 (fun _ => hs.u0 kb_b4) ?_; clear hs; intro w_8 hs hd8 ho8
    apply wpSq_end
    try dsimp only [Exit.then, Exit.inBlock]
    refine ⟨_, 2, hs, rfl, ?_⟩; clear hs; intro r_9 w_9 hs cm_9; simp only [List.set_cons_succ, List.set_cons_zero] at hs
    refine wpIn_block ?_
    refine wp_region_f4R [(0, false), (1, false), (2, false), (3, true), (4, true), (5, true)] [6] [] (fun _ => default) [0, 1, 2, 99, 99, 99, 99] [(6, 0)] (.c hs.g6 (.c hs.g1 (.c hs.g0 .n))) fn fun w_10 n10 => ?_
    replace hs := hs.bl n10
    refine f4 ?_
    refine f4 ?_
    refine f4 ?_
    refine fl fun w_11 n11 => ?_
    replace hs := hs.bl n11
    intro K hK
    have k0_7 := ((((((kb n5).o hd6 ho6).b n7).o hd8 ho8).t cm_9.kp).b n10).b n11
    replace y1 := y1.k k0_7
    replace y2 := y2.k k0_7
    go_big_op
    go_fit (gConj_any (PN.mk' y1 y2) (by omega) (by omega) )
    rintro e w_12 ⟨_, rfl, ⟨n_aa, o_aa, k_aa, c_aa, n_ab, o_ab, k_ab, c_ab, rfl, a1, a2⟩, hb_12⟩
    replace hs := hs.bl hb_12
    have La1 := hide (a1.lenOf ((y1.len)))
    have La2 := hide (a2.lenOf (zlen_neg (y2.len)))
    refine hK _ _ rfl ⟨hb_12, (And.intro hs.g6 (And.intro hs.g1 (And.intro hs.g0 trivial)))⟩ ?_
    clear hK K
    refine fl fun w_13 n13 => ?_
    replace hs := hs.bl n13
    intro K hK
    have k0_9 := (k0_7.b hb_12).b n13
    replace x1 := x1.k k0_9
    replace x2 := x2.k k0_9
    have k8_9 := kb n13
    replace a1 := a1.k k8_9
    replace a2 := a2.k k8_9
    go_big_op
    go_fit (gMul_any (PN.mk' x1 x2) (PN.mk' (a1.zn La1.out) (a2.zn La2.out)) (by omega) (by omega) (by omega) (by omega) )
    rintro e w_14 ⟨_, rfl, ⟨n_ba, o_ba, k_ba, c_ba, n_bb, o_bb, k_bb, c_bb, rfl, b1, b2⟩, hb_14⟩
    replace hs := hs.bl hb_14
    have Lb1 := hide (b1.lenOf (zlen_sub (zlen_mul (x1.len) (La1.out)) (zlen_mul (x2.len) (La2.out))))
    have Lb2 := hide (b2.lenOf (zlen_add (zlen_mul (x1.len) (La2.out)) (zlen_mul (x2.len) (La1.out))))
    refine hK _ _ rfl ⟨hb_14, (And.intro hs.g6 (And.intro hs.g1 (And.intro hs.g0 trivial)))⟩ ?_
    clear hK K
    refine fl fun w_15 n15 => ?_
    replace hs := hs.bl n15
    intro K hK
    have k0_11 := (k0_9.b hb_14).b n15
    replace s1 := s1.k k0_11
    replace s2 := s2.k k0_11
    have k10_11 := kb n15
    replace b1 := b1.k k10_11
    replace b2 := b2.k k10_11
    go_big_op
    go_fit (gAdd_any (PN.mk' (s1.zn Ls1.out) (s2.zn Ls2.out)) (PN.mk' (b1.zn Lb1.out) (b2.zn Lb2.out)) (by omega) (by omega) (by omega) (by omega) )
    rintro e w_16 ⟨_, rfl, ⟨n_ca, o_ca, k_ca, c_ca, n_cb, o_cb, k_cb, c_cb, rfl, c1, c2⟩, hb_16⟩
    replace hs := hs.bl hb_16
    have Lc1 := hide (c1.lenOf (zlen_add (Ls1.out) (Lb1.out)))
    have Lc2 := hide (c2.lenOf (zlen_add (Ls2.out) (Lb2.out)))
    refine hK _ _ rfl ⟨hb_16, (And.intro hs.g6 (And.intro hs.g1 (And.intro hs.g0 trivial)))⟩ ?_
    clear hK K
    refine e0 hs ?_; clear hs; intro w_17 hs n17
    refine tl ?_
    refine .s4 hs.g6 (fun _ => hs.u6 kb_b2) ?_ (e := fun _ hs => (And.intro True.intro (And.intro hs.g1 (And.intro hs.g0 True.intro)))); clear hs; intro w_18 hs hd18 ho18
    clear a1 a2 b1 b2 s1 s2
    apply wpTail_end
    try dsimp only [Exit.then, Exit.inBlock]
    have k12_14 := (kb n17).o hd18 ho18
    replace c1 := c1.k k12_14
    replace c2 := c2.k k12_14
    exact ⟨(k' + 1, _, _, _, _), rfl, hs.sub (.cons _ (.cons _ (List.Sublist.refl _))), by show PC _ _ (sumP (k' + 1) f).1 (sumP (k' + 1) f).2; rw [HE.out]; exact .mk' c1 c2⟩
  case done =>
    intro l D r x W hD hI hs hf
    obtain ⟨k', c0, c1, c2, c3⟩ := x
    obtain rfl : k' = n := hI
    obtain ⟨n1, o1, k1, q1, n2, o2, k2, q2, hcs, s1, s2⟩ := hf
    simp only [Value.agg.injEq, Array.mk.injEq, List.cons.injEq, and_true] at hcs
    obtain ⟨rfl, rfl, rfl, rfl⟩ := hcs
    try dsimp only [Exit.then, Exit.inBlock]
    refine hK3 _ _ ?_
    refine wp_seq_k ?_
    intro K5 hK5
    refine rg [0, 1] ?_
    refine sq ?_
    refine .r4 hs.g4.f4 ?_
    refine sq ?_
    refine .s4 hs.g5 (fun _ => hs.u5 kb_b1) ?_; clear hs; intro w_5 hs hd5 ho5
    apply wpSq_end
    refine hK5 _ _ ?_
    refine wp_ret ?_
    try dsimp only [Exit.then, Exit.inBlock]
    refine ret_mark (hs.obj 1) fun w_6 e_6 => ?_
    have cm_6 := Cm.po (.deferred none) (hs.obj 1) rfl
    replace hs := hs.po 1 (.deferred none) hD; rw [e_6] at hs cm_6; clear e_6; simp only [List.set_cons_succ, List.set_cons_zero] at hs
    obtain ⟨r0_0, r0_1, r0_2, r0_3⟩ := hs.g5.f4
    refine ⟨(.agg #[.bool n1, .slice o1 k1 q1, .bool n2, .slice o2 k2 q2]), by simp [results, Tryz.results61, go_sem, r0_0, r0_1, r0_2, r0_3], ?_⟩
    have k0_2 := (ko hd5 ho5).t cm_6.kp
    replace s1 := s1.k k0_2
    replace s2 := s2.k k0_2
    exact ⟨_, rfl, .mk' s1 s2, hs.b⟩
end
theorem gd_row {A : List (List (Int × Int))} {i : Nat} (h : gd A) (hi : i < A.length) : (rw_ A i).length = wd A := by rw [rw_eq hi]; exact h.2.2 _ (List.getElem_mem hi)
theorem BdM.at2 {l i j : Nat} {Ms : List (List (Int × Int))} (h : BdM l Ms) : zl l (at2 Ms i j) := by
  rcases Nat.lt_or_ge i Ms.length with hi | hi
  · rw [Go.Proofs.YtcoodkdalblalaaGreatDoor.at2, rw_eq hi]; exact Bd.at1 (h _ (List.getElem_mem hi))
  · rw [Go.Proofs.YtcoodkdalblalaaGreatDoor.at2, rw_, List.getD, List.getElem?_eq_none hi]; exact Bd.at1 (ps := []) fun p hp => by cases hp
def one2 (i j : Nat) : Int × Int := if i = j then (1, 0) else (0, 0)
section
variable {w : World} {l la lb n na nb cm ca cb i j : Nat} {om oa ob : Option Addr} {Ms A B : List (List (Int × Int))} {vg : Value} {u v : Int}
set_option maxHeartbeats 4000000 in
set_option maxRecDepth 20000 in
theorem mScale_ok (ha : MN la w oa A) (hg : PN w vg u lb v lb) (hna : A.length = na) (h : gd A) (hla : la ≤ 40000000) (hlb : lb ≤ 40000000) :
    Calls Tryz.prog 46 #[.slice oa na ca, vg] w fun e w' => ∃ o c rs, e = .returned (.tuple #[.slice o na c, .int .i64 0]) ∧ rs.length = na ∧ St w (Mx w.heap.size (.slice o na c) rs) w' ∧ RD w' rs (mkM na (wd A) fun i j => mP (at2 A i j) (u, v)) ∧ Below w.heap.size w w' := by
  have HA := hide ha
  have HG := hide hg
  have hn64 : na ≤ 64 := by have := h.1; omega
  have RA := hide (show ∀ i, i < na → (rw_ A i).length = wd A from fun i hi => gd_row h (by omega))
  have hk64 := h.2.1
  obtain ⟨k, hk⟩ : ∃ k, wd A = k := ⟨_, rfl⟩
  rw [hk] at RA hk64 ⊢
  clear ha
  obtain ⟨n_1a, o_1a, k_1a, c_1a, n_1b, o_1b, k_1b, c_1b, rfl, hg1, hg2⟩ := hg
  go_enter Tryz.func46, Tryz.ntmps46
  have hs := St.nil w
  refine wp_seq_k ?_
  intro K1 hK1
  refine rg [0, 1, 2, 3] ?_
  refine sq ?_
  refine .al hs ?_; clear hs; intro p_b1 w_1 hs n1 kb_b1
  refine sq ?_
  refine .al hs ?_; clear hs; intro p_b2 w_2 hs n2 kb_b2
  refine sq ?_
  refine .mv ?_
  refine sq ?_
  refine .mv ?_
  apply wpSq_end
  refine hK1 _ _ ?_
  refine wp_seq_k ?_
  intro K2 hK2
  refine wp_seq_k ?_
  intro K3 hK3
  refine rg [0, 1, 2] ?_
  refine sq ?_
  refine .r1 hs.g1.f1 ?_
  refine sq ?_
  intro K hK
  have hb := hs.b
  go_big_op
  go_fit (good_yes (HA.out.bl stab_n hb) hna (by omega) h)
  rintro e w_3 ⟨rfl, hb_3⟩
  clear hb
  replace hs := hs.bl hb_3
  refine hK _ _ rfl trivial ?_
  clear hK K
  refine sq ?_
  refine .r0 ?_
  apply wpSq_end
  refine hK3 _ _ ?_
  refine cf ?_
  refine wp_skip ?_
  refine hK2 _ _ ?_
  refine wp_seq_k ?_
  intro K4 hK4
  refine wp_region_f4 [(0, false), (1, false), (2, false), (4, false), (3, true), (5, true), (6, false), (7, false)] [] [] (fun _ => default) [0, 99, 0, 99, 99, 99, 99, 99] [] (.c hs.g1 .n) fn fun w_4 n4 => ?_
  replace hs := hs.bl n4
  refine f1 ?_
  refine fb ?_
  refine f1 ?_
  refine f0 ?_
  refine fl fun w_5 n5 => ?_
  replace hs := hs.bl n5
  intro K hK
  have hb := hs.b
  go_big_op
  go_fit (width_any (HA.out.bl stab_n hb) hna hk)
  rintro e w_6 ⟨rfl, hb_6⟩
  clear hb
  replace hs := hs.bl hb_6
  refine hK _ _ rfl ⟨hb_6, (And.intro hs.g1 trivial)⟩ ?_
  clear hK K
  have k0_6 := (((((kb n1).b n2).b hb_3).b n4).b n5).b hb_6
  replace hg1 := hg1.k k0_6
  have hgz1 := hg1
  replace hg2 := hg2.k k0_6
  have hgz2 := hg2
  refine fl fun w_7 n7 => ?_
  replace hs := hs.bl n7
  intro K hK
  have x_b1 := hs.g1
  have x_b2 := hs.g0
  have hb := hs.b
  have k6_7 := kb n7
  replace hg1 := hg1.k k6_7
  replace hg2 := hg2.k k6_7
  go_big_op
  go_fit (matrix_any (F := fun i j ↦ mP (at2 A i j) (u, v)) (fun _ _ _ ↦ by kernel_rfl) (fun i j w1 hi hj h1 ↦ scale1 (x_b1.bl h1) (x_b2.bl h1) (HA.out.bl stab_n (hb.trans (h1.mono hb.size))) (hg1.bl h1) (hg2.bl h1) hna hi (by rw [RA.out i hi]; exact hj) hla hlb) (by omega) (by omega))
  rintro e w_8 ⟨o_r, c_r, rs_r, rfl, hl_r, hs_r, d_r, hb_8⟩
  clear x_b1 x_b2 hb
  replace hs := hs.mx hl_r hs_r; simp only [List.cons_append, List.nil_append] at hs
  refine hK _ _ rfl ⟨hb_8, (And.intro hs.g2 trivial)⟩ ?_
  clear hK K
  refine fmv ?_
  refine fmv ?_
  refine e0 hs ?_; clear hs; intro w_9 hs n9
  apply wpTail_end
  refine hK4 _ _ ?_
  refine wp_ret ?_
  try dsimp only [Exit.then, Exit.inBlock]
  refine bodyPost_ret (v := (.tuple #[(.slice o_r na c_r), (.int .i64 0)])) (by simp [results, Tryz.results46, go_sem]) rfl ?_
  have k8_9 := kb n9
  replace d_r := d_r.k k8_9
  exact ⟨_, _, _, rfl, hl_r, (by unfold Mx; rw [hl_r]; exact hs.sub (.cons_cons _ (.cons _ (.cons _ (List.Sublist.refl _))))), d_r, hs.b⟩
set_option maxHeartbeats 4000000 in
set_option maxRecDepth 20000 in
theorem ident1 (hi : i ≤ 1000) (hj : j ≤ 1000) :
    Calls Tryz.prog 73 (#[.int .i64 (i : Int), .int .i64 (j : Int)] ++ #[]) w fun e w' => ∃ v, e = .returned v ∧ PC w' v (one2 i j).1 (one2 i j).2 ∧ Below w.heap.size w w' := by
  show Calls _ _ #[.int .i64 (i : Int), .int .i64 (j : Int)] w _
  by_cases h : i = j
  · have e : one2 i j = (1, 0) := if_pos h
    have t1 : ((i : Int) == (j : Int)) = true := by rw [h]; simp
    rw [e]
    clear e h
    go_enter Tryz.func73, Tryz.ntmps73
    have hs := St.nil w
    refine wp_seq_k ?_
    intro K1 hK1
    refine rg [0] ?_
    refine sq ?_
    refine .al hs ?_; clear hs; intro p_b1 w_1 hs n1 kb_b1
    apply wpSq_end
    refine hK1 _ _ ?_
    refine wp_seq_k ?_
    intro K2 hK2
    refine wp_seq_k ?_
    intro K3 hK3
    refine rg [0, 1, 2] ?_
    refine sq ?_
    refine .mv ?_
    refine sq ?_
    refine .mv ?_
    refine sq ?_
    refine .r0 ?_
    apply wpSq_end
    refine hK3 _ _ ?_
    refine ct ?_
    refine wp_seq_k ?_
    intro K4 hK4
    refine rg [0, 1] ?_
    refine sq ?_
    intro K hK
    go_big_op
    go_fit (gFrom_any 1 0 _ (by omega) (by omega) (by omega) (by omega))
    rintro e w_2 ⟨_, rfl, ⟨n_ga, o_ga, k_ga, c_ga, n_gb, o_gb, k_gb, c_gb, rfl, g1, g2⟩, hb_2⟩
    replace hs := hs.bl hb_2
    refine hK _ _ rfl trivial ?_
    clear hK K
    refine sq ?_
    refine .s4 hs.g0 (fun _ => hs.u0 kb_b1) ?_; clear hs; intro w_3 hs hd3 ho3
    apply wpSq_end
    refine hK4 _ _ ?_
    refine wp_ret ?_
    try dsimp only [Exit.then, Exit.inBlock]
    obtain ⟨r0_0, r0_1, r0_2, r0_3⟩ := hs.g0.f4
    refine bodyPost_ret (v := (.agg #[.bool n_ga, .slice o_ga k_ga c_ga, .bool n_gb, .slice o_gb k_gb c_gb])) (by simp [results, Tryz.results73, go_sem, r0_0, r0_1, r0_2, r0_3]) rfl ?_
    have k2_3 := ko hd3 ho3
    replace g1 := g1.k k2_3
    replace g2 := g2.k k2_3
    exact ⟨_, rfl, .mk' g1 g2, hs.b⟩
  · have e : one2 i j = (0, 0) := if_neg h
    have t1 : ((i : Int) == (j : Int)) = false := beq_eq_false_iff_ne.2 (by omega)
    rw [e]
    clear e
    go_enter Tryz.func73, Tryz.ntmps73
    have hs := St.nil w
    refine wp_seq_k ?_
    intro K1 hK1
    refine rg [0] ?_
    refine sq ?_
    refine .al hs ?_; clear hs; intro p_b1 w_1 hs n1 kb_b1
    apply wpSq_end
    refine hK1 _ _ ?_
    refine wp_seq_k ?_
    intro K2 hK2
    refine wp_seq_k ?_
    intro K3 hK3
    refine rg [0, 1, 2] ?_
    refine sq ?_
    refine .mv ?_
    refine sq ?_
    refine .mv ?_
    refine sq ?_
    refine .r0 ?_
    apply wpSq_end
    refine hK3 _ _ ?_
    refine cf ?_
    refine wp_skip ?_
    refine hK2 _ _ ?_
    refine wp_seq_k ?_
    intro K4 hK4
    refine rg [0, 1] ?_
    refine sq ?_
    refine .r0 ?_
    refine sq ?_
    refine .s4 hs.g0 (fun _ => hs.u0 kb_b1) ?_; clear hs; intro w_2 hs hd2 ho2
    apply wpSq_end
    refine hK4 _ _ ?_
    refine wp_ret ?_
    try dsimp only [Exit.then, Exit.inBlock]
    obtain ⟨r0_0, r0_1, r0_2, r0_3⟩ := hs.g0.f4
    refine bodyPost_ret (v := (.agg #[.bool false, .slice none 0 0, .bool false, .slice none 0 0])) (by simp [results, Tryz.results73, go_sem, r0_0, r0_1, r0_2, r0_3]) rfl ?_
    exact ⟨_, rfl, .mk' (zc_zero w_2) (zc_zero w_2), hs.b⟩
set_option maxHeartbeats 4000000 in
set_option maxRecDepth 20000 in
theorem mIdent_ok (hn : n ≤ 64) :
    Calls Tryz.prog 36 #[.int .i64 (n : Int)] w fun e w' => ∃ o c rs, e = .returned (.tuple #[.slice o n c, .int .i64 0]) ∧ rs.length = n ∧ St w (Mx w.heap.size (.slice o n c) rs) w' ∧ RD w' rs (mkM n n one2) ∧ Below w.heap.size w w' := by
  go_enter Tryz.func36, Tryz.ntmps36
  have hs := St.nil w
  refine wp_seq_k ?_
  intro K1 hK1
  refine rg [0, 1] ?_
  refine sq ?_
  refine .mv ?_
  refine sq ?_
  refine .mv ?_
  apply wpSq_end
  refine hK1 _ _ ?_
  refine wp_seq_k ?_
  intro K2 hK2
  refine wp_seq_k ?_
  intro K3 hK3
  refine rg [0, 1] ?_
  refine sq ?_
  refine .mv ?_
  refine sq ?_
  refine .r0 ?_
  apply wpSq_end
  refine hK3 _ _ ?_
  refine cf ?_
  refine wp_skip ?_
  refine hK2 _ _ ?_
  refine wp_seq_k ?_
  intro K4 hK4
  refine wp_seq_k ?_
  intro K5 hK5
  refine rg [0, 1] ?_
  refine sq ?_
  refine .mv ?_
  refine sq ?_
  refine .r0 ?_
  apply wpSq_end
  refine hK5 _ _ ?_
  refine cf ?_
  refine wp_skip ?_
  refine hK4 _ _ ?_
  refine wp_seq_k ?_
  intro K6 hK6
  refine rg [0, 1, 2, 3, 4] ?_
  refine sq ?_
  refine .mv ?_
  refine sq ?_
  refine .mv ?_
  refine sq ?_
  intro K hK
  go_big_op
  go_fit (matrix_any (F := one2) (fun _ _ _ ↦ by kernel_rfl) (fun i j w1 hi hj h1 ↦ ident1 (by omega) (by omega)) (by omega) (by omega))
  rintro e w_1 ⟨o_r, c_r, rs_r, rfl, hl_r, hs_r, d_r, hb_1⟩
  replace hs := hs.mx hl_r hs_r; simp only [List.nil_append] at hs
  refine hK _ _ rfl trivial ?_
  clear hK K
  refine sq ?_
  refine .mv ?_
  refine sq ?_
  refine .mv ?_
  apply wpSq_end
  refine hK6 _ _ ?_
  refine wp_ret ?_
  try dsimp only [Exit.then, Exit.inBlock]
  refine bodyPost_ret (v := (.tuple #[(.slice o_r n c_r), (.int .i64 0)])) (by simp [results, Tryz.results36, go_sem]) rfl ?_
  exact ⟨_, _, _, rfl, hl_r, (by unfold Mx; rw [hl_r]; exact hs), d_r, hs.b⟩
set_option maxHeartbeats 4000000 in
set_option maxRecDepth 20000 in
theorem mSize_ok (ha : MN la w oa A) (hna : A.length = na) (h : gd A) {k : Nat} (hk : wd A = k) :
    Calls Tryz.prog 49 #[.slice oa na ca] w fun e w' => e = .returned (.tuple #[.int .i64 (na : Int), .int .i64 (k : Int), .int .i64 0]) ∧ Below w.heap.size w w' := by
  have HA := hide ha
  have hn64 : na ≤ 64 := by have := h.1; omega
  clear ha
  go_enter Tryz.func49, Tryz.ntmps49
  have hs := St.nil w
  refine wp_seq_k ?_
  intro K1 hK1
  refine rg [0, 1, 2] ?_
  refine sq ?_
  refine .mv ?_
  refine sq ?_
  refine .mv ?_
  refine sq ?_
  refine .mv ?_
  apply wpSq_end
  refine hK1 _ _ ?_
  refine wp_seq_k ?_
  intro K2 hK2
  refine wp_seq_k ?_
  intro K3 hK3
  refine rg [0, 1, 2] ?_
  refine sq ?_
  refine .mv ?_
  refine sq ?_
  intro K hK
  have hb := hs.b
  go_big_op
  go_fit (good_yes (HA.out.bl stab_n hb) hna (by omega) h)
  rintro e w_1 ⟨rfl, hb_1⟩
  clear hb
  replace hs := hs.bl hb_1
  refine hK _ _ rfl trivial ?_
  clear hK K
  refine sq ?_
  refine .r0 ?_
  apply wpSq_end
  refine hK3 _ _ ?_
  refine cf ?_
  refine wp_skip ?_
  refine hK2 _ _ ?_
  refine wp_seq_k ?_
  intro K4 hK4
  refine rg [0, 1, 2, 3, 4, 5, 6] ?_
  refine sq ?_
  refine .mv ?_
  refine sq ?_
  refine .r0 ?_
  refine sq ?_
  refine .mv ?_
  refine sq ?_
  intro K hK
  have hb := hs.b
  go_big_op
  go_fit (width_any (HA.out.bl stab_n hb) hna hk)
  rintro e w_2 ⟨rfl, hb_2⟩
  clear hb
  replace hs := hs.bl hb_2
  refine hK _ _ rfl trivial ?_
  clear hK K
  refine sq ?_
  refine .mv ?_
  refine sq ?_
  refine .mv ?_
  refine sq ?_
  refine .mv ?_
  apply wpSq_end
  refine hK4 _ _ ?_
  refine wp_ret ?_
  try dsimp only [Exit.then, Exit.inBlock]
  refine bodyPost_ret (v := (.tuple #[(.int .i64 ((na : Nat) : Int)), (.int .i64 (k : Int)), (.int .i64 0)])) (by simp [results, Tryz.results49, go_sem]) rfl ?_
  exact ⟨rfl, hs.b⟩
set_option maxHeartbeats 4000000 in
set_option maxRecDepth 20000 in
theorem mSize_bad (ha : MN la w oa A) (hna : A.length = na) (h : ¬ gd A) (hla : na ≤ 1000000000) :
    Calls Tryz.prog 49 #[.slice oa na ca] w fun e w' => e = .returned (.tuple #[.int .i64 0, .int .i64 0, .int .i64 4]) ∧ Below w.heap.size w w' := by
  have HA := hide ha
  clear ha
  go_enter Tryz.func49, Tryz.ntmps49
  have hs := St.nil w
  refine wp_seq_k ?_
  intro K1 hK1
  refine rg [0, 1, 2] ?_
  refine sq ?_
  refine .mv ?_
  refine sq ?_
  refine .mv ?_
  refine sq ?_
  refine .mv ?_
  apply wpSq_end
  refine hK1 _ _ ?_
  refine wp_seq_k ?_
  intro K2 hK2
  refine wp_seq_k ?_
  intro K3 hK3
  refine rg [0, 1, 2] ?_
  refine sq ?_
  refine .mv ?_
  refine sq ?_
  intro K hK
  have hb := hs.b
  go_big_op
  go_fit (good_no (HA.out.bl stab_n hb) hna hla h)
  rintro e w_1 ⟨rfl, hb_1⟩
  clear hb
  replace hs := hs.bl hb_1
  refine hK _ _ rfl trivial ?_
  clear hK K
  refine sq ?_
  refine .r0 ?_
  apply wpSq_end
  refine hK3 _ _ ?_
  refine ct ?_
  refine wp_seq_k ?_
  intro K4 hK4
  refine rg [0, 1, 2] ?_
  refine sq ?_
  refine .mv ?_
  refine sq ?_
  refine .mv ?_
  refine sq ?_
  refine .mv ?_
  apply wpSq_end
  refine hK4 _ _ ?_
  refine wp_ret ?_
  try dsimp only [Exit.then, Exit.inBlock]
  refine bodyPost_ret (v := (.tuple #[(.int .i64 0), (.int .i64 0), (.int .i64 4)])) (by simp [results, Tryz.results49, go_sem]) rfl ?_
  exact ⟨rfl, hs.b⟩
end
section
variable {w : World} {la lb lu lv n k na nb ca cb cu cv pv pm pa pb i j : Nat} {oa ob ou ov : Option Addr} {U V : List (Int × Int)} {A B M : List (List (Int × Int))}
set_option maxHeartbeats 4000000 in
set_option maxRecDepth 20000 in
theorem gram1 (xa : Bs w pa #[.slice oa na ca] 30) (ha : MN la w oa A) (hna : A.length = na) (hi : i < na) (hj : j < na) (hr1 : (rw_ A i).length = k) (hr2 : (rw_ A j).length = k) (hk : k ≤ 2000000) (h1 : la ≤ 10000000) :
    Calls Tryz.prog 60 (#[.int .i64 (i : Int), .int .i64 (j : Int)] ++ #[.pointer (some ⟨pa, 0, none⟩)]) w fun e w' => ∃ r, e = .returned r ∧ PC w' r (sumP k fun q => mP (at2 A i q) (cP (at2 A j q))).1 (sumP k fun q => mP (at2 A i q) (cP (at2 A j q))).2 ∧ Below w.heap.size w w' := by
  show Calls _ _ #[.int .i64 (i : Int), .int .i64 (j : Int), .pointer (some ⟨pa, 0, none⟩)] w _
  obtain ⟨g, off, cur, ty, fz, oi, ci, rfl, x, e, hrow⟩ := ha.row (i := i) (by omega)
  obtain ⟨g', off', cur', ty', fz', oj, cj, e0, x', e', hrow'⟩ := ha.row (i := j) (by omega)
  simp only [Option.some.injEq, Addr.mk.injEq, and_true] at e0
  obtain ⟨rfl, rfl⟩ := e0
  obtain rfl : cur = cur' := by
    have h7 := x; have h8 := x'
    unfold Bs at h7 h8
    rw [h7] at h8
    simp only [Option.some.injEq, Obj.cells.injEq] at h8
    exact h8.1
  rw [hr1] at e
  rw [hr2] at e'
  have HR := hide hrow
  have HR' := hide hrow'
  clear ha hrow hrow' x'
  go_enter Tryz.func60, Tryz.ntmps60
  have hs := St.nil w
  have lt_ba := xa.lt
  have xaz := xa
  have lt_kA := x.lt
  have xz := x
  refine wp_seq_k ?_
  intro K1 hK1
  refine rg [0] ?_
  refine sq ?_
  refine .al hs ?_; clear hs; intro p_b1 w_1 hs n1 kb_b1
  replace xa := xa.bl n1; replace x := x.bl n1
  apply wpSq_end
  refine hK1 _ _ ?_
  refine wp_seq_k ?_
  intro K2 hK2
  refine wp_region_f4 [(0, false), (1, false), (2, false), (3, false), (4, false), (5, false), (6, false), (7, false), (8, true)] [9] [] (fun _ => default) [0, 99, 99, 1, 0, 99, 99, 1, 99, 99] [] (.c xa (.c x .n)) fn fun w_2 n2 => ?_
  replace xa := xa.bl n2; replace x := x.bl n2; replace hs := hs.bl n2
  refine f1 ?_
  refine fmv ?_
  refine f0 ?_
  apply wpFl_ld rfl rfl; (case h1 => intro w' hC K hK; have c0 := Bs.cell hC ((off + i)) e; go_big_op; exact hK); iterate 4 kernel_rfl
  refine f1 ?_
  refine fmv ?_
  refine f0 ?_
  apply wpFl_ld rfl rfl; (case h1 => intro w' hC K hK; have c0 := Bs.cell hC ((off + j)) e'; go_big_op; exact hK); iterate 4 kernel_rfl
  refine fl fun w_3 n3 => ?_
  replace xa := xa.bl n3; replace x := x.bl n3; replace hs := hs.bl n3
  intro K hK
  have hb := hs.b
  go_big_op
  go_fit (product_any (HR.out.bl stab_n hb) (HR'.out.bl stab_n hb) hr1 hr2 hk h1 h1)
  rintro e w_4 ⟨_, rfl, ⟨n_ra, o_ra, k_ra, c_ra, n_rb, o_rb, k_rb, c_rb, rfl, r1, r2⟩, hb_4⟩
  clear hb
  replace xa := xa.bl hb_4; replace x := x.bl hb_4; replace hs := hs.bl hb_4
  refine hK _ _ rfl ⟨hb_4, (And.intro xa (And.intro x trivial))⟩ ?_
  clear hK K
  refine e0 hs ?_; clear hs; intro w_5 hs n5
  replace xa := xa.bl n5; replace x := x.bl n5
  refine tl ?_
  refine .s4o hs.g0 (fun _ => hs.u0 kb_b1) ?_ (e := fun _ hs hO => (And.intro (xaz.bl hs.b) (And.intro (x.frame hO (Nat.ne_of_lt (Nat.lt_of_lt_of_le lt_kA kb_b1))) True.intro))); clear hs; intro w_6 hs hd6 ho6
  replace xa := xa.frame ho6 (Nat.ne_of_lt (Nat.lt_of_lt_of_le lt_ba kb_b1)); replace x := x.frame ho6 (Nat.ne_of_lt (Nat.lt_of_lt_of_le lt_kA kb_b1))
  apply wpTail_end
  refine hK2 _ _ ?_
  refine wp_ret ?_
  try dsimp only [Exit.then, Exit.inBlock]
  obtain ⟨r0_0, r0_1, r0_2, r0_3⟩ := hs.g0.f4
  refine bodyPost_ret (v := (.agg #[.bool n_ra, .slice o_ra k_ra c_ra, .bool n_rb, .slice o_rb k_rb c_rb])) (by simp [results, Tryz.results60, go_sem, r0_0, r0_1, r0_2, r0_3]) rfl ?_
  have k4_6 := (kb n5).o hd6 ho6
  replace r1 := r1.k k4_6
  replace r2 := r2.k k4_6
  exact ⟨_, rfl, .mk' r1 r2, hs.b⟩
set_option maxHeartbeats 4000000 in
set_option maxRecDepth 20000 in
theorem mGram_ok (ha : MN la w oa A) (hna : A.length = na) (h : gd A) (hk : wd A = k) (h1 : la ≤ 10000000) :
    Calls Tryz.prog 27 #[.slice oa na ca] w fun e w' => ∃ o c rs, e = .returned (.tuple #[.slice o na c, .int .i64 0]) ∧ rs.length = na ∧ St w (Mx w.heap.size (.slice o na c) rs) w' ∧ RD w' rs (mkM na na fun i j => sumP k fun q => mP (at2 A i q) (cP (at2 A j q))) ∧ Below w.heap.size w w' := by
  have HA := hide ha
  have hn64 : na ≤ 64 := by have := h.1; omega
  have hk64 : k ≤ 64 := by have := h.2.1; omega
  have HR := hide (show ∀ i, i < na → (rw_ A i).length = k from fun i hi => by rw [gd_row h (by omega)]; exact hk)
  clear ha
  go_enter Tryz.func27, Tryz.ntmps27
  have hs := St.nil w
  refine wp_seq_k ?_
  intro K1 hK1
  refine rg [0, 1, 2] ?_
  refine sq ?_
  refine .al hs ?_; clear hs; intro p_b1 w_1 hs n1 kb_b1
  refine sq ?_
  refine .mv ?_
  refine sq ?_
  refine .mv ?_
  apply wpSq_end
  refine hK1 _ _ ?_
  refine wp_seq_k ?_
  intro K2 hK2
  refine wp_seq_k ?_
  intro K3 hK3
  refine rg [0, 1, 2] ?_
  refine sq ?_
  refine .r1 hs.g0.f1 ?_
  refine sq ?_
  intro K hK
  have hb := hs.b
  go_big_op
  go_fit (good_yes (HA.out.bl stab_n hb) hna (by omega) h)
  rintro e w_2 ⟨rfl, hb_2⟩
  clear hb
  replace hs := hs.bl hb_2
  refine hK _ _ rfl trivial ?_
  clear hK K
  refine sq ?_
  refine .r0 ?_
  apply wpSq_end
  refine hK3 _ _ ?_
  refine cf ?_
  refine wp_skip ?_
  refine hK2 _ _ ?_
  refine wp_seq_k ?_
  intro K4 hK4
  refine rg [0, 1, 2, 3, 4, 5, 6, 7] ?_
  refine sq ?_
  refine .r1 hs.g0.f1 ?_
  refine sq ?_
  refine .r0 ?_
  refine sq ?_
  refine .r1 hs.g0.f1 ?_
  refine sq ?_
  refine .r0 ?_
  refine sq ?_
  refine .r0 ?_
  refine sq ?_
  intro K hK
  have x_b1 := hs.g0
  have hb := hs.b
  go_big_op
  go_fit (matrix_any (F := fun i j ↦ sumP k fun q ↦ mP (at2 A i q) (cP (at2 A j q))) (fun _ _ _ ↦ by kernel_rfl) (fun i j w1 hi hj h3 ↦ gram1 (x_b1.bl h3) (HA.out.bl stab_n (hb.trans (h3.mono hb.size))) hna hi hj (HR.out i hi) (HR.out j hj) (by omega) h1) (by omega) (by omega))
  rintro e w_3 ⟨o_r, c_r, rs_r, rfl, hl_r, hs_r, d_r, hb_3⟩
  clear x_b1 hb
  replace hs := hs.mx hl_r hs_r; simp only [List.cons_append, List.nil_append] at hs
  refine hK _ _ rfl trivial ?_
  clear hK K
  refine sq ?_
  refine .mv ?_
  refine sq ?_
  refine .mv ?_
  apply wpSq_end
  refine hK4 _ _ ?_
  refine wp_ret ?_
  try dsimp only [Exit.then, Exit.inBlock]
  refine bodyPost_ret (v := (.tuple #[(.slice o_r na c_r), (.int .i64 0)])) (by simp [results, Tryz.results27, go_sem]) rfl ?_
  exact ⟨_, _, _, rfl, hl_r, (by unfold Mx; rw [hl_r]; exact hs.sub (.cons_cons _ (.cons _ (List.Sublist.refl _)))), d_r, hs.b⟩
end
theorem zlen_small8 {z : Int} (h : z.natAbs < 4294967296) : (dig z.natAbs).length ≤ 1 := dig_length_le (by rw [show pw 1 = 4294967296 from rfl]; exact h)
theorem sc2 {w : World} {p : Nat} {ty : TypeId} {fz : Nat × Nat} {n1 n2 n3 n4 : Bool} {o1 o2 o3 o4 : Option Addr} {k1 c1 k2 c2 k3 c3 k4 c4 : Nat} {x y z u : Int}
    (hx : Bs w p #[.bool n1, .slice o1 k1 c1, .bool n2, .slice o2 k2 c2, .bool n3, .slice o3 k3 c3, .bool n4, .slice o4 k4 c4] ty fz)
    (h1 : ZC w (.agg #[.bool n1, .slice o1 k1 c1]) x) (h2 : ZC w (.agg #[.bool n2, .slice o2 k2 c2]) y) (h3 : ZC w (.agg #[.bool n3, .slice o3 k3 c3]) z) (h4 : ZC w (.agg #[.bool n4, .slice o4 k4 c4]) u) : SC w (some ⟨p, 0, none⟩) [(x, y), (z, u)] :=
  .inr ⟨p, 0, _, ty, fz, rfl, hx, fun i hi => match i, hi with
    | 0, _ => ⟨n1, o1, k1, c1, n2, o2, k2, c2, rfl, rfl, rfl, rfl, h1, h2⟩
    | 1, _ => ⟨n3, o3, k3, c3, n4, o4, k4, c4, rfl, rfl, rfl, rfl, h3, h4⟩⟩
theorem mc2 {w : World} {p : Nat} {ty : TypeId} {fz : Nat × Nat} {o1 o2 : Option Addr} {c1 c2 : Nat} {r1 r2 : List (Int × Int)}
    (hx : Bs w p #[.slice o1 r1.length c1, .slice o2 r2.length c2] ty fz) (h1 : SC w o1 r1) (h2 : SC w o2 r2) : MC w (some ⟨p, 0, none⟩) [r1, r2] :=
  .inr ⟨p, 0, _, ty, fz, rfl, hx, fun i hi => match i, hi with
    | 0, _ => ⟨o1, c1, rfl, h1⟩
    | 1, _ => ⟨o2, c2, rfl, h2⟩⟩
theorem MC.bl {w w' : World} {o : Option Addr} {Ms : List (List (Int × Int))} (h : MC w o Ms) (hb : Below w.heap.size w w') : MC w' o Ms := MV.bl stab_c h hb
theorem gd_simple : gd [[(1, 0), (2, 0)], [(0, 1), (0, 0)]] := ⟨by decide, by decide, by decide⟩
theorem bd_small {Ms : List (List (Int × Int))} (h : ∀ r ∈ Ms, ∀ p ∈ r, p.1.natAbs < 4294967296 ∧ p.2.natAbs < 4294967296) : BdM 1 Ms := fun r hr p hp => ⟨zlen_small8 (h r hr p hp).1, zlen_small8 (h r hr p hp).2⟩
def nP (p : Int × Int) : Int := p.1 * p.1 + p.2 * p.2
def lenS : Nat → (Nat → Int) → Int
  | 0, _ => 0
  | k + 1, f => lenS k f + f k
end Go.Proofs.YtcoodkdalblalaaGreatDoor
