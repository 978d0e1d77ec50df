/- Walks that name each world and each block: blocks of any cells, and the steps of a region, one by one. -/
import Derived.Test.YtpdfahompajbjaaDoorZ9
import Derived.Shelf.Strings.SlTrimAscii
import Derived.Test.YtpdfahompajbjaaDoorShelf

namespace Go.Proofs.YtpdfahompajbjaaDoor
open Go Go.RowKit Dig

/-- Block b holds these cells; it may be written. -/
def Bs (w : World) (b : Nat) (cs : Array Value) (ty : TypeId) : Prop := w.heap[b]? = some (.cells cs ty)
theorem Bs.lt {w : World} {b : Nat} {cs : Array Value} {ty : TypeId} (h : Bs w b cs ty) : b < w.heap.size := by
  unfold Bs at h
  rcases Nat.lt_or_ge b w.heap.size with hb | hb
  · exact hb
  · rw [Array.getElem?_eq_none hb] at h; cases h
theorem Bs.below {w w' : World} {b : Nat} {cs : Array Value} {ty : TypeId} (h : Bs w b cs ty) {B : Nat} (hb : Below B w w') (hB : w.heap.size ≤ B) : Bs w' b cs ty := by
  have := h.lt
  unfold Bs; rw [hb.block b (by omega)]; exact h
theorem Bs.cell {w : World} {b : Nat} {cs : Array Value} {ty : TypeId} (h : Bs w b cs ty) (i : Nat) {c : Value} (hc : cs[i]? = some c) : w.cell? ⟨b, i, none⟩ = some c := by
  unfold Bs at h
  simp only [World.cell?, h]
  exact hc
theorem Bs.bl {w w' : World} {b : Nat} {cs : Array Value} {ty : TypeId} (h : Bs w b cs ty) (hb : Below w.heap.size w w') : Bs w' b cs ty := h.below hb (Nat.le_refl _)
theorem ZN.bl {w w' : World} {v : Value} {z : Int} {l : Nat} (h : ZN w v z l) (hb : Below w.heap.size w w') : ZN w' v z l := h.below hb (Nat.le_refl _)
theorem ZC.bl {w w' : World} {v : Value} {z : Int} (h : ZC w v z) (hb : Below w.heap.size w w') : ZC w' v z := h.below hb (Nat.le_refl _)
theorem Bs.f1 {w : World} {b : Nat} {c0 : Value} {ty : TypeId} (h : Bs w b #[c0] ty) : w.cell? ⟨b, 0, none⟩ = some c0 := h.cell 0 rfl
theorem Bs.f2 {w : World} {b : Nat} {c0 c1 : Value} {ty : TypeId} (h : Bs w b #[c0, c1] ty) : w.cell? ⟨b, 0, none⟩ = some c0 ∧ w.cell? ⟨b, 1, none⟩ = some c1 := ⟨h.cell 0 rfl, h.cell 1 rfl⟩
theorem Bs.f4 {w : World} {b : Nat} {c0 c1 c2 c3 : Value} {ty : TypeId} (h : Bs w b #[c0, c1, c2, c3] ty) :
    w.cell? ⟨b, 0, none⟩ = some c0 ∧ w.cell? ⟨b, 1, none⟩ = some c1 ∧ w.cell? ⟨b, 2, none⟩ = some c2 ∧ w.cell? ⟨b, 3, none⟩ = some c3 := ⟨h.cell 0 rfl, h.cell 1 rfl, h.cell 2 rfl, h.cell 3 rfl⟩
theorem Bs.free {w : World} {b : Nat} {cs : Array Value} {ty : TypeId} (h : Bs w b cs ty) (i : Nat) : w.frozen? ⟨b, i, none⟩ = false := by
  unfold Bs at h
  simp [World.frozen?, h]
theorem Bs.set {w : World} {b : Nat} {cs : Array Value} {ty : TypeId} (h : Bs w b cs ty) (i : Nat) (v : Value) : Bs (w.setCell ⟨b, i, none⟩ v) b (cs.setIfInBounds i v) ty := by
  unfold Bs at h ⊢
  simp only [World.setCell, Array.getElem?_modify, h]
  simp
theorem Bs.frame {w w' : World} {b c : Nat} {cs : Array Value} {ty : TypeId} (h : Bs w b cs ty) (ho : Only c w w') (hne : Hid (b ≠ c)) : Bs w' b cs ty := by
  unfold Bs; rw [ho.block b hne]; exact h
def setAll (w : World) (b : Nat) : List (Nat × Value) → World
  | [] => w
  | (i, v) :: l => setAll (w.setCell ⟨b, i, none⟩ v) b l
def setArr (cs : Array Value) : List (Nat × Value) → Array Value
  | [] => cs
  | (i, v) :: l => setArr (cs.setIfInBounds i v) l
theorem Bs.sets {w : World} {b : Nat} {cs : Array Value} {ty : TypeId} (h : Bs w b cs ty) : ∀ l : List (Nat × Value), Bs (setAll w b l) b (setArr cs l) ty ∧ Only b w (setAll w b l) := by
  intro l
  induction l generalizing w cs with
  | nil => exact ⟨h, Only.refl _ _⟩
  | cons x l ih =>
    obtain ⟨i, v⟩ := x
    obtain ⟨h1, h2⟩ := ih (h.set i v)
    exact ⟨h1, ((Only.refl b w).setCell i v).trans h2⟩
theorem Bs.setN {w : World} {b : Nat} {cs : Array Value} {ty : TypeId} (h : Bs w b cs ty) (l : List (Nat × Value)) : ∃ w', setAll w b l = w' ∧ Bs w' b (setArr cs l) ty ∧ Only b w w' :=
  ⟨_, rfl, (h.sets l).1, (h.sets l).2⟩
/-- A new block gets a name, and so does the world. -/
theorem newBox (w : World) (cs : Array Value) (ty : TypeId) {B : Nat} (hB : B ≤ w.heap.size) : ∃ p w', w.heap.size = p ∧ w.alloc (.cells cs ty) = w' ∧ Bs w' p cs ty ∧ Below w.heap.size w w' ∧ Hid (B ≤ p) := by
  refine ⟨_, _, rfl, rfl, ?_, (Below.refl _ _).alloc (Nat.le_refl _) _, hB⟩
  show (w.heap.push _)[w.heap.size]? = _
  simp
def nd : Value → Bool
  | .int .u32 _ => false
  | _ => true
/-- A block that bears no digit. -/
def NoD (w : World) (b : Nat) : Prop := (∀ off (d : Nat), w.cell? ⟨b, off, none⟩ ≠ some (.int .u32 (d : Int))) ∧ ∀ xs, ¬ Row w b xs
theorem Bs.nod {w : World} {b : Nat} {cs : Array Value} {ty : TypeId} (h : Bs w b cs ty) (hc : cs.toList.all nd = true) (ht : (ty == 24) = false) : NoD w b := by
  have h0 := h
  unfold Bs at h0
  refine ⟨fun off d hcell => ?_, fun xs hr => ?_⟩
  · simp only [World.cell?, h0] at hcell
    have h2 : cs[off]? = some (.int .u32 (d : Int)) := by simpa using hcell
    have := List.all_eq_true.1 hc _ (Array.mem_toList_iff.2 (Array.mem_of_getElem? h2))
    simp [nd] at this
  · have h3 := hr.1
    rw [h0] at h3
    simp only [Option.some.injEq, Obj.cells.injEq] at h3
    have := h3.2.1
    rw [this] at ht
    simp at ht
theorem Cells.fr {w w' : World} {b : Nat} {oa : Option Addr} {ds : List Nat} (h : Cells w oa ds) (hb : NoD w b) (ho : Only b w w') : Cells w' oa ds := by
  by_cases hne : ds = []
  · exact .inl hne
  · obtain ⟨c, off, e, hc⟩ := h.resolve_left hne
    refine h.only ho ?_
    intro a ha
    rw [e] at ha
    cases ha
    intro hcb
    have := hc 0 (List.length_pos_iff.2 hne)
    simp only at hcb
    rw [hcb] at this
    exact hb.1 _ _ this
theorem Rd.fr {w w' : World} {b : Nat} {v : Value} {ds : List Nat} (h : Rd w v ds) (hb : NoD w b) (ho : Only b w w') : Rd w' v ds := by
  obtain ⟨oa, cap, hv, hc, ok, hx⟩ := h
  exact ⟨oa, cap, hv, hc, ok, hx.fr hb ho⟩
theorem ZN.fr {w w' : World} {b : Nat} {v : Value} {z : Int} {l : Nat} (h : ZN w v z l) (hb : NoD w b) (ho : Only b w w') : ZN w' v z l := by
  obtain ⟨neg, s, xs, hv, hr, hz, hl⟩ := h
  exact ⟨neg, s, xs, hv, hr.fr hb ho, hz, hl⟩
theorem ZC.fr {w w' : World} {b : Nat} {v : Value} {z : Int} (h : ZC w v z) (hb : NoD w b) (ho : Only b w w') : ZC w' v z := by
  obtain ⟨s, hv, hr⟩ := h
  exact ⟨s, hv, hr.fr hb ho⟩
theorem belowOnly {B b : Nat} {u w w' : World} (h : Below B u w) (ho : Only b w w') (hb : Hid (B ≤ b)) : Below B u w' := h.trans (ho.below hb)
theorem ZC.lenOf {w : World} {v : Value} {z : Int} (_ : ZC w v z) {l : Nat} (hl : (dig z.natAbs).length ≤ l) : (dig z.natAbs).length ≤ l := hl
theorem ZN.lenOf {w : World} {v : Value} {z : Int} {m : Nat} (_ : ZN w v z m) {l : Nat} (hl : (dig z.natAbs).length ≤ l) : (dig z.natAbs).length ≤ l := hl
theorem zc_zero (w : World) : ZC w (.agg #[.bool false, .slice none 0 0]) 0 := (zo_zero w 0).rd
/-- Two whole numbers in one struct. -/
def PN (w : World) (v : Value) (x : Int) (l : Nat) (y : Int) (m : Nat) : Prop :=
  ∃ n1 o1 k1 c1 n2 o2 k2 c2, v = .agg #[.bool n1, .slice o1 k1 c1, .bool n2, .slice o2 k2 c2] ∧ ZN w (.agg #[.bool n1, .slice o1 k1 c1]) x l ∧ ZN w (.agg #[.bool n2, .slice o2 k2 c2]) y m
def PC (w : World) (v : Value) (x y : Int) : Prop :=
  ∃ n1 o1 k1 c1 n2 o2 k2 c2, v = .agg #[.bool n1, .slice o1 k1 c1, .bool n2, .slice o2 k2 c2] ∧ ZC w (.agg #[.bool n1, .slice o1 k1 c1]) x ∧ ZC w (.agg #[.bool n2, .slice o2 k2 c2]) y
theorem PN.mk' {w : World} {n1 n2 : Bool} {o1 o2 : Option Addr} {k1 c1 k2 c2 : Nat} {x y : Int} {l m : Nat} (h1 : ZN w (.agg #[.bool n1, .slice o1 k1 c1]) x l) (h2 : ZN w (.agg #[.bool n2, .slice o2 k2 c2]) y m) :
    PN w (.agg #[.bool n1, .slice o1 k1 c1, .bool n2, .slice o2 k2 c2]) x l y m := ⟨_, _, _, _, _, _, _, _, rfl, h1, h2⟩
theorem PC.mk' {w : World} {n1 n2 : Bool} {o1 o2 : Option Addr} {k1 c1 k2 c2 : Nat} {x y : Int} (h1 : ZC w (.agg #[.bool n1, .slice o1 k1 c1]) x) (h2 : ZC w (.agg #[.bool n2, .slice o2 k2 c2]) y) :
    PC w (.agg #[.bool n1, .slice o1 k1 c1, .bool n2, .slice o2 k2 c2]) x y := ⟨_, _, _, _, _, _, _, _, rfl, h1, h2⟩
theorem PN.below {w w' : World} {v : Value} {x y : Int} {l m : Nat} (h : PN w v x l y m) {B : Nat} (hb : Below B w w') (hB : w.heap.size ≤ B) : PN w' v x l y m := by
  obtain ⟨n1, o1, k1, c1, n2, o2, k2, c2, rfl, h1, h2⟩ := h
  exact .mk' (h1.below hb hB) (h2.below hb hB)
theorem PC.below {w w' : World} {v : Value} {x y : Int} (h : PC w v x y) {B : Nat} (hb : Below B w w') (hB : w.heap.size ≤ B) : PC w' v x y := by
  obtain ⟨n1, o1, k1, c1, n2, o2, k2, c2, rfl, h1, h2⟩ := h
  exact .mk' (h1.below hb hB) (h2.below hb hB)
theorem PN.of_rd {w : World} (n1 n2 : Bool) {s1 s2 : Value} {xs ys : List Nat} {l m : Nat} (h1 : Rd w s1 xs) (l1 : xs.length ≤ l) (h2 : Rd w s2 ys) (l2 : ys.length ≤ m) :
    PN w (.agg #[.bool n1, s1, .bool n2, s2]) (zv n1 xs) l (zv n2 ys) m := by
  obtain ⟨o1, c1, rfl, h1'⟩ := h1
  obtain ⟨o2, c2, rfl, h2'⟩ := h2
  exact ⟨n1, o1, _, c1, n2, o2, _, c2, rfl, ⟨n1, _, xs, rfl, ⟨o1, c1, rfl, h1'⟩, rfl, l1⟩, ⟨n2, _, ys, rfl, ⟨o2, c2, rfl, h2'⟩, rfl, l2⟩⟩
theorem PN.len1 {w : World} {v : Value} {x y : Int} {l m : Nat} (h : PN w v x l y m) : (dig x.natAbs).length ≤ l := by
  obtain ⟨_, _, _, _, _, _, _, _, _, h1, _⟩ := h
  exact h1.len
theorem PN.len2 {w : World} {v : Value} {x y : Int} {l m : Nat} (h : PN w v x l y m) : (dig y.natAbs).length ≤ m := by
  obtain ⟨_, _, _, _, _, _, _, _, _, _, h1⟩ := h
  exact h1.len
theorem zlen_neg {x : Int} {l : Nat} (h : (dig x.natAbs).length ≤ l) : (dig (-x).natAbs).length ≤ l := by rw [Int.natAbs_neg]; exact h
theorem zlen_abs {x : Int} {l : Nat} (h : (dig x.natAbs).length ≤ l) : (dig (Int.natAbs x : Int).natAbs).length ≤ l := by rw [Int.natAbs_natCast]; exact h
section
variable {P : Program} {l : List Oper} {Q : Act → World → Prop} {a : Act} {w : World} {o : Oper}

/-- A region that does not draw, operation by operation. -/
def wpSq (P : Program) (l : List Oper) (Q : Act → World → Prop) : List Nat → Act → World → Prop
  | [], a, w => Q a w
  | k :: rest, a, w => ∃ o, nthO l k = some o ∧ if Region.wanted o (yielded l.toArray a.tmps) then Calm P o a w (fun v w' => wpSq P l Q rest (a.put o.dst v) w') else wpSq P l Q rest (a.put o.dst undef) w
theorem wpOps_of_sq {Q' : Exit → Act → World → Prop} (hQ : ∀ a w, Q a w → Q' .normal a w) : ∀ (plan : List Nat) (a : Act) (w : World), wpSq P l Q plan a w → wpOps P l.toArray Q' plan a w
  | [], a, w, h => hQ _ _ h
  | k :: rest, a, w, h => by
    obtain ⟨o, ho, h⟩ := h
    unfold wpOps
    rw [show l.toArray[k]? = some o by rw [← nthO_eq] at ho; simpa using ho]
    simp only
    split
    · rename_i hw
      simp only [hw, if_true] at h
      exact .inl (Calm.wp (h.mono fun v w' h3 => wpOps_of_sq hQ rest _ _ h3))
    · rename_i hw
      simp only [hw] at h
      exact wpOps_of_sq hQ rest _ _ h
theorem wp_region_sq {id : Nat} {Q : Exit → Act → World → Prop} (plan : List Nat) (hp : List.range l.length = plan) (h : wpSq P l (Q .normal) plan a w) : (Code.region id l.toArray false).wp P Q a w := by
  refine wp_region ?_
  rw [show l.toArray.size = l.length by simp, hp]
  exact wpOps_of_sq (fun _ _ h => h) _ _ _ h
theorem wpSq_call {k : Nat} {rest : List Nat} (hi : nthO l k = some o) (hw : Region.wanted o (yielded l.toArray a.tmps) = true)
    (h : ∀ K : Act → World → Prop, (∀ a' w', a'.defers = a.defers → wpSq P l Q rest a' w' → K a' w') → o.wp P a w K bot) : wpSq P l Q (k :: rest) a w := by
  refine ⟨o, hi, ?_⟩
  rw [if_pos hw]
  have h := h (fun a' w' => a'.defers = a.defers ∧ wpSq P l Q rest a' w') (fun a' w' h1 h2 => ⟨h1, h2⟩)
  unfold Oper.wp at h
  unfold Calm
  generalize (execOp a.eval o).run P w = r at *
  cases r with
  | ok n w2 =>
    cases n <;> simp only [Oper.upon] at h ⊢
    case value => exact h.2
    case skip => exact h.2
    case defer =>
      have h1 := h.1
      unfold Act.put at h1
      split at h1 <;> simp at h1
    case enter =>
      refine h.mono fun e w'' he => ?_
      cases e with
      | returned v => exact ⟨v, rfl, he.2⟩
      | panicked c => exact he.elim
      | outgrown => obtain ⟨_, _, hf⟩ := he; exact hf.elim
    case row => exact Rows.mono h fun v w'' he => he.2
  | halt x w2 => cases x <;> simp only [Oper.upon, bot] at h
theorem wpSq_skip {k : Nat} {rest : List Nat} {a' : Act} (hi : nthO l k = some o) (hw : Region.wanted o (yielded l.toArray a.tmps) = false) (hp : a.put o.dst undef = a')
    (hn : wpSq P l Q rest a' w) : wpSq P l Q (k :: rest) a w :=
  ⟨o, hi, by rw [if_neg (by rw [hw]; exact Bool.false_ne_true), hp]; exact hn⟩
theorem wp_region_fl2 {id : Nat} {Q : Exit → Act → World → Prop} (plan1 : List (Nat × Bool)) (plan2 : List Nat) (F0 : List Nat) (ob : Nat → Obj) (CL : List Nat) (bad : List (Nat × Nat)) (C : World → Prop) (Gs : List (World → Prop)) (hm : P.follows .mixedOrders = true) (hs : Region.noSelect l.toArray = true)
    (hlen : plan1.length + F0.length + plan2.length = l.length) (hok : flOK .any l plan2 (plan1.length + F0.length) (Array.replicate l.length false) plan1 F0 = true) (hpa : planApart l F0 plan1 = true) (hwt : waits .any l CL bad plan1 = true) (hnb : notBad bad plan1 F0 = true) (hsu : sundry l F0 = true) (hnd : F0.Nodup)
    (hl : ∀ j ∈ F0, Lays P l ob j) (hCa : ∀ w o, C w → C (w.alloc o)) (hCG : ∀ w, C w → ∀ G ∈ Gs, G w)
    (h : ∀ w', Below w.heap.size w w' → C w' ∧ wpFl P l C Gs CL ob F0 w'.heap.size (wpTail P l Gs bad (Q .normal) plan2) plan1 a w') : (Code.region id l.toArray true).wp P Q a w :=
  wp_region_fl plan1 plan2 F0 ob CL bad C Gs hm hs hlen hok hpa hwt hnb hsu hnd hl hCa hCG (h _ (Below.refl _ _).drew).1 (h _ (Below.refl _ _).drew).2
theorem wpSq_end (h : Q a w) : wpSq P l Q [] a w := h
end
end Go.Proofs.YtpdfahompajbjaaDoor


/- A builtin len among what only reads, in a region that draws its order. -/
namespace Go.Proofs.YtpdfahompajbjaaDoor
open Go Go.RowKit Dig
set_option linter.unusedVariables false

def isL (o : Oper) : Bool :=
  match o.op with
  | .call c => match c.callee with | .builtin .len => true | _ => false
  | _ => false
theorem isL_value {ρ : Operand → Value} {o : Oper} (h : isL o = true) : ∃ s : Sem Value, execOp ρ o = (do pure (.value (← s))) := by
  unfold isL at h
  unfold execOp
  generalize o.op = p at *
  cases p
  case call c =>
    simp only at h ⊢
    obtain ⟨callee, args, tys⟩ := c
    cases callee
    case builtin b => cases b <;> first | (exfalso; simp at h; done) | exact ⟨_, rfl⟩
    all_goals (exfalso; simp at h)
  all_goals (exfalso; simp at h)
theorem isL_run {P : Program} {ρ : Operand → Value} {o : Oper} (h : isL o = true) {n : Next} {w w' : World} (hr : (execOp ρ o).run P w = .ok n w') : ∃ v, n = .value v := by
  obtain ⟨s, hs⟩ := isL_value (ρ := ρ) h
  rw [hs] at hr
  rw [Sem.run_bind] at hr
  generalize s.run P w = r at hr
  cases r with
  | ok v w'' => simp only [Result.andThen, Sem.run_pure, Result.ok.injEq] at hr; exact ⟨v, hr.1.symm⟩
  | halt e w'' => simp only [Result.andThen, reduceCtorEq] at hr
section
variable {P : Program} {l : List Oper} {C : World → Prop} {Q : Act → World → Prop} {a : Act} {w : World} {rest : List (Nat × Bool)} {o : Oper} {ob : Nat → Obj} {F0 : List Nat} {B : Nat} {Gs : List (World → Prop)} {CL : List Nat} {bad : List (Nat × Nat)}
theorem wpFl_ldb {i : Nat} {a' : Act} {G : World → Prop} (hG : nthG Gs (CL.getD i 99) = G) (hi : nthO l i = some o) (h1 : ∀ w', G w' → ∀ K : Act → World → Prop, K a' w' → o.wp P a w' K bot)
    (hw : Region.wanted o (yielded l.toArray a.tmps) = true) (hv : isL o = true) (hb : inB o.dst a = true) (hp : a.put o.dst (slotOf o.dst a') = a')
    (hn : wpFl P l C Gs CL ob F0 B Q rest a' w) : wpFl P l C Gs CL ob F0 B Q ((i, false) :: rest) a w := by
  subst hG
  refine ⟨o, slotOf o.dst a', hi, .inl ⟨hw, fun w' hC => ?_⟩, by rw [hp]; exact hn⟩
  have h := h1 w' hC (fun a2 w2 => a2 = a' ∧ w2 = w') ⟨rfl, rfl⟩
  unfold Oper.wp at h
  have hr := fun n w2 => isL_run (P := P) (ρ := a.eval) (n := n) (w := w') (w' := w2) hv
  generalize (execOp a.eval o).run P w' = r at *
  cases r with
  | ok n w2 =>
    obtain ⟨v, rfl⟩ := hr n w2 rfl
    simp only [Oper.upon] at h
    obtain ⟨h2, rfl⟩ := h
    rw [← h2, slotOf_put hb]
  | halt x w2 => cases x <;> simp only [Oper.upon, bot] at h
end
end Go.Proofs.YtpdfahompajbjaaDoor


/- strings.TrimLeft lies in Shelf. -/

