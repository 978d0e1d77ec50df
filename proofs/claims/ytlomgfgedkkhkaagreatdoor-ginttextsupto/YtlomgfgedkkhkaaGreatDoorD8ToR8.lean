/- DivMod and Gcd over whatever slice reads as given digits. -/
import Derived.Test.YtlomgfgedkkhkaaGreatDoorY5ToD7
import Derived.Deep.LoopGhost
namespace Go.Proofs.YtlomgfgedkkhkaaGreatDoor
open Go.RowKit Dig
theorem zlen_mul {x y : Int} {l m : Nat} (hx : (dig x.natAbs).length ≤ l) (hy : (dig y.natAbs).length ≤ m) : (dig (x * y).natAbs).length ≤ l + m := by
  rw [Int.natAbs_mul]
  have h := zmul_dig_length (dig x.natAbs) (dig y.natAbs) (OK_dig _) (OK_dig _)
  rw [val_dig, val_dig] at h
  omega
theorem zo_zero (w : World) (B : Nat) : ZO w B (.agg #[.bool false, .slice none 0 0]) 0 := ⟨_, rfl, by rw [show dig (Int.natAbs 0) = [] from dig_eq_nil.2 rfl]; exact Own.nil w B none⟩
open Go
/-- Block b holds these cells; where nothing of it is frozen it may be written. -/
def Bs (w : World) (b : Nat) (cs : Array Value) (ty : TypeId) (fz : Nat × Nat := (0, 0)) : Prop := w.heap[b]? = some (.cells cs ty fz)
abbrev BkT := Nat × Array Value × TypeId × (Nat × Nat)
theorem Bs.lt {w : World} {b : Nat} {cs : Array Value} {ty : TypeId} {fz : Nat × Nat} (h : Bs w b cs ty fz) : b < w.heap.size := by
  unfold Bs at h
  rcases Nat.lt_or_ge b w.heap.size with hb | hb
  · exact hb
  · rw [Array.getElem?_eq_none hb] at h; cases h
theorem Bs.below {w w' : World} {b : Nat} {cs : Array Value} {ty : TypeId} {fz : Nat × Nat} (h : Bs w b cs ty fz) {B : Nat} (hb : Below B w w') (hB : w.heap.size ≤ B) : Bs w' b cs ty fz := by
  have := h.lt
  unfold Bs; rw [hb.block b (by omega)]; exact h
theorem Bs.cell {w : World} {b : Nat} {cs : Array Value} {ty : TypeId} {fz : Nat × Nat} (h : Bs w b cs ty fz) (i : Nat) {c : Value} (hc : cs[i]? = some c) : w.cell? ⟨b, i, none⟩ = some c := by
  unfold Bs at h
  simp only [World.cell?, h]
  exact hc
theorem Bs.bl {w w' : World} {b : Nat} {cs : Array Value} {ty : TypeId} {fz : Nat × Nat} (h : Bs w b cs ty fz) (hb : Below w.heap.size w w') : Bs w' b cs ty fz := h.below hb (Nat.le_refl _)
theorem Bs.f2 {w : World} {b : Nat} {c0 c1 : Value} {ty : TypeId} (h : Bs w b #[c0, c1] ty) : w.cell? ⟨b, 0, none⟩ = some c0 ∧ w.cell? ⟨b, 1, none⟩ = some c1 := ⟨h.cell 0 rfl, h.cell 1 rfl⟩
theorem Bs.f4 {w : World} {b : Nat} {c0 c1 c2 c3 : Value} {ty : TypeId} (h : Bs w b #[c0, c1, c2, c3] ty) :
    w.cell? ⟨b, 0, none⟩ = some c0 ∧ w.cell? ⟨b, 1, none⟩ = some c1 ∧ w.cell? ⟨b, 2, none⟩ = some c2 ∧ w.cell? ⟨b, 3, none⟩ = some c3 := ⟨h.cell 0 rfl, h.cell 1 rfl, h.cell 2 rfl, h.cell 3 rfl⟩
theorem Bs.free {w : World} {b : Nat} {cs : Array Value} {ty : TypeId} (h : Bs w b cs ty) (i : Nat) : w.frozen? ⟨b, i, none⟩ = false := by
  unfold Bs at h
  simp [World.frozen?, h]
theorem Bs.set {w : World} {b : Nat} {cs : Array Value} {ty : TypeId} (h : Bs w b cs ty) (i : Nat) (v : Value) : Bs (w.setCell ⟨b, i, none⟩ v) b (cs.setIfInBounds i v) ty := by
  unfold Bs at h ⊢
  simp only [World.setCell, Array.getElem?_modify, h]
  simp
section
variable {P : Program} {Q : Exit → Act → World → Prop} {a : Act} {w : World}
theorem ct {c : Operand} {x y : Code} {v : Bool} (h : x.wp P Q a w) (he : a.eval c = .bool v := by rfl) (hv : v = true := by first | rfl | assumption | (simp; done) | exact decide_eq_true (by omega) | omega) : (Code.cond c x y).wp P Q a w := wp_cond_true (he.trans (congrArg Value.bool hv)) h
theorem cf {c : Operand} {x y : Code} {v : Bool} (h : y.wp P Q a w) (he : a.eval c = .bool v := by rfl) (hv : v = false := by first | rfl | assumption | (simp; done) | exact decide_eq_false (by omega) | omega) : (Code.cond c x y).wp P Q a w := wp_cond_false (he.trans (congrArg Value.bool hv)) h
end
def BG (b : BkT) (w : World) : Prop := Bs w b.1 b.2.1 b.2.2.1 b.2.2.2
/-- All these blocks. -/
def AllB : List BkT → World → Prop
  | [], _ => True
  | b :: t, w => BG b w ∧ AllB t w
theorem Bs.alloc {w : World} {b : Nat} {cs : Array Value} {ty : TypeId} {fz : Nat × Nat} (h : Bs w b cs ty fz) (o : Obj) : Bs (w.alloc o) b cs ty fz := h.bl ((Below.refl _ _).alloc (Nat.le_refl _) o)
theorem AllB.alloc {o : Obj} : ∀ {bs : List BkT} {w : World}, AllB bs w → AllB bs (w.alloc o)
  | [], _, _ => trivial
  | _ :: _, _, h => ⟨Bs.alloc h.1 o, AllB.alloc h.2⟩
theorem AllB.get : ∀ {bs : List BkT} {w : World}, AllB bs w → ∀ G ∈ bs.map BG, G w
  | [], _, _, _, hG => nomatch hG
  | b :: t, w, h, G, hG => by
    rcases List.mem_cons.1 hG with rfl | hG
    · exact h.1
    · exact AllB.get h.2 G hG
def setAll (w : World) (b : Nat) : List (Nat × Value) → World
  | [] => w
  | (i, v) :: l => setAll (w.setCell ⟨b, i, none⟩ v) b l
def setArr (cs : Array Value) : List (Nat × Value) → Array Value
  | [] => cs
  | (i, v) :: l => setArr (cs.setIfInBounds i v) l
theorem Bs.sets {w : World} {b : Nat} {cs : Array Value} {ty : TypeId} (h : Bs w b cs ty) : ∀ l : List (Nat × Value), Bs (setAll w b l) b (setArr cs l) ty ∧ Only b w (setAll w b l) := by
  intro l
  induction l generalizing w cs with
  | nil => exact ⟨h, Only.refl _ _⟩
  | cons x l ih =>
    obtain ⟨i, v⟩ := x
    obtain ⟨h1, h2⟩ := ih (h.set i v)
    exact ⟨h1, ((Only.refl b w).setCell i v).trans h2⟩
theorem Bs.setN {w : World} {b : Nat} {cs : Array Value} {ty : TypeId} (h : Bs w b cs ty) (l : List (Nat × Value)) : ∃ w', setAll w b l = w' ∧ Bs w' b (setArr cs l) ty ∧ Only b w w' :=
  ⟨_, rfl, (h.sets l).1, (h.sets l).2⟩
theorem Bs.set2 {w : World} {b : Nat} {d0 d1 : Value} {ty : TypeId} (h : Bs w b #[d0, d1] ty) (c0 c1 : Value) : ∃ w', (w.setCell ⟨b, 0, none⟩ c0).setCell ⟨b, 1, none⟩ c1 = w' ∧ Bs w' b #[c0, c1] ty ∧ Only b w w' := h.setN [(0, c0), (1, c1)]
theorem Bs.set4 {w : World} {b : Nat} {d0 d1 d2 d3 : Value} {ty : TypeId} (h : Bs w b #[d0, d1, d2, d3] ty) (c0 c1 c2 c3 : Value) :
    ∃ w', (((w.setCell ⟨b, 0, none⟩ c0).setCell ⟨b, 1, none⟩ c1).setCell ⟨b, 2, none⟩ c2).setCell ⟨b, 3, none⟩ c3 = w' ∧ Bs w' b #[c0, c1, c2, c3] ty ∧ Only b w w' := h.setN [(0, c0), (1, c1), (2, c2), (3, c3)]
/-- A new block gets a name, and so does the world. -/
theorem newBox (w : World) (cs : Array Value) (ty : TypeId) {B : Nat} (hB : B ≤ w.heap.size) : ∃ p w', w.heap.size = p ∧ w.alloc (.cells cs ty) = w' ∧ Bs w' p cs ty ∧ Below w.heap.size w w' ∧ Hid (B ≤ p) := by
  refine ⟨_, _, rfl, rfl, ?_, (Below.refl _ _).alloc (Nat.le_refl _) _, hB⟩
  show (w.heap.push _)[w.heap.size]? = _
  simp
def nd : Value → Bool
  | .int .u32 _ => false
  | _ => true
/-- A block that bears no digit. -/
def NoD (w : World) (b : Nat) : Prop := (∀ off (d : Nat), w.cell? ⟨b, off, none⟩ ≠ some (.int .u32 (d : Int))) ∧ ∀ xs, ¬ Row w b xs
theorem Bs.nod {w : World} {b : Nat} {cs : Array Value} {ty : TypeId} (h : Bs w b cs ty) (hc : cs.toList.all nd = true) (ht : (ty == 56) = false) : NoD w b := by
  have h0 := h
  unfold Bs at h0
  refine ⟨fun off d hcell => ?_, fun xs hr => ?_⟩
  · simp only [World.cell?, h0] at hcell
    have h2 : cs[off]? = some (.int .u32 (d : Int)) := by simpa using hcell
    have := List.all_eq_true.1 hc _ (Array.mem_toList_iff.2 (Array.mem_of_getElem? h2))
    simp [nd] at this
  · have h3 := hr.1
    rw [h0] at h3
    simp only [Option.some.injEq, Obj.cells.injEq] at h3
    have := h3.2.1
    rw [this] at ht
    simp at ht
theorem Cells.fr {w w' : World} {b : Nat} {oa : Option Addr} {ds : List Nat} (h : Cells w oa ds) (hb : NoD w b) (ho : Only b w w') : Cells w' oa ds := by
  by_cases hne : ds = []
  · exact .inl hne
  · obtain ⟨c, off, e, hc⟩ := h.resolve_left hne
    refine h.only ho ?_
    intro a ha
    rw [e] at ha
    cases ha
    intro hcb
    have := hc 0 (List.length_pos_iff.2 hne)
    simp only at hcb
    rw [hcb] at this
    exact hb.1 _ _ this
theorem tm {w w1 w2 : World} (h : Below w.heap.size w w1) (h' : Below w1.heap.size w1 w2) : Below w.heap.size w w2 := h.trans (h'.mono h.size)
/-- What is read as digits is read so still. -/
def Kp (w w' : World) : Prop := ∀ (oa : Option Addr) (ds : List Nat), Cells w oa ds → Cells w' oa ds
theorem kb {w w' : World} (h : Below w.heap.size w w') : Kp w w' := fun _ _ hc => hc.below h (Nat.le_refl _)
theorem ko {w w' : World} {b : Nat} (hn : NoD w b) (ho : Only b w w') : Kp w w' := fun _ _ hc => hc.fr hn ho
theorem Kp.b {w w1 w2 : World} (h : Kp w w1) (h' : Below w1.heap.size w1 w2) : Kp w w2 := fun _ _ hc => (h _ _ hc).below h' (Nat.le_refl _)
theorem Kp.o {w w1 w2 : World} {b : Nat} (h : Kp w w1) (hn : NoD w1 b) (ho : Only b w1 w2) : Kp w w2 := fun _ _ hc => (h _ _ hc).fr hn ho
theorem Rd.k {w w' : World} {v : Value} {ds : List Nat} (h : Rd w v ds) (k : Kp w w') : Rd w' v ds := by
  obtain ⟨oa, cap, hv, hc, ok, hx⟩ := h
  exact ⟨oa, cap, hv, hc, ok, k _ _ hx⟩
theorem ZN.k {w w' : World} {v : Value} {z : Int} {l : Nat} (h : ZN w v z l) (k : Kp w w') : ZN w' v z l := by
  obtain ⟨neg, s, xs, hv, hr, hz, hl⟩ := h
  exact ⟨neg, s, xs, hv, hr.k k, hz, hl⟩
theorem ZC.k {w w' : World} {v : Value} {z : Int} (h : ZC w v z) (k : Kp w w') : ZC w' v z := by
  obtain ⟨s, hv, hr⟩ := h
  exact ⟨s, hv, hr.k k⟩
theorem belowOnly {B b : Nat} {u w w' : World} (h : Below B u w) (ho : Only b w w') (hb : Hid (B ≤ b)) : Below B u w' := h.trans (ho.below hb)
theorem ZC.lenOf {w : World} {v : Value} {z : Int} (_ : ZC w v z) {l : Nat} (hl : (dig z.natAbs).length ≤ l) : (dig z.natAbs).length ≤ l := hl
theorem zc_zero (w : World) : ZC w (.agg #[.bool false, .slice none 0 0]) 0 := (zo_zero w 0).rd
/-- Two whole numbers in one struct. -/
def PN (w : World) (v : Value) (x : Int) (l : Nat) (y : Int) (m : Nat) : Prop :=
  ∃ n1 o1 k1 c1 n2 o2 k2 c2, v = .agg #[.bool n1, .slice o1 k1 c1, .bool n2, .slice o2 k2 c2] ∧ ZN w (.agg #[.bool n1, .slice o1 k1 c1]) x l ∧ ZN w (.agg #[.bool n2, .slice o2 k2 c2]) y m
def PC (w : World) (v : Value) (x y : Int) : Prop :=
  ∃ n1 o1 k1 c1 n2 o2 k2 c2, v = .agg #[.bool n1, .slice o1 k1 c1, .bool n2, .slice o2 k2 c2] ∧ ZC w (.agg #[.bool n1, .slice o1 k1 c1]) x ∧ ZC w (.agg #[.bool n2, .slice o2 k2 c2]) y
theorem PN.mk' {w : World} {n1 n2 : Bool} {o1 o2 : Option Addr} {k1 c1 k2 c2 : Nat} {x y : Int} {l m : Nat} (h1 : ZN w (.agg #[.bool n1, .slice o1 k1 c1]) x l) (h2 : ZN w (.agg #[.bool n2, .slice o2 k2 c2]) y m) :
    PN w (.agg #[.bool n1, .slice o1 k1 c1, .bool n2, .slice o2 k2 c2]) x l y m := ⟨_, _, _, _, _, _, _, _, rfl, h1, h2⟩
theorem PC.mk' {w : World} {n1 n2 : Bool} {o1 o2 : Option Addr} {k1 c1 k2 c2 : Nat} {x y : Int} (h1 : ZC w (.agg #[.bool n1, .slice o1 k1 c1]) x) (h2 : ZC w (.agg #[.bool n2, .slice o2 k2 c2]) y) :
    PC w (.agg #[.bool n1, .slice o1 k1 c1, .bool n2, .slice o2 k2 c2]) x y := ⟨_, _, _, _, _, _, _, _, rfl, h1, h2⟩
theorem PN.of_rd {w : World} (n1 n2 : Bool) {s1 s2 : Value} {xs ys : List Nat} {l m : Nat} (h1 : Rd w s1 xs) (l1 : xs.length ≤ l) (h2 : Rd w s2 ys) (l2 : ys.length ≤ m) :
    PN w (.agg #[.bool n1, s1, .bool n2, s2]) (zv n1 xs) l (zv n2 ys) m := by
  obtain ⟨o1, c1, rfl, h1'⟩ := h1
  obtain ⟨o2, c2, rfl, h2'⟩ := h2
  exact ⟨n1, o1, _, c1, n2, o2, _, c2, rfl, ⟨n1, _, xs, rfl, ⟨o1, c1, rfl, h1'⟩, rfl, l1⟩, ⟨n2, _, ys, rfl, ⟨o2, c2, rfl, h2'⟩, rfl, l2⟩⟩
theorem PN.len1 {w : World} {v : Value} {x y : Int} {l m : Nat} (h : PN w v x l y m) : (dig x.natAbs).length ≤ l := by
  obtain ⟨_, _, _, _, _, _, _, _, _, h1, _⟩ := h
  exact h1.len
theorem PN.len2 {w : World} {v : Value} {x y : Int} {l m : Nat} (h : PN w v x l y m) : (dig y.natAbs).length ≤ m := by
  obtain ⟨_, _, _, _, _, _, _, _, _, _, h1⟩ := h
  exact h1.len
theorem zlen_neg {x : Int} {l : Nat} (h : (dig x.natAbs).length ≤ l) : (dig (-x).natAbs).length ≤ l := by rw [Int.natAbs_neg]; exact h
theorem zlen_abs {x : Int} {l : Nat} (h : (dig x.natAbs).length ≤ l) : (dig (Int.natAbs x : Int).natAbs).length ≤ l := by rw [Int.natAbs_natCast]; exact h
section
variable {P : Program} {l : List Oper} {Q : Act → World → Prop} {a : Act} {w : World} {o : Oper}
/-- A region that does not draw, operation by operation. -/
def wpSq (P : Program) (l : List Oper) (Q : Act → World → Prop) : List Nat → Act → World → Prop
  | [], a, w => Q a w
  | k :: rest, a, w => ∃ o, nthO l k = some o ∧ if Region.wanted o (yielded l.toArray a.tmps) then Calm P o a w (fun v w' => wpSq P l Q rest (a.put o.dst v) w') else wpSq P l Q rest (a.put o.dst undef) w
theorem wpOpsIn_of_sq {r : Option Nat} {m : Nat} {Q' : Exit → Act → World → Prop} (hQ : ∀ a w, Q a w → Q' .normal a w) : ∀ (plan : List Nat) (a : Act) (w : World), wpSq P l Q plan a w → wpOpsIn (FW r) m P l.toArray Q' plan a w
  | [], a, w, h => hQ _ _ h
  | k :: rest, a, w, h => by
    obtain ⟨o, ho, h⟩ := h
    unfold wpOpsIn
    rw [show l.toArray[k]? = some o by rw [← nthO_eq] at ho; simpa using ho]
    simp only
    split
    · rename_i hw
      simp only [hw, if_true] at h
      exact Calm.wpIn (h.mono fun v w' h3 => wpOpsIn_of_sq hQ rest _ _ h3)
    · rename_i hw
      simp only [hw] at h
      exact ⟨fun _ _ => trivial, wpOpsIn_of_sq hQ rest _ _ h⟩
theorem wpIn_region_sq {r : Option Nat} {m : Nat} {id : Nat} {Q : Exit → Act → World → Prop} (plan : List Nat) (hp : List.range l.length = plan) (h : wpSq P l (Q .normal) plan a w) : (Code.region id l.toArray false).wpIn (FW r) m P Q a w := by
  refine wpIn_region ?_
  rw [show l.toArray.size = l.length by simp, hp]
  exact wpOpsIn_of_sq (fun _ _ h => h) _ _ _ h
theorem wp_region_sq {id : Nat} {Q : Exit → Act → World → Prop} (plan : List Nat) (hp : List.range l.length = plan) (h : wpSq P l (Q .normal) plan a w) : (Code.region id l.toArray false).wp P Q a w :=
  (wpIn_wide (n := 0)).1 (show (Code.region id l.toArray false).wpIn (FW none) 0 P Q a w from wpIn_region_sq plan hp h)
theorem wpSq_call {k : Nat} {rest : List Nat} (hi : nthO l k = some o) (hw : Region.wanted o (yielded l.toArray a.tmps) = true)
    (h : ∀ K : Act → World → Prop, (∀ a' w', a'.defers = a.defers → wpSq P l Q rest a' w' → K a' w') → o.wp P a w K bot) : wpSq P l Q (k :: rest) a w := by
  refine ⟨o, hi, ?_⟩
  rw [if_pos hw]
  have h := h (fun a' w' => a'.defers = a.defers ∧ wpSq P l Q rest a' w') (fun a' w' h1 h2 => ⟨h1, h2⟩)
  unfold Oper.wp at h
  unfold Calm
  generalize (execOp a.eval o).run P w = r at *
  cases r with
  | ok n w2 =>
    cases n <;> simp only [Oper.upon] at h ⊢
    case value => exact h.2
    case skip => exact h.2
    case defer =>
      have h1 := h.1
      unfold Act.put at h1
      split at h1 <;> simp at h1
    case enter =>
      refine h.mono fun e w'' he => ?_
      cases e with
      | returned v => exact ⟨v, rfl, he.2⟩
      | panicked c => exact he.elim
      | outgrown => obtain ⟨_, _, hf⟩ := he; exact hf.elim
    case row => exact Rows.mono h fun v w'' he => he.2
  | halt x w2 => cases x <;> simp only [Oper.upon, bot] at h
theorem wpSq_skip {k : Nat} {rest : List Nat} {a' : Act} (hi : nthO l k = some o) (hw : Region.wanted o (yielded l.toArray a.tmps) = false) (hp : a.put o.dst undef = a')
    (hn : wpSq P l Q rest a' w) : wpSq P l Q (k :: rest) a w :=
  ⟨o, hi, by rw [if_neg (by rw [hw]; exact Bool.false_ne_true), hp]; exact hn⟩
theorem fn {ob : Nat → Obj} : ∀ j ∈ ([] : List Nat), Lays P l ob j := fun _ h => nomatch h
theorem wpSq_end (h : Q a w) : wpSq P l Q [] a w := h
end
def isL (o : Oper) : Bool :=
  match o.op with
  | .call c => match c.callee with | .builtin .len => true | _ => false
  | _ => false
theorem isL_value {ρ : Operand → Value} {o : Oper} (h : isL o = true) : ∃ s : Sem Value, execOp ρ o = (do pure (.value (← s))) := by
  unfold isL at h
  unfold execOp
  generalize o.op = p at *
  cases p
  case call c =>
    simp only at h ⊢
    obtain ⟨callee, args, tys⟩ := c
    cases callee
    case builtin b => cases b <;> first | (exfalso; simp at h; done) | exact ⟨_, rfl⟩
    all_goals (exfalso; simp at h)
  all_goals (exfalso; simp at h)
theorem isL_run {P : Program} {ρ : Operand → Value} {o : Oper} (h : isL o = true) {n : Next} {w w' : World} (hr : (execOp ρ o).run P w = .ok n w') : ∃ v, n = .value v := by
  obtain ⟨s, hs⟩ := isL_value (ρ := ρ) h
  rw [hs] at hr
  rw [Sem.run_bind] at hr
  generalize s.run P w = r at hr
  cases r with
  | ok v w'' => simp only [Result.andThen, Sem.run_pure, Result.ok.injEq] at hr; exact ⟨v, hr.1.symm⟩
  | halt e w'' => simp only [Result.andThen, reduceCtorEq] at hr
section
variable {P : Program} {l : List Oper} {C : World → Prop} {Q : Act → World → Prop} {a : Act} {w : World} {rest : List (Nat × Bool)} {o : Oper} {ob : Nat → Obj} {F0 : List Nat} {B : Nat} {Gs : List (World → Prop)} {CL : List Nat} {bad : List (Nat × Nat)}
theorem wpFl_ldb {i : Nat} {a' : Act} {G : World → Prop} (hG : nthG Gs (CL.getD i 99) = G) (hi : nthO l i = some o) (h1 : ∀ w', G w' → ∀ K : Act → World → Prop, K a' w' → o.wp P a w' K bot)
    (hw : Region.wanted o (yielded l.toArray a.tmps) = true) (hv : isL o = true) (hb : inB o.dst a = true) (hp : a.put o.dst (slotOf o.dst a') = a')
    (hn : wpFl P l C Gs CL ob F0 B Q rest a' w) : wpFl P l C Gs CL ob F0 B Q ((i, false) :: rest) a w := by
  subst hG
  refine ⟨o, slotOf o.dst a', hi, .inl ⟨hw, fun w' hC => ?_⟩, by rw [hp]; exact hn⟩
  have h := h1 w' hC (fun a2 w2 => a2 = a' ∧ w2 = w') ⟨rfl, rfl⟩
  unfold Oper.wp at h
  have hr := fun n w2 => isL_run (P := P) (ρ := a.eval) (n := n) (w := w') (w' := w2) hv
  generalize (execOp a.eval o).run P w' = r at *
  cases r with
  | ok n w2 =>
    obtain ⟨v, rfl⟩ := hr n w2 rfl
    simp only [Oper.upon] at h
    obtain ⟨h2, rfl⟩ := h
    rw [← h2, slotOf_put hb]
  | halt x w2 => cases x <;> simp only [Oper.upon, bot] at h
end
set_option linter.unusedVariables false
/-- What stands in memory: a block's number, where it has one, and what is said of it. -/
def En := Option Nat × (World → Prop)
def bx (p : Nat) (cs : Array Value) (ty : TypeId) : En := (some p, fun w => Bs w p cs ty)
/-- It stands, and does so as long as its block is left alone. -/
def Ok (e : En) (w : World) : Prop := e.2 w ∧ (∀ k, e.1 = some k → k < w.heap.size) ∧ ∀ w', (∀ k, e.1 = some k → w'.heap[k]? = w.heap[k]?) → w.heap.size ≤ w'.heap.size → e.2 w'
def AllE : List En → World → Prop
  | [], _ => True
  | e :: t, w => Ok e w ∧ AllE t w
/-- No two of them are one. -/
def FD (l : List (Option Nat)) : Prop := l.Pairwise fun a b => ∀ k, a = some k → b ≠ some k
/-- All these stand, apart from each other, and what lay below is as it was. -/
def St (w0 : World) (bs : List En) (w : World) : Prop := AllE bs w ∧ FD (bs.map (·.1)) ∧ Below w0.heap.size w0 w
theorem AllB.n {w : World} : AllB [] w := trivial
theorem AllB.c {w : World} {p : Nat} {cs : Array Value} {ty : TypeId} {fz : Nat × Nat} {bs : List BkT} (h : Bs w p cs ty fz) (t : AllB bs w) : AllB ((p, cs, ty, fz) :: bs) w := ⟨h, t⟩
theorem AllB.bl {w w' : World} (hb : Below w.heap.size w w') : ∀ {bs : List BkT}, AllB bs w → AllB bs w'
  | [], _ => trivial
  | _ :: _, h => ⟨Bs.bl h.1 hb, AllB.bl hb h.2⟩
theorem Ok.keep {e : En} {w w' : World} (h : Ok e w) (hk : ∀ k, e.1 = some k → w'.heap[k]? = w.heap[k]?) (hs : w.heap.size ≤ w'.heap.size) : Ok e w' :=
  ⟨h.2.2 w' hk hs, fun k hk' => Nat.lt_of_lt_of_le (h.2.1 k hk') hs, fun w'' h1 h2 => h.2.2 w'' (fun k hk' => (h1 k hk').trans (hk k hk')) (Nat.le_trans hs h2)⟩
theorem AllE.keep {w w' : World} (row : Option Nat) (hg : ∀ k, k < w.heap.size → some k ≠ row → w'.heap[k]? = w.heap[k]?) (hs : w.heap.size ≤ w'.heap.size) : ∀ {bs : List En}, AllE bs w → (∀ f ∈ bs.map (·.1), ∀ k, f = some k → some k ≠ row) → AllE bs w'
  | [], _, _ => trivial
  | e :: t, h, hn => ⟨h.1.keep (fun k hk => hg k (h.1.2.1 k hk) (hn _ (List.mem_cons_self ..) k hk)) hs, AllE.keep row hg hs h.2 fun f hf => hn f (List.mem_cons_of_mem _ hf)⟩
theorem Ok.bx {w : World} {p : Nat} {cs : Array Value} {ty : TypeId} (h : Bs w p cs ty) : Ok (bx p cs ty) w := by
  refine ⟨h, fun k hk => ?_, fun w' hk _ => ?_⟩
  · obtain rfl : p = k := by simpa [Go.Proofs.YtlomgfgedkkhkaaGreatDoor.bx] using hk
    exact h.lt
  · show w'.heap[p]? = _
    rw [hk p rfl]; exact h
theorem AllE.lt {w : World} : ∀ {bs : List En}, AllE bs w → ∀ f ∈ bs.map (·.1), ∀ k, f = some k → k < w.heap.size
  | [], _, _, hf => nomatch hf
  | e :: t, h, f, hf => by
    rcases List.mem_cons.1 hf with rfl | hf
    · exact h.1.2.1
    · exact AllE.lt h.2 f hf
section
variable {w0 w w' : World} {bs t L : List En} {bx0 : En} {p : Nat} {cs cs' : Array Value} {ty : TypeId}
theorem St.nil (w : World) : St w [] w := ⟨trivial, List.Pairwise.nil, Below.refl _ _⟩
theorem St.b (h : St w0 bs w) : Below w0.heap.size w0 w := h.2.2
theorem St.k (h : St w0 bs w) : w0.heap.size ≤ w.heap.size := h.2.2.size
theorem St.bl (h : St w0 bs w) (hb : Below w.heap.size w w') : St w0 bs w' := ⟨h.1.keep none (fun k hk _ => hb.block k hk) hb.size fun f _ k _ hc => (by cases hc), h.2.1, tm h.2.2 hb⟩
theorem St.cons {e : En} (x : Ok e w) (hn : ∀ f ∈ bs.map (·.1), ∀ k, e.1 = some k → f ≠ some k) (h : St w0 bs w) : St w0 (e :: bs) w := ⟨⟨x, h.1⟩, List.pairwise_cons.2 ⟨fun f hf k hk => hn f hf k hk, h.2.1⟩, h.2.2⟩
theorem St.lt (h : St w0 bs w) : ∀ f ∈ bs.map (·.1), ∀ k, f = some k → k < w.heap.size := h.1.lt
theorem St.nw (h : St w0 bs w) (cs : Array Value) (ty : TypeId) : St w0 (bx w.heap.size cs ty :: bs) (w.alloc (.cells cs ty)) ∧ Below w.heap.size w (w.alloc (.cells cs ty)) ∧ Hid (w0.heap.size ≤ w.heap.size) := by
  obtain ⟨p, v, rfl, rfl, x, hb, k⟩ := newBox w cs ty h.k
  exact ⟨.cons (.bx x) (fun f hf k hk hc => by have h1 := h.lt f hf k hc; cases hk; exact Nat.lt_irrefl _ h1) (h.bl hb), hb, k⟩
/-- One of them changes; the others are left alone. -/
theorem AllE.st (row : Option Nat) {e' : En} (hg : ∀ k, k < w.heap.size → some k ≠ row → w'.heap[k]? = w.heap[k]?) (hsz : w.heap.size ≤ w'.heap.size) (x : Ok e' w') : ∀ {bs : List En} (i : Nat) {e : En}, AllE bs w → FD (bs.map (·.1)) → bs[i]? = some e → row = e.1 → AllE (bs.set i e') w'
  | [], i, _, _, _, hi, _ => by simp at hi
  | b :: t, 0, _, h, hn, hi, hr => by
    obtain rfl : b = _ := by simpa using hi
    exact ⟨x, AllE.keep row hg hsz h.2 fun f hf k hk hc => (List.pairwise_cons.1 hn).1 f hf k (hr.symm.trans hc.symm) hk⟩
  | b :: t, i + 1, e, h, hn, hi, hr => by
    have hi' : t[i]? = some e := by simpa using hi
    have hm : e.1 ∈ t.map (·.1) := List.mem_map.2 ⟨_, List.mem_of_getElem? hi', rfl⟩
    exact ⟨h.1.keep (fun k hk => hg k (h.1.2.1 k hk) fun hc => (List.pairwise_cons.1 hn).1 _ hm k hk (by rw [← hr]; exact hc.symm)) hsz, AllE.st row hg hsz x i h.2 (List.pairwise_cons.1 hn).2 hi' hr⟩
theorem FD.st {N : Nat} {e' : En} : ∀ {bs : List En} (i : Nat) {e : En}, FD (bs.map (·.1)) → (∀ f ∈ bs.map (·.1), ∀ k, f = some k → k < N) → bs[i]? = some e → (∀ k, e'.1 = some k → e.1 = some k ∨ N ≤ k) → FD ((bs.set i e').map (·.1))
  | [], i, _, _, _, hi, _ => by simp at hi
  | b :: t, 0, _, hn, hl, hi, hf => by
    obtain rfl : b = _ := by simpa using hi
    refine List.pairwise_cons.2 ⟨fun f hf' k hk hc => ?_, (List.pairwise_cons.1 hn).2⟩
    rcases hf k hk with h | h
    · exact (List.pairwise_cons.1 hn).1 f hf' k h hc
    · have := hl f (List.mem_cons_of_mem _ hf') k hc; omega
  | b :: t, i + 1, e, hn, hl, hi, hf => by
    have hi' : t[i]? = some e := by simpa using hi
    have hm : e.1 ∈ t.map (·.1) := List.mem_map.2 ⟨_, List.mem_of_getElem? hi', rfl⟩
    refine List.pairwise_cons.2 ⟨fun f hf' k hk hc => ?_, FD.st i (List.pairwise_cons.1 hn).2 (fun f h => hl f (List.mem_cons_of_mem _ h)) hi' hf⟩
    obtain ⟨g, hg, rfl⟩ := List.mem_map.1 hf'
    rcases List.mem_or_eq_of_mem_set hg with h | rfl
    · exact (List.pairwise_cons.1 hn).1 _ (List.mem_map.2 ⟨g, h, rfl⟩) k hk hc
    · rcases hf k hc with h | h
      · exact (List.pairwise_cons.1 hn).1 _ hm k hk h
      · have := hl b.1 (List.mem_cons_self ..) k hk; omega
theorem St.st {e e' : En} (h : St w0 bs w) (i : Nat) (hi : bs[i]? = some e) (hg : ∀ k, k < w.heap.size → some k ≠ e.1 → w'.heap[k]? = w.heap[k]?) (hsz : w.heap.size ≤ w'.heap.size) (x : Ok e' w') (hf : ∀ k, e'.1 = some k → e.1 = some k ∨ w.heap.size ≤ k) (hb : Below w0.heap.size w0 w') : St w0 (bs.set i e') w' :=
  ⟨AllE.st e.1 hg hsz x i h.1 h.2.1 hi rfl, FD.st i h.2.1 h.lt hi hf, hb⟩
theorem St.stb (h : St w0 bs w) (i : Nat) (hi : bs[i]? = some (bx p cs ty)) (hk : Hid (w0.heap.size ≤ p)) (x : Bs w' p cs' ty) (ho : Only p w w') : St w0 (bs.set i (bx p cs' ty)) w' :=
  h.st i hi (fun k _ hne => ho.block k fun e => hne (by rw [e]; rfl)) (Nat.le_of_eq ho.size.symm) (.bx x) (fun k hk => .inl hk) (belowOnly h.2.2 ho hk)
variable {b0 b1 b2 b3 b4 b5 b6 b7 b8 b9 b10 b11 b12 b13 b14 b15 b16 b17 b18 b19 b20 b21 b22 b23 b24 b25 b26 b27 b28 b29 b30 b31 : En}
theorem St.g0 (h : St w0 (bx p cs ty :: t) w) : Bs w p cs ty := h.1.1.1
theorem St.g1 (h : St w0 (b0 :: bx p cs ty :: t) w) : Bs w p cs ty := h.1.2.1.1
theorem St.g2 (h : St w0 (b0 :: b1 :: bx p cs ty :: t) w) : Bs w p cs ty := h.1.2.2.1.1
theorem St.u0 (h : St w0 (bx p cs ty :: t) w) (hk : Hid (w0.heap.size ≤ p)) (x : Bs w' p cs' ty) (ho : Only p w w') : St w0 (bx p cs' ty :: t) w' := h.stb 0 rfl hk x ho
theorem St.u1 (h : St w0 (b0 :: bx p cs ty :: t) w) (hk : Hid (w0.heap.size ≤ p)) (x : Bs w' p cs' ty) (ho : Only p w w') : St w0 (b0 :: bx p cs' ty :: t) w' := h.stb 1 rfl hk x ho
theorem St.u2 (h : St w0 (b0 :: b1 :: bx p cs ty :: t) w) (hk : Hid (w0.heap.size ≤ p)) (x : Bs w' p cs' ty) (ho : Only p w w') : St w0 (b0 :: b1 :: bx p cs' ty :: t) w' := h.stb 2 rfl hk x ho
end
/-- What an operation must leave behind: E of the world, G of what goes on. -/
def Stp (P : Program) (o : Oper) (a : Act) (w : World) (B : Exit → Act → World → Prop) (E : World → Prop) (G : Act → World → Prop) : Prop :=
  ∀ K : Act → World → Prop, (∀ a' w', a'.defers = a.defers → E w' → G a' w' → K a' w') → o.wp P a w K B
section
variable {P : Program} {o : Oper} {a : Act} {w w0 : World} {B : Exit → Act → World → Prop} {E : World → Prop} {G : Act → World → Prop} {bs bs' : List En}
theorem Stp.al {cs : Array Value} {ty : TypeId} {a' : Nat → Act} (hs : St w0 bs w)
    (h : ∀ p w', St w0 (bx p cs ty :: bs) w' → Below w.heap.size w w' → Hid (w0.heap.size ≤ p) → G (a' p) w')
    (h1 : ∀ (K : Act → World → Prop) (p : Nat), w.heap.size = p → K (a' p) (w.alloc (.cells cs ty)) → o.wp P a w K B := by intro K p e hK; go_big_op; exact hK)
    (e : ∀ p w', St w0 (bx p cs ty :: bs) w' → Below w.heap.size w w' → E w' := by exact fun _ _ _ _ => trivial)
    (hd : ∀ p, (a' p).defers = a.defers := by exact fun _ => rfl) : Stp P o a w B E G := fun K hK => by
  obtain ⟨h2, h3, h4⟩ := hs.nw cs ty
  exact h1 K _ rfl (hK _ _ (hd _) (e _ _ h2 h3) (h _ _ h2 h3 h4))
theorem Stp.r0 {a' : Act} (h : G a' w) (h1 : ∀ K : Act → World → Prop, K a' w → o.wp P a w K B := by intro K hK; go_big_op; exact hK) (e : E w := by exact trivial) (hd : a'.defers = a.defers := by rfl) : Stp P o a w B E G := fun K hK => h1 K (hK _ _ hd e h)
theorem Stp.mv {a' : Act} (h : G a' w) (h1 : ∀ K : Act → World → Prop, K a' w → o.wp P a w K B := by intro K hK; go_big_move; exact hK) (e : E w := by exact trivial) (hd : a'.defers = a.defers := by rfl) : Stp P o a w B E G := fun K hK => h1 K (hK _ _ hd e h)
theorem Stp.r2 {J K : Prop} {a' : Act} (x : J ∧ K) (h : G a' w) (h1 : J ∧ K → ∀ K : Act → World → Prop, K a' w → o.wp P a w K B := by intro x K hK; obtain ⟨d0, d1⟩ := x; go_big_op; exact hK) (e : E w := by exact trivial) (hd : a'.defers = a.defers := by rfl) : Stp P o a w B E G := fun K hK => h1 x K (hK _ _ hd e h)
theorem Stp.r4 {J K L M : Prop} {a' : Act} (x : J ∧ K ∧ L ∧ M) (h : G a' w) (h1 : J ∧ K ∧ L ∧ M → ∀ K : Act → World → Prop, K a' w → o.wp P a w K B := by intro x K hK; obtain ⟨d0, d1, d2, d3⟩ := x; go_big_op; exact hK) (e : E w := by exact trivial) (hd : a'.defers = a.defers := by rfl) : Stp P o a w B E G := fun K hK => h1 x K (hK _ _ hd e h)
theorem Stp.s2 {b : Nat} {d0 d1 c0 c1 : Value} {ty : TypeId} {a' : Act} (x : Bs w b #[d0, d1] ty) (hu : ∀ w', Bs w' b #[c0, c1] ty → Only b w w' → St w0 bs' w')
    (h : ∀ w', St w0 bs' w' → NoD w b → Only b w w' → G a' w')
    (h1 : w.cell? ⟨b, 0, none⟩ = some d0 → w.cell? ⟨b, 1, none⟩ = some d1 → w.frozen? ⟨b, 0, none⟩ = false → w.frozen? ⟨b, 1, none⟩ = false → ∀ K : Act → World → Prop, K a' ((w.setCell ⟨b, 0, none⟩ c0).setCell ⟨b, 1, none⟩ c1) → o.wp P a w K B := by intro d0 d1 f0 f1 K hK; go_big_op; exact hK)
    (e : ∀ w', St w0 bs' w' → E w' := by exact fun _ _ => trivial) (hd : a'.defers = a.defers := by rfl) (hn : (#[d0, d1] : Array Value).toList.all nd = true := by rfl) (ht : (ty == 56) = false := by rfl) : Stp P o a w B E G := fun K hK => by
  obtain ⟨v, rfl, h2, h3⟩ := x.set2 c0 c1
  exact h1 (x.cell 0 rfl) (x.cell 1 rfl) (x.free 0) (x.free 1) K (hK _ _ hd (e _ (hu _ h2 h3)) (h _ (hu _ h2 h3) (x.nod hn ht) h3))
theorem Stp.s4 {b : Nat} {d0 d1 d2 d3 c0 c1 c2 c3 : Value} {ty : TypeId} {a' : Act} (x : Bs w b #[d0, d1, d2, d3] ty) (hu : ∀ w', Bs w' b #[c0, c1, c2, c3] ty → Only b w w' → St w0 bs' w')
    (h : ∀ w', St w0 bs' w' → NoD w b → Only b w w' → G a' w')
    (h1 : w.cell? ⟨b, 0, none⟩ = some d0 → w.cell? ⟨b, 1, none⟩ = some d1 → w.cell? ⟨b, 2, none⟩ = some d2 → w.cell? ⟨b, 3, none⟩ = some d3 → w.frozen? ⟨b, 0, none⟩ = false → w.frozen? ⟨b, 1, none⟩ = false → w.frozen? ⟨b, 2, none⟩ = false → w.frozen? ⟨b, 3, none⟩ = false → ∀ K : Act → World → Prop, K a' ((((w.setCell ⟨b, 0, none⟩ c0).setCell ⟨b, 1, none⟩ c1).setCell ⟨b, 2, none⟩ c2).setCell ⟨b, 3, none⟩ c3) → o.wp P a w K B := by intro d0 d1 d2 d3 f0 f1 f2 f3 K hK; go_big_op; exact hK)
    (e : ∀ w', St w0 bs' w' → E w' := by exact fun _ _ => trivial) (hd : a'.defers = a.defers := by rfl) (hn : (#[d0, d1, d2, d3] : Array Value).toList.all nd = true := by rfl) (ht : (ty == 56) = false := by rfl) : Stp P o a w B E G := fun K hK => by
  obtain ⟨v, rfl, h2, h3⟩ := x.set4 c0 c1 c2 c3
  exact h1 (x.cell 0 rfl) (x.cell 1 rfl) (x.cell 2 rfl) (x.cell 3 rfl) (x.free 0) (x.free 1) (x.free 2) (x.free 3) K (hK _ _ hd (e _ (hu _ h2 h3)) (h _ (hu _ h2 h3) (x.nod hn ht) h3))
end
section
variable {P : Program} {l : List Oper} {Q : Act → World → Prop} {a : Act} {w w0 : World} {o : Oper} {k : Nat} {C : World → Prop} {ob : Nat → Obj} {B : Nat} {Gs : List (World → Prop)} {CL : List Nat} {bad : List (Nat × Nat)} {bs : List En}
theorem sq {rest : List Nat} (h : Stp P o a w bot (fun _ => True) (wpSq P l Q rest)) (hi : nthO l k = some o := by rfl) (hw : Region.wanted o (yielded l.toArray a.tmps) = true := by kernel_rfl) : wpSq P l Q (k :: rest) a w := wpSq_call hi hw fun K hK => h K fun a' w' h1 _ h3 => hK a' w' h1 h3
theorem tl {rest : List Nat} (h : Stp P o a w bot (keepL bad k 0 Gs) (wpTail P l Gs bad Q rest)) (hi : nthO l k = some o := by rfl) (hw : Region.wanted o (yielded l.toArray a.tmps) = true := by kernel_rfl) : wpTail P l Gs bad Q (k :: rest) a w := wpTail_call hi hw fun K hK => h K hK
theorem sk {rest : List Nat} {a' : Act} (hn : wpSq P l Q rest a' w) (hi : nthO l k = some o := by rfl) (hw : Region.wanted o (yielded l.toArray a.tmps) = false := by kernel_rfl) (hp : a.put o.dst undef = a' := by unfold Act.put; simp only [List.setIfInBounds_toArray, List.set_cons_succ, List.set_cons_zero]; rfl) : wpSq P l Q (k :: rest) a w := wpSq_skip hi hw hp hn
variable {rest : List (Nat × Bool)} {F0 : List Nat}
theorem fl (h : ∀ w', Below w.heap.size w w' → Stp P o a w' bot (fun w'' => Below w'.heap.size w' w'' ∧ C w'') (wpFl P l C Gs CL ob F0 B Q rest)) (hi : nthO l k = some o := by rfl) (hw : Region.wanted o (yielded l.toArray a.tmps) = true := by kernel_rfl) : wpFl P l C Gs CL ob F0 B Q ((k, true) :: rest) a w := wpFl_call hi hw fun w' hb _ K hK => h w' hb K fun a' w'' h1 h2 h3 => hK a' w'' h1 h2.1 h2.2 h3
theorem f0 {G : World → Prop} {a' : Act} (hn : wpFl P l C Gs CL ob F0 B Q rest a' w) (hG : nthG Gs (CL.getD k 99) = G := by rfl) (hi : nthO l k = some o := by rfl) (h1 : ∀ (w' : World) (K : Act → World → Prop), K a' w' → o.wp P a w' K bot := by intro w' K hK; go_big_op; exact hK)
    (hw : Region.wanted o (yielded l.toArray a.tmps) = true := by kernel_rfl) (hv : isV o = true := by kernel_rfl) (hb : inB o.dst a = true := by kernel_rfl) (hp : a.put o.dst (slotOf o.dst a') = a' := by kernel_rfl) : wpFl P l C Gs CL ob F0 B Q ((k, false) :: rest) a w :=
  wpFl_ld hG hi (fun w' _ => h1 w') hw hv hb hp hn
theorem fmv {G : World → Prop} {a' : Act} (hn : wpFl P l C Gs CL ob F0 B Q rest a' w) (hG : nthG Gs (CL.getD k 99) = G := by rfl) (hi : nthO l k = some o := by rfl) (h1 : ∀ (w' : World) (K : Act → World → Prop), K a' w' → o.wp P a w' K bot := by intro w' K hK; go_big_move; exact hK)
    (hw : Region.wanted o (yielded l.toArray a.tmps) = true := by kernel_rfl) (hv : isV o = true := by kernel_rfl) (hb : inB o.dst a = true := by kernel_rfl) (hp : a.put o.dst (slotOf o.dst a') = a' := by kernel_rfl) : wpFl P l C Gs CL ob F0 B Q ((k, false) :: rest) a w :=
  wpFl_ld hG hi (fun w' _ => h1 w') hw hv hb hp hn
theorem f2 {b : Nat} {c0 c1 : Value} {ty : TypeId} {fz : Nat × Nat} {a' : Act} (hn : wpFl P l C Gs CL ob F0 B Q rest a' w) (hG : nthG Gs (CL.getD k 99) = BG (b, #[c0, c1], ty, fz) := by rfl) (hi : nthO l k = some o := by rfl) (h1 : ∀ w' : World, w'.cell? ⟨b, 0, none⟩ = some c0 → w'.cell? ⟨b, 1, none⟩ = some c1 → ∀ K : Act → World → Prop, K a' w' → o.wp P a w' K bot := by intro w' d0 d1 K hK; go_big_op; exact hK)
    (hw : Region.wanted o (yielded l.toArray a.tmps) = true := by kernel_rfl) (hv : isV o = true := by kernel_rfl) (hb : inB o.dst a = true := by kernel_rfl) (hp : a.put o.dst (slotOf o.dst a') = a' := by kernel_rfl) : wpFl P l C Gs CL ob F0 B Q ((k, false) :: rest) a w :=
  wpFl_ld hG hi (fun w' hC => h1 w' (Bs.cell hC 0 rfl) (Bs.cell hC 1 rfl)) hw hv hb hp hn
theorem f4 {b : Nat} {c0 c1 c2 c3 : Value} {ty : TypeId} {fz : Nat × Nat} {a' : Act} (hn : wpFl P l C Gs CL ob F0 B Q rest a' w) (hG : nthG Gs (CL.getD k 99) = BG (b, #[c0, c1, c2, c3], ty, fz) := by rfl) (hi : nthO l k = some o := by rfl) (h1 : ∀ w' : World, w'.cell? ⟨b, 0, none⟩ = some c0 → w'.cell? ⟨b, 1, none⟩ = some c1 → w'.cell? ⟨b, 2, none⟩ = some c2 → w'.cell? ⟨b, 3, none⟩ = some c3 → ∀ K : Act → World → Prop, K a' w' → o.wp P a w' K bot := by intro w' d0 d1 d2 d3 K hK; go_big_op; exact hK)
    (hw : Region.wanted o (yielded l.toArray a.tmps) = true := by kernel_rfl) (hv : isV o = true := by kernel_rfl) (hb : inB o.dst a = true := by kernel_rfl) (hp : a.put o.dst (slotOf o.dst a') = a' := by kernel_rfl) : wpFl P l C Gs CL ob F0 B Q ((k, false) :: rest) a w :=
  wpFl_ld hG hi (fun w' hC => h1 w' (Bs.cell hC 0 rfl) (Bs.cell hC 1 rfl) (Bs.cell hC 2 rfl) (Bs.cell hC 3 rfl)) hw hv hb hp hn
theorem fb {G : World → Prop} {a' : Act} (hn : wpFl P l C Gs CL ob F0 B Q rest a' w) (hG : nthG Gs (CL.getD k 99) = G := by rfl) (hi : nthO l k = some o := by rfl) (h1 : ∀ (w' : World) (K : Act → World → Prop), K a' w' → o.wp P a w' K bot := by intro w' K hK; go_big_op; exact hK)
    (hw : Region.wanted o (yielded l.toArray a.tmps) = true := by kernel_rfl) (hv : isL o = true := by kernel_rfl) (hb : inB o.dst a = true := by kernel_rfl) (hp : a.put o.dst (slotOf o.dst a') = a' := by kernel_rfl) : wpFl P l C Gs CL ob F0 B Q ((k, false) :: rest) a w :=
  wpFl_ldb hG hi (fun w' _ => h1 w') hw hv hb hp hn
theorem e0 {a' : Act} (hs : St w0 bs w) (h : ∀ w', St w0 bs w' → Below w.heap.size w w' → Q a' w') (ha : putF l (fun j => some ((fun _ => 0) j)) [] a = a' := by simp only [putF]; rfl) : wpFl P l C Gs CL ob [] B Q [] a w :=
  wpFl_end (a' := fun _ => a') (fun _ => ha) fun w' _ hb _ _ _ => h w' (hs.bl hb) hb
theorem wp_region_f4 {id : Nat} {Q : Exit → Act → World → Prop} (plan1 : List (Nat × Bool)) (plan2 : List Nat) (F0 : List Nat) (ob : Nat → Obj) (CL : List Nat) (bad : List (Nat × Nat)) {bs : List BkT} (hC : AllB bs w) (hl : ∀ j ∈ F0, Lays P l ob j) 
    (h : ∀ w', Below w.heap.size w w' → wpFl P l (AllB bs) (bs.map BG) CL ob F0 w'.heap.size (wpTail P l (bs.map BG) bad (Q .normal) plan2) plan1 a w')
    (hm : P.follows .mixedOrders = true := by kernel_rfl) (hs : Region.noSelect l.toArray = true := by kernel_rfl)
    (hlen : plan1.length + F0.length + plan2.length = l.length := by kernel_rfl) (hok : flOK .any l plan2 (plan1.length + F0.length) (Array.replicate l.length false) plan1 F0 = true := by kernel_rfl) (hpa : planApart l F0 plan1 = true := by kernel_rfl) (hwt : waits .any l CL bad plan1 = true := by kernel_rfl) (hnb : notBad bad plan1 F0 = true := by kernel_rfl) (hsu : sundry l F0 = true := by kernel_rfl) (hnd : F0.Nodup := by decide) : (Code.region id l.toArray true).wp P Q a w :=
  wp_region_fl plan1 plan2 F0 ob CL bad (AllB bs) (bs.map BG) hm hs hlen hok hpa hwt hnb hsu hnd hl (fun _ _ hC => hC.alloc) (fun _ hC => hC.get) (hC.bl (Below.refl _ _).drew) (h _ (Below.refl _ _).drew)
theorem rg {id : Nat} {Q : Exit → Act → World → Prop} (plan : List Nat) (h : wpSq P l (Q .normal) plan a w) (hp : List.range l.length = plan := by kernel_rfl) : (Code.region id l.toArray false).wp P Q a w := wp_region_sq plan hp h
end
section
variable {w : World} {va vb : Value} {x y u v : Int} {l m k n : Nat}
set_option maxHeartbeats 4000000 in
set_option maxRecDepth 20000 in
theorem gMul_any (ha : PN w va x l y m) (hq : PN w vb u k v n) (hl : l ≤ 40000000) (hm : m ≤ 40000000) (hk : k ≤ 40000000) (hn : n ≤ 40000000) :
    Calls Tryz.prog 24 #[va, vb] w fun e w' => ∃ r, e = .returned r ∧ PC w' r (x * u - y * v) (x * v + y * u) ∧ Below w.heap.size w w' := by
  obtain ⟨n_0a, o_0a, k_0a, c_0a, n_0b, o_0b, k_0b, c_0b, rfl, ha1, ha2⟩ := ha
  obtain ⟨n_1a, o_1a, k_1a, c_1a, n_1b, o_1b, k_1b, c_1b, rfl, hq1, hq2⟩ := hq
  go_enter Tryz.func24, Tryz.ntmps24
  have hs := St.nil w
  refine wp_seq_k ?_
  intro K1 hK1
  refine rg [0, 1, 2] ?_
  refine sq ?_
  refine .al hs ?_; clear hs; intro p_b1 w_1 hs n1 kb_b1
  refine sq ?_
  refine .al hs ?_; clear hs; intro p_b2 w_2 hs n2 kb_b2
  refine sq ?_
  refine .al hs ?_; clear hs; intro p_b3 w_3 hs n3 kb_b3
  apply wpSq_end
  refine hK1 _ _ ?_
  refine wp_seq_k ?_
  intro K2 hK2
  refine wp_region_f4 [(0, false), (1, false), (2, false), (3, false), (5, false), (6, false), (7, false), (8, false), (11, false), (12, false), (13, false), (14, false), (16, false), (17, false), (18, false), (19, false), (4, true), (9, true), (10, true), (15, true), (20, true), (21, true), (22, false)] [23] [] (fun _ => default) [99, 0, 99, 1, 99, 99, 0, 99, 1, 99, 99, 99, 0, 99, 1, 99, 99, 0, 99, 1, 99, 99, 99, 99] [] (.c hs.g2 (.c hs.g1 .n)) fn fun w_4 n4 => ?_
  replace hs := hs.bl n4
  refine f0 ?_
  refine f4 ?_
  refine f0 ?_
  refine f4 ?_
  refine f0 ?_
  refine f4 ?_
  refine f0 ?_
  refine f4 ?_
  refine f0 ?_
  refine f4 ?_
  refine f0 ?_
  refine f4 ?_
  refine f0 ?_
  refine f4 ?_
  refine f0 ?_
  refine f4 ?_
  refine fl fun w_5 n5 => ?_
  replace hs := hs.bl n5
  intro K hK
  have k0_5 := ((((kb n1).b n2).b n3).b n4).b n5
  replace ha1 := ha1.k k0_5
  replace hq1 := hq1.k k0_5
  go_big_op
  go_fit (zmul_any ha1 hq1 (by omega) (by omega) )
  rintro e w_6 ⟨v_g1, rfl, g1, hb_6⟩
  replace hs := hs.bl hb_6
  replace g1 := g1.rd
  obtain ⟨n_g1, o_g1, k_g1, c_g1, rfl⟩ := g1.open2
  have Lg1 := hide (g1.lenOf (zlen_mul (ha1.len) (hq1.len)))
  refine hK _ _ rfl ⟨hb_6, (And.intro hs.g2 (And.intro hs.g1 trivial))⟩ ?_
  clear hK K
  refine fl fun w_7 n7 => ?_
  replace hs := hs.bl n7
  intro K hK
  have k0_7 := (k0_5.b hb_6).b n7
  replace ha2 := ha2.k k0_7
  replace hq2 := hq2.k k0_7
  go_big_op
  go_fit (zmul_any ha2 hq2 (by omega) (by omega) )
  rintro e w_8 ⟨v_g2, rfl, g2, hb_8⟩
  replace hs := hs.bl hb_8
  replace g2 := g2.rd
  obtain ⟨n_g2, o_g2, k_g2, c_g2, rfl⟩ := g2.open2
  have Lg2 := hide (g2.lenOf (zlen_mul (ha2.len) (hq2.len)))
  refine hK _ _ rfl ⟨hb_8, (And.intro hs.g2 (And.intro hs.g1 trivial))⟩ ?_
  clear hK K
  refine fl fun w_9 n9 => ?_
  replace hs := hs.bl n9
  intro K hK
  have k6_9 := ((kb n7).b hb_8).b n9
  replace g1 := g1.k k6_9
  have k8_9 := kb n9
  replace g2 := g2.k k8_9
  go_big_op
  go_fit (zsub_any (g1.zn Lg1.out) (g2.zn Lg2.out) (by omega) (by omega) )
  rintro e w_10 ⟨v_g3, rfl, g3, hb_10⟩
  replace hs := hs.bl hb_10
  replace g3 := g3.rd
  obtain ⟨n_g3, o_g3, k_g3, c_g3, rfl⟩ := g3.open2
  have Lg3 := hide (g3.lenOf (zlen_sub (Lg1.out) (Lg2.out)))
  refine hK _ _ rfl ⟨hb_10, (And.intro hs.g2 (And.intro hs.g1 trivial))⟩ ?_
  clear hK K
  refine fl fun w_11 n11 => ?_
  replace hs := hs.bl n11
  intro K hK
  have k5_11 := (((((kb hb_6).b n7).b hb_8).b n9).b hb_10).b n11
  replace ha1 := ha1.k k5_11
  have k7_11 := (((kb hb_8).b n9).b hb_10).b n11
  replace hq2 := hq2.k k7_11
  go_big_op
  go_fit (zmul_any ha1 hq2 (by omega) (by omega) )
  rintro e w_12 ⟨v_g4, rfl, g4, hb_12⟩
  replace hs := hs.bl hb_12
  replace g4 := g4.rd
  obtain ⟨n_g4, o_g4, k_g4, c_g4, rfl⟩ := g4.open2
  have Lg4 := hide (g4.lenOf (zlen_mul (ha1.len) (hq2.len)))
  refine hK _ _ rfl ⟨hb_12, (And.intro hs.g2 (And.intro hs.g1 trivial))⟩ ?_
  clear hK K
  refine fl fun w_13 n13 => ?_
  replace hs := hs.bl n13
  intro K hK
  have k7_13 := (k7_11.b hb_12).b n13
  replace ha2 := ha2.k k7_13
  have k5_13 := (k5_11.b hb_12).b n13
  replace hq1 := hq1.k k5_13
  go_big_op
  go_fit (zmul_any ha2 hq1 (by omega) (by omega) )
  rintro e w_14 ⟨v_g5, rfl, g5, hb_14⟩
  replace hs := hs.bl hb_14
  replace g5 := g5.rd
  obtain ⟨n_g5, o_g5, k_g5, c_g5, rfl⟩ := g5.open2
  have Lg5 := hide (g5.lenOf (zlen_mul (ha2.len) (hq1.len)))
  refine hK _ _ rfl ⟨hb_14, (And.intro hs.g2 (And.intro hs.g1 trivial))⟩ ?_
  clear hK K
  refine fl fun w_15 n15 => ?_
  replace hs := hs.bl n15
  intro K hK
  have k12_15 := ((kb n13).b hb_14).b n15
  replace g4 := g4.k k12_15
  have k14_15 := kb n15
  replace g5 := g5.k k14_15
  go_big_op
  go_fit (zadd_any (g4.zn Lg4.out) (g5.zn Lg5.out) (by omega) (by omega) )
  rintro e w_16 ⟨v_g6, rfl, g6, hb_16⟩
  replace hs := hs.bl hb_16
  replace g6 := g6.rd
  obtain ⟨n_g6, o_g6, k_g6, c_g6, rfl⟩ := g6.open2
  have Lg6 := hide (g6.lenOf (zlen_add (Lg4.out) (Lg5.out)))
  refine hK _ _ rfl ⟨hb_16, (And.intro hs.g2 (And.intro hs.g1 trivial))⟩ ?_
  clear hK K
  refine f0 ?_
  refine e0 hs ?_; clear hs; intro w_17 hs n17
  refine tl ?_
  refine .s4 hs.g0 (fun _ => hs.u0 kb_b3) ?_ (e := fun _ hs => (And.intro hs.g2 (And.intro hs.g1 True.intro))); clear hs; intro w_18 hs hd18 ho18
  apply wpTail_end
  refine hK2 _ _ ?_
  refine wp_ret ?_
  try dsimp only [Exit.then, Exit.inBlock]
  obtain ⟨r0_0, r0_1, r0_2, r0_3⟩ := hs.g0.f4
  refine bodyPost_ret (v := (.agg #[.bool n_g3, .slice o_g3 k_g3 c_g3, .bool n_g6, .slice o_g6 k_g6 c_g6])) (by simp [results, Tryz.results24, go_sem, r0_0, r0_1, r0_2, r0_3]) rfl ?_
  have k10_18 := (((((((kb n11).b hb_12).b n13).b hb_14).b n15).b hb_16).b n17).o hd18 ho18
  replace g3 := g3.k k10_18
  have k16_18 := (kb n17).o hd18 ho18
  replace g6 := g6.k k16_18
  exact ⟨_, rfl, .mk' g3 g6, hs.b⟩
end
end Go.Proofs.YtlomgfgedkkhkaaGreatDoor
