/- Walks that name each world and each block: blocks of any cells, and the steps of a region, one by one. -/
import Derived.Test.YtcoodkdalblalaaGreatDoorZ9
import Derived.Maps.AppendAt
namespace Go.Proofs.YtcoodkdalblalaaGreatDoor
open Go Go.RowKit Dig
/-- Block b holds these cells; where nothing of it is frozen it may be written. -/
def Bs (w : World) (b : Nat) (cs : Array Value) (ty : TypeId) (fz : Nat × Nat := (0, 0)) : Prop := w.heap[b]? = some (.cells cs ty fz)
abbrev BkT := Nat × Array Value × TypeId × (Nat × Nat)
theorem Bs.lt {w : World} {b : Nat} {cs : Array Value} {ty : TypeId} {fz : Nat × Nat} (h : Bs w b cs ty fz) : b < w.heap.size := by
  unfold Bs at h
  rcases Nat.lt_or_ge b w.heap.size with hb | hb
  · exact hb
  · rw [Array.getElem?_eq_none hb] at h; cases h
theorem Bs.below {w w' : World} {b : Nat} {cs : Array Value} {ty : TypeId} {fz : Nat × Nat} (h : Bs w b cs ty fz) {B : Nat} (hb : Below B w w') (hB : w.heap.size ≤ B) : Bs w' b cs ty fz := by
  have := h.lt
  unfold Bs; rw [hb.block b (by omega)]; exact h
theorem Bs.cell {w : World} {b : Nat} {cs : Array Value} {ty : TypeId} {fz : Nat × Nat} (h : Bs w b cs ty fz) (i : Nat) {c : Value} (hc : cs[i]? = some c) : w.cell? ⟨b, i, none⟩ = some c := by
  unfold Bs at h
  simp only [World.cell?, h]
  exact hc
theorem Bs.bl {w w' : World} {b : Nat} {cs : Array Value} {ty : TypeId} {fz : Nat × Nat} (h : Bs w b cs ty fz) (hb : Below w.heap.size w w') : Bs w' b cs ty fz := h.below hb (Nat.le_refl _)
theorem ZN.bl {w w' : World} {v : Value} {z : Int} {l : Nat} (h : ZN w v z l) (hb : Below w.heap.size w w') : ZN w' v z l := h.below hb (Nat.le_refl _)
theorem ZC.bl {w w' : World} {v : Value} {z : Int} (h : ZC w v z) (hb : Below w.heap.size w w') : ZC w' v z := h.below hb (Nat.le_refl _)
theorem Bs.f1 {w : World} {b : Nat} {c0 : Value} {ty : TypeId} (h : Bs w b #[c0] ty) : w.cell? ⟨b, 0, none⟩ = some c0 := h.cell 0 rfl
theorem Bs.f2 {w : World} {b : Nat} {c0 c1 : Value} {ty : TypeId} (h : Bs w b #[c0, c1] ty) : w.cell? ⟨b, 0, none⟩ = some c0 ∧ w.cell? ⟨b, 1, none⟩ = some c1 := ⟨h.cell 0 rfl, h.cell 1 rfl⟩
theorem Bs.f4 {w : World} {b : Nat} {c0 c1 c2 c3 : Value} {ty : TypeId} (h : Bs w b #[c0, c1, c2, c3] ty) :
    w.cell? ⟨b, 0, none⟩ = some c0 ∧ w.cell? ⟨b, 1, none⟩ = some c1 ∧ w.cell? ⟨b, 2, none⟩ = some c2 ∧ w.cell? ⟨b, 3, none⟩ = some c3 := ⟨h.cell 0 rfl, h.cell 1 rfl, h.cell 2 rfl, h.cell 3 rfl⟩
theorem Bs.free {w : World} {b : Nat} {cs : Array Value} {ty : TypeId} (h : Bs w b cs ty) (i : Nat) : w.frozen? ⟨b, i, none⟩ = false := by
  unfold Bs at h
  simp [World.frozen?, h]
theorem Bs.set {w : World} {b : Nat} {cs : Array Value} {ty : TypeId} (h : Bs w b cs ty) (i : Nat) (v : Value) : Bs (w.setCell ⟨b, i, none⟩ v) b (cs.setIfInBounds i v) ty := by
  unfold Bs at h ⊢
  simp only [World.setCell, Array.getElem?_modify, h]
  simp
theorem Bs.frame {w w' : World} {b c : Nat} {cs : Array Value} {ty : TypeId} {fz : Nat × Nat} (h : Bs w b cs ty fz) (ho : Only c w w') (hne : Hid (b ≠ c)) : Bs w' b cs ty fz := by
  unfold Bs; rw [ho.block b hne]; exact h
section
variable {P : Program} {Q : Exit → Act → World → Prop} {a : Act} {w : World}
theorem ct {c : Operand} {x y : Code} {v : Bool} (h : x.wp P Q a w) (he : a.eval c = .bool v := by rfl) (hv : v = true := by first | rfl | assumption | (simp; done) | exact decide_eq_true (by omega) | omega) : (Code.cond c x y).wp P Q a w := wp_cond_true (he.trans (congrArg Value.bool hv)) h
theorem cf {c : Operand} {x y : Code} {v : Bool} (h : y.wp P Q a w) (he : a.eval c = .bool v := by rfl) (hv : v = false := by first | rfl | assumption | (simp; done) | exact decide_eq_false (by omega) | omega) : (Code.cond c x y).wp P Q a w := wp_cond_false (he.trans (congrArg Value.bool hv)) h
end
def BG (b : BkT) (w : World) : Prop := Bs w b.1 b.2.1 b.2.2.1 b.2.2.2
/-- All these blocks. -/
def AllB : List BkT → World → Prop
  | [], _ => True
  | b :: t, w => BG b w ∧ AllB t w
theorem Bs.alloc {w : World} {b : Nat} {cs : Array Value} {ty : TypeId} {fz : Nat × Nat} (h : Bs w b cs ty fz) (o : Obj) : Bs (w.alloc o) b cs ty fz := h.bl ((Below.refl _ _).alloc (Nat.le_refl _) o)
theorem AllB.alloc {o : Obj} : ∀ {bs : List BkT} {w : World}, AllB bs w → AllB bs (w.alloc o)
  | [], _, _ => trivial
  | _ :: _, _, h => ⟨Bs.alloc h.1 o, AllB.alloc h.2⟩
theorem AllB.get : ∀ {bs : List BkT} {w : World}, AllB bs w → ∀ G ∈ bs.map BG, G w
  | [], _, _, _, hG => nomatch hG
  | b :: t, w, h, G, hG => by
    rcases List.mem_cons.1 hG with rfl | hG
    · exact h.1
    · exact AllB.get h.2 G hG
def setAll (w : World) (b : Nat) : List (Nat × Value) → World
  | [] => w
  | (i, v) :: l => setAll (w.setCell ⟨b, i, none⟩ v) b l
def setArr (cs : Array Value) : List (Nat × Value) → Array Value
  | [] => cs
  | (i, v) :: l => setArr (cs.setIfInBounds i v) l
theorem Bs.sets {w : World} {b : Nat} {cs : Array Value} {ty : TypeId} (h : Bs w b cs ty) : ∀ l : List (Nat × Value), Bs (setAll w b l) b (setArr cs l) ty ∧ Only b w (setAll w b l) := by
  intro l
  induction l generalizing w cs with
  | nil => exact ⟨h, Only.refl _ _⟩
  | cons x l ih =>
    obtain ⟨i, v⟩ := x
    obtain ⟨h1, h2⟩ := ih (h.set i v)
    exact ⟨h1, ((Only.refl b w).setCell i v).trans h2⟩
theorem Bs.setN {w : World} {b : Nat} {cs : Array Value} {ty : TypeId} (h : Bs w b cs ty) (l : List (Nat × Value)) : ∃ w', setAll w b l = w' ∧ Bs w' b (setArr cs l) ty ∧ Only b w w' :=
  ⟨_, rfl, (h.sets l).1, (h.sets l).2⟩
theorem Bs.set1 {w : World} {b : Nat} {d0 : Value} {ty : TypeId} (h : Bs w b #[d0] ty) (c0 : Value) : ∃ w', w.setCell ⟨b, 0, none⟩ c0 = w' ∧ Bs w' b #[c0] ty ∧ Only b w w' := h.setN [(0, c0)]
theorem Bs.set2 {w : World} {b : Nat} {d0 d1 : Value} {ty : TypeId} (h : Bs w b #[d0, d1] ty) (c0 c1 : Value) : ∃ w', (w.setCell ⟨b, 0, none⟩ c0).setCell ⟨b, 1, none⟩ c1 = w' ∧ Bs w' b #[c0, c1] ty ∧ Only b w w' := h.setN [(0, c0), (1, c1)]
theorem Bs.set4 {w : World} {b : Nat} {d0 d1 d2 d3 : Value} {ty : TypeId} (h : Bs w b #[d0, d1, d2, d3] ty) (c0 c1 c2 c3 : Value) :
    ∃ w', (((w.setCell ⟨b, 0, none⟩ c0).setCell ⟨b, 1, none⟩ c1).setCell ⟨b, 2, none⟩ c2).setCell ⟨b, 3, none⟩ c3 = w' ∧ Bs w' b #[c0, c1, c2, c3] ty ∧ Only b w w' := h.setN [(0, c0), (1, c1), (2, c2), (3, c3)]
/-- A new block gets a name, and so does the world. -/
theorem newBox (w : World) (cs : Array Value) (ty : TypeId) {B : Nat} (hB : B ≤ w.heap.size) : ∃ p w', w.heap.size = p ∧ w.alloc (.cells cs ty) = w' ∧ Bs w' p cs ty ∧ Below w.heap.size w w' ∧ Hid (B ≤ p) := by
  refine ⟨_, _, rfl, rfl, ?_, (Below.refl _ _).alloc (Nat.le_refl _) _, hB⟩
  show (w.heap.push _)[w.heap.size]? = _
  simp
def nd : Value → Bool
  | .int .u32 _ => false
  | _ => true
/-- A block that bears no digit. -/
def NoD (w : World) (b : Nat) : Prop := (∀ off (d : Nat), w.cell? ⟨b, off, none⟩ ≠ some (.int .u32 (d : Int))) ∧ ∀ xs, ¬ Row w b xs
theorem Bs.nod {w : World} {b : Nat} {cs : Array Value} {ty : TypeId} (h : Bs w b cs ty) (hc : cs.toList.all nd = true) (ht : (ty == 105) = false) : NoD w b := by
  have h0 := h
  unfold Bs at h0
  refine ⟨fun off d hcell => ?_, fun xs hr => ?_⟩
  · simp only [World.cell?, h0] at hcell
    have h2 : cs[off]? = some (.int .u32 (d : Int)) := by simpa using hcell
    have := List.all_eq_true.1 hc _ (Array.mem_toList_iff.2 (Array.mem_of_getElem? h2))
    simp [nd] at this
  · have h3 := hr.1
    rw [h0] at h3
    simp only [Option.some.injEq, Obj.cells.injEq] at h3
    have := h3.2.1
    rw [this] at ht
    simp at ht
theorem Cells.fr {w w' : World} {b : Nat} {oa : Option Addr} {ds : List Nat} (h : Cells w oa ds) (hb : NoD w b) (ho : Only b w w') : Cells w' oa ds := by
  by_cases hne : ds = []
  · exact .inl hne
  · obtain ⟨c, off, e, hc⟩ := h.resolve_left hne
    refine h.only ho ?_
    intro a ha
    rw [e] at ha
    cases ha
    intro hcb
    have := hc 0 (List.length_pos_iff.2 hne)
    simp only at hcb
    rw [hcb] at this
    exact hb.1 _ _ this
theorem tm {w w1 w2 : World} (h : Below w.heap.size w w1) (h' : Below w1.heap.size w1 w2) : Below w.heap.size w w2 := h.trans (h'.mono h.size)
/-- What is read as digits is read so still. -/
def Kp (w w' : World) : Prop := ∀ (oa : Option Addr) (ds : List Nat), Cells w oa ds → Cells w' oa ds
theorem kb {w w' : World} (h : Below w.heap.size w w') : Kp w w' := fun _ _ hc => hc.below h (Nat.le_refl _)
theorem ko {w w' : World} {b : Nat} (hn : NoD w b) (ho : Only b w w') : Kp w w' := fun _ _ hc => hc.fr hn ho
theorem Kp.b {w w1 w2 : World} (h : Kp w w1) (h' : Below w1.heap.size w1 w2) : Kp w w2 := fun _ _ hc => (h _ _ hc).below h' (Nat.le_refl _)
theorem Kp.o {w w1 w2 : World} {b : Nat} (h : Kp w w1) (hn : NoD w1 b) (ho : Only b w1 w2) : Kp w w2 := fun _ _ hc => (h _ _ hc).fr hn ho
theorem Rd.k {w w' : World} {v : Value} {ds : List Nat} (h : Rd w v ds) (k : Kp w w') : Rd w' v ds := by
  obtain ⟨oa, cap, hv, hc, ok, hx⟩ := h
  exact ⟨oa, cap, hv, hc, ok, k _ _ hx⟩
theorem ZN.k {w w' : World} {v : Value} {z : Int} {l : Nat} (h : ZN w v z l) (k : Kp w w') : ZN w' v z l := by
  obtain ⟨neg, s, xs, hv, hr, hz, hl⟩ := h
  exact ⟨neg, s, xs, hv, hr.k k, hz, hl⟩
theorem ZC.k {w w' : World} {v : Value} {z : Int} (h : ZC w v z) (k : Kp w w') : ZC w' v z := by
  obtain ⟨s, hv, hr⟩ := h
  exact ⟨s, hv, hr.k k⟩
theorem belowOnly {B b : Nat} {u w w' : World} (h : Below B u w) (ho : Only b w w') (hb : Hid (B ≤ b)) : Below B u w' := h.trans (ho.below hb)
theorem ZC.lenOf {w : World} {v : Value} {z : Int} (_ : ZC w v z) {l : Nat} (hl : (dig z.natAbs).length ≤ l) : (dig z.natAbs).length ≤ l := hl
theorem ZN.lenOf {w : World} {v : Value} {z : Int} {m : Nat} (_ : ZN w v z m) {l : Nat} (hl : (dig z.natAbs).length ≤ l) : (dig z.natAbs).length ≤ l := hl
theorem zc_zero (w : World) : ZC w (.agg #[.bool false, .slice none 0 0]) 0 := (zo_zero w 0).rd
/-- Two whole numbers in one struct. -/
def PN (w : World) (v : Value) (x : Int) (l : Nat) (y : Int) (m : Nat) : Prop :=
  ∃ n1 o1 k1 c1 n2 o2 k2 c2, v = .agg #[.bool n1, .slice o1 k1 c1, .bool n2, .slice o2 k2 c2] ∧ ZN w (.agg #[.bool n1, .slice o1 k1 c1]) x l ∧ ZN w (.agg #[.bool n2, .slice o2 k2 c2]) y m
def PC (w : World) (v : Value) (x y : Int) : Prop :=
  ∃ n1 o1 k1 c1 n2 o2 k2 c2, v = .agg #[.bool n1, .slice o1 k1 c1, .bool n2, .slice o2 k2 c2] ∧ ZC w (.agg #[.bool n1, .slice o1 k1 c1]) x ∧ ZC w (.agg #[.bool n2, .slice o2 k2 c2]) y
theorem PN.mk' {w : World} {n1 n2 : Bool} {o1 o2 : Option Addr} {k1 c1 k2 c2 : Nat} {x y : Int} {l m : Nat} (h1 : ZN w (.agg #[.bool n1, .slice o1 k1 c1]) x l) (h2 : ZN w (.agg #[.bool n2, .slice o2 k2 c2]) y m) :
    PN w (.agg #[.bool n1, .slice o1 k1 c1, .bool n2, .slice o2 k2 c2]) x l y m := ⟨_, _, _, _, _, _, _, _, rfl, h1, h2⟩
theorem PC.mk' {w : World} {n1 n2 : Bool} {o1 o2 : Option Addr} {k1 c1 k2 c2 : Nat} {x y : Int} (h1 : ZC w (.agg #[.bool n1, .slice o1 k1 c1]) x) (h2 : ZC w (.agg #[.bool n2, .slice o2 k2 c2]) y) :
    PC w (.agg #[.bool n1, .slice o1 k1 c1, .bool n2, .slice o2 k2 c2]) x y := ⟨_, _, _, _, _, _, _, _, rfl, h1, h2⟩
theorem PN.len1 {w : World} {v : Value} {x y : Int} {l m : Nat} (h : PN w v x l y m) : (dig x.natAbs).length ≤ l := by
  obtain ⟨_, _, _, _, _, _, _, _, _, h1, _⟩ := h
  exact h1.len
theorem PN.len2 {w : World} {v : Value} {x y : Int} {l m : Nat} (h : PN w v x l y m) : (dig y.natAbs).length ≤ m := by
  obtain ⟨_, _, _, _, _, _, _, _, _, _, h1⟩ := h
  exact h1.len
theorem PC.pn {w : World} {v : Value} {x y : Int} (h : PC w v x y) {l m : Nat} (hl : (dig x.natAbs).length ≤ l) (hm : (dig y.natAbs).length ≤ m) : PN w v x l y m := by
  obtain ⟨n1, o1, k1, c1, n2, o2, k2, c2, rfl, h1, h2⟩ := h
  exact .mk' (h1.zn hl) (h2.zn hm)
theorem zlen_0 : (dig (Int.natAbs 0)).length ≤ 1 := by rw [show dig (Int.natAbs 0) = [] from dig_eq_nil.2 rfl]; exact Nat.zero_le _
theorem zlen_neg {x : Int} {l : Nat} (h : (dig x.natAbs).length ≤ l) : (dig (-x).natAbs).length ≤ l := by rw [Int.natAbs_neg]; exact h
theorem zlen_gcd {x y : Int} {l m : Nat} (hx : (dig x.natAbs).length ≤ l) (hy : (dig y.natAbs).length ≤ m) : (dig (Int.gcd x y : Int).natAbs).length ≤ l + m := by
  rw [Int.natAbs_natCast]
  by_cases h : y = 0
  · subst h
    rw [Int.gcd_zero_right]; exact Nat.le_trans hx (Nat.le_add_right _ _)
  · exact Nat.le_trans (len_le (Nat.le_of_dvd (Int.natAbs_pos.2 h) (Int.gcd_dvd_natAbs_right x y)) hy) (Nat.le_add_left _ _)
section
variable {P : Program} {l : List Oper} {Q : Act → World → Prop} {a : Act} {w : World} {o : Oper}
/-- A region that does not draw, operation by operation. -/
def wpSq (P : Program) (l : List Oper) (Q : Act → World → Prop) : List Nat → Act → World → Prop
  | [], a, w => Q a w
  | k :: rest, a, w => ∃ o, nthO l k = some o ∧ if Region.wanted o (yielded l.toArray a.tmps) then Calm P o a w (fun v w' => wpSq P l Q rest (a.put o.dst v) w') else wpSq P l Q rest (a.put o.dst undef) w
theorem wpOpsIn_of_sq {r : Option Nat} {m : Nat} {Q' : Exit → Act → World → Prop} (hQ : ∀ a w, Q a w → Q' .normal a w) : ∀ (plan : List Nat) (a : Act) (w : World), wpSq P l Q plan a w → wpOpsIn (FW r) m P l.toArray Q' plan a w
  | [], a, w, h => hQ _ _ h
  | k :: rest, a, w, h => by
    obtain ⟨o, ho, h⟩ := h
    unfold wpOpsIn
    rw [show l.toArray[k]? = some o by rw [← nthO_eq] at ho; simpa using ho]
    simp only
    split
    · rename_i hw
      simp only [hw, if_true] at h
      exact Calm.wpIn (h.mono fun v w' h3 => wpOpsIn_of_sq hQ rest _ _ h3)
    · rename_i hw
      simp only [hw] at h
      exact ⟨fun _ _ => trivial, wpOpsIn_of_sq hQ rest _ _ h⟩
theorem wpIn_region_sq {r : Option Nat} {m : Nat} {id : Nat} {Q : Exit → Act → World → Prop} (plan : List Nat) (hp : List.range l.length = plan) (h : wpSq P l (Q .normal) plan a w) : (Code.region id l.toArray false).wpIn (FW r) m P Q a w := by
  refine wpIn_region ?_
  rw [show l.toArray.size = l.length by simp, hp]
  exact wpOpsIn_of_sq (fun _ _ h => h) _ _ _ h
theorem wp_region_sq {id : Nat} {Q : Exit → Act → World → Prop} (plan : List Nat) (hp : List.range l.length = plan) (h : wpSq P l (Q .normal) plan a w) : (Code.region id l.toArray false).wp P Q a w :=
  (wpIn_wide (n := 0)).1 (show (Code.region id l.toArray false).wpIn (FW none) 0 P Q a w from wpIn_region_sq plan hp h)
theorem wpSq_call {k : Nat} {rest : List Nat} (hi : nthO l k = some o) (hw : Region.wanted o (yielded l.toArray a.tmps) = true)
    (h : ∀ K : Act → World → Prop, (∀ a' w', a'.defers = a.defers → wpSq P l Q rest a' w' → K a' w') → o.wp P a w K bot) : wpSq P l Q (k :: rest) a w := by
  refine ⟨o, hi, ?_⟩
  rw [if_pos hw]
  have h := h (fun a' w' => a'.defers = a.defers ∧ wpSq P l Q rest a' w') (fun a' w' h1 h2 => ⟨h1, h2⟩)
  unfold Oper.wp at h
  unfold Calm
  generalize (execOp a.eval o).run P w = r at *
  cases r with
  | ok n w2 =>
    cases n <;> simp only [Oper.upon] at h ⊢
    case value => exact h.2
    case skip => exact h.2
    case defer =>
      have h1 := h.1
      unfold Act.put at h1
      split at h1 <;> simp at h1
    case enter =>
      refine h.mono fun e w'' he => ?_
      cases e with
      | returned v => exact ⟨v, rfl, he.2⟩
      | panicked c => exact he.elim
      | outgrown => obtain ⟨_, _, hf⟩ := he; exact hf.elim
    case row => exact Rows.mono h fun v w'' he => he.2
  | halt x w2 => cases x <;> simp only [Oper.upon, bot] at h
theorem wpSq_skip {k : Nat} {rest : List Nat} {a' : Act} (hi : nthO l k = some o) (hw : Region.wanted o (yielded l.toArray a.tmps) = false) (hp : a.put o.dst undef = a')
    (hn : wpSq P l Q rest a' w) : wpSq P l Q (k :: rest) a w :=
  ⟨o, hi, by rw [if_neg (by rw [hw]; exact Bool.false_ne_true), hp]; exact hn⟩
theorem fn {ob : Nat → Obj} : ∀ j ∈ ([] : List Nat), Lays P l ob j := fun _ h => nomatch h
theorem fm {ob : Nat → Obj} {j : Nat} {F : List Nat} (h : ∀ i ∈ F, Lays P l ob i) (hj : Lays P l ob j := by exact ⟨_, rfl, rfl, fun ρ w => by unfold ptr; simp [go_sem]⟩) : ∀ i ∈ j :: F, Lays P l ob i := fun i hi => by
  rcases List.mem_cons.1 hi with rfl | hi
  · exact hj
  · exact h i hi
theorem wpSq_end (h : Q a w) : wpSq P l Q [] a w := h
end
def isL (o : Oper) : Bool :=
  match o.op with
  | .call c => match c.callee with | .builtin .len => true | _ => false
  | _ => false
theorem isL_value {ρ : Operand → Value} {o : Oper} (h : isL o = true) : ∃ s : Sem Value, execOp ρ o = (do pure (.value (← s))) := by
  unfold isL at h
  unfold execOp
  generalize o.op = p at *
  cases p
  case call c =>
    simp only at h ⊢
    obtain ⟨callee, args, tys⟩ := c
    cases callee
    case builtin b => cases b <;> first | (exfalso; simp at h; done) | exact ⟨_, rfl⟩
    all_goals (exfalso; simp at h)
  all_goals (exfalso; simp at h)
theorem isL_run {P : Program} {ρ : Operand → Value} {o : Oper} (h : isL o = true) {n : Next} {w w' : World} (hr : (execOp ρ o).run P w = .ok n w') : ∃ v, n = .value v := by
  obtain ⟨s, hs⟩ := isL_value (ρ := ρ) h
  rw [hs] at hr
  rw [Sem.run_bind] at hr
  generalize s.run P w = r at hr
  cases r with
  | ok v w'' => simp only [Result.andThen, Sem.run_pure, Result.ok.injEq] at hr; exact ⟨v, hr.1.symm⟩
  | halt e w'' => simp only [Result.andThen, reduceCtorEq] at hr
section
variable {P : Program} {l : List Oper} {C : World → Prop} {Q : Act → World → Prop} {a : Act} {w : World} {rest : List (Nat × Bool)} {o : Oper} {ob : Nat → Obj} {F0 : List Nat} {B : Nat} {Gs : List (World → Prop)} {CL : List Nat} {bad : List (Nat × Nat)}
theorem wpFl_ldb {i : Nat} {a' : Act} {G : World → Prop} (hG : nthG Gs (CL.getD i 99) = G) (hi : nthO l i = some o) (h1 : ∀ w', G w' → ∀ K : Act → World → Prop, K a' w' → o.wp P a w' K bot)
    (hw : Region.wanted o (yielded l.toArray a.tmps) = true) (hv : isL o = true) (hb : inB o.dst a = true) (hp : a.put o.dst (slotOf o.dst a') = a')
    (hn : wpFl P l C Gs CL ob F0 B Q rest a' w) : wpFl P l C Gs CL ob F0 B Q ((i, false) :: rest) a w := by
  subst hG
  refine ⟨o, slotOf o.dst a', hi, .inl ⟨hw, fun w' hC => ?_⟩, by rw [hp]; exact hn⟩
  have h := h1 w' hC (fun a2 w2 => a2 = a' ∧ w2 = w') ⟨rfl, rfl⟩
  unfold Oper.wp at h
  have hr := fun n w2 => isL_run (P := P) (ρ := a.eval) (n := n) (w := w') (w' := w2) hv
  generalize (execOp a.eval o).run P w' = r at *
  cases r with
  | ok n w2 =>
    obtain ⟨v, rfl⟩ := hr n w2 rfl
    simp only [Oper.upon] at h
    obtain ⟨h2, rfl⟩ := h
    rw [← h2, slotOf_put hb]
  | halt x w2 => cases x <;> simp only [Oper.upon, bot] at h
end
set_option linter.unusedVariables false
/-- What stands in memory: a block's number, where it has one, and what is said of it. -/
def En := Option Nat × (World → Prop)
def bx (p : Nat) (cs : Array Value) (ty : TypeId) : En := (some p, fun w => Bs w p cs ty)
/-- A slice of the call's own: n elements of sz cells; its row bears no digit. -/
def Lst (w : World) (B : Nat) (ty : TypeId) (sz : Nat) (v : Value) (n : Nat) (xs : List Value) : Prop := w.ownsRow B ty sz v n xs ∧ ∀ k cur, v.ownBlock = some k → w.heap[k]? = some (.cells cur ty (0, 0)) → cur.toList.all nd = true
def ls (B : Nat) (ty : TypeId) (sz : Nat) (v : Value) (n : Nat) (xs : List Value) : En := (v.ownBlock, fun w => Lst w B ty sz v n xs)
/-- It stands, and does so as long as its block is left alone. -/
def Ok (e : En) (w : World) : Prop := e.2 w ∧ (∀ k, e.1 = some k → k < w.heap.size) ∧ ∀ w', (∀ k, e.1 = some k → w'.heap[k]? = w.heap[k]?) → w.heap.size ≤ w'.heap.size → e.2 w'
def AllE : List En → World → Prop
  | [], _ => True
  | e :: t, w => Ok e w ∧ AllE t w
/-- No two of them are one. -/
def FD (l : List (Option Nat)) : Prop := l.Pairwise fun a b => ∀ k, a = some k → b ≠ some k
/-- All these stand, apart from each other, and what lay below is as it was. -/
def St (w0 : World) (bs : List En) (w : World) : Prop := AllE bs w ∧ FD (bs.map (·.1)) ∧ Below w0.heap.size w0 w
theorem AllB.n {w : World} : AllB [] w := trivial
theorem AllB.c {w : World} {p : Nat} {cs : Array Value} {ty : TypeId} {fz : Nat × Nat} {bs : List BkT} (h : Bs w p cs ty fz) (t : AllB bs w) : AllB ((p, cs, ty, fz) :: bs) w := ⟨h, t⟩
theorem AllB.bl {w w' : World} (hb : Below w.heap.size w w') : ∀ {bs : List BkT}, AllB bs w → AllB bs w'
  | [], _ => trivial
  | _ :: _, h => ⟨Bs.bl h.1 hb, AllB.bl hb h.2⟩
theorem Ok.keep {e : En} {w w' : World} (h : Ok e w) (hk : ∀ k, e.1 = some k → w'.heap[k]? = w.heap[k]?) (hs : w.heap.size ≤ w'.heap.size) : Ok e w' :=
  ⟨h.2.2 w' hk hs, fun k hk' => Nat.lt_of_lt_of_le (h.2.1 k hk') hs, fun w'' h1 h2 => h.2.2 w'' (fun k hk' => (h1 k hk').trans (hk k hk')) (Nat.le_trans hs h2)⟩
theorem AllE.keep {w w' : World} (row : Option Nat) (hg : ∀ k, k < w.heap.size → some k ≠ row → w'.heap[k]? = w.heap[k]?) (hs : w.heap.size ≤ w'.heap.size) : ∀ {bs : List En}, AllE bs w → (∀ f ∈ bs.map (·.1), ∀ k, f = some k → some k ≠ row) → AllE bs w'
  | [], _, _ => trivial
  | e :: t, h, hn => ⟨h.1.keep (fun k hk => hg k (h.1.2.1 k hk) (hn _ (List.mem_cons_self ..) k hk)) hs, AllE.keep row hg hs h.2 fun f hf => hn f (List.mem_cons_of_mem _ hf)⟩
theorem Ok.bx {w : World} {p : Nat} {cs : Array Value} {ty : TypeId} (h : Bs w p cs ty) : Ok (bx p cs ty) w := by
  refine ⟨h, fun k hk => ?_, fun w' hk _ => ?_⟩
  · obtain rfl : p = k := by simpa [Go.Proofs.YtcoodkdalblalaaGreatDoor.bx] using hk
    exact h.lt
  · show w'.heap[p]? = _
    rw [hk p rfl]; exact h
theorem Ok.ls {w : World} {B : Nat} {ty : TypeId} {sz : Nat} {v : Value} {n : Nat} {xs : List Value} (h : Lst w B ty sz v n xs) : Ok (ls B ty sz v n xs) w := by
  refine ⟨h, fun k hk => (h.1.lt k hk).2, fun w' hk _ => ?_⟩
  refine ⟨⟨h.1.1, ?_⟩, fun k cur h1 h2 => h.2 k cur h1 (by rw [← hk k h1]; exact h2)⟩
  rcases h.1.2 with hn | ⟨g, cap, cur, rfl, hb, hgg, rest⟩
  · exact .inl hn
  · exact .inr ⟨g, cap, cur, rfl, hb, by rw [hk g rfl]; exact hgg, rest⟩
theorem AllE.lt {w : World} : ∀ {bs : List En}, AllE bs w → ∀ f ∈ bs.map (·.1), ∀ k, f = some k → k < w.heap.size
  | [], _, _, hf => nomatch hf
  | e :: t, h, f, hf => by
    rcases List.mem_cons.1 hf with rfl | hf
    · exact h.1.2.1
    · exact AllE.lt h.2 f hf
theorem AllE.sub {w : World} {bs L : List En} (hs : bs.Sublist L) : AllE L w → AllE bs w := by
  induction hs with
  | slnil => exact id
  | cons a _ ih => exact fun h => ih h.2
  | cons_cons a _ ih => exact fun h => ⟨h.1, ih h.2⟩
section
variable {w0 w w' : World} {bs t L : List En} {bx0 : En} {p : Nat} {cs cs' : Array Value} {ty : TypeId}
theorem St.nil (w : World) : St w [] w := ⟨trivial, List.Pairwise.nil, Below.refl _ _⟩
theorem St.b (h : St w0 bs w) : Below w0.heap.size w0 w := h.2.2
theorem St.k (h : St w0 bs w) : w0.heap.size ≤ w.heap.size := h.2.2.size
theorem St.d (h : St w0 bs w) : FD (bs.map (·.1)) := h.2.1
theorem St.bl (h : St w0 bs w) (hb : Below w.heap.size w w') : St w0 bs w' := ⟨h.1.keep none (fun k hk _ => hb.block k hk) hb.size fun f _ k _ hc => (by cases hc), h.2.1, tm h.2.2 hb⟩
theorem St.cons {e : En} (x : Ok e w) (hn : ∀ f ∈ bs.map (·.1), ∀ k, e.1 = some k → f ≠ some k) (h : St w0 bs w) : St w0 (e :: bs) w := ⟨⟨x, h.1⟩, List.pairwise_cons.2 ⟨fun f hf k hk => hn f hf k hk, h.2.1⟩, h.2.2⟩
theorem St.lt (h : St w0 bs w) : ∀ f ∈ bs.map (·.1), ∀ k, f = some k → k < w.heap.size := h.1.lt
theorem St.sub (h : St w0 L w) (hs : bs.Sublist L) : St w0 bs w := ⟨h.1.sub hs, List.Pairwise.sublist (hs.map _) h.2.1, h.2.2⟩
theorem St.nw (h : St w0 bs w) (cs : Array Value) (ty : TypeId) : St w0 (bx w.heap.size cs ty :: bs) (w.alloc (.cells cs ty)) ∧ Below w.heap.size w (w.alloc (.cells cs ty)) ∧ Hid (w0.heap.size ≤ w.heap.size) := by
  obtain ⟨p, v, rfl, rfl, x, hb, k⟩ := newBox w cs ty h.k
  exact ⟨.cons (.bx x) (fun f hf k hk hc => by have h1 := h.lt f hf k hc; cases hk; exact Nat.lt_irrefl _ h1) (h.bl hb), hb, k⟩
/-- One of them changes; the others are left alone. -/
theorem AllE.st (row : Option Nat) {e' : En} (hg : ∀ k, k < w.heap.size → some k ≠ row → w'.heap[k]? = w.heap[k]?) (hsz : w.heap.size ≤ w'.heap.size) (x : Ok e' w') : ∀ {bs : List En} (i : Nat) {e : En}, AllE bs w → FD (bs.map (·.1)) → bs[i]? = some e → row = e.1 → AllE (bs.set i e') w'
  | [], i, _, _, _, hi, _ => by simp at hi
  | b :: t, 0, _, h, hn, hi, hr => by
    obtain rfl : b = _ := by simpa using hi
    exact ⟨x, AllE.keep row hg hsz h.2 fun f hf k hk hc => (List.pairwise_cons.1 hn).1 f hf k (hr.symm.trans hc.symm) hk⟩
  | b :: t, i + 1, e, h, hn, hi, hr => by
    have hi' : t[i]? = some e := by simpa using hi
    have hm : e.1 ∈ t.map (·.1) := List.mem_map.2 ⟨_, List.mem_of_getElem? hi', rfl⟩
    exact ⟨h.1.keep (fun k hk => hg k (h.1.2.1 k hk) fun hc => (List.pairwise_cons.1 hn).1 _ hm k hk (by rw [← hr]; exact hc.symm)) hsz, AllE.st row hg hsz x i h.2 (List.pairwise_cons.1 hn).2 hi' hr⟩
theorem FD.st {N : Nat} {e' : En} : ∀ {bs : List En} (i : Nat) {e : En}, FD (bs.map (·.1)) → (∀ f ∈ bs.map (·.1), ∀ k, f = some k → k < N) → bs[i]? = some e → (∀ k, e'.1 = some k → e.1 = some k ∨ N ≤ k) → FD ((bs.set i e').map (·.1))
  | [], i, _, _, _, hi, _ => by simp at hi
  | b :: t, 0, _, hn, hl, hi, hf => by
    obtain rfl : b = _ := by simpa using hi
    refine List.pairwise_cons.2 ⟨fun f hf' k hk hc => ?_, (List.pairwise_cons.1 hn).2⟩
    rcases hf k hk with h | h
    · exact (List.pairwise_cons.1 hn).1 f hf' k h hc
    · have := hl f (List.mem_cons_of_mem _ hf') k hc; omega
  | b :: t, i + 1, e, hn, hl, hi, hf => by
    have hi' : t[i]? = some e := by simpa using hi
    have hm : e.1 ∈ t.map (·.1) := List.mem_map.2 ⟨_, List.mem_of_getElem? hi', rfl⟩
    refine List.pairwise_cons.2 ⟨fun f hf' k hk hc => ?_, FD.st i (List.pairwise_cons.1 hn).2 (fun f h => hl f (List.mem_cons_of_mem _ h)) hi' hf⟩
    obtain ⟨g, hg, rfl⟩ := List.mem_map.1 hf'
    rcases List.mem_or_eq_of_mem_set hg with h | rfl
    · exact (List.pairwise_cons.1 hn).1 _ (List.mem_map.2 ⟨g, h, rfl⟩) k hk hc
    · rcases hf k hc with h | h
      · exact (List.pairwise_cons.1 hn).1 _ hm k hk h
      · have := hl b.1 (List.mem_cons_self ..) k hk; omega
theorem St.st {e e' : En} (h : St w0 bs w) (i : Nat) (hi : bs[i]? = some e) (hg : ∀ k, k < w.heap.size → some k ≠ e.1 → w'.heap[k]? = w.heap[k]?) (hsz : w.heap.size ≤ w'.heap.size) (x : Ok e' w') (hf : ∀ k, e'.1 = some k → e.1 = some k ∨ w.heap.size ≤ k) (hb : Below w0.heap.size w0 w') : St w0 (bs.set i e') w' :=
  ⟨AllE.st e.1 hg hsz x i h.1 h.2.1 hi rfl, FD.st i h.2.1 h.lt hi hf, hb⟩
theorem St.stb (h : St w0 bs w) (i : Nat) (hi : bs[i]? = some (bx p cs ty)) (hk : Hid (w0.heap.size ≤ p)) (x : Bs w' p cs' ty) (ho : Only p w w') : St w0 (bs.set i (bx p cs' ty)) w' :=
  h.st i hi (fun k _ hne => ho.block k fun e => hne (by rw [e]; rfl)) (Nat.le_of_eq ho.size.symm) (.bx x) (fun k hk => .inl hk) (belowOnly h.2.2 ho hk)
variable {b0 b1 b2 b3 b4 b5 b6 b7 b8 b9 b10 b11 b12 b13 b14 b15 b16 b17 b18 b19 b20 b21 b22 b23 b24 b25 b26 b27 b28 b29 b30 b31 : En}
theorem St.g0 (h : St w0 (bx p cs ty :: t) w) : Bs w p cs ty := h.1.1.1
theorem St.g1 (h : St w0 (b0 :: bx p cs ty :: t) w) : Bs w p cs ty := h.1.2.1.1
theorem St.g2 (h : St w0 (b0 :: b1 :: bx p cs ty :: t) w) : Bs w p cs ty := h.1.2.2.1.1
theorem St.g3 (h : St w0 (b0 :: b1 :: b2 :: bx p cs ty :: t) w) : Bs w p cs ty := h.1.2.2.2.1.1
theorem St.g4 (h : St w0 (b0 :: b1 :: b2 :: b3 :: bx p cs ty :: t) w) : Bs w p cs ty := h.1.2.2.2.2.1.1
theorem St.g5 (h : St w0 (b0 :: b1 :: b2 :: b3 :: b4 :: bx p cs ty :: t) w) : Bs w p cs ty := h.1.2.2.2.2.2.1.1
theorem St.g6 (h : St w0 (b0 :: b1 :: b2 :: b3 :: b4 :: b5 :: bx p cs ty :: t) w) : Bs w p cs ty := h.1.2.2.2.2.2.2.1.1
theorem St.g7 (h : St w0 (b0 :: b1 :: b2 :: b3 :: b4 :: b5 :: b6 :: bx p cs ty :: t) w) : Bs w p cs ty := h.1.2.2.2.2.2.2.2.1.1
theorem St.u0 (h : St w0 (bx p cs ty :: t) w) (hk : Hid (w0.heap.size ≤ p)) (x : Bs w' p cs' ty) (ho : Only p w w') : St w0 (bx p cs' ty :: t) w' := h.stb 0 rfl hk x ho
theorem St.u1 (h : St w0 (b0 :: bx p cs ty :: t) w) (hk : Hid (w0.heap.size ≤ p)) (x : Bs w' p cs' ty) (ho : Only p w w') : St w0 (b0 :: bx p cs' ty :: t) w' := h.stb 1 rfl hk x ho
theorem St.u2 (h : St w0 (b0 :: b1 :: bx p cs ty :: t) w) (hk : Hid (w0.heap.size ≤ p)) (x : Bs w' p cs' ty) (ho : Only p w w') : St w0 (b0 :: b1 :: bx p cs' ty :: t) w' := h.stb 2 rfl hk x ho
theorem St.u3 (h : St w0 (b0 :: b1 :: b2 :: bx p cs ty :: t) w) (hk : Hid (w0.heap.size ≤ p)) (x : Bs w' p cs' ty) (ho : Only p w w') : St w0 (b0 :: b1 :: b2 :: bx p cs' ty :: t) w' := h.stb 3 rfl hk x ho
theorem St.u4 (h : St w0 (b0 :: b1 :: b2 :: b3 :: bx p cs ty :: t) w) (hk : Hid (w0.heap.size ≤ p)) (x : Bs w' p cs' ty) (ho : Only p w w') : St w0 (b0 :: b1 :: b2 :: b3 :: bx p cs' ty :: t) w' := h.stb 4 rfl hk x ho
theorem St.u5 (h : St w0 (b0 :: b1 :: b2 :: b3 :: b4 :: bx p cs ty :: t) w) (hk : Hid (w0.heap.size ≤ p)) (x : Bs w' p cs' ty) (ho : Only p w w') : St w0 (b0 :: b1 :: b2 :: b3 :: b4 :: bx p cs' ty :: t) w' := h.stb 5 rfl hk x ho
theorem St.u6 (h : St w0 (b0 :: b1 :: b2 :: b3 :: b4 :: b5 :: bx p cs ty :: t) w) (hk : Hid (w0.heap.size ≤ p)) (x : Bs w' p cs' ty) (ho : Only p w w') : St w0 (b0 :: b1 :: b2 :: b3 :: b4 :: b5 :: bx p cs' ty :: t) w' := h.stb 6 rfl hk x ho
theorem St.u7 (h : St w0 (b0 :: b1 :: b2 :: b3 :: b4 :: b5 :: b6 :: bx p cs ty :: t) w) (hk : Hid (w0.heap.size ≤ p)) (x : Bs w' p cs' ty) (ho : Only p w w') : St w0 (b0 :: b1 :: b2 :: b3 :: b4 :: b5 :: b6 :: bx p cs' ty :: t) w' := h.stb 7 rfl hk x ho
end
/-- What an operation must leave behind: E of the world, G of what goes on. -/
def Stp (P : Program) (o : Oper) (a : Act) (w : World) (B : Exit → Act → World → Prop) (E : World → Prop) (G : Act → World → Prop) : Prop :=
  ∀ K : Act → World → Prop, (∀ a' w', a'.defers = a.defers → E w' → G a' w' → K a' w') → o.wp P a w K B
section
variable {P : Program} {o : Oper} {a : Act} {w w0 : World} {B : Exit → Act → World → Prop} {E : World → Prop} {G : Act → World → Prop} {bs bs' : List En}
theorem Stp.al {cs : Array Value} {ty : TypeId} {a' : Nat → Act} (hs : St w0 bs w)
    (h : ∀ p w', St w0 (bx p cs ty :: bs) w' → Below w.heap.size w w' → Hid (w0.heap.size ≤ p) → G (a' p) w')
    (h1 : ∀ (K : Act → World → Prop) (p : Nat), w.heap.size = p → K (a' p) (w.alloc (.cells cs ty)) → o.wp P a w K B := by intro K p e hK; go_big_op; exact hK)
    (e : ∀ p w', St w0 (bx p cs ty :: bs) w' → Below w.heap.size w w' → E w' := by exact fun _ _ _ _ => trivial)
    (hd : ∀ p, (a' p).defers = a.defers := by exact fun _ => rfl) : Stp P o a w B E G := fun K hK => by
  obtain ⟨h2, h3, h4⟩ := hs.nw cs ty
  exact h1 K _ rfl (hK _ _ (hd _) (e _ _ h2 h3) (h _ _ h2 h3 h4))
theorem Stp.r0 {a' : Act} (h : G a' w) (h1 : ∀ K : Act → World → Prop, K a' w → o.wp P a w K B := by intro K hK; go_big_op; exact hK) (e : E w := by exact trivial) (hd : a'.defers = a.defers := by rfl) : Stp P o a w B E G := fun K hK => h1 K (hK _ _ hd e h)
theorem Stp.mv {a' : Act} (h : G a' w) (h1 : ∀ K : Act → World → Prop, K a' w → o.wp P a w K B := by intro K hK; go_big_move; exact hK) (e : E w := by exact trivial) (hd : a'.defers = a.defers := by rfl) : Stp P o a w B E G := fun K hK => h1 K (hK _ _ hd e h)
theorem Stp.r1 {J : Prop} {a' : Act} (x : J) (h : G a' w) (h1 : J → ∀ K : Act → World → Prop, K a' w → o.wp P a w K B := by intro x K hK; go_big_op; exact hK) (e : E w := by exact trivial) (hd : a'.defers = a.defers := by rfl) : Stp P o a w B E G := fun K hK => h1 x K (hK _ _ hd e h)
theorem Stp.r2 {J K : Prop} {a' : Act} (x : J ∧ K) (h : G a' w) (h1 : J ∧ K → ∀ K : Act → World → Prop, K a' w → o.wp P a w K B := by intro x K hK; obtain ⟨d0, d1⟩ := x; go_big_op; exact hK) (e : E w := by exact trivial) (hd : a'.defers = a.defers := by rfl) : Stp P o a w B E G := fun K hK => h1 x K (hK _ _ hd e h)
theorem Stp.r4 {J K L M : Prop} {a' : Act} (x : J ∧ K ∧ L ∧ M) (h : G a' w) (h1 : J ∧ K ∧ L ∧ M → ∀ K : Act → World → Prop, K a' w → o.wp P a w K B := by intro x K hK; obtain ⟨d0, d1, d2, d3⟩ := x; go_big_op; exact hK) (e : E w := by exact trivial) (hd : a'.defers = a.defers := by rfl) : Stp P o a w B E G := fun K hK => h1 x K (hK _ _ hd e h)
theorem Stp.s1 {b : Nat} {d0 c0 : Value} {ty : TypeId} {a' : Act} (x : Bs w b #[d0] ty) (hu : ∀ w', Bs w' b #[c0] ty → Only b w w' → St w0 bs' w')
    (h : ∀ w', St w0 bs' w' → NoD w b → Only b w w' → G a' w')
    (h1 : w.cell? ⟨b, 0, none⟩ = some d0 → w.frozen? ⟨b, 0, none⟩ = false → ∀ K : Act → World → Prop, K a' (w.setCell ⟨b, 0, none⟩ c0) → o.wp P a w K B := by intro d0 f0 K hK; go_big_op; exact hK)
    (e : ∀ w', St w0 bs' w' → E w' := by exact fun _ _ => trivial) (hd : a'.defers = a.defers := by rfl) (hn : (#[d0] : Array Value).toList.all nd = true := by rfl) (ht : (ty == 105) = false := by rfl) : Stp P o a w B E G := fun K hK => by
  obtain ⟨v, rfl, h2, h3⟩ := x.set1 c0
  exact h1 (x.cell 0 rfl) (x.free 0) K (hK _ _ hd (e _ (hu _ h2 h3)) (h _ (hu _ h2 h3) (x.nod hn ht) h3))
theorem Stp.s2 {b : Nat} {d0 d1 c0 c1 : Value} {ty : TypeId} {a' : Act} (x : Bs w b #[d0, d1] ty) (hu : ∀ w', Bs w' b #[c0, c1] ty → Only b w w' → St w0 bs' w')
    (h : ∀ w', St w0 bs' w' → NoD w b → Only b w w' → G a' w')
    (h1 : w.cell? ⟨b, 0, none⟩ = some d0 → w.cell? ⟨b, 1, none⟩ = some d1 → w.frozen? ⟨b, 0, none⟩ = false → w.frozen? ⟨b, 1, none⟩ = false → ∀ K : Act → World → Prop, K a' ((w.setCell ⟨b, 0, none⟩ c0).setCell ⟨b, 1, none⟩ c1) → o.wp P a w K B := by intro d0 d1 f0 f1 K hK; go_big_op; exact hK)
    (e : ∀ w', St w0 bs' w' → E w' := by exact fun _ _ => trivial) (hd : a'.defers = a.defers := by rfl) (hn : (#[d0, d1] : Array Value).toList.all nd = true := by rfl) (ht : (ty == 105) = false := by rfl) : Stp P o a w B E G := fun K hK => by
  obtain ⟨v, rfl, h2, h3⟩ := x.set2 c0 c1
  exact h1 (x.cell 0 rfl) (x.cell 1 rfl) (x.free 0) (x.free 1) K (hK _ _ hd (e _ (hu _ h2 h3)) (h _ (hu _ h2 h3) (x.nod hn ht) h3))
theorem Stp.s4 {b : Nat} {d0 d1 d2 d3 c0 c1 c2 c3 : Value} {ty : TypeId} {a' : Act} (x : Bs w b #[d0, d1, d2, d3] ty) (hu : ∀ w', Bs w' b #[c0, c1, c2, c3] ty → Only b w w' → St w0 bs' w')
    (h : ∀ w', St w0 bs' w' → NoD w b → Only b w w' → G a' w')
    (h1 : w.cell? ⟨b, 0, none⟩ = some d0 → w.cell? ⟨b, 1, none⟩ = some d1 → w.cell? ⟨b, 2, none⟩ = some d2 → w.cell? ⟨b, 3, none⟩ = some d3 → w.frozen? ⟨b, 0, none⟩ = false → w.frozen? ⟨b, 1, none⟩ = false → w.frozen? ⟨b, 2, none⟩ = false → w.frozen? ⟨b, 3, none⟩ = false → ∀ K : Act → World → Prop, K a' ((((w.setCell ⟨b, 0, none⟩ c0).setCell ⟨b, 1, none⟩ c1).setCell ⟨b, 2, none⟩ c2).setCell ⟨b, 3, none⟩ c3) → o.wp P a w K B := by intro d0 d1 d2 d3 f0 f1 f2 f3 K hK; go_big_op; exact hK)
    (e : ∀ w', St w0 bs' w' → E w' := by exact fun _ _ => trivial) (hd : a'.defers = a.defers := by rfl) (hn : (#[d0, d1, d2, d3] : Array Value).toList.all nd = true := by rfl) (ht : (ty == 105) = false := by rfl) : Stp P o a w B E G := fun K hK => by
  obtain ⟨v, rfl, h2, h3⟩ := x.set4 c0 c1 c2 c3
  exact h1 (x.cell 0 rfl) (x.cell 1 rfl) (x.cell 2 rfl) (x.cell 3 rfl) (x.free 0) (x.free 1) (x.free 2) (x.free 3) K (hK _ _ hd (e _ (hu _ h2 h3)) (h _ (hu _ h2 h3) (x.nod hn ht) h3))
end
section
variable {P : Program} {l : List Oper} {Q : Act → World → Prop} {a : Act} {w w0 : World} {o : Oper} {k : Nat} {C : World → Prop} {ob : Nat → Obj} {B : Nat} {Gs : List (World → Prop)} {CL : List Nat} {bad : List (Nat × Nat)} {bs : List En}
theorem sq {rest : List Nat} (h : Stp P o a w bot (fun _ => True) (wpSq P l Q rest)) (hi : nthO l k = some o := by rfl) (hw : Region.wanted o (yielded l.toArray a.tmps) = true := by kernel_rfl) : wpSq P l Q (k :: rest) a w := wpSq_call hi hw fun K hK => h K fun a' w' h1 _ h3 => hK a' w' h1 h3
theorem tl {rest : List Nat} (h : Stp P o a w bot (keepL bad k 0 Gs) (wpTail P l Gs bad Q rest)) (hi : nthO l k = some o := by rfl) (hw : Region.wanted o (yielded l.toArray a.tmps) = true := by kernel_rfl) : wpTail P l Gs bad Q (k :: rest) a w := wpTail_call hi hw fun K hK => h K hK
theorem sk {rest : List Nat} {a' : Act} (hn : wpSq P l Q rest a' w) (hi : nthO l k = some o := by rfl) (hw : Region.wanted o (yielded l.toArray a.tmps) = false := by kernel_rfl) (hp : a.put o.dst undef = a' := by unfold Act.put; simp only [List.setIfInBounds_toArray, List.set_cons_succ, List.set_cons_zero]; rfl) : wpSq P l Q (k :: rest) a w := wpSq_skip hi hw hp hn
variable {rest : List (Nat × Bool)} {F0 : List Nat}
theorem fl (h : ∀ w', Below w.heap.size w w' → Stp P o a w' bot (fun w'' => Below w'.heap.size w' w'' ∧ C w'') (wpFl P l C Gs CL ob F0 B Q rest)) (hi : nthO l k = some o := by rfl) (hw : Region.wanted o (yielded l.toArray a.tmps) = true := by kernel_rfl) : wpFl P l C Gs CL ob F0 B Q ((k, true) :: rest) a w := wpFl_call hi hw fun w' hb _ K hK => h w' hb K fun a' w'' h1 h2 h3 => hK a' w'' h1 h2.1 h2.2 h3
theorem fk {a' : Act} (hn : wpFl P l C Gs CL ob F0 B Q rest a' w) (hi : nthO l k = some o := by rfl) (hw : Region.wanted o (yielded l.toArray a.tmps) = false := by kernel_rfl) (hp : a.put o.dst undef = a' := by unfold Act.put; simp only [List.setIfInBounds_toArray, List.set_cons_succ, List.set_cons_zero]; rfl) : wpFl P l C Gs CL ob F0 B Q ((k, false) :: rest) a w := wpFl_skip hi hw hp hn
theorem f0 {G : World → Prop} {a' : Act} (hn : wpFl P l C Gs CL ob F0 B Q rest a' w) (hG : nthG Gs (CL.getD k 99) = G := by rfl) (hi : nthO l k = some o := by rfl) (h1 : ∀ (w' : World) (K : Act → World → Prop), K a' w' → o.wp P a w' K bot := by intro w' K hK; go_big_op; exact hK)
    (hw : Region.wanted o (yielded l.toArray a.tmps) = true := by kernel_rfl) (hv : isV o = true := by kernel_rfl) (hb : inB o.dst a = true := by kernel_rfl) (hp : a.put o.dst (slotOf o.dst a') = a' := by kernel_rfl) : wpFl P l C Gs CL ob F0 B Q ((k, false) :: rest) a w :=
  wpFl_ld hG hi (fun w' _ => h1 w') hw hv hb hp hn
theorem fmv {G : World → Prop} {a' : Act} (hn : wpFl P l C Gs CL ob F0 B Q rest a' w) (hG : nthG Gs (CL.getD k 99) = G := by rfl) (hi : nthO l k = some o := by rfl) (h1 : ∀ (w' : World) (K : Act → World → Prop), K a' w' → o.wp P a w' K bot := by intro w' K hK; go_big_move; exact hK)
    (hw : Region.wanted o (yielded l.toArray a.tmps) = true := by kernel_rfl) (hv : isV o = true := by kernel_rfl) (hb : inB o.dst a = true := by kernel_rfl) (hp : a.put o.dst (slotOf o.dst a') = a' := by kernel_rfl) : wpFl P l C Gs CL ob F0 B Q ((k, false) :: rest) a w :=
  wpFl_ld hG hi (fun w' _ => h1 w') hw hv hb hp hn
theorem f1 {b : Nat} {c0 : Value} {ty : TypeId} {fz : Nat × Nat} {a' : Act} (hn : wpFl P l C Gs CL ob F0 B Q rest a' w) (hG : nthG Gs (CL.getD k 99) = BG (b, #[c0], ty, fz) := by rfl) (hi : nthO l k = some o := by rfl) (h1 : ∀ w' : World, w'.cell? ⟨b, 0, none⟩ = some c0 → ∀ K : Act → World → Prop, K a' w' → o.wp P a w' K bot := by intro w' d0 K hK; go_big_op; exact hK)
    (hw : Region.wanted o (yielded l.toArray a.tmps) = true := by kernel_rfl) (hv : isV o = true := by kernel_rfl) (hb : inB o.dst a = true := by kernel_rfl) (hp : a.put o.dst (slotOf o.dst a') = a' := by kernel_rfl) : wpFl P l C Gs CL ob F0 B Q ((k, false) :: rest) a w :=
  wpFl_ld hG hi (fun w' hC => h1 w' (Bs.cell hC 0 rfl)) hw hv hb hp hn
theorem f2 {b : Nat} {c0 c1 : Value} {ty : TypeId} {fz : Nat × Nat} {a' : Act} (hn : wpFl P l C Gs CL ob F0 B Q rest a' w) (hG : nthG Gs (CL.getD k 99) = BG (b, #[c0, c1], ty, fz) := by rfl) (hi : nthO l k = some o := by rfl) (h1 : ∀ w' : World, w'.cell? ⟨b, 0, none⟩ = some c0 → w'.cell? ⟨b, 1, none⟩ = some c1 → ∀ K : Act → World → Prop, K a' w' → o.wp P a w' K bot := by intro w' d0 d1 K hK; go_big_op; exact hK)
    (hw : Region.wanted o (yielded l.toArray a.tmps) = true := by kernel_rfl) (hv : isV o = true := by kernel_rfl) (hb : inB o.dst a = true := by kernel_rfl) (hp : a.put o.dst (slotOf o.dst a') = a' := by kernel_rfl) : wpFl P l C Gs CL ob F0 B Q ((k, false) :: rest) a w :=
  wpFl_ld hG hi (fun w' hC => h1 w' (Bs.cell hC 0 rfl) (Bs.cell hC 1 rfl)) hw hv hb hp hn
theorem f4 {b : Nat} {c0 c1 c2 c3 : Value} {ty : TypeId} {fz : Nat × Nat} {a' : Act} (hn : wpFl P l C Gs CL ob F0 B Q rest a' w) (hG : nthG Gs (CL.getD k 99) = BG (b, #[c0, c1, c2, c3], ty, fz) := by rfl) (hi : nthO l k = some o := by rfl) (h1 : ∀ w' : World, w'.cell? ⟨b, 0, none⟩ = some c0 → w'.cell? ⟨b, 1, none⟩ = some c1 → w'.cell? ⟨b, 2, none⟩ = some c2 → w'.cell? ⟨b, 3, none⟩ = some c3 → ∀ K : Act → World → Prop, K a' w' → o.wp P a w' K bot := by intro w' d0 d1 d2 d3 K hK; go_big_op; exact hK)
    (hw : Region.wanted o (yielded l.toArray a.tmps) = true := by kernel_rfl) (hv : isV o = true := by kernel_rfl) (hb : inB o.dst a = true := by kernel_rfl) (hp : a.put o.dst (slotOf o.dst a') = a' := by kernel_rfl) : wpFl P l C Gs CL ob F0 B Q ((k, false) :: rest) a w :=
  wpFl_ld hG hi (fun w' hC => h1 w' (Bs.cell hC 0 rfl) (Bs.cell hC 1 rfl) (Bs.cell hC 2 rfl) (Bs.cell hC 3 rfl)) hw hv hb hp hn
theorem fb {G : World → Prop} {a' : Act} (hn : wpFl P l C Gs CL ob F0 B Q rest a' w) (hG : nthG Gs (CL.getD k 99) = G := by rfl) (hi : nthO l k = some o := by rfl) (h1 : ∀ (w' : World) (K : Act → World → Prop), K a' w' → o.wp P a w' K bot := by intro w' K hK; go_big_op; exact hK)
    (hw : Region.wanted o (yielded l.toArray a.tmps) = true := by kernel_rfl) (hv : isL o = true := by kernel_rfl) (hb : inB o.dst a = true := by kernel_rfl) (hp : a.put o.dst (slotOf o.dst a') = a' := by kernel_rfl) : wpFl P l C Gs CL ob F0 B Q ((k, false) :: rest) a w :=
  wpFl_ldb hG hi (fun w' _ => h1 w') hw hv hb hp hn
theorem e0 {a' : Act} (hs : St w0 bs w) (h : ∀ w', St w0 bs w' → Below w.heap.size w w' → Q a' w') (ha : putF l (fun j => some ((fun _ => 0) j)) [] a = a' := by simp only [putF]; rfl) : wpFl P l C Gs CL ob [] B Q [] a w :=
  wpFl_end (a' := fun _ => a') (fun _ => ha) fun w' _ hb _ _ _ => h w' (hs.bl hb) hb
theorem e1 {j0 : Nat} {cs0 : Array Value} {ty0 : TypeId} {a' : Nat → Act} (hs : St w0 bs w) (hl : ∀ f ∈ bs.map (·.1), ∀ k, f = some k → k < B) (hk : w0.heap.size ≤ B)
    (h : ∀ w' p0, St w0 (bx p0 cs0 ty0 :: bs) w' → Below w.heap.size w w' → Hid (w0.heap.size ≤ p0) → Q (a' p0) w')
    (ha : ∀ p0, putF l (fun j => some (p0)) [j0] a = a' p0 := by intro p0; simp only [putF, nthO, Act.put, ptr, List.setIfInBounds_toArray, List.set_cons_succ, List.set_cons_zero, if_true, if_false, eq_self, Nat.reduceEqDiff, reduceIte]; rfl) (ho0 : ob j0 = .cells cs0 ty0 := by rfl) (hnd : [j0].Nodup := by decide) : wpFl P l C Gs CL ob [j0] B Q [] a w := by
  refine wpFl_end (a' := fun pt => a' (pt j0)) (fun pt => ?_) fun w' pt hb _ hF hD => ?_
  · rw [← ha]
    refine putF_congr fun j hj => ?_
    simp only [List.mem_cons, List.not_mem_nil, or_false] at hj
    congr 1
    rw [hj]
  · have hx : ∀ j ∈ [j0], ∀ f ∈ bs.map (·.1), ∀ k, some (pt j) = some k → f ≠ some k := fun j hj f hf k hk hc => Nat.lt_irrefl _ (Nat.lt_of_lt_of_le (hl _ hf k hc) (by cases hk; exact (hF j hj).1))
    have y0 : Bs w' (pt j0) cs0 ty0 := by have := (hF j0 (by simp)).2; rw [ho0] at this; exact this
    have k0 := Nat.le_trans hk (hF j0 (by simp)).1
    have s0 : St w0 (bx (pt j0) cs0 ty0 :: bs) w' := .cons (.bx y0) (hx j0 (by simp)) (hs.bl hb)
    exact h w' (pt j0) s0 hb k0
theorem e2 {j0 j1 : Nat} {cs0 cs1 : Array Value} {ty0 ty1 : TypeId} {a' : Nat → Nat → Act} (hs : St w0 bs w) (hl : ∀ f ∈ bs.map (·.1), ∀ k, f = some k → k < B) (hk : w0.heap.size ≤ B)
    (h : ∀ w' p0 p1, St w0 (bx p0 cs0 ty0 :: bx p1 cs1 ty1 :: bs) w' → Below w.heap.size w w' → Hid (w0.heap.size ≤ p0) → Hid (w0.heap.size ≤ p1) → Q (a' p0 p1) w')
    (ha : ∀ p0 p1, putF l (fun j => some (if j = j0 then p0 else p1)) [j0, j1] a = a' p0 p1 := by intro p0 p1; simp only [putF, nthO, Act.put, ptr, List.setIfInBounds_toArray, List.set_cons_succ, List.set_cons_zero, if_true, if_false, eq_self, Nat.reduceEqDiff, reduceIte]; rfl) (ho0 : ob j0 = .cells cs0 ty0 := by rfl) (ho1 : ob j1 = .cells cs1 ty1 := by rfl) (hnd : [j0, j1].Nodup := by decide) : wpFl P l C Gs CL ob [j0, j1] B Q [] a w := by
  refine wpFl_end (a' := fun pt => a' (pt j0) (pt j1)) (fun pt => ?_) fun w' pt hb _ hF hD => ?_
  · rw [← ha]
    refine putF_congr fun j hj => ?_
    simp only [List.mem_cons, List.not_mem_nil, or_false] at hj
    congr 1
    (repeat' split) <;> first | rw [show j = j0 by omega] | rw [show j = j1 by omega]
  · have hx : ∀ j ∈ [j0, j1], ∀ f ∈ bs.map (·.1), ∀ k, some (pt j) = some k → f ≠ some k := fun j hj f hf k hk hc => Nat.lt_irrefl _ (Nat.lt_of_lt_of_le (hl _ hf k hc) (by cases hk; exact (hF j hj).1))
    have y0 : Bs w' (pt j0) cs0 ty0 := by have := (hF j0 (by simp)).2; rw [ho0] at this; exact this
    have k0 := Nat.le_trans hk (hF j0 (by simp)).1
    have y1 : Bs w' (pt j1) cs1 ty1 := by have := (hF j1 (by simp)).2; rw [ho1] at this; exact this
    have k1 := Nat.le_trans hk (hF j1 (by simp)).1
    simp only [List.nodup_cons, List.mem_cons, List.not_mem_nil, or_false, List.nodup_nil, and_true, not_false_eq_true] at hnd
    have s1 : St w0 (bx (pt j1) cs1 ty1 :: bs) w' := .cons (.bx y1) (hx j1 (by simp)) (hs.bl hb)
    have s0 : St w0 (bx (pt j0) cs0 ty0 :: bx (pt j1) cs1 ty1 :: bs) w' := .cons (.bx y0) (fun f hf k hk => by
      simp only [List.map_cons, List.mem_cons] at hf
      rcases hf with rfl | hf
      · exact fun hc => hD j0 (by simp) j1 (by simp) (by omega) (Option.some.inj (hk.trans hc.symm))
      · exact hx j0 (by simp) f hf k hk) s1
    exact h w' (pt j0) (pt j1) s0 hb k0 k1
theorem wp_region_f4 {id : Nat} {Q : Exit → Act → World → Prop} (plan1 : List (Nat × Bool)) (plan2 : List Nat) (F0 : List Nat) (ob : Nat → Obj) (CL : List Nat) (bad : List (Nat × Nat)) {bs : List BkT} (hC : AllB bs w) (hl : ∀ j ∈ F0, Lays P l ob j) 
    (h : ∀ w', Below w.heap.size w w' → wpFl P l (AllB bs) (bs.map BG) CL ob F0 w'.heap.size (wpTail P l (bs.map BG) bad (Q .normal) plan2) plan1 a w')
    (hm : P.follows .mixedOrders = true := by kernel_rfl) (hs : Region.noSelect l.toArray = true := by kernel_rfl)
    (hlen : plan1.length + F0.length + plan2.length = l.length := by kernel_rfl) (hok : flOK .any l plan2 (plan1.length + F0.length) (Array.replicate l.length false) plan1 F0 = true := by kernel_rfl) (hpa : planApart l F0 plan1 = true := by kernel_rfl) (hwt : waits .any l CL bad plan1 = true := by kernel_rfl) (hnb : notBad bad plan1 F0 = true := by kernel_rfl) (hsu : sundry l F0 = true := by kernel_rfl) (hnd : F0.Nodup := by decide) : (Code.region id l.toArray true).wp P Q a w :=
  wp_region_fl plan1 plan2 F0 ob CL bad (AllB bs) (bs.map BG) hm hs hlen hok hpa hwt hnb hsu hnd hl (fun _ _ hC => hC.alloc) (fun _ hC => hC.get) (hC.bl (Below.refl _ _).drew) (h _ (Below.refl _ _).drew)
theorem rg {id : Nat} {Q : Exit → Act → World → Prop} (plan : List Nat) (h : wpSq P l (Q .normal) plan a w) (hp : List.range l.length = plan := by kernel_rfl) : (Code.region id l.toArray false).wp P Q a w := wp_region_sq plan hp h
end
theorem Lst.nil (w : World) (B : Nat) (ty : TypeId) (sz : Nat) : Lst w B ty sz (.slice none 0 0) 0 [] := ⟨World.ownsRow_nil _ _ _ _, fun k cur h => by simp [Value.ownBlock] at h⟩
theorem nd_zero {z : Array Value} (h : z.toList.all nd = true) (n : Nat) : (Builtin.zeroCells z n).toList.all nd = true := by
  simp only [List.all_eq_true] at *
  intro x hx
  unfold Builtin.zeroCells at hx
  simp only [Array.mem_toList_iff, Array.mem_map, Array.mem_range] at hx
  obtain ⟨a, ha, rfl⟩ := hx
  have hz : 0 < z.size := by
    rcases Nat.eq_zero_or_pos z.size with h0 | h0
    · rw [h0, Nat.mul_zero] at ha; omega
    · exact h0
  rw [getElem!_pos z _ (Nat.mod_lt a hz)]
  exact h _ (by simp)
theorem Lst.append {P : Program} {w : World} (base : Nat) (t ty e : TypeId) (i : TypeInfo) (z : Value) (size bytes : Nat) (ht : P.underlying t = some (.slice e)) (hi : P.info? e = some i) (hz : i.zero = some z)
    (hsize : i.size = size) (hby : i.bytes = bytes) (hzs : z.cells.size = size) (hsz : 0 < size) (hzn : z.cells.toList.all nd = true)
    (v : Value) (n : Nat) (xs : List Value) (hown : Lst w base e size v n xs)
    (a : Addr) (m c : Nat) (news : List Value) (hm : 0 < m) (hl : news.length = m * size) (hnews : ∀ j u, news[j]? = some u → w.cell? (a.add j) = some u) (h1 : ∀ u ∈ news, u.oneCell' = true) (hnn : news.all nd = true)
    (h63 : n + m ≤ maxLen) (hbytes : (n + m) * bytes ≤ 140737488355328) (hbase : base ≤ w.heap.size) :
    ∃ v' w', (Builtin.append_ #[t, t] ty #[v, .slice (some a) m c]).run P w = .ok v' w' ∧ Lst w' base e size v' (n + m) (xs ++ news) ∧ w.grownBy w' v.ownBlock ∧ (v'.ownBlock = v.ownBlock ∨ v'.ownBlock = some w.heap.size) := by
  obtain ⟨v', w', hr, h2, h3, h4, h5⟩ := run_append_own_at (P := P) w base t ty e i z size bytes ht hi hz hsize hby hzs hsz v n xs hown.1 a m c news hl hnews h1 h63 hbytes hbase
  refine ⟨v', w', hr, ⟨h2, ?_⟩, h3, h5⟩
  subst hsize
  subst hby
  have hnx : xs.all nd = true := by
    rcases hown.1.2 with ⟨rfl, h0⟩ | ⟨g, cap, cur, rfl, hbg, hg, hnc, hcm, hcs, htake⟩
    · have := hown.1.1
      rw [h0, Nat.zero_mul] at this
      rw [List.eq_nil_of_length_eq_zero this]; rfl
    · rw [← htake]
      have := hown.2 g cur rfl hg
      rw [List.all_eq_true] at this ⊢
      exact fun x hx => this x (List.mem_of_mem_take hx)
  have h63' : n + m ≤ 9223372036854775807 := by simp only [maxLen] at h63; omega
  rcases hown.1.2 with ⟨rfl, rfl⟩ | ⟨g, cap, cur, rfl, hbg, hg, hnc, hcm, hcs, htake⟩
  · have hr2 := run_append_nil (P := P) w t ty e i z ht hi hz a m c news hl hnews hm (by omega) (by rw [Nat.zero_add] at hbytes; omega)
    rw [hr] at hr2
    injection hr2 with e1 e2
    subst e1 e2
    intro k cur hk hc
    obtain rfl : w.heap.size = k := by simpa [Value.ownBlock] using hk
    rw [show (w.drew.alloc (.cells (news.toArray ++ Builtin.zeroCells z.cells (grownCap w m 0 e - m)) e)).heap[w.heap.size]? = _ from heap_alloc_new w.drew _] at hc
    injection hc with hc
    injection hc with hc
    rw [← hc, Array.toList_append, List.all_append, Bool.and_eq_true]
    exact ⟨hnn, nd_zero hzn _⟩
  · by_cases hroom : n + m ≤ cap
    · have hfit : n * i.size + news.length ≤ cur.size := by rw [hl, hcs, ← Nat.add_mul]; exact Nat.mul_le_mul_right _ hroom
      have hr2 := run_append_room (P := P) w t ty e i ht hi g n cap cur hg a m c news hl hnews h1 hroom hfit
      rw [hr] at hr2
      injection hr2 with e1 e2
      subst e1 e2
      intro k cur2 hk hc
      obtain rfl : g = k := by simpa [Value.ownBlock] using hk
      rw [setRow_heap w g cur _ e _ hg] at hc
      injection hc with hc
      injection hc with hc
      rw [← hc]
      have h6 := hown.2 g cur rfl hg
      rw [List.all_eq_true] at h6
      rw [List.all_append, List.all_append, hnn]
      simp only [Bool.and_eq_true, List.all_eq_true, and_true]
      exact ⟨fun x hx => h6 x (List.mem_of_mem_take hx), fun x hx => h6 x (List.mem_of_mem_drop hx)⟩
    · have holds : ∀ j u, xs[j]? = some u → w.cell? ((⟨g, 0, none⟩ : Addr).add j) = some u := hown.1.cells (g := g) rfl
      have hr2 := run_append_grow (P := P) w t ty e i z ht hi hz ⟨g, 0, none⟩ n cap xs hown.1.1 holds a m c news hl hnews (by omega) (by omega) (growslice_fits (by omega) hbytes)
      rw [hr] at hr2
      injection hr2 with e1 e2
      subst e1 e2
      intro k cur2 hk hc
      obtain rfl : w.heap.size = k := by simpa [Value.ownBlock] using hk
      rw [show (w.drew.alloc (.cells (xs.toArray ++ news.toArray ++ Builtin.zeroCells z.cells (grownCap w (n + m) cap e - (n + m))) e)).heap[w.heap.size]? = _ from heap_alloc_new w.drew _] at hc
      injection hc with hc
      injection hc with hc
      rw [← hc, Array.toList_append, Array.toList_append, List.all_append, List.all_append, Bool.and_eq_true, Bool.and_eq_true]
      exact ⟨⟨hnx, hnn⟩, nd_zero hzn _⟩
theorem PC.k {w w' : World} {v : Value} {x y : Int} (h : PC w v x y) (k : Kp w w') : PC w' v x y := by
  obtain ⟨n1, o1, k1, c1, n2, o2, k2, c2, rfl, h1, h2⟩ := h
  exact .mk' (h1.k k) (h2.k k)
/-- Gaussian integers, canonical, one behind the other. -/
def GD (w : World) : List Value → List (Int × Int) → Prop
  | [], [] => True
  | c1 :: c2 :: c3 :: c4 :: xs, p :: ps => PC w (.agg #[c1, c2, c3, c4]) p.1 p.2 ∧ GD w xs ps
  | _, _ => False
theorem GD.nil (w : World) : GD w [] [] := trivial
theorem GD.k' {w w' : World} (k : Kp w w') : ∀ {xs : List Value} {ps : List (Int × Int)}, GD w xs ps → GD w' xs ps
  | [], [], _ => trivial
  | _ :: _ :: _ :: _ :: _, _ :: _, h => ⟨h.1.k k, GD.k' k h.2⟩
theorem GD.k {w w' : World} {xs : List Value} {ps : List (Int × Int)} (h : GD w xs ps) (k : Kp w w') : GD w' xs ps := GD.k' k h
theorem GD.snoc' {w : World} {c1 c2 c3 c4 : Value} {x y : Int} (h2 : PC w (.agg #[c1, c2, c3, c4]) x y) : ∀ {xs : List Value} {ps : List (Int × Int)}, GD w xs ps → GD w (xs ++ [c1, c2, c3, c4]) (ps ++ [(x, y)])
  | [], [], _ => ⟨h2, trivial⟩
  | _ :: _ :: _ :: _ :: _, _ :: _, h => ⟨h.1, GD.snoc' h2 h.2⟩
theorem GD.snoc {w : World} {xs : List Value} {ps : List (Int × Int)} {c1 c2 c3 c4 : Value} {x y : Int} (h : GD w xs ps) (h2 : PC w (.agg #[c1, c2, c3, c4]) x y) : GD w (xs ++ [c1, c2, c3, c4]) (ps ++ [(x, y)]) := GD.snoc' h2 h
theorem Kp.t {w w1 w2 : World} (h : Kp w w1) (h' : Kp w1 w2) : Kp w w2 := fun _ _ hc => h' _ _ (h _ _ hc)
theorem GD.len {w : World} : ∀ {xs : List Value} {ps : List (Int × Int)}, GD w xs ps → xs.length = ps.length * 4
  | [], [], _ => rfl
  | _ :: _ :: _ :: _ :: xs, _ :: ps, h => by have := GD.len h.2; simp only [List.length_cons]; omega
theorem GD.get {w : World} : ∀ {xs : List Value} {ps : List (Int × Int)} {i : Nat}, GD w xs ps → (h : i < ps.length) → ∃ c1 c2 c3 c4, xs[i * 4]? = some c1 ∧ xs[i * 4 + 1]? = some c2 ∧ xs[i * 4 + 2]? = some c3 ∧ xs[i * 4 + 3]? = some c4 ∧ PC w (.agg #[c1, c2, c3, c4]) ps[i].1 ps[i].2
  | [], [], _, _, hi => absurd hi (Nat.not_lt_zero _)
  | c1 :: c2 :: c3 :: c4 :: xs, p :: ps, 0, h, _ => ⟨c1, c2, c3, c4, rfl, rfl, rfl, rfl, h.1⟩
  | c1 :: c2 :: c3 :: c4 :: xs, p :: ps, i + 1, h, hi => by
    obtain ⟨d1, d2, d3, d4, e1, e2, e3, e4, hp⟩ := GD.get (i := i) h.2 (by simpa using hi)
    have e : ∀ j, (c1 :: c2 :: c3 :: c4 :: xs)[(i + 1) * 4 + j]? = xs[i * 4 + j]? := fun j => by
      rw [show (i + 1) * 4 + j = i * 4 + j + 1 + 1 + 1 + 1 by omega]; rfl
    exact ⟨d1, d2, d3, d4, (e 0).trans e1, (e 1).trans e2, (e 2).trans e3, (e 3).trans e4, hp⟩
theorem addr_add0 (g j : Nat) : (⟨g, 0, none⟩ : Addr).add j = ⟨g, j, none⟩ := by
  unfold Addr.add
  split
  · subst_vars; rfl
  · simp
theorem Bs.lo {w w' : World} {g B : Nat} {cs : Array Value} {ty : TypeId} {fz : Nat × Nat} (h : Bs w g cs ty fz) (hl : g < B) (hb : Below B w w') : Bs w' g cs ty fz := by
  unfold Bs; rw [hb.block g hl]; exact h
theorem Lst.shape {w : World} {B : Nat} {ty : TypeId} {sz : Nat} {v : Value} {n : Nat} {xs : List Value} (h : Lst w B ty sz v n xs) : ∃ o c, v = .slice o n c := by
  rcases h.1.2 with ⟨rfl, rfl⟩ | ⟨g, cap, cur, rfl, _⟩
  · exact ⟨_, _, rfl⟩
  · exact ⟨_, _, rfl⟩
/-- An element's cell. -/
theorem Lst.cell {w : World} {B : Nat} {ty : TypeId} {sz : Nat} {o : Option Addr} {n c j : Nat} {u : Value} {xs : List Value} (h : Lst w B ty sz (.slice o n c) n xs) (hj : xs[j]? = some u) : ∃ g, o = some ⟨g, 0, none⟩ ∧ w.cell? ⟨g, j, none⟩ = some u := by
  rcases h.1.2 with ⟨e, rfl⟩ | ⟨g, cap, cur, e, _⟩
  · have h1 := h.1.1
    rw [Nat.zero_mul] at h1
    rw [List.eq_nil_of_length_eq_zero h1] at hj
    cases hj
  · simp only [Value.slice.injEq] at e
    obtain ⟨rfl, _, rfl⟩ := e
    refine ⟨g, rfl, ?_⟩
    have := h.1.cells (g := g) rfl j u hj
    rwa [addr_add0] at this
/-- The block that a slice lies in. -/
theorem Lst.box {w : World} {B : Nat} {ty : TypeId} {sz : Nat} {o : Option Addr} {n c : Nat} {xs : List Value} (h : Lst w B ty sz (.slice o n c) n xs) (hn : 0 < n) : ∃ g cur, o = some ⟨g, 0, none⟩ ∧ Bs w g cur ty ∧ ∀ (j : Nat) (u : Value), xs[j]? = some u → cur[j]? = some u := by
  rcases h.1.2 with ⟨e, h0⟩ | ⟨g, cap, cur, e, hb, hg, hnc, hcm, hcs, htake⟩
  · omega
  · simp only [Value.slice.injEq] at e
    obtain ⟨rfl, _, rfl⟩ := e
    refine ⟨g, cur, rfl, hg, fun j u hj => ?_⟩
    rw [← htake] at hj
    have hj2 : j < n * sz := by
      rcases Nat.lt_or_ge j (n * sz) with h1 | h1
      · exact h1
      · rw [List.getElem?_eq_none (by rw [List.length_take]; omega)] at hj; cases hj
    rw [List.getElem?_take, if_pos hj2] at hj
    rw [← hj, Array.getElem?_toList]
/-- An element of a list of Gaussian integers. -/
theorem GD.at {w : World} {xs : List Value} {ps : List (Int × Int)} {i : Nat} (h : GD w xs ps) (hi : i < ps.length) : ∃ n1 o1 k1 c1 n2 o2 k2 c2, xs[i * 4]? = some (.bool n1) ∧ xs[i * 4 + 1]? = some (.slice o1 k1 c1) ∧ xs[i * 4 + 2]? = some (.bool n2) ∧ xs[i * 4 + 3]? = some (.slice o2 k2 c2) ∧ ZC w (.agg #[.bool n1, .slice o1 k1 c1]) ps[i].1 ∧ ZC w (.agg #[.bool n2, .slice o2 k2 c2]) ps[i].2 := by
  obtain ⟨a1, a2, a3, a4, e1, e2, e3, e4, n1, o1, k1, c1, n2, o2, k2, c2, hv, z1, z2⟩ := h.get hi
  simp only [Value.agg.injEq, Array.mk.injEq, List.cons.injEq, and_true] at hv
  obtain ⟨rfl, rfl, rfl, rfl⟩ := hv
  exact ⟨n1, o1, k1, c1, n2, o2, k2, c2, e1, e2, e3, e4, z1, z2⟩
theorem Lst.mono {w : World} {B C : Nat} {ty : TypeId} {sz : Nat} {v : Value} {n : Nat} {xs : List Value} (h : Lst w B ty sz v n xs) (hC : C ≤ B) : Lst w C ty sz v n xs := by
  refine ⟨⟨h.1.1, ?_⟩, h.2⟩
  rcases h.1.2 with hn | ⟨g, cap, cur, hv, hb, rest⟩
  · exact .inl hn
  · exact .inr ⟨g, cap, cur, hv, Nat.le_trans hC hb, rest⟩
theorem kp_grown {w w' : World} {row : Option Nat} (hg : w.grownBy w' row) (hn : ∀ k, row = some k → NoD w k) : Kp w w' := fun oa ds h => by
  by_cases hne : ds = []
  · exact .inl hne
  · obtain ⟨c, off, e, hc⟩ := h.resolve_left hne
    refine .inr ⟨c, off, e, fun i hi => ?_⟩
    have h1 := hc i hi
    refine hg.cell h1 fun hc2 => ?_
    exact (hn c hc2.symm).1 _ _ h1
theorem Lst.nod {w : World} {B : Nat} {ty : TypeId} {sz : Nat} {v : Value} {n : Nat} {xs : List Value} (h : Lst w B ty sz v n xs) (ht : (ty == 105) = false) : ∀ k, v.ownBlock = some k → NoD w k := by
  intro k hk
  rcases h.1.2 with ⟨rfl, _⟩ | ⟨g, cap, cur, rfl, hb, hgg, _⟩
  · simp [Value.ownBlock] at hk
  · obtain rfl : g = k := by simpa [Value.ownBlock] using hk
    exact Bs.nod (cs := cur) (ty := ty) hgg (h.2 g cur rfl hgg) ht
section
variable {w0 w w' : World} {bs : List En} {B : Nat} {ty : TypeId} {sz n : Nat} {v : Value} {xs : List Value}
/-- A slice that a call has made joins the state. -/
theorem St.la (h : St w0 bs w) (hb : Below w.heap.size w w') (x : Lst w' w.heap.size ty sz v n xs) : St w0 (ls w0.heap.size ty sz v n xs :: bs) w' :=
  .cons (.ls (x.mono h.k)) (fun f hf k hk hc => by
    have h1 := h.lt f hf k hc
    have h2 := (x.1.lt k hk).1
    omega) (h.bl hb)
theorem St.l0 (h : St w0 bs w) (ty : TypeId) (sz : Nat) : St w0 (ls w0.heap.size ty sz (.slice none 0 0) 0 [] :: bs) w :=
  .cons (.ls (Lst.nil _ _ _ _)) (fun f hf k hk => by simp [ls, Value.ownBlock] at hk) h
end
/-- Two entries lie in two blocks. -/
theorem FD.ne {l : List (Option Nat)} {i j a b : Nat} (h : FD l) (hi : l[i]? = some (some a)) (hj : l[j]? = some (some b)) (hij : i ≠ j) : a ≠ b := by
  intro e
  subst e
  obtain ⟨hi1, hi2⟩ := List.getElem?_eq_some_iff.1 hi
  obtain ⟨hj1, hj2⟩ := List.getElem?_eq_some_iff.1 hj
  have hp := List.pairwise_iff_getElem.1 h
  rcases Nat.lt_or_gt_of_ne hij with h1 | h1
  · exact hp i j hi1 hj1 h1 a hi2 hj2
  · exact hp j i hj1 hi1 h1 a hj2 hi2
theorem St.ne {w0 w : World} {bs : List En} (h : St w0 bs w) (i j : Nat) {a b : Nat} (hi : (bs.map (·.1))[i]? = some (some a) := by rfl) (hj : (bs.map (·.1))[j]? = some (some b) := by rfl) (hij : i ≠ j := by decide) : Hid (a ≠ b) := h.d.ne hi hj hij
/-- A block laid out whole is a slice of the call's own. -/
theorem Lst.ofBs {w : World} {B p n sz : Nat} {xs : List Value} {ty : TypeId} (x : Bs w p xs.toArray ty) (hB : Hid (B ≤ p)) (hn : xs.length = n * sz := by rfl) (hnd : xs.all nd = true := by rfl) (hm : n ≤ maxLen := by decide) : Lst w B ty sz (.slice (some ⟨p, 0, none⟩) n n) n xs := by
  refine ⟨⟨hn, .inr ⟨p, n, xs.toArray, rfl, hB, x, Nat.le_refl _, hm, by simpa using hn, ?_⟩⟩, fun k cur hk hc => ?_⟩
  · rw [← hn]; simp
  · obtain rfl : p = k := by simpa [Value.ownBlock] using hk
    unfold Bs at x
    rw [x] at hc
    injection hc with hc
    injection hc with hc
    rw [← hc]; simpa using hnd
section
variable {P : Program} {o : Oper} {a : Act} {w w0 : World} {B : Exit → Act → World → Prop} {E : World → Prop} {G : Act → World → Prop} {bs : List En}
/-- One element is appended. -/
theorem Stp.ap {v z : Value} {n sz q c : Nat} {xs news : List Value} {e t ety : TypeId} {inf : TypeInfo} {sv xv : Operand} {a' : Value → Act} (i : Nat) (hs : St w0 bs w) (x : Bs w q news.toArray ety)
    (h : ∀ o' c' w', St w0 (bs.set i (ls w0.heap.size e sz (.slice o' (n + 1) c') (n + 1) (xs ++ news))) w' → Kp w w' → Below w0.heap.size w w' → G (a' (.slice o' (n + 1) c')) w')
    (hi : bs[i]? = some (ls w0.heap.size e sz v n xs) := by rfl) (hn : n ≤ 100000000000 := by omega)
    (ho : o.op = .call { callee := .builtin .append, args := #[sv, xv], argTypes := #[t, t] } := by rfl) (hsv : a.eval sv = v := by rfl) (hxv : a.eval xv = .slice (some ⟨q, 0, none⟩) 1 c := by rfl)
    (ht : P.underlying t = some (.slice e) := by rfl) (hinf : P.info? e = some inf := by rfl) (hz : inf.zero = some z := by rfl)
    (hsz : inf.size = sz := by rfl) (hzs : z.cells.size = sz := by rfl) (h0 : 0 < sz := by decide) (hzn : z.cells.toList.all nd = true := by rfl) (hby : inf.bytes ≤ 1000 := by decide) (hlen : news.length = sz := by rfl)
    (h1 : news.all Value.oneCell' = true := by rfl) (hnn : news.all nd = true := by rfl) (hu : (e == 105) = false := by rfl)
    (hp : ∀ v', a.put o.dst v' = a' v' := by intro v'; unfold Act.put; simp only [List.setIfInBounds_toArray, List.set_cons_succ, List.set_cons_zero]; rfl)
    (eE : ∀ w', Below w.heap.size w w' ∨ True → E w' := by exact fun _ _ => trivial) (hd : ∀ v', (a' v').defers = a.defers := by exact fun _ => rfl) : Stp P o a w B E G := fun K hK => by
  have hL : Lst w w0.heap.size e sz v n xs := by
    have h2 := hs.1
    have : ∀ {bs : List En} {i : Nat} {en : En}, AllE bs w → bs[i]? = some en → Ok en w := by
      intro bs
      induction bs with
      | nil => intro i en _ hi; simp at hi
      | cons b t ih =>
        intro i en hA hi
        cases i with
        | zero => obtain rfl : b = en := by simpa using hi
                  exact hA.1
        | succ i => exact ih hA.2 (by simpa using hi)
    exact (this h2 hi).1
  have hnews : ∀ j u, news[j]? = some u → w.cell? ((⟨q, 0, none⟩ : Addr).add j) = some u := fun j u hj => by
    rw [addr_add0]
    exact x.cell j (c := u) (by simpa using hj)
  obtain ⟨v', w', hr, h2, h3, h4⟩ := Lst.append (P := P) w0.heap.size t o.type e inf z sz inf.bytes ht hinf hz hsz rfl hzs h0 hzn v n xs hL ⟨q, 0, none⟩ 1 c news (by decide) (by rw [hlen, Nat.one_mul]) hnews (List.all_eq_true.1 h1) hnn (by unfold maxLen; omega) (Nat.le_trans (Nat.mul_le_mul_left _ hby) (by omega)) hs.k
  obtain ⟨o', c', rfl⟩ := h2.shape
  have hst : St w0 (bs.set i (ls w0.heap.size e sz (.slice o' (n + 1) c') (n + 1) (xs ++ news))) w' := by
    refine hs.st i hi (fun k hk hne => h3.block k hk hne) h3.size (.ls h2) (fun k hk => ?_) ?_
    · rcases h4 with h5 | h5
      · exact .inl (h5.symm.trans hk)
      · right
        have h6 : some w.heap.size = some k := h5.symm.trans hk
        injection h6 with h6
        omega
    · refine ⟨h3.os.trans hs.b.os, h3.tape.trans hs.b.tape, h3.output.trans hs.b.output, Nat.le_trans hs.k h3.size, fun k hk => ?_⟩
      rw [h3.block k (Nat.lt_of_lt_of_le hk hs.k) fun hc => ?_]
      · exact hs.b.block k hk
      · have := (hL.1.lt k hc.symm).1
        omega
  unfold Oper.wp execOp
  simp only [ho, resolve, invoke, builtin, Sem.run_bind, Sem.run_pure, Result.andThen_ok, List.map_toArray, List.map_cons, List.map_nil, hsv, hxv, hr]
  have h7 := hK (a' (.slice o' (n + 1) c')) w' (hd _) (eE _ (.inr trivial)) (h _ _ _ hst (kp_grown h3 (hL.nod hu)) ⟨h3.os, h3.tape, h3.output, h3.size, fun k hk => h3.block k (Nat.lt_of_lt_of_le hk hs.k) fun hc => Nat.lt_irrefl _ (Nat.lt_of_lt_of_le hk (hL.1.lt k hc.symm).1)⟩)
  rw [← hp] at h7
  exact h7
end
theorem AllE.at {w : World} : ∀ {bs : List En} {i : Nat} {en : En}, AllE bs w → bs[i]? = some en → Ok en w
  | [], i, en, _, hi => by simp at hi
  | b :: t, 0, en, h, hi => by
    obtain rfl : b = en := by simpa using hi
    exact h.1
  | b :: t, i + 1, en, h, hi => AllE.at h.2 (by simpa using hi)
section
variable {P : Program} {o : Oper} {a : Act} {w w0 : World} {B : Exit → Act → World → Prop} {E : World → Prop} {G : Act → World → Prop} {bs bs' : List En}
theorem Stp.s4o {b : Nat} {d0 d1 d2 d3 c0 c1 c2 c3 : Value} {ty : TypeId} {a' : Act} (x : Bs w b #[d0, d1, d2, d3] ty) (hu : ∀ w', Bs w' b #[c0, c1, c2, c3] ty → Only b w w' → St w0 bs' w')
    (h : ∀ w', St w0 bs' w' → NoD w b → Only b w w' → G a' w')
    (h1 : w.cell? ⟨b, 0, none⟩ = some d0 → w.cell? ⟨b, 1, none⟩ = some d1 → w.cell? ⟨b, 2, none⟩ = some d2 → w.cell? ⟨b, 3, none⟩ = some d3 → w.frozen? ⟨b, 0, none⟩ = false → w.frozen? ⟨b, 1, none⟩ = false → w.frozen? ⟨b, 2, none⟩ = false → w.frozen? ⟨b, 3, none⟩ = false → ∀ K : Act → World → Prop, K a' ((((w.setCell ⟨b, 0, none⟩ c0).setCell ⟨b, 1, none⟩ c1).setCell ⟨b, 2, none⟩ c2).setCell ⟨b, 3, none⟩ c3) → o.wp P a w K B := by intro d0 d1 d2 d3 f0 f1 f2 f3 K hK; go_big_op; exact hK)
    (e : ∀ w', St w0 bs' w' → Only b w w' → E w') (hd : a'.defers = a.defers := by rfl) (hn : (#[d0, d1, d2, d3] : Array Value).toList.all nd = true := by rfl) (ht : (ty == 105) = false := by rfl) : Stp P o a w B E G := fun K hK => by
  obtain ⟨v, rfl, h2, h3⟩ := x.set4 c0 c1 c2 c3
  exact h1 (x.cell 0 rfl) (x.cell 1 rfl) (x.cell 2 rfl) (x.cell 3 rfl) (x.free 0) (x.free 1) (x.free 2) (x.free 3) K (hK _ _ hd (e _ (hu _ h2 h3) h3) (h _ (hu _ h2 h3) (x.nod hn ht) h3))
end
/-- One number's cells, at place j of a block. -/
def El (R : World → Value → Int → Prop) (w : World) (cur : Array Value) (j : Nat) (p : Int × Int) : Prop :=
  ∃ n1 o1 k1 c1 n2 o2 k2 c2, cur[j]? = some (.bool n1) ∧ cur[j + 1]? = some (.slice o1 k1 c1) ∧ cur[j + 2]? = some (.bool n2) ∧ cur[j + 3]? = some (.slice o2 k2 c2) ∧ R w (.agg #[.bool n1, .slice o1 k1 c1]) p.1 ∧ R w (.agg #[.bool n2, .slice o2 k2 c2]) p.2
abbrev RN (l : Nat) (w : World) (v : Value) (x : Int) : Prop := ZN w v x l
abbrev RC (w : World) (v : Value) (x : Int) : Prop := ZC w v x
def Els (R : World → Value → Int → Prop) (w : World) (cur : Array Value) (off : Nat) (ps : List (Int × Int)) : Prop := ∀ i (hi : i < ps.length), El R w cur (off + i * 4) ps[i]
/-- A vector that can be read. -/
def SV (R : World → Value → Int → Prop) (w : World) (o : Option Addr) (ps : List (Int × Int)) : Prop :=
  ps = [] ∨ ∃ g off cur ty fz, o = some ⟨g, off, none⟩ ∧ Bs w g cur ty fz ∧ Els R w cur off ps
def Rws (R : World → Value → Int → Prop) (w : World) (cur : Array Value) (off : Nat) (Ms : List (List (Int × Int))) : Prop :=
  ∀ i (hi : i < Ms.length), ∃ o c, cur[off + i]? = some (.slice o Ms[i].length c) ∧ SV R w o Ms[i]
/-- A matrix that can be read. -/
def MV (R : World → Value → Int → Prop) (w : World) (o : Option Addr) (Ms : List (List (Int × Int))) : Prop :=
  Ms = [] ∨ ∃ g off cur ty fz, o = some ⟨g, off, none⟩ ∧ Bs w g cur ty fz ∧ Rws R w cur off Ms
abbrev SN (l : Nat) := SV (RN l)
abbrev SC := SV RC
abbrev MN (l : Nat) := MV (RN l)
abbrev MC := MV RC
/-- It is read so wherever the digits lie as they lay. -/
def Stab (R : World → Value → Int → Prop) : Prop := ∀ w w' v x, R w v x → Kp w w' → R w' v x
theorem stab_n {l : Nat} : Stab (RN l) := fun _ _ _ _ h k => ZN.k h k
theorem stab_c : Stab RC := fun _ _ _ _ h k => ZC.k h k
section
variable {R : World → Value → Int → Prop} {w w' : World} {cur : Array Value} {j off : Nat} {p : Int × Int} {o : Option Addr} {ps : List (Int × Int)} {Ms : List (List (Int × Int))}
theorem El.k (hR : Stab R) (h : El R w cur j p) (k : Kp w w') : El R w' cur j p := by
  obtain ⟨n1, o1, k1, c1, n2, o2, k2, c2, e1, e2, e3, e4, h1, h2⟩ := h
  exact ⟨n1, o1, k1, c1, n2, o2, k2, c2, e1, e2, e3, e4, hR _ _ _ _ h1 k, hR _ _ _ _ h2 k⟩
theorem Els.k (hR : Stab R) (h : Els R w cur off ps) (k : Kp w w') : Els R w' cur off ps := fun i hi => (h i hi).k hR k
theorem SV.bl (hR : Stab R) (h : SV R w o ps) (hb : Below w.heap.size w w') : SV R w' o ps := by
  rcases h with h | ⟨g, off, cur, ty, fz, rfl, x, d⟩
  · exact .inl h
  · exact .inr ⟨g, off, cur, ty, fz, rfl, x.bl hb, d.k hR (kb hb)⟩
theorem MV.bl (hR : Stab R) (h : MV R w o Ms) (hb : Below w.heap.size w w') : MV R w' o Ms := by
  rcases h with h | ⟨g, off, cur, ty, fz, rfl, x, d⟩
  · exact .inl h
  · refine .inr ⟨g, off, cur, ty, fz, rfl, x.bl hb, fun i hi => ?_⟩
    obtain ⟨o, c, e, hs⟩ := d i hi
    exact ⟨o, c, e, hs.bl hR hb⟩
theorem SV.box (h : SV R w o ps) (h0 : 0 < ps.length) : ∃ g off cur ty fz, o = some ⟨g, off, none⟩ ∧ Bs w g cur ty fz ∧ Els R w cur off ps := h.resolve_left fun e => by simp [e] at h0
theorem MV.box (h : MV R w o Ms) (h0 : 0 < Ms.length) : ∃ g off cur ty fz, o = some ⟨g, off, none⟩ ∧ Bs w g cur ty fz ∧ Rws R w cur off Ms := h.resolve_left fun e => by simp [e] at h0
theorem SV.mono {R' : World → Value → Int → Prop} (h : SV R w o ps) (hp : ∀ p ∈ ps, (∀ v, R w v p.1 → R' w v p.1) ∧ ∀ v, R w v p.2 → R' w v p.2) : SV R' w o ps := by
  rcases h with h | ⟨g, off, cur, ty, fz, rfl, x, d⟩
  · exact .inl h
  · refine .inr ⟨g, off, cur, ty, fz, rfl, x, fun i hi => ?_⟩
    obtain ⟨n1, o1, k1, c1, n2, o2, k2, c2, e1, e2, e3, e4, h1, h2⟩ := d i hi
    have := hp _ (List.getElem_mem hi)
    exact ⟨n1, o1, k1, c1, n2, o2, k2, c2, e1, e2, e3, e4, this.1 _ h1, this.2 _ h2⟩
theorem MV.mono {R' : World → Value → Int → Prop} (h : MV R w o Ms) (hp : ∀ r ∈ Ms, ∀ p ∈ r, (∀ v, R w v p.1 → R' w v p.1) ∧ ∀ v, R w v p.2 → R' w v p.2) : MV R' w o Ms := by
  rcases h with h | ⟨g, off, cur, ty, fz, rfl, x, d⟩
  · exact .inl h
  · refine .inr ⟨g, off, cur, ty, fz, rfl, x, fun i hi => ?_⟩
    obtain ⟨o, c, e, hs⟩ := d i hi
    exact ⟨o, c, e, hs.mono (hp _ (List.getElem_mem hi))⟩
end
/-- No number is longer. -/
def Bd (l : Nat) (ps : List (Int × Int)) : Prop := ∀ p ∈ ps, (dig p.1.natAbs).length ≤ l ∧ (dig p.2.natAbs).length ≤ l
def BdM (l : Nat) (Ms : List (List (Int × Int))) : Prop := ∀ r ∈ Ms, Bd l r
theorem SV.sn {w : World} {o : Option Addr} {ps : List (Int × Int)} {l : Nat} (h : SC w o ps) (hb : Bd l ps) : SN l w o ps := h.mono fun p hp => ⟨fun v hv => ZC.zn hv (hb p hp).1, fun v hv => ZC.zn hv (hb p hp).2⟩
theorem MV.mn {w : World} {o : Option Addr} {Ms : List (List (Int × Int))} {l : Nat} (h : MC w o Ms) (hb : BdM l Ms) : MN l w o Ms := h.mono fun r hr p hp => ⟨fun v hv => ZC.zn hv (hb r hr p hp).1, fun v hv => ZC.zn hv (hb r hr p hp).2⟩
theorem ZN.up {w : World} {v : Value} {x : Int} {l m : Nat} (h : ZN w v x l) (hl : l ≤ m) : ZN w v x m := by
  obtain ⟨neg, s, xs, hv, hr, hz, hl'⟩ := h
  exact ⟨neg, s, xs, hv, hr, hz, Nat.le_trans hl' hl⟩
theorem SV.bd {w : World} {o : Option Addr} {ps : List (Int × Int)} {l : Nat} (h : SN l w o ps) : Bd l ps := fun p hp => by
  rcases h with rfl | ⟨g, off, cur, ty, fz, rfl, x, d⟩
  · cases hp
  · obtain ⟨i, hi, rfl⟩ := List.getElem_of_mem hp
    obtain ⟨n1, o1, k1, c1, n2, o2, k2, c2, e1, e2, e3, e4, h1, h2⟩ := d i hi
    exact ⟨h1.len, h2.len⟩
theorem MV.bd {w : World} {o : Option Addr} {Ms : List (List (Int × Int))} {l : Nat} (h : MN l w o Ms) : BdM l Ms := fun r hr => by
  rcases h with rfl | ⟨g, off, cur, ty, fz, rfl, x, d⟩
  · cases hr
  · obtain ⟨i, hi, rfl⟩ := List.getElem_of_mem hr
    obtain ⟨o, c, e, hs⟩ := d i hi
    exact hs.bd
/-- An own list of canonical numbers can be read. -/
theorem GD.els {w : World} : ∀ {xs : List Value} {ps : List (Int × Int)}, GD w xs ps → ∀ i (hi : i < ps.length), ∃ n1 o1 k1 c1 n2 o2 k2 c2, xs[i * 4]? = some (.bool n1) ∧ xs[i * 4 + 1]? = some (.slice o1 k1 c1) ∧ xs[i * 4 + 2]? = some (.bool n2) ∧ xs[i * 4 + 3]? = some (.slice o2 k2 c2) ∧ ZC w (.agg #[.bool n1, .slice o1 k1 c1]) ps[i].1 ∧ ZC w (.agg #[.bool n2, .slice o2 k2 c2]) ps[i].2 :=
  fun h i hi => h.at hi
theorem Lst.sc {w : World} {B n c : Nat} {ty : TypeId} {o : Option Addr} {xs : List Value} {ps : List (Int × Int)} (L : Lst w B ty 4 (.slice o n c) n xs) (d : GD w xs ps) : n = ps.length ∧ SC w o ps := by
  have h1 := d.len
  have h2 := L.1.1
  have hn : n = ps.length := by omega
  refine ⟨hn, ?_⟩
  rcases Nat.eq_zero_or_pos n with h0 | h0
  · exact .inl (List.eq_nil_of_length_eq_zero (by omega))
  · obtain ⟨g, cur, rfl, x, hc⟩ := L.box h0
    refine .inr ⟨g, 0, cur, _, _, rfl, x, fun i hi => ?_⟩
    obtain ⟨n1, o1, k1, c1, n2, o2, k2, c2, e1, e2, e3, e4, h1, h2⟩ := d.els i hi
    exact ⟨n1, o1, k1, c1, n2, o2, k2, c2, by rw [Nat.zero_add]; exact hc _ _ e1, by rw [Nat.zero_add]; exact hc _ _ e2, by rw [Nat.zero_add]; exact hc _ _ e3, by rw [Nat.zero_add]; exact hc _ _ e4, h1, h2⟩
/-! ### Own lists written in place -/
def setL (xs : List Value) : List (Nat × Value) → List Value
  | [] => xs
  | (i, v) :: l => setL (xs.set i v) l
theorem Lst.put1 {w : World} {B g n c sz : Nat} {ty : TypeId} {xs : List Value} (h : Lst w B ty sz (.slice (some ⟨g, 0, none⟩) n c) n xs) (i : Nat) (hi : i < n * sz) (v : Value) (hv : nd v = true) :
    Lst (w.setCell ⟨g, i, none⟩ v) B ty sz (.slice (some ⟨g, 0, none⟩) n c) n (xs.set i v) ∧ Only g w (w.setCell ⟨g, i, none⟩ v) := by
  refine ⟨?_, (Only.refl g w).setCell i v⟩
  rcases h.1.2 with ⟨e, h0⟩ | ⟨g', cap, cur, e, hb, hg, hnc, hcm, hcs, htake⟩
  · cases e
  · simp only [Value.slice.injEq, Option.some.injEq, Addr.mk.injEq, and_true, true_and] at e
    obtain ⟨rfl, rfl⟩ := e
    have hg2 : (w.setCell ⟨g, i, none⟩ v).heap[g]? = some (.cells (cur.setIfInBounds i v) ty) := Bs.set (cs := cur) (ty := ty) hg i v
    refine ⟨⟨by rw [List.length_set]; exact h.1.1, .inr ⟨g, c, cur.setIfInBounds i v, rfl, hb, hg2, hnc, hcm, by rw [Array.size_setIfInBounds]; exact hcs, ?_⟩⟩, fun k cur2 hk hc => ?_⟩
    · rw [Array.toList_setIfInBounds, List.take_set, htake]
    · obtain rfl : g = k := by simpa [Value.ownBlock] using hk
      rw [hg2] at hc
      injection hc with hc
      injection hc with hc
      have h6 := List.all_eq_true.1 (h.2 g cur rfl hg)
      rw [← hc, Array.toList_setIfInBounds, List.all_eq_true]
      intro x hx
      rcases List.mem_or_eq_of_mem_set hx with h | rfl
      · exact h6 x h
      · exact hv
theorem Lst.put {B g n c sz : Nat} {ty : TypeId} : ∀ (l : List (Nat × Value)) {w : World} {xs : List Value}, Lst w B ty sz (.slice (some ⟨g, 0, none⟩) n c) n xs → (∀ p ∈ l, p.1 < n * sz ∧ nd p.2 = true) →
    Lst (setAll w g l) B ty sz (.slice (some ⟨g, 0, none⟩) n c) n (setL xs l) ∧ Only g w (setAll w g l)
  | [], w, xs, h, _ => ⟨h, Only.refl g w⟩
  | (i, v) :: l, w, xs, h, hl => by
    obtain ⟨h1, h2⟩ := h.put1 i (hl _ (List.mem_cons_self ..)).1 v (hl _ (List.mem_cons_self ..)).2
    obtain ⟨h3, h4⟩ := Lst.put l h1 fun p hp => hl p (List.mem_cons_of_mem _ hp)
    exact ⟨h3, h2.trans h4⟩
section
variable {P : Program} {o : Oper} {a : Act} {w w0 : World} {B : Exit → Act → World → Prop} {E : World → Prop} {G : Act → World → Prop} {bs : List En}
theorem St.put {g n c sz : Nat} {ty : TypeId} {xs : List Value} (hs : St w0 bs w) (i : Nat) (hi : bs[i]? = some (ls w0.heap.size ty sz (.slice (some ⟨g, 0, none⟩) n c) n xs)) (l : List (Nat × Value)) (hl : ∀ p ∈ l, p.1 < n * sz ∧ nd p.2 = true) (ht : (ty == 105) = false) :
    St w0 (bs.set i (ls w0.heap.size ty sz (.slice (some ⟨g, 0, none⟩) n c) n (setL xs l))) (setAll w g l) ∧ NoD w g ∧ Only g w (setAll w g l) := by
  have L : Lst w w0.heap.size ty sz (.slice (some ⟨g, 0, none⟩) n c) n xs := (hs.1.at hi).1
  obtain ⟨L2, ho⟩ := L.put l hl
  have hg : w0.heap.size ≤ g := (L.1.lt g rfl).1
  exact ⟨hs.st i hi (fun k _ hne => ho.block k fun e => hne (by rw [e]; rfl)) (Nat.le_of_eq ho.size.symm) (.ls L2) (fun k hk => .inl hk) (belowOnly hs.b ho hg), L.nod ht g rfl, ho⟩
theorem Lst.cellAt {g n c sz j : Nat} {ty : TypeId} {xs : List Value} {B0 : Nat} (L : Lst w B0 ty sz (.slice (some ⟨g, 0, none⟩) n c) n xs) (hj : j < n * sz) : ∃ u, w.cell? ⟨g, j, none⟩ = some u ∧ w.frozen? ⟨g, j, none⟩ = false := by
  have hl : j < xs.length := by rw [L.1.1]; exact hj
  obtain ⟨g', e, hc⟩ := L.cell (List.getElem?_eq_getElem hl)
  cases e
  refine ⟨_, hc, ?_⟩
  obtain ⟨g', cur, e, x, _⟩ := L.box (Nat.pos_of_ne_zero fun h => by subst h; simp at hj)
  cases e
  exact x.free j
/-- A row of a matrix, a number of a vector, written in an own list. -/
theorem Stp.i1 {g n c j : Nat} {ty : TypeId} {xs : List Value} {c0 : Value} {a' : Act} (i : Nat) (hs : St w0 bs w) (hj : j < n)
    (h : ∀ w', St w0 (bs.set i (ls w0.heap.size ty 1 (.slice (some ⟨g, 0, none⟩) n c) n (xs.set j c0))) w' → Kp w w' → NoD w g → Only g w w' → Below w0.heap.size w w' → G a' w')
    (hi : bs[i]? = some (ls w0.heap.size ty 1 (.slice (some ⟨g, 0, none⟩) n c) n xs) := by rfl)
    (h1 : ∀ d0, w.cell? ⟨g, j, none⟩ = some d0 → w.frozen? ⟨g, j, none⟩ = false → ∀ K : Act → World → Prop, K a' (w.setCell ⟨g, j, none⟩ c0) → o.wp P a w K B := by intro d0 e0 f0 K hK; go_big_op; exact hK)
    (e : ∀ w', Below w0.heap.size w0 w' → Only g w w' → E w' := by exact fun _ _ _ => trivial) (hd : a'.defers = a.defers := by rfl) (hn : nd c0 = true := by rfl) (ht : (ty == 105) = false := by rfl) : Stp P o a w B E G := fun K hK => by
  obtain ⟨hs2, h3, h4⟩ := hs.put i hi [(j, c0)] (fun p hp => by obtain rfl : p = (j, c0) := by simpa using hp
                                                                exact ⟨by simpa using hj, hn⟩) ht
  obtain ⟨d0, e0, f0⟩ := Lst.cellAt (B0 := w0.heap.size) (hs.1.at hi).1 (j := j) (by simpa using hj)
  exact h1 d0 e0 f0 K (hK _ _ hd (e _ hs2.b h4) (h _ hs2 (ko h3 h4) h3 h4 (h4.below ((hs.1.at hi).1.1.lt g rfl).1)))
theorem Stp.i4 {g n c j : Nat} {ty : TypeId} {xs : List Value} {c0 c1 c2 c3 : Value} {a' : Act} (i : Nat) (hs : St w0 bs w) (hj : j < n)
    (h : ∀ w', St w0 (bs.set i (ls w0.heap.size ty 4 (.slice (some ⟨g, 0, none⟩) n c) n (setL xs [(j * 4, c0), (j * 4 + 1, c1), (j * 4 + 2, c2), (j * 4 + 3, c3)]))) w' → Kp w w' → NoD w g → Only g w w' → Below w0.heap.size w w' → G a' w')
    (hi : bs[i]? = some (ls w0.heap.size ty 4 (.slice (some ⟨g, 0, none⟩) n c) n xs) := by rfl)
    (h1 : ∀ d0 d1 d2 d3, w.cell? ⟨g, j * 4, none⟩ = some d0 → w.cell? ⟨g, j * 4 + 1, none⟩ = some d1 → w.cell? ⟨g, j * 4 + 2, none⟩ = some d2 → w.cell? ⟨g, j * 4 + 3, none⟩ = some d3 → w.frozen? ⟨g, j * 4, none⟩ = false → w.frozen? ⟨g, j * 4 + 1, none⟩ = false → w.frozen? ⟨g, j * 4 + 2, none⟩ = false → w.frozen? ⟨g, j * 4 + 3, none⟩ = false →
      ∀ K : Act → World → Prop, K a' ((((w.setCell ⟨g, j * 4, none⟩ c0).setCell ⟨g, j * 4 + 1, none⟩ c1).setCell ⟨g, j * 4 + 2, none⟩ c2).setCell ⟨g, j * 4 + 3, none⟩ c3) → o.wp P a w K B := by intro d0 d1 d2 d3 e0 e1 e2 e3 f0 f1 f2 f3 K hK; go_big_op; exact hK)
    (e : ∀ w', Below w0.heap.size w0 w' → Only g w w' → E w' := by exact fun _ _ _ => trivial) (hd : a'.defers = a.defers := by rfl) (hn : [c0, c1, c2, c3].all nd = true := by rfl) (ht : (ty == 105) = false := by rfl) : Stp P o a w B E G := fun K hK => by
  obtain ⟨hs2, h3, h4⟩ := hs.put i hi [(j * 4, c0), (j * 4 + 1, c1), (j * 4 + 2, c2), (j * 4 + 3, c3)] (fun p hp => by
    simp only [List.all_cons, List.all_nil, Bool.and_eq_true, and_true] at hn
    obtain ⟨n0, n1, n2, n3⟩ := hn
    simp only [List.mem_cons, List.not_mem_nil, or_false] at hp
    rcases hp with rfl | rfl | rfl | rfl
    · exact ⟨by show j * 4 < n * 4; omega, n0⟩
    · exact ⟨by show j * 4 + 1 < n * 4; omega, n1⟩
    · exact ⟨by show j * 4 + 2 < n * 4; omega, n2⟩
    · exact ⟨by show j * 4 + 3 < n * 4; omega, n3⟩) ht
  have L := (hs.1.at hi).1
  obtain ⟨d0, e0, f0⟩ := Lst.cellAt (B0 := w0.heap.size) L (j := j * 4) (by omega)
  obtain ⟨d1, e1, f1⟩ := Lst.cellAt (B0 := w0.heap.size) L (j := j * 4 + 1) (by omega)
  obtain ⟨d2, e2, f2⟩ := Lst.cellAt (B0 := w0.heap.size) L (j := j * 4 + 2) (by omega)
  obtain ⟨d3, e3, f3⟩ := Lst.cellAt (B0 := w0.heap.size) L (j := j * 4 + 3) (by omega)
  exact h1 d0 d1 d2 d3 e0 e1 e2 e3 f0 f1 f2 f3 K (hK _ _ hd (e _ hs2.b h4) (h _ hs2 (ko h3 h4) h3 h4 (h4.below ((hs.1.at hi).1.1.lt g rfl).1)))
/-- A list is made. -/
theorem Stp.mk {t ety : TypeId} {inf : TypeInfo} {z : Value} {sz n : Nat} {l : Int} {lo co : Operand} {p : Nat → Act} (hs : St w0 bs w)
    (h : ∀ g xs w', St w0 (ls w0.heap.size ety sz (.slice (some ⟨g, 0, none⟩) n n) n xs :: bs) w' → xs = (madeCells z.cells (n * sz)).toList → Below w.heap.size w w' → Hid (w0.heap.size ≤ g) → G (p g) w')
    (hl : l = (n : Int)) (hn : n ≤ 100000000)
    (ho : o.op = .makeSlice t lo co := by rfl) (hlo : a.eval lo = .int .i64 l := by rfl) (hco : a.eval co = .int .i64 l := by rfl) (ht : P.underlying t = some (.slice ety) := by rfl) (hinf : P.info? ety = some inf := by rfl) (hz : inf.zero = some z := by rfl)
    (hsz : inf.size = sz := by rfl) (hby : inf.bytes ≤ 1000 := by decide) (hnd : z.cells.toList.all nd = true := by rfl) (h0 : z.cells.size = sz := by rfl) (h00 : 0 < sz := by decide)
    (hp : ∀ g, a.put o.dst (.slice (some ⟨g, 0, none⟩) n n) = p g := by intro g; unfold Act.put; simp only [List.setIfInBounds_toArray, List.set_cons_succ, List.set_cons_zero]; rfl)
    (eE : ∀ w', Below w.heap.size w w' → E w' := by exact fun _ _ => trivial) (hd : ∀ g, (p g).defers = a.defers := by exact fun _ => rfl) : Stp P o a w B E G := fun K hK => by
  subst hl
  obtain ⟨w', hr, hown, hg⟩ := run_make_full (P := P) w w0.heap.size t ety inf z sz ht hinf hz hsz .i64 .i64 n (Nat.le_trans (Nat.mul_le_mul_right _ hby) (by omega)) (by unfold maxLen; omega) hs.k
  have hb : Below w.heap.size w w' := ⟨hg.os, hg.tape, hg.output, hg.size, fun k hk => hg.block k hk fun h => by cases h⟩
  have hlt := hown.lt w.heap.size rfl
  have L : Lst w' w0.heap.size ety sz (.slice (some ⟨w.heap.size, 0, none⟩) n n) n (madeCells z.cells (n * sz)).toList := by
    refine ⟨hown, fun k cur hk hc => ?_⟩
    obtain rfl : w.heap.size = k := by simpa [Value.ownBlock] using hk
    rcases hown.2 with ⟨e, _⟩ | ⟨g', cap, cur', e, hb', hg', hnc, hcm, hcs, htake⟩
    · cases e
    · simp only [Value.slice.injEq, Option.some.injEq, Addr.mk.injEq, and_true, true_and] at e
      obtain ⟨rfl, rfl⟩ := e
      rw [hg'] at hc
      injection hc with hc
      injection hc with hc
      rw [← hc]
      have hall : cur'.toList = (madeCells z.cells (n * sz)).toList := by
        rw [← htake, List.take_of_length_le (by rw [Array.length_toList, hcs]; exact Nat.le_refl _)]
      rw [hall, List.all_eq_true]
      intro x hx
      unfold madeCells at hx
      simp only [Array.toList_map, List.mem_map] at hx
      obtain ⟨j, hj, rfl⟩ := hx
      have hlt2 : j % z.cells.size < z.cells.size := Nat.mod_lt _ (by omega)
      rw [getElem!_pos z.cells _ hlt2]
      exact List.all_eq_true.1 hnd _ (by simp)
  have hst : St w0 (ls w0.heap.size ety sz (.slice (some ⟨w.heap.size, 0, none⟩) n n) n (madeCells z.cells (n * sz)).toList :: bs) w' :=
    .cons (.ls L) (fun f hf k hk hc => by
      have h1 := hs.lt f hf k hc
      obtain rfl : w.heap.size = k := by simpa [ls, Value.ownBlock] using hk
      exact Nat.lt_irrefl _ h1) (hs.bl hb)
  unfold Oper.wp execOp
  simp only [ho, hlo, hco, Sem.run_bind, Sem.run_pure, hr, Result.andThen_ok, Oper.upon]
  have h7 := hK (p w.heap.size) w' (hd _) (eE _ hb) (h _ _ _ hst rfl hb hs.k)
  rw [← hp] at h7
  exact h7
end
/-- The state's entries in another order. -/
theorem AllE.perm {w : World} {bs cs : List En} (h : bs.Perm cs) : AllE bs w → AllE cs w := by
  have key : ∀ {l : List En}, AllE l w ↔ ∀ e ∈ l, Ok e w := by
    intro l
    induction l with
    | nil => simp [AllE]
    | cons a t ih => simp [AllE, ih]
  exact fun ha => key.2 fun e he => key.1 ha e (h.mem_iff.2 he)
theorem FD.perm {l m : List (Option Nat)} (h : l.Perm m) (hd : FD l) : FD m := h.pairwise hd fun hab k h1 h2 => hab k h2 h1
theorem St.perm {w0 w : World} {bs cs : List En} (h : bs.Perm cs) (hs : St w0 bs w) : St w0 cs w := ⟨hs.1.perm h, FD.perm (h.map _) hs.2.1, hs.2.2⟩
/-- What a call has made, with its own state, joins the state. -/
theorem St.app {w0 w w' : World} {bs es : List En} (hs : St w0 bs w) (h : St w es w') (hk : ∀ e ∈ es, ∀ k, e.1 = some k → w.heap.size ≤ k) : St w0 (es ++ bs) w' := by
  have hb := hs.bl h.b
  refine ⟨?_, ?_, hb.b⟩
  · have : ∀ {es : List En}, AllE es w' → AllE (es ++ bs) w' := by
      intro es
      induction es with
      | nil => exact fun _ => hb.1
      | cons e t ih => exact fun h => ⟨h.1, ih h.2⟩
    exact this h.1
  · rw [List.map_append]
    refine List.pairwise_append.2 ⟨h.2.1, hb.2.1, fun a ha b hb' k h1 h2 => ?_⟩
    obtain ⟨e, he, rfl⟩ := List.mem_map.1 ha
    have h3 := hk e he k h1
    have h4 := hs.lt b hb' k h2
    omega
/-- A row of an own matrix. -/
structure Rw where
  v : Value
  n : Nat
  xs : List Value
def Rw.e (B : Nat) (r : Rw) : En := ls B 26 4 r.v r.n r.xs
/-- An own matrix: the list of its rows, and these. -/
def Mx (B : Nat) (v : Value) (rs : List Rw) : List En := ls B 28 1 v rs.length (rs.map (·.v)) :: rs.map (Rw.e B)
/-- The rows hold these numbers. -/
def RD (w : World) : List Rw → List (List (Int × Int)) → Prop
  | [], [] => True
  | r :: rs, p :: Ms => (r.n = p.length ∧ GD w r.xs p) ∧ RD w rs Ms
  | _, _ => False
theorem RD.k {w w' : World} (k : Kp w w') : ∀ {rs : List Rw} {Ms : List (List (Int × Int))}, RD w rs Ms → RD w' rs Ms
  | [], [], _ => trivial
  | _ :: _, _ :: _, h => ⟨⟨h.1.1, h.1.2.k k⟩, RD.k k h.2⟩
theorem RD.len {w : World} : ∀ {rs : List Rw} {Ms : List (List (Int × Int))}, RD w rs Ms → rs.length = Ms.length
  | [], [], _ => rfl
  | _ :: _, _ :: _, h => by simp [RD.len h.2]
theorem RD.get {w : World} : ∀ {rs : List Rw} {Ms : List (List (Int × Int))}, RD w rs Ms → ∀ i (hi : i < Ms.length), ∃ r, rs[i]? = some r ∧ r.n = Ms[i].length ∧ GD w r.xs Ms[i]
  | [], [], _, i, hi => absurd hi (Nat.not_lt_zero _)
  | r :: rs, p :: Ms, h, 0, hi => ⟨r, rfl, h.1⟩
  | r :: rs, p :: Ms, h, i + 1, hi => by
    obtain ⟨r', h1, h2⟩ := RD.get h.2 i (by simpa using hi)
    exact ⟨r', by simpa using h1, by simpa using h2⟩
theorem RD.snoc {w : World} : ∀ {rs : List Rw} {Ms : List (List (Int × Int))} {r : Rw} {p : List (Int × Int)}, RD w rs Ms → r.n = p.length → GD w r.xs p → RD w (rs ++ [r]) (Ms ++ [p])
  | [], [], r, p, _, h1, h2 => ⟨⟨h1, h2⟩, trivial⟩
  | _ :: _, _ :: _, r, p, h, h1, h2 => ⟨h.1, RD.snoc h.2 h1 h2⟩
/-- An own matrix can be read. -/
theorem Mx.mc {w0 w : World} {B c : Nat} {o : Option Addr} {rs : List Rw} {bs : List En} {Ms : List (List (Int × Int))} (hs : St w0 (Mx B (.slice o rs.length c) rs ++ bs) w) (hr : RD w rs Ms) : MC w o Ms := by
  have hn := hr.len
  have L : Lst w B 28 1 (.slice o rs.length c) rs.length (rs.map (·.v)) := hs.1.1.1
  rcases Nat.eq_zero_or_pos rs.length with h0 | h0
  · exact .inl (List.eq_nil_of_length_eq_zero (by omega))
  · obtain ⟨g, cur, rfl, x, hc⟩ := L.box h0
    refine .inr ⟨g, 0, cur, _, _, rfl, x, fun i hi => ?_⟩
    obtain ⟨r, h1, h2, h3⟩ := hr.get i hi
    have h4 : (Mx B (.slice (some ⟨g, 0, none⟩) rs.length c) rs ++ bs)[i + 1]? = some (r.e B) := by
      unfold Mx
      rw [List.cons_append, List.getElem?_cons_succ, List.getElem?_append_left (by rw [List.length_map]; omega), List.getElem?_map, h1]; rfl
    have L2 : Lst w B 26 4 r.v r.n r.xs := (hs.1.at h4).1
    obtain ⟨o2, c2, e⟩ := L2.shape
    have h5 : (rs.map (·.v))[i]? = some r.v := by rw [List.getElem?_map, h1]; rfl
    have := hc _ _ h5
    rw [e] at L2
    refine ⟨o2, c2, by rw [Nat.zero_add, this, e, h2], (L2.sc h3).2⟩
theorem ls_mono {w : World} {B C : Nat} {ty : TypeId} {sz n : Nat} {v : Value} {xs : List Value} (h : Ok (ls B ty sz v n xs) w) (hC : C ≤ B) : Ok (ls C ty sz v n xs) w := .ls (h.1.mono hC)
/-- An own matrix that a call has made joins the state: its list ahead, its rows behind. -/
theorem St.mx {w0 w w' : World} {bs : List En} {v : Value} {rs : List Rw} {n : Nat} (hs : St w0 bs w) (hn : rs.length = n) (h : St w (Mx w.heap.size v rs) w') :
    St w0 (ls w0.heap.size 28 1 v n (rs.map (·.v)) :: (bs ++ rs.map (Rw.e w0.heap.size))) w' := by
  have hge : ∀ {rs : List Rw}, AllE (rs.map (Rw.e w.heap.size)) w' → AllE (rs.map (Rw.e w0.heap.size)) w' ∧ (rs.map (Rw.e w0.heap.size)).map (·.1) = (rs.map (Rw.e w.heap.size)).map (·.1) ∧ ∀ e ∈ rs.map (Rw.e w.heap.size), ∀ k, e.1 = some k → w.heap.size ≤ k := by
    intro rs
    induction rs with
    | nil => exact fun _ => ⟨trivial, rfl, fun e he => by cases he⟩
    | cons r t ih =>
      intro ha
      obtain ⟨h1, h2, h3⟩ := ih ha.2
      refine ⟨⟨ls_mono ha.1 hs.k, h1⟩, by simp only [List.map_cons, List.cons.injEq]; exact ⟨rfl, h2⟩, fun e he k hk => ?_⟩
      rcases List.mem_cons.1 he with rfl | he
      · have h9 : Lst w' w.heap.size 26 4 r.v r.n r.xs := ha.1.1
        exact (h9.1.lt k hk).1
      · exact h3 e he k hk
  obtain ⟨h1, h2, h3⟩ := hge h.1.2
  have h0 : Ok (ls w0.heap.size 28 1 v rs.length (rs.map (·.v))) w' := ls_mono h.1.1 hs.k
  have st : St w0 ((ls w0.heap.size 28 1 v rs.length (rs.map (·.v)) :: rs.map (Rw.e w0.heap.size)) ++ bs) w' := by
    have hb := hs.bl h.b
    refine ⟨?_, ?_, hb.b⟩
    · refine ⟨h0, ?_⟩
      have : ∀ {es : List En}, AllE es w' → AllE (es ++ bs) w' := by
        intro es
        induction es with
        | nil => exact fun _ => hb.1
        | cons e t ih => exact fun h => ⟨h.1, ih h.2⟩
      exact this h1
    · rw [List.map_append]
      have hfd : FD ((ls w0.heap.size 28 1 v rs.length (rs.map (·.v)) :: rs.map (Rw.e w0.heap.size)).map (·.1)) := by
        rw [List.map_cons, h2]; exact h.2.1
      refine List.pairwise_append.2 ⟨hfd, hb.2.1, fun a ha b hb' k hk1 hk2 => ?_⟩
      have h4 := hs.lt b hb' k hk2
      obtain ⟨e, he, rfl⟩ := List.mem_map.1 ha
      rcases List.mem_cons.1 he with rfl | he
      · have h9 : Lst w' w.heap.size 28 1 v rs.length (rs.map (·.v)) := h.1.1.1
        have := (h9.1.lt k hk1).1
        omega
      · have h5 : e.1 ∈ (rs.map (Rw.e w.heap.size)).map (·.1) := by rw [← h2]; exact List.mem_map.2 ⟨e, he, rfl⟩
        obtain ⟨e', he', h6⟩ := List.mem_map.1 h5
        have := h3 e' he' k (h6.trans hk1)
        omega
  subst hn
  exact st.perm (List.Perm.cons _ List.perm_append_comm)
theorem Mx.mc0 {w w' : World} {B n c : Nat} {o : Option Addr} {rs : List Rw} {Ms : List (List (Int × Int))} (hs : St w (Mx B (.slice o n c) rs) w') (hn : rs.length = n) (hr : RD w' rs Ms) : MC w' o Ms := by
  subst hn
  exact Mx.mc (bs := []) (by rw [List.append_nil]; exact hs) hr
/-- The norm. -/
def gN (x y : Int) : Int := x * x + y * y
theorem mul_self_nonneg' (x : Int) : 0 ≤ x * x := by
  rcases Int.le_total 0 x with h | h
  · exact Int.mul_nonneg h h
  · exact Int.mul_nonneg_of_nonpos_of_nonpos h h
section
variable {w : World} {va vb : Value} {x y u v : Int} {l m k n : Nat}
set_option maxHeartbeats 4000000 in
set_option maxRecDepth 20000 in
theorem gAdd_any (ha : PN w va x l y m) (hq : PN w vb u k v n) (hl : l ≤ 100000000) (hm : m ≤ 100000000) (hk : k ≤ 100000000) (hn : n ≤ 100000000) :
    Calls Tryz.prog 94 #[va, vb] w fun e w' => ∃ r, e = .returned r ∧ PC w' r (x + u) (y + v) ∧ Below w.heap.size w w' := by
  obtain ⟨n_0a, o_0a, k_0a, c_0a, n_0b, o_0b, k_0b, c_0b, rfl, ha1, ha2⟩ := ha
  obtain ⟨n_1a, o_1a, k_1a, c_1a, n_1b, o_1b, k_1b, c_1b, rfl, hq1, hq2⟩ := hq
  go_enter Tryz.func94, Tryz.ntmps94
  have hs := St.nil w
  refine wp_seq_k ?_
  intro K1 hK1
  refine rg [0, 1, 2] ?_
  refine sq ?_
  refine .al hs ?_; clear hs; intro p_b1 w_1 hs n1 kb_b1
  refine sq ?_
  refine .al hs ?_; clear hs; intro p_b2 w_2 hs n2 kb_b2
  refine sq ?_
  refine .al hs ?_; clear hs; intro p_b3 w_3 hs n3 kb_b3
  apply wpSq_end
  refine hK1 _ _ ?_
  refine wp_seq_k ?_
  intro K2 hK2
  refine wp_region_f4 [(0, false), (1, false), (2, false), (3, false), (5, false), (6, false), (7, false), (8, false), (4, true), (9, true), (10, false)] [11] [] (fun _ => default) [99, 0, 99, 1, 99, 99, 0, 99, 1, 99, 99, 99] [] (.c hs.g2 (.c hs.g1 .n)) fn fun w_4 n4 => ?_
  replace hs := hs.bl n4
  refine f0 ?_
  refine f4 ?_
  refine f0 ?_
  refine f4 ?_
  refine f0 ?_
  refine f4 ?_
  refine f0 ?_
  refine f4 ?_
  refine fl fun w_5 n5 => ?_
  replace hs := hs.bl n5
  intro K hK
  have k0_5 := ((((kb n1).b n2).b n3).b n4).b n5
  replace ha1 := ha1.k k0_5
  replace hq1 := hq1.k k0_5
  go_big_op
  go_fit (zadd_any ha1 hq1 (by omega) (by omega) )
  rintro e w_6 ⟨v_g1, rfl, g1, hb_6⟩
  replace hs := hs.bl hb_6
  replace g1 := g1.rd
  obtain ⟨n_g1, o_g1, k_g1, c_g1, rfl⟩ := g1.open2
  have Lg1 := hide (g1.lenOf (zlen_add (ha1.len) (hq1.len)))
  refine hK _ _ rfl ⟨hb_6, (And.intro hs.g2 (And.intro hs.g1 trivial))⟩ ?_
  clear hK K
  refine fl fun w_7 n7 => ?_
  replace hs := hs.bl n7
  intro K hK
  have k0_7 := (k0_5.b hb_6).b n7
  replace ha2 := ha2.k k0_7
  replace hq2 := hq2.k k0_7
  go_big_op
  go_fit (zadd_any ha2 hq2 (by omega) (by omega) )
  rintro e w_8 ⟨v_g2, rfl, g2, hb_8⟩
  replace hs := hs.bl hb_8
  replace g2 := g2.rd
  obtain ⟨n_g2, o_g2, k_g2, c_g2, rfl⟩ := g2.open2
  have Lg2 := hide (g2.lenOf (zlen_add (ha2.len) (hq2.len)))
  refine hK _ _ rfl ⟨hb_8, (And.intro hs.g2 (And.intro hs.g1 trivial))⟩ ?_
  clear hK K
  refine f0 ?_
  refine e0 hs ?_; clear hs; intro w_9 hs n9
  refine tl ?_
  refine .s4 hs.g0 (fun _ => hs.u0 kb_b3) ?_ (e := fun _ hs => (And.intro hs.g2 (And.intro hs.g1 True.intro))); clear hs; intro w_10 hs hd10 ho10
  apply wpTail_end
  refine hK2 _ _ ?_
  refine wp_ret ?_
  try dsimp only [Exit.then, Exit.inBlock]
  obtain ⟨r0_0, r0_1, r0_2, r0_3⟩ := hs.g0.f4
  refine bodyPost_ret (v := (.agg #[.bool n_g1, .slice o_g1 k_g1 c_g1, .bool n_g2, .slice o_g2 k_g2 c_g2])) (by simp [results, Tryz.results94, go_sem, r0_0, r0_1, r0_2, r0_3]) rfl ?_
  have k6_10 := (((kb n7).b hb_8).b n9).o hd10 ho10
  replace g1 := g1.k k6_10
  have k8_10 := (kb n9).o hd10 ho10
  replace g2 := g2.k k8_10
  exact ⟨_, rfl, .mk' g1 g2, hs.b⟩
set_option maxHeartbeats 4000000 in
set_option maxRecDepth 20000 in
theorem gSub_any (ha : PN w va x l y m) (hq : PN w vb u k v n) (hl : l ≤ 100000000) (hm : m ≤ 100000000) (hk : k ≤ 100000000) (hn : n ≤ 100000000) :
    Calls Tryz.prog 65 #[va, vb] w fun e w' => ∃ r, e = .returned r ∧ PC w' r (x - u) (y - v) ∧ Below w.heap.size w w' := by
  obtain ⟨n_0a, o_0a, k_0a, c_0a, n_0b, o_0b, k_0b, c_0b, rfl, ha1, ha2⟩ := ha
  obtain ⟨n_1a, o_1a, k_1a, c_1a, n_1b, o_1b, k_1b, c_1b, rfl, hq1, hq2⟩ := hq
  go_enter Tryz.func65, Tryz.ntmps65
  have hs := St.nil w
  refine wp_seq_k ?_
  intro K1 hK1
  refine rg [0, 1, 2] ?_
  refine sq ?_
  refine .al hs ?_; clear hs; intro p_b1 w_1 hs n1 kb_b1
  refine sq ?_
  refine .al hs ?_; clear hs; intro p_b2 w_2 hs n2 kb_b2
  refine sq ?_
  refine .al hs ?_; clear hs; intro p_b3 w_3 hs n3 kb_b3
  apply wpSq_end
  refine hK1 _ _ ?_
  refine wp_seq_k ?_
  intro K2 hK2
  refine wp_region_f4 [(0, false), (1, false), (2, false), (3, false), (5, false), (6, false), (7, false), (8, false), (4, true), (9, true), (10, false)] [11] [] (fun _ => default) [99, 0, 99, 1, 99, 99, 0, 99, 1, 99, 99, 99] [] (.c hs.g2 (.c hs.g1 .n)) fn fun w_4 n4 => ?_
  replace hs := hs.bl n4
  refine f0 ?_
  refine f4 ?_
  refine f0 ?_
  refine f4 ?_
  refine f0 ?_
  refine f4 ?_
  refine f0 ?_
  refine f4 ?_
  refine fl fun w_5 n5 => ?_
  replace hs := hs.bl n5
  intro K hK
  have k0_5 := ((((kb n1).b n2).b n3).b n4).b n5
  replace ha1 := ha1.k k0_5
  replace hq1 := hq1.k k0_5
  go_big_op
  go_fit (zsub_any ha1 hq1 (by omega) (by omega) )
  rintro e w_6 ⟨v_g1, rfl, g1, hb_6⟩
  replace hs := hs.bl hb_6
  replace g1 := g1.rd
  obtain ⟨n_g1, o_g1, k_g1, c_g1, rfl⟩ := g1.open2
  have Lg1 := hide (g1.lenOf (zlen_sub (ha1.len) (hq1.len)))
  refine hK _ _ rfl ⟨hb_6, (And.intro hs.g2 (And.intro hs.g1 trivial))⟩ ?_
  clear hK K
  refine fl fun w_7 n7 => ?_
  replace hs := hs.bl n7
  intro K hK
  have k0_7 := (k0_5.b hb_6).b n7
  replace ha2 := ha2.k k0_7
  replace hq2 := hq2.k k0_7
  go_big_op
  go_fit (zsub_any ha2 hq2 (by omega) (by omega) )
  rintro e w_8 ⟨v_g2, rfl, g2, hb_8⟩
  replace hs := hs.bl hb_8
  replace g2 := g2.rd
  obtain ⟨n_g2, o_g2, k_g2, c_g2, rfl⟩ := g2.open2
  have Lg2 := hide (g2.lenOf (zlen_sub (ha2.len) (hq2.len)))
  refine hK _ _ rfl ⟨hb_8, (And.intro hs.g2 (And.intro hs.g1 trivial))⟩ ?_
  clear hK K
  refine f0 ?_
  refine e0 hs ?_; clear hs; intro w_9 hs n9
  refine tl ?_
  refine .s4 hs.g0 (fun _ => hs.u0 kb_b3) ?_ (e := fun _ hs => (And.intro hs.g2 (And.intro hs.g1 True.intro))); clear hs; intro w_10 hs hd10 ho10
  apply wpTail_end
  refine hK2 _ _ ?_
  refine wp_ret ?_
  try dsimp only [Exit.then, Exit.inBlock]
  obtain ⟨r0_0, r0_1, r0_2, r0_3⟩ := hs.g0.f4
  refine bodyPost_ret (v := (.agg #[.bool n_g1, .slice o_g1 k_g1 c_g1, .bool n_g2, .slice o_g2 k_g2 c_g2])) (by simp [results, Tryz.results65, go_sem, r0_0, r0_1, r0_2, r0_3]) rfl ?_
  have k6_10 := (((kb n7).b hb_8).b n9).o hd10 ho10
  replace g1 := g1.k k6_10
  have k8_10 := (kb n9).o hd10 ho10
  replace g2 := g2.k k8_10
  exact ⟨_, rfl, .mk' g1 g2, hs.b⟩
set_option maxHeartbeats 4000000 in
set_option maxRecDepth 20000 in
theorem gMul_any (ha : PN w va x l y m) (hq : PN w vb u k v n) (hl : l ≤ 40000000) (hm : m ≤ 40000000) (hk : k ≤ 40000000) (hn : n ≤ 40000000) :
    Calls Tryz.prog 42 #[va, vb] w fun e w' => ∃ r, e = .returned r ∧ PC w' r (x * u - y * v) (x * v + y * u) ∧ Below w.heap.size w w' := by
  obtain ⟨n_0a, o_0a, k_0a, c_0a, n_0b, o_0b, k_0b, c_0b, rfl, ha1, ha2⟩ := ha
  obtain ⟨n_1a, o_1a, k_1a, c_1a, n_1b, o_1b, k_1b, c_1b, rfl, hq1, hq2⟩ := hq
  go_enter Tryz.func42, Tryz.ntmps42
  have hs := St.nil w
  refine wp_seq_k ?_
  intro K1 hK1
  refine rg [0, 1, 2] ?_
  refine sq ?_
  refine .al hs ?_; clear hs; intro p_b1 w_1 hs n1 kb_b1
  refine sq ?_
  refine .al hs ?_; clear hs; intro p_b2 w_2 hs n2 kb_b2
  refine sq ?_
  refine .al hs ?_; clear hs; intro p_b3 w_3 hs n3 kb_b3
  apply wpSq_end
  refine hK1 _ _ ?_
  refine wp_seq_k ?_
  intro K2 hK2
  refine wp_region_f4 [(0, false), (1, false), (2, false), (3, false), (5, false), (6, false), (7, false), (8, false), (11, false), (12, false), (13, false), (14, false), (16, false), (17, false), (18, false), (19, false), (4, true), (9, true), (10, true), (15, true), (20, true), (21, true), (22, false)] [23] [] (fun _ => default) [99, 0, 99, 1, 99, 99, 0, 99, 1, 99, 99, 99, 0, 99, 1, 99, 99, 0, 99, 1, 99, 99, 99, 99] [] (.c hs.g2 (.c hs.g1 .n)) fn fun w_4 n4 => ?_
  replace hs := hs.bl n4
  refine f0 ?_
  refine f4 ?_
  refine f0 ?_
  refine f4 ?_
  refine f0 ?_
  refine f4 ?_
  refine f0 ?_
  refine f4 ?_
  refine f0 ?_
  refine f4 ?_
  refine f0 ?_
  refine f4 ?_
  refine f0 ?_
  refine f4 ?_
  refine f0 ?_
  refine f4 ?_
  refine fl fun w_5 n5 => ?_
  replace hs := hs.bl n5
  intro K hK
  have k0_5 := ((((kb n1).b n2).b n3).b n4).b n5
  replace ha1 := ha1.k k0_5
  replace hq1 := hq1.k k0_5
  go_big_op
  go_fit (zmul_any ha1 hq1 (by omega) (by omega) )
  rintro e w_6 ⟨v_g1, rfl, g1, hb_6⟩
  replace hs := hs.bl hb_6
  replace g1 := g1.rd
  obtain ⟨n_g1, o_g1, k_g1, c_g1, rfl⟩ := g1.open2
  have Lg1 := hide (g1.lenOf (zlen_mul (ha1.len) (hq1.len)))
  refine hK _ _ rfl ⟨hb_6, (And.intro hs.g2 (And.intro hs.g1 trivial))⟩ ?_
  clear hK K
  refine fl fun w_7 n7 => ?_
  replace hs := hs.bl n7
  intro K hK
  have k0_7 := (k0_5.b hb_6).b n7
  replace ha2 := ha2.k k0_7
  replace hq2 := hq2.k k0_7
  go_big_op
  go_fit (zmul_any ha2 hq2 (by omega) (by omega) )
  rintro e w_8 ⟨v_g2, rfl, g2, hb_8⟩
  replace hs := hs.bl hb_8
  replace g2 := g2.rd
  obtain ⟨n_g2, o_g2, k_g2, c_g2, rfl⟩ := g2.open2
  have Lg2 := hide (g2.lenOf (zlen_mul (ha2.len) (hq2.len)))
  refine hK _ _ rfl ⟨hb_8, (And.intro hs.g2 (And.intro hs.g1 trivial))⟩ ?_
  clear hK K
  refine fl fun w_9 n9 => ?_
  replace hs := hs.bl n9
  intro K hK
  have k6_9 := ((kb n7).b hb_8).b n9
  replace g1 := g1.k k6_9
  have k8_9 := kb n9
  replace g2 := g2.k k8_9
  go_big_op
  go_fit (zsub_any (g1.zn Lg1.out) (g2.zn Lg2.out) (by omega) (by omega) )
  rintro e w_10 ⟨v_g3, rfl, g3, hb_10⟩
  replace hs := hs.bl hb_10
  replace g3 := g3.rd
  obtain ⟨n_g3, o_g3, k_g3, c_g3, rfl⟩ := g3.open2
  have Lg3 := hide (g3.lenOf (zlen_sub (Lg1.out) (Lg2.out)))
  refine hK _ _ rfl ⟨hb_10, (And.intro hs.g2 (And.intro hs.g1 trivial))⟩ ?_
  clear hK K
  refine fl fun w_11 n11 => ?_
  replace hs := hs.bl n11
  intro K hK
  have k5_11 := (((((kb hb_6).b n7).b hb_8).b n9).b hb_10).b n11
  replace ha1 := ha1.k k5_11
  have k7_11 := (((kb hb_8).b n9).b hb_10).b n11
  replace hq2 := hq2.k k7_11
  go_big_op
  go_fit (zmul_any ha1 hq2 (by omega) (by omega) )
  rintro e w_12 ⟨v_g4, rfl, g4, hb_12⟩
  replace hs := hs.bl hb_12
  replace g4 := g4.rd
  obtain ⟨n_g4, o_g4, k_g4, c_g4, rfl⟩ := g4.open2
  have Lg4 := hide (g4.lenOf (zlen_mul (ha1.len) (hq2.len)))
  refine hK _ _ rfl ⟨hb_12, (And.intro hs.g2 (And.intro hs.g1 trivial))⟩ ?_
  clear hK K
  refine fl fun w_13 n13 => ?_
  replace hs := hs.bl n13
  intro K hK
  have k7_13 := (k7_11.b hb_12).b n13
  replace ha2 := ha2.k k7_13
  have k5_13 := (k5_11.b hb_12).b n13
  replace hq1 := hq1.k k5_13
  go_big_op
  go_fit (zmul_any ha2 hq1 (by omega) (by omega) )
  rintro e w_14 ⟨v_g5, rfl, g5, hb_14⟩
  replace hs := hs.bl hb_14
  replace g5 := g5.rd
  obtain ⟨n_g5, o_g5, k_g5, c_g5, rfl⟩ := g5.open2
  have Lg5 := hide (g5.lenOf (zlen_mul (ha2.len) (hq1.len)))
  refine hK _ _ rfl ⟨hb_14, (And.intro hs.g2 (And.intro hs.g1 trivial))⟩ ?_
  clear hK K
  refine fl fun w_15 n15 => ?_
  replace hs := hs.bl n15
  intro K hK
  have k12_15 := ((kb n13).b hb_14).b n15
  replace g4 := g4.k k12_15
  have k14_15 := kb n15
  replace g5 := g5.k k14_15
  go_big_op
  go_fit (zadd_any (g4.zn Lg4.out) (g5.zn Lg5.out) (by omega) (by omega) )
  rintro e w_16 ⟨v_g6, rfl, g6, hb_16⟩
  replace hs := hs.bl hb_16
  replace g6 := g6.rd
  obtain ⟨n_g6, o_g6, k_g6, c_g6, rfl⟩ := g6.open2
  have Lg6 := hide (g6.lenOf (zlen_add (Lg4.out) (Lg5.out)))
  refine hK _ _ rfl ⟨hb_16, (And.intro hs.g2 (And.intro hs.g1 trivial))⟩ ?_
  clear hK K
  refine f0 ?_
  refine e0 hs ?_; clear hs; intro w_17 hs n17
  refine tl ?_
  refine .s4 hs.g0 (fun _ => hs.u0 kb_b3) ?_ (e := fun _ hs => (And.intro hs.g2 (And.intro hs.g1 True.intro))); clear hs; intro w_18 hs hd18 ho18
  apply wpTail_end
  refine hK2 _ _ ?_
  refine wp_ret ?_
  try dsimp only [Exit.then, Exit.inBlock]
  obtain ⟨r0_0, r0_1, r0_2, r0_3⟩ := hs.g0.f4
  refine bodyPost_ret (v := (.agg #[.bool n_g3, .slice o_g3 k_g3 c_g3, .bool n_g6, .slice o_g6 k_g6 c_g6])) (by simp [results, Tryz.results42, go_sem, r0_0, r0_1, r0_2, r0_3]) rfl ?_
  have k10_18 := (((((((kb n11).b hb_12).b n13).b hb_14).b n15).b hb_16).b n17).o hd18 ho18
  replace g3 := g3.k k10_18
  have k16_18 := (kb n17).o hd18 ho18
  replace g6 := g6.k k16_18
  exact ⟨_, rfl, .mk' g3 g6, hs.b⟩
set_option maxHeartbeats 4000000 in
set_option maxRecDepth 20000 in
theorem gNeg_any (ha : PN w va x l y m) (hl : l ≤ 100000000) (hm : m ≤ 100000000) :
    Calls Tryz.prog 44 #[va] w fun e w' => ∃ r, e = .returned r ∧ PC w' r (-x) (-y) ∧ Below w.heap.size w w' := by
  obtain ⟨n_0a, o_0a, k_0a, c_0a, n_0b, o_0b, k_0b, c_0b, rfl, ha1, ha2⟩ := ha
  go_enter Tryz.func44, Tryz.ntmps44
  have hs := St.nil w
  refine wp_seq_k ?_
  intro K1 hK1
  refine rg [0, 1] ?_
  refine sq ?_
  refine .al hs ?_; clear hs; intro p_b1 w_1 hs n1 kb_b1
  refine sq ?_
  refine .al hs ?_; clear hs; intro p_b2 w_2 hs n2 kb_b2
  apply wpSq_end
  refine hK1 _ _ ?_
  refine wp_seq_k ?_
  intro K2 hK2
  refine wp_region_f4 [(0, false), (1, false), (3, false), (4, false), (2, true), (5, true), (6, false)] [7] [] (fun _ => default) [99, 0, 99, 99, 0, 99, 99, 99] [] (.c hs.g1 .n) fn fun w_3 n3 => ?_
  replace hs := hs.bl n3
  refine f0 ?_
  refine f4 ?_
  refine f0 ?_
  refine f4 ?_
  refine fl fun w_4 n4 => ?_
  replace hs := hs.bl n4
  intro K hK
  have k0_4 := (((kb n1).b n2).b n3).b n4
  replace ha1 := ha1.k k0_4
  go_big_op
  go_fit (zneg_any ha1 (by omega) )
  rintro e w_5 ⟨v_g1, rfl, g1, hb_5⟩
  replace hs := hs.bl hb_5
  replace g1 := g1.rd
  obtain ⟨n_g1, o_g1, k_g1, c_g1, rfl⟩ := g1.open2
  have Lg1 := hide (g1.lenOf (zlen_neg (ha1.len)))
  refine hK _ _ rfl ⟨hb_5, (And.intro hs.g1 trivial)⟩ ?_
  clear hK K
  refine fl fun w_6 n6 => ?_
  replace hs := hs.bl n6
  intro K hK
  have k0_6 := (k0_4.b hb_5).b n6
  replace ha2 := ha2.k k0_6
  go_big_op
  go_fit (zneg_any ha2 (by omega) )
  rintro e w_7 ⟨v_g2, rfl, g2, hb_7⟩
  replace hs := hs.bl hb_7
  replace g2 := g2.rd
  obtain ⟨n_g2, o_g2, k_g2, c_g2, rfl⟩ := g2.open2
  have Lg2 := hide (g2.lenOf (zlen_neg (ha2.len)))
  refine hK _ _ rfl ⟨hb_7, (And.intro hs.g1 trivial)⟩ ?_
  clear hK K
  refine f0 ?_
  refine e0 hs ?_; clear hs; intro w_8 hs n8
  refine tl ?_
  refine .s4 hs.g0 (fun _ => hs.u0 kb_b2) ?_ (e := fun _ hs => (And.intro hs.g1 True.intro)); clear hs; intro w_9 hs hd9 ho9
  apply wpTail_end
  refine hK2 _ _ ?_
  refine wp_ret ?_
  try dsimp only [Exit.then, Exit.inBlock]
  obtain ⟨r0_0, r0_1, r0_2, r0_3⟩ := hs.g0.f4
  refine bodyPost_ret (v := (.agg #[.bool n_g1, .slice o_g1 k_g1 c_g1, .bool n_g2, .slice o_g2 k_g2 c_g2])) (by simp [results, Tryz.results44, go_sem, r0_0, r0_1, r0_2, r0_3]) rfl ?_
  have k5_9 := (((kb n6).b hb_7).b n8).o hd9 ho9
  replace g1 := g1.k k5_9
  have k7_9 := (kb n8).o hd9 ho9
  replace g2 := g2.k k7_9
  exact ⟨_, rfl, .mk' g1 g2, hs.b⟩
set_option maxHeartbeats 4000000 in
set_option maxRecDepth 20000 in
theorem gConj_any (ha : PN w va x l y m) (hl : l ≤ 100000000) (hm : m ≤ 100000000) :
    Calls Tryz.prog 47 #[va] w fun e w' => ∃ r, e = .returned r ∧ PC w' r x (-y) ∧ Below w.heap.size w w' := by
  have E := hide (Int.add_zero x)
  obtain ⟨n_0a, o_0a, k_0a, c_0a, n_0b, o_0b, k_0b, c_0b, rfl, ha1, ha2⟩ := ha
  go_enter Tryz.func47, Tryz.ntmps47
  have hs := St.nil w
  refine wp_seq_k ?_
  intro K1 hK1
  refine rg [0, 1] ?_
  refine sq ?_
  refine .al hs ?_; clear hs; intro p_b1 w_1 hs n1 kb_b1
  refine sq ?_
  refine .al hs ?_; clear hs; intro p_b2 w_2 hs n2 kb_b2
  apply wpSq_end
  refine hK1 _ _ ?_
  refine wp_seq_k ?_
  intro K2 hK2
  refine wp_region_f4 [(0, false), (1, false), (2, false), (4, false), (5, false), (3, true), (6, true), (7, false)] [8] [] (fun _ => default) [99, 0, 99, 99, 99, 0, 99, 99, 99] [] (.c hs.g1 .n) fn fun w_3 n3 => ?_
  replace hs := hs.bl n3
  refine f0 ?_
  refine f4 ?_
  refine f0 ?_
  refine f0 ?_
  refine f4 ?_
  refine fl fun w_4 n4 => ?_
  replace hs := hs.bl n4
  intro K hK
  have k0_4 := (((kb n1).b n2).b n3).b n4
  replace ha1 := ha1.k k0_4
  go_big_op
  go_fit (zadd_any ha1 ((zc_zero w_4).zn zlen_0) (by omega) (by omega) )
  rintro e w_5 ⟨v_g1, rfl, g1, hb_5⟩
  replace hs := hs.bl hb_5
  replace g1 := g1.rd
  obtain ⟨n_g1, o_g1, k_g1, c_g1, rfl⟩ := g1.open2
  have Lg1 := hide (g1.lenOf (zlen_add (ha1.len) (zlen_0)))
  rw [E.out] at g1
  refine hK _ _ rfl ⟨hb_5, (And.intro hs.g1 trivial)⟩ ?_
  clear hK K
  refine fl fun w_6 n6 => ?_
  replace hs := hs.bl n6
  intro K hK
  have k0_6 := (k0_4.b hb_5).b n6
  replace ha2 := ha2.k k0_6
  go_big_op
  go_fit (zneg_any ha2 (by omega) )
  rintro e w_7 ⟨v_g2, rfl, g2, hb_7⟩
  replace hs := hs.bl hb_7
  replace g2 := g2.rd
  obtain ⟨n_g2, o_g2, k_g2, c_g2, rfl⟩ := g2.open2
  have Lg2 := hide (g2.lenOf (zlen_neg (ha2.len)))
  refine hK _ _ rfl ⟨hb_7, (And.intro hs.g1 trivial)⟩ ?_
  clear hK K
  refine f0 ?_
  refine e0 hs ?_; clear hs; intro w_8 hs n8
  refine tl ?_
  refine .s4 hs.g0 (fun _ => hs.u0 kb_b2) ?_ (e := fun _ hs => (And.intro hs.g1 True.intro)); clear hs; intro w_9 hs hd9 ho9
  apply wpTail_end
  refine hK2 _ _ ?_
  refine wp_ret ?_
  try dsimp only [Exit.then, Exit.inBlock]
  obtain ⟨r0_0, r0_1, r0_2, r0_3⟩ := hs.g0.f4
  refine bodyPost_ret (v := (.agg #[.bool n_g1, .slice o_g1 k_g1 c_g1, .bool n_g2, .slice o_g2 k_g2 c_g2])) (by simp [results, Tryz.results47, go_sem, r0_0, r0_1, r0_2, r0_3]) rfl ?_
  have k5_9 := (((kb n6).b hb_7).b n8).o hd9 ho9
  replace g1 := g1.k k5_9
  have k7_9 := (kb n8).o hd9 ho9
  replace g2 := g2.k k7_9
  exact ⟨_, rfl, .mk' g1 g2, hs.b⟩
set_option maxHeartbeats 4000000 in
set_option maxRecDepth 20000 in
theorem gNorm_any (ha : PN w va x l y m) (hl : l ≤ 40000000) (hm : m ≤ 40000000) :
    Calls Tryz.prog 78 #[va] w fun e w' => ∃ r, e = .returned r ∧ ZC w' r (gN x y) ∧ Below w.heap.size w w' := by
  unfold gN
  obtain ⟨n_0a, o_0a, k_0a, c_0a, n_0b, o_0b, k_0b, c_0b, rfl, ha1, ha2⟩ := ha
  go_enter Tryz.func78, Tryz.ntmps78
  have hs := St.nil w
  refine wp_seq_k ?_
  intro K1 hK1
  refine rg [0, 1] ?_
  refine sq ?_
  refine .al hs ?_; clear hs; intro p_b1 w_1 hs n1 kb_b1
  refine sq ?_
  refine .al hs ?_; clear hs; intro p_b2 w_2 hs n2 kb_b2
  apply wpSq_end
  refine hK1 _ _ ?_
  refine wp_seq_k ?_
  intro K2 hK2
  refine wp_region_f4 [(0, false), (1, false), (2, false), (3, false), (5, false), (6, false), (7, false), (8, false), (4, true), (9, true), (10, true)] [11] [] (fun _ => default) [99, 0, 99, 0, 99, 99, 0, 99, 0, 99, 99, 99] [] (.c hs.g1 .n) fn fun w_3 n3 => ?_
  replace hs := hs.bl n3
  refine f0 ?_
  refine f4 ?_
  refine f0 ?_
  refine f4 ?_
  refine f0 ?_
  refine f4 ?_
  refine f0 ?_
  refine f4 ?_
  refine fl fun w_4 n4 => ?_
  replace hs := hs.bl n4
  intro K hK
  have k0_4 := (((kb n1).b n2).b n3).b n4
  replace ha1 := ha1.k k0_4
  go_big_op
  go_fit (zmul_any ha1 ha1 (by omega) (by omega) )
  rintro e w_5 ⟨v_g1, rfl, g1, hb_5⟩
  replace hs := hs.bl hb_5
  replace g1 := g1.rd
  obtain ⟨n_g1, o_g1, k_g1, c_g1, rfl⟩ := g1.open2
  have Lg1 := hide (g1.lenOf (zlen_mul (ha1.len) (ha1.len)))
  refine hK _ _ rfl ⟨hb_5, (And.intro hs.g1 trivial)⟩ ?_
  clear hK K
  refine fl fun w_6 n6 => ?_
  replace hs := hs.bl n6
  intro K hK
  have k0_6 := (k0_4.b hb_5).b n6
  replace ha2 := ha2.k k0_6
  go_big_op
  go_fit (zmul_any ha2 ha2 (by omega) (by omega) )
  rintro e w_7 ⟨v_g2, rfl, g2, hb_7⟩
  replace hs := hs.bl hb_7
  replace g2 := g2.rd
  obtain ⟨n_g2, o_g2, k_g2, c_g2, rfl⟩ := g2.open2
  have Lg2 := hide (g2.lenOf (zlen_mul (ha2.len) (ha2.len)))
  refine hK _ _ rfl ⟨hb_7, (And.intro hs.g1 trivial)⟩ ?_
  clear hK K
  refine fl fun w_8 n8 => ?_
  replace hs := hs.bl n8
  intro K hK
  have k5_8 := ((kb n6).b hb_7).b n8
  replace g1 := g1.k k5_8
  have k7_8 := kb n8
  replace g2 := g2.k k7_8
  go_big_op
  go_fit (zadd_any (g1.zn Lg1.out) (g2.zn Lg2.out) (by omega) (by omega) )
  rintro e w_9 ⟨v_g3, rfl, g3, hb_9⟩
  replace hs := hs.bl hb_9
  replace g3 := g3.rd
  obtain ⟨n_g3, o_g3, k_g3, c_g3, rfl⟩ := g3.open2
  have Lg3 := hide (g3.lenOf (zlen_add (Lg1.out) (Lg2.out)))
  refine hK _ _ rfl ⟨hb_9, (And.intro hs.g1 trivial)⟩ ?_
  clear hK K
  refine e0 hs ?_; clear hs; intro w_10 hs n10
  refine tl ?_
  refine .s2 hs.g0 (fun _ => hs.u0 kb_b2) ?_ (e := fun _ hs => (And.intro hs.g1 True.intro)); clear hs; intro w_11 hs hd11 ho11
  apply wpTail_end
  refine hK2 _ _ ?_
  refine wp_ret ?_
  try dsimp only [Exit.then, Exit.inBlock]
  obtain ⟨r0_0, r0_1⟩ := hs.g0.f2
  refine bodyPost_ret (v := (.agg #[.bool n_g3, .slice o_g3 k_g3 c_g3])) (by simp [results, Tryz.results78, go_sem, r0_0, r0_1]) rfl ?_
  have k9_11 := (kb n10).o hd11 ho11
  replace g3 := g3.k k9_11
  exact ⟨_, rfl, g3, hs.b⟩
theorem zcmp_ne {x u : Int} (h : x ≠ u) : (zcmp x u == 0) = false := by
  unfold zcmp
  by_cases h2 : x < u
  · rw [if_pos h2]; rfl
  · rw [if_neg h2, if_neg h]; rfl
set_option maxHeartbeats 4000000 in
set_option maxRecDepth 20000 in
theorem gEqual_yes (ha : PN w va x l y m) (hq : PN w vb u k v n) (hl : l ≤ 100000000) (hm : m ≤ 100000000) (hk : k ≤ 100000000) (hn : n ≤ 100000000) (h1 : x = u) (h2 : y = v) :
    Calls Tryz.prog 66 #[va, vb] w fun e w' => e = .returned (.bool true) ∧ Below w.heap.size w w' := by
  have H1 := hide (zcmp_eq h1)
  have H2 := hide (zcmp_eq h2)
  clear h1 h2
  obtain ⟨n_0a, o_0a, k_0a, c_0a, n_0b, o_0b, k_0b, c_0b, rfl, ha1, ha2⟩ := ha
  obtain ⟨n_1a, o_1a, k_1a, c_1a, n_1b, o_1b, k_1b, c_1b, rfl, hq1, hq2⟩ := hq
  go_enter Tryz.func66, Tryz.ntmps66
  have hs := St.nil w
  refine wp_seq_k ?_
  intro K1 hK1
  refine rg [0, 1, 2] ?_
  refine sq ?_
  refine .al hs ?_; clear hs; intro p_b1 w_1 hs n1 kb_b1
  refine sq ?_
  refine .al hs ?_; clear hs; intro p_b2 w_2 hs n2 kb_b2
  refine sq ?_
  refine .mv ?_
  apply wpSq_end
  refine hK1 _ _ ?_
  refine wp_seq_k ?_
  intro K2 hK2
  refine rg [0, 1, 2, 3, 4, 5, 6, 7, 8, 9, 10, 11, 12, 13, 14] ?_
  refine sq ?_
  refine .r0 ?_
  refine sq ?_
  refine .r4 hs.g1.f4 ?_
  refine sq ?_
  refine .r0 ?_
  refine sq ?_
  refine .r4 hs.g0.f4 ?_
  refine sq ?_
  intro K hK
  have k0_2 := (kb n1).b n2
  replace ha1 := ha1.k k0_2
  replace hq1 := hq1.k k0_2
  go_big_op
  go_fit (zcmp_any ha1 hq1 (by omega) (by omega) )
  rintro e w_3 ⟨rfl, hb_3⟩
  replace hs := hs.bl hb_3
  rw [H1.out]
  refine hK _ _ rfl trivial ?_
  clear hK K
  refine sq ?_
  refine .r0 ?_
  refine sq ?_
  refine .mv ?_
  refine sq ?_
  refine .r0 ?_
  refine sq ?_
  refine .r4 hs.g1.f4 ?_
  refine sq ?_
  refine .r0 ?_
  refine sq ?_
  refine .r4 hs.g0.f4 ?_
  refine sq ?_
  intro K hK
  have k0_3 := k0_2.b hb_3
  replace ha2 := ha2.k k0_3
  replace hq2 := hq2.k k0_3
  go_big_op
  go_fit (zcmp_any ha2 hq2 (by omega) (by omega) )
  rintro e w_4 ⟨rfl, hb_4⟩
  replace hs := hs.bl hb_4
  rw [H2.out]
  refine hK _ _ rfl trivial ?_
  clear hK K
  refine sq ?_
  refine .r0 ?_
  refine sq ?_
  refine .r0 ?_
  refine sq ?_
  refine .mv ?_
  apply wpSq_end
  refine hK2 _ _ ?_
  refine wp_ret ?_
  try dsimp only [Exit.then, Exit.inBlock]
  refine bodyPost_ret (v := (.bool true)) (by simp [results, Tryz.results66, go_sem]) rfl ?_
  have hb := hs.b
  exact ⟨rfl, hb⟩
set_option maxHeartbeats 4000000 in
set_option maxRecDepth 20000 in
theorem gEqual_no1 (ha : PN w va x l y m) (hq : PN w vb u k v n) (hl : l ≤ 100000000) (hm : m ≤ 100000000) (hk : k ≤ 100000000) (hn : n ≤ 100000000) (h1 : x ≠ u) :
    Calls Tryz.prog 66 #[va, vb] w fun e w' => e = .returned (.bool false) ∧ Below w.heap.size w w' := by
  have h := zcmp_ne h1
  obtain ⟨C, hC⟩ : ∃ C, zcmp x u = C := ⟨_, rfl⟩
  rw [hC] at h
  have HC := hide hC
  clear h1 hC
  obtain ⟨n_0a, o_0a, k_0a, c_0a, n_0b, o_0b, k_0b, c_0b, rfl, ha1, ha2⟩ := ha
  obtain ⟨n_1a, o_1a, k_1a, c_1a, n_1b, o_1b, k_1b, c_1b, rfl, hq1, hq2⟩ := hq
  go_enter Tryz.func66, Tryz.ntmps66
  have hs := St.nil w
  refine wp_seq_k ?_
  intro K1 hK1
  refine rg [0, 1, 2] ?_
  refine sq ?_
  refine .al hs ?_; clear hs; intro p_b1 w_1 hs n1 kb_b1
  refine sq ?_
  refine .al hs ?_; clear hs; intro p_b2 w_2 hs n2 kb_b2
  refine sq ?_
  refine .mv ?_
  apply wpSq_end
  refine hK1 _ _ ?_
  refine wp_seq_k ?_
  intro K2 hK2
  refine rg [0, 1, 2, 3, 4, 5, 6, 7, 8, 9, 10, 11, 12, 13, 14] ?_
  refine sq ?_
  refine .r0 ?_
  refine sq ?_
  refine .r4 hs.g1.f4 ?_
  refine sq ?_
  refine .r0 ?_
  refine sq ?_
  refine .r4 hs.g0.f4 ?_
  refine sq ?_
  intro K hK
  have k0_2 := (kb n1).b n2
  replace ha1 := ha1.k k0_2
  replace hq1 := hq1.k k0_2
  go_big_op
  go_fit (zcmp_any ha1 hq1 (by omega) (by omega) )
  rintro e w_3 ⟨rfl, hb_3⟩
  replace hs := hs.bl hb_3
  rw [HC.out]
  refine hK _ _ rfl trivial ?_
  clear hK K
  refine sq ?_
  refine .r0 ?_
  refine sq ?_
  refine .mv ?_
  refine sk ?_
  refine sk ?_
  refine sk ?_
  refine sk ?_
  refine sk ?_
  refine sk ?_
  refine sq ?_
  refine .r0 ?_
  refine sq ?_
  refine .mv ?_
  apply wpSq_end
  refine hK2 _ _ ?_
  refine wp_ret ?_
  try dsimp only [Exit.then, Exit.inBlock]
  refine bodyPost_ret (v := (.bool false)) (by simp [results, Tryz.results66, go_sem]) rfl ?_
  have hb := hs.b
  exact ⟨rfl, hb⟩
set_option maxHeartbeats 4000000 in
set_option maxRecDepth 20000 in
theorem gEqual_no2 (ha : PN w va x l y m) (hq : PN w vb u k v n) (hl : l ≤ 100000000) (hm : m ≤ 100000000) (hk : k ≤ 100000000) (hn : n ≤ 100000000) (h1 : x = u) (h2 : y ≠ v) :
    Calls Tryz.prog 66 #[va, vb] w fun e w' => e = .returned (.bool false) ∧ Below w.heap.size w w' := by
  have H1 := hide (zcmp_eq h1)
  have h := zcmp_ne h2
  obtain ⟨C, hC⟩ : ∃ C, zcmp y v = C := ⟨_, rfl⟩
  rw [hC] at h
  have HC := hide hC
  clear h1 h2 hC
  obtain ⟨n_0a, o_0a, k_0a, c_0a, n_0b, o_0b, k_0b, c_0b, rfl, ha1, ha2⟩ := ha
  obtain ⟨n_1a, o_1a, k_1a, c_1a, n_1b, o_1b, k_1b, c_1b, rfl, hq1, hq2⟩ := hq
  go_enter Tryz.func66, Tryz.ntmps66
  have hs := St.nil w
  refine wp_seq_k ?_
  intro K1 hK1
  refine rg [0, 1, 2] ?_
  refine sq ?_
  refine .al hs ?_; clear hs; intro p_b1 w_1 hs n1 kb_b1
  refine sq ?_
  refine .al hs ?_; clear hs; intro p_b2 w_2 hs n2 kb_b2
  refine sq ?_
  refine .mv ?_
  apply wpSq_end
  refine hK1 _ _ ?_
  refine wp_seq_k ?_
  intro K2 hK2
  refine rg [0, 1, 2, 3, 4, 5, 6, 7, 8, 9, 10, 11, 12, 13, 14] ?_
  refine sq ?_
  refine .r0 ?_
  refine sq ?_
  refine .r4 hs.g1.f4 ?_
  refine sq ?_
  refine .r0 ?_
  refine sq ?_
  refine .r4 hs.g0.f4 ?_
  refine sq ?_
  intro K hK
  have k0_2 := (kb n1).b n2
  replace ha1 := ha1.k k0_2
  replace hq1 := hq1.k k0_2
  go_big_op
  go_fit (zcmp_any ha1 hq1 (by omega) (by omega) )
  rintro e w_3 ⟨rfl, hb_3⟩
  replace hs := hs.bl hb_3
  rw [H1.out]
  refine hK _ _ rfl trivial ?_
  clear hK K
  refine sq ?_
  refine .r0 ?_
  refine sq ?_
  refine .mv ?_
  refine sq ?_
  refine .r0 ?_
  refine sq ?_
  refine .r4 hs.g1.f4 ?_
  refine sq ?_
  refine .r0 ?_
  refine sq ?_
  refine .r4 hs.g0.f4 ?_
  refine sq ?_
  intro K hK
  have k0_3 := k0_2.b hb_3
  replace ha2 := ha2.k k0_3
  replace hq2 := hq2.k k0_3
  go_big_op
  go_fit (zcmp_any ha2 hq2 (by omega) (by omega) )
  rintro e w_4 ⟨rfl, hb_4⟩
  replace hs := hs.bl hb_4
  rw [HC.out]
  refine hK _ _ rfl trivial ?_
  clear hK K
  refine sq ?_
  refine .r0 ?_
  refine sq ?_
  refine .r0 ?_
  refine sq ?_
  refine .mv ?_
  apply wpSq_end
  refine hK2 _ _ ?_
  refine wp_ret ?_
  try dsimp only [Exit.then, Exit.inBlock]
  refine bodyPost_ret (v := (.bool false)) (by simp [results, Tryz.results66, go_sem]) rfl ?_
  have hb := hs.b
  exact ⟨rfl, hb⟩
/-- Two numbers are one just where their parts are. -/
theorem gEqual_any (ha : PN w va x l y m) (hq : PN w vb u k v n) (hl : l ≤ 100000000) (hm : m ≤ 100000000) (hk : k ≤ 100000000) (hn : n ≤ 100000000) :
    Calls Tryz.prog 66 #[va, vb] w fun e w' => e = .returned (.bool (decide (x = u ∧ y = v))) ∧ Below w.heap.size w w' := by
  by_cases h : x = u
  · by_cases h2 : y = v
    · rw [decide_eq_true (And.intro h h2)]; exact gEqual_yes ha hq hl hm hk hn h h2
    · rw [decide_eq_false (fun c => h2 c.2)]; exact gEqual_no2 ha hq hl hm hk hn h h2
  · rw [decide_eq_false (fun c => h c.1)]; exact gEqual_no1 ha hq hl hm hk hn h
end
theorem setL_app {ys zs : List Value} {i : Nat} {z0 z1 z2 z3 c0 c1 c2 c3 : Value} (h : ys.length = i * 4) :
    setL (ys ++ z0 :: z1 :: z2 :: z3 :: zs) [(i * 4, c0), (i * 4 + 1, c1), (i * 4 + 2, c2), (i * 4 + 3, c3)] = (ys ++ [c0, c1, c2, c3]) ++ zs := by
  simp only [setL]
  rw [List.set_append_right _ _ (by omega), show i * 4 - ys.length = 0 by omega, List.set_cons_zero, List.set_append_right _ _ (by omega), show i * 4 + 1 - ys.length = 1 by omega, List.set_cons_succ, List.set_cons_zero,
    List.set_append_right _ _ (by omega), show i * 4 + 2 - ys.length = 2 by omega, List.set_cons_succ, List.set_cons_succ, List.set_cons_zero, List.set_append_right _ _ (by omega), show i * 4 + 3 - ys.length = 3 by omega, List.set_cons_succ, List.set_cons_succ, List.set_cons_succ, List.set_cons_zero]
  simp
theorem four_of {zs : List Value} (h : 4 ≤ zs.length) : ∃ z0 z1 z2 z3 ws, zs = z0 :: z1 :: z2 :: z3 :: ws := by
  match zs, h with
  | a :: b :: c :: d :: ws, _ => exact ⟨a, b, c, d, ws, rfl⟩
theorem mapr_succ {α : Type} (F : Nat → α) (i : Nat) : (List.range (i + 1)).map F = (List.range i).map F ++ [F i] := by rw [List.range_succ, List.map_append]; rfl
/-- A function that is called comes to be entered, whatever its arguments. -/
def Ent1 (f : Nat) (caps : Array Value) : Prop := ∀ v w1, Sem.run Tryz.prog (callFunc f (#[v] ++ caps)) w1 = .ok (.enter f (#[v] ++ caps)) w1
def Ent2 (f : Nat) (caps : Array Value) : Prop := ∀ v u w1, Sem.run Tryz.prog (callFunc f (#[v, u] ++ caps)) w1 = .ok (.enter f (#[v, u] ++ caps)) w1
section
variable {w : World} {f n : Nat} {caps : Array Value}
def TelG (w : World) (f : Nat) (caps : Array Value) (n : Nat) (F : Nat → Int × Int) : Prop :=
  ∀ (i : Nat) (w1 : World), i < n → Below w.heap.size w w1 → Calls Tryz.prog f (#[.int .i64 (i : Int)] ++ caps) w1 fun e w2 => ∃ v, e = .returned v ∧ PC w2 v (F i).1 (F i).2 ∧ Below w1.heap.size w1 w2
def TelL (w : World) (f : Nat) (caps : Array Value) (n : Nat) (F : Nat → List (Int × Int)) : Prop :=
  ∀ (i : Nat) (w1 : World), i < n → Below w.heap.size w w1 → Calls Tryz.prog f (#[.int .i64 (i : Int)] ++ caps) w1 fun e w2 => ∃ o c xs, e = .returned (.slice o (F i).length c) ∧ Lst w2 w1.heap.size 26 4 (.slice o (F i).length c) (F i).length xs ∧ GD w2 xs (F i) ∧ Below w1.heap.size w1 w2
set_option maxHeartbeats 4000000 in
set_option maxRecDepth 20000 in
theorem buildG_any {F : Nat → Int × Int} (hf : Ent1 f caps) (h : TelG w f caps n F) (hn : n ≤ 1000000) :
    Calls Tryz.prog 97 #[.int .i64 (n : Int), .func (.func f) #[] caps] w fun e w' => ∃ o c xs, e = .returned (.slice o n c) ∧ Lst w' w.heap.size 26 4 (.slice o n c) n xs ∧ GD w' xs ((List.range n).map F) ∧ Below w.heap.size w w' := by
  unfold Ent1 at hf
  go_enter Tryz.func97, Tryz.ntmps97
  have hs := St.nil w
  refine wp_seq_k ?_
  intro K1 hK1
  refine rg [0] ?_
  refine sq ?_
  refine .mv ?_
  apply wpSq_end
  refine hK1 _ _ ?_
  refine wp_seq_k ?_
  intro K2 hK2
  refine rg [0, 1, 2] ?_
  refine sq ?_
  refine .mv ?_
  refine sq ?_
  refine .mk (n := n) hs ?_ (by first | rfl | omega) (by omega); clear hs; intro g_l xs_l w_1 hs e_l n1 kb_l
  refine sq ?_
  refine .mv ?_
  apply wpSq_end
  refine hK2 _ _ ?_
  refine wp_seq_k ?_
  intro K3 hK3
  refine wp_seq_k ?_
  intro K4 hK4
  refine rg [0, 1, 2] ?_
  refine sq ?_
  refine .mv ?_
  refine sq ?_
  refine .r0 ?_
  refine sq ?_
  refine .mv ?_
  apply wpSq_end
  refine hK4 _ _ ?_
  refine wp_block ?_
  have hd2 := hs.2.1
  go_loopg [11] n (fun k s11 wr => ∃ (i : Nat) (ys zs : List Value), s11 = .int .i64 (i : Int) ∧ i + k = n ∧ St w [ls w.heap.size 26 4 (.slice (some ⟨g_l, 0, none⟩) n n) n (ys ++ zs)] wr ∧ ys.length = i * 4 ∧ GD wr ys ((List.range i).map F))
  case atStart => exact ⟨0, [], xs_l, rfl, by omega, hs, rfl, GD.nil _⟩
  case round =>
  clear hs
  obtain ⟨i, ys, zs, rfl, hik, hs, hyl, hd⟩ := hrel
  have hlen := hs.1.1.1.1.1
  rw [List.length_append, hyl] at hlen
  by_cases hi : i < n
  · obtain ⟨z0, z1, z2, z3, ws, rfl⟩ := four_of (zs := zs) (by omega)
    refine wp_seq_k ?_
    intro K5 hK5
    refine rg [0] ?_
    refine sq ?_
    refine .r0 ?_
    apply wpSq_end
    refine hK5 _ _ ?_
    refine wp_seq_k ?_
    intro K6 hK6
    refine ct ?_
    refine wp_skip ?_
    refine hK6 _ _ ?_
    refine wp_seq_k ?_
    intro K7 hK7
    refine wp_block ?_
    refine wp_seq_k ?_
    intro K8 hK8
    refine rg [0, 1] ?_
    refine sq ?_
    refine .mv ?_
    refine sq ?_
    refine .mv ?_
    apply wpSq_end
    refine hK8 _ _ ?_
    refine rg [0, 1, 2, 3, 4, 5, 6] ?_
    refine sq ?_
    refine .mv ?_
    refine sq ?_
    refine .mv ?_
    refine sq ?_
    refine .mv ?_
    refine sq ?_
    refine .mv ?_
    refine sq ?_
    intro K hK
    have hb := hs.b
    go_big_op
    go_fit (h i _ hi hb)
    rintro e w_3 ⟨_, rfl, ⟨n_va, o_va, k_va, c_va, n_vb, o_vb, k_vb, c_vb, rfl, v1, v2⟩, hb_3⟩
    clear hb
    replace hs := hs.bl hb_3
    refine hK _ _ rfl trivial ?_
    clear hK K
    refine sq ?_
    refine .r0 ?_
    refine sq ?_
    refine .i4 0 hs (j := i) (by omega) ?_; clear hs; intro w_4 hs kp4 hd4 ho4 hw4; simp only [List.set_cons_zero] at hs
    apply wpSq_end
    refine hK7 _ _ ?_
    refine rg [0, 1] ?_
    refine sq ?_
    refine .r0 ?_
    refine sq ?_
    refine .mv ?_
    apply wpSq_end
    have k0_2 := (kb hb_3).t kp4
    replace hd := hd.k k0_2
    have k1_2 := kp4
    replace v1 := v1.k k1_2
    replace v2 := v2.k k1_2
    refine ‹∀ (a' : Act) (w' : World), Handed _ _ a' w' → _› _ _ ?_
    rw [setL_app hyl] at hs
    go_roundg (gk - 1)
    case rel => exact ⟨i + 1, _, ws, by rfl, by omega, hs, by simp; omega, by rw [mapr_succ]; exact hd.snoc (.mk' v1 v2)⟩
    case measure => omega
  · obtain rfl : n = i := by omega
    obtain rfl : zs = [] := List.eq_nil_of_length_eq_zero (by omega)
    rw [List.append_nil] at hs
    have HX := hide hi
    refine wp_seq_k ?_
    intro K5 hK5
    refine rg [0] ?_
    refine sq ?_
    refine .r0 ?_
    apply wpSq_end
    refine hK5 _ _ ?_
    refine wp_seq_k ?_
    intro K6 hK6
    refine cf ?_
    refine wp_exit ?_
    refine hK3 _ _ ?_
    refine wp_seq_k ?_
    intro K7 hK7
    refine rg [0, 1] ?_
    refine sq ?_
    refine .mv ?_
    refine sq ?_
    refine .mv ?_
    apply wpSq_end
    refine hK7 _ _ ?_
    refine wp_ret ?_
    try dsimp only [Exit.then, Exit.inBlock]
    refine bodyPost_ret (v := (.slice (some ⟨g_l, 0, none⟩) n n)) (by simp [results, Tryz.results97, go_sem]) rfl ?_
    exact ⟨_, _, _, rfl, hs.1.1.1, hd, hs.b⟩
end
theorem set_mid {α : Type} {ys zs : List α} {z c : α} {i : Nat} (h : ys.length = i) : (ys ++ z :: zs).set i c = (ys ++ [c]) ++ zs := by
  rw [List.set_append_right _ _ (by omega), show i - ys.length = 0 by omega, List.set_cons_zero]; simp
section
variable {w : World} {f n : Nat} {caps : Array Value}
set_option maxHeartbeats 4000000 in
set_option maxRecDepth 20000 in
theorem buildL_any {F : Nat → List (Int × Int)} (hf : Ent1 f caps) (h : TelL w f caps n F) (hn : n ≤ 1000000) :
    Calls Tryz.prog 95 #[.int .i64 (n : Int), .func (.func f) #[] caps] w fun e w' => ∃ o c rs, e = .returned (.slice o n c) ∧ rs.length = n ∧ St w (Mx w.heap.size (.slice o n c) rs) w' ∧ RD w' rs ((List.range n).map F) ∧ Below w.heap.size w w' := by
  unfold Ent1 at hf
  go_enter Tryz.func95, Tryz.ntmps95
  have hs := St.nil w
  refine wp_seq_k ?_
  intro K1 hK1
  refine rg [0] ?_
  refine sq ?_
  refine .mv ?_
  apply wpSq_end
  refine hK1 _ _ ?_
  refine wp_seq_k ?_
  intro K2 hK2
  refine rg [0, 1, 2] ?_
  refine sq ?_
  refine .mv ?_
  refine sq ?_
  refine .mk (n := n) hs ?_ (by first | rfl | omega) (by omega); clear hs; intro g_l xs_l w_1 hs e_l n1 kb_l
  refine sq ?_
  refine .mv ?_
  apply wpSq_end
  refine hK2 _ _ ?_
  refine wp_seq_k ?_
  intro K3 hK3
  refine wp_seq_k ?_
  intro K4 hK4
  refine rg [0, 1, 2] ?_
  refine sq ?_
  refine .mv ?_
  refine sq ?_
  refine .r0 ?_
  refine sq ?_
  refine .mv ?_
  apply wpSq_end
  refine hK4 _ _ ?_
  refine wp_block ?_
  have hd2 := hs.2.1
  go_loopg [11] n (fun k s11 wr => ∃ (i : Nat) (rs : List Rw) (zs : List Value), s11 = .int .i64 (i : Int) ∧ i + k = n ∧ St w (ls w.heap.size 28 1 (.slice (some ⟨g_l, 0, none⟩) n n) n (rs.map (·.v) ++ zs) :: rs.map (Rw.e w.heap.size)) wr ∧ rs.length = i ∧ RD wr rs ((List.range i).map F))
  case atStart => exact ⟨0, [], xs_l, rfl, by omega, hs, rfl, trivial⟩
  case round =>
  clear hs
  obtain ⟨i, rs, zs, rfl, hik, hs, hyl, hd⟩ := hrel
  have hlen := hs.1.1.1.1.1
  rw [List.length_append, List.length_map, hyl] at hlen
  by_cases hi : i < n
  · obtain ⟨z0, ws, rfl⟩ : ∃ z0 ws, zs = z0 :: ws := List.exists_cons_of_length_pos (by omega)
    refine wp_seq_k ?_
    intro K5 hK5
    refine rg [0] ?_
    refine sq ?_
    refine .r0 ?_
    apply wpSq_end
    refine hK5 _ _ ?_
    refine wp_seq_k ?_
    intro K6 hK6
    refine ct ?_
    refine wp_skip ?_
    refine hK6 _ _ ?_
    refine wp_seq_k ?_
    intro K7 hK7
    refine wp_block ?_
    refine wp_seq_k ?_
    intro K8 hK8
    refine rg [0, 1] ?_
    refine sq ?_
    refine .mv ?_
    refine sq ?_
    refine .mv ?_
    apply wpSq_end
    refine hK8 _ _ ?_
    refine rg [0, 1, 2, 3, 4, 5, 6] ?_
    refine sq ?_
    refine .mv ?_
    refine sq ?_
    refine .mv ?_
    refine sq ?_
    refine .mv ?_
    refine sq ?_
    refine .mv ?_
    refine sq ?_
    intro K hK
    have hb := hs.b
    go_big_op
    go_fit (h i _ hi hb)
    rintro e w_3 ⟨o_r, c_r, xs_r, rfl, L_r, d_r, hb_3⟩
    clear hb
    replace hs := hs.la hb_3 L_r
    refine hK _ _ rfl trivial ?_
    clear hK K
    refine sq ?_
    refine .r0 ?_
    refine sq ?_
    refine .i1 1 hs (j := i) (by omega) ?_; clear hs; intro w_4 hs kp4 hd4 ho4 hw4; simp only [List.set_cons_succ, List.set_cons_zero] at hs
    apply wpSq_end
    refine hK7 _ _ ?_
    refine rg [0, 1] ?_
    refine sq ?_
    refine .r0 ?_
    refine sq ?_
    refine .mv ?_
    apply wpSq_end
    have k0_2 := (kb hb_3).t kp4
    replace hd := hd.k k0_2
    have k1_2 := kp4
    replace d_r := d_r.k k1_2
    refine ‹∀ (a' : Act) (w' : World), Handed _ _ a' w' → _› _ _ ?_
    rw [set_mid (by rw [List.length_map]; exact hyl)] at hs
    have hs := hs.perm (cs := ls w.heap.size 28 1 (.slice (some ⟨g_l, 0, none⟩) n n) n ((rs ++ [(⟨.slice o_r (F i).length c_r, (F i).length, xs_r⟩ : Rw)]).map (·.v) ++ ws) :: (rs ++ [(⟨.slice o_r (F i).length c_r, (F i).length, xs_r⟩ : Rw)]).map (Rw.e w.heap.size)) (by
      rw [List.map_append, List.map_append]
      exact (List.Perm.swap _ _ _).trans (List.Perm.cons _ (List.perm_append_singleton _ _).symm))
    go_roundg (gk - 1)
    case rel => exact ⟨i + 1, _, ws, by rfl, by omega, hs, by simp; omega, by rw [mapr_succ]; exact hd.snoc rfl d_r⟩
    case measure => omega
  · obtain rfl : n = i := by omega
    obtain rfl : zs = [] := List.eq_nil_of_length_eq_zero (by omega)
    rw [List.append_nil] at hs
    have HX := hide hi
    refine wp_seq_k ?_
    intro K5 hK5
    refine rg [0] ?_
    refine sq ?_
    refine .r0 ?_
    apply wpSq_end
    refine hK5 _ _ ?_
    refine wp_seq_k ?_
    intro K6 hK6
    refine cf ?_
    refine wp_exit ?_
    refine hK3 _ _ ?_
    refine wp_seq_k ?_
    intro K7 hK7
    refine rg [0, 1] ?_
    refine sq ?_
    refine .mv ?_
    refine sq ?_
    refine .mv ?_
    apply wpSq_end
    refine hK7 _ _ ?_
    refine wp_ret ?_
    try dsimp only [Exit.then, Exit.inBlock]
    refine bodyPost_ret (v := (.slice (some ⟨g_l, 0, none⟩) n n)) (by simp [results, Tryz.results95, go_sem]) rfl ?_
    exact ⟨_, _, rs, rfl, hyl, (by unfold Mx; rw [hyl]; exact hs), hd, hs.b⟩
def Tel2 (w : World) (f : Nat) (caps : Array Value) (r c : Nat) (F : Nat → Nat → Int × Int) : Prop :=
  ∀ (i j : Nat) (w1 : World), i < r → j < c → Below w.heap.size w w1 → Calls Tryz.prog f (#[.int .i64 (i : Int), .int .i64 (j : Int)] ++ caps) w1 fun e w2 => ∃ v, e = .returned v ∧ PC w2 v (F i j).1 (F i j).2 ∧ Below w1.heap.size w1 w2
theorem Tel2.at {w w' : World} {r c : Nat} {F : Nat → Nat → Int × Int} (h : Tel2 w f caps r c F) (hb : Below w.heap.size w w') : Tel2 w' f caps r c F := fun i j w1 hi hj h1 => h i j w1 hi hj (hb.trans (h1.mono hb.size))
set_option maxHeartbeats 4000000 in
set_option maxRecDepth 20000 in
theorem matrix11 {r c pn pi : Nat} {i j : Nat} {F : Nat → Nat → Int × Int} (hf : Ent2 f caps) (h : Tel2 w f caps r c F) (hi : i < r) (hj : j < c) (x1 : Bs w pn #[.func (.func f) #[] caps] 27) (x2 : Bs w pi #[.int .i64 (i : Int)] 3) :
    Calls Tryz.prog 98 (#[.int .i64 (j : Int)] ++ #[.pointer (some ⟨pn, 0, none⟩), .pointer (some ⟨pi, 0, none⟩)]) w fun e w' => ∃ v, e = .returned v ∧ PC w' v (F i j).1 (F i j).2 ∧ Below w.heap.size w w' := by
  unfold Ent2 at hf
  show Calls _ _ #[.int .i64 (j : Int), .pointer (some ⟨pn, 0, none⟩), .pointer (some ⟨pi, 0, none⟩)] w _
  go_enter Tryz.func98, Tryz.ntmps98
  have hs := St.nil w
  have lt_bn := x1.lt
  have x1z := x1
  have lt_bi := x2.lt
  have x2z := x2
  refine wp_seq_k ?_
  intro K1 hK1
  refine rg [0] ?_
  refine sq ?_
  refine .al hs ?_; clear hs; intro p_b1 w_1 hs n1 kb_b1
  replace x1 := x1.bl n1; replace x2 := x2.bl n1
  apply wpSq_end
  refine hK1 _ _ ?_
  refine wp_seq_k ?_
  intro K2 hK2
  refine rg [0, 1, 2, 3, 4] ?_
  refine sq ?_
  refine .r1 x1.f1 ?_
  refine sq ?_
  refine .r1 x2.f1 ?_
  refine sq ?_
  refine .mv ?_
  refine sq ?_
  intro K hK
  have hb := hs.b
  go_big_op
  go_fit (h i j _ hi hj hb)
  rintro e w_2 ⟨_, rfl, ⟨n_va, o_va, k_va, c_va, n_vb, o_vb, k_vb, c_vb, rfl, v1, v2⟩, hb_2⟩
  clear hb
  replace hs := hs.bl hb_2
  refine hK _ _ rfl trivial ?_
  clear hK K
  refine sq ?_
  refine .s4 hs.g0 (fun _ => hs.u0 kb_b1) ?_; clear hs; intro w_3 hs hd3 ho3
  apply wpSq_end
  refine hK2 _ _ ?_
  refine wp_ret ?_
  try dsimp only [Exit.then, Exit.inBlock]
  obtain ⟨r0_0, r0_1, r0_2, r0_3⟩ := hs.g0.f4
  refine bodyPost_ret (v := (.agg #[.bool n_va, .slice o_va k_va c_va, .bool n_vb, .slice o_vb k_vb c_vb])) (by simp [results, Tryz.results98, go_sem, r0_0, r0_1, r0_2, r0_3]) rfl ?_
  have k2_3 := ko hd3 ho3
  replace v1 := v1.k k2_3
  replace v2 := v2.k k2_3
  exact ⟨_, rfl, .mk' v1 v2, hs.b⟩
set_option maxHeartbeats 4000000 in
set_option maxRecDepth 20000 in
theorem matrix1 {r c pn pc : Nat} {i : Nat} {F : Nat → Nat → Int × Int} (hf : Ent2 f caps) (h : Tel2 w f caps r c F) (hi : i < r) (hc : c ≤ 1000000) (x1 : Bs w pn #[.func (.func f) #[] caps] 27) (x2 : Bs w pc #[.int .i64 (c : Int)] 3) :
    Calls Tryz.prog 96 (#[.int .i64 (i : Int)] ++ #[.pointer (some ⟨pc, 0, none⟩), .pointer (some ⟨pn, 0, none⟩)]) w fun e w' => ∃ o cc xs, e = .returned (.slice o c cc) ∧ Lst w' w.heap.size 26 4 (.slice o c cc) c xs ∧ GD w' xs ((List.range c).map (F i)) ∧ Below w.heap.size w w' := by
  show Calls _ _ #[.int .i64 (i : Int), .pointer (some ⟨pc, 0, none⟩), .pointer (some ⟨pn, 0, none⟩)] w _
  go_enter Tryz.func96, Tryz.ntmps96
  have hs := St.nil w
  have lt_bc := x2.lt
  have x2z := x2
  have lt_bn := x1.lt
  have x1z := x1
  refine wp_seq_k ?_
  intro K1 hK1
  refine rg [0, 1] ?_
  refine sq ?_
  refine .al hs ?_; clear hs; intro p_b1 w_1 hs n1 kb_b1
  replace x2 := x2.bl n1; replace x1 := x1.bl n1
  refine sq ?_
  refine .mv ?_
  apply wpSq_end
  refine hK1 _ _ ?_
  refine wp_seq_k ?_
  intro K2 hK2
  refine rg [0, 1, 2, 3] ?_
  refine sq ?_
  refine .r1 x2.f1 ?_
  refine sq ?_
  refine .r0 ?_
  refine sq ?_
  intro K hK
  have hb := hs.b
  have x_b1 := hs.g0
  go_big_op
  go_fit (buildG_any (fun _ _ ↦ by kernel_rfl) (fun j w1 hj h1 ↦ matrix11 hf (h.at (hb.trans (h1.mono hb.size))) hi hj (x1.bl h1) (x_b1.bl h1)) hc)
  rintro e w_2 ⟨o_r, c_r, xs_r, rfl, L_r, d_r, hb_2⟩
  clear hb x_b1
  replace x1 := x1.bl hb_2
  replace hs := hs.la hb_2 L_r
  refine hK _ _ rfl trivial ?_
  clear hK K
  refine sq ?_
  refine .mv ?_
  apply wpSq_end
  refine hK2 _ _ ?_
  refine wp_ret ?_
  try dsimp only [Exit.then, Exit.inBlock]
  refine bodyPost_ret (v := (.slice o_r c c_r)) (by simp [results, Tryz.results96, go_sem]) rfl ?_
  exact ⟨_, _, _, rfl, hs.1.1.1, d_r, hs.b⟩
set_option maxHeartbeats 4000000 in
set_option maxRecDepth 20000 in
/-- A matrix of numbers that a closure tells by their places. -/
theorem matrix_any {r c : Nat} {F : Nat → Nat → Int × Int} (hf : Ent2 f caps) (h : Tel2 w f caps r c F) (hr : r ≤ 1000000) (hc : c ≤ 1000000) :
    Calls Tryz.prog 59 #[.int .i64 (r : Int), .int .i64 (c : Int), .func (.func f) #[] caps] w fun e w' => ∃ o cc rs, e = .returned (.slice o r cc) ∧ rs.length = r ∧ St w (Mx w.heap.size (.slice o r cc) rs) w' ∧ RD w' rs ((List.range r).map fun i => (List.range c).map (F i)) ∧ Below w.heap.size w w' := by
  go_enter Tryz.func59, Tryz.ntmps59
  have hs := St.nil w
  refine wp_seq_k ?_
  intro K1 hK1
  refine rg [0, 1, 2] ?_
  refine sq ?_
  refine .al hs ?_; clear hs; intro p_b1 w_1 hs n1 kb_b1
  refine sq ?_
  refine .al hs ?_; clear hs; intro p_b2 w_2 hs n2 kb_b2
  refine sq ?_
  refine .mv ?_
  apply wpSq_end
  refine hK1 _ _ ?_
  refine wp_seq_k ?_
  intro K2 hK2
  refine rg [0, 1, 2, 3] ?_
  refine sq ?_
  refine .mv ?_
  refine sq ?_
  refine .r0 ?_
  refine sq ?_
  intro K hK
  have hb := hs.b
  have x_b2 := hs.g0
  have x_b1 := hs.g1
  go_big_op
  go_fit (buildL_any (F := fun i ↦ (List.range c).map (F i)) (fun _ _ ↦ by kernel_rfl) (fun i w1 hi h1 ↦ by have := matrix1 hf (h.at (hb.trans (h1.mono hb.size))) hi hc (x_b2.bl h1) (x_b1.bl h1); simpa using this) hr)
  rintro e w_3 ⟨o_r, c_r, rs_r, rfl, hl_r, hs_r, d_r, hb_3⟩
  clear hb x_b2 x_b1
  replace hs := hs.mx hl_r hs_r; simp only [List.cons_append, List.nil_append] at hs
  refine hK _ _ rfl trivial ?_
  clear hK K
  refine sq ?_
  refine .mv ?_
  apply wpSq_end
  refine hK2 _ _ ?_
  refine wp_ret ?_
  try dsimp only [Exit.then, Exit.inBlock]
  refine bodyPost_ret (v := (.slice o_r r c_r)) (by simp [results, Tryz.results59, go_sem]) rfl ?_
  exact ⟨_, _, _, rfl, hl_r, (by unfold Mx; rw [hl_r]; exact hs.sub (.cons_cons _ (.cons _ (.cons _ (List.Sublist.refl _))))), d_r, hs.b⟩
end
/-- How many numbers the first row has. -/
def wd (Ms : List (List (Int × Int))) : Nat := (Ms.headD []).length
def gd (Ms : List (List (Int × Int))) : Prop := Ms.length ≤ 64 ∧ wd Ms ≤ 64 ∧ ∀ r ∈ Ms, r.length = wd Ms
instance (Ms : List (List (Int × Int))) : Decidable (gd Ms) := inferInstanceAs (Decidable (_ ∧ _ ∧ _))
theorem wd_0 {Ms : List (List (Int × Int))} (h : 0 < Ms.length) : Ms[0].length = wd Ms := by
  match Ms, h with
  | r :: Ms, _ => rfl
theorem wd_nil {Ms : List (List (Int × Int))} (h : Ms.length = 0) : wd Ms = 0 := by rw [List.eq_nil_of_length_eq_zero h]; rfl
section
variable {w : World} {l : Nat} {om : Option Addr} {n k cm : Nat} {Ms : List (List (Int × Int))}
set_option maxHeartbeats 4000000 in
set_option maxRecDepth 20000 in
theorem width_any (hm : MN l w om Ms) (hn : Ms.length = n) (hk : wd Ms = k) :
    Calls Tryz.prog 57 #[.slice om n cm] w fun e w' => e = .returned (.int .i64 (k : Int)) ∧ Below w.heap.size w w' := by
  rcases Nat.eq_zero_or_pos n with h0 | h0
  · have hk0 : 0 = k := by rw [← hk, wd_nil (hn.trans h0)]
    subst hk0 h0
    clear hk hn hm
    go_enter Tryz.func57, Tryz.ntmps57
    have hs := St.nil w
    refine wp_seq_k ?_
    intro K1 hK1
    refine rg [0] ?_
    refine sq ?_
    refine .mv ?_
    apply wpSq_end
    refine hK1 _ _ ?_
    refine wp_seq_k ?_
    intro K2 hK2
    refine wp_seq_k ?_
    intro K3 hK3
    refine rg [0, 1, 2] ?_
    refine sq ?_
    refine .mv ?_
    refine sq ?_
    refine .r0 ?_
    refine sq ?_
    refine .r0 ?_
    apply wpSq_end
    refine hK3 _ _ ?_
    refine ct ?_
    refine wp_seq_k ?_
    intro K4 hK4
    refine rg [0] ?_
    refine sq ?_
    refine .mv ?_
    apply wpSq_end
    refine hK4 _ _ ?_
    refine wp_ret ?_
    try dsimp only [Exit.then, Exit.inBlock]
    refine bodyPost_ret (v := (.int .i64 0)) (by simp [results, Tryz.results57, go_sem]) rfl ?_
    exact ⟨rfl, hs.b⟩
  · obtain ⟨g, off, cur, ty, fz, rfl, x, hr⟩ := hm.box (by omega)
    obtain ⟨o0, c0, e0, s0⟩ := hr 0 (by omega)
    rw [wd_0 (by omega), hk, Nat.add_zero] at e0
    clear hm hr s0 hk hn
    go_enter Tryz.func57, Tryz.ntmps57
    have hs := St.nil w
    refine wp_seq_k ?_
    intro K1 hK1
    refine rg [0] ?_
    refine sq ?_
    refine .mv ?_
    apply wpSq_end
    refine hK1 _ _ ?_
    refine wp_seq_k ?_
    intro K2 hK2
    refine wp_seq_k ?_
    intro K3 hK3
    refine rg [0, 1, 2] ?_
    refine sq ?_
    refine .mv ?_
    refine sq ?_
    refine .r0 ?_
    refine sq ?_
    refine .r0 ?_
    apply wpSq_end
    refine hK3 _ _ ?_
    refine cf ?_
    refine wp_skip ?_
    refine hK2 _ _ ?_
    refine wp_seq_k ?_
    intro K4 hK4
    refine rg [0, 1, 2, 3, 4] ?_
    refine sq ?_
    refine .mv ?_
    refine sq ?_
    refine .r0 ?_
    refine sq ?_
    refine .r1 (x.cell _ e0) ?_
    refine sq ?_
    refine .r0 ?_
    refine sq ?_
    refine .mv ?_
    apply wpSq_end
    refine hK4 _ _ ?_
    refine wp_ret ?_
    try dsimp only [Exit.then, Exit.inBlock]
    refine bodyPost_ret (v := (.int .i64 ((k : Nat) : Int))) (by simp [results, Tryz.results57, go_sem]) rfl ?_
    exact ⟨rfl, hs.b⟩
set_option maxHeartbeats 4000000 in
set_option maxRecDepth 20000 in
theorem good_any (hm : MN l w om Ms) (hn : Ms.length = n) (hl : n ≤ 1000000000) :
    Calls Tryz.prog 24 #[.slice om n cm] w fun e w' => e = .returned (.bool (decide (gd Ms))) ∧ Below w.heap.size w w' := by
  obtain ⟨k, hk⟩ : ∃ k, wd Ms = k := ⟨_, rfl⟩
  have hw := fun (w' : World) (hb : Below w.heap.size w w') => width_any (cm := cm) (hm.bl stab_n hb) hn hk
  have HG := hide (show (n ≤ 64 ∧ k ≤ 64 ∧ ∀ r ∈ Ms, r.length = k) ↔ gd Ms by unfold gd; rw [hk, hn])
  by_cases hn64 : 64 < n
  · have hg : decide (gd Ms) = false := decide_eq_false fun h => by have := (HG.out.2 h).1; omega
    have Hg := hide hg
    clear hg
    have t1 : ((64 : Int) < (n : Int)) = True := eq_true (by omega)
    go_enter Tryz.func24, Tryz.ntmps24
    have hs := St.nil w
    refine wp_seq_k ?_
    intro K1 hK1
    refine rg [0] ?_
    refine sq ?_
    refine .mv ?_
    apply wpSq_end
    refine hK1 _ _ ?_
    refine wp_seq_k ?_
    intro K2 hK2
    refine wp_seq_k ?_
    intro K3 hK3
    refine rg [0, 1, 2, 3, 4, 5, 6, 7] ?_
    refine sq ?_
    refine .mv ?_
    refine sq ?_
    refine .r0 ?_
    refine sq ?_
    refine .r0 ?_
    refine sq ?_
    refine .mv ?_
    refine sk ?_
    refine sk ?_
    refine sk ?_
    refine sq ?_
    refine .r0 ?_
    apply wpSq_end
    refine hK3 _ _ ?_
    refine ct ?_
    refine wp_seq_k ?_
    intro K4 hK4
    refine rg [0] ?_
    refine sq ?_
    refine .mv ?_
    apply wpSq_end
    refine hK4 _ _ ?_
    refine wp_ret ?_
    try dsimp only [Exit.then, Exit.inBlock]
    refine bodyPost_ret (v := (.bool false)) (by simp [results, Tryz.results24, go_sem]) rfl ?_
    exact ⟨by rw [Hg.out], hs.b⟩
  · by_cases hk64 : 64 < k
    · have hg : decide (gd Ms) = false := decide_eq_false fun h => by have := (HG.out.2 h).2.1; omega
      have Hg := hide hg
      clear hg
      have t1 : ((64 : Int) < (n : Int)) = False := eq_false (by omega)
      have t2 : ((64 : Int) < (k : Int)) = True := eq_true (by omega)
      go_enter Tryz.func24, Tryz.ntmps24
      have hs := St.nil w
      refine wp_seq_k ?_
      intro K1 hK1
      refine rg [0] ?_
      refine sq ?_
      refine .mv ?_
      apply wpSq_end
      refine hK1 _ _ ?_
      refine wp_seq_k ?_
      intro K2 hK2
      refine wp_seq_k ?_
      intro K3 hK3
      refine rg [0, 1, 2, 3, 4, 5, 6, 7] ?_
      refine sq ?_
      refine .mv ?_
      refine sq ?_
      refine .r0 ?_
      refine sq ?_
      refine .r0 ?_
      refine sq ?_
      refine .mv ?_
      refine sq ?_
      refine .mv ?_
      refine sq ?_
      intro K hK
      have hb := hs.b
      go_big_op
      go_fit (hw _ hb)
      rintro e w_1 ⟨rfl, hb_1⟩
      clear hb
      replace hs := hs.bl hb_1
      refine hK _ _ rfl trivial ?_
      clear hK K
      refine sq ?_
      refine .r0 ?_
      refine sq ?_
      refine .r0 ?_
      apply wpSq_end
      refine hK3 _ _ ?_
      refine ct ?_
      refine wp_seq_k ?_
      intro K4 hK4
      refine rg [0] ?_
      refine sq ?_
      refine .mv ?_
      apply wpSq_end
      refine hK4 _ _ ?_
      refine wp_ret ?_
      try dsimp only [Exit.then, Exit.inBlock]
      refine bodyPost_ret (v := (.bool false)) (by simp [results, Tryz.results24, go_sem]) rfl ?_
      exact ⟨by rw [Hg.out], hs.b⟩
    · have X : n = 0 ∨ ∃ g off cur ty fz, om = some ⟨g, off, none⟩ ∧ Bs w g cur ty fz ∧ Rws (RN l) w cur off Ms := hm.imp (fun e => by rw [← hn, e]; rfl) id
      have t1 : ((64 : Int) < (n : Int)) = False := eq_false (by omega)
      have t2 : ((64 : Int) < (k : Int)) = False := eq_false (by omega)
      go_enter Tryz.func24, Tryz.ntmps24
      have hs := St.nil w
      refine wp_seq_k ?_
      intro K1 hK1
      refine rg [0] ?_
      refine sq ?_
      refine .mv ?_
      apply wpSq_end
      refine hK1 _ _ ?_
      refine wp_seq_k ?_
      intro K2 hK2
      refine wp_seq_k ?_
      intro K3 hK3
      refine rg [0, 1, 2, 3, 4, 5, 6, 7] ?_
      refine sq ?_
      refine .mv ?_
      refine sq ?_
      refine .r0 ?_
      refine sq ?_
      refine .r0 ?_
      refine sq ?_
      refine .mv ?_
      refine sq ?_
      refine .mv ?_
      refine sq ?_
      intro K hK
      have hb := hs.b
      go_big_op
      go_fit (hw _ hb)
      rintro e w_1 ⟨rfl, hb_1⟩
      clear hb
      replace hs := hs.bl hb_1
      refine hK _ _ rfl trivial ?_
      clear hK K
      refine sq ?_
      refine .r0 ?_
      refine sq ?_
      refine .r0 ?_
      apply wpSq_end
      refine hK3 _ _ ?_
      refine cf ?_
      refine wp_skip ?_
      refine hK2 _ _ ?_
      refine wp_seq_k ?_
      intro K4 hK4
      refine wp_seq_k ?_
      intro K5 hK5
      refine rg [0, 1, 2] ?_
      refine sq ?_
      refine .mv ?_
      refine sq ?_
      refine .r0 ?_
      refine sq ?_
      refine .mv ?_
      apply wpSq_end
      refine hK5 _ _ ?_
      refine wp_block ?_
      have hd2 := hs.2.1
      go_loopg [15] n (fun kk s15 wr => ∃ i : Nat, s15 = .int .i64 (i : Int) ∧ i + kk = n ∧ Hid (∀ j (hj : j < Ms.length), j < i → Ms[j].length = k) ∧ St w [] wr)
      case atStart => exact ⟨0, rfl, by omega, hide fun j _ h => absurd h (Nat.not_lt_zero j), hs⟩
      case round =>
      clear hs
      obtain ⟨i, rfl, hik, HJ, hs⟩ := hrel
      by_cases hi : i < n
      · obtain ⟨g, off, cur, ty, fz, rfl, x, hr⟩ := X.resolve_left (by omega)
        obtain ⟨oi, ci, ei, si⟩ := hr i (by omega)
        have x1 := x.bl hs.b
        have HI := hide (show ∀ k', Ms[i].length = k' → k' = k → ∀ j (hj : j < Ms.length), j < i + 1 → Ms[j].length = k from fun k' e1 e2 j hj h => by
          rcases Nat.lt_succ_iff_lt_or_eq.1 h with h | h
          · exact HJ.out j hj h
          · subst h; omega)
        have HN := hide (show Ms[i].length ≠ k → decide (gd Ms) = false from fun h => decide_eq_false fun hg => h ((HG.out.2 hg).2.2 _ (List.getElem_mem _)))
        obtain ⟨kr, hkr⟩ : ∃ kr, Ms[i].length = kr := ⟨_, rfl⟩
        rw [hkr] at ei HN
        replace HI := hide (HI.out kr hkr)
        clear hkr si X
        refine wp_seq_k ?_
        intro K6 hK6
        refine rg [0] ?_
        refine sq ?_
        refine .r0 ?_
        apply wpSq_end
        refine hK6 _ _ ?_
        refine wp_seq_k ?_
        intro K7 hK7
        refine ct ?_
        refine wp_skip ?_
        refine hK7 _ _ ?_
        refine wp_seq_k ?_
        intro K8 hK8
        refine wp_block ?_
        refine wp_seq_k ?_
        intro K9 hK9
        refine rg [0, 1, 2] ?_
        refine sq ?_
        refine .r0 ?_
        refine sq ?_
        refine .r1 (x1.cell _ ei) ?_
        refine sq ?_
        refine .mv ?_
        apply wpSq_end
        refine hK9 _ _ ?_
        refine wp_seq_k ?_
        intro K10 hK10
        refine rg [0, 1, 2, 3, 4] ?_
        refine sq ?_
        refine .mv ?_
        refine sq ?_
        refine .r0 ?_
        refine sq ?_
        refine .mv ?_
        refine sq ?_
        intro K hK
        have hb := hs.b
        go_big_op
        go_fit (hw _ hb)
        rintro e w_3 ⟨rfl, hb_3⟩
        clear hb
        replace x1 := x1.bl hb_3; replace hs := hs.bl hb_3
        refine hK _ _ rfl trivial ?_
        clear hK K
        refine sq ?_
        refine .r0 ?_
        apply wpSq_end
        refine hK10 _ _ ?_
        by_cases hkk : kr = k
        · have HK := hide hkk
          have t3 : ((kr : Int) != (k : Int)) = false := by rw [hkk]; simp
          refine cf ?_
          refine wp_skip ?_
          refine hK8 _ _ ?_
          refine rg [0, 1] ?_
          refine sq ?_
          refine .r0 ?_
          refine sq ?_
          refine .mv ?_
          apply wpSq_end
          refine ‹∀ (a' : Act) (w' : World), Handed _ _ a' w' → _› _ _ ?_
          go_roundg (gk - 1)
          case rel => exact ⟨i + 1, by rfl, by omega, hide (HI.out hkk), hs⟩
          case measure => omega
        · have Hg := hide (HN.out hkk)
          have t3 : ((kr : Int) != (k : Int)) = true := bne_iff_ne.2 (by omega)
          refine ct ?_
          refine wp_seq_k ?_
          intro K11 hK11
          refine rg [0] ?_
          refine sq ?_
          refine .mv ?_
          apply wpSq_end
          refine hK11 _ _ ?_
          refine wp_ret ?_
          try dsimp only [Exit.then, Exit.inBlock]
          refine bodyPost_ret (v := (.bool false)) (by simp [results, Tryz.results24, go_sem]) rfl ?_
          exact ⟨by rw [Hg.out], hs.b⟩
      · have HX := hide hi
        have Hg := hide (show decide (gd Ms) = true from decide_eq_true (HG.out.1 ⟨by omega, by omega, fun r hr => by
          obtain ⟨j, hj, rfl⟩ := List.getElem_of_mem hr
          exact HJ.out j hj (by omega)⟩))
        refine wp_seq_k ?_
        intro K6 hK6
        refine rg [0] ?_
        refine sq ?_
        refine .r0 ?_
        apply wpSq_end
        refine hK6 _ _ ?_
        refine wp_seq_k ?_
        intro K7 hK7
        refine cf ?_
        refine wp_exit ?_
        refine hK4 _ _ ?_
        refine wp_seq_k ?_
        intro K8 hK8
        refine rg [0] ?_
        refine sq ?_
        refine .mv ?_
        apply wpSq_end
        refine hK8 _ _ ?_
        refine wp_ret ?_
        try dsimp only [Exit.then, Exit.inBlock]
        refine bodyPost_ret (v := (.bool true)) (by simp [results, Tryz.results24, go_sem]) rfl ?_
        exact ⟨by rw [Hg.out], hs.b⟩
theorem good_yes (hm : MN l w om Ms) (hn : Ms.length = n) (hl : n ≤ 1000000000) (h : gd Ms) :
    Calls Tryz.prog 24 #[.slice om n cm] w fun e w' => e = .returned (.bool true) ∧ Below w.heap.size w w' := by
  have := good_any (cm := cm) hm hn hl; rw [decide_eq_true h] at this; exact this
theorem good_no (hm : MN l w om Ms) (hn : Ms.length = n) (hl : n ≤ 1000000000) (h : ¬ gd Ms) :
    Calls Tryz.prog 24 #[.slice om n cm] w fun e w' => e = .returned (.bool false) ∧ Below w.heap.size w w' := by
  have := good_any (cm := cm) hm hn hl; rw [decide_eq_false h] at this; exact this
variable {la lb na nb ca cb : Nat} {oa ob : Option Addr} {A B : List (List (Int × Int))}
end
def aP (p q : Int × Int) : Int × Int := (p.1 + q.1, p.2 + q.2)
def sP (p q : Int × Int) : Int × Int := (p.1 - q.1, p.2 - q.2)
def mP (p q : Int × Int) : Int × Int := (p.1 * q.1 - p.2 * q.2, p.1 * q.2 + p.2 * q.1)
def cP (p : Int × Int) : Int × Int := (p.1, -p.2)
def rw_ (Ms : List (List (Int × Int))) (i : Nat) : List (Int × Int) := Ms.getD i []
def at1 (ps : List (Int × Int)) (j : Nat) : Int × Int := ps.getD j (0, 0)
def at2 (Ms : List (List (Int × Int))) (i j : Nat) : Int × Int := at1 (rw_ Ms i) j
def mkM (r c : Nat) (F : Nat → Nat → Int × Int) : List (List (Int × Int)) := (List.range r).map fun i => (List.range c).map (F i)
theorem rw_eq {Ms : List (List (Int × Int))} {i : Nat} (hi : i < Ms.length) : rw_ Ms i = Ms[i] := by simp [rw_, List.getD, hi]
theorem at1_eq {ps : List (Int × Int)} {i : Nat} (hi : i < ps.length) : at1 ps i = ps[i] := by simp [at1, List.getD, hi]
theorem SV.op {l : Nat} {w : World} {o : Option Addr} {ps : List (Int × Int)} {j : Nat} (h : SN l w o ps) (hj : j < ps.length) :
    ∃ g off cur ty fz n1 o1 k1 c1 n2 o2 k2 c2, o = some ⟨g, off, none⟩ ∧ Bs w g cur ty fz ∧ cur[off + j * 4]? = some (.bool n1) ∧ cur[off + j * 4 + 1]? = some (.slice o1 k1 c1) ∧ cur[off + j * 4 + 2]? = some (.bool n2) ∧ cur[off + j * 4 + 3]? = some (.slice o2 k2 c2) ∧
      ZN w (.agg #[.bool n1, .slice o1 k1 c1]) (at1 ps j).1 l ∧ ZN w (.agg #[.bool n2, .slice o2 k2 c2]) (at1 ps j).2 l := by
  obtain ⟨g, off, cur, ty, fz, rfl, x, hr⟩ := h.box (by omega)
  obtain ⟨n1, o1, k1, c1, n2, o2, k2, c2, e1, e2, e3, e4, h1, h2⟩ := hr j hj
  rw [← at1_eq hj] at h1 h2
  exact ⟨g, off, cur, ty, fz, n1, o1, k1, c1, n2, o2, k2, c2, rfl, x, e1, e2, e3, e4, h1, h2⟩
theorem MV.row {l : Nat} {w : World} {om : Option Addr} {Ms : List (List (Int × Int))} {i : Nat} (h : MN l w om Ms) (hi : i < Ms.length) :
    ∃ g off cur ty fz oi ci, om = some ⟨g, off, none⟩ ∧ Bs w g cur ty fz ∧ cur[off + i]? = some (.slice oi (rw_ Ms i).length ci) ∧ SN l w oi (rw_ Ms i) := by
  obtain ⟨g, off, cur, ty, fz, rfl, x, hr⟩ := h.box (by omega)
  obtain ⟨o, c, e, hs⟩ := hr i hi
  rw [← rw_eq hi] at e hs
  exact ⟨g, off, cur, ty, fz, o, c, rfl, x, e, hs⟩
theorem MV.op {l : Nat} {w : World} {om : Option Addr} {Ms : List (List (Int × Int))} {i j : Nat} (h : MN l w om Ms) (hi : i < Ms.length) (hj : j < (rw_ Ms i).length) :
    ∃ g off cur ty fz g2 off2 cur2 ty2 fz2 ci n1 o1 k1 c1 n2 o2 k2 c2, om = some ⟨g, off, none⟩ ∧ Bs w g cur ty fz ∧ cur[off + i]? = some (.slice (some ⟨g2, off2, none⟩) (rw_ Ms i).length ci) ∧ Bs w g2 cur2 ty2 fz2 ∧
      cur2[off2 + j * 4]? = some (.bool n1) ∧ cur2[off2 + j * 4 + 1]? = some (.slice o1 k1 c1) ∧ cur2[off2 + j * 4 + 2]? = some (.bool n2) ∧ cur2[off2 + j * 4 + 3]? = some (.slice o2 k2 c2) ∧
      ZN w (.agg #[.bool n1, .slice o1 k1 c1]) (at2 Ms i j).1 l ∧ ZN w (.agg #[.bool n2, .slice o2 k2 c2]) (at2 Ms i j).2 l := by
  obtain ⟨g, off, cur, ty, fz, oi, ci, rfl, x, e, hs⟩ := h.row hi
  obtain ⟨g2, off2, cur2, ty2, fz2, n1, o1, k1, c1, n2, o2, k2, c2, rfl, x2, r⟩ := hs.op hj
  exact ⟨g, off, cur, ty, fz, g2, off2, cur2, ty2, fz2, ci, n1, o1, k1, c1, n2, o2, k2, c2, rfl, x, e, x2, r⟩
theorem gN_zero {u v : Int} : gN u v = 0 ↔ u = 0 ∧ v = 0 := by
  unfold gN
  have h1 := mul_self_nonneg' u
  have h2 := mul_self_nonneg' v
  constructor
  · intro h
    have e1 : u * u = 0 := by omega
    have e2 : v * v = 0 := by omega
    exact ⟨(Int.mul_eq_zero.1 e1).elim id id, (Int.mul_eq_zero.1 e2).elim id id⟩
  · rintro ⟨rfl, rfl⟩; rfl
end Go.Proofs.YtcoodkdalblalaaGreatDoor
