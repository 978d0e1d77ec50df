/- Walks that name each world and each block: blocks of any cells, and the steps of a region, one by one. -/
import Derived.Test.YtjcfhbekpmpbeaaDoorZ9
import Derived.Test.YtjcfhbekpmpbeaaDoorR2aToR6
import Derived.Test.YtjcfhbekpmpbeaaDoorW8
import Derived.Test.YtjcfhbekpmpbeaaDoorR1
import Derived.Lib.Strings

namespace Go.Proofs.YtjcfhbekpmpbeaaDoor
open Go Go.RowKit Dig

/-- Block b holds these cells; it may be written. -/
def Bs (w : World) (b : Nat) (cs : Array Value) (ty : TypeId) : Prop := w.heap[b]? = some (.cells cs ty)

theorem Bs.lt {w : World} {b : Nat} {cs : Array Value} {ty : TypeId} (h : Bs w b cs ty) : b < w.heap.size := by
  unfold Bs at h
  rcases Nat.lt_or_ge b w.heap.size with hb | hb
  · exact hb
  · rw [Array.getElem?_eq_none hb] at h; cases h
theorem Bs.below {w w' : World} {b : Nat} {cs : Array Value} {ty : TypeId} (h : Bs w b cs ty) {B : Nat} (hb : Below B w w') (hB : w.heap.size ≤ B) : Bs w' b cs ty := by
  have := h.lt
  unfold Bs; rw [hb.block b (by omega)]; exact h
theorem Bs.cell {w : World} {b : Nat} {cs : Array Value} {ty : TypeId} (h : Bs w b cs ty) (i : Nat) {c : Value} (hc : cs[i]? = some c) : w.cell? ⟨b, i, none⟩ = some c := by
  unfold Bs at h
  simp only [World.cell?, h]
  exact hc
theorem Bs.bl {w w' : World} {b : Nat} {cs : Array Value} {ty : TypeId} (h : Bs w b cs ty) (hb : Below w.heap.size w w') : Bs w' b cs ty := h.below hb (Nat.le_refl _)
theorem ZN.bl {w w' : World} {v : Value} {z : Int} {l : Nat} (h : ZN w v z l) (hb : Below w.heap.size w w') : ZN w' v z l := h.below hb (Nat.le_refl _)
theorem ZC.bl {w w' : World} {v : Value} {z : Int} (h : ZC w v z) (hb : Below w.heap.size w w') : ZC w' v z := h.below hb (Nat.le_refl _)
theorem Bs.f1 {w : World} {b : Nat} {c0 : Value} {ty : TypeId} (h : Bs w b #[c0] ty) : w.cell? ⟨b, 0, none⟩ = some c0 := h.cell 0 rfl
theorem Bs.f2 {w : World} {b : Nat} {c0 c1 : Value} {ty : TypeId} (h : Bs w b #[c0, c1] ty) : w.cell? ⟨b, 0, none⟩ = some c0 ∧ w.cell? ⟨b, 1, none⟩ = some c1 := ⟨h.cell 0 rfl, h.cell 1 rfl⟩
theorem Bs.f4 {w : World} {b : Nat} {c0 c1 c2 c3 : Value} {ty : TypeId} (h : Bs w b #[c0, c1, c2, c3] ty) :
    w.cell? ⟨b, 0, none⟩ = some c0 ∧ w.cell? ⟨b, 1, none⟩ = some c1 ∧ w.cell? ⟨b, 2, none⟩ = some c2 ∧ w.cell? ⟨b, 3, none⟩ = some c3 := ⟨h.cell 0 rfl, h.cell 1 rfl, h.cell 2 rfl, h.cell 3 rfl⟩
theorem Bs.free {w : World} {b : Nat} {cs : Array Value} {ty : TypeId} (h : Bs w b cs ty) (i : Nat) : w.frozen? ⟨b, i, none⟩ = false := by
  unfold Bs at h
  simp [World.frozen?, h]
theorem Bs.set {w : World} {b : Nat} {cs : Array Value} {ty : TypeId} (h : Bs w b cs ty) (i : Nat) (v : Value) : Bs (w.setCell ⟨b, i, none⟩ v) b (cs.setIfInBounds i v) ty := by
  unfold Bs at h ⊢
  simp only [World.setCell, Array.getElem?_modify, h]
  simp
theorem Bs.frame {w w' : World} {b c : Nat} {cs : Array Value} {ty : TypeId} (h : Bs w b cs ty) (ho : Only c w w') (hne : Hid (b ≠ c)) : Bs w' b cs ty := by
  unfold Bs; rw [ho.block b hne]; exact h
theorem Bs.frame' {w w' : World} {b c : Nat} {cs : Array Value} {ty : TypeId} (h : Bs w b cs ty) (ho : Only c w w') (hne : Hid (c ≠ b)) : Bs w' b cs ty := h.frame ho hne.symm

def setAll (w : World) (b : Nat) : List (Nat × Value) → World
  | [] => w
  | (i, v) :: l => setAll (w.setCell ⟨b, i, none⟩ v) b l
def setArr (cs : Array Value) : List (Nat × Value) → Array Value
  | [] => cs
  | (i, v) :: l => setArr (cs.setIfInBounds i v) l
theorem Bs.sets {w : World} {b : Nat} {cs : Array Value} {ty : TypeId} (h : Bs w b cs ty) : ∀ l : List (Nat × Value), Bs (setAll w b l) b (setArr cs l) ty ∧ Only b w (setAll w b l) := by
  intro l
  induction l generalizing w cs with
  | nil => exact ⟨h, Only.refl _ _⟩
  | cons x l ih =>
    obtain ⟨i, v⟩ := x
    obtain ⟨h1, h2⟩ := ih (h.set i v)
    exact ⟨h1, ((Only.refl b w).setCell i v).trans h2⟩
theorem Bs.setN {w : World} {b : Nat} {cs : Array Value} {ty : TypeId} (h : Bs w b cs ty) (l : List (Nat × Value)) : ∃ w', setAll w b l = w' ∧ Bs w' b (setArr cs l) ty ∧ Only b w w' :=
  ⟨_, rfl, (h.sets l).1, (h.sets l).2⟩
/-- A new block gets a name, and so does the world. -/
theorem newBox (w : World) (cs : Array Value) (ty : TypeId) {B : Nat} (hB : B ≤ w.heap.size) : ∃ p w', w.heap.size = p ∧ w.alloc (.cells cs ty) = w' ∧ Bs w' p cs ty ∧ Below w.heap.size w w' ∧ Hid (B ≤ p) := by
  refine ⟨_, _, rfl, rfl, ?_, (Below.refl _ _).alloc (Nat.le_refl _) _, hB⟩
  show (w.heap.push _)[w.heap.size]? = _
  simp

def nd : Value → Bool
  | .int .u32 _ => false
  | _ => true
/-- A block that bears no digit. -/
def NoD (w : World) (b : Nat) : Prop := (∀ off (d : Nat), w.cell? ⟨b, off, none⟩ ≠ some (.int .u32 (d : Int))) ∧ ∀ xs, ¬ Row w b xs
theorem Bs.nod {w : World} {b : Nat} {cs : Array Value} {ty : TypeId} (h : Bs w b cs ty) (hc : cs.toList.all nd = true) (ht : (ty == 24) = false) : NoD w b := by
  have h0 := h
  unfold Bs at h0
  refine ⟨fun off d hcell => ?_, fun xs hr => ?_⟩
  · simp only [World.cell?, h0] at hcell
    have h2 : cs[off]? = some (.int .u32 (d : Int)) := by simpa using hcell
    have := List.all_eq_true.1 hc _ (Array.mem_toList_iff.2 (Array.mem_of_getElem? h2))
    simp [nd] at this
  · have h3 := hr.1
    rw [h0] at h3
    simp only [Option.some.injEq, Obj.cells.injEq] at h3
    have := h3.2.1
    rw [this] at ht
    simp at ht
theorem Cells.fr {w w' : World} {b : Nat} {oa : Option Addr} {ds : List Nat} (h : Cells w oa ds) (hb : NoD w b) (ho : Only b w w') : Cells w' oa ds := by
  by_cases hne : ds = []
  · exact .inl hne
  · obtain ⟨c, off, e, hc⟩ := h.resolve_left hne
    refine h.only ho ?_
    intro a ha
    rw [e] at ha
    cases ha
    intro hcb
    have := hc 0 (List.length_pos_iff.2 hne)
    simp only at hcb
    rw [hcb] at this
    exact hb.1 _ _ this
theorem Rd.fr {w w' : World} {b : Nat} {v : Value} {ds : List Nat} (h : Rd w v ds) (hb : NoD w b) (ho : Only b w w') : Rd w' v ds := by
  obtain ⟨oa, cap, hv, hc, ok, hx⟩ := h
  exact ⟨oa, cap, hv, hc, ok, hx.fr hb ho⟩
theorem ZN.fr {w w' : World} {b : Nat} {v : Value} {z : Int} {l : Nat} (h : ZN w v z l) (hb : NoD w b) (ho : Only b w w') : ZN w' v z l := by
  obtain ⟨neg, s, xs, hv, hr, hz, hl⟩ := h
  exact ⟨neg, s, xs, hv, hr.fr hb ho, hz, hl⟩
theorem ZC.fr {w w' : World} {b : Nat} {v : Value} {z : Int} (h : ZC w v z) (hb : NoD w b) (ho : Only b w w') : ZC w' v z := by
  obtain ⟨s, hv, hr⟩ := h
  exact ⟨s, hv, hr.fr hb ho⟩
theorem belowOnly {B b : Nat} {u w w' : World} (h : Below B u w) (ho : Only b w w') (hb : Hid (B ≤ b)) : Below B u w' := h.trans (ho.below hb)
theorem ZC.lenOf {w : World} {v : Value} {z : Int} (_ : ZC w v z) {l : Nat} (hl : (dig z.natAbs).length ≤ l) : (dig z.natAbs).length ≤ l := hl
theorem ZN.lenOf {w : World} {v : Value} {z : Int} {m : Nat} (_ : ZN w v z m) {l : Nat} (hl : (dig z.natAbs).length ≤ l) : (dig z.natAbs).length ≤ l := hl
theorem zc_zero (w : World) : ZC w (.agg #[.bool false, .slice none 0 0]) 0 := (zo_zero w 0).rd
theorem ZN.open2c {w : World} {v : Value} {z : Int} {l : Nat} (h : ZN w v z l) : ∃ sb oa n cap, v = .agg #[.bool sb, .slice oa n cap] := h.open2

/-- Two whole numbers in one struct. -/
def PN (w : World) (v : Value) (x : Int) (l : Nat) (y : Int) (m : Nat) : Prop :=
  ∃ n1 o1 k1 c1 n2 o2 k2 c2, v = .agg #[.bool n1, .slice o1 k1 c1, .bool n2, .slice o2 k2 c2] ∧ ZN w (.agg #[.bool n1, .slice o1 k1 c1]) x l ∧ ZN w (.agg #[.bool n2, .slice o2 k2 c2]) y m
def PC (w : World) (v : Value) (x y : Int) : Prop :=
  ∃ n1 o1 k1 c1 n2 o2 k2 c2, v = .agg #[.bool n1, .slice o1 k1 c1, .bool n2, .slice o2 k2 c2] ∧ ZC w (.agg #[.bool n1, .slice o1 k1 c1]) x ∧ ZC w (.agg #[.bool n2, .slice o2 k2 c2]) y
theorem PN.mk' {w : World} {n1 n2 : Bool} {o1 o2 : Option Addr} {k1 c1 k2 c2 : Nat} {x y : Int} {l m : Nat} (h1 : ZN w (.agg #[.bool n1, .slice o1 k1 c1]) x l) (h2 : ZN w (.agg #[.bool n2, .slice o2 k2 c2]) y m) :
    PN w (.agg #[.bool n1, .slice o1 k1 c1, .bool n2, .slice o2 k2 c2]) x l y m := ⟨_, _, _, _, _, _, _, _, rfl, h1, h2⟩
theorem PC.mk' {w : World} {n1 n2 : Bool} {o1 o2 : Option Addr} {k1 c1 k2 c2 : Nat} {x y : Int} (h1 : ZC w (.agg #[.bool n1, .slice o1 k1 c1]) x) (h2 : ZC w (.agg #[.bool n2, .slice o2 k2 c2]) y) :
    PC w (.agg #[.bool n1, .slice o1 k1 c1, .bool n2, .slice o2 k2 c2]) x y := ⟨_, _, _, _, _, _, _, _, rfl, h1, h2⟩
theorem PN.below {w w' : World} {v : Value} {x y : Int} {l m : Nat} (h : PN w v x l y m) {B : Nat} (hb : Below B w w') (hB : w.heap.size ≤ B) : PN w' v x l y m := by
  obtain ⟨n1, o1, k1, c1, n2, o2, k2, c2, rfl, h1, h2⟩ := h
  exact .mk' (h1.below hb hB) (h2.below hb hB)
theorem PC.below {w w' : World} {v : Value} {x y : Int} (h : PC w v x y) {B : Nat} (hb : Below B w w') (hB : w.heap.size ≤ B) : PC w' v x y := by
  obtain ⟨n1, o1, k1, c1, n2, o2, k2, c2, rfl, h1, h2⟩ := h
  exact .mk' (h1.below hb hB) (h2.below hb hB)
theorem PN.of_rd {w : World} (n1 n2 : Bool) {s1 s2 : Value} {xs ys : List Nat} {l m : Nat} (h1 : Rd w s1 xs) (l1 : xs.length ≤ l) (h2 : Rd w s2 ys) (l2 : ys.length ≤ m) :
    PN w (.agg #[.bool n1, s1, .bool n2, s2]) (zv n1 xs) l (zv n2 ys) m := by
  obtain ⟨o1, c1, rfl, h1'⟩ := h1
  obtain ⟨o2, c2, rfl, h2'⟩ := h2
  exact ⟨n1, o1, _, c1, n2, o2, _, c2, rfl, ⟨n1, _, xs, rfl, ⟨o1, c1, rfl, h1'⟩, rfl, l1⟩, ⟨n2, _, ys, rfl, ⟨o2, c2, rfl, h2'⟩, rfl, l2⟩⟩
theorem PN.len1 {w : World} {v : Value} {x y : Int} {l m : Nat} (h : PN w v x l y m) : (dig x.natAbs).length ≤ l := by
  obtain ⟨_, _, _, _, _, _, _, _, _, h1, _⟩ := h
  exact h1.len
theorem PN.len2 {w : World} {v : Value} {x y : Int} {l m : Nat} (h : PN w v x l y m) : (dig y.natAbs).length ≤ m := by
  obtain ⟨_, _, _, _, _, _, _, _, _, _, h1⟩ := h
  exact h1.len
theorem PC.pn {w : World} {v : Value} {x y : Int} (h : PC w v x y) {l m : Nat} (hl : (dig x.natAbs).length ≤ l) (hm : (dig y.natAbs).length ≤ m) : PN w v x l y m := by
  obtain ⟨n1, o1, k1, c1, n2, o2, k2, c2, rfl, h1, h2⟩ := h
  exact .mk' (h1.zn hl) (h2.zn hm)

theorem zlen_0 : (dig (Int.natAbs 0)).length ≤ 1 := by rw [show dig (Int.natAbs 0) = [] from dig_eq_nil.2 rfl]; exact Nat.zero_le _
theorem zlen_neg {x : Int} {l : Nat} (h : (dig x.natAbs).length ≤ l) : (dig (-x).natAbs).length ≤ l := by rw [Int.natAbs_neg]; exact h
theorem zlen_abs {x : Int} {l : Nat} (h : (dig x.natAbs).length ≤ l) : (dig (Int.natAbs x : Int).natAbs).length ≤ l := by rw [Int.natAbs_natCast]; exact h
theorem zlen_gcd {x y : Int} {l m : Nat} (hx : (dig x.natAbs).length ≤ l) (hy : (dig y.natAbs).length ≤ m) : (dig (Int.gcd x y : Int).natAbs).length ≤ l + m := by
  rw [Int.natAbs_natCast]
  by_cases h : y = 0
  · subst h
    rw [Int.gcd_zero_right]; exact Nat.le_trans hx (Nat.le_add_right _ _)
  · exact Nat.le_trans (len_le (Nat.le_of_dvd (Int.natAbs_pos.2 h) (Int.gcd_dvd_natAbs_right x y)) hy) (Nat.le_add_left _ _)

section
variable {P : Program} {l : List Oper} {Q : Act → World → Prop} {a : Act} {w : World} {o : Oper}

/-- A region that does not draw, operation by operation. -/
def wpSq (P : Program) (l : List Oper) (Q : Act → World → Prop) : List Nat → Act → World → Prop
  | [], a, w => Q a w
  | k :: rest, a, w => ∃ o, nthO l k = some o ∧ if Region.wanted o (yielded l.toArray a.tmps) then Calm P o a w (fun v w' => wpSq P l Q rest (a.put o.dst v) w') else wpSq P l Q rest (a.put o.dst undef) w

theorem wpOps_of_sq {Q' : Exit → Act → World → Prop} (hQ : ∀ a w, Q a w → Q' .normal a w) : ∀ (plan : List Nat) (a : Act) (w : World), wpSq P l Q plan a w → wpOps P l.toArray Q' plan a w
  | [], a, w, h => hQ _ _ h
  | k :: rest, a, w, h => by
    obtain ⟨o, ho, h⟩ := h
    unfold wpOps
    rw [show l.toArray[k]? = some o by rw [← nthO_eq] at ho; simpa using ho]
    simp only
    split
    · rename_i hw
      simp only [hw, if_true] at h
      exact .inl (Calm.wp (h.mono fun v w' h3 => wpOps_of_sq hQ rest _ _ h3))
    · rename_i hw
      simp only [hw] at h
      exact wpOps_of_sq hQ rest _ _ h
theorem wp_region_sq {id : Nat} {Q : Exit → Act → World → Prop} (plan : List Nat) (hp : List.range l.length = plan) (h : wpSq P l (Q .normal) plan a w) : (Code.region id l.toArray false).wp P Q a w := by
  refine wp_region ?_
  rw [show l.toArray.size = l.length by simp, hp]
  exact wpOps_of_sq (fun _ _ h => h) _ _ _ h
theorem wpSq_call {k : Nat} {rest : List Nat} (hi : nthO l k = some o) (hw : Region.wanted o (yielded l.toArray a.tmps) = true)
    (h : ∀ K : Act → World → Prop, (∀ a' w', a'.defers = a.defers → wpSq P l Q rest a' w' → K a' w') → o.wp P a w K bot) : wpSq P l Q (k :: rest) a w := by
  refine ⟨o, hi, ?_⟩
  rw [if_pos hw]
  have h := h (fun a' w' => a'.defers = a.defers ∧ wpSq P l Q rest a' w') (fun a' w' h1 h2 => ⟨h1, h2⟩)
  unfold Oper.wp at h
  unfold Calm
  generalize (execOp a.eval o).run P w = r at *
  cases r with
  | ok n w2 =>
    cases n <;> simp only [Oper.upon] at h ⊢
    case value => exact h.2
    case skip => exact h.2
    case defer =>
      have h1 := h.1
      unfold Act.put at h1
      split at h1 <;> simp at h1
    case enter =>
      refine h.mono fun e w'' he => ?_
      cases e with
      | returned v => exact ⟨v, rfl, he.2⟩
      | panicked c => exact he.elim
      | outgrown => obtain ⟨_, _, hf⟩ := he; exact hf.elim
    case row => exact Rows.mono h fun v w'' he => he.2
  | halt x w2 => cases x <;> simp only [Oper.upon, bot] at h
theorem wpSq_skip {k : Nat} {rest : List Nat} {a' : Act} (hi : nthO l k = some o) (hw : Region.wanted o (yielded l.toArray a.tmps) = false) (hp : a.put o.dst undef = a')
    (hn : wpSq P l Q rest a' w) : wpSq P l Q (k :: rest) a w :=
  ⟨o, hi, by rw [if_neg (by rw [hw]; exact Bool.false_ne_true), hp]; exact hn⟩
theorem wp_region_fl2 {id : Nat} {Q : Exit → Act → World → Prop} (plan1 : List (Nat × Bool)) (plan2 : List Nat) (F0 : List Nat) (ob : Nat → Obj) (CL : List Nat) (bad : List (Nat × Nat)) (C : World → Prop) (Gs : List (World → Prop)) (hm : P.follows .mixedOrders = true) (hs : Region.noSelect l.toArray = true)
    (hlen : plan1.length + F0.length + plan2.length = l.length) (hok : flOK .any l plan2 (plan1.length + F0.length) (Array.replicate l.length false) plan1 F0 = true) (hpa : planApart l F0 plan1 = true) (hwt : waits .any l CL bad plan1 = true) (hnb : notBad bad plan1 F0 = true) (hsu : sundry l F0 = true) (hnd : F0.Nodup)
    (hl : ∀ j ∈ F0, Lays P l ob j) (hCa : ∀ w o, C w → C (w.alloc o)) (hCG : ∀ w, C w → ∀ G ∈ Gs, G w)
    (h : ∀ w', Below w.heap.size w w' → C w' ∧ wpFl P l C Gs CL ob F0 w'.heap.size (wpTail P l Gs bad (Q .normal) plan2) plan1 a w') : (Code.region id l.toArray true).wp P Q a w :=
  wp_region_fl plan1 plan2 F0 ob CL bad C Gs hm hs hlen hok hpa hwt hnb hsu hnd hl hCa hCG (h _ (Below.refl _ _).drew).1 (h _ (Below.refl _ _).drew).2
theorem wpSq_end (h : Q a w) : wpSq P l Q [] a w := h
theorem wpTail_skip {Gs : List (World → Prop)} {bad : List (Nat × Nat)} {k : Nat} {rest : List Nat} {a' : Act} (hi : nthO l k = some o) (hw : Region.wanted o (yielded l.toArray a.tmps) = false) (hp : a.put o.dst undef = a')
    (hn : wpTail P l Gs bad Q rest a' w) : wpTail P l Gs bad Q (k :: rest) a w :=
  ⟨o, hi, by rw [if_neg (by rw [hw]; exact Bool.false_ne_true), hp]; exact hn⟩
end
end Go.Proofs.YtjcfhbekpmpbeaaDoor

/- nat.isDigits, groupValue and putGroup: what a text's digits are worth. -/
namespace Go.Proofs.YtjcfhbekpmpbeaaDoor
open Go.RowKit Dig

/-- A decimal digit. -/
def isD (c : UInt8) : Bool := decide (48 ≤ c.toNat ∧ c.toNat ≤ 57)
/-- What decimal digits are worth. -/
def pval (l : List UInt8) : Nat := l.foldl (fun v c => v * 10 + (c.toNat - 48)) 0
def digitsB (l : List UInt8) : Bool := l.all isD && !l.isEmpty

theorem pval_snoc (l : List UInt8) (c : UInt8) : pval (l ++ [c]) = pval l * 10 + (c.toNat - 48) := by simp [pval]

theorem take_snoc (s : ByteArray) (k : Nat) (h : k < s.size) : s.data.toList.take (k + 1) = s.data.toList.take k ++ [s[k]] := by
  rw [List.take_succ_eq_append_getElem (by simpa using h)]; rfl
theorem take_size (s : ByteArray) : s.data.toList.take s.size = s.data.toList := List.take_of_length_le (Nat.le_of_eq (by rw [Array.length_toList]; rfl))
theorem revInd {p : List UInt8 → Prop} (h0 : p []) (h1 : ∀ l c, p l → p (l ++ [c])) (l : List UInt8) : p l := by
  rw [← List.reverse_reverse l]
  induction l.reverse with
  | nil => exact h0
  | cons c l ih => rw [List.reverse_cons]; exact h1 _ c ih
theorem pval_lt {l : List UInt8} {k : Nat} (hd : l.all isD = true) (hl : l.length ≤ k) : pval l < 10 ^ k := by
  have h : ∀ (l : List UInt8), l.all isD = true → pval l < 10 ^ l.length := by
    intro l
    refine revInd (p := fun l => l.all isD = true → pval l < 10 ^ l.length) ?_ ?_ l
    · intro _; simp [pval]
    · intro l c ih hd
      rw [List.all_append, Bool.and_eq_true] at hd
      have h1 := ih hd.1
      have h2 : isD c = true := by simpa using hd.2
      simp only [isD, decide_eq_true_eq] at h2
      rw [pval_snoc, List.length_append, List.length_singleton, Nat.pow_succ]
      omega
  exact Nat.lt_of_lt_of_le (h l hd) (Nat.pow_le_pow_right (by decide) hl)

set_option maxHeartbeats 400000 in
set_option maxRecDepth 20000 in
theorem isDigits_any (s : ByteArray) (w : World) (hs : s.size ≤ 1000000) :
    Calls Tryd.prog 75 #[.string s] w fun e w' => e = .returned (.bool (digitsB s.data.toList)) ∧ w = w' := by
  obtain ⟨r, Hr⟩ : ∃ r, Hid (digitsB s.data.toList = r) := ⟨_, rfl⟩
  rw [Hr.out]
  go_enter Tryd.func75, Tryd.ntmps75
  go_wp2_with fail
  go_loop [6] (fun i => ∃ k : Nat, k ≤ s.size ∧ i = .int .i64 (k : Int) ∧ (s.data.toList.take k).all isD = true) (fun i => s.size - (intOf i).toNat)
  case atStart => exact ⟨0, Nat.zero_le _, rfl, by simp⟩
  case round =>
    obtain ⟨k, hk, rfl, hall⟩ := hrel
    have Hall := hide hall
    clear hall
    by_cases hlt : k < s.size
    · have hts := take_snoc s k hlt
      by_cases hd : 48 ≤ s[k].toNat ∧ s[k].toNat ≤ 57
      · have h1 : ¬ (s[k].toNat : Int) < 48 := by omega
        have h2 : ¬ (57 : Int) < (s[k].toNat : Int) := by omega
        have HS : Hid ((s.data.toList.take (k + 1)).all isD = true) := by
          show _ = true
          rw [hts, List.all_append, Hall.out]; simp [isD, hd]
        clear hts hd
        go_wp2
        all_goals go_round
        case rel => exact ⟨k + 1, hlt, by go_num, HS.out⟩
        case measure => simp [intOf]; omega
      · have hr : r = false := by
          rw [← Hr.out]
          unfold digitsB
          have : s.data.toList.all isD = false := by
            have e := List.take_append_drop (k + 1) s.data.toList
            rw [← e, List.all_append, hts, List.all_append]
            have : isD s[k] = false := by simp [isD]; omega
            simp [this]
          rw [this]; rfl
        have HR := hide hr
        clear hr hts
        by_cases h1 : s[k].toNat < 48
        · have h1' : (s[k].toNat : Int) < 48 := by omega
          go_wp2
          all_goals go_ret
          all_goals exact ⟨by rw [HR.out]; rfl, rfl⟩
        · have h1' : ¬ (s[k].toNat : Int) < 48 := by omega
          have h2' : (57 : Int) < (s[k].toNat : Int) := by omega
          go_wp2
          all_goals go_ret
          all_goals exact ⟨by rw [HR.out]; rfl, rfl⟩
    · obtain rfl : k = s.size := by omega
      have hr : decide (0 < s.size) = r := by
        rw [← Hr.out]
        have h1 := Hall.out
        rw [take_size] at h1
        unfold digitsB
        rw [h1, Bool.true_and]
        have e : s.size = s.data.toList.length := by rw [Array.length_toList]; rfl
        rw [e]
        cases s.data.toList <;> simp
      have HR := hide hr
      clear hr
      go_wp2_with fail
      go_ret
      refine ⟨?_, rfl⟩
      rw [← HR.out]
      simp

set_option maxHeartbeats 400000 in
set_option maxRecDepth 20000 in
theorem groupValue_any (s : ByteArray) (w : World) (hs : s.size ≤ 9) (hd : s.data.toList.all isD = true) :
    Calls Tryd.prog 77 #[.string s] w fun e w' => e = .returned (.int .u64 (pval s.data.toList : Nat)) ∧ w = w' := by
  have HD := hide hd
  clear hd
  go_enter Tryd.func77, Tryd.ntmps77
  go_wp2_with fail
  go_loop [3, 7] (fun v i => ∃ k : Nat, k ≤ s.size ∧ i = .int .i64 (k : Int) ∧ v = .int .u64 ((pval (s.data.toList.take k) : Nat) : Int)) (fun _ i => s.size - (intOf i).toNat)
  case atStart => exact ⟨0, Nat.zero_le _, rfl, rfl⟩
  case round =>
    obtain ⟨k, hk, rfl, rfl⟩ := hrel
    by_cases hlt : k < s.size
    · have hts := take_snoc s k hlt
      have hall : (s.data.toList.take (k + 1)).all isD = true := by
        have h := HD.out
        rw [← List.take_append_drop (k + 1) s.data.toList, List.all_append, Bool.and_eq_true] at h
        exact h.1
      have hbound := pval_lt (k := 9) (l := s.data.toList.take k) (by
        have h := HD.out
        rw [← List.take_append_drop k s.data.toList, List.all_append, Bool.and_eq_true] at h
        exact h.1) (by rw [List.length_take]; omega)
      have hc : 48 ≤ s[k].toNat ∧ s[k].toNat ≤ 57 := by
        rw [hts, List.all_append, Bool.and_eq_true] at hall
        simpa [isD] using hall.2
      have HP : Hid (pval (s.data.toList.take (k + 1)) = pval (s.data.toList.take k) * 10 + (s[k].toNat - 48)) := by
        show _ = _
        rw [hts, pval_snoc]
      have h1 : 48 ≤ s[k].toNat := hc.1
      have h2 : s[k].toNat ≤ 57 := hc.2
      clear hts hall hc
      generalize pval (s.data.toList.take k) = p at *
      have hp : p < 1000000000 := by simpa using hbound
      clear hbound
      go_wp2
      go_round
      case rel => exact ⟨k + 1, hlt, by go_num, congrArg (fun z : Int => Value.int .u64 z) (by rw [HP.out]; omega)⟩
      case measure => simp [intOf]; omega
    · obtain rfl : k = s.size := by omega
      have e := take_size s
      have E := hide e
      clear e
      go_wp2_with fail
      go_ret
      exact ⟨by rw [E.out]; rfl, rfl⟩

/-- One digit with its carry, and the whole times M. -/
theorem put_step {ds ys : List Nat} {k c x t M g : Nat} (hk : k < ds.length) (hl : ys.length = ds.length) (hx : ds[k]?.getD 0 = x) (heq : val (ys.take k) + pw k * c = val (ds.take k) * M + g) (ht : t = c + x * M) :
    val ((ys.set k (t % 4294967296)).take (k + 1)) + pw (k + 1) * (t / 4294967296) = val (ds.take (k + 1)) * M + g := by
  rw [val_take_succ (by simpa [hl] using hk), val_take_succ hk, hx, getD_set_same (by omega), List.take_set_of_le (Nat.le_refl k), Nat.add_mul, Nat.mul_assoc]
  simp only [pw]
  have e1 : pw k * t = pw k * (t % 4294967296) + 4294967296 * pw k * (t / 4294967296) := by
    conv => lhs; rw [← Nat.mod_add_div t 4294967296]
    rw [Nat.mul_add, Nat.mul_comm 4294967296 (pw k), Nat.mul_assoc]
  have e2 : pw k * t = pw k * c + pw k * (x * M) := by rw [ht, Nat.mul_add]
  omega

theorem canon_snoc {ys : List Nat} {c : Nat} (ok : OK ys) (hc : c < 4294967296) (h0 : c ≠ 0) : ys ++ [c] = dig (val (ys ++ [c])) := by
  rw [dig_val (ok.append (OK.cons hc OK.nil))]
  induction ys with
  | nil => simp [strip, h0]
  | cons y ys ih =>
    have := ih ok.tail
    simp only [List.cons_append, strip]
    rw [← this, if_neg]
    rintro ⟨h, _⟩
    simp at h

theorem canon_top {ys : List Nat} (ok : OK ys) (h : ys.length ≤ (dig (val ys)).length) : ys = dig (val ys) := by
  rw [dig_val ok] at h ⊢
  have h1 := strip_take ys
  have h2 := strip_length_le ys
  rw [show (strip ys).length = ys.length by omega, List.take_length] at h1
  exact h1.symm

set_option maxHeartbeats 1000000 in
set_option maxRecDepth 20000 in
/-- putGroup: an own canonical number times 10^9 and the group. -/
theorem putGroup_any (B n g : Nat) (v : Value) (w : World) (hg : g < 1000000000) (hown : w.ownsRow B 24 1 v (dig n).length ((dig n).map dv)) (hB : B ≤ w.heap.size) (hl : (dig n).length ≤ 1000000000) :
    Calls Tryd.prog 76 #[v, .int .u64 (g : Int)] w fun e w' => ∃ v', e = .returned v' ∧ w'.ownsRow B 24 1 v' (dig (n * 1000000000 + g)).length ((dig (n * 1000000000 + g)).map dv) ∧ Below B w w' := by
  obtain ⟨i0, hi, hz0, hz1, hz2⟩ := info_parts info32
  have okd := OK_dig n
  have hvd := val_dig n
  obtain ⟨ds, Hds⟩ : ∃ ds, Hid (dig n = ds) := ⟨_, rfl⟩
  rw [Hds.out] at hown okd hl hvd
  obtain ⟨oa, cap, hv, hcl⟩ : ∃ oa cap, v = .slice oa ds.length cap ∧ (ds = [] ∨ ∃ gb, oa = some ⟨gb, 0, none⟩ ∧ B ≤ gb) := by
    rcases own_slice hown with ⟨h1, h2, h3⟩ | ⟨gb, cap, h1, h2, _, _⟩
    · have : ds = [] := List.length_eq_zero_iff.1 h2
      subst this
      exact ⟨none, 0, h1, .inl rfl⟩
    · exact ⟨_, cap, h1, .inr ⟨gb, rfl, h2⟩⟩
  subst hv
  go_enter Tryd.func76, Tryd.ntmps76
  go_wp2_with fail
  go_loopw [5, 11] (fun c i wr => ∃ (k c0 : Nat) (ys : List Nat), k ≤ ds.length ∧ c = .int .u64 (c0 : Int) ∧ i = .int .i64 (k : Int) ∧ wr.ownsRow B 24 1 (.slice oa ds.length cap) ds.length (ys.map dv) ∧ ys.length = ds.length ∧ OK ys ∧
    (∀ t, k ≤ t → ys[t]?.getD 0 = ds[t]?.getD 0) ∧ val (ys.take k) + pw k * c0 = val (ds.take k) * 1000000000 + g ∧ c0 < 4294967296 ∧ Below B w wr) (fun _ i _ => ds.length - (intOf i).toNat)
  case atStart => exact ⟨0, g, ds, Nat.zero_le _, rfl, rfl, hown, rfl, okd, fun _ _ => rfl, by simp [val, pw], by omega, Below.refl _ _⟩
  case round =>
    obtain ⟨k, c0, ys, hk, rfl, rfl, hown, hyl, oky, hsame, heq, hc0, hb⟩ := hrel
    have Heq := hide heq
    have Hsame := hide hsame
    have Hyl := hide hyl
    clear heq hsame hyl
    by_cases hlt : k < ds.length
    · obtain ⟨gb, hoa, hgB⟩ := hcl.resolve_left (fun e => by rw [e] at hlt; simp at hlt)
      subst hoa
      obtain ⟨x, Hx⟩ : ∃ x, Hid (ds[k]?.getD 0 = x) := ⟨_, rfl⟩
      have hxb : x < 4294967296 := by have := okd.get k; rw [Hx.out] at this; exact this
      have gu : wr.cell? ⟨gb, k, none⟩ = some (.int .u32 (x : Int)) := by
        rcases own_slice hown with ⟨h1, _⟩ | ⟨g', cap', h1, _, _, h4⟩
        · cases h1
        · cases h1
          rw [h4 k hlt, List.getElem?_map, List.getElem?_eq_getElem (by have := Hyl.out; omega)]
          have h5 := Hsame.out k (Nat.le_refl _)
          rw [Hx.out, List.getElem?_eq_getElem (by have := Hyl.out; omega)] at h5
          simp at h5
          simp [dv, h5]
      have gf := own_frozen hown k
      obtain ⟨t, ht⟩ : ∃ t, c0 + x * 1000000000 = t := ⟨_, rfl⟩
      have hs := put_step hlt Hyl.out Hx.out Heq.out ht.symm
      have HS := hide hs
      have e1 : ((c0 : Int) + (x : Int) * 1000000000) / 4294967296 = ((t / 4294967296 : Nat) : Int) := by omega
      have e2 : ((c0 : Int) + (x : Int) * 1000000000) % 4294967296 = ((t % 4294967296 : Nat) : Int) := by omega
      have E1 := hide e1
      have E2 := hide e2
      have htb : t / 4294967296 < 4294967296 := by omega
      clear hs ht e1 e2
      go_wp2_with fail
      rw [E1.out, E2.out]
      go_roundw
      case rel =>
        exact ⟨k + 1, _, ys.set k (t % 4294967296), hlt, rfl, by go_num, by have := own_setCell hown k hlt (dv (t % 4294967296)); rw [← List.map_set] at this; exact this, by simpa using Hyl.out, oky.set _ (by omega),
          fun i hi => by rw [getD_set_other (by omega)]; exact Hsame.out i (by omega), HS.out, htb, hb.setCell hgB _⟩
      case measure => simp [intOf]; omega
    · obtain rfl : k = ds.length := by omega
      have hval : val ys + pw ds.length * c0 = n * 1000000000 + g := by
        have h1 := Heq.out
        have h2 := Hyl.out
        rw [List.take_length, hvd] at h1
        rw [← h2, List.take_length, h2] at h1; exact h1
      by_cases hc : c0 = 0
      · subst hc
        have hfin : ys = dig (n * 1000000000 + g) := by
          have e : val ys = n * 1000000000 + g := by omega
          rw [← e]
          refine canon_top oky ?_
          rw [Hyl.out, ← Hds.out, e]
          exact dig_length_mono (by omega)
        rw [← Hyl.out, hfin] at hown
        have HF : Hid (ds.length = (dig (n * 1000000000 + g)).length) := by rw [← hfin]; exact Hyl.out.symm
        have HYL := Hyl
        clear hval hfin Hyl
        go_wp2
        go_ret
        exact ⟨_, rfl, by rw [HF.out]; exact hown, hb⟩
      · have hcb : ((c0 : Int) == 0) = false := by rw [beq_eq_false_iff_ne]; omega
        have hcm : (c0 : Int) % 4294967296 = (c0 : Int) := by omega
        have hfin : ys ++ [c0] = dig (n * 1000000000 + g) := by
          rw [canon_snoc oky hc0 hc, val_append, Hyl.out]
          simp only [val, Nat.mul_zero, Nat.add_zero]
          rw [hval]
        have HF := hide hfin
        have hBr : B ≤ wr.heap.size := Nat.le_trans hB hb.size
        clear hval hfin hcm
        go_wp2_with (at_builtin; refine wpList_append_own _ rfl _ _ 22 rfl B 24 i0 (.int .u32 0) 1 4 Tryd.underlying22 hi hz0 hz1 hz2 rfl (by decide) _ _ _ rfl (hown.alloc _) ⟨wr.heap.size, 0, none⟩ 1 1 [.int .u32 (c0 : Int)] rfl rfl ?c1 ?c2 ?c3 ?c4 ?c5 ?_)
        case c1 =>
          intro j u hj
          match j, hj with
          | 0, hj => simp at hj; subst hj; simp [Addr.add]
        case c2 => intro u hu; simp at hu; subst hu; rfl
        case c3 => unfold maxLen; omega
        case c4 => omega
        case c5 => simp; omega
        intro v' w1 hown' hgrow _
        have hown2 : w1.ownsRow B 24 1 v' (dig (n * 1000000000 + g)).length ((dig (n * 1000000000 + g)).map dv) := by
          rw [← HF.out, List.map_append, List.length_append, Hyl.out]; exact hown'
        have hb1 := (hb.alloc hBr (.cells #[.int .u32 (c0 : Int)] 24)).grown hgrow (by simp; omega) (fun k hk => (hown.lt k hk).1)
        clear hown' hgrow hown
        go_wp2
        go_ret
        exact ⟨v', rfl, hown2, hb1⟩
end Go.Proofs.YtjcfhbekpmpbeaaDoor

/- nat.Parse: the number of a text of digits, or the error. -/
namespace Go.Proofs.YtjcfhbekpmpbeaaDoor
open Go.RowKit Dig

def parseI (s : ByteArray) : Int := if 65536 < s.size then 12 else if digitsB s.data.toList then 0 else 7
def parseD (s : ByteArray) : List Nat := if 65536 < s.size then [] else if digitsB s.data.toList then dig (pval s.data.toList) else []

theorem pval_append (a b : List UInt8) : pval (a ++ b) = pval a * 10 ^ b.length + pval b := by
  refine revInd (p := fun b => pval (a ++ b) = pval a * 10 ^ b.length + pval b) ?_ ?_ b
  · simp [pval]
  · intro l c ih
    rw [← List.append_assoc, pval_snoc, pval_snoc, ih, List.length_append, List.length_singleton, Nat.pow_succ, Nat.add_mul, Nat.mul_assoc, Nat.add_assoc]

theorem two_le_pw' {n m : Nat} (h : n ≤ 32 * m) : 2 ^ n ≤ pw m := by
  rw [pw_eq]; exact Nat.pow_le_pow_right (by decide) h

theorem pval_dig_length {l : List UInt8} (hd : l.all isD = true) (hl : l.length ≤ 65536) : (dig (pval l)).length ≤ 8192 := by
  have h := pval_lt hd (Nat.le_refl _)
  refine dig_length_le (Nat.lt_of_lt_of_le h ?_)
  have e : (10 : Nat) ^ l.length ≤ 16 ^ l.length := Nat.pow_le_pow_left (by decide) _
  have e2 : (16 : Nat) ^ l.length = 2 ^ (4 * l.length) := by rw [Nat.pow_mul]
  rw [e2] at e
  exact Nat.le_trans e (two_le_pw' (by omega))

set_option maxHeartbeats 1000000 in
set_option maxRecDepth 20000 in
theorem parse_any (s : ByteArray) (w : World) (hs : s.size ≤ 1000000000) :
    Calls Tryd.prog 69 #[.string s] w fun e w' => ∃ v, e = .returned (.tuple #[v, .int .i64 (parseI s)]) ∧ Rd w' v (parseD s) ∧ Below w.heap.size w w' := by
  by_cases h1 : 65536 < s.size
  · have e1 : parseI s = 12 := by unfold parseI; rw [if_pos h1]
    have e2 : parseD s = [] := by unfold parseD; rw [if_pos h1]
    rw [e1, e2]
    go_enter Tryd.func69, Tryd.ntmps69
    go_wp2_with fail
    go_ret2
    exact ⟨_, rfl, ⟨none, 0, rfl, Nat.le_refl _, OK.nil, .inl rfl⟩, Below.refl _ _⟩
  · by_cases h2 : digitsB s.data.toList = true
    · have e1 : parseI s = 0 := by unfold parseI; rw [if_neg h1, if_pos h2]
      have e2 : parseD s = dig (pval s.data.toList) := by unfold parseD; rw [if_neg h1, if_pos h2]
      rw [e1, e2]
      have hall : s.data.toList.all isD = true := by unfold digitsB at h2; rw [Bool.and_eq_true] at h2; exact h2.1
      have hne : 0 < s.size := by
        unfold digitsB at h2
        rw [Bool.and_eq_true] at h2
        rcases Nat.eq_zero_or_pos s.size with h | h
        · have e : s.data.toList = [] := List.length_eq_zero_iff.1 (by rw [Array.length_toList]; exact h)
          rw [e] at h2; simp at h2
        · exact h
      have Hall := hide hall
      clear e1 e2 hall
      go_enter Tryd.func69, Tryd.ntmps69
      go_wp2_with fail
      refine (isDigits_any s w (by omega)).mono ?_
      rintro e w' ⟨rfl, rfl⟩
      rw [h2]
      clear h2
      go_wp2_with fail
      go_loopw [4, 5] (fun v i wr => ∃ e q : Nat, i = .int .i64 (e : Int) ∧ 1 ≤ e ∧ e + 9 * q = s.size + 9 ∧ wr.ownsRow w.heap.size 24 1 v (dig (pval (s.data.toList.take (e - 9)))).length ((dig (pval (s.data.toList.take (e - 9)))).map dv) ∧ Below w.heap.size w wr) (fun _ i _ => s.size + 9 - (intOf i).toNat)
      case atStart =>
        refine ⟨(s.size - 1) % 9 + 1, (s.size - 1) / 9 + 1, congrArg (fun z : Int => Value.int .i64 z) (by omega), by omega, by omega, ?_, Below.refl _ _⟩
        rw [show (s.size - 1) % 9 + 1 - 9 = 0 by omega]
        exact World.ownsRow_nil _ _ _ _
      case round =>
        obtain ⟨e, q, rfl, he1, heq, hown, hb⟩ := hrel
        by_cases hq : e ≤ s.size
        · have hpre : (s.data.toList.take (e - 9)).all isD = true := by
            have h := Hall.out
            rw [← List.take_append_drop (e - 9) s.data.toList, List.all_append, Bool.and_eq_true] at h
            exact h.1
          have hlen := pval_dig_length hpre (by rw [List.length_take]; omega)
          have hgd : (s.extract (e - 9) e).data.toList = (s.data.toList.drop (e - 9)).take (e - (e - 9)) := Lib.extract_data s (e - 9) e
          have hgall : (s.extract (e - 9) e).data.toList.all isD = true := by
            rw [hgd]
            have h := Hall.out
            rw [List.all_eq_true] at h ⊢
            exact fun x hx => h x (List.mem_of_mem_drop (List.mem_of_mem_take hx))
          have hgs : (s.extract (e - 9) e).size ≤ 9 := by rw [ByteArray.size_extract]; omega
          have hgv := groupValue_any (s.extract (e - 9) e)
          have hgl : (s.extract (e - 9) e).data.toList.length ≤ 9 := by rw [Array.length_toList]; exact hgs
          have hgb := pval_lt hgall hgl
          have hstep : pval (s.data.toList.take (e - 9)) * 1000000000 + pval (s.extract (e - 9) e).data.toList = pval (s.data.toList.take (e + 9 - 9)) := by
            rw [Nat.add_sub_cancel]
            have hsp : s.data.toList.take e = s.data.toList.take (e - 9) ++ (s.extract (e - 9) e).data.toList := by
              rw [hgd]
              have h1 := List.take_append_drop (e - 9) (s.data.toList.take e)
              rw [List.take_take, Nat.min_eq_left (by omega), List.drop_take] at h1
              exact h1.symm
            rw [hsp, pval_append]
            by_cases h9 : 9 ≤ e
            · have : (s.extract (e - 9) e).data.toList.length = 9 := by
                rw [hgd, List.length_take, List.length_drop, Array.length_toList]
                show min (e - (e - 9)) (s.size - (e - 9)) = 9
                omega
              rw [this]
            · have h0 : e - 9 = 0 := by omega
              rw [h0]; simp [pval]
          have HSt := hide hstep
          have hgb' : pval (s.extract (e - 9) e).data.toList < 1000000000 := by simpa using hgb
          clear hstep hgb hgl hgd hpre
          go_wp2_with fail
          rw [show (max (0 : Int) ((e : Int) - 9)).toNat = e - 9 from by omega]
          refine (hgv wr hgs hgall).mono ?_
          rintro e' w' ⟨rfl, rfl⟩
          generalize hP : pval (s.extract (e - 9) e).data.toList = P at *
          go_wp2_with fail
          refine (putGroup_any w.heap.size _ P _ wr hgb' hown hb.size (by omega)).mono ?_
          rintro e' w2 ⟨v', rfl, hown2, hb2⟩
          rw [HSt.out] at hown2
          clear hP
          go_wp2
          go_roundw
          case rel => exact ⟨e + 9, q - 1, by go_num, by omega, by omega, hown2, hb.trans hb2⟩
          case measure => simp [intOf]; omega
        · have hqe : e = s.size + 9 := by omega
          subst hqe
          rw [Nat.add_sub_cancel, take_size] at hown
          have okd := OK_dig (pval s.data.toList)
          go_wp2_with fail
          go_ret2
          exact ⟨_, rfl, Rd.of_owns okd hown, hb⟩
    · have e1 : parseI s = 7 := by unfold parseI; rw [if_neg h1, if_neg h2]
      have e2 : parseD s = [] := by unfold parseD; rw [if_neg h1, if_neg h2]
      rw [e1, e2]
      have h2' : digitsB s.data.toList = false := by simpa using h2
      clear h2
      go_enter Tryd.func69, Tryd.ntmps69
      go_wp2_with fail
      refine (isDigits_any s w (by omega)).mono ?_
      rintro e w' ⟨rfl, rfl⟩
      rw [h2']
      go_wp2
      go_ret2
      exact ⟨_, rfl, ⟨none, 0, rfl, Nat.le_refl _, OK.nil, .inl rfl⟩, Below.refl _ _⟩
end Go.Proofs.YtjcfhbekpmpbeaaDoor

/- The reference's Digits and Parse: what a text's digits are worth. -/
namespace Go.Proofs.YtjcfhbekpmpbeaaDoor
open Go.RowKit Dig
end Go.Proofs.YtjcfhbekpmpbeaaDoor
