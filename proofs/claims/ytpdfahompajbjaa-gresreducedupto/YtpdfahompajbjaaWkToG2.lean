/- Walks that name each world and each block: blocks of any cells, and the steps of a region, one by one. -/
import Derived.Test.YtpdfahompajbjaaZ9

namespace Go.Proofs.Ytpdfahompajbjaa
open Go Go.RowKit Dig
def Bs (w : World) (b : Nat) (cs : Array Value) (ty : TypeId) : Prop := w.heap[b]? = some (.cells cs ty)
theorem Bs.lt {w : World} {b : Nat} {cs : Array Value} {ty : TypeId} (h : Bs w b cs ty) : b < w.heap.size := by
  unfold Bs at h
  rcases Nat.lt_or_ge b w.heap.size with hb | hb
  · exact hb
  · rw [Array.getElem?_eq_none hb] at h; cases h
theorem Bs.below {w w' : World} {b : Nat} {cs : Array Value} {ty : TypeId} (h : Bs w b cs ty) {B : Nat} (hb : Below B w w') (hB : w.heap.size ≤ B) : Bs w' b cs ty := by
  have := h.lt
  unfold Bs; rw [hb.block b (by omega)]; exact h
theorem Bs.cell {w : World} {b : Nat} {cs : Array Value} {ty : TypeId} (h : Bs w b cs ty) (i : Nat) {c : Value} (hc : cs[i]? = some c) : w.cell? ⟨b, i, none⟩ = some c := by
  unfold Bs at h
  simp only [World.cell?, h]
  exact hc
theorem Bs.bl {w w' : World} {b : Nat} {cs : Array Value} {ty : TypeId} (h : Bs w b cs ty) (hb : Below w.heap.size w w') : Bs w' b cs ty := h.below hb (Nat.le_refl _)
theorem ZN.bl {w w' : World} {v : Value} {z : Int} {l : Nat} (h : ZN w v z l) (hb : Below w.heap.size w w') : ZN w' v z l := h.below hb (Nat.le_refl _)
theorem ZC.bl {w w' : World} {v : Value} {z : Int} (h : ZC w v z) (hb : Below w.heap.size w w') : ZC w' v z := h.below hb (Nat.le_refl _)
theorem Bs.f1 {w : World} {b : Nat} {c0 : Value} {ty : TypeId} (h : Bs w b #[c0] ty) : w.cell? ⟨b, 0, none⟩ = some c0 := h.cell 0 rfl
theorem Bs.f2 {w : World} {b : Nat} {c0 c1 : Value} {ty : TypeId} (h : Bs w b #[c0, c1] ty) : w.cell? ⟨b, 0, none⟩ = some c0 ∧ w.cell? ⟨b, 1, none⟩ = some c1 := ⟨h.cell 0 rfl, h.cell 1 rfl⟩
theorem Bs.f4 {w : World} {b : Nat} {c0 c1 c2 c3 : Value} {ty : TypeId} (h : Bs w b #[c0, c1, c2, c3] ty) :
    w.cell? ⟨b, 0, none⟩ = some c0 ∧ w.cell? ⟨b, 1, none⟩ = some c1 ∧ w.cell? ⟨b, 2, none⟩ = some c2 ∧ w.cell? ⟨b, 3, none⟩ = some c3 := ⟨h.cell 0 rfl, h.cell 1 rfl, h.cell 2 rfl, h.cell 3 rfl⟩
theorem Bs.free {w : World} {b : Nat} {cs : Array Value} {ty : TypeId} (h : Bs w b cs ty) (i : Nat) : w.frozen? ⟨b, i, none⟩ = false := by
  unfold Bs at h
  simp [World.frozen?, h]
theorem Bs.set {w : World} {b : Nat} {cs : Array Value} {ty : TypeId} (h : Bs w b cs ty) (i : Nat) (v : Value) : Bs (w.setCell ⟨b, i, none⟩ v) b (cs.setIfInBounds i v) ty := by
  unfold Bs at h ⊢
  simp only [World.setCell, Array.getElem?_modify, h]
  simp
theorem Bs.frame {w w' : World} {b c : Nat} {cs : Array Value} {ty : TypeId} (h : Bs w b cs ty) (ho : Only c w w') (hne : Hid (b ≠ c)) : Bs w' b cs ty := by
  unfold Bs; rw [ho.block b hne]; exact h
theorem Bs.frame' {w w' : World} {b c : Nat} {cs : Array Value} {ty : TypeId} (h : Bs w b cs ty) (ho : Only c w w') (hne : Hid (c ≠ b)) : Bs w' b cs ty := h.frame ho hne.symm
def setAll (w : World) (b : Nat) : List (Nat × Value) → World
  | [] => w
  | (i, v) :: l => setAll (w.setCell ⟨b, i, none⟩ v) b l
def setArr (cs : Array Value) : List (Nat × Value) → Array Value
  | [] => cs
  | (i, v) :: l => setArr (cs.setIfInBounds i v) l
theorem Bs.sets {w : World} {b : Nat} {cs : Array Value} {ty : TypeId} (h : Bs w b cs ty) : ∀ l : List (Nat × Value), Bs (setAll w b l) b (setArr cs l) ty ∧ Only b w (setAll w b l) := by
  intro l
  induction l generalizing w cs with
  | nil => exact ⟨h, Only.refl _ _⟩
  | cons x l ih =>
    obtain ⟨i, v⟩ := x
    obtain ⟨h1, h2⟩ := ih (h.set i v)
    exact ⟨h1, ((Only.refl b w).setCell i v).trans h2⟩
theorem Bs.setN {w : World} {b : Nat} {cs : Array Value} {ty : TypeId} (h : Bs w b cs ty) (l : List (Nat × Value)) : ∃ w', setAll w b l = w' ∧ Bs w' b (setArr cs l) ty ∧ Only b w w' :=
  ⟨_, rfl, (h.sets l).1, (h.sets l).2⟩
theorem newBox (w : World) (cs : Array Value) (ty : TypeId) {B : Nat} (hB : B ≤ w.heap.size) : ∃ p w', w.heap.size = p ∧ w.alloc (.cells cs ty) = w' ∧ Bs w' p cs ty ∧ Below w.heap.size w w' ∧ Hid (B ≤ p) := by
  refine ⟨_, _, rfl, rfl, ?_, (Below.refl _ _).alloc (Nat.le_refl _) _, hB⟩
  show (w.heap.push _)[w.heap.size]? = _
  simp
def nd : Value → Bool
  | .int .u32 _ => false
  | _ => true
def NoD (w : World) (b : Nat) : Prop := (∀ off (d : Nat), w.cell? ⟨b, off, none⟩ ≠ some (.int .u32 (d : Int))) ∧ ∀ xs, ¬ Row w b xs
theorem Bs.nod {w : World} {b : Nat} {cs : Array Value} {ty : TypeId} (h : Bs w b cs ty) (hc : cs.toList.all nd = true) (ht : (ty == 72) = false) : NoD w b := by
  have h0 := h
  unfold Bs at h0
  refine ⟨fun off d hcell => ?_, fun xs hr => ?_⟩
  · simp only [World.cell?, h0] at hcell
    have h2 : cs[off]? = some (.int .u32 (d : Int)) := by simpa using hcell
    have := List.all_eq_true.1 hc _ (Array.mem_toList_iff.2 (Array.mem_of_getElem? h2))
    simp [nd] at this
  · have h3 := hr.1
    rw [h0] at h3
    simp only [Option.some.injEq, Obj.cells.injEq] at h3
    have := h3.2.1
    rw [this] at ht
    simp at ht
theorem Cells.fr {w w' : World} {b : Nat} {oa : Option Addr} {ds : List Nat} (h : Cells w oa ds) (hb : NoD w b) (ho : Only b w w') : Cells w' oa ds := by
  by_cases hne : ds = []
  · exact .inl hne
  · obtain ⟨c, off, e, hc⟩ := h.resolve_left hne
    refine h.only ho ?_
    intro a ha
    rw [e] at ha
    cases ha
    intro hcb
    have := hc 0 (List.length_pos_iff.2 hne)
    simp only at hcb
    rw [hcb] at this
    exact hb.1 _ _ this
theorem Rd.fr {w w' : World} {b : Nat} {v : Value} {ds : List Nat} (h : Rd w v ds) (hb : NoD w b) (ho : Only b w w') : Rd w' v ds := by
  obtain ⟨oa, cap, hv, hc, ok, hx⟩ := h
  exact ⟨oa, cap, hv, hc, ok, hx.fr hb ho⟩
theorem ZN.fr {w w' : World} {b : Nat} {v : Value} {z : Int} {l : Nat} (h : ZN w v z l) (hb : NoD w b) (ho : Only b w w') : ZN w' v z l := by
  obtain ⟨neg, s, xs, hv, hr, hz, hl⟩ := h
  exact ⟨neg, s, xs, hv, hr.fr hb ho, hz, hl⟩
theorem ZC.fr {w w' : World} {b : Nat} {v : Value} {z : Int} (h : ZC w v z) (hb : NoD w b) (ho : Only b w w') : ZC w' v z := by
  obtain ⟨s, hv, hr⟩ := h
  exact ⟨s, hv, hr.fr hb ho⟩
theorem belowOnly {B b : Nat} {u w w' : World} (h : Below B u w) (ho : Only b w w') (hb : Hid (B ≤ b)) : Below B u w' := h.trans (ho.below hb)
theorem ZC.lenOf {w : World} {v : Value} {z : Int} (_ : ZC w v z) {l : Nat} (hl : (dig z.natAbs).length ≤ l) : (dig z.natAbs).length ≤ l := hl
theorem zc_zero (w : World) : ZC w (.agg #[.bool false, .slice none 0 0]) 0 := (zo_zero w 0).rd
def PN (w : World) (v : Value) (x : Int) (l : Nat) (y : Int) (m : Nat) : Prop :=
  ∃ n1 o1 k1 c1 n2 o2 k2 c2, v = .agg #[.bool n1, .slice o1 k1 c1, .bool n2, .slice o2 k2 c2] ∧ ZN w (.agg #[.bool n1, .slice o1 k1 c1]) x l ∧ ZN w (.agg #[.bool n2, .slice o2 k2 c2]) y m
def PC (w : World) (v : Value) (x y : Int) : Prop :=
  ∃ n1 o1 k1 c1 n2 o2 k2 c2, v = .agg #[.bool n1, .slice o1 k1 c1, .bool n2, .slice o2 k2 c2] ∧ ZC w (.agg #[.bool n1, .slice o1 k1 c1]) x ∧ ZC w (.agg #[.bool n2, .slice o2 k2 c2]) y
theorem PN.mk' {w : World} {n1 n2 : Bool} {o1 o2 : Option Addr} {k1 c1 k2 c2 : Nat} {x y : Int} {l m : Nat} (h1 : ZN w (.agg #[.bool n1, .slice o1 k1 c1]) x l) (h2 : ZN w (.agg #[.bool n2, .slice o2 k2 c2]) y m) :
    PN w (.agg #[.bool n1, .slice o1 k1 c1, .bool n2, .slice o2 k2 c2]) x l y m := ⟨_, _, _, _, _, _, _, _, rfl, h1, h2⟩
theorem PC.mk' {w : World} {n1 n2 : Bool} {o1 o2 : Option Addr} {k1 c1 k2 c2 : Nat} {x y : Int} (h1 : ZC w (.agg #[.bool n1, .slice o1 k1 c1]) x) (h2 : ZC w (.agg #[.bool n2, .slice o2 k2 c2]) y) :
    PC w (.agg #[.bool n1, .slice o1 k1 c1, .bool n2, .slice o2 k2 c2]) x y := ⟨_, _, _, _, _, _, _, _, rfl, h1, h2⟩
theorem PN.of_rd {w : World} (n1 n2 : Bool) {s1 s2 : Value} {xs ys : List Nat} {l m : Nat} (h1 : Rd w s1 xs) (l1 : xs.length ≤ l) (h2 : Rd w s2 ys) (l2 : ys.length ≤ m) :
    PN w (.agg #[.bool n1, s1, .bool n2, s2]) (zv n1 xs) l (zv n2 ys) m := by
  obtain ⟨o1, c1, rfl, h1'⟩ := h1
  obtain ⟨o2, c2, rfl, h2'⟩ := h2
  exact ⟨n1, o1, _, c1, n2, o2, _, c2, rfl, ⟨n1, _, xs, rfl, ⟨o1, c1, rfl, h1'⟩, rfl, l1⟩, ⟨n2, _, ys, rfl, ⟨o2, c2, rfl, h2'⟩, rfl, l2⟩⟩
theorem PN.len1 {w : World} {v : Value} {x y : Int} {l m : Nat} (h : PN w v x l y m) : (dig x.natAbs).length ≤ l := by
  obtain ⟨_, _, _, _, _, _, _, _, _, h1, _⟩ := h
  exact h1.len
theorem PN.len2 {w : World} {v : Value} {x y : Int} {l m : Nat} (h : PN w v x l y m) : (dig y.natAbs).length ≤ m := by
  obtain ⟨_, _, _, _, _, _, _, _, _, _, h1⟩ := h
  exact h1.len
theorem zlen_0 : (dig (Int.natAbs 0)).length ≤ 1 := by rw [show dig (Int.natAbs 0) = [] from dig_eq_nil.2 rfl]; exact Nat.zero_le _
theorem zlen_neg {x : Int} {l : Nat} (h : (dig x.natAbs).length ≤ l) : (dig (-x).natAbs).length ≤ l := by rw [Int.natAbs_neg]; exact h
section
variable {P : Program} {l : List Oper} {Q : Act → World → Prop} {a : Act} {w : World} {o : Oper}
def wpSq (P : Program) (l : List Oper) (Q : Act → World → Prop) : List Nat → Act → World → Prop
  | [], a, w => Q a w
  | k :: rest, a, w => ∃ o, nthO l k = some o ∧ if Region.wanted o (yielded l.toArray a.tmps) then Calm P o a w (fun v w' => wpSq P l Q rest (a.put o.dst v) w') else wpSq P l Q rest (a.put o.dst undef) w
theorem wpOps_of_sq {Q' : Exit → Act → World → Prop} (hQ : ∀ a w, Q a w → Q' .normal a w) : ∀ (plan : List Nat) (a : Act) (w : World), wpSq P l Q plan a w → wpOps P l.toArray Q' plan a w
  | [], a, w, h => hQ _ _ h
  | k :: rest, a, w, h => by
    obtain ⟨o, ho, h⟩ := h
    unfold wpOps
    rw [show l.toArray[k]? = some o by rw [← nthO_eq] at ho; simpa using ho]
    simp only
    split
    · rename_i hw
      simp only [hw, if_true] at h
      exact .inl (Calm.wp (h.mono fun v w' h3 => wpOps_of_sq hQ rest _ _ h3))
    · rename_i hw
      simp only [hw] at h
      exact wpOps_of_sq hQ rest _ _ h
theorem wp_region_sq {id : Nat} {Q : Exit → Act → World → Prop} (plan : List Nat) (hp : List.range l.length = plan) (h : wpSq P l (Q .normal) plan a w) : (Code.region id l.toArray false).wp P Q a w := by
  refine wp_region ?_
  rw [show l.toArray.size = l.length by simp, hp]
  exact wpOps_of_sq (fun _ _ h => h) _ _ _ h
theorem wpSq_call {k : Nat} {rest : List Nat} (hi : nthO l k = some o) (hw : Region.wanted o (yielded l.toArray a.tmps) = true)
    (h : ∀ K : Act → World → Prop, (∀ a' w', a'.defers = a.defers → wpSq P l Q rest a' w' → K a' w') → o.wp P a w K bot) : wpSq P l Q (k :: rest) a w := by
  refine ⟨o, hi, ?_⟩
  rw [if_pos hw]
  have h := h (fun a' w' => a'.defers = a.defers ∧ wpSq P l Q rest a' w') (fun a' w' h1 h2 => ⟨h1, h2⟩)
  unfold Oper.wp at h
  unfold Calm
  generalize (execOp a.eval o).run P w = r at *
  cases r with
  | ok n w2 =>
    cases n <;> simp only [Oper.upon] at h ⊢
    case value => exact h.2
    case skip => exact h.2
    case defer =>
      have h1 := h.1
      unfold Act.put at h1
      split at h1 <;> simp at h1
    case enter =>
      refine h.mono fun e w'' he => ?_
      cases e with
      | returned v => exact ⟨v, rfl, he.2⟩
      | panicked c => exact he.elim
      | outgrown => obtain ⟨_, _, hf⟩ := he; exact hf.elim
    case row => exact Rows.mono h fun v w'' he => he.2
  | halt x w2 => cases x <;> simp only [Oper.upon, bot] at h
theorem sc {k : Nat} {rest : List Nat} (h : ∀ K : Act → World → Prop, (∀ a' w', a'.defers = a.defers → wpSq P l Q rest a' w' → K a' w') → o.wp P a w K bot) (hi : nthO l k = some o := by rfl) (hw : Region.wanted o (yielded l.toArray a.tmps) = true := by kernel_rfl) : wpSq P l Q (k :: rest) a w := wpSq_call hi hw h
theorem tc {Gs : List (World → Prop)} {bad : List (Nat × Nat)} {k : Nat} {rest : List Nat} (h : ∀ K : Act → World → Prop, (∀ a' w', a'.defers = a.defers → keepL bad k 0 Gs w' → wpTail P l Gs bad Q rest a' w' → K a' w') → o.wp P a w K bot) (hi : nthO l k = some o := by rfl) (hw : Region.wanted o (yielded l.toArray a.tmps) = true := by kernel_rfl) : wpTail P l Gs bad Q (k :: rest) a w := wpTail_call hi hw h
theorem wpSq_skip {k : Nat} {rest : List Nat} {a' : Act} (hi : nthO l k = some o) (hw : Region.wanted o (yielded l.toArray a.tmps) = false) (hp : a.put o.dst undef = a')
    (hn : wpSq P l Q rest a' w) : wpSq P l Q (k :: rest) a w :=
  ⟨o, hi, by rw [if_neg (by rw [hw]; exact Bool.false_ne_true), hp]; exact hn⟩
theorem wp_region_fl2 {id : Nat} {Q : Exit → Act → World → Prop} (plan1 : List (Nat × Bool)) (plan2 : List Nat) (F0 : List Nat) (ob : Nat → Obj) (CL : List Nat) (bad : List (Nat × Nat)) (C : World → Prop) (Gs : List (World → Prop)) (hm : P.follows .mixedOrders = true) (hs : Region.noSelect l.toArray = true)
    (hlen : plan1.length + F0.length + plan2.length = l.length) (hok : flOK .any l plan2 (plan1.length + F0.length) (Array.replicate l.length false) plan1 F0 = true) (hpa : planApart l F0 plan1 = true) (hwt : waits .any l CL bad plan1 = true) (hnb : notBad bad plan1 F0 = true) (hsu : sundry l F0 = true) (hnd : F0.Nodup)
    (hl : ∀ j ∈ F0, Lays P l ob j) (hCa : ∀ w o, C w → C (w.alloc o)) (hCG : ∀ w, C w → ∀ G ∈ Gs, G w)
    (h : ∀ w', Below w.heap.size w w' → C w' ∧ wpFl P l C Gs CL ob F0 w'.heap.size (wpTail P l Gs bad (Q .normal) plan2) plan1 a w') : (Code.region id l.toArray true).wp P Q a w :=
  wp_region_fl plan1 plan2 F0 ob CL bad C Gs hm hs hlen hok hpa hwt hnb hsu hnd hl hCa hCG (h _ (Below.refl _ _).drew).1 (h _ (Below.refl _ _).drew).2
theorem wpSq_end (h : Q a w) : wpSq P l Q [] a w := h
end
end Go.Proofs.Ytpdfahompajbjaa

/- gint: sums, products, norms, order. -/
namespace Go.Proofs.Ytpdfahompajbjaa
open Go Go.RowKit Dig
set_option maxHeartbeats 4000000
set_option maxRecDepth 20000
set_option linter.unusedVariables false
def gN (x y : Int) : Int := x * x + y * y
theorem mul_self_nonneg' (x : Int) : 0 ≤ x * x := by
  rcases Int.le_total 0 x with h | h
  · exact Int.mul_nonneg h h
  · exact Int.mul_nonneg_of_nonpos_of_nonpos h h
section
variable {w : World} {va vb : Value} {x y u v : Int} {l m k n : Nat}
theorem gSub_any (ha : PN w va x l y m) (hq : PN w vb u k v n) (hl : l ≤ 100000000) (hm : m ≤ 100000000) (hk : k ≤ 100000000) (hn : n ≤ 100000000) :
    Calls Try.prog 23 #[va, vb] w fun e w' => ∃ r, e = .returned r ∧ PC w' r (x - u) (y - v) ∧ Below w.heap.size w w' := by
  obtain ⟨n_0a, o_0a, k_0a, c_0a, n_0b, o_0b, k_0b, c_0b, rfl, ha1, ha2⟩ := ha
  obtain ⟨n_1a, o_1a, k_1a, c_1a, n_1b, o_1b, k_1b, c_1b, rfl, hq1, hq2⟩ := hq
  go_enter Try.func23, Try.ntmps23
  have hb := Below.refl w.heap.size w
  refine wp_seq_k ?_
  intro K1 hK1
  refine wp_region_sq [0, 1, 2] (by kernel_rfl) ?_
  refine sc fun K hK => ?_
  go_big_op
  obtain ⟨p_b1, w_1, eP, eW, x_b1, hn, kb_b1⟩ := newBox w #[.bool n_0a, .slice o_0a k_0a c_0a, .bool n_0b, .slice o_0b k_0b c_0b] 26 hb.size
  rw [eW, eP]
  clear eW eP
  replace ha1 := ha1.bl hn; replace ha2 := ha2.bl hn; replace hq1 := hq1.bl hn; replace hq2 := hq2.bl hn; replace hb := tm hb hn
  refine hK _ _ rfl ?_; clear hK K hn
  refine sc fun K hK => ?_
  go_big_op
  have lt_b1 := x_b1.lt
  obtain ⟨p_b2, w_2, eP, eW, x_b2, hn, kb_b2⟩ := newBox w_1 #[.bool n_1a, .slice o_1a k_1a c_1a, .bool n_1b, .slice o_1b k_1b c_1b] 26 hb.size
  rw [eW, eP]
  clear eW eP lt_b1
  replace ha1 := ha1.bl hn; replace ha2 := ha2.bl hn; replace hq1 := hq1.bl hn; replace hq2 := hq2.bl hn; replace x_b1 := x_b1.bl hn; replace hb := tm hb hn
  refine hK _ _ rfl ?_; clear hK K hn
  refine sc fun K hK => ?_
  go_big_op
  have lt_b1 := x_b1.lt
  have lt_b2 := x_b2.lt
  obtain ⟨p_b3, w_3, eP, eW, x_b3, hn, kb_b3⟩ := newBox w_2 #[.bool false, .slice none 0 0, .bool false, .slice none 0 0] 26 hb.size
  have ne_b1_b3 : Hid (p_b1 ≠ p_b3) := Nat.ne_of_lt (eP ▸ lt_b1)
  have ne_b2_b3 : Hid (p_b2 ≠ p_b3) := Nat.ne_of_lt (eP ▸ lt_b2)
  rw [eW, eP]
  clear eW eP lt_b1 lt_b2
  replace ha1 := ha1.bl hn; replace ha2 := ha2.bl hn; replace hq1 := hq1.bl hn; replace hq2 := hq2.bl hn; replace x_b1 := x_b1.bl hn; replace x_b2 := x_b2.bl hn; replace hb := tm hb hn
  refine hK _ _ rfl ?_; clear hK K hn
  apply wpSq_end
  refine hK1 _ _ ?_
  refine wp_seq_k ?_
  intro K2 hK2
  refine wp_region_fl2 [(0, false), (1, false), (2, false), (3, false), (5, false), (6, false), (7, false), (8, false), (4, true), (9, true), (10, false)] [11] [] (fun _ => default) [99, 0, 99, 1, 99, 99, 0, 99, 1, 99, 99, 99] [] (fun w' => w'.cell? ⟨p_b1, 0, none⟩ = some (.bool n_0a) ∧ w'.cell? ⟨p_b1, 1, none⟩ = some (.slice o_0a k_0a c_0a) ∧ w'.cell? ⟨p_b1, 2, none⟩ = some (.bool n_0b) ∧ w'.cell? ⟨p_b1, 3, none⟩ = some (.slice o_0b k_0b c_0b) ∧ w'.cell? ⟨p_b2, 0, none⟩ = some (.bool n_1a) ∧ w'.cell? ⟨p_b2, 1, none⟩ = some (.slice o_1a k_1a c_1a) ∧ w'.cell? ⟨p_b2, 2, none⟩ = some (.bool n_1b) ∧ w'.cell? ⟨p_b2, 3, none⟩ = some (.slice o_1b k_1b c_1b)) [fun w' => w'.cell? ⟨p_b1, 0, none⟩ = some (.bool n_0a) ∧ w'.cell? ⟨p_b1, 1, none⟩ = some (.slice o_0a k_0a c_0a) ∧ w'.cell? ⟨p_b1, 2, none⟩ = some (.bool n_0b) ∧ w'.cell? ⟨p_b1, 3, none⟩ = some (.slice o_0b k_0b c_0b), fun w' => w'.cell? ⟨p_b2, 0, none⟩ = some (.bool n_1a) ∧ w'.cell? ⟨p_b2, 1, none⟩ = some (.slice o_1a k_1a c_1a) ∧ w'.cell? ⟨p_b2, 2, none⟩ = some (.bool n_1b) ∧ w'.cell? ⟨p_b2, 3, none⟩ = some (.slice o_1b k_1b c_1b)] (by kernel_rfl) (by kernel_rfl) (by kernel_rfl) (by kernel_rfl) (by kernel_rfl) (by kernel_rfl) (by kernel_rfl) (by kernel_rfl) (by decide) (by intro j hj; cases hj) (by intro w' o hC; obtain ⟨c0, c1, c2, c3, c4, c5, c6, c7⟩ := hC; exact ⟨cell_alloc c0 o, cell_alloc c1 o, cell_alloc c2 o, cell_alloc c3 o, cell_alloc c4 o, cell_alloc c5 o, cell_alloc c6 o, cell_alloc c7 o⟩) (by intro w' hC G hG; obtain ⟨c0, c1, c2, c3, c4, c5, c6, c7⟩ := hC; simp only [List.mem_cons, List.not_mem_nil, or_false] at hG; rcases hG with rfl | rfl <;> first | exact ⟨c0, c1, c2, c3⟩ | exact ⟨c4, c5, c6, c7⟩) ?_
  have lt_b1 := x_b1.lt
  have lt_b2 := x_b2.lt
  have lt_b3 := x_b3.lt
  intro w_4 hn
  replace lt_b1 := Nat.lt_of_lt_of_le lt_b1 hn.size
  replace lt_b2 := Nat.lt_of_lt_of_le lt_b2 hn.size
  replace lt_b3 := Nat.lt_of_lt_of_le lt_b3 hn.size
  replace ha1 := ha1.bl hn; replace ha2 := ha2.bl hn; replace hq1 := hq1.bl hn; replace hq2 := hq2.bl hn; replace x_b1 := x_b1.bl hn; replace x_b2 := x_b2.bl hn; replace x_b3 := x_b3.bl hn; replace hb := tm hb hn
  clear hn
  have kb0 := hb.size
  refine ⟨⟨x_b1.cell 0 rfl, x_b1.cell 1 rfl, x_b1.cell 2 rfl, x_b1.cell 3 rfl, x_b2.cell 0 rfl, x_b2.cell 1 rfl, x_b2.cell 2 rfl, x_b2.cell 3 rfl⟩, ?_⟩
  apply wpFl_ld rfl rfl; (case h1 => intro w' hC K hK; go_big_op; exact hK); iterate 4 kernel_rfl
  apply wpFl_ld rfl rfl; (case h1 => intro w' hC K hK; obtain ⟨c0, c1, c2, c3⟩ := hC; go_big_op; exact hK); iterate 4 kernel_rfl
  apply wpFl_ld rfl rfl; (case h1 => intro w' hC K hK; go_big_op; exact hK); iterate 4 kernel_rfl
  apply wpFl_ld rfl rfl; (case h1 => intro w' hC K hK; obtain ⟨c0, c1, c2, c3⟩ := hC; go_big_op; exact hK); iterate 4 kernel_rfl
  apply wpFl_ld rfl rfl; (case h1 => intro w' hC K hK; go_big_op; exact hK); iterate 4 kernel_rfl
  apply wpFl_ld rfl rfl; (case h1 => intro w' hC K hK; obtain ⟨c0, c1, c2, c3⟩ := hC; go_big_op; exact hK); iterate 4 kernel_rfl
  apply wpFl_ld rfl rfl; (case h1 => intro w' hC K hK; go_big_op; exact hK); iterate 4 kernel_rfl
  apply wpFl_ld rfl rfl; (case h1 => intro w' hC K hK; obtain ⟨c0, c1, c2, c3⟩ := hC; go_big_op; exact hK); iterate 4 kernel_rfl
  refine wpFl_call rfl (by kernel_rfl) fun w_5 hn hC => ?_; clear hC
  replace ha1 := ha1.bl hn; replace ha2 := ha2.bl hn; replace hq1 := hq1.bl hn; replace hq2 := hq2.bl hn; replace x_b1 := x_b1.bl hn; replace x_b2 := x_b2.bl hn; replace x_b3 := x_b3.bl hn; replace hb := tm hb hn
  clear hn; intro K hK
  go_big_op
  go_fit (zsub_any ha1 hq1 (by omega) (by omega) )
  rintro e w_6 ⟨v_g1, rfl, g1, hb_6⟩
  replace ha1 := ha1.bl hb_6; replace ha2 := ha2.bl hb_6; replace hq1 := hq1.bl hb_6; replace hq2 := hq2.bl hb_6; replace x_b1 := x_b1.bl hb_6; replace x_b2 := x_b2.bl hb_6; replace x_b3 := x_b3.bl hb_6; replace hb := tm hb hb_6
  replace g1 := g1.rd
  obtain ⟨n_g1, o_g1, k_g1, c_g1, rfl⟩ := g1.open2
  refine hK _ _ rfl hb_6 ⟨x_b1.cell 0 rfl, x_b1.cell 1 rfl, x_b1.cell 2 rfl, x_b1.cell 3 rfl, x_b2.cell 0 rfl, x_b2.cell 1 rfl, x_b2.cell 2 rfl, x_b2.cell 3 rfl⟩ ?_
  clear hK K hb_6
  refine wpFl_call rfl (by kernel_rfl) fun w_7 hn hC => ?_; clear hC
  replace ha1 := ha1.bl hn; replace ha2 := ha2.bl hn; replace hq1 := hq1.bl hn; replace hq2 := hq2.bl hn; replace x_b1 := x_b1.bl hn; replace x_b2 := x_b2.bl hn; replace x_b3 := x_b3.bl hn; replace g1 := g1.bl hn; replace hb := tm hb hn
  clear hn; intro K hK
  go_big_op
  go_fit (zsub_any ha2 hq2 (by omega) (by omega) )
  rintro e w_8 ⟨v_g2, rfl, g2, hb_8⟩
  replace ha1 := ha1.bl hb_8; replace ha2 := ha2.bl hb_8; replace hq1 := hq1.bl hb_8; replace hq2 := hq2.bl hb_8; replace x_b1 := x_b1.bl hb_8; replace x_b2 := x_b2.bl hb_8; replace x_b3 := x_b3.bl hb_8; replace g1 := g1.bl hb_8; replace hb := tm hb hb_8
  replace g2 := g2.rd
  obtain ⟨n_g2, o_g2, k_g2, c_g2, rfl⟩ := g2.open2
  refine hK _ _ rfl hb_8 ⟨x_b1.cell 0 rfl, x_b1.cell 1 rfl, x_b1.cell 2 rfl, x_b1.cell 3 rfl, x_b2.cell 0 rfl, x_b2.cell 1 rfl, x_b2.cell 2 rfl, x_b2.cell 3 rfl⟩ ?_
  clear hK K hb_8
  apply wpFl_ld rfl rfl; (case h1 => intro w' hC K hK; go_big_op; exact hK); iterate 4 kernel_rfl
  apply wpFl_end
  case ha => intro pt; simp only [putF]; rfl
  case h =>
  intro w_9 pt hn hC hF hD
  clear hC
  replace ha1 := ha1.bl hn; replace ha2 := ha2.bl hn; replace hq1 := hq1.bl hn; replace hq2 := hq2.bl hn; replace x_b1 := x_b1.bl hn; replace x_b2 := x_b2.bl hn; replace x_b3 := x_b3.bl hn; replace g1 := g1.bl hn; replace g2 := g2.bl hn; replace hb := tm hb hn
  clear hn
  clear hF hD
  clear pt
  clear kb0 lt_b1 lt_b2 lt_b3
  refine tc fun K hK => ?_
  obtain ⟨d0, d1, d2, d3⟩ := x_b3.f4
  have f0 := x_b3.free 0; have f1 := x_b3.free 1; have f2 := x_b3.free 2; have f3 := x_b3.free 3
  go_big_op
  have hnd := x_b3.nod rfl rfl
  obtain ⟨w_10, eW, x_b3', ho⟩ : ∃ w', ((((w_9.setCell ⟨p_b3, 0, none⟩ (.bool n_g1)).setCell ⟨p_b3, 1, none⟩ (.slice o_g1 k_g1 c_g1)).setCell ⟨p_b3, 2, none⟩ (.bool n_g2)).setCell ⟨p_b3, 3, none⟩ (.slice o_g2 k_g2 c_g2)) = w' ∧ Bs w' p_b3 #[.bool n_g1, .slice o_g1 k_g1 c_g1, .bool n_g2, .slice o_g2 k_g2 c_g2] 26 ∧ Only p_b3 w_9 w' := x_b3.setN [(0, .bool n_g1), (1, .slice o_g1 k_g1 c_g1), (2, .bool n_g2), (3, .slice o_g2 k_g2 c_g2)]
  rw [eW]; clear eW d0 d1 d2 d3 f0 f1 f2 f3 x_b3
  have x_b3 := x_b3'; clear x_b3'
  replace ha1 := ha1.fr hnd ho; replace ha2 := ha2.fr hnd ho; replace hq1 := hq1.fr hnd ho; replace hq2 := hq2.fr hnd ho; replace x_b1 := x_b1.frame ho ne_b1_b3; replace x_b2 := x_b2.frame ho ne_b2_b3; replace g1 := g1.fr hnd ho; replace g2 := g2.fr hnd ho; replace hb := belowOnly hb ho kb_b3
  refine hK _ _ rfl (And.intro ⟨x_b1.cell 0 rfl, x_b1.cell 1 rfl, x_b1.cell 2 rfl, x_b1.cell 3 rfl⟩ (And.intro ⟨x_b2.cell 0 rfl, x_b2.cell 1 rfl, x_b2.cell 2 rfl, x_b2.cell 3 rfl⟩ True.intro)) ?_; clear hK K ho hnd
  apply wpTail_end
  refine hK2 _ _ ?_
  refine wp_ret ?_
  try dsimp only [Exit.then, Exit.inBlock]
  obtain ⟨r0_0, r0_1, r0_2, r0_3⟩ := x_b3.f4
  refine bodyPost_ret (v := (.agg #[.bool n_g1, .slice o_g1 k_g1 c_g1, .bool n_g2, .slice o_g2 k_g2 c_g2])) (by simp [results, Try.results23, go_sem, r0_0, r0_1, r0_2, r0_3]) rfl ?_
  exact ⟨_, rfl, .mk' g1 g2, hb⟩
theorem gMul_any (ha : PN w va x l y m) (hq : PN w vb u k v n) (hl : l ≤ 40000000) (hm : m ≤ 40000000) (hk : k ≤ 40000000) (hn : n ≤ 40000000) :
    Calls Try.prog 32 #[va, vb] w fun e w' => ∃ r, e = .returned r ∧ PC w' r (x * u - y * v) (x * v + y * u) ∧ Below w.heap.size w w' := by
  obtain ⟨n_0a, o_0a, k_0a, c_0a, n_0b, o_0b, k_0b, c_0b, rfl, ha1, ha2⟩ := ha
  obtain ⟨n_1a, o_1a, k_1a, c_1a, n_1b, o_1b, k_1b, c_1b, rfl, hq1, hq2⟩ := hq
  go_enter Try.func32, Try.ntmps32
  have hb := Below.refl w.heap.size w
  refine wp_seq_k ?_
  intro K1 hK1
  refine wp_region_sq [0, 1, 2] (by kernel_rfl) ?_
  refine sc fun K hK => ?_
  go_big_op
  obtain ⟨p_b1, w_1, eP, eW, x_b1, hn, kb_b1⟩ := newBox w #[.bool n_0a, .slice o_0a k_0a c_0a, .bool n_0b, .slice o_0b k_0b c_0b] 26 hb.size
  rw [eW, eP]
  clear eW eP
  replace ha1 := ha1.bl hn; replace ha2 := ha2.bl hn; replace hq1 := hq1.bl hn; replace hq2 := hq2.bl hn; replace hb := tm hb hn
  refine hK _ _ rfl ?_; clear hK K hn
  refine sc fun K hK => ?_
  go_big_op
  have lt_b1 := x_b1.lt
  obtain ⟨p_b2, w_2, eP, eW, x_b2, hn, kb_b2⟩ := newBox w_1 #[.bool n_1a, .slice o_1a k_1a c_1a, .bool n_1b, .slice o_1b k_1b c_1b] 26 hb.size
  rw [eW, eP]
  clear eW eP lt_b1
  replace ha1 := ha1.bl hn; replace ha2 := ha2.bl hn; replace hq1 := hq1.bl hn; replace hq2 := hq2.bl hn; replace x_b1 := x_b1.bl hn; replace hb := tm hb hn
  refine hK _ _ rfl ?_; clear hK K hn
  refine sc fun K hK => ?_
  go_big_op
  have lt_b1 := x_b1.lt
  have lt_b2 := x_b2.lt
  obtain ⟨p_b3, w_3, eP, eW, x_b3, hn, kb_b3⟩ := newBox w_2 #[.bool false, .slice none 0 0, .bool false, .slice none 0 0] 26 hb.size
  have ne_b1_b3 : Hid (p_b1 ≠ p_b3) := Nat.ne_of_lt (eP ▸ lt_b1)
  have ne_b2_b3 : Hid (p_b2 ≠ p_b3) := Nat.ne_of_lt (eP ▸ lt_b2)
  rw [eW, eP]
  clear eW eP lt_b1 lt_b2
  replace ha1 := ha1.bl hn; replace ha2 := ha2.bl hn; replace hq1 := hq1.bl hn; replace hq2 := hq2.bl hn; replace x_b1 := x_b1.bl hn; replace x_b2 := x_b2.bl hn; replace hb := tm hb hn
  refine hK _ _ rfl ?_; clear hK K hn
  apply wpSq_end
  refine hK1 _ _ ?_
  refine wp_seq_k ?_
  intro K2 hK2
  refine wp_region_fl2 [(0, false), (1, false), (2, false), (3, false), (5, false), (6, false), (7, false), (8, false), (11, false), (12, false), (13, false), (14, false), (16, false), (17, false), (18, false), (19, false), (4, true), (9, true), (10, true), (15, true), (20, true), (21, true), (22, false)] [23] [] (fun _ => default) [99, 0, 99, 1, 99, 99, 0, 99, 1, 99, 99, 99, 0, 99, 1, 99, 99, 0, 99, 1, 99, 99, 99, 99] [] (fun w' => w'.cell? ⟨p_b1, 0, none⟩ = some (.bool n_0a) ∧ w'.cell? ⟨p_b1, 1, none⟩ = some (.slice o_0a k_0a c_0a) ∧ w'.cell? ⟨p_b1, 2, none⟩ = some (.bool n_0b) ∧ w'.cell? ⟨p_b1, 3, none⟩ = some (.slice o_0b k_0b c_0b) ∧ w'.cell? ⟨p_b2, 0, none⟩ = some (.bool n_1a) ∧ w'.cell? ⟨p_b2, 1, none⟩ = some (.slice o_1a k_1a c_1a) ∧ w'.cell? ⟨p_b2, 2, none⟩ = some (.bool n_1b) ∧ w'.cell? ⟨p_b2, 3, none⟩ = some (.slice o_1b k_1b c_1b)) [fun w' => w'.cell? ⟨p_b1, 0, none⟩ = some (.bool n_0a) ∧ w'.cell? ⟨p_b1, 1, none⟩ = some (.slice o_0a k_0a c_0a) ∧ w'.cell? ⟨p_b1, 2, none⟩ = some (.bool n_0b) ∧ w'.cell? ⟨p_b1, 3, none⟩ = some (.slice o_0b k_0b c_0b), fun w' => w'.cell? ⟨p_b2, 0, none⟩ = some (.bool n_1a) ∧ w'.cell? ⟨p_b2, 1, none⟩ = some (.slice o_1a k_1a c_1a) ∧ w'.cell? ⟨p_b2, 2, none⟩ = some (.bool n_1b) ∧ w'.cell? ⟨p_b2, 3, none⟩ = some (.slice o_1b k_1b c_1b)] (by kernel_rfl) (by kernel_rfl) (by kernel_rfl) (by kernel_rfl) (by kernel_rfl) (by kernel_rfl) (by kernel_rfl) (by kernel_rfl) (by decide) (by intro j hj; cases hj) (by intro w' o hC; obtain ⟨c0, c1, c2, c3, c4, c5, c6, c7⟩ := hC; exact ⟨cell_alloc c0 o, cell_alloc c1 o, cell_alloc c2 o, cell_alloc c3 o, cell_alloc c4 o, cell_alloc c5 o, cell_alloc c6 o, cell_alloc c7 o⟩) (by intro w' hC G hG; obtain ⟨c0, c1, c2, c3, c4, c5, c6, c7⟩ := hC; simp only [List.mem_cons, List.not_mem_nil, or_false] at hG; rcases hG with rfl | rfl <;> first | exact ⟨c0, c1, c2, c3⟩ | exact ⟨c4, c5, c6, c7⟩) ?_
  have lt_b1 := x_b1.lt
  have lt_b2 := x_b2.lt
  have lt_b3 := x_b3.lt
  intro w_4 hn
  replace lt_b1 := Nat.lt_of_lt_of_le lt_b1 hn.size
  replace lt_b2 := Nat.lt_of_lt_of_le lt_b2 hn.size
  replace lt_b3 := Nat.lt_of_lt_of_le lt_b3 hn.size
  replace ha1 := ha1.bl hn; replace ha2 := ha2.bl hn; replace hq1 := hq1.bl hn; replace hq2 := hq2.bl hn; replace x_b1 := x_b1.bl hn; replace x_b2 := x_b2.bl hn; replace x_b3 := x_b3.bl hn; replace hb := tm hb hn
  clear hn
  have kb0 := hb.size
  refine ⟨⟨x_b1.cell 0 rfl, x_b1.cell 1 rfl, x_b1.cell 2 rfl, x_b1.cell 3 rfl, x_b2.cell 0 rfl, x_b2.cell 1 rfl, x_b2.cell 2 rfl, x_b2.cell 3 rfl⟩, ?_⟩
  apply wpFl_ld rfl rfl; (case h1 => intro w' hC K hK; go_big_op; exact hK); iterate 4 kernel_rfl
  apply wpFl_ld rfl rfl; (case h1 => intro w' hC K hK; obtain ⟨c0, c1, c2, c3⟩ := hC; go_big_op; exact hK); iterate 4 kernel_rfl
  apply wpFl_ld rfl rfl; (case h1 => intro w' hC K hK; go_big_op; exact hK); iterate 4 kernel_rfl
  apply wpFl_ld rfl rfl; (case h1 => intro w' hC K hK; obtain ⟨c0, c1, c2, c3⟩ := hC; go_big_op; exact hK); iterate 4 kernel_rfl
  apply wpFl_ld rfl rfl; (case h1 => intro w' hC K hK; go_big_op; exact hK); iterate 4 kernel_rfl
  apply wpFl_ld rfl rfl; (case h1 => intro w' hC K hK; obtain ⟨c0, c1, c2, c3⟩ := hC; go_big_op; exact hK); iterate 4 kernel_rfl
  apply wpFl_ld rfl rfl; (case h1 => intro w' hC K hK; go_big_op; exact hK); iterate 4 kernel_rfl
  apply wpFl_ld rfl rfl; (case h1 => intro w' hC K hK; obtain ⟨c0, c1, c2, c3⟩ := hC; go_big_op; exact hK); iterate 4 kernel_rfl
  apply wpFl_ld rfl rfl; (case h1 => intro w' hC K hK; go_big_op; exact hK); iterate 4 kernel_rfl
  apply wpFl_ld rfl rfl; (case h1 => intro w' hC K hK; obtain ⟨c0, c1, c2, c3⟩ := hC; go_big_op; exact hK); iterate 4 kernel_rfl
  apply wpFl_ld rfl rfl; (case h1 => intro w' hC K hK; go_big_op; exact hK); iterate 4 kernel_rfl
  apply wpFl_ld rfl rfl; (case h1 => intro w' hC K hK; obtain ⟨c0, c1, c2, c3⟩ := hC; go_big_op; exact hK); iterate 4 kernel_rfl
  apply wpFl_ld rfl rfl; (case h1 => intro w' hC K hK; go_big_op; exact hK); iterate 4 kernel_rfl
  apply wpFl_ld rfl rfl; (case h1 => intro w' hC K hK; obtain ⟨c0, c1, c2, c3⟩ := hC; go_big_op; exact hK); iterate 4 kernel_rfl
  apply wpFl_ld rfl rfl; (case h1 => intro w' hC K hK; go_big_op; exact hK); iterate 4 kernel_rfl
  apply wpFl_ld rfl rfl; (case h1 => intro w' hC K hK; obtain ⟨c0, c1, c2, c3⟩ := hC; go_big_op; exact hK); iterate 4 kernel_rfl
  refine wpFl_call rfl (by kernel_rfl) fun w_5 hn hC => ?_; clear hC
  replace ha1 := ha1.bl hn; replace ha2 := ha2.bl hn; replace hq1 := hq1.bl hn; replace hq2 := hq2.bl hn; replace x_b1 := x_b1.bl hn; replace x_b2 := x_b2.bl hn; replace x_b3 := x_b3.bl hn; replace hb := tm hb hn
  clear hn; intro K hK
  go_big_op
  go_fit (zmul_any ha1 hq1 (by omega) (by omega) )
  rintro e w_6 ⟨v_g1, rfl, g1, hb_6⟩
  replace ha1 := ha1.bl hb_6; replace ha2 := ha2.bl hb_6; replace hq1 := hq1.bl hb_6; replace hq2 := hq2.bl hb_6; replace x_b1 := x_b1.bl hb_6; replace x_b2 := x_b2.bl hb_6; replace x_b3 := x_b3.bl hb_6; replace hb := tm hb hb_6
  replace g1 := g1.rd
  obtain ⟨n_g1, o_g1, k_g1, c_g1, rfl⟩ := g1.open2
  have Lg1 := hide (g1.lenOf (zlen_mul (ha1.len) (hq1.len)))
  refine hK _ _ rfl hb_6 ⟨x_b1.cell 0 rfl, x_b1.cell 1 rfl, x_b1.cell 2 rfl, x_b1.cell 3 rfl, x_b2.cell 0 rfl, x_b2.cell 1 rfl, x_b2.cell 2 rfl, x_b2.cell 3 rfl⟩ ?_
  clear hK K hb_6
  refine wpFl_call rfl (by kernel_rfl) fun w_7 hn hC => ?_; clear hC
  replace ha1 := ha1.bl hn; replace ha2 := ha2.bl hn; replace hq1 := hq1.bl hn; replace hq2 := hq2.bl hn; replace x_b1 := x_b1.bl hn; replace x_b2 := x_b2.bl hn; replace x_b3 := x_b3.bl hn; replace g1 := g1.bl hn; replace hb := tm hb hn
  clear hn; intro K hK
  go_big_op
  go_fit (zmul_any ha2 hq2 (by omega) (by omega) )
  rintro e w_8 ⟨v_g2, rfl, g2, hb_8⟩
  replace ha1 := ha1.bl hb_8; replace ha2 := ha2.bl hb_8; replace hq1 := hq1.bl hb_8; replace hq2 := hq2.bl hb_8; replace x_b1 := x_b1.bl hb_8; replace x_b2 := x_b2.bl hb_8; replace x_b3 := x_b3.bl hb_8; replace g1 := g1.bl hb_8; replace hb := tm hb hb_8
  replace g2 := g2.rd
  obtain ⟨n_g2, o_g2, k_g2, c_g2, rfl⟩ := g2.open2
  have Lg2 := hide (g2.lenOf (zlen_mul (ha2.len) (hq2.len)))
  refine hK _ _ rfl hb_8 ⟨x_b1.cell 0 rfl, x_b1.cell 1 rfl, x_b1.cell 2 rfl, x_b1.cell 3 rfl, x_b2.cell 0 rfl, x_b2.cell 1 rfl, x_b2.cell 2 rfl, x_b2.cell 3 rfl⟩ ?_
  clear hK K hb_8
  refine wpFl_call rfl (by kernel_rfl) fun w_9 hn hC => ?_; clear hC
  replace ha1 := ha1.bl hn; replace ha2 := ha2.bl hn; replace hq1 := hq1.bl hn; replace hq2 := hq2.bl hn; replace x_b1 := x_b1.bl hn; replace x_b2 := x_b2.bl hn; replace x_b3 := x_b3.bl hn; replace g1 := g1.bl hn; replace g2 := g2.bl hn; replace hb := tm hb hn
  clear hn; intro K hK
  go_big_op
  go_fit (zsub_any (g1.zn Lg1.out) (g2.zn Lg2.out) (by omega) (by omega) )
  rintro e w_10 ⟨v_g3, rfl, g3, hb_10⟩
  replace ha1 := ha1.bl hb_10; replace ha2 := ha2.bl hb_10; replace hq1 := hq1.bl hb_10; replace hq2 := hq2.bl hb_10; replace x_b1 := x_b1.bl hb_10; replace x_b2 := x_b2.bl hb_10; replace x_b3 := x_b3.bl hb_10; replace g1 := g1.bl hb_10; replace g2 := g2.bl hb_10; replace hb := tm hb hb_10
  replace g3 := g3.rd
  obtain ⟨n_g3, o_g3, k_g3, c_g3, rfl⟩ := g3.open2
  refine hK _ _ rfl hb_10 ⟨x_b1.cell 0 rfl, x_b1.cell 1 rfl, x_b1.cell 2 rfl, x_b1.cell 3 rfl, x_b2.cell 0 rfl, x_b2.cell 1 rfl, x_b2.cell 2 rfl, x_b2.cell 3 rfl⟩ ?_
  clear hK K hb_10
  refine wpFl_call rfl (by kernel_rfl) fun w_11 hn hC => ?_; clear hC
  clear g1 g2
  replace ha1 := ha1.bl hn; replace ha2 := ha2.bl hn; replace hq1 := hq1.bl hn; replace hq2 := hq2.bl hn; replace x_b1 := x_b1.bl hn; replace x_b2 := x_b2.bl hn; replace x_b3 := x_b3.bl hn; replace g3 := g3.bl hn; replace hb := tm hb hn
  clear hn; intro K hK
  go_big_op
  go_fit (zmul_any ha1 hq2 (by omega) (by omega) )
  rintro e w_12 ⟨v_g4, rfl, g4, hb_12⟩
  replace ha1 := ha1.bl hb_12; replace ha2 := ha2.bl hb_12; replace hq1 := hq1.bl hb_12; replace hq2 := hq2.bl hb_12; replace x_b1 := x_b1.bl hb_12; replace x_b2 := x_b2.bl hb_12; replace x_b3 := x_b3.bl hb_12; replace g3 := g3.bl hb_12; replace hb := tm hb hb_12
  replace g4 := g4.rd
  obtain ⟨n_g4, o_g4, k_g4, c_g4, rfl⟩ := g4.open2
  have Lg4 := hide (g4.lenOf (zlen_mul (ha1.len) (hq2.len)))
  refine hK _ _ rfl hb_12 ⟨x_b1.cell 0 rfl, x_b1.cell 1 rfl, x_b1.cell 2 rfl, x_b1.cell 3 rfl, x_b2.cell 0 rfl, x_b2.cell 1 rfl, x_b2.cell 2 rfl, x_b2.cell 3 rfl⟩ ?_
  clear hK K hb_12
  refine wpFl_call rfl (by kernel_rfl) fun w_13 hn hC => ?_; clear hC
  replace ha1 := ha1.bl hn; replace ha2 := ha2.bl hn; replace hq1 := hq1.bl hn; replace hq2 := hq2.bl hn; replace x_b1 := x_b1.bl hn; replace x_b2 := x_b2.bl hn; replace x_b3 := x_b3.bl hn; replace g3 := g3.bl hn; replace g4 := g4.bl hn; replace hb := tm hb hn
  clear hn; intro K hK
  go_big_op
  go_fit (zmul_any ha2 hq1 (by omega) (by omega) )
  rintro e w_14 ⟨v_g5, rfl, g5, hb_14⟩
  replace ha1 := ha1.bl hb_14; replace ha2 := ha2.bl hb_14; replace hq1 := hq1.bl hb_14; replace hq2 := hq2.bl hb_14; replace x_b1 := x_b1.bl hb_14; replace x_b2 := x_b2.bl hb_14; replace x_b3 := x_b3.bl hb_14; replace g3 := g3.bl hb_14; replace g4 := g4.bl hb_14; replace hb := tm hb hb_14
  replace g5 := g5.rd
  obtain ⟨n_g5, o_g5, k_g5, c_g5, rfl⟩ := g5.open2
  have Lg5 := hide (g5.lenOf (zlen_mul (ha2.len) (hq1.len)))
  refine hK _ _ rfl hb_14 ⟨x_b1.cell 0 rfl, x_b1.cell 1 rfl, x_b1.cell 2 rfl, x_b1.cell 3 rfl, x_b2.cell 0 rfl, x_b2.cell 1 rfl, x_b2.cell 2 rfl, x_b2.cell 3 rfl⟩ ?_
  clear hK K hb_14
  refine wpFl_call rfl (by kernel_rfl) fun w_15 hn hC => ?_; clear hC
  replace ha1 := ha1.bl hn; replace ha2 := ha2.bl hn; replace hq1 := hq1.bl hn; replace hq2 := hq2.bl hn; replace x_b1 := x_b1.bl hn; replace x_b2 := x_b2.bl hn; replace x_b3 := x_b3.bl hn; replace g3 := g3.bl hn; replace g4 := g4.bl hn; replace g5 := g5.bl hn; replace hb := tm hb hn
  clear hn; intro K hK
  go_big_op
  go_fit (zadd_any (g4.zn Lg4.out) (g5.zn Lg5.out) (by omega) (by omega) )
  rintro e w_16 ⟨v_g6, rfl, g6, hb_16⟩
  replace ha1 := ha1.bl hb_16; replace ha2 := ha2.bl hb_16; replace hq1 := hq1.bl hb_16; replace hq2 := hq2.bl hb_16; replace x_b1 := x_b1.bl hb_16; replace x_b2 := x_b2.bl hb_16; replace x_b3 := x_b3.bl hb_16; replace g3 := g3.bl hb_16; replace g4 := g4.bl hb_16; replace g5 := g5.bl hb_16; replace hb := tm hb hb_16
  replace g6 := g6.rd
  obtain ⟨n_g6, o_g6, k_g6, c_g6, rfl⟩ := g6.open2
  refine hK _ _ rfl hb_16 ⟨x_b1.cell 0 rfl, x_b1.cell 1 rfl, x_b1.cell 2 rfl, x_b1.cell 3 rfl, x_b2.cell 0 rfl, x_b2.cell 1 rfl, x_b2.cell 2 rfl, x_b2.cell 3 rfl⟩ ?_
  clear hK K hb_16
  apply wpFl_ld rfl rfl; (case h1 => intro w' hC K hK; go_big_op; exact hK); iterate 4 kernel_rfl
  apply wpFl_end
  case ha => intro pt; simp only [putF]; rfl
  case h =>
  intro w_17 pt hn hC hF hD
  clear hC
  clear g4 g5
  replace ha1 := ha1.bl hn; replace ha2 := ha2.bl hn; replace hq1 := hq1.bl hn; replace hq2 := hq2.bl hn; replace x_b1 := x_b1.bl hn; replace x_b2 := x_b2.bl hn; replace x_b3 := x_b3.bl hn; replace g3 := g3.bl hn; replace g6 := g6.bl hn; replace hb := tm hb hn
  clear hn
  clear hF hD
  clear pt
  clear kb0 lt_b1 lt_b2 lt_b3
  refine tc fun K hK => ?_
  obtain ⟨d0, d1, d2, d3⟩ := x_b3.f4
  have f0 := x_b3.free 0; have f1 := x_b3.free 1; have f2 := x_b3.free 2; have f3 := x_b3.free 3
  go_big_op
  have hnd := x_b3.nod rfl rfl
  obtain ⟨w_18, eW, x_b3', ho⟩ : ∃ w', ((((w_17.setCell ⟨p_b3, 0, none⟩ (.bool n_g3)).setCell ⟨p_b3, 1, none⟩ (.slice o_g3 k_g3 c_g3)).setCell ⟨p_b3, 2, none⟩ (.bool n_g6)).setCell ⟨p_b3, 3, none⟩ (.slice o_g6 k_g6 c_g6)) = w' ∧ Bs w' p_b3 #[.bool n_g3, .slice o_g3 k_g3 c_g3, .bool n_g6, .slice o_g6 k_g6 c_g6] 26 ∧ Only p_b3 w_17 w' := x_b3.setN [(0, .bool n_g3), (1, .slice o_g3 k_g3 c_g3), (2, .bool n_g6), (3, .slice o_g6 k_g6 c_g6)]
  rw [eW]; clear eW d0 d1 d2 d3 f0 f1 f2 f3 x_b3
  have x_b3 := x_b3'; clear x_b3'
  replace ha1 := ha1.fr hnd ho; replace ha2 := ha2.fr hnd ho; replace hq1 := hq1.fr hnd ho; replace hq2 := hq2.fr hnd ho; replace x_b1 := x_b1.frame ho ne_b1_b3; replace x_b2 := x_b2.frame ho ne_b2_b3; replace g3 := g3.fr hnd ho; replace g6 := g6.fr hnd ho; replace hb := belowOnly hb ho kb_b3
  refine hK _ _ rfl (And.intro ⟨x_b1.cell 0 rfl, x_b1.cell 1 rfl, x_b1.cell 2 rfl, x_b1.cell 3 rfl⟩ (And.intro ⟨x_b2.cell 0 rfl, x_b2.cell 1 rfl, x_b2.cell 2 rfl, x_b2.cell 3 rfl⟩ True.intro)) ?_; clear hK K ho hnd
  apply wpTail_end
  refine hK2 _ _ ?_
  refine wp_ret ?_
  try dsimp only [Exit.then, Exit.inBlock]
  obtain ⟨r0_0, r0_1, r0_2, r0_3⟩ := x_b3.f4
  refine bodyPost_ret (v := (.agg #[.bool n_g3, .slice o_g3 k_g3 c_g3, .bool n_g6, .slice o_g6 k_g6 c_g6])) (by simp [results, Try.results32, go_sem, r0_0, r0_1, r0_2, r0_3]) rfl ?_
  exact ⟨_, rfl, .mk' g3 g6, hb⟩
theorem gConj_any (ha : PN w va x l y m) (hl : l ≤ 100000000) (hm : m ≤ 100000000) :
    Calls Try.prog 78 #[va] w fun e w' => ∃ r, e = .returned r ∧ PC w' r x (-y) ∧ Below w.heap.size w w' := by
  have E := hide (Int.add_zero x)
  obtain ⟨n_0a, o_0a, k_0a, c_0a, n_0b, o_0b, k_0b, c_0b, rfl, ha1, ha2⟩ := ha
  go_enter Try.func78, Try.ntmps78
  have hb := Below.refl w.heap.size w
  refine wp_seq_k ?_
  intro K1 hK1
  refine wp_region_sq [0, 1] (by kernel_rfl) ?_
  refine sc fun K hK => ?_
  go_big_op
  obtain ⟨p_b1, w_1, eP, eW, x_b1, hn, kb_b1⟩ := newBox w #[.bool n_0a, .slice o_0a k_0a c_0a, .bool n_0b, .slice o_0b k_0b c_0b] 26 hb.size
  rw [eW, eP]
  clear eW eP
  replace ha1 := ha1.bl hn; replace ha2 := ha2.bl hn; replace hb := tm hb hn
  refine hK _ _ rfl ?_; clear hK K hn
  refine sc fun K hK => ?_
  go_big_op
  have lt_b1 := x_b1.lt
  obtain ⟨p_b2, w_2, eP, eW, x_b2, hn, kb_b2⟩ := newBox w_1 #[.bool false, .slice none 0 0, .bool false, .slice none 0 0] 26 hb.size
  have ne_b1_b2 : Hid (p_b1 ≠ p_b2) := Nat.ne_of_lt (eP ▸ lt_b1)
  rw [eW, eP]
  clear eW eP lt_b1
  replace ha1 := ha1.bl hn; replace ha2 := ha2.bl hn; replace x_b1 := x_b1.bl hn; replace hb := tm hb hn
  refine hK _ _ rfl ?_; clear hK K hn
  apply wpSq_end
  refine hK1 _ _ ?_
  refine wp_seq_k ?_
  intro K2 hK2
  refine wp_region_fl2 [(0, false), (1, false), (2, false), (4, false), (5, false), (3, true), (6, true), (7, false)] [8] [] (fun _ => default) [99, 0, 99, 99, 99, 0, 99, 99, 99] [] (fun w' => w'.cell? ⟨p_b1, 0, none⟩ = some (.bool n_0a) ∧ w'.cell? ⟨p_b1, 1, none⟩ = some (.slice o_0a k_0a c_0a) ∧ w'.cell? ⟨p_b1, 2, none⟩ = some (.bool n_0b) ∧ w'.cell? ⟨p_b1, 3, none⟩ = some (.slice o_0b k_0b c_0b)) [fun w' => w'.cell? ⟨p_b1, 0, none⟩ = some (.bool n_0a) ∧ w'.cell? ⟨p_b1, 1, none⟩ = some (.slice o_0a k_0a c_0a) ∧ w'.cell? ⟨p_b1, 2, none⟩ = some (.bool n_0b) ∧ w'.cell? ⟨p_b1, 3, none⟩ = some (.slice o_0b k_0b c_0b)] (by kernel_rfl) (by kernel_rfl) (by kernel_rfl) (by kernel_rfl) (by kernel_rfl) (by kernel_rfl) (by kernel_rfl) (by kernel_rfl) (by decide) (by intro j hj; cases hj) (by intro w' o hC; obtain ⟨c0, c1, c2, c3⟩ := hC; exact ⟨cell_alloc c0 o, cell_alloc c1 o, cell_alloc c2 o, cell_alloc c3 o⟩) (by intro w' hC G hG; obtain ⟨c0, c1, c2, c3⟩ := hC; simp only [List.mem_cons, List.not_mem_nil, or_false] at hG; rcases hG with rfl <;> first | exact ⟨c0, c1, c2, c3⟩) ?_
  have lt_b1 := x_b1.lt
  have lt_b2 := x_b2.lt
  intro w_3 hn
  replace lt_b1 := Nat.lt_of_lt_of_le lt_b1 hn.size
  replace lt_b2 := Nat.lt_of_lt_of_le lt_b2 hn.size
  replace ha1 := ha1.bl hn; replace ha2 := ha2.bl hn; replace x_b1 := x_b1.bl hn; replace x_b2 := x_b2.bl hn; replace hb := tm hb hn
  clear hn
  have kb0 := hb.size
  refine ⟨⟨x_b1.cell 0 rfl, x_b1.cell 1 rfl, x_b1.cell 2 rfl, x_b1.cell 3 rfl⟩, ?_⟩
  apply wpFl_ld rfl rfl; (case h1 => intro w' hC K hK; go_big_op; exact hK); iterate 4 kernel_rfl
  apply wpFl_ld rfl rfl; (case h1 => intro w' hC K hK; obtain ⟨c0, c1, c2, c3⟩ := hC; go_big_op; exact hK); iterate 4 kernel_rfl
  apply wpFl_ld rfl rfl; (case h1 => intro w' hC K hK; go_big_op; exact hK); iterate 4 kernel_rfl
  apply wpFl_ld rfl rfl; (case h1 => intro w' hC K hK; go_big_op; exact hK); iterate 4 kernel_rfl
  apply wpFl_ld rfl rfl; (case h1 => intro w' hC K hK; obtain ⟨c0, c1, c2, c3⟩ := hC; go_big_op; exact hK); iterate 4 kernel_rfl
  refine wpFl_call rfl (by kernel_rfl) fun w_4 hn hC => ?_; clear hC
  replace ha1 := ha1.bl hn; replace ha2 := ha2.bl hn; replace x_b1 := x_b1.bl hn; replace x_b2 := x_b2.bl hn; replace hb := tm hb hn
  clear hn; intro K hK
  go_big_op
  go_fit (zadd_any ha1 ((zc_zero w_4).zn zlen_0) (by omega) (by omega) )
  rintro e w_5 ⟨v_g1, rfl, g1, hb_5⟩
  replace ha1 := ha1.bl hb_5; replace ha2 := ha2.bl hb_5; replace x_b1 := x_b1.bl hb_5; replace x_b2 := x_b2.bl hb_5; replace hb := tm hb hb_5
  replace g1 := g1.rd
  obtain ⟨n_g1, o_g1, k_g1, c_g1, rfl⟩ := g1.open2
  rw [E.out] at g1
  refine hK _ _ rfl hb_5 ⟨x_b1.cell 0 rfl, x_b1.cell 1 rfl, x_b1.cell 2 rfl, x_b1.cell 3 rfl⟩ ?_
  clear hK K hb_5
  refine wpFl_call rfl (by kernel_rfl) fun w_6 hn hC => ?_; clear hC
  replace ha1 := ha1.bl hn; replace ha2 := ha2.bl hn; replace x_b1 := x_b1.bl hn; replace x_b2 := x_b2.bl hn; replace g1 := g1.bl hn; replace hb := tm hb hn
  clear hn; intro K hK
  go_big_op
  go_fit (zneg_any ha2 (by omega) )
  rintro e w_7 ⟨v_g2, rfl, g2, hb_7⟩
  replace ha1 := ha1.bl hb_7; replace ha2 := ha2.bl hb_7; replace x_b1 := x_b1.bl hb_7; replace x_b2 := x_b2.bl hb_7; replace g1 := g1.bl hb_7; replace hb := tm hb hb_7
  replace g2 := g2.rd
  obtain ⟨n_g2, o_g2, k_g2, c_g2, rfl⟩ := g2.open2
  refine hK _ _ rfl hb_7 ⟨x_b1.cell 0 rfl, x_b1.cell 1 rfl, x_b1.cell 2 rfl, x_b1.cell 3 rfl⟩ ?_
  clear hK K hb_7
  apply wpFl_ld rfl rfl; (case h1 => intro w' hC K hK; go_big_op; exact hK); iterate 4 kernel_rfl
  apply wpFl_end
  case ha => intro pt; simp only [putF]; rfl
  case h =>
  intro w_8 pt hn hC hF hD
  clear hC
  replace ha1 := ha1.bl hn; replace ha2 := ha2.bl hn; replace x_b1 := x_b1.bl hn; replace x_b2 := x_b2.bl hn; replace g1 := g1.bl hn; replace g2 := g2.bl hn; replace hb := tm hb hn
  clear hn
  clear hF hD
  clear pt
  clear kb0 lt_b1 lt_b2
  refine tc fun K hK => ?_
  obtain ⟨d0, d1, d2, d3⟩ := x_b2.f4
  have f0 := x_b2.free 0; have f1 := x_b2.free 1; have f2 := x_b2.free 2; have f3 := x_b2.free 3
  go_big_op
  have hnd := x_b2.nod rfl rfl
  obtain ⟨w_9, eW, x_b2', ho⟩ : ∃ w', ((((w_8.setCell ⟨p_b2, 0, none⟩ (.bool n_g1)).setCell ⟨p_b2, 1, none⟩ (.slice o_g1 k_g1 c_g1)).setCell ⟨p_b2, 2, none⟩ (.bool n_g2)).setCell ⟨p_b2, 3, none⟩ (.slice o_g2 k_g2 c_g2)) = w' ∧ Bs w' p_b2 #[.bool n_g1, .slice o_g1 k_g1 c_g1, .bool n_g2, .slice o_g2 k_g2 c_g2] 26 ∧ Only p_b2 w_8 w' := x_b2.setN [(0, .bool n_g1), (1, .slice o_g1 k_g1 c_g1), (2, .bool n_g2), (3, .slice o_g2 k_g2 c_g2)]
  rw [eW]; clear eW d0 d1 d2 d3 f0 f1 f2 f3 x_b2
  have x_b2 := x_b2'; clear x_b2'
  replace ha1 := ha1.fr hnd ho; replace ha2 := ha2.fr hnd ho; replace x_b1 := x_b1.frame ho ne_b1_b2; replace g1 := g1.fr hnd ho; replace g2 := g2.fr hnd ho; replace hb := belowOnly hb ho kb_b2
  refine hK _ _ rfl (And.intro ⟨x_b1.cell 0 rfl, x_b1.cell 1 rfl, x_b1.cell 2 rfl, x_b1.cell 3 rfl⟩ True.intro) ?_; clear hK K ho hnd
  apply wpTail_end
  refine hK2 _ _ ?_
  refine wp_ret ?_
  try dsimp only [Exit.then, Exit.inBlock]
  obtain ⟨r0_0, r0_1, r0_2, r0_3⟩ := x_b2.f4
  refine bodyPost_ret (v := (.agg #[.bool n_g1, .slice o_g1 k_g1 c_g1, .bool n_g2, .slice o_g2 k_g2 c_g2])) (by simp [results, Try.results78, go_sem, r0_0, r0_1, r0_2, r0_3]) rfl ?_
  exact ⟨_, rfl, .mk' g1 g2, hb⟩
theorem gNorm_any (ha : PN w va x l y m) (hl : l ≤ 40000000) (hm : m ≤ 40000000) :
    Calls Try.prog 20 #[va] w fun e w' => ∃ r, e = .returned r ∧ ZC w' r (gN x y) ∧ Below w.heap.size w w' := by
  unfold gN
  obtain ⟨n_0a, o_0a, k_0a, c_0a, n_0b, o_0b, k_0b, c_0b, rfl, ha1, ha2⟩ := ha
  go_enter Try.func20, Try.ntmps20
  have hb := Below.refl w.heap.size w
  refine wp_seq_k ?_
  intro K1 hK1
  refine wp_region_sq [0, 1] (by kernel_rfl) ?_
  refine sc fun K hK => ?_
  go_big_op
  obtain ⟨p_b1, w_1, eP, eW, x_b1, hn, kb_b1⟩ := newBox w #[.bool n_0a, .slice o_0a k_0a c_0a, .bool n_0b, .slice o_0b k_0b c_0b] 26 hb.size
  rw [eW, eP]
  clear eW eP
  replace ha1 := ha1.bl hn; replace ha2 := ha2.bl hn; replace hb := tm hb hn
  refine hK _ _ rfl ?_; clear hK K hn
  refine sc fun K hK => ?_
  go_big_op
  have lt_b1 := x_b1.lt
  obtain ⟨p_b2, w_2, eP, eW, x_b2, hn, kb_b2⟩ := newBox w_1 #[.bool false, .slice none 0 0] 24 hb.size
  have ne_b1_b2 : Hid (p_b1 ≠ p_b2) := Nat.ne_of_lt (eP ▸ lt_b1)
  rw [eW, eP]
  clear eW eP lt_b1
  replace ha1 := ha1.bl hn; replace ha2 := ha2.bl hn; replace x_b1 := x_b1.bl hn; replace hb := tm hb hn
  refine hK _ _ rfl ?_; clear hK K hn
  apply wpSq_end
  refine hK1 _ _ ?_
  refine wp_seq_k ?_
  intro K2 hK2
  refine wp_region_fl2 [(0, false), (1, false), (2, false), (3, false), (5, false), (6, false), (7, false), (8, false), (4, true), (9, true), (10, true)] [11] [] (fun _ => default) [99, 0, 99, 0, 99, 99, 0, 99, 0, 99, 99, 99] [] (fun w' => w'.cell? ⟨p_b1, 0, none⟩ = some (.bool n_0a) ∧ w'.cell? ⟨p_b1, 1, none⟩ = some (.slice o_0a k_0a c_0a) ∧ w'.cell? ⟨p_b1, 2, none⟩ = some (.bool n_0b) ∧ w'.cell? ⟨p_b1, 3, none⟩ = some (.slice o_0b k_0b c_0b)) [fun w' => w'.cell? ⟨p_b1, 0, none⟩ = some (.bool n_0a) ∧ w'.cell? ⟨p_b1, 1, none⟩ = some (.slice o_0a k_0a c_0a) ∧ w'.cell? ⟨p_b1, 2, none⟩ = some (.bool n_0b) ∧ w'.cell? ⟨p_b1, 3, none⟩ = some (.slice o_0b k_0b c_0b)] (by kernel_rfl) (by kernel_rfl) (by kernel_rfl) (by kernel_rfl) (by kernel_rfl) (by kernel_rfl) (by kernel_rfl) (by kernel_rfl) (by decide) (by intro j hj; cases hj) (by intro w' o hC; obtain ⟨c0, c1, c2, c3⟩ := hC; exact ⟨cell_alloc c0 o, cell_alloc c1 o, cell_alloc c2 o, cell_alloc c3 o⟩) (by intro w' hC G hG; obtain ⟨c0, c1, c2, c3⟩ := hC; simp only [List.mem_cons, List.not_mem_nil, or_false] at hG; rcases hG with rfl <;> first | exact ⟨c0, c1, c2, c3⟩) ?_
  have lt_b1 := x_b1.lt
  have lt_b2 := x_b2.lt
  intro w_3 hn
  replace lt_b1 := Nat.lt_of_lt_of_le lt_b1 hn.size
  replace lt_b2 := Nat.lt_of_lt_of_le lt_b2 hn.size
  replace ha1 := ha1.bl hn; replace ha2 := ha2.bl hn; replace x_b1 := x_b1.bl hn; replace x_b2 := x_b2.bl hn; replace hb := tm hb hn
  clear hn
  have kb0 := hb.size
  refine ⟨⟨x_b1.cell 0 rfl, x_b1.cell 1 rfl, x_b1.cell 2 rfl, x_b1.cell 3 rfl⟩, ?_⟩
  apply wpFl_ld rfl rfl; (case h1 => intro w' hC K hK; go_big_op; exact hK); iterate 4 kernel_rfl
  apply wpFl_ld rfl rfl; (case h1 => intro w' hC K hK; obtain ⟨c0, c1, c2, c3⟩ := hC; go_big_op; exact hK); iterate 4 kernel_rfl
  apply wpFl_ld rfl rfl; (case h1 => intro w' hC K hK; go_big_op; exact hK); iterate 4 kernel_rfl
  apply wpFl_ld rfl rfl; (case h1 => intro w' hC K hK; obtain ⟨c0, c1, c2, c3⟩ := hC; go_big_op; exact hK); iterate 4 kernel_rfl
  apply wpFl_ld rfl rfl; (case h1 => intro w' hC K hK; go_big_op; exact hK); iterate 4 kernel_rfl
  apply wpFl_ld rfl rfl; (case h1 => intro w' hC K hK; obtain ⟨c0, c1, c2, c3⟩ := hC; go_big_op; exact hK); iterate 4 kernel_rfl
  apply wpFl_ld rfl rfl; (case h1 => intro w' hC K hK; go_big_op; exact hK); iterate 4 kernel_rfl
  apply wpFl_ld rfl rfl; (case h1 => intro w' hC K hK; obtain ⟨c0, c1, c2, c3⟩ := hC; go_big_op; exact hK); iterate 4 kernel_rfl
  refine wpFl_call rfl (by kernel_rfl) fun w_4 hn hC => ?_; clear hC
  replace ha1 := ha1.bl hn; replace ha2 := ha2.bl hn; replace x_b1 := x_b1.bl hn; replace x_b2 := x_b2.bl hn; replace hb := tm hb hn
  clear hn; intro K hK
  go_big_op
  go_fit (zmul_any ha1 ha1 (by omega) (by omega) )
  rintro e w_5 ⟨v_g1, rfl, g1, hb_5⟩
  replace ha1 := ha1.bl hb_5; replace ha2 := ha2.bl hb_5; replace x_b1 := x_b1.bl hb_5; replace x_b2 := x_b2.bl hb_5; replace hb := tm hb hb_5
  replace g1 := g1.rd
  obtain ⟨n_g1, o_g1, k_g1, c_g1, rfl⟩ := g1.open2
  have Lg1 := hide (g1.lenOf (zlen_mul (ha1.len) (ha1.len)))
  refine hK _ _ rfl hb_5 ⟨x_b1.cell 0 rfl, x_b1.cell 1 rfl, x_b1.cell 2 rfl, x_b1.cell 3 rfl⟩ ?_
  clear hK K hb_5
  refine wpFl_call rfl (by kernel_rfl) fun w_6 hn hC => ?_; clear hC
  replace ha1 := ha1.bl hn; replace ha2 := ha2.bl hn; replace x_b1 := x_b1.bl hn; replace x_b2 := x_b2.bl hn; replace g1 := g1.bl hn; replace hb := tm hb hn
  clear hn; intro K hK
  go_big_op
  go_fit (zmul_any ha2 ha2 (by omega) (by omega) )
  rintro e w_7 ⟨v_g2, rfl, g2, hb_7⟩
  replace ha1 := ha1.bl hb_7; replace ha2 := ha2.bl hb_7; replace x_b1 := x_b1.bl hb_7; replace x_b2 := x_b2.bl hb_7; replace g1 := g1.bl hb_7; replace hb := tm hb hb_7
  replace g2 := g2.rd
  obtain ⟨n_g2, o_g2, k_g2, c_g2, rfl⟩ := g2.open2
  have Lg2 := hide (g2.lenOf (zlen_mul (ha2.len) (ha2.len)))
  refine hK _ _ rfl hb_7 ⟨x_b1.cell 0 rfl, x_b1.cell 1 rfl, x_b1.cell 2 rfl, x_b1.cell 3 rfl⟩ ?_
  clear hK K hb_7
  refine wpFl_call rfl (by kernel_rfl) fun w_8 hn hC => ?_; clear hC
  replace ha1 := ha1.bl hn; replace ha2 := ha2.bl hn; replace x_b1 := x_b1.bl hn; replace x_b2 := x_b2.bl hn; replace g1 := g1.bl hn; replace g2 := g2.bl hn; replace hb := tm hb hn
  clear hn; intro K hK
  go_big_op
  go_fit (zadd_any (g1.zn Lg1.out) (g2.zn Lg2.out) (by omega) (by omega) )
  rintro e w_9 ⟨v_g3, rfl, g3, hb_9⟩
  replace ha1 := ha1.bl hb_9; replace ha2 := ha2.bl hb_9; replace x_b1 := x_b1.bl hb_9; replace x_b2 := x_b2.bl hb_9; replace g1 := g1.bl hb_9; replace g2 := g2.bl hb_9; replace hb := tm hb hb_9
  replace g3 := g3.rd
  obtain ⟨n_g3, o_g3, k_g3, c_g3, rfl⟩ := g3.open2
  refine hK _ _ rfl hb_9 ⟨x_b1.cell 0 rfl, x_b1.cell 1 rfl, x_b1.cell 2 rfl, x_b1.cell 3 rfl⟩ ?_
  clear hK K hb_9
  apply wpFl_end
  case ha => intro pt; simp only [putF]; rfl
  case h =>
  intro w_10 pt hn hC hF hD
  clear hC
  clear g1 g2
  replace ha1 := ha1.bl hn; replace ha2 := ha2.bl hn; replace x_b1 := x_b1.bl hn; replace x_b2 := x_b2.bl hn; replace g3 := g3.bl hn; replace hb := tm hb hn
  clear hn
  clear hF hD
  clear pt
  clear kb0 lt_b1 lt_b2
  refine tc fun K hK => ?_
  obtain ⟨d0, d1⟩ := x_b2.f2
  have f0 := x_b2.free 0; have f1 := x_b2.free 1
  go_big_op
  have hnd := x_b2.nod rfl rfl
  obtain ⟨w_11, eW, x_b2', ho⟩ : ∃ w', ((w_10.setCell ⟨p_b2, 0, none⟩ (.bool n_g3)).setCell ⟨p_b2, 1, none⟩ (.slice o_g3 k_g3 c_g3)) = w' ∧ Bs w' p_b2 #[.bool n_g3, .slice o_g3 k_g3 c_g3] 24 ∧ Only p_b2 w_10 w' := x_b2.setN [(0, .bool n_g3), (1, .slice o_g3 k_g3 c_g3)]
  rw [eW]; clear eW d0 d1 f0 f1 x_b2
  have x_b2 := x_b2'; clear x_b2'
  replace ha1 := ha1.fr hnd ho; replace ha2 := ha2.fr hnd ho; replace x_b1 := x_b1.frame ho ne_b1_b2; replace g3 := g3.fr hnd ho; replace hb := belowOnly hb ho kb_b2
  refine hK _ _ rfl (And.intro ⟨x_b1.cell 0 rfl, x_b1.cell 1 rfl, x_b1.cell 2 rfl, x_b1.cell 3 rfl⟩ True.intro) ?_; clear hK K ho hnd
  apply wpTail_end
  refine hK2 _ _ ?_
  refine wp_ret ?_
  try dsimp only [Exit.then, Exit.inBlock]
  obtain ⟨r0_0, r0_1⟩ := x_b2.f2
  refine bodyPost_ret (v := (.agg #[.bool n_g3, .slice o_g3 k_g3 c_g3])) (by simp [results, Try.results20, go_sem, r0_0, r0_1]) rfl ?_
  exact ⟨_, rfl, g3, hb⟩
end
end Go.Proofs.Ytpdfahompajbjaa

/- gint: RoundDiv, Exact. -/
namespace Go.Proofs.Ytpdfahompajbjaa
open Go Go.RowKit Dig
set_option maxHeartbeats 4000000
set_option maxRecDepth 20000
set_option linter.unusedVariables false
def gT1 (x y u v : Int) : Int := x * u - y * -v
def gT2 (x y u v : Int) : Int := x * -v + y * u
def gQ1 (x y u v : Int) : Int := rnd (gT1 x y u v) (gN u v)
def gQ2 (x y u v : Int) : Int := rnd (gT2 x y u v) (gN u v)
def gR1 (x y u v : Int) : Int := x - (gQ1 x y u v * u - gQ2 x y u v * v)
def gR2 (x y u v : Int) : Int := y - (gQ1 x y u v * v + gQ2 x y u v * u)
theorem gN_zero {u v : Int} : gN u v = 0 ↔ u = 0 ∧ v = 0 := by
  unfold gN
  have h1 := mul_self_nonneg' u
  have h2 := mul_self_nonneg' v
  constructor
  · intro h
    have e1 : u * u = 0 := by omega
    have e2 : v * v = 0 := by omega
    exact ⟨(Int.mul_eq_zero.1 e1).elim id id, (Int.mul_eq_zero.1 e2).elim id id⟩
  · rintro ⟨rfl, rfl⟩; rfl
theorem gN_nonneg (u v : Int) : 0 ≤ gN u v := by
  unfold gN; have h1 := mul_self_nonneg' u; have h2 := mul_self_nonneg' v; omega
theorem zlen_gN {u v : Int} {l m : Nat} (h1 : (dig u.natAbs).length ≤ l) (h2 : (dig v.natAbs).length ≤ m) : (dig (gN u v).natAbs).length ≤ (l + l) + (m + m) + 1 := zlen_add (zlen_mul h1 h1) (zlen_mul h2 h2)
theorem zlen_gT1 {x y u v : Int} {l m k n : Nat} (h1 : (dig x.natAbs).length ≤ l) (h2 : (dig y.natAbs).length ≤ m) (h3 : (dig u.natAbs).length ≤ k) (h4 : (dig v.natAbs).length ≤ n) :
    (dig (gT1 x y u v).natAbs).length ≤ (l + k) + (m + n) + 1 := zlen_sub (zlen_mul h1 h3) (zlen_mul h2 (zlen_neg h4))
theorem zlen_gT2 {x y u v : Int} {l m k n : Nat} (h1 : (dig x.natAbs).length ≤ l) (h2 : (dig y.natAbs).length ≤ m) (h3 : (dig u.natAbs).length ≤ k) (h4 : (dig v.natAbs).length ≤ n) :
    (dig (gT2 x y u v).natAbs).length ≤ (l + n) + (m + k) + 1 := zlen_add (zlen_mul h1 (zlen_neg h4)) (zlen_mul h2 h3)
section
variable {w : World} {va vb : Value} {x y u v : Int} {l m k n : Nat}
theorem overNorm_any (ha : PN w va x l y m) (hq : PN w vb u k v n) (hl : l ≤ 30000000) (hm : m ≤ 30000000) (hk : k ≤ 30000000) (hn : n ≤ 30000000) :
    Calls Try.prog 51 #[va, vb] w fun e w' => ∃ r s, e = .returned (.tuple #[r, s]) ∧ PC w' r (gT1 x y u v) (gT2 x y u v) ∧ ZC w' s (gN u v) ∧ Below w.heap.size w w' := by
  unfold gT1 gT2
  obtain ⟨n_0a, o_0a, k_0a, c_0a, n_0b, o_0b, k_0b, c_0b, rfl, ha1, ha2⟩ := ha
  obtain ⟨n_1a, o_1a, k_1a, c_1a, n_1b, o_1b, k_1b, c_1b, rfl, hq1, hq2⟩ := hq
  go_enter Try.func51, Try.ntmps51
  have hb := Below.refl w.heap.size w
  refine wp_seq_k ?_
  intro K1 hK1
  refine wp_region_sq [0, 1, 2, 3] (by kernel_rfl) ?_
  refine sc fun K hK => ?_
  go_big_op
  obtain ⟨p_b1, w_1, eP, eW, x_b1, hn, kb_b1⟩ := newBox w #[.bool n_0a, .slice o_0a k_0a c_0a, .bool n_0b, .slice o_0b k_0b c_0b] 26 hb.size
  rw [eW, eP]
  clear eW eP
  replace ha1 := ha1.bl hn; replace ha2 := ha2.bl hn; replace hq1 := hq1.bl hn; replace hq2 := hq2.bl hn; replace hb := tm hb hn
  refine hK _ _ rfl ?_; clear hK K hn
  refine sc fun K hK => ?_
  go_big_op
  have lt_b1 := x_b1.lt
  obtain ⟨p_b2, w_2, eP, eW, x_b2, hn, kb_b2⟩ := newBox w_1 #[.bool n_1a, .slice o_1a k_1a c_1a, .bool n_1b, .slice o_1b k_1b c_1b] 26 hb.size
  rw [eW, eP]
  clear eW eP lt_b1
  replace ha1 := ha1.bl hn; replace ha2 := ha2.bl hn; replace hq1 := hq1.bl hn; replace hq2 := hq2.bl hn; replace x_b1 := x_b1.bl hn; replace hb := tm hb hn
  refine hK _ _ rfl ?_; clear hK K hn
  refine sc fun K hK => ?_
  go_big_op
  have lt_b1 := x_b1.lt
  have lt_b2 := x_b2.lt
  obtain ⟨p_b3, w_3, eP, eW, x_b3, hn, kb_b3⟩ := newBox w_2 #[.bool false, .slice none 0 0, .bool false, .slice none 0 0] 26 hb.size
  have ne_b1_b3 : Hid (p_b1 ≠ p_b3) := Nat.ne_of_lt (eP ▸ lt_b1)
  have ne_b2_b3 : Hid (p_b2 ≠ p_b3) := Nat.ne_of_lt (eP ▸ lt_b2)
  rw [eW, eP]
  clear eW eP lt_b1 lt_b2
  replace ha1 := ha1.bl hn; replace ha2 := ha2.bl hn; replace hq1 := hq1.bl hn; replace hq2 := hq2.bl hn; replace x_b1 := x_b1.bl hn; replace x_b2 := x_b2.bl hn; replace hb := tm hb hn
  refine hK _ _ rfl ?_; clear hK K hn
  refine sc fun K hK => ?_
  go_big_op
  have lt_b1 := x_b1.lt
  have lt_b2 := x_b2.lt
  have lt_b3 := x_b3.lt
  obtain ⟨p_b4, w_4, eP, eW, x_b4, hn, kb_b4⟩ := newBox w_3 #[.bool false, .slice none 0 0] 24 hb.size
  have ne_b1_b4 : Hid (p_b1 ≠ p_b4) := Nat.ne_of_lt (eP ▸ lt_b1)
  have ne_b2_b4 : Hid (p_b2 ≠ p_b4) := Nat.ne_of_lt (eP ▸ lt_b2)
  have ne_b3_b4 : Hid (p_b3 ≠ p_b4) := Nat.ne_of_lt (eP ▸ lt_b3)
  rw [eW, eP]
  clear eW eP lt_b1 lt_b2 lt_b3
  replace ha1 := ha1.bl hn; replace ha2 := ha2.bl hn; replace hq1 := hq1.bl hn; replace hq2 := hq2.bl hn; replace x_b1 := x_b1.bl hn; replace x_b2 := x_b2.bl hn; replace x_b3 := x_b3.bl hn; replace hb := tm hb hn
  refine hK _ _ rfl ?_; clear hK K hn
  apply wpSq_end
  refine hK1 _ _ ?_
  refine wp_seq_k ?_
  intro K2 hK2
  refine wp_region_fl2 [(0, false), (1, false), (4, false), (2, true), (3, true), (5, true)] [6, 7] [] (fun _ => default) [0, 1, 99, 99, 1, 99, 99, 99] [] (fun w' => w'.cell? ⟨p_b1, 0, none⟩ = some (.bool n_0a) ∧ w'.cell? ⟨p_b1, 1, none⟩ = some (.slice o_0a k_0a c_0a) ∧ w'.cell? ⟨p_b1, 2, none⟩ = some (.bool n_0b) ∧ w'.cell? ⟨p_b1, 3, none⟩ = some (.slice o_0b k_0b c_0b) ∧ w'.cell? ⟨p_b2, 0, none⟩ = some (.bool n_1a) ∧ w'.cell? ⟨p_b2, 1, none⟩ = some (.slice o_1a k_1a c_1a) ∧ w'.cell? ⟨p_b2, 2, none⟩ = some (.bool n_1b) ∧ w'.cell? ⟨p_b2, 3, none⟩ = some (.slice o_1b k_1b c_1b)) [fun w' => w'.cell? ⟨p_b1, 0, none⟩ = some (.bool n_0a) ∧ w'.cell? ⟨p_b1, 1, none⟩ = some (.slice o_0a k_0a c_0a) ∧ w'.cell? ⟨p_b1, 2, none⟩ = some (.bool n_0b) ∧ w'.cell? ⟨p_b1, 3, none⟩ = some (.slice o_0b k_0b c_0b), fun w' => w'.cell? ⟨p_b2, 0, none⟩ = some (.bool n_1a) ∧ w'.cell? ⟨p_b2, 1, none⟩ = some (.slice o_1a k_1a c_1a) ∧ w'.cell? ⟨p_b2, 2, none⟩ = some (.bool n_1b) ∧ w'.cell? ⟨p_b2, 3, none⟩ = some (.slice o_1b k_1b c_1b)] (by kernel_rfl) (by kernel_rfl) (by kernel_rfl) (by kernel_rfl) (by kernel_rfl) (by kernel_rfl) (by kernel_rfl) (by kernel_rfl) (by decide) (by intro j hj; cases hj) (by intro w' o hC; obtain ⟨c0, c1, c2, c3, c4, c5, c6, c7⟩ := hC; exact ⟨cell_alloc c0 o, cell_alloc c1 o, cell_alloc c2 o, cell_alloc c3 o, cell_alloc c4 o, cell_alloc c5 o, cell_alloc c6 o, cell_alloc c7 o⟩) (by intro w' hC G hG; obtain ⟨c0, c1, c2, c3, c4, c5, c6, c7⟩ := hC; simp only [List.mem_cons, List.not_mem_nil, or_false] at hG; rcases hG with rfl | rfl <;> first | exact ⟨c0, c1, c2, c3⟩ | exact ⟨c4, c5, c6, c7⟩) ?_
  have lt_b1 := x_b1.lt
  have lt_b2 := x_b2.lt
  have lt_b3 := x_b3.lt
  have lt_b4 := x_b4.lt
  intro w_5 hn
  replace lt_b1 := Nat.lt_of_lt_of_le lt_b1 hn.size
  replace lt_b2 := Nat.lt_of_lt_of_le lt_b2 hn.size
  replace lt_b3 := Nat.lt_of_lt_of_le lt_b3 hn.size
  replace lt_b4 := Nat.lt_of_lt_of_le lt_b4 hn.size
  replace ha1 := ha1.bl hn; replace ha2 := ha2.bl hn; replace hq1 := hq1.bl hn; replace hq2 := hq2.bl hn; replace x_b1 := x_b1.bl hn; replace x_b2 := x_b2.bl hn; replace x_b3 := x_b3.bl hn; replace x_b4 := x_b4.bl hn; replace hb := tm hb hn
  clear hn
  have kb0 := hb.size
  refine ⟨⟨x_b1.cell 0 rfl, x_b1.cell 1 rfl, x_b1.cell 2 rfl, x_b1.cell 3 rfl, x_b2.cell 0 rfl, x_b2.cell 1 rfl, x_b2.cell 2 rfl, x_b2.cell 3 rfl⟩, ?_⟩
  apply wpFl_ld rfl rfl; (case h1 => intro w' hC K hK; obtain ⟨c0, c1, c2, c3⟩ := hC; go_big_op; exact hK); iterate 4 kernel_rfl
  apply wpFl_ld rfl rfl; (case h1 => intro w' hC K hK; obtain ⟨c0, c1, c2, c3⟩ := hC; go_big_op; exact hK); iterate 4 kernel_rfl
  apply wpFl_ld rfl rfl; (case h1 => intro w' hC K hK; obtain ⟨c0, c1, c2, c3⟩ := hC; go_big_op; exact hK); iterate 4 kernel_rfl
  refine wpFl_call rfl (by kernel_rfl) fun w_6 hn hC => ?_; clear hC
  replace ha1 := ha1.bl hn; replace ha2 := ha2.bl hn; replace hq1 := hq1.bl hn; replace hq2 := hq2.bl hn; replace x_b1 := x_b1.bl hn; replace x_b2 := x_b2.bl hn; replace x_b3 := x_b3.bl hn; replace x_b4 := x_b4.bl hn; replace hb := tm hb hn
  clear hn; intro K hK
  go_big_op
  go_fit (gConj_any (PN.mk' hq1 hq2) (by omega) (by omega) )
  rintro e w_7 ⟨_, rfl, ⟨n_g1a, o_g1a, k_g1a, c_g1a, n_g1b, o_g1b, k_g1b, c_g1b, rfl, g11, g12⟩, hb_7⟩
  replace ha1 := ha1.bl hb_7; replace ha2 := ha2.bl hb_7; replace hq1 := hq1.bl hb_7; replace hq2 := hq2.bl hb_7; replace x_b1 := x_b1.bl hb_7; replace x_b2 := x_b2.bl hb_7; replace x_b3 := x_b3.bl hb_7; replace x_b4 := x_b4.bl hb_7; replace hb := tm hb hb_7
  have Lg11 := hide (g11.lenOf ((hq1.len)))
  have Lg12 := hide (g12.lenOf (zlen_neg (hq2.len)))
  refine hK _ _ rfl hb_7 ⟨x_b1.cell 0 rfl, x_b1.cell 1 rfl, x_b1.cell 2 rfl, x_b1.cell 3 rfl, x_b2.cell 0 rfl, x_b2.cell 1 rfl, x_b2.cell 2 rfl, x_b2.cell 3 rfl⟩ ?_
  clear hK K hb_7
  refine wpFl_call rfl (by kernel_rfl) fun w_8 hn hC => ?_; clear hC
  replace ha1 := ha1.bl hn; replace ha2 := ha2.bl hn; replace hq1 := hq1.bl hn; replace hq2 := hq2.bl hn; replace x_b1 := x_b1.bl hn; replace x_b2 := x_b2.bl hn; replace x_b3 := x_b3.bl hn; replace x_b4 := x_b4.bl hn; replace g11 := g11.bl hn; replace g12 := g12.bl hn; replace hb := tm hb hn
  clear hn; intro K hK
  go_big_op
  go_fit (gMul_any (PN.mk' ha1 ha2) (PN.mk' (g11.zn Lg11.out) (g12.zn Lg12.out)) (by omega) (by omega) (by omega) (by omega) )
  rintro e w_9 ⟨_, rfl, ⟨n_g2a, o_g2a, k_g2a, c_g2a, n_g2b, o_g2b, k_g2b, c_g2b, rfl, g21, g22⟩, hb_9⟩
  replace ha1 := ha1.bl hb_9; replace ha2 := ha2.bl hb_9; replace hq1 := hq1.bl hb_9; replace hq2 := hq2.bl hb_9; replace x_b1 := x_b1.bl hb_9; replace x_b2 := x_b2.bl hb_9; replace x_b3 := x_b3.bl hb_9; replace x_b4 := x_b4.bl hb_9; replace g11 := g11.bl hb_9; replace g12 := g12.bl hb_9; replace hb := tm hb hb_9
  refine hK _ _ rfl hb_9 ⟨x_b1.cell 0 rfl, x_b1.cell 1 rfl, x_b1.cell 2 rfl, x_b1.cell 3 rfl, x_b2.cell 0 rfl, x_b2.cell 1 rfl, x_b2.cell 2 rfl, x_b2.cell 3 rfl⟩ ?_
  clear hK K hb_9
  refine wpFl_call rfl (by kernel_rfl) fun w_10 hn hC => ?_; clear hC
  clear g11 g12
  replace ha1 := ha1.bl hn; replace ha2 := ha2.bl hn; replace hq1 := hq1.bl hn; replace hq2 := hq2.bl hn; replace x_b1 := x_b1.bl hn; replace x_b2 := x_b2.bl hn; replace x_b3 := x_b3.bl hn; replace x_b4 := x_b4.bl hn; replace g21 := g21.bl hn; replace g22 := g22.bl hn; replace hb := tm hb hn
  clear hn; intro K hK
  go_big_op
  go_fit (gNorm_any (PN.mk' hq1 hq2) (by omega) (by omega) )
  rintro e w_11 ⟨v_g3, rfl, g3, hb_11⟩
  replace ha1 := ha1.bl hb_11; replace ha2 := ha2.bl hb_11; replace hq1 := hq1.bl hb_11; replace hq2 := hq2.bl hb_11; replace x_b1 := x_b1.bl hb_11; replace x_b2 := x_b2.bl hb_11; replace x_b3 := x_b3.bl hb_11; replace x_b4 := x_b4.bl hb_11; replace g21 := g21.bl hb_11; replace g22 := g22.bl hb_11; replace hb := tm hb hb_11
  obtain ⟨n_g3, o_g3, k_g3, c_g3, rfl⟩ := g3.open2
  refine hK _ _ rfl hb_11 ⟨x_b1.cell 0 rfl, x_b1.cell 1 rfl, x_b1.cell 2 rfl, x_b1.cell 3 rfl, x_b2.cell 0 rfl, x_b2.cell 1 rfl, x_b2.cell 2 rfl, x_b2.cell 3 rfl⟩ ?_
  clear hK K hb_11
  apply wpFl_end
  case ha => intro pt; simp only [putF]; rfl
  case h =>
  intro w_12 pt hn hC hF hD
  clear hC
  replace ha1 := ha1.bl hn; replace ha2 := ha2.bl hn; replace hq1 := hq1.bl hn; replace hq2 := hq2.bl hn; replace x_b1 := x_b1.bl hn; replace x_b2 := x_b2.bl hn; replace x_b3 := x_b3.bl hn; replace x_b4 := x_b4.bl hn; replace g21 := g21.bl hn; replace g22 := g22.bl hn; replace g3 := g3.bl hn; replace hb := tm hb hn
  clear hn
  clear hF hD
  clear pt
  clear kb0 lt_b1 lt_b2 lt_b3 lt_b4
  refine tc fun K hK => ?_
  obtain ⟨d0, d1, d2, d3⟩ := x_b3.f4
  have f0 := x_b3.free 0; have f1 := x_b3.free 1; have f2 := x_b3.free 2; have f3 := x_b3.free 3
  go_big_op
  have hnd := x_b3.nod rfl rfl
  obtain ⟨w_13, eW, x_b3', ho⟩ : ∃ w', ((((w_12.setCell ⟨p_b3, 0, none⟩ (.bool n_g2a)).setCell ⟨p_b3, 1, none⟩ (.slice o_g2a k_g2a c_g2a)).setCell ⟨p_b3, 2, none⟩ (.bool n_g2b)).setCell ⟨p_b3, 3, none⟩ (.slice o_g2b k_g2b c_g2b)) = w' ∧ Bs w' p_b3 #[.bool n_g2a, .slice o_g2a k_g2a c_g2a, .bool n_g2b, .slice o_g2b k_g2b c_g2b] 26 ∧ Only p_b3 w_12 w' := x_b3.setN [(0, .bool n_g2a), (1, .slice o_g2a k_g2a c_g2a), (2, .bool n_g2b), (3, .slice o_g2b k_g2b c_g2b)]
  rw [eW]; clear eW d0 d1 d2 d3 f0 f1 f2 f3 x_b3
  have x_b3 := x_b3'; clear x_b3'
  replace ha1 := ha1.fr hnd ho; replace ha2 := ha2.fr hnd ho; replace hq1 := hq1.fr hnd ho; replace hq2 := hq2.fr hnd ho; replace x_b1 := x_b1.frame ho ne_b1_b3; replace x_b2 := x_b2.frame ho ne_b2_b3; replace x_b4 := x_b4.frame ho ne_b3_b4.symm; replace g21 := g21.fr hnd ho; replace g22 := g22.fr hnd ho; replace g3 := g3.fr hnd ho; replace hb := belowOnly hb ho kb_b3
  refine hK _ _ rfl (And.intro ⟨x_b1.cell 0 rfl, x_b1.cell 1 rfl, x_b1.cell 2 rfl, x_b1.cell 3 rfl⟩ (And.intro ⟨x_b2.cell 0 rfl, x_b2.cell 1 rfl, x_b2.cell 2 rfl, x_b2.cell 3 rfl⟩ True.intro)) ?_; clear hK K ho hnd
  refine tc fun K hK => ?_
  obtain ⟨d0, d1⟩ := x_b4.f2
  have f0 := x_b4.free 0; have f1 := x_b4.free 1
  go_big_op
  have hnd := x_b4.nod rfl rfl
  obtain ⟨w_14, eW, x_b4', ho⟩ : ∃ w', ((w_13.setCell ⟨p_b4, 0, none⟩ (.bool n_g3)).setCell ⟨p_b4, 1, none⟩ (.slice o_g3 k_g3 c_g3)) = w' ∧ Bs w' p_b4 #[.bool n_g3, .slice o_g3 k_g3 c_g3] 24 ∧ Only p_b4 w_13 w' := x_b4.setN [(0, .bool n_g3), (1, .slice o_g3 k_g3 c_g3)]
  rw [eW]; clear eW d0 d1 f0 f1 x_b4
  have x_b4 := x_b4'; clear x_b4'
  replace ha1 := ha1.fr hnd ho; replace ha2 := ha2.fr hnd ho; replace hq1 := hq1.fr hnd ho; replace hq2 := hq2.fr hnd ho; replace x_b1 := x_b1.frame ho ne_b1_b4; replace x_b2 := x_b2.frame ho ne_b2_b4; replace x_b3 := x_b3.frame ho ne_b3_b4; replace g21 := g21.fr hnd ho; replace g22 := g22.fr hnd ho; replace g3 := g3.fr hnd ho; replace hb := belowOnly hb ho kb_b4
  refine hK _ _ rfl (And.intro ⟨x_b1.cell 0 rfl, x_b1.cell 1 rfl, x_b1.cell 2 rfl, x_b1.cell 3 rfl⟩ (And.intro ⟨x_b2.cell 0 rfl, x_b2.cell 1 rfl, x_b2.cell 2 rfl, x_b2.cell 3 rfl⟩ True.intro)) ?_; clear hK K ho hnd
  apply wpTail_end
  refine hK2 _ _ ?_
  refine wp_ret ?_
  try dsimp only [Exit.then, Exit.inBlock]
  obtain ⟨r0_0, r0_1, r0_2, r0_3⟩ := x_b3.f4
  obtain ⟨r4_0, r4_1⟩ := x_b4.f2
  refine bodyPost_ret (v := (.tuple #[(.agg #[.bool n_g2a, .slice o_g2a k_g2a c_g2a, .bool n_g2b, .slice o_g2b k_g2b c_g2b]), (.agg #[.bool n_g3, .slice o_g3 k_g3 c_g3])])) (by simp [results, Try.results51, go_sem, r0_0, r0_1, r0_2, r0_3, r4_0, r4_1]) rfl ?_
  exact ⟨_, _, rfl, .mk' g21 g22, g3, hb⟩
theorem gRound_zero (ha : PN w va x l y m) (hq : PN w vb 0 k 0 n) (hl : l ≤ 10000000) (hm : m ≤ 10000000) (hk : k ≤ 10000000) (hn : n ≤ 10000000) :
    Calls Try.prog 62 #[va, vb] w fun e w' => e = .returned (.tuple #[.agg #[.bool false, .slice none 0 0, .bool false, .slice none 0 0], .agg #[.bool false, .slice none 0 0, .bool false, .slice none 0 0], .int .i64 5]) ∧ Below w.heap.size w w' := by
  have E := hide (show gN 0 0 = 0 from rfl)
  obtain ⟨n_0a, o_0a, k_0a, c_0a, n_0b, o_0b, k_0b, c_0b, rfl, ha1, ha2⟩ := ha
  obtain ⟨n_1a, o_1a, k_1a, c_1a, n_1b, o_1b, k_1b, c_1b, rfl, hq1, hq2⟩ := hq
  go_enter Try.func62, Try.ntmps62
  have hb := Below.refl w.heap.size w
  refine wp_seq_k ?_
  intro K1 hK1
  refine wp_region_sq [0, 1, 2, 3, 4] (by kernel_rfl) ?_
  refine sc fun K hK => ?_
  go_big_op
  obtain ⟨p_b1, w_1, eP, eW, x_b1, hn, kb_b1⟩ := newBox w #[.bool n_0a, .slice o_0a k_0a c_0a, .bool n_0b, .slice o_0b k_0b c_0b] 26 hb.size
  rw [eW, eP]
  clear eW eP
  replace ha1 := ha1.bl hn; replace ha2 := ha2.bl hn; replace hq1 := hq1.bl hn; replace hq2 := hq2.bl hn; replace hb := tm hb hn
  refine hK _ _ rfl ?_; clear hK K hn
  refine sc fun K hK => ?_
  go_big_op
  have lt_b1 := x_b1.lt
  obtain ⟨p_b2, w_2, eP, eW, x_b2, hn, kb_b2⟩ := newBox w_1 #[.bool n_1a, .slice o_1a k_1a c_1a, .bool n_1b, .slice o_1b k_1b c_1b] 26 hb.size
  rw [eW, eP]
  clear eW eP lt_b1
  replace ha1 := ha1.bl hn; replace ha2 := ha2.bl hn; replace hq1 := hq1.bl hn; replace hq2 := hq2.bl hn; replace x_b1 := x_b1.bl hn; replace hb := tm hb hn
  refine hK _ _ rfl ?_; clear hK K hn
  refine sc fun K hK => ?_
  go_big_op
  have lt_b1 := x_b1.lt
  have lt_b2 := x_b2.lt
  obtain ⟨p_b3, w_3, eP, eW, x_b3, hn, kb_b3⟩ := newBox w_2 #[.bool false, .slice none 0 0, .bool false, .slice none 0 0] 26 hb.size
  have ne_b1_b3 : Hid (p_b1 ≠ p_b3) := Nat.ne_of_lt (eP ▸ lt_b1)
  have ne_b2_b3 : Hid (p_b2 ≠ p_b3) := Nat.ne_of_lt (eP ▸ lt_b2)
  rw [eW, eP]
  clear eW eP lt_b1 lt_b2
  replace ha1 := ha1.bl hn; replace ha2 := ha2.bl hn; replace hq1 := hq1.bl hn; replace hq2 := hq2.bl hn; replace x_b1 := x_b1.bl hn; replace x_b2 := x_b2.bl hn; replace hb := tm hb hn
  refine hK _ _ rfl ?_; clear hK K hn
  refine sc fun K hK => ?_
  go_big_op
  have lt_b1 := x_b1.lt
  have lt_b2 := x_b2.lt
  have lt_b3 := x_b3.lt
  obtain ⟨p_b4, w_4, eP, eW, x_b4, hn, kb_b4⟩ := newBox w_3 #[.bool false, .slice none 0 0, .bool false, .slice none 0 0] 26 hb.size
  have ne_b1_b4 : Hid (p_b1 ≠ p_b4) := Nat.ne_of_lt (eP ▸ lt_b1)
  have ne_b2_b4 : Hid (p_b2 ≠ p_b4) := Nat.ne_of_lt (eP ▸ lt_b2)
  have ne_b3_b4 : Hid (p_b3 ≠ p_b4) := Nat.ne_of_lt (eP ▸ lt_b3)
  rw [eW, eP]
  clear eW eP lt_b1 lt_b2 lt_b3
  replace ha1 := ha1.bl hn; replace ha2 := ha2.bl hn; replace hq1 := hq1.bl hn; replace hq2 := hq2.bl hn; replace x_b1 := x_b1.bl hn; replace x_b2 := x_b2.bl hn; replace x_b3 := x_b3.bl hn; replace hb := tm hb hn
  refine hK _ _ rfl ?_; clear hK K hn
  refine sc fun K hK => ?_
  go_big_move; refine hK _ _ rfl ?_; clear hK K
  apply wpSq_end
  refine hK1 _ _ ?_
  refine wp_seq_k ?_
  intro K2 hK2
  refine wp_region_sq [0, 1, 2, 3, 4, 5, 6, 7, 8, 9] (by kernel_rfl) ?_
  refine sc fun K hK => ?_
  obtain ⟨d0, d1, d2, d3⟩ := x_b1.f4
  go_big_op; refine hK _ _ rfl ?_; clear hK K d0 d1 d2 d3
  refine sc fun K hK => ?_
  obtain ⟨d0, d1, d2, d3⟩ := x_b2.f4
  go_big_op; refine hK _ _ rfl ?_; clear hK K d0 d1 d2 d3
  refine sc fun K hK => ?_
  go_big_op
  go_fit (overNorm_any (PN.mk' ha1 ha2) (PN.mk' hq1 hq2) (by omega) (by omega) (by omega) (by omega) )
  rintro e w_5 ⟨_, v_g2, rfl, ⟨n_g1a, o_g1a, k_g1a, c_g1a, n_g1b, o_g1b, k_g1b, c_g1b, rfl, g11, g12⟩, g2, hb_5⟩
  replace ha1 := ha1.bl hb_5; replace ha2 := ha2.bl hb_5; replace hq1 := hq1.bl hb_5; replace hq2 := hq2.bl hb_5; replace x_b1 := x_b1.bl hb_5; replace x_b2 := x_b2.bl hb_5; replace x_b3 := x_b3.bl hb_5; replace x_b4 := x_b4.bl hb_5; replace hb := tm hb hb_5
  obtain ⟨n_g2, o_g2, k_g2, c_g2, rfl⟩ := g2.open2
  have Lg11 := hide (g11.lenOf (zlen_gT1 (ha1.len) (ha2.len) (hq1.len) (hq2.len)))
  have Lg2 := hide (g2.lenOf (zlen_gN (hq1.len) (hq2.len)))
  rw [E.out] at g2
  refine hK _ _ rfl ?_
  clear hK K hb_5
  refine sc fun K hK => ?_
  go_big_move; refine hK _ _ rfl ?_; clear hK K
  refine sc fun K hK => ?_
  go_big_op; refine hK _ _ rfl ?_; clear hK K
  refine sc fun K hK => ?_
  go_big_op; refine hK _ _ rfl ?_; clear hK K
  refine sc fun K hK => ?_
  go_big_op
  have lt_b1 := x_b1.lt
  have lt_b2 := x_b2.lt
  have lt_b3 := x_b3.lt
  have lt_b4 := x_b4.lt
  obtain ⟨p_b5, w_6, eP, eW, x_b5, hn, kb_b5⟩ := newBox w_5 #[.bool false, .slice none 0 0, .bool false, .slice none 0 0] 26 hb.size
  have ne_b1_b5 : Hid (p_b1 ≠ p_b5) := Nat.ne_of_lt (eP ▸ lt_b1)
  have ne_b2_b5 : Hid (p_b2 ≠ p_b5) := Nat.ne_of_lt (eP ▸ lt_b2)
  have ne_b3_b5 : Hid (p_b3 ≠ p_b5) := Nat.ne_of_lt (eP ▸ lt_b3)
  have ne_b4_b5 : Hid (p_b4 ≠ p_b5) := Nat.ne_of_lt (eP ▸ lt_b4)
  rw [eW, eP]
  clear eW eP lt_b1 lt_b2 lt_b3 lt_b4
  replace ha1 := ha1.bl hn; replace ha2 := ha2.bl hn; replace hq1 := hq1.bl hn; replace hq2 := hq2.bl hn; replace x_b1 := x_b1.bl hn; replace x_b2 := x_b2.bl hn; replace x_b3 := x_b3.bl hn; replace x_b4 := x_b4.bl hn; replace g11 := g11.bl hn; replace g12 := g12.bl hn; replace g2 := g2.bl hn; replace hb := tm hb hn
  refine hK _ _ rfl ?_; clear hK K hn
  refine sc fun K hK => ?_
  go_big_op
  have lt_b1 := x_b1.lt
  have lt_b2 := x_b2.lt
  have lt_b3 := x_b3.lt
  have lt_b4 := x_b4.lt
  have lt_b5 := x_b5.lt
  obtain ⟨p_b6, w_7, eP, eW, x_b6, hn, kb_b6⟩ := newBox w_6 #[.bool false, .slice none 0 0] 24 hb.size
  have ne_b1_b6 : Hid (p_b1 ≠ p_b6) := Nat.ne_of_lt (eP ▸ lt_b1)
  have ne_b2_b6 : Hid (p_b2 ≠ p_b6) := Nat.ne_of_lt (eP ▸ lt_b2)
  have ne_b3_b6 : Hid (p_b3 ≠ p_b6) := Nat.ne_of_lt (eP ▸ lt_b3)
  have ne_b4_b6 : Hid (p_b4 ≠ p_b6) := Nat.ne_of_lt (eP ▸ lt_b4)
  have ne_b5_b6 : Hid (p_b5 ≠ p_b6) := Nat.ne_of_lt (eP ▸ lt_b5)
  rw [eW, eP]
  clear eW eP lt_b1 lt_b2 lt_b3 lt_b4 lt_b5
  replace ha1 := ha1.bl hn; replace ha2 := ha2.bl hn; replace hq1 := hq1.bl hn; replace hq2 := hq2.bl hn; replace x_b1 := x_b1.bl hn; replace x_b2 := x_b2.bl hn; replace x_b3 := x_b3.bl hn; replace x_b4 := x_b4.bl hn; replace g11 := g11.bl hn; replace g12 := g12.bl hn; replace g2 := g2.bl hn; replace x_b5 := x_b5.bl hn; replace hb := tm hb hn
  refine hK _ _ rfl ?_; clear hK K hn
  refine sc fun K hK => ?_
  obtain ⟨d0, d1, d2, d3⟩ := x_b5.f4
  have f0 := x_b5.free 0; have f1 := x_b5.free 1; have f2 := x_b5.free 2; have f3 := x_b5.free 3
  go_big_op
  have hnd := x_b5.nod rfl rfl
  obtain ⟨w_8, eW, x_b5', ho⟩ : ∃ w', ((((w_7.setCell ⟨p_b5, 0, none⟩ (.bool n_g1a)).setCell ⟨p_b5, 1, none⟩ (.slice o_g1a k_g1a c_g1a)).setCell ⟨p_b5, 2, none⟩ (.bool n_g1b)).setCell ⟨p_b5, 3, none⟩ (.slice o_g1b k_g1b c_g1b)) = w' ∧ Bs w' p_b5 #[.bool n_g1a, .slice o_g1a k_g1a c_g1a, .bool n_g1b, .slice o_g1b k_g1b c_g1b] 26 ∧ Only p_b5 w_7 w' := x_b5.setN [(0, .bool n_g1a), (1, .slice o_g1a k_g1a c_g1a), (2, .bool n_g1b), (3, .slice o_g1b k_g1b c_g1b)]
  rw [eW]; clear eW d0 d1 d2 d3 f0 f1 f2 f3 x_b5
  have x_b5 := x_b5'; clear x_b5'
  replace ha1 := ha1.fr hnd ho; replace ha2 := ha2.fr hnd ho; replace hq1 := hq1.fr hnd ho; replace hq2 := hq2.fr hnd ho; replace x_b1 := x_b1.frame ho ne_b1_b5; replace x_b2 := x_b2.frame ho ne_b2_b5; replace x_b3 := x_b3.frame ho ne_b3_b5; replace x_b4 := x_b4.frame ho ne_b4_b5; replace g11 := g11.fr hnd ho; replace g12 := g12.fr hnd ho; replace g2 := g2.fr hnd ho; replace x_b6 := x_b6.frame ho ne_b5_b6.symm; replace hb := belowOnly hb ho kb_b5
  refine hK _ _ rfl ?_; clear hK K ho hnd
  refine sc fun K hK => ?_
  obtain ⟨d0, d1⟩ := x_b6.f2
  have f0 := x_b6.free 0; have f1 := x_b6.free 1
  go_big_op
  have hnd := x_b6.nod rfl rfl
  obtain ⟨w_9, eW, x_b6', ho⟩ : ∃ w', ((w_8.setCell ⟨p_b6, 0, none⟩ (.bool n_g2)).setCell ⟨p_b6, 1, none⟩ (.slice o_g2 k_g2 c_g2)) = w' ∧ Bs w' p_b6 #[.bool n_g2, .slice o_g2 k_g2 c_g2] 24 ∧ Only p_b6 w_8 w' := x_b6.setN [(0, .bool n_g2), (1, .slice o_g2 k_g2 c_g2)]
  rw [eW]; clear eW d0 d1 f0 f1 x_b6
  have x_b6 := x_b6'; clear x_b6'
  replace ha1 := ha1.fr hnd ho; replace ha2 := ha2.fr hnd ho; replace hq1 := hq1.fr hnd ho; replace hq2 := hq2.fr hnd ho; replace x_b1 := x_b1.frame ho ne_b1_b6; replace x_b2 := x_b2.frame ho ne_b2_b6; replace x_b3 := x_b3.frame ho ne_b3_b6; replace x_b4 := x_b4.frame ho ne_b4_b6; replace g11 := g11.fr hnd ho; replace g12 := g12.fr hnd ho; replace g2 := g2.fr hnd ho; replace x_b5 := x_b5.frame ho ne_b5_b6; replace hb := belowOnly hb ho kb_b6
  refine hK _ _ rfl ?_; clear hK K ho hnd
  apply wpSq_end
  refine hK2 _ _ ?_
  refine wp_seq_k ?_
  intro K3 hK3
  refine wp_region_sq [0, 1, 2, 3, 4, 5, 6, 7, 8, 9, 10, 11, 12] (by kernel_rfl) ?_
  refine sc fun K hK => ?_
  go_big_op; refine hK _ _ rfl ?_; clear hK K
  refine sc fun K hK => ?_
  obtain ⟨d0, d1, d2, d3⟩ := x_b5.f4
  go_big_op; refine hK _ _ rfl ?_; clear hK K d0 d1 d2 d3
  refine sc fun K hK => ?_
  obtain ⟨d0, d1⟩ := x_b6.f2
  go_big_op; refine hK _ _ rfl ?_; clear hK K d0 d1
  refine sc fun K hK => ?_
  go_big_op
  go_fit (rdiv_zero (g11.zn Lg11.out) (g2.zn Lg2.out) (by omega) (by omega) )
  rintro e w_10 ⟨rfl, hb_10⟩
  replace ha1 := ha1.bl hb_10; replace ha2 := ha2.bl hb_10; replace hq1 := hq1.bl hb_10; replace hq2 := hq2.bl hb_10; replace x_b1 := x_b1.bl hb_10; replace x_b2 := x_b2.bl hb_10; replace x_b3 := x_b3.bl hb_10; replace x_b4 := x_b4.bl hb_10; replace g11 := g11.bl hb_10; replace g12 := g12.bl hb_10; replace g2 := g2.bl hb_10; replace x_b5 := x_b5.bl hb_10; replace x_b6 := x_b6.bl hb_10; replace hb := tm hb hb_10
  refine hK _ _ rfl ?_
  clear hK K hb_10
  refine sc fun K hK => ?_
  go_big_move; refine hK _ _ rfl ?_; clear hK K
  refine sc fun K hK => ?_
  go_big_op; refine hK _ _ rfl ?_; clear hK K
  refine sc fun K hK => ?_
  go_big_op; refine hK _ _ rfl ?_; clear hK K
  refine sc fun K hK => ?_
  go_big_op; refine hK _ _ rfl ?_; clear hK K
  refine sc fun K hK => ?_
  go_big_op
  have lt_b1 := x_b1.lt
  have lt_b2 := x_b2.lt
  have lt_b3 := x_b3.lt
  have lt_b4 := x_b4.lt
  have lt_b5 := x_b5.lt
  have lt_b6 := x_b6.lt
  obtain ⟨p_b7, w_11, eP, eW, x_b7, hn, kb_b7⟩ := newBox w_10 #[.bool false, .slice none 0 0] 24 hb.size
  have ne_b1_b7 : Hid (p_b1 ≠ p_b7) := Nat.ne_of_lt (eP ▸ lt_b1)
  have ne_b2_b7 : Hid (p_b2 ≠ p_b7) := Nat.ne_of_lt (eP ▸ lt_b2)
  have ne_b3_b7 : Hid (p_b3 ≠ p_b7) := Nat.ne_of_lt (eP ▸ lt_b3)
  have ne_b4_b7 : Hid (p_b4 ≠ p_b7) := Nat.ne_of_lt (eP ▸ lt_b4)
  have ne_b5_b7 : Hid (p_b5 ≠ p_b7) := Nat.ne_of_lt (eP ▸ lt_b5)
  have ne_b6_b7 : Hid (p_b6 ≠ p_b7) := Nat.ne_of_lt (eP ▸ lt_b6)
  rw [eW, eP]
  clear eW eP lt_b1 lt_b2 lt_b3 lt_b4 lt_b5 lt_b6
  replace ha1 := ha1.bl hn; replace ha2 := ha2.bl hn; replace hq1 := hq1.bl hn; replace hq2 := hq2.bl hn; replace x_b1 := x_b1.bl hn; replace x_b2 := x_b2.bl hn; replace x_b3 := x_b3.bl hn; replace x_b4 := x_b4.bl hn; replace g11 := g11.bl hn; replace g12 := g12.bl hn; replace g2 := g2.bl hn; replace x_b5 := x_b5.bl hn; replace x_b6 := x_b6.bl hn; replace hb := tm hb hn
  refine hK _ _ rfl ?_; clear hK K hn
  refine sc fun K hK => ?_
  go_big_op
  have lt_b1 := x_b1.lt
  have lt_b2 := x_b2.lt
  have lt_b3 := x_b3.lt
  have lt_b4 := x_b4.lt
  have lt_b5 := x_b5.lt
  have lt_b6 := x_b6.lt
  have lt_b7 := x_b7.lt
  obtain ⟨p_b8, w_12, eP, eW, x_b8, hn, kb_b8⟩ := newBox w_11 #[.bool false, .slice none 0 0] 24 hb.size
  have ne_b1_b8 : Hid (p_b1 ≠ p_b8) := Nat.ne_of_lt (eP ▸ lt_b1)
  have ne_b2_b8 : Hid (p_b2 ≠ p_b8) := Nat.ne_of_lt (eP ▸ lt_b2)
  have ne_b3_b8 : Hid (p_b3 ≠ p_b8) := Nat.ne_of_lt (eP ▸ lt_b3)
  have ne_b4_b8 : Hid (p_b4 ≠ p_b8) := Nat.ne_of_lt (eP ▸ lt_b4)
  have ne_b5_b8 : Hid (p_b5 ≠ p_b8) := Nat.ne_of_lt (eP ▸ lt_b5)
  have ne_b6_b8 : Hid (p_b6 ≠ p_b8) := Nat.ne_of_lt (eP ▸ lt_b6)
  have ne_b7_b8 : Hid (p_b7 ≠ p_b8) := Nat.ne_of_lt (eP ▸ lt_b7)
  rw [eW, eP]
  clear eW eP lt_b1 lt_b2 lt_b3 lt_b4 lt_b5 lt_b6 lt_b7
  replace ha1 := ha1.bl hn; replace ha2 := ha2.bl hn; replace hq1 := hq1.bl hn; replace hq2 := hq2.bl hn; replace x_b1 := x_b1.bl hn; replace x_b2 := x_b2.bl hn; replace x_b3 := x_b3.bl hn; replace x_b4 := x_b4.bl hn; replace g11 := g11.bl hn; replace g12 := g12.bl hn; replace g2 := g2.bl hn; replace x_b5 := x_b5.bl hn; replace x_b6 := x_b6.bl hn; replace x_b7 := x_b7.bl hn; replace hb := tm hb hn
  refine hK _ _ rfl ?_; clear hK K hn
  refine sc fun K hK => ?_
  obtain ⟨d0, d1⟩ := x_b7.f2
  have f0 := x_b7.free 0; have f1 := x_b7.free 1
  go_big_op
  have hnd := x_b7.nod rfl rfl
  obtain ⟨w_13, eW, x_b7', ho⟩ : ∃ w', ((w_12.setCell ⟨p_b7, 0, none⟩ (.bool false)).setCell ⟨p_b7, 1, none⟩ (.slice none 0 0)) = w' ∧ Bs w' p_b7 #[.bool false, .slice none 0 0] 24 ∧ Only p_b7 w_12 w' := x_b7.setN [(0, .bool false), (1, .slice none 0 0)]
  rw [eW]; clear eW d0 d1 f0 f1 x_b7
  have x_b7 := x_b7'; clear x_b7'
  replace ha1 := ha1.fr hnd ho; replace ha2 := ha2.fr hnd ho; replace hq1 := hq1.fr hnd ho; replace hq2 := hq2.fr hnd ho; replace x_b1 := x_b1.frame ho ne_b1_b7; replace x_b2 := x_b2.frame ho ne_b2_b7; replace x_b3 := x_b3.frame ho ne_b3_b7; replace x_b4 := x_b4.frame ho ne_b4_b7; replace g11 := g11.fr hnd ho; replace g12 := g12.fr hnd ho; replace g2 := g2.fr hnd ho; replace x_b5 := x_b5.frame ho ne_b5_b7; replace x_b6 := x_b6.frame ho ne_b6_b7; replace x_b8 := x_b8.frame ho ne_b7_b8.symm; replace hb := belowOnly hb ho kb_b7
  refine hK _ _ rfl ?_; clear hK K ho hnd
  refine sc fun K hK => ?_
  obtain ⟨d0, d1⟩ := x_b8.f2
  have f0 := x_b8.free 0; have f1 := x_b8.free 1
  go_big_op
  have hnd := x_b8.nod rfl rfl
  obtain ⟨w_14, eW, x_b8', ho⟩ : ∃ w', ((w_13.setCell ⟨p_b8, 0, none⟩ (.bool false)).setCell ⟨p_b8, 1, none⟩ (.slice none 0 0)) = w' ∧ Bs w' p_b8 #[.bool false, .slice none 0 0] 24 ∧ Only p_b8 w_13 w' := x_b8.setN [(0, .bool false), (1, .slice none 0 0)]
  rw [eW]; clear eW d0 d1 f0 f1 x_b8
  have x_b8 := x_b8'; clear x_b8'
  replace ha1 := ha1.fr hnd ho; replace ha2 := ha2.fr hnd ho; replace hq1 := hq1.fr hnd ho; replace hq2 := hq2.fr hnd ho; replace x_b1 := x_b1.frame ho ne_b1_b8; replace x_b2 := x_b2.frame ho ne_b2_b8; replace x_b3 := x_b3.frame ho ne_b3_b8; replace x_b4 := x_b4.frame ho ne_b4_b8; replace g11 := g11.fr hnd ho; replace g12 := g12.fr hnd ho; replace g2 := g2.fr hnd ho; replace x_b5 := x_b5.frame ho ne_b5_b8; replace x_b6 := x_b6.frame ho ne_b6_b8; replace x_b7 := x_b7.frame ho ne_b7_b8; replace hb := belowOnly hb ho kb_b8
  refine hK _ _ rfl ?_; clear hK K ho hnd
  refine sc fun K hK => ?_
  go_big_move; refine hK _ _ rfl ?_; clear hK K
  apply wpSq_end
  refine hK3 _ _ ?_
  refine wp_seq_k ?_
  intro K4 hK4
  refine wp_seq_k ?_
  intro K5 hK5
  refine wp_region_sq [0, 1] (by kernel_rfl) ?_
  refine sc fun K hK => ?_
  go_big_move; refine hK _ _ rfl ?_; clear hK K
  refine sc fun K hK => ?_
  go_big_op; refine hK _ _ rfl ?_; clear hK K
  apply wpSq_end
  refine hK5 _ _ ?_
  refine wp_cond_true (congrArg Value.bool (show _ = true from (by first | rfl | assumption | (simp; done) | exact decide_eq_true (by omega) | omega))) ?_
  refine wp_seq_k ?_
  intro K6 hK6
  refine wp_region_sq [0, 1, 2, 3, 4, 5] (by kernel_rfl) ?_
  refine sc fun K hK => ?_
  go_big_op; refine hK _ _ rfl ?_; clear hK K
  refine sc fun K hK => ?_
  go_big_op; refine hK _ _ rfl ?_; clear hK K
  refine sc fun K hK => ?_
  go_big_move; refine hK _ _ rfl ?_; clear hK K
  refine sc fun K hK => ?_
  obtain ⟨d0, d1, d2, d3⟩ := x_b3.f4
  have f0 := x_b3.free 0; have f1 := x_b3.free 1; have f2 := x_b3.free 2; have f3 := x_b3.free 3
  go_big_op
  have hnd := x_b3.nod rfl rfl
  obtain ⟨w_15, eW, x_b3', ho⟩ : ∃ w', ((((w_14.setCell ⟨p_b3, 0, none⟩ (.bool false)).setCell ⟨p_b3, 1, none⟩ (.slice none 0 0)).setCell ⟨p_b3, 2, none⟩ (.bool false)).setCell ⟨p_b3, 3, none⟩ (.slice none 0 0)) = w' ∧ Bs w' p_b3 #[.bool false, .slice none 0 0, .bool false, .slice none 0 0] 26 ∧ Only p_b3 w_14 w' := x_b3.setN [(0, .bool false), (1, .slice none 0 0), (2, .bool false), (3, .slice none 0 0)]
  rw [eW]; clear eW d0 d1 d2 d3 f0 f1 f2 f3 x_b3
  have x_b3 := x_b3'; clear x_b3'
  clear x_b8
  replace ha1 := ha1.fr hnd ho; replace ha2 := ha2.fr hnd ho; replace hq1 := hq1.fr hnd ho; replace hq2 := hq2.fr hnd ho; replace x_b1 := x_b1.frame ho ne_b1_b3; replace x_b2 := x_b2.frame ho ne_b2_b3; replace x_b4 := x_b4.frame ho ne_b3_b4.symm; replace g11 := g11.fr hnd ho; replace g12 := g12.fr hnd ho; replace g2 := g2.fr hnd ho; replace x_b5 := x_b5.frame ho ne_b3_b5.symm; replace x_b6 := x_b6.frame ho ne_b3_b6.symm; replace x_b7 := x_b7.frame ho ne_b3_b7.symm; replace hb := belowOnly hb ho kb_b3
  refine hK _ _ rfl ?_; clear hK K ho hnd
  refine sc fun K hK => ?_
  obtain ⟨d0, d1, d2, d3⟩ := x_b4.f4
  have f0 := x_b4.free 0; have f1 := x_b4.free 1; have f2 := x_b4.free 2; have f3 := x_b4.free 3
  go_big_op
  have hnd := x_b4.nod rfl rfl
  obtain ⟨w_16, eW, x_b4', ho⟩ : ∃ w', ((((w_15.setCell ⟨p_b4, 0, none⟩ (.bool false)).setCell ⟨p_b4, 1, none⟩ (.slice none 0 0)).setCell ⟨p_b4, 2, none⟩ (.bool false)).setCell ⟨p_b4, 3, none⟩ (.slice none 0 0)) = w' ∧ Bs w' p_b4 #[.bool false, .slice none 0 0, .bool false, .slice none 0 0] 26 ∧ Only p_b4 w_15 w' := x_b4.setN [(0, .bool false), (1, .slice none 0 0), (2, .bool false), (3, .slice none 0 0)]
  rw [eW]; clear eW d0 d1 d2 d3 f0 f1 f2 f3 x_b4
  have x_b4 := x_b4'; clear x_b4'
  replace ha1 := ha1.fr hnd ho; replace ha2 := ha2.fr hnd ho; replace hq1 := hq1.fr hnd ho; replace hq2 := hq2.fr hnd ho; replace x_b1 := x_b1.frame ho ne_b1_b4; replace x_b2 := x_b2.frame ho ne_b2_b4; replace x_b3 := x_b3.frame ho ne_b3_b4; replace g11 := g11.fr hnd ho; replace g12 := g12.fr hnd ho; replace g2 := g2.fr hnd ho; replace x_b5 := x_b5.frame ho ne_b4_b5.symm; replace x_b6 := x_b6.frame ho ne_b4_b6.symm; replace x_b7 := x_b7.frame ho ne_b4_b7.symm; replace hb := belowOnly hb ho kb_b4
  refine hK _ _ rfl ?_; clear hK K ho hnd
  refine sc fun K hK => ?_
  go_big_move; refine hK _ _ rfl ?_; clear hK K
  apply wpSq_end
  refine hK6 _ _ ?_
  refine wp_ret ?_
  try dsimp only [Exit.then, Exit.inBlock]
  obtain ⟨r0_0, r0_1, r0_2, r0_3⟩ := x_b3.f4
  obtain ⟨r4_0, r4_1, r4_2, r4_3⟩ := x_b4.f4
  refine bodyPost_ret (v := (.tuple #[(.agg #[.bool false, .slice none 0 0, .bool false, .slice none 0 0]), (.agg #[.bool false, .slice none 0 0, .bool false, .slice none 0 0]), (.int .i64 5)])) (by simp [results, Try.results62, go_sem, r0_0, r0_1, r0_2, r0_3, r4_0, r4_1, r4_2, r4_3]) rfl ?_
  exact ⟨rfl, hb⟩
end
end Go.Proofs.Ytpdfahompajbjaa
