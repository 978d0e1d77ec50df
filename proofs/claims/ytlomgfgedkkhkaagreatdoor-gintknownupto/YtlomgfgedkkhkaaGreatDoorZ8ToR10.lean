/- What quotients and rests of whole numbers are. -/
import Derived.Test.YtlomgfgedkkhkaaGreatDoorZ7
import Derived.Deep.LoopGhost
import Derived.Shelf.Strings.SlTrimAscii
import Derived.Lib.Strings
namespace Go.Proofs.YtlomgfgedkkhkaaGreatDoor
open Go.RowKit Dig
theorem len_succ {n m l : Nat} (h : n ≤ m + 1) (hm : (dig m).length ≤ l) : (dig n).length ≤ l + 1 := by
  have h1 := Nat.lt_of_lt_of_le (lt_pw_dig m) (pw_mono hm)
  refine dig_length_le ?_
  simp only [pw]
  omega
theorem rnd_bd {x y : Int} (h0 : y ≠ 0) : (0 < y → -y ≤ 2 * (x - rnd x y * y) ∧ 2 * (x - rnd x y * y) < y) ∧ (y < 0 → y < 2 * (x - rnd x y * y) ∧ 2 * (x - rnd x y * y) ≤ -y) := by
  obtain ⟨b1, b2⟩ := fmod_bd (x := x) h0
  rcases Nat.lt_or_ge ((x.fmod y).natAbs + (x.fmod y).natAbs) y.natAbs with h | h
  · rw [(rnd_down h0 h).2]
    exact ⟨fun hy => by have := b1 hy; omega, fun hy => by have := b2 hy; omega⟩
  · rw [(rnd_up h0 h).2]
    exact ⟨fun hy => by have := b1 hy; omega, fun hy => by have := b2 hy; omega⟩
theorem rnd_len {x y : Int} {l : Nat} (h0 : y ≠ 0) (h : (dig x.natAbs).length ≤ l) : (dig (rnd x y).natAbs).length ≤ l + 1 := by
  refine len_succ (m := x.natAbs) ?_ h
  have h1 := fdiv_le (x := x) h0
  rcases Nat.lt_or_ge ((x.fmod y).natAbs + (x.fmod y).natAbs) y.natAbs with h | h
  · rw [(rnd_down h0 h).1]; omega
  · rw [(rnd_up h0 h).1]; omega
theorem rrest_len {x y : Int} {m : Nat} (h0 : y ≠ 0) (h : (dig y.natAbs).length ≤ m) : (dig (x - rnd x y * y).natAbs).length ≤ m := by
  obtain ⟨b1, b2⟩ := rnd_bd (x := x) h0
  refine dig_length_le (Nat.lt_of_lt_of_le (Nat.lt_of_le_of_lt (m := y.natAbs) ?_ (lt_pw_dig _)) (pw_mono h))
  rcases Int.lt_or_gt_of_ne h0 with hy | hy
  · have := b2 hy; omega
  · have := b1 hy; omega
theorem zlen_mul {x y : Int} {l m : Nat} (hx : (dig x.natAbs).length ≤ l) (hy : (dig y.natAbs).length ≤ m) : (dig (x * y).natAbs).length ≤ l + m := by
  rw [Int.natAbs_mul]
  have h := zmul_dig_length (dig x.natAbs) (dig y.natAbs) (OK_dig _) (OK_dig _)
  rw [val_dig, val_dig] at h
  omega
theorem zcmp_lt {x y : Int} (h : x < y) : zcmp x y = -1 := by unfold zcmp; rw [if_pos h]
theorem zcmp_ge {x y : Int} (h : y ≤ x) : 0 ≤ zcmp x y := by unfold zcmp; rw [if_neg (by omega)]; split <;> omega
theorem sign_bd (x : Int) : -1 ≤ x.sign ∧ x.sign ≤ 1 := by
  rcases Int.lt_trichotomy x 0 with h | h | h
  · rw [Int.sign_eq_neg_one_of_neg h]; omega
  · rw [h]; decide
  · rw [Int.sign_eq_one_of_pos h]; omega
theorem len_le {n m l : Nat} (h : n ≤ m) (hm : (dig m).length ≤ l) : (dig n).length ≤ l :=
  dig_length_le (Nat.lt_of_le_of_lt h (Nat.lt_of_lt_of_le (lt_pw_dig m) (pw_mono hm)))
theorem zo_zero (w : World) (B : Nat) : ZO w B (.agg #[.bool false, .slice none 0 0]) 0 := ⟨_, rfl, by rw [show dig (Int.natAbs 0) = [] from dig_eq_nil.2 rfl]; exact Own.nil w B none⟩
open Go
/-- Block b holds these cells; where nothing of it is frozen it may be written. -/
def Bs (w : World) (b : Nat) (cs : Array Value) (ty : TypeId) (fz : Nat × Nat := (0, 0)) : Prop := w.heap[b]? = some (.cells cs ty fz)
abbrev BkT := Nat × Array Value × TypeId × (Nat × Nat)
theorem Bs.lt {w : World} {b : Nat} {cs : Array Value} {ty : TypeId} {fz : Nat × Nat} (h : Bs w b cs ty fz) : b < w.heap.size := by
  unfold Bs at h
  rcases Nat.lt_or_ge b w.heap.size with hb | hb
  · exact hb
  · rw [Array.getElem?_eq_none hb] at h; cases h
theorem Bs.below {w w' : World} {b : Nat} {cs : Array Value} {ty : TypeId} {fz : Nat × Nat} (h : Bs w b cs ty fz) {B : Nat} (hb : Below B w w') (hB : w.heap.size ≤ B) : Bs w' b cs ty fz := by
  have := h.lt
  unfold Bs; rw [hb.block b (by omega)]; exact h
theorem Bs.cell {w : World} {b : Nat} {cs : Array Value} {ty : TypeId} {fz : Nat × Nat} (h : Bs w b cs ty fz) (i : Nat) {c : Value} (hc : cs[i]? = some c) : w.cell? ⟨b, i, none⟩ = some c := by
  unfold Bs at h
  simp only [World.cell?, h]
  exact hc
theorem Bs.bl {w w' : World} {b : Nat} {cs : Array Value} {ty : TypeId} {fz : Nat × Nat} (h : Bs w b cs ty fz) (hb : Below w.heap.size w w') : Bs w' b cs ty fz := h.below hb (Nat.le_refl _)
theorem Bs.f2 {w : World} {b : Nat} {c0 c1 : Value} {ty : TypeId} (h : Bs w b #[c0, c1] ty) : w.cell? ⟨b, 0, none⟩ = some c0 ∧ w.cell? ⟨b, 1, none⟩ = some c1 := ⟨h.cell 0 rfl, h.cell 1 rfl⟩
theorem Bs.f4 {w : World} {b : Nat} {c0 c1 c2 c3 : Value} {ty : TypeId} (h : Bs w b #[c0, c1, c2, c3] ty) :
    w.cell? ⟨b, 0, none⟩ = some c0 ∧ w.cell? ⟨b, 1, none⟩ = some c1 ∧ w.cell? ⟨b, 2, none⟩ = some c2 ∧ w.cell? ⟨b, 3, none⟩ = some c3 := ⟨h.cell 0 rfl, h.cell 1 rfl, h.cell 2 rfl, h.cell 3 rfl⟩
theorem Bs.free {w : World} {b : Nat} {cs : Array Value} {ty : TypeId} (h : Bs w b cs ty) (i : Nat) : w.frozen? ⟨b, i, none⟩ = false := by
  unfold Bs at h
  simp [World.frozen?, h]
theorem Bs.set {w : World} {b : Nat} {cs : Array Value} {ty : TypeId} (h : Bs w b cs ty) (i : Nat) (v : Value) : Bs (w.setCell ⟨b, i, none⟩ v) b (cs.setIfInBounds i v) ty := by
  unfold Bs at h ⊢
  simp only [World.setCell, Array.getElem?_modify, h]
  simp
section
variable {P : Program} {Q : Exit → Act → World → Prop} {a : Act} {w : World}
theorem ct {c : Operand} {x y : Code} {v : Bool} (h : x.wp P Q a w) (he : a.eval c = .bool v := by rfl) (hv : v = true := by first | rfl | assumption | (simp; done) | exact decide_eq_true (by omega) | omega) : (Code.cond c x y).wp P Q a w := wp_cond_true (he.trans (congrArg Value.bool hv)) h
theorem cf {c : Operand} {x y : Code} {v : Bool} (h : y.wp P Q a w) (he : a.eval c = .bool v := by rfl) (hv : v = false := by first | rfl | assumption | (simp; done) | exact decide_eq_false (by omega) | omega) : (Code.cond c x y).wp P Q a w := wp_cond_false (he.trans (congrArg Value.bool hv)) h
end
def BG (b : BkT) (w : World) : Prop := Bs w b.1 b.2.1 b.2.2.1 b.2.2.2
/-- All these blocks. -/
def AllB : List BkT → World → Prop
  | [], _ => True
  | b :: t, w => BG b w ∧ AllB t w
theorem Bs.alloc {w : World} {b : Nat} {cs : Array Value} {ty : TypeId} {fz : Nat × Nat} (h : Bs w b cs ty fz) (o : Obj) : Bs (w.alloc o) b cs ty fz := h.bl ((Below.refl _ _).alloc (Nat.le_refl _) o)
theorem AllB.alloc {o : Obj} : ∀ {bs : List BkT} {w : World}, AllB bs w → AllB bs (w.alloc o)
  | [], _, _ => trivial
  | _ :: _, _, h => ⟨Bs.alloc h.1 o, AllB.alloc h.2⟩
theorem AllB.get : ∀ {bs : List BkT} {w : World}, AllB bs w → ∀ G ∈ bs.map BG, G w
  | [], _, _, _, hG => nomatch hG
  | b :: t, w, h, G, hG => by
    rcases List.mem_cons.1 hG with rfl | hG
    · exact h.1
    · exact AllB.get h.2 G hG
def setAll (w : World) (b : Nat) : List (Nat × Value) → World
  | [] => w
  | (i, v) :: l => setAll (w.setCell ⟨b, i, none⟩ v) b l
def setArr (cs : Array Value) : List (Nat × Value) → Array Value
  | [] => cs
  | (i, v) :: l => setArr (cs.setIfInBounds i v) l
theorem Bs.sets {w : World} {b : Nat} {cs : Array Value} {ty : TypeId} (h : Bs w b cs ty) : ∀ l : List (Nat × Value), Bs (setAll w b l) b (setArr cs l) ty ∧ Only b w (setAll w b l) := by
  intro l
  induction l generalizing w cs with
  | nil => exact ⟨h, Only.refl _ _⟩
  | cons x l ih =>
    obtain ⟨i, v⟩ := x
    obtain ⟨h1, h2⟩ := ih (h.set i v)
    exact ⟨h1, ((Only.refl b w).setCell i v).trans h2⟩
theorem Bs.setN {w : World} {b : Nat} {cs : Array Value} {ty : TypeId} (h : Bs w b cs ty) (l : List (Nat × Value)) : ∃ w', setAll w b l = w' ∧ Bs w' b (setArr cs l) ty ∧ Only b w w' :=
  ⟨_, rfl, (h.sets l).1, (h.sets l).2⟩
theorem Bs.set2 {w : World} {b : Nat} {d0 d1 : Value} {ty : TypeId} (h : Bs w b #[d0, d1] ty) (c0 c1 : Value) : ∃ w', (w.setCell ⟨b, 0, none⟩ c0).setCell ⟨b, 1, none⟩ c1 = w' ∧ Bs w' b #[c0, c1] ty ∧ Only b w w' := h.setN [(0, c0), (1, c1)]
theorem Bs.set4 {w : World} {b : Nat} {d0 d1 d2 d3 : Value} {ty : TypeId} (h : Bs w b #[d0, d1, d2, d3] ty) (c0 c1 c2 c3 : Value) :
    ∃ w', (((w.setCell ⟨b, 0, none⟩ c0).setCell ⟨b, 1, none⟩ c1).setCell ⟨b, 2, none⟩ c2).setCell ⟨b, 3, none⟩ c3 = w' ∧ Bs w' b #[c0, c1, c2, c3] ty ∧ Only b w w' := h.setN [(0, c0), (1, c1), (2, c2), (3, c3)]
/-- A new block gets a name, and so does the world. -/
theorem newBox (w : World) (cs : Array Value) (ty : TypeId) {B : Nat} (hB : B ≤ w.heap.size) : ∃ p w', w.heap.size = p ∧ w.alloc (.cells cs ty) = w' ∧ Bs w' p cs ty ∧ Below w.heap.size w w' ∧ Hid (B ≤ p) := by
  refine ⟨_, _, rfl, rfl, ?_, (Below.refl _ _).alloc (Nat.le_refl _) _, hB⟩
  show (w.heap.push _)[w.heap.size]? = _
  simp
def nd : Value → Bool
  | .int .u32 _ => false
  | _ => true
/-- A block that bears no digit. -/
def NoD (w : World) (b : Nat) : Prop := (∀ off (d : Nat), w.cell? ⟨b, off, none⟩ ≠ some (.int .u32 (d : Int))) ∧ ∀ xs, ¬ Row w b xs
theorem Bs.nod {w : World} {b : Nat} {cs : Array Value} {ty : TypeId} (h : Bs w b cs ty) (hc : cs.toList.all nd = true) (ht : (ty == 56) = false) : NoD w b := by
  have h0 := h
  unfold Bs at h0
  refine ⟨fun off d hcell => ?_, fun xs hr => ?_⟩
  · simp only [World.cell?, h0] at hcell
    have h2 : cs[off]? = some (.int .u32 (d : Int)) := by simpa using hcell
    have := List.all_eq_true.1 hc _ (Array.mem_toList_iff.2 (Array.mem_of_getElem? h2))
    simp [nd] at this
  · have h3 := hr.1
    rw [h0] at h3
    simp only [Option.some.injEq, Obj.cells.injEq] at h3
    have := h3.2.1
    rw [this] at ht
    simp at ht
theorem Cells.fr {w w' : World} {b : Nat} {oa : Option Addr} {ds : List Nat} (h : Cells w oa ds) (hb : NoD w b) (ho : Only b w w') : Cells w' oa ds := by
  by_cases hne : ds = []
  · exact .inl hne
  · obtain ⟨c, off, e, hc⟩ := h.resolve_left hne
    refine h.only ho ?_
    intro a ha
    rw [e] at ha
    cases ha
    intro hcb
    have := hc 0 (List.length_pos_iff.2 hne)
    simp only at hcb
    rw [hcb] at this
    exact hb.1 _ _ this
theorem tm {w w1 w2 : World} (h : Below w.heap.size w w1) (h' : Below w1.heap.size w1 w2) : Below w.heap.size w w2 := h.trans (h'.mono h.size)
/-- What is read as digits is read so still. -/
def Kp (w w' : World) : Prop := ∀ (oa : Option Addr) (ds : List Nat), Cells w oa ds → Cells w' oa ds
theorem kb {w w' : World} (h : Below w.heap.size w w') : Kp w w' := fun _ _ hc => hc.below h (Nat.le_refl _)
theorem ko {w w' : World} {b : Nat} (hn : NoD w b) (ho : Only b w w') : Kp w w' := fun _ _ hc => hc.fr hn ho
theorem Kp.b {w w1 w2 : World} (h : Kp w w1) (h' : Below w1.heap.size w1 w2) : Kp w w2 := fun _ _ hc => (h _ _ hc).below h' (Nat.le_refl _)
theorem Kp.o {w w1 w2 : World} {b : Nat} (h : Kp w w1) (hn : NoD w1 b) (ho : Only b w1 w2) : Kp w w2 := fun _ _ hc => (h _ _ hc).fr hn ho
theorem Rd.k {w w' : World} {v : Value} {ds : List Nat} (h : Rd w v ds) (k : Kp w w') : Rd w' v ds := by
  obtain ⟨oa, cap, hv, hc, ok, hx⟩ := h
  exact ⟨oa, cap, hv, hc, ok, k _ _ hx⟩
theorem ZN.k {w w' : World} {v : Value} {z : Int} {l : Nat} (h : ZN w v z l) (k : Kp w w') : ZN w' v z l := by
  obtain ⟨neg, s, xs, hv, hr, hz, hl⟩ := h
  exact ⟨neg, s, xs, hv, hr.k k, hz, hl⟩
theorem ZC.k {w w' : World} {v : Value} {z : Int} (h : ZC w v z) (k : Kp w w') : ZC w' v z := by
  obtain ⟨s, hv, hr⟩ := h
  exact ⟨s, hv, hr.k k⟩
theorem belowOnly {B b : Nat} {u w w' : World} (h : Below B u w) (ho : Only b w w') (hb : Hid (B ≤ b)) : Below B u w' := h.trans (ho.below hb)
theorem ZC.lenOf {w : World} {v : Value} {z : Int} (_ : ZC w v z) {l : Nat} (hl : (dig z.natAbs).length ≤ l) : (dig z.natAbs).length ≤ l := hl
theorem zc_zero (w : World) : ZC w (.agg #[.bool false, .slice none 0 0]) 0 := (zo_zero w 0).rd
/-- Two whole numbers in one struct. -/
def PN (w : World) (v : Value) (x : Int) (l : Nat) (y : Int) (m : Nat) : Prop :=
  ∃ n1 o1 k1 c1 n2 o2 k2 c2, v = .agg #[.bool n1, .slice o1 k1 c1, .bool n2, .slice o2 k2 c2] ∧ ZN w (.agg #[.bool n1, .slice o1 k1 c1]) x l ∧ ZN w (.agg #[.bool n2, .slice o2 k2 c2]) y m
def PC (w : World) (v : Value) (x y : Int) : Prop :=
  ∃ n1 o1 k1 c1 n2 o2 k2 c2, v = .agg #[.bool n1, .slice o1 k1 c1, .bool n2, .slice o2 k2 c2] ∧ ZC w (.agg #[.bool n1, .slice o1 k1 c1]) x ∧ ZC w (.agg #[.bool n2, .slice o2 k2 c2]) y
theorem PN.mk' {w : World} {n1 n2 : Bool} {o1 o2 : Option Addr} {k1 c1 k2 c2 : Nat} {x y : Int} {l m : Nat} (h1 : ZN w (.agg #[.bool n1, .slice o1 k1 c1]) x l) (h2 : ZN w (.agg #[.bool n2, .slice o2 k2 c2]) y m) :
    PN w (.agg #[.bool n1, .slice o1 k1 c1, .bool n2, .slice o2 k2 c2]) x l y m := ⟨_, _, _, _, _, _, _, _, rfl, h1, h2⟩
theorem PC.mk' {w : World} {n1 n2 : Bool} {o1 o2 : Option Addr} {k1 c1 k2 c2 : Nat} {x y : Int} (h1 : ZC w (.agg #[.bool n1, .slice o1 k1 c1]) x) (h2 : ZC w (.agg #[.bool n2, .slice o2 k2 c2]) y) :
    PC w (.agg #[.bool n1, .slice o1 k1 c1, .bool n2, .slice o2 k2 c2]) x y := ⟨_, _, _, _, _, _, _, _, rfl, h1, h2⟩
theorem PN.len1 {w : World} {v : Value} {x y : Int} {l m : Nat} (h : PN w v x l y m) : (dig x.natAbs).length ≤ l := by
  obtain ⟨_, _, _, _, _, _, _, _, _, h1, _⟩ := h
  exact h1.len
theorem PN.len2 {w : World} {v : Value} {x y : Int} {l m : Nat} (h : PN w v x l y m) : (dig y.natAbs).length ≤ m := by
  obtain ⟨_, _, _, _, _, _, _, _, _, _, h1⟩ := h
  exact h1.len
theorem zlen_0 : (dig (Int.natAbs 0)).length ≤ 1 := by rw [show dig (Int.natAbs 0) = [] from dig_eq_nil.2 rfl]; exact Nat.zero_le _
theorem zlen_neg {x : Int} {l : Nat} (h : (dig x.natAbs).length ≤ l) : (dig (-x).natAbs).length ≤ l := by rw [Int.natAbs_neg]; exact h
theorem zlen_abs {x : Int} {l : Nat} (h : (dig x.natAbs).length ≤ l) : (dig (Int.natAbs x : Int).natAbs).length ≤ l := by rw [Int.natAbs_natCast]; exact h
section
variable {P : Program} {l : List Oper} {Q : Act → World → Prop} {a : Act} {w : World} {o : Oper}
/-- A region that does not draw, operation by operation. -/
def wpSq (P : Program) (l : List Oper) (Q : Act → World → Prop) : List Nat → Act → World → Prop
  | [], a, w => Q a w
  | k :: rest, a, w => ∃ o, nthO l k = some o ∧ if Region.wanted o (yielded l.toArray a.tmps) then Calm P o a w (fun v w' => wpSq P l Q rest (a.put o.dst v) w') else wpSq P l Q rest (a.put o.dst undef) w
theorem wpOpsIn_of_sq {r : Option Nat} {m : Nat} {Q' : Exit → Act → World → Prop} (hQ : ∀ a w, Q a w → Q' .normal a w) : ∀ (plan : List Nat) (a : Act) (w : World), wpSq P l Q plan a w → wpOpsIn (FW r) m P l.toArray Q' plan a w
  | [], a, w, h => hQ _ _ h
  | k :: rest, a, w, h => by
    obtain ⟨o, ho, h⟩ := h
    unfold wpOpsIn
    rw [show l.toArray[k]? = some o by rw [← nthO_eq] at ho; simpa using ho]
    simp only
    split
    · rename_i hw
      simp only [hw, if_true] at h
      exact Calm.wpIn (h.mono fun v w' h3 => wpOpsIn_of_sq hQ rest _ _ h3)
    · rename_i hw
      simp only [hw] at h
      exact ⟨fun _ _ => trivial, wpOpsIn_of_sq hQ rest _ _ h⟩
theorem wpIn_region_sq {r : Option Nat} {m : Nat} {id : Nat} {Q : Exit → Act → World → Prop} (plan : List Nat) (hp : List.range l.length = plan) (h : wpSq P l (Q .normal) plan a w) : (Code.region id l.toArray false).wpIn (FW r) m P Q a w := by
  refine wpIn_region ?_
  rw [show l.toArray.size = l.length by simp, hp]
  exact wpOpsIn_of_sq (fun _ _ h => h) _ _ _ h
theorem wp_region_sq {id : Nat} {Q : Exit → Act → World → Prop} (plan : List Nat) (hp : List.range l.length = plan) (h : wpSq P l (Q .normal) plan a w) : (Code.region id l.toArray false).wp P Q a w :=
  (wpIn_wide (n := 0)).1 (show (Code.region id l.toArray false).wpIn (FW none) 0 P Q a w from wpIn_region_sq plan hp h)
theorem wpSq_call {k : Nat} {rest : List Nat} (hi : nthO l k = some o) (hw : Region.wanted o (yielded l.toArray a.tmps) = true)
    (h : ∀ K : Act → World → Prop, (∀ a' w', a'.defers = a.defers → wpSq P l Q rest a' w' → K a' w') → o.wp P a w K bot) : wpSq P l Q (k :: rest) a w := by
  refine ⟨o, hi, ?_⟩
  rw [if_pos hw]
  have h := h (fun a' w' => a'.defers = a.defers ∧ wpSq P l Q rest a' w') (fun a' w' h1 h2 => ⟨h1, h2⟩)
  unfold Oper.wp at h
  unfold Calm
  generalize (execOp a.eval o).run P w = r at *
  cases r with
  | ok n w2 =>
    cases n <;> simp only [Oper.upon] at h ⊢
    case value => exact h.2
    case skip => exact h.2
    case defer =>
      have h1 := h.1
      unfold Act.put at h1
      split at h1 <;> simp at h1
    case enter =>
      refine h.mono fun e w'' he => ?_
      cases e with
      | returned v => exact ⟨v, rfl, he.2⟩
      | panicked c => exact he.elim
      | outgrown => obtain ⟨_, _, hf⟩ := he; exact hf.elim
    case row => exact Rows.mono h fun v w'' he => he.2
  | halt x w2 => cases x <;> simp only [Oper.upon, bot] at h
theorem wpSq_skip {k : Nat} {rest : List Nat} {a' : Act} (hi : nthO l k = some o) (hw : Region.wanted o (yielded l.toArray a.tmps) = false) (hp : a.put o.dst undef = a')
    (hn : wpSq P l Q rest a' w) : wpSq P l Q (k :: rest) a w :=
  ⟨o, hi, by rw [if_neg (by rw [hw]; exact Bool.false_ne_true), hp]; exact hn⟩
theorem fn {ob : Nat → Obj} : ∀ j ∈ ([] : List Nat), Lays P l ob j := fun _ h => nomatch h
theorem fm {ob : Nat → Obj} {j : Nat} {F : List Nat} (h : ∀ i ∈ F, Lays P l ob i) (hj : Lays P l ob j := by exact ⟨_, rfl, rfl, fun ρ w => by unfold ptr; simp [go_sem]⟩) : ∀ i ∈ j :: F, Lays P l ob i := fun i hi => by
  rcases List.mem_cons.1 hi with rfl | hi
  · exact hj
  · exact h i hi
theorem wpSq_end (h : Q a w) : wpSq P l Q [] a w := h
end
def isL (o : Oper) : Bool :=
  match o.op with
  | .call c => match c.callee with | .builtin .len => true | _ => false
  | _ => false
theorem isL_value {ρ : Operand → Value} {o : Oper} (h : isL o = true) : ∃ s : Sem Value, execOp ρ o = (do pure (.value (← s))) := by
  unfold isL at h
  unfold execOp
  generalize o.op = p at *
  cases p
  case call c =>
    simp only at h ⊢
    obtain ⟨callee, args, tys⟩ := c
    cases callee
    case builtin b => cases b <;> first | (exfalso; simp at h; done) | exact ⟨_, rfl⟩
    all_goals (exfalso; simp at h)
  all_goals (exfalso; simp at h)
theorem isL_run {P : Program} {ρ : Operand → Value} {o : Oper} (h : isL o = true) {n : Next} {w w' : World} (hr : (execOp ρ o).run P w = .ok n w') : ∃ v, n = .value v := by
  obtain ⟨s, hs⟩ := isL_value (ρ := ρ) h
  rw [hs] at hr
  rw [Sem.run_bind] at hr
  generalize s.run P w = r at hr
  cases r with
  | ok v w'' => simp only [Result.andThen, Sem.run_pure, Result.ok.injEq] at hr; exact ⟨v, hr.1.symm⟩
  | halt e w'' => simp only [Result.andThen, reduceCtorEq] at hr
section
variable {P : Program} {l : List Oper} {C : World → Prop} {Q : Act → World → Prop} {a : Act} {w : World} {rest : List (Nat × Bool)} {o : Oper} {ob : Nat → Obj} {F0 : List Nat} {B : Nat} {Gs : List (World → Prop)} {CL : List Nat} {bad : List (Nat × Nat)}
theorem wpFl_ldb {i : Nat} {a' : Act} {G : World → Prop} (hG : nthG Gs (CL.getD i 99) = G) (hi : nthO l i = some o) (h1 : ∀ w', G w' → ∀ K : Act → World → Prop, K a' w' → o.wp P a w' K bot)
    (hw : Region.wanted o (yielded l.toArray a.tmps) = true) (hv : isL o = true) (hb : inB o.dst a = true) (hp : a.put o.dst (slotOf o.dst a') = a')
    (hn : wpFl P l C Gs CL ob F0 B Q rest a' w) : wpFl P l C Gs CL ob F0 B Q ((i, false) :: rest) a w := by
  subst hG
  refine ⟨o, slotOf o.dst a', hi, .inl ⟨hw, fun w' hC => ?_⟩, by rw [hp]; exact hn⟩
  have h := h1 w' hC (fun a2 w2 => a2 = a' ∧ w2 = w') ⟨rfl, rfl⟩
  unfold Oper.wp at h
  have hr := fun n w2 => isL_run (P := P) (ρ := a.eval) (n := n) (w := w') (w' := w2) hv
  generalize (execOp a.eval o).run P w' = r at *
  cases r with
  | ok n w2 =>
    obtain ⟨v, rfl⟩ := hr n w2 rfl
    simp only [Oper.upon] at h
    obtain ⟨h2, rfl⟩ := h
    rw [← h2, slotOf_put hb]
  | halt x w2 => cases x <;> simp only [Oper.upon, bot] at h
end
set_option linter.unusedVariables false
/-- What stands in memory: a block's number, where it has one, and what is said of it. -/
def En := Option Nat × (World → Prop)
def bx (p : Nat) (cs : Array Value) (ty : TypeId) : En := (some p, fun w => Bs w p cs ty)
/-- It stands, and does so as long as its block is left alone. -/
def Ok (e : En) (w : World) : Prop := e.2 w ∧ (∀ k, e.1 = some k → k < w.heap.size) ∧ ∀ w', (∀ k, e.1 = some k → w'.heap[k]? = w.heap[k]?) → w.heap.size ≤ w'.heap.size → e.2 w'
def AllE : List En → World → Prop
  | [], _ => True
  | e :: t, w => Ok e w ∧ AllE t w
/-- No two of them are one. -/
def FD (l : List (Option Nat)) : Prop := l.Pairwise fun a b => ∀ k, a = some k → b ≠ some k
/-- All these stand, apart from each other, and what lay below is as it was. -/
def St (w0 : World) (bs : List En) (w : World) : Prop := AllE bs w ∧ FD (bs.map (·.1)) ∧ Below w0.heap.size w0 w
theorem AllB.n {w : World} : AllB [] w := trivial
theorem AllB.c {w : World} {p : Nat} {cs : Array Value} {ty : TypeId} {fz : Nat × Nat} {bs : List BkT} (h : Bs w p cs ty fz) (t : AllB bs w) : AllB ((p, cs, ty, fz) :: bs) w := ⟨h, t⟩
theorem AllB.bl {w w' : World} (hb : Below w.heap.size w w') : ∀ {bs : List BkT}, AllB bs w → AllB bs w'
  | [], _ => trivial
  | _ :: _, h => ⟨Bs.bl h.1 hb, AllB.bl hb h.2⟩
theorem Ok.keep {e : En} {w w' : World} (h : Ok e w) (hk : ∀ k, e.1 = some k → w'.heap[k]? = w.heap[k]?) (hs : w.heap.size ≤ w'.heap.size) : Ok e w' :=
  ⟨h.2.2 w' hk hs, fun k hk' => Nat.lt_of_lt_of_le (h.2.1 k hk') hs, fun w'' h1 h2 => h.2.2 w'' (fun k hk' => (h1 k hk').trans (hk k hk')) (Nat.le_trans hs h2)⟩
theorem AllE.keep {w w' : World} (row : Option Nat) (hg : ∀ k, k < w.heap.size → some k ≠ row → w'.heap[k]? = w.heap[k]?) (hs : w.heap.size ≤ w'.heap.size) : ∀ {bs : List En}, AllE bs w → (∀ f ∈ bs.map (·.1), ∀ k, f = some k → some k ≠ row) → AllE bs w'
  | [], _, _ => trivial
  | e :: t, h, hn => ⟨h.1.keep (fun k hk => hg k (h.1.2.1 k hk) (hn _ (List.mem_cons_self ..) k hk)) hs, AllE.keep row hg hs h.2 fun f hf => hn f (List.mem_cons_of_mem _ hf)⟩
theorem Ok.bx {w : World} {p : Nat} {cs : Array Value} {ty : TypeId} (h : Bs w p cs ty) : Ok (bx p cs ty) w := by
  refine ⟨h, fun k hk => ?_, fun w' hk _ => ?_⟩
  · obtain rfl : p = k := by simpa [Go.Proofs.YtlomgfgedkkhkaaGreatDoor.bx] using hk
    exact h.lt
  · show w'.heap[p]? = _
    rw [hk p rfl]; exact h
theorem AllE.n {w : World} : AllE [] w := trivial
theorem AllE.c {w : World} {p : Nat} {cs : Array Value} {ty : TypeId} {bs : List En} (h : Bs w p cs ty) (t : AllE bs w) : AllE (bx p cs ty :: bs) w := ⟨.bx h, t⟩
theorem AllE.lt {w : World} : ∀ {bs : List En}, AllE bs w → ∀ f ∈ bs.map (·.1), ∀ k, f = some k → k < w.heap.size
  | [], _, _, hf => nomatch hf
  | e :: t, h, f, hf => by
    rcases List.mem_cons.1 hf with rfl | hf
    · exact h.1.2.1
    · exact AllE.lt h.2 f hf
section
variable {w0 w w' : World} {bs t L : List En} {bx0 : En} {p : Nat} {cs cs' : Array Value} {ty : TypeId}
theorem St.nil (w : World) : St w [] w := ⟨trivial, List.Pairwise.nil, Below.refl _ _⟩
theorem St.b (h : St w0 bs w) : Below w0.heap.size w0 w := h.2.2
theorem St.k (h : St w0 bs w) : w0.heap.size ≤ w.heap.size := h.2.2.size
theorem St.bl (h : St w0 bs w) (hb : Below w.heap.size w w') : St w0 bs w' := ⟨h.1.keep none (fun k hk _ => hb.block k hk) hb.size fun f _ k _ hc => (by cases hc), h.2.1, tm h.2.2 hb⟩
theorem St.cons {e : En} (x : Ok e w) (hn : ∀ f ∈ bs.map (·.1), ∀ k, e.1 = some k → f ≠ some k) (h : St w0 bs w) : St w0 (e :: bs) w := ⟨⟨x, h.1⟩, List.pairwise_cons.2 ⟨fun f hf k hk => hn f hf k hk, h.2.1⟩, h.2.2⟩
theorem St.lt (h : St w0 bs w) : ∀ f ∈ bs.map (·.1), ∀ k, f = some k → k < w.heap.size := h.1.lt
theorem St.nw (h : St w0 bs w) (cs : Array Value) (ty : TypeId) : St w0 (bx w.heap.size cs ty :: bs) (w.alloc (.cells cs ty)) ∧ Below w.heap.size w (w.alloc (.cells cs ty)) ∧ Hid (w0.heap.size ≤ w.heap.size) := by
  obtain ⟨p, v, rfl, rfl, x, hb, k⟩ := newBox w cs ty h.k
  exact ⟨.cons (.bx x) (fun f hf k hk hc => by have h1 := h.lt f hf k hc; cases hk; exact Nat.lt_irrefl _ h1) (h.bl hb), hb, k⟩
/-- One of them changes; the others are left alone. -/
theorem AllE.st (row : Option Nat) {e' : En} (hg : ∀ k, k < w.heap.size → some k ≠ row → w'.heap[k]? = w.heap[k]?) (hsz : w.heap.size ≤ w'.heap.size) (x : Ok e' w') : ∀ {bs : List En} (i : Nat) {e : En}, AllE bs w → FD (bs.map (·.1)) → bs[i]? = some e → row = e.1 → AllE (bs.set i e') w'
  | [], i, _, _, _, hi, _ => by simp at hi
  | b :: t, 0, _, h, hn, hi, hr => by
    obtain rfl : b = _ := by simpa using hi
    exact ⟨x, AllE.keep row hg hsz h.2 fun f hf k hk hc => (List.pairwise_cons.1 hn).1 f hf k (hr.symm.trans hc.symm) hk⟩
  | b :: t, i + 1, e, h, hn, hi, hr => by
    have hi' : t[i]? = some e := by simpa using hi
    have hm : e.1 ∈ t.map (·.1) := List.mem_map.2 ⟨_, List.mem_of_getElem? hi', rfl⟩
    exact ⟨h.1.keep (fun k hk => hg k (h.1.2.1 k hk) fun hc => (List.pairwise_cons.1 hn).1 _ hm k hk (by rw [← hr]; exact hc.symm)) hsz, AllE.st row hg hsz x i h.2 (List.pairwise_cons.1 hn).2 hi' hr⟩
theorem FD.st {N : Nat} {e' : En} : ∀ {bs : List En} (i : Nat) {e : En}, FD (bs.map (·.1)) → (∀ f ∈ bs.map (·.1), ∀ k, f = some k → k < N) → bs[i]? = some e → (∀ k, e'.1 = some k → e.1 = some k ∨ N ≤ k) → FD ((bs.set i e').map (·.1))
  | [], i, _, _, _, hi, _ => by simp at hi
  | b :: t, 0, _, hn, hl, hi, hf => by
    obtain rfl : b = _ := by simpa using hi
    refine List.pairwise_cons.2 ⟨fun f hf' k hk hc => ?_, (List.pairwise_cons.1 hn).2⟩
    rcases hf k hk with h | h
    · exact (List.pairwise_cons.1 hn).1 f hf' k h hc
    · have := hl f (List.mem_cons_of_mem _ hf') k hc; omega
  | b :: t, i + 1, e, hn, hl, hi, hf => by
    have hi' : t[i]? = some e := by simpa using hi
    have hm : e.1 ∈ t.map (·.1) := List.mem_map.2 ⟨_, List.mem_of_getElem? hi', rfl⟩
    refine List.pairwise_cons.2 ⟨fun f hf' k hk hc => ?_, FD.st i (List.pairwise_cons.1 hn).2 (fun f h => hl f (List.mem_cons_of_mem _ h)) hi' hf⟩
    obtain ⟨g, hg, rfl⟩ := List.mem_map.1 hf'
    rcases List.mem_or_eq_of_mem_set hg with h | rfl
    · exact (List.pairwise_cons.1 hn).1 _ (List.mem_map.2 ⟨g, h, rfl⟩) k hk hc
    · rcases hf k hc with h | h
      · exact (List.pairwise_cons.1 hn).1 _ hm k hk h
      · have := hl b.1 (List.mem_cons_self ..) k hk; omega
theorem St.st {e e' : En} (h : St w0 bs w) (i : Nat) (hi : bs[i]? = some e) (hg : ∀ k, k < w.heap.size → some k ≠ e.1 → w'.heap[k]? = w.heap[k]?) (hsz : w.heap.size ≤ w'.heap.size) (x : Ok e' w') (hf : ∀ k, e'.1 = some k → e.1 = some k ∨ w.heap.size ≤ k) (hb : Below w0.heap.size w0 w') : St w0 (bs.set i e') w' :=
  ⟨AllE.st e.1 hg hsz x i h.1 h.2.1 hi rfl, FD.st i h.2.1 h.lt hi hf, hb⟩
theorem St.stb (h : St w0 bs w) (i : Nat) (hi : bs[i]? = some (bx p cs ty)) (hk : Hid (w0.heap.size ≤ p)) (x : Bs w' p cs' ty) (ho : Only p w w') : St w0 (bs.set i (bx p cs' ty)) w' :=
  h.st i hi (fun k _ hne => ho.block k fun e => hne (by rw [e]; rfl)) (Nat.le_of_eq ho.size.symm) (.bx x) (fun k hk => .inl hk) (belowOnly h.2.2 ho hk)
theorem St.re {F : List (Option Nat)} (h : AllE bs w) (hd : FD F) (hs : (bs.map (·.1)).Sublist F) (hb : Below w0.heap.size w0 w) : St w0 bs w := ⟨h, List.Pairwise.sublist hs hd, hb⟩
variable {b0 b1 b2 b3 b4 b5 b6 b7 b8 b9 b10 b11 b12 b13 b14 b15 b16 b17 b18 b19 b20 b21 b22 b23 b24 b25 b26 b27 b28 b29 b30 b31 : En}
theorem St.g0 (h : St w0 (bx p cs ty :: t) w) : Bs w p cs ty := h.1.1.1
theorem St.g1 (h : St w0 (b0 :: bx p cs ty :: t) w) : Bs w p cs ty := h.1.2.1.1
theorem St.g2 (h : St w0 (b0 :: b1 :: bx p cs ty :: t) w) : Bs w p cs ty := h.1.2.2.1.1
theorem St.g3 (h : St w0 (b0 :: b1 :: b2 :: bx p cs ty :: t) w) : Bs w p cs ty := h.1.2.2.2.1.1
theorem St.g4 (h : St w0 (b0 :: b1 :: b2 :: b3 :: bx p cs ty :: t) w) : Bs w p cs ty := h.1.2.2.2.2.1.1
theorem St.g5 (h : St w0 (b0 :: b1 :: b2 :: b3 :: b4 :: bx p cs ty :: t) w) : Bs w p cs ty := h.1.2.2.2.2.2.1.1
theorem St.g6 (h : St w0 (b0 :: b1 :: b2 :: b3 :: b4 :: b5 :: bx p cs ty :: t) w) : Bs w p cs ty := h.1.2.2.2.2.2.2.1.1
theorem St.g7 (h : St w0 (b0 :: b1 :: b2 :: b3 :: b4 :: b5 :: b6 :: bx p cs ty :: t) w) : Bs w p cs ty := h.1.2.2.2.2.2.2.2.1.1
theorem St.g8 (h : St w0 (b0 :: b1 :: b2 :: b3 :: b4 :: b5 :: b6 :: b7 :: bx p cs ty :: t) w) : Bs w p cs ty := h.1.2.2.2.2.2.2.2.2.1.1
theorem St.g9 (h : St w0 (b0 :: b1 :: b2 :: b3 :: b4 :: b5 :: b6 :: b7 :: b8 :: bx p cs ty :: t) w) : Bs w p cs ty := h.1.2.2.2.2.2.2.2.2.2.1.1
theorem St.u0 (h : St w0 (bx p cs ty :: t) w) (hk : Hid (w0.heap.size ≤ p)) (x : Bs w' p cs' ty) (ho : Only p w w') : St w0 (bx p cs' ty :: t) w' := h.stb 0 rfl hk x ho
theorem St.u1 (h : St w0 (b0 :: bx p cs ty :: t) w) (hk : Hid (w0.heap.size ≤ p)) (x : Bs w' p cs' ty) (ho : Only p w w') : St w0 (b0 :: bx p cs' ty :: t) w' := h.stb 1 rfl hk x ho
theorem St.u2 (h : St w0 (b0 :: b1 :: bx p cs ty :: t) w) (hk : Hid (w0.heap.size ≤ p)) (x : Bs w' p cs' ty) (ho : Only p w w') : St w0 (b0 :: b1 :: bx p cs' ty :: t) w' := h.stb 2 rfl hk x ho
theorem St.u3 (h : St w0 (b0 :: b1 :: b2 :: bx p cs ty :: t) w) (hk : Hid (w0.heap.size ≤ p)) (x : Bs w' p cs' ty) (ho : Only p w w') : St w0 (b0 :: b1 :: b2 :: bx p cs' ty :: t) w' := h.stb 3 rfl hk x ho
theorem St.u4 (h : St w0 (b0 :: b1 :: b2 :: b3 :: bx p cs ty :: t) w) (hk : Hid (w0.heap.size ≤ p)) (x : Bs w' p cs' ty) (ho : Only p w w') : St w0 (b0 :: b1 :: b2 :: b3 :: bx p cs' ty :: t) w' := h.stb 4 rfl hk x ho
theorem St.u5 (h : St w0 (b0 :: b1 :: b2 :: b3 :: b4 :: bx p cs ty :: t) w) (hk : Hid (w0.heap.size ≤ p)) (x : Bs w' p cs' ty) (ho : Only p w w') : St w0 (b0 :: b1 :: b2 :: b3 :: b4 :: bx p cs' ty :: t) w' := h.stb 5 rfl hk x ho
theorem St.u6 (h : St w0 (b0 :: b1 :: b2 :: b3 :: b4 :: b5 :: bx p cs ty :: t) w) (hk : Hid (w0.heap.size ≤ p)) (x : Bs w' p cs' ty) (ho : Only p w w') : St w0 (b0 :: b1 :: b2 :: b3 :: b4 :: b5 :: bx p cs' ty :: t) w' := h.stb 6 rfl hk x ho
theorem St.u7 (h : St w0 (b0 :: b1 :: b2 :: b3 :: b4 :: b5 :: b6 :: bx p cs ty :: t) w) (hk : Hid (w0.heap.size ≤ p)) (x : Bs w' p cs' ty) (ho : Only p w w') : St w0 (b0 :: b1 :: b2 :: b3 :: b4 :: b5 :: b6 :: bx p cs' ty :: t) w' := h.stb 7 rfl hk x ho
end
/-- What an operation must leave behind: E of the world, G of what goes on. -/
def Stp (P : Program) (o : Oper) (a : Act) (w : World) (B : Exit → Act → World → Prop) (E : World → Prop) (G : Act → World → Prop) : Prop :=
  ∀ K : Act → World → Prop, (∀ a' w', a'.defers = a.defers → E w' → G a' w' → K a' w') → o.wp P a w K B
section
variable {P : Program} {o : Oper} {a : Act} {w w0 : World} {B : Exit → Act → World → Prop} {E : World → Prop} {G : Act → World → Prop} {bs bs' : List En}
theorem Stp.al {cs : Array Value} {ty : TypeId} {a' : Nat → Act} (hs : St w0 bs w)
    (h : ∀ p w', St w0 (bx p cs ty :: bs) w' → Below w.heap.size w w' → Hid (w0.heap.size ≤ p) → G (a' p) w')
    (h1 : ∀ (K : Act → World → Prop) (p : Nat), w.heap.size = p → K (a' p) (w.alloc (.cells cs ty)) → o.wp P a w K B := by intro K p e hK; go_big_op; exact hK)
    (e : ∀ p w', St w0 (bx p cs ty :: bs) w' → Below w.heap.size w w' → E w' := by exact fun _ _ _ _ => trivial)
    (hd : ∀ p, (a' p).defers = a.defers := by exact fun _ => rfl) : Stp P o a w B E G := fun K hK => by
  obtain ⟨h2, h3, h4⟩ := hs.nw cs ty
  exact h1 K _ rfl (hK _ _ (hd _) (e _ _ h2 h3) (h _ _ h2 h3 h4))
theorem Stp.r0 {a' : Act} (h : G a' w) (h1 : ∀ K : Act → World → Prop, K a' w → o.wp P a w K B := by intro K hK; go_big_op; exact hK) (e : E w := by exact trivial) (hd : a'.defers = a.defers := by rfl) : Stp P o a w B E G := fun K hK => h1 K (hK _ _ hd e h)
theorem Stp.mv {a' : Act} (h : G a' w) (h1 : ∀ K : Act → World → Prop, K a' w → o.wp P a w K B := by intro K hK; go_big_move; exact hK) (e : E w := by exact trivial) (hd : a'.defers = a.defers := by rfl) : Stp P o a w B E G := fun K hK => h1 K (hK _ _ hd e h)
theorem Stp.r1 {J : Prop} {a' : Act} (x : J) (h : G a' w) (h1 : J → ∀ K : Act → World → Prop, K a' w → o.wp P a w K B := by intro x K hK; go_big_op; exact hK) (e : E w := by exact trivial) (hd : a'.defers = a.defers := by rfl) : Stp P o a w B E G := fun K hK => h1 x K (hK _ _ hd e h)
theorem Stp.r2 {J K : Prop} {a' : Act} (x : J ∧ K) (h : G a' w) (h1 : J ∧ K → ∀ K : Act → World → Prop, K a' w → o.wp P a w K B := by intro x K hK; obtain ⟨d0, d1⟩ := x; go_big_op; exact hK) (e : E w := by exact trivial) (hd : a'.defers = a.defers := by rfl) : Stp P o a w B E G := fun K hK => h1 x K (hK _ _ hd e h)
theorem Stp.r4 {J K L M : Prop} {a' : Act} (x : J ∧ K ∧ L ∧ M) (h : G a' w) (h1 : J ∧ K ∧ L ∧ M → ∀ K : Act → World → Prop, K a' w → o.wp P a w K B := by intro x K hK; obtain ⟨d0, d1, d2, d3⟩ := x; go_big_op; exact hK) (e : E w := by exact trivial) (hd : a'.defers = a.defers := by rfl) : Stp P o a w B E G := fun K hK => h1 x K (hK _ _ hd e h)
theorem Stp.s2 {b : Nat} {d0 d1 c0 c1 : Value} {ty : TypeId} {a' : Act} (x : Bs w b #[d0, d1] ty) (hu : ∀ w', Bs w' b #[c0, c1] ty → Only b w w' → St w0 bs' w')
    (h : ∀ w', St w0 bs' w' → NoD w b → Only b w w' → G a' w')
    (h1 : w.cell? ⟨b, 0, none⟩ = some d0 → w.cell? ⟨b, 1, none⟩ = some d1 → w.frozen? ⟨b, 0, none⟩ = false → w.frozen? ⟨b, 1, none⟩ = false → ∀ K : Act → World → Prop, K a' ((w.setCell ⟨b, 0, none⟩ c0).setCell ⟨b, 1, none⟩ c1) → o.wp P a w K B := by intro d0 d1 f0 f1 K hK; go_big_op; exact hK)
    (e : ∀ w', St w0 bs' w' → E w' := by exact fun _ _ => trivial) (hd : a'.defers = a.defers := by rfl) (hn : (#[d0, d1] : Array Value).toList.all nd = true := by rfl) (ht : (ty == 56) = false := by rfl) : Stp P o a w B E G := fun K hK => by
  obtain ⟨v, rfl, h2, h3⟩ := x.set2 c0 c1
  exact h1 (x.cell 0 rfl) (x.cell 1 rfl) (x.free 0) (x.free 1) K (hK _ _ hd (e _ (hu _ h2 h3)) (h _ (hu _ h2 h3) (x.nod hn ht) h3))
theorem Stp.s4 {b : Nat} {d0 d1 d2 d3 c0 c1 c2 c3 : Value} {ty : TypeId} {a' : Act} (x : Bs w b #[d0, d1, d2, d3] ty) (hu : ∀ w', Bs w' b #[c0, c1, c2, c3] ty → Only b w w' → St w0 bs' w')
    (h : ∀ w', St w0 bs' w' → NoD w b → Only b w w' → G a' w')
    (h1 : w.cell? ⟨b, 0, none⟩ = some d0 → w.cell? ⟨b, 1, none⟩ = some d1 → w.cell? ⟨b, 2, none⟩ = some d2 → w.cell? ⟨b, 3, none⟩ = some d3 → w.frozen? ⟨b, 0, none⟩ = false → w.frozen? ⟨b, 1, none⟩ = false → w.frozen? ⟨b, 2, none⟩ = false → w.frozen? ⟨b, 3, none⟩ = false → ∀ K : Act → World → Prop, K a' ((((w.setCell ⟨b, 0, none⟩ c0).setCell ⟨b, 1, none⟩ c1).setCell ⟨b, 2, none⟩ c2).setCell ⟨b, 3, none⟩ c3) → o.wp P a w K B := by intro d0 d1 d2 d3 f0 f1 f2 f3 K hK; go_big_op; exact hK)
    (e : ∀ w', St w0 bs' w' → E w' := by exact fun _ _ => trivial) (hd : a'.defers = a.defers := by rfl) (hn : (#[d0, d1, d2, d3] : Array Value).toList.all nd = true := by rfl) (ht : (ty == 56) = false := by rfl) : Stp P o a w B E G := fun K hK => by
  obtain ⟨v, rfl, h2, h3⟩ := x.set4 c0 c1 c2 c3
  exact h1 (x.cell 0 rfl) (x.cell 1 rfl) (x.cell 2 rfl) (x.cell 3 rfl) (x.free 0) (x.free 1) (x.free 2) (x.free 3) K (hK _ _ hd (e _ (hu _ h2 h3)) (h _ (hu _ h2 h3) (x.nod hn ht) h3))
end
section
variable {P : Program} {l : List Oper} {Q : Act → World → Prop} {a : Act} {w w0 : World} {o : Oper} {k : Nat} {C : World → Prop} {ob : Nat → Obj} {B : Nat} {Gs : List (World → Prop)} {CL : List Nat} {bad : List (Nat × Nat)} {bs : List En}
theorem sq {rest : List Nat} (h : Stp P o a w bot (fun _ => True) (wpSq P l Q rest)) (hi : nthO l k = some o := by rfl) (hw : Region.wanted o (yielded l.toArray a.tmps) = true := by kernel_rfl) : wpSq P l Q (k :: rest) a w := wpSq_call hi hw fun K hK => h K fun a' w' h1 _ h3 => hK a' w' h1 h3
theorem tl {rest : List Nat} (h : Stp P o a w bot (keepL bad k 0 Gs) (wpTail P l Gs bad Q rest)) (hi : nthO l k = some o := by rfl) (hw : Region.wanted o (yielded l.toArray a.tmps) = true := by kernel_rfl) : wpTail P l Gs bad Q (k :: rest) a w := wpTail_call hi hw fun K hK => h K hK
theorem sk {rest : List Nat} {a' : Act} (hn : wpSq P l Q rest a' w) (hi : nthO l k = some o := by rfl) (hw : Region.wanted o (yielded l.toArray a.tmps) = false := by kernel_rfl) (hp : a.put o.dst undef = a' := by unfold Act.put; simp only [List.setIfInBounds_toArray, List.set_cons_succ, List.set_cons_zero]; rfl) : wpSq P l Q (k :: rest) a w := wpSq_skip hi hw hp hn
variable {rest : List (Nat × Bool)} {F0 : List Nat}
theorem fl (h : ∀ w', Below w.heap.size w w' → Stp P o a w' bot (fun w'' => Below w'.heap.size w' w'' ∧ C w'') (wpFl P l C Gs CL ob F0 B Q rest)) (hi : nthO l k = some o := by rfl) (hw : Region.wanted o (yielded l.toArray a.tmps) = true := by kernel_rfl) : wpFl P l C Gs CL ob F0 B Q ((k, true) :: rest) a w := wpFl_call hi hw fun w' hb _ K hK => h w' hb K fun a' w'' h1 h2 h3 => hK a' w'' h1 h2.1 h2.2 h3
theorem f0 {G : World → Prop} {a' : Act} (hn : wpFl P l C Gs CL ob F0 B Q rest a' w) (hG : nthG Gs (CL.getD k 99) = G := by rfl) (hi : nthO l k = some o := by rfl) (h1 : ∀ (w' : World) (K : Act → World → Prop), K a' w' → o.wp P a w' K bot := by intro w' K hK; go_big_op; exact hK)
    (hw : Region.wanted o (yielded l.toArray a.tmps) = true := by kernel_rfl) (hv : isV o = true := by kernel_rfl) (hb : inB o.dst a = true := by kernel_rfl) (hp : a.put o.dst (slotOf o.dst a') = a' := by kernel_rfl) : wpFl P l C Gs CL ob F0 B Q ((k, false) :: rest) a w :=
  wpFl_ld hG hi (fun w' _ => h1 w') hw hv hb hp hn
theorem fmv {G : World → Prop} {a' : Act} (hn : wpFl P l C Gs CL ob F0 B Q rest a' w) (hG : nthG Gs (CL.getD k 99) = G := by rfl) (hi : nthO l k = some o := by rfl) (h1 : ∀ (w' : World) (K : Act → World → Prop), K a' w' → o.wp P a w' K bot := by intro w' K hK; go_big_move; exact hK)
    (hw : Region.wanted o (yielded l.toArray a.tmps) = true := by kernel_rfl) (hv : isV o = true := by kernel_rfl) (hb : inB o.dst a = true := by kernel_rfl) (hp : a.put o.dst (slotOf o.dst a') = a' := by kernel_rfl) : wpFl P l C Gs CL ob F0 B Q ((k, false) :: rest) a w :=
  wpFl_ld hG hi (fun w' _ => h1 w') hw hv hb hp hn
theorem f2 {b : Nat} {c0 c1 : Value} {ty : TypeId} {fz : Nat × Nat} {a' : Act} (hn : wpFl P l C Gs CL ob F0 B Q rest a' w) (hG : nthG Gs (CL.getD k 99) = BG (b, #[c0, c1], ty, fz) := by rfl) (hi : nthO l k = some o := by rfl) (h1 : ∀ w' : World, w'.cell? ⟨b, 0, none⟩ = some c0 → w'.cell? ⟨b, 1, none⟩ = some c1 → ∀ K : Act → World → Prop, K a' w' → o.wp P a w' K bot := by intro w' d0 d1 K hK; go_big_op; exact hK)
    (hw : Region.wanted o (yielded l.toArray a.tmps) = true := by kernel_rfl) (hv : isV o = true := by kernel_rfl) (hb : inB o.dst a = true := by kernel_rfl) (hp : a.put o.dst (slotOf o.dst a') = a' := by kernel_rfl) : wpFl P l C Gs CL ob F0 B Q ((k, false) :: rest) a w :=
  wpFl_ld hG hi (fun w' hC => h1 w' (Bs.cell hC 0 rfl) (Bs.cell hC 1 rfl)) hw hv hb hp hn
theorem f4 {b : Nat} {c0 c1 c2 c3 : Value} {ty : TypeId} {fz : Nat × Nat} {a' : Act} (hn : wpFl P l C Gs CL ob F0 B Q rest a' w) (hG : nthG Gs (CL.getD k 99) = BG (b, #[c0, c1, c2, c3], ty, fz) := by rfl) (hi : nthO l k = some o := by rfl) (h1 : ∀ w' : World, w'.cell? ⟨b, 0, none⟩ = some c0 → w'.cell? ⟨b, 1, none⟩ = some c1 → w'.cell? ⟨b, 2, none⟩ = some c2 → w'.cell? ⟨b, 3, none⟩ = some c3 → ∀ K : Act → World → Prop, K a' w' → o.wp P a w' K bot := by intro w' d0 d1 d2 d3 K hK; go_big_op; exact hK)
    (hw : Region.wanted o (yielded l.toArray a.tmps) = true := by kernel_rfl) (hv : isV o = true := by kernel_rfl) (hb : inB o.dst a = true := by kernel_rfl) (hp : a.put o.dst (slotOf o.dst a') = a' := by kernel_rfl) : wpFl P l C Gs CL ob F0 B Q ((k, false) :: rest) a w :=
  wpFl_ld hG hi (fun w' hC => h1 w' (Bs.cell hC 0 rfl) (Bs.cell hC 1 rfl) (Bs.cell hC 2 rfl) (Bs.cell hC 3 rfl)) hw hv hb hp hn
theorem fb {G : World → Prop} {a' : Act} (hn : wpFl P l C Gs CL ob F0 B Q rest a' w) (hG : nthG Gs (CL.getD k 99) = G := by rfl) (hi : nthO l k = some o := by rfl) (h1 : ∀ (w' : World) (K : Act → World → Prop), K a' w' → o.wp P a w' K bot := by intro w' K hK; go_big_op; exact hK)
    (hw : Region.wanted o (yielded l.toArray a.tmps) = true := by kernel_rfl) (hv : isL o = true := by kernel_rfl) (hb : inB o.dst a = true := by kernel_rfl) (hp : a.put o.dst (slotOf o.dst a') = a' := by kernel_rfl) : wpFl P l C Gs CL ob F0 B Q ((k, false) :: rest) a w :=
  wpFl_ldb hG hi (fun w' _ => h1 w') hw hv hb hp hn
theorem e0 {a' : Act} (hs : St w0 bs w) (h : ∀ w', St w0 bs w' → Below w.heap.size w w' → Q a' w') (ha : putF l (fun j => some ((fun _ => 0) j)) [] a = a' := by simp only [putF]; rfl) : wpFl P l C Gs CL ob [] B Q [] a w :=
  wpFl_end (a' := fun _ => a') (fun _ => ha) fun w' _ hb _ _ _ => h w' (hs.bl hb) hb
theorem e1 {j0 : Nat} {cs0 : Array Value} {ty0 : TypeId} {a' : Nat → Act} (hs : St w0 bs w) (hl : ∀ f ∈ bs.map (·.1), ∀ k, f = some k → k < B) (hk : w0.heap.size ≤ B)
    (h : ∀ w' p0, St w0 (bx p0 cs0 ty0 :: bs) w' → Below w.heap.size w w' → Hid (w0.heap.size ≤ p0) → Q (a' p0) w')
    (ha : ∀ p0, putF l (fun j => some (p0)) [j0] a = a' p0 := by intro p0; simp only [putF, nthO, Act.put, ptr, List.setIfInBounds_toArray, List.set_cons_succ, List.set_cons_zero, if_true, if_false, eq_self, Nat.reduceEqDiff, reduceIte]; rfl) (ho0 : ob j0 = .cells cs0 ty0 := by rfl) (hnd : [j0].Nodup := by decide) : wpFl P l C Gs CL ob [j0] B Q [] a w := by
  refine wpFl_end (a' := fun pt => a' (pt j0)) (fun pt => ?_) fun w' pt hb _ hF hD => ?_
  · rw [← ha]
    refine putF_congr fun j hj => ?_
    simp only [List.mem_cons, List.not_mem_nil, or_false] at hj
    congr 1
    rw [hj]
  · have hx : ∀ j ∈ [j0], ∀ f ∈ bs.map (·.1), ∀ k, some (pt j) = some k → f ≠ some k := fun j hj f hf k hk hc => Nat.lt_irrefl _ (Nat.lt_of_lt_of_le (hl _ hf k hc) (by cases hk; exact (hF j hj).1))
    have y0 : Bs w' (pt j0) cs0 ty0 := by have := (hF j0 (by simp)).2; rw [ho0] at this; exact this
    have k0 := Nat.le_trans hk (hF j0 (by simp)).1
    have s0 : St w0 (bx (pt j0) cs0 ty0 :: bs) w' := .cons (.bx y0) (hx j0 (by simp)) (hs.bl hb)
    exact h w' (pt j0) s0 hb k0
theorem e2 {j0 j1 : Nat} {cs0 cs1 : Array Value} {ty0 ty1 : TypeId} {a' : Nat → Nat → Act} (hs : St w0 bs w) (hl : ∀ f ∈ bs.map (·.1), ∀ k, f = some k → k < B) (hk : w0.heap.size ≤ B)
    (h : ∀ w' p0 p1, St w0 (bx p0 cs0 ty0 :: bx p1 cs1 ty1 :: bs) w' → Below w.heap.size w w' → Hid (w0.heap.size ≤ p0) → Hid (w0.heap.size ≤ p1) → Q (a' p0 p1) w')
    (ha : ∀ p0 p1, putF l (fun j => some (if j = j0 then p0 else p1)) [j0, j1] a = a' p0 p1 := by intro p0 p1; simp only [putF, nthO, Act.put, ptr, List.setIfInBounds_toArray, List.set_cons_succ, List.set_cons_zero, if_true, if_false, eq_self, Nat.reduceEqDiff, reduceIte]; rfl) (ho0 : ob j0 = .cells cs0 ty0 := by rfl) (ho1 : ob j1 = .cells cs1 ty1 := by rfl) (hnd : [j0, j1].Nodup := by decide) : wpFl P l C Gs CL ob [j0, j1] B Q [] a w := by
  refine wpFl_end (a' := fun pt => a' (pt j0) (pt j1)) (fun pt => ?_) fun w' pt hb _ hF hD => ?_
  · rw [← ha]
    refine putF_congr fun j hj => ?_
    simp only [List.mem_cons, List.not_mem_nil, or_false] at hj
    congr 1
    (repeat' split) <;> first | rw [show j = j0 by omega] | rw [show j = j1 by omega]
  · have hx : ∀ j ∈ [j0, j1], ∀ f ∈ bs.map (·.1), ∀ k, some (pt j) = some k → f ≠ some k := fun j hj f hf k hk hc => Nat.lt_irrefl _ (Nat.lt_of_lt_of_le (hl _ hf k hc) (by cases hk; exact (hF j hj).1))
    have y0 : Bs w' (pt j0) cs0 ty0 := by have := (hF j0 (by simp)).2; rw [ho0] at this; exact this
    have k0 := Nat.le_trans hk (hF j0 (by simp)).1
    have y1 : Bs w' (pt j1) cs1 ty1 := by have := (hF j1 (by simp)).2; rw [ho1] at this; exact this
    have k1 := Nat.le_trans hk (hF j1 (by simp)).1
    simp only [List.nodup_cons, List.mem_cons, List.not_mem_nil, or_false, List.nodup_nil, and_true, not_false_eq_true] at hnd
    have s1 : St w0 (bx (pt j1) cs1 ty1 :: bs) w' := .cons (.bx y1) (hx j1 (by simp)) (hs.bl hb)
    have s0 : St w0 (bx (pt j0) cs0 ty0 :: bx (pt j1) cs1 ty1 :: bs) w' := .cons (.bx y0) (fun f hf k hk => by
      simp only [List.map_cons, List.mem_cons] at hf
      rcases hf with rfl | hf
      · exact fun hc => hD j0 (by simp) j1 (by simp) (by omega) (Option.some.inj (hk.trans hc.symm))
      · exact hx j0 (by simp) f hf k hk) s1
    exact h w' (pt j0) (pt j1) s0 hb k0 k1
theorem wp_region_f4 {id : Nat} {Q : Exit → Act → World → Prop} (plan1 : List (Nat × Bool)) (plan2 : List Nat) (F0 : List Nat) (ob : Nat → Obj) (CL : List Nat) (bad : List (Nat × Nat)) {bs : List BkT} (hC : AllB bs w) (hl : ∀ j ∈ F0, Lays P l ob j) 
    (h : ∀ w', Below w.heap.size w w' → wpFl P l (AllB bs) (bs.map BG) CL ob F0 w'.heap.size (wpTail P l (bs.map BG) bad (Q .normal) plan2) plan1 a w')
    (hm : P.follows .mixedOrders = true := by kernel_rfl) (hs : Region.noSelect l.toArray = true := by kernel_rfl)
    (hlen : plan1.length + F0.length + plan2.length = l.length := by kernel_rfl) (hok : flOK .any l plan2 (plan1.length + F0.length) (Array.replicate l.length false) plan1 F0 = true := by kernel_rfl) (hpa : planApart l F0 plan1 = true := by kernel_rfl) (hwt : waits .any l CL bad plan1 = true := by kernel_rfl) (hnb : notBad bad plan1 F0 = true := by kernel_rfl) (hsu : sundry l F0 = true := by kernel_rfl) (hnd : F0.Nodup := by decide) : (Code.region id l.toArray true).wp P Q a w :=
  wp_region_fl plan1 plan2 F0 ob CL bad (AllB bs) (bs.map BG) hm hs hlen hok hpa hwt hnb hsu hnd hl (fun _ _ hC => hC.alloc) (fun _ hC => hC.get) (hC.bl (Below.refl _ _).drew) (h _ (Below.refl _ _).drew)
theorem rg {id : Nat} {Q : Exit → Act → World → Prop} (plan : List Nat) (h : wpSq P l (Q .normal) plan a w) (hp : List.range l.length = plan := by kernel_rfl) : (Code.region id l.toArray false).wp P Q a w := wp_region_sq plan hp h
end
/-- A decimal digit. -/
def isD (c : UInt8) : Bool := decide (48 ≤ c.toNat ∧ c.toNat ≤ 57)
/-- What decimal digits are worth. -/
def pval (l : List UInt8) : Nat := l.foldl (fun v c => v * 10 + (c.toNat - 48)) 0
def digitsB (l : List UInt8) : Bool := l.all isD && !l.isEmpty
theorem pval_snoc (l : List UInt8) (c : UInt8) : pval (l ++ [c]) = pval l * 10 + (c.toNat - 48) := by simp [pval]
theorem take_snoc (s : ByteArray) (k : Nat) (h : k < s.size) : s.data.toList.take (k + 1) = s.data.toList.take k ++ [s[k]] := by
  rw [List.take_succ_eq_append_getElem (by simpa using h)]; rfl
theorem take_size (s : ByteArray) : s.data.toList.take s.size = s.data.toList := List.take_of_length_le (Nat.le_of_eq (by rw [Array.length_toList]; rfl))
theorem revInd {p : List UInt8 → Prop} (h0 : p []) (h1 : ∀ l c, p l → p (l ++ [c])) (l : List UInt8) : p l := by
  rw [← List.reverse_reverse l]
  induction l.reverse with
  | nil => exact h0
  | cons c l ih => rw [List.reverse_cons]; exact h1 _ c ih
theorem pval_lt {l : List UInt8} {k : Nat} (hd : l.all isD = true) (hl : l.length ≤ k) : pval l < 10 ^ k := by
  have h : ∀ (l : List UInt8), l.all isD = true → pval l < 10 ^ l.length := by
    intro l
    refine revInd (p := fun l => l.all isD = true → pval l < 10 ^ l.length) ?_ ?_ l
    · intro _; simp [pval]
    · intro l c ih hd
      rw [List.all_append, Bool.and_eq_true] at hd
      have h1 := ih hd.1
      have h2 : isD c = true := by simpa using hd.2
      simp only [isD, decide_eq_true_eq] at h2
      rw [pval_snoc, List.length_append, List.length_singleton, Nat.pow_succ]
      omega
  exact Nat.lt_of_lt_of_le (h l hd) (Nat.pow_le_pow_right (by decide) hl)
set_option maxHeartbeats 400000 in
set_option maxRecDepth 20000 in
theorem isDigits_any (s : ByteArray) (w : World) (hs : s.size ≤ 1000000) :
    Calls Tryz.prog 107 #[.string s] w fun e w' => e = .returned (.bool (digitsB s.data.toList)) ∧ w = w' := by
  obtain ⟨r, Hr⟩ : ∃ r, Hid (digitsB s.data.toList = r) := ⟨_, rfl⟩
  rw [Hr.out]
  go_enter Tryz.func107, Tryz.ntmps107
  go_wp2_with fail
  go_loop [6] (fun i => ∃ k : Nat, k ≤ s.size ∧ i = .int .i64 (k : Int) ∧ (s.data.toList.take k).all isD = true) (fun i => s.size - (intOf i).toNat)
  case atStart => exact ⟨0, Nat.zero_le _, rfl, by simp⟩
  case round =>
    obtain ⟨k, hk, rfl, hall⟩ := hrel
    have Hall := hide hall
    clear hall
    by_cases hlt : k < s.size
    · have hts := take_snoc s k hlt
      by_cases hd : 48 ≤ s[k].toNat ∧ s[k].toNat ≤ 57
      · have h1 : ¬ (s[k].toNat : Int) < 48 := by omega
        have h2 : ¬ (57 : Int) < (s[k].toNat : Int) := by omega
        have HS : Hid ((s.data.toList.take (k + 1)).all isD = true) := by
          show _ = true
          rw [hts, List.all_append, Hall.out]; simp [isD, hd]
        clear hts hd
        go_wp2
        all_goals go_round
        case rel => exact ⟨k + 1, hlt, by go_num, HS.out⟩
        case measure => simp [intOf]; omega
      · have hr : r = false := by
          rw [← Hr.out]
          unfold digitsB
          have : s.data.toList.all isD = false := by
            have e := List.take_append_drop (k + 1) s.data.toList
            rw [← e, List.all_append, hts, List.all_append]
            have : isD s[k] = false := by simp [isD]; omega
            simp [this]
          rw [this]; rfl
        have HR := hide hr
        clear hr hts
        by_cases h1 : s[k].toNat < 48
        · have h1' : (s[k].toNat : Int) < 48 := by omega
          go_wp2
          all_goals go_ret
          all_goals exact ⟨by rw [HR.out]; rfl, rfl⟩
        · have h1' : ¬ (s[k].toNat : Int) < 48 := by omega
          have h2' : (57 : Int) < (s[k].toNat : Int) := by omega
          go_wp2
          all_goals go_ret
          all_goals exact ⟨by rw [HR.out]; rfl, rfl⟩
    · obtain rfl : k = s.size := by omega
      have hr : decide (0 < s.size) = r := by
        rw [← Hr.out]
        have h1 := Hall.out
        rw [take_size] at h1
        unfold digitsB
        rw [h1, Bool.true_and]
        have e : s.size = s.data.toList.length := by rw [Array.length_toList]; rfl
        rw [e]
        cases s.data.toList <;> simp
      have HR := hide hr
      clear hr
      go_wp2_with fail
      go_ret
      refine ⟨?_, rfl⟩
      rw [← HR.out]
      simp
set_option maxHeartbeats 400000 in
set_option maxRecDepth 20000 in
theorem groupValue_any (s : ByteArray) (w : World) (hs : s.size ≤ 9) (hd : s.data.toList.all isD = true) :
    Calls Tryz.prog 109 #[.string s] w fun e w' => e = .returned (.int .u64 (pval s.data.toList : Nat)) ∧ w = w' := by
  have HD := hide hd
  clear hd
  go_enter Tryz.func109, Tryz.ntmps109
  go_wp2_with fail
  go_loop [3, 7] (fun v i => ∃ k : Nat, k ≤ s.size ∧ i = .int .i64 (k : Int) ∧ v = .int .u64 ((pval (s.data.toList.take k) : Nat) : Int)) (fun _ i => s.size - (intOf i).toNat)
  case atStart => exact ⟨0, Nat.zero_le _, rfl, rfl⟩
  case round =>
    obtain ⟨k, hk, rfl, rfl⟩ := hrel
    by_cases hlt : k < s.size
    · have hts := take_snoc s k hlt
      have hall : (s.data.toList.take (k + 1)).all isD = true := by
        have h := HD.out
        rw [← List.take_append_drop (k + 1) s.data.toList, List.all_append, Bool.and_eq_true] at h
        exact h.1
      have hbound := pval_lt (k := 9) (l := s.data.toList.take k) (by
        have h := HD.out
        rw [← List.take_append_drop k s.data.toList, List.all_append, Bool.and_eq_true] at h
        exact h.1) (by rw [List.length_take]; omega)
      have hc : 48 ≤ s[k].toNat ∧ s[k].toNat ≤ 57 := by
        rw [hts, List.all_append, Bool.and_eq_true] at hall
        simpa [isD] using hall.2
      have HP : Hid (pval (s.data.toList.take (k + 1)) = pval (s.data.toList.take k) * 10 + (s[k].toNat - 48)) := by
        show _ = _
        rw [hts, pval_snoc]
      have h1 : 48 ≤ s[k].toNat := hc.1
      have h2 : s[k].toNat ≤ 57 := hc.2
      clear hts hall hc
      generalize pval (s.data.toList.take k) = p at *
      have hp : p < 1000000000 := by simpa using hbound
      clear hbound
      go_wp2
      go_round
      case rel => exact ⟨k + 1, hlt, by go_num, congrArg (fun z : Int => Value.int .u64 z) (by rw [HP.out]; omega)⟩
      case measure => simp [intOf]; omega
    · obtain rfl : k = s.size := by omega
      have e := take_size s
      have E := hide e
      clear e
      go_wp2_with fail
      go_ret
      exact ⟨by rw [E.out]; rfl, rfl⟩
/-- One digit with its carry, and the whole times M. -/
theorem put_step {ds ys : List Nat} {k c x t M g : Nat} (hk : k < ds.length) (hl : ys.length = ds.length) (hx : ds[k]?.getD 0 = x) (heq : val (ys.take k) + pw k * c = val (ds.take k) * M + g) (ht : t = c + x * M) :
    val ((ys.set k (t % 4294967296)).take (k + 1)) + pw (k + 1) * (t / 4294967296) = val (ds.take (k + 1)) * M + g := by
  rw [val_take_succ (by simpa [hl] using hk), val_take_succ hk, hx, getD_set_same (by omega), List.take_set_of_le (Nat.le_refl k), Nat.add_mul, Nat.mul_assoc]
  simp only [pw]
  have e1 : pw k * t = pw k * (t % 4294967296) + 4294967296 * pw k * (t / 4294967296) := by
    conv => lhs; rw [← Nat.mod_add_div t 4294967296]
    rw [Nat.mul_add, Nat.mul_comm 4294967296 (pw k), Nat.mul_assoc]
  have e2 : pw k * t = pw k * c + pw k * (x * M) := by rw [ht, Nat.mul_add]
  omega
theorem canon_snoc {ys : List Nat} {c : Nat} (ok : OK ys) (hc : c < 4294967296) (h0 : c ≠ 0) : ys ++ [c] = dig (val (ys ++ [c])) := by
  rw [dig_val (ok.append (OK.cons hc OK.nil))]
  induction ys with
  | nil => simp [strip, h0]
  | cons y ys ih =>
    have := ih ok.tail
    simp only [List.cons_append, strip]
    rw [← this, if_neg]
    rintro ⟨h, _⟩
    simp at h
theorem canon_top {ys : List Nat} (ok : OK ys) (h : ys.length ≤ (dig (val ys)).length) : ys = dig (val ys) := by
  rw [dig_val ok] at h ⊢
  have h1 := strip_take ys
  have h2 := strip_length_le ys
  rw [show (strip ys).length = ys.length by omega, List.take_length] at h1
  exact h1.symm
set_option maxHeartbeats 1000000 in
set_option maxRecDepth 20000 in
/-- putGroup: an own canonical number times 10^9 and the group. -/
theorem putGroup_any (B n g : Nat) (v : Value) (w : World) (hg : g < 1000000000) (hown : w.ownsRow B 56 1 v (dig n).length ((dig n).map dv)) (hB : B ≤ w.heap.size) (hl : (dig n).length ≤ 1000000000) :
    Calls Tryz.prog 108 #[v, .int .u64 (g : Int)] w fun e w' => ∃ v', e = .returned v' ∧ w'.ownsRow B 56 1 v' (dig (n * 1000000000 + g)).length ((dig (n * 1000000000 + g)).map dv) ∧ Below B w w' := by
  obtain ⟨i0, hi, hz0, hz1, hz2⟩ := info_parts info32
  have okd := OK_dig n
  have hvd := val_dig n
  obtain ⟨ds, Hds⟩ : ∃ ds, Hid (dig n = ds) := ⟨_, rfl⟩
  rw [Hds.out] at hown okd hl hvd
  obtain ⟨oa, cap, hv, hcl⟩ : ∃ oa cap, v = .slice oa ds.length cap ∧ (ds = [] ∨ ∃ gb, oa = some ⟨gb, 0, none⟩ ∧ B ≤ gb) := by
    rcases own_slice hown with ⟨h1, h2, h3⟩ | ⟨gb, cap, h1, h2, _, _⟩
    · have : ds = [] := List.length_eq_zero_iff.1 h2
      subst this
      exact ⟨none, 0, h1, .inl rfl⟩
    · exact ⟨_, cap, h1, .inr ⟨gb, rfl, h2⟩⟩
  subst hv
  go_enter Tryz.func108, Tryz.ntmps108
  go_wp2_with fail
  go_loopw [5, 11] (fun c i wr => ∃ (k c0 : Nat) (ys : List Nat), k ≤ ds.length ∧ c = .int .u64 (c0 : Int) ∧ i = .int .i64 (k : Int) ∧ wr.ownsRow B 56 1 (.slice oa ds.length cap) ds.length (ys.map dv) ∧ ys.length = ds.length ∧ OK ys ∧
    (∀ t, k ≤ t → ys[t]?.getD 0 = ds[t]?.getD 0) ∧ val (ys.take k) + pw k * c0 = val (ds.take k) * 1000000000 + g ∧ c0 < 4294967296 ∧ Below B w wr) (fun _ i _ => ds.length - (intOf i).toNat)
  case atStart => exact ⟨0, g, ds, Nat.zero_le _, rfl, rfl, hown, rfl, okd, fun _ _ => rfl, by simp [val, pw], by omega, Below.refl _ _⟩
  case round =>
    obtain ⟨k, c0, ys, hk, rfl, rfl, hown, hyl, oky, hsame, heq, hc0, hb⟩ := hrel
    have Heq := hide heq
    have Hsame := hide hsame
    have Hyl := hide hyl
    clear heq hsame hyl
    by_cases hlt : k < ds.length
    · obtain ⟨gb, hoa, hgB⟩ := hcl.resolve_left (fun e => by rw [e] at hlt; simp at hlt)
      subst hoa
      obtain ⟨x, Hx⟩ : ∃ x, Hid (ds[k]?.getD 0 = x) := ⟨_, rfl⟩
      have hxb : x < 4294967296 := by have := okd.get k; rw [Hx.out] at this; exact this
      have gu : wr.cell? ⟨gb, k, none⟩ = some (.int .u32 (x : Int)) := by
        rcases own_slice hown with ⟨h1, _⟩ | ⟨g', cap', h1, _, _, h4⟩
        · cases h1
        · cases h1
          rw [h4 k hlt, List.getElem?_map, List.getElem?_eq_getElem (by have := Hyl.out; omega)]
          have h5 := Hsame.out k (Nat.le_refl _)
          rw [Hx.out, List.getElem?_eq_getElem (by have := Hyl.out; omega)] at h5
          simp at h5
          simp [dv, h5]
      have gf := own_frozen hown k
      obtain ⟨t, ht⟩ : ∃ t, c0 + x * 1000000000 = t := ⟨_, rfl⟩
      have hs := put_step hlt Hyl.out Hx.out Heq.out ht.symm
      have HS := hide hs
      have e1 : ((c0 : Int) + (x : Int) * 1000000000) / 4294967296 = ((t / 4294967296 : Nat) : Int) := by omega
      have e2 : ((c0 : Int) + (x : Int) * 1000000000) % 4294967296 = ((t % 4294967296 : Nat) : Int) := by omega
      have E1 := hide e1
      have E2 := hide e2
      have htb : t / 4294967296 < 4294967296 := by omega
      clear hs ht e1 e2
      go_wp2_with fail
      rw [E1.out, E2.out]
      go_roundw
      case rel =>
        exact ⟨k + 1, _, ys.set k (t % 4294967296), hlt, rfl, by go_num, by have := own_setCell hown k hlt (dv (t % 4294967296)); rw [← List.map_set] at this; exact this, by simpa using Hyl.out, oky.set _ (by omega),
          fun i hi => by rw [getD_set_other (by omega)]; exact Hsame.out i (by omega), HS.out, htb, hb.setCell hgB _⟩
      case measure => simp [intOf]; omega
    · obtain rfl : k = ds.length := by omega
      have hval : val ys + pw ds.length * c0 = n * 1000000000 + g := by
        have h1 := Heq.out
        have h2 := Hyl.out
        rw [List.take_length, hvd] at h1
        rw [← h2, List.take_length, h2] at h1; exact h1
      by_cases hc : c0 = 0
      · subst hc
        have hfin : ys = dig (n * 1000000000 + g) := by
          have e : val ys = n * 1000000000 + g := by omega
          rw [← e]
          refine canon_top oky ?_
          rw [Hyl.out, ← Hds.out, e]
          exact dig_length_mono (by omega)
        rw [← Hyl.out, hfin] at hown
        have HF : Hid (ds.length = (dig (n * 1000000000 + g)).length) := by rw [← hfin]; exact Hyl.out.symm
        have HYL := Hyl
        clear hval hfin Hyl
        go_wp2
        go_ret
        exact ⟨_, rfl, by rw [HF.out]; exact hown, hb⟩
      · have hcb : ((c0 : Int) == 0) = false := by rw [beq_eq_false_iff_ne]; omega
        have hcm : (c0 : Int) % 4294967296 = (c0 : Int) := by omega
        have hfin : ys ++ [c0] = dig (n * 1000000000 + g) := by
          rw [canon_snoc oky hc0 hc, val_append, Hyl.out]
          simp only [val, Nat.mul_zero, Nat.add_zero]
          rw [hval]
        have HF := hide hfin
        have hBr : B ≤ wr.heap.size := Nat.le_trans hB hb.size
        clear hval hfin hcm
        go_wp2_with (at_builtin; refine wpList_append_own _ rfl _ _ 24 rfl B 56 i0 (.int .u32 0) 1 4 Tryz.underlying24 hi hz0 hz1 hz2 rfl (by decide) _ _ _ rfl (hown.alloc _) ⟨wr.heap.size, 0, none⟩ 1 1 [.int .u32 (c0 : Int)] rfl rfl ?c1 ?c2 ?c3 ?c4 ?c5 ?_)
        case c1 =>
          intro j u hj
          match j, hj with
          | 0, hj => simp at hj; subst hj; simp [Addr.add]
        case c2 => intro u hu; simp at hu; subst hu; rfl
        case c3 => unfold maxLen; omega
        case c4 => omega
        case c5 => simp; omega
        intro v' w1 hown' hgrow _
        have hown2 : w1.ownsRow B 56 1 v' (dig (n * 1000000000 + g)).length ((dig (n * 1000000000 + g)).map dv) := by
          rw [← HF.out, List.map_append, List.length_append, Hyl.out]; exact hown'
        have hb1 := (hb.alloc hBr (.cells #[.int .u32 (c0 : Int)] 56)).grown hgrow (by simp; omega) (fun k hk => (hown.lt k hk).1)
        clear hown' hgrow hown
        go_wp2
        go_ret
        exact ⟨v', rfl, hown2, hb1⟩
def parseI (s : ByteArray) : Int := if 65536 < s.size then 12 else if digitsB s.data.toList then 0 else 7
def parseD (s : ByteArray) : List Nat := if 65536 < s.size then [] else if digitsB s.data.toList then dig (pval s.data.toList) else []
theorem pval_append (a b : List UInt8) : pval (a ++ b) = pval a * 10 ^ b.length + pval b := by
  refine revInd (p := fun b => pval (a ++ b) = pval a * 10 ^ b.length + pval b) ?_ ?_ b
  · simp [pval]
  · intro l c ih
    rw [← List.append_assoc, pval_snoc, pval_snoc, ih, List.length_append, List.length_singleton, Nat.pow_succ, Nat.add_mul, Nat.mul_assoc, Nat.add_assoc]
theorem two_le_pw' {n m : Nat} (h : n ≤ 32 * m) : 2 ^ n ≤ pw m := by
  rw [pw_eq]; exact Nat.pow_le_pow_right (by decide) h
theorem pval_dig_length {l : List UInt8} (hd : l.all isD = true) (hl : l.length ≤ 65536) : (dig (pval l)).length ≤ 8192 := by
  have h := pval_lt hd (Nat.le_refl _)
  refine dig_length_le (Nat.lt_of_lt_of_le h ?_)
  have e : (10 : Nat) ^ l.length ≤ 16 ^ l.length := Nat.pow_le_pow_left (by decide) _
  have e2 : (16 : Nat) ^ l.length = 2 ^ (4 * l.length) := by rw [Nat.pow_mul]
  rw [e2] at e
  exact Nat.le_trans e (two_le_pw' (by omega))
set_option maxHeartbeats 1000000 in
set_option maxRecDepth 20000 in
theorem parse_any (s : ByteArray) (w : World) (hs : s.size ≤ 1000000000) :
    Calls Tryz.prog 82 #[.string s] w fun e w' => ∃ v, e = .returned (.tuple #[v, .int .i64 (parseI s)]) ∧ Rd w' v (parseD s) ∧ Below w.heap.size w w' := by
  by_cases h1 : 65536 < s.size
  · have e1 : parseI s = 12 := by unfold parseI; rw [if_pos h1]
    have e2 : parseD s = [] := by unfold parseD; rw [if_pos h1]
    rw [e1, e2]
    go_enter Tryz.func82, Tryz.ntmps82
    go_wp2_with fail
    go_ret2
    exact ⟨_, rfl, ⟨none, 0, rfl, Nat.le_refl _, OK.nil, .inl rfl⟩, Below.refl _ _⟩
  · by_cases h2 : digitsB s.data.toList = true
    · have e1 : parseI s = 0 := by unfold parseI; rw [if_neg h1, if_pos h2]
      have e2 : parseD s = dig (pval s.data.toList) := by unfold parseD; rw [if_neg h1, if_pos h2]
      rw [e1, e2]
      have hall : s.data.toList.all isD = true := by unfold digitsB at h2; rw [Bool.and_eq_true] at h2; exact h2.1
      have hne : 0 < s.size := by
        unfold digitsB at h2
        rw [Bool.and_eq_true] at h2
        rcases Nat.eq_zero_or_pos s.size with h | h
        · have e : s.data.toList = [] := List.length_eq_zero_iff.1 (by rw [Array.length_toList]; exact h)
          rw [e] at h2; simp at h2
        · exact h
      have Hall := hide hall
      clear e1 e2 hall
      go_enter Tryz.func82, Tryz.ntmps82
      go_wp2_with fail
      refine (isDigits_any s w (by omega)).mono ?_
      rintro e w' ⟨rfl, rfl⟩
      rw [h2]
      clear h2
      go_wp2_with fail
      go_loopw [4, 5] (fun v i wr => ∃ e q : Nat, i = .int .i64 (e : Int) ∧ 1 ≤ e ∧ e + 9 * q = s.size + 9 ∧ wr.ownsRow w.heap.size 56 1 v (dig (pval (s.data.toList.take (e - 9)))).length ((dig (pval (s.data.toList.take (e - 9)))).map dv) ∧ Below w.heap.size w wr) (fun _ i _ => s.size + 9 - (intOf i).toNat)
      case atStart =>
        refine ⟨(s.size - 1) % 9 + 1, (s.size - 1) / 9 + 1, congrArg (fun z : Int => Value.int .i64 z) (by omega), by omega, by omega, ?_, Below.refl _ _⟩
        rw [show (s.size - 1) % 9 + 1 - 9 = 0 by omega]
        exact World.ownsRow_nil _ _ _ _
      case round =>
        obtain ⟨e, q, rfl, he1, heq, hown, hb⟩ := hrel
        by_cases hq : e ≤ s.size
        · have hpre : (s.data.toList.take (e - 9)).all isD = true := by
            have h := Hall.out
            rw [← List.take_append_drop (e - 9) s.data.toList, List.all_append, Bool.and_eq_true] at h
            exact h.1
          have hlen := pval_dig_length hpre (by rw [List.length_take]; omega)
          have hgd : (s.extract (e - 9) e).data.toList = (s.data.toList.drop (e - 9)).take (e - (e - 9)) := Lib.extract_data s (e - 9) e
          have hgall : (s.extract (e - 9) e).data.toList.all isD = true := by
            rw [hgd]
            have h := Hall.out
            rw [List.all_eq_true] at h ⊢
            exact fun x hx => h x (List.mem_of_mem_drop (List.mem_of_mem_take hx))
          have hgs : (s.extract (e - 9) e).size ≤ 9 := by rw [ByteArray.size_extract]; omega
          have hgv := groupValue_any (s.extract (e - 9) e)
          have hgl : (s.extract (e - 9) e).data.toList.length ≤ 9 := by rw [Array.length_toList]; exact hgs
          have hgb := pval_lt hgall hgl
          have hstep : pval (s.data.toList.take (e - 9)) * 1000000000 + pval (s.extract (e - 9) e).data.toList = pval (s.data.toList.take (e + 9 - 9)) := by
            rw [Nat.add_sub_cancel]
            have hsp : s.data.toList.take e = s.data.toList.take (e - 9) ++ (s.extract (e - 9) e).data.toList := by
              rw [hgd]
              have h1 := List.take_append_drop (e - 9) (s.data.toList.take e)
              rw [List.take_take, Nat.min_eq_left (by omega), List.drop_take] at h1
              exact h1.symm
            rw [hsp, pval_append]
            by_cases h9 : 9 ≤ e
            · have : (s.extract (e - 9) e).data.toList.length = 9 := by
                rw [hgd, List.length_take, List.length_drop, Array.length_toList]
                show min (e - (e - 9)) (s.size - (e - 9)) = 9
                omega
              rw [this]
            · have h0 : e - 9 = 0 := by omega
              rw [h0]; simp [pval]
          have HSt := hide hstep
          have hgb' : pval (s.extract (e - 9) e).data.toList < 1000000000 := by simpa using hgb
          clear hstep hgb hgl hgd hpre
          go_wp2_with fail
          rw [show (max (0 : Int) ((e : Int) - 9)).toNat = e - 9 from by omega]
          refine (hgv wr hgs hgall).mono ?_
          rintro e' w' ⟨rfl, rfl⟩
          generalize hP : pval (s.extract (e - 9) e).data.toList = P at *
          go_wp2_with fail
          refine (putGroup_any w.heap.size _ P _ wr hgb' hown hb.size (by omega)).mono ?_
          rintro e' w2 ⟨v', rfl, hown2, hb2⟩
          rw [HSt.out] at hown2
          clear hP
          go_wp2
          go_roundw
          case rel => exact ⟨e + 9, q - 1, by go_num, by omega, by omega, hown2, hb.trans hb2⟩
          case measure => simp [intOf]; omega
        · have hqe : e = s.size + 9 := by omega
          subst hqe
          rw [Nat.add_sub_cancel, take_size] at hown
          have okd := OK_dig (pval s.data.toList)
          go_wp2_with fail
          go_ret2
          exact ⟨_, rfl, Rd.of_owns okd hown, hb⟩
    · have e1 : parseI s = 7 := by unfold parseI; rw [if_neg h1, if_neg h2]
      have e2 : parseD s = [] := by unfold parseD; rw [if_neg h1, if_neg h2]
      rw [e1, e2]
      have h2' : digitsB s.data.toList = false := by simpa using h2
      clear h2
      go_enter Tryz.func82, Tryz.ntmps82
      go_wp2_with fail
      refine (isDigits_any s w (by omega)).mono ?_
      rintro e w' ⟨rfl, rfl⟩
      rw [h2']
      go_wp2
      go_ret2
      exact ⟨_, rfl, ⟨none, 0, rfl, Nat.le_refl _, OK.nil, .inl rfl⟩, Below.refl _ _⟩
end Go.Proofs.YtlomgfgedkkhkaaGreatDoor
