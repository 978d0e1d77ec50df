/- Walks that name each world and each block: blocks of any cells, and the steps of a region, one by one. -/
import Derived.Test.YtkgbfnmlpajblaaGreatDoorZ9

namespace Go.Proofs.YtkgbfnmlpajblaaGreatDoor
open Go Go.RowKit Dig

/-- Block b holds these cells; it may be written. -/
def Bs (w : World) (b : Nat) (cs : Array Value) (ty : TypeId) : Prop := w.heap[b]? = some (.cells cs ty)
theorem Bs.lt {w : World} {b : Nat} {cs : Array Value} {ty : TypeId} (h : Bs w b cs ty) : b < w.heap.size := by
  unfold Bs at h
  rcases Nat.lt_or_ge b w.heap.size with hb | hb
  · exact hb
  · rw [Array.getElem?_eq_none hb] at h; cases h
theorem Bs.below {w w' : World} {b : Nat} {cs : Array Value} {ty : TypeId} (h : Bs w b cs ty) {B : Nat} (hb : Below B w w') (hB : w.heap.size ≤ B) : Bs w' b cs ty := by
  have := h.lt
  unfold Bs; rw [hb.block b (by omega)]; exact h
theorem Bs.cell {w : World} {b : Nat} {cs : Array Value} {ty : TypeId} (h : Bs w b cs ty) (i : Nat) {c : Value} (hc : cs[i]? = some c) : w.cell? ⟨b, i, none⟩ = some c := by
  unfold Bs at h
  simp only [World.cell?, h]
  exact hc
theorem Bs.bl {w w' : World} {b : Nat} {cs : Array Value} {ty : TypeId} (h : Bs w b cs ty) (hb : Below w.heap.size w w') : Bs w' b cs ty := h.below hb (Nat.le_refl _)
theorem ZN.bl {w w' : World} {v : Value} {z : Int} {l : Nat} (h : ZN w v z l) (hb : Below w.heap.size w w') : ZN w' v z l := h.below hb (Nat.le_refl _)
theorem ZC.bl {w w' : World} {v : Value} {z : Int} (h : ZC w v z) (hb : Below w.heap.size w w') : ZC w' v z := h.below hb (Nat.le_refl _)
theorem Bs.f1 {w : World} {b : Nat} {c0 : Value} {ty : TypeId} (h : Bs w b #[c0] ty) : w.cell? ⟨b, 0, none⟩ = some c0 := h.cell 0 rfl
theorem Bs.f2 {w : World} {b : Nat} {c0 c1 : Value} {ty : TypeId} (h : Bs w b #[c0, c1] ty) : w.cell? ⟨b, 0, none⟩ = some c0 ∧ w.cell? ⟨b, 1, none⟩ = some c1 := ⟨h.cell 0 rfl, h.cell 1 rfl⟩
theorem Bs.f4 {w : World} {b : Nat} {c0 c1 c2 c3 : Value} {ty : TypeId} (h : Bs w b #[c0, c1, c2, c3] ty) :
    w.cell? ⟨b, 0, none⟩ = some c0 ∧ w.cell? ⟨b, 1, none⟩ = some c1 ∧ w.cell? ⟨b, 2, none⟩ = some c2 ∧ w.cell? ⟨b, 3, none⟩ = some c3 := ⟨h.cell 0 rfl, h.cell 1 rfl, h.cell 2 rfl, h.cell 3 rfl⟩
theorem Bs.free {w : World} {b : Nat} {cs : Array Value} {ty : TypeId} (h : Bs w b cs ty) (i : Nat) : w.frozen? ⟨b, i, none⟩ = false := by
  unfold Bs at h
  simp [World.frozen?, h]
theorem Bs.set {w : World} {b : Nat} {cs : Array Value} {ty : TypeId} (h : Bs w b cs ty) (i : Nat) (v : Value) : Bs (w.setCell ⟨b, i, none⟩ v) b (cs.setIfInBounds i v) ty := by
  unfold Bs at h ⊢
  simp only [World.setCell, Array.getElem?_modify, h]
  simp
theorem Bs.frame {w w' : World} {b c : Nat} {cs : Array Value} {ty : TypeId} (h : Bs w b cs ty) (ho : Only c w w') (hne : Hid (b ≠ c)) : Bs w' b cs ty := by
  unfold Bs; rw [ho.block b hne]; exact h
def setAll (w : World) (b : Nat) : List (Nat × Value) → World
  | [] => w
  | (i, v) :: l => setAll (w.setCell ⟨b, i, none⟩ v) b l
def setArr (cs : Array Value) : List (Nat × Value) → Array Value
  | [] => cs
  | (i, v) :: l => setArr (cs.setIfInBounds i v) l
theorem Bs.sets {w : World} {b : Nat} {cs : Array Value} {ty : TypeId} (h : Bs w b cs ty) : ∀ l : List (Nat × Value), Bs (setAll w b l) b (setArr cs l) ty ∧ Only b w (setAll w b l) := by
  intro l
  induction l generalizing w cs with
  | nil => exact ⟨h, Only.refl _ _⟩
  | cons x l ih =>
    obtain ⟨i, v⟩ := x
    obtain ⟨h1, h2⟩ := ih (h.set i v)
    exact ⟨h1, ((Only.refl b w).setCell i v).trans h2⟩
theorem Bs.setN {w : World} {b : Nat} {cs : Array Value} {ty : TypeId} (h : Bs w b cs ty) (l : List (Nat × Value)) : ∃ w', setAll w b l = w' ∧ Bs w' b (setArr cs l) ty ∧ Only b w w' :=
  ⟨_, rfl, (h.sets l).1, (h.sets l).2⟩
/-- A new block gets a name, and so does the world. -/
theorem newBox (w : World) (cs : Array Value) (ty : TypeId) {B : Nat} (hB : B ≤ w.heap.size) : ∃ p w', w.heap.size = p ∧ w.alloc (.cells cs ty) = w' ∧ Bs w' p cs ty ∧ Below w.heap.size w w' ∧ Hid (B ≤ p) := by
  refine ⟨_, _, rfl, rfl, ?_, (Below.refl _ _).alloc (Nat.le_refl _) _, hB⟩
  show (w.heap.push _)[w.heap.size]? = _
  simp
def nd : Value → Bool
  | .int .u32 _ => false
  | _ => true
/-- A block that bears no digit. -/
def NoD (w : World) (b : Nat) : Prop := (∀ off (d : Nat), w.cell? ⟨b, off, none⟩ ≠ some (.int .u32 (d : Int))) ∧ ∀ xs, ¬ Row w b xs
theorem Bs.nod {w : World} {b : Nat} {cs : Array Value} {ty : TypeId} (h : Bs w b cs ty) (hc : cs.toList.all nd = true) (ht : (ty == 72) = false) : NoD w b := by
  have h0 := h
  unfold Bs at h0
  refine ⟨fun off d hcell => ?_, fun xs hr => ?_⟩
  · simp only [World.cell?, h0] at hcell
    have h2 : cs[off]? = some (.int .u32 (d : Int)) := by simpa using hcell
    have := List.all_eq_true.1 hc _ (Array.mem_toList_iff.2 (Array.mem_of_getElem? h2))
    simp [nd] at this
  · have h3 := hr.1
    rw [h0] at h3
    simp only [Option.some.injEq, Obj.cells.injEq] at h3
    have := h3.2.1
    rw [this] at ht
    simp at ht
theorem Cells.fr {w w' : World} {b : Nat} {oa : Option Addr} {ds : List Nat} (h : Cells w oa ds) (hb : NoD w b) (ho : Only b w w') : Cells w' oa ds := by
  by_cases hne : ds = []
  · exact .inl hne
  · obtain ⟨c, off, e, hc⟩ := h.resolve_left hne
    refine h.only ho ?_
    intro a ha
    rw [e] at ha
    cases ha
    intro hcb
    have := hc 0 (List.length_pos_iff.2 hne)
    simp only at hcb
    rw [hcb] at this
    exact hb.1 _ _ this
theorem Rd.fr {w w' : World} {b : Nat} {v : Value} {ds : List Nat} (h : Rd w v ds) (hb : NoD w b) (ho : Only b w w') : Rd w' v ds := by
  obtain ⟨oa, cap, hv, hc, ok, hx⟩ := h
  exact ⟨oa, cap, hv, hc, ok, hx.fr hb ho⟩
theorem ZN.fr {w w' : World} {b : Nat} {v : Value} {z : Int} {l : Nat} (h : ZN w v z l) (hb : NoD w b) (ho : Only b w w') : ZN w' v z l := by
  obtain ⟨neg, s, xs, hv, hr, hz, hl⟩ := h
  exact ⟨neg, s, xs, hv, hr.fr hb ho, hz, hl⟩
theorem ZC.fr {w w' : World} {b : Nat} {v : Value} {z : Int} (h : ZC w v z) (hb : NoD w b) (ho : Only b w w') : ZC w' v z := by
  obtain ⟨s, hv, hr⟩ := h
  exact ⟨s, hv, hr.fr hb ho⟩
theorem belowOnly {B b : Nat} {u w w' : World} (h : Below B u w) (ho : Only b w w') (hb : Hid (B ≤ b)) : Below B u w' := h.trans (ho.below hb)
theorem ZC.lenOf {w : World} {v : Value} {z : Int} (_ : ZC w v z) {l : Nat} (hl : (dig z.natAbs).length ≤ l) : (dig z.natAbs).length ≤ l := hl
theorem ZN.lenOf {w : World} {v : Value} {z : Int} {m : Nat} (_ : ZN w v z m) {l : Nat} (hl : (dig z.natAbs).length ≤ l) : (dig z.natAbs).length ≤ l := hl
/-- Two whole numbers in one struct. -/
def PN (w : World) (v : Value) (x : Int) (l : Nat) (y : Int) (m : Nat) : Prop :=
  ∃ n1 o1 k1 c1 n2 o2 k2 c2, v = .agg #[.bool n1, .slice o1 k1 c1, .bool n2, .slice o2 k2 c2] ∧ ZN w (.agg #[.bool n1, .slice o1 k1 c1]) x l ∧ ZN w (.agg #[.bool n2, .slice o2 k2 c2]) y m
def PC (w : World) (v : Value) (x y : Int) : Prop :=
  ∃ n1 o1 k1 c1 n2 o2 k2 c2, v = .agg #[.bool n1, .slice o1 k1 c1, .bool n2, .slice o2 k2 c2] ∧ ZC w (.agg #[.bool n1, .slice o1 k1 c1]) x ∧ ZC w (.agg #[.bool n2, .slice o2 k2 c2]) y
theorem PN.mk' {w : World} {n1 n2 : Bool} {o1 o2 : Option Addr} {k1 c1 k2 c2 : Nat} {x y : Int} {l m : Nat} (h1 : ZN w (.agg #[.bool n1, .slice o1 k1 c1]) x l) (h2 : ZN w (.agg #[.bool n2, .slice o2 k2 c2]) y m) :
    PN w (.agg #[.bool n1, .slice o1 k1 c1, .bool n2, .slice o2 k2 c2]) x l y m := ⟨_, _, _, _, _, _, _, _, rfl, h1, h2⟩
theorem PC.mk' {w : World} {n1 n2 : Bool} {o1 o2 : Option Addr} {k1 c1 k2 c2 : Nat} {x y : Int} (h1 : ZC w (.agg #[.bool n1, .slice o1 k1 c1]) x) (h2 : ZC w (.agg #[.bool n2, .slice o2 k2 c2]) y) :
    PC w (.agg #[.bool n1, .slice o1 k1 c1, .bool n2, .slice o2 k2 c2]) x y := ⟨_, _, _, _, _, _, _, _, rfl, h1, h2⟩
theorem PN.below {w w' : World} {v : Value} {x y : Int} {l m : Nat} (h : PN w v x l y m) {B : Nat} (hb : Below B w w') (hB : w.heap.size ≤ B) : PN w' v x l y m := by
  obtain ⟨n1, o1, k1, c1, n2, o2, k2, c2, rfl, h1, h2⟩ := h
  exact .mk' (h1.below hb hB) (h2.below hb hB)
theorem PC.below {w w' : World} {v : Value} {x y : Int} (h : PC w v x y) {B : Nat} (hb : Below B w w') (hB : w.heap.size ≤ B) : PC w' v x y := by
  obtain ⟨n1, o1, k1, c1, n2, o2, k2, c2, rfl, h1, h2⟩ := h
  exact .mk' (h1.below hb hB) (h2.below hb hB)
theorem PN.len1 {w : World} {v : Value} {x y : Int} {l m : Nat} (h : PN w v x l y m) : (dig x.natAbs).length ≤ l := by
  obtain ⟨_, _, _, _, _, _, _, _, _, h1, _⟩ := h
  exact h1.len
theorem PN.len2 {w : World} {v : Value} {x y : Int} {l m : Nat} (h : PN w v x l y m) : (dig y.natAbs).length ≤ m := by
  obtain ⟨_, _, _, _, _, _, _, _, _, _, h1⟩ := h
  exact h1.len
theorem zlen_0 : (dig (Int.natAbs 0)).length ≤ 1 := by rw [show dig (Int.natAbs 0) = [] from dig_eq_nil.2 rfl]; exact Nat.zero_le _
theorem zlen_neg {x : Int} {l : Nat} (h : (dig x.natAbs).length ≤ l) : (dig (-x).natAbs).length ≤ l := by rw [Int.natAbs_neg]; exact h
theorem zlen_gcd {x y : Int} {l m : Nat} (hx : (dig x.natAbs).length ≤ l) (hy : (dig y.natAbs).length ≤ m) : (dig (Int.gcd x y : Int).natAbs).length ≤ l + m := by
  rw [Int.natAbs_natCast]
  by_cases h : y = 0
  · subst h
    rw [Int.gcd_zero_right]; exact Nat.le_trans hx (Nat.le_add_right _ _)
  · exact Nat.le_trans (len_le (Nat.le_of_dvd (Int.natAbs_pos.2 h) (Int.gcd_dvd_natAbs_right x y)) hy) (Nat.le_add_left _ _)
section
variable {P : Program} {l : List Oper} {Q : Act → World → Prop} {a : Act} {w : World} {o : Oper}

/-- A region that does not draw, operation by operation. -/
def wpSq (P : Program) (l : List Oper) (Q : Act → World → Prop) : List Nat → Act → World → Prop
  | [], a, w => Q a w
  | k :: rest, a, w => ∃ o, nthO l k = some o ∧ if Region.wanted o (yielded l.toArray a.tmps) then Calm P o a w (fun v w' => wpSq P l Q rest (a.put o.dst v) w') else wpSq P l Q rest (a.put o.dst undef) w
theorem wpOps_of_sq {Q' : Exit → Act → World → Prop} (hQ : ∀ a w, Q a w → Q' .normal a w) : ∀ (plan : List Nat) (a : Act) (w : World), wpSq P l Q plan a w → wpOps P l.toArray Q' plan a w
  | [], a, w, h => hQ _ _ h
  | k :: rest, a, w, h => by
    obtain ⟨o, ho, h⟩ := h
    unfold wpOps
    rw [show l.toArray[k]? = some o by rw [← nthO_eq] at ho; simpa using ho]
    simp only
    split
    · rename_i hw
      simp only [hw, if_true] at h
      exact .inl (Calm.wp (h.mono fun v w' h3 => wpOps_of_sq hQ rest _ _ h3))
    · rename_i hw
      simp only [hw] at h
      exact wpOps_of_sq hQ rest _ _ h
theorem wp_region_sq {id : Nat} {Q : Exit → Act → World → Prop} (plan : List Nat) (hp : List.range l.length = plan) (h : wpSq P l (Q .normal) plan a w) : (Code.region id l.toArray false).wp P Q a w := by
  refine wp_region ?_
  rw [show l.toArray.size = l.length by simp, hp]
  exact wpOps_of_sq (fun _ _ h => h) _ _ _ h
theorem wpSq_call {k : Nat} {rest : List Nat} (hi : nthO l k = some o) (hw : Region.wanted o (yielded l.toArray a.tmps) = true)
    (h : ∀ K : Act → World → Prop, (∀ a' w', a'.defers = a.defers → wpSq P l Q rest a' w' → K a' w') → o.wp P a w K bot) : wpSq P l Q (k :: rest) a w := by
  refine ⟨o, hi, ?_⟩
  rw [if_pos hw]
  have h := h (fun a' w' => a'.defers = a.defers ∧ wpSq P l Q rest a' w') (fun a' w' h1 h2 => ⟨h1, h2⟩)
  unfold Oper.wp at h
  unfold Calm
  generalize (execOp a.eval o).run P w = r at *
  cases r with
  | ok n w2 =>
    cases n <;> simp only [Oper.upon] at h ⊢
    case value => exact h.2
    case skip => exact h.2
    case defer =>
      have h1 := h.1
      unfold Act.put at h1
      split at h1 <;> simp at h1
    case enter =>
      refine h.mono fun e w'' he => ?_
      cases e with
      | returned v => exact ⟨v, rfl, he.2⟩
      | panicked c => exact he.elim
      | outgrown => obtain ⟨_, _, hf⟩ := he; exact hf.elim
    case row => exact Rows.mono h fun v w'' he => he.2
  | halt x w2 => cases x <;> simp only [Oper.upon, bot] at h
theorem wpSq_skip {k : Nat} {rest : List Nat} {a' : Act} (hi : nthO l k = some o) (hw : Region.wanted o (yielded l.toArray a.tmps) = false) (hp : a.put o.dst undef = a')
    (hn : wpSq P l Q rest a' w) : wpSq P l Q (k :: rest) a w :=
  ⟨o, hi, by rw [if_neg (by rw [hw]; exact Bool.false_ne_true), hp]; exact hn⟩
theorem wp_region_fl2 {id : Nat} {Q : Exit → Act → World → Prop} (plan1 : List (Nat × Bool)) (plan2 : List Nat) (F0 : List Nat) (ob : Nat → Obj) (CL : List Nat) (bad : List (Nat × Nat)) (C : World → Prop) (Gs : List (World → Prop)) (hm : P.follows .mixedOrders = true) (hs : Region.noSelect l.toArray = true)
    (hlen : plan1.length + F0.length + plan2.length = l.length) (hok : flOK .any l plan2 (plan1.length + F0.length) (Array.replicate l.length false) plan1 F0 = true) (hpa : planApart l F0 plan1 = true) (hwt : waits .any l CL bad plan1 = true) (hnb : notBad bad plan1 F0 = true) (hsu : sundry l F0 = true) (hnd : F0.Nodup)
    (hl : ∀ j ∈ F0, Lays P l ob j) (hCa : ∀ w o, C w → C (w.alloc o)) (hCG : ∀ w, C w → ∀ G ∈ Gs, G w)
    (h : ∀ w', Below w.heap.size w w' → C w' ∧ wpFl P l C Gs CL ob F0 w'.heap.size (wpTail P l Gs bad (Q .normal) plan2) plan1 a w') : (Code.region id l.toArray true).wp P Q a w :=
  wp_region_fl plan1 plan2 F0 ob CL bad C Gs hm hs hlen hok hpa hwt hnb hsu hnd hl hCa hCG (h _ (Below.refl _ _).drew).1 (h _ (Below.refl _ _).drew).2
theorem wpSq_end (h : Q a w) : wpSq P l Q [] a w := h
end
end Go.Proofs.YtkgbfnmlpajblaaGreatDoor

/- frac.Make: lowest terms. -/
namespace Go.Proofs.YtkgbfnmlpajblaaGreatDoor
open Go Go.RowKit Dig
set_option linter.unusedVariables false

/-- What both parts of a rational are divided by. -/
def qg (x y : Int) : Int := if y < 0 then -(Int.gcd x y : Int) else (Int.gcd x y : Int)
def qN (x y : Int) : Int := x.fdiv (qg x y)
def qD (x y : Int) : Int := y.fdiv (qg x y)
theorem gcd_ne {x y : Int} (h : y ≠ 0) : (Int.gcd x y : Int) ≠ 0 := by
  intro h0
  have := Int.gcd_eq_zero_iff.1 (by exact_mod_cast h0)
  exact h this.2
theorem qg_ne {x y : Int} (h : y ≠ 0) : qg x y ≠ 0 := by
  have := gcd_ne (x := x) h
  unfold qg; split <;> omega
theorem qg_dvd (x y : Int) : qg x y ∣ x ∧ qg x y ∣ y := by
  unfold qg; split
  · exact ⟨Int.neg_dvd.2 (Int.gcd_dvd_left x y), Int.neg_dvd.2 (Int.gcd_dvd_right x y)⟩
  · exact ⟨Int.gcd_dvd_left x y, Int.gcd_dvd_right x y⟩
theorem fmod_dvd {x g : Int} (h : g ∣ x) : x.fmod g = 0 := Int.fmod_eq_zero_of_dvd h
theorem qN_eq {x y : Int} : x = qN x y * qg x y := by
  have := fmod_eq x (qg x y)
  rw [fmod_dvd (qg_dvd x y).1, Int.add_zero] at this
  exact this
theorem qD_eq {x y : Int} : y = qD x y * qg x y := by
  have := fmod_eq y (qg x y)
  rw [fmod_dvd (qg_dvd x y).2, Int.add_zero] at this
  exact this
theorem qD_pos {x y : Int} (h : y ≠ 0) : 0 < qD x y := by
  have h1 := qD_eq (x := x) (y := y)
  have h2 := gcd_ne (x := x) h
  generalize qD x y = d at *
  unfold qg at h1
  have h3 : 0 ≤ (Int.gcd x y : Int) := by omega
  split at h1
  · rename_i hy
    by_cases hd : 0 < d
    · exact hd
    · exfalso
      have := Int.mul_nonneg (show 0 ≤ -d by omega) h3
      rw [Int.mul_neg] at h1
      rw [Int.neg_mul] at this
      omega
  · rename_i hy
    by_cases hd : 0 < d
    · exact hd
    · exfalso
      have := Int.mul_nonneg (show 0 ≤ -d by omega) h3
      rw [Int.neg_mul] at this
      omega
theorem zlen_qg {x y : Int} {l m : Nat} (hx : (dig x.natAbs).length ≤ l) (hy : (dig y.natAbs).length ≤ m) : (dig (qg x y).natAbs).length ≤ l + m := by
  unfold qg; split
  · exact zlen_neg (zlen_gcd hx hy)
  · exact zlen_gcd hx hy
set_option maxHeartbeats 4000000 in
set_option maxRecDepth 20000 in
theorem fmake_pos {w : World} {va vb : Value} {x y : Int} {l m : Nat} (ha : ZN w va x l) (hq : ZN w vb y m) (hl : l ≤ 100000000) (hm : m ≤ 100000000) (h0 : 0 < y) :
    Calls Tryz.prog 11 #[va, vb] w fun e w' => ∃ v, e = .returned (.tuple #[v, .int .i64 0]) ∧ PC w' v (qN x y) (qD x y) ∧ Below w.heap.size w w' := by
  have hg : qg x y = (Int.gcd x y : Int) := by unfold qg; rw [if_neg (by omega)]
  have HG := hide (qg_ne (x := x) (y := y) (by omega))
  have HX := hide (fmod_dvd (qg_dvd x y).1)
  have HY := hide (fmod_dvd (qg_dvd x y).2)
  have HS := hide (show y.sign = 1 from Int.sign_eq_one_of_pos h0)
  have EG := hide hg
  clear hg
  obtain ⟨n_0, o_0, k_0, c_0, rfl⟩ := ha.open2
  obtain ⟨n_1, o_1, k_1, c_1, rfl⟩ := hq.open2
  go_enter Tryz.func11, Tryz.ntmps11
  have hb := Below.refl w.heap.size w
  refine wp_seq_k ?_
  intro K1 hK1
  refine wp_region_sq [0, 1, 2, 3] (by kernel_rfl) ?_
  refine wpSq_call rfl (by kernel_rfl) fun K hK => ?_
  go_big_op
  obtain ⟨p_b1, w_1, eP, eW, x_b1, hn, kb_b1⟩ := newBox w #[.bool n_0, .slice o_0 k_0 c_0] 24 hb.size
  rw [eW, eP]
  clear eW eP
  replace ha := ha.bl hn; replace hq := hq.bl hn; replace hb := hb.trans (hn.mono hb.size)
  refine hK _ _ rfl ?_; clear hK K hn
  refine wpSq_call rfl (by kernel_rfl) fun K hK => ?_
  go_big_op
  have lt_b1 := x_b1.lt
  obtain ⟨p_b2, w_2, eP, eW, x_b2, hn, kb_b2⟩ := newBox w_1 #[.bool n_1, .slice o_1 k_1 c_1] 24 hb.size
  have ne_b1_b2 : Hid (p_b1 ≠ p_b2) := Nat.ne_of_lt (eP ▸ lt_b1)
  rw [eW, eP]
  clear eW eP lt_b1
  replace ha := ha.bl hn; replace hq := hq.bl hn; replace x_b1 := x_b1.bl hn; replace hb := hb.trans (hn.mono hb.size)
  refine hK _ _ rfl ?_; clear hK K hn
  refine wpSq_call rfl (by kernel_rfl) fun K hK => ?_
  go_big_op
  have lt_b1 := x_b1.lt
  have lt_b2 := x_b2.lt
  obtain ⟨p_b3, w_3, eP, eW, x_b3, hn, kb_b3⟩ := newBox w_2 #[.bool false, .slice none 0 0, .bool false, .slice none 0 0] 26 hb.size
  have ne_b1_b3 : Hid (p_b1 ≠ p_b3) := Nat.ne_of_lt (eP ▸ lt_b1)
  have ne_b2_b3 : Hid (p_b2 ≠ p_b3) := Nat.ne_of_lt (eP ▸ lt_b2)
  rw [eW, eP]
  clear eW eP lt_b1 lt_b2
  replace ha := ha.bl hn; replace hq := hq.bl hn; replace x_b1 := x_b1.bl hn; replace x_b2 := x_b2.bl hn; replace hb := hb.trans (hn.mono hb.size)
  refine hK _ _ rfl ?_; clear hK K hn
  refine wpSq_call rfl (by kernel_rfl) fun K hK => ?_
  go_big_move; refine hK _ _ rfl ?_; clear hK K
  apply wpSq_end
  refine hK1 _ _ ?_
  refine wp_seq_k ?_
  intro K2 hK2
  refine wp_seq_k ?_
  intro K3 hK3
  refine wp_region_sq [0, 1, 2] (by kernel_rfl) ?_
  refine wpSq_call rfl (by kernel_rfl) fun K hK => ?_
  obtain ⟨d0, d1⟩ := x_b2.f2
  go_big_op; refine hK _ _ rfl ?_; clear hK K d0 d1
  refine wpSq_call rfl (by kernel_rfl) fun K hK => ?_
  go_big_op
  go_fit (zsign_any hq (by omega) )
  rintro e w_4 ⟨rfl, hb_4⟩
  replace ha := ha.bl hb_4; replace hq := hq.bl hb_4; replace x_b1 := x_b1.bl hb_4; replace x_b2 := x_b2.bl hb_4; replace x_b3 := x_b3.bl hb_4; replace hb := hb.trans (hb_4.mono hb.size)
  rw [HS.out]
  refine hK _ _ rfl ?_
  clear hK K hb_4
  refine wpSq_call rfl (by kernel_rfl) fun K hK => ?_
  go_big_op; refine hK _ _ rfl ?_; clear hK K
  apply wpSq_end
  refine hK3 _ _ ?_
  refine wp_cond_false (congrArg Value.bool (show _ = false from (by first | rfl | assumption | (simp; done) | omega))) ?_
  refine wp_skip ?_
  refine hK2 _ _ ?_
  refine wp_seq_k ?_
  intro K4 hK4
  refine wp_region_sq [0, 1, 2, 3, 4] (by kernel_rfl) ?_
  refine wpSq_call rfl (by kernel_rfl) fun K hK => ?_
  obtain ⟨d0, d1⟩ := x_b1.f2
  go_big_op; refine hK _ _ rfl ?_; clear hK K d0 d1
  refine wpSq_call rfl (by kernel_rfl) fun K hK => ?_
  obtain ⟨d0, d1⟩ := x_b2.f2
  go_big_op; refine hK _ _ rfl ?_; clear hK K d0 d1
  refine wpSq_call rfl (by kernel_rfl) fun K hK => ?_
  go_big_op
  go_fit (zgcd_any ha hq (by omega) (by omega) )
  rintro e w_5 ⟨v_g1, rfl, g1, hb_5⟩
  replace ha := ha.bl hb_5; replace hq := hq.bl hb_5; replace x_b1 := x_b1.bl hb_5; replace x_b2 := x_b2.bl hb_5; replace x_b3 := x_b3.bl hb_5; replace hb := hb.trans (hb_5.mono hb.size)
  replace g1 := g1.rd
  obtain ⟨n_g1, o_g1, k_g1, c_g1, rfl⟩ := g1.open2
  have Lg1 := hide (g1.lenOf (zlen_gcd (ha.len) (hq.len)))
  rw [← EG.out] at g1
  refine hK _ _ rfl ?_
  clear hK K hb_5
  refine wpSq_call rfl (by kernel_rfl) fun K hK => ?_
  go_big_op
  have lt_b1 := x_b1.lt
  have lt_b2 := x_b2.lt
  have lt_b3 := x_b3.lt
  obtain ⟨p_b4, w_6, eP, eW, x_b4, hn, kb_b4⟩ := newBox w_5 #[.bool false, .slice none 0 0] 24 hb.size
  have ne_b1_b4 : Hid (p_b1 ≠ p_b4) := Nat.ne_of_lt (eP ▸ lt_b1)
  have ne_b2_b4 : Hid (p_b2 ≠ p_b4) := Nat.ne_of_lt (eP ▸ lt_b2)
  have ne_b3_b4 : Hid (p_b3 ≠ p_b4) := Nat.ne_of_lt (eP ▸ lt_b3)
  rw [eW, eP]
  clear eW eP lt_b1 lt_b2 lt_b3
  replace ha := ha.bl hn; replace hq := hq.bl hn; replace x_b1 := x_b1.bl hn; replace x_b2 := x_b2.bl hn; replace x_b3 := x_b3.bl hn; replace g1 := g1.bl hn; replace hb := hb.trans (hn.mono hb.size)
  refine hK _ _ rfl ?_; clear hK K hn
  refine wpSq_call rfl (by kernel_rfl) fun K hK => ?_
  obtain ⟨d0, d1⟩ := x_b4.f2
  have f0 := x_b4.free 0; have f1 := x_b4.free 1
  go_big_op
  have hnd := x_b4.nod rfl rfl
  obtain ⟨w_7, eW, x_b4', ho⟩ : ∃ w', ((w_6.setCell ⟨p_b4, 0, none⟩ (.bool n_g1)).setCell ⟨p_b4, 1, none⟩ (.slice o_g1 k_g1 c_g1)) = w' ∧ Bs w' p_b4 #[.bool n_g1, .slice o_g1 k_g1 c_g1] 24 ∧ Only p_b4 w_6 w' := x_b4.setN [(0, .bool n_g1), (1, .slice o_g1 k_g1 c_g1)]
  rw [eW]; clear eW d0 d1 f0 f1 x_b4
  have x_b4 := x_b4'; clear x_b4'
  replace ha := ha.fr hnd ho; replace hq := hq.fr hnd ho; replace x_b1 := x_b1.frame ho ne_b1_b4; replace x_b2 := x_b2.frame ho ne_b2_b4; replace x_b3 := x_b3.frame ho ne_b3_b4; replace g1 := g1.fr hnd ho; replace hb := belowOnly hb ho kb_b4
  refine hK _ _ rfl ?_; clear hK K ho hnd
  apply wpSq_end
  refine hK4 _ _ ?_
  refine wp_seq_k ?_
  intro K5 hK5
  refine wp_seq_k ?_
  intro K6 hK6
  refine wp_region_sq [0, 1, 2] (by kernel_rfl) ?_
  refine wpSq_call rfl (by kernel_rfl) fun K hK => ?_
  obtain ⟨d0, d1⟩ := x_b2.f2
  go_big_op; refine hK _ _ rfl ?_; clear hK K d0 d1
  have Lg1 := hide (g1.lenOf (zlen_qg ha.len hq.len))
  refine wpSq_call rfl (by kernel_rfl) fun K hK => ?_
  go_big_op
  go_fit (zsign_any hq (by omega) )
  rintro e w_8 ⟨rfl, hb_8⟩
  replace ha := ha.bl hb_8; replace hq := hq.bl hb_8; replace x_b1 := x_b1.bl hb_8; replace x_b2 := x_b2.bl hb_8; replace x_b3 := x_b3.bl hb_8; replace g1 := g1.bl hb_8; replace x_b4 := x_b4.bl hb_8; replace hb := hb.trans (hb_8.mono hb.size)
  rw [HS.out]
  refine hK _ _ rfl ?_
  clear hK K hb_8
  refine wpSq_call rfl (by kernel_rfl) fun K hK => ?_
  go_big_op; refine hK _ _ rfl ?_; clear hK K
  apply wpSq_end
  refine hK6 _ _ ?_
  refine wp_cond_false (congrArg Value.bool (show _ = false from (by first | rfl | assumption | (simp; done) | omega))) ?_
  refine wp_skip ?_
  refine hK5 _ _ ?_
  refine wp_seq_k ?_
  intro K7 hK7
  refine wp_region_sq [0, 1, 2, 3, 4, 5, 6, 7, 8] (by kernel_rfl) ?_
  refine wpSq_call rfl (by kernel_rfl) fun K hK => ?_
  obtain ⟨d0, d1⟩ := x_b1.f2
  go_big_op; refine hK _ _ rfl ?_; clear hK K d0 d1
  refine wpSq_call rfl (by kernel_rfl) fun K hK => ?_
  obtain ⟨d0, d1⟩ := x_b4.f2
  go_big_op; refine hK _ _ rfl ?_; clear hK K d0 d1
  refine wpSq_call rfl (by kernel_rfl) fun K hK => ?_
  go_big_op
  go_fit (exact_any ha (g1.zn Lg1.out) (by omega) (by omega) HG.out HX.out)
  rintro e w_9 ⟨v_g2, rfl, g2, hb_9⟩
  clear x_b1
  replace ha := ha.bl hb_9; replace hq := hq.bl hb_9; replace x_b2 := x_b2.bl hb_9; replace x_b3 := x_b3.bl hb_9; replace g1 := g1.bl hb_9; replace x_b4 := x_b4.bl hb_9; replace hb := hb.trans (hb_9.mono hb.size)
  replace g2 := g2.rd
  obtain ⟨n_g2, o_g2, k_g2, c_g2, rfl⟩ := g2.open2
  have Lg2 := hide (g2.lenOf (fdiv_len (HG.out) (ha.len)))
  refine hK _ _ rfl ?_
  clear hK K hb_9
  refine wpSq_call rfl (by kernel_rfl) fun K hK => ?_
  go_big_move; refine hK _ _ rfl ?_; clear hK K
  refine wpSq_call rfl (by kernel_rfl) fun K hK => ?_
  go_big_op; refine hK _ _ rfl ?_; clear hK K
  refine wpSq_call rfl (by kernel_rfl) fun K hK => ?_
  go_big_op; refine hK _ _ rfl ?_; clear hK K
  refine wpSq_call rfl (by kernel_rfl) fun K hK => ?_
  go_big_op
  clear ha
  have lt_b2 := x_b2.lt
  have lt_b3 := x_b3.lt
  have lt_b4 := x_b4.lt
  obtain ⟨p_b5, w_10, eP, eW, x_b5, hn, kb_b5⟩ := newBox w_9 #[.bool false, .slice none 0 0] 24 hb.size
  have ne_b2_b5 : Hid (p_b2 ≠ p_b5) := Nat.ne_of_lt (eP ▸ lt_b2)
  have ne_b3_b5 : Hid (p_b3 ≠ p_b5) := Nat.ne_of_lt (eP ▸ lt_b3)
  have ne_b4_b5 : Hid (p_b4 ≠ p_b5) := Nat.ne_of_lt (eP ▸ lt_b4)
  rw [eW, eP]
  clear eW eP lt_b2 lt_b3 lt_b4
  replace hq := hq.bl hn; replace x_b2 := x_b2.bl hn; replace x_b3 := x_b3.bl hn; replace g1 := g1.bl hn; replace x_b4 := x_b4.bl hn; replace g2 := g2.bl hn; replace hb := hb.trans (hn.mono hb.size)
  refine hK _ _ rfl ?_; clear hK K hn
  refine wpSq_call rfl (by kernel_rfl) fun K hK => ?_
  obtain ⟨d0, d1⟩ := x_b5.f2
  have f0 := x_b5.free 0; have f1 := x_b5.free 1
  go_big_op
  have hnd := x_b5.nod rfl rfl
  obtain ⟨w_11, eW, x_b5', ho⟩ : ∃ w', ((w_10.setCell ⟨p_b5, 0, none⟩ (.bool n_g2)).setCell ⟨p_b5, 1, none⟩ (.slice o_g2 k_g2 c_g2)) = w' ∧ Bs w' p_b5 #[.bool n_g2, .slice o_g2 k_g2 c_g2] 24 ∧ Only p_b5 w_10 w' := x_b5.setN [(0, .bool n_g2), (1, .slice o_g2 k_g2 c_g2)]
  rw [eW]; clear eW d0 d1 f0 f1 x_b5
  have x_b5 := x_b5'; clear x_b5'
  replace hq := hq.fr hnd ho; replace x_b2 := x_b2.frame ho ne_b2_b5; replace x_b3 := x_b3.frame ho ne_b3_b5; replace g1 := g1.fr hnd ho; replace x_b4 := x_b4.frame ho ne_b4_b5; replace g2 := g2.fr hnd ho; replace hb := belowOnly hb ho kb_b5
  refine hK _ _ rfl ?_; clear hK K ho hnd
  refine wpSq_call rfl (by kernel_rfl) fun K hK => ?_
  go_big_move; refine hK _ _ rfl ?_; clear hK K
  apply wpSq_end
  refine hK7 _ _ ?_
  refine wp_seq_k ?_
  intro K8 hK8
  refine wp_region_sq [0, 1, 2, 3, 4, 5, 6, 7, 8] (by kernel_rfl) ?_
  refine wpSq_call rfl (by kernel_rfl) fun K hK => ?_
  obtain ⟨d0, d1⟩ := x_b2.f2
  go_big_op; refine hK _ _ rfl ?_; clear hK K d0 d1
  refine wpSq_call rfl (by kernel_rfl) fun K hK => ?_
  obtain ⟨d0, d1⟩ := x_b4.f2
  go_big_op; refine hK _ _ rfl ?_; clear hK K d0 d1
  refine wpSq_call rfl (by kernel_rfl) fun K hK => ?_
  go_big_op
  go_fit (exact_any hq (g1.zn Lg1.out) (by omega) (by omega) HG.out HY.out)
  rintro e w_12 ⟨v_g3, rfl, g3, hb_12⟩
  clear x_b2 x_b4
  replace hq := hq.bl hb_12; replace x_b3 := x_b3.bl hb_12; replace g1 := g1.bl hb_12; replace g2 := g2.bl hb_12; replace x_b5 := x_b5.bl hb_12; replace hb := hb.trans (hb_12.mono hb.size)
  replace g3 := g3.rd
  obtain ⟨n_g3, o_g3, k_g3, c_g3, rfl⟩ := g3.open2
  have Lg3 := hide (g3.lenOf (fdiv_len (HG.out) (hq.len)))
  refine hK _ _ rfl ?_
  clear hK K hb_12
  refine wpSq_call rfl (by kernel_rfl) fun K hK => ?_
  go_big_move; refine hK _ _ rfl ?_; clear hK K
  refine wpSq_call rfl (by kernel_rfl) fun K hK => ?_
  go_big_op; refine hK _ _ rfl ?_; clear hK K
  refine wpSq_call rfl (by kernel_rfl) fun K hK => ?_
  go_big_op; refine hK _ _ rfl ?_; clear hK K
  refine wpSq_call rfl (by kernel_rfl) fun K hK => ?_
  go_big_op
  clear hq g1
  have lt_b3 := x_b3.lt
  have lt_b5 := x_b5.lt
  obtain ⟨p_b6, w_13, eP, eW, x_b6, hn, kb_b6⟩ := newBox w_12 #[.bool false, .slice none 0 0] 24 hb.size
  have ne_b3_b6 : Hid (p_b3 ≠ p_b6) := Nat.ne_of_lt (eP ▸ lt_b3)
  have ne_b5_b6 : Hid (p_b5 ≠ p_b6) := Nat.ne_of_lt (eP ▸ lt_b5)
  rw [eW, eP]
  clear eW eP lt_b3 lt_b5
  replace x_b3 := x_b3.bl hn; replace g2 := g2.bl hn; replace x_b5 := x_b5.bl hn; replace g3 := g3.bl hn; replace hb := hb.trans (hn.mono hb.size)
  refine hK _ _ rfl ?_; clear hK K hn
  refine wpSq_call rfl (by kernel_rfl) fun K hK => ?_
  obtain ⟨d0, d1⟩ := x_b6.f2
  have f0 := x_b6.free 0; have f1 := x_b6.free 1
  go_big_op
  have hnd := x_b6.nod rfl rfl
  obtain ⟨w_14, eW, x_b6', ho⟩ : ∃ w', ((w_13.setCell ⟨p_b6, 0, none⟩ (.bool n_g3)).setCell ⟨p_b6, 1, none⟩ (.slice o_g3 k_g3 c_g3)) = w' ∧ Bs w' p_b6 #[.bool n_g3, .slice o_g3 k_g3 c_g3] 24 ∧ Only p_b6 w_13 w' := x_b6.setN [(0, .bool n_g3), (1, .slice o_g3 k_g3 c_g3)]
  rw [eW]; clear eW d0 d1 f0 f1 x_b6
  have x_b6 := x_b6'; clear x_b6'
  replace x_b3 := x_b3.frame ho ne_b3_b6; replace g2 := g2.fr hnd ho; replace x_b5 := x_b5.frame ho ne_b5_b6; replace g3 := g3.fr hnd ho; replace hb := belowOnly hb ho kb_b6
  refine hK _ _ rfl ?_; clear hK K ho hnd
  refine wpSq_call rfl (by kernel_rfl) fun K hK => ?_
  go_big_move; refine hK _ _ rfl ?_; clear hK K
  apply wpSq_end
  refine hK8 _ _ ?_
  refine wp_seq_k ?_
  intro K9 hK9
  refine wp_region_sq [0, 1, 2, 3, 4] (by kernel_rfl) ?_
  refine wpSq_call rfl (by kernel_rfl) fun K hK => ?_
  obtain ⟨d0, d1⟩ := x_b5.f2
  go_big_op; refine hK _ _ rfl ?_; clear hK K d0 d1
  refine wpSq_call rfl (by kernel_rfl) fun K hK => ?_
  obtain ⟨d0, d1⟩ := x_b6.f2
  go_big_op; refine hK _ _ rfl ?_; clear hK K d0 d1
  refine wpSq_call rfl (by kernel_rfl) fun K hK => ?_
  go_big_op; refine hK _ _ rfl ?_; clear hK K
  refine wpSq_call rfl (by kernel_rfl) fun K hK => ?_
  obtain ⟨d0, d1, d2, d3⟩ := x_b3.f4
  have f0 := x_b3.free 0; have f1 := x_b3.free 1; have f2 := x_b3.free 2; have f3 := x_b3.free 3
  go_big_op
  have hnd := x_b3.nod rfl rfl
  obtain ⟨w_15, eW, x_b3', ho⟩ : ∃ w', ((((w_14.setCell ⟨p_b3, 0, none⟩ (.bool n_g2)).setCell ⟨p_b3, 1, none⟩ (.slice o_g2 k_g2 c_g2)).setCell ⟨p_b3, 2, none⟩ (.bool n_g3)).setCell ⟨p_b3, 3, none⟩ (.slice o_g3 k_g3 c_g3)) = w' ∧ Bs w' p_b3 #[.bool n_g2, .slice o_g2 k_g2 c_g2, .bool n_g3, .slice o_g3 k_g3 c_g3] 26 ∧ Only p_b3 w_14 w' := x_b3.setN [(0, .bool n_g2), (1, .slice o_g2 k_g2 c_g2), (2, .bool n_g3), (3, .slice o_g3 k_g3 c_g3)]
  rw [eW]; clear eW d0 d1 d2 d3 f0 f1 f2 f3 x_b3
  have x_b3 := x_b3'; clear x_b3'
  clear x_b5 x_b6
  replace g2 := g2.fr hnd ho; replace g3 := g3.fr hnd ho; replace hb := belowOnly hb ho kb_b3
  refine hK _ _ rfl ?_; clear hK K ho hnd
  refine wpSq_call rfl (by kernel_rfl) fun K hK => ?_
  go_big_move; refine hK _ _ rfl ?_; clear hK K
  apply wpSq_end
  refine hK9 _ _ ?_
  refine wp_ret ?_
  try dsimp only [Exit.then, Exit.inBlock]
  obtain ⟨r0_0, r0_1, r0_2, r0_3⟩ := x_b3.f4
  refine bodyPost_ret (v := (.tuple #[(.agg #[.bool n_g2, .slice o_g2 k_g2 c_g2, .bool n_g3, .slice o_g3 k_g3 c_g3]), (.int .i64 0)])) (by simp [results, Tryz.results11, go_sem, r0_0, r0_1, r0_2, r0_3]) rfl ?_
  exact ⟨_, rfl, .mk' g2 g3, hb⟩
set_option maxHeartbeats 4000000 in
set_option maxRecDepth 20000 in
theorem fmake_neg {w : World} {va vb : Value} {x y : Int} {l m : Nat} (ha : ZN w va x l) (hq : ZN w vb y m) (hl : l ≤ 100000000) (hm : m ≤ 100000000) (h0 : y < 0) :
    Calls Tryz.prog 11 #[va, vb] w fun e w' => ∃ v, e = .returned (.tuple #[v, .int .i64 0]) ∧ PC w' v (qN x y) (qD x y) ∧ Below w.heap.size w w' := by
  have hg : qg x y = -(Int.gcd x y : Int) := by unfold qg; rw [if_pos h0]
  have HG := hide (qg_ne (x := x) (y := y) (by omega))
  have HX := hide (fmod_dvd (qg_dvd x y).1)
  have HY := hide (fmod_dvd (qg_dvd x y).2)
  have HS := hide (show y.sign = -1 from Int.sign_eq_neg_one_of_neg h0)
  have EG := hide hg
  clear hg
  obtain ⟨n_0, o_0, k_0, c_0, rfl⟩ := ha.open2
  obtain ⟨n_1, o_1, k_1, c_1, rfl⟩ := hq.open2
  go_enter Tryz.func11, Tryz.ntmps11
  have hb := Below.refl w.heap.size w
  refine wp_seq_k ?_
  intro K1 hK1
  refine wp_region_sq [0, 1, 2, 3] (by kernel_rfl) ?_
  refine wpSq_call rfl (by kernel_rfl) fun K hK => ?_
  go_big_op
  obtain ⟨p_b1, w_1, eP, eW, x_b1, hn, kb_b1⟩ := newBox w #[.bool n_0, .slice o_0 k_0 c_0] 24 hb.size
  rw [eW, eP]
  clear eW eP
  replace ha := ha.bl hn; replace hq := hq.bl hn; replace hb := hb.trans (hn.mono hb.size)
  refine hK _ _ rfl ?_; clear hK K hn
  refine wpSq_call rfl (by kernel_rfl) fun K hK => ?_
  go_big_op
  have lt_b1 := x_b1.lt
  obtain ⟨p_b2, w_2, eP, eW, x_b2, hn, kb_b2⟩ := newBox w_1 #[.bool n_1, .slice o_1 k_1 c_1] 24 hb.size
  have ne_b1_b2 : Hid (p_b1 ≠ p_b2) := Nat.ne_of_lt (eP ▸ lt_b1)
  rw [eW, eP]
  clear eW eP lt_b1
  replace ha := ha.bl hn; replace hq := hq.bl hn; replace x_b1 := x_b1.bl hn; replace hb := hb.trans (hn.mono hb.size)
  refine hK _ _ rfl ?_; clear hK K hn
  refine wpSq_call rfl (by kernel_rfl) fun K hK => ?_
  go_big_op
  have lt_b1 := x_b1.lt
  have lt_b2 := x_b2.lt
  obtain ⟨p_b3, w_3, eP, eW, x_b3, hn, kb_b3⟩ := newBox w_2 #[.bool false, .slice none 0 0, .bool false, .slice none 0 0] 26 hb.size
  have ne_b1_b3 : Hid (p_b1 ≠ p_b3) := Nat.ne_of_lt (eP ▸ lt_b1)
  have ne_b2_b3 : Hid (p_b2 ≠ p_b3) := Nat.ne_of_lt (eP ▸ lt_b2)
  rw [eW, eP]
  clear eW eP lt_b1 lt_b2
  replace ha := ha.bl hn; replace hq := hq.bl hn; replace x_b1 := x_b1.bl hn; replace x_b2 := x_b2.bl hn; replace hb := hb.trans (hn.mono hb.size)
  refine hK _ _ rfl ?_; clear hK K hn
  refine wpSq_call rfl (by kernel_rfl) fun K hK => ?_
  go_big_move; refine hK _ _ rfl ?_; clear hK K
  apply wpSq_end
  refine hK1 _ _ ?_
  refine wp_seq_k ?_
  intro K2 hK2
  refine wp_seq_k ?_
  intro K3 hK3
  refine wp_region_sq [0, 1, 2] (by kernel_rfl) ?_
  refine wpSq_call rfl (by kernel_rfl) fun K hK => ?_
  obtain ⟨d0, d1⟩ := x_b2.f2
  go_big_op; refine hK _ _ rfl ?_; clear hK K d0 d1
  refine wpSq_call rfl (by kernel_rfl) fun K hK => ?_
  go_big_op
  go_fit (zsign_any hq (by omega) )
  rintro e w_4 ⟨rfl, hb_4⟩
  replace ha := ha.bl hb_4; replace hq := hq.bl hb_4; replace x_b1 := x_b1.bl hb_4; replace x_b2 := x_b2.bl hb_4; replace x_b3 := x_b3.bl hb_4; replace hb := hb.trans (hb_4.mono hb.size)
  rw [HS.out]
  refine hK _ _ rfl ?_
  clear hK K hb_4
  refine wpSq_call rfl (by kernel_rfl) fun K hK => ?_
  go_big_op; refine hK _ _ rfl ?_; clear hK K
  apply wpSq_end
  refine hK3 _ _ ?_
  refine wp_cond_false (congrArg Value.bool (show _ = false from (by first | rfl | assumption | (simp; done) | omega))) ?_
  refine wp_skip ?_
  refine hK2 _ _ ?_
  refine wp_seq_k ?_
  intro K4 hK4
  refine wp_region_sq [0, 1, 2, 3, 4] (by kernel_rfl) ?_
  refine wpSq_call rfl (by kernel_rfl) fun K hK => ?_
  obtain ⟨d0, d1⟩ := x_b1.f2
  go_big_op; refine hK _ _ rfl ?_; clear hK K d0 d1
  refine wpSq_call rfl (by kernel_rfl) fun K hK => ?_
  obtain ⟨d0, d1⟩ := x_b2.f2
  go_big_op; refine hK _ _ rfl ?_; clear hK K d0 d1
  refine wpSq_call rfl (by kernel_rfl) fun K hK => ?_
  go_big_op
  go_fit (zgcd_any ha hq (by omega) (by omega) )
  rintro e w_5 ⟨v_g1, rfl, g1, hb_5⟩
  replace ha := ha.bl hb_5; replace hq := hq.bl hb_5; replace x_b1 := x_b1.bl hb_5; replace x_b2 := x_b2.bl hb_5; replace x_b3 := x_b3.bl hb_5; replace hb := hb.trans (hb_5.mono hb.size)
  replace g1 := g1.rd
  obtain ⟨n_g1, o_g1, k_g1, c_g1, rfl⟩ := g1.open2
  have Lg1 := hide (g1.lenOf (zlen_gcd (ha.len) (hq.len)))
  refine hK _ _ rfl ?_
  clear hK K hb_5
  refine wpSq_call rfl (by kernel_rfl) fun K hK => ?_
  go_big_op
  have lt_b1 := x_b1.lt
  have lt_b2 := x_b2.lt
  have lt_b3 := x_b3.lt
  obtain ⟨p_b4, w_6, eP, eW, x_b4, hn, kb_b4⟩ := newBox w_5 #[.bool false, .slice none 0 0] 24 hb.size
  have ne_b1_b4 : Hid (p_b1 ≠ p_b4) := Nat.ne_of_lt (eP ▸ lt_b1)
  have ne_b2_b4 : Hid (p_b2 ≠ p_b4) := Nat.ne_of_lt (eP ▸ lt_b2)
  have ne_b3_b4 : Hid (p_b3 ≠ p_b4) := Nat.ne_of_lt (eP ▸ lt_b3)
  rw [eW, eP]
  clear eW eP lt_b1 lt_b2 lt_b3
  replace ha := ha.bl hn; replace hq := hq.bl hn; replace x_b1 := x_b1.bl hn; replace x_b2 := x_b2.bl hn; replace x_b3 := x_b3.bl hn; replace g1 := g1.bl hn; replace hb := hb.trans (hn.mono hb.size)
  refine hK _ _ rfl ?_; clear hK K hn
  refine wpSq_call rfl (by kernel_rfl) fun K hK => ?_
  obtain ⟨d0, d1⟩ := x_b4.f2
  have f0 := x_b4.free 0; have f1 := x_b4.free 1
  go_big_op
  have hnd := x_b4.nod rfl rfl
  obtain ⟨w_7, eW, x_b4', ho⟩ : ∃ w', ((w_6.setCell ⟨p_b4, 0, none⟩ (.bool n_g1)).setCell ⟨p_b4, 1, none⟩ (.slice o_g1 k_g1 c_g1)) = w' ∧ Bs w' p_b4 #[.bool n_g1, .slice o_g1 k_g1 c_g1] 24 ∧ Only p_b4 w_6 w' := x_b4.setN [(0, .bool n_g1), (1, .slice o_g1 k_g1 c_g1)]
  rw [eW]; clear eW d0 d1 f0 f1 x_b4
  have x_b4 := x_b4'; clear x_b4'
  replace ha := ha.fr hnd ho; replace hq := hq.fr hnd ho; replace x_b1 := x_b1.frame ho ne_b1_b4; replace x_b2 := x_b2.frame ho ne_b2_b4; replace x_b3 := x_b3.frame ho ne_b3_b4; replace g1 := g1.fr hnd ho; replace hb := belowOnly hb ho kb_b4
  refine hK _ _ rfl ?_; clear hK K ho hnd
  apply wpSq_end
  refine hK4 _ _ ?_
  refine wp_seq_k ?_
  intro K5 hK5
  refine wp_seq_k ?_
  intro K6 hK6
  refine wp_region_sq [0, 1, 2] (by kernel_rfl) ?_
  refine wpSq_call rfl (by kernel_rfl) fun K hK => ?_
  obtain ⟨d0, d1⟩ := x_b2.f2
  go_big_op; refine hK _ _ rfl ?_; clear hK K d0 d1
  refine wpSq_call rfl (by kernel_rfl) fun K hK => ?_
  go_big_op
  go_fit (zsign_any hq (by omega) )
  rintro e w_8 ⟨rfl, hb_8⟩
  replace ha := ha.bl hb_8; replace hq := hq.bl hb_8; replace x_b1 := x_b1.bl hb_8; replace x_b2 := x_b2.bl hb_8; replace x_b3 := x_b3.bl hb_8; replace g1 := g1.bl hb_8; replace x_b4 := x_b4.bl hb_8; replace hb := hb.trans (hb_8.mono hb.size)
  rw [HS.out]
  refine hK _ _ rfl ?_
  clear hK K hb_8
  refine wpSq_call rfl (by kernel_rfl) fun K hK => ?_
  go_big_op; refine hK _ _ rfl ?_; clear hK K
  apply wpSq_end
  refine hK6 _ _ ?_
  refine wp_cond_true (congrArg Value.bool (show _ = true from (by first | rfl | assumption | (simp; done) | omega))) ?_
  refine wp_region_sq [0, 1, 2] (by kernel_rfl) ?_
  refine wpSq_call rfl (by kernel_rfl) fun K hK => ?_
  obtain ⟨d0, d1⟩ := x_b4.f2
  go_big_op; refine hK _ _ rfl ?_; clear hK K d0 d1
  refine wpSq_call rfl (by kernel_rfl) fun K hK => ?_
  go_big_op
  go_fit (zneg_any (g1.zn Lg1.out) (by omega) )
  rintro e w_9 ⟨v_g4, rfl, g4, hb_9⟩
  replace ha := ha.bl hb_9; replace hq := hq.bl hb_9; replace x_b1 := x_b1.bl hb_9; replace x_b2 := x_b2.bl hb_9; replace x_b3 := x_b3.bl hb_9; replace g1 := g1.bl hb_9; replace x_b4 := x_b4.bl hb_9; replace hb := hb.trans (hb_9.mono hb.size)
  replace g4 := g4.rd
  obtain ⟨n_g4, o_g4, k_g4, c_g4, rfl⟩ := g4.open2
  have Lg4 := hide (g4.lenOf (zlen_neg (Lg1.out)))
  rw [← EG.out] at g4
  refine hK _ _ rfl ?_
  clear hK K hb_9
  refine wpSq_call rfl (by kernel_rfl) fun K hK => ?_
  obtain ⟨d0, d1⟩ := x_b4.f2
  have f0 := x_b4.free 0; have f1 := x_b4.free 1
  go_big_op
  have hnd := x_b4.nod rfl rfl
  obtain ⟨w_10, eW, x_b4', ho⟩ : ∃ w', ((w_9.setCell ⟨p_b4, 0, none⟩ (.bool n_g4)).setCell ⟨p_b4, 1, none⟩ (.slice o_g4 k_g4 c_g4)) = w' ∧ Bs w' p_b4 #[.bool n_g4, .slice o_g4 k_g4 c_g4] 24 ∧ Only p_b4 w_9 w' := x_b4.setN [(0, .bool n_g4), (1, .slice o_g4 k_g4 c_g4)]
  rw [eW]; clear eW d0 d1 f0 f1 x_b4
  have x_b4 := x_b4'; clear x_b4'
  clear g1
  replace ha := ha.fr hnd ho; replace hq := hq.fr hnd ho; replace x_b1 := x_b1.frame ho ne_b1_b4; replace x_b2 := x_b2.frame ho ne_b2_b4; replace x_b3 := x_b3.frame ho ne_b3_b4; replace g4 := g4.fr hnd ho; replace hb := belowOnly hb ho kb_b4
  refine hK _ _ rfl ?_; clear hK K ho hnd
  apply wpSq_end
  refine hK5 _ _ ?_
  refine wp_seq_k ?_
  intro K7 hK7
  refine wp_region_sq [0, 1, 2, 3, 4, 5, 6, 7, 8] (by kernel_rfl) ?_
  refine wpSq_call rfl (by kernel_rfl) fun K hK => ?_
  obtain ⟨d0, d1⟩ := x_b1.f2
  go_big_op; refine hK _ _ rfl ?_; clear hK K d0 d1
  refine wpSq_call rfl (by kernel_rfl) fun K hK => ?_
  obtain ⟨d0, d1⟩ := x_b4.f2
  go_big_op; refine hK _ _ rfl ?_; clear hK K d0 d1
  have Lg4 := hide (g4.lenOf (zlen_qg ha.len hq.len))
  refine wpSq_call rfl (by kernel_rfl) fun K hK => ?_
  go_big_op
  go_fit (exact_any ha (g4.zn Lg4.out) (by omega) (by omega) HG.out HX.out)
  rintro e w_11 ⟨v_g2, rfl, g2, hb_11⟩
  clear x_b1
  replace ha := ha.bl hb_11; replace hq := hq.bl hb_11; replace x_b2 := x_b2.bl hb_11; replace x_b3 := x_b3.bl hb_11; replace x_b4 := x_b4.bl hb_11; replace g4 := g4.bl hb_11; replace hb := hb.trans (hb_11.mono hb.size)
  replace g2 := g2.rd
  obtain ⟨n_g2, o_g2, k_g2, c_g2, rfl⟩ := g2.open2
  have Lg2 := hide (g2.lenOf (fdiv_len (HG.out) (ha.len)))
  refine hK _ _ rfl ?_
  clear hK K hb_11
  refine wpSq_call rfl (by kernel_rfl) fun K hK => ?_
  go_big_move; refine hK _ _ rfl ?_; clear hK K
  refine wpSq_call rfl (by kernel_rfl) fun K hK => ?_
  go_big_op; refine hK _ _ rfl ?_; clear hK K
  refine wpSq_call rfl (by kernel_rfl) fun K hK => ?_
  go_big_op; refine hK _ _ rfl ?_; clear hK K
  refine wpSq_call rfl (by kernel_rfl) fun K hK => ?_
  go_big_op
  clear ha
  have lt_b2 := x_b2.lt
  have lt_b3 := x_b3.lt
  have lt_b4 := x_b4.lt
  obtain ⟨p_b5, w_12, eP, eW, x_b5, hn, kb_b5⟩ := newBox w_11 #[.bool false, .slice none 0 0] 24 hb.size
  have ne_b2_b5 : Hid (p_b2 ≠ p_b5) := Nat.ne_of_lt (eP ▸ lt_b2)
  have ne_b3_b5 : Hid (p_b3 ≠ p_b5) := Nat.ne_of_lt (eP ▸ lt_b3)
  have ne_b4_b5 : Hid (p_b4 ≠ p_b5) := Nat.ne_of_lt (eP ▸ lt_b4)
  rw [eW, eP]
  clear eW eP lt_b2 lt_b3 lt_b4
  replace hq := hq.bl hn; replace x_b2 := x_b2.bl hn; replace x_b3 := x_b3.bl hn; replace x_b4 := x_b4.bl hn; replace g4 := g4.bl hn; replace g2 := g2.bl hn; replace hb := hb.trans (hn.mono hb.size)
  refine hK _ _ rfl ?_; clear hK K hn
  refine wpSq_call rfl (by kernel_rfl) fun K hK => ?_
  obtain ⟨d0, d1⟩ := x_b5.f2
  have f0 := x_b5.free 0; have f1 := x_b5.free 1
  go_big_op
  have hnd := x_b5.nod rfl rfl
  obtain ⟨w_13, eW, x_b5', ho⟩ : ∃ w', ((w_12.setCell ⟨p_b5, 0, none⟩ (.bool n_g2)).setCell ⟨p_b5, 1, none⟩ (.slice o_g2 k_g2 c_g2)) = w' ∧ Bs w' p_b5 #[.bool n_g2, .slice o_g2 k_g2 c_g2] 24 ∧ Only p_b5 w_12 w' := x_b5.setN [(0, .bool n_g2), (1, .slice o_g2 k_g2 c_g2)]
  rw [eW]; clear eW d0 d1 f0 f1 x_b5
  have x_b5 := x_b5'; clear x_b5'
  replace hq := hq.fr hnd ho; replace x_b2 := x_b2.frame ho ne_b2_b5; replace x_b3 := x_b3.frame ho ne_b3_b5; replace x_b4 := x_b4.frame ho ne_b4_b5; replace g4 := g4.fr hnd ho; replace g2 := g2.fr hnd ho; replace hb := belowOnly hb ho kb_b5
  refine hK _ _ rfl ?_; clear hK K ho hnd
  refine wpSq_call rfl (by kernel_rfl) fun K hK => ?_
  go_big_move; refine hK _ _ rfl ?_; clear hK K
  apply wpSq_end
  refine hK7 _ _ ?_
  refine wp_seq_k ?_
  intro K8 hK8
  refine wp_region_sq [0, 1, 2, 3, 4, 5, 6, 7, 8] (by kernel_rfl) ?_
  refine wpSq_call rfl (by kernel_rfl) fun K hK => ?_
  obtain ⟨d0, d1⟩ := x_b2.f2
  go_big_op; refine hK _ _ rfl ?_; clear hK K d0 d1
  refine wpSq_call rfl (by kernel_rfl) fun K hK => ?_
  obtain ⟨d0, d1⟩ := x_b4.f2
  go_big_op; refine hK _ _ rfl ?_; clear hK K d0 d1
  refine wpSq_call rfl (by kernel_rfl) fun K hK => ?_
  go_big_op
  go_fit (exact_any hq (g4.zn Lg4.out) (by omega) (by omega) HG.out HY.out)
  rintro e w_14 ⟨v_g3, rfl, g3, hb_14⟩
  clear x_b2 x_b4
  replace hq := hq.bl hb_14; replace x_b3 := x_b3.bl hb_14; replace g4 := g4.bl hb_14; replace g2 := g2.bl hb_14; replace x_b5 := x_b5.bl hb_14; replace hb := hb.trans (hb_14.mono hb.size)
  replace g3 := g3.rd
  obtain ⟨n_g3, o_g3, k_g3, c_g3, rfl⟩ := g3.open2
  have Lg3 := hide (g3.lenOf (fdiv_len (HG.out) (hq.len)))
  refine hK _ _ rfl ?_
  clear hK K hb_14
  refine wpSq_call rfl (by kernel_rfl) fun K hK => ?_
  go_big_move; refine hK _ _ rfl ?_; clear hK K
  refine wpSq_call rfl (by kernel_rfl) fun K hK => ?_
  go_big_op; refine hK _ _ rfl ?_; clear hK K
  refine wpSq_call rfl (by kernel_rfl) fun K hK => ?_
  go_big_op; refine hK _ _ rfl ?_; clear hK K
  refine wpSq_call rfl (by kernel_rfl) fun K hK => ?_
  go_big_op
  clear hq g4
  have lt_b3 := x_b3.lt
  have lt_b5 := x_b5.lt
  obtain ⟨p_b6, w_15, eP, eW, x_b6, hn, kb_b6⟩ := newBox w_14 #[.bool false, .slice none 0 0] 24 hb.size
  have ne_b3_b6 : Hid (p_b3 ≠ p_b6) := Nat.ne_of_lt (eP ▸ lt_b3)
  have ne_b5_b6 : Hid (p_b5 ≠ p_b6) := Nat.ne_of_lt (eP ▸ lt_b5)
  rw [eW, eP]
  clear eW eP lt_b3 lt_b5
  replace x_b3 := x_b3.bl hn; replace g2 := g2.bl hn; replace x_b5 := x_b5.bl hn; replace g3 := g3.bl hn; replace hb := hb.trans (hn.mono hb.size)
  refine hK _ _ rfl ?_; clear hK K hn
  refine wpSq_call rfl (by kernel_rfl) fun K hK => ?_
  obtain ⟨d0, d1⟩ := x_b6.f2
  have f0 := x_b6.free 0; have f1 := x_b6.free 1
  go_big_op
  have hnd := x_b6.nod rfl rfl
  obtain ⟨w_16, eW, x_b6', ho⟩ : ∃ w', ((w_15.setCell ⟨p_b6, 0, none⟩ (.bool n_g3)).setCell ⟨p_b6, 1, none⟩ (.slice o_g3 k_g3 c_g3)) = w' ∧ Bs w' p_b6 #[.bool n_g3, .slice o_g3 k_g3 c_g3] 24 ∧ Only p_b6 w_15 w' := x_b6.setN [(0, .bool n_g3), (1, .slice o_g3 k_g3 c_g3)]
  rw [eW]; clear eW d0 d1 f0 f1 x_b6
  have x_b6 := x_b6'; clear x_b6'
  replace x_b3 := x_b3.frame ho ne_b3_b6; replace g2 := g2.fr hnd ho; replace x_b5 := x_b5.frame ho ne_b5_b6; replace g3 := g3.fr hnd ho; replace hb := belowOnly hb ho kb_b6
  refine hK _ _ rfl ?_; clear hK K ho hnd
  refine wpSq_call rfl (by kernel_rfl) fun K hK => ?_
  go_big_move; refine hK _ _ rfl ?_; clear hK K
  apply wpSq_end
  refine hK8 _ _ ?_
  refine wp_seq_k ?_
  intro K9 hK9
  refine wp_region_sq [0, 1, 2, 3, 4] (by kernel_rfl) ?_
  refine wpSq_call rfl (by kernel_rfl) fun K hK => ?_
  obtain ⟨d0, d1⟩ := x_b5.f2
  go_big_op; refine hK _ _ rfl ?_; clear hK K d0 d1
  refine wpSq_call rfl (by kernel_rfl) fun K hK => ?_
  obtain ⟨d0, d1⟩ := x_b6.f2
  go_big_op; refine hK _ _ rfl ?_; clear hK K d0 d1
  refine wpSq_call rfl (by kernel_rfl) fun K hK => ?_
  go_big_op; refine hK _ _ rfl ?_; clear hK K
  refine wpSq_call rfl (by kernel_rfl) fun K hK => ?_
  obtain ⟨d0, d1, d2, d3⟩ := x_b3.f4
  have f0 := x_b3.free 0; have f1 := x_b3.free 1; have f2 := x_b3.free 2; have f3 := x_b3.free 3
  go_big_op
  have hnd := x_b3.nod rfl rfl
  obtain ⟨w_17, eW, x_b3', ho⟩ : ∃ w', ((((w_16.setCell ⟨p_b3, 0, none⟩ (.bool n_g2)).setCell ⟨p_b3, 1, none⟩ (.slice o_g2 k_g2 c_g2)).setCell ⟨p_b3, 2, none⟩ (.bool n_g3)).setCell ⟨p_b3, 3, none⟩ (.slice o_g3 k_g3 c_g3)) = w' ∧ Bs w' p_b3 #[.bool n_g2, .slice o_g2 k_g2 c_g2, .bool n_g3, .slice o_g3 k_g3 c_g3] 26 ∧ Only p_b3 w_16 w' := x_b3.setN [(0, .bool n_g2), (1, .slice o_g2 k_g2 c_g2), (2, .bool n_g3), (3, .slice o_g3 k_g3 c_g3)]
  rw [eW]; clear eW d0 d1 d2 d3 f0 f1 f2 f3 x_b3
  have x_b3 := x_b3'; clear x_b3'
  clear x_b5 x_b6
  replace g2 := g2.fr hnd ho; replace g3 := g3.fr hnd ho; replace hb := belowOnly hb ho kb_b3
  refine hK _ _ rfl ?_; clear hK K ho hnd
  refine wpSq_call rfl (by kernel_rfl) fun K hK => ?_
  go_big_move; refine hK _ _ rfl ?_; clear hK K
  apply wpSq_end
  refine hK9 _ _ ?_
  refine wp_ret ?_
  try dsimp only [Exit.then, Exit.inBlock]
  obtain ⟨r0_0, r0_1, r0_2, r0_3⟩ := x_b3.f4
  refine bodyPost_ret (v := (.tuple #[(.agg #[.bool n_g2, .slice o_g2 k_g2 c_g2, .bool n_g3, .slice o_g3 k_g3 c_g3]), (.int .i64 0)])) (by simp [results, Tryz.results11, go_sem, r0_0, r0_1, r0_2, r0_3]) rfl ?_
  exact ⟨_, rfl, .mk' g2 g3, hb⟩
set_option maxHeartbeats 4000000 in
set_option maxRecDepth 20000 in
theorem fmake_zero {w : World} {va vb : Value} {x : Int} {l m : Nat} (ha : ZN w va x l) (hq : ZN w vb 0 m) (hl : l ≤ 100000000) (hm : m ≤ 100000000) :
    Calls Tryz.prog 11 #[va, vb] w fun e w' => e = .returned (.tuple #[.agg #[.bool false, .slice none 0 0, .bool false, .slice none 0 0], .int .i64 5]) ∧ Below w.heap.size w w' := by
  obtain ⟨n_0, o_0, k_0, c_0, rfl⟩ := ha.open2
  obtain ⟨n_1, o_1, k_1, c_1, rfl⟩ := hq.open2
  go_enter Tryz.func11, Tryz.ntmps11
  have hb := Below.refl w.heap.size w
  refine wp_seq_k ?_
  intro K1 hK1
  refine wp_region_sq [0, 1, 2, 3] (by kernel_rfl) ?_
  refine wpSq_call rfl (by kernel_rfl) fun K hK => ?_
  go_big_op
  obtain ⟨p_b1, w_1, eP, eW, x_b1, hn, kb_b1⟩ := newBox w #[.bool n_0, .slice o_0 k_0 c_0] 24 hb.size
  rw [eW, eP]
  clear eW eP
  replace ha := ha.bl hn; replace hq := hq.bl hn; replace hb := hb.trans (hn.mono hb.size)
  refine hK _ _ rfl ?_; clear hK K hn
  refine wpSq_call rfl (by kernel_rfl) fun K hK => ?_
  go_big_op
  have lt_b1 := x_b1.lt
  obtain ⟨p_b2, w_2, eP, eW, x_b2, hn, kb_b2⟩ := newBox w_1 #[.bool n_1, .slice o_1 k_1 c_1] 24 hb.size
  have ne_b1_b2 : Hid (p_b1 ≠ p_b2) := Nat.ne_of_lt (eP ▸ lt_b1)
  rw [eW, eP]
  clear eW eP lt_b1
  replace ha := ha.bl hn; replace hq := hq.bl hn; replace x_b1 := x_b1.bl hn; replace hb := hb.trans (hn.mono hb.size)
  refine hK _ _ rfl ?_; clear hK K hn
  refine wpSq_call rfl (by kernel_rfl) fun K hK => ?_
  go_big_op
  have lt_b1 := x_b1.lt
  have lt_b2 := x_b2.lt
  obtain ⟨p_b3, w_3, eP, eW, x_b3, hn, kb_b3⟩ := newBox w_2 #[.bool false, .slice none 0 0, .bool false, .slice none 0 0] 26 hb.size
  have ne_b1_b3 : Hid (p_b1 ≠ p_b3) := Nat.ne_of_lt (eP ▸ lt_b1)
  have ne_b2_b3 : Hid (p_b2 ≠ p_b3) := Nat.ne_of_lt (eP ▸ lt_b2)
  rw [eW, eP]
  clear eW eP lt_b1 lt_b2
  replace ha := ha.bl hn; replace hq := hq.bl hn; replace x_b1 := x_b1.bl hn; replace x_b2 := x_b2.bl hn; replace hb := hb.trans (hn.mono hb.size)
  refine hK _ _ rfl ?_; clear hK K hn
  refine wpSq_call rfl (by kernel_rfl) fun K hK => ?_
  go_big_move; refine hK _ _ rfl ?_; clear hK K
  apply wpSq_end
  refine hK1 _ _ ?_
  refine wp_seq_k ?_
  intro K2 hK2
  refine wp_seq_k ?_
  intro K3 hK3
  refine wp_region_sq [0, 1, 2] (by kernel_rfl) ?_
  refine wpSq_call rfl (by kernel_rfl) fun K hK => ?_
  obtain ⟨d0, d1⟩ := x_b2.f2
  go_big_op; refine hK _ _ rfl ?_; clear hK K d0 d1
  refine wpSq_call rfl (by kernel_rfl) fun K hK => ?_
  go_big_op
  go_fit (zsign_any hq (by omega) )
  rintro e w_4 ⟨rfl, hb_4⟩
  replace ha := ha.bl hb_4; replace hq := hq.bl hb_4; replace x_b1 := x_b1.bl hb_4; replace x_b2 := x_b2.bl hb_4; replace x_b3 := x_b3.bl hb_4; replace hb := hb.trans (hb_4.mono hb.size)
  refine hK _ _ rfl ?_
  clear hK K hb_4
  refine wpSq_call rfl (by kernel_rfl) fun K hK => ?_
  go_big_op; refine hK _ _ rfl ?_; clear hK K
  apply wpSq_end
  refine hK3 _ _ ?_
  refine wp_cond_true (congrArg Value.bool (show _ = true from (by first | rfl | assumption | (simp; done) | omega))) ?_
  refine wp_seq_k ?_
  intro K4 hK4
  refine wp_region_sq [0, 1, 2] (by kernel_rfl) ?_
  refine wpSq_call rfl (by kernel_rfl) fun K hK => ?_
  go_big_op; refine hK _ _ rfl ?_; clear hK K
  refine wpSq_call rfl (by kernel_rfl) fun K hK => ?_
  obtain ⟨d0, d1, d2, d3⟩ := x_b3.f4
  have f0 := x_b3.free 0; have f1 := x_b3.free 1; have f2 := x_b3.free 2; have f3 := x_b3.free 3
  go_big_op
  have hnd := x_b3.nod rfl rfl
  obtain ⟨w_5, eW, x_b3', ho⟩ : ∃ w', ((((w_4.setCell ⟨p_b3, 0, none⟩ (.bool false)).setCell ⟨p_b3, 1, none⟩ (.slice none 0 0)).setCell ⟨p_b3, 2, none⟩ (.bool false)).setCell ⟨p_b3, 3, none⟩ (.slice none 0 0)) = w' ∧ Bs w' p_b3 #[.bool false, .slice none 0 0, .bool false, .slice none 0 0] 26 ∧ Only p_b3 w_4 w' := x_b3.setN [(0, .bool false), (1, .slice none 0 0), (2, .bool false), (3, .slice none 0 0)]
  rw [eW]; clear eW d0 d1 d2 d3 f0 f1 f2 f3 x_b3
  have x_b3 := x_b3'; clear x_b3'
  replace ha := ha.fr hnd ho; replace hq := hq.fr hnd ho; replace x_b1 := x_b1.frame ho ne_b1_b3; replace x_b2 := x_b2.frame ho ne_b2_b3; replace hb := belowOnly hb ho kb_b3
  refine hK _ _ rfl ?_; clear hK K ho hnd
  refine wpSq_call rfl (by kernel_rfl) fun K hK => ?_
  go_big_move; refine hK _ _ rfl ?_; clear hK K
  apply wpSq_end
  refine hK4 _ _ ?_
  refine wp_ret ?_
  try dsimp only [Exit.then, Exit.inBlock]
  obtain ⟨r0_0, r0_1, r0_2, r0_3⟩ := x_b3.f4
  refine bodyPost_ret (v := (.tuple #[(.agg #[.bool false, .slice none 0 0, .bool false, .slice none 0 0]), (.int .i64 5)])) (by simp [results, Tryz.results11, go_sem, r0_0, r0_1, r0_2, r0_3]) rfl ?_
  exact ⟨rfl, hb⟩
theorem fmake_any {w : World} {va vb : Value} {x y : Int} {l m : Nat} (ha : ZN w va x l) (hq : ZN w vb y m) (hl : l ≤ 100000000) (hm : m ≤ 100000000) (h0 : y ≠ 0) :
    Calls Tryz.prog 11 #[va, vb] w fun e w' => ∃ v, e = .returned (.tuple #[v, .int .i64 0]) ∧ PC w' v (qN x y) (qD x y) ∧ Below w.heap.size w w' := by
  by_cases h : 0 < y
  · exact fmake_pos ha hq hl hm h
  · exact fmake_neg ha hq hl hm (by omega)
theorem qN_len {x y : Int} {l : Nat} (h0 : y ≠ 0) (h : (dig x.natAbs).length ≤ l) : (dig (qN x y).natAbs).length ≤ l := fdiv_len (qg_ne h0) h
theorem qD_len {x y : Int} {l : Nat} (h0 : y ≠ 0) (h : (dig y.natAbs).length ≤ l) : (dig (qD x y).natAbs).length ≤ l := fdiv_len (qg_ne h0) h
end Go.Proofs.YtkgbfnmlpajblaaGreatDoor

/- frac: two rationals over one denominator; none of them divides by 0. -/
namespace Go.Proofs.YtkgbfnmlpajblaaGreatDoor
open Go Go.RowKit Dig
set_option linter.unusedVariables false

set_option maxHeartbeats 4000000 in
set_option maxRecDepth 20000 in
theorem over_any {w : World} {va vb : Value} {x y u v : Int} {l m k n : Nat} (ha : PN w va x l y m) (hq : PN w vb u k v n) (hl : l ≤ 100000000) (hm : m ≤ 100000000) (hk : k ≤ 100000000) (hn : n ≤ 100000000) :
    Calls Tryz.prog 65 #[va, vb] w fun e w' => ∃ v1 v2, e = .returned (.tuple #[v1, v2]) ∧ ZC w' v1 (x * v) ∧ ZC w' v2 (u * y) ∧ Below w.heap.size w w' := by
  obtain ⟨n_0a, o_0a, k_0a, c_0a, n_0b, o_0b, k_0b, c_0b, rfl, ha1, ha2⟩ := ha
  obtain ⟨n_1a, o_1a, k_1a, c_1a, n_1b, o_1b, k_1b, c_1b, rfl, hq1, hq2⟩ := hq
  go_enter Tryz.func65, Tryz.ntmps65
  have hb := Below.refl w.heap.size w
  refine wp_seq_k ?_
  intro K1 hK1
  refine wp_region_sq [0, 1, 2, 3] (by kernel_rfl) ?_
  refine wpSq_call rfl (by kernel_rfl) fun K hK => ?_
  go_big_op
  obtain ⟨p_b1, w_1, eP, eW, x_b1, hn, kb_b1⟩ := newBox w #[.bool n_0a, .slice o_0a k_0a c_0a, .bool n_0b, .slice o_0b k_0b c_0b] 26 hb.size
  rw [eW, eP]
  clear eW eP
  replace ha1 := ha1.bl hn; replace ha2 := ha2.bl hn; replace hq1 := hq1.bl hn; replace hq2 := hq2.bl hn; replace hb := hb.trans (hn.mono hb.size)
  refine hK _ _ rfl ?_; clear hK K hn
  refine wpSq_call rfl (by kernel_rfl) fun K hK => ?_
  go_big_op
  have lt_b1 := x_b1.lt
  obtain ⟨p_b2, w_2, eP, eW, x_b2, hn, kb_b2⟩ := newBox w_1 #[.bool n_1a, .slice o_1a k_1a c_1a, .bool n_1b, .slice o_1b k_1b c_1b] 26 hb.size
  have ne_b1_b2 : Hid (p_b1 ≠ p_b2) := Nat.ne_of_lt (eP ▸ lt_b1)
  rw [eW, eP]
  clear eW eP lt_b1
  replace ha1 := ha1.bl hn; replace ha2 := ha2.bl hn; replace hq1 := hq1.bl hn; replace hq2 := hq2.bl hn; replace x_b1 := x_b1.bl hn; replace hb := hb.trans (hn.mono hb.size)
  refine hK _ _ rfl ?_; clear hK K hn
  refine wpSq_call rfl (by kernel_rfl) fun K hK => ?_
  go_big_op
  have lt_b1 := x_b1.lt
  have lt_b2 := x_b2.lt
  obtain ⟨p_b3, w_3, eP, eW, x_b3, hn, kb_b3⟩ := newBox w_2 #[.bool false, .slice none 0 0] 24 hb.size
  have ne_b1_b3 : Hid (p_b1 ≠ p_b3) := Nat.ne_of_lt (eP ▸ lt_b1)
  have ne_b2_b3 : Hid (p_b2 ≠ p_b3) := Nat.ne_of_lt (eP ▸ lt_b2)
  rw [eW, eP]
  clear eW eP lt_b1 lt_b2
  replace ha1 := ha1.bl hn; replace ha2 := ha2.bl hn; replace hq1 := hq1.bl hn; replace hq2 := hq2.bl hn; replace x_b1 := x_b1.bl hn; replace x_b2 := x_b2.bl hn; replace hb := hb.trans (hn.mono hb.size)
  refine hK _ _ rfl ?_; clear hK K hn
  refine wpSq_call rfl (by kernel_rfl) fun K hK => ?_
  go_big_op
  have lt_b1 := x_b1.lt
  have lt_b2 := x_b2.lt
  have lt_b3 := x_b3.lt
  obtain ⟨p_b4, w_4, eP, eW, x_b4, hn, kb_b4⟩ := newBox w_3 #[.bool false, .slice none 0 0] 24 hb.size
  have ne_b1_b4 : Hid (p_b1 ≠ p_b4) := Nat.ne_of_lt (eP ▸ lt_b1)
  have ne_b2_b4 : Hid (p_b2 ≠ p_b4) := Nat.ne_of_lt (eP ▸ lt_b2)
  have ne_b3_b4 : Hid (p_b3 ≠ p_b4) := Nat.ne_of_lt (eP ▸ lt_b3)
  rw [eW, eP]
  clear eW eP lt_b1 lt_b2 lt_b3
  replace ha1 := ha1.bl hn; replace ha2 := ha2.bl hn; replace hq1 := hq1.bl hn; replace hq2 := hq2.bl hn; replace x_b1 := x_b1.bl hn; replace x_b2 := x_b2.bl hn; replace x_b3 := x_b3.bl hn; replace hb := hb.trans (hn.mono hb.size)
  refine hK _ _ rfl ?_; clear hK K hn
  apply wpSq_end
  refine hK1 _ _ ?_
  refine wp_seq_k ?_
  intro K2 hK2
  refine wp_region_fl2 [(0, false), (1, false), (2, false), (3, false), (5, false), (6, false), (7, false), (8, false), (4, true), (9, true)] [10, 11] [] (fun _ => default) [99, 0, 99, 1, 99, 99, 1, 99, 0, 99, 99, 99] [] (fun w' => w'.cell? ⟨p_b1, 0, none⟩ = some (.bool n_0a) ∧ w'.cell? ⟨p_b1, 1, none⟩ = some (.slice o_0a k_0a c_0a) ∧ w'.cell? ⟨p_b1, 2, none⟩ = some (.bool n_0b) ∧ w'.cell? ⟨p_b1, 3, none⟩ = some (.slice o_0b k_0b c_0b) ∧ w'.cell? ⟨p_b2, 0, none⟩ = some (.bool n_1a) ∧ w'.cell? ⟨p_b2, 1, none⟩ = some (.slice o_1a k_1a c_1a) ∧ w'.cell? ⟨p_b2, 2, none⟩ = some (.bool n_1b) ∧ w'.cell? ⟨p_b2, 3, none⟩ = some (.slice o_1b k_1b c_1b)) [fun w' => w'.cell? ⟨p_b1, 0, none⟩ = some (.bool n_0a) ∧ w'.cell? ⟨p_b1, 1, none⟩ = some (.slice o_0a k_0a c_0a) ∧ w'.cell? ⟨p_b1, 2, none⟩ = some (.bool n_0b) ∧ w'.cell? ⟨p_b1, 3, none⟩ = some (.slice o_0b k_0b c_0b), fun w' => w'.cell? ⟨p_b2, 0, none⟩ = some (.bool n_1a) ∧ w'.cell? ⟨p_b2, 1, none⟩ = some (.slice o_1a k_1a c_1a) ∧ w'.cell? ⟨p_b2, 2, none⟩ = some (.bool n_1b) ∧ w'.cell? ⟨p_b2, 3, none⟩ = some (.slice o_1b k_1b c_1b)] (by kernel_rfl) (by kernel_rfl) (by kernel_rfl) (by kernel_rfl) (by kernel_rfl) (by kernel_rfl) (by kernel_rfl) (by kernel_rfl) (by decide) (by intro j hj; cases hj) (by intro w' o hC; obtain ⟨c0, c1, c2, c3, c4, c5, c6, c7⟩ := hC; exact ⟨cell_alloc c0 o, cell_alloc c1 o, cell_alloc c2 o, cell_alloc c3 o, cell_alloc c4 o, cell_alloc c5 o, cell_alloc c6 o, cell_alloc c7 o⟩) (by intro w' hC G hG; obtain ⟨c0, c1, c2, c3, c4, c5, c6, c7⟩ := hC; simp only [List.mem_cons, List.not_mem_nil, or_false] at hG; rcases hG with rfl | rfl <;> first | exact ⟨c0, c1, c2, c3⟩ | exact ⟨c4, c5, c6, c7⟩) ?_
  have lt_b1 := x_b1.lt
  have lt_b2 := x_b2.lt
  have lt_b3 := x_b3.lt
  have lt_b4 := x_b4.lt
  intro w_5 hn
  replace lt_b1 := Nat.lt_of_lt_of_le lt_b1 hn.size
  replace lt_b2 := Nat.lt_of_lt_of_le lt_b2 hn.size
  replace lt_b3 := Nat.lt_of_lt_of_le lt_b3 hn.size
  replace lt_b4 := Nat.lt_of_lt_of_le lt_b4 hn.size
  replace ha1 := ha1.bl hn; replace ha2 := ha2.bl hn; replace hq1 := hq1.bl hn; replace hq2 := hq2.bl hn; replace x_b1 := x_b1.bl hn; replace x_b2 := x_b2.bl hn; replace x_b3 := x_b3.bl hn; replace x_b4 := x_b4.bl hn; replace hb := hb.trans (hn.mono hb.size)
  clear hn
  have kb0 := hb.size
  refine ⟨⟨x_b1.cell 0 rfl, x_b1.cell 1 rfl, x_b1.cell 2 rfl, x_b1.cell 3 rfl, x_b2.cell 0 rfl, x_b2.cell 1 rfl, x_b2.cell 2 rfl, x_b2.cell 3 rfl⟩, ?_⟩
  apply wpFl_ld rfl rfl; (case h1 => intro w' hC K hK; go_big_op; exact hK); iterate 4 kernel_rfl
  apply wpFl_ld rfl rfl; (case h1 => intro w' hC K hK; obtain ⟨c0, c1, c2, c3⟩ := hC; go_big_op; exact hK); iterate 4 kernel_rfl
  apply wpFl_ld rfl rfl; (case h1 => intro w' hC K hK; go_big_op; exact hK); iterate 4 kernel_rfl
  apply wpFl_ld rfl rfl; (case h1 => intro w' hC K hK; obtain ⟨c0, c1, c2, c3⟩ := hC; go_big_op; exact hK); iterate 4 kernel_rfl
  apply wpFl_ld rfl rfl; (case h1 => intro w' hC K hK; go_big_op; exact hK); iterate 4 kernel_rfl
  apply wpFl_ld rfl rfl; (case h1 => intro w' hC K hK; obtain ⟨c0, c1, c2, c3⟩ := hC; go_big_op; exact hK); iterate 4 kernel_rfl
  apply wpFl_ld rfl rfl; (case h1 => intro w' hC K hK; go_big_op; exact hK); iterate 4 kernel_rfl
  apply wpFl_ld rfl rfl; (case h1 => intro w' hC K hK; obtain ⟨c0, c1, c2, c3⟩ := hC; go_big_op; exact hK); iterate 4 kernel_rfl
  refine wpFl_call rfl (by kernel_rfl) fun w_6 hn hC => ?_; clear hC
  replace ha1 := ha1.bl hn; replace ha2 := ha2.bl hn; replace hq1 := hq1.bl hn; replace hq2 := hq2.bl hn; replace x_b1 := x_b1.bl hn; replace x_b2 := x_b2.bl hn; replace x_b3 := x_b3.bl hn; replace x_b4 := x_b4.bl hn; replace hb := hb.trans (hn.mono hb.size)
  clear hn; intro K hK
  go_big_op
  go_fit (zmul_any ha1 hq2 (by omega) (by omega) )
  rintro e w_7 ⟨v_g1, rfl, g1, hb_7⟩
  replace ha1 := ha1.bl hb_7; replace ha2 := ha2.bl hb_7; replace hq1 := hq1.bl hb_7; replace hq2 := hq2.bl hb_7; replace x_b1 := x_b1.bl hb_7; replace x_b2 := x_b2.bl hb_7; replace x_b3 := x_b3.bl hb_7; replace x_b4 := x_b4.bl hb_7; replace hb := hb.trans (hb_7.mono hb.size)
  replace g1 := g1.rd
  obtain ⟨n_g1, o_g1, k_g1, c_g1, rfl⟩ := g1.open2
  have Lg1 := hide (g1.lenOf (zlen_mul (ha1.len) (hq2.len)))
  refine hK _ _ rfl hb_7 ⟨x_b1.cell 0 rfl, x_b1.cell 1 rfl, x_b1.cell 2 rfl, x_b1.cell 3 rfl, x_b2.cell 0 rfl, x_b2.cell 1 rfl, x_b2.cell 2 rfl, x_b2.cell 3 rfl⟩ ?_
  clear hK K hb_7
  refine wpFl_call rfl (by kernel_rfl) fun w_8 hn hC => ?_; clear hC
  replace ha1 := ha1.bl hn; replace ha2 := ha2.bl hn; replace hq1 := hq1.bl hn; replace hq2 := hq2.bl hn; replace x_b1 := x_b1.bl hn; replace x_b2 := x_b2.bl hn; replace x_b3 := x_b3.bl hn; replace x_b4 := x_b4.bl hn; replace g1 := g1.bl hn; replace hb := hb.trans (hn.mono hb.size)
  clear hn; intro K hK
  go_big_op
  go_fit (zmul_any hq1 ha2 (by omega) (by omega) )
  rintro e w_9 ⟨v_g2, rfl, g2, hb_9⟩
  replace ha1 := ha1.bl hb_9; replace ha2 := ha2.bl hb_9; replace hq1 := hq1.bl hb_9; replace hq2 := hq2.bl hb_9; replace x_b1 := x_b1.bl hb_9; replace x_b2 := x_b2.bl hb_9; replace x_b3 := x_b3.bl hb_9; replace x_b4 := x_b4.bl hb_9; replace g1 := g1.bl hb_9; replace hb := hb.trans (hb_9.mono hb.size)
  replace g2 := g2.rd
  obtain ⟨n_g2, o_g2, k_g2, c_g2, rfl⟩ := g2.open2
  have Lg2 := hide (g2.lenOf (zlen_mul (hq1.len) (ha2.len)))
  refine hK _ _ rfl hb_9 ⟨x_b1.cell 0 rfl, x_b1.cell 1 rfl, x_b1.cell 2 rfl, x_b1.cell 3 rfl, x_b2.cell 0 rfl, x_b2.cell 1 rfl, x_b2.cell 2 rfl, x_b2.cell 3 rfl⟩ ?_
  clear hK K hb_9
  apply wpFl_end
  case ha => intro pt; simp only [putF]; rfl
  case h =>
  intro w_10 pt hn hC hF hD
  clear hC
  replace ha1 := ha1.bl hn; replace ha2 := ha2.bl hn; replace hq1 := hq1.bl hn; replace hq2 := hq2.bl hn; replace x_b1 := x_b1.bl hn; replace x_b2 := x_b2.bl hn; replace x_b3 := x_b3.bl hn; replace x_b4 := x_b4.bl hn; replace g1 := g1.bl hn; replace g2 := g2.bl hn; replace hb := hb.trans (hn.mono hb.size)
  clear hn
  clear hF hD
  clear pt
  clear kb0 lt_b1 lt_b2 lt_b3 lt_b4
  refine wpTail_call rfl (by kernel_rfl) fun K hK => ?_
  obtain ⟨d0, d1⟩ := x_b3.f2
  have f0 := x_b3.free 0; have f1 := x_b3.free 1
  go_big_op
  have hnd := x_b3.nod rfl rfl
  obtain ⟨w_11, eW, x_b3', ho⟩ : ∃ w', ((w_10.setCell ⟨p_b3, 0, none⟩ (.bool n_g1)).setCell ⟨p_b3, 1, none⟩ (.slice o_g1 k_g1 c_g1)) = w' ∧ Bs w' p_b3 #[.bool n_g1, .slice o_g1 k_g1 c_g1] 24 ∧ Only p_b3 w_10 w' := x_b3.setN [(0, .bool n_g1), (1, .slice o_g1 k_g1 c_g1)]
  rw [eW]; clear eW d0 d1 f0 f1 x_b3
  have x_b3 := x_b3'; clear x_b3'
  replace ha1 := ha1.fr hnd ho; replace ha2 := ha2.fr hnd ho; replace hq1 := hq1.fr hnd ho; replace hq2 := hq2.fr hnd ho; replace x_b1 := x_b1.frame ho ne_b1_b3; replace x_b2 := x_b2.frame ho ne_b2_b3; replace x_b4 := x_b4.frame ho ne_b3_b4.symm; replace g1 := g1.fr hnd ho; replace g2 := g2.fr hnd ho; replace hb := belowOnly hb ho kb_b3
  refine hK _ _ rfl (And.intro ⟨x_b1.cell 0 rfl, x_b1.cell 1 rfl, x_b1.cell 2 rfl, x_b1.cell 3 rfl⟩ (And.intro ⟨x_b2.cell 0 rfl, x_b2.cell 1 rfl, x_b2.cell 2 rfl, x_b2.cell 3 rfl⟩ True.intro)) ?_; clear hK K ho hnd
  refine wpTail_call rfl (by kernel_rfl) fun K hK => ?_
  obtain ⟨d0, d1⟩ := x_b4.f2
  have f0 := x_b4.free 0; have f1 := x_b4.free 1
  go_big_op
  have hnd := x_b4.nod rfl rfl
  obtain ⟨w_12, eW, x_b4', ho⟩ : ∃ w', ((w_11.setCell ⟨p_b4, 0, none⟩ (.bool n_g2)).setCell ⟨p_b4, 1, none⟩ (.slice o_g2 k_g2 c_g2)) = w' ∧ Bs w' p_b4 #[.bool n_g2, .slice o_g2 k_g2 c_g2] 24 ∧ Only p_b4 w_11 w' := x_b4.setN [(0, .bool n_g2), (1, .slice o_g2 k_g2 c_g2)]
  rw [eW]; clear eW d0 d1 f0 f1 x_b4
  have x_b4 := x_b4'; clear x_b4'
  replace ha1 := ha1.fr hnd ho; replace ha2 := ha2.fr hnd ho; replace hq1 := hq1.fr hnd ho; replace hq2 := hq2.fr hnd ho; replace x_b1 := x_b1.frame ho ne_b1_b4; replace x_b2 := x_b2.frame ho ne_b2_b4; replace x_b3 := x_b3.frame ho ne_b3_b4; replace g1 := g1.fr hnd ho; replace g2 := g2.fr hnd ho; replace hb := belowOnly hb ho kb_b4
  refine hK _ _ rfl (And.intro ⟨x_b1.cell 0 rfl, x_b1.cell 1 rfl, x_b1.cell 2 rfl, x_b1.cell 3 rfl⟩ (And.intro ⟨x_b2.cell 0 rfl, x_b2.cell 1 rfl, x_b2.cell 2 rfl, x_b2.cell 3 rfl⟩ True.intro)) ?_; clear hK K ho hnd
  apply wpTail_end
  refine hK2 _ _ ?_
  refine wp_ret ?_
  try dsimp only [Exit.then, Exit.inBlock]
  obtain ⟨r0_0, r0_1⟩ := x_b3.f2
  obtain ⟨r2_0, r2_1⟩ := x_b4.f2
  refine bodyPost_ret (v := (.tuple #[(.agg #[.bool n_g1, .slice o_g1 k_g1 c_g1]), (.agg #[.bool n_g2, .slice o_g2 k_g2 c_g2])])) (by simp [results, Tryz.results65, go_sem, r0_0, r0_1, r2_0, r2_1]) rfl ?_
  exact ⟨_, _, rfl, g1, g2, hb⟩
theorem zfAdd_any {w : World} {va vb : Value} {x y : Int} {l m : Nat} (ha : ZN w va x l) (hb' : ZN w vb y m) (hl : l ≤ 1000000000) (hm : m ≤ 1000000000) :
    Calls Tryz.prog 81 #[va, vb] w fun e w' => ∃ v', e = .returned v' ∧ ZO w' w.heap.size v' (x + y) ∧ Below w.heap.size w w' := zadd_any ha hb' hl hm
section
variable {w : World} {p : Nat} {n1 n2 n3 n4 : Bool} {o1 o2 o3 o4 : Option Addr} {k1 k2 k3 k4 c1 c2 c3 c4 : Nat} {x y u v : Int} {l m k n : Nat}

set_option maxHeartbeats 4000000 in
set_option maxRecDepth 20000 in
theorem div0_none (hx : Bs w p #[.bool n1, .slice o1 k1 c1, .bool n2, .slice o2 k2 c2, .bool n3, .slice o3 k3 c3, .bool n4, .slice o4 k4 c4] 26)
    (ha : ZN w (.agg #[.bool n2, .slice o2 k2 c2]) y m) (hq : ZN w (.agg #[.bool n4, .slice o4 k4 c4]) v n) (hm : m ≤ 100000000) (hn : n ≤ 100000000) (hy : y ≠ 0) (hv : v ≠ 0) :
    Calls Tryz.prog 66 #[.slice (some ⟨p, 0, none⟩) 2 2] w fun e w' => e = .returned (.bool false) ∧ Below w.heap.size w w' := by
  have HY := hide (show (y.sign == 0) = false by simpa using hy)
  have HV := hide (show (v.sign == 0) = false by simpa using hv)
  clear hy hv
  go_enter Tryz.func66, Tryz.ntmps66
  have hb := Below.refl w.heap.size w
  refine wp_seq_k ?_
  intro K1 hK1
  refine wp_region_sq [0] (by kernel_rfl) ?_
  refine wpSq_call rfl (by kernel_rfl) fun K hK => ?_
  go_big_move; refine hK _ _ rfl ?_; clear hK K
  apply wpSq_end
  refine hK1 _ _ ?_
  refine wp_seq_k ?_
  intro K2 hK2
  refine wp_seq_k ?_
  intro K3 hK3
  refine wp_region_sq [0, 1, 2] (by kernel_rfl) ?_
  refine wpSq_call rfl (by kernel_rfl) fun K hK => ?_
  go_big_move; refine hK _ _ rfl ?_; clear hK K
  refine wpSq_call rfl (by kernel_rfl) fun K hK => ?_
  go_big_op; refine hK _ _ rfl ?_; clear hK K
  refine wpSq_call rfl (by kernel_rfl) fun K hK => ?_
  go_big_move; refine hK _ _ rfl ?_; clear hK K
  apply wpSq_end
  refine hK3 _ _ ?_
  refine wp_block ?_
  refine wp_loop_rounds 3 ?_
  show Code.wp _ _ _ _ _
  refine wp_seq_k ?_
  intro K4 hK4
  refine wp_region_sq [0] (by kernel_rfl) ?_
  refine wpSq_call rfl (by kernel_rfl) fun K hK => ?_
  go_big_op; refine hK _ _ rfl ?_; clear hK K
  apply wpSq_end
  refine hK4 _ _ ?_
  refine wp_seq_k ?_
  intro K5 hK5
  refine wp_cond_true (congrArg Value.bool (show _ = true from (by first | rfl | assumption | (simp; done) | omega))) ?_
  refine wp_skip ?_
  refine hK5 _ _ ?_
  refine wp_seq_k ?_
  intro K6 hK6
  refine wp_block ?_
  refine wp_seq_k ?_
  intro K7 hK7
  refine wp_region_sq [0, 1, 2, 3] (by kernel_rfl) ?_
  refine wpSq_call rfl (by kernel_rfl) fun K hK => ?_
  go_big_op; refine hK _ _ rfl ?_; clear hK K
  refine wpSq_call rfl (by kernel_rfl) fun K hK => ?_
  have d0 : w.cell? ⟨p, 0, none⟩ = some (.bool n1) := hx.cell 0 rfl
  have d1 : w.cell? ⟨p, 1, none⟩ = some (.slice o1 k1 c1) := hx.cell 1 rfl
  have d2 : w.cell? ⟨p, 2, none⟩ = some (.bool n2) := hx.cell 2 rfl
  have d3 : w.cell? ⟨p, 3, none⟩ = some (.slice o2 k2 c2) := hx.cell 3 rfl
  have d4 : w.cell? ⟨p, 4, none⟩ = some (.bool n3) := hx.cell 4 rfl
  have d5 : w.cell? ⟨p, 5, none⟩ = some (.slice o3 k3 c3) := hx.cell 5 rfl
  have d6 : w.cell? ⟨p, 6, none⟩ = some (.bool n4) := hx.cell 6 rfl
  have d7 : w.cell? ⟨p, 7, none⟩ = some (.slice o4 k4 c4) := hx.cell 7 rfl
  go_big_op; refine hK _ _ rfl ?_; clear hK K d0 d1 d2 d3 d4 d5 d6 d7
  refine wpSq_call rfl (by kernel_rfl) fun K hK => ?_
  go_big_op
  have lt_xx := hx.lt
  obtain ⟨p_b1, w_1, eP, eW, x_b1, hn, kb_b1⟩ := newBox w #[.bool false, .slice none 0 0, .bool false, .slice none 0 0] 26 hb.size
  have ne_xx_b1 : Hid (p ≠ p_b1) := Nat.ne_of_lt (eP ▸ lt_xx)
  rw [eW, eP]
  clear eW eP lt_xx
  replace hx := hx.bl hn; replace ha := ha.bl hn; replace hq := hq.bl hn; replace hb := hb.trans (hn.mono hb.size)
  refine hK _ _ rfl ?_; clear hK K hn
  refine wpSq_call rfl (by kernel_rfl) fun K hK => ?_
  obtain ⟨d0, d1, d2, d3⟩ := x_b1.f4
  have f0 := x_b1.free 0; have f1 := x_b1.free 1; have f2 := x_b1.free 2; have f3 := x_b1.free 3
  go_big_op
  have hnd := x_b1.nod rfl rfl
  obtain ⟨w_2, eW, x_b1', ho⟩ : ∃ w', ((((w_1.setCell ⟨p_b1, 0, none⟩ (.bool n1)).setCell ⟨p_b1, 1, none⟩ (.slice o1 k1 c1)).setCell ⟨p_b1, 2, none⟩ (.bool n2)).setCell ⟨p_b1, 3, none⟩ (.slice o2 k2 c2)) = w' ∧ Bs w' p_b1 #[.bool n1, .slice o1 k1 c1, .bool n2, .slice o2 k2 c2] 26 ∧ Only p_b1 w_1 w' := x_b1.setN [(0, .bool n1), (1, .slice o1 k1 c1), (2, .bool n2), (3, .slice o2 k2 c2)]
  rw [eW]; clear eW d0 d1 d2 d3 f0 f1 f2 f3 x_b1
  have x_b1 := x_b1'; clear x_b1'
  replace hx := hx.frame ho ne_xx_b1; replace ha := ha.fr hnd ho; replace hq := hq.fr hnd ho; replace hb := belowOnly hb ho kb_b1
  refine hK _ _ rfl ?_; clear hK K ho hnd
  apply wpSq_end
  refine hK7 _ _ ?_
  refine wp_seq_k ?_
  intro K8 hK8
  refine wp_region_sq [0, 1, 2, 3] (by kernel_rfl) ?_
  refine wpSq_call rfl (by kernel_rfl) fun K hK => ?_
  go_big_op; refine hK _ _ rfl ?_; clear hK K
  refine wpSq_call rfl (by kernel_rfl) fun K hK => ?_
  obtain ⟨d0, d1, d2, d3⟩ := x_b1.f4
  go_big_op; refine hK _ _ rfl ?_; clear hK K d0 d1 d2 d3
  refine wpSq_call rfl (by kernel_rfl) fun K hK => ?_
  go_big_op
  go_fit (zsign_any ha (by omega) )
  rintro e w_3 ⟨rfl, hb_3⟩
  replace hx := hx.bl hb_3; replace ha := ha.bl hb_3; replace hq := hq.bl hb_3; replace x_b1 := x_b1.bl hb_3; replace hb := hb.trans (hb_3.mono hb.size)
  refine hK _ _ rfl ?_
  clear hK K hb_3
  refine wpSq_call rfl (by kernel_rfl) fun K hK => ?_
  go_big_op; refine hK _ _ rfl ?_; clear hK K
  apply wpSq_end
  refine hK8 _ _ ?_
  refine wp_cond_false (congrArg Value.bool (show _ = false from (by simpa using HY.out))) ?_
  refine wp_skip ?_
  refine hK6 _ _ ?_
  refine wp_region_sq [0, 1] (by kernel_rfl) ?_
  refine wpSq_call rfl (by kernel_rfl) fun K hK => ?_
  go_big_op; refine hK _ _ rfl ?_; clear hK K
  refine wpSq_call rfl (by kernel_rfl) fun K hK => ?_
  go_big_move; refine hK _ _ rfl ?_; clear hK K
  apply wpSq_end
  show Code.wp _ _ _ _ _
  refine wp_seq_k ?_
  intro K9 hK9
  refine wp_region_sq [0] (by kernel_rfl) ?_
  refine wpSq_call rfl (by kernel_rfl) fun K hK => ?_
  go_big_op; refine hK _ _ rfl ?_; clear hK K
  apply wpSq_end
  refine hK9 _ _ ?_
  refine wp_seq_k ?_
  intro K10 hK10
  refine wp_cond_true (congrArg Value.bool (show _ = true from (by first | rfl | assumption | (simp; done) | omega))) ?_
  refine wp_skip ?_
  refine hK10 _ _ ?_
  refine wp_seq_k ?_
  intro K11 hK11
  refine wp_block ?_
  refine wp_seq_k ?_
  intro K12 hK12
  refine wp_region_sq [0, 1, 2, 3] (by kernel_rfl) ?_
  refine wpSq_call rfl (by kernel_rfl) fun K hK => ?_
  go_big_op; refine hK _ _ rfl ?_; clear hK K
  refine wpSq_call rfl (by kernel_rfl) fun K hK => ?_
  have d0 : w_3.cell? ⟨p, 0, none⟩ = some (.bool n1) := hx.cell 0 rfl
  have d1 : w_3.cell? ⟨p, 1, none⟩ = some (.slice o1 k1 c1) := hx.cell 1 rfl
  have d2 : w_3.cell? ⟨p, 2, none⟩ = some (.bool n2) := hx.cell 2 rfl
  have d3 : w_3.cell? ⟨p, 3, none⟩ = some (.slice o2 k2 c2) := hx.cell 3 rfl
  have d4 : w_3.cell? ⟨p, 4, none⟩ = some (.bool n3) := hx.cell 4 rfl
  have d5 : w_3.cell? ⟨p, 5, none⟩ = some (.slice o3 k3 c3) := hx.cell 5 rfl
  have d6 : w_3.cell? ⟨p, 6, none⟩ = some (.bool n4) := hx.cell 6 rfl
  have d7 : w_3.cell? ⟨p, 7, none⟩ = some (.slice o4 k4 c4) := hx.cell 7 rfl
  go_big_op; refine hK _ _ rfl ?_; clear hK K d0 d1 d2 d3 d4 d5 d6 d7
  refine wpSq_call rfl (by kernel_rfl) fun K hK => ?_
  go_big_op
  have lt_xx := hx.lt
  have lt_b1 := x_b1.lt
  obtain ⟨p_b2, w_4, eP, eW, x_b2, hn, kb_b2⟩ := newBox w_3 #[.bool false, .slice none 0 0, .bool false, .slice none 0 0] 26 hb.size
  have ne_xx_b2 : Hid (p ≠ p_b2) := Nat.ne_of_lt (eP ▸ lt_xx)
  have ne_b1_b2 : Hid (p_b1 ≠ p_b2) := Nat.ne_of_lt (eP ▸ lt_b1)
  rw [eW, eP]
  clear eW eP lt_xx lt_b1
  replace hx := hx.bl hn; replace ha := ha.bl hn; replace hq := hq.bl hn; replace x_b1 := x_b1.bl hn; replace hb := hb.trans (hn.mono hb.size)
  refine hK _ _ rfl ?_; clear hK K hn
  refine wpSq_call rfl (by kernel_rfl) fun K hK => ?_
  obtain ⟨d0, d1, d2, d3⟩ := x_b2.f4
  have f0 := x_b2.free 0; have f1 := x_b2.free 1; have f2 := x_b2.free 2; have f3 := x_b2.free 3
  go_big_op
  have hnd := x_b2.nod rfl rfl
  obtain ⟨w_5, eW, x_b2', ho⟩ : ∃ w', ((((w_4.setCell ⟨p_b2, 0, none⟩ (.bool n3)).setCell ⟨p_b2, 1, none⟩ (.slice o3 k3 c3)).setCell ⟨p_b2, 2, none⟩ (.bool n4)).setCell ⟨p_b2, 3, none⟩ (.slice o4 k4 c4)) = w' ∧ Bs w' p_b2 #[.bool n3, .slice o3 k3 c3, .bool n4, .slice o4 k4 c4] 26 ∧ Only p_b2 w_4 w' := x_b2.setN [(0, .bool n3), (1, .slice o3 k3 c3), (2, .bool n4), (3, .slice o4 k4 c4)]
  rw [eW]; clear eW d0 d1 d2 d3 f0 f1 f2 f3 x_b2
  have x_b2 := x_b2'; clear x_b2'
  replace hx := hx.frame ho ne_xx_b2; replace ha := ha.fr hnd ho; replace hq := hq.fr hnd ho; replace x_b1 := x_b1.frame ho ne_b1_b2; replace hb := belowOnly hb ho kb_b2
  refine hK _ _ rfl ?_; clear hK K ho hnd
  apply wpSq_end
  refine hK12 _ _ ?_
  refine wp_seq_k ?_
  intro K13 hK13
  refine wp_region_sq [0, 1, 2, 3] (by kernel_rfl) ?_
  refine wpSq_call rfl (by kernel_rfl) fun K hK => ?_
  go_big_op; refine hK _ _ rfl ?_; clear hK K
  refine wpSq_call rfl (by kernel_rfl) fun K hK => ?_
  obtain ⟨d0, d1, d2, d3⟩ := x_b2.f4
  go_big_op; refine hK _ _ rfl ?_; clear hK K d0 d1 d2 d3
  refine wpSq_call rfl (by kernel_rfl) fun K hK => ?_
  go_big_op
  go_fit (zsign_any hq (by omega) )
  rintro e w_6 ⟨rfl, hb_6⟩
  clear x_b1
  replace hx := hx.bl hb_6; replace ha := ha.bl hb_6; replace hq := hq.bl hb_6; replace x_b2 := x_b2.bl hb_6; replace hb := hb.trans (hb_6.mono hb.size)
  refine hK _ _ rfl ?_
  clear hK K hb_6
  refine wpSq_call rfl (by kernel_rfl) fun K hK => ?_
  go_big_op; refine hK _ _ rfl ?_; clear hK K
  apply wpSq_end
  refine hK13 _ _ ?_
  refine wp_cond_false (congrArg Value.bool (show _ = false from (by simpa using HV.out))) ?_
  refine wp_skip ?_
  refine hK11 _ _ ?_
  refine wp_region_sq [0, 1] (by kernel_rfl) ?_
  refine wpSq_call rfl (by kernel_rfl) fun K hK => ?_
  go_big_op; refine hK _ _ rfl ?_; clear hK K
  refine wpSq_call rfl (by kernel_rfl) fun K hK => ?_
  go_big_move; refine hK _ _ rfl ?_; clear hK K
  apply wpSq_end
  show Code.wp _ _ _ _ _
  refine wp_seq_k ?_
  intro K14 hK14
  refine wp_region_sq [0] (by kernel_rfl) ?_
  refine wpSq_call rfl (by kernel_rfl) fun K hK => ?_
  go_big_op; refine hK _ _ rfl ?_; clear hK K
  apply wpSq_end
  refine hK14 _ _ ?_
  refine wp_seq_k ?_
  intro K15 hK15
  refine wp_cond_false (congrArg Value.bool (show _ = false from (by first | rfl | assumption | (simp; done) | omega))) ?_
  refine wp_exit ?_
  refine hK2 _ _ ?_
  refine wp_seq_k ?_
  intro K16 hK16
  refine wp_region_sq [0] (by kernel_rfl) ?_
  refine wpSq_call rfl (by kernel_rfl) fun K hK => ?_
  go_big_move; refine hK _ _ rfl ?_; clear hK K
  apply wpSq_end
  refine hK16 _ _ ?_
  refine wp_ret ?_
  try dsimp only [Exit.then, Exit.inBlock]
  refine bodyPost_ret (v := (.bool false)) (by simp [results, Tryz.results66, go_sem]) rfl ?_
  exact ⟨rfl, hb⟩
end
end Go.Proofs.YtkgbfnmlpajblaaGreatDoor

