/- Whole numbers with a sign as values: what is handed in, what is answered; zint.signed and turned. -/
import Derived.Test.YtabmffenbkdgkaaDoorR2aToR6
import Derived.Handy
import Derived.WalkKit
import Derived.Still
import Derived.Deep.Draws
import Derived.Test.YtabmffenbkdgkaaDoorRows

namespace Go.Proofs.YtabmffenbkdgkaaDoor
open Go.RowKit Dig

/-- The number that a sign and digits stand for. -/
def zv (neg : Bool) (xs : List Nat) : Int := if neg then -(val xs : Int) else (val xs : Int)

theorem zv_abs (neg : Bool) (xs : List Nat) : (zv neg xs).natAbs = val xs := by
  unfold zv; cases neg <;> simp
theorem zv_neg (neg : Bool) (xs : List Nat) : decide (zv neg xs < 0) = (neg && decide (val xs ≠ 0)) := by
  unfold zv
  cases neg
  · simp
  · rw [Bool.true_and]; exact decide_eq_decide.2 (by simp; omega)

/-- v is a whole number z, however laid; its digits are at most l. -/
def ZN (w : World) (v : Value) (z : Int) (l : Nat) : Prop := ∃ neg s xs, v = .agg #[.bool neg, s] ∧ Rd w s xs ∧ zv neg xs = z ∧ xs.length ≤ l
/-- v is z, canonical, its digits in memory from block B on. -/
def ZO (w : World) (B : Nat) (v : Value) (z : Int) : Prop := ∃ s, v = .agg #[.bool (decide (z < 0)), s] ∧ Own w B s (dig z.natAbs)
/-- v is z, canonical. -/
def ZC (w : World) (v : Value) (z : Int) : Prop := ∃ s, v = .agg #[.bool (decide (z < 0)), s] ∧ Rd w s (dig z.natAbs)

theorem ZN.below {w w' : World} {v : Value} {z : Int} {l : Nat} (h : ZN w v z l) {B : Nat} (hb : Below B w w') (hB : w.heap.size ≤ B) : ZN w' v z l := by
  obtain ⟨neg, s, xs, hv, hr, hz, hl⟩ := h
  exact ⟨neg, s, xs, hv, hr.below hb hB, hz, hl⟩
theorem ZN.alloc {w : World} {v : Value} {z : Int} {l : Nat} (h : ZN w v z l) (o : Obj) : ZN (w.alloc o) v z l := h.below ((Below.refl w.heap.size _).alloc (Nat.le_refl _) o) (Nat.le_refl _)
theorem ZN.drew {w : World} {v : Value} {z : Int} {l : Nat} (h : ZN w v z l) : ZN w.drew v z l := h.below ((Below.refl _ _).drew) (Nat.le_refl _)
theorem ZN.mono {w : World} {v : Value} {z : Int} {l m : Nat} (h : ZN w v z l) (k : l ≤ m) : ZN w v z m := by
  obtain ⟨neg, s, xs, hv, hr, hz, hl⟩ := h
  exact ⟨neg, s, xs, hv, hr, hz, Nat.le_trans hl k⟩
theorem ZO.below {w w' : World} {B : Nat} {v : Value} {z : Int} (h : ZO w B v z) {C : Nat} (hb : Below C w w') (hB : w.heap.size ≤ C) : ZO w' B v z := by
  obtain ⟨s, hv, hr⟩ := h
  exact ⟨s, hv, hr.below hb hB⟩
theorem ZO.mono {w : World} {B C : Nat} {v : Value} {z : Int} (h : ZO w B v z) (hC : C ≤ B) : ZO w C v z := by
  obtain ⟨s, hv, hr⟩ := h
  exact ⟨s, hv, hr.mono hC⟩
theorem ZC.below {w w' : World} {v : Value} {z : Int} (h : ZC w v z) {C : Nat} (hb : Below C w w') (hB : w.heap.size ≤ C) : ZC w' v z := by
  obtain ⟨s, hv, hr⟩ := h
  exact ⟨s, hv, hr.below hb hB⟩
theorem ZC.alloc {w : World} {v : Value} {z : Int} (h : ZC w v z) (o : Obj) : ZC (w.alloc o) v z := h.below ((Below.refl w.heap.size _).alloc (Nat.le_refl _) o) (Nat.le_refl _)
theorem ZO.rd {w : World} {B : Nat} {v : Value} {z : Int} (h : ZO w B v z) : ZC w v z := by
  obtain ⟨s, hv, hr⟩ := h
  exact ⟨s, hv, hr.rd⟩
theorem zv_canon (z : Int) : zv (decide (z < 0)) (dig z.natAbs) = z := by
  unfold zv
  rw [val_dig]
  by_cases h : z < 0
  · rw [decide_eq_true h]; simp only [if_true]; omega
  · rw [decide_eq_false h]; simp only [Bool.false_eq_true, if_false]; omega
theorem ZC.zn {w : World} {v : Value} {z : Int} (h : ZC w v z) {l : Nat} (hl : (dig z.natAbs).length ≤ l) : ZN w v z l := by
  obtain ⟨s, hv, hr⟩ := h
  exact ⟨_, s, _, hv, hr, zv_canon z, hl⟩

theorem sign_of (neg : Bool) (n : Nat) : (neg && decide (0 < (dig n).length)) = decide ((if neg then -(n : Int) else (n : Int)) < 0) := by
  have h : (0 < (dig n).length) ↔ n ≠ 0 := by rw [List.length_pos_iff]; exact not_congr dig_eq_nil
  cases neg
  · simp
  · rw [Bool.true_and]; exact decide_eq_decide.2 (by rw [h]; simp; omega)

/-- Block b holds a struct Z. -/
def Bk (w : World) (b : Nat) (neg : Bool) (s : Value) : Prop := w.heap[b]? = some (.cells #[.bool neg, s] 24 (0, 0))
theorem Bk.new (w : World) (neg : Bool) (s : Value) : Bk (w.alloc (.cells #[.bool neg, s] 24)) w.heap.size neg s := by
  show (w.heap.push _)[w.heap.size]? = _
  simp
theorem Bk.size_alloc (w : World) (o : Obj) : (w.alloc o).heap.size = w.heap.size + 1 := by simp
theorem Bk.lt {w : World} {b : Nat} {neg : Bool} {s : Value} (h : Bk w b neg s) : b < w.heap.size := by
  rcases Nat.lt_or_ge b w.heap.size with hb | hb
  · exact hb
  · unfold Bk at h; rw [Array.getElem?_eq_none hb] at h; cases h
theorem Bk.below {w w' : World} {b : Nat} {neg : Bool} {s : Value} (h : Bk w b neg s) {B : Nat} (hb : Below B w w') (hB : w.heap.size ≤ B) : Bk w' b neg s := by
  unfold Bk; rw [hb.block b (Nat.lt_of_lt_of_le h.lt hB)]; exact h
theorem Bk.alloc {w : World} {b : Nat} {neg : Bool} {s : Value} (h : Bk w b neg s) (o : Obj) : Bk (w.alloc o) b neg s := h.below ((Below.refl w.heap.size _).alloc (Nat.le_refl _) o) (Nat.le_refl _)
theorem Bk.drew {w : World} {b : Nat} {neg : Bool} {s : Value} (h : Bk w b neg s) : Bk w.drew b neg s := h.below ((Below.refl w.heap.size _).drew) (Nat.le_refl _)
/-- What the walk reads of it. -/
theorem Bk.facts {w : World} {b : Nat} {neg : Bool} {s : Value} (h : Bk w b neg s) :
    w.cell? ⟨b, 0, none⟩ = some (.bool neg) ∧ w.cell? ⟨b, 1, none⟩ = some s ∧ w.frozen? ⟨b, 0, none⟩ = false ∧ w.frozen? ⟨b, 1, none⟩ = false := by
  unfold Bk at h
  exact ⟨by simp only [World.cell?, h]; rfl, by simp only [World.cell?, h]; rfl, by simp [World.frozen?, h], by simp [World.frozen?, h]⟩

theorem Bk.store {w : World} {b : Nat} {neg : Bool} {s : Value} (h : Bk w b neg s) (neg' : Bool) (s' : Value) : Bk ((w.setCell ⟨b, 0, none⟩ (.bool neg')).setCell ⟨b, 1, none⟩ s') b neg' s' := by
  unfold Bk at h ⊢
  simp only [World.setCell, Array.getElem?_modify, h]
  simp
theorem Bk.only (w : World) (b : Nat) (neg' : Bool) (s' : Value) : Only b w ((w.setCell ⟨b, 0, none⟩ (.bool neg')).setCell ⟨b, 1, none⟩ s') := ((Only.refl b w).setCell 0 _).setCell 1 _
theorem Bk.frame {w w' : World} {b c : Nat} {neg : Bool} {s : Value} (h : Bk w b neg s) (ho : Only c w w') (hne : b ≠ c) : Bk w' b neg s := by
  unfold Bk; rw [ho.block b hne]; exact h
theorem ZO.open2 {w : World} {B : Nat} {v : Value} {z : Int} (h : ZO w B v z) : ∃ sb oa n cap, v = .agg #[.bool sb, .slice oa n cap] := by
  obtain ⟨s, rfl, oa, cap, rfl, _⟩ := h
  exact ⟨_, oa, _, cap, rfl⟩
theorem Own.only {w w' : World} {B b : Nat} {v : Value} {ds : List Nat} (h : Own w B v ds) (ho : Only b w w') (hb : b < B) : Own w' B v ds := by
  obtain ⟨oa, cap, hv, hc, h0 | ⟨c, off, xs, hoa, hB', hr, hx, hd⟩⟩ := h
  · exact ⟨oa, cap, hv, hc, .inl h0⟩
  · exact ⟨oa, cap, hv, hc, .inr ⟨c, off, xs, hoa, hB', ho.row hr (by omega), hx, hd⟩⟩
theorem ZO.only {w w' : World} {B b : Nat} {v : Value} {z : Int} (h : ZO w B v z) (ho : Only b w w') (hb : b < B) : ZO w' B v z := by
  obtain ⟨s, hv, hr⟩ := h
  exact ⟨s, hv, hr.only ho hb⟩
theorem ZO.open_ {w : World} {B : Nat} {v : Value} {z : Int} (h : ZO w B v z) :
    ∃ oa cap, v = .agg #[.bool (decide (z < 0)), .slice oa (dig z.natAbs).length cap] := by
  obtain ⟨s, rfl, oa, cap, rfl, _⟩ := h
  exact ⟨oa, cap, rfl⟩
theorem ZC.open_ {w : World} {v : Value} {z : Int} (h : ZC w v z) :
    ∃ oa cap, v = .agg #[.bool (decide (z < 0)), .slice oa (dig z.natAbs).length cap] := by
  obtain ⟨s, rfl, oa, cap, rfl, _⟩ := h
  exact ⟨oa, cap, rfl⟩

set_option maxHeartbeats 400000 in
set_option maxRecDepth 20000 in
/-- signed: the canonical number of an amount. -/
theorem signed_any {w : World} {B : Nat} {s : Value} (neg : Bool) (n : Nat) (h : Own w B s (dig n)) :
    Calls Tryd.prog 55 #[.bool neg, s] w fun e w' => ∃ v, e = .returned v ∧ ZO w' B v (if neg then -(n : Int) else (n : Int)) ∧ Below w.heap.size w w' := by
  have HSG := hide (sign_of neg n)
  have h' := h
  obtain ⟨oa, cap, rfl, hcap, _⟩ := h
  have H' := hide h'
  clear h'
  have hbl : ∀ o, Below w.heap.size w (w.alloc o) := fun o => (Below.refl _ _).alloc (Nat.le_refl _) o
  have e1 : ((n : Int)).natAbs = n := by simp
  have e2 : (-(n : Int)).natAbs = n := by simp
  have E := hide (And.intro e1 e2)
  clear e1 e2
  cases neg
  · go_enter Tryd.func55, Tryd.ntmps55
    go_wp2
    go_returns
    refine ⟨_, rfl, ⟨_, ?_, by rw [E.out.1]; exact H'.out.below (hbl _) (Nat.le_refl _)⟩, hbl _⟩
    rw [decide_eq_false (by omega : ¬ (n : Int) < 0)]
  · go_enter Tryd.func55, Tryd.ntmps55
    go_wp2
    go_returns
    refine ⟨_, rfl, ⟨_, ?_, by rw [E.out.2]; exact H'.out.below (hbl _) (Nat.le_refl _)⟩, hbl _⟩
    have h3 := HSG.out
    simp only [Bool.true_and, if_true] at h3
    rw [h3]

/-- signed, of a number that is told. -/
theorem signed_z {w : World} {B : Nat} {s : Value} {neg : Bool} {n : Nat} (z : Int) (h : Own w B s (dig n)) (hz : (if neg then -(n : Int) else (n : Int)) = z) :
    Calls Tryd.prog 55 #[.bool neg, s] w fun e w' => ∃ v, e = .returned v ∧ ZO w' B v z ∧ Below w.heap.size w w' := by
  subst hz; exact signed_any neg n h

/-- turned: the other sign, the same digits. -/
theorem turned_any {w : World} {v : Value} {z : Int} {l : Nat} (h : ZN w v z l) :
    Calls Tryd.prog 71 #[v] w fun e w' => ∃ v', e = .returned v' ∧ ZN w' v' (-z) l ∧ Below w.heap.size w w' := by
  obtain ⟨neg, s, xs, rfl, hr, hz, hl⟩ := h
  have hbl : ∀ o, Below w.heap.size w (w.alloc o) := fun o => (Below.refl _ _).alloc (Nat.le_refl _) o
  have hb2 : ∀ o o', Below w.heap.size w ((w.alloc o).alloc o') := fun o o' => (hbl o).alloc (hbl o).size o'
  have HZ := hide (And.intro hz hl)
  have HR := hide hr
  obtain ⟨oa, cap, rfl, hcap, _⟩ := hr
  clear hz hl
  go_enter Tryd.func71, Tryd.ntmps71
  go_wp2
  go_returns
  refine ⟨_, rfl, ⟨!neg, _, xs, rfl, HR.out.below (hb2 _ _) (Nat.le_refl _), ?_, HZ.out.2⟩, hb2 _ _⟩
  rw [← HZ.out.1]
  unfold zv
  cases neg <;> simp

/-- A number's field of digits, opened. -/
theorem ZN.open_ {w : World} {v : Value} {z : Int} {l : Nat} (h : ZN w v z l) :
    ∃ neg oa cap xs, v = .agg #[.bool neg, .slice oa xs.length cap] ∧ xs.length ≤ cap ∧ Rd w (.slice oa xs.length cap) xs ∧ zv neg xs = z ∧ xs.length ≤ l := by
  obtain ⟨neg, s, xs, rfl, hr, hz, hl⟩ := h
  have hr' := hr
  obtain ⟨oa, cap, rfl, hcap, _⟩ := hr
  exact ⟨neg, oa, cap, xs, rfl, hcap, hr', hz, hl⟩

theorem bits_rd1 {w : World} {va : Value} {xs : List Nat} (hx : Rd w va xs) (hxl : xs.length ≤ 100000000000) :
    Calls Tryd.prog 74 #[va] w fun e w' => e = .returned (.int .i64 ((bitsN (val xs) : Nat) : Int)) ∧ Below w.heap.size w w' := by
  obtain ⟨oa, ca, rfl, hca, okx, hcx⟩ := hx
  exact bits_any oa ca xs w (by omega) hca okx hcx

set_option maxRecDepth 20000 in
/-- zint.Bits. -/
theorem zbits_any {w : World} {v : Value} {z : Int} {l : Nat} (h : ZN w v z l) (hl : l ≤ 1000000000) :
    Calls Tryd.prog 43 #[v] w fun e w' => e = .returned (.int .i64 ((bitsN z.natAbs : Nat) : Int)) ∧ Below w.heap.size w w' := by
  obtain ⟨neg, oa, cap, xs, rfl, hcap, hr, hz, hxl⟩ := h.open_
  have hv : val xs = z.natAbs := by rw [← hz, zv_abs]
  have HV := hide hv
  clear hz hv h
  go_enter Tryd.func43, Tryd.ntmps43
  have hb := Below.refl w.heap.size w
  replace hr := hr.alloc (.cells #[.bool neg, .slice oa xs.length cap] 24)
  replace hb := hb.alloc hb.size (.cells #[.bool neg, .slice oa xs.length cap] 24)
  go_wp2_with fail
  refine (bits_rd1 hr (by omega)).mono ?_
  rintro e w_1 ⟨rfl, hb_1⟩
  replace hr := hr.below hb_1 (Nat.le_refl _)
  replace hb := hb.trans (hb_1.mono hb.size)
  clear hb_1
  rw [HV.out]
  go_wp2
  go_ret
  exact ⟨rfl, hb⟩

theorem bitsN_zero {n : Nat} : bitsN n = 0 ↔ n = 0 := by
  constructor
  · intro h; unfold bitsN at h; split at h
    · assumption
    · omega
  · rintro rfl; decide

theorem zv_zero {neg : Bool} {xs : List Nat} : zv neg xs = 0 ↔ val xs = 0 := by
  rw [← Int.natAbs_eq_zero, zv_abs]

set_option maxRecDepth 20000 in
/-- zint.Sign. -/
theorem zsign_any {w : World} {v : Value} {z : Int} {l : Nat} (h : ZN w v z l) (hl : l ≤ 1000000000) :
    Calls Tryd.prog 17 #[v] w fun e w' => e = .returned (.int .i64 z.sign) ∧ Below w.heap.size w w' := by
  have hzn := h
  obtain ⟨neg, oa, cap, xs, rfl, hcap, hr, hz, hxl⟩ := h.open_
  have HZ := hide hz
  clear h hz
  obtain ⟨b, hb'⟩ : ∃ b, bitsN z.natAbs = b := ⟨_, rfl⟩
  have HB := hide hb'
  obtain ⟨g, hg⟩ : ∃ g, z.sign = g := ⟨_, rfl⟩
  rw [hg]
  by_cases h0 : z = 0
  · have e1 : b = 0 := by rw [← hb', h0]; decide
    have e2 : g = 0 := by rw [← hg, h0]; rfl
    subst e1
    rw [e2]
    have hq : (((0 : Nat) : Int) == 0) = true := rfl
    clear hb' hg h0
    go_enter Tryd.func17, Tryd.ntmps17
    have hb := Below.refl w.heap.size w
    replace hzn := hzn.alloc (.cells #[.bool neg, .slice oa xs.length cap] 24)
    replace hb := hb.alloc hb.size (.cells #[.bool neg, .slice oa xs.length cap] 24)
    go_wp2_with fail
    refine (zbits_any hzn hl).mono ?_
    rintro e w_1 ⟨rfl, hb_1⟩
    replace hzn := hzn.below hb_1 (Nat.le_refl _)
    replace hb := hb.trans (hb_1.mono hb.size)
    clear hb_1
    rw [HB.out]
    go_wp2
    go_ret
    exact ⟨rfl, hb⟩
  · have e1 : ((b : Int) == 0) = false := by
      rw [beq_eq_false_iff_ne]
      intro h
      have h3 : b = 0 := by omega
      rw [h3, bitsN_zero] at hb'
      omega
    have hg2 : g = if neg then -1 else 1 := by
      rw [← hg]
      have h3 := HZ.out
      unfold zv at h3
      cases neg
      · rw [if_neg (by simp)] at h3 ⊢
        exact Int.sign_eq_one_of_pos (by omega)
      · rw [if_pos rfl] at h3 ⊢
        exact Int.sign_eq_neg_one_of_neg (by omega)
    clear hb' hg h0
    cases neg
    · simp only [Bool.false_eq_true, if_false] at hg2
      rw [hg2]
      clear hg2
      go_enter Tryd.func17, Tryd.ntmps17
      have hb := Below.refl w.heap.size w
      have hp := Bk.new w false (.slice oa xs.length cap)
      replace hzn := hzn.alloc (.cells #[.bool false, (.slice oa xs.length cap)] 24)
      replace hb := hb.alloc hb.size (.cells #[.bool false, (.slice oa xs.length cap)] 24)
      go_wp2_with fail
      refine (zbits_any hzn hl).mono ?_
      rintro e w_1 ⟨rfl, hb_1⟩
      replace hzn := hzn.below hb_1 (Nat.le_refl _)
      replace hp := hp.below hb_1 (Nat.le_refl _)
      replace hb := hb.trans (hb_1.mono hb.size)
      clear hb_1
      rw [HB.out]
      have c0 := hp.facts
      go_wp2
      go_ret
      exact ⟨rfl, hb⟩
    · simp only [if_true] at hg2
      rw [hg2]
      clear hg2
      go_enter Tryd.func17, Tryd.ntmps17
      have hb := Below.refl w.heap.size w
      have hp := Bk.new w true (.slice oa xs.length cap)
      replace hzn := hzn.alloc (.cells #[.bool true, (.slice oa xs.length cap)] 24)
      replace hb := hb.alloc hb.size (.cells #[.bool true, (.slice oa xs.length cap)] 24)
      go_wp2_with fail
      refine (zbits_any hzn hl).mono ?_
      rintro e w_1 ⟨rfl, hb_1⟩
      replace hzn := hzn.below hb_1 (Nat.le_refl _)
      replace hp := hp.below hb_1 (Nat.le_refl _)
      replace hb := hb.trans (hb_1.mono hb.size)
      clear hb_1
      rw [HB.out]
      have c0 := hp.facts
      go_wp2
      go_ret
      exact ⟨rfl, hb⟩
end Go.Proofs.YtabmffenbkdgkaaDoor

/- A region that draws its order, with loads that read what nobody writes, and calls that wait for one another: one walk, in the order of the text, serves every order. -/
namespace Go.Proofs.YtabmffenbkdgkaaDoor
open Go

section
variable {P : Program} {ops : Array Oper} {md : Region.Mode} {C : World → Prop}

/-- An operation that ends well: a value and a world. -/
def Calm (P : Program) (o : Oper) (a : Act) (w : World) (next : Value → World → Prop) : Prop :=
  match (execOp a.eval o).run P w with
  | .ok (.value v) w' => next v w'
  | .ok .skip w' => next undef w'
  | .ok (.enter f args) w' => Calls P f args w' fun e w'' => ∃ v, e = .returned v ∧ next v w''
  | .ok (.row row args) w' => Rows P row args w' next
  | _ => False

theorem Calm.mono {o : Oper} {a : Act} {w : World} {K K' : Value → World → Prop} (h : ∀ v w, K v w → K' v w) (hh : Calm P o a w K) : Calm P o a w K' := by
  unfold Calm at *
  generalize (execOp a.eval o).run P w = r at *
  cases r with
  | ok n w' =>
    cases n <;> simp only at hh ⊢
    case value => exact h _ _ hh
    case skip => exact h _ _ hh
    case enter => exact hh.mono fun e w'' ⟨v, h1, h2⟩ => ⟨v, h1, h _ _ h2⟩
    case row => exact Rows.mono hh fun v w'' h2 => h _ _ h2
  | halt x w' => simp only at hh

theorem Calm.wp {o : Oper} {a : Act} {w : World} {K : Act → World → Prop} {Q' : Exit → Act → World → Prop} (hh : Calm P o a w fun v w' => K (a.put o.dst v) w') : o.wp P a w K Q' := by
  unfold Calm at hh
  unfold Oper.wp
  generalize (execOp a.eval o).run P w = r at *
  cases r with
  | ok n w' =>
    cases n <;> simp only at hh <;> simp only [Oper.upon]
    case value => exact hh
    case skip => exact hh
    case enter => exact hh.mono fun e w'' ⟨v, h1, h2⟩ => by subst h1; exact h2
    case row => exact hh
  | halt x w' => simp only at hh

def cOp (P : Program) (ops : Array Oper) (C : World → Prop) (i : Nat) (K : Act → World → Prop) (a : Act) (w : World) : Prop :=
  match ops[i]? with
  | none => K a w
  | some o => if Region.wanted o (yielded ops a.tmps) then Calm P o a w (fun v w' => C w' ∧ K (a.put o.dst v) w') else K (a.put o.dst undef) w

def wpAnyC (P : Program) (md : Region.Mode) (ops : Array Oper) (C : World → Prop) (Q : Act → World → Prop) : Nat → Array Bool → Act → World → Prop
  | 0, listed, a, w => Region.ready md ops listed = [] ∧ Q a w
  | fuel + 1, listed, a, w => (Region.ready md ops listed = [] → Q a w) ∧ ∀ i ∈ Region.ready md ops listed, cOp P ops C i (wpAnyC P md ops C Q fuel (listed.setIfInBounds i true)) a w

theorem wpOp_of_cOp {i : Nat} {a : Act} {w : World} {K K' : Act → World → Prop} {Q' : Exit → Act → World → Prop} (h : ∀ a w, K a w → K' a w) (hh : cOp P ops C i K a w) : wpOp P ops Q' i K' a w := by
  unfold cOp at hh
  unfold wpOp
  split
  · rename_i ho; simp only [ho] at hh; exact h _ _ hh
  · rename_i o ho
    simp only [ho] at hh
    split
    · rename_i hw; simp only [hw, if_true] at hh; exact .inl (Calm.wp (hh.mono fun v w' h3 => h _ _ h3.2))
    · rename_i hw; simp only [hw] at hh; exact h _ _ hh

theorem wpAny_of_c {Q : Act → World → Prop} {Q' : Exit → Act → World → Prop} (hQ : ∀ a w, Q a w → Q' .normal a w) : ∀ (fuel : Nat) (listed : Array Bool) (a : Act) (w : World),
    wpAnyC P md ops C Q fuel listed a w → wpAny P md ops Q' fuel listed a w
  | 0, _, _, _, h => ⟨h.1, hQ _ _ h.2⟩
  | fuel + 1, _, _, _, h => ⟨fun h0 => hQ _ _ (h.1 h0), fun i hi => wpOp_of_cOp (fun a' w' h3 => wpAny_of_c hQ fuel _ a' w' h3) (h.2 i hi)⟩

theorem cOp_mono {i : Nat} {a : Act} {w : World} {K K' : Act → World → Prop} (hw : C w) (h : ∀ a w, C w → K a w → K' a w) (hh : cOp P ops C i K a w) : cOp P ops C i K' a w := by
  unfold cOp at *
  split
  · rename_i ho; simp only [ho] at hh; exact h _ _ hw hh
  · rename_i o ho
    simp only [ho] at hh
    split
    · rename_i hwt; simp only [hwt, if_true] at hh; exact hh.mono fun v w' h3 => ⟨h3.1, h _ _ h3.1 h3.2⟩
    · rename_i hwt; simp only [hwt] at hh; exact h _ _ hw hh

/-- In every world of the class this operation leaves v, and the world as it was. -/
def Stable (P : Program) (ops : Array Oper) (C : World → Prop) (o : Oper) (v : Value) (a : Act) : Prop :=
  (Region.wanted o (yielded ops a.tmps) = true ∧ ∀ w, C w → (execOp a.eval o).run P w = .ok (.value v) w) ∨
  (Region.wanted o (yielded ops a.tmps) = false ∧ v = undef)

theorem Stable.cOp {i : Nat} {o : Oper} {v : Value} {a : Act} {w : World} (hi : ops[i]? = some o) (hy : Stable P ops C o v a) (hC : C w) {K : Act → World → Prop} (h : K (a.put o.dst v) w) : cOp P ops C i K a w := by
  unfold Go.Proofs.YtabmffenbkdgkaaDoor.cOp
  simp only [hi]
  rcases hy with ⟨hw, hv⟩ | ⟨hw, rfl⟩
  · simp only [hw, if_true]
    unfold Calm
    rw [hv w hC]
    exact ⟨hC, h⟩
  · simp only [hw, Bool.false_eq_true, if_false]; exact h

theorem Stable.of_same {o : Oper} {v : Value} {a a' : Act} (hy : Stable P ops C o v a) (he : execOp a'.eval o = execOp a.eval o)
    (hw : Region.wanted o (yielded ops a'.tmps) = Region.wanted o (yielded ops a.tmps)) : Stable P ops C o v a' := by
  unfold Stable at *
  rw [he, hw]
  exact hy

theorem cOp_put {j : Nat} {oi oj : Oper} {v : Value} (hj : ops[j]? = some oj) (hap : oi.apart ops oj = true)
    (hsi : ∀ cs b, oi.op ≠ .select cs b) (hsj : ∀ cs b, oj.op ≠ .select cs b) {K : Act → World → Prop} {a : Act} {w : World}
    (hy : Stable P ops C oi v a) (h : cOp P ops C j K (a.put oi.dst v) w) :
    cOp P ops C j (fun a' w' => Stable P ops C oi v a' ∧ K (a'.put oi.dst v) w') a w := by
  obtain ⟨h1, h2, h3⟩ := Oper.apart_spec hap
  have keep : ∀ (a : Act), Stable P ops C oi v a → ∀ u, Stable P ops C oi v (a.put oj.dst u) := fun a hy u =>
    hy.of_same (execOp_put oi hsi a oj.dst u h3) (wanted_put oi a oj.dst u h3)
  unfold Go.Proofs.YtabmffenbkdgkaaDoor.cOp at *
  simp only [hj] at *
  rw [wanted_put oj a oi.dst v h1] at h
  split
  · rename_i hw
    simp only [hw, if_true] at h
    unfold Calm at h ⊢
    rw [execOp_put oj hsj a oi.dst v h1] at h
    have conv : ∀ u w', C w' ∧ K ((a.put oi.dst v).put oj.dst u) w' → C w' ∧ Stable P ops C oi v (a.put oj.dst u) ∧ K ((a.put oj.dst u).put oi.dst v) w' := fun u w' ⟨c1, c2⟩ =>
      ⟨c1, keep a hy u, by rw [← Act.put_comm a v u h2]; exact c2⟩
    generalize (execOp a.eval oj).run P w = r at *
    cases r with
    | ok n w' =>
      cases n <;> simp only at h ⊢
      case value => exact conv _ _ h
      case skip => exact conv _ _ h
      case enter => exact h.mono fun e w'' ⟨u, e1, e2⟩ => ⟨u, e1, conv _ _ e2⟩
      case row => exact Rows.mono h fun u w'' e2 => conv _ _ e2
    | halt x w' => simp only at h
  · rename_i hw
    simp only [hw] at h
    exact ⟨keep a hy _, by rw [← Act.put_comm a v undef h2]; exact h⟩

/-- A stable operation that may come up now may be taken first. -/
theorem wpAnyC_first {Q : Act → World → Prop} {i : Nat} {oi : Oper} {v : Value} (hi : ops[i]? = some oi) (hsel : ∀ (j : Nat) (o : Oper) cs b, ops[j]? = some o → o.op ≠ .select cs b) :
    ∀ (fuel : Nat) (listed : Array Bool) (a : Act) (w : World), C w →
      (∀ j oj, ops[j]? = some oj → j ≠ i → listed.getD j true = false → (∀ e ∈ oj.after, Region.binds md e = true → e.on ≠ i) → oi.apart ops oj = true) →
      i ∈ Region.ready md ops listed → Stable P ops C oi v a →
      wpAnyC P md ops C Q fuel (listed.setIfInBounds i true) (a.put oi.dst v) w → wpAnyC P md ops C Q (fuel + 1) listed a w := by
  intro fuel
  induction fuel with
  | zero =>
    intro listed a w hC _ hr hy H
    refine ⟨fun h => (by rw [h] at hr; cases hr), fun j hj => ?_⟩
    by_cases hji : j = i
    · subst hji; exact hy.cOp hi hC H
    · have := ready_mono hj hji
      rw [H.1] at this
      cases this
  | succ fuel ih =>
    intro listed a w hC hfree hr hy H
    refine ⟨fun h => (by rw [h] at hr; cases hr), fun j hj => ?_⟩
    by_cases hji : j = i
    · subst hji; exact hy.cOp hi hC H
    · have h1 := H.2 j (ready_mono hj hji)
      obtain ⟨hjun, oj, hoj, hall⟩ := mem_ready.1 hj
      have hnot : ∀ e ∈ oj.after, Region.binds md e = true → e.on ≠ i := fun e he hb heq => by
        have h1 := hall e he hb
        have h0 := (mem_ready.1 hr).1
        rw [heq] at h1
        rcases Nat.lt_or_ge i listed.size with h' | h'
        · simp [h'] at h0 h1; rw [h0] at h1; cases h1
        · simp [Array.getElem?_eq_none h'] at h1
      have h2 := cOp_put hoj (hfree j oj hoj hji hjun hnot) (fun cs b => hsel i oi cs b hi) (fun cs b => hsel j oj cs b hoj) hy h1
      have hfree' : ∀ k ok, ops[k]? = some ok → k ≠ i → (listed.setIfInBounds j true).getD k true = false →
          (∀ e ∈ ok.after, Region.binds md e = true → e.on ≠ i) → oi.apart ops ok = true := fun k ok hk hki hun hno => by
        refine hfree k ok hk hki ?_ hno
        by_cases hjk : j = k
        · subst hjk; exact hjun
        · rw [getD_set_ne true hjk] at hun; exact hun
      refine cOp_mono hC (fun a' w' hC' h3 => ih (listed.setIfInBounds j true) a' w' hC' hfree' (ready_mono hr (Ne.symm hji)) h3.1 ?_) h2
      rw [Array.setIfInBounds_comm _ _ hji]
      exact h3.2

/-- One walk: a stable operation that may come up; or the only one that may come up. -/
def wpLx (P : Program) (md : Region.Mode) (ops : Array Oper) (C : World → Prop) (Q : Act → World → Prop) : Nat → Array Bool → Act → World → Prop
  | 0, listed, a, w => Region.ready md ops listed = [] ∧ Q a w
  | fuel + 1, listed, a, w =>
    (∃ i o v, ops[i]? = some o ∧ Stable P ops C o v a ∧ Region.free md ops listed i = true ∧ (Region.ready md ops listed).contains i = true ∧ wpLx P md ops C Q fuel (listed.setIfInBounds i true) (a.put o.dst v) w) ∨
    (∃ k o, ops[k]? = some o ∧ Region.ready md ops listed = [k] ∧ if Region.wanted o (yielded ops a.tmps) then Calm P o a w (fun v w' => C w' ∧ wpLx P md ops C Q fuel (listed.setIfInBounds k true) (a.put o.dst v) w') else wpLx P md ops C Q fuel (listed.setIfInBounds k true) (a.put o.dst undef) w)

theorem wpLx_st {Q : Act → World → Prop} {o : Oper} (i : Nat) {fuel : Nat} {listed : Array Bool} {a : Act} {w : World} {v : Value} (hi : ops[i]? = some o) (h : ∀ w', C w' → (execOp a.eval o).run P w' = .ok (.value v) w')
    (hw : Region.wanted o (yielded ops a.tmps) = true) (hf : Region.free md ops listed i = true) (hr : (Region.ready md ops listed).contains i = true)
    (hn : wpLx P md ops C Q fuel (listed.setIfInBounds i true) (a.put o.dst v) w) : wpLx P md ops C Q (fuel + 1) listed a w :=
  .inl ⟨i, o, v, hi, .inl ⟨hw, h⟩, hf, hr, hn⟩
theorem wpLx_call {Q : Act → World → Prop} {o : Oper} (k : Nat) {fuel : Nat} {listed : Array Bool} {a : Act} {w : World} (hi : ops[k]? = some o)
    (hr : Region.ready md ops listed = [k]) (hw : Region.wanted o (yielded ops a.tmps) = true)
    (h : ∀ K : Value → World → Prop, (∀ v w', C w' → wpLx P md ops C Q fuel (listed.setIfInBounds k true) (a.put o.dst v) w' → K v w') → Calm P o a w K) : wpLx P md ops C Q (fuel + 1) listed a w :=
  .inr ⟨k, o, hi, hr, by rw [if_pos hw]; exact h _ (fun _ _ h1 h2 => ⟨h1, h2⟩)⟩
theorem wpLx_nil {Q : Act → World → Prop} {listed : Array Bool} {a : Act} {w : World} (hr : Region.ready md ops listed = []) (h : Q a w) : wpLx P md ops C Q 0 listed a w := ⟨hr, h⟩

theorem wpAnyC_of_lx {Q : Act → World → Prop} (hs : Region.noSelect ops = true) : ∀ (fuel : Nat) (listed : Array Bool) (a : Act) (w : World), C w →
    wpLx P md ops C Q fuel listed a w → wpAnyC P md ops C Q fuel listed a w
  | 0, _, _, _, _, h => h
  | fuel + 1, listed, a, w, hC, h => by
    rcases h with ⟨i, o, v, h0, hst, hf, hr, h⟩ | ⟨k, o, h0, hr, h⟩
    · exact wpAnyC_first h0 (Region.noSelect_spec hs) fuel listed a w hC (Region.free_spec h0 hf) (by simpa using hr) hst (wpAnyC_of_lx hs fuel _ _ w hC h)
    · refine ⟨fun h3 => (by rw [h3] at hr; cases hr), fun i hi => ?_⟩
      rw [hr] at hi
      obtain rfl : i = k := by simpa using hi
      unfold Go.Proofs.YtabmffenbkdgkaaDoor.cOp
      simp only [h0]
      split
      · rename_i hw
        simp only [hw, if_true] at h
        exact h.mono fun u w' ⟨c1, c2⟩ => ⟨c1, wpAnyC_of_lx hs fuel _ _ w' c1 c2⟩
      · rename_i hw
        simp only [hw] at h
        exact wpAnyC_of_lx hs fuel _ _ w hC h

/-- One walk serves every order. -/
theorem wp_region_lx {id : Nat} {Q : Exit → Act → World → Prop} {a : Act} {w : World} {l : List Oper} (C : World → Prop) (hm : P.follows .mixedOrders = true) (hs : Region.noSelect l.toArray = true) (hC : C w.drew)
    (h : wpLx P .any l.toArray C (Q .normal) l.length (Array.replicate l.length false) a w.drew) : (Code.region id l.toArray true).wp P Q a w := by
  refine wp_region_any hm ?_
  have := wpAnyC_of_lx (P := P) (md := .any) (C := C) (Q := Q .normal) hs l.length (Array.replicate l.length false) a w.drew hC h
  have h3 := wpAny_of_c (Q' := Q) (fun a w hq => hq) _ _ _ _ this
  simpa using h3
end
end Go.Proofs.YtabmffenbkdgkaaDoor
