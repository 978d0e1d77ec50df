/- Whole numbers with a sign as values: what is handed in, what is answered; zint.signed and turned. -/
import Derived.Test.YtjfjlloibmebeaaR2aToR6
import Derived.Handy
namespace Go.Proofs.Ytjfjlloibmebeaa
open Go.RowKit Dig

/-- The number that a sign and digits stand for. -/
def zv (neg : Bool) (xs : List Nat) : Int := if neg then -(val xs : Int) else (val xs : Int)
theorem zv_abs (neg : Bool) (xs : List Nat) : (zv neg xs).natAbs = val xs := by
  unfold zv; cases neg <;> simp
/-- v is a whole number z, however laid; its digits are at most l. -/
def ZN (w : World) (v : Value) (z : Int) (l : Nat) : Prop := ∃ neg s xs, v = .agg #[.bool neg, s] ∧ Rd w s xs ∧ zv neg xs = z ∧ xs.length ≤ l
/-- v is z, canonical, its digits in memory from block B on. -/
def ZO (w : World) (B : Nat) (v : Value) (z : Int) : Prop := ∃ s, v = .agg #[.bool (decide (z < 0)), s] ∧ Own w B s (dig z.natAbs)
/-- v is z, canonical. -/
def ZC (w : World) (v : Value) (z : Int) : Prop := ∃ s, v = .agg #[.bool (decide (z < 0)), s] ∧ Rd w s (dig z.natAbs)
theorem ZN.below {w w' : World} {v : Value} {z : Int} {l : Nat} (h : ZN w v z l) {B : Nat} (hb : Below B w w') (hB : w.heap.size ≤ B) : ZN w' v z l := by
  obtain ⟨neg, s, xs, hv, hr, hz, hl⟩ := h
  exact ⟨neg, s, xs, hv, hr.below hb hB, hz, hl⟩
theorem ZN.alloc {w : World} {v : Value} {z : Int} {l : Nat} (h : ZN w v z l) (o : Obj) : ZN (w.alloc o) v z l := h.below ((Below.refl w.heap.size _).alloc (Nat.le_refl _) o) (Nat.le_refl _)
theorem ZN.drew {w : World} {v : Value} {z : Int} {l : Nat} (h : ZN w v z l) : ZN w.drew v z l := h.below ((Below.refl _ _).drew) (Nat.le_refl _)
theorem ZN.mono {w : World} {v : Value} {z : Int} {l m : Nat} (h : ZN w v z l) (k : l ≤ m) : ZN w v z m := by
  obtain ⟨neg, s, xs, hv, hr, hz, hl⟩ := h
  exact ⟨neg, s, xs, hv, hr, hz, Nat.le_trans hl k⟩
theorem ZO.below {w w' : World} {B : Nat} {v : Value} {z : Int} (h : ZO w B v z) {C : Nat} (hb : Below C w w') (hB : w.heap.size ≤ C) : ZO w' B v z := by
  obtain ⟨s, hv, hr⟩ := h
  exact ⟨s, hv, hr.below hb hB⟩
theorem ZO.mono {w : World} {B C : Nat} {v : Value} {z : Int} (h : ZO w B v z) (hC : C ≤ B) : ZO w C v z := by
  obtain ⟨s, hv, hr⟩ := h
  exact ⟨s, hv, hr.mono hC⟩
theorem ZC.below {w w' : World} {v : Value} {z : Int} (h : ZC w v z) {C : Nat} (hb : Below C w w') (hB : w.heap.size ≤ C) : ZC w' v z := by
  obtain ⟨s, hv, hr⟩ := h
  exact ⟨s, hv, hr.below hb hB⟩
theorem ZC.alloc {w : World} {v : Value} {z : Int} (h : ZC w v z) (o : Obj) : ZC (w.alloc o) v z := h.below ((Below.refl w.heap.size _).alloc (Nat.le_refl _) o) (Nat.le_refl _)
theorem ZO.rd {w : World} {B : Nat} {v : Value} {z : Int} (h : ZO w B v z) : ZC w v z := by
  obtain ⟨s, hv, hr⟩ := h
  exact ⟨s, hv, hr.rd⟩
theorem zv_canon (z : Int) : zv (decide (z < 0)) (dig z.natAbs) = z := by
  unfold zv
  rw [val_dig]
  by_cases h : z < 0
  · rw [decide_eq_true h]; simp only [if_true]; omega
  · rw [decide_eq_false h]; simp only [Bool.false_eq_true, if_false]; omega
theorem ZC.zn {w : World} {v : Value} {z : Int} (h : ZC w v z) {l : Nat} (hl : (dig z.natAbs).length ≤ l) : ZN w v z l := by
  obtain ⟨s, hv, hr⟩ := h
  exact ⟨_, s, _, hv, hr, zv_canon z, hl⟩
theorem sign_of (neg : Bool) (n : Nat) : (neg && decide (0 < (dig n).length)) = decide ((if neg then -(n : Int) else (n : Int)) < 0) := by
  have h : (0 < (dig n).length) ↔ n ≠ 0 := by rw [List.length_pos_iff]; exact not_congr dig_eq_nil
  cases neg
  · simp
  · rw [Bool.true_and]; exact decide_eq_decide.2 (by rw [h]; simp; omega)
/-- Block b holds a struct Z. -/
def Bk (w : World) (b : Nat) (neg : Bool) (s : Value) : Prop := w.heap[b]? = some (.cells #[.bool neg, s] 34 (0, 0))
theorem Bk.new (w : World) (neg : Bool) (s : Value) : Bk (w.alloc (.cells #[.bool neg, s] 34)) w.heap.size neg s := by
  show (w.heap.push _)[w.heap.size]? = _
  simp
theorem Bk.size_alloc (w : World) (o : Obj) : (w.alloc o).heap.size = w.heap.size + 1 := by simp
theorem Bk.lt {w : World} {b : Nat} {neg : Bool} {s : Value} (h : Bk w b neg s) : b < w.heap.size := by
  rcases Nat.lt_or_ge b w.heap.size with hb | hb
  · exact hb
  · unfold Bk at h; rw [Array.getElem?_eq_none hb] at h; cases h
theorem Bk.below {w w' : World} {b : Nat} {neg : Bool} {s : Value} (h : Bk w b neg s) {B : Nat} (hb : Below B w w') (hB : w.heap.size ≤ B) : Bk w' b neg s := by
  unfold Bk; rw [hb.block b (Nat.lt_of_lt_of_le h.lt hB)]; exact h
theorem Bk.alloc {w : World} {b : Nat} {neg : Bool} {s : Value} (h : Bk w b neg s) (o : Obj) : Bk (w.alloc o) b neg s := h.below ((Below.refl w.heap.size _).alloc (Nat.le_refl _) o) (Nat.le_refl _)
theorem Bk.drew {w : World} {b : Nat} {neg : Bool} {s : Value} (h : Bk w b neg s) : Bk w.drew b neg s := h.below ((Below.refl w.heap.size _).drew) (Nat.le_refl _)
/-- What the walk reads of it. -/
theorem Bk.facts {w : World} {b : Nat} {neg : Bool} {s : Value} (h : Bk w b neg s) :
    w.cell? ⟨b, 0, none⟩ = some (.bool neg) ∧ w.cell? ⟨b, 1, none⟩ = some s ∧ w.frozen? ⟨b, 0, none⟩ = false ∧ w.frozen? ⟨b, 1, none⟩ = false := by
  unfold Bk at h
  exact ⟨by simp only [World.cell?, h]; rfl, by simp only [World.cell?, h]; rfl, by simp [World.frozen?, h], by simp [World.frozen?, h]⟩
theorem Bk.store {w : World} {b : Nat} {neg : Bool} {s : Value} (h : Bk w b neg s) (neg' : Bool) (s' : Value) : Bk ((w.setCell ⟨b, 0, none⟩ (.bool neg')).setCell ⟨b, 1, none⟩ s') b neg' s' := by
  unfold Bk at h ⊢
  simp only [World.setCell, Array.getElem?_modify, h]
  simp
theorem Bk.only (w : World) (b : Nat) (neg' : Bool) (s' : Value) : Only b w ((w.setCell ⟨b, 0, none⟩ (.bool neg')).setCell ⟨b, 1, none⟩ s') := ((Only.refl b w).setCell 0 _).setCell 1 _
theorem Bk.frame {w w' : World} {b c : Nat} {neg : Bool} {s : Value} (h : Bk w b neg s) (ho : Only c w w') (hne : b ≠ c) : Bk w' b neg s := by
  unfold Bk; rw [ho.block b hne]; exact h
theorem ZO.open2 {w : World} {B : Nat} {v : Value} {z : Int} (h : ZO w B v z) : ∃ sb oa n cap, v = .agg #[.bool sb, .slice oa n cap] := by
  obtain ⟨s, rfl, oa, cap, rfl, _⟩ := h
  exact ⟨_, oa, _, cap, rfl⟩
theorem Own.only {w w' : World} {B b : Nat} {v : Value} {ds : List Nat} (h : Own w B v ds) (ho : Only b w w') (hb : b < B) : Own w' B v ds := by
  obtain ⟨oa, cap, hv, hc, h0 | ⟨c, off, xs, hoa, hB', hr, hx, hd⟩⟩ := h
  · exact ⟨oa, cap, hv, hc, .inl h0⟩
  · exact ⟨oa, cap, hv, hc, .inr ⟨c, off, xs, hoa, hB', ho.row hr (by omega), hx, hd⟩⟩
theorem ZO.only {w w' : World} {B b : Nat} {v : Value} {z : Int} (h : ZO w B v z) (ho : Only b w w') (hb : b < B) : ZO w' B v z := by
  obtain ⟨s, hv, hr⟩ := h
  exact ⟨s, hv, hr.only ho hb⟩
theorem ZO.open_ {w : World} {B : Nat} {v : Value} {z : Int} (h : ZO w B v z) :
    ∃ oa cap, v = .agg #[.bool (decide (z < 0)), .slice oa (dig z.natAbs).length cap] := by
  obtain ⟨s, rfl, oa, cap, rfl, _⟩ := h
  exact ⟨oa, cap, rfl⟩
theorem ZC.open_ {w : World} {v : Value} {z : Int} (h : ZC w v z) :
    ∃ oa cap, v = .agg #[.bool (decide (z < 0)), .slice oa (dig z.natAbs).length cap] := by
  obtain ⟨s, rfl, oa, cap, rfl, _⟩ := h
  exact ⟨oa, cap, rfl⟩
set_option maxHeartbeats 400000 in
set_option maxRecDepth 20000 in
/-- signed: the canonical number of an amount. -/
theorem signed_any {w : World} {B : Nat} {s : Value} (neg : Bool) (n : Nat) (h : Own w B s (dig n)) :
    Calls Try.prog 45 #[.bool neg, s] w fun e w' => ∃ v, e = .returned v ∧ ZO w' B v (if neg then -(n : Int) else (n : Int)) ∧ Below w.heap.size w w' := by
  have HSG := hide (sign_of neg n)
  have h' := h
  obtain ⟨oa, cap, rfl, hcap, _⟩ := h
  have H' := hide h'
  clear h'
  have hbl : ∀ o, Below w.heap.size w (w.alloc o) := fun o => (Below.refl _ _).alloc (Nat.le_refl _) o
  have e1 : ((n : Int)).natAbs = n := by simp
  have e2 : (-(n : Int)).natAbs = n := by simp
  have E := hide (And.intro e1 e2)
  clear e1 e2
  cases neg
  · go_enter Try.func45, Try.ntmps45
    go_wp2
    go_returns
    refine ⟨_, rfl, ⟨_, ?_, by rw [E.out.1]; exact H'.out.below (hbl _) (Nat.le_refl _)⟩, hbl _⟩
    rw [decide_eq_false (by omega : ¬ (n : Int) < 0)]
  · go_enter Try.func45, Try.ntmps45
    go_wp2
    go_returns
    refine ⟨_, rfl, ⟨_, ?_, by rw [E.out.2]; exact H'.out.below (hbl _) (Nat.le_refl _)⟩, hbl _⟩
    have h3 := HSG.out
    simp only [Bool.true_and, if_true] at h3
    rw [h3]
/-- signed, of a number that is told. -/
theorem signed_z {w : World} {B : Nat} {s : Value} {neg : Bool} {n : Nat} (z : Int) (h : Own w B s (dig n)) (hz : (if neg then -(n : Int) else (n : Int)) = z) :
    Calls Try.prog 45 #[.bool neg, s] w fun e w' => ∃ v, e = .returned v ∧ ZO w' B v z ∧ Below w.heap.size w w' := by
  subst hz; exact signed_any neg n h
/-- turned: the other sign, the same digits. -/
theorem turned_any {w : World} {v : Value} {z : Int} {l : Nat} (h : ZN w v z l) :
    Calls Try.prog 87 #[v] w fun e w' => ∃ v', e = .returned v' ∧ ZN w' v' (-z) l ∧ Below w.heap.size w w' := by
  obtain ⟨neg, s, xs, rfl, hr, hz, hl⟩ := h
  have hbl : ∀ o, Below w.heap.size w (w.alloc o) := fun o => (Below.refl _ _).alloc (Nat.le_refl _) o
  have hb2 : ∀ o o', Below w.heap.size w ((w.alloc o).alloc o') := fun o o' => (hbl o).alloc (hbl o).size o'
  have HZ := hide (And.intro hz hl)
  have HR := hide hr
  obtain ⟨oa, cap, rfl, hcap, _⟩ := hr
  clear hz hl
  go_enter Try.func87, Try.ntmps87
  go_wp2
  go_returns
  refine ⟨_, rfl, ⟨!neg, _, xs, rfl, HR.out.below (hb2 _ _) (Nat.le_refl _), ?_, HZ.out.2⟩, hb2 _ _⟩
  rw [← HZ.out.1]
  unfold zv
  cases neg <;> simp
/-- A number's field of digits, opened. -/
theorem ZN.open_ {w : World} {v : Value} {z : Int} {l : Nat} (h : ZN w v z l) :
    ∃ neg oa cap xs, v = .agg #[.bool neg, .slice oa xs.length cap] ∧ xs.length ≤ cap ∧ Rd w (.slice oa xs.length cap) xs ∧ zv neg xs = z ∧ xs.length ≤ l := by
  obtain ⟨neg, s, xs, rfl, hr, hz, hl⟩ := h
  have hr' := hr
  obtain ⟨oa, cap, rfl, hcap, _⟩ := hr
  exact ⟨neg, oa, cap, xs, rfl, hcap, hr', hz, hl⟩
theorem bits_rd1 {w : World} {va : Value} {xs : List Nat} (hx : Rd w va xs) (hxl : xs.length ≤ 100000000000) :
    Calls Try.prog 54 #[va] w fun e w' => e = .returned (.int .i64 ((bitsN (val xs) : Nat) : Int)) ∧ Below w.heap.size w w' := by
  obtain ⟨oa, ca, rfl, hca, okx, hcx⟩ := hx
  exact bits_any oa ca xs w (by omega) hca okx hcx
set_option maxRecDepth 20000 in
/-- zint.Bits. -/
theorem zbits_any {w : World} {v : Value} {z : Int} {l : Nat} (h : ZN w v z l) (hl : l ≤ 1000000000) :
    Calls Try.prog 28 #[v] w fun e w' => e = .returned (.int .i64 ((bitsN z.natAbs : Nat) : Int)) ∧ Below w.heap.size w w' := by
  obtain ⟨neg, oa, cap, xs, rfl, hcap, hr, hz, hxl⟩ := h.open_
  have hv : val xs = z.natAbs := by rw [← hz, zv_abs]
  have HV := hide hv
  clear hz hv h
  go_enter Try.func28, Try.ntmps28
  have hb := Below.refl w.heap.size w
  replace hr := hr.alloc (.cells #[.bool neg, .slice oa xs.length cap] 34)
  replace hb := hb.alloc hb.size (.cells #[.bool neg, .slice oa xs.length cap] 34)
  go_wp2_with fail
  refine (bits_rd1 hr (by omega)).mono ?_
  rintro e w_1 ⟨rfl, hb_1⟩
  replace hr := hr.below hb_1 (Nat.le_refl _)
  replace hb := hb.trans (hb_1.mono hb.size)
  clear hb_1
  rw [HV.out]
  go_wp2
  go_ret
  exact ⟨rfl, hb⟩
theorem bitsN_zero {n : Nat} : bitsN n = 0 ↔ n = 0 := by
  constructor
  · intro h; unfold bitsN at h; split at h
    · assumption
    · omega
  · rintro rfl; decide
theorem zv_zero {neg : Bool} {xs : List Nat} : zv neg xs = 0 ↔ val xs = 0 := by
  rw [← Int.natAbs_eq_zero, zv_abs]
set_option maxRecDepth 20000 in
/-- zint.Sign. -/
theorem zsign_any {w : World} {v : Value} {z : Int} {l : Nat} (h : ZN w v z l) (hl : l ≤ 1000000000) :
    Calls Try.prog 9 #[v] w fun e w' => e = .returned (.int .i64 z.sign) ∧ Below w.heap.size w w' := by
  have hzn := h
  obtain ⟨neg, oa, cap, xs, rfl, hcap, hr, hz, hxl⟩ := h.open_
  have HZ := hide hz
  clear h hz
  obtain ⟨b, hb'⟩ : ∃ b, bitsN z.natAbs = b := ⟨_, rfl⟩
  have HB := hide hb'
  obtain ⟨g, hg⟩ : ∃ g, z.sign = g := ⟨_, rfl⟩
  rw [hg]
  by_cases h0 : z = 0
  · have e1 : b = 0 := by rw [← hb', h0]; decide
    have e2 : g = 0 := by rw [← hg, h0]; rfl
    subst e1
    rw [e2]
    have hq : (((0 : Nat) : Int) == 0) = true := rfl
    clear hb' hg h0
    go_enter Try.func9, Try.ntmps9
    have hb := Below.refl w.heap.size w
    replace hzn := hzn.alloc (.cells #[.bool neg, .slice oa xs.length cap] 34)
    replace hb := hb.alloc hb.size (.cells #[.bool neg, .slice oa xs.length cap] 34)
    go_wp2_with fail
    refine (zbits_any hzn hl).mono ?_
    rintro e w_1 ⟨rfl, hb_1⟩
    replace hzn := hzn.below hb_1 (Nat.le_refl _)
    replace hb := hb.trans (hb_1.mono hb.size)
    clear hb_1
    rw [HB.out]
    go_wp2
    go_ret
    exact ⟨rfl, hb⟩
  · have e1 : ((b : Int) == 0) = false := by
      rw [beq_eq_false_iff_ne]
      intro h
      have h3 : b = 0 := by omega
      rw [h3, bitsN_zero] at hb'
      omega
    have hg2 : g = if neg then -1 else 1 := by
      rw [← hg]
      have h3 := HZ.out
      unfold zv at h3
      cases neg
      · rw [if_neg (by simp)] at h3 ⊢
        exact Int.sign_eq_one_of_pos (by omega)
      · rw [if_pos rfl] at h3 ⊢
        exact Int.sign_eq_neg_one_of_neg (by omega)
    clear hb' hg h0
    cases neg
    · simp only [Bool.false_eq_true, if_false] at hg2
      rw [hg2]
      clear hg2
      go_enter Try.func9, Try.ntmps9
      have hb := Below.refl w.heap.size w
      have hp := Bk.new w false (.slice oa xs.length cap)
      replace hzn := hzn.alloc (.cells #[.bool false, (.slice oa xs.length cap)] 34)
      replace hb := hb.alloc hb.size (.cells #[.bool false, (.slice oa xs.length cap)] 34)
      go_wp2_with fail
      refine (zbits_any hzn hl).mono ?_
      rintro e w_1 ⟨rfl, hb_1⟩
      replace hzn := hzn.below hb_1 (Nat.le_refl _)
      replace hp := hp.below hb_1 (Nat.le_refl _)
      replace hb := hb.trans (hb_1.mono hb.size)
      clear hb_1
      rw [HB.out]
      have c0 := hp.facts
      go_wp2
      go_ret
      exact ⟨rfl, hb⟩
    · simp only [if_true] at hg2
      rw [hg2]
      clear hg2
      go_enter Try.func9, Try.ntmps9
      have hb := Below.refl w.heap.size w
      have hp := Bk.new w true (.slice oa xs.length cap)
      replace hzn := hzn.alloc (.cells #[.bool true, (.slice oa xs.length cap)] 34)
      replace hb := hb.alloc hb.size (.cells #[.bool true, (.slice oa xs.length cap)] 34)
      go_wp2_with fail
      refine (zbits_any hzn hl).mono ?_
      rintro e w_1 ⟨rfl, hb_1⟩
      replace hzn := hzn.below hb_1 (Nat.le_refl _)
      replace hp := hp.below hb_1 (Nat.le_refl _)
      replace hb := hb.trans (hb_1.mono hb.size)
      clear hb_1
      rw [HB.out]
      have c0 := hp.facts
      go_wp2
      go_ret
      exact ⟨rfl, hb⟩
end Go.Proofs.Ytjfjlloibmebeaa

