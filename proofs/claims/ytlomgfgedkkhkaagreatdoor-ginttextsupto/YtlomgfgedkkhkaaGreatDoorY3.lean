/- zint's reference: Add, Sub, Twice. -/
import Derived.Test.YtlomgfgedkkhkaaGreatDoorY2
namespace Go.Proofs.YtlomgfgedkkhkaaGreatDoor
open Go.RowKit Dig

theorem zadd_dig_length (xs ys : List Nat) (okx : OK xs) (oky : OK ys) : (dig (val xs + val ys)).length ≤ xs.length + ys.length + 1 := by
  refine dig_length_le ?_
  have h1 := Nat.lt_of_lt_of_le (val_lt okx) (pw_mono (Nat.le_add_right xs.length ys.length))
  have h2 := Nat.lt_of_lt_of_le (val_lt oky) (pw_mono (Nat.le_add_left ys.length xs.length))
  simp only [pw]; omega
theorem zsub_dig_length (xs : List Nat) (n : Nat) (okx : OK xs) : (dig (val xs - n)).length ≤ xs.length :=
  dig_length_le (by have := val_lt okx; omega)
theorem zadd_rr {w : World} {va vb : Value} {xs ys : List Nat} (hx : Rd w va xs) (hy : Rd w vb ys) (hxl : xs.length ≤ 100000000000) (hyl : ys.length ≤ 100000000000) :
    Calls Tryz.prog 110 #[va, vb] w fun e w' => ∃ v, e = .returned v ∧ Rd w' v (dig (val xs + val ys)) ∧ Below w.heap.size w w' := by
  obtain ⟨oa, ca, rfl, hca, okx, hcx⟩ := hx
  obtain ⟨ob, cb, rfl, hcb, oky, hcy⟩ := hy
  exact radd_any oa ob ca cb xs ys w (by omega) (by omega) okx oky hcx hcy
theorem zsub_rr {w : World} {va vb : Value} {xs ys : List Nat} (n m : Nat) (hx : Rd w va xs) (hy : Rd w vb ys) (hxl : xs.length ≤ 100000000000) (hyl : ys.length ≤ 100000000000) (e1 : val xs = n) (e2 : val ys = m) (hle : m ≤ n) :
    Calls Tryz.prog 124 #[va, vb] w fun e w' => ∃ v, e = .returned v ∧ Rd w' v (dig (n - m)) ∧ Below w.heap.size w w' := by
  obtain ⟨oa, ca, rfl, hca, okx, hcx⟩ := hx
  obtain ⟨ob, cb, rfl, hcb, oky, hcy⟩ := hy
  subst e1 e2
  exact rsub_any oa ob ca cb xs ys w (by omega) (by omega) okx oky hcx hcy hle
theorem zcmp_rr {w : World} {va vb : Value} {xs ys : List Nat} (hx : Rd w va xs) (hy : Rd w vb ys) (hxl : xs.length ≤ 100000000000) (hyl : ys.length ≤ 100000000000) :
    Calls Tryz.prog 123 #[va, vb] w fun e w' => e = .returned (.int .i64 (cmpI (val xs) (val ys))) ∧ Below w.heap.size w w' := by
  obtain ⟨oa, ca, rfl, hca, okx, hcx⟩ := hx
  obtain ⟨ob, cb, rfl, hcb, oky, hcy⟩ := hy
  exact rcmp_any oa ob ca cb xs ys w (by omega) (by omega) hca hcb okx oky hcx hcy
theorem ztrim_rr {w : World} {va : Value} {xs : List Nat} (hx : Rd w va xs) (hl : xs.length ≤ 1000000000) :
    Calls Tryz.prog 68 #[va] w fun e w' => ∃ v, e = .returned v ∧ Rd w' v (dig (val xs)) ∧ Below w.heap.size w w' :=
  (rtrim_rn hx hl).mono fun _ _ ⟨v, h1, h2, h3⟩ => ⟨v, h1, h2.1, h3⟩
set_option maxHeartbeats 1000000 in
set_option maxRecDepth 20000 in
theorem rzadd_same {w : World} {oa ob : Option Addr} {ca cb : Nat} {xs ys : List Nat} (neg : Bool) (hx : Rd w (.slice oa xs.length ca) xs) (hy : Rd w (.slice ob ys.length cb) ys) (hxl : xs.length ≤ 400000000) (hyl : ys.length ≤ 400000000) :
    Calls Tryz.prog 113 #[.agg #[.bool neg, .slice oa xs.length ca], .agg #[.bool neg, .slice ob ys.length cb]] w fun e w' => ∃ v', e = .returned v' ∧ ZW w' w.heap.size v' (zv neg xs + zv neg ys) ∧ Below w.heap.size w w' := by
  have HZ := hide (show (if neg = true then -((val (dig (val xs + val ys)) : Nat) : Int) else ((val (dig (val xs + val ys)) : Nat) : Int)) = zv neg xs + zv neg ys by rw [val_dig]; exact zv_add_same neg xs ys)
  have hdl : (dig (val xs + val ys)).length ≤ 1000000000 := Nat.le_trans (zadd_dig_length xs ys hx.ok hy.ok) (by omega)
  have hbq : (neg == neg) = true := by simp
  go_enter Tryz.func113, Tryz.ntmps113
  have hb := Below.refl w.heap.size w
  have hp := Bk.new w neg (.slice oa xs.length ca)
  replace hx := hx.alloc (.cells #[.bool neg, (.slice oa xs.length ca)] 26)
  replace hy := hy.alloc (.cells #[.bool neg, (.slice oa xs.length ca)] 26)
  replace hb := hb.alloc hb.size (.cells #[.bool neg, (.slice oa xs.length ca)] 26)
  have hq := Bk.new (w.alloc (.cells #[.bool neg, (.slice oa xs.length ca)] 26)) neg (.slice ob ys.length cb)
  simp only [Bk.size_alloc] at hq
  replace hx := hx.alloc (.cells #[.bool neg, (.slice ob ys.length cb)] 26)
  replace hy := hy.alloc (.cells #[.bool neg, (.slice ob ys.length cb)] 26)
  replace hp := hp.alloc (.cells #[.bool neg, (.slice ob ys.length cb)] 26)
  replace hb := hb.alloc hb.size (.cells #[.bool neg, (.slice ob ys.length cb)] 26)
  have hz := Bk.new ((w.alloc (.cells #[.bool neg, (.slice oa xs.length ca)] 26)).alloc (.cells #[.bool neg, (.slice ob ys.length cb)] 26)) false (.slice none 0 0)
  simp only [Bk.size_alloc] at hz
  replace hx := hx.alloc (.cells #[.bool false, (.slice none 0 0)] 26)
  replace hy := hy.alloc (.cells #[.bool false, (.slice none 0 0)] 26)
  replace hp := hp.alloc (.cells #[.bool false, (.slice none 0 0)] 26)
  replace hq := hq.alloc (.cells #[.bool false, (.slice none 0 0)] 26)
  replace hb := hb.alloc hb.size (.cells #[.bool false, (.slice none 0 0)] 26)
  replace hx := hx.drew
  replace hy := hy.drew
  replace hp := hp.drew
  replace hq := hq.drew
  replace hz := hz.drew
  replace hb := hb.drew
  go_wp2_with fail
  refine wp_region_lx (fun w' => w'.cell? ⟨w.heap.size, 0, none⟩ = some (.bool neg) ∧ w'.cell? ⟨w.heap.size, 1, none⟩ = some (.slice oa xs.length ca) ∧ w'.cell? ⟨w.heap.size + 1, 0, none⟩ = some (.bool neg) ∧ w'.cell? ⟨w.heap.size + 1, 1, none⟩ = some (.slice ob ys.length cb)) (by kernel_rfl) (by kernel_rfl) ⟨hp.facts.1, hp.facts.2.1, hq.facts.1, hq.facts.2.1⟩ ?_
  apply wpLx_st 0
  case hi => rfl
  case h => intro w' hC; obtain ⟨c0, c1, c2, c3⟩ := hC; go_simp; rfl
  case hw => rfl
  case hf => kernel_rfl
  case hr => kernel_rfl
  apply wpLx_st 1
  case hi => rfl
  case h => intro w' hC; obtain ⟨c0, c1, c2, c3⟩ := hC; go_simp; rfl
  case hw => rfl
  case hf => kernel_rfl
  case hr => kernel_rfl
  apply wpLx_st 2
  case hi => rfl
  case h => intro w' hC; obtain ⟨c0, c1, c2, c3⟩ := hC; go_simp; rfl
  case hw => rfl
  case hf => kernel_rfl
  case hr => kernel_rfl
  apply wpLx_st 3
  case hi => rfl
  case h => intro w' hC; obtain ⟨c0, c1, c2, c3⟩ := hC; go_simp; rfl
  case hw => rfl
  case hf => kernel_rfl
  case hr => kernel_rfl
  apply wpLx_st 4
  case hi => rfl
  case h => intro w' hC; obtain ⟨c0, c1, c2, c3⟩ := hC; go_simp; rfl
  case hw => rfl
  case hf => kernel_rfl
  case hr => kernel_rfl
  apply wpLx_st 5
  case hi => rfl
  case h => intro w' hC; obtain ⟨c0, c1, c2, c3⟩ := hC; go_simp; rfl
  case hw => rfl
  case hf => kernel_rfl
  case hr => kernel_rfl
  apply wpLx_call 6
  case hi => rfl
  case hw => rfl
  case hr => kernel_rfl
  case h =>
  intro K hK
  unfold Calm
  go_simp
  have kz_1 := hz.lt
  have kb_1 := hb.size
  go_fit (zadd_rr hx hy (by omega) (by omega))
  rintro e w_1 ⟨s, rfl, hs, hb_1⟩
  replace hx := hx.below hb_1 (Nat.le_refl _)
  replace hy := hy.below hb_1 (Nat.le_refl _)
  replace hp := hp.below hb_1 (Nat.le_refl _)
  replace hq := hq.below hb_1 (Nat.le_refl _)
  replace hz := hz.below hb_1 (Nat.le_refl _)
  replace hb := hb.trans (hb_1.mono hb.size)
  clear hb_1
  refine ⟨_, rfl, hK _ _ ⟨hp.facts.1, hp.facts.2.1, hq.facts.1, hq.facts.2.1⟩ ?_⟩
  clear hK K
  apply wpLx_call 7
  case hi => rfl
  case hw => rfl
  case hr => kernel_rfl
  case h =>
  intro K hK
  unfold Calm
  go_simp
  have kz_2 := hz.lt
  have kb_2 := hb.size
  go_fit (make_any neg (zv neg xs + zv neg ys) hs hdl HZ.out)
  rintro e w_2 ⟨v', rfl, hv, hb_2⟩
  replace hx := hx.below hb_2 (Nat.le_refl _)
  replace hy := hy.below hb_2 (Nat.le_refl _)
  replace hp := hp.below hb_2 (Nat.le_refl _)
  replace hq := hq.below hb_2 (Nat.le_refl _)
  replace hz := hz.below hb_2 (Nat.le_refl _)
  replace hs := hs.below hb_2 (Nat.le_refl _)
  replace hb := hb.trans (hb_2.mono hb.size)
  clear hb_2
  refine ⟨_, rfl, hK _ _ ⟨hp.facts.1, hp.facts.2.1, hq.facts.1, hq.facts.2.1⟩ ?_⟩
  clear hK K
  obtain ⟨sb, o5, n5, c5, rfl⟩ := hv.open2
  apply wpLx_call 8
  case hi => rfl
  case hw => rfl
  case hr => kernel_rfl
  case h =>
  intro K hK
  unfold Calm
  have c9 := hz.facts
  go_simp
  have ho := Bk.only w_2 (w.heap.size + 1 + 1) sb (.slice o5 n5 c5)
  replace hp := hp.frame ho (by first | assumption | (apply Ne.symm; assumption) | (simp; done) | omega)
  replace hq := hq.frame ho (by first | assumption | (apply Ne.symm; assumption) | (simp; done) | omega)
  have d := (hz.store sb (.slice o5 n5 c5)).facts
  refine hK _ _ ⟨hp.facts.1, hp.facts.2.1, hq.facts.1, hq.facts.2.1⟩ ?_
  clear hK K
  apply wpLx_nil
  case hr => kernel_rfl
  case h =>
  go_wp2
  refine bodyPost_ret (v := .agg #[.bool sb, .slice o5 n5 c5]) (by simp [results, Tryz.results113, go_sem, d.1, d.2.1]) rfl ?_
  exact ⟨_, rfl, (hv.only (Bk.only _ _ _ _) (by first | assumption | (simp; done) | omega | (simp; omega))).mono (by first | assumption | (simp; omega) | omega), (hb.setCell (by simp <;> omega) _).setCell (by simp <;> omega) _⟩
set_option maxHeartbeats 1000000 in
set_option maxRecDepth 20000 in
theorem rzadd_diff {w : World} {oa ob : Option Addr} {ca cb : Nat} {xs ys : List Nat} (neg : Bool) (hx : Rd w (.slice oa xs.length ca) xs) (hy : Rd w (.slice ob ys.length cb) ys) (hxl : xs.length ≤ 400000000) (hyl : ys.length ≤ 400000000) (hle : val ys ≤ val xs) :
    Calls Tryz.prog 113 #[.agg #[.bool neg, .slice oa xs.length ca], .agg #[.bool (!neg), .slice ob ys.length cb]] w fun e w' => ∃ v', e = .returned v' ∧ ZW w' w.heap.size v' (zv neg xs + zv (!neg) ys) ∧ Below w.heap.size w w' := by
  have HZ := hide (show (if neg = true then -((val (dig (val xs - val ys)) : Nat) : Int) else ((val (dig (val xs - val ys)) : Nat) : Int)) = zv neg xs + zv (!neg) ys by rw [val_dig]; exact zv_add_diff neg xs ys hle)
  have hdl : (dig (val xs - val ys)).length ≤ 1000000000 := Nat.le_trans (zsub_dig_length xs _ hx.ok) (by omega)
  have hdx : (dig (val xs)).length ≤ 100000000000 := Nat.le_trans (dig_length_le (val_lt hx.ok)) (by omega)
  have hdy : (dig (val ys)).length ≤ 100000000000 := Nat.le_trans (dig_length_le (val_lt hy.ok)) (by omega)
  have HLE := hide hle
  have hbq : (neg == !neg) = false := by cases neg <;> rfl
  have hc : 0 ≤ cmpI (val xs) (val ys) := by
    rcases (show cmpI (val xs) (val ys) < 0 ∨ 0 ≤ cmpI (val xs) (val ys) by omega) with h | h
    · have := cmpI_neg.1 h; omega
    · exact h
  clear hle
  go_enter Tryz.func113, Tryz.ntmps113
  have hb := Below.refl w.heap.size w
  have hp := Bk.new w neg (.slice oa xs.length ca)
  replace hx := hx.alloc (.cells #[.bool neg, (.slice oa xs.length ca)] 26)
  replace hy := hy.alloc (.cells #[.bool neg, (.slice oa xs.length ca)] 26)
  replace hb := hb.alloc hb.size (.cells #[.bool neg, (.slice oa xs.length ca)] 26)
  have hq := Bk.new (w.alloc (.cells #[.bool neg, (.slice oa xs.length ca)] 26)) (!neg) (.slice ob ys.length cb)
  simp only [Bk.size_alloc] at hq
  replace hx := hx.alloc (.cells #[.bool (!neg), (.slice ob ys.length cb)] 26)
  replace hy := hy.alloc (.cells #[.bool (!neg), (.slice ob ys.length cb)] 26)
  replace hp := hp.alloc (.cells #[.bool (!neg), (.slice ob ys.length cb)] 26)
  replace hb := hb.alloc hb.size (.cells #[.bool (!neg), (.slice ob ys.length cb)] 26)
  have hz := Bk.new ((w.alloc (.cells #[.bool neg, (.slice oa xs.length ca)] 26)).alloc (.cells #[.bool (!neg), (.slice ob ys.length cb)] 26)) false (.slice none 0 0)
  simp only [Bk.size_alloc] at hz
  replace hx := hx.alloc (.cells #[.bool false, (.slice none 0 0)] 26)
  replace hy := hy.alloc (.cells #[.bool false, (.slice none 0 0)] 26)
  replace hp := hp.alloc (.cells #[.bool false, (.slice none 0 0)] 26)
  replace hq := hq.alloc (.cells #[.bool false, (.slice none 0 0)] 26)
  replace hb := hb.alloc hb.size (.cells #[.bool false, (.slice none 0 0)] 26)
  go_wp2_with fail
  refine (zcmp_rr hx hy (by omega) (by omega)).mono ?_
  rintro e w_1 ⟨rfl, hb_1⟩
  replace hx := hx.below hb_1 (Nat.le_refl _)
  replace hy := hy.below hb_1 (Nat.le_refl _)
  replace hp := hp.below hb_1 (Nat.le_refl _)
  replace hq := hq.below hb_1 (Nat.le_refl _)
  replace hz := hz.below hb_1 (Nat.le_refl _)
  replace hb := hb.trans (hb_1.mono hb.size)
  clear hb_1
  generalize cmpI (val xs) (val ys) = c at *
  have cp := hp.facts
  have cq := hq.facts
  replace hx := hx.drew
  replace hy := hy.drew
  replace hp := hp.drew
  replace hq := hq.drew
  replace hz := hz.drew
  replace hb := hb.drew
  go_wp2_with fail
  refine wp_region_lx (fun w' => w'.cell? ⟨w.heap.size, 0, none⟩ = some (.bool neg) ∧ w'.cell? ⟨w.heap.size, 1, none⟩ = some (.slice oa xs.length ca) ∧ w'.cell? ⟨w.heap.size + 1, 0, none⟩ = some (.bool (!neg)) ∧ w'.cell? ⟨w.heap.size + 1, 1, none⟩ = some (.slice ob ys.length cb)) (by kernel_rfl) (by kernel_rfl) ⟨hp.facts.1, hp.facts.2.1, hq.facts.1, hq.facts.2.1⟩ ?_
  apply wpLx_st 0
  case hi => rfl
  case h => intro w' hC; obtain ⟨c0, c1, c2, c3⟩ := hC; go_simp; rfl
  case hw => rfl
  case hf => kernel_rfl
  case hr => kernel_rfl
  apply wpLx_st 1
  case hi => rfl
  case h => intro w' hC; obtain ⟨c0, c1, c2, c3⟩ := hC; go_simp; rfl
  case hw => rfl
  case hf => kernel_rfl
  case hr => kernel_rfl
  apply wpLx_st 2
  case hi => rfl
  case h => intro w' hC; obtain ⟨c0, c1, c2, c3⟩ := hC; go_simp; rfl
  case hw => rfl
  case hf => kernel_rfl
  case hr => kernel_rfl
  apply wpLx_st 3
  case hi => rfl
  case h => intro w' hC; obtain ⟨c0, c1, c2, c3⟩ := hC; go_simp; rfl
  case hw => rfl
  case hf => kernel_rfl
  case hr => kernel_rfl
  apply wpLx_st 5
  case hi => rfl
  case h => intro w' hC; obtain ⟨c0, c1, c2, c3⟩ := hC; go_simp; rfl
  case hw => rfl
  case hf => kernel_rfl
  case hr => kernel_rfl
  apply wpLx_st 6
  case hi => rfl
  case h => intro w' hC; obtain ⟨c0, c1, c2, c3⟩ := hC; go_simp; rfl
  case hw => rfl
  case hf => kernel_rfl
  case hr => kernel_rfl
  apply wpLx_call 4
  case hi => rfl
  case hw => rfl
  case hr => kernel_rfl
  case h =>
  intro K hK
  unfold Calm
  go_simp
  have kz_2 := hz.lt
  have kb_2 := hb.size
  go_fit (ztrim_rr hx (by omega))
  rintro e w_2 ⟨s1, rfl, h1, hb_2⟩
  replace hx := hx.below hb_2 (Nat.le_refl _)
  replace hy := hy.below hb_2 (Nat.le_refl _)
  replace hp := hp.below hb_2 (Nat.le_refl _)
  replace hq := hq.below hb_2 (Nat.le_refl _)
  replace hz := hz.below hb_2 (Nat.le_refl _)
  replace hb := hb.trans (hb_2.mono hb.size)
  clear hb_2
  refine ⟨_, rfl, hK _ _ ⟨hp.facts.1, hp.facts.2.1, hq.facts.1, hq.facts.2.1⟩ ?_⟩
  clear hK K
  apply wpLx_call 7
  case hi => rfl
  case hw => rfl
  case hr => kernel_rfl
  case h =>
  intro K hK
  unfold Calm
  go_simp
  have kz_3 := hz.lt
  have kb_3 := hb.size
  go_fit (ztrim_rr hy (by omega))
  rintro e w_3 ⟨s2, rfl, h2, hb_3⟩
  replace hx := hx.below hb_3 (Nat.le_refl _)
  replace hy := hy.below hb_3 (Nat.le_refl _)
  replace hp := hp.below hb_3 (Nat.le_refl _)
  replace hq := hq.below hb_3 (Nat.le_refl _)
  replace hz := hz.below hb_3 (Nat.le_refl _)
  replace h1 := h1.below hb_3 (Nat.le_refl _)
  replace hb := hb.trans (hb_3.mono hb.size)
  clear hb_3
  refine ⟨_, rfl, hK _ _ ⟨hp.facts.1, hp.facts.2.1, hq.facts.1, hq.facts.2.1⟩ ?_⟩
  clear hK K
  apply wpLx_call 8
  case hi => rfl
  case hw => rfl
  case hr => kernel_rfl
  case h =>
  intro K hK
  unfold Calm
  go_simp
  have kz_4 := hz.lt
  have kb_4 := hb.size
  go_fit (zsub_rr (val xs) (val ys) h1 h2 hdx hdy (val_dig _) (val_dig _) HLE.out)
  rintro e w_4 ⟨s, rfl, hs, hb_4⟩
  replace hx := hx.below hb_4 (Nat.le_refl _)
  replace hy := hy.below hb_4 (Nat.le_refl _)
  replace hp := hp.below hb_4 (Nat.le_refl _)
  replace hq := hq.below hb_4 (Nat.le_refl _)
  replace hz := hz.below hb_4 (Nat.le_refl _)
  replace h1 := h1.below hb_4 (Nat.le_refl _)
  replace h2 := h2.below hb_4 (Nat.le_refl _)
  replace hb := hb.trans (hb_4.mono hb.size)
  clear hb_4
  refine ⟨_, rfl, hK _ _ ⟨hp.facts.1, hp.facts.2.1, hq.facts.1, hq.facts.2.1⟩ ?_⟩
  clear hK K
  apply wpLx_call 9
  case hi => rfl
  case hw => rfl
  case hr => kernel_rfl
  case h =>
  intro K hK
  unfold Calm
  go_simp
  have kz_5 := hz.lt
  have kb_5 := hb.size
  go_fit (make_any neg (zv neg xs + zv (!neg) ys) hs hdl HZ.out)
  rintro e w_5 ⟨v', rfl, hv, hb_5⟩
  replace hx := hx.below hb_5 (Nat.le_refl _)
  replace hy := hy.below hb_5 (Nat.le_refl _)
  replace hp := hp.below hb_5 (Nat.le_refl _)
  replace hq := hq.below hb_5 (Nat.le_refl _)
  replace hz := hz.below hb_5 (Nat.le_refl _)
  replace h1 := h1.below hb_5 (Nat.le_refl _)
  replace h2 := h2.below hb_5 (Nat.le_refl _)
  replace hs := hs.below hb_5 (Nat.le_refl _)
  replace hb := hb.trans (hb_5.mono hb.size)
  clear hb_5
  refine ⟨_, rfl, hK _ _ ⟨hp.facts.1, hp.facts.2.1, hq.facts.1, hq.facts.2.1⟩ ?_⟩
  clear hK K
  obtain ⟨sb, o5, n5, c5, rfl⟩ := hv.open2
  apply wpLx_call 10
  case hi => rfl
  case hw => rfl
  case hr => kernel_rfl
  case h =>
  intro K hK
  unfold Calm
  have c9 := hz.facts
  go_simp
  have ho := Bk.only w_5 (w.heap.size + 1 + 1) sb (.slice o5 n5 c5)
  replace hp := hp.frame ho (by first | assumption | (apply Ne.symm; assumption) | (simp; done) | omega)
  replace hq := hq.frame ho (by first | assumption | (apply Ne.symm; assumption) | (simp; done) | omega)
  have d := (hz.store sb (.slice o5 n5 c5)).facts
  refine hK _ _ ⟨hp.facts.1, hp.facts.2.1, hq.facts.1, hq.facts.2.1⟩ ?_
  clear hK K
  apply wpLx_nil
  case hr => kernel_rfl
  case h =>
  go_wp2
  refine bodyPost_ret (v := .agg #[.bool sb, .slice o5 n5 c5]) (by simp [results, Tryz.results113, go_sem, d.1, d.2.1]) rfl ?_
  exact ⟨_, rfl, (hv.only (Bk.only _ _ _ _) (by first | assumption | (simp; done) | omega | (simp; omega))).mono (by first | assumption | (simp; omega) | omega), (hb.setCell (by simp <;> omega) _).setCell (by simp <;> omega) _⟩
set_option maxHeartbeats 1000000 in
set_option maxRecDepth 20000 in
theorem rzadd_swap {w : World} {oa ob : Option Addr} {ca cb : Nat} {xs ys : List Nat} (neg : Bool) (hx : Rd w (.slice oa xs.length ca) xs) (hy : Rd w (.slice ob ys.length cb) ys) (hxl : xs.length ≤ 400000000) (hyl : ys.length ≤ 400000000) (hle : val xs < val ys) :
    Calls Tryz.prog 113 #[.agg #[.bool neg, .slice oa xs.length ca], .agg #[.bool (!neg), .slice ob ys.length cb]] w fun e w' => ∃ v', e = .returned v' ∧ ZW w' w.heap.size v' (zv neg xs + zv (!neg) ys) ∧ Below w.heap.size w w' := by
  have HZ := hide (show (if (!neg) = true then -((val (dig (val ys - val xs)) : Nat) : Int) else ((val (dig (val ys - val xs)) : Nat) : Int)) = zv neg xs + zv (!neg) ys by rw [val_dig]; exact zv_add_swap neg xs ys hle)
  have hdl : (dig (val ys - val xs)).length ≤ 1000000000 := Nat.le_trans (zsub_dig_length ys _ hy.ok) (by omega)
  have hdx : (dig (val xs)).length ≤ 100000000000 := Nat.le_trans (dig_length_le (val_lt hx.ok)) (by omega)
  have hdy : (dig (val ys)).length ≤ 100000000000 := Nat.le_trans (dig_length_le (val_lt hy.ok)) (by omega)
  have HLE := hide (Nat.le_of_lt hle)
  have hbq : (neg == !neg) = false := by cases neg <;> rfl
  have hc : cmpI (val xs) (val ys) < 0 := cmpI_neg.2 hle
  clear hle
  go_enter Tryz.func113, Tryz.ntmps113
  have hb := Below.refl w.heap.size w
  have hp := Bk.new w neg (.slice oa xs.length ca)
  replace hx := hx.alloc (.cells #[.bool neg, (.slice oa xs.length ca)] 26)
  replace hy := hy.alloc (.cells #[.bool neg, (.slice oa xs.length ca)] 26)
  replace hb := hb.alloc hb.size (.cells #[.bool neg, (.slice oa xs.length ca)] 26)
  have hq := Bk.new (w.alloc (.cells #[.bool neg, (.slice oa xs.length ca)] 26)) (!neg) (.slice ob ys.length cb)
  simp only [Bk.size_alloc] at hq
  replace hx := hx.alloc (.cells #[.bool (!neg), (.slice ob ys.length cb)] 26)
  replace hy := hy.alloc (.cells #[.bool (!neg), (.slice ob ys.length cb)] 26)
  replace hp := hp.alloc (.cells #[.bool (!neg), (.slice ob ys.length cb)] 26)
  replace hb := hb.alloc hb.size (.cells #[.bool (!neg), (.slice ob ys.length cb)] 26)
  have hz := Bk.new ((w.alloc (.cells #[.bool neg, (.slice oa xs.length ca)] 26)).alloc (.cells #[.bool (!neg), (.slice ob ys.length cb)] 26)) false (.slice none 0 0)
  simp only [Bk.size_alloc] at hz
  replace hx := hx.alloc (.cells #[.bool false, (.slice none 0 0)] 26)
  replace hy := hy.alloc (.cells #[.bool false, (.slice none 0 0)] 26)
  replace hp := hp.alloc (.cells #[.bool false, (.slice none 0 0)] 26)
  replace hq := hq.alloc (.cells #[.bool false, (.slice none 0 0)] 26)
  replace hb := hb.alloc hb.size (.cells #[.bool false, (.slice none 0 0)] 26)
  go_wp2_with fail
  refine (zcmp_rr hx hy (by omega) (by omega)).mono ?_
  rintro e w_1 ⟨rfl, hb_1⟩
  replace hx := hx.below hb_1 (Nat.le_refl _)
  replace hy := hy.below hb_1 (Nat.le_refl _)
  replace hp := hp.below hb_1 (Nat.le_refl _)
  replace hq := hq.below hb_1 (Nat.le_refl _)
  replace hz := hz.below hb_1 (Nat.le_refl _)
  replace hb := hb.trans (hb_1.mono hb.size)
  clear hb_1
  generalize cmpI (val xs) (val ys) = c at *
  have cp := hp.facts
  have cq := hq.facts
  replace hx := hx.drew
  replace hy := hy.drew
  replace hp := hp.drew
  replace hq := hq.drew
  replace hz := hz.drew
  replace hb := hb.drew
  go_wp2_with fail
  refine wp_region_lx (fun w' => w'.cell? ⟨w.heap.size, 0, none⟩ = some (.bool neg) ∧ w'.cell? ⟨w.heap.size, 1, none⟩ = some (.slice oa xs.length ca) ∧ w'.cell? ⟨w.heap.size + 1, 0, none⟩ = some (.bool (!neg)) ∧ w'.cell? ⟨w.heap.size + 1, 1, none⟩ = some (.slice ob ys.length cb)) (by kernel_rfl) (by kernel_rfl) ⟨hp.facts.1, hp.facts.2.1, hq.facts.1, hq.facts.2.1⟩ ?_
  apply wpLx_st 0
  case hi => rfl
  case h => intro w' hC; obtain ⟨c0, c1, c2, c3⟩ := hC; go_simp; rfl
  case hw => rfl
  case hf => kernel_rfl
  case hr => kernel_rfl
  apply wpLx_st 1
  case hi => rfl
  case h => intro w' hC; obtain ⟨c0, c1, c2, c3⟩ := hC; go_simp; rfl
  case hw => rfl
  case hf => kernel_rfl
  case hr => kernel_rfl
  apply wpLx_st 2
  case hi => rfl
  case h => intro w' hC; obtain ⟨c0, c1, c2, c3⟩ := hC; go_simp; rfl
  case hw => rfl
  case hf => kernel_rfl
  case hr => kernel_rfl
  apply wpLx_st 3
  case hi => rfl
  case h => intro w' hC; obtain ⟨c0, c1, c2, c3⟩ := hC; go_simp; rfl
  case hw => rfl
  case hf => kernel_rfl
  case hr => kernel_rfl
  apply wpLx_st 5
  case hi => rfl
  case h => intro w' hC; obtain ⟨c0, c1, c2, c3⟩ := hC; go_simp; rfl
  case hw => rfl
  case hf => kernel_rfl
  case hr => kernel_rfl
  apply wpLx_st 6
  case hi => rfl
  case h => intro w' hC; obtain ⟨c0, c1, c2, c3⟩ := hC; go_simp; rfl
  case hw => rfl
  case hf => kernel_rfl
  case hr => kernel_rfl
  apply wpLx_call 4
  case hi => rfl
  case hw => rfl
  case hr => kernel_rfl
  case h =>
  intro K hK
  unfold Calm
  go_simp
  have kz_2 := hz.lt
  have kb_2 := hb.size
  go_fit (ztrim_rr hy (by omega))
  rintro e w_2 ⟨s1, rfl, h1, hb_2⟩
  replace hx := hx.below hb_2 (Nat.le_refl _)
  replace hy := hy.below hb_2 (Nat.le_refl _)
  replace hp := hp.below hb_2 (Nat.le_refl _)
  replace hq := hq.below hb_2 (Nat.le_refl _)
  replace hz := hz.below hb_2 (Nat.le_refl _)
  replace hb := hb.trans (hb_2.mono hb.size)
  clear hb_2
  refine ⟨_, rfl, hK _ _ ⟨hp.facts.1, hp.facts.2.1, hq.facts.1, hq.facts.2.1⟩ ?_⟩
  clear hK K
  apply wpLx_call 7
  case hi => rfl
  case hw => rfl
  case hr => kernel_rfl
  case h =>
  intro K hK
  unfold Calm
  go_simp
  have kz_3 := hz.lt
  have kb_3 := hb.size
  go_fit (ztrim_rr hx (by omega))
  rintro e w_3 ⟨s2, rfl, h2, hb_3⟩
  replace hx := hx.below hb_3 (Nat.le_refl _)
  replace hy := hy.below hb_3 (Nat.le_refl _)
  replace hp := hp.below hb_3 (Nat.le_refl _)
  replace hq := hq.below hb_3 (Nat.le_refl _)
  replace hz := hz.below hb_3 (Nat.le_refl _)
  replace h1 := h1.below hb_3 (Nat.le_refl _)
  replace hb := hb.trans (hb_3.mono hb.size)
  clear hb_3
  refine ⟨_, rfl, hK _ _ ⟨hp.facts.1, hp.facts.2.1, hq.facts.1, hq.facts.2.1⟩ ?_⟩
  clear hK K
  apply wpLx_call 8
  case hi => rfl
  case hw => rfl
  case hr => kernel_rfl
  case h =>
  intro K hK
  unfold Calm
  go_simp
  have kz_4 := hz.lt
  have kb_4 := hb.size
  go_fit (zsub_rr (val ys) (val xs) h1 h2 hdy hdx (val_dig _) (val_dig _) HLE.out)
  rintro e w_4 ⟨s, rfl, hs, hb_4⟩
  replace hx := hx.below hb_4 (Nat.le_refl _)
  replace hy := hy.below hb_4 (Nat.le_refl _)
  replace hp := hp.below hb_4 (Nat.le_refl _)
  replace hq := hq.below hb_4 (Nat.le_refl _)
  replace hz := hz.below hb_4 (Nat.le_refl _)
  replace h1 := h1.below hb_4 (Nat.le_refl _)
  replace h2 := h2.below hb_4 (Nat.le_refl _)
  replace hb := hb.trans (hb_4.mono hb.size)
  clear hb_4
  refine ⟨_, rfl, hK _ _ ⟨hp.facts.1, hp.facts.2.1, hq.facts.1, hq.facts.2.1⟩ ?_⟩
  clear hK K
  apply wpLx_call 9
  case hi => rfl
  case hw => rfl
  case hr => kernel_rfl
  case h =>
  intro K hK
  unfold Calm
  go_simp
  have kz_5 := hz.lt
  have kb_5 := hb.size
  go_fit (make_any (!neg) (zv neg xs + zv (!neg) ys) hs hdl HZ.out)
  rintro e w_5 ⟨v', rfl, hv, hb_5⟩
  replace hx := hx.below hb_5 (Nat.le_refl _)
  replace hy := hy.below hb_5 (Nat.le_refl _)
  replace hp := hp.below hb_5 (Nat.le_refl _)
  replace hq := hq.below hb_5 (Nat.le_refl _)
  replace hz := hz.below hb_5 (Nat.le_refl _)
  replace h1 := h1.below hb_5 (Nat.le_refl _)
  replace h2 := h2.below hb_5 (Nat.le_refl _)
  replace hs := hs.below hb_5 (Nat.le_refl _)
  replace hb := hb.trans (hb_5.mono hb.size)
  clear hb_5
  refine ⟨_, rfl, hK _ _ ⟨hp.facts.1, hp.facts.2.1, hq.facts.1, hq.facts.2.1⟩ ?_⟩
  clear hK K
  obtain ⟨sb, o5, n5, c5, rfl⟩ := hv.open2
  apply wpLx_call 10
  case hi => rfl
  case hw => rfl
  case hr => kernel_rfl
  case h =>
  intro K hK
  unfold Calm
  have c9 := hz.facts
  go_simp
  have ho := Bk.only w_5 (w.heap.size + 1 + 1) sb (.slice o5 n5 c5)
  replace hp := hp.frame ho (by first | assumption | (apply Ne.symm; assumption) | (simp; done) | omega)
  replace hq := hq.frame ho (by first | assumption | (apply Ne.symm; assumption) | (simp; done) | omega)
  have d := (hz.store sb (.slice o5 n5 c5)).facts
  refine hK _ _ ⟨hp.facts.1, hp.facts.2.1, hq.facts.1, hq.facts.2.1⟩ ?_
  clear hK K
  apply wpLx_nil
  case hr => kernel_rfl
  case h =>
  go_wp2
  refine bodyPost_ret (v := .agg #[.bool sb, .slice o5 n5 c5]) (by simp [results, Tryz.results113, go_sem, d.1, d.2.1]) rfl ?_
  exact ⟨_, rfl, (hv.only (Bk.only _ _ _ _) (by first | assumption | (simp; done) | omega | (simp; omega))).mono (by first | assumption | (simp; omega) | omega), (hb.setCell (by simp <;> omega) _).setCell (by simp <;> omega) _⟩
/-- tesselref2.Add. -/
theorem rzadd_any {w : World} {va vb : Value} {x y : Int} {l m : Nat} (ha : ZN w va x l) (hb' : ZN w vb y m) (hl : l ≤ 400000000) (hm : m ≤ 400000000) :
    Calls Tryz.prog 113 #[va, vb] w fun e w' => ∃ v', e = .returned v' ∧ ZW w' w.heap.size v' (x + y) ∧ Below w.heap.size w w' := by
  obtain ⟨na, oa, ca, xs, rfl, hca, hx, hzx, hxl⟩ := ha.open_
  obtain ⟨nb, ob, cb, ys, rfl, hcb, hy, hzy, hyl⟩ := hb'.open_
  subst hzx hzy
  by_cases h : na = nb
  · subst h
    exact rzadd_same na hx hy (by omega) (by omega)
  · have hn : nb = !na := by cases na <;> cases nb <;> simp_all
    subst hn
    by_cases hle : val ys ≤ val xs
    · exact rzadd_diff na hx hy (by omega) (by omega) hle
    · exact rzadd_swap na hx hy (by omega) (by omega) (by omega)
end Go.Proofs.YtlomgfgedkkhkaaGreatDoor

