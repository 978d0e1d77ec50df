/- zint: Sub, Cmp, From. -/
import Derived.Test.YtlomgfgedkkhkaaGreatDoorZ2
namespace Go.Proofs.YtlomgfgedkkhkaaGreatDoor
open Go.RowKit Dig
set_option maxHeartbeats 1000000 in
set_option maxRecDepth 20000 in
/-- zint.Sub. -/
theorem zsub_any {w : World} {va vb : Value} {x y : Int} {l m : Nat} (ha : ZN w va x l) (hb' : ZN w vb y m) (hl : l ≤ 1000000000) (hm : m ≤ 1000000000) :
    Calls Tryz.prog 61 #[va, vb] w fun e w' => ∃ v', e = .returned v' ∧ ZO w' w.heap.size v' (x - y) ∧ Below w.heap.size w w' := by
  have HXY := hide (show x + -y = x - y by omega)
  obtain ⟨na, oa, ca, xs, rfl, hca, _, _, hxl⟩ := ha.open_
  obtain ⟨nb, ob, cb, ys, rfl, hcb, _, _, hyl⟩ := hb'.open_
  go_enter Tryz.func61, Tryz.ntmps61
  have hb := Below.refl w.heap.size w
  have hp := Bk.new w na (.slice oa xs.length ca)
  replace ha := ha.alloc (.cells #[.bool na, (.slice oa xs.length ca)] 26)
  replace hb' := hb'.alloc (.cells #[.bool na, (.slice oa xs.length ca)] 26)
  replace hb := hb.alloc hb.size (.cells #[.bool na, (.slice oa xs.length ca)] 26)
  have hq := Bk.new (w.alloc (.cells #[.bool na, (.slice oa xs.length ca)] 26)) nb (.slice ob ys.length cb)
  simp only [Bk.size_alloc] at hq
  replace ha := ha.alloc (.cells #[.bool nb, (.slice ob ys.length cb)] 26)
  replace hb' := hb'.alloc (.cells #[.bool nb, (.slice ob ys.length cb)] 26)
  replace hp := hp.alloc (.cells #[.bool nb, (.slice ob ys.length cb)] 26)
  replace hb := hb.alloc hb.size (.cells #[.bool nb, (.slice ob ys.length cb)] 26)
  have hz := Bk.new ((w.alloc (.cells #[.bool na, (.slice oa xs.length ca)] 26)).alloc (.cells #[.bool nb, (.slice ob ys.length cb)] 26)) false (.slice none 0 0)
  simp only [Bk.size_alloc] at hz
  replace ha := ha.alloc (.cells #[.bool false, (.slice none 0 0)] 26)
  replace hb' := hb'.alloc (.cells #[.bool false, (.slice none 0 0)] 26)
  replace hp := hp.alloc (.cells #[.bool false, (.slice none 0 0)] 26)
  replace hq := hq.alloc (.cells #[.bool false, (.slice none 0 0)] 26)
  replace hb := hb.alloc hb.size (.cells #[.bool false, (.slice none 0 0)] 26)
  replace ha := ha.drew
  replace hb' := hb'.drew
  replace hp := hp.drew
  replace hq := hq.drew
  replace hz := hz.drew
  replace hb := hb.drew
  go_wp2_with fail
  refine wp_region_lx (fun w' => w'.cell? ⟨w.heap.size, 0, none⟩ = some (.bool na) ∧ w'.cell? ⟨w.heap.size, 1, none⟩ = some (.slice oa xs.length ca) ∧ w'.cell? ⟨w.heap.size + 1, 0, none⟩ = some (.bool nb) ∧ w'.cell? ⟨w.heap.size + 1, 1, none⟩ = some (.slice ob ys.length cb)) (by kernel_rfl) (by kernel_rfl) ⟨hp.facts.1, hp.facts.2.1, hq.facts.1, hq.facts.2.1⟩ ?_
  apply wpLx_st 0
  case hi => rfl
  case h => intro w' hC; obtain ⟨c0, c1, c2, c3⟩ := hC; go_simp; rfl
  case hw => rfl
  case hf => kernel_rfl
  case hr => kernel_rfl
  apply wpLx_st 1
  case hi => rfl
  case h => intro w' hC; obtain ⟨c0, c1, c2, c3⟩ := hC; go_simp; rfl
  case hw => rfl
  case hf => kernel_rfl
  case hr => kernel_rfl
  apply wpLx_call 2
  case hi => rfl
  case hw => rfl
  case hr => kernel_rfl
  case h =>
  intro K hK
  unfold Calm
  go_simp
  have kz_1 := hz.lt
  have kb_1 := hb.size
  go_fit (turned_any hb')
  rintro e w_1 ⟨v2, rfl, h2, hb_1⟩
  replace ha := ha.below hb_1 (Nat.le_refl _)
  replace hb' := hb'.below hb_1 (Nat.le_refl _)
  replace hp := hp.below hb_1 (Nat.le_refl _)
  replace hq := hq.below hb_1 (Nat.le_refl _)
  replace hz := hz.below hb_1 (Nat.le_refl _)
  replace hb := hb.trans (hb_1.mono hb.size)
  clear hb_1
  refine ⟨_, rfl, hK _ _ ⟨hp.facts.1, hp.facts.2.1, hq.facts.1, hq.facts.2.1⟩ ?_⟩
  clear hK K
  apply wpLx_call 3
  case hi => rfl
  case hw => rfl
  case hr => kernel_rfl
  case h =>
  intro K hK
  unfold Calm
  go_simp
  have kz_2 := hz.lt
  have kb_2 := hb.size
  go_fit (zadd_any ha h2 hl hm)
  rintro e w_2 ⟨v', rfl, hv, hb_2⟩
  replace ha := ha.below hb_2 (Nat.le_refl _)
  replace hb' := hb'.below hb_2 (Nat.le_refl _)
  replace hp := hp.below hb_2 (Nat.le_refl _)
  replace hq := hq.below hb_2 (Nat.le_refl _)
  replace hz := hz.below hb_2 (Nat.le_refl _)
  replace h2 := h2.below hb_2 (Nat.le_refl _)
  replace hb := hb.trans (hb_2.mono hb.size)
  clear hb_2
  refine ⟨_, rfl, hK _ _ ⟨hp.facts.1, hp.facts.2.1, hq.facts.1, hq.facts.2.1⟩ ?_⟩
  clear hK K
  rw [HXY.out] at hv
  obtain ⟨sb, o5, n5, c5, rfl⟩ := hv.open2
  apply wpLx_call 4
  case hi => rfl
  case hw => rfl
  case hr => kernel_rfl
  case h =>
  intro K hK
  unfold Calm
  have c9 := hz.facts
  go_simp
  have ho := Bk.only w_2 (w.heap.size + 1 + 1) sb (.slice o5 n5 c5)
  replace hp := hp.frame ho (by first | assumption | (apply Ne.symm; assumption) | (simp; done) | omega)
  replace hq := hq.frame ho (by first | assumption | (apply Ne.symm; assumption) | (simp; done) | omega)
  have d := (hz.store sb (.slice o5 n5 c5)).facts
  refine hK _ _ ⟨hp.facts.1, hp.facts.2.1, hq.facts.1, hq.facts.2.1⟩ ?_
  clear hK K
  apply wpLx_nil
  case hr => kernel_rfl
  case h =>
  go_wp2
  refine bodyPost_ret (v := .agg #[.bool sb, .slice o5 n5 c5]) (by simp [results, Tryz.results61, go_sem, d.1, d.2.1]) rfl ?_
  exact ⟨_, rfl, (hv.only (Bk.only _ _ _ _) (by first | assumption | (simp; done) | omega | (simp; omega))).mono (by first | assumption | (simp; omega) | omega), (hb.setCell (by simp <;> omega) _).setCell (by simp <;> omega) _⟩
/-- How two numbers are ordered. -/
def zcmp (x y : Int) : Int := if x < y then -1 else if x = y then 0 else 1
set_option maxHeartbeats 1000000 in
set_option maxRecDepth 20000 in
theorem from_any (n : Int) (w : World) (hlo : -9223372036854775808 ≤ n) (hhi : n ≤ 9223372036854775807) :
    Calls Tryz.prog 62 #[.int .i64 n] w fun e w' => ∃ v', e = .returned v' ∧ ZO w' w.heap.size v' n ∧ Below w.heap.size w w' := by
  have e0 : ∀ lo hi : Nat, val [lo, hi] = lo + 4294967296 * hi := fun lo hi => by simp [val]
  by_cases hn : n < 0
  · obtain ⟨u, hu⟩ : ∃ u : Nat, IntKind.u64.wrap (-IntKind.u64.wrap n) = (u : Int) ∧ n = -(u : Int) := ⟨n.natAbs, by rw [IntKind.wrap_u64, IntKind.wrap_u64]; omega, by omega⟩
    have hub : u < 18446744073709551616 := by omega
    have hlo' : (u : Int) % 4294967296 = ((u % 4294967296 : Nat) : Int) := by omega
    have hhi' : (u : Int) / 4294967296 = ((u / 4294967296 : Nat) : Int) := by omega
    have hu1 := hu.1
    have HU := hide (show -((val [u % 4294967296, u / 4294967296] : Nat) : Int) = n by rw [e0]; omega)
    have hn0 : n < 0 := hn
    obtain ⟨lo, hlo⟩ : ∃ lo, u % 4294967296 = lo := ⟨_, rfl⟩
    obtain ⟨hi, hhi⟩ : ∃ hi, u / 4294967296 = hi := ⟨_, rfl⟩
    rw [hlo] at hlo' HU
    rw [hhi] at hhi' HU
    have hlob : lo < 4294967296 := by omega
    have hhib : hi < 4294967296 := by omega
    clear hu hlo hhi
    go_enter Tryz.func62, Tryz.ntmps62
    have hb := Below.refl w.heap.size w
    have hz := Bk.new w false (.slice none 0 0)
    replace hb := hb.alloc hb.size (.cells #[.bool false, (.slice none 0 0)] 26)
    have a1 := lit2 (w.alloc (.cells #[.bool false, (.slice none 0 0)] 26)) lo hi (by first | decide | omega) (by first | decide | omega)
    simp only [Bk.size_alloc] at a1
    replace hz := hz.alloc (.cells #[.int .u32 (lo : Int), .int .u32 (hi : Int)] 56)
    replace hb := hb.alloc hb.size (.cells #[.int .u32 (lo : Int), .int .u32 (hi : Int)] 56)
    go_wp2_with fail
    refine (norm_rd a1 (by simp)).mono ?_
    rintro e w_1 ⟨s, rfl, hs, hb_1⟩
    replace hz := hz.below hb_1 (Nat.le_refl _)
    replace a1 := a1.below hb_1 (Nat.le_refl _)
    replace hb := hb.trans (hb_1.mono hb.size)
    clear hb_1
    go_wp2_with fail
    refine (signed_z (neg := true) n hs (by rw [if_pos rfl]; exact HU.out)).mono ?_
    rintro e w_2 ⟨v', rfl, hv, hb_2⟩
    replace hz := hz.below hb_2 (Nat.le_refl _)
    replace a1 := a1.below hb_2 (Nat.le_refl _)
    replace hs := hs.below hb_2 (Nat.le_refl _)
    replace hb := hb.trans (hb_2.mono hb.size)
    clear hb_2
    obtain ⟨sb, o5, n5, c5, rfl⟩ := hv.open2
    have c9 := hz.facts
    have d := (hz.store sb (.slice o5 n5 c5)).facts
    go_wp2
    refine bodyPost_ret (v := .agg #[.bool sb, .slice o5 n5 c5]) (by simp [results, Tryz.results62, go_sem, d.1, d.2.1]) rfl ?_
    exact ⟨_, rfl, (hv.only (Bk.only _ _ _ _) (by first | assumption | (simp; done) | omega | (simp; omega))).mono (by first | assumption | (simp; omega) | omega), (hb.setCell (by simp <;> omega) _).setCell (by simp <;> omega) _⟩
  · obtain ⟨u, hu⟩ : ∃ u : Nat, IntKind.u64.wrap n = (u : Int) ∧ n = (u : Int) := ⟨n.natAbs, by rw [IntKind.wrap_u64]; omega, by omega⟩
    have hub : u < 18446744073709551616 := by omega
    have hlo' : (u : Int) % 4294967296 = ((u % 4294967296 : Nat) : Int) := by omega
    have hhi' : (u : Int) / 4294967296 = ((u / 4294967296 : Nat) : Int) := by omega
    have hu1 := hu.1
    have HU := hide (show (if false = true then -((val [u % 4294967296, u / 4294967296] : Nat) : Int) else ((val [u % 4294967296, u / 4294967296] : Nat) : Int)) = n by rw [if_neg (by simp), e0]; omega)
    have hn0 : (n < 0) = False := eq_false hn
    have hn1 : decide (n < 0) = false := decide_eq_false hn
    obtain ⟨lo, hlo⟩ : ∃ lo, u % 4294967296 = lo := ⟨_, rfl⟩
    obtain ⟨hi, hhi⟩ : ∃ hi, u / 4294967296 = hi := ⟨_, rfl⟩
    rw [hlo] at hlo' HU
    rw [hhi] at hhi' HU
    have hlob : lo < 4294967296 := by omega
    have hhib : hi < 4294967296 := by omega
    clear hu hlo hhi
    go_enter Tryz.func62, Tryz.ntmps62
    have hb := Below.refl w.heap.size w
    have hz := Bk.new w false (.slice none 0 0)
    replace hb := hb.alloc hb.size (.cells #[.bool false, (.slice none 0 0)] 26)
    have a1 := lit2 (w.alloc (.cells #[.bool false, (.slice none 0 0)] 26)) lo hi (by first | decide | omega) (by first | decide | omega)
    simp only [Bk.size_alloc] at a1
    replace hz := hz.alloc (.cells #[.int .u32 (lo : Int), .int .u32 (hi : Int)] 56)
    replace hb := hb.alloc hb.size (.cells #[.int .u32 (lo : Int), .int .u32 (hi : Int)] 56)
    go_wp2_with fail
    refine (norm_rd a1 (by simp)).mono ?_
    rintro e w_1 ⟨s, rfl, hs, hb_1⟩
    replace hz := hz.below hb_1 (Nat.le_refl _)
    replace a1 := a1.below hb_1 (Nat.le_refl _)
    replace hb := hb.trans (hb_1.mono hb.size)
    clear hb_1
    go_wp2_with fail
    refine (signed_z n hs HU.out).mono ?_
    rintro e w_2 ⟨v', rfl, hv, hb_2⟩
    replace hz := hz.below hb_2 (Nat.le_refl _)
    replace a1 := a1.below hb_2 (Nat.le_refl _)
    replace hs := hs.below hb_2 (Nat.le_refl _)
    replace hb := hb.trans (hb_2.mono hb.size)
    clear hb_2
    obtain ⟨sb, o5, n5, c5, rfl⟩ := hv.open2
    have c9 := hz.facts
    have d := (hz.store sb (.slice o5 n5 c5)).facts
    go_wp2
    refine bodyPost_ret (v := .agg #[.bool sb, .slice o5 n5 c5]) (by simp [results, Tryz.results62, go_sem, d.1, d.2.1]) rfl ?_
    exact ⟨_, rfl, (hv.only (Bk.only _ _ _ _) (by first | assumption | (simp; done) | omega | (simp; omega))).mono (by first | assumption | (simp; omega) | omega), (hb.setCell (by simp <;> omega) _).setCell (by simp <;> omega) _⟩
/-- A slice of memory that is not older than B. -/
def NewAt (B : Nat) (v : Value) : Prop := ∀ a n c, v = .slice (some a) n c → B ≤ a.block
theorem NewAt.mono {B C : Nat} {v : Value} (h : NewAt B v) (k : C ≤ B) : NewAt C v := fun a n c e => Nat.le_trans k (h a n c e)
theorem NewAt.of_owns {w : World} {B s n : Nat} {t : TypeId} {v : Value} {xs : List Value} (h : w.ownsRow B t s v n xs) : NewAt B v := by
  intro a m c e
  rcases h.2 with ⟨h2, _⟩ | ⟨g, cap, cur, hv, hg, _⟩
  · rw [h2] at e; cases e
  · rw [hv] at e; cases e; exact hg
set_option maxHeartbeats 800000 in
set_option maxRecDepth 20000 in
/-- The reference's Trim. -/
theorem rtrim_own (oa : Option Addr) (cap : Nat) (ds : List Nat) (w : World) (hl : ds.length ≤ 10000000000000) (hc : ds.length ≤ cap) (_ok : OK ds) (hcell : Cells w oa ds) :
    Calls Tryz.prog 68 #[.slice oa ds.length cap] w fun e w' => ∃ v, e = .returned v ∧ w'.ownsRow w.heap.size 56 1 v (strip ds).length ((strip ds).map dv) ∧ Below w.heap.size w w' := by
  obtain ⟨i0, hi, hz0, hz1, hz2⟩ := info_parts info32
  have hst := hcell.strip
  have hsl := strip_length_le ds
  go_enter Tryz.func68, Tryz.ntmps68
  go_wp2_with fail
  go_loop [3] (fun n => ∃ k : Nat, k ≤ ds.length ∧ n = .int .i64 k ∧ ∀ i, k ≤ i → ds[i]?.getD 0 = 0) (fun n => (intOf n).toNat)
  case atStart => exact ⟨ds.length, Nat.le_refl _, rfl, fun i hi => by simp [List.getElem?_eq_none hi]⟩
  case round =>
    obtain ⟨k, hk, rfl, hz⟩ := hrel
    by_cases hk0 : 0 < k
    · obtain ⟨j, rfl⟩ : ∃ j, k = j + 1 := ⟨k - 1, by omega⟩
      obtain ⟨b, off, x, ho, gx, Hx⟩ := hcell.get (i := j) (by omega)
      subst ho
      by_cases hd : x = 0
      · subst hd
        have gx' : w.cell? ⟨b, off + j, none⟩ = some (.int .u32 0) := gx
        go_wp2
        go_round
        case rel => exact ⟨j, by omega, by go_num, fun i hi => by rcases Nat.eq_or_lt_of_le hi with h | h; (· rw [← h]; exact Hx.out); (· exact hz i h)⟩
        case measure => simp [intOf]
      · have hd' : ¬ ((x : Nat) : Int) = 0 := by omega
        have hs : (strip ds).length = j + 1 := strip_length_of hk hz (.inr (by have := Hx.out; simp; omega))
        have Hs := hide hs
        have hcs := hst
        rw [strip_take ds, hs] at hcs
        obtain ⟨b', off', ho', hcs'⟩ := hcs.resolve_left (fun e => by have := congrArg List.length e; rw [List.length_take, List.length_nil, Nat.min_eq_left hk] at this; omega)
        cases ho'
        clear hs
        go_wp2_with (at_builtin; refine wpList_append_own _ rfl _ _ 24 rfl w.heap.size 56 i0 (.int .u32 0) 1 4 Tryz.underlying24 hi hz0 hz1 hz2 rfl (by decide) _ _ _ rfl (World.ownsRow_nil _ _ _ _) ⟨b, off, none⟩ (j + 1) cap ((ds.take (j + 1)).map dv) rfl (by rw [List.length_map, List.length_take, Nat.min_eq_left hk, Nat.mul_one]) ?c1 ?c2 ?c3 ?c4 (Nat.le_refl _) ?_)
        case c1 =>
          intro i u hu
          rw [← List.map_take, List.getElem?_map, Option.map_eq_some_iff] at hu
          obtain ⟨d, hd, rfl⟩ := hu
          have hil : i < (ds.take (j + 1)).length := by
            rcases Nat.lt_or_ge i (ds.take (j + 1)).length with h | h
            · exact h
            · rw [List.getElem?_eq_none h] at hd; cases hd
          rw [hcs' i hil, hd]; rfl
        case c2 =>
          intro u hu
          rw [← List.map_take, List.mem_map] at hu
          obtain ⟨d, _, rfl⟩ := hu
          rfl
        case c3 => unfold maxLen; omega
        case c4 => omega
        intro v' w1 hown hgrow _
        have hrd : w1.ownsRow w.heap.size 56 1 v' (strip ds).length ((strip ds).map dv) := by
          rw [Hs.out]
          rw [strip_take ds, Hs.out, List.map_take]
          exact hown
        have hb1 : Below w.heap.size w w1 := (Below.refl _ _).grown hgrow (Nat.le_refl _) (fun k hk => by cases hk)
        clear hown hgrow
        go_wp2
        go_ret
        exact ⟨v', rfl, hrd, hb1⟩
    · obtain rfl : k = 0 := by omega
      have hs : (strip ds).length = 0 := strip_length_of hk hz (.inl rfl)
      have hs0 : strip ds = [] := List.length_eq_zero_iff.1 hs
      have Hs := hide hs0
      clear hs hs0
      go_wp2_with (at_builtin; refine wpList_append_nothing rfl _ _ rfl oa cap rfl rfl ?_)
      go_ret
      exact ⟨_, rfl, by rw [Hs.out]; exact World.ownsRow_nil _ _ _ _, Below.refl _ _⟩
theorem rtrim_new (oa : Option Addr) (cap : Nat) (ds : List Nat) (w : World) (hl : ds.length ≤ 10000000000000) (hc : ds.length ≤ cap) (ok : OK ds) (hcell : Cells w oa ds) :
    Calls Tryz.prog 68 #[.slice oa ds.length cap] w fun e w' => ∃ v, e = .returned v ∧ Rd w' v (strip ds) ∧ NewAt w.heap.size v ∧ Below w.heap.size w w' :=
  (rtrim_own oa cap ds w hl hc ok hcell).mono fun _ _ ⟨v, h1, h2, h3⟩ => ⟨v, h1, Rd.of_owns (OK_strip ok) h2, NewAt.of_owns h2, h3⟩
theorem Rd.only {w w' : World} {b B : Nat} {v : Value} {ds : List Nat} (h : Rd w v ds) (hn : NewAt B v) (ho : Only b w w') (hb : b < B) : Rd w' v ds := by
  obtain ⟨oa, cap, rfl, hc, hok, hcell⟩ := h
  refine ⟨oa, cap, rfl, hc, hok, hcell.only ho ?_⟩
  intro a ha
  have h1 := hn a _ _ (by rw [ha])
  omega
/-- The number z, canonical, its digits read by w and laid at or behind block B. -/
def ZW (w : World) (B : Nat) (v : Value) (z : Int) : Prop := ∃ s, v = .agg #[.bool (decide (z < 0)), s] ∧ Rd w s (dig z.natAbs) ∧ NewAt B s
theorem ZW.rd {w : World} {B : Nat} {v : Value} {z : Int} (h : ZW w B v z) : ZC w v z := by
  obtain ⟨s, hv, hr, _⟩ := h
  exact ⟨s, hv, hr⟩
theorem ZW.mono {w : World} {B C : Nat} {v : Value} {z : Int} (h : ZW w B v z) (hC : C ≤ B) : ZW w C v z := by
  obtain ⟨s, hv, hr, hn⟩ := h
  exact ⟨s, hv, hr, hn.mono hC⟩
theorem ZW.only {w w' : World} {B b : Nat} {v : Value} {z : Int} (h : ZW w B v z) (ho : Only b w w') (hb : b < B) : ZW w' B v z := by
  obtain ⟨s, hv, hr, hn⟩ := h
  exact ⟨s, hv, hr.only hn ho hb, hn⟩
theorem ZW.open2 {w : World} {B : Nat} {v : Value} {z : Int} (h : ZW w B v z) : ∃ sb oa n cap, v = .agg #[.bool sb, .slice oa n cap] := by
  obtain ⟨s, rfl, ⟨oa, cap, rfl, _⟩, _⟩ := h
  exact ⟨_, oa, _, cap, rfl⟩
theorem rtrim_rn {w : World} {va : Value} {xs : List Nat} (hx : Rd w va xs) (hl : xs.length ≤ 1000000000) :
    Calls Tryz.prog 68 #[va] w fun e w' => ∃ v, e = .returned v ∧ (Rd w' v (dig (val xs)) ∧ NewAt w.heap.size v) ∧ Below w.heap.size w w' := by
  obtain ⟨oa, ca, rfl, hca, okx, hcx⟩ := hx
  refine (rtrim_new oa ca xs w (by omega) hca okx hcx).mono ?_
  rintro e w1 ⟨v, rfl, h1, h2, h3⟩
  exact ⟨v, rfl, ⟨by rw [dig_val okx]; exact h1, h2⟩, h3⟩
set_option maxHeartbeats 1000000 in
set_option maxRecDepth 20000 in
/-- tesselref2.Make. -/
theorem make_any {w : World} {s : Value} {xs : List Nat} (neg : Bool) (z : Int) (hx : Rd w s xs) (hl : xs.length ≤ 1000000000) (hz : (if neg then -(val xs : Int) else (val xs : Int)) = z) :
    Calls Tryz.prog 31 #[.bool neg, s] w fun e w' => ∃ v', e = .returned v' ∧ ZW w' w.heap.size v' z ∧ Below w.heap.size w w' := by
  have hab : z.natAbs = val xs := by rw [← hz]; cases neg <;> simp
  have hsg := sign_of neg (val xs)
  rw [hz] at hsg
  have HS := hide (And.intro hab hsg)
  clear hz hab hsg
  have hd : (dig (val xs)).length = 0 ↔ val xs = 0 := by rw [List.length_eq_zero_iff]; exact dig_eq_nil
  obtain ⟨n, hn⟩ : ∃ n, (dig (val xs)).length = n := ⟨_, rfl⟩
  clear hd
  cases neg
  · go_enter Tryz.func31, Tryz.ntmps31
    have hb := Below.refl w.heap.size w
    have hz := Bk.new w false (.slice none 0 0)
    replace hx := hx.alloc (.cells #[.bool false, (.slice none 0 0)] 26)
    replace hb := hb.alloc hb.size (.cells #[.bool false, (.slice none 0 0)] 26)
    go_wp2_with fail
    refine (rtrim_rn hx (by omega)).mono ?_
    rintro e w_1 ⟨s, rfl, hs, hb_1⟩
    replace hx := hx.below hb_1 (Nat.le_refl _)
    replace hz := hz.below hb_1 (Nat.le_refl _)
    replace hb := hb.trans (hb_1.mono hb.size)
    clear hb_1
    obtain ⟨hs, hnew⟩ := hs
    have hs' := hs
    obtain ⟨oa, cap, rfl, hcap, _⟩ := hs
    rw [hn] at hcap hnew hs' ⊢
    have c9 := hz.facts
    have d := (hz.store false (.slice oa n cap)).facts
    go_wp2
    refine bodyPost_ret (v := .agg #[.bool false, .slice oa n cap]) (by simp [results, Tryz.results31, go_sem, d.1, d.2.1]) rfl ?_
    have hBlt : w.heap.size < (w.alloc (.cells #[.bool false, .slice none 0 0] 26)).heap.size := by simp
    refine ⟨_, rfl, ⟨_, ?_, by rw [HS.out.1]; exact hs'.only hnew (Bk.only _ _ _ _) hBlt, hnew.mono (by omega)⟩, (hb.setCell (Nat.le_refl _) _).setCell (Nat.le_refl _) _⟩
    rw [← HS.out.2]
    rfl
  · go_enter Tryz.func31, Tryz.ntmps31
    have hb := Below.refl w.heap.size w
    have hz := Bk.new w false (.slice none 0 0)
    replace hx := hx.alloc (.cells #[.bool false, (.slice none 0 0)] 26)
    replace hb := hb.alloc hb.size (.cells #[.bool false, (.slice none 0 0)] 26)
    go_wp2_with fail
    refine (rtrim_rn hx (by omega)).mono ?_
    rintro e w_1 ⟨s, rfl, hs, hb_1⟩
    replace hx := hx.below hb_1 (Nat.le_refl _)
    replace hz := hz.below hb_1 (Nat.le_refl _)
    replace hb := hb.trans (hb_1.mono hb.size)
    clear hb_1
    obtain ⟨hs, hnew⟩ := hs
    have hs' := hs
    obtain ⟨oa, cap, rfl, hcap, _⟩ := hs
    rw [hn] at hcap hnew hs' ⊢
    have c9 := hz.facts
    have d := (hz.store (decide (0 < n)) (.slice oa n cap)).facts
    go_wp2
    refine bodyPost_ret (v := .agg #[.bool (decide (0 < n)), .slice oa n cap]) (by simp [results, Tryz.results31, go_sem, d.1, d.2.1]) rfl ?_
    have hBlt : w.heap.size < (w.alloc (.cells #[.bool false, .slice none 0 0] 26)).heap.size := by simp
    refine ⟨_, rfl, ⟨_, ?_, by rw [HS.out.1]; exact hs'.only hnew (Bk.only _ _ _ _) hBlt, hnew.mono (by omega)⟩, (hb.setCell (Nat.le_refl _) _).setCell (Nat.le_refl _) _⟩
    rw [← HS.out.2]
    rw [hn]; rfl
end Go.Proofs.YtlomgfgedkkhkaaGreatDoor
