/- zint: From. -/
import Derived.Test.YtlomgfgedkkhkaaGreatDoorZ4
namespace Go.Proofs.YtlomgfgedkkhkaaGreatDoor
open Go.RowKit Dig
set_option maxHeartbeats 1000000 in
set_option maxRecDepth 20000 in
theorem from_any (n : Int) (w : World) (hlo : -9223372036854775808 ≤ n) (hhi : n ≤ 9223372036854775807) :
    Calls Tryz.prog 62 #[.int .i64 n] w fun e w' => ∃ v', e = .returned v' ∧ ZO w' w.heap.size v' n ∧ Below w.heap.size w w' := by
  have e0 : ∀ lo hi : Nat, val [lo, hi] = lo + 4294967296 * hi := fun lo hi => by simp [val]
  by_cases hn : n < 0
  · obtain ⟨u, hu⟩ : ∃ u : Nat, IntKind.u64.wrap (-IntKind.u64.wrap n) = (u : Int) ∧ n = -(u : Int) := ⟨n.natAbs, by rw [IntKind.wrap_u64, IntKind.wrap_u64]; omega, by omega⟩
    have hub : u < 18446744073709551616 := by omega
    have hlo' : (u : Int) % 4294967296 = ((u % 4294967296 : Nat) : Int) := by omega
    have hhi' : (u : Int) / 4294967296 = ((u / 4294967296 : Nat) : Int) := by omega
    have hu1 := hu.1
    have HU := hide (show -((val [u % 4294967296, u / 4294967296] : Nat) : Int) = n by rw [e0]; omega)
    have hn0 : n < 0 := hn
    obtain ⟨lo, hlo⟩ : ∃ lo, u % 4294967296 = lo := ⟨_, rfl⟩
    obtain ⟨hi, hhi⟩ : ∃ hi, u / 4294967296 = hi := ⟨_, rfl⟩
    rw [hlo] at hlo' HU
    rw [hhi] at hhi' HU
    have hlob : lo < 4294967296 := by omega
    have hhib : hi < 4294967296 := by omega
    clear hu hlo hhi
    go_enter Tryz.func62, Tryz.ntmps62
    have hb := Below.refl w.heap.size w
    have hz := Bk.new w false (.slice none 0 0)
    replace hb := hb.alloc hb.size (.cells #[.bool false, (.slice none 0 0)] 26)
    have a1 := lit2 (w.alloc (.cells #[.bool false, (.slice none 0 0)] 26)) lo hi (by first | decide | omega) (by first | decide | omega)
    simp only [Bk.size_alloc] at a1
    replace hz := hz.alloc (.cells #[.int .u32 (lo : Int), .int .u32 (hi : Int)] 56)
    replace hb := hb.alloc hb.size (.cells #[.int .u32 (lo : Int), .int .u32 (hi : Int)] 56)
    go_wp2_with fail
    refine (norm_rd a1 (by simp)).mono ?_
    rintro e w_1 ⟨s, rfl, hs, hb_1⟩
    replace hz := hz.below hb_1 (Nat.le_refl _)
    replace a1 := a1.below hb_1 (Nat.le_refl _)
    replace hb := hb.trans (hb_1.mono hb.size)
    clear hb_1
    go_wp2_with fail
    refine (signed_z (neg := true) n hs (by rw [if_pos rfl]; exact HU.out)).mono ?_
    rintro e w_2 ⟨v', rfl, hv, hb_2⟩
    replace hz := hz.below hb_2 (Nat.le_refl _)
    replace a1 := a1.below hb_2 (Nat.le_refl _)
    replace hs := hs.below hb_2 (Nat.le_refl _)
    replace hb := hb.trans (hb_2.mono hb.size)
    clear hb_2
    obtain ⟨sb, o5, n5, c5, rfl⟩ := hv.open2
    have c9 := hz.facts
    have d := (hz.store sb (.slice o5 n5 c5)).facts
    go_wp2
    refine bodyPost_ret (v := .agg #[.bool sb, .slice o5 n5 c5]) (by simp [results, Tryz.results62, go_sem, d.1, d.2.1]) rfl ?_
    exact ⟨_, rfl, (hv.only (Bk.only _ _ _ _) (by first | assumption | (simp; done) | omega | (simp; omega))).mono (by first | assumption | (simp; omega) | omega), (hb.setCell (by simp <;> omega) _).setCell (by simp <;> omega) _⟩
  · obtain ⟨u, hu⟩ : ∃ u : Nat, IntKind.u64.wrap n = (u : Int) ∧ n = (u : Int) := ⟨n.natAbs, by rw [IntKind.wrap_u64]; omega, by omega⟩
    have hub : u < 18446744073709551616 := by omega
    have hlo' : (u : Int) % 4294967296 = ((u % 4294967296 : Nat) : Int) := by omega
    have hhi' : (u : Int) / 4294967296 = ((u / 4294967296 : Nat) : Int) := by omega
    have hu1 := hu.1
    have HU := hide (show (if false = true then -((val [u % 4294967296, u / 4294967296] : Nat) : Int) else ((val [u % 4294967296, u / 4294967296] : Nat) : Int)) = n by rw [if_neg (by simp), e0]; omega)
    have hn0 : (n < 0) = False := eq_false hn
    have hn1 : decide (n < 0) = false := decide_eq_false hn
    obtain ⟨lo, hlo⟩ : ∃ lo, u % 4294967296 = lo := ⟨_, rfl⟩
    obtain ⟨hi, hhi⟩ : ∃ hi, u / 4294967296 = hi := ⟨_, rfl⟩
    rw [hlo] at hlo' HU
    rw [hhi] at hhi' HU
    have hlob : lo < 4294967296 := by omega
    have hhib : hi < 4294967296 := by omega
    clear hu hlo hhi
    go_enter Tryz.func62, Tryz.ntmps62
    have hb := Below.refl w.heap.size w
    have hz := Bk.new w false (.slice none 0 0)
    replace hb := hb.alloc hb.size (.cells #[.bool false, (.slice none 0 0)] 26)
    have a1 := lit2 (w.alloc (.cells #[.bool false, (.slice none 0 0)] 26)) lo hi (by first | decide | omega) (by first | decide | omega)
    simp only [Bk.size_alloc] at a1
    replace hz := hz.alloc (.cells #[.int .u32 (lo : Int), .int .u32 (hi : Int)] 56)
    replace hb := hb.alloc hb.size (.cells #[.int .u32 (lo : Int), .int .u32 (hi : Int)] 56)
    go_wp2_with fail
    refine (norm_rd a1 (by simp)).mono ?_
    rintro e w_1 ⟨s, rfl, hs, hb_1⟩
    replace hz := hz.below hb_1 (Nat.le_refl _)
    replace a1 := a1.below hb_1 (Nat.le_refl _)
    replace hb := hb.trans (hb_1.mono hb.size)
    clear hb_1
    go_wp2_with fail
    refine (signed_z n hs HU.out).mono ?_
    rintro e w_2 ⟨v', rfl, hv, hb_2⟩
    replace hz := hz.below hb_2 (Nat.le_refl _)
    replace a1 := a1.below hb_2 (Nat.le_refl _)
    replace hs := hs.below hb_2 (Nat.le_refl _)
    replace hb := hb.trans (hb_2.mono hb.size)
    clear hb_2
    obtain ⟨sb, o5, n5, c5, rfl⟩ := hv.open2
    have c9 := hz.facts
    have d := (hz.store sb (.slice o5 n5 c5)).facts
    go_wp2
    refine bodyPost_ret (v := .agg #[.bool sb, .slice o5 n5 c5]) (by simp [results, Tryz.results62, go_sem, d.1, d.2.1]) rfl ?_
    exact ⟨_, rfl, (hv.only (Bk.only _ _ _ _) (by first | assumption | (simp; done) | omega | (simp; omega))).mono (by first | assumption | (simp; omega) | omega), (hb.setCell (by simp <;> omega) _).setCell (by simp <;> omega) _⟩
/-- A slice of memory that is not older than B. -/
def NewAt (B : Nat) (v : Value) : Prop := ∀ a n c, v = .slice (some a) n c → B ≤ a.block
theorem NewAt.mono {B C : Nat} {v : Value} (h : NewAt B v) (k : C ≤ B) : NewAt C v := fun a n c e => Nat.le_trans k (h a n c e)
theorem NewAt.of_owns {w : World} {B s n : Nat} {t : TypeId} {v : Value} {xs : List Value} (h : w.ownsRow B t s v n xs) : NewAt B v := by
  intro a m c e
  rcases h.2 with ⟨h2, _⟩ | ⟨g, cap, cur, hv, hg, _⟩
  · rw [h2] at e; cases e
  · rw [hv] at e; cases e; exact hg
set_option maxHeartbeats 800000 in
set_option maxRecDepth 20000 in
/-- The reference's Trim. -/
theorem rtrim_own (oa : Option Addr) (cap : Nat) (ds : List Nat) (w : World) (hl : ds.length ≤ 10000000000000) (hc : ds.length ≤ cap) (_ok : OK ds) (hcell : Cells w oa ds) :
    Calls Tryz.prog 68 #[.slice oa ds.length cap] w fun e w' => ∃ v, e = .returned v ∧ w'.ownsRow w.heap.size 56 1 v (strip ds).length ((strip ds).map dv) ∧ Below w.heap.size w w' := by
  obtain ⟨i0, hi, hz0, hz1, hz2⟩ := info_parts info32
  have hst := hcell.strip
  have hsl := strip_length_le ds
  go_enter Tryz.func68, Tryz.ntmps68
  go_wp2_with fail
  go_loop [3] (fun n => ∃ k : Nat, k ≤ ds.length ∧ n = .int .i64 k ∧ ∀ i, k ≤ i → ds[i]?.getD 0 = 0) (fun n => (intOf n).toNat)
  case atStart => exact ⟨ds.length, Nat.le_refl _, rfl, fun i hi => by simp [List.getElem?_eq_none hi]⟩
  case round =>
    obtain ⟨k, hk, rfl, hz⟩ := hrel
    by_cases hk0 : 0 < k
    · obtain ⟨j, rfl⟩ : ∃ j, k = j + 1 := ⟨k - 1, by omega⟩
      obtain ⟨b, off, x, ho, gx, Hx⟩ := hcell.get (i := j) (by omega)
      subst ho
      by_cases hd : x = 0
      · subst hd
        have gx' : w.cell? ⟨b, off + j, none⟩ = some (.int .u32 0) := gx
        go_wp2
        go_round
        case rel => exact ⟨j, by omega, by go_num, fun i hi => by rcases Nat.eq_or_lt_of_le hi with h | h; (· rw [← h]; exact Hx.out); (· exact hz i h)⟩
        case measure => simp [intOf]
      · have hd' : ¬ ((x : Nat) : Int) = 0 := by omega
        have hs : (strip ds).length = j + 1 := strip_length_of hk hz (.inr (by have := Hx.out; simp; omega))
        have Hs := hide hs
        have hcs := hst
        rw [strip_take ds, hs] at hcs
        obtain ⟨b', off', ho', hcs'⟩ := hcs.resolve_left (fun e => by have := congrArg List.length e; rw [List.length_take, List.length_nil, Nat.min_eq_left hk] at this; omega)
        cases ho'
        clear hs
        go_wp2_with (at_builtin; refine wpList_append_own _ rfl _ _ 24 rfl w.heap.size 56 i0 (.int .u32 0) 1 4 Tryz.underlying24 hi hz0 hz1 hz2 rfl (by decide) _ _ _ rfl (World.ownsRow_nil _ _ _ _) ⟨b, off, none⟩ (j + 1) cap ((ds.take (j + 1)).map dv) rfl (by rw [List.length_map, List.length_take, Nat.min_eq_left hk, Nat.mul_one]) ?c1 ?c2 ?c3 ?c4 (Nat.le_refl _) ?_)
        case c1 =>
          intro i u hu
          rw [← List.map_take, List.getElem?_map, Option.map_eq_some_iff] at hu
          obtain ⟨d, hd, rfl⟩ := hu
          have hil : i < (ds.take (j + 1)).length := by
            rcases Nat.lt_or_ge i (ds.take (j + 1)).length with h | h
            · exact h
            · rw [List.getElem?_eq_none h] at hd; cases hd
          rw [hcs' i hil, hd]; rfl
        case c2 =>
          intro u hu
          rw [← List.map_take, List.mem_map] at hu
          obtain ⟨d, _, rfl⟩ := hu
          rfl
        case c3 => unfold maxLen; omega
        case c4 => omega
        intro v' w1 hown hgrow _
        have hrd : w1.ownsRow w.heap.size 56 1 v' (strip ds).length ((strip ds).map dv) := by
          rw [Hs.out]
          rw [strip_take ds, Hs.out, List.map_take]
          exact hown
        have hb1 : Below w.heap.size w w1 := (Below.refl _ _).grown hgrow (Nat.le_refl _) (fun k hk => by cases hk)
        clear hown hgrow
        go_wp2
        go_ret
        exact ⟨v', rfl, hrd, hb1⟩
    · obtain rfl : k = 0 := by omega
      have hs : (strip ds).length = 0 := strip_length_of hk hz (.inl rfl)
      have hs0 : strip ds = [] := List.length_eq_zero_iff.1 hs
      have Hs := hide hs0
      clear hs hs0
      go_wp2_with (at_builtin; refine wpList_append_nothing rfl _ _ rfl oa cap rfl rfl ?_)
      go_ret
      exact ⟨_, rfl, by rw [Hs.out]; exact World.ownsRow_nil _ _ _ _, Below.refl _ _⟩
theorem rtrim_new (oa : Option Addr) (cap : Nat) (ds : List Nat) (w : World) (hl : ds.length ≤ 10000000000000) (hc : ds.length ≤ cap) (ok : OK ds) (hcell : Cells w oa ds) :
    Calls Tryz.prog 68 #[.slice oa ds.length cap] w fun e w' => ∃ v, e = .returned v ∧ Rd w' v (strip ds) ∧ NewAt w.heap.size v ∧ Below w.heap.size w w' :=
  (rtrim_own oa cap ds w hl hc ok hcell).mono fun _ _ ⟨v, h1, h2, h3⟩ => ⟨v, h1, Rd.of_owns (OK_strip ok) h2, NewAt.of_owns h2, h3⟩
theorem Rd.only {w w' : World} {b B : Nat} {v : Value} {ds : List Nat} (h : Rd w v ds) (hn : NewAt B v) (ho : Only b w w') (hb : b < B) : Rd w' v ds := by
  obtain ⟨oa, cap, rfl, hc, hok, hcell⟩ := h
  refine ⟨oa, cap, rfl, hc, hok, hcell.only ho ?_⟩
  intro a ha
  have h1 := hn a _ _ (by rw [ha])
  omega
/-- The number z, canonical, its digits read by w and laid at or behind block B. -/
def ZW (w : World) (B : Nat) (v : Value) (z : Int) : Prop := ∃ s, v = .agg #[.bool (decide (z < 0)), s] ∧ Rd w s (dig z.natAbs) ∧ NewAt B s
theorem ZW.rd {w : World} {B : Nat} {v : Value} {z : Int} (h : ZW w B v z) : ZC w v z := by
  obtain ⟨s, hv, hr, _⟩ := h
  exact ⟨s, hv, hr⟩
theorem ZW.mono {w : World} {B C : Nat} {v : Value} {z : Int} (h : ZW w B v z) (hC : C ≤ B) : ZW w C v z := by
  obtain ⟨s, hv, hr, hn⟩ := h
  exact ⟨s, hv, hr, hn.mono hC⟩
theorem ZW.only {w w' : World} {B b : Nat} {v : Value} {z : Int} (h : ZW w B v z) (ho : Only b w w') (hb : b < B) : ZW w' B v z := by
  obtain ⟨s, hv, hr, hn⟩ := h
  exact ⟨s, hv, hr.only hn ho hb, hn⟩
theorem ZW.open2 {w : World} {B : Nat} {v : Value} {z : Int} (h : ZW w B v z) : ∃ sb oa n cap, v = .agg #[.bool sb, .slice oa n cap] := by
  obtain ⟨s, rfl, ⟨oa, cap, rfl, _⟩, _⟩ := h
  exact ⟨_, oa, _, cap, rfl⟩
theorem rtrim_rn {w : World} {va : Value} {xs : List Nat} (hx : Rd w va xs) (hl : xs.length ≤ 1000000000) :
    Calls Tryz.prog 68 #[va] w fun e w' => ∃ v, e = .returned v ∧ (Rd w' v (dig (val xs)) ∧ NewAt w.heap.size v) ∧ Below w.heap.size w w' := by
  obtain ⟨oa, ca, rfl, hca, okx, hcx⟩ := hx
  refine (rtrim_new oa ca xs w (by omega) hca okx hcx).mono ?_
  rintro e w1 ⟨v, rfl, h1, h2, h3⟩
  exact ⟨v, rfl, ⟨by rw [dig_val okx]; exact h1, h2⟩, h3⟩
set_option maxHeartbeats 1000000 in
set_option maxRecDepth 20000 in
/-- tesselref2.Make. -/
theorem make_any {w : World} {s : Value} {xs : List Nat} (neg : Bool) (z : Int) (hx : Rd w s xs) (hl : xs.length ≤ 1000000000) (hz : (if neg then -(val xs : Int) else (val xs : Int)) = z) :
    Calls Tryz.prog 31 #[.bool neg, s] w fun e w' => ∃ v', e = .returned v' ∧ ZW w' w.heap.size v' z ∧ Below w.heap.size w w' := by
  have hab : z.natAbs = val xs := by rw [← hz]; cases neg <;> simp
  have hsg := sign_of neg (val xs)
  rw [hz] at hsg
  have HS := hide (And.intro hab hsg)
  clear hz hab hsg
  have hd : (dig (val xs)).length = 0 ↔ val xs = 0 := by rw [List.length_eq_zero_iff]; exact dig_eq_nil
  obtain ⟨n, hn⟩ : ∃ n, (dig (val xs)).length = n := ⟨_, rfl⟩
  clear hd
  cases neg
  · go_enter Tryz.func31, Tryz.ntmps31
    have hb := Below.refl w.heap.size w
    have hz := Bk.new w false (.slice none 0 0)
    replace hx := hx.alloc (.cells #[.bool false, (.slice none 0 0)] 26)
    replace hb := hb.alloc hb.size (.cells #[.bool false, (.slice none 0 0)] 26)
    go_wp2_with fail
    refine (rtrim_rn hx (by omega)).mono ?_
    rintro e w_1 ⟨s, rfl, hs, hb_1⟩
    replace hx := hx.below hb_1 (Nat.le_refl _)
    replace hz := hz.below hb_1 (Nat.le_refl _)
    replace hb := hb.trans (hb_1.mono hb.size)
    clear hb_1
    obtain ⟨hs, hnew⟩ := hs
    have hs' := hs
    obtain ⟨oa, cap, rfl, hcap, _⟩ := hs
    rw [hn] at hcap hnew hs' ⊢
    have c9 := hz.facts
    have d := (hz.store false (.slice oa n cap)).facts
    go_wp2
    refine bodyPost_ret (v := .agg #[.bool false, .slice oa n cap]) (by simp [results, Tryz.results31, go_sem, d.1, d.2.1]) rfl ?_
    have hBlt : w.heap.size < (w.alloc (.cells #[.bool false, .slice none 0 0] 26)).heap.size := by simp
    refine ⟨_, rfl, ⟨_, ?_, by rw [HS.out.1]; exact hs'.only hnew (Bk.only _ _ _ _) hBlt, hnew.mono (by omega)⟩, (hb.setCell (Nat.le_refl _) _).setCell (Nat.le_refl _) _⟩
    rw [← HS.out.2]
    rfl
  · go_enter Tryz.func31, Tryz.ntmps31
    have hb := Below.refl w.heap.size w
    have hz := Bk.new w false (.slice none 0 0)
    replace hx := hx.alloc (.cells #[.bool false, (.slice none 0 0)] 26)
    replace hb := hb.alloc hb.size (.cells #[.bool false, (.slice none 0 0)] 26)
    go_wp2_with fail
    refine (rtrim_rn hx (by omega)).mono ?_
    rintro e w_1 ⟨s, rfl, hs, hb_1⟩
    replace hx := hx.below hb_1 (Nat.le_refl _)
    replace hz := hz.below hb_1 (Nat.le_refl _)
    replace hb := hb.trans (hb_1.mono hb.size)
    clear hb_1
    obtain ⟨hs, hnew⟩ := hs
    have hs' := hs
    obtain ⟨oa, cap, rfl, hcap, _⟩ := hs
    rw [hn] at hcap hnew hs' ⊢
    have c9 := hz.facts
    have d := (hz.store (decide (0 < n)) (.slice oa n cap)).facts
    go_wp2
    refine bodyPost_ret (v := .agg #[.bool (decide (0 < n)), .slice oa n cap]) (by simp [results, Tryz.results31, go_sem, d.1, d.2.1]) rfl ?_
    have hBlt : w.heap.size < (w.alloc (.cells #[.bool false, .slice none 0 0] 26)).heap.size := by simp
    refine ⟨_, rfl, ⟨_, ?_, by rw [HS.out.1]; exact hs'.only hnew (Bk.only _ _ _ _) hBlt, hnew.mono (by omega)⟩, (hb.setCell (Nat.le_refl _) _).setCell (Nat.le_refl _) _⟩
    rw [← HS.out.2]
    rw [hn]; rfl
set_option maxHeartbeats 1000000 in
set_option maxRecDepth 20000 in
theorem rnorm_any {w : World} {v : Value} {z : Int} {l : Nat} (h : ZN w v z l) (hl : l ≤ 1000000000) :
    Calls Tryz.prog 26 #[v] w fun e w' => ∃ v', e = .returned v' ∧ ZW w' w.heap.size v' z ∧ Below w.heap.size w w' := by
  obtain ⟨neg, oa, cap, xs, rfl, hcap, hr, hz', hxl⟩ := h.open_
  have HZZ := hide (show (if neg = true then -(val xs : Int) else (val xs : Int)) = z by exact hz')
  clear h hz'
  go_enter Tryz.func26, Tryz.ntmps26
  have hb := Below.refl w.heap.size w
  have hp := Bk.new w neg (.slice oa xs.length cap)
  replace hr := hr.alloc (.cells #[.bool neg, (.slice oa xs.length cap)] 26)
  replace hb := hb.alloc hb.size (.cells #[.bool neg, (.slice oa xs.length cap)] 26)
  have hz := Bk.new (w.alloc (.cells #[.bool neg, (.slice oa xs.length cap)] 26)) false (.slice none 0 0)
  simp only [Bk.size_alloc] at hz
  replace hr := hr.alloc (.cells #[.bool false, (.slice none 0 0)] 26)
  replace hp := hp.alloc (.cells #[.bool false, (.slice none 0 0)] 26)
  replace hb := hb.alloc hb.size (.cells #[.bool false, (.slice none 0 0)] 26)
  have c0 := hp.facts
  go_wp2_with fail
  refine (make_any neg z hr (by omega) HZZ.out).mono ?_
  rintro e w_1 ⟨v', rfl, hv, hb_1⟩
  replace hr := hr.below hb_1 (Nat.le_refl _)
  replace hp := hp.below hb_1 (Nat.le_refl _)
  replace hz := hz.below hb_1 (Nat.le_refl _)
  replace hb := hb.trans (hb_1.mono hb.size)
  clear hb_1
  obtain ⟨sb, o5, n5, c5, rfl⟩ := hv.open2
  have c9 := hz.facts
  have d := (hz.store sb (.slice o5 n5 c5)).facts
  go_wp2
  refine bodyPost_ret (v := .agg #[.bool sb, .slice o5 n5 c5]) (by simp [results, Tryz.results26, go_sem, d.1, d.2.1]) rfl ?_
  exact ⟨_, rfl, (hv.only (Bk.only _ _ _ _) (by first | assumption | (simp; done) | omega | (simp; omega))).mono (by first | assumption | (simp; omega) | omega), (hb.setCell (by simp <;> omega) _).setCell (by simp <;> omega) _⟩
theorem zmul_dig_length (xs ys : List Nat) (okx : OK xs) (oky : OK ys) : (dig (val xs * val ys)).length ≤ xs.length + ys.length := by
  apply dig_length_le
  rw [pw_add]
  exact Nat.mul_lt_mul'' (val_lt okx) (val_lt oky)
theorem ZN.len {w : World} {v : Value} {z : Int} {l : Nat} (h : ZN w v z l) : (dig z.natAbs).length ≤ l := by
  obtain ⟨neg, s, xs, rfl, hr, hz, hl⟩ := h
  rw [← hz, zv_abs]
  exact Nat.le_trans (dig_length_le (val_lt hr.ok)) hl
theorem zlen_add {x y : Int} {l m : Nat} (hx : (dig x.natAbs).length ≤ l) (hy : (dig y.natAbs).length ≤ m) : (dig (x + y).natAbs).length ≤ l + m + 1 := by
  refine dig_length_le ?_
  have h1 := Nat.lt_of_lt_of_le (lt_pw_dig x.natAbs) (pw_mono (Nat.le_trans hx (Nat.le_add_right l m)))
  have h2 := Nat.lt_of_lt_of_le (lt_pw_dig y.natAbs) (pw_mono (Nat.le_trans hy (Nat.le_add_left m l)))
  have h3 : (x + y).natAbs ≤ x.natAbs + y.natAbs := Int.natAbs_add_le x y
  simp only [pw]; omega
theorem zlen_sub {x y : Int} {l m : Nat} (hx : (dig x.natAbs).length ≤ l) (hy : (dig y.natAbs).length ≤ m) : (dig (x - y).natAbs).length ≤ l + m + 1 := by
  rw [Int.sub_eq_add_neg]
  exact zlen_add hx (by rw [Int.natAbs_neg]; exact hy)
theorem same_rz {w : World} {va vb : Value} {ds : List Nat} (hx : Rd w va ds) (hy : Rd w vb ds) (hl : ds.length ≤ 1000000000) :
    Calls Tryz.prog 27 #[va, vb] w fun e w' => e = .returned (.bool true) ∧ Below w.heap.size w w' := by
  obtain ⟨oa, ca, rfl, hca, okx, hcx⟩ := hx
  obtain ⟨ob, cb, rfl, hcb, oky, hcy⟩ := hy
  refine (same_any oa ob ca cb ds ds w (by omega) (by omega) hcx hcy).mono ?_
  rintro e w1 ⟨rfl, h⟩
  exact ⟨by simp, h⟩
set_option maxHeartbeats 1000000 in
set_option maxRecDepth 20000 in
/-- tesselref2.Same of two canonical forms of one number. -/
theorem rsame_zz {w : World} {va vb : Value} {z : Int} {l : Nat} (ha : ZC w va z) (hw : ZN w vb z l) (hl : l ≤ 1000000000) :
    Calls Tryz.prog 6 #[va, vb] w fun e w' => e = .returned (.bool true) ∧ Below w.heap.size w w' := by
  have hlen := Nat.le_trans hw.len hl
  obtain ⟨sa, rfl, hx⟩ := ha
  have hx' := hx
  obtain ⟨oa, ca, rfl, _, _⟩ := hx'
  have hwn := hw
  obtain ⟨nb, ob, cb, ys, rfl, _, _, _, _⟩ := hw.open_
  obtain ⟨sb, hsb⟩ : ∃ sb, decide (z < 0) = sb := ⟨_, rfl⟩
  obtain ⟨n, hn⟩ : ∃ n, (dig z.natAbs).length = n := ⟨_, rfl⟩
  rw [hn] at hx hlen ⊢
  rw [hsb]
  have HSB := hide (And.intro hsb hn)
  have HLEN := hide hlen
  clear hsb hn hlen hw
  have hbq : (sb == sb) = true := by simp
  go_enter Tryz.func6, Tryz.ntmps6
  have hb := Below.refl w.heap.size w
  have hp := Bk.new w sb (.slice oa n ca)
  replace hx := hx.alloc (.cells #[.bool sb, (.slice oa n ca)] 26)
  replace hwn := hwn.alloc (.cells #[.bool sb, (.slice oa n ca)] 26)
  replace hb := hb.alloc hb.size (.cells #[.bool sb, (.slice oa n ca)] 26)
  have hq := Bk.new (w.alloc (.cells #[.bool sb, (.slice oa n ca)] 26)) nb (.slice ob ys.length cb)
  simp only [Bk.size_alloc] at hq
  replace hx := hx.alloc (.cells #[.bool nb, (.slice ob ys.length cb)] 26)
  replace hwn := hwn.alloc (.cells #[.bool nb, (.slice ob ys.length cb)] 26)
  replace hp := hp.alloc (.cells #[.bool nb, (.slice ob ys.length cb)] 26)
  replace hb := hb.alloc hb.size (.cells #[.bool nb, (.slice ob ys.length cb)] 26)
  go_wp2_with fail
  refine (rnorm_any hwn hl).mono ?_
  rintro e w_1 ⟨v, rfl, hv, hb_1⟩
  replace hx := hx.below hb_1 (Nat.le_refl _)
  replace hwn := hwn.below hb_1 (Nat.le_refl _)
  replace hp := hp.below hb_1 (Nat.le_refl _)
  replace hq := hq.below hb_1 (Nat.le_refl _)
  replace hb := hb.trans (hb_1.mono hb.size)
  clear hb_1
  obtain ⟨sv, rfl, hy, _⟩ := hv
  have hy' := hy
  obtain ⟨o5, c5, rfl, _, _⟩ := hy'
  rw [HSB.out.2] at hy ⊢
  rw [HSB.out.1]
  have hn' := (Bk.new w_1 sb (.slice o5 n c5)).facts
  replace hx := hx.alloc (.cells #[.bool sb, .slice o5 n c5] 26)
  replace hwn := hwn.alloc (.cells #[.bool sb, .slice o5 n c5] 26)
  replace hp := hp.alloc (.cells #[.bool sb, .slice o5 n c5] 26)
  replace hq := hq.alloc (.cells #[.bool sb, .slice o5 n c5] 26)
  replace hy := hy.alloc (.cells #[.bool sb, .slice o5 n c5] 26)
  replace hb := hb.alloc hb.size (.cells #[.bool sb, .slice o5 n c5] 26)
  have c0 := hp.facts
  go_wp2_with fail
  refine (same_rz hx hy (by rw [HSB.out.2]; exact HLEN.out)).mono ?_
  rintro e w_2 ⟨rfl, hb_2⟩
  replace hx := hx.below hb_2 (Nat.le_refl _)
  replace hwn := hwn.below hb_2 (Nat.le_refl _)
  replace hp := hp.below hb_2 (Nat.le_refl _)
  replace hq := hq.below hb_2 (Nat.le_refl _)
  replace hy := hy.below hb_2 (Nat.le_refl _)
  replace hb := hb.trans (hb_2.mono hb.size)
  clear hb_2
  go_wp2
  go_ret
  exact ⟨rfl, hb⟩
set_option maxHeartbeats 1000000 in
set_option maxRecDepth 20000 in
/-- tesselref2.I. -/
theorem ri_any (n : Int) (w : World) (hlo : -9223372036854775808 ≤ n) (hhi : n ≤ 9223372036854775807) :
    Calls Tryz.prog 9 #[.int .i64 n] w fun e w' => ∃ v', e = .returned v' ∧ ZW w' w.heap.size v' n ∧ Below w.heap.size w w' := by
  have e0 : ∀ lo hi : Nat, val [lo, hi] = lo + 4294967296 * hi := fun lo hi => by simp [val]
  by_cases hn : n < 0
  · obtain ⟨u, hu⟩ : ∃ u : Nat, -(n + 1) + 1 = (u : Int) ∧ n = -(u : Int) := ⟨n.natAbs, by omega, by omega⟩
    have hub : u < 18446744073709551616 := by omega
    have hlo' : (u : Int) % 4294967296 = ((u % 4294967296 : Nat) : Int) := by omega
    have hhi' : (u : Int) / 4294967296 = ((u / 4294967296 : Nat) : Int) := by omega
    have hu1 := hu.1
    have HU := hide (show -((val [u % 4294967296, u / 4294967296] : Nat) : Int) = n by rw [e0]; omega)
    have hn0 : n < 0 := hn
    obtain ⟨lo, hlo⟩ : ∃ lo, u % 4294967296 = lo := ⟨_, rfl⟩
    obtain ⟨hi, hhi⟩ : ∃ hi, u / 4294967296 = hi := ⟨_, rfl⟩
    rw [hlo] at hlo' HU
    rw [hhi] at hhi' HU
    have hlob : lo < 4294967296 := by omega
    have hhib : hi < 4294967296 := by omega
    clear hu hlo hhi
    go_enter Tryz.func9, Tryz.ntmps9
    have hb := Below.refl w.heap.size w
    have hz := Bk.new w false (.slice none 0 0)
    replace hb := hb.alloc hb.size (.cells #[.bool false, (.slice none 0 0)] 26)
    have a1 := lit2 (w.alloc (.cells #[.bool false, (.slice none 0 0)] 26)) lo hi (by first | decide | omega) (by first | decide | omega)
    simp only [Bk.size_alloc] at a1
    replace hz := hz.alloc (.cells #[.int .u32 (lo : Int), .int .u32 (hi : Int)] 56)
    replace hb := hb.alloc hb.size (.cells #[.int .u32 (lo : Int), .int .u32 (hi : Int)] 56)
    go_wp2_with fail
    refine (make_any true n a1 (by simp) (by rw [if_pos rfl]; exact HU.out)).mono ?_
    rintro e w_1 ⟨v', rfl, hv, hb_1⟩
    replace hz := hz.below hb_1 (Nat.le_refl _)
    replace a1 := a1.below hb_1 (Nat.le_refl _)
    replace hb := hb.trans (hb_1.mono hb.size)
    clear hb_1
    obtain ⟨sb, o5, n5, c5, rfl⟩ := hv.open2
    have c9 := hz.facts
    have d := (hz.store sb (.slice o5 n5 c5)).facts
    go_wp2
    refine bodyPost_ret (v := .agg #[.bool sb, .slice o5 n5 c5]) (by simp [results, Tryz.results9, go_sem, d.1, d.2.1]) rfl ?_
    exact ⟨_, rfl, (hv.only (Bk.only _ _ _ _) (by first | assumption | (simp; done) | omega | (simp; omega))).mono (by first | assumption | (simp; omega) | omega), (hb.setCell (by simp <;> omega) _).setCell (by simp <;> omega) _⟩
  · obtain ⟨u, hu⟩ : ∃ u : Nat, IntKind.u64.wrap n = (u : Int) ∧ n = (u : Int) := ⟨n.natAbs, by rw [IntKind.wrap_u64]; omega, by omega⟩
    have hub : u < 18446744073709551616 := by omega
    have hlo' : (u : Int) % 4294967296 = ((u % 4294967296 : Nat) : Int) := by omega
    have hhi' : (u : Int) / 4294967296 = ((u / 4294967296 : Nat) : Int) := by omega
    have hu1 := hu.1
    have HU := hide (show ((val [u % 4294967296, u / 4294967296] : Nat) : Int) = n by rw [e0]; omega)
    have hn0 : (n < 0) = False := eq_false hn
    obtain ⟨lo, hlo⟩ : ∃ lo, u % 4294967296 = lo := ⟨_, rfl⟩
    obtain ⟨hi, hhi⟩ : ∃ hi, u / 4294967296 = hi := ⟨_, rfl⟩
    rw [hlo] at hlo' HU
    rw [hhi] at hhi' HU
    have hlob : lo < 4294967296 := by omega
    have hhib : hi < 4294967296 := by omega
    clear hu hlo hhi
    go_enter Tryz.func9, Tryz.ntmps9
    have hb := Below.refl w.heap.size w
    have hz := Bk.new w false (.slice none 0 0)
    replace hb := hb.alloc hb.size (.cells #[.bool false, (.slice none 0 0)] 26)
    have a1 := lit2 (w.alloc (.cells #[.bool false, (.slice none 0 0)] 26)) lo hi (by first | decide | omega) (by first | decide | omega)
    simp only [Bk.size_alloc] at a1
    replace hz := hz.alloc (.cells #[.int .u32 (lo : Int), .int .u32 (hi : Int)] 56)
    replace hb := hb.alloc hb.size (.cells #[.int .u32 (lo : Int), .int .u32 (hi : Int)] 56)
    go_wp2_with fail
    refine (make_any false n a1 (by simp) (by rw [if_neg (by simp)]; exact HU.out)).mono ?_
    rintro e w_1 ⟨v', rfl, hv, hb_1⟩
    replace hz := hz.below hb_1 (Nat.le_refl _)
    replace a1 := a1.below hb_1 (Nat.le_refl _)
    replace hb := hb.trans (hb_1.mono hb.size)
    clear hb_1
    obtain ⟨sb, o5, n5, c5, rfl⟩ := hv.open2
    have c9 := hz.facts
    have d := (hz.store sb (.slice o5 n5 c5)).facts
    go_wp2
    refine bodyPost_ret (v := .agg #[.bool sb, .slice o5 n5 c5]) (by simp [results, Tryz.results9, go_sem, d.1, d.2.1]) rfl ?_
    exact ⟨_, rfl, (hv.only (Bk.only _ _ _ _) (by first | assumption | (simp; done) | omega | (simp; omega))).mono (by first | assumption | (simp; omega) | omega), (hb.setCell (by simp <;> omega) _).setCell (by simp <;> omega) _⟩
theorem zlen_i (n : Int) (hlo : -9223372036854775808 ≤ n) (hhi : n ≤ 9223372036854775807) : (dig n.natAbs).length ≤ 2 :=
  dig_length_le (show n.natAbs < pw 2 from Nat.lt_of_lt_of_le (show n.natAbs < 18446744073709551616 by omega) (by decide))
set_option maxHeartbeats 1000000 in
set_option maxRecDepth 20000 in
/-- zint.Text of a number below 0. -/
theorem ztext_neg {w : World} {v : Value} {z : Int} {l : Nat} (h : ZN w v z l) (hl : l ≤ 1000000000) (hz0 : z < 0) (hsl : (Lib.decDigits z.natAbs).length ≤ 1000000000000000) (htab : Lib.TabIs Tryz.prog w p10 .u64 Lib.pow10Tab) :
    Calls Tryz.prog 45 #[v] w fun e w' => e = .returned (.string ⟨((45 : UInt8) :: Lib.decDigits z.natAbs).toArray⟩) ∧ Below w.heap.size w w' := by
  have htabs := Lib.tabBelow_of_tabIs htab
  have hzn := h
  obtain ⟨neg, oa, cap, xs, rfl, hcap, hr, hz, hxl⟩ := h.open_
  have hv : val xs = z.natAbs := by rw [← hz, zv_abs]
  have hsg : z.sign = -1 := Int.sign_eq_neg_one_of_neg hz0
  have HV := hide (And.intro hv hsg)
  obtain ⟨S, hS⟩ : ∃ S, Lib.decDigits z.natAbs = S := ⟨_, rfl⟩
  have HS := hide hS
  rw [hS] at hsl ⊢
  have hno : ¬ 9223372036854775807 < 1 + S.length := by omega
  clear hz hv h hz0 hS hsg
  go_enter Tryz.func45, Tryz.ntmps45
  have hb := Below.refl w.heap.size w
  have hp := Bk.new w neg (.slice oa xs.length cap)
  replace hr := hr.alloc (.cells #[.bool neg, (.slice oa xs.length cap)] 26)
  replace hzn := hzn.alloc (.cells #[.bool neg, (.slice oa xs.length cap)] 26)
  replace hb := hb.alloc hb.size (.cells #[.bool neg, (.slice oa xs.length cap)] 26)
  go_wp2_with fail
  refine (text_rd hr (by omega) (htabs _ hb)).mono ?_
  rintro e w_1 ⟨rfl, hb_1⟩
  replace hr := hr.below hb_1 (Nat.le_refl _)
  replace hzn := hzn.below hb_1 (Nat.le_refl _)
  replace hp := hp.below hb_1 (Nat.le_refl _)
  replace hb := hb.trans (hb_1.mono hb.size)
  clear hb_1
  rw [HV.out.1, HS.out]
  have c0 := hp.facts
  go_wp2_with fail
  refine (zsign_any hzn hl).mono ?_
  rintro e w_2 ⟨rfl, hb_2⟩
  replace hr := hr.below hb_2 (Nat.le_refl _)
  replace hzn := hzn.below hb_2 (Nat.le_refl _)
  replace hp := hp.below hb_2 (Nat.le_refl _)
  replace hb := hb.trans (hb_2.mono hb.size)
  clear hb_2
  rw [HV.out.2]
  go_wp2
  go_ret
  refine ⟨?_, hb⟩
  congr 2
/-- A block that holds a sign and a slice. -/
def Bx (w : World) (b : Nat) : Prop := ∃ neg oa n c, Bk w b neg (.slice oa n c)
theorem Bk.bx {w : World} {b : Nat} {neg : Bool} {oa : Option Addr} {n c : Nat} (h : Bk w b neg (.slice oa n c)) : Bx w b := ⟨neg, oa, n, c, h⟩
theorem Bx.ne {w : World} {b c off : Nat} {d : Nat} (h : Bx w b) (hc : w.cell? ⟨c, off, none⟩ = some (.int .u32 (d : Int))) : c ≠ b := by
  rintro rfl
  obtain ⟨neg, oa, n, k, hb⟩ := h
  unfold Bk at hb
  simp only [World.cell?, hb] at hc
  rcases off with _ | _ | off
  · simp at hc
  · simp at hc
  · simp at hc
theorem Cells.frame {w w' : World} {b : Nat} {oa : Option Addr} {ds : List Nat} (h : Cells w oa ds) (hb : Bx w b) (ho : Only b w w') : Cells w' oa ds := by
  by_cases hne : ds = []
  · exact .inl hne
  · have h2 := h
    obtain ⟨c, off, e, hc⟩ := h2.resolve_left hne
    refine h.only ho ?_
    intro a ha
    rw [e] at ha
    cases ha
    exact hb.ne (hc 0 (List.length_pos_iff.2 hne))
theorem Rd.frame {w w' : World} {b : Nat} {v : Value} {ds : List Nat} (h : Rd w v ds) (hb : Bx w b) (ho : Only b w w') : Rd w' v ds := by
  obtain ⟨oa, cap, hv, hc, ok, hx⟩ := h
  exact ⟨oa, cap, hv, hc, ok, hx.frame hb ho⟩
theorem Row.frame {w w' : World} {b c : Nat} {xs : List Nat} (h : Row w c xs) (hb : Bx w b) (ho : Only b w w') : Row w' c xs := by
  refine ho.row h ?_
  rintro rfl
  obtain ⟨neg, oa, n, k, hb⟩ := hb
  unfold Bk at hb
  rw [h.1] at hb
  simp only [Option.some.injEq, Obj.cells.injEq] at hb
  have h3 := hb.2.1
  revert h3
  decide
theorem Own.frame {w w' : World} {B b : Nat} {v : Value} {ds : List Nat} (h : Own w B v ds) (hb : Bx w b) (ho : Only b w w') : Own w' B v ds := by
  obtain ⟨oa, cap, hv, hc, h0 | ⟨c, off, xs, hoa, hB', hr, hx, hd⟩⟩ := h
  · exact ⟨oa, cap, hv, hc, .inl h0⟩
  · exact ⟨oa, cap, hv, hc, .inr ⟨c, off, xs, hoa, hB', hr.frame hb ho, hx, hd⟩⟩
theorem ZN.frame {w w' : World} {b : Nat} {v : Value} {z : Int} {l : Nat} (h : ZN w v z l) (hb : Bx w b) (ho : Only b w w') : ZN w' v z l := by
  obtain ⟨neg, s, xs, hv, hr, hz, hl⟩ := h
  exact ⟨neg, s, xs, hv, hr.frame hb ho, hz, hl⟩
theorem ZC.frame {w w' : World} {b : Nat} {v : Value} {z : Int} (h : ZC w v z) (hb : Bx w b) (ho : Only b w w') : ZC w' v z := by
  obtain ⟨s, hv, hr⟩ := h
  exact ⟨s, hv, hr.frame hb ho⟩
theorem ZO.frame {w w' : World} {B b : Nat} {v : Value} {z : Int} (h : ZO w B v z) (hb : Bx w b) (ho : Only b w w') : ZO w' B v z := by
  obtain ⟨s, hv, hr⟩ := h
  exact ⟨s, hv, hr.frame hb ho⟩
theorem ZC.open2 {w : World} {v : Value} {z : Int} (h : ZC w v z) : ∃ sb oa n cap, v = .agg #[.bool sb, .slice oa n cap] := by
  obtain ⟨s, rfl, oa, cap, rfl, _⟩ := h
  exact ⟨_, oa, _, cap, rfl⟩
theorem ZN.open2 {w : World} {v : Value} {z : Int} {l : Nat} (h : ZN w v z l) : ∃ sb oa n cap, v = .agg #[.bool sb, .slice oa n cap] := by
  obtain ⟨neg, s, xs, rfl, ⟨oa, cap, rfl, _⟩, _⟩ := h
  exact ⟨_, oa, _, cap, rfl⟩
theorem Own.drew {w : World} {B : Nat} {v : Value} {ds : List Nat} (h : Own w B v ds) : Own w.drew B v ds := h.below ((Below.refl w.heap.size w).drew) (Nat.le_refl _)
theorem ZO.drew {w : World} {B : Nat} {v : Value} {z : Int} (h : ZO w B v z) : ZO w.drew B v z := h.below ((Below.refl w.heap.size w).drew) (Nat.le_refl _)
theorem ZO.zn {w : World} {B : Nat} {v : Value} {z : Int} (h : ZO w B v z) {l : Nat} (hl : (dig z.natAbs).length ≤ l) : ZN w v z l := h.rd.zn hl
/-- The block laid for a variable of type Z. -/
def obZ : Obj := .cells #[.bool false, .slice none 0 0] 26
/-- Digit k of a list, 0 below it. -/
def dg (ds : List Nat) (k : Int) : Nat := if k < 0 then 0 else ds[k.toNat]?.getD 0
theorem dg_nat (ds : List Nat) (k : Nat) : dg ds (k : Int) = ds[k]?.getD 0 := by
  unfold dg; rw [if_neg (by omega), Int.toNat_natCast]
theorem dg_neg (ds : List Nat) (k : Int) (h : k < 0) : dg ds k = 0 := by unfold dg; rw [if_pos h]
theorem dg_lt {ds : List Nat} (ok : OK ds) (k : Int) : dg ds k < 4294967296 := by
  unfold dg; split
  · decide
  · exact ok.get _
theorem digitOr0_any (oa : Option Addr) (n ca : Nat) (ds : List Nat) (k : Int) (w : World) (e : ds.length = n) (hl : n ≤ 100000000000) (ok : OK ds) (hx : Cells w oa ds) (hk : k < n) :
    Calls Tryz.prog 132 #[.slice oa n ca, .int .i64 k] w fun e w' => e = .returned (.int .u64 (dg ds k : Nat)) ∧ w = w' := by
  subst e
  by_cases h0 : k < 0
  · rw [dg_neg ds k h0]
    go_enter Tryz.func132, Tryz.ntmps132
    go_wp2
    go_ret
    exact ⟨rfl, rfl⟩
  · obtain ⟨j, rfl⟩ : ∃ j : Nat, k = j := ⟨k.toNat, by omega⟩
    obtain ⟨b, off, x, ho, gu, Hx⟩ := hx.get (i := j) (by omega)
    subst ho
    have hxb : x < 4294967296 := by have := ok.get j; rw [Hx.out] at this; exact this
    rw [dg_nat, Hx.out]
    go_enter Tryz.func132, Tryz.ntmps132
    go_wp2
    go_ret
    exact ⟨rfl, rfl⟩
/-- Digit k of a number shifted up by s bits. -/
def sdg (ds : List Nat) (k : Int) (s : Nat) : Nat := (dg ds k * 4294967296 + dg ds (k - 1)) * 2 ^ s % 18446744073709551616 / 4294967296
theorem shiftedDigit_any (oa : Option Addr) (n ca : Nat) (ds : List Nat) (k : Int) (s : Nat) (w : World) (e : ds.length = n) (hl : n ≤ 100000000000) (ok : OK ds) (hx : Cells w oa ds) (hk : k < n) (hlo : -4 ≤ k) (hs : s < 32) :
    Calls Tryz.prog 125 #[.slice oa n ca, .int .i64 k, .int .i64 (s : Int)] w fun e w' => e = .returned (.int .u64 (sdg ds k s : Nat)) ∧ w = w' := by
  obtain ⟨x, Hx⟩ : ∃ x, Hid (dg ds k = x) := ⟨_, hide rfl⟩
  obtain ⟨y, Hy⟩ : ∃ y, Hid (dg ds (k - 1) = y) := ⟨_, hide rfl⟩
  obtain ⟨r, Hr⟩ : ∃ r, Hid (sdg ds k s = r) := ⟨_, hide rfl⟩
  have hx1 : x < 4294967296 := by rw [← Hx.out]; exact dg_lt ok k
  have hy1 : y < 4294967296 := by rw [← Hy.out]; exact dg_lt ok (k - 1)
  have hor := or_hi x y hx1 hy1
  rw [Hr.out]
  go_enter Tryz.func125, Tryz.ntmps125
  go_wp2_with fail
  refine (digitOr0_any oa n ca ds k w e hl ok hx hk).mono ?_
  rintro e1 w1 ⟨rfl, rfl⟩
  rw [Hx.out]
  go_wp2_with fail
  refine (digitOr0_any oa n ca ds (k - 1) w e hl ok hx (by omega)).mono ?_
  rintro e1 w1 ⟨rfl, rfl⟩
  rw [Hy.out]
  go_wp2_with fail
  have hfin : IntKind.u64.wrap (((x : Int) * 4294967296 + (y : Int)) * 2 ^ s) / 4294967296 = (r : Int) := by
    have e1 := Hr.out
    unfold sdg at e1
    rw [Hx.out, Hy.out] at e1
    rw [IntKind.wrap_u64, ← e1]
    have e2 : ((x : Int) * 4294967296 + (y : Int)) * 2 ^ s = (((x * 4294967296 + y) * 2 ^ s : Nat) : Int) := by simp
    rw [e2]
    generalize (x * 4294967296 + y) * 2 ^ s = z
    omega
  rw [hfin]
  go_ret
  exact ⟨rfl, rfl⟩
/-- The first guess, top two digits by the top one, is not too small. -/
theorem guess_first {W V H T f sc P lw lv : Nat} (hP : 0 < P) (hf : 0 < f) (hW : W = (H * 4294967296 + T) * P + lw) (hT : T < 4294967296) (hlw : lw < P)
    (hV : V = (f * 4294967296 + sc) * P + lv) : W / V ≤ H / f := by
  have hfB : f * (4294967296 * P) ≤ V := by
    rw [hV, Nat.add_mul, ← Nat.mul_assoc]; omega
  have hpos : 0 < f * (4294967296 * P) := Nat.mul_pos hf (Nat.mul_pos (by decide) hP)
  have h1 : W / V ≤ W / (f * (4294967296 * P)) := Nat.div_le_div_left hfB hpos
  refine Nat.le_trans h1 ?_
  rw [Nat.mul_comm f, ← Nat.div_div_eq_div_mul]
  refine Nat.div_le_div_right (Nat.le_of_eq ?_)
  rw [Nat.div_eq_iff (Nat.mul_pos (by decide) hP), hW]
  have e1 : (H * 4294967296 + T) * P = H * (4294967296 * P) + T * P := by rw [Nat.add_mul, Nat.mul_assoc]
  have h2 : (T + 1) * P ≤ 4294967296 * P := Nat.mul_le_mul_right _ hT
  rw [Nat.add_mul] at h2
  rw [e1]
  omega
/-- A guess that the third digit refutes is too great. -/
theorem guess_much {W V H T f sc P lw lv g r : Nat} (hV0 : 0 < V) (hW : W = (H * 4294967296 + T) * P + lw) (hlw : lw < P)
    (hV : V = (f * 4294967296 + sc) * P + lv) (hg : g * f + r = H) (h : r * 4294967296 + T < g * sc) : W / V < g := by
  rw [Nat.div_lt_iff_lt_mul hV0]
  have h1 : H * 4294967296 + T + 1 ≤ g * (f * 4294967296 + sc) := by
    rw [Nat.mul_add, ← Nat.mul_assoc, ← hg, Nat.add_mul]; omega
  have h2 := Nat.mul_le_mul_right P h1
  have h3 : g * (f * 4294967296 + sc) * P ≤ g * V := by
    rw [hV, Nat.mul_assoc]; exact Nat.mul_le_mul_left _ (Nat.le_add_right _ _)
  rw [Nat.add_mul, Nat.one_mul] at h2
  rw [hW]
  omega
/-- A guess of a whole digit more than there are is too great. -/
theorem guess_base {W V g : Nat} (hV0 : 0 < V) (h : W < V * 4294967296) (hg : 4294967296 ≤ g) : W / V < g := by
  rw [Nat.div_lt_iff_lt_mul hV0, Nat.mul_comm]
  exact Nat.lt_of_lt_of_le h (Nat.mul_le_mul_left _ hg)
end Go.Proofs.YtlomgfgedkkhkaaGreatDoor
