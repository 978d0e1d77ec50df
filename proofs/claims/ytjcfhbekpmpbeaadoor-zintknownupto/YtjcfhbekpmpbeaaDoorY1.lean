/- zint's reference: Make. -/
import Derived.Test.YtjcfhbekpmpbeaaDoorZ5
import Derived.Test.YtjcfhbekpmpbeaaDoorR13
namespace Go.Proofs.YtjcfhbekpmpbeaaDoor
open Go.RowKit Dig

theorem Rd.only {w w' : World} {b B : Nat} {v : Value} {ds : List Nat} (h : Rd w v ds) (hn : NewAt B v) (ho : Only b w w') (hb : b < B) : Rd w' v ds := by
  obtain ⟨oa, cap, rfl, hc, hok, hcell⟩ := h
  refine ⟨oa, cap, rfl, hc, hok, hcell.only ho ?_⟩
  intro a ha
  have h1 := hn a _ _ (by rw [ha])
  omega

/-- The number z, canonical, its digits read by w and laid at or behind block B. -/
def ZW (w : World) (B : Nat) (v : Value) (z : Int) : Prop := ∃ s, v = .agg #[.bool (decide (z < 0)), s] ∧ Rd w s (dig z.natAbs) ∧ NewAt B s
theorem ZW.rd {w : World} {B : Nat} {v : Value} {z : Int} (h : ZW w B v z) : ZC w v z := by
  obtain ⟨s, hv, hr, _⟩ := h
  exact ⟨s, hv, hr⟩
theorem ZW.mono {w : World} {B C : Nat} {v : Value} {z : Int} (h : ZW w B v z) (hC : C ≤ B) : ZW w C v z := by
  obtain ⟨s, hv, hr, hn⟩ := h
  exact ⟨s, hv, hr, hn.mono hC⟩
theorem ZW.only {w w' : World} {B b : Nat} {v : Value} {z : Int} (h : ZW w B v z) (ho : Only b w w') (hb : b < B) : ZW w' B v z := by
  obtain ⟨s, hv, hr, hn⟩ := h
  exact ⟨s, hv, hr.only hn ho hb, hn⟩
theorem ZW.open2 {w : World} {B : Nat} {v : Value} {z : Int} (h : ZW w B v z) : ∃ sb oa n cap, v = .agg #[.bool sb, .slice oa n cap] := by
  obtain ⟨s, rfl, ⟨oa, cap, rfl, _⟩, _⟩ := h
  exact ⟨_, oa, _, cap, rfl⟩

theorem rtrim_rn {w : World} {va : Value} {xs : List Nat} (hx : Rd w va xs) (hl : xs.length ≤ 1000000000) :
    Calls Tryd.prog 56 #[va] w fun e w' => ∃ v, e = .returned v ∧ (Rd w' v (dig (val xs)) ∧ NewAt w.heap.size v) ∧ Below w.heap.size w w' := by
  obtain ⟨oa, ca, rfl, hca, okx, hcx⟩ := hx
  refine (rtrim_new oa ca xs w (by omega) hca okx hcx).mono ?_
  rintro e w1 ⟨v, rfl, h1, h2, h3⟩
  exact ⟨v, rfl, ⟨by rw [dig_val okx]; exact h1, h2⟩, h3⟩

set_option maxHeartbeats 1000000 in
set_option maxRecDepth 20000 in
/-- tesselref2.Make. -/
theorem make_any {w : World} {s : Value} {xs : List Nat} (neg : Bool) (z : Int) (hx : Rd w s xs) (hl : xs.length ≤ 1000000000) (hz : (if neg then -(val xs : Int) else (val xs : Int)) = z) :
    Calls Tryd.prog 67 #[.bool neg, s] w fun e w' => ∃ v', e = .returned v' ∧ ZW w' w.heap.size v' z ∧ Below w.heap.size w w' := by
  have hab : z.natAbs = val xs := by rw [← hz]; cases neg <;> simp
  have hsg := sign_of neg (val xs)
  rw [hz] at hsg
  have HS := hide (And.intro hab hsg)
  clear hz hab hsg
  have hd : (dig (val xs)).length = 0 ↔ val xs = 0 := by rw [List.length_eq_zero_iff]; exact dig_eq_nil
  obtain ⟨n, hn⟩ : ∃ n, (dig (val xs)).length = n := ⟨_, rfl⟩
  clear hd
  cases neg
  · go_enter Tryd.func67, Tryd.ntmps67
    have hb := Below.refl w.heap.size w
    have hz := Bk.new w false (.slice none 0 0)
    replace hx := hx.alloc (.cells #[.bool false, (.slice none 0 0)] 36)
    replace hb := hb.alloc hb.size (.cells #[.bool false, (.slice none 0 0)] 36)
    go_wp2_with fail
    refine (rtrim_rn hx (by omega)).mono ?_
    rintro e w_1 ⟨s, rfl, hs, hb_1⟩
    replace hx := hx.below hb_1 (Nat.le_refl _)
    replace hz := hz.below hb_1 (Nat.le_refl _)
    replace hb := hb.trans (hb_1.mono hb.size)
    clear hb_1
    obtain ⟨hs, hnew⟩ := hs
    have hs' := hs
    obtain ⟨oa, cap, rfl, hcap, _⟩ := hs
    rw [hn] at hcap hnew hs' ⊢
    have c9 := hz.facts
    have d := (hz.store false (.slice oa n cap)).facts
    go_wp2
    refine bodyPost_ret (v := .agg #[.bool false, .slice oa n cap]) (by simp [results, Tryd.results67, go_sem, d.1, d.2.1]) rfl ?_
    have hBlt : w.heap.size < (w.alloc (.cells #[.bool false, .slice none 0 0] 36)).heap.size := by simp
    refine ⟨_, rfl, ⟨_, ?_, by rw [HS.out.1]; exact hs'.only hnew (Bk.only _ _ _ _) hBlt, hnew.mono (by omega)⟩, (hb.setCell (Nat.le_refl _) _).setCell (Nat.le_refl _) _⟩
    rw [← HS.out.2]
    rfl
  · go_enter Tryd.func67, Tryd.ntmps67
    have hb := Below.refl w.heap.size w
    have hz := Bk.new w false (.slice none 0 0)
    replace hx := hx.alloc (.cells #[.bool false, (.slice none 0 0)] 36)
    replace hb := hb.alloc hb.size (.cells #[.bool false, (.slice none 0 0)] 36)
    go_wp2_with fail
    refine (rtrim_rn hx (by omega)).mono ?_
    rintro e w_1 ⟨s, rfl, hs, hb_1⟩
    replace hx := hx.below hb_1 (Nat.le_refl _)
    replace hz := hz.below hb_1 (Nat.le_refl _)
    replace hb := hb.trans (hb_1.mono hb.size)
    clear hb_1
    obtain ⟨hs, hnew⟩ := hs
    have hs' := hs
    obtain ⟨oa, cap, rfl, hcap, _⟩ := hs
    rw [hn] at hcap hnew hs' ⊢
    have c9 := hz.facts
    have d := (hz.store (decide (0 < n)) (.slice oa n cap)).facts
    go_wp2
    refine bodyPost_ret (v := .agg #[.bool (decide (0 < n)), .slice oa n cap]) (by simp [results, Tryd.results67, go_sem, d.1, d.2.1]) rfl ?_
    have hBlt : w.heap.size < (w.alloc (.cells #[.bool false, .slice none 0 0] 36)).heap.size := by simp
    refine ⟨_, rfl, ⟨_, ?_, by rw [HS.out.1]; exact hs'.only hnew (Bk.only _ _ _ _) hBlt, hnew.mono (by omega)⟩, (hb.setCell (Nat.le_refl _) _).setCell (Nat.le_refl _) _⟩
    rw [← HS.out.2]
    rw [hn]; rfl
end Go.Proofs.YtjcfhbekpmpbeaaDoor
