/- zint's reference: I. -/
import Derived.Test.YtjcfhbekpmpbeaaDoorY5
namespace Go.Proofs.YtjcfhbekpmpbeaaDoor
open Go.RowKit Dig

set_option maxHeartbeats 1000000 in
set_option maxRecDepth 20000 in
/-- tesselref2.I. -/
theorem ri_any (n : Int) (w : World) (hlo : -9223372036854775808 ≤ n) (hhi : n ≤ 9223372036854775807) :
    Calls Tryd.prog 50 #[.int .i64 n] w fun e w' => ∃ v', e = .returned v' ∧ ZW w' w.heap.size v' n ∧ Below w.heap.size w w' := by
  have e0 : ∀ lo hi : Nat, val [lo, hi] = lo + 4294967296 * hi := fun lo hi => by simp [val]
  by_cases hn : n < 0
  · obtain ⟨u, hu⟩ : ∃ u : Nat, -(n + 1) + 1 = (u : Int) ∧ n = -(u : Int) := ⟨n.natAbs, by omega, by omega⟩
    have hub : u < 18446744073709551616 := by omega
    have hlo' : (u : Int) % 4294967296 = ((u % 4294967296 : Nat) : Int) := by omega
    have hhi' : (u : Int) / 4294967296 = ((u / 4294967296 : Nat) : Int) := by omega
    have hu1 := hu.1
    have HU := hide (show -((val [u % 4294967296, u / 4294967296] : Nat) : Int) = n by rw [e0]; omega)
    have hn0 : n < 0 := hn
    obtain ⟨lo, hlo⟩ : ∃ lo, u % 4294967296 = lo := ⟨_, rfl⟩
    obtain ⟨hi, hhi⟩ : ∃ hi, u / 4294967296 = hi := ⟨_, rfl⟩
    rw [hlo] at hlo' HU
    rw [hhi] at hhi' HU
    have hlob : lo < 4294967296 := by omega
    have hhib : hi < 4294967296 := by omega
    clear hu hlo hhi
    go_enter Tryd.func50, Tryd.ntmps50
    have hb := Below.refl w.heap.size w
    have hz := Bk.new w false (.slice none 0 0)
    replace hb := hb.alloc hb.size (.cells #[.bool false, (.slice none 0 0)] 36)
    have a1 := lit2 (w.alloc (.cells #[.bool false, (.slice none 0 0)] 36)) lo hi (by first | decide | omega) (by first | decide | omega)
    simp only [Bk.size_alloc] at a1
    replace hz := hz.alloc (.cells #[.int .u32 (lo : Int), .int .u32 (hi : Int)] 24)
    replace hb := hb.alloc hb.size (.cells #[.int .u32 (lo : Int), .int .u32 (hi : Int)] 24)
    go_wp2_with fail
    refine (make_any true n a1 (by simp) (by rw [if_pos rfl]; exact HU.out)).mono ?_
    rintro e w_1 ⟨v', rfl, hv, hb_1⟩
    replace hz := hz.below hb_1 (Nat.le_refl _)
    replace a1 := a1.below hb_1 (Nat.le_refl _)
    replace hb := hb.trans (hb_1.mono hb.size)
    clear hb_1
    obtain ⟨sb, o5, n5, c5, rfl⟩ := hv.open2
    have c9 := hz.facts
    have d := (hz.store sb (.slice o5 n5 c5)).facts
    go_wp2
    refine bodyPost_ret (v := .agg #[.bool sb, .slice o5 n5 c5]) (by simp [results, Tryd.results50, go_sem, d.1, d.2.1]) rfl ?_
    exact ⟨_, rfl, (hv.only (Bk.only _ _ _ _) (by first | assumption | (simp; done) | omega | (simp; omega))).mono (by first | assumption | (simp; omega) | omega), (hb.setCell (by simp <;> omega) _).setCell (by simp <;> omega) _⟩
  · obtain ⟨u, hu⟩ : ∃ u : Nat, IntKind.u64.wrap n = (u : Int) ∧ n = (u : Int) := ⟨n.natAbs, by rw [IntKind.wrap_u64]; omega, by omega⟩
    have hub : u < 18446744073709551616 := by omega
    have hlo' : (u : Int) % 4294967296 = ((u % 4294967296 : Nat) : Int) := by omega
    have hhi' : (u : Int) / 4294967296 = ((u / 4294967296 : Nat) : Int) := by omega
    have hu1 := hu.1
    have HU := hide (show ((val [u % 4294967296, u / 4294967296] : Nat) : Int) = n by rw [e0]; omega)
    have hn0 : (n < 0) = False := eq_false hn
    obtain ⟨lo, hlo⟩ : ∃ lo, u % 4294967296 = lo := ⟨_, rfl⟩
    obtain ⟨hi, hhi⟩ : ∃ hi, u / 4294967296 = hi := ⟨_, rfl⟩
    rw [hlo] at hlo' HU
    rw [hhi] at hhi' HU
    have hlob : lo < 4294967296 := by omega
    have hhib : hi < 4294967296 := by omega
    clear hu hlo hhi
    go_enter Tryd.func50, Tryd.ntmps50
    have hb := Below.refl w.heap.size w
    have hz := Bk.new w false (.slice none 0 0)
    replace hb := hb.alloc hb.size (.cells #[.bool false, (.slice none 0 0)] 36)
    have a1 := lit2 (w.alloc (.cells #[.bool false, (.slice none 0 0)] 36)) lo hi (by first | decide | omega) (by first | decide | omega)
    simp only [Bk.size_alloc] at a1
    replace hz := hz.alloc (.cells #[.int .u32 (lo : Int), .int .u32 (hi : Int)] 24)
    replace hb := hb.alloc hb.size (.cells #[.int .u32 (lo : Int), .int .u32 (hi : Int)] 24)
    go_wp2_with fail
    refine (make_any false n a1 (by simp) (by rw [if_neg (by simp)]; exact HU.out)).mono ?_
    rintro e w_1 ⟨v', rfl, hv, hb_1⟩
    replace hz := hz.below hb_1 (Nat.le_refl _)
    replace a1 := a1.below hb_1 (Nat.le_refl _)
    replace hb := hb.trans (hb_1.mono hb.size)
    clear hb_1
    obtain ⟨sb, o5, n5, c5, rfl⟩ := hv.open2
    have c9 := hz.facts
    have d := (hz.store sb (.slice o5 n5 c5)).facts
    go_wp2
    refine bodyPost_ret (v := .agg #[.bool sb, .slice o5 n5 c5]) (by simp [results, Tryd.results50, go_sem, d.1, d.2.1]) rfl ?_
    exact ⟨_, rfl, (hv.only (Bk.only _ _ _ _) (by first | assumption | (simp; done) | omega | (simp; omega))).mono (by first | assumption | (simp; omega) | omega), (hb.setCell (by simp <;> omega) _).setCell (by simp <;> omega) _⟩

theorem ZC.drew {w : World} {v : Value} {z : Int} (h : ZC w v z) : ZC w.drew v z := h.below ((Below.refl w.heap.size _).drew) (Nat.le_refl _)
theorem zlen_i (n : Int) (hlo : -9223372036854775808 ≤ n) (hhi : n ≤ 9223372036854775807) : (dig n.natAbs).length ≤ 2 :=
  dig_length_le (show n.natAbs < pw 2 from Nat.lt_of_lt_of_le (show n.natAbs < 18446744073709551616 by omega) (by decide))

set_option maxHeartbeats 1000000 in
set_option maxRecDepth 20000 in
/-- The law's own 'i'. -/
theorem i_any (n : Int) (w : World) (hlo : -9223372036854775808 ≤ n) (hhi : n ≤ 9223372036854775807) :
    Calls Tryd.prog 24 #[.int .i64 n] w fun e w' => ∃ v', e = .returned v' ∧ ZO w' w.heap.size v' n ∧ Below w.heap.size w w' := by
  have hw : IntKind.i64.wrap n = n := by rw [IntKind.wrap_i64]; omega
  go_enter Tryd.func24, Tryd.ntmps24
  have hb := Below.refl w.heap.size w
  have hz := Bk.new w false (.slice none 0 0)
  replace hb := hb.alloc hb.size (.cells #[.bool false, (.slice none 0 0)] 36)
  have hsz : w.heap.size ≤ (w.alloc (.cells #[.bool false, .slice none 0 0] 36)).heap.size := by simp
  go_wp2_with fail
  refine (from_any n _ hlo hhi).mono ?_
  rintro e w_1 ⟨v', rfl, hv, hb_1⟩
  replace hz := hz.below hb_1 (Nat.le_refl _)
  replace hb := hb.trans (hb_1.mono hb.size)
  clear hb_1
  obtain ⟨sb, o5, n5, c5, rfl⟩ := hv.open2
  have c9 := hz.facts
  have d := (hz.store sb (.slice o5 n5 c5)).facts
  go_wp2
  refine bodyPost_ret (v := .agg #[.bool sb, .slice o5 n5 c5]) (by simp [results, Tryd.results24, go_sem, d.1, d.2.1]) rfl ?_
  exact ⟨_, rfl, (hv.only (Bk.only _ _ _ _) (by first | assumption | (simp; done) | omega | (simp; omega))).mono (by first | assumption | (simp; omega) | omega), (hb.setCell (by simp <;> omega) _).setCell (by simp <;> omega) _⟩

set_option maxHeartbeats 1000000 in
set_option maxRecDepth 20000 in
/-- The law's own 'small', of the number itself. -/
theorem small_zz {w : World} {va : Value} (n : Int) (ha : ZC w va n) (hlo : -9223372036854775808 ≤ n) (hhi : n ≤ 9223372036854775807) :
    Calls Tryd.prog 25 #[va, .int .i64 n] w fun e w' => e = .returned (.bool true) ∧ Below w.heap.size w w' := by
  have ha' := ha
  obtain ⟨oa, ca, rfl⟩ := ha'.open_
  have hl := zlen_i n hlo hhi
  obtain ⟨sb, hsb⟩ : ∃ sb, decide (n < 0) = sb := ⟨_, rfl⟩
  obtain ⟨m, hm⟩ : ∃ m, (dig n.natAbs).length = m := ⟨_, rfl⟩
  have HL := hide hl
  rw [hm, hsb] at ha ⊢
  clear hm hsb ha' hl
  go_enter Tryd.func25, Tryd.ntmps25
  have hb := Below.refl w.heap.size w
  have hp := Bk.new w sb (.slice oa m ca)
  replace ha := ha.alloc (.cells #[.bool sb, (.slice oa m ca)] 36)
  replace hb := hb.alloc hb.size (.cells #[.bool sb, (.slice oa m ca)] 36)
  replace ha := ha.drew
  replace hp := hp.drew
  replace hb := hb.drew
  go_wp2_with fail
  refine wp_region_lx (fun w' => w'.cell? ⟨w.heap.size, 0, none⟩ = some (.bool sb) ∧ w'.cell? ⟨w.heap.size, 1, none⟩ = some (.slice oa m ca)) (by kernel_rfl) (by kernel_rfl) ⟨hp.facts.1, hp.facts.2.1⟩ ?_
  apply wpLx_st 0
  case hi => rfl
  case h => intro w' hC; obtain ⟨c0, c1⟩ := hC; go_simp; rfl
  case hw => rfl
  case hf => kernel_rfl
  case hr => kernel_rfl
  apply wpLx_st 1
  case hi => rfl
  case h => intro w' hC; obtain ⟨c0, c1⟩ := hC; go_simp; rfl
  case hw => rfl
  case hf => kernel_rfl
  case hr => kernel_rfl
  apply wpLx_call 2
  case hi => rfl
  case hw => rfl
  case hr => kernel_rfl
  case h =>
  intro K hK
  unfold Calm
  go_simp
  have kb_1 := hb.size
  go_fit (ri_any n _ hlo hhi)
  rintro e w_1 ⟨v, rfl, hv, hb_1⟩
  replace ha := ha.below hb_1 (Nat.le_refl _)
  replace hp := hp.below hb_1 (Nat.le_refl _)
  replace hb := hb.trans (hb_1.mono hb.size)
  clear hb_1
  refine ⟨_, rfl, hK _ _ ⟨hp.facts.1, hp.facts.2.1⟩ ?_⟩
  clear hK K
  apply wpLx_call 3
  case hi => rfl
  case hw => rfl
  case hr => kernel_rfl
  case h =>
  intro K hK
  unfold Calm
  go_simp
  have kb_2 := hb.size
  go_fit (is_zz ha (hv.zn HL.out) (by omega))
  rintro e w_2 ⟨rfl, hb_2⟩
  replace ha := ha.below hb_2 (Nat.le_refl _)
  replace hp := hp.below hb_2 (Nat.le_refl _)
  replace hb := hb.trans (hb_2.mono hb.size)
  clear hb_2
  refine ⟨_, rfl, hK _ _ ⟨hp.facts.1, hp.facts.2.1⟩ ?_⟩
  clear hK K
  apply wpLx_st 4
  case hi => rfl
  case h => intro w' hC; obtain ⟨c0, c1⟩ := hC; go_simp; rfl
  case hw => rfl
  case hf => kernel_rfl
  case hr => kernel_rfl
  apply wpLx_nil
  case hr => kernel_rfl
  case h =>
  go_wp2
  go_ret
  exact ⟨rfl, hb⟩
end Go.Proofs.YtjcfhbekpmpbeaaDoor
