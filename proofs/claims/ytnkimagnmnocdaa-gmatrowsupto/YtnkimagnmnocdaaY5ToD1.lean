/- zint's reference: Cmp, Same. -/
import Derived.Test.YtnkimagnmnocdaaY4
import Derived.Test.YtnkimagnmnocdaaRgToRf
import Derived.Test.YtnkimagnmnocdaaW6ToP10

namespace Go.Proofs.Ytnkimagnmnocdaa
open Go.RowKit Dig

theorem zlen_add {x y : Int} {l m : Nat} (hx : (dig x.natAbs).length ≤ l) (hy : (dig y.natAbs).length ≤ m) : (dig (x + y).natAbs).length ≤ l + m + 1 := by
  refine dig_length_le ?_
  have h1 := Nat.lt_of_lt_of_le (lt_pw_dig x.natAbs) (pw_mono (Nat.le_trans hx (Nat.le_add_right l m)))
  have h2 := Nat.lt_of_lt_of_le (lt_pw_dig y.natAbs) (pw_mono (Nat.le_trans hy (Nat.le_add_left m l)))
  have h3 : (x + y).natAbs ≤ x.natAbs + y.natAbs := Int.natAbs_add_le x y
  simp only [pw]; omega
theorem zlen_sub {x y : Int} {l m : Nat} (hx : (dig x.natAbs).length ≤ l) (hy : (dig y.natAbs).length ≤ m) : (dig (x - y).natAbs).length ≤ l + m + 1 := by
  rw [Int.sub_eq_add_neg]
  exact zlen_add hx (by rw [Int.natAbs_neg]; exact hy)
theorem same_rz {w : World} {va vb : Value} {ds : List Nat} (hx : Rd w va ds) (hy : Rd w vb ds) (hl : ds.length ≤ 1000000000) :
    Calls Try.prog 45 #[va, vb] w fun e w' => e = .returned (.bool true) ∧ Below w.heap.size w w' := by
  obtain ⟨oa, ca, rfl, hca, okx, hcx⟩ := hx
  obtain ⟨ob, cb, rfl, hcb, oky, hcy⟩ := hy
  refine (same_any oa ob ca cb ds ds w (by omega) (by omega) hcx hcy).mono ?_
  rintro e w1 ⟨rfl, h⟩
  exact ⟨by simp, h⟩
set_option maxHeartbeats 1000000 in
set_option maxRecDepth 20000 in
/-- tesselref2.Same of two canonical forms of one number. -/
theorem rsame_zz {w : World} {va vb : Value} {z : Int} {l : Nat} (ha : ZC w va z) (hw : ZN w vb z l) (hl : l ≤ 1000000000) :
    Calls Try.prog 9 #[va, vb] w fun e w' => e = .returned (.bool true) ∧ Below w.heap.size w w' := by
  have hlen := Nat.le_trans hw.len hl
  obtain ⟨sa, rfl, hx⟩ := ha
  have hx' := hx
  obtain ⟨oa, ca, rfl, _, _⟩ := hx'
  have hwn := hw
  obtain ⟨nb, ob, cb, ys, rfl, _, _, _, _⟩ := hw.open_
  obtain ⟨sb, hsb⟩ : ∃ sb, decide (z < 0) = sb := ⟨_, rfl⟩
  obtain ⟨n, hn⟩ : ∃ n, (dig z.natAbs).length = n := ⟨_, rfl⟩
  rw [hn] at hx hlen ⊢
  rw [hsb]
  have HSB := hide (And.intro hsb hn)
  have HLEN := hide hlen
  clear hsb hn hlen hw
  have hbq : (sb == sb) = true := by simp
  go_enter Try.func9, Try.ntmps9
  have hb := Below.refl w.heap.size w
  have hp := Bk.new w sb (.slice oa n ca)
  replace hx := hx.alloc (.cells #[.bool sb, (.slice oa n ca)] 34)
  replace hwn := hwn.alloc (.cells #[.bool sb, (.slice oa n ca)] 34)
  replace hb := hb.alloc hb.size (.cells #[.bool sb, (.slice oa n ca)] 34)
  have hq := Bk.new (w.alloc (.cells #[.bool sb, (.slice oa n ca)] 34)) nb (.slice ob ys.length cb)
  simp only [Bk.size_alloc] at hq
  replace hx := hx.alloc (.cells #[.bool nb, (.slice ob ys.length cb)] 34)
  replace hwn := hwn.alloc (.cells #[.bool nb, (.slice ob ys.length cb)] 34)
  replace hp := hp.alloc (.cells #[.bool nb, (.slice ob ys.length cb)] 34)
  replace hb := hb.alloc hb.size (.cells #[.bool nb, (.slice ob ys.length cb)] 34)
  go_wp2_with fail
  refine (rnorm_any hwn hl).mono ?_
  rintro e w_1 ⟨v, rfl, hv, hb_1⟩
  replace hx := hx.below hb_1 (Nat.le_refl _)
  replace hwn := hwn.below hb_1 (Nat.le_refl _)
  replace hp := hp.below hb_1 (Nat.le_refl _)
  replace hq := hq.below hb_1 (Nat.le_refl _)
  replace hb := hb.trans (hb_1.mono hb.size)
  clear hb_1
  obtain ⟨sv, rfl, hy, _⟩ := hv
  have hy' := hy
  obtain ⟨o5, c5, rfl, _, _⟩ := hy'
  rw [HSB.out.2] at hy ⊢
  rw [HSB.out.1]
  have hn' := (Bk.new w_1 sb (.slice o5 n c5)).facts
  replace hx := hx.alloc (.cells #[.bool sb, .slice o5 n c5] 34)
  replace hwn := hwn.alloc (.cells #[.bool sb, .slice o5 n c5] 34)
  replace hp := hp.alloc (.cells #[.bool sb, .slice o5 n c5] 34)
  replace hq := hq.alloc (.cells #[.bool sb, .slice o5 n c5] 34)
  replace hy := hy.alloc (.cells #[.bool sb, .slice o5 n c5] 34)
  replace hb := hb.alloc hb.size (.cells #[.bool sb, .slice o5 n c5] 34)
  have c0 := hp.facts
  go_wp2_with fail
  refine (same_rz hx hy (by rw [HSB.out.2]; exact HLEN.out)).mono ?_
  rintro e w_2 ⟨rfl, hb_2⟩
  replace hx := hx.below hb_2 (Nat.le_refl _)
  replace hwn := hwn.below hb_2 (Nat.le_refl _)
  replace hp := hp.below hb_2 (Nat.le_refl _)
  replace hq := hq.below hb_2 (Nat.le_refl _)
  replace hy := hy.below hb_2 (Nat.le_refl _)
  replace hb := hb.trans (hb_2.mono hb.size)
  clear hb_2
  go_wp2
  go_ret
  exact ⟨rfl, hb⟩
end Go.Proofs.Ytnkimagnmnocdaa


/- zint's reference: I. -/
namespace Go.Proofs.Ytnkimagnmnocdaa
open Go.RowKit Dig

set_option maxHeartbeats 1000000 in
set_option maxRecDepth 20000 in
/-- tesselref2.I. -/
theorem ri_any (n : Int) (w : World) (hlo : -9223372036854775808 ≤ n) (hhi : n ≤ 9223372036854775807) :
    Calls Try.prog 10 #[.int .i64 n] w fun e w' => ∃ v', e = .returned v' ∧ ZW w' w.heap.size v' n ∧ Below w.heap.size w w' := by
  have e0 : ∀ lo hi : Nat, val [lo, hi] = lo + 4294967296 * hi := fun lo hi => by simp [val]
  by_cases hn : n < 0
  · obtain ⟨u, hu⟩ : ∃ u : Nat, -(n + 1) + 1 = (u : Int) ∧ n = -(u : Int) := ⟨n.natAbs, by omega, by omega⟩
    have hub : u < 18446744073709551616 := by omega
    have hlo' : (u : Int) % 4294967296 = ((u % 4294967296 : Nat) : Int) := by omega
    have hhi' : (u : Int) / 4294967296 = ((u / 4294967296 : Nat) : Int) := by omega
    have hu1 := hu.1
    have HU := hide (show -((val [u % 4294967296, u / 4294967296] : Nat) : Int) = n by rw [e0]; omega)
    have hn0 : n < 0 := hn
    obtain ⟨lo, hlo⟩ : ∃ lo, u % 4294967296 = lo := ⟨_, rfl⟩
    obtain ⟨hi, hhi⟩ : ∃ hi, u / 4294967296 = hi := ⟨_, rfl⟩
    rw [hlo] at hlo' HU
    rw [hhi] at hhi' HU
    have hlob : lo < 4294967296 := by omega
    have hhib : hi < 4294967296 := by omega
    clear hu hlo hhi
    go_enter Try.func10, Try.ntmps10
    have hb := Below.refl w.heap.size w
    have hz := Bk.new w false (.slice none 0 0)
    replace hb := hb.alloc hb.size (.cells #[.bool false, (.slice none 0 0)] 34)
    have a1 := lit2 (w.alloc (.cells #[.bool false, (.slice none 0 0)] 34)) lo hi (by first | decide | omega) (by first | decide | omega)
    simp only [Bk.size_alloc] at a1
    replace hz := hz.alloc (.cells #[.int .u32 (lo : Int), .int .u32 (hi : Int)] 59)
    replace hb := hb.alloc hb.size (.cells #[.int .u32 (lo : Int), .int .u32 (hi : Int)] 59)
    go_wp2_with fail
    refine (make_any true n a1 (by simp) (by rw [if_pos rfl]; exact HU.out)).mono ?_
    rintro e w_1 ⟨v', rfl, hv, hb_1⟩
    replace hz := hz.below hb_1 (Nat.le_refl _)
    replace a1 := a1.below hb_1 (Nat.le_refl _)
    replace hb := hb.trans (hb_1.mono hb.size)
    clear hb_1
    obtain ⟨sb, o5, n5, c5, rfl⟩ := hv.open2
    have c9 := hz.facts
    have d := (hz.store sb (.slice o5 n5 c5)).facts
    go_wp2
    refine bodyPost_ret (v := .agg #[.bool sb, .slice o5 n5 c5]) (by simp [results, Try.results10, go_sem, d.1, d.2.1]) rfl ?_
    exact ⟨_, rfl, (hv.only (Bk.only _ _ _ _) (by first | assumption | (simp; done) | omega | (simp; omega))).mono (by first | assumption | (simp; omega) | omega), (hb.setCell (by simp <;> omega) _).setCell (by simp <;> omega) _⟩
  · obtain ⟨u, hu⟩ : ∃ u : Nat, IntKind.u64.wrap n = (u : Int) ∧ n = (u : Int) := ⟨n.natAbs, by rw [IntKind.wrap_u64]; omega, by omega⟩
    have hub : u < 18446744073709551616 := by omega
    have hlo' : (u : Int) % 4294967296 = ((u % 4294967296 : Nat) : Int) := by omega
    have hhi' : (u : Int) / 4294967296 = ((u / 4294967296 : Nat) : Int) := by omega
    have hu1 := hu.1
    have HU := hide (show ((val [u % 4294967296, u / 4294967296] : Nat) : Int) = n by rw [e0]; omega)
    have hn0 : (n < 0) = False := eq_false hn
    obtain ⟨lo, hlo⟩ : ∃ lo, u % 4294967296 = lo := ⟨_, rfl⟩
    obtain ⟨hi, hhi⟩ : ∃ hi, u / 4294967296 = hi := ⟨_, rfl⟩
    rw [hlo] at hlo' HU
    rw [hhi] at hhi' HU
    have hlob : lo < 4294967296 := by omega
    have hhib : hi < 4294967296 := by omega
    clear hu hlo hhi
    go_enter Try.func10, Try.ntmps10
    have hb := Below.refl w.heap.size w
    have hz := Bk.new w false (.slice none 0 0)
    replace hb := hb.alloc hb.size (.cells #[.bool false, (.slice none 0 0)] 34)
    have a1 := lit2 (w.alloc (.cells #[.bool false, (.slice none 0 0)] 34)) lo hi (by first | decide | omega) (by first | decide | omega)
    simp only [Bk.size_alloc] at a1
    replace hz := hz.alloc (.cells #[.int .u32 (lo : Int), .int .u32 (hi : Int)] 59)
    replace hb := hb.alloc hb.size (.cells #[.int .u32 (lo : Int), .int .u32 (hi : Int)] 59)
    go_wp2_with fail
    refine (make_any false n a1 (by simp) (by rw [if_neg (by simp)]; exact HU.out)).mono ?_
    rintro e w_1 ⟨v', rfl, hv, hb_1⟩
    replace hz := hz.below hb_1 (Nat.le_refl _)
    replace a1 := a1.below hb_1 (Nat.le_refl _)
    replace hb := hb.trans (hb_1.mono hb.size)
    clear hb_1
    obtain ⟨sb, o5, n5, c5, rfl⟩ := hv.open2
    have c9 := hz.facts
    have d := (hz.store sb (.slice o5 n5 c5)).facts
    go_wp2
    refine bodyPost_ret (v := .agg #[.bool sb, .slice o5 n5 c5]) (by simp [results, Try.results10, go_sem, d.1, d.2.1]) rfl ?_
    exact ⟨_, rfl, (hv.only (Bk.only _ _ _ _) (by first | assumption | (simp; done) | omega | (simp; omega))).mono (by first | assumption | (simp; omega) | omega), (hb.setCell (by simp <;> omega) _).setCell (by simp <;> omega) _⟩
end Go.Proofs.Ytnkimagnmnocdaa


/- zint: Text; awake. -/
namespace Go.Proofs.Ytnkimagnmnocdaa
open Go.RowKit Dig
end Go.Proofs.Ytnkimagnmnocdaa


/- Whole numbers and the blocks that hold a struct Z: a store into such a block leaves all numbers that are read. -/
namespace Go.Proofs.Ytnkimagnmnocdaa
open Go.RowKit Dig

theorem ZC.open2 {w : World} {v : Value} {z : Int} (h : ZC w v z) : ∃ sb oa n cap, v = .agg #[.bool sb, .slice oa n cap] := by
  obtain ⟨s, rfl, oa, cap, rfl, _⟩ := h
  exact ⟨_, oa, _, cap, rfl⟩
end Go.Proofs.Ytnkimagnmnocdaa


/- nat.digitOr0 and shiftedDigit: a digit, and a digit of a number shifted up. -/
namespace Go.Proofs.Ytnkimagnmnocdaa
open Go.RowKit Dig

end Go.Proofs.Ytnkimagnmnocdaa

