/- zint's reference: Cmp, Same. -/
import Derived.Test.YtlomgfgedkkhkaaGreatDoorY4
import Derived.Lib.BitFns
import Derived.Lib.ItoaNum
import Derived.Deep.LoopGhost
import Derived.OwnWalk
namespace Go.Proofs.YtlomgfgedkkhkaaGreatDoor
open Go.RowKit Dig
theorem zlen_add {x y : Int} {l m : Nat} (hx : (dig x.natAbs).length ≤ l) (hy : (dig y.natAbs).length ≤ m) : (dig (x + y).natAbs).length ≤ l + m + 1 := by
  refine dig_length_le ?_
  have h1 := Nat.lt_of_lt_of_le (lt_pw_dig x.natAbs) (pw_mono (Nat.le_trans hx (Nat.le_add_right l m)))
  have h2 := Nat.lt_of_lt_of_le (lt_pw_dig y.natAbs) (pw_mono (Nat.le_trans hy (Nat.le_add_left m l)))
  have h3 : (x + y).natAbs ≤ x.natAbs + y.natAbs := Int.natAbs_add_le x y
  simp only [pw]; omega
theorem zlen_sub {x y : Int} {l m : Nat} (hx : (dig x.natAbs).length ≤ l) (hy : (dig y.natAbs).length ≤ m) : (dig (x - y).natAbs).length ≤ l + m + 1 := by
  rw [Int.sub_eq_add_neg]
  exact zlen_add hx (by rw [Int.natAbs_neg]; exact hy)
theorem same_rz {w : World} {va vb : Value} {ds : List Nat} (hx : Rd w va ds) (hy : Rd w vb ds) (hl : ds.length ≤ 1000000000) :
    Calls Tryz.prog 27 #[va, vb] w fun e w' => e = .returned (.bool true) ∧ Below w.heap.size w w' := by
  obtain ⟨oa, ca, rfl, hca, okx, hcx⟩ := hx
  obtain ⟨ob, cb, rfl, hcb, oky, hcy⟩ := hy
  refine (same_any oa ob ca cb ds ds w (by omega) (by omega) hcx hcy).mono ?_
  rintro e w1 ⟨rfl, h⟩
  exact ⟨by simp, h⟩
set_option maxHeartbeats 1000000 in
set_option maxRecDepth 20000 in
/-- tesselref2.Same of two canonical forms of one number. -/
theorem rsame_zz {w : World} {va vb : Value} {z : Int} {l : Nat} (ha : ZC w va z) (hw : ZN w vb z l) (hl : l ≤ 1000000000) :
    Calls Tryz.prog 6 #[va, vb] w fun e w' => e = .returned (.bool true) ∧ Below w.heap.size w w' := by
  have hlen := Nat.le_trans hw.len hl
  obtain ⟨sa, rfl, hx⟩ := ha
  have hx' := hx
  obtain ⟨oa, ca, rfl, _, _⟩ := hx'
  have hwn := hw
  obtain ⟨nb, ob, cb, ys, rfl, _, _, _, _⟩ := hw.open_
  obtain ⟨sb, hsb⟩ : ∃ sb, decide (z < 0) = sb := ⟨_, rfl⟩
  obtain ⟨n, hn⟩ : ∃ n, (dig z.natAbs).length = n := ⟨_, rfl⟩
  rw [hn] at hx hlen ⊢
  rw [hsb]
  have HSB := hide (And.intro hsb hn)
  have HLEN := hide hlen
  clear hsb hn hlen hw
  have hbq : (sb == sb) = true := by simp
  go_enter Tryz.func6, Tryz.ntmps6
  have hb := Below.refl w.heap.size w
  have hp := Bk.new w sb (.slice oa n ca)
  replace hx := hx.alloc (.cells #[.bool sb, (.slice oa n ca)] 26)
  replace hwn := hwn.alloc (.cells #[.bool sb, (.slice oa n ca)] 26)
  replace hb := hb.alloc hb.size (.cells #[.bool sb, (.slice oa n ca)] 26)
  have hq := Bk.new (w.alloc (.cells #[.bool sb, (.slice oa n ca)] 26)) nb (.slice ob ys.length cb)
  simp only [Bk.size_alloc] at hq
  replace hx := hx.alloc (.cells #[.bool nb, (.slice ob ys.length cb)] 26)
  replace hwn := hwn.alloc (.cells #[.bool nb, (.slice ob ys.length cb)] 26)
  replace hp := hp.alloc (.cells #[.bool nb, (.slice ob ys.length cb)] 26)
  replace hb := hb.alloc hb.size (.cells #[.bool nb, (.slice ob ys.length cb)] 26)
  go_wp2_with fail
  refine (rnorm_any hwn hl).mono ?_
  rintro e w_1 ⟨v, rfl, hv, hb_1⟩
  replace hx := hx.below hb_1 (Nat.le_refl _)
  replace hwn := hwn.below hb_1 (Nat.le_refl _)
  replace hp := hp.below hb_1 (Nat.le_refl _)
  replace hq := hq.below hb_1 (Nat.le_refl _)
  replace hb := hb.trans (hb_1.mono hb.size)
  clear hb_1
  obtain ⟨sv, rfl, hy, _⟩ := hv
  have hy' := hy
  obtain ⟨o5, c5, rfl, _, _⟩ := hy'
  rw [HSB.out.2] at hy ⊢
  rw [HSB.out.1]
  have hn' := (Bk.new w_1 sb (.slice o5 n c5)).facts
  replace hx := hx.alloc (.cells #[.bool sb, .slice o5 n c5] 26)
  replace hwn := hwn.alloc (.cells #[.bool sb, .slice o5 n c5] 26)
  replace hp := hp.alloc (.cells #[.bool sb, .slice o5 n c5] 26)
  replace hq := hq.alloc (.cells #[.bool sb, .slice o5 n c5] 26)
  replace hy := hy.alloc (.cells #[.bool sb, .slice o5 n c5] 26)
  replace hb := hb.alloc hb.size (.cells #[.bool sb, .slice o5 n c5] 26)
  have c0 := hp.facts
  go_wp2_with fail
  refine (same_rz hx hy (by rw [HSB.out.2]; exact HLEN.out)).mono ?_
  rintro e w_2 ⟨rfl, hb_2⟩
  replace hx := hx.below hb_2 (Nat.le_refl _)
  replace hwn := hwn.below hb_2 (Nat.le_refl _)
  replace hp := hp.below hb_2 (Nat.le_refl _)
  replace hq := hq.below hb_2 (Nat.le_refl _)
  replace hy := hy.below hb_2 (Nat.le_refl _)
  replace hb := hb.trans (hb_2.mono hb.size)
  clear hb_2
  go_wp2
  go_ret
  exact ⟨rfl, hb⟩
set_option maxHeartbeats 1000000 in
set_option maxRecDepth 20000 in
/-- tesselref2.Cmp. -/
theorem rzcmp_any {w : World} {va vb : Value} {x y : Int} {l m : Nat} (ha : ZN w va x l) (hb' : ZN w vb y m) (hl : l ≤ 400000000) (hm : m ≤ 400000000) :
    Calls Tryz.prog 59 #[va, vb] w fun e w' => e = .returned (.int .i64 (zcmp x y)) ∧ Below w.heap.size w w' := by
  have hlen := zlen_sub ha.len hb'.len
  have hs : (x - y).sign = zcmp x y := by
    unfold zcmp
    split
    · exact Int.sign_eq_neg_one_of_neg (by omega)
    · split
      · rw [show x - y = 0 by omega]; rfl
      · exact Int.sign_eq_one_of_pos (by omega)
  have HS := hide hs
  clear hs
  obtain ⟨na, oa, ca, xs, rfl, _, _, _, _⟩ := ha.open_
  obtain ⟨nb, ob, cb, ys, rfl, _, _, _, _⟩ := hb'.open_
  go_enter Tryz.func59, Tryz.ntmps59
  have hb := Below.refl w.heap.size w
  have hp := Bk.new w na (.slice oa xs.length ca)
  replace ha := ha.alloc (.cells #[.bool na, (.slice oa xs.length ca)] 26)
  replace hb' := hb'.alloc (.cells #[.bool na, (.slice oa xs.length ca)] 26)
  replace hb := hb.alloc hb.size (.cells #[.bool na, (.slice oa xs.length ca)] 26)
  have hq := Bk.new (w.alloc (.cells #[.bool na, (.slice oa xs.length ca)] 26)) nb (.slice ob ys.length cb)
  simp only [Bk.size_alloc] at hq
  replace ha := ha.alloc (.cells #[.bool nb, (.slice ob ys.length cb)] 26)
  replace hb' := hb'.alloc (.cells #[.bool nb, (.slice ob ys.length cb)] 26)
  replace hp := hp.alloc (.cells #[.bool nb, (.slice ob ys.length cb)] 26)
  replace hb := hb.alloc hb.size (.cells #[.bool nb, (.slice ob ys.length cb)] 26)
  go_wp2_with fail
  refine (rzsub_any ha hb' hl hm).mono ?_
  rintro e w_1 ⟨v, rfl, hv, hb_1⟩
  replace ha := ha.below hb_1 (Nat.le_refl _)
  replace hb' := hb'.below hb_1 (Nat.le_refl _)
  replace hp := hp.below hb_1 (Nat.le_refl _)
  replace hq := hq.below hb_1 (Nat.le_refl _)
  replace hb := hb.trans (hb_1.mono hb.size)
  clear hb_1
  go_wp2_with fail
  refine (rzsign_any (hv.zn hlen) (by omega)).mono ?_
  rintro e w_2 ⟨rfl, hb_2⟩
  replace ha := ha.below hb_2 (Nat.le_refl _)
  replace hb' := hb'.below hb_2 (Nat.le_refl _)
  replace hp := hp.below hb_2 (Nat.le_refl _)
  replace hq := hq.below hb_2 (Nat.le_refl _)
  replace hb := hb.trans (hb_2.mono hb.size)
  clear hb_2
  rw [HS.out]
  go_wp2
  go_ret
  exact ⟨rfl, hb⟩
set_option maxHeartbeats 1000000 in
set_option maxRecDepth 20000 in
/-- tesselref2.I. -/
theorem ri_any (n : Int) (w : World) (hlo : -9223372036854775808 ≤ n) (hhi : n ≤ 9223372036854775807) :
    Calls Tryz.prog 9 #[.int .i64 n] w fun e w' => ∃ v', e = .returned v' ∧ ZW w' w.heap.size v' n ∧ Below w.heap.size w w' := by
  have e0 : ∀ lo hi : Nat, val [lo, hi] = lo + 4294967296 * hi := fun lo hi => by simp [val]
  by_cases hn : n < 0
  · obtain ⟨u, hu⟩ : ∃ u : Nat, -(n + 1) + 1 = (u : Int) ∧ n = -(u : Int) := ⟨n.natAbs, by omega, by omega⟩
    have hub : u < 18446744073709551616 := by omega
    have hlo' : (u : Int) % 4294967296 = ((u % 4294967296 : Nat) : Int) := by omega
    have hhi' : (u : Int) / 4294967296 = ((u / 4294967296 : Nat) : Int) := by omega
    have hu1 := hu.1
    have HU := hide (show -((val [u % 4294967296, u / 4294967296] : Nat) : Int) = n by rw [e0]; omega)
    have hn0 : n < 0 := hn
    obtain ⟨lo, hlo⟩ : ∃ lo, u % 4294967296 = lo := ⟨_, rfl⟩
    obtain ⟨hi, hhi⟩ : ∃ hi, u / 4294967296 = hi := ⟨_, rfl⟩
    rw [hlo] at hlo' HU
    rw [hhi] at hhi' HU
    have hlob : lo < 4294967296 := by omega
    have hhib : hi < 4294967296 := by omega
    clear hu hlo hhi
    go_enter Tryz.func9, Tryz.ntmps9
    have hb := Below.refl w.heap.size w
    have hz := Bk.new w false (.slice none 0 0)
    replace hb := hb.alloc hb.size (.cells #[.bool false, (.slice none 0 0)] 26)
    have a1 := lit2 (w.alloc (.cells #[.bool false, (.slice none 0 0)] 26)) lo hi (by first | decide | omega) (by first | decide | omega)
    simp only [Bk.size_alloc] at a1
    replace hz := hz.alloc (.cells #[.int .u32 (lo : Int), .int .u32 (hi : Int)] 56)
    replace hb := hb.alloc hb.size (.cells #[.int .u32 (lo : Int), .int .u32 (hi : Int)] 56)
    go_wp2_with fail
    refine (make_any true n a1 (by simp) (by rw [if_pos rfl]; exact HU.out)).mono ?_
    rintro e w_1 ⟨v', rfl, hv, hb_1⟩
    replace hz := hz.below hb_1 (Nat.le_refl _)
    replace a1 := a1.below hb_1 (Nat.le_refl _)
    replace hb := hb.trans (hb_1.mono hb.size)
    clear hb_1
    obtain ⟨sb, o5, n5, c5, rfl⟩ := hv.open2
    have c9 := hz.facts
    have d := (hz.store sb (.slice o5 n5 c5)).facts
    go_wp2
    refine bodyPost_ret (v := .agg #[.bool sb, .slice o5 n5 c5]) (by simp [results, Tryz.results9, go_sem, d.1, d.2.1]) rfl ?_
    exact ⟨_, rfl, (hv.only (Bk.only _ _ _ _) (by first | assumption | (simp; done) | omega | (simp; omega))).mono (by first | assumption | (simp; omega) | omega), (hb.setCell (by simp <;> omega) _).setCell (by simp <;> omega) _⟩
  · obtain ⟨u, hu⟩ : ∃ u : Nat, IntKind.u64.wrap n = (u : Int) ∧ n = (u : Int) := ⟨n.natAbs, by rw [IntKind.wrap_u64]; omega, by omega⟩
    have hub : u < 18446744073709551616 := by omega
    have hlo' : (u : Int) % 4294967296 = ((u % 4294967296 : Nat) : Int) := by omega
    have hhi' : (u : Int) / 4294967296 = ((u / 4294967296 : Nat) : Int) := by omega
    have hu1 := hu.1
    have HU := hide (show ((val [u % 4294967296, u / 4294967296] : Nat) : Int) = n by rw [e0]; omega)
    have hn0 : (n < 0) = False := eq_false hn
    obtain ⟨lo, hlo⟩ : ∃ lo, u % 4294967296 = lo := ⟨_, rfl⟩
    obtain ⟨hi, hhi⟩ : ∃ hi, u / 4294967296 = hi := ⟨_, rfl⟩
    rw [hlo] at hlo' HU
    rw [hhi] at hhi' HU
    have hlob : lo < 4294967296 := by omega
    have hhib : hi < 4294967296 := by omega
    clear hu hlo hhi
    go_enter Tryz.func9, Tryz.ntmps9
    have hb := Below.refl w.heap.size w
    have hz := Bk.new w false (.slice none 0 0)
    replace hb := hb.alloc hb.size (.cells #[.bool false, (.slice none 0 0)] 26)
    have a1 := lit2 (w.alloc (.cells #[.bool false, (.slice none 0 0)] 26)) lo hi (by first | decide | omega) (by first | decide | omega)
    simp only [Bk.size_alloc] at a1
    replace hz := hz.alloc (.cells #[.int .u32 (lo : Int), .int .u32 (hi : Int)] 56)
    replace hb := hb.alloc hb.size (.cells #[.int .u32 (lo : Int), .int .u32 (hi : Int)] 56)
    go_wp2_with fail
    refine (make_any false n a1 (by simp) (by rw [if_neg (by simp)]; exact HU.out)).mono ?_
    rintro e w_1 ⟨v', rfl, hv, hb_1⟩
    replace hz := hz.below hb_1 (Nat.le_refl _)
    replace a1 := a1.below hb_1 (Nat.le_refl _)
    replace hb := hb.trans (hb_1.mono hb.size)
    clear hb_1
    obtain ⟨sb, o5, n5, c5, rfl⟩ := hv.open2
    have c9 := hz.facts
    have d := (hz.store sb (.slice o5 n5 c5)).facts
    go_wp2
    refine bodyPost_ret (v := .agg #[.bool sb, .slice o5 n5 c5]) (by simp [results, Tryz.results9, go_sem, d.1, d.2.1]) rfl ?_
    exact ⟨_, rfl, (hv.only (Bk.only _ _ _ _) (by first | assumption | (simp; done) | omega | (simp; omega))).mono (by first | assumption | (simp; omega) | omega), (hb.setCell (by simp <;> omega) _).setCell (by simp <;> omega) _⟩
theorem zlen_i (n : Int) (hlo : -9223372036854775808 ≤ n) (hhi : n ≤ 9223372036854775807) : (dig n.natAbs).length ≤ 2 :=
  dig_length_le (show n.natAbs < pw 2 from Nat.lt_of_lt_of_le (show n.natAbs < 18446744073709551616 by omega) (by decide))
set_option maxHeartbeats 1000000 in
set_option maxRecDepth 20000 in
/-- zint.Text of a number below 0. -/
theorem ztext_neg {w : World} {v : Value} {z : Int} {l : Nat} (h : ZN w v z l) (hl : l ≤ 1000000000) (hz0 : z < 0) (hsl : (Lib.decDigits z.natAbs).length ≤ 1000000000000000) (htab : Lib.TabIs Tryz.prog w p10 .u64 Lib.pow10Tab) :
    Calls Tryz.prog 45 #[v] w fun e w' => e = .returned (.string ⟨((45 : UInt8) :: Lib.decDigits z.natAbs).toArray⟩) ∧ Below w.heap.size w w' := by
  have htabs := Lib.tabBelow_of_tabIs htab
  have hzn := h
  obtain ⟨neg, oa, cap, xs, rfl, hcap, hr, hz, hxl⟩ := h.open_
  have hv : val xs = z.natAbs := by rw [← hz, zv_abs]
  have hsg : z.sign = -1 := Int.sign_eq_neg_one_of_neg hz0
  have HV := hide (And.intro hv hsg)
  obtain ⟨S, hS⟩ : ∃ S, Lib.decDigits z.natAbs = S := ⟨_, rfl⟩
  have HS := hide hS
  rw [hS] at hsl ⊢
  have hno : ¬ 9223372036854775807 < 1 + S.length := by omega
  clear hz hv h hz0 hS hsg
  go_enter Tryz.func45, Tryz.ntmps45
  have hb := Below.refl w.heap.size w
  have hp := Bk.new w neg (.slice oa xs.length cap)
  replace hr := hr.alloc (.cells #[.bool neg, (.slice oa xs.length cap)] 26)
  replace hzn := hzn.alloc (.cells #[.bool neg, (.slice oa xs.length cap)] 26)
  replace hb := hb.alloc hb.size (.cells #[.bool neg, (.slice oa xs.length cap)] 26)
  go_wp2_with fail
  refine (text_rd hr (by omega) (htabs _ hb)).mono ?_
  rintro e w_1 ⟨rfl, hb_1⟩
  replace hr := hr.below hb_1 (Nat.le_refl _)
  replace hzn := hzn.below hb_1 (Nat.le_refl _)
  replace hp := hp.below hb_1 (Nat.le_refl _)
  replace hb := hb.trans (hb_1.mono hb.size)
  clear hb_1
  rw [HV.out.1, HS.out]
  have c0 := hp.facts
  go_wp2_with fail
  refine (zsign_any hzn hl).mono ?_
  rintro e w_2 ⟨rfl, hb_2⟩
  replace hr := hr.below hb_2 (Nat.le_refl _)
  replace hzn := hzn.below hb_2 (Nat.le_refl _)
  replace hp := hp.below hb_2 (Nat.le_refl _)
  replace hb := hb.trans (hb_2.mono hb.size)
  clear hb_2
  rw [HV.out.2]
  go_wp2
  go_ret
  refine ⟨?_, hb⟩
  congr 2
/-- A block that holds a sign and a slice. -/
def Bx (w : World) (b : Nat) : Prop := ∃ neg oa n c, Bk w b neg (.slice oa n c)
theorem Bk.bx {w : World} {b : Nat} {neg : Bool} {oa : Option Addr} {n c : Nat} (h : Bk w b neg (.slice oa n c)) : Bx w b := ⟨neg, oa, n, c, h⟩
theorem Bx.ne {w : World} {b c off : Nat} {d : Nat} (h : Bx w b) (hc : w.cell? ⟨c, off, none⟩ = some (.int .u32 (d : Int))) : c ≠ b := by
  rintro rfl
  obtain ⟨neg, oa, n, k, hb⟩ := h
  unfold Bk at hb
  simp only [World.cell?, hb] at hc
  rcases off with _ | _ | off
  · simp at hc
  · simp at hc
  · simp at hc
theorem Cells.frame {w w' : World} {b : Nat} {oa : Option Addr} {ds : List Nat} (h : Cells w oa ds) (hb : Bx w b) (ho : Only b w w') : Cells w' oa ds := by
  by_cases hne : ds = []
  · exact .inl hne
  · have h2 := h
    obtain ⟨c, off, e, hc⟩ := h2.resolve_left hne
    refine h.only ho ?_
    intro a ha
    rw [e] at ha
    cases ha
    exact hb.ne (hc 0 (List.length_pos_iff.2 hne))
theorem Rd.frame {w w' : World} {b : Nat} {v : Value} {ds : List Nat} (h : Rd w v ds) (hb : Bx w b) (ho : Only b w w') : Rd w' v ds := by
  obtain ⟨oa, cap, hv, hc, ok, hx⟩ := h
  exact ⟨oa, cap, hv, hc, ok, hx.frame hb ho⟩
theorem ZC.frame {w w' : World} {b : Nat} {v : Value} {z : Int} (h : ZC w v z) (hb : Bx w b) (ho : Only b w w') : ZC w' v z := by
  obtain ⟨s, hv, hr⟩ := h
  exact ⟨s, hv, hr.frame hb ho⟩
theorem ZC.open2 {w : World} {v : Value} {z : Int} (h : ZC w v z) : ∃ sb oa n cap, v = .agg #[.bool sb, .slice oa n cap] := by
  obtain ⟨s, rfl, oa, cap, rfl, _⟩ := h
  exact ⟨_, oa, _, cap, rfl⟩
end Go.Proofs.YtlomgfgedkkhkaaGreatDoor
