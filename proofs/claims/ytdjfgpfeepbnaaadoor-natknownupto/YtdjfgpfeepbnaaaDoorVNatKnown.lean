/- The law NatKnown returns true, and writes nothing that was there. -/
import Derived.Test.YtdjfgpfeepbnaaaDoorR2
import Derived.Test.YtdjfgpfeepbnaaaDoorD10
import Derived.Test.YtdjfgpfeepbnaaaDoorW12
namespace Go.Proofs.YtdjfgpfeepbnaaaDoor
open Go.RowKit Dig

theorem lit_size (w : World) (o : Obj) : (w.alloc o).heap.size = w.heap.size + 1 := by simp
theorem lit3 (w : World) (d e f : Nat) (h : d < 4294967296) (k : e < 4294967296) (l : f < 4294967296) : Rd (w.alloc (.cells #[.int .u32 (d : Int), .int .u32 (e : Int), .int .u32 (f : Int)] 26)) (.slice (some ⟨w.heap.size, 0, none⟩) 3 3) [d, e, f] := by
  have hr : Row (w.alloc (.cells #[.int .u32 (d : Int), .int .u32 (e : Int), .int .u32 (f : Int)] 26)) w.heap.size [d, e, f] := Row.new w [d, e, f] (OK.cons h (OK.cons k (OK.cons l OK.nil)))
  exact ⟨_, 3, rfl, Nat.le_refl _, hr.2, hr.cells⟩
theorem dige {N : Nat} {xs : List Nat} (ok : OK xs) (hs : strip xs = xs) (h : val xs = N) : dig N = xs := by rw [← h, dig_val ok, hs]

theorem ist {xs : List Nat} (ys : List Nat) (h : xs = strip ys) : decide (xs = strip ys) = true := by simp [h]

theorem shl_rd0 {w : World} {va : Value} {xs : List Nat} (n : Int) (hx : Rd w va xs) (hxl : xs.length ≤ 100000000000) :
    Calls Tryd.prog 17 #[va, .int .i64 n] w fun e w' => ∃ v, e = .returned (.tuple #[v, .int .i64 (shlI n)]) ∧ Own w' w.heap.size v (shlD (val xs) n) ∧ Below w.heap.size w w' := by
  obtain ⟨oa, ca, rfl, hca, okx, hcx⟩ := hx
  exact shl_any oa ca xs n w hxl hca okx hcx
theorem shr_rd0 {w : World} {va : Value} {xs : List Nat} (n : Int) (hx : Rd w va xs) (hxl : xs.length ≤ 100000000000) (hn : n ≤ 9223372036854775807) :
    Calls Tryd.prog 18 #[va, .int .i64 n] w fun e w' => ∃ v, e = .returned (.tuple #[v, .int .i64 (shrI n)]) ∧ Own w' w.heap.size v (shrD (val xs) n) ∧ Below w.heap.size w w' := by
  obtain ⟨oa, ca, rfl, hca, okx, hcx⟩ := hx
  exact shr_any oa ca xs n w hxl hca okx hcx hn
/-- All bits shifted out. -/
theorem shr_out {w : World} {va : Value} {xs : List Nat} (n : Int) (hx : Rd w va xs) (hxl : xs.length ≤ 100000000000) (hlo : 3 ≤ n) (hn : n ≤ 9223372036854775807) (hv : val xs < 8) :
    Calls Tryd.prog 18 #[va, .int .i64 n] w fun e w' => ∃ v, e = .returned (.tuple #[v, .int .i64 0]) ∧ Own w' w.heap.size v [] ∧ Below w.heap.size w w' := by
  have h := shr_rd0 n hx hxl hn
  have e1 : shrI n = 0 := by unfold shrI; rw [if_neg (by omega)]
  have e2 : shrD (val xs) n = [] := by
    unfold shrD; rw [if_neg (by omega), Nat.div_eq_of_lt, dig_zero]
    exact Nat.lt_of_lt_of_le hv (Nat.pow_le_pow_right (n := 2) (by decide) (show 3 ≤ n.toNat by omega))
  rw [e1, e2] at h
  exact h
theorem pow_big0 {w : World} {va : Value} {xs : List Nat} (n : Int) (hx : Rd w va xs) (hxl : xs.length ≤ 1048576) (hn : 0 ≤ n) (h1 : 1 < bitsN (val xs)) (h2 : 65536 / (bitsN (val xs) : Int) < n) :
    Calls Tryd.prog 19 #[va, .int .i64 n] w fun e w' => ∃ v, e = .returned (.tuple #[v, .int .i64 12]) ∧ Own w' w.heap.size v [] ∧ Below w.heap.size w w' := by
  have hbl := bitsN_bound2 (val_lt hx.ok)
  obtain ⟨b, hb'⟩ : ∃ b, bitsN (val xs) = b := ⟨_, rfl⟩
  rw [hb'] at h1 h2 hbl
  have HB := hide hb'
  clear hb'
  have h1i : (1 : Int) < (b : Int) := by omega
  go_enter Tryd.func19, Tryd.ntmps19
  have hb := Below.refl w.heap.size w
  go_wp2_with fail
  refine (bits_rd' hx (by omega)).mono ?_
  rintro e w_1 ⟨rfl, hb_1⟩
  replace hx := hx.below hb_1 (Nat.le_refl _)
  replace hb := hb.trans (hb_1.mono hb.size)
  clear hb_1
  rw [HB.out]
  go_wp2
  go_ret2
  exact ⟨_, rfl, Own.nil _ _ _, hb⟩
theorem pow_one {w : World} {va : Value} (n : Nat) (hx : Rd w va [1]) (hn : n ≤ 9223372036854775807) :
    Calls Tryd.prog 19 #[va, .int .i64 (n : Int)] w fun e w' => ∃ v, e = .returned (.tuple #[v, .int .i64 0]) ∧ Own w' w.heap.size v [1] ∧ Below w.heap.size w w' := by
  have v1 : val [1] = 1 := by simp [val]
  have d1 : dig 1 = [1] := by decide
  have h := pow_walk n hx (by simp) hn (fun k _ => by rw [v1, Nat.one_pow, d1]; simp) (.inl (by rw [v1]; decide))
  rw [v1, Nat.one_pow, d1] at h
  exact h

set_option maxHeartbeats 4000000 in
set_option maxRecDepth 20000 in
theorem walk_NatKnown (w : World) (htab : Lib.TabIs Tryd.prog w p10 .u64 Lib.pow10Tab) :
    Calls Tryd.prog 3 #[] w fun e w' => e = .returned (.bool true) ∧ Below w.heap.size w w' := by
  have htabs := Lib.tabBelow_of_tabIs htab
  have d1 : dig (val [0, 1] - val [1]) = [4294967295] := dige (by intro d hd; simp at hd; omega) (by simp [strip]) (by simp [val])
  have e1 : subI (val [0, 1]) (val [1]) = 0 := by simp [subI, val]
  have c1 : ¬ val [0, 1] < val [1] := by simp [val]
  have e2 : subI (val [1]) (val [2]) = 6 := by simp [subI, val]
  have c2 : val [1] < val [2] := by simp [val]
  have d2 : dig (val [1, 0, 0]) = [1] := dige (by intro d hd; simp at hd; omega) (by simp [strip]) (by simp [val])
  have d3 : dig (val [0]) = [] := by simp [val, dig_zero]
  have e3 : cmpI (val [5, 0]) (val [5]) = 0 := by simp [cmpI, val]
  have e4 : bitsN (val [0, 1]) = 33 := bitsN_unique (by decide) (by simp [val]) (by simp [val])
  have e5 : bitsN (val []) = 0 := by decide
  have d4 : dig (val [0, 0, 1] / val [0, 2147483648]) = [2] := dige (by intro d hd; simp at hd; omega) (by simp [strip]) (by simp [val])
  have d5 : dig (val [0, 0, 1] % val [0, 2147483648]) = [] := by simp [val, dig_zero]
  have n1 : val [0, 2147483648] ≠ 0 := by simp [val]
  have e6 : divI (val [0]) = 5 := by simp [divI, val]
  have d6 : divR (val [1]) (val [0]) = [] := by simp [divR, val]
  have d7 : dig (val [4294967295] * val [4294967295]) = [1, 4294967294] := dige (by intro d hd; simp at hd; omega) (by simp [strip]) (by simp [val])
  have l1 : shlI 31 = 0 := by decide
  have l2 : shlD (val [3]) 31 = [2147483648, 1] := by
    unfold shlD; rw [if_neg (by omega)]
    exact dige (by intro d hd; simp at hd; omega) (by simp [strip]) (by simp [val])
  have l3 : shlI 65537 = 12 := by decide
  have l4 : shlD (val [1]) 65537 = [] := by unfold shlD; rw [if_pos (by omega)]
  have l5 : shrI 1 = 0 := by decide
  have l6 : shrD (val [0, 1]) 1 = [2147483648] := by
    unfold shrD; rw [if_neg (by omega)]
    exact dige (by intro d hd; simp at hd; omega) (by simp [strip]) (by simp [val])
  have l7 : shlI (-1) = 9 := by decide
  have l8 : shlD (val []) (-1) = [] := by unfold shlD; rw [if_pos (by omega)]
  have pp1 : ∀ k, k ≤ 10 → (dig (val [10] ^ k)).length ≤ 1048576 := fun k hk => by
    refine Nat.le_trans (dig_length_le (k := 2) ?_) (by decide)
    have h1 : val [10] ^ k ≤ val [10] ^ 10 := Nat.pow_le_pow_right (by simp [val]) hk
    have h2 : val [10] ^ 10 < pw 2 := by simp [val, pw]
    omega
  have b10 : bitsN (val [10]) = 4 := bitsN_unique (by decide) (by simp [val]) (by simp [val])
  have pp2 : bitsN (val [10]) ≤ 1 ∨ ((10 : Nat) : Int) ≤ 65536 / (bitsN (val [10]) : Int) := .inr (by rw [b10]; decide)
  have p3' : ∀ k, k ≤ 0 → (dig (val [] ^ k)).length ≤ 1048576 := fun k hk => by
    obtain rfl : k = 0 := by omega
    rw [Nat.pow_zero]; decide
  have p4' : bitsN (val []) ≤ 1 ∨ ((0 : Nat) : Int) ≤ 65536 / (bitsN (val []) : Int) := .inl (by decide)
  have d8 : dig (val [10] ^ 10) = [1410065408, 2] := dige (by intro d hd; simp at hd; omega) (by simp [strip]) (by simp [val])
  have d9 : dig (val [] ^ 0) = [1] := by rw [Nat.pow_zero]; decide
  have b2 : bitsN (val [2]) = 2 := bitsN_unique (by decide) (by simp [val]) (by simp [val])
  have q1 : 1 < bitsN (val [2]) := by rw [b2]; decide
  have q2 : 65536 / (bitsN (val [2]) : Int) < 32769 := by rw [b2]; decide
  have d10 : dig (Nat.gcd (val [12]) (val [18])) = [6] := dige (by intro d hd; simp at hd; omega) (by simp [strip]) (by simp [val])
  have d11 : dig (Nat.gcd (val []) (val [7])) = [7] := dige (by intro d hd; simp at hd; omega) (by simp [strip]) (by simp [val])
  have r1 : parseI ⟨#[48, 48, 48, 52, 50, 57, 52, 57, 54, 55, 50, 57, 54]⟩ = 0 := by decide
  have r2 : parseD ⟨#[48, 48, 48, 52, 50, 57, 52, 57, 54, 55, 50, 57, 54]⟩ = [0, 1] := by
    unfold parseD; rw [if_neg (by decide), if_pos (by decide)]
    exact dige (by intro d hd; simp at hd; omega) (by simp [strip]) (by simp [val, pval])
  have r3 : parseI ⟨#[]⟩ = 7 := by decide
  have r4 : parseI ⟨#[43, 49]⟩ = 7 := by decide
  have d12 : dig 4 = [4] := by decide
  have d13 : dig 5 = [5] := by decide
  have t0 : Lib.decDigits (val []) = [48] := by simp [val, Lib.decDigits]
  go_enter Tryd.func3, Tryd.ntmps3
  have hb := Below.refl w.heap.size w
  have a1 := lit2 w 0 1 (by decide) (by decide)
  replace hb := hb.alloc hb.size (.cells #[.int .u32 (0 : Int), .int .u32 (1 : Int)] 26)
  have a2 := lit1 (w.alloc (.cells #[.int .u32 (0 : Int), .int .u32 (1 : Int)] 26)) 1 (by decide)
  simp only [lit_size] at a2
  replace a1 := a1.alloc (.cells #[.int .u32 (1 : Int)] 26)
  replace hb := hb.alloc hb.size (.cells #[.int .u32 (1 : Int)] 26)
  go_wp2_with fail
  refine (sub_rd a1 a2 (by simp) (by simp)).mono ?_
  rintro e w_1 ⟨va, rfl, ha, hb_1⟩
  replace a1 := a1.below hb_1 (Nat.le_refl _)
  replace a2 := a2.below hb_1 (Nat.le_refl _)
  replace hb := hb.trans (hb_1.mono hb.size)
  clear hb_1
  rw [if_neg c1, d1] at ha
  replace ha := ha.rd
  clear a1
  clear a2
  rw [e1]
  have a1 := lit1 w_1 1 (by decide)
  replace ha := ha.alloc (.cells #[.int .u32 (1 : Int)] 26)
  replace hb := hb.alloc hb.size (.cells #[.int .u32 (1 : Int)] 26)
  have a2 := lit1 (w_1.alloc (.cells #[.int .u32 (1 : Int)] 26)) 2 (by decide)
  simp only [lit_size] at a2
  replace ha := ha.alloc (.cells #[.int .u32 (2 : Int)] 26)
  replace a1 := a1.alloc (.cells #[.int .u32 (2 : Int)] 26)
  replace hb := hb.alloc hb.size (.cells #[.int .u32 (2 : Int)] 26)
  go_wp2_with fail
  refine (sub_rd a1 a2 (by simp) (by simp)).mono ?_
  rintro e w_2 ⟨vb, rfl, hvb, hb_2⟩
  replace ha := ha.below hb_2 (Nat.le_refl _)
  replace a1 := a1.below hb_2 (Nat.le_refl _)
  replace a2 := a2.below hb_2 (Nat.le_refl _)
  replace hb := hb.trans (hb_2.mono hb.size)
  clear hb_2
  rw [if_pos c2] at hvb
  replace hvb := hvb.rd
  clear a1
  clear a2
  rw [e2]
  go_wp2_with fail
  refine (awake_any _ (htabs _ hb)).mono ?_
  rintro e w_3 ⟨rfl, hb_3⟩
  replace ha := ha.below hb_3 (Nat.le_refl _)
  replace hvb := hvb.below hb_3 (Nat.le_refl _)
  replace hb := hb.trans (hb_3.mono hb.size)
  clear hb_3
  have a1 := lit3 w_3 1 0 0 (by decide) (by decide) (by decide)
  replace ha := ha.alloc (.cells #[.int .u32 (1 : Int), .int .u32 (0 : Int), .int .u32 (0 : Int)] 26)
  replace hvb := hvb.alloc (.cells #[.int .u32 (1 : Int), .int .u32 (0 : Int), .int .u32 (0 : Int)] 26)
  replace hb := hb.alloc hb.size (.cells #[.int .u32 (1 : Int), .int .u32 (0 : Int), .int .u32 (0 : Int)] 26)
  go_wp2_with fail
  refine (norm_rd a1 (by simp)).mono ?_
  rintro e w_4 ⟨v1, rfl, h1, hb_4⟩
  replace ha := ha.below hb_4 (Nat.le_refl _)
  replace hvb := hvb.below hb_4 (Nat.le_refl _)
  replace a1 := a1.below hb_4 (Nat.le_refl _)
  replace hb := hb.trans (hb_4.mono hb.size)
  clear hb_4
  rw [d2] at h1
  replace h1 := h1.rd
  clear a1
  have a1 := lit1 w_4 1 (by decide)
  replace ha := ha.alloc (.cells #[.int .u32 (1 : Int)] 26)
  replace hvb := hvb.alloc (.cells #[.int .u32 (1 : Int)] 26)
  replace h1 := h1.alloc (.cells #[.int .u32 (1 : Int)] 26)
  replace hb := hb.alloc hb.size (.cells #[.int .u32 (1 : Int)] 26)
  go_wp2_with fail
  refine (is_any _ _ _ _ _ (by simp) (by simp) h1 a1).mono ?_
  rintro e w_5 ⟨rfl, hb_5⟩
  replace ha := ha.below hb_5 (Nat.le_refl _)
  replace hvb := hvb.below hb_5 (Nat.le_refl _)
  replace h1 := h1.below hb_5 (Nat.le_refl _)
  replace a1 := a1.below hb_5 (Nat.le_refl _)
  replace hb := hb.trans (hb_5.mono hb.size)
  clear hb_5
  clear h1
  clear a1
  rw [ist _ (show _ = _ by simp [strip])]
  have a1 := lit1 w_5 0 (by decide)
  replace ha := ha.alloc (.cells #[.int .u32 (0 : Int)] 26)
  replace hvb := hvb.alloc (.cells #[.int .u32 (0 : Int)] 26)
  replace hb := hb.alloc hb.size (.cells #[.int .u32 (0 : Int)] 26)
  go_wp2_with fail
  refine (norm_rd a1 (by simp)).mono ?_
  rintro e w_6 ⟨v1, rfl, h1, hb_6⟩
  replace ha := ha.below hb_6 (Nat.le_refl _)
  replace hvb := hvb.below hb_6 (Nat.le_refl _)
  replace a1 := a1.below hb_6 (Nat.le_refl _)
  replace hb := hb.trans (hb_6.mono hb.size)
  clear hb_6
  rw [d3] at h1
  replace h1 := h1.rd
  clear a1
  obtain ⟨o1, p1, rfl, _, _, _⟩ := h1
  have a1 := lit2 w_6 5 0 (by decide) (by decide)
  replace ha := ha.alloc (.cells #[.int .u32 (5 : Int), .int .u32 (0 : Int)] 26)
  replace hvb := hvb.alloc (.cells #[.int .u32 (5 : Int), .int .u32 (0 : Int)] 26)
  replace hb := hb.alloc hb.size (.cells #[.int .u32 (5 : Int), .int .u32 (0 : Int)] 26)
  have a2 := lit1 (w_6.alloc (.cells #[.int .u32 (5 : Int), .int .u32 (0 : Int)] 26)) 5 (by decide)
  simp only [lit_size] at a2
  replace ha := ha.alloc (.cells #[.int .u32 (5 : Int)] 26)
  replace hvb := hvb.alloc (.cells #[.int .u32 (5 : Int)] 26)
  replace a1 := a1.alloc (.cells #[.int .u32 (5 : Int)] 26)
  replace hb := hb.alloc hb.size (.cells #[.int .u32 (5 : Int)] 26)
  go_wp2_with fail
  refine (cmp_rd a1 a2 (by simp) (by simp)).mono ?_
  rintro e w_7 ⟨rfl, hb_7⟩
  replace ha := ha.below hb_7 (Nat.le_refl _)
  replace hvb := hvb.below hb_7 (Nat.le_refl _)
  replace a1 := a1.below hb_7 (Nat.le_refl _)
  replace a2 := a2.below hb_7 (Nat.le_refl _)
  replace hb := hb.trans (hb_7.mono hb.size)
  clear hb_7
  rw [e3]
  clear a1
  clear a2
  have a1 := lit2 w_7 0 1 (by decide) (by decide)
  replace ha := ha.alloc (.cells #[.int .u32 (0 : Int), .int .u32 (1 : Int)] 26)
  replace hvb := hvb.alloc (.cells #[.int .u32 (0 : Int), .int .u32 (1 : Int)] 26)
  replace hb := hb.alloc hb.size (.cells #[.int .u32 (0 : Int), .int .u32 (1 : Int)] 26)
  go_wp2_with fail
  refine (bits_rd' a1 (by simp)).mono ?_
  rintro e w_8 ⟨rfl, hb_8⟩
  replace ha := ha.below hb_8 (Nat.le_refl _)
  replace hvb := hvb.below hb_8 (Nat.le_refl _)
  replace a1 := a1.below hb_8 (Nat.le_refl _)
  replace hb := hb.trans (hb_8.mono hb.size)
  clear hb_8
  rw [e4]
  clear a1
  go_wp2_with fail
  refine (bits_rd' (Rd.nil _) (by simp)).mono ?_
  rintro e w_9 ⟨rfl, hb_9⟩
  replace ha := ha.below hb_9 (Nat.le_refl _)
  replace hvb := hvb.below hb_9 (Nat.le_refl _)
  replace hb := hb.trans (hb_9.mono hb.size)
  clear hb_9
  rw [e5]
  have a1 := lit1 w_9 4294967295 (by decide)
  replace ha := ha.alloc (.cells #[.int .u32 (4294967295 : Int)] 26)
  replace hvb := hvb.alloc (.cells #[.int .u32 (4294967295 : Int)] 26)
  replace hb := hb.alloc hb.size (.cells #[.int .u32 (4294967295 : Int)] 26)
  go_wp2_with fail
  refine (is_any _ _ _ _ _ (by simp) (by simp) ha a1).mono ?_
  rintro e w_10 ⟨rfl, hb_10⟩
  replace ha := ha.below hb_10 (Nat.le_refl _)
  replace hvb := hvb.below hb_10 (Nat.le_refl _)
  replace a1 := a1.below hb_10 (Nat.le_refl _)
  replace hb := hb.trans (hb_10.mono hb.size)
  clear hb_10
  clear ha
  clear a1
  rw [ist _ (show _ = _ by simp [strip])]
  obtain ⟨o2, p2, rfl, _, _, _⟩ := hvb
  have a1 := lit3 w_10 0 0 1 (by decide) (by decide) (by decide)
  replace hb := hb.alloc hb.size (.cells #[.int .u32 (0 : Int), .int .u32 (0 : Int), .int .u32 (1 : Int)] 26)
  have a2 := lit2 (w_10.alloc (.cells #[.int .u32 (0 : Int), .int .u32 (0 : Int), .int .u32 (1 : Int)] 26)) 0 2147483648 (by decide) (by decide)
  simp only [lit_size] at a2
  replace a1 := a1.alloc (.cells #[.int .u32 (0 : Int), .int .u32 (2147483648 : Int)] 26)
  replace hb := hb.alloc hb.size (.cells #[.int .u32 (0 : Int), .int .u32 (2147483648 : Int)] 26)
  go_wp2_with fail
  refine (divMod_pos a1 a2 n1 (by simp) (by simp)).mono ?_
  rintro e w_11 ⟨vq, vr, rfl, hq, hr, _, hb_11⟩
  replace a1 := a1.below hb_11 (Nat.le_refl _)
  replace a2 := a2.below hb_11 (Nat.le_refl _)
  replace hb := hb.trans (hb_11.mono hb.size)
  clear hb_11
  rw [d4] at hq
  rw [d5] at hr
  replace hq := hq.rd
  replace hr := hr.rd
  clear a1
  clear a2
  have a1 := lit1 w_11 1 (by decide)
  replace hq := hq.alloc (.cells #[.int .u32 (1 : Int)] 26)
  replace hr := hr.alloc (.cells #[.int .u32 (1 : Int)] 26)
  replace hb := hb.alloc hb.size (.cells #[.int .u32 (1 : Int)] 26)
  have a2 := lit1 (w_11.alloc (.cells #[.int .u32 (1 : Int)] 26)) 0 (by decide)
  simp only [lit_size] at a2
  replace hq := hq.alloc (.cells #[.int .u32 (0 : Int)] 26)
  replace hr := hr.alloc (.cells #[.int .u32 (0 : Int)] 26)
  replace a1 := a1.alloc (.cells #[.int .u32 (0 : Int)] 26)
  replace hb := hb.alloc hb.size (.cells #[.int .u32 (0 : Int)] 26)
  go_wp2_with fail
  refine (divMod_rd a1 a2 (by simp) (by simp)).mono ?_
  rintro e w_12 ⟨vq2, vr2, rfl, _, _, _, hb_12⟩
  replace hq := hq.below hb_12 (Nat.le_refl _)
  replace hr := hr.below hb_12 (Nat.le_refl _)
  replace a1 := a1.below hb_12 (Nat.le_refl _)
  replace a2 := a2.below hb_12 (Nat.le_refl _)
  replace hb := hb.trans (hb_12.mono hb.size)
  clear hb_12
  rw [e6]
  clear a1
  clear a2
  have a1 := lit1 w_12 4294967295 (by decide)
  replace hq := hq.alloc (.cells #[.int .u32 (4294967295 : Int)] 26)
  replace hr := hr.alloc (.cells #[.int .u32 (4294967295 : Int)] 26)
  replace hb := hb.alloc hb.size (.cells #[.int .u32 (4294967295 : Int)] 26)
  have a2 := lit1 (w_12.alloc (.cells #[.int .u32 (4294967295 : Int)] 26)) 4294967295 (by decide)
  simp only [lit_size] at a2
  replace hq := hq.alloc (.cells #[.int .u32 (4294967295 : Int)] 26)
  replace hr := hr.alloc (.cells #[.int .u32 (4294967295 : Int)] 26)
  replace a1 := a1.alloc (.cells #[.int .u32 (4294967295 : Int)] 26)
  replace hb := hb.alloc hb.size (.cells #[.int .u32 (4294967295 : Int)] 26)
  go_wp2_with fail
  refine (mul_rd a1 a2 (by simp) (by simp)).mono ?_
  rintro e w_13 ⟨v1, rfl, h1, hb_13⟩
  replace hq := hq.below hb_13 (Nat.le_refl _)
  replace hr := hr.below hb_13 (Nat.le_refl _)
  replace a1 := a1.below hb_13 (Nat.le_refl _)
  replace a2 := a2.below hb_13 (Nat.le_refl _)
  replace hb := hb.trans (hb_13.mono hb.size)
  clear hb_13
  rw [d7] at h1
  replace h1 := h1.rd
  clear a1
  clear a2
  have a1 := lit2 w_13 1 4294967294 (by decide) (by decide)
  replace hq := hq.alloc (.cells #[.int .u32 (1 : Int), .int .u32 (4294967294 : Int)] 26)
  replace hr := hr.alloc (.cells #[.int .u32 (1 : Int), .int .u32 (4294967294 : Int)] 26)
  replace h1 := h1.alloc (.cells #[.int .u32 (1 : Int), .int .u32 (4294967294 : Int)] 26)
  replace hb := hb.alloc hb.size (.cells #[.int .u32 (1 : Int), .int .u32 (4294967294 : Int)] 26)
  go_wp2_with fail
  refine (is_any _ _ _ _ _ (by simp) (by simp) h1 a1).mono ?_
  rintro e w_14 ⟨rfl, hb_14⟩
  replace hq := hq.below hb_14 (Nat.le_refl _)
  replace hr := hr.below hb_14 (Nat.le_refl _)
  replace h1 := h1.below hb_14 (Nat.le_refl _)
  replace a1 := a1.below hb_14 (Nat.le_refl _)
  replace hb := hb.trans (hb_14.mono hb.size)
  clear hb_14
  clear h1
  clear a1
  rw [ist _ (show _ = _ by simp [strip])]
  have a1 := lit1 w_14 2 (by decide)
  replace hq := hq.alloc (.cells #[.int .u32 (2 : Int)] 26)
  replace hr := hr.alloc (.cells #[.int .u32 (2 : Int)] 26)
  replace hb := hb.alloc hb.size (.cells #[.int .u32 (2 : Int)] 26)
  go_wp2_with fail
  refine (is_any _ _ _ _ _ (by simp) (by simp) hq a1).mono ?_
  rintro e w_15 ⟨rfl, hb_15⟩
  replace hq := hq.below hb_15 (Nat.le_refl _)
  replace hr := hr.below hb_15 (Nat.le_refl _)
  replace a1 := a1.below hb_15 (Nat.le_refl _)
  replace hb := hb.trans (hb_15.mono hb.size)
  clear hb_15
  clear hq
  clear a1
  rw [ist _ (show _ = _ by simp [strip])]
  obtain ⟨o3, p3, rfl, _, _, _⟩ := hr
  have a1 := lit1 w_15 3 (by decide)
  replace hb := hb.alloc hb.size (.cells #[.int .u32 (3 : Int)] 26)
  go_wp2_with fail
  refine (shl_rd0 31 a1 (by simp)).mono ?_
  rintro e w_16 ⟨va2, rfl, ha2, hb_16⟩
  replace a1 := a1.below hb_16 (Nat.le_refl _)
  replace hb := hb.trans (hb_16.mono hb.size)
  clear hb_16
  rw [l1]
  rw [l2] at ha2
  replace ha2 := ha2.rd
  clear a1
  have a1 := lit1 w_16 1 (by decide)
  replace ha2 := ha2.alloc (.cells #[.int .u32 (1 : Int)] 26)
  replace hb := hb.alloc hb.size (.cells #[.int .u32 (1 : Int)] 26)
  go_wp2_with fail
  refine (shl_rd0 65537 a1 (by simp)).mono ?_
  rintro e w_17 ⟨vx1, rfl, _, hb_17⟩
  replace ha2 := ha2.below hb_17 (Nat.le_refl _)
  replace a1 := a1.below hb_17 (Nat.le_refl _)
  replace hb := hb.trans (hb_17.mono hb.size)
  clear hb_17
  rw [l3]
  clear a1
  have a1 := lit2 w_17 0 1 (by decide) (by decide)
  replace ha2 := ha2.alloc (.cells #[.int .u32 (0 : Int), .int .u32 (1 : Int)] 26)
  replace hb := hb.alloc hb.size (.cells #[.int .u32 (0 : Int), .int .u32 (1 : Int)] 26)
  go_wp2_with fail
  refine (shr_rd0 1 a1 (by simp) (by decide)).mono ?_
  rintro e w_18 ⟨vb2, rfl, hb2, hb_18⟩
  replace ha2 := ha2.below hb_18 (Nat.le_refl _)
  replace a1 := a1.below hb_18 (Nat.le_refl _)
  replace hb := hb.trans (hb_18.mono hb.size)
  clear hb_18
  rw [l5]
  rw [l6] at hb2
  replace hb2 := hb2.rd
  clear a1
  have a1 := lit1 w_18 5 (by decide)
  replace ha2 := ha2.alloc (.cells #[.int .u32 (5 : Int)] 26)
  replace hb2 := hb2.alloc (.cells #[.int .u32 (5 : Int)] 26)
  replace hb := hb.alloc hb.size (.cells #[.int .u32 (5 : Int)] 26)
  go_wp2_with fail
  refine (shr_out 4611686018427387904 a1 (by simp) (by decide) (by decide) (by simp [val])).mono ?_
  rintro e w_19 ⟨vc, rfl, hc, hb_19⟩
  replace ha2 := ha2.below hb_19 (Nat.le_refl _)
  replace hb2 := hb2.below hb_19 (Nat.le_refl _)
  replace a1 := a1.below hb_19 (Nat.le_refl _)
  replace hb := hb.trans (hb_19.mono hb.size)
  clear hb_19
  replace hc := hc.rd
  clear a1
  go_wp2_with fail
  refine (shl_rd0 (-1) (Rd.nil _) (by simp)).mono ?_
  rintro e w_20 ⟨vx2, rfl, _, hb_20⟩
  replace ha2 := ha2.below hb_20 (Nat.le_refl _)
  replace hb2 := hb2.below hb_20 (Nat.le_refl _)
  replace hc := hc.below hb_20 (Nat.le_refl _)
  replace hb := hb.trans (hb_20.mono hb.size)
  clear hb_20
  rw [l7]
  obtain ⟨o4, p4, rfl, _, _, _⟩ := hc
  have a1 := lit2 w_20 2147483648 1 (by decide) (by decide)
  replace ha2 := ha2.alloc (.cells #[.int .u32 (2147483648 : Int), .int .u32 (1 : Int)] 26)
  replace hb2 := hb2.alloc (.cells #[.int .u32 (2147483648 : Int), .int .u32 (1 : Int)] 26)
  replace hb := hb.alloc hb.size (.cells #[.int .u32 (2147483648 : Int), .int .u32 (1 : Int)] 26)
  go_wp2_with fail
  refine (is_any _ _ _ _ _ (by simp) (by simp) ha2 a1).mono ?_
  rintro e w_21 ⟨rfl, hb_21⟩
  replace ha2 := ha2.below hb_21 (Nat.le_refl _)
  replace hb2 := hb2.below hb_21 (Nat.le_refl _)
  replace a1 := a1.below hb_21 (Nat.le_refl _)
  replace hb := hb.trans (hb_21.mono hb.size)
  clear hb_21
  clear ha2
  clear a1
  rw [ist _ (show _ = _ by simp [strip])]
  have a1 := lit1 w_21 2147483648 (by decide)
  replace hb2 := hb2.alloc (.cells #[.int .u32 (2147483648 : Int)] 26)
  replace hb := hb.alloc hb.size (.cells #[.int .u32 (2147483648 : Int)] 26)
  go_wp2_with fail
  refine (is_any _ _ _ _ _ (by simp) (by simp) hb2 a1).mono ?_
  rintro e w_22 ⟨rfl, hb_22⟩
  replace hb2 := hb2.below hb_22 (Nat.le_refl _)
  replace a1 := a1.below hb_22 (Nat.le_refl _)
  replace hb := hb.trans (hb_22.mono hb.size)
  clear hb_22
  clear hb2
  clear a1
  rw [ist _ (show _ = _ by simp [strip])]
  have a1 := lit1 w_22 10 (by decide)
  replace hb := hb.alloc hb.size (.cells #[.int .u32 (10 : Int)] 26)
  go_wp2_with fail
  refine (pow_walk 10 a1 (by simp) (by decide) pp1 pp2).mono ?_
  rintro e w_23 ⟨va3, rfl, ha3, hb_23⟩
  replace a1 := a1.below hb_23 (Nat.le_refl _)
  replace hb := hb.trans (hb_23.mono hb.size)
  clear hb_23
  rw [d8] at ha3
  replace ha3 := ha3.rd
  clear a1
  go_wp2_with fail
  refine (pow_walk 0 (Rd.nil _) (by simp) (by decide) p3' p4').mono ?_
  rintro e w_24 ⟨vb3, rfl, hb3, hb_24⟩
  replace ha3 := ha3.below hb_24 (Nat.le_refl _)
  replace hb := hb.trans (hb_24.mono hb.size)
  clear hb_24
  rw [d9] at hb3
  replace hb3 := hb3.rd
  have a1 := lit1 w_24 2 (by decide)
  replace ha3 := ha3.alloc (.cells #[.int .u32 (2 : Int)] 26)
  replace hb3 := hb3.alloc (.cells #[.int .u32 (2 : Int)] 26)
  replace hb := hb.alloc hb.size (.cells #[.int .u32 (2 : Int)] 26)
  go_wp2_with fail
  refine (pow_big0 32769 a1 (by simp) (by decide) q1 q2).mono ?_
  rintro e w_25 ⟨vx3, rfl, _, hb_25⟩
  replace ha3 := ha3.below hb_25 (Nat.le_refl _)
  replace hb3 := hb3.below hb_25 (Nat.le_refl _)
  replace a1 := a1.below hb_25 (Nat.le_refl _)
  replace hb := hb.trans (hb_25.mono hb.size)
  clear hb_25
  clear a1
  have a1 := lit1 w_25 1 (by decide)
  replace ha3 := ha3.alloc (.cells #[.int .u32 (1 : Int)] 26)
  replace hb3 := hb3.alloc (.cells #[.int .u32 (1 : Int)] 26)
  replace hb := hb.alloc hb.size (.cells #[.int .u32 (1 : Int)] 26)
  go_wp2_with fail
  refine (pow_one 4611686018427387904 a1 (by decide)).mono ?_
  rintro e w_26 ⟨vc3, rfl, hc3, hb_26⟩
  replace ha3 := ha3.below hb_26 (Nat.le_refl _)
  replace hb3 := hb3.below hb_26 (Nat.le_refl _)
  replace a1 := a1.below hb_26 (Nat.le_refl _)
  replace hb := hb.trans (hb_26.mono hb.size)
  clear hb_26
  replace hc3 := hc3.rd
  clear a1
  have a1 := lit1 w_26 12 (by decide)
  replace ha3 := ha3.alloc (.cells #[.int .u32 (12 : Int)] 26)
  replace hb3 := hb3.alloc (.cells #[.int .u32 (12 : Int)] 26)
  replace hc3 := hc3.alloc (.cells #[.int .u32 (12 : Int)] 26)
  replace hb := hb.alloc hb.size (.cells #[.int .u32 (12 : Int)] 26)
  have a2 := lit1 (w_26.alloc (.cells #[.int .u32 (12 : Int)] 26)) 18 (by decide)
  simp only [lit_size] at a2
  replace ha3 := ha3.alloc (.cells #[.int .u32 (18 : Int)] 26)
  replace hb3 := hb3.alloc (.cells #[.int .u32 (18 : Int)] 26)
  replace hc3 := hc3.alloc (.cells #[.int .u32 (18 : Int)] 26)
  replace a1 := a1.alloc (.cells #[.int .u32 (18 : Int)] 26)
  replace hb := hb.alloc hb.size (.cells #[.int .u32 (18 : Int)] 26)
  go_wp2_with fail
  refine (gcd_rd a1 a2 (by simp) (by simp)).mono ?_
  rintro e w_27 ⟨v1, rfl, h1, hb_27⟩
  replace ha3 := ha3.below hb_27 (Nat.le_refl _)
  replace hb3 := hb3.below hb_27 (Nat.le_refl _)
  replace hc3 := hc3.below hb_27 (Nat.le_refl _)
  replace a1 := a1.below hb_27 (Nat.le_refl _)
  replace a2 := a2.below hb_27 (Nat.le_refl _)
  replace hb := hb.trans (hb_27.mono hb.size)
  clear hb_27
  rw [d10] at h1
  replace h1 := h1.rd
  clear a1
  clear a2
  have a1 := lit1 w_27 6 (by decide)
  replace ha3 := ha3.alloc (.cells #[.int .u32 (6 : Int)] 26)
  replace hb3 := hb3.alloc (.cells #[.int .u32 (6 : Int)] 26)
  replace hc3 := hc3.alloc (.cells #[.int .u32 (6 : Int)] 26)
  replace h1 := h1.alloc (.cells #[.int .u32 (6 : Int)] 26)
  replace hb := hb.alloc hb.size (.cells #[.int .u32 (6 : Int)] 26)
  go_wp2_with fail
  refine (is_any _ _ _ _ _ (by simp) (by simp) h1 a1).mono ?_
  rintro e w_28 ⟨rfl, hb_28⟩
  replace ha3 := ha3.below hb_28 (Nat.le_refl _)
  replace hb3 := hb3.below hb_28 (Nat.le_refl _)
  replace hc3 := hc3.below hb_28 (Nat.le_refl _)
  replace h1 := h1.below hb_28 (Nat.le_refl _)
  replace a1 := a1.below hb_28 (Nat.le_refl _)
  replace hb := hb.trans (hb_28.mono hb.size)
  clear hb_28
  clear h1
  clear a1
  rw [ist _ (show _ = _ by simp [strip])]
  have a1 := lit1 w_28 7 (by decide)
  replace ha3 := ha3.alloc (.cells #[.int .u32 (7 : Int)] 26)
  replace hb3 := hb3.alloc (.cells #[.int .u32 (7 : Int)] 26)
  replace hc3 := hc3.alloc (.cells #[.int .u32 (7 : Int)] 26)
  replace hb := hb.alloc hb.size (.cells #[.int .u32 (7 : Int)] 26)
  go_wp2_with fail
  refine (gcd_rd (Rd.nil _) a1 (by simp) (by simp)).mono ?_
  rintro e w_29 ⟨v1, rfl, h1, hb_29⟩
  replace ha3 := ha3.below hb_29 (Nat.le_refl _)
  replace hb3 := hb3.below hb_29 (Nat.le_refl _)
  replace hc3 := hc3.below hb_29 (Nat.le_refl _)
  replace a1 := a1.below hb_29 (Nat.le_refl _)
  replace hb := hb.trans (hb_29.mono hb.size)
  clear hb_29
  rw [d11] at h1
  replace h1 := h1.rd
  clear a1
  have a1 := lit1 w_29 7 (by decide)
  replace ha3 := ha3.alloc (.cells #[.int .u32 (7 : Int)] 26)
  replace hb3 := hb3.alloc (.cells #[.int .u32 (7 : Int)] 26)
  replace hc3 := hc3.alloc (.cells #[.int .u32 (7 : Int)] 26)
  replace h1 := h1.alloc (.cells #[.int .u32 (7 : Int)] 26)
  replace hb := hb.alloc hb.size (.cells #[.int .u32 (7 : Int)] 26)
  go_wp2_with fail
  refine (is_any _ _ _ _ _ (by simp) (by simp) h1 a1).mono ?_
  rintro e w_30 ⟨rfl, hb_30⟩
  replace ha3 := ha3.below hb_30 (Nat.le_refl _)
  replace hb3 := hb3.below hb_30 (Nat.le_refl _)
  replace hc3 := hc3.below hb_30 (Nat.le_refl _)
  replace h1 := h1.below hb_30 (Nat.le_refl _)
  replace a1 := a1.below hb_30 (Nat.le_refl _)
  replace hb := hb.trans (hb_30.mono hb.size)
  clear hb_30
  clear h1
  clear a1
  rw [ist _ (show _ = _ by simp [strip])]
  have a1 := lit2 w_30 1410065408 2 (by decide) (by decide)
  replace ha3 := ha3.alloc (.cells #[.int .u32 (1410065408 : Int), .int .u32 (2 : Int)] 26)
  replace hb3 := hb3.alloc (.cells #[.int .u32 (1410065408 : Int), .int .u32 (2 : Int)] 26)
  replace hc3 := hc3.alloc (.cells #[.int .u32 (1410065408 : Int), .int .u32 (2 : Int)] 26)
  replace hb := hb.alloc hb.size (.cells #[.int .u32 (1410065408 : Int), .int .u32 (2 : Int)] 26)
  go_wp2_with fail
  refine (is_any _ _ _ _ _ (by simp) (by simp) ha3 a1).mono ?_
  rintro e w_31 ⟨rfl, hb_31⟩
  replace ha3 := ha3.below hb_31 (Nat.le_refl _)
  replace hb3 := hb3.below hb_31 (Nat.le_refl _)
  replace hc3 := hc3.below hb_31 (Nat.le_refl _)
  replace a1 := a1.below hb_31 (Nat.le_refl _)
  replace hb := hb.trans (hb_31.mono hb.size)
  clear hb_31
  clear ha3
  clear a1
  rw [ist _ (show _ = _ by simp [strip])]
  have a1 := lit1 w_31 1 (by decide)
  replace hb3 := hb3.alloc (.cells #[.int .u32 (1 : Int)] 26)
  replace hc3 := hc3.alloc (.cells #[.int .u32 (1 : Int)] 26)
  replace hb := hb.alloc hb.size (.cells #[.int .u32 (1 : Int)] 26)
  go_wp2_with fail
  refine (is_any _ _ _ _ _ (by simp) (by simp) hb3 a1).mono ?_
  rintro e w_32 ⟨rfl, hb_32⟩
  replace hb3 := hb3.below hb_32 (Nat.le_refl _)
  replace hc3 := hc3.below hb_32 (Nat.le_refl _)
  replace a1 := a1.below hb_32 (Nat.le_refl _)
  replace hb := hb.trans (hb_32.mono hb.size)
  clear hb_32
  clear hb3
  clear a1
  rw [ist _ (show _ = _ by simp [strip])]
  have a1 := lit1 w_32 1 (by decide)
  replace hc3 := hc3.alloc (.cells #[.int .u32 (1 : Int)] 26)
  replace hb := hb.alloc hb.size (.cells #[.int .u32 (1 : Int)] 26)
  go_wp2_with fail
  refine (is_any _ _ _ _ _ (by simp) (by simp) hc3 a1).mono ?_
  rintro e w_33 ⟨rfl, hb_33⟩
  replace hc3 := hc3.below hb_33 (Nat.le_refl _)
  replace a1 := a1.below hb_33 (Nat.le_refl _)
  replace hb := hb.trans (hb_33.mono hb.size)
  clear hb_33
  clear hc3
  clear a1
  rw [ist _ (show _ = _ by simp [strip])]
  go_wp2_with fail
  refine (parse_any ⟨#[48, 48, 48, 52, 50, 57, 52, 57, 54, 55, 50, 57, 54]⟩ _ (by decide)).mono ?_
  rintro e w_34 ⟨va4, rfl, ha4, hb_34⟩
  replace hb := hb.trans (hb_34.mono hb.size)
  clear hb_34
  rw [r1]
  rw [r2] at ha4
  go_wp2_with fail
  refine (parse_any ⟨#[]⟩ _ (by decide)).mono ?_
  rintro e w_35 ⟨vx4, rfl, _, hb_35⟩
  replace ha4 := ha4.below hb_35 (Nat.le_refl _)
  replace hb := hb.trans (hb_35.mono hb.size)
  clear hb_35
  rw [r3]
  go_wp2_with fail
  refine (parse_any ⟨#[43, 49]⟩ _ (by decide)).mono ?_
  rintro e w_36 ⟨vx5, rfl, _, hb_36⟩
  replace ha4 := ha4.below hb_36 (Nat.le_refl _)
  replace hb := hb.trans (hb_36.mono hb.size)
  clear hb_36
  rw [r4]
  have a1 := lit1 w_36 24 (by decide)
  replace ha4 := ha4.alloc (.cells #[.int .u32 (24 : Int)] 26)
  replace hb := hb.alloc hb.size (.cells #[.int .u32 (24 : Int)] 26)
  go_wp2_with fail
  refine (root_rd 4 a1 (by simp) (by simp [val]) (by simp [val])).mono ?_
  rintro e w_37 ⟨v1, rfl, h1, hb_37⟩
  replace ha4 := ha4.below hb_37 (Nat.le_refl _)
  replace a1 := a1.below hb_37 (Nat.le_refl _)
  replace hb := hb.trans (hb_37.mono hb.size)
  clear hb_37
  rw [d12] at h1
  replace h1 := h1.rd
  clear a1
  have a1 := lit1 w_37 4 (by decide)
  replace ha4 := ha4.alloc (.cells #[.int .u32 (4 : Int)] 26)
  replace h1 := h1.alloc (.cells #[.int .u32 (4 : Int)] 26)
  replace hb := hb.alloc hb.size (.cells #[.int .u32 (4 : Int)] 26)
  go_wp2_with fail
  refine (is_any _ _ _ _ _ (by simp) (by simp) h1 a1).mono ?_
  rintro e w_38 ⟨rfl, hb_38⟩
  replace ha4 := ha4.below hb_38 (Nat.le_refl _)
  replace h1 := h1.below hb_38 (Nat.le_refl _)
  replace a1 := a1.below hb_38 (Nat.le_refl _)
  replace hb := hb.trans (hb_38.mono hb.size)
  clear hb_38
  clear h1
  clear a1
  rw [ist _ (show _ = _ by simp [strip])]
  have a1 := lit1 w_38 25 (by decide)
  replace ha4 := ha4.alloc (.cells #[.int .u32 (25 : Int)] 26)
  replace hb := hb.alloc hb.size (.cells #[.int .u32 (25 : Int)] 26)
  go_wp2_with fail
  refine (root_rd 5 a1 (by simp) (by simp [val]) (by simp [val])).mono ?_
  rintro e w_39 ⟨v1, rfl, h1, hb_39⟩
  replace ha4 := ha4.below hb_39 (Nat.le_refl _)
  replace a1 := a1.below hb_39 (Nat.le_refl _)
  replace hb := hb.trans (hb_39.mono hb.size)
  clear hb_39
  rw [d13] at h1
  replace h1 := h1.rd
  clear a1
  have a1 := lit1 w_39 5 (by decide)
  replace ha4 := ha4.alloc (.cells #[.int .u32 (5 : Int)] 26)
  replace h1 := h1.alloc (.cells #[.int .u32 (5 : Int)] 26)
  replace hb := hb.alloc hb.size (.cells #[.int .u32 (5 : Int)] 26)
  go_wp2_with fail
  refine (is_any _ _ _ _ _ (by simp) (by simp) h1 a1).mono ?_
  rintro e w_40 ⟨rfl, hb_40⟩
  replace ha4 := ha4.below hb_40 (Nat.le_refl _)
  replace h1 := h1.below hb_40 (Nat.le_refl _)
  replace a1 := a1.below hb_40 (Nat.le_refl _)
  replace hb := hb.trans (hb_40.mono hb.size)
  clear hb_40
  clear h1
  clear a1
  rw [ist _ (show _ = _ by simp [strip])]
  go_wp2_with fail
  refine (text_rd (Rd.nil _) (by simp) (htabs _ hb)).mono ?_
  rintro e w_41 ⟨rfl, hb_41⟩
  replace ha4 := ha4.below hb_41 (Nat.le_refl _)
  replace hb := hb.trans (hb_41.mono hb.size)
  clear hb_41
  rw [t0]
  have a1 := lit2 w_41 0 1 (by decide) (by decide)
  replace ha4 := ha4.alloc (.cells #[.int .u32 (0 : Int), .int .u32 (1 : Int)] 26)
  replace hb := hb.alloc hb.size (.cells #[.int .u32 (0 : Int), .int .u32 (1 : Int)] 26)
  go_wp2_with fail
  refine (is_any _ _ _ _ _ (by simp) (by simp) ha4 a1).mono ?_
  rintro e w_42 ⟨rfl, hb_42⟩
  replace ha4 := ha4.below hb_42 (Nat.le_refl _)
  replace a1 := a1.below hb_42 (Nat.le_refl _)
  replace hb := hb.trans (hb_42.mono hb.size)
  clear hb_42
  clear ha4
  clear a1
  rw [ist _ (show _ = _ by simp [strip])]
  go_wp2
  go_ret
  exact ⟨rfl, hb⟩
end Go.Proofs.YtdjfgpfeepbnaaaDoor
