/- The reference's Root, bit by bit. -/
import Derived.Test.YtdjfgpfeepbnaaaDoorD9
import Derived.Test.YtdjfgpfeepbnaaaDoorR8
import Derived.Test.YtdjfgpfeepbnaaaDoorR3
import Derived.Deep.LoopGhost
namespace Go.Proofs.YtdjfgpfeepbnaaaDoor
open Go.RowKit Dig

/-- A bit more of the root. -/
theorem root_bit {A R k : Nat} (h1 : R * R ≤ A) (h2 : A < (R + 1) * (R + 1)) :
    ((2 ^ (k + 1) * (R / 2 ^ (k + 1)) + 2 ^ k) * (2 ^ (k + 1) * (R / 2 ^ (k + 1)) + 2 ^ k) ≤ A → 2 ^ (k + 1) * (R / 2 ^ (k + 1)) + 2 ^ k = 2 ^ k * (R / 2 ^ k)) ∧
    (¬ (2 ^ (k + 1) * (R / 2 ^ (k + 1)) + 2 ^ k) * (2 ^ (k + 1) * (R / 2 ^ (k + 1)) + 2 ^ k) ≤ A → 2 ^ (k + 1) * (R / 2 ^ (k + 1)) = 2 ^ k * (R / 2 ^ k)) := by
  have hp : 0 < 2 ^ k := Nat.two_pow_pos k
  have e1 : R / 2 ^ (k + 1) = R / 2 ^ k / 2 := by rw [Nat.pow_succ, Nat.div_div_eq_div_mul]
  have hR := Nat.div_add_mod R (2 ^ k)
  have hm := Nat.mod_lt R hp
  rw [e1, Nat.pow_succ]
  generalize 2 ^ k = p at *
  generalize R / p = z at *
  generalize R % p = y at *
  have e2 : p * 2 * (z / 2) = p * (2 * (z / 2)) := Nat.mul_assoc ..
  rw [e2]
  have e3 : p * (2 * (z / 2)) + p = p * (2 * (z / 2) + 1) := by rw [Nat.mul_add, Nat.mul_one]
  rw [e3]
  have le_root : ∀ x, x * x ≤ A → x ≤ R := fun x hx => by
    rcases Nat.lt_or_ge R x with h | h
    · have := Nat.mul_le_mul h h
      simp only [Nat.succ_eq_add_one] at this
      omega
    · exact h
  constructor
  · intro h
    have h3 := le_root _ h
    have h4 : p * (2 * (z / 2) + 1) < p * (z + 1) := by rw [Nat.mul_add p z 1]; omega
    have h5 := Nat.lt_of_mul_lt_mul_left h4
    congr 1; omega
  · intro h
    have h3 : R < p * (2 * (z / 2) + 1) := by
      rcases Nat.lt_or_ge R (p * (2 * (z / 2) + 1)) with h6 | h6
      · exact h6
      · exact absurd (Nat.le_trans (Nat.mul_le_mul h6 h6) h1) h
    have h4 : p * z < p * (2 * (z / 2) + 1) := by omega
    have h5 := Nat.lt_of_mul_lt_mul_left h4
    congr 1; omega

theorem rbits_rd' {w : World} {va : Value} {xs : List Nat} (hx : Rd w va xs) (hxl : xs.length ≤ 100000000000) :
    Calls Tryd.prog 28 #[va] w fun e w' => e = .returned (.int .i64 ((bitsN (val xs) : Nat) : Int)) ∧ Below w.heap.size w w' := by
  obtain ⟨oa, ca, rfl, hca, okx, hcx⟩ := hx
  exact rbits_any oa ca xs w (by omega) hca okx hcx
theorem rshl_rd' {w : World} {va : Value} {xs : List Nat} (n : Nat) (hx : Rd w va xs) (hxl : xs.length ≤ 100000000000) (hn : n ≤ 8000000000000) :
    Calls Tryd.prog 52 #[va, .int .i64 (n : Int)] w fun e w' => ∃ v, e = .returned v ∧ Rd w' v (dig (val xs * 2 ^ n)) ∧ Below w.heap.size w w' := by
  obtain ⟨oa, ca, rfl, hca, okx, hcx⟩ := hx
  exact rshl_any oa ca n xs w (by omega) hca okx hcx hn
theorem radd_rd2 {w : World} {va vb : Value} {xs ys : List Nat} (hx : Rd w va xs) (hy : Rd w vb ys) (hxl : xs.length ≤ 100000000000) (hyl : ys.length ≤ 100000000000) :
    Calls Tryd.prog 31 #[va, vb] w fun e w' => ∃ v, e = .returned v ∧ Rd w' v (dig (val xs + val ys)) ∧ Below w.heap.size w w' := by
  obtain ⟨oa, ca, rfl, hca, okx, hcx⟩ := hx
  obtain ⟨ob, cb, rfl, hcb, oky, hcy⟩ := hy
  exact radd_any oa ob ca cb xs ys w (by omega) (by omega) okx oky hcx hcy
theorem rsub_rd2 {w : World} {va vb : Value} {xs ys : List Nat} (hx : Rd w va xs) (hy : Rd w vb ys) (hxl : xs.length ≤ 100000000000) (hyl : ys.length ≤ 100000000000) (hle : val ys ≤ val xs) :
    Calls Tryd.prog 32 #[va, vb] w fun e w' => ∃ v, e = .returned v ∧ Rd w' v (dig (val xs - val ys)) ∧ Below w.heap.size w w' := by
  obtain ⟨oa, ca, rfl, hca, okx, hcx⟩ := hx
  obtain ⟨ob, cb, rfl, hcb, oky, hcy⟩ := hy
  exact rsub_any oa ob ca cb xs ys w (by omega) (by omega) okx oky hcx hcy hle
theorem rcmp_rd2 {w : World} {va vb : Value} {xs ys : List Nat} (hx : Rd w va xs) (hy : Rd w vb ys) (hxl : xs.length ≤ 100000000000) (hyl : ys.length ≤ 100000000000) :
    Calls Tryd.prog 50 #[va, vb] w fun e w' => e = .returned (.int .i64 (cmpI (val xs) (val ys))) ∧ Below w.heap.size w w' := by
  obtain ⟨oa, ca, rfl, hca, okx, hcx⟩ := hx
  obtain ⟨ob, cb, rfl, hcb, oky, hcy⟩ := hy
  exact rcmp_any oa ob ca cb xs ys w (by omega) (by omega) hca hcb okx oky hcx hcy
theorem rmul_rd3 {w : World} {va vb : Value} {xs ys : List Nat} (hx : Rd w va xs) (hy : Rd w vb ys) (hxl : xs.length ≤ 100000000000) (hyl : ys.length ≤ 100000000000) :
    Calls Tryd.prog 26 #[va, vb] w fun e w' => ∃ v, e = .returned v ∧ Rd w' v (dig (val xs * val ys)) ∧ Below w.heap.size w w' := by
  obtain ⟨oa, ca, rfl, hca, okx, hcx⟩ := hx
  obtain ⟨ob, cb, rfl, hcb, oky, hcy⟩ := hy
  exact rmul_any oa ob ca cb xs ys w (by omega) (by omega) okx oky hcx hcy

theorem cmpI_le {m n : Nat} : cmpI m n ≤ 0 ↔ m ≤ n := by
  unfold cmpI
  by_cases h : m < n
  · rw [if_pos h]; omega
  · rw [if_neg h]
    by_cases h2 : m = n
    · rw [if_pos h2]; omega
    · rw [if_neg h2]; omega

theorem bitsN_bound {A l : Nat} (h : A < pw l) : bitsN A ≤ 32 * l := by
  rcases Nat.eq_zero_or_pos A with h0 | h0
  · rw [h0]; exact Nat.zero_le _
  · have h3 := bitsN_le (Nat.ne_of_gt h0)
    rw [pw_eq] at h
    have h4 := (Nat.pow_lt_pow_iff_right (by decide : 1 < 2)).1 (Nat.lt_of_le_of_lt h3 h)
    omega

set_option maxHeartbeats 1000000 in
theorem rroot_rd {w : World} {va : Value} {xs : List Nat} (R : Nat) (hx : Rd w va xs) (hxl : xs.length ≤ 10000000) (h1 : R * R ≤ val xs) (h2 : val xs < (R + 1) * (R + 1)) :
    Calls Tryd.prog 30 #[va] w fun e w' => ∃ v, e = .returned v ∧ Rd w' v (dig R) ∧ Below w.heap.size w w' := by
  have hbd := bitsN_lt (val xs)
  have hbl := bitsN_bound (val_lt hx.ok)
  obtain ⟨A, hA⟩ : ∃ A, val xs = A := ⟨_, rfl⟩
  rw [hA] at h1 h2 hbd hbl
  obtain ⟨b, hb'⟩ : ∃ b, bitsN A = b := ⟨_, rfl⟩
  rw [hb'] at hbd hbl
  have hhalf : ((b : Int) + 1) / 2 = (((b + 1) / 2 : Nat) : Int) := by omega
  have hRr := newton_first hbd h1
  obtain ⟨m, hm⟩ : ∃ m, (b + 1) / 2 = m := ⟨_, rfl⟩
  rw [hm] at hhalf hRr
  have hmb : m ≤ 200000000 := by omega
  have hbb : b ≤ 400000000 := by omega
  have hxs : ∀ k, k ≤ m → 2 ^ (k + 1) * (R / 2 ^ (k + 1)) + 2 ^ k < pw 10000000 := fun k hk => by
    have h3 : 2 ^ (k + 1) * (R / 2 ^ (k + 1)) ≤ R := Nat.mul_div_le ..
    have h4 : 2 ^ k ≤ 2 ^ m := Nat.pow_le_pow_right (by decide) hk
    obtain ⟨L, hL⟩ : ∃ L, 10000000 = L := ⟨_, rfl⟩
    rw [hL]
    have h5 : 2 ^ m + 2 ^ m ≤ pw L := by
      rw [pw_eq, ← Nat.two_mul, ← Nat.pow_succ']
      exact Nat.pow_le_pow_right (by decide) (by omega)
    omega
  have HXS := hide hxs
  have HA := hide hA
  have HB := hide hb'
  have H12 := hide (And.intro h1 h2)
  have hz : R / 2 ^ (m + 1) = 0 := Nat.div_eq_of_lt (Nat.lt_of_lt_of_le hRr (Nat.pow_le_pow_right (by decide) (by omega)))
  have HZ := hide hz
  have HHf := hide hhalf
  clear hxs hA hb' hhalf h1 h2 hbd hbl hRr hm hz
  go_enter Tryd.func30, Tryd.ntmps30
  have hb := Below.refl w.heap.size w
  go_wp2_with fail
  refine (rbits_rd' hx (by omega)).mono ?_
  rintro e w_1 ⟨rfl, hb_1⟩
  replace hx := hx.below hb_1 (Nat.le_refl _)
  replace hb := hb.trans (hb_1.mono hb.size)
  clear hb_1
  rw [HA.out, HB.out]
  go_wp2_with fail
  have hbW := hb
  go_loopg [3, 4] (m + 1) (fun kk s3 s4 wr => Rd wr s3 (dig (2 ^ kk * (R / 2 ^ kk))) ∧ s4 = .int .i64 ((kk : Int) - 1) ∧ Rd wr va xs ∧ kk ≤ m + 1 ∧ Below w.heap.size w wr)
  case atStart => exact ⟨by rw [HZ.out, Nat.mul_zero]; exact Rd.nil _, congrArg (fun z : Int => Value.int .i64 z) (by have := HHf.out; omega), hx, Nat.le_refl _, hb⟩
  case round =>
    clear hx hb hbW
    obtain ⟨ho, rfl, hx, hkk, hbW⟩ := hrel
    cases gk with
    | zero =>
      go_wp2_with fail
      go_ret
      refine ⟨_, rfl, ?_, hbW⟩
      simpa using ho
    | succ k =>
      rw [show (((k + 1 : Nat) : Int) - 1) = (k : Int) from by omega]
      have hbit := root_bit (k := k) H12.out.1 H12.out.2
      have hxb := HXS.out k (by omega)
      obtain ⟨O, hO⟩ : ∃ O, 2 ^ (k + 1) * (R / 2 ^ (k + 1)) = O := ⟨_, rfl⟩
      rw [hO] at hbit hxb ho
      obtain ⟨P, hP⟩ : ∃ P, 2 ^ k = P := ⟨_, rfl⟩
      have HP := hide hP
      rw [hP] at hbit hxb
      have l1 : (dig O).length ≤ 10000000 := dig_length_le (by omega)
      have l2 : (dig P).length ≤ 10000000 := dig_length_le (by omega)
      have l3 : (dig (O + P)).length ≤ 10000000 := dig_length_le hxb
      have l4 : (dig ((O + P) * (O + P))).length ≤ 20000000 := by
        refine dig_length_le ?_
        rw [show (20000000 : Nat) = 10000000 + 10000000 from rfl, pw_add]
        exact Nat.mul_lt_mul'' hxb hxb
      have HBT := hide hbit
      clear hbit hxb hP
      have hkm : k ≤ 8000000000000 := by omega
      have e1v : Hid (val [1] * 2 ^ k = P) := hide (by rw [HP.out]; simp [val])
      have hb := Below.refl wr.heap.size wr
      have h1 := lit1 wr 1 (by decide)
      replace hx := hx.alloc (.cells #[.int .u32 (1 : Int)] 26)
      replace ho := ho.alloc (.cells #[.int .u32 (1 : Int)] 26)
      replace hb := hb.alloc hb.size (.cells #[.int .u32 (1 : Int)] 26)
      go_wp2_with fail
      refine (rshl_rd' k h1 (by simp) hkm).mono ?_
      rintro e w_1 ⟨vs, rfl, hs, hb_1⟩
      replace hx := hx.below hb_1 (Nat.le_refl _)
      replace ho := ho.below hb_1 (Nat.le_refl _)
      replace h1 := h1.below hb_1 (Nat.le_refl _)
      replace hb := hb.trans (hb_1.mono hb.size)
      clear hb_1
      rw [e1v.out] at hs
      clear h1
      go_wp2_with fail
      refine (radd_rd2 ho hs (by omega) (by omega)).mono ?_
      rintro e w_2 ⟨vx, rfl, hxx, hb_2⟩
      replace hx := hx.below hb_2 (Nat.le_refl _)
      replace ho := ho.below hb_2 (Nat.le_refl _)
      replace hs := hs.below hb_2 (Nat.le_refl _)
      replace hb := hb.trans (hb_2.mono hb.size)
      clear hb_2
      rw [val_dig, val_dig] at hxx
      go_wp2_with fail
      refine (rmul_rd3 hxx hxx (by omega) (by omega)).mono ?_
      rintro e w_3 ⟨vm, rfl, hm, hb_3⟩
      replace hx := hx.below hb_3 (Nat.le_refl _)
      replace ho := ho.below hb_3 (Nat.le_refl _)
      replace hs := hs.below hb_3 (Nat.le_refl _)
      replace hxx := hxx.below hb_3 (Nat.le_refl _)
      replace hb := hb.trans (hb_3.mono hb.size)
      clear hb_3
      rw [val_dig] at hm
      go_wp2_with fail
      refine (rcmp_rd2 hm hx (by omega) (by omega)).mono ?_
      rintro e w_4 ⟨rfl, hb_4⟩
      replace hx := hx.below hb_4 (Nat.le_refl _)
      replace ho := ho.below hb_4 (Nat.le_refl _)
      replace hs := hs.below hb_4 (Nat.le_refl _)
      replace hxx := hxx.below hb_4 (Nat.le_refl _)
      replace hm := hm.below hb_4 (Nat.le_refl _)
      replace hb := hb.trans (hb_4.mono hb.size)
      clear hb_4
      rw [val_dig, HA.out]
      replace hbW := hbW.trans (hb.mono hbW.size)
      by_cases hle : (O + P) * (O + P) ≤ A
      · have hc : cmpI ((O + P) * (O + P)) A ≤ 0 := cmpI_le.2 hle
        have hnew := HBT.out.1 hle
        have HN := hide hnew
        generalize cmpI ((O + P) * (O + P)) A = c at *
        clear hle hnew hO
        go_wp2_with fail
        go_roundg k
        case rel =>
          rw [HN.out] at hxx
          rw [← HP.out] at hxx
          exact ⟨hxx, rfl, hx, by omega, hbW⟩
        case measure => omega
      · have hc : ¬ cmpI ((O + P) * (O + P)) A ≤ 0 := fun h => hle (cmpI_le.1 h)
        have hnew := HBT.out.2 hle
        have HN := hide hnew
        generalize cmpI ((O + P) * (O + P)) A = c at *
        clear hle hnew hO
        go_wp2_with fail
        go_roundg k
        case rel =>
          rw [HN.out] at ho
          rw [← HP.out] at ho
          exact ⟨ho, rfl, hx, by omega, hbW⟩
        case measure => omega
end Go.Proofs.YtdjfgpfeepbnaaaDoor
