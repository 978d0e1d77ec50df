/- strconv.FormatUint and AppendUint at base ten, where the library's table of powers of ten holds what the text lays. -/
import Derived.Test.YtabmffenbkdgkaaDoorW5ToP10
import Derived.Test.YtabmffenbkdgkaaDoorShelf
import Derived.Lib.Walk
import Derived.Lib.ItoaWalk
import Derived.Lib.ItoaMem
import Derived.Lib.AppendIntMem
import Derived.BigCall
import Derived.BigGuard
import Derived.Lib.ItoaNum
import Derived.Test.YtabmffenbkdgkaaDoorDigToW4

namespace Go.Proofs.YtabmffenbkdgkaaDoor
open Go.RowKit Dig Go.Sort Go.Lib

theorem bytes_under : Tryd.prog.underlying 78 = some (.slice 5) := Tryd.underlying78

set_option maxHeartbeats 3200000 in
set_option maxRecDepth 100000 in
/-- internal/strconv.FormatUint at base 10, from 100 on. -/
theorem formatUint_any (u : Nat) (hu : 100 ≤ u) (hu64 : u < 18446744073709551616) (w : World) (htab : Lib.TabIs Tryd.prog w p10 .u64 Lib.pow10Tab) :
    Calls Tryd.prog 108 #[.int .u64 (u : Int), .int .i64 10] w fun e w' => e = .returned (.string ⟨(Lib.decDigits u).toArray⟩) ∧ Below w.heap.size w w' := by
  have hu1 : 1 ≤ u := by omega
  have hnd20 : Lib.nDigits u ≤ 20 := by have := Lib.numDigits_eq u hu1 hu64; split at this <;> omega
  have hal : Tryd.prog.arrayLen 98 = 24 := by kernel_rfl
  have hel : Tryd.prog.elem 98 = 5 := by kernel_rfl
  have hsl : ∀ W, (Instr.sliceAt 98 (.pointer (some ⟨w.heap.size, 0, none⟩)) none (some (.int .i64 (Lib.nDigits u : Int))) none).run Tryd.prog W = .ok (.slice (some ⟨w.heap.size, 0, none⟩) (Lib.nDigits u) 24) W := fun W => by
    rw [run_sliceAt_array_h W 98 ⟨w.heap.size, 0, none⟩ (by rw [hal, hel]; exact Tryd.underlying98) .i64 (Lib.nDigits u : Int) (by omega) (by rw [hal]; omega)]
    rw [hal, hel]
    go_simp
  have hH0 := Lib.holds_zero0 w 98 (Lib.nDigits u) (by omega)
  have hfmt := Tryd.internal_strconv_formatBase10 w.heap.size 0 24 u (Array.replicate (Lib.nDigits u) 0) (w.alloc (.cells Lib.zeros24 98)) hH0 (by rw [Array.size_replicate]; exact Lib.lt_pow_nDigits u) hu64 (by rw [Array.size_replicate]; omega)
  rw [Array.size_replicate] at hfmt
  have HH0 := Lib.hid hH0
  have iu : (100 : Int) ≤ (u : Int) := by omega
  clear hH0 hal hel
  go_enter Tryd.func108, Tryd.ntmps108
  go_wp2_with (first
    | (go_at_call 114; refine (Tryd.internal_strconv_numDigits u hu1 hu64 _ (Lib.tabIs_alloc htab _)).mono ?_; rintro e w' ⟨rfl, rfl⟩))
  go_at_call 115
  refine hfmt.mono ?_
  rintro e w' ⟨rfl, k, v', dk, rfl, hF⟩
  have hcv : (convert 78 9 (.slice (some ⟨w.heap.size, 0, none⟩) (Lib.nDigits u) 24)).run Tryd.prog ((putRow (fun (b : UInt8) => Value.int .u8 (b.toNat : Int)) (w.alloc (.cells Lib.zeros24 98)) w.heap.size 0 dk).drewN k) = .ok (.string ⟨(Lib.decDigits u).toArray⟩) ((putRow (fun (b : UInt8) => Value.int .u8 (b.toNat : Int)) (w.alloc (.cells Lib.zeros24 98)) w.heap.size 0 dk).drewN k) := by
    have h := run_convert_bytes_back (P := Tryd.prog) ((putRow (fun (b : UInt8) => Value.int .u8 (b.toNat : Int)) (w.alloc (.cells Lib.zeros24 98)) w.heap.size 0 dk).drewN k) 78 9 5 ⟨w.heap.size, 0, none⟩ 24 (Lib.decDigits u) Tryd.underlying78 Tryd.underlying5 Tryd.underlying9 (fun j hj => by
      rw [Lib.row_is_numeral hF j hj, Lib.add_plain, World.cell?_drewN]
      exact cell?_putRow (fun (b : UInt8) => Value.int .u8 (b.toNat : Int)) _ w.heap.size 0 _ dk HH0.out (by rw [hF.size, Array.size_replicate]) j (by rw [hF.size]; rw [Lib.decDigits_length] at hj; exact hj))
    rw [Lib.decDigits_length] at h
    exact h
  go_wp2
  go_ret
  obtain ⟨os, eo⟩ := Lib.fin_at w (.cells Lib.zeros24 98) dk k 0
  exact ⟨rfl, by rw [eo]; exact Lib.below_grow _ w (Nat.le_refl _) k os⟩

set_option maxHeartbeats 400000 in
set_option maxRecDepth 20000 in
/-- strconv.FormatUint at base 10, from 100 on. -/
theorem publicFormatUint_any (u : Nat) (hu : 100 ≤ u) (hu64 : u < 18446744073709551616) (w : World) (htab : Lib.TabIs Tryd.prog w p10 .u64 Lib.pow10Tab) :
    Calls Tryd.prog 88 #[.int .u64 (u : Int), .int .i64 10] w fun e w' => e = .returned (.string ⟨(Lib.decDigits u).toArray⟩) ∧ Below w.heap.size w w' := by
  go_enter Tryd.func88, Tryd.ntmps88
  go_wp2_with fail
  refine (formatUint_any u hu hu64 _ htab).mono ?_
  rintro e w1 ⟨rfl, hb⟩
  go_wp2
  go_ret
  exact ⟨rfl, hb⟩

set_option maxHeartbeats 400000 in
set_option maxRecDepth 20000 in
/-- strconv.AppendUint at base 10. -/
theorem publicAppendUint_any (B n u : Nat) (hu64 : u < 18446744073709551616) (sv : Value) (xs : List Value) (w : World) (hown : w.ownsRow B 5 1 sv n xs) (hBw : B ≤ w.heap.size) (hlim : n + 20 ≤ 140737488355328) (htab : Lib.TabIs Tryd.prog w p10 .u64 Lib.pow10Tab) :
    Calls Tryd.prog 87 #[sv, .int .u64 (u : Int), .int .i64 10] w fun e w' => ∃ v', e = .returned v' ∧ w'.ownsRow B 5 1 v' (n + (Lib.decDigits u).length) (xs ++ Lib.byteCells (Lib.decDigits u)) ∧ Below B w w' := by
  have inner : Calls Tryd.prog 107 #[sv, .int .u64 (u : Int), .int .i64 10] w fun e w' => ∃ v', e = .returned v' ∧ w'.ownsRow B 5 1 v' (n + (Lib.decDigits u).length) (xs ++ Lib.byteCells (Lib.decDigits u)) ∧ Below B w w' := by
    by_cases h : u < 100
    · exact (Tryd.internal_strconv_AppendUint_10_small B n u h sv xs w hown hBw hlim).mono fun e w' ⟨v', h1, h2, h3, _⟩ => ⟨v', h1, h2, h3⟩
    · exact (Tryd.internal_strconv_AppendUint_10_big B n u (by omega) hu64 sv xs w hown hBw hlim htab).mono fun e w' ⟨v', h1, h2, h3, _⟩ => ⟨v', h1, h2, h3⟩
  go_enter Tryd.func87, Tryd.ntmps87
  go_wp2_with fail
  refine inner.mono ?_
  rintro e w1 ⟨v', rfl, hown1, hb⟩
  go_wp2
  go_ret
  exact ⟨v', rfl, hown1, hb⟩
end Go.Proofs.YtabmffenbkdgkaaDoor

/- Plain mathematics of decimal numerals by groups of nine. -/
namespace Go.Proofs.YtabmffenbkdgkaaDoor
open Go.Lib

/-- The value of groups by 10^9, the lowest first. -/
def gval : List Nat → Nat
  | [] => 0
  | g :: gs => g + 1000000000 * gval gs

theorem gval_append (gs hs : List Nat) : gval (gs ++ hs) = gval gs + 1000000000 ^ gs.length * gval hs := by
  induction gs with
  | nil => simp [gval]
  | cons g gs ih => simp only [List.cons_append, gval, ih, List.length_cons, Nat.pow_succ, Nat.mul_add]; rw [← Nat.mul_assoc, Nat.mul_comm 1000000000 (1000000000 ^ gs.length)]; omega

/-- k digits of g, with noughts ahead. -/
def pad : Nat → Nat → List UInt8
  | 0, _ => []
  | k + 1, g => pad k (g / 10) ++ [UInt8.ofNat (48 + g % 10)]

theorem pad_length (k g : Nat) : (pad k g).length = k := by
  induction k generalizing g with
  | zero => rfl
  | succ k ih => simp [pad, ih]

theorem decDigits_pad (k g M : Nat) (hM : 0 < M) (hg : g < 10 ^ k) : decDigits (g + 10 ^ k * M) = decDigits M ++ pad k g := by
  induction k generalizing g with
  | zero => simp at hg; subst hg; simp [pad]
  | succ k ih =>
    have hp : 0 < 10 ^ k := Nat.pow_pos (by decide)
    have hge : 10 ^ (k + 1) ≤ 10 ^ (k + 1) * M := Nat.le_mul_of_pos_right _ hM
    rw [Nat.pow_succ] at hg hge ⊢
    have h10 : ¬ g + 10 ^ k * 10 * M < 10 := by omega
    have e : 10 ^ k * 10 * M = 10 * (10 ^ k * M) := by rw [Nat.mul_comm (10 ^ k) 10, Nat.mul_assoc]
    rw [decDigits, dif_neg h10, e]
    have e1 : (g + 10 * (10 ^ k * M)) / 10 = g / 10 + 10 ^ k * M := by omega
    have e2 : (g + 10 * (10 ^ k * M)) % 10 = g % 10 := by omega
    rw [e1, e2, ih (g / 10) (by omega)]
    simp [pad]

theorem drop_one_pad (k g : Nat) (hg : g < 10 ^ k) : (decDigits (10 ^ k + g)).drop 1 = pad k g := by
  have h := decDigits_pad k g 1 (by decide) hg
  rw [Nat.mul_one, Nat.add_comm] at h
  rw [h, decDigits, dif_pos (by decide)]
  rfl

theorem group_step (g M : Nat) (hM : 0 < M) (hg : g < 1000000000) : decDigits (g + 1000000000 * M) = decDigits M ++ (decDigits (1000000000 + g)).drop 1 := by
  have h1 := decDigits_pad 9 g M hM (by simpa using hg)
  have h2 := drop_one_pad 9 g (by simpa using hg)
  have e : (10 : Nat) ^ 9 = 1000000000 := by decide
  rw [e] at h1 h2
  rw [h1, h2]

theorem group_length (g : Nat) (hg : g < 1000000000) : (decDigits (1000000000 + g)).length = 10 := by
  have h1 := decDigits_pad 9 g 1 (by decide) (by simpa using hg)
  have e : (10 : Nat) ^ 9 = 1000000000 := by decide
  rw [e, Nat.mul_one, Nat.add_comm] at h1
  rw [h1, List.length_append, pad_length, decDigits, dif_pos (by decide)]
  rfl

theorem decDigits_length_le (k u : Nat) (hk : 0 < k) (h : u < 10 ^ k) : (decDigits u).length ≤ k := by
  induction k generalizing u with
  | zero => omega
  | succ k ih =>
    rw [decDigits]
    split
    · simp
    · rename_i h10
      rw [Nat.pow_succ] at h
      have hk0 : 0 < k := by
        rcases Nat.eq_zero_or_pos k with hk0 | hk0
        · subst hk0; simp at h; omega
        · exact hk0
      have := ih (u / 10) hk0 (by omega)
      simp only [List.length_append, List.length_singleton]; omega

theorem gval_pos {gs : List Nat} {k : Nat} (hk : k < gs.length) (ht : gs[gs.length - 1]?.getD 0 ≠ 0) : 0 < gval (gs.drop k) := by
  induction gs generalizing k with
  | nil => simp at hk
  | cons g gs ih =>
    match k with
    | 0 =>
      simp only [List.drop_zero, gval]
      cases gs with
      | nil => simp at ht; simp [gval]; omega
      | cons h t =>
        have := ih (k := 0) (by simp) (by simpa using ht)
        simp only [List.drop_zero] at this
        omega
    | k + 1 =>
      have hne : gs ≠ [] := fun e => by subst e; simp at hk
      have hl : 0 < gs.length := List.length_pos_iff.2 hne
      refine ih (k := k) (by simpa using hk) ?_
      simp only [List.length_cons, Nat.add_sub_cancel] at ht
      have e : gs.length = gs.length - 1 + 1 := by omega
      rw [e, List.getElem?_cons_succ] at ht
      exact ht

theorem gval_drop {gs : List Nat} {k : Nat} (hk : k < gs.length) : gval (gs.drop k) = gs[k]?.getD 0 + 1000000000 * gval (gs.drop (k + 1)) := by
  rw [List.drop_eq_getElem_cons hk, List.getElem?_eq_getElem hk]; rfl

#print axioms group_step
end Go.Proofs.YtabmffenbkdgkaaDoor
